/- The program's world beside the document's. -/
import Derived.Test.YtccliallljcjgaaAwake
import Derived.Test.YtccliallljcjgaaSame
set_option linter.unusedVariables false
namespace Go.Proofs.Ytccliallljcjgaa
open Go.RowKit

structure Both (B N : Nat) (w : World) (g : AtG) (q : At5) (p : PW) : Prop where
  go : ∃ ts, Go5 B w g p ts
  lay : Lay5 B (SS5 q) w q p
  s1 : ∀ j, SS5 q j → N ≤ j
  s2 : ∀ j, GS g j ∨ Cel.Own g j → j < N
  sz : ∀ j, SS5 q j → g.Z j
  bn : B ≤ N
namespace Both
variable {B N : Nat} {w w' : World} {g : AtG} {q : At5} {p p' : PW}
theorem go_turn (h : Both B N w g q p) (hg : ∃ ts, Go5 B w' g p' ts) (hO : Only (GS g) w w') : Lay5 B (SS5 q) w' q p := by
  obtain ⟨ts, G⟩ := h.go
  exact h.lay.only hO fun j hj hs hgs => by
    rcases hs with hs | hs
    · have h1 := h.s1 j hs
      have h2 := h.s2 j (.inl hgs)
      omega
    · have := G.low j hgs
      omega
theorem ref_turn (h : Both B N w g q p) (hO : Only (SS5 q) w w') : ∃ ts, Go5 B w' g p ts := by
  obtain ⟨ts, G⟩ := h.go
  refine ⟨ts, G.kept hO.size fun j hj hs => hO.block j hj fun hss => ?_⟩
  have h1 := h.s1 j hss
  rcases hs with hs | hs | hs | hs
  · obtain ⟨cur, t, h2, h3⟩ := hs
    have hz := h.sz j hss
    have htag : ∃ cb tb, w.heap[j]? = some (.cells cb tb (0, 0)) ∧ (tb = 31 ∨ tb = 46 ∨ tb = 3) := by
      rcases hss with rfl | rfl | rfl | rfl | rfl
      · exact ⟨_, _, h.lay.obj, .inl rfl⟩
      · obtain ⟨c, hc, _⟩ := h.lay.tr
        exact ⟨_, _, hc, .inr (.inl rfl)⟩
      · exact ⟨_, _, h.lay.c.2.1, .inr (.inr rfl)⟩
      · exact ⟨_, _, h.lay.x.2.1, .inr (.inr rfl)⟩
      · exact ⟨_, _, h.lay.h.2.1, .inr (.inr rfl)⟩
    obtain ⟨cb, tb, h4, h5⟩ := htag
    rw [h4] at h2
    injection h2 with h2
    injection h2 with _ h2
    subst h2
    rcases h3 with h3 | h3 | h3 | ⟨_, h3⟩
    · subst h3; rcases h5 with h5 | h5 | h5 <;> exact absurd h5 (by decide)
    · subst h3; rcases h5 with h5 | h5 | h5 <;> exact absurd h5 (by decide)
    · subst h3; rcases h5 with h5 | h5 | h5 <;> exact absurd h5 (by decide)
    · exact h3 hz
  · have := h.bn
    omega
  · have := h.s2 j (.inr hs)
    omega
  · have := h.s2 j (.inl hs)
    omega
theorem ss_lt (h : Both B N w g q p) : ∀ j, SS5 q j → j < w.heap.size := by
  intro j hj
  rcases hj with rfl | rfl | rfl | rfl | rfl
  · exact heap_lt h.lay.obj
  · obtain ⟨c, hc, _⟩ := h.lay.tr
    exact heap_lt hc
  · exact heap_lt h.lay.c.2.1
  · exact heap_lt h.lay.x.2.1
  · exact heap_lt h.lay.h.2.1
theorem kept (h : Both B N w g q p) (k : Below w.heap.size w w') : Both B N w' g q p := by
  obtain ⟨ts, G⟩ := h.go
  exact ⟨⟨ts, G.below k⟩, h.lay.below k, h.s1, h.s2, h.sz, h.bn⟩
/-- The program turns, and then the document's world. -/
theorem turn {w2 : World} (h : Both B N w g q p) (hg : ∃ ts, Go5 B w' g p' ts) (hO : Only (GS g) w w') (hl : Lay5 B (SS5 q) w2 q p') (hO2 : Only (SS5 q) w' w2) : Both B N w2 g q p' := by
  have hmid : Both B N w' g q p → True := fun _ => trivial
  obtain ⟨ts, G⟩ := hg
  -- the program's world at p' beside the document's at p: what keeps them apart is the same
  have hL := h.go_turn ⟨ts, G⟩ hO
  have htag : ∀ j, SS5 q j → ∃ cb tb, w'.heap[j]? = some (.cells cb tb (0, 0)) ∧ (tb = 31 ∨ tb = 46 ∨ tb = 3) := by
    intro j hss
    rcases hss with rfl | rfl | rfl | rfl | rfl
    · exact ⟨_, _, hL.obj, .inl rfl⟩
    · obtain ⟨c, hc, _⟩ := hL.tr
      exact ⟨_, _, hc, .inr (.inl rfl)⟩
    · exact ⟨_, _, hL.c.2.1, .inr (.inr rfl)⟩
    · exact ⟨_, _, hL.x.2.1, .inr (.inr rfl)⟩
    · exact ⟨_, _, hL.h.2.1, .inr (.inr rfl)⟩
  refine ⟨⟨ts, G.kept hO2.size fun j hj hs => hO2.block j hj fun hss => ?_⟩, hl, h.s1, h.s2, h.sz, h.bn⟩
  have h1 := h.s1 j hss
  rcases hs with hs | hs | hs | hs
  · obtain ⟨cur, t, h2, h3⟩ := hs
    have hz := h.sz j hss
    obtain ⟨cb, tb, h4, h5⟩ := htag j hss
    rw [h4] at h2
    injection h2 with h2
    injection h2 with _ h2
    subst h2
    rcases h3 with h3 | h3 | h3 | ⟨_, h3⟩
    · subst h3; rcases h5 with h5 | h5 | h5 <;> exact absurd h5 (by decide)
    · subst h3; rcases h5 with h5 | h5 | h5 <;> exact absurd h5 (by decide)
    · subst h3; rcases h5 with h5 | h5 | h5 <;> exact absurd h5 (by decide)
    · exact h3 hz
  · have := h.bn
    omega
  · have := h.s2 j (.inr hs)
    omega
  · have := h.s2 j (.inl hs)
    omega
end Both
/-- Both are begun. -/
theorem both_mk {B N : Nat} {w3 w : World} {g : AtG} {q : At5} {p : PW} {ts : List (Option TS)} (h3 : Go5 B w3 g p ts) (hN : N = w3.heap.size) (hZ : ∀ j, g.Z j → j = g.K) (hb : Below w3.heap.size w3 w) (hl : Lay5 B (SS5 q) w q p) (h1 : ∀ j, SS5 q j → N ≤ j) :
    ∃ g', g'.W = g.W ∧ g'.s = g.s ∧ Both B N w g' q p := by
  have G := h3.below hb
  have hlt : ∀ j, SS5 q j → j < w.heap.size := by
    intro j hj
    rcases hj with rfl | rfl | rfl | rfl | rfl
    · exact heap_lt hl.obj
    · obtain ⟨c, hc, _⟩ := hl.tr
      exact heap_lt hc
    · exact heap_lt hl.c.2.1
    · exact heap_lt hl.x.2.1
    · exact heap_lt hl.h.2.1
  refine ⟨{ g with Z := fun j => g.Z j ∨ SS5 q j }, rfl, rfl, ⟨ts, ⟨G.cel.obj, G.cel.cr, G.cel.mr, G.cel.kr, G.cel.ce, G.cel.mu, G.cel.ci, G.cel.mi, G.cel.lc, G.cel.lx, G.cel.lh, G.cel.lk⟩, G.sch, G.len, fun i t y ht hy => ?_, G.hl, G.low, G.ks, fun j hj => ?_, .inl G.zk, G.s0, G.kl⟩, hl, h1, fun j hj => ?_, fun j hj => .inr hj, ?_⟩
  · refine (G.tk i t y ht hy).turn rfl rfl (Nat.le_refl _) (fun _ _ _ => rfl) (fun b v hv hn hz => ?_)
    rcases hz with hz | hz
    · exact hn hz
    · rcases hz with rfl | rfl | rfl | rfl | rfl
      · rw [hl.obj] at hv; simp at hv
      · obtain ⟨c, hc, _⟩ := hl.tr
        rw [hc] at hv; simp at hv
      · rw [hl.c.2.1] at hv
        injection hv with hv
        injection hv with hv _
        have := hl.c.1
        have h4 := congrArg Array.size hv
        simp at h4
        omega
      · rw [hl.x.2.1] at hv
        injection hv with hv
        injection hv with hv _
        have := hl.x.1
        have h4 := congrArg Array.size hv
        simp at h4
        omega
      · rw [hl.h.2.1] at hv
        injection hv with hv
        injection hv with hv _
        have := hl.h.1
        have h4 := congrArg Array.size hv
        simp at h4
        omega
  · rcases hj with hj | hj
    · exact G.z j hj
    · exact hlt j hj
  · rw [hN]
    rcases hj with hj | hj
    · exact h3.gs_lt hj
    · exact h3.cel.lt hj
  · rw [hN]
    exact h3.size
theorem pick_steps (p : PW) (n : Int) : (p.pick n).1.steps ≤ p.steps + 1 ∧ (p.pick n).1.ts.length = p.ts.length ∧ -1 ≤ (p.pick n).2 := by
  unfold PW.pick
  simp only
  split
  · exact ⟨by simp only; omega, rfl, by simp⟩
  · refine ⟨by unfold PW.step; simp, by unfold PW.step; simp, by simp only; omega⟩
/-- A slice of numbers that came in. -/
def Nums (w : World) (a : Option Addr) (n : Nat) (zs : List Int) : Prop := n = zs.length ∧ ∃ b off, (n = 0 ∨ a = some ⟨b, off, none⟩) ∧ ∀ i, i < n → b < w.heap.size ∧ w.cell? ⟨b, off + i, none⟩ = some (.int .i64 (zs.getD i 0))
theorem nums_of {w : World} {x : Addr} {len cap : Nat} {zs : List Int} (hl : len ≤ cap) (hz : zs.length = cap) (hcell : ∀ i, i < zs.length → w.cell? (x.add i) = some (.int .i64 (zs.getD i 0))) : Nums w (some x) len (zs.take len) := by
  refine ⟨by rw [List.length_take]; omega, ?_⟩
  by_cases h0 : len = 0
  · subst h0
    exact ⟨0, 0, .inl rfl, fun k hk => absurd hk (Nat.not_lt_zero _)⟩
  · obtain ⟨b, off, spot⟩ := x
    have hspot : spot = none := by simpa [Addr.add] using World.cell?_spot (hcell 0 (by omega))
    subst hspot
    refine ⟨b, off, .inr rfl, fun k hk => ?_⟩
    have h1 := hcell k (by omega)
    rw [addr_add] at h1
    rw [take_get zs 0 len k hk]
    exact ⟨cell_block h1, h1⟩
end Go.Proofs.Ytccliallljcjgaa
