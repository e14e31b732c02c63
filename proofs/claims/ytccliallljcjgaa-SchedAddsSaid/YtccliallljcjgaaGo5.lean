/- The program's world as a whole, and a step of it. -/
import Derived.Test.YtccliallljcjgaaClo
set_option linter.unusedVariables false
namespace Go.Proofs.Ytccliallljcjgaa
open Go.RowKit

/-- What stands in a slot for a task. -/
def TaskAt (w : World) (g : AtG) (B : Nat) (q : TK) (y : Option TS) : Prop :=
  ((q.gone = true ∨ q.l.length ≤ q.at_) ∧ y = none) ∨ (q.gone = false ∧ ∃ x, y = some x ∧ CloAt w g B x.f q.a q.cap q.l q.at_ ∧ x.m = mutA g (q.l.getD q.at_ default))
/-- The blocks that the program's steps write. -/
def GS (g : AtG) (j : Nat) : Prop := CS g j ∨ j = g.s ∨ j = g.t ∨ g.KS j
structure Go5 (B : Nat) (w : World) (g : AtG) (p : PW) (ts : List (Option TS)) : Prop where
  cel : Cel w g p.ts.length p.cells p.sets p.held (p.ts.map (·.known))
  sch : Sch w g.s g.t ts p.steps
  len : ts.length = p.ts.length
  tk : ∀ (i : Nat) (q : TK) (y : Option TS), p.ts[i]? = some q → ts[i]? = some y → TaskAt w g B q y
  hl : ∀ z ∈ p.held, -1 ≤ z
  low : ∀ j, GS g j → B ≤ j
  ks : ∀ (i : Nat) x, ts[i]? = some (some x) → g.KS x.k
  z : ∀ j, g.Z j → j < w.heap.size
  zk : g.Z g.K
  s0 : 0 ≤ p.steps
  kl : ∀ j, g.KS j → j < w.heap.size
theorem TaskAt.kept {w w' : World} {g : AtG} {B : Nat} {q : TK} {y : Option TS} (h : TaskAt w g B q y) (hs : w.heap.size ≤ w'.heap.size)
    (hk : ∀ j, j < w.heap.size → (Fix w g j ∨ j < B) → w'.heap[j]? = w.heap[j]?) : TaskAt w' g B q y := by
  rcases h with h | ⟨h0, x, hx, hc, hm⟩
  · exact .inl h
  · exact .inr ⟨h0, x, hx, hc.kept hs hk, hm⟩
theorem getD_of {α : Type} {l : List α} {i : Nat} {x : α} (h : l[i]? = some x) (d : α) : l.getD i d = x := by
  rw [List.getD_eq_getElem?_getD, h]; rfl
theorem fix_tag {w : World} {g : AtG} {j b : Nat} {cb : Array Value} {tb : TypeId} (h : Fix w g j) (hb : w.heap[b]? = some (.cells cb tb (0, 0))) (ht : tb ≠ 25 ∧ tb ≠ 73 ∧ tb ≠ 44 ∧ tb ≠ 3) : j ≠ b := by
  obtain ⟨cur, t, h1, h2⟩ := h
  refine tag_ne h1 hb ?_
  rintro rfl
  rcases h2 with h2 | h2 | h2 | h2
  · exact ht.1 h2
  · exact ht.2.1 h2
  · exact ht.2.2.1 h2
  · exact ht.2.2.2 h2.1

namespace Go5
variable {B : Nat} {w w' : World} {g : AtG} {p : PW} {ts : List (Option TS)}
/-- Another's writing leaves it be. -/
theorem kept (h : Go5 B w g p ts) (hs : w.heap.size ≤ w'.heap.size) (hk : ∀ j, j < w.heap.size → (Fix w g j ∨ j < B ∨ Cel.Own g j ∨ GS g j) → w'.heap[j]? = w.heap[j]?) : Go5 B w' g p ts :=
  ⟨h.cel.kept fun j hj => hk j (h.cel.lt hj) (.inr (.inr (.inl hj))), h.sch.kept fun j hj => hk j (h.sch.lt hj) (.inr (.inr (.inr (by
      rcases hj with rfl | rfl | ⟨i, x, hx, rfl⟩
      · exact .inr (.inl rfl)
      · exact .inr (.inr (.inl rfl))
      · exact .inr (.inr (.inr (h.ks i x hx))))))),
    h.len, fun i q y hq hy => (h.tk i q y hq hy).kept hs fun j hj hf => hk j hj (hf.elim .inl fun x => .inr (.inl x)), h.hl, h.low, h.ks, fun j hj => Nat.lt_of_lt_of_le (h.z j hj) hs, h.zk, h.s0, fun j hj => Nat.lt_of_lt_of_le (h.kl j hj) hs⟩
theorem below (h : Go5 B w g p ts) (k : Below w.heap.size w w') : Go5 B w' g p ts := h.kept k.size fun j hj _ => k.block j hj
theorem size (h : Go5 B w g p ts) : B ≤ w.heap.size := by
  have h1 := h.low g.K (.inl (.inl rfl))
  have h2 := h.cel.lt (.inr (.inr (.inr (.inl rfl))))
  omega
/-- Whether a task may do its next step. -/
theorem rdy (h : Go5 B w g p ts) (i : Nat) (y : Option TS) (hy : ts[i]? = some y) : Rdy w y (p.ready i) := by
  have hi : i < p.ts.length := by rw [← h.len]; exact lt_of_get hy
  have hq := List.getElem?_eq_getElem hi
  have hd : p.ts.getD i default = p.ts[i] := getD_of hq _
  have ht := h.tk i _ y hq hy
  unfold PW.ready
  rw [hd]
  generalize p.ts[i] = q at ht
  rcases ht with ⟨h1, rfl⟩ | ⟨h0, x, rfl, hc, hm⟩
  · simp only [if_pos h1]
    rfl
  · obtain ⟨pw, px, pl, pa, hf, c1, c2, c3, c4, c5, c6, c7⟩ := hc
    have hxo : (q.l.getD q.at_ default).Ok := by
      rw [List.getD_eq_getElem?_getD, List.getElem?_eq_getElem c7]
      exact c6.2.2.1 _ (List.getElem_mem c7)
    simp only
    rw [if_neg (by rw [h0]; simp; omega)]
    generalize q.l.getD q.at_ default = x0 at *
    unfold mutA at hm
    by_cases hmu : x0.mutex = 0
    · rw [if_pos hmu] at hm ⊢
      exact .inl ⟨hm, rfl⟩
    · rw [if_neg hmu] at hm ⊢
      have h4 : x0.mutex - 1 < 4 := by have := hxo.m; omega
      have hv := h.cel.m0 h4
      refine .inr ⟨_, _, hm, hv, ?_⟩
      have hge : -1 ≤ p.held.getD (x0.mutex - 1) 0 := by
        have hlt : x0.mutex - 1 < p.held.length := by rw [h.cel.lh]; exact h4
        rw [List.getD_eq_getElem?_getD, List.getElem?_eq_getElem hlt]
        exact h.hl _ (List.getElem_mem hlt)
      clear hv
      generalize p.held.getD (x0.mutex - 1) 0 = v at *
      rw [Bool.eq_iff_iff]
      simp
      omega
end Go5
/-- The world of plain words behind a step, its parts. -/
theorem step_parts (p : PW) (i : Nat) (q : TK) (hq : p.ts[i]? = some q) (x : INS) (hx : q.l.getD q.at_ default = x) :
    p.step i = ⟨p.ts.set i { q with at_ := q.at_ + 1, known := (doI x (p.cells.getD x.cell 0) (p.sets.getD x.cell 0) q.known).2.2 }, p.cells.set x.cell (doI x (p.cells.getD x.cell 0) (p.sets.getD x.cell 0) q.known).1, p.sets.set x.cell (doI x (p.cells.getD x.cell 0) (p.sets.getD x.cell 0) q.known).2.1,
      freed x i (if 0 < x.mutex then p.held.set (x.mutex - 1) (i : Int) else p.held), p.steps + 1⟩ := by
  unfold PW.step freed
  simp only [getD_of hq, hx]
theorem freed_ge {x : INS} {i : Nat} {H : List Int} (h : ∀ z ∈ H, -1 ≤ z) : ∀ z ∈ freed x i H, -1 ≤ z := by
  unfold freed
  split
  · intro z hz
    rcases List.mem_or_eq_of_mem_set hz with hz | rfl
    · exact h z hz
    · omega
  · exact h

theorem go_Step {B : Nat} {w : World} {g : AtG} {p : PW} {ts : List (Option TS)} (h : Go5 B w g p ts) (i : Nat) (hi : i < p.ts.length) (hr : p.ready i = true) (hs : p.steps < 4611686018427387904) :
    Calls Try.prog 16 #[.pointer (some ⟨g.s, 0, none⟩), .int .i64 (i : Int)] w fun e w' => e = .returned (.int .i64 0) ∧ (∃ ts', Go5 B w' g (p.step i) ts') ∧ Only (GS g) w w' := by
  have hn16 : p.ts.length ≤ 16 := by rw [← h.len]; exact h.sch.few
  obtain ⟨y, hy⟩ : ∃ y, ts[i]? = some y := ⟨_, List.getElem?_eq_getElem (by rw [h.len]; exact hi)⟩
  obtain ⟨q, hq⟩ : ∃ q, p.ts[i]? = some q := ⟨_, List.getElem?_eq_getElem hi⟩
  have hrd := h.rdy i y hy
  rw [hr] at hrd
  rcases h.tk i q y hq hy with ⟨_, rfl⟩ | ⟨h0, x, rfl, hc, hm⟩
  · cases hrd
  obtain ⟨x0, hx0⟩ : ∃ x0, q.l.getD q.at_ default = x0 := ⟨_, rfl⟩
  rw [hx0] at hm
  obtain ⟨pw, px, pl, pa, hf, c1, c2, c3, c4, c5, c6, c7⟩ := hc
  have hxo : x0.Ok := by
    rw [← hx0, List.getD_eq_getElem?_getD, List.getElem?_eq_getElem c7]
    exact c6.2.2.1 _ (List.getElem_mem c7)
  have hc : CloAt w g B x.f q.a q.cap q.l q.at_ := ⟨pw, px, pl, pa, hf, c1, c2, c3, c4, c5, c6, c7⟩
  obtain ⟨c, hF⟩ : ∃ c, x.f = .func (.func 45) #[] c := ⟨_, hf⟩
  have hkn : (p.ts.map (·.known)).getD i 0 = q.known := getD_of (by rw [List.getElem?_map, hq]; rfl) _
  have hm4 : x0.mutex ≠ 0 → x0.mutex - 1 < 4 := fun _ => by have := hxo.m; omega
  have hma : ∀ a, x.m = some a → x0.mutex ≠ 0 ∧ a = ⟨g.m (x0.mutex - 1), 0, none⟩ := by
    intro a ha
    rw [hm] at ha
    unfold mutA at ha
    by_cases hmu : x0.mutex = 0
    · rw [if_pos hmu] at ha; cases ha
    · rw [if_neg hmu] at ha
      injection ha with ha
      exact ⟨hmu, ha.symm⟩
  have hparts := step_parts p i q hq x0 hx0
  obtain ⟨h1, hh1⟩ : ∃ h1, h1 = (if 0 < x0.mutex then p.held.set (x0.mutex - 1) (i : Int) else p.held) := ⟨_, rfl⟩
  rw [← hh1] at hparts
  have hl1 : ∀ z ∈ h1, -1 ≤ z := by
    rw [hh1]
    split
    · intro z hz
      rcases List.mem_or_eq_of_mem_set hz with hz | rfl
      · exact h.hl z hz
      · omega
    · exact h.hl
  have hcsS : ∀ j, CS g j → j ≠ g.s ∧ j ≠ g.t ∧ ∀ (i : Nat) (x : TS), ts[i]? = some (some x) → j ≠ x.k := fun j hj =>
    ⟨h.cel.cs_ne hj h.sch.obj (by decide), h.cel.cs_ne hj h.sch.row (by decide), fun i x hx => h.cel.cs_ne hj (h.sch.task i x hx) (by decide)⟩
  have keepS : ∀ w2, Only (CS g) w w2 → Sch w2 g.s g.t ts p.steps := fun w2 hO => h.sch.kept fun j hj => hO.block j (h.sch.lt hj) (by
    intro hcs
    obtain ⟨n1, n2, n3⟩ := hcsS j hcs
    rcases hj with rfl | rfl | ⟨i, x, hx, rfl⟩
    · exact n1 rfl
    · exact n2 rfl
    · exact n3 i x hx rfl)
  generalize hr1 : (doI x0 (p.cells.getD x0.cell 0) (p.sets.getD x0.cell 0) q.known) = r at hparts
  refine (step_does h.sch hy hrd (fun a ha => by obtain ⟨e1, rfl⟩ := hma a ha; exact h.cel.fm (hm4 e1) 0) hF (enters_of Try.func45 (by kernel_rfl) rfl)
    (fun f m w2 => NextOf w2 g B q.a q.cap q.l (q.at_ + 1) f m ∧ Cel w2 g p.ts.length (p.cells.set x0.cell r.1) (p.sets.set x0.cell r.2.1) (freed x0 i h1) ((p.ts.map (·.known)).set i r.2.2) ∧ Only (CS g) w w2 ∧ Sch w2 g.s g.t ts p.steps) ?_).mono ?_
  · intro w1 hw1
    have hw : Cel w1 g p.ts.length p.cells p.sets h1 (p.ts.map (·.known)) ∧ Only (CS g) w w1 := by
      rcases hw1 with ⟨e, rfl⟩ | ⟨a, e, rfl⟩
      · have hmu : ¬ 0 < x0.mutex := by
          intro hpos
          rw [hm] at e
          unfold mutA at e
          rw [if_neg (by omega)] at e
          cases e
        rw [if_neg hmu] at hh1
        rw [hh1]
        exact ⟨h.cel, Only.refl _ _⟩
      · obtain ⟨e1, rfl⟩ := hma a e
        rw [if_pos (by omega)] at hh1
        rw [hh1]
        exact ⟨h.cel.setM (hm4 e1) _, (Only.refl _ w).setCell (p := ⟨g.m (x0.mutex - 1), 0, none⟩) (.inl (.inr (.inr ⟨_, hm4 e1, rfl⟩))) _⟩
    obtain ⟨hC1, hO1⟩ := hw
    have hcl1 : CloAt w1 g B x.f q.a q.cap q.l q.at_ := hc.kept hO1.size fun j hj hfx => hO1.block j hj (by
      rcases hfx with hfx | hfx
      · exact h.cel.fix_not h.zk hfx
      · intro hcs
        have := h.low j (.inl hcs)
        omega)
    obtain ⟨c', hF', hcall⟩ := law_clo hC1 (fun j hj => Nat.lt_of_lt_of_le (h.z j hj) hO1.size) h.zk hcl1 (fun j hj => h.low j (.inl hj)) i hi hn16 x0 hx0
    have hcc : c' = c := by
      rw [hF] at hF'
      injection hF' with _ _ e
      exact e.symm
    subst hcc
    refine hcall.mono ?_
    rintro e w2 ⟨f', m', he, hN, hC, hO⟩
    rw [hkn, hr1] at hC
    have hO2 := hO1.trans hO
    refine ⟨f', m', he, ?_, keepS w2 hO2, hN, hC, hO2, keepS w2 hO2⟩
    rcases hN with ⟨_, e, _⟩ | ⟨⟨_, _, _, _, e, _⟩, _⟩
    · exact .inl e
    · exact .inr ⟨45, _, e⟩
  · rintro e w' ⟨he, f, m, w2, ⟨hN, hC2, hO2, hS2⟩, hNx, hO, hS⟩
    have hxk := h.ks i x hy
    have htag : ∀ j, (j = g.s ∨ j = g.t ∨ j = x.k) → ∃ cb tb, w2.heap[j]? = some (.cells cb tb (0, 0)) ∧ (tb = 81 ∨ tb = 78 ∨ tb = 60) := by
      intro j hj
      rcases hj with rfl | rfl | rfl
      · exact ⟨_, _, hS2.obj, .inl rfl⟩
      · exact ⟨_, _, hS2.row, .inr (.inl rfl)⟩
      · exact ⟨_, _, hS2.task i x hy, .inr (.inr rfl)⟩
    have hlowS : ∀ j, (j = g.s ∨ j = g.t ∨ j = x.k) → B ≤ j := by
      intro j hj
      rcases hj with rfl | rfl | rfl
      · exact h.low _ (.inr (.inl rfl))
      · exact h.low _ (.inr (.inr (.inl rfl)))
      · exact h.low _ (.inr (.inr (.inr hxk)))
    have same2 : ∀ j, j < w2.heap.size → (Fix w2 g j ∨ j < B) → w'.heap[j]? = w2.heap[j]? := by
      intro j hj hf
      refine hO.block j hj fun hjs => ?_
      rcases hf with hf | hf
      · obtain ⟨cb, tb, t1, t2⟩ := htag j hjs
        refine fix_tag hf t1 ?_ rfl
        rcases t2 with rfl | rfl | rfl <;> decide
      · have := hlowS j hjs
        omega
    have same : ∀ j, j < w.heap.size → (Fix w g j ∨ j < B) → w'.heap[j]? = w.heap[j]? := by
      intro j hj hf
      have e1 : w2.heap[j]? = w.heap[j]? := hO2.block j hj (by
        rcases hf with hf | hf
        · exact h.cel.fix_not h.zk hf
        · intro hcs
          have := h.low j (.inl hcs)
          omega)
      have hf2 : Fix w2 g j ∨ j < B := by
        rcases hf with ⟨cur, t, f1, f2⟩ | hf
        · exact .inl ⟨cur, t, e1.trans f1, f2⟩
        · exact .inr hf
      exact (same2 j (Nat.lt_of_lt_of_le hj hO2.size) hf2).trans e1
    have hsz : w.heap.size ≤ w'.heap.size := Nat.le_trans hO2.size hO.size
    have hOnly : Only (GS g) w w' := (hO2.mono fun k _ hk => .inl hk).trans (hO.mono fun k _ hk => by
      rcases hk with rfl | rfl | rfl
      · exact .inr (.inl rfl)
      · exact .inr (.inr (.inl rfl))
      · exact .inr (.inr (.inr hxk)))
    refine ⟨he, ⟨ts.set i (nextT x.k f m), ?_⟩, hOnly⟩
    rw [hparts]
    have hC' : Cel w' g p.ts.length (p.cells.set x0.cell r.1) (p.sets.set x0.cell r.2.1) (freed x0 i h1) ((p.ts.map (·.known)).set i r.2.2) := hC2.kept fun j hj => hO.block j (hC2.lt hj) fun hjs => by
      obtain ⟨cb, tb, t1, t2⟩ := htag j hjs
      refine hC2.own_ne hj t1 ?_ rfl
      rcases t2 with rfl | rfl | rfl <;> decide
    refine ⟨?_, ?_, ?_, ?_, freed_ge hl1, h.low, ?_, fun j hj => Nat.lt_of_lt_of_le (h.z j hj) hsz, h.zk, by have := h.s0; simp only; omega, fun j hj => Nat.lt_of_lt_of_le (h.kl j hj) hsz⟩
    · simp only [List.length_set, List.map_set]
      exact hC'
    · have e1 : wrap64 (p.steps + 1) = p.steps + 1 := by rw [wrap_64, IntKind.wrap_i64]; have := h.s0; omega
      rw [e1] at hS
      exact hS
    · simp only [List.length_set]
      exact h.len
    · intro j q' y' hq' hy'
      simp only at hq'
      rw [List.getElem?_set] at hq' hy'
      by_cases e : i = j
      · rw [if_pos e, if_pos (by omega)] at hq'
        rw [if_pos e, if_pos (by rw [h.len]; omega)] at hy'
        injection hq' with hq'
        injection hy' with hy'
        subst hq'
        subst hy'
        rcases hN with ⟨n1, rfl, n3⟩ | ⟨n1, n2⟩
        · exact .inl ⟨.inr n1, rfl⟩
        · refine .inr ⟨h0, ⟨x.k, f, m⟩, ?_, n1.kept hO.size same2, n2⟩
          obtain ⟨_, _, _, _, rfl, _⟩ := n1
          rfl
      · rw [if_neg e] at hq' hy'
        exact (h.tk j q' y' hq' hy').kept hsz same
    · intro j x' hx'
      rw [List.getElem?_set] at hx'
      by_cases e : i = j
      · rw [if_pos e, if_pos (by rw [h.len]; omega)] at hx'
        injection hx' with hx'
        rcases hNx with rfl | ⟨F, d, rfl⟩
        · cases hx'
        · injection hx' with hx'
          subst hx'
          exact hxk
      · rw [if_neg e] at hx'
        exact h.ks j x' hx'
theorem Go5.gs_lt {B : Nat} {w : World} {g : AtG} {p : PW} {ts : List (Option TS)} (h : Go5 B w g p ts) {j : Nat} (hj : GS g j) : j < w.heap.size := by
  rcases hj with hj | rfl | rfl | hj
  · exact h.cel.lt (.inr (.inr (.inr hj)))
  · exact h.sch.lt (.inl rfl)
  · exact h.sch.lt (.inr (.inl rfl))
  · exact h.kl j hj
theorem only_below {S : Nat → Prop} {w w' : World} (h : Below w.heap.size w w') : Only S w w' := ⟨h.os, h.tape, h.output, h.size, fun k hk _ => h.block k hk⟩
theorem all_is (p : PW) : p.all = readyL p.ready p.ts.length := rfl
theorem all_lt {p : PW} {i : Nat} (h : i ∈ p.all) : i < p.ts.length ∧ p.ready i = true := readyL_lt h
/-- A pick. -/
theorem go_Pick {B : Nat} {w : World} {g : AtG} {p : PW} {ts : List (Option TS)} (h : Go5 B w g p ts) (n : Int) (hs : p.steps < 4611686018427387904) :
    Calls Try.prog 12 #[.pointer (some ⟨g.s, 0, none⟩), .int .i64 n] w fun e w' => e = .returned (.tuple #[.int .i64 (if (p.pick n).2 < 0 then 0 else (p.pick n).2), .bool (decide (0 ≤ (p.pick n).2))]) ∧ (∃ ts', Go5 B w' g (p.pick n).1 ts') ∧ Only (GS g) w w' := by
  have hr : ∀ (i : Nat) x, ts[i]? = some x → Rdy w x (p.ready i) := h.rdy
  unfold PW.pick
  rw [all_is, ← h.len]
  by_cases h0 : (readyL p.ready ts.length).length = 0
  · simp only [if_pos h0]
    have hnil : readyL p.ready ts.length = [] := List.eq_nil_of_length_eq_zero h0
    refine (pick_none h.sch p.ready hr n hnil).mono ?_
    rintro e w' ⟨he, hb⟩
    exact ⟨he, ⟨ts, h.below hb⟩, only_below hb⟩
  · simp only [if_neg h0]
    obtain ⟨i, hi⟩ : ∃ i, (readyL p.ready ts.length).getD (place n (readyL p.ready ts.length).length) 0 = i := ⟨_, rfl⟩
    rw [hi]
    have hlt : placeN n (readyL p.ready ts.length).length < (readyL p.ready ts.length).length := by
      unfold placeN
      have := Int.emod_lt_of_pos n (show (0 : Int) < ((readyL p.ready ts.length).length : Int) by omega)
      have := Int.emod_nonneg n (show ((readyL p.ready ts.length).length : Int) ≠ 0 by omega)
      omega
    have hmem : i ∈ readyL p.ready ts.length := by
      rw [← hi, List.getD_eq_getElem?_getD, List.getElem?_eq_getElem (show place n _ < _ from hlt)]
      exact List.getElem_mem _
    have hir := readyL_lt hmem
    have hip : i < p.ts.length := by rw [← h.len]; exact hir.1
    refine (pick_does h.sch p.ready hr n (by omega) i hi (fun w1 w' => (∃ ts', Go5 B w' g (p.step i) ts') ∧ Only (GS g) w1 w') ?_).mono ?_
    · intro w1 hb
      have h1 := h.below hb
      refine (go_Step h1 i hip hir.2 hs).mono ?_
      rintro e w' ⟨he, hg, hO⟩
      refine ⟨he, ⟨hg, hO⟩, fun b hb1 hb2 => hO.block b hb2 fun hgs => ?_⟩
      have := h.gs_lt hgs
      omega
    · rintro e w' ⟨he, w1, hb, hg, hO⟩
      refine ⟨?_, hg, (only_below hb).trans hO⟩
      rw [he, if_neg (by omega), decide_eq_true (by omega)]
end Go.Proofs.Ytccliallljcjgaa
