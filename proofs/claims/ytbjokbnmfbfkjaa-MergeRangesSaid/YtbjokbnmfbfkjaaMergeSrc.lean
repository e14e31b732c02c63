/- The program's Merge as two functions: what its cursors tell, merged. -/
import Derived.Test.YtbjokbnmfbfkjaaMergeLeast
set_option linter.unusedVariables false
set_option maxRecDepth 100000
namespace Go.Proofs.Ytbjokbnmfbfkjaa
open Go.RowKit

/-- A variable that holds a slice of cursors. -/
def BxC (p : Nat) (v : Value) (w : World) : Prop := w.heap[p]? = some (.cells #[v] 39 (0, 0))
theorem BxC.cell {p : Nat} {v : Value} {w : World} (h : BxC p v w) : w.cell? ⟨p, 0, none⟩ = some v := by unfold BxC at h; simp [World.cell?, h]
/-- What is known of merged cursors of which l is left, then e. -/
def MergeI (p g n : Nat) (cs : List Cu) (l : List Ent) (e : Int) (b : Bool) (w : World) : Prop :=
  n ≤ w.heap.size ∧ (∃ a len cap, BxC p (.slice a len cap) w ∧ IsC w g a len cs) ∧ ((b = true ∧ l = [] ∧ e ≠ 0) ∨ ∃ ss, Have cs ss 0 b w ∧ mergeP ss = (l, e))
/-- The blocks of merged cursors. -/
def FMerge (p g : Nat) (cs : List Cu) (k : Nat) : Prop := FAll cs k ∨ k = p ∨ k = g
theorem mergeI_only {p g n : Nat} {cs : List Cu} {l : List Ent} {e : Int} {b : Bool} {w w' : World} {S : Nat → Prop} (h : MergeI p g n cs l e b w) (k : Only S w w') (hS : ∀ j, FMerge p g cs j → ¬ S j) : MergeI p g n cs l e b w' := by
  obtain ⟨h1, ⟨a, len, cap, h2, h3⟩, h4⟩ := h
  refine ⟨Nat.le_trans h1 k.size, ⟨a, len, cap, (k.block p (heap_lt h2) (hS p (.inr (.inl rfl)))).trans h2, h3.only k (hS g (.inr (.inr rfl)))⟩, ?_⟩
  rcases h4 with h4 | ⟨ss, h4, h5⟩
  · exact .inl h4
  · exact .inr ⟨ss, h4.only k fun j hj => hS j (.inl hj), h5⟩
theorem mergeI_keep {p g n : Nat} {cs : List Cu} {l : List Ent} {e : Int} {b : Bool} {w w' : World} (h : MergeI p g n cs l e b w) (hs : w.heap.size ≤ w'.heap.size) (k : ∀ j, FMerge p g cs j → w'.heap[j]? = w.heap[j]?) : MergeI p g n cs l e b w' := by
  obtain ⟨h1, ⟨a, len, cap, h2, h3⟩, h4⟩ := h
  refine ⟨Nat.le_trans h1 hs, ⟨a, len, cap, (k p (.inr (.inl rfl))).trans h2, ?_⟩, ?_⟩
  · obtain ⟨i1, i2, off, i3, i4⟩ := h3
    exact ⟨i1, Nat.lt_of_lt_of_le i2 hs, off, i3, fun i c hc => cell_same (i4 i c hc) (k g (.inr (.inr rfl)))⟩
  · rcases h4 with h4 | ⟨ss, h4, h5⟩
    · exact .inl h4
    · exact .inr ⟨ss, ⟨h4.1, fun i c s hc hs' => c.ok.keep _ _ _ _ _ (h4.2 i c s hc hs') hs fun j hj => k j (.inl ⟨c, List.mem_of_getElem? hc, hj⟩)⟩, h5⟩
section
variable {p g n : Nat} {cs : List Cu}
set_option maxHeartbeats 2000000 in
theorem merge_look (hA : Hid (Apart cs)) (hg : Hid (¬ FAll cs g)) (hp : Hid (¬ FAll cs p)) (hl : cs.length ≤ 100000) (l : List Ent) (e : Int) (b : Bool) (w : World) (hI : Hid (MergeI p g n cs l e b w)) (hb : Hid (b = true → l ≠ [])) :
    Calls Try.prog 32 #[.pointer (some ⟨p, 0, none⟩)] w fun en w' => Ans l e en ∧ MergeI p g n cs l e true w' ∧ Only (FAll cs) w w' := by
  obtain ⟨h1, ⟨a, len, cap, h2, h3⟩, h4⟩ := hI.out
  obtain ⟨ss, h4, h5⟩ : ∃ ss, Have cs ss 0 b w ∧ mergeP ss = (l, e) := by
    rcases h4 with ⟨x, y, _⟩ | h4
    · exact absurd y (hb.out x)
    · exact h4
  obtain ⟨w1, hw1⟩ : ∃ w1, w1 = w.alloc (.cells #[.string ⟨#[]⟩, .string ⟨#[]⟩, .bool false] 32) := ⟨_, rfl⟩
  have K1 := Lib.hid (show Below w.heap.size w w1 by rw [hw1]; exact (Below.refl _ _).alloc (Nat.le_refl _) _)
  have R1 := Lib.hid (show C3 w.heap.size 32 (.string ⟨#[]⟩) (.string ⟨#[]⟩) (.bool false) w1 by rw [hw1]; exact heap_new w _)
  have on1 := Lib.hid (show Only (fun _ => False) w w1 from Only.of_below' K1.out rfl)
  have B1 := Lib.hid (show BxC p (.slice a len cap) w1 from (on1.out.block p (heap_lt h2) (fun h => h)).trans h2)
  have C1 := Lib.hid (h3.only on1.out fun h => h)
  have H1 := Lib.hid (h4.only on1.out fun _ _ h => h)
  have HW1 := Lib.hid hw1
  have HL := Lib.hid (merge_least g a len cap cs ss b l e w1 C1 hA hg H1 (Lib.hid h5) (by rw [h3.1]; exact hl))
  have x0 := B1.out.cell
  have Fz := Lib.hid (fall_lt h4)
  have HN := Lib.hid h1
  have HM := Lib.hid h5
  clear hw1 h1 h2 h3 h4 h5
  go_enter Try.func32, Try.ntmps32
  go_upto_region 1 with (fail)
  rw [← HW1.out]
  go_wp2_with fail
  refine HL.out.mono ?_
  rintro en w2 ⟨hAns, hH2, k2⟩
  have R2 := Lib.hid (R1.out.only k2 fun h => Nat.lt_irrefl _ (Fz.out _ h))
  have B2 := Lib.hid (show BxC p (.slice a len cap) w2 from (k2.block p (heap_lt B1.out) hp.out).trans B1.out)
  have C2 := Lib.hid (C1.out.only k2 hg.out)
  have O2 := Lib.hid (show Only (FAll cs) w w2 from (Only.of_below' K1.out rfl).trans k2)
  have I2 := Lib.hid (show MergeI p g n cs l e true w2 from ⟨Nat.le_trans HN.out O2.out.size, ⟨a, len, cap, B2.out, C2.out⟩, hH2.imp (fun ⟨x, y⟩ => ⟨rfl, x, y⟩) fun h => ⟨ss, h, HM.out⟩⟩)
  have hpz := Lib.hid (show ∀ j, FMerge p g cs j → j < w.heap.size from fun j hj => by
    obtain ⟨_, ⟨_, _, _, h2, h3⟩, _⟩ := hI.out
    rcases hj with h | rfl | rfl
    · exact Fz.out _ h
    · exact heap_lt h2
    · exact h3.2.1)
  have d0 := R2.out.c0
  have d1 := R2.out.c1
  have d2 := R2.out.c2
  have df := R2.out.free
  clear hH2 k2 x0
  cases hAns with
  | ends =>
    go_wp2_with fail
    refine bodyPost_ret (results_c3b rfl _ _ w.heap.size _ _ _ _ _ _ rfl rfl rfl (R2.out.put _ _ _) Try.underlying32 rfl sizeEnt) rfl ?_
    exact ⟨Ans.ends e, mergeI_only I2.out (put3_only _ _ _ _ _) fun j hj h => by have := hpz.out _ hj; omega, only_put3 O2.out (Nat.le_refl _) _ _ _⟩
  | next x t =>
    go_wp2_with fail
    refine bodyPost_ret (results_c3b rfl _ _ w.heap.size _ _ _ _ _ _ rfl rfl rfl (R2.out.put _ _ _) Try.underlying32 rfl sizeEnt) rfl ?_
    exact ⟨Ans.next _ _ _, mergeI_only I2.out (put3_only _ _ _ _ _) fun j hj h => by have := hpz.out _ hj; omega, only_put3 O2.out (Nat.le_refl _) _ _ _⟩
/-- The cursors ahead of place k have passed the key over. -/
def HaveP (cs : List Cu) (ss : List (List Ent × Int)) (key : List UInt8) (k : Nat) (b : Bool) (w : World) : Prop :=
  ∀ (i : Nat) (c : Cu) (s : List Ent × Int), cs[i]? = some c → ss[i]? = some s → if i < k then c.I (passL key s.1) s.2 b w else c.I s.1 s.2 true w
theorem HaveP.next {ss : List (List Ent × Int)} {key : List UInt8} {k : Nat} {b : Bool} {w w' : World} {c : Cu} {s : List Ent × Int} (h : HaveP cs ss key k b w) (hA : Apart cs) (hc : cs[k]? = some c) (hs : ss[k]? = some s) (hI : c.I (passL key s.1) s.2 b w') (kk : Only c.F w w') : HaveP cs ss key (k + 1) b w' := by
  intro i d u hd hu
  by_cases hik : i = k
  · subst hik
    rw [hc] at hd
    rw [hs] at hu
    injection hd with hd
    injection hu with hu
    subst hd hu
    rw [if_pos (by omega)]
    exact hI
  · have := h i d u hd hu
    by_cases hlt : i < k
    · rw [if_pos hlt] at this
      rw [if_pos (by omega)]
      exact d.ok.only this kk fun j hj => hA i k d c hd hc hik j hj
    · rw [if_neg hlt] at this
      rw [if_neg (by omega)]
      exact d.ok.only this kk fun j hj => hA i k d c hd hc hik j hj
set_option maxHeartbeats 2000000 in
theorem merge_drop (hA : Hid (Apart cs)) (hg : Hid (¬ FAll cs g)) (hp : Hid (¬ FAll cs p)) (hl : cs.length ≤ 100000) (l : List Ent) (e : Int) (w : World) (key : List UInt8) (hI : Hid (MergeI p g n cs l e true w)) (hM : Hid (May key l e)) :
    Calls Try.prog 34 #[.string (bs key), .pointer (some ⟨p, 0, none⟩)] w fun en w' => en = .returned (.tuple #[]) ∧ MergeI p g n cs (passL key l) e l.isEmpty w' ∧ Only (FAll cs) w w' := by
  obtain ⟨h1, ⟨a, len, cap, h2, h3⟩, h4⟩ := hI.out
  obtain ⟨ss, h4, h5⟩ : ∃ ss, Have cs ss 0 true w ∧ mergeP ss = (l, e) := by
    rcases h4 with ⟨x, y, z⟩ | h4
    · exact absurd (hM.out.1 y) z
    · exact h4
  have hheads := Lib.hid (merge_heads h5 hM.out.1 hM.out.2)
  have HLn := Lib.hid h4.1
  have HP0 := Lib.hid (show HaveP cs ss key 0 l.isEmpty w from fun i c s hc hs => by
    rw [if_neg (by omega)]
    have := h4.2 i c s hc hs
    rwa [if_neg (by omega)] at this)
  have hbs := Lib.hid (show ∀ s ∈ ss, l = [] → s.1 = [] from fun s hs hl => by
    subst hl
    have := mergeP_nil h5
    rw [hM.out.1 rfl] at this
    rw [(least_none this).2 s hs])
  have HB := Lib.hid h2
  have HC := Lib.hid h3
  have x0 := h2.cell
  have HN := Lib.hid h1
  have HMg := Lib.hid (mergeP_pass h5 hM.out.1 hM.out.2)
  have hlen : len ≤ 100000 := by rw [h3.1]; exact hl
  clear h1 h2 h3 h4 h5
  go_enter Try.func34, Try.ntmps34
  go_wp2_with fail
  go_loopw [7] (fun iv wr => ∃ k : Nat, k ≤ len ∧ iv = .int .i64 k ∧ Hid (HaveP cs ss key k l.isEmpty wr) ∧ Hid (Only (FAll cs) w wr)) (fun iv wr => len - (intOf iv).toNat)
  case atStart => exact ⟨0, Nat.zero_le _, rfl, HP0, Lib.hid (Only.refl _ _)⟩
  case round =>
    obtain ⟨k, hk, rfl, hH, hO⟩ := hrel
    rcases Nat.lt_or_ge k len with hlt | hge
    · have Ck := Lib.hid (HC.out.only hO.out hg.out)
      obtain ⟨hCl, hCg, off, hCa, hCc⟩ := Ck.out
      obtain ⟨c, hc⟩ : ∃ c, cs[k]? = some c := ⟨_, List.getElem?_eq_getElem (by omega)⟩
      obtain ⟨s, hs⟩ : ∃ s, ss[k]? = some s := ⟨_, List.getElem?_eq_getElem (by rw [HLn.out]; omega)⟩
      obtain rfl := hCa.resolve_left (by omega)
      have cc := hCc k c hc
      have Hc := Lib.hid hc
      have Hs := Lib.hid hs
      have HIc := Lib.hid (show c.I s.1 s.2 true wr by have := hH.out k c s hc hs; rwa [if_neg (by omega)] at this)
      have HP := Lib.hid (c.ok.pass _ _ _ key HIc.out (hheads.out s (List.mem_of_getElem? hs)))
      clear hCl hCg hCc hc hs
      go_wp2_with fail
      refine HP.out.mono ?_
      rintro en w3 ⟨rfl, hI3, k3⟩
      have k3' : Only (FAll cs) wr w3 := k3.mono fun _ _ h => ⟨c, List.mem_of_getElem? Hc.out, h⟩
      have H3 := Lib.hid (hH.out.next hA.out Hc.out Hs.out (show c.I (passL key s.1) s.2 l.isEmpty w3 by
        cases hle : l.isEmpty with
        | true =>
          rw [hbs.out s (List.mem_of_getElem? Hs.out) (List.isEmpty_iff.1 hle)] at hI3 ⊢
          exact hI3
        | false =>
          cases hse : s.1.isEmpty with
          | false => rw [hse] at hI3; exact hI3
          | true => rw [hse] at hI3; exact c.ok.weak _ _ _ hI3) k3)
      have O3 := Lib.hid (hO.out.trans k3')
      clear hI3 k3 k3' cc
      go_wp2_with fail
      go_roundw
      case rel => exact ⟨k + 1, by omega, by go_num, H3, O3⟩
      case measure => simp [intOf]; omega
    · obtain rfl : k = len := by omega
      go_wp2_with fail
      go_end0
      refine ⟨rfl, ⟨Nat.le_trans HN.out hO.out.size, ⟨a, k, cap, (hO.out.block p (heap_lt HB.out) hp.out).trans HB.out, HC.out.only hO.out hg.out⟩, .inr ⟨passP key ss, ⟨by rw [← HLn.out]; simp [passP], fun i c s hc hs => ?_⟩, HMg.out⟩⟩, hO.out⟩
      rw [if_neg (by omega)]
      obtain ⟨u, hu, rfl⟩ : ∃ u, ss[i]? = some u ∧ s = (passL key u.1, u.2) := by
        simp only [passP, List.getElem?_map] at hs
        cases h : ss[i]? with
        | none => rw [h] at hs; cases hs
        | some u => rw [h] at hs; injection hs with hs; exact ⟨u, rfl, hs.symm⟩
      have := hH.out i c u hc hu
      rwa [if_pos (by have := (List.getElem?_eq_some_iff.1 hc).1; have := HC.out.1; omega)] at this
/-- Merged cursors are two such functions. -/
theorem src_merge (hA : Apart cs) (hg : ¬ FAll cs g) (hp : ¬ FAll cs p) (hl : cs.length ≤ 100000) (hn : ∀ c ∈ cs, c.n ≤ n) (hpn : p < n) (hgn : g < n) :
    Src 32 #[] #[.pointer (some ⟨p, 0, none⟩)] 34 #[] #[.pointer (some ⟨p, 0, none⟩)] n (FMerge p g cs) (MergeI p g n cs) where
  enter1 := fun args w => by kernel_rfl
  enter2 := fun args w => by kernel_rfl
  low := fun k hk => by
    rcases hk with ⟨c, hc, h⟩ | rfl | rfl
    · exact Nat.lt_of_lt_of_le (c.ok.low k h) (hn c hc)
    · exact hpn
    · exact hgn
  size := fun l e b w h => h.1
  keep := fun l e b w w' h hs k => mergeI_keep h hs k
  weak := fun l e w hl h => by
    obtain ⟨h1, h2, h3⟩ := h
    refine ⟨h1, h2, ?_⟩
    rcases h3 with ⟨_, h4, _⟩ | ⟨ss, h4, h5⟩
    · exact absurd h4 hl
    · refine .inr ⟨ss, ⟨h4.1, fun i c s hc hs => ?_⟩, h5⟩
      have := h4.2 i c s hc hs
      rw [if_neg (by omega)] at this ⊢
      exact c.ok.weak _ _ _ this
  look := fun l e b w h hb => (merge_look (Lib.hid hA) (Lib.hid hg) (Lib.hid hp) hl l e b w (Lib.hid h) (Lib.hid hb)).mono fun en w' ⟨a, b, d⟩ => ⟨a, b, d.mono fun _ _ h => .inl h⟩
  drop := fun l e w key h hM => (merge_drop (Lib.hid hA) (Lib.hid hg) (Lib.hid hp) hl l e w key (Lib.hid h) (Lib.hid hM)).mono fun en w' ⟨a, b, d⟩ => ⟨a, b, d.mono fun _ _ h => .inl h⟩
end
end Go.Proofs.Ytbjokbnmfbfkjaa
