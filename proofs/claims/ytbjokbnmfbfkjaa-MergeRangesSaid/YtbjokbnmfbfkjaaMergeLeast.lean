/- The program's least: all cursors looked at, up to the first error. -/
import Derived.Test.YtbjokbnmfbfkjaaMergeLook
set_option linter.unusedVariables false
set_option maxRecDepth 100000
namespace Go.Proofs.Ytbjokbnmfbfkjaa
open Go.RowKit

/-- A cursor, with what is known of it. -/
structure Cu where
  v : Value
  n : Nat
  F : Nat → Prop
  I : List Ent → Int → Bool → World → Prop
  ok : Cur v n F I
/-- A slice of cursors in block g. -/
def IsC (w : World) (g : Nat) (a : Option Addr) (len : Nat) (cs : List Cu) : Prop := len = cs.length ∧ g < w.heap.size ∧ ∃ off, (len = 0 ∨ a = some ⟨g, off, none⟩) ∧ ∀ k c, cs[k]? = some c → w.cell? ⟨g, off + k, none⟩ = some c.v
theorem IsC.only {w w' : World} {g : Nat} {a : Option Addr} {len : Nat} {cs : List Cu} {S : Nat → Prop} (h : IsC w g a len cs) (k : Only S w w') (hS : ¬ S g) : IsC w' g a len cs := by
  obtain ⟨h1, h2, off, h3, h4⟩ := h
  exact ⟨h1, Nat.lt_of_lt_of_le h2 k.size, off, h3, fun i c hc => cell_same (h4 i c hc) (k.block g h2 hS)⟩
/-- No cursor has a block of another one. -/
def Apart (cs : List Cu) : Prop := ∀ (i j : Nat) (c d : Cu), cs[i]? = some c → cs[j]? = some d → i ≠ j → ∀ k, c.F k → ¬ d.F k
def FAll (cs : List Cu) (k : Nat) : Prop := ∃ c ∈ cs, c.F k
/-- The cursors have these rows left; those ahead of place k were looked at. -/
def Have (cs : List Cu) (ss : List (List Ent × Int)) (k : Nat) (b : Bool) (w : World) : Prop :=
  ss.length = cs.length ∧ ∀ (i : Nat) (c : Cu) (s : List Ent × Int), cs[i]? = some c → ss[i]? = some s → c.I s.1 s.2 (if i < k then true else b) w
theorem Have.only {cs : List Cu} {ss : List (List Ent × Int)} {k : Nat} {b : Bool} {w w' : World} {S : Nat → Prop} (h : Have cs ss k b w) (kk : Only S w w') (hS : ∀ j, FAll cs j → ¬ S j) : Have cs ss k b w' :=
  ⟨h.1, fun i c s hc hs => c.ok.only (h.2 i c s hc hs) kk fun j hj => hS j ⟨c, List.mem_of_getElem? hc, hj⟩⟩
/-- One cursor more was looked at. -/
theorem Have.next {cs : List Cu} {ss : List (List Ent × Int)} {k : Nat} {b : Bool} {w w' : World} {c : Cu} {s : List Ent × Int} (h : Have cs ss k b w) (hA : Apart cs) (hc : cs[k]? = some c) (hs : ss[k]? = some s) (hI : c.I s.1 s.2 true w') (kk : Only c.F w w') : Have cs ss (k + 1) b w' := by
  refine ⟨h.1, fun i d u hd hu => ?_⟩
  by_cases hik : i = k
  · subst hik
    rw [hc] at hd
    rw [hs] at hu
    injection hd with hd
    injection hu with hu
    subst hd hu
    rw [if_pos (by omega)]
    exact hI
  · have := h.2 i d u hd hu
    have e : (if i < k + 1 then true else b) = (if i < k then true else b) := by
      by_cases hlt : i < k
      · rw [if_pos hlt, if_pos (by omega)]
      · rw [if_neg hlt, if_neg (by omega)]
    rw [e]
    exact d.ok.only this kk fun j hj => hA i k d c hd hc hik j hj
theorem Have.all {cs : List Cu} {ss : List (List Ent × Int)} {k : Nat} {b : Bool} {w : World} (h : Have cs ss k b w) (hk : cs.length ≤ k) : Have cs ss 0 true w :=
  ⟨h.1, fun i c s hc hs => by
    have := h.2 i c s hc hs
    rw [if_pos (by have := (List.getElem?_eq_some_iff.1 hc).1; omega)] at this
    rw [if_neg (by omega)]
    exact this⟩
def bestE (best : Option Ent) : Ent := best.getD noEnt
theorem fall_lt {cs : List Cu} {ss : List (List Ent × Int)} {k : Nat} {b : Bool} {w : World} (h : Have cs ss k b w) (j : Nat) (hj : FAll cs j) : j < w.heap.size := by
  obtain ⟨c, hc, hj⟩ := hj
  obtain ⟨i, hi⟩ := List.getElem?_of_mem hc
  have hl := (List.getElem?_eq_some_iff.1 hi).1
  obtain ⟨s, hs⟩ : ∃ s, ss[i]? = some s := ⟨_, List.getElem?_eq_getElem (by rw [h.1]; exact hl)⟩
  exact Nat.lt_of_lt_of_le (c.ok.low j hj) (c.ok.size _ _ _ _ (h.2 i c _ hi hs))
set_option maxHeartbeats 4000000 in
theorem merge_least (g : Nat) (a : Option Addr) (len cap : Nat) (cs : List Cu) (ss : List (List Ent × Int)) (b : Bool) (l : List Ent) (e : Int) (w : World) (hC : Hid (IsC w g a len cs)) (hA : Hid (Apart cs)) (hg : Hid (¬ FAll cs g)) (hH : Hid (Have cs ss 0 b w)) (hM : Hid (mergeP ss = (l, e))) (hl : len ≤ 100000) :
    Calls Try.prog 33 #[.slice a len cap] w fun en w' => Ans l e en ∧ ((l = [] ∧ e ≠ 0) ∨ Have cs ss 0 true w') ∧ Only (FAll cs) w w' := by
  obtain ⟨w1, hw1⟩ : ∃ w1, w1 = w.alloc (.cells #[.string ⟨#[]⟩, .string ⟨#[]⟩, .bool false] 32) := ⟨_, rfl⟩
  have K1 := Lib.hid (show Below w.heap.size w w1 by rw [hw1]; exact (Below.refl _ _).alloc (Nat.le_refl _) _)
  have R1 := Lib.hid (show C3 w.heap.size 32 (.string ⟨#[]⟩) (.string ⟨#[]⟩) (.bool false) w1 by rw [hw1]; exact heap_new w _)
  have HW1 := Lib.hid hw1
  obtain ⟨w2, hw2⟩ : ∃ w2, w2 = w1.alloc (.cells #[.string ⟨#[]⟩, .string ⟨#[]⟩, .bool false] 32) := ⟨_, rfl⟩
  have K2 := Lib.hid (show Below w1.heap.size w1 w2 by rw [hw2]; exact (Below.refl _ _).alloc (Nat.le_refl _) _)
  have R2 := Lib.hid (R1.out.below K2.out)
  have Y2 := Lib.hid (show C3 w1.heap.size 32 (.string ⟨#[]⟩) (.string ⟨#[]⟩) (.bool false) w2 by rw [hw2]; exact heap_new w1 _)
  have HW2 := Lib.hid hw2
  have O2 := Lib.hid (show Only (FAll cs) w w2 from (Only.of_below' K1.out rfl).trans (Only.of_below' K2.out rfl))
  have Fz := Lib.hid (fall_lt hH.out)
  have H2 := Lib.hid (hH.out.only (S := fun _ => False) ((Only.of_below' K1.out rfl).trans (Only.of_below' K2.out rfl)) fun _ _ h => h)
  have C2 := Lib.hid (hC.out.only (S := fun _ => False) ((Only.of_below' K1.out rfl).trans (Only.of_below' K2.out rfl)) fun h => h)
  have hz1 := Lib.hid (heap_lt R1.out)
  clear hw1 hw2
  go_enter Try.func33, Try.ntmps33
  go_upto_region 1 with (fail)
  rw [← HW1.out]
  go_upto_region 2 with (fail)
  rw [← HW2.out]
  go_wp2_with fail
  go_loopw [6, 14] (fun fv iv wr => ∃ (k : Nat) (best : Option Ent), k ≤ len ∧ iv = .int .i64 k ∧ fv = .bool best.isSome ∧ Hid (C3 w1.heap.size 32 (.string (bs (bestE best).key)) (.string (bs (bestE best).val)) (.bool (bestE best).gone) wr) ∧ Hid (Have cs ss k b wr) ∧ Hid (leastGo best (ss.drop k) = leastGo none ss) ∧ Hid (Only (fun j => FAll cs j ∨ j = w1.heap.size) w2 wr)) (fun fv iv wr => len - (intOf iv).toNat)
  case atStart => exact ⟨0, none, Nat.zero_le _, rfl, rfl, Y2, H2, Lib.hid (by rw [List.drop_zero]), Lib.hid (Only.refl _ _)⟩
  case round =>
    obtain ⟨k, best, hk, rfl, rfl, hY, hHv, hLe, hO⟩ := hrel
    rcases Nat.lt_or_ge k len with hlt | hge
    · have Ck := Lib.hid (C2.out.only hO.out (fun h => h.elim hg.out fun h => by have := hC.out.2.1; have := K1.out.size; omega))
      obtain ⟨hCl, hCg, off, hCa, hCc⟩ := Ck.out
      obtain ⟨c, hc⟩ : ∃ c, cs[k]? = some c := ⟨_, List.getElem?_eq_getElem (by omega)⟩
      obtain ⟨⟨sl, se⟩, hs⟩ : ∃ s, ss[k]? = some s := ⟨_, List.getElem?_eq_getElem (by rw [hHv.out.1]; omega)⟩
      obtain rfl := hCa.resolve_left (by omega)
      have cc := hCc k c hc
      have Hc := Lib.hid hc
      have Hs := Lib.hid hs
      have HIc := Lib.hid (hHv.out.2 k c _ hc hs)
      have HP := Lib.hid (c.ok.peek _ _ _ _ HIc.out)
      have hdr := Lib.hid (show ss.drop k = (sl, se) :: ss.drop (k + 1) by
        have := List.drop_eq_getElem_cons (l := ss) (i := k) (List.getElem?_eq_some_iff.1 hs).1
        rw [this]
        rw [List.getElem?_eq_getElem (List.getElem?_eq_some_iff.1 hs).1] at hs
        injection hs with hs
        rw [hs])
      clear hCl hCg hCc hc hs
      go_wp2_with fail
      refine HP.out.mono ?_
      rintro en w3 ⟨hAns, hI3, k3⟩
      have k3' : Only (FAll cs) wr w3 := k3.mono fun _ _ h => ⟨c, List.mem_of_getElem? Hc.out, h⟩
      have H3 := Lib.hid (hHv.out.next hA.out Hc.out Hs.out hI3 k3)
      have Y3 := Lib.hid (hY.out.only k3' fun h => by have := Fz.out _ h; have := hz1.out; have := K1.out.size; omega)
      have O3 := Lib.hid (hO.out.trans (k3'.mono fun _ _ h => .inl h))
      have R3 := Lib.hid (R2.out.only O3.out fun h => by rcases h with h | h; (have := Fz.out _ h; omega); (have := hz1.out; omega))
      clear hI3 k3 k3' cc
      cases hAns with
      | ends =>
        obtain ⟨w4, hw4⟩ : ∃ w4, w4 = w3.alloc (.cells #[.string ⟨#[]⟩, .string ⟨#[]⟩, .bool false] 32) := ⟨_, rfl⟩
        have K4 := Lib.hid (show Below w3.heap.size w3 w4 by rw [hw4]; exact (Below.refl _ _).alloc (Nat.le_refl _) _)
        have R4 := Lib.hid (R3.out.below K4.out)
        have Y4 := Lib.hid (Y3.out.below K4.out)
        have H4 := Lib.hid (H3.out.only (S := fun _ => False) (Only.of_below' K4.out rfl) fun _ _ h => h)
        have O4 := Lib.hid (O3.out.trans (Only.of_below' K4.out rfl))
        have d0 := R4.out.c0
        have d1 := R4.out.c1
        have d2 := R4.out.c2
        have df := R4.out.free
        have HW4 := Lib.hid hw4
        clear hw4
        by_cases h0 : se = 0
        · have hnx := Lib.hid (show leastGo best (ss.drop (k + 1)) = leastGo none ss by have := hLe.out; rw [hdr.out] at this; simp only [leastGo] at this; rw [if_pos h0] at this; exact this)
          subst h0
          go_upto_region 7 with (fail)
          rw [← HW4.out]
          go_wp2_with fail
          go_roundw
          case rel => exact ⟨k + 1, best, by omega, by go_num, rfl, Y4, H4, hnx, O4⟩
          case measure => simp [intOf]; omega
        · have hnx := Lib.hid (show l = [] ∧ e = se by
            have := hLe.out
            rw [hdr.out] at this
            simp only [leastGo] at this
            rw [if_neg h0] at this
            have hm := hM.out
            rw [mergeP_none this.symm] at hm
            injection hm with h1 h2
            exact ⟨h1.symm, h2.symm⟩)
          have h1 : (se == 0) = false := by simpa using h0
          have h2 : (se != 0) = true := by simpa using h0
          have H0 := Lib.hid h0
          clear h0
          go_upto_region 7 with (fail)
          rw [← HW4.out]
          go_wp2_with fail
          refine bodyPost_ret (results_c3b rfl _ _ w.heap.size _ _ _ _ _ _ rfl rfl rfl (R4.out.put _ _ _) Try.underlying32 rfl sizeEnt) rfl ?_
          rw [hnx.out.1, hnx.out.2]
          exact ⟨Ans.ends _, .inl ⟨rfl, H0.out⟩, only_put3 (O2.out.andThen O4.out fun j hj h => h.elim id fun h => by have := K1.out.size; omega) (Nat.le_refl _) _ _ _⟩
      | next x t =>
        obtain ⟨w4, hw4⟩ : ∃ w4, w4 = w3.alloc (.cells #[.string (bs x.key), .string (bs x.val), .bool x.gone] 32) := ⟨_, rfl⟩
        have K4 := Lib.hid (show Below w3.heap.size w3 w4 by rw [hw4]; exact (Below.refl _ _).alloc (Nat.le_refl _) _)
        have X4 := Lib.hid (show C3 w3.heap.size 32 (.string (bs x.key)) (.string (bs x.val)) (.bool x.gone) w4 by rw [hw4]; exact heap_new w3 _)
        have Y4 := Lib.hid (Y3.out.below K4.out)
        have H4 := Lib.hid (H3.out.only (S := fun _ => False) (Only.of_below' K4.out rfl) fun _ _ h => h)
        have O4 := Lib.hid (O3.out.trans (Only.of_below' K4.out rfl))
        have hnx := Lib.hid (show leastGo (if better best x then some x else best) (ss.drop (k + 1)) = leastGo none ss by have := hLe.out; rw [hdr.out] at this; exact this)
        have x0 := X4.out.c0
        have x1 := X4.out.c1
        have x2 := X4.out.c2
        have y0 := Y4.out.c0
        have y1 := Y4.out.c1
        have y2 := Y4.out.c2
        have yf := Y4.out.free
        have HW4 := Lib.hid hw4
        clear hw4
        have hcmp : Op.bytesLess (bs x.key).toList (bs (bestE best).key).toList = ltB x.key (bestE best).key := by rw [Lib.toList_data, Lib.toList_data, bs_list, bs_list, ltB_less]
        have HPut := Lib.hid (show C3 w1.heap.size 32 (.string (bs x.key)) (.string (bs x.val)) (.bool x.gone) (((w4.setCell ⟨w1.heap.size, 0, none⟩ (.string (bs x.key))).setCell ⟨w1.heap.size, 1, none⟩ (.string (bs x.val))).setCell ⟨w1.heap.size, 2, none⟩ (.bool x.gone)) ∧ Have cs ss (k + 1) b (((w4.setCell ⟨w1.heap.size, 0, none⟩ (.string (bs x.key))).setCell ⟨w1.heap.size, 1, none⟩ (.string (bs x.val))).setCell ⟨w1.heap.size, 2, none⟩ (.bool x.gone)) ∧ Only (fun j => FAll cs j ∨ j = w1.heap.size) w2 (((w4.setCell ⟨w1.heap.size, 0, none⟩ (.string (bs x.key))).setCell ⟨w1.heap.size, 1, none⟩ (.string (bs x.val))).setCell ⟨w1.heap.size, 2, none⟩ (.bool x.gone)) from
          ⟨Y4.out.put _ _ _, H4.out.only (put3_only _ _ _ _ _) fun j hj h => by (have := Fz.out _ hj; have := K1.out.size; omega), O4.out.trans ((put3_only _ _ _ _ _).mono fun _ _ h => .inr h)⟩)
        cases best with
        | none =>
          go_upto_region 7 with (fail)
          rw [← HW4.out]
          go_wp2_with fail
          go_roundw
          case rel => exact ⟨k + 1, some x, by omega, by go_num, rfl, Lib.hid HPut.out.1, Lib.hid HPut.out.2.1, hnx, Lib.hid HPut.out.2.2⟩
          case measure => simp [intOf]; omega
        | some y =>
          cases hxy : ltB x.key y.key with
          | true =>
            have hnx2 := Lib.hid (show leastGo (some x) (ss.drop (k + 1)) = leastGo none ss by have := hnx.out; simp only [better, hxy, if_true] at this; exact this)
            rw [show ltB x.key (bestE (some y)).key = true from hxy] at hcmp
            clear hxy
            go_upto_region 7 with (fail)
            rw [← HW4.out]
            go_wp2_with fail
            go_roundw
            case rel => exact ⟨k + 1, some x, by omega, by go_num, rfl, Lib.hid HPut.out.1, Lib.hid HPut.out.2.1, hnx2, Lib.hid HPut.out.2.2⟩
            case measure => simp [intOf]; omega
          | false =>
            have hnx2 := Lib.hid (show leastGo (some y) (ss.drop (k + 1)) = leastGo none ss by have := hnx.out; simp only [better, hxy, Bool.false_eq_true, if_false] at this; exact this)
            rw [show ltB x.key (bestE (some y)).key = false from hxy] at hcmp
            clear hxy
            go_upto_region 7 with (fail)
            rw [← HW4.out]
            go_wp2_with fail
            go_roundw
            case rel => exact ⟨k + 1, some y, by omega, by go_num, rfl, Y4, H4, hnx2, O4⟩
            case measure => simp [intOf]; omega
    · obtain rfl : k = len := by omega
      have y0 := hY.out.c0
      have y1 := hY.out.c1
      have y2 := hY.out.c2
      have R3 := Lib.hid (R2.out.only hO.out fun h => by rcases h with h | h; (have := Fz.out _ h; omega); (have := hz1.out; omega))
      have d0 := R3.out.c0
      have d1 := R3.out.c1
      have d2 := R3.out.c2
      have df := R3.out.free
      have hend := Lib.hid (show leastGo none ss = (best, 0) by
        have := hLe.out
        rw [List.drop_eq_nil_of_le (by rw [hHv.out.1, ← hC.out.1]; exact Nat.le_refl _)] at this
        exact this.symm)
      go_wp2_with fail
      refine bodyPost_ret (results_c3b rfl _ _ w.heap.size _ _ _ _ _ _ rfl rfl rfl (R3.out.put _ _ _) Try.underlying32 rfl sizeEnt) rfl ?_
      refine ⟨?_, .inr ((hHv.out.all (by rw [← hC.out.1]; exact Nat.le_refl _)).only (put3_only _ _ _ _ _) fun j hj h => by have := Fz.out _ hj; omega), only_put3 (O2.out.andThen hO.out fun j hj h => h.elim id fun h => by have := K1.out.size; omega) (Nat.le_refl _) _ _ _⟩
      have hm := hM.out
      cases best with
      | none =>
        rw [mergeP_none hend.out] at hm
        injection hm with h1 h2
        rw [← h1, ← h2]
        exact Ans.ends 0
      | some x =>
        rw [mergeP_some hend.out] at hm
        injection hm with h1 h2
        rw [← h1, ← h2]
        exact Ans.next _ _ _
end Go.Proofs.Ytbjokbnmfbfkjaa
