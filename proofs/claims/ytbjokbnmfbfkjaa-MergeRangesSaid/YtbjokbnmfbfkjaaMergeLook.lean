/- The program's row, looked at. -/
import Derived.Test.YtbjokbnmfbfkjaaMergeRow
set_option linter.unusedVariables false
set_option maxRecDepth 100000
namespace Go.Proofs.Ytbjokbnmfbfkjaa
open Go.RowKit

theorem leq_cmp (a b : List UInt8) : ∃ p q : Bool, Op.bytesLess (bs a).toList (bs b).toList = p ∧ ((bs a).toList == (bs b).toList) = q ∧ ((ltB b a = true ∧ p = false ∧ q = false) ∨ (ltB b a = false ∧ p = true) ∨ (ltB b a = false ∧ p = false ∧ q = true)) := by
  have h1 : Op.bytesLess (bs a).toList (bs b).toList = ltB a b := by rw [Lib.toList_data, Lib.toList_data, bs_list, bs_list, ltB_less]
  refine ⟨_, _, h1, rfl, ?_⟩
  rcases ltB_total a b with h | h | h
  · exact .inr (.inl ⟨ltB_asymm h, h⟩)
  · subst h
    exact .inr (.inr ⟨ltB_irrefl _, ltB_irrefl _, (same_bytes a a).2 rfl⟩)
  · refine .inl ⟨h, ltB_asymm h, ?_⟩
    cases e : ((bs a).toList == (bs b).toList) with
    | false => rfl
    | true => rw [(same_bytes a b).1 e, ltB_irrefl] at h; cases h
section
variable {f : Nat} {b0 c0 : Array Value} {n0 : Nat} {G : Nat → Prop} {N : List Ent → Int → World → Prop}
/-- The row was looked at before. -/
theorem look_again (r n : Nat) (nx : Value) (y : Ent) (w : World) (hr : r < w.heap.size) (h6 : Hid (Row6 r nx y true true w)) :
    Calls Try.prog 35 #[.pointer (some ⟨r, 0, none⟩)] w fun en w' => en = .returned (.tuple #[.agg #[.string (bs y.key), .string (bs y.val), .bool y.gone], .bool true, .int .i64 0]) ∧ Below w.heap.size w w' := by
  obtain ⟨w1, hw1⟩ : ∃ w1, w1 = w.alloc (.cells #[.string ⟨#[]⟩, .string ⟨#[]⟩, .bool false] 32) := ⟨_, rfl⟩
  have K1 := Lib.hid (show Below w.heap.size w w1 by rw [hw1]; exact (Below.refl _ _).alloc (Nat.le_refl _) _)
  have R1 := Lib.hid (show C3 w.heap.size 32 (.string ⟨#[]⟩) (.string ⟨#[]⟩) (.bool false) w1 by rw [hw1]; exact heap_new w _)
  have Q1 := Lib.hid (h6.out.below K1.out)
  have HW1 := Lib.hid hw1
  have x1 := Q1.out.c1
  have x2 := Q1.out.c2
  have x3 := Q1.out.c3
  have x5 := Q1.out.c5
  have d0 := R1.out.c0
  have d1 := R1.out.c1
  have d2 := R1.out.c2
  have df := R1.out.free
  clear hw1
  go_enter Try.func35, Try.ntmps35
  go_upto_region 1 with (fail)
  rw [← HW1.out]
  go_wp2_with fail
  refine bodyPost_ret (results_c3b rfl _ _ w.heap.size _ _ _ _ _ _ rfl rfl rfl (R1.out.put _ _ _) Try.underlying32 rfl sizeEnt) rfl ?_
  exact ⟨rfl, below_put3' K1.out (Nat.le_refl _) _ _ _⟩
set_option maxHeartbeats 4000000 in
theorem look_fresh (hR : Hid (Raw f b0 c0 n0 G N)) (r n : Nat) (hrG : Hid (¬ G r)) (hn : n0 ≤ n) (hrn : r < n) (y : Ent) (g : Bool) (R : List Ent) (er : Int) (w : World) (hnw : Hid (n ≤ w.heap.size)) (h6 : Hid (Row6 r (.func (.func f) b0 c0) y g false w)) (hN : Hid (N R er w)) :
    Calls Try.prog 35 #[.pointer (some ⟨r, 0, none⟩)] w fun en w' => Ans (toldP er (lastOf g y) R).1 (toldP er (lastOf g y) R).2 en ∧ RowI r n (.func (.func f) b0 c0) N (toldP er (lastOf g y) R).1 (toldP er (lastOf g y) R).2 true w' ∧ Only (fun k => G k ∨ k = r) w w' := by
  obtain ⟨w1, hw1⟩ : ∃ w1, w1 = w.alloc (.cells #[.string ⟨#[]⟩, .string ⟨#[]⟩, .bool false] 32) := ⟨_, rfl⟩
  have K1 := Lib.hid (show Below w.heap.size w w1 by rw [hw1]; exact (Below.refl _ _).alloc (Nat.le_refl _) _)
  have R1 := Lib.hid (show C3 w.heap.size 32 (.string ⟨#[]⟩) (.string ⟨#[]⟩) (.bool false) w1 by rw [hw1]; exact heap_new w _)
  have Q1 := Lib.hid (h6.out.below K1.out)
  have N1 := Lib.hid (hR.out.below hN.out K1.out)
  have HW1 := Lib.hid hw1
  have HC := Lib.hid (hR.out.next R er w1 N1.out)
  have eF := hR.out.enter
  have x0 := Q1.out.c0
  have x5 := Q1.out.c5
  have hrz := Lib.hid (show r ≠ w.heap.size by have := hnw.out; omega)
  have hGz := Lib.hid (show ¬ G w.heap.size from fun h => by have := hR.out.low _ h; have := hnw.out; omega)
  unfold Enters at eF
  clear hw1
  go_enter Try.func35, Try.ntmps35
  go_upto_region 1 with (fail)
  rw [← HW1.out]
  go_wp2_with fail
  refine HC.out.mono ?_
  rintro en w2 ⟨hA, hN2, k2⟩
  have N2 := Lib.hid hN2
  have Q2 := Lib.hid (Q1.out.only k2 hrG.out)
  have R2 := Lib.hid (R1.out.only k2 hGz.out)
  have O2 := Lib.hid (show Only (fun k => G k ∨ k = r) w w2 from (Only.of_below' K1.out rfl).trans (k2.mono fun _ _ h => .inl h))
  clear hN2 k2 x0 x5
  cases hA with
  | ends =>
    obtain ⟨w3, hw3⟩ : ∃ w3, w3 = w2.alloc (.cells #[.string ⟨#[]⟩, .string ⟨#[]⟩, .bool false] 32) := ⟨_, rfl⟩
    have K3 := Lib.hid (show Below w2.heap.size w2 w3 by rw [hw3]; exact (Below.refl _ _).alloc (Nat.le_refl _) _)
    have Q3 := Lib.hid (Q2.out.below K3.out)
    have R3 := Lib.hid (R2.out.below K3.out)
    have O3 := Lib.hid (O2.out.trans (Only.of_below' K3.out rfl))
    have d0 := R3.out.c0
    have d1 := R3.out.c1
    have d2 := R3.out.c2
    have df := R3.out.free
    have HW3 := Lib.hid hw3
    clear hw3
    go_upto_region 4 with (fail)
    rw [← HW3.out]
    go_wp2_with fail
    refine bodyPost_ret (results_c3b rfl _ _ w.heap.size _ _ _ _ _ _ rfl rfl rfl (R3.out.put _ _ _) Try.underlying32 rfl sizeEnt) rfl ?_
    have o5 := only_put3 O3.out (Nat.le_refl _) (.string ⟨#[]⟩) (.string ⟨#[]⟩) (.bool false)
    exact ⟨Ans.ends er, ⟨Nat.le_trans hnw.out o5.size, y, g, false, Q3.out.only (put3_only _ _ _ _ _) hrz.out, .inl ⟨rfl, rfl⟩⟩, o5⟩
  | next x t =>
    obtain ⟨w3, hw3⟩ : ∃ w3, w3 = w2.alloc (.cells #[.string (bs x.key), .string (bs x.val), .bool x.gone] 32) := ⟨_, rfl⟩
    have K3 := Lib.hid (show Below w2.heap.size w2 w3 by rw [hw3]; exact (Below.refl _ _).alloc (Nat.le_refl _) _)
    have X3 := Lib.hid (show C3 w2.heap.size 32 (.string (bs x.key)) (.string (bs x.val)) (.bool x.gone) w3 by rw [hw3]; exact heap_new w2 _)
    have Q3 := Lib.hid (Q2.out.below K3.out)
    have R3 := Lib.hid (R2.out.below K3.out)
    have N3 := Lib.hid (show N t er w3 from hR.out.below (N2.out (by simp)) K3.out)
    have O3 := Lib.hid (O2.out.trans (Only.of_below' K3.out rfl))
    have hyr := Lib.hid (show r ≠ w2.heap.size from Nat.ne_of_lt (heap_lt Q2.out))
    have hyz := Lib.hid (show w.heap.size ≠ w2.heap.size from Nat.ne_of_lt (heap_lt R2.out))
    have HW3 := Lib.hid hw3
    have b0' := X3.out.c0
    have x1 := Q3.out.c1
    have x4 := Q3.out.c4
    clear hw3
    go_upto_region 4 with (fail)
    rw [← HW3.out]
    go_wp2_with fail
    cases g with
    | false =>
      have HTold := Lib.hid (show toldP er (lastOf false y) (x :: t) = (x :: (toldP er (some x.key) t).1, (toldP er (some x.key) t).2) by simp [toldP, lastOf, stops])
      go_quiet (fail)
      obtain ⟨w4, hw4⟩ : ∃ w4, w4 = w3.drewN nq := ⟨_, rfl⟩
      have K4 := Lib.hid (show Below w3.heap.size w3 w4 by rw [hw4]; exact below_drewN (Below.refl _ _) _)
      have X4 := Lib.hid (X3.out.below K4.out)
      have Q4 := Lib.hid (Q3.out.below K4.out)
      have R4 := Lib.hid (R3.out.below K4.out)
      have N4 := Lib.hid (hR.out.below N3.out K4.out)
      have O4 := Lib.hid (O3.out.trans (Only.of_below' K4.out rfl))
      have HW4 := Lib.hid hw4
      rw [← HW4.out]
      clear hw4 b0' x1 x4
      have y0 := X4.out.c0
      have y1 := X4.out.c1
      have y2 := X4.out.c2
      have q1 := Q4.out.c1
      have q2 := Q4.out.c2
      have q3 := Q4.out.c3
      have q4 := Q4.out.c4
      have q5 := Q4.out.c5
      have qf := Q4.out.free
      go_upto_region 9 with (fail)
      obtain ⟨w5, hw5⟩ : ∃ w5, w5 = ((((w4.setCell ⟨r, 1, none⟩ (.string (bs x.key))).setCell ⟨r, 2, none⟩ (.string (bs x.val))).setCell ⟨r, 3, none⟩ (.bool x.gone)).setCell ⟨r, 4, none⟩ (.bool true)).setCell ⟨r, 5, none⟩ (.bool true) := ⟨_, rfl⟩
      have o5 : Only (fun k => k = r) w4 w5 := by rw [hw5]; exact ((((((Only.refl (fun k => k = r) w4).setCell (p := ⟨r, 1, none⟩) (.inl rfl) _).setCell (p := ⟨r, 2, none⟩) (.inl rfl) _).setCell (p := ⟨r, 3, none⟩) (.inl rfl) _).setCell (p := ⟨r, 4, none⟩) (.inl rfl) _).setCell (p := ⟨r, 5, none⟩) (.inl rfl) _)
      have Q5 := Lib.hid (show Row6 r (.func (.func f) b0 c0) x true true w5 by rw [hw5]; exact Q4.out.put x true true)
      have X5 := Lib.hid (X4.out.only o5 (Ne.symm hyr.out))
      have R5 := Lib.hid (R4.out.only o5 (Ne.symm hrz.out))
      have N5 := Lib.hid (hR.out.only N4.out o5 fun k hk e => hrG.out (e ▸ hk))
      have O5 := Lib.hid (O4.out.trans (o5.mono fun _ _ h => .inr h))
      have HW5 := Lib.hid hw5
      rw [← HW5.out]
      clear hw5 o5 y0 y1 y2 q1 q2 q3 q4 q5 qf
      have y0 := X5.out.c0
      have y1 := X5.out.c1
      have y2 := X5.out.c2
      have d0 := R5.out.c0
      have d1 := R5.out.c1
      have d2 := R5.out.c2
      have df := R5.out.free
      go_wp2_with fail
      refine bodyPost_ret (results_c3b rfl _ _ w.heap.size _ _ _ _ _ _ rfl rfl rfl (R5.out.put _ _ _) Try.underlying32 rfl sizeEnt) rfl ?_
      have o6 := only_put3 O5.out (Nat.le_refl _) (.string (bs x.key)) (.string (bs x.val)) (.bool x.gone)
      rw [HTold.out]
      exact ⟨Ans.next _ _ _, ⟨Nat.le_trans hnw.out o6.size, x, true, true, Q5.out.only (put3_only _ _ _ _ _) hrz.out, .inr (.inl ⟨rfl, rfl, t, er, hR.out.only N5.out (put3_only _ _ _ _ _) fun k hk e => hGz.out (e ▸ hk), rfl, rfl⟩)⟩, o6⟩
    | true =>
      obtain ⟨p, q, hp, hq, hpq⟩ := leq_cmp x.key y.key
      have hst : (ltB y.key x.key = true ∧ p = false ∧ q = false) ∨ (ltB y.key x.key = false ∧ (p = true ∨ p = false ∧ q = true)) := by
        rcases hpq with ⟨a, b, c⟩ | ⟨a, b⟩ | ⟨a, b, c⟩
        · exact .inl ⟨a, b, c⟩
        · exact .inr ⟨a, .inl b⟩
        · exact .inr ⟨a, .inr ⟨b, c⟩⟩
      clear hpq
      rcases hst with ⟨hs, rfl, rfl⟩ | ⟨hs, hst⟩
      · have HTold := Lib.hid (show toldP er (lastOf true y) (x :: t) = (x :: (toldP er (some x.key) t).1, (toldP er (some x.key) t).2) by simp [toldP, lastOf, stops, hs])
        clear hs
        go_quiet (fail)
        obtain ⟨w4, hw4⟩ : ∃ w4, w4 = w3.drewN nq := ⟨_, rfl⟩
        have K4 := Lib.hid (show Below w3.heap.size w3 w4 by rw [hw4]; exact below_drewN (Below.refl _ _) _)
        have X4 := Lib.hid (X3.out.below K4.out)
        have Q4 := Lib.hid (Q3.out.below K4.out)
        have R4 := Lib.hid (R3.out.below K4.out)
        have N4 := Lib.hid (hR.out.below N3.out K4.out)
        have O4 := Lib.hid (O3.out.trans (Only.of_below' K4.out rfl))
        have HW4 := Lib.hid hw4
        rw [← HW4.out]
        clear hw4 b0' x1 x4 hp hq
        have y0 := X4.out.c0
        have y1 := X4.out.c1
        have y2 := X4.out.c2
        have q1 := Q4.out.c1
        have q2 := Q4.out.c2
        have q3 := Q4.out.c3
        have q4 := Q4.out.c4
        have q5 := Q4.out.c5
        have qf := Q4.out.free
        go_upto_region 9 with (fail)
        obtain ⟨w5, hw5⟩ : ∃ w5, w5 = ((((w4.setCell ⟨r, 1, none⟩ (.string (bs x.key))).setCell ⟨r, 2, none⟩ (.string (bs x.val))).setCell ⟨r, 3, none⟩ (.bool x.gone)).setCell ⟨r, 4, none⟩ (.bool true)).setCell ⟨r, 5, none⟩ (.bool true) := ⟨_, rfl⟩
        have o5 : Only (fun k => k = r) w4 w5 := by rw [hw5]; exact ((((((Only.refl (fun k => k = r) w4).setCell (p := ⟨r, 1, none⟩) (.inl rfl) _).setCell (p := ⟨r, 2, none⟩) (.inl rfl) _).setCell (p := ⟨r, 3, none⟩) (.inl rfl) _).setCell (p := ⟨r, 4, none⟩) (.inl rfl) _).setCell (p := ⟨r, 5, none⟩) (.inl rfl) _)
        have Q5 := Lib.hid (show Row6 r (.func (.func f) b0 c0) x true true w5 by rw [hw5]; exact Q4.out.put x true true)
        have X5 := Lib.hid (X4.out.only o5 (Ne.symm hyr.out))
        have R5 := Lib.hid (R4.out.only o5 (Ne.symm hrz.out))
        have N5 := Lib.hid (hR.out.only N4.out o5 fun k hk e => hrG.out (e ▸ hk))
        have O5 := Lib.hid (O4.out.trans (o5.mono fun _ _ h => .inr h))
        have HW5 := Lib.hid hw5
        rw [← HW5.out]
        clear hw5 o5 y0 y1 y2 q1 q2 q3 q4 q5 qf
        have y0 := X5.out.c0
        have y1 := X5.out.c1
        have y2 := X5.out.c2
        have d0 := R5.out.c0
        have d1 := R5.out.c1
        have d2 := R5.out.c2
        have df := R5.out.free
        go_wp2_with fail
        refine bodyPost_ret (results_c3b rfl _ _ w.heap.size _ _ _ _ _ _ rfl rfl rfl (R5.out.put _ _ _) Try.underlying32 rfl sizeEnt) rfl ?_
        have o6 := only_put3 O5.out (Nat.le_refl _) (.string (bs x.key)) (.string (bs x.val)) (.bool x.gone)
        rw [HTold.out]
        exact ⟨Ans.next _ _ _, ⟨Nat.le_trans hnw.out o6.size, x, true, true, Q5.out.only (put3_only _ _ _ _ _) hrz.out, .inr (.inl ⟨rfl, rfl, t, er, hR.out.only N5.out (put3_only _ _ _ _ _) fun k hk e => hGz.out (e ▸ hk), rfl, rfl⟩)⟩, o6⟩
      · have HTold := Lib.hid (show toldP er (lastOf true y) (x :: t) = ([], 3) by simp [toldP, lastOf, stops, hs])
        clear hs
        rcases hst with rfl | ⟨rfl, rfl⟩
        all_goals
          go_quiet (fail)
          obtain ⟨w4, hw4⟩ : ∃ w4, w4 = w3.drewN nq := ⟨_, rfl⟩
          have K4 := Lib.hid (show Below w3.heap.size w3 w4 by rw [hw4]; exact below_drewN (Below.refl _ _) _)
          have Q4 := Lib.hid (Q3.out.below K4.out)
          have R4 := Lib.hid (R3.out.below K4.out)
          have O4 := Lib.hid (O3.out.trans (Only.of_below' K4.out rfl))
          have HW4 := Lib.hid hw4
          rw [← HW4.out]
          clear hw4 b0' x1 x4 hp hq
          have d0 := R4.out.c0
          have d1 := R4.out.c1
          have d2 := R4.out.c2
          have df := R4.out.free
          go_wp2_with fail
          refine bodyPost_ret (results_c3b rfl _ _ w.heap.size _ _ _ _ _ _ rfl rfl rfl (R4.out.put _ _ _) Try.underlying32 rfl sizeEnt) rfl ?_
          have o6 := only_put3 O4.out (Nat.le_refl _) (.string ⟨#[]⟩) (.string ⟨#[]⟩) (.bool false)
          rw [HTold.out]
          exact ⟨Ans.ends _, ⟨Nat.le_trans hnw.out o6.size, y, true, false, Q4.out.only (put3_only _ _ _ _ _) hrz.out, .inl ⟨rfl, rfl⟩⟩, o6⟩
/-- A row is two such functions. -/
theorem src_row (hR : Raw f b0 c0 n0 G N) {r n : Nat} (hn : n0 ≤ n) (hr : r < n) (hrG : ¬ G r) :
    Src 35 #[.pointer (some ⟨r, 0, none⟩)] #[] 36 #[.pointer (some ⟨r, 0, none⟩)] #[] n (fun k => G k ∨ k = r) (RowI r n (.func (.func f) b0 c0) N) where
  enter1 := fun args w => by kernel_rfl
  enter2 := fun args w => by kernel_rfl
  low := fun k hk => by
    rcases hk with h | h
    · exact Nat.lt_of_lt_of_le (hR.low k h) hn
    · omega
  size := fun l e b w h => h.1
  keep := fun l e b w w' h hs k => rowI_keep hR h hs k
  weak := fun l e w hl h => by
    obtain ⟨h1, y, g, k, h6, h3⟩ := h
    refine ⟨h1, y, g, k, h6, ?_⟩
    rcases h3 with ⟨_, h5⟩ | h3 | ⟨_, h5, _⟩
    · exact absurd h5 hl
    · exact .inr (.inl h3)
    · cases h5
  look := fun l e b w h hb => by
    obtain ⟨h1, y, g, k, h6, h3⟩ := h
    rcases h3 with ⟨h4, h5⟩ | ⟨rfl, rfl, R, er, hN, rfl, rfl⟩ | ⟨rfl, rfl, R, er, hN, h5⟩
    · exact absurd h5 (hb h4)
    · refine (look_again r n _ y w (by omega) (Lib.hid h6)).mono fun en w' ⟨a, bel⟩ => ⟨a ▸ Ans.next _ _ _, ⟨Nat.le_trans h1 bel.size, y, true, true, h6.below bel, .inr (.inl ⟨rfl, rfl, R, er, hR.below hN bel, rfl, rfl⟩)⟩, Only.of_below' bel rfl⟩
    · have := look_fresh (Lib.hid hR) r n (Lib.hid hrG) hn hr y g R er w (Lib.hid h1) (Lib.hid h6) (Lib.hid hN)
      rw [h5] at this
      exact this
  drop := fun l e w key h hM => row_drop (Lib.hid hR) r n (Lib.hid hrG) _ l e w key (Lib.hid h)
end
end Go.Proofs.Ytbjokbnmfbfkjaa
