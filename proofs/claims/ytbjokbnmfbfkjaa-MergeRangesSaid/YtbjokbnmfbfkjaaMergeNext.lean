/- The program's Next, over any cursor. -/
import Derived.Test.YtbjokbnmfbfkjaaMergePeek
set_option linter.unusedVariables false
set_option maxRecDepth 100000
namespace Go.Proofs.Ytbjokbnmfbfkjaa
open Go.RowKit

theorem may_head (x : Ent) (t : List Ent) (e : Int) : May x.key (x :: t) e := ⟨fun h => absurd h (by simp), fun y hy => by injection hy with hy; rw [hy]; exact ltB_irrefl _⟩
theorem passL_head (x : Ent) (t : List Ent) : passL x.key (x :: t) = t := by simp [passL]
set_option maxHeartbeats 2000000 in
theorem cur_next {v : Value} {n : Nat} {F : Nat → Prop} {I : List Ent → Int → Bool → World → Prop} (hC : Hid (Cur v n F I)) (l : List Ent) (e : Int) (b : Bool) (w : World) (hI : Hid (I l e b w)) :
    Calls Try.prog 21 #[v] w fun en w' => Ans l e en ∧ I l.tail e l.isEmpty w' ∧ Only F w w' := by
  obtain ⟨w1, hw1⟩ : ∃ w1, w1 = w.alloc (.cells #[.string ⟨#[]⟩, .string ⟨#[]⟩, .bool false] 32) := ⟨_, rfl⟩
  have K1 := Lib.hid (show Below w.heap.size w w1 by rw [hw1]; exact (Below.refl _ _).alloc (Nat.le_refl _) _)
  have R1 := Lib.hid (show C3 w.heap.size 32 (.string ⟨#[]⟩) (.string ⟨#[]⟩) (.bool false) w1 by rw [hw1]; exact heap_new w _)
  have I1 := Lib.hid (hC.out.below hI.out K1.out)
  have HW1 := Lib.hid hw1
  have HP := Lib.hid (hC.out.peek l e b w1 I1.out)
  have hFz := Lib.hid (show ∀ k, F k → k < w.heap.size from fun k h => Nat.lt_of_lt_of_le (hC.out.low _ h) (hC.out.size _ _ _ _ hI.out))
  clear hw1
  go_enter Try.func21, Try.ntmps21
  go_upto_region 1 with (fail)
  rw [← HW1.out]
  go_wp2_with fail
  refine HP.out.mono ?_
  rintro en w2 ⟨hA, hI2, k2⟩
  have I2 := Lib.hid hI2
  have R2 := Lib.hid (R1.out.only k2 fun h => Nat.lt_irrefl _ (hFz.out _ h))
  have O2 := Lib.hid (show Only F w w2 from (Only.of_below' K1.out rfl).trans k2)
  clear hI2 k2
  cases hA with
  | ends =>
    obtain ⟨w3, hw3⟩ : ∃ w3, w3 = w2.alloc (.cells #[.string ⟨#[]⟩, .string ⟨#[]⟩, .bool false] 32) := ⟨_, rfl⟩
    have K3 := Lib.hid (show Below w2.heap.size w2 w3 by rw [hw3]; exact (Below.refl _ _).alloc (Nat.le_refl _) _)
    have X3 := Lib.hid (show C3 w2.heap.size 32 (.string ⟨#[]⟩) (.string ⟨#[]⟩) (.bool false) w3 by rw [hw3]; exact heap_new w2 _)
    have R3 := Lib.hid (R2.out.below K3.out)
    have I3 := Lib.hid (hC.out.below I2.out K3.out)
    have O3 := Lib.hid (O2.out.trans (Only.of_below' K3.out rfl))
    have b0 := X3.out.c0
    have b1' := X3.out.c1
    have b2' := X3.out.c2
    have d0 := R3.out.c0
    have d1 := R3.out.c1
    have d2 := R3.out.c2
    have df := R3.out.free
    have HW3 := Lib.hid hw3
    clear hw3
    go_upto_region 2 with (fail)
    rw [← HW3.out]
    go_wp2_with fail
    refine bodyPost_ret (results_c3b rfl _ _ w.heap.size _ _ _ _ _ _ rfl rfl rfl (R3.out.put _ _ _) Try.underlying32 rfl sizeEnt) rfl ?_
    exact ⟨Ans.ends e, hC.out.only I3.out (put3_only _ _ _ _ _) fun k hk h => Nat.lt_irrefl _ (h ▸ hFz.out k hk), only_put3 O3.out (Nat.le_refl _) _ _ _⟩
  | next x t =>
    obtain ⟨w3, hw3⟩ : ∃ w3, w3 = w2.alloc (.cells #[.string (bs x.key), .string (bs x.val), .bool x.gone] 32) := ⟨_, rfl⟩
    have K3 := Lib.hid (show Below w2.heap.size w2 w3 by rw [hw3]; exact (Below.refl _ _).alloc (Nat.le_refl _) _)
    have X3 := Lib.hid (show C3 w2.heap.size 32 (.string (bs x.key)) (.string (bs x.val)) (.bool x.gone) w3 by rw [hw3]; exact heap_new w2 _)
    have R3 := Lib.hid (R2.out.below K3.out)
    have I3 := Lib.hid (hC.out.below I2.out K3.out)
    have O3 := Lib.hid (O2.out.trans (Only.of_below' K3.out rfl))
    have hw2 := Lib.hid O2.out.size
    have HPA := Lib.hid (hC.out.pass (x :: t) e w3 x.key I3.out (may_head x t e))
    have b0 := X3.out.c0
    have HW3 := Lib.hid hw3
    clear hw3
    go_upto_region 2 with (fail)
    rw [← HW3.out]
    go_wp2_with fail
    refine HPA.out.mono ?_
    rintro en w4 ⟨rfl, hI4, k4⟩
    rw [passL_head] at hI4
    have I4 := Lib.hid hI4
    have X4 := Lib.hid (X3.out.only k4 fun h => by have := hFz.out _ h; have := hw2.out; omega)
    have R4 := Lib.hid (R3.out.only k4 fun h => Nat.lt_irrefl _ (hFz.out _ h))
    have O4 := Lib.hid (O3.out.trans k4)
    have b0 := X4.out.c0
    have b1' := X4.out.c1
    have b2' := X4.out.c2
    have d0 := R4.out.c0
    have d1 := R4.out.c1
    have d2 := R4.out.c2
    have df := R4.out.free
    clear hI4 k4
    go_wp2_with fail
    refine bodyPost_ret (results_c3b rfl _ _ w.heap.size _ _ _ _ _ _ rfl rfl rfl (R4.out.put _ _ _) Try.underlying32 rfl sizeEnt) rfl ?_
    exact ⟨Ans.next x t e, hC.out.only I4.out (put3_only _ _ _ _ _) fun k hk h => Nat.lt_irrefl _ (h ▸ hFz.out k hk), only_put3 O4.out (Nat.le_refl _) _ _ _⟩
end Go.Proofs.Ytbjokbnmfbfkjaa
