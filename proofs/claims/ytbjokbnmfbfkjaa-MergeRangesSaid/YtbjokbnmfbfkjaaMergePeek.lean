/- The program's peek and pass over two functions. -/
import Derived.Test.YtbjokbnmfbfkjaaMergeMem
set_option linter.unusedVariables false
set_option maxRecDepth 100000
namespace Go.Proofs.Ytbjokbnmfbfkjaa
open Go.RowKit

theorem only_put3 {S : Nat → Prop} {g : Nat} {a w : World} (h : Only S a w) (hB : a.heap.size ≤ g) (v0 v1 v2 : Value) : Only S a (((w.setCell ⟨g, 0, none⟩ v0).setCell ⟨g, 1, none⟩ v1).setCell ⟨g, 2, none⟩ v2) :=
  ((h.setCell (p := ⟨g, 0, none⟩) (.inr hB) v0).setCell (p := ⟨g, 1, none⟩) (.inr hB) v1).setCell (p := ⟨g, 2, none⟩) (.inr hB) v2
theorem put3_other {W : World} {g : Nat} (v0 v1 v2 : Value) : ∀ j, j ≠ g → (((W.setCell ⟨g, 0, none⟩ v0).setCell ⟨g, 1, none⟩ v1).setCell ⟨g, 2, none⟩ v2).heap[j]? = W.heap[j]? := fun j hj => by
  rw [heap_set_other hj, heap_set_other hj, heap_set_other hj]
theorem put3_only (W : World) (g : Nat) (v0 v1 v2 : Value) : Only (fun k => k = g) W (((W.setCell ⟨g, 0, none⟩ v0).setCell ⟨g, 1, none⟩ v1).setCell ⟨g, 2, none⟩ v2) :=
  (((Only.refl (fun k => k = g) W).setCell (p := ⟨g, 0, none⟩) (.inl rfl) v0).setCell (p := ⟨g, 1, none⟩) (.inl rfl) v1).setCell (p := ⟨g, 2, none⟩) (.inl rfl) v2
section
variable {f1 : Nat} {b1 c1 : Array Value} {f2 : Nat} {b2 c2 : Array Value} {n0 : Nat} {F : Nat → Prop} {I : List Ent → Int → Bool → World → Prop}
theorem over_keep (hS : Src f1 b1 c1 f2 b2 c2 n0 F I) {c n : Nat} {lk dp : Value} (hn : n0 ≤ n) {l : List Ent} {e : Int} {b : Bool} {w w' : World} (h : Over c n lk dp I l e b w) (hs : w.heap.size ≤ w'.heap.size) (k : ∀ j, F j ∨ j = c → w'.heap[j]? = w.heap[j]?) : Over c n lk dp I l e b w' := by
  rcases h with ⟨h1, h2, h3, h4⟩ | ⟨h1, h2, h3, h4⟩
  · exact .inl ⟨Nat.le_trans h1 hs, (k c (.inr rfl)).trans h2, hS.keep _ _ _ _ _ h3 hs fun j hj => k j (.inl hj), h4⟩
  · exact .inr ⟨Nat.le_trans h1 hs, (k c (.inr rfl)).trans h2, h3, fun he => hS.keep _ _ _ _ _ (h4 he) hs fun j hj => k j (.inl hj)⟩
set_option maxHeartbeats 2000000 in
theorem peek_live (hS : Hid (Src f1 b1 c1 f2 b2 c2 n0 F I)) (c n : Nat) (hn : n0 ≤ n) (hc : c < n) (hcF : Hid (¬ F c)) (l : List Ent) (e : Int) (b : Bool) (w : World)
    (hO : Hid (n ≤ w.heap.size ∧ C3 c 58 (.func (.func f1) b1 c1) (.func (.func f2) b2 c2) (.int .i64 0) w ∧ I l e b w ∧ (b = true → l ≠ []))) :
    Calls Try.prog 29 #[.pointer (some ⟨c, 0, none⟩)] w fun en w' => Ans l e en ∧ Over c n (.func (.func f1) b1 c1) (.func (.func f2) b2 c2) I l e true w' ∧ Only (fun k => F k ∨ k = c) w w' := by
  obtain ⟨w1, hw1⟩ : ∃ w1, w1 = w.alloc (.cells #[.string ⟨#[]⟩, .string ⟨#[]⟩, .bool false] 32) := ⟨_, rfl⟩
  have K1 := Lib.hid (show Below w.heap.size w w1 by rw [hw1]; exact (Below.refl _ _).alloc (Nat.le_refl _) _)
  have R1 := Lib.hid (show C3 w.heap.size 32 (.string ⟨#[]⟩) (.string ⟨#[]⟩) (.bool false) w1 by rw [hw1]; exact heap_new w _)
  have C1 := Lib.hid (hO.out.2.1.below K1.out)
  have I1 := Lib.hid (hS.out.below hO.out.2.2.1 K1.out)
  have HW1 := Lib.hid hw1
  have x0 := C1.out.c0
  have hfn := fn_look f1 b1 c1
  have eF := hS.out.enter1
  have HC := Lib.hid (hS.out.look l e b w1 I1.out hO.out.2.2.2)
  have hnw := Lib.hid hO.out.1
  unfold Enters at eF
  clear hw1
  go_enter Try.func29, Try.ntmps29
  go_upto_region 1 with (fail)
  rw [← HW1.out]
  go_wp2_with fail
  refine HC.out.mono ?_
  rintro en w2 ⟨hA, hI2, k2⟩
  have I2 := Lib.hid hI2
  have K2 := Lib.hid k2
  have hcz := Lib.hid (show c ≠ w.heap.size by have := hnw.out; omega)
  have hFz := Lib.hid (show ¬ F w.heap.size from fun h => by have := hS.out.low _ h; have := hnw.out; omega)
  have C2 := Lib.hid (C1.out.only k2 hcF.out)
  have R2 := Lib.hid (R1.out.only k2 hFz.out)
  have O2 := Lib.hid (show Only (fun k => F k ∨ k = c) w w2 from (Only.of_below' K1.out rfl).trans (K2.out.mono fun _ _ h => .inl h))
  clear hI2 k2 x0 hfn
  cases hA with
  | ends =>
    obtain ⟨w3, hw3⟩ : ∃ w3, w3 = w2.alloc (.cells #[.string ⟨#[]⟩, .string ⟨#[]⟩, .bool false] 32) := ⟨_, rfl⟩
    have K3 := Lib.hid (show Below w2.heap.size w2 w3 by rw [hw3]; exact (Below.refl _ _).alloc (Nat.le_refl _) _)
    have X3 := Lib.hid (show C3 w2.heap.size 32 (.string ⟨#[]⟩) (.string ⟨#[]⟩) (.bool false) w3 by rw [hw3]; exact heap_new w2 _)
    have C3' := Lib.hid (C2.out.below K3.out)
    have R3 := Lib.hid (R2.out.below K3.out)
    have I3 := Lib.hid (hS.out.below I2.out K3.out)
    have HW3 := Lib.hid hw3
    clear hw3
    go_upto_region 6 with (fail)
    rw [← HW3.out]
    have hcy := Lib.hid (show c ≠ w2.heap.size from Nat.ne_of_lt (heap_lt C2.out))
    obtain ⟨w4, hw4⟩ : ∃ w4, w4 = (w3.setCell ⟨c, 0, none⟩ .nilFunc).setCell ⟨c, 2, none⟩ (.int .i64 e) := ⟨_, rfl⟩
    have C4 := Lib.hid (show C3 c 58 .nilFunc (.func (.func f2) b2 c2) (.int .i64 e) w4 by rw [hw4]; exact C3'.out.put02 _ _)
    have hk4 : ∀ j, j ≠ c → w4.heap[j]? = w3.heap[j]? := fun j hj => by rw [hw4, heap_set_other hj, heap_set_other hj]
    have X4 := Lib.hid (show C3 w2.heap.size 32 (.string ⟨#[]⟩) (.string ⟨#[]⟩) (.bool false) w4 from (hk4 _ (Ne.symm hcy.out)).trans X3.out)
    have R4 := Lib.hid (show C3 w.heap.size 32 (.string ⟨#[]⟩) (.string ⟨#[]⟩) (.bool false) w4 from (hk4 _ (Ne.symm hcz.out)).trans R3.out)
    have O4 := Lib.hid (show Only (fun k => F k ∨ k = c) w w4 by
      rw [hw4]
      exact ((O2.out.trans (Only.of_below' K3.out rfl)).setCell (p := ⟨c, 0, none⟩) (.inl (.inr rfl)) _).setCell (p := ⟨c, 2, none⟩) (.inl (.inr rfl)) _)
    have I4 := Lib.hid (show I [] e true w4 from hS.out.only I3.out (S := fun k => k = c) (by rw [hw4]; exact ((Only.refl (fun k => k = c) w3).setCell (p := ⟨c, 0, none⟩) (.inl rfl) .nilFunc).setCell (p := ⟨c, 2, none⟩) (.inl rfl) (.int .i64 e)) fun k hk e => hcF.out (e ▸ hk))
    have a0 := C3'.out.c0
    have a2 := C3'.out.c2
    have af := C3'.out.free
    have b0 := X4.out.c0
    have b1' := X4.out.c1
    have b2' := X4.out.c2
    have d0 := R4.out.c0
    have d1 := R4.out.c1
    have d2 := R4.out.c2
    have df := R4.out.free
    have HW4 := Lib.hid hw4
    clear hw4 hk4
    go_upto_region 8 with (fail)
    rw [← HW4.out]
    go_wp2_with fail
    refine bodyPost_ret (results_c3b rfl _ _ w.heap.size _ _ _ _ _ _ rfl rfl rfl (R4.out.put _ _ _) Try.underlying32 rfl sizeEnt) rfl ?_
    have hOv : Over c n (.func (.func f1) b1 c1) (.func (.func f2) b2 c2) I [] e true w4 := .inr ⟨Nat.le_trans hnw.out O4.out.size, C4.out, rfl, fun he => he ▸ I4.out⟩
    refine ⟨Ans.ends e, over_keep hS.out hn hOv (put3_only _ _ _ _ _).size fun j hj => put3_other _ _ _ j ?_, only_put3 O4.out (Nat.le_refl _) _ _ _⟩
    rintro rfl
    exact hj.elim hFz.out fun h => hcz.out h.symm
  | next x t =>
    obtain ⟨w3, hw3⟩ : ∃ w3, w3 = w2.alloc (.cells #[.string (bs x.key), .string (bs x.val), .bool x.gone] 32) := ⟨_, rfl⟩
    have K3 := Lib.hid (show Below w2.heap.size w2 w3 by rw [hw3]; exact (Below.refl _ _).alloc (Nat.le_refl _) _)
    have X3 := Lib.hid (show C3 w2.heap.size 32 (.string (bs x.key)) (.string (bs x.val)) (.bool x.gone) w3 by rw [hw3]; exact heap_new w2 _)
    have C3' := Lib.hid (C2.out.below K3.out)
    have R3 := Lib.hid (R2.out.below K3.out)
    have I3 := Lib.hid (hS.out.below I2.out K3.out)
    have O3 := Lib.hid (O2.out.trans (Only.of_below' K3.out rfl))
    have b0 := X3.out.c0
    have b1' := X3.out.c1
    have b2' := X3.out.c2
    have d0 := R3.out.c0
    have d1 := R3.out.c1
    have d2 := R3.out.c2
    have df := R3.out.free
    have HW3 := Lib.hid hw3
    clear hw3
    go_upto_region 6 with (fail)
    rw [← HW3.out]
    go_wp2_with fail
    refine bodyPost_ret (results_c3b rfl _ _ w.heap.size _ _ _ _ _ _ rfl rfl rfl (R3.out.put _ _ _) Try.underlying32 rfl sizeEnt) rfl ?_
    have hOv : Over c n (.func (.func f1) b1 c1) (.func (.func f2) b2 c2) I (x :: t) e true w3 := .inl ⟨Nat.le_trans hnw.out O3.out.size, C3'.out, I3.out, fun _ => by simp⟩
    refine ⟨Ans.next x t e, over_keep hS.out hn hOv (put3_only _ _ _ _ _).size fun j hj => put3_other _ _ _ j ?_, only_put3 O3.out (Nat.le_refl _) _ _ _⟩
    rintro rfl
    exact hj.elim hFz.out fun h => hcz.out h.symm
set_option maxHeartbeats 2000000 in
theorem peek_ended (hS : Hid (Src f1 b1 c1 f2 b2 c2 n0 F I)) (c n : Nat) (hn : n0 ≤ n) (hc : c < n) (hcF : Hid (¬ F c)) (e : Int) (dp : Value) (w : World)
    (hO : Hid (n ≤ w.heap.size ∧ C3 c 58 .nilFunc dp (.int .i64 e) w ∧ (e = 0 → I [] 0 true w))) :
    Calls Try.prog 29 #[.pointer (some ⟨c, 0, none⟩)] w fun en w' => Ans [] e en ∧ Over c n (.func (.func f1) b1 c1) dp I [] e true w' ∧ Only (fun k => F k ∨ k = c) w w' := by
  obtain ⟨w1, hw1⟩ : ∃ w1, w1 = w.alloc (.cells #[.string ⟨#[]⟩, .string ⟨#[]⟩, .bool false] 32) := ⟨_, rfl⟩
  have K1 := Lib.hid (show Below w.heap.size w w1 by rw [hw1]; exact (Below.refl _ _).alloc (Nat.le_refl _) _)
  have R1 := Lib.hid (show C3 w.heap.size 32 (.string ⟨#[]⟩) (.string ⟨#[]⟩) (.bool false) w1 by rw [hw1]; exact heap_new w _)
  have C1 := Lib.hid (hO.out.2.1.below K1.out)
  have I1 := Lib.hid (fun he => hS.out.below (hO.out.2.2 he) K1.out)
  have HW1 := Lib.hid hw1
  have x0 := C1.out.c0
  have x2 := C1.out.c2
  have d0 := R1.out.c0
  have d1 := R1.out.c1
  have d2 := R1.out.c2
  have df := R1.out.free
  have hfn : ∀ w, (binOp .eql 47 .nilFunc .nilFunc).run Try.prog w = .ok (.bool true) w := fun w => by kernel_rfl
  have hnw := Lib.hid hO.out.1
  have hcz := Lib.hid (show c ≠ w.heap.size by have := hnw.out; omega)
  have hFz := Lib.hid (show ¬ F w.heap.size from fun h => by have := hS.out.low _ h; have := hnw.out; omega)
  have x3 : (((w1.setCell ⟨w.heap.size, 0, none⟩ (.string ⟨#[]⟩)).setCell ⟨w.heap.size, 1, none⟩ (.string ⟨#[]⟩)).setCell ⟨w.heap.size, 2, none⟩ (.bool false)).cell? ⟨c, 2, none⟩ = some (.int .i64 e) := cell_same x2 (put3_other _ _ _ c hcz.out)
  have x4 : (((w1.setCell ⟨w.heap.size, 0, none⟩ (.string ⟨#[]⟩)).setCell ⟨w.heap.size, 1, none⟩ (.string ⟨#[]⟩)).setCell ⟨w.heap.size, 2, none⟩ (.bool false)).drew.cell? ⟨c, 2, none⟩ = some (.int .i64 e) := x3
  have x5 : (((w1.drew.setCell ⟨w.heap.size, 0, none⟩ (.string ⟨#[]⟩)).setCell ⟨w.heap.size, 1, none⟩ (.string ⟨#[]⟩)).setCell ⟨w.heap.size, 2, none⟩ (.bool false)).cell? ⟨c, 2, none⟩ = some (.int .i64 e) := by rw [← set3_drew]; exact x3
  have d0' : w1.drew.cell? ⟨w.heap.size, 0, none⟩ = some (.string ⟨#[]⟩) := d0
  have d1' : w1.drew.cell? ⟨w.heap.size, 1, none⟩ = some (.string ⟨#[]⟩) := d1
  have d2' : w1.drew.cell? ⟨w.heap.size, 2, none⟩ = some (.bool false) := d2
  have df' : ∀ j, w1.drew.frozen? ⟨w.heap.size, j, none⟩ = false := df
  clear hw1
  go_enter Try.func29, Try.ntmps29
  go_upto_region 1 with (fail)
  rw [← HW1.out]
  go_wp2_with fail
  go_region
  all_goals
    go_wp2_with fail
    simp only [set3_drew]
    have R2 : C3 w.heap.size 32 (.string ⟨#[]⟩) (.string ⟨#[]⟩) (.bool false) w1.drew := R1.out
    refine bodyPost_ret (results_c3b rfl _ _ w.heap.size _ _ _ _ _ _ rfl rfl rfl (R2.put _ _ _) Try.underlying32 rfl sizeEnt) rfl ?_
    have hOv : Over c n (.func (.func f1) b1 c1) dp I [] e true w1 := .inr ⟨Nat.le_trans hnw.out K1.out.size, C1.out, rfl, I1.out⟩
    refine ⟨Ans.ends e, over_keep hS.out hn hOv (put3_only w1.drew _ _ _ _).size fun j hj => put3_other (W := w1.drew) _ _ _ j ?_, only_put3 (Only.drew (Only.of_below' K1.out rfl)) (Nat.le_refl _) _ _ _⟩
    rintro rfl
    exact hj.elim hFz.out fun h => hcz.out h.symm
set_option maxHeartbeats 2000000 in
theorem pass_any (hS : Hid (Src f1 b1 c1 f2 b2 c2 n0 F I)) (c : Nat) (l : List Ent) (e : Int) (w : World) (key : List UInt8) (hM : Hid (May key l e)) (hI : Hid (I l e true w)) (hc : w.cell? ⟨c, 1, none⟩ = some (.func (.func f2) b2 c2)) :
    Calls Try.prog 30 #[.pointer (some ⟨c, 0, none⟩), .string (bs key)] w fun en w' => en = .returned (.tuple #[]) ∧ I (passL key l) e l.isEmpty w' ∧ Only F w w' := by
  have hfn := fn_drop f2 b2 c2
  have eF := hS.out.enter2
  have HC := Lib.hid (hS.out.drop l e w key hI.out hM.out)
  unfold Enters at eF
  go_enter Try.func30, Try.ntmps30
  go_wp2_with fail
  refine HC.out.mono ?_
  rintro en w2 ⟨rfl, hI2, k2⟩
  have I2 := Lib.hid hI2
  have K2 := Lib.hid k2
  clear hI2 k2 hc hfn
  go_wp2_with fail
  go_end0
  exact ⟨rfl, I2.out, K2.out⟩
/-- Two such functions are a cursor. -/
theorem cur_over (hS : Src f1 b1 c1 f2 b2 c2 n0 F I) {c n : Nat} (hn : n0 ≤ n) (hc : c < n) (hcF : ¬ F c) :
    Cur (.pointer (some ⟨c, 0, none⟩)) n (fun k => F k ∨ k = c) (Over c n (.func (.func f1) b1 c1) (.func (.func f2) b2 c2) I) where
  low := fun k hk => by
    rcases hk with h | h
    · exact Nat.lt_of_lt_of_le (hS.low k h) hn
    · omega
  size := fun l e b w h => by rcases h with h | h <;> exact h.1
  keep := fun l e b w w' h hs k => over_keep hS hn h hs k
  weak := fun l e w h => by
    rcases h with ⟨h1, h2, h3, h4⟩ | h
    · exact .inl ⟨h1, h2, hS.weak _ _ _ (h4 rfl) h3, fun h => by cases h⟩
    · exact .inr h
  peek := fun l e b w h => by
    rcases h with h | ⟨h1, h2, h3, h4⟩
    · exact peek_live (Lib.hid hS) c n hn hc (Lib.hid hcF) l e b w (Lib.hid h)
    · subst h3
      exact peek_ended (Lib.hid hS) c n hn hc (Lib.hid hcF) e _ w (Lib.hid ⟨h1, h2, h4⟩)
  pass := fun l e w key h hM => by
    rcases h with ⟨h1, h2, h3, h4⟩ | ⟨h1, h2, h3, h4⟩
    · refine (pass_any (Lib.hid hS) c l e w key (Lib.hid hM) (Lib.hid h3) h2.c1).mono fun en w' ⟨a, b, d⟩ => ⟨a, .inl ⟨Nat.le_trans h1 d.size, h2.only d hcF, b, fun h => absurd (List.isEmpty_iff.1 h) (h4 rfl)⟩, d.mono fun _ _ h => .inl h⟩
    · subst h3
      have he := hM.1 rfl
      subst he
      refine (pass_any (Lib.hid hS) c [] 0 w key (Lib.hid hM) (Lib.hid (h4 rfl)) h2.c1).mono fun en w' ⟨a, b, d⟩ => ⟨a, .inr ⟨Nat.le_trans h1 d.size, h2.only d hcF, rfl, fun _ => b⟩, d.mono fun _ _ h => .inl h⟩
end
end Go.Proofs.Ytbjokbnmfbfkjaa
