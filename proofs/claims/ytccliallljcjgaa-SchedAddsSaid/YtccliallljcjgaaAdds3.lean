/- Those that add: the step that sets the cell. -/
import Derived.Test.YtccliallljcjgaaAdds2
set_option linter.unusedVariables false
namespace Go.Proofs.Ytccliallljcjgaa
open Go.RowKit


set_option maxHeartbeats 8000000 in
set_option maxRecDepth 100000 in
theorem adds_set_lock {w : World} {bs cb c sn mb m lf ld st : Nat} {v l : Int} {G : Nat} {caps : Array Value} {i : Nat} (H : SetM w bs cb c sn mb m lf ld false v v v (i : Int) l (.func (.func G) #[] caps)) (hi : i < 16) (hv : 0 ≤ v ∧ v < 1000) (hl : 1 < l ∧ l ≤ 20) :
    Calls Try.prog 26 #[.int .i64 (i : Int), .pointer (some ⟨bs, 0, none⟩), .pointer (some ⟨cb, 0, none⟩), .pointer (some ⟨sn, 0, none⟩), .pointer (some ⟨mb, 0, none⟩), .pointer (some ⟨st, 0, none⟩), .pointer (some ⟨lf, 0, none⟩), .pointer (some ⟨ld, 0, none⟩)] w fun e w' => e = .returned (.agg #[.func (.func G) #[] caps, .pointer (some ⟨m, 0, none⟩)]) ∧
      w'.heap[c]? = some (.cells #[.int .i64 (v + 1), .int .i64 (v + 1)] 86 (0, 0)) ∧ w'.heap[m]? = some (.cells #[.int .i64 (-1)] 83 (0, 0)) ∧ w'.heap[lf]? = some (.cells #[.int .i64 (l - 1)] 3 (0, 0)) ∧ Only (fun j => j = c ∨ j = m ∨ j = lf) w w' := by
  obtain ⟨w1, hw1⟩ : ∃ w1, w1 = w.alloc (.cells #[.nilFunc, .pointer none] 60) := ⟨_, rfl⟩
  obtain ⟨f, hf⟩ : ∃ f, f = Value.func (.func G) #[] caps := ⟨_, rfl⟩
  rw [← hf] at H
  have hB : Below w.heap.size w w1 := by rw [hw1]; exact (Below.refl _ _).alloc (Nat.le_refl _) _
  have b5 : w1.heap[w.heap.size]? = some (.cells #[.nilFunc, .pointer none] 60 (0, 0)) := by rw [hw1]; exact heap_new w _
  have K := H.below hB
  have hO : Only (fun j => j = c ∨ j = m ∨ j = lf) w w1 := Only.of_below hB (fun k h1 h2 => absurd h2 (by omega))
  have n1 : c ≠ w.heap.size := Nat.ne_of_lt (heap_lt H.c)
  have n2 : m ≠ w.heap.size := Nat.ne_of_lt (heap_lt H.m)
  have n3 : lf ≠ w.heap.size := Nat.ne_of_lt (heap_lt H.lf)
  have n4 : ld ≠ w.heap.size := Nat.ne_of_lt (heap_lt H.ld)
  have n5 : m ≠ c := ne_types H.m H.c (by decide)
  have n6 : lf ≠ c := ne_types H.lf H.c (by decide)
  have n7 : lf ≠ m := ne_types H.lf H.m (by decide)
  have n8 : ld ≠ c := ne_types H.ld H.c (by decide)
  have n9 : ld ≠ m := ne_types H.ld H.m (by decide)
  have n10 : ld ≠ lf := ne_types H.ld H.lf (by decide)
  have n11 : mb ≠ c := ne_types H.mb H.c (by decide)
  have n12 : mb ≠ m := ne_types H.mb H.m (by decide)
  have n13 : mb ≠ lf := ne_types H.mb H.lf (by decide)
  have n14 : bs ≠ c := ne_types H.bs H.c (by decide)
  have n15 : bs ≠ m := ne_types H.bs H.m (by decide)
  have n16 : bs ≠ lf := ne_types H.bs H.lf (by decide)
  have n17 : mb ≠ w.heap.size := Nat.ne_of_lt (heap_lt H.mb)
  have n18 : bs ≠ w.heap.size := Nat.ne_of_lt (heap_lt H.bs)
  have c1 : w1.cell? ⟨bs, 0, none⟩ = some (.bool false) := by simp [World.cell?, K.bs]
  have c2 : w1.cell? ⟨cb, 0, none⟩ = some (.pointer (some ⟨c, 0, none⟩)) := by simp [World.cell?, K.cb]
  have c3 : w1.cell? ⟨c, 0, none⟩ = some (.int .i64 v) := by simp [World.cell?, K.c]
  have c3' : w1.cell? ⟨c, 1, none⟩ = some (.int .i64 v) := by simp [World.cell?, K.c]
  have f3 : w1.frozen? ⟨c, 0, none⟩ = false := by simp [World.frozen?, K.c]
  have f3' : w1.frozen? ⟨c, 1, none⟩ = false := by simp [World.frozen?, K.c]
  have c4 : w1.cell? ⟨sn, 0, none⟩ = some (.int .i64 v) := by simp [World.cell?, K.sn]
  have c5 : w1.cell? ⟨mb, 0, none⟩ = some (.pointer (some ⟨m, 0, none⟩)) := by simp [World.cell?, K.mb]
  have c6 : w1.cell? ⟨m, 0, none⟩ = some (.int .i64 (i : Int)) := by simp [World.cell?, K.m]
  have f6 : w1.frozen? ⟨m, 0, none⟩ = false := by simp [World.frozen?, K.m]
  have c7 : w1.cell? ⟨lf, 0, none⟩ = some (.int .i64 l) := by simp [World.cell?, K.lf]
  have f7 : w1.frozen? ⟨lf, 0, none⟩ = false := by simp [World.frozen?, K.lf]
  have c8 : w1.cell? ⟨ld, 0, none⟩ = some f := by simp [World.cell?, K.ld]
  have c9 : w1.cell? ⟨w.heap.size, 0, none⟩ = some .nilFunc := by simp [World.cell?, b5]
  have c9' : w1.cell? ⟨w.heap.size, 1, none⟩ = some (.pointer none) := by simp [World.cell?, b5]
  have f9 : w1.frozen? ⟨w.heap.size, 0, none⟩ = false := by simp [World.frozen?, b5]
  have f9' : w1.frozen? ⟨w.heap.size, 1, none⟩ = false := by simp [World.frozen?, b5]
  have z1 : wrap64 (v + 1) = v + 1 := by rw [wrap_64, IntKind.wrap_i64]; omega
  have z2 : IntKind.i64.wrap (v + 1) = v + 1 := by rw [IntKind.wrap_i64]; omega
  have E := Lib.hid (show (((((((w1.setCell ⟨c, 0, none⟩ (.int .i64 (v + 1))).setCell ⟨c, 1, none⟩ (.int .i64 (v + 1))).setCell ⟨m, 0, none⟩ (.int .i64 (-1))).setCell ⟨lf, 0, none⟩ (.int .i64 (l - 1))).setCell ⟨w.heap.size, 0, none⟩ (f)).setCell ⟨w.heap.size, 1, none⟩ (.pointer (some ⟨m, 0, none⟩))).heap[c]? = some (.cells #[.int .i64 (v + 1), .int .i64 (v + 1)] 86 (0, 0)) ∧ ((((((w1.setCell ⟨c, 0, none⟩ (.int .i64 (v + 1))).setCell ⟨c, 1, none⟩ (.int .i64 (v + 1))).setCell ⟨m, 0, none⟩ (.int .i64 (-1))).setCell ⟨lf, 0, none⟩ (.int .i64 (l - 1))).setCell ⟨w.heap.size, 0, none⟩ (f)).setCell ⟨w.heap.size, 1, none⟩ (.pointer (some ⟨m, 0, none⟩))).heap[m]? = some (.cells #[.int .i64 (-1)] 83 (0, 0)) ∧ ((((((w1.setCell ⟨c, 0, none⟩ (.int .i64 (v + 1))).setCell ⟨c, 1, none⟩ (.int .i64 (v + 1))).setCell ⟨m, 0, none⟩ (.int .i64 (-1))).setCell ⟨lf, 0, none⟩ (.int .i64 (l - 1))).setCell ⟨w.heap.size, 0, none⟩ (f)).setCell ⟨w.heap.size, 1, none⟩ (.pointer (some ⟨m, 0, none⟩))).heap[lf]? = some (.cells #[.int .i64 (l - 1)] 3 (0, 0)) ∧ Only (fun j => j = c ∨ j = m ∨ j = lf) w ((((((w1.setCell ⟨c, 0, none⟩ (.int .i64 (v + 1))).setCell ⟨c, 1, none⟩ (.int .i64 (v + 1))).setCell ⟨m, 0, none⟩ (.int .i64 (-1))).setCell ⟨lf, 0, none⟩ (.int .i64 (l - 1))).setCell ⟨w.heap.size, 0, none⟩ (f)).setCell ⟨w.heap.size, 1, none⟩ (.pointer (some ⟨m, 0, none⟩)))) from by
    refine ⟨?_, ?_, ?_, ((((((hO.setCell (p := ⟨c, 0, none⟩) (.inl (.inl rfl)) (.int .i64 (v + 1))).setCell (p := ⟨c, 1, none⟩) (.inl (.inl rfl)) (.int .i64 (v + 1))).setCell (p := ⟨m, 0, none⟩) (.inl (.inr (.inl rfl))) (.int .i64 (-1))).setCell (p := ⟨lf, 0, none⟩) (.inl (.inr (.inr rfl))) (.int .i64 (l - 1))).setCell (p := ⟨w.heap.size, 0, none⟩) (.inr (Nat.le_refl _)) (f)).setCell (p := ⟨w.heap.size, 1, none⟩) (.inr (Nat.le_refl _)) (.pointer (some ⟨m, 0, none⟩)))⟩
    · rw [heap_set_other n1, heap_set_other n1]
      rw [heap_set_other (Ne.symm n6)]
      rw [heap_set_other (Ne.symm n5)]
      have a := heap_set (o := 1) (heap_set (o := 0) K.c (.int .i64 (v + 1))) (.int .i64 (v + 1))
      rw [a]
      rfl
    · rw [heap_set_other n2, heap_set_other n2]
      rw [heap_set_other (Ne.symm n7)]
      have a := heap_set (w := (w1.setCell ⟨c, 0, none⟩ (.int .i64 (v + 1))).setCell ⟨c, 1, none⟩ (.int .i64 (v + 1))) (o := 0) (((heap_set_other n5 _).trans (heap_set_other n5 _)).trans K.m) (.int .i64 (-1))
      rw [a]; rfl
    · rw [heap_set_other n3, heap_set_other n3]
      have a := heap_set (w := ((w1.setCell ⟨c, 0, none⟩ (.int .i64 (v + 1))).setCell ⟨c, 1, none⟩ (.int .i64 (v + 1))).setCell ⟨m, 0, none⟩ (.int .i64 (-1))) (o := 0) ((heap_set_other n7 _).trans (((heap_set_other n6 _).trans (heap_set_other n6 _)).trans K.lf)) (.int .i64 (l - 1))
      rw [a]; rfl)
  have HH := Lib.hid (show ((((((w1.setCell ⟨c, 0, none⟩ (.int .i64 (v + 1))).setCell ⟨c, 1, none⟩ (.int .i64 (v + 1))).setCell ⟨m, 0, none⟩ (.int .i64 (-1))).setCell ⟨lf, 0, none⟩ (.int .i64 (l - 1))).setCell ⟨w.heap.size, 0, none⟩ (f)).setCell ⟨w.heap.size, 1, none⟩ (.pointer (some ⟨m, 0, none⟩))).heap[w.heap.size]? = some (.cells #[f, .pointer (some ⟨m, 0, none⟩)] 60 (0, 0)) from by
    have a := b5
    have a := (heap_set_other (w := w1) (o := 0) (Ne.symm n1) (.int .i64 (v + 1))).trans a
    have a := (heap_set_other (o := 1) (Ne.symm n1) (.int .i64 (v + 1))).trans a
    have a := (heap_set_other (o := 0) (Ne.symm n2) (.int .i64 (-1))).trans a
    have a := (heap_set_other (o := 0) (Ne.symm n3) (.int .i64 (l - 1))).trans a
    have a := heap_set (o := 1) (heap_set (o := 0) a (f)) (.pointer (some ⟨m, 0, none⟩))
    exact a)
  have HW := Lib.hid hw1
  have ST := Lib.hid (by have a := cell_Store (w := w1) (c := c) (v := v) (s := v) (v + 1) c3 c3' f3 f3'; rw [z1] at a; exact a)
  obtain ⟨w2, hw2⟩ : ∃ w2, w2 = (w1.setCell ⟨c, 0, none⟩ (.int .i64 (v + 1))).setCell ⟨c, 1, none⟩ (.int .i64 (v + 1)) := ⟨_, rfl⟩
  have d6 : w2.heap[m]? = some (.cells #[.int .i64 (i : Int)] 83 (0, 0)) := by rw [hw2]; exact ((heap_set_other n5 _).trans (heap_set_other n5 _)).trans K.m
  have e6 : w2.cell? ⟨m, 0, none⟩ = some (.int .i64 (i : Int)) := by simp [World.cell?, d6]
  have g6 : w2.frozen? ⟨m, 0, none⟩ = false := by simp [World.frozen?, d6]
  have HO := Lib.hid (mutex_Holder (w := w2) (m := ⟨m, 0, none⟩) e6)
  have FN := Lib.hid (mutex_Free_not (w := w2) (m := m) (v := (i : Int)) (i := (i : Int) + 1) e6 (.inr (by omega)))
  have FD := Lib.hid (mutex_Free_does (w := w2) (m := m) (i := (i : Int)) e6 g6 (by omega))
  clear d6 e6 g6
  rw [hw2] at HO FN FD
  have x1 : IntKind.i64.wrap ((i : Int) + 1) = (i : Int) + 1 := by rw [IntKind.wrap_i64]; omega
  have x2 : ((i : Int) != (i : Int)) = false := by simp
  clear hw2 w2
  have y1 : IntKind.i64.wrap (l - 1) = l - 1 := by rw [IntKind.wrap_i64]; omega
  have y2 : wrap64 (l - 1) = l - 1 := by rw [wrap_64, IntKind.wrap_i64]; omega
  have y3 : (l - 1 == 0) = false := by simp; omega
  clear hB b5 K hO hw1 H
  go_enter Try.func26, Try.ntmps26
  go_upto_region 1 with fail
  rw [← HW.out]
  subst hf
  go_wp2_with fail
  refine ST.out.mono ?_
  rintro e w' ⟨rfl, rfl⟩
  go_wp2_with fail
  refine HO.out.mono ?_
  rintro e w' ⟨rfl, rfl⟩
  go_wp2_with fail
  refine FN.out.mono ?_
  rintro e w' ⟨rfl, rfl⟩
  go_wp2_with fail
  refine FD.out.mono ?_
  rintro e w' ⟨rfl, rfl⟩
  go_wp2_with fail
  refine bodyPost_ret (v := .agg #[_, .pointer (some ⟨m, 0, none⟩)]) (results_cell_row rfl _ _ w.heap.size 60 _ (0, 0) _ rfl HH.out Try.underlying60 rfl info60) rfl ?_
  exact ⟨rfl, E.out.1, E.out.2.1, E.out.2.2.1, E.out.2.2.2⟩

set_option maxHeartbeats 8000000 in
set_option maxRecDepth 100000 in
theorem adds_set_lock_last {w : World} {bs cb c sn mb m lf ld st : Nat} {v l : Int} {G : Nat} {caps : Array Value} {i : Nat} (H : SetM w bs cb c sn mb m lf ld false v v v (i : Int) l (.func (.func G) #[] caps)) (hi : i < 16) (hv : 0 ≤ v ∧ v < 1000) (hl : l = 1) :
    Calls Try.prog 26 #[.int .i64 (i : Int), .pointer (some ⟨bs, 0, none⟩), .pointer (some ⟨cb, 0, none⟩), .pointer (some ⟨sn, 0, none⟩), .pointer (some ⟨mb, 0, none⟩), .pointer (some ⟨st, 0, none⟩), .pointer (some ⟨lf, 0, none⟩), .pointer (some ⟨ld, 0, none⟩)] w fun e w' => e = .returned (.agg #[.nilFunc, .pointer none]) ∧
      w'.heap[c]? = some (.cells #[.int .i64 (v + 1), .int .i64 (v + 1)] 86 (0, 0)) ∧ w'.heap[m]? = some (.cells #[.int .i64 (-1)] 83 (0, 0)) ∧ w'.heap[lf]? = some (.cells #[.int .i64 (l - 1)] 3 (0, 0)) ∧ Only (fun j => j = c ∨ j = m ∨ j = lf) w w' := by
  obtain ⟨w1, hw1⟩ : ∃ w1, w1 = w.alloc (.cells #[.nilFunc, .pointer none] 60) := ⟨_, rfl⟩
  obtain ⟨f, hf⟩ : ∃ f, f = Value.func (.func G) #[] caps := ⟨_, rfl⟩
  rw [← hf] at H
  have hB : Below w.heap.size w w1 := by rw [hw1]; exact (Below.refl _ _).alloc (Nat.le_refl _) _
  have b5 : w1.heap[w.heap.size]? = some (.cells #[.nilFunc, .pointer none] 60 (0, 0)) := by rw [hw1]; exact heap_new w _
  have K := H.below hB
  have hO : Only (fun j => j = c ∨ j = m ∨ j = lf) w w1 := Only.of_below hB (fun k h1 h2 => absurd h2 (by omega))
  have n1 : c ≠ w.heap.size := Nat.ne_of_lt (heap_lt H.c)
  have n2 : m ≠ w.heap.size := Nat.ne_of_lt (heap_lt H.m)
  have n3 : lf ≠ w.heap.size := Nat.ne_of_lt (heap_lt H.lf)
  have n4 : ld ≠ w.heap.size := Nat.ne_of_lt (heap_lt H.ld)
  have n5 : m ≠ c := ne_types H.m H.c (by decide)
  have n6 : lf ≠ c := ne_types H.lf H.c (by decide)
  have n7 : lf ≠ m := ne_types H.lf H.m (by decide)
  have n8 : ld ≠ c := ne_types H.ld H.c (by decide)
  have n9 : ld ≠ m := ne_types H.ld H.m (by decide)
  have n10 : ld ≠ lf := ne_types H.ld H.lf (by decide)
  have n11 : mb ≠ c := ne_types H.mb H.c (by decide)
  have n12 : mb ≠ m := ne_types H.mb H.m (by decide)
  have n13 : mb ≠ lf := ne_types H.mb H.lf (by decide)
  have n14 : bs ≠ c := ne_types H.bs H.c (by decide)
  have n15 : bs ≠ m := ne_types H.bs H.m (by decide)
  have n16 : bs ≠ lf := ne_types H.bs H.lf (by decide)
  have n17 : mb ≠ w.heap.size := Nat.ne_of_lt (heap_lt H.mb)
  have n18 : bs ≠ w.heap.size := Nat.ne_of_lt (heap_lt H.bs)
  have c1 : w1.cell? ⟨bs, 0, none⟩ = some (.bool false) := by simp [World.cell?, K.bs]
  have c2 : w1.cell? ⟨cb, 0, none⟩ = some (.pointer (some ⟨c, 0, none⟩)) := by simp [World.cell?, K.cb]
  have c3 : w1.cell? ⟨c, 0, none⟩ = some (.int .i64 v) := by simp [World.cell?, K.c]
  have c3' : w1.cell? ⟨c, 1, none⟩ = some (.int .i64 v) := by simp [World.cell?, K.c]
  have f3 : w1.frozen? ⟨c, 0, none⟩ = false := by simp [World.frozen?, K.c]
  have f3' : w1.frozen? ⟨c, 1, none⟩ = false := by simp [World.frozen?, K.c]
  have c4 : w1.cell? ⟨sn, 0, none⟩ = some (.int .i64 v) := by simp [World.cell?, K.sn]
  have c5 : w1.cell? ⟨mb, 0, none⟩ = some (.pointer (some ⟨m, 0, none⟩)) := by simp [World.cell?, K.mb]
  have c6 : w1.cell? ⟨m, 0, none⟩ = some (.int .i64 (i : Int)) := by simp [World.cell?, K.m]
  have f6 : w1.frozen? ⟨m, 0, none⟩ = false := by simp [World.frozen?, K.m]
  have c7 : w1.cell? ⟨lf, 0, none⟩ = some (.int .i64 l) := by simp [World.cell?, K.lf]
  have f7 : w1.frozen? ⟨lf, 0, none⟩ = false := by simp [World.frozen?, K.lf]
  have c8 : w1.cell? ⟨ld, 0, none⟩ = some f := by simp [World.cell?, K.ld]
  have c9 : w1.cell? ⟨w.heap.size, 0, none⟩ = some .nilFunc := by simp [World.cell?, b5]
  have c9' : w1.cell? ⟨w.heap.size, 1, none⟩ = some (.pointer none) := by simp [World.cell?, b5]
  have f9 : w1.frozen? ⟨w.heap.size, 0, none⟩ = false := by simp [World.frozen?, b5]
  have f9' : w1.frozen? ⟨w.heap.size, 1, none⟩ = false := by simp [World.frozen?, b5]
  have z1 : wrap64 (v + 1) = v + 1 := by rw [wrap_64, IntKind.wrap_i64]; omega
  have z2 : IntKind.i64.wrap (v + 1) = v + 1 := by rw [IntKind.wrap_i64]; omega
  have E := Lib.hid (show (((((((w1.setCell ⟨c, 0, none⟩ (.int .i64 (v + 1))).setCell ⟨c, 1, none⟩ (.int .i64 (v + 1))).setCell ⟨m, 0, none⟩ (.int .i64 (-1))).setCell ⟨lf, 0, none⟩ (.int .i64 (l - 1))).setCell ⟨w.heap.size, 0, none⟩ (.nilFunc)).setCell ⟨w.heap.size, 1, none⟩ (.pointer none)).heap[c]? = some (.cells #[.int .i64 (v + 1), .int .i64 (v + 1)] 86 (0, 0)) ∧ ((((((w1.setCell ⟨c, 0, none⟩ (.int .i64 (v + 1))).setCell ⟨c, 1, none⟩ (.int .i64 (v + 1))).setCell ⟨m, 0, none⟩ (.int .i64 (-1))).setCell ⟨lf, 0, none⟩ (.int .i64 (l - 1))).setCell ⟨w.heap.size, 0, none⟩ (.nilFunc)).setCell ⟨w.heap.size, 1, none⟩ (.pointer none)).heap[m]? = some (.cells #[.int .i64 (-1)] 83 (0, 0)) ∧ ((((((w1.setCell ⟨c, 0, none⟩ (.int .i64 (v + 1))).setCell ⟨c, 1, none⟩ (.int .i64 (v + 1))).setCell ⟨m, 0, none⟩ (.int .i64 (-1))).setCell ⟨lf, 0, none⟩ (.int .i64 (l - 1))).setCell ⟨w.heap.size, 0, none⟩ (.nilFunc)).setCell ⟨w.heap.size, 1, none⟩ (.pointer none)).heap[lf]? = some (.cells #[.int .i64 (l - 1)] 3 (0, 0)) ∧ Only (fun j => j = c ∨ j = m ∨ j = lf) w ((((((w1.setCell ⟨c, 0, none⟩ (.int .i64 (v + 1))).setCell ⟨c, 1, none⟩ (.int .i64 (v + 1))).setCell ⟨m, 0, none⟩ (.int .i64 (-1))).setCell ⟨lf, 0, none⟩ (.int .i64 (l - 1))).setCell ⟨w.heap.size, 0, none⟩ (.nilFunc)).setCell ⟨w.heap.size, 1, none⟩ (.pointer none))) from by
    refine ⟨?_, ?_, ?_, ((((((hO.setCell (p := ⟨c, 0, none⟩) (.inl (.inl rfl)) (.int .i64 (v + 1))).setCell (p := ⟨c, 1, none⟩) (.inl (.inl rfl)) (.int .i64 (v + 1))).setCell (p := ⟨m, 0, none⟩) (.inl (.inr (.inl rfl))) (.int .i64 (-1))).setCell (p := ⟨lf, 0, none⟩) (.inl (.inr (.inr rfl))) (.int .i64 (l - 1))).setCell (p := ⟨w.heap.size, 0, none⟩) (.inr (Nat.le_refl _)) (.nilFunc)).setCell (p := ⟨w.heap.size, 1, none⟩) (.inr (Nat.le_refl _)) (.pointer none))⟩
    · rw [heap_set_other n1, heap_set_other n1]
      rw [heap_set_other (Ne.symm n6)]
      rw [heap_set_other (Ne.symm n5)]
      have a := heap_set (o := 1) (heap_set (o := 0) K.c (.int .i64 (v + 1))) (.int .i64 (v + 1))
      rw [a]
      rfl
    · rw [heap_set_other n2, heap_set_other n2]
      rw [heap_set_other (Ne.symm n7)]
      have a := heap_set (w := (w1.setCell ⟨c, 0, none⟩ (.int .i64 (v + 1))).setCell ⟨c, 1, none⟩ (.int .i64 (v + 1))) (o := 0) (((heap_set_other n5 _).trans (heap_set_other n5 _)).trans K.m) (.int .i64 (-1))
      rw [a]; rfl
    · rw [heap_set_other n3, heap_set_other n3]
      have a := heap_set (w := ((w1.setCell ⟨c, 0, none⟩ (.int .i64 (v + 1))).setCell ⟨c, 1, none⟩ (.int .i64 (v + 1))).setCell ⟨m, 0, none⟩ (.int .i64 (-1))) (o := 0) ((heap_set_other n7 _).trans (((heap_set_other n6 _).trans (heap_set_other n6 _)).trans K.lf)) (.int .i64 (l - 1))
      rw [a]; rfl)
  have HH := Lib.hid (show ((((((w1.setCell ⟨c, 0, none⟩ (.int .i64 (v + 1))).setCell ⟨c, 1, none⟩ (.int .i64 (v + 1))).setCell ⟨m, 0, none⟩ (.int .i64 (-1))).setCell ⟨lf, 0, none⟩ (.int .i64 (l - 1))).setCell ⟨w.heap.size, 0, none⟩ (.nilFunc)).setCell ⟨w.heap.size, 1, none⟩ (.pointer none)).heap[w.heap.size]? = some (.cells #[.nilFunc, .pointer none] 60 (0, 0)) from by
    have a := b5
    have a := (heap_set_other (w := w1) (o := 0) (Ne.symm n1) (.int .i64 (v + 1))).trans a
    have a := (heap_set_other (o := 1) (Ne.symm n1) (.int .i64 (v + 1))).trans a
    have a := (heap_set_other (o := 0) (Ne.symm n2) (.int .i64 (-1))).trans a
    have a := (heap_set_other (o := 0) (Ne.symm n3) (.int .i64 (l - 1))).trans a
    have a := heap_set (o := 1) (heap_set (o := 0) a (.nilFunc)) (.pointer none)
    exact a)
  have HW := Lib.hid hw1
  have ST := Lib.hid (by have a := cell_Store (w := w1) (c := c) (v := v) (s := v) (v + 1) c3 c3' f3 f3'; rw [z1] at a; exact a)
  obtain ⟨w2, hw2⟩ : ∃ w2, w2 = (w1.setCell ⟨c, 0, none⟩ (.int .i64 (v + 1))).setCell ⟨c, 1, none⟩ (.int .i64 (v + 1)) := ⟨_, rfl⟩
  have d6 : w2.heap[m]? = some (.cells #[.int .i64 (i : Int)] 83 (0, 0)) := by rw [hw2]; exact ((heap_set_other n5 _).trans (heap_set_other n5 _)).trans K.m
  have e6 : w2.cell? ⟨m, 0, none⟩ = some (.int .i64 (i : Int)) := by simp [World.cell?, d6]
  have g6 : w2.frozen? ⟨m, 0, none⟩ = false := by simp [World.frozen?, d6]
  have HO := Lib.hid (mutex_Holder (w := w2) (m := ⟨m, 0, none⟩) e6)
  have FN := Lib.hid (mutex_Free_not (w := w2) (m := m) (v := (i : Int)) (i := (i : Int) + 1) e6 (.inr (by omega)))
  have FD := Lib.hid (mutex_Free_does (w := w2) (m := m) (i := (i : Int)) e6 g6 (by omega))
  clear d6 e6 g6
  rw [hw2] at HO FN FD
  have x1 : IntKind.i64.wrap ((i : Int) + 1) = (i : Int) + 1 := by rw [IntKind.wrap_i64]; omega
  have x2 : ((i : Int) != (i : Int)) = false := by simp
  clear hw2 w2
  subst hl
  clear hB b5 K hO hw1 H
  go_enter Try.func26, Try.ntmps26
  go_upto_region 1 with fail
  rw [← HW.out]
  subst hf
  go_wp2_with fail
  refine ST.out.mono ?_
  rintro e w' ⟨rfl, rfl⟩
  go_wp2_with fail
  refine HO.out.mono ?_
  rintro e w' ⟨rfl, rfl⟩
  go_wp2_with fail
  refine FN.out.mono ?_
  rintro e w' ⟨rfl, rfl⟩
  go_wp2_with fail
  refine FD.out.mono ?_
  rintro e w' ⟨rfl, rfl⟩
  go_wp2_with fail
  refine bodyPost_ret (v := .agg #[_, .pointer none]) (results_cell_row rfl _ _ w.heap.size 60 _ (0, 0) _ rfl HH.out Try.underlying60 rfl info60) rfl ?_
  exact ⟨rfl, E.out.1, E.out.2.1, E.out.2.2.1, E.out.2.2.2⟩
end Go.Proofs.Ytccliallljcjgaa
