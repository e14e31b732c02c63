/- Those that add: the step that sets the cell. -/
import Derived.Test.YtccliallljcjgaaAdds1
set_option linter.unusedVariables false
namespace Go.Proofs.Ytccliallljcjgaa
open Go.RowKit

theorem ne_types {w : World} {a b : Nat} {x y : Array Value} {t u : TypeId} (h : w.heap[a]? = some (.cells x t (0, 0))) (k : w.heap[b]? = some (.cells y u (0, 0))) (ht : t ≠ u) : a ≠ b := by
  intro e
  subst e
  rw [h] at k
  injection k with k
  injection k with k1 k2
  exact ht k2
/-- What a task that adds has in memory, besides. -/
structure SetM (w : World) (bs cb c sn mb m lf ld : Nat) (sw : Bool) (v s u h l : Int) (f : Value) : Prop where
  bs : w.heap[bs]? = some (.cells #[.bool sw] 4 (0, 0))
  cb : w.heap[cb]? = some (.cells #[.pointer (some ⟨c, 0, none⟩)] 54 (0, 0))
  c : w.heap[c]? = some (.cells #[.int .i64 v, .int .i64 s] 86 (0, 0))
  sn : w.heap[sn]? = some (.cells #[.int .i64 u] 3 (0, 0))
  mb : w.heap[mb]? = some (.cells #[.pointer (some ⟨m, 0, none⟩)] 56 (0, 0))
  m : w.heap[m]? = some (.cells #[.int .i64 h] 83 (0, 0))
  lf : w.heap[lf]? = some (.cells #[.int .i64 l] 3 (0, 0))
  ld : w.heap[ld]? = some (.cells #[f] 58 (0, 0))
theorem SetM.below {w w' : World} {bs cb c sn mb m lf ld : Nat} {sw : Bool} {v s u h l : Int} {f : Value} (k : SetM w bs cb c sn mb m lf ld sw v s u h l f) (b : Below w.heap.size w w') : SetM w' bs cb c sn mb m lf ld sw v s u h l f :=
  ⟨(b.block _ (heap_lt k.bs)).trans k.bs, (b.block _ (heap_lt k.cb)).trans k.cb, (b.block _ (heap_lt k.c)).trans k.c, (b.block _ (heap_lt k.sn)).trans k.sn, (b.block _ (heap_lt k.mb)).trans k.mb, (b.block _ (heap_lt k.m)).trans k.m, (b.block _ (heap_lt k.lf)).trans k.lf, (b.block _ (heap_lt k.ld)).trans k.ld⟩

set_option maxHeartbeats 8000000 in
set_option maxRecDepth 100000 in
theorem adds_set_miss {w : World} {bs cb c sn mb m lf ld st : Nat} {v l : Int} {h : Int} {u : Int} {G : Nat} {caps : Array Value} {i : Nat} (H : SetM w bs cb c sn mb m lf ld true v v u h l (.func (.func G) #[] caps)) (hi : i < 16) (hv : 0 ≤ v ∧ v < 1000) (hl : 0 < l ∧ l ≤ 20) (hu : 0 ≤ u ∧ u < 1000) (hm : v ≠ u) :
    Calls Try.prog 26 #[.int .i64 (i : Int), .pointer (some ⟨bs, 0, none⟩), .pointer (some ⟨cb, 0, none⟩), .pointer (some ⟨sn, 0, none⟩), .pointer (some ⟨mb, 0, none⟩), .pointer (some ⟨st, 0, none⟩), .pointer (some ⟨lf, 0, none⟩), .pointer (some ⟨ld, 0, none⟩)] w fun e w' => e = .returned (.agg #[.func (.func G) #[] caps, .pointer none]) ∧
      w'.heap[c]? = some (.cells #[.int .i64 (v), .int .i64 (v)] 86 (0, 0)) ∧ w'.heap[m]? = some (.cells #[.int .i64 (h)] 83 (0, 0)) ∧ w'.heap[lf]? = some (.cells #[.int .i64 (l)] 3 (0, 0)) ∧ Only (fun j => j = c ∨ j = m ∨ j = lf) w w' := by
  obtain ⟨w1, hw1⟩ : ∃ w1, w1 = w.alloc (.cells #[.nilFunc, .pointer none] 60) := ⟨_, rfl⟩
  obtain ⟨f, hf⟩ : ∃ f, f = Value.func (.func G) #[] caps := ⟨_, rfl⟩
  rw [← hf] at H
  have hB : Below w.heap.size w w1 := by rw [hw1]; exact (Below.refl _ _).alloc (Nat.le_refl _) _
  have b5 : w1.heap[w.heap.size]? = some (.cells #[.nilFunc, .pointer none] 60 (0, 0)) := by rw [hw1]; exact heap_new w _
  have K := H.below hB
  have hO : Only (fun j => j = c ∨ j = m ∨ j = lf) w w1 := Only.of_below hB (fun k h1 h2 => absurd h2 (by omega))
  have n1 : c ≠ w.heap.size := Nat.ne_of_lt (heap_lt H.c)
  have n2 : m ≠ w.heap.size := Nat.ne_of_lt (heap_lt H.m)
  have n3 : lf ≠ w.heap.size := Nat.ne_of_lt (heap_lt H.lf)
  have n4 : ld ≠ w.heap.size := Nat.ne_of_lt (heap_lt H.ld)
  have n5 : m ≠ c := ne_types H.m H.c (by decide)
  have n6 : lf ≠ c := ne_types H.lf H.c (by decide)
  have n7 : lf ≠ m := ne_types H.lf H.m (by decide)
  have n8 : ld ≠ c := ne_types H.ld H.c (by decide)
  have n9 : ld ≠ m := ne_types H.ld H.m (by decide)
  have n10 : ld ≠ lf := ne_types H.ld H.lf (by decide)
  have n11 : mb ≠ c := ne_types H.mb H.c (by decide)
  have n12 : mb ≠ m := ne_types H.mb H.m (by decide)
  have n13 : mb ≠ lf := ne_types H.mb H.lf (by decide)
  have n14 : bs ≠ c := ne_types H.bs H.c (by decide)
  have n15 : bs ≠ m := ne_types H.bs H.m (by decide)
  have n16 : bs ≠ lf := ne_types H.bs H.lf (by decide)
  have n17 : mb ≠ w.heap.size := Nat.ne_of_lt (heap_lt H.mb)
  have n18 : bs ≠ w.heap.size := Nat.ne_of_lt (heap_lt H.bs)
  have c1 : w1.cell? ⟨bs, 0, none⟩ = some (.bool true) := by simp [World.cell?, K.bs]
  have c2 : w1.cell? ⟨cb, 0, none⟩ = some (.pointer (some ⟨c, 0, none⟩)) := by simp [World.cell?, K.cb]
  have c3 : w1.cell? ⟨c, 0, none⟩ = some (.int .i64 v) := by simp [World.cell?, K.c]
  have c3' : w1.cell? ⟨c, 1, none⟩ = some (.int .i64 v) := by simp [World.cell?, K.c]
  have f3 : w1.frozen? ⟨c, 0, none⟩ = false := by simp [World.frozen?, K.c]
  have f3' : w1.frozen? ⟨c, 1, none⟩ = false := by simp [World.frozen?, K.c]
  have c4 : w1.cell? ⟨sn, 0, none⟩ = some (.int .i64 u) := by simp [World.cell?, K.sn]
  have c5 : w1.cell? ⟨mb, 0, none⟩ = some (.pointer (some ⟨m, 0, none⟩)) := by simp [World.cell?, K.mb]
  have c6 : w1.cell? ⟨m, 0, none⟩ = some (.int .i64 h) := by simp [World.cell?, K.m]
  have f6 : w1.frozen? ⟨m, 0, none⟩ = false := by simp [World.frozen?, K.m]
  have c7 : w1.cell? ⟨lf, 0, none⟩ = some (.int .i64 l) := by simp [World.cell?, K.lf]
  have f7 : w1.frozen? ⟨lf, 0, none⟩ = false := by simp [World.frozen?, K.lf]
  have c8 : w1.cell? ⟨ld, 0, none⟩ = some f := by simp [World.cell?, K.ld]
  have c9 : w1.cell? ⟨w.heap.size, 0, none⟩ = some .nilFunc := by simp [World.cell?, b5]
  have c9' : w1.cell? ⟨w.heap.size, 1, none⟩ = some (.pointer none) := by simp [World.cell?, b5]
  have f9 : w1.frozen? ⟨w.heap.size, 0, none⟩ = false := by simp [World.frozen?, b5]
  have f9' : w1.frozen? ⟨w.heap.size, 1, none⟩ = false := by simp [World.frozen?, b5]
  have z1 : wrap64 (v + 1) = v + 1 := by rw [wrap_64, IntKind.wrap_i64]; omega
  have z2 : IntKind.i64.wrap (v + 1) = v + 1 := by rw [IntKind.wrap_i64]; omega
  have E := Lib.hid (show (((w1.setCell ⟨w.heap.size, 0, none⟩ (f)).setCell ⟨w.heap.size, 1, none⟩ (.pointer none)).heap[c]? = some (.cells #[.int .i64 (v), .int .i64 (v)] 86 (0, 0)) ∧ ((w1.setCell ⟨w.heap.size, 0, none⟩ (f)).setCell ⟨w.heap.size, 1, none⟩ (.pointer none)).heap[m]? = some (.cells #[.int .i64 (h)] 83 (0, 0)) ∧ ((w1.setCell ⟨w.heap.size, 0, none⟩ (f)).setCell ⟨w.heap.size, 1, none⟩ (.pointer none)).heap[lf]? = some (.cells #[.int .i64 (l)] 3 (0, 0)) ∧ Only (fun j => j = c ∨ j = m ∨ j = lf) w ((w1.setCell ⟨w.heap.size, 0, none⟩ (f)).setCell ⟨w.heap.size, 1, none⟩ (.pointer none))) from by
    refine ⟨?_, ?_, ?_, ((hO.setCell (p := ⟨w.heap.size, 0, none⟩) (.inr (Nat.le_refl _)) (f)).setCell (p := ⟨w.heap.size, 1, none⟩) (.inr (Nat.le_refl _)) (.pointer none))⟩
    · rw [heap_set_other n1, heap_set_other n1]
      exact K.c
    · rw [heap_set_other n2, heap_set_other n2]
      exact K.m
    · rw [heap_set_other n3, heap_set_other n3]
      exact K.lf)
  have HH := Lib.hid (show ((w1.setCell ⟨w.heap.size, 0, none⟩ (f)).setCell ⟨w.heap.size, 1, none⟩ (.pointer none)).heap[w.heap.size]? = some (.cells #[f, .pointer none] 60 (0, 0)) from by
    have a := b5
    have a := heap_set (o := 1) (heap_set (o := 0) a (f)) (.pointer none)
    exact a)
  have HW := Lib.hid hw1
  have SW := Lib.hid (cell_Swap_miss (w := w1) (c := c) (v := v) (a := u) (u + 1) c3 hm)
  have y1 : IntKind.i64.wrap (u + 1) = u + 1 := by rw [IntKind.wrap_i64]; omega
  have y2 : wrap64 (u + 1) = u + 1 := by rw [wrap_64, IntKind.wrap_i64]; omega
  have y3 : (l == 0) = false := by simp; omega
  clear hm
  clear hB b5 K hO hw1 H
  go_enter Try.func26, Try.ntmps26
  go_upto_region 1 with fail
  rw [← HW.out]
  subst hf
  go_wp2_with (go_at_call 27; refine SW.out.mono ?_; rintro e w' ⟨rfl, rfl⟩)
  refine bodyPost_ret (v := .agg #[_, .pointer none]) (results_cell_row rfl _ _ w.heap.size 60 _ (0, 0) _ rfl HH.out Try.underlying60 rfl info60) rfl ?_
  exact ⟨rfl, E.out.1, E.out.2.1, E.out.2.2.1, E.out.2.2.2⟩

set_option maxHeartbeats 8000000 in
set_option maxRecDepth 100000 in
theorem adds_set_hit {w : World} {bs cb c sn mb m lf ld st : Nat} {v l : Int} {h : Int} {G : Nat} {caps : Array Value} {i : Nat} (H : SetM w bs cb c sn mb m lf ld true v v v h l (.func (.func G) #[] caps)) (hi : i < 16) (hv : 0 ≤ v ∧ v < 1000) (hl : 1 < l ∧ l ≤ 20) :
    Calls Try.prog 26 #[.int .i64 (i : Int), .pointer (some ⟨bs, 0, none⟩), .pointer (some ⟨cb, 0, none⟩), .pointer (some ⟨sn, 0, none⟩), .pointer (some ⟨mb, 0, none⟩), .pointer (some ⟨st, 0, none⟩), .pointer (some ⟨lf, 0, none⟩), .pointer (some ⟨ld, 0, none⟩)] w fun e w' => e = .returned (.agg #[.func (.func G) #[] caps, .pointer none]) ∧
      w'.heap[c]? = some (.cells #[.int .i64 (v + 1), .int .i64 (v + 1)] 86 (0, 0)) ∧ w'.heap[m]? = some (.cells #[.int .i64 (h)] 83 (0, 0)) ∧ w'.heap[lf]? = some (.cells #[.int .i64 (l - 1)] 3 (0, 0)) ∧ Only (fun j => j = c ∨ j = m ∨ j = lf) w w' := by
  obtain ⟨w1, hw1⟩ : ∃ w1, w1 = w.alloc (.cells #[.nilFunc, .pointer none] 60) := ⟨_, rfl⟩
  obtain ⟨f, hf⟩ : ∃ f, f = Value.func (.func G) #[] caps := ⟨_, rfl⟩
  rw [← hf] at H
  have hB : Below w.heap.size w w1 := by rw [hw1]; exact (Below.refl _ _).alloc (Nat.le_refl _) _
  have b5 : w1.heap[w.heap.size]? = some (.cells #[.nilFunc, .pointer none] 60 (0, 0)) := by rw [hw1]; exact heap_new w _
  have K := H.below hB
  have hO : Only (fun j => j = c ∨ j = m ∨ j = lf) w w1 := Only.of_below hB (fun k h1 h2 => absurd h2 (by omega))
  have n1 : c ≠ w.heap.size := Nat.ne_of_lt (heap_lt H.c)
  have n2 : m ≠ w.heap.size := Nat.ne_of_lt (heap_lt H.m)
  have n3 : lf ≠ w.heap.size := Nat.ne_of_lt (heap_lt H.lf)
  have n4 : ld ≠ w.heap.size := Nat.ne_of_lt (heap_lt H.ld)
  have n5 : m ≠ c := ne_types H.m H.c (by decide)
  have n6 : lf ≠ c := ne_types H.lf H.c (by decide)
  have n7 : lf ≠ m := ne_types H.lf H.m (by decide)
  have n8 : ld ≠ c := ne_types H.ld H.c (by decide)
  have n9 : ld ≠ m := ne_types H.ld H.m (by decide)
  have n10 : ld ≠ lf := ne_types H.ld H.lf (by decide)
  have n11 : mb ≠ c := ne_types H.mb H.c (by decide)
  have n12 : mb ≠ m := ne_types H.mb H.m (by decide)
  have n13 : mb ≠ lf := ne_types H.mb H.lf (by decide)
  have n14 : bs ≠ c := ne_types H.bs H.c (by decide)
  have n15 : bs ≠ m := ne_types H.bs H.m (by decide)
  have n16 : bs ≠ lf := ne_types H.bs H.lf (by decide)
  have n17 : mb ≠ w.heap.size := Nat.ne_of_lt (heap_lt H.mb)
  have n18 : bs ≠ w.heap.size := Nat.ne_of_lt (heap_lt H.bs)
  have c1 : w1.cell? ⟨bs, 0, none⟩ = some (.bool true) := by simp [World.cell?, K.bs]
  have c2 : w1.cell? ⟨cb, 0, none⟩ = some (.pointer (some ⟨c, 0, none⟩)) := by simp [World.cell?, K.cb]
  have c3 : w1.cell? ⟨c, 0, none⟩ = some (.int .i64 v) := by simp [World.cell?, K.c]
  have c3' : w1.cell? ⟨c, 1, none⟩ = some (.int .i64 v) := by simp [World.cell?, K.c]
  have f3 : w1.frozen? ⟨c, 0, none⟩ = false := by simp [World.frozen?, K.c]
  have f3' : w1.frozen? ⟨c, 1, none⟩ = false := by simp [World.frozen?, K.c]
  have c4 : w1.cell? ⟨sn, 0, none⟩ = some (.int .i64 v) := by simp [World.cell?, K.sn]
  have c5 : w1.cell? ⟨mb, 0, none⟩ = some (.pointer (some ⟨m, 0, none⟩)) := by simp [World.cell?, K.mb]
  have c6 : w1.cell? ⟨m, 0, none⟩ = some (.int .i64 h) := by simp [World.cell?, K.m]
  have f6 : w1.frozen? ⟨m, 0, none⟩ = false := by simp [World.frozen?, K.m]
  have c7 : w1.cell? ⟨lf, 0, none⟩ = some (.int .i64 l) := by simp [World.cell?, K.lf]
  have f7 : w1.frozen? ⟨lf, 0, none⟩ = false := by simp [World.frozen?, K.lf]
  have c8 : w1.cell? ⟨ld, 0, none⟩ = some f := by simp [World.cell?, K.ld]
  have c9 : w1.cell? ⟨w.heap.size, 0, none⟩ = some .nilFunc := by simp [World.cell?, b5]
  have c9' : w1.cell? ⟨w.heap.size, 1, none⟩ = some (.pointer none) := by simp [World.cell?, b5]
  have f9 : w1.frozen? ⟨w.heap.size, 0, none⟩ = false := by simp [World.frozen?, b5]
  have f9' : w1.frozen? ⟨w.heap.size, 1, none⟩ = false := by simp [World.frozen?, b5]
  have z1 : wrap64 (v + 1) = v + 1 := by rw [wrap_64, IntKind.wrap_i64]; omega
  have z2 : IntKind.i64.wrap (v + 1) = v + 1 := by rw [IntKind.wrap_i64]; omega
  have E := Lib.hid (show ((((((w1.setCell ⟨c, 0, none⟩ (.int .i64 (v + 1))).setCell ⟨c, 1, none⟩ (.int .i64 (v + 1))).setCell ⟨lf, 0, none⟩ (.int .i64 (l - 1))).setCell ⟨w.heap.size, 0, none⟩ (f)).setCell ⟨w.heap.size, 1, none⟩ (.pointer none)).heap[c]? = some (.cells #[.int .i64 (v + 1), .int .i64 (v + 1)] 86 (0, 0)) ∧ (((((w1.setCell ⟨c, 0, none⟩ (.int .i64 (v + 1))).setCell ⟨c, 1, none⟩ (.int .i64 (v + 1))).setCell ⟨lf, 0, none⟩ (.int .i64 (l - 1))).setCell ⟨w.heap.size, 0, none⟩ (f)).setCell ⟨w.heap.size, 1, none⟩ (.pointer none)).heap[m]? = some (.cells #[.int .i64 (h)] 83 (0, 0)) ∧ (((((w1.setCell ⟨c, 0, none⟩ (.int .i64 (v + 1))).setCell ⟨c, 1, none⟩ (.int .i64 (v + 1))).setCell ⟨lf, 0, none⟩ (.int .i64 (l - 1))).setCell ⟨w.heap.size, 0, none⟩ (f)).setCell ⟨w.heap.size, 1, none⟩ (.pointer none)).heap[lf]? = some (.cells #[.int .i64 (l - 1)] 3 (0, 0)) ∧ Only (fun j => j = c ∨ j = m ∨ j = lf) w (((((w1.setCell ⟨c, 0, none⟩ (.int .i64 (v + 1))).setCell ⟨c, 1, none⟩ (.int .i64 (v + 1))).setCell ⟨lf, 0, none⟩ (.int .i64 (l - 1))).setCell ⟨w.heap.size, 0, none⟩ (f)).setCell ⟨w.heap.size, 1, none⟩ (.pointer none))) from by
    refine ⟨?_, ?_, ?_, (((((hO.setCell (p := ⟨c, 0, none⟩) (.inl (.inl rfl)) (.int .i64 (v + 1))).setCell (p := ⟨c, 1, none⟩) (.inl (.inl rfl)) (.int .i64 (v + 1))).setCell (p := ⟨lf, 0, none⟩) (.inl (.inr (.inr rfl))) (.int .i64 (l - 1))).setCell (p := ⟨w.heap.size, 0, none⟩) (.inr (Nat.le_refl _)) (f)).setCell (p := ⟨w.heap.size, 1, none⟩) (.inr (Nat.le_refl _)) (.pointer none))⟩
    · rw [heap_set_other n1, heap_set_other n1]
      rw [heap_set_other (Ne.symm n6)]
      have a := heap_set (o := 1) (heap_set (o := 0) K.c (.int .i64 (v + 1))) (.int .i64 (v + 1))
      rw [a]
      rfl
    · rw [heap_set_other n2, heap_set_other n2]
      rw [heap_set_other (Ne.symm n7)]
      rw [heap_set_other n5, heap_set_other n5]; exact K.m
    · rw [heap_set_other n3, heap_set_other n3]
      have a := heap_set (w := (w1.setCell ⟨c, 0, none⟩ (.int .i64 (v + 1))).setCell ⟨c, 1, none⟩ (.int .i64 (v + 1))) (o := 0) (((heap_set_other n6 _).trans (heap_set_other n6 _)).trans K.lf) (.int .i64 (l - 1))
      rw [a]; rfl)
  have HH := Lib.hid (show (((((w1.setCell ⟨c, 0, none⟩ (.int .i64 (v + 1))).setCell ⟨c, 1, none⟩ (.int .i64 (v + 1))).setCell ⟨lf, 0, none⟩ (.int .i64 (l - 1))).setCell ⟨w.heap.size, 0, none⟩ (f)).setCell ⟨w.heap.size, 1, none⟩ (.pointer none)).heap[w.heap.size]? = some (.cells #[f, .pointer none] 60 (0, 0)) from by
    have a := b5
    have a := (heap_set_other (w := w1) (o := 0) (Ne.symm n1) (.int .i64 (v + 1))).trans a
    have a := (heap_set_other (o := 1) (Ne.symm n1) (.int .i64 (v + 1))).trans a
    have a := (heap_set_other (o := 0) (Ne.symm n3) (.int .i64 (l - 1))).trans a
    have a := heap_set (o := 1) (heap_set (o := 0) a (f)) (.pointer none)
    exact a)
  have HW := Lib.hid hw1
  have SW := Lib.hid (by have a := cell_Swap_hit (w := w1) (c := c) (v := v) (s := v) (v + 1) c3 c3' f3 f3'; rw [z1] at a; exact a)
  have y1 : IntKind.i64.wrap (l - 1) = l - 1 := by rw [IntKind.wrap_i64]; omega
  have y2 : wrap64 (l - 1) = l - 1 := by rw [wrap_64, IntKind.wrap_i64]; omega
  have y3 : (l - 1 == 0) = false := by simp; omega
  clear hB b5 K hO hw1 H
  go_enter Try.func26, Try.ntmps26
  go_upto_region 1 with fail
  rw [← HW.out]
  subst hf
  go_wp2_with (go_at_call 27; refine SW.out.mono ?_; rintro e w' ⟨rfl, rfl⟩)
  refine bodyPost_ret (v := .agg #[_, .pointer none]) (results_cell_row rfl _ _ w.heap.size 60 _ (0, 0) _ rfl HH.out Try.underlying60 rfl info60) rfl ?_
  exact ⟨rfl, E.out.1, E.out.2.1, E.out.2.2.1, E.out.2.2.2⟩

set_option maxHeartbeats 8000000 in
set_option maxRecDepth 100000 in
theorem adds_set_hit_last {w : World} {bs cb c sn mb m lf ld st : Nat} {v l : Int} {h : Int} {G : Nat} {caps : Array Value} {i : Nat} (H : SetM w bs cb c sn mb m lf ld true v v v h l (.func (.func G) #[] caps)) (hi : i < 16) (hv : 0 ≤ v ∧ v < 1000) (hl : l = 1) :
    Calls Try.prog 26 #[.int .i64 (i : Int), .pointer (some ⟨bs, 0, none⟩), .pointer (some ⟨cb, 0, none⟩), .pointer (some ⟨sn, 0, none⟩), .pointer (some ⟨mb, 0, none⟩), .pointer (some ⟨st, 0, none⟩), .pointer (some ⟨lf, 0, none⟩), .pointer (some ⟨ld, 0, none⟩)] w fun e w' => e = .returned (.agg #[.nilFunc, .pointer none]) ∧
      w'.heap[c]? = some (.cells #[.int .i64 (v + 1), .int .i64 (v + 1)] 86 (0, 0)) ∧ w'.heap[m]? = some (.cells #[.int .i64 (h)] 83 (0, 0)) ∧ w'.heap[lf]? = some (.cells #[.int .i64 (l - 1)] 3 (0, 0)) ∧ Only (fun j => j = c ∨ j = m ∨ j = lf) w w' := by
  obtain ⟨w1, hw1⟩ : ∃ w1, w1 = w.alloc (.cells #[.nilFunc, .pointer none] 60) := ⟨_, rfl⟩
  obtain ⟨f, hf⟩ : ∃ f, f = Value.func (.func G) #[] caps := ⟨_, rfl⟩
  rw [← hf] at H
  have hB : Below w.heap.size w w1 := by rw [hw1]; exact (Below.refl _ _).alloc (Nat.le_refl _) _
  have b5 : w1.heap[w.heap.size]? = some (.cells #[.nilFunc, .pointer none] 60 (0, 0)) := by rw [hw1]; exact heap_new w _
  have K := H.below hB
  have hO : Only (fun j => j = c ∨ j = m ∨ j = lf) w w1 := Only.of_below hB (fun k h1 h2 => absurd h2 (by omega))
  have n1 : c ≠ w.heap.size := Nat.ne_of_lt (heap_lt H.c)
  have n2 : m ≠ w.heap.size := Nat.ne_of_lt (heap_lt H.m)
  have n3 : lf ≠ w.heap.size := Nat.ne_of_lt (heap_lt H.lf)
  have n4 : ld ≠ w.heap.size := Nat.ne_of_lt (heap_lt H.ld)
  have n5 : m ≠ c := ne_types H.m H.c (by decide)
  have n6 : lf ≠ c := ne_types H.lf H.c (by decide)
  have n7 : lf ≠ m := ne_types H.lf H.m (by decide)
  have n8 : ld ≠ c := ne_types H.ld H.c (by decide)
  have n9 : ld ≠ m := ne_types H.ld H.m (by decide)
  have n10 : ld ≠ lf := ne_types H.ld H.lf (by decide)
  have n11 : mb ≠ c := ne_types H.mb H.c (by decide)
  have n12 : mb ≠ m := ne_types H.mb H.m (by decide)
  have n13 : mb ≠ lf := ne_types H.mb H.lf (by decide)
  have n14 : bs ≠ c := ne_types H.bs H.c (by decide)
  have n15 : bs ≠ m := ne_types H.bs H.m (by decide)
  have n16 : bs ≠ lf := ne_types H.bs H.lf (by decide)
  have n17 : mb ≠ w.heap.size := Nat.ne_of_lt (heap_lt H.mb)
  have n18 : bs ≠ w.heap.size := Nat.ne_of_lt (heap_lt H.bs)
  have c1 : w1.cell? ⟨bs, 0, none⟩ = some (.bool true) := by simp [World.cell?, K.bs]
  have c2 : w1.cell? ⟨cb, 0, none⟩ = some (.pointer (some ⟨c, 0, none⟩)) := by simp [World.cell?, K.cb]
  have c3 : w1.cell? ⟨c, 0, none⟩ = some (.int .i64 v) := by simp [World.cell?, K.c]
  have c3' : w1.cell? ⟨c, 1, none⟩ = some (.int .i64 v) := by simp [World.cell?, K.c]
  have f3 : w1.frozen? ⟨c, 0, none⟩ = false := by simp [World.frozen?, K.c]
  have f3' : w1.frozen? ⟨c, 1, none⟩ = false := by simp [World.frozen?, K.c]
  have c4 : w1.cell? ⟨sn, 0, none⟩ = some (.int .i64 v) := by simp [World.cell?, K.sn]
  have c5 : w1.cell? ⟨mb, 0, none⟩ = some (.pointer (some ⟨m, 0, none⟩)) := by simp [World.cell?, K.mb]
  have c6 : w1.cell? ⟨m, 0, none⟩ = some (.int .i64 h) := by simp [World.cell?, K.m]
  have f6 : w1.frozen? ⟨m, 0, none⟩ = false := by simp [World.frozen?, K.m]
  have c7 : w1.cell? ⟨lf, 0, none⟩ = some (.int .i64 l) := by simp [World.cell?, K.lf]
  have f7 : w1.frozen? ⟨lf, 0, none⟩ = false := by simp [World.frozen?, K.lf]
  have c8 : w1.cell? ⟨ld, 0, none⟩ = some f := by simp [World.cell?, K.ld]
  have c9 : w1.cell? ⟨w.heap.size, 0, none⟩ = some .nilFunc := by simp [World.cell?, b5]
  have c9' : w1.cell? ⟨w.heap.size, 1, none⟩ = some (.pointer none) := by simp [World.cell?, b5]
  have f9 : w1.frozen? ⟨w.heap.size, 0, none⟩ = false := by simp [World.frozen?, b5]
  have f9' : w1.frozen? ⟨w.heap.size, 1, none⟩ = false := by simp [World.frozen?, b5]
  have z1 : wrap64 (v + 1) = v + 1 := by rw [wrap_64, IntKind.wrap_i64]; omega
  have z2 : IntKind.i64.wrap (v + 1) = v + 1 := by rw [IntKind.wrap_i64]; omega
  have E := Lib.hid (show ((((((w1.setCell ⟨c, 0, none⟩ (.int .i64 (v + 1))).setCell ⟨c, 1, none⟩ (.int .i64 (v + 1))).setCell ⟨lf, 0, none⟩ (.int .i64 (l - 1))).setCell ⟨w.heap.size, 0, none⟩ (.nilFunc)).setCell ⟨w.heap.size, 1, none⟩ (.pointer none)).heap[c]? = some (.cells #[.int .i64 (v + 1), .int .i64 (v + 1)] 86 (0, 0)) ∧ (((((w1.setCell ⟨c, 0, none⟩ (.int .i64 (v + 1))).setCell ⟨c, 1, none⟩ (.int .i64 (v + 1))).setCell ⟨lf, 0, none⟩ (.int .i64 (l - 1))).setCell ⟨w.heap.size, 0, none⟩ (.nilFunc)).setCell ⟨w.heap.size, 1, none⟩ (.pointer none)).heap[m]? = some (.cells #[.int .i64 (h)] 83 (0, 0)) ∧ (((((w1.setCell ⟨c, 0, none⟩ (.int .i64 (v + 1))).setCell ⟨c, 1, none⟩ (.int .i64 (v + 1))).setCell ⟨lf, 0, none⟩ (.int .i64 (l - 1))).setCell ⟨w.heap.size, 0, none⟩ (.nilFunc)).setCell ⟨w.heap.size, 1, none⟩ (.pointer none)).heap[lf]? = some (.cells #[.int .i64 (l - 1)] 3 (0, 0)) ∧ Only (fun j => j = c ∨ j = m ∨ j = lf) w (((((w1.setCell ⟨c, 0, none⟩ (.int .i64 (v + 1))).setCell ⟨c, 1, none⟩ (.int .i64 (v + 1))).setCell ⟨lf, 0, none⟩ (.int .i64 (l - 1))).setCell ⟨w.heap.size, 0, none⟩ (.nilFunc)).setCell ⟨w.heap.size, 1, none⟩ (.pointer none))) from by
    refine ⟨?_, ?_, ?_, (((((hO.setCell (p := ⟨c, 0, none⟩) (.inl (.inl rfl)) (.int .i64 (v + 1))).setCell (p := ⟨c, 1, none⟩) (.inl (.inl rfl)) (.int .i64 (v + 1))).setCell (p := ⟨lf, 0, none⟩) (.inl (.inr (.inr rfl))) (.int .i64 (l - 1))).setCell (p := ⟨w.heap.size, 0, none⟩) (.inr (Nat.le_refl _)) (.nilFunc)).setCell (p := ⟨w.heap.size, 1, none⟩) (.inr (Nat.le_refl _)) (.pointer none))⟩
    · rw [heap_set_other n1, heap_set_other n1]
      rw [heap_set_other (Ne.symm n6)]
      have a := heap_set (o := 1) (heap_set (o := 0) K.c (.int .i64 (v + 1))) (.int .i64 (v + 1))
      rw [a]
      rfl
    · rw [heap_set_other n2, heap_set_other n2]
      rw [heap_set_other (Ne.symm n7)]
      rw [heap_set_other n5, heap_set_other n5]; exact K.m
    · rw [heap_set_other n3, heap_set_other n3]
      have a := heap_set (w := (w1.setCell ⟨c, 0, none⟩ (.int .i64 (v + 1))).setCell ⟨c, 1, none⟩ (.int .i64 (v + 1))) (o := 0) (((heap_set_other n6 _).trans (heap_set_other n6 _)).trans K.lf) (.int .i64 (l - 1))
      rw [a]; rfl)
  have HH := Lib.hid (show (((((w1.setCell ⟨c, 0, none⟩ (.int .i64 (v + 1))).setCell ⟨c, 1, none⟩ (.int .i64 (v + 1))).setCell ⟨lf, 0, none⟩ (.int .i64 (l - 1))).setCell ⟨w.heap.size, 0, none⟩ (.nilFunc)).setCell ⟨w.heap.size, 1, none⟩ (.pointer none)).heap[w.heap.size]? = some (.cells #[.nilFunc, .pointer none] 60 (0, 0)) from by
    have a := b5
    have a := (heap_set_other (w := w1) (o := 0) (Ne.symm n1) (.int .i64 (v + 1))).trans a
    have a := (heap_set_other (o := 1) (Ne.symm n1) (.int .i64 (v + 1))).trans a
    have a := (heap_set_other (o := 0) (Ne.symm n3) (.int .i64 (l - 1))).trans a
    have a := heap_set (o := 1) (heap_set (o := 0) a (.nilFunc)) (.pointer none)
    exact a)
  have HW := Lib.hid hw1
  have SW := Lib.hid (by have a := cell_Swap_hit (w := w1) (c := c) (v := v) (s := v) (v + 1) c3 c3' f3 f3'; rw [z1] at a; exact a)
  subst hl
  clear hB b5 K hO hw1 H
  go_enter Try.func26, Try.ntmps26
  go_upto_region 1 with fail
  rw [← HW.out]
  subst hf
  go_wp2_with (go_at_call 27; refine SW.out.mono ?_; rintro e w' ⟨rfl, rfl⟩)
  refine bodyPost_ret (v := .agg #[_, .pointer none]) (results_cell_row rfl _ _ w.heap.size 60 _ (0, 0) _ rfl HH.out Try.underlying60 rfl info60) rfl ?_
  exact ⟨rfl, E.out.1, E.out.2.1, E.out.2.2.1, E.out.2.2.2⟩
end Go.Proofs.Ytccliallljcjgaa
