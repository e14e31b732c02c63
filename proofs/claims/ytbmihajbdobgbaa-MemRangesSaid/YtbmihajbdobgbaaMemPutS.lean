/- A key put into a tree (of string values). -/
import Derived.Test.YtbmihajbdobgbaaMemEvenS
set_option linter.unusedVariables false
set_option maxRecDepth 100000
namespace Go.Proofs.Ytbmihajbdobgbaa.MS
open Go.RowKit

def PutPost (k : List UInt8) (x : ByteArray) (t : Tr ByteArray) (w : World) (e : Ending) (w' : World) : Prop :=
  ∃ t' c, t'.ptr = .pointer (some ⟨c, 0, none⟩) ∧ e = .returned (.pointer (some ⟨c, 0, none⟩)) ∧ In w'.heap.size w' t' ∧ Below w.heap.size w w' ∧ t'.prs = putP k x t.prs ∧ t'.avl ∧ t.ht ≤ t'.ht ∧ t'.ht ≤ t.ht + 1
theorem put_nil (k : List UInt8) (x : ByteArray) (w : World) : Calls Try.prog 30 #[.pointer none, .string (bs k), .string x] w fun e w' => PutPost k x .nil w e w' := by
  go_enter Try.func30, Try.ntmps30
  go_wp2_with fail
  go_ret
  refine ⟨.node w.heap.size k x .nil .nil, w.heap.size, rfl, rfl, ⟨⟨by simp, ?_⟩, trivial, trivial⟩, (Below.refl _ w).alloc (Nat.le_refl _) _, rfl, ⟨⟨by simp, by simp⟩, trivial, trivial⟩, by simp [Tr.ht], by simp [Tr.ht]⟩
  rw [heap_new]
  rfl
/-- A side's sizes: even may be asked. -/
theorem even_ask {b : Nat} {k0 : List UInt8} {x0 : ByteArray} {l r : Tr ByteArray} {w y : World} (hn : In w.heap.size w (.node b k0 x0 l r)) (K : Below w.heap.size w y) {l' r' : Tr ByteArray} {vl vr : Value} (hvl : l'.ptr = vl) (hvr : r'.ptr = vr) (hl : In y.heap.size y l') (hr : In y.heap.size y r') (al : l'.avl) (ar : r'.avl) (h1 : l'.ht ≤ r'.ht + 2) (h2 : r'.ht ≤ l'.ht + 2) (hs : l'.sz + r'.sz ≤ 900000) :
    Calls Try.prog 40 #[.pointer (some ⟨b, 0, none⟩), vl, vr] y fun e w' => EvenPost k0 x0 l' r' y e w' := by
  rw [← hvl, ← hvr]
  exact even (Lib.hid (by rw [K.cell (p := ⟨b, 0, none⟩) hn.lt]; exact hn.c0)) (Lib.hid (by rw [K.cell (p := ⟨b, 1, none⟩) hn.lt]; exact hn.c1)) (Lib.hid hl) (Lib.hid hr) al ar h1 h2 hs

set_option maxHeartbeats 1000000 in
theorem put_lt {b : Nat} {k k0 : List UInt8} {x x0 : ByteArray} {l r : Tr ByteArray} {w : World} (hn : Hid (In w.heap.size w (.node b k0 x0 l r))) (ha : (Tr.node b k0 x0 l r).avl) (ho : ris (Tr.node b k0 x0 l r).prs) (hs : (Tr.node b k0 x0 l r).sz ≤ 800000) (h : ltB k k0 = true)
    (ih : ∀ y, In y.heap.size y l → Calls Try.prog 30 #[l.ptr, .string (bs k), .string x] y fun e w' => PutPost k x l y e w') :
    Calls Try.prog 30 #[.pointer (some ⟨b, 0, none⟩), .string (bs k), .string x] w fun e w' => PutPost k x (.node b k0 x0 l r) w e w' := by
  obtain ⟨pl, hpl⟩ := l.ptr_is
  obtain ⟨pr, hpr⟩ := r.ptr_is
  have c0 := hn.out.c0
  have c2 := hn.out.c2
  have c3 := hn.out.c3
  rw [hpl] at c2
  rw [hpr] at c3
  have hb := Lib.hid hn.out.lt
  have HC := Lib.hid (show Calls Try.prog 24 #[.string (bs k), .string (bs k0)] w fun e w' => e = .returned (.int .i64 (-1)) ∧ w' = w by rw [← cmpL_lt h]; exact cmp_Compare k k0 w)
  have HP := Lib.hid (show ∀ y, Below w.heap.size w y → Calls Try.prog 30 #[.pointer pl, .string (bs k), .string x] y fun e w' => PutPost k x l y e w' from fun y K => by rw [← hpl]; exact ih y (hn.out.left.seen K))
  have HE := Lib.hid (show ∀ l' c y, l'.ptr = .pointer (some ⟨c, 0, none⟩) → In y.heap.size y l' → Below w.heap.size w y → l'.prs = putP k x l.prs → l'.avl → l.ht ≤ l'.ht → l'.ht ≤ l.ht + 1 →
      Calls Try.prog 40 #[.pointer (some ⟨b, 0, none⟩), .pointer (some ⟨c, 0, none⟩), .pointer pr] y fun e w' => EvenPost k0 x0 l' r y e w' from fun l' c y e1 I K e2 e3 e4 e5 =>
      even_ask hn.out K e1 hpr I (hn.out.right.seen K) e3 ha.2.2 (by have := ha.1; omega) (by have := ha.1; omega) (by
        have := (putP_len k x l.prs).1
        rw [← e2, ← Tr.sz_prs, ← Tr.sz_prs] at this
        simp only [Tr.sz] at hs
        omega))
  have HF := Lib.hid (show ∀ l' t, l'.prs = putP k x l.prs → l.ht ≤ l'.ht → l'.ht ≤ l.ht + 1 → Ev k0 x0 l' r t → t.prs = putP k x (Tr.node b k0 x0 l r).prs ∧ t.avl ∧ (Tr.node b k0 x0 l r).ht ≤ t.ht ∧ t.ht ≤ (Tr.node b k0 x0 l r).ht + 1 from fun l' t e1 e2 e3 ev =>
    ⟨by rw [ev.prs, e1]; exact (putP_low h _).symm, ev.avl, up_left ha.1 e2 e3 ev⟩)
  have HKP := Lib.hid (show ∀ y, Below w.heap.size w y → (y.cell? ⟨b, 2, none⟩ = some (.pointer pl) ∧ y.cell? ⟨b, 3, none⟩ = some (.pointer pr)) from fun y K => ⟨by rw [K.cell (p := ⟨b, 2, none⟩) hb.out]; exact c2, by rw [K.cell (p := ⟨b, 3, none⟩) hb.out]; exact c3⟩)
  clear hpl hpr ha ho hs ih h
  go_enter Try.func30, Try.ntmps30
  go_wp2_with (go_at_call 24; (with_reducible refine HC.out.mono ?_); rintro e w ⟨rfl, rfl⟩)
  have B0 := Lib.hid (show Below w.heap.size w w.drew from (Below.refl _ w).drew)
  go_region_held3 (fun w' => w'.cell? ⟨b, 2, none⟩ = some (.pointer pl) ∧ w'.cell? ⟨b, 3, none⟩ = some (.pointer pr))
    (first | exact HKP.out _ B0.out | exact HKP.out _ B1.out | exact HKP.out _ B2.out)
    (first
    | (go_at_call 30; (with_reducible refine (HP.out _ B0.out).mono ?_); rintro e y1 ⟨l', c, e1, rfl, I1, BA, e2, e3, e4, e5⟩; have B1 := Lib.hid (B0.out.trans (BA.mono B0.out.size)); have hc := Lib.hid (HE.out l' c y1 e1 I1 B1.out e2 e3 e4 e5); have hf := fun t => Lib.hid (HF.out l' t e2 e4 e5); clear BA e1 e2 e3 e4 e5)
    | (go_at_call 40; (with_reducible refine hc.out.mono ?_); rintro e y2 ⟨t, c2, e1, rfl, I2, BA, ev⟩; have B2 := Lib.hid (B1.out.trans (BA.mono B1.out.size)); have PT := Lib.hid e1; have EV := Lib.hid ev; clear BA e1 ev))
  go_wp2_with fail
  go_ret
  exact ⟨t, _, PT.out, rfl, I2, B2.out, (hf t).out EV.out⟩
set_option maxHeartbeats 1000000 in
theorem put_gt {b : Nat} {k k0 : List UInt8} {x x0 : ByteArray} {l r : Tr ByteArray} {w : World} (hn : Hid (In w.heap.size w (.node b k0 x0 l r))) (ha : (Tr.node b k0 x0 l r).avl) (ho : ris (Tr.node b k0 x0 l r).prs) (hs : (Tr.node b k0 x0 l r).sz ≤ 800000) (h : ltB k0 k = true)
    (ih : ∀ y, In y.heap.size y r → Calls Try.prog 30 #[r.ptr, .string (bs k), .string x] y fun e w' => PutPost k x r y e w') :
    Calls Try.prog 30 #[.pointer (some ⟨b, 0, none⟩), .string (bs k), .string x] w fun e w' => PutPost k x (.node b k0 x0 l r) w e w' := by
  obtain ⟨pl, hpl⟩ := l.ptr_is
  obtain ⟨pr, hpr⟩ := r.ptr_is
  have c0 := hn.out.c0
  have c2 := hn.out.c2
  have c3 := hn.out.c3
  rw [hpl] at c2
  rw [hpr] at c3
  have hb := Lib.hid hn.out.lt
  have HC := Lib.hid (show Calls Try.prog 24 #[.string (bs k), .string (bs k0)] w fun e w' => e = .returned (.int .i64 1) ∧ w' = w by rw [← cmpL_gt h]; exact cmp_Compare k k0 w)
  have HP := Lib.hid (show ∀ y, Below w.heap.size w y → Calls Try.prog 30 #[.pointer pr, .string (bs k), .string x] y fun e w' => PutPost k x r y e w' from fun y K => by rw [← hpr]; exact ih y (hn.out.right.seen K))
  have HE := Lib.hid (show ∀ r' c y, r'.ptr = .pointer (some ⟨c, 0, none⟩) → In y.heap.size y r' → Below w.heap.size w y → r'.prs = putP k x r.prs → r'.avl → r.ht ≤ r'.ht → r'.ht ≤ r.ht + 1 →
      Calls Try.prog 40 #[.pointer (some ⟨b, 0, none⟩), .pointer pl, .pointer (some ⟨c, 0, none⟩)] y fun e w' => EvenPost k0 x0 l r' y e w' from fun r' c y e1 I K e2 e3 e4 e5 =>
      even_ask hn.out K hpl e1 (hn.out.left.seen K) I ha.2.1 e3 (by have := ha.1; omega) (by have := ha.1; omega) (by
        have := (putP_len k x r.prs).1
        rw [← e2, ← Tr.sz_prs, ← Tr.sz_prs] at this
        simp only [Tr.sz] at hs
        omega))
  have HF := Lib.hid (show ∀ r' t, r'.prs = putP k x r.prs → r.ht ≤ r'.ht → r'.ht ≤ r.ht + 1 → Ev k0 x0 l r' t → t.prs = putP k x (Tr.node b k0 x0 l r).prs ∧ t.avl ∧ (Tr.node b k0 x0 l r).ht ≤ t.ht ∧ t.ht ≤ (Tr.node b k0 x0 l r).ht + 1 from fun r' t e1 e2 e3 ev =>
    ⟨by rw [ev.prs, e1]; exact (putP_high h (ris_mid ho).2.2.1).symm, ev.avl, up_right ha.1 e2 e3 ev⟩)
  have HKP := Lib.hid (show ∀ y, Below w.heap.size w y → (y.cell? ⟨b, 2, none⟩ = some (.pointer pl) ∧ y.cell? ⟨b, 3, none⟩ = some (.pointer pr)) from fun y K => ⟨by rw [K.cell (p := ⟨b, 2, none⟩) hb.out]; exact c2, by rw [K.cell (p := ⟨b, 3, none⟩) hb.out]; exact c3⟩)
  clear hpl hpr ha ho hs ih h
  go_enter Try.func30, Try.ntmps30
  go_wp2_with (go_at_call 24; (with_reducible refine HC.out.mono ?_); rintro e w ⟨rfl, rfl⟩)
  have B0 := Lib.hid (show Below w.heap.size w w.drew from (Below.refl _ w).drew)
  go_region_held3 (fun w' => w'.cell? ⟨b, 2, none⟩ = some (.pointer pl) ∧ w'.cell? ⟨b, 3, none⟩ = some (.pointer pr))
    (first | exact HKP.out _ B0.out | exact HKP.out _ B1.out | exact HKP.out _ B2.out)
    (first
    | (go_at_call 30; (with_reducible refine (HP.out _ B0.out).mono ?_); rintro e y1 ⟨l', c, e1, rfl, I1, BA, e2, e3, e4, e5⟩; have B1 := Lib.hid (B0.out.trans (BA.mono B0.out.size)); have hc := Lib.hid (HE.out l' c y1 e1 I1 B1.out e2 e3 e4 e5); have hf := fun t => Lib.hid (HF.out l' t e2 e4 e5); clear BA e1 e2 e3 e4 e5)
    | (go_at_call 40; (with_reducible refine hc.out.mono ?_); rintro e y2 ⟨t, c2, e1, rfl, I2, BA, ev⟩; have B2 := Lib.hid (B1.out.trans (BA.mono B1.out.size)); have PT := Lib.hid e1; have EV := Lib.hid ev; clear BA e1 ev))
  go_wp2_with fail
  go_ret
  exact ⟨t, _, PT.out, rfl, I2, B2.out, (hf t).out EV.out⟩

set_option maxHeartbeats 1000000 in
theorem put_eq {b : Nat} {k : List UInt8} {x x0 : ByteArray} {l r : Tr ByteArray} {w : World} (hn : Hid (In w.heap.size w (.node b k x0 l r))) (ha : (Tr.node b k x0 l r).avl) (ho : ris (Tr.node b k x0 l r).prs) :
    Calls Try.prog 30 #[.pointer (some ⟨b, 0, none⟩), .string (bs k), .string x] w fun e w' => PutPost k x (.node b k x0 l r) w e w' := by
  obtain ⟨pl, hpl⟩ := l.ptr_is
  obtain ⟨pr, hpr⟩ := r.ptr_is
  have c0 := hn.out.c0
  have c1 := hn.out.c1
  have c2 := hn.out.c2
  have c3 := hn.out.c3
  have c4 := hn.out.c4
  have c5 := hn.out.c5
  rw [hpl] at c2
  rw [hpr] at c3
  obtain ⟨i4, hi4⟩ : ∃ i : Int, i = ((1 + max l.ht r.ht : Nat) : Int) := ⟨_, rfl⟩
  obtain ⟨i5, hi5⟩ : ∃ i : Int, i = ((1 + l.sz + r.sz : Nat) : Int) := ⟨_, rfl⟩
  rw [← hi4] at c4
  rw [← hi5] at c5
  have HI := Lib.hid (And.intro hi4 hi5)
  have HPP := Lib.hid (And.intro hpl hpr)
  have HC := Lib.hid (show Calls Try.prog 24 #[.string (bs k), .string (bs k)] w fun e w' => e = .returned (.int .i64 0) ∧ w' = w by rw [← cmpL_eq (rfl : k = k)]; exact cmp_Compare k k w)
  have HF := Lib.hid (show ∀ c, (Tr.node c k x l r).prs = putP k x (Tr.node b k x0 l r).prs ∧ (Tr.node c k x l r).avl ∧ (Tr.node b k x0 l r).ht ≤ (Tr.node c k x l r).ht ∧ (Tr.node c k x l r).ht ≤ (Tr.node b k x0 l r).ht + 1 from fun c =>
    ⟨(putP_same (ris_mid ho).2.2.1).symm, ha, Nat.le_refl _, Nat.le_succ _⟩)
  clear hpl hpr hi4 hi5 ha ho
  go_enter Try.func30, Try.ntmps30
  go_wp2_with (go_at_call 24; (with_reducible refine HC.out.mono ?_); rintro e w ⟨rfl, rfl⟩)
  go_ret
  refine ⟨.node w.heap.size k x l r, w.heap.size, rfl, rfl, ⟨⟨by simp, ?_⟩, hn.out.left.seen ?_, hn.out.right.seen ?_⟩, ?_, HF.out _⟩
  · rw [heap_new, HI.out.1, HI.out.2, ← HPP.out.1, ← HPP.out.2]
    rfl
  all_goals exact (Below.refl _ w).alloc (Nat.le_refl _) _
/-- A KEY IS PUT INTO A TREE. -/
theorem put {k : List UInt8} {x : ByteArray} : ∀ (t : Tr ByteArray) (w : World), In w.heap.size w t → t.avl → ris t.prs → t.sz ≤ 800000 → Calls Try.prog 30 #[t.ptr, .string (bs k), .string x] w fun e w' => PutPost k x t w e w'
  | .nil, w, _, _, _, _ => put_nil k x w
  | .node b k0 x0 l r, w, hn, ha, ho, hs => by
    have h1 := ris_mid ho
    rcases ltB_total k k0 with h | h | h
    · exact put_lt (Lib.hid hn) ha ho hs h fun y I => put l y I ha.2.1 h1.1 (by simp only [Tr.sz] at hs; omega)
    · subst h
      exact put_eq (Lib.hid hn) ha ho
    · exact put_gt (Lib.hid hn) ha ho hs h fun y I => put r y I ha.2.2 h1.2.1 (by simp only [Tr.sz] at hs; omega)
end Go.Proofs.Ytbmihajbdobgbaa.MS
