/- A key taken out of a tree (of int values); a key's value. -/
import Derived.Test.YtbmihajbdobgbaaMemMapI
set_option linter.unusedVariables false
set_option maxRecDepth 100000
namespace Go.Proofs.Ytbmihajbdobgbaa.MI
open Go.RowKit

/-- The least key's node. -/
def FirstPost (t : Tr Int) (w : World) (e : Ending) (w' : World) : Prop :=
  w' = w ∧ ∃ fb fk fx rest, e = .returned (.pointer (some ⟨fb, 0, none⟩)) ∧ w.cell? ⟨fb, 0, none⟩ = some (.string (bs fk)) ∧ w.cell? ⟨fb, 1, none⟩ = some (.int .i64 fx) ∧ t.prs = (fk, fx) :: rest
theorem ptr_some {t : Tr Int} (h : t.ptr ≠ .pointer none) : ∃ b k x l r, t = .node b k x l r := by
  cases t with
  | nil => exact absurd rfl h
  | node b k x l r => exact ⟨b, k, x, l, r, rfl⟩
set_option maxHeartbeats 1000000 in
theorem first {t : Tr Int} {b : Nat} {w : World} (h : Hid (In w.heap.size w t)) (hp : t.ptr = .pointer (some ⟨b, 0, none⟩)) : Calls Try.prog 39 #[.pointer (some ⟨b, 0, none⟩)] w fun e w' => FirstPost t w e w' := by
  have HP := Lib.hid hp
  clear hp
  go_enter Try.func39, Try.ntmps39
  go_wp2_with fail
  go_loopw [0] (fun nv wr => ∃ fb, nv = .pointer (some ⟨fb, 0, none⟩) ∧ (∃ s rest, Hid (s.ptr = .pointer (some ⟨fb, 0, none⟩)) ∧ Hid (In w.heap.size w s) ∧ Hid (t.prs = s.prs ++ rest)) ∧ wr = w) (fun nv wr => szAt nv wr)
  case atStart => exact ⟨b, rfl, ⟨t, [], HP, h, Lib.hid (by simp)⟩, rfl⟩
  case round =>
    obtain ⟨fb, rfl, ⟨s, rest, hs, hI, hr⟩, rfl⟩ := hrel
    cases s with
    | nil => exact absurd hs.out (by simp [Tr.ptr])
    | node b1 k1 x1 l1 r1 =>
      have e1 := hs.out
      simp only [Tr.ptr, Value.pointer.injEq, Option.some.injEq, Addr.mk.injEq, and_true] at e1
      subst e1
      have c2 := hI.out.c2
      cases l1 with
      | nil =>
        have c2' : wr.cell? ⟨b1, 2, none⟩ = some (.pointer none) := c2
        clear c2
        go_wp2_with fail
        go_ret
        exact ⟨rfl, b1, k1, x1, r1.prs ++ rest, rfl, hI.out.c0, hI.out.c1, by rw [hr.out]; rfl⟩
      | node b2 k2 x2 l2 r2 =>
        have c2' : wr.cell? ⟨b1, 2, none⟩ = some (.pointer (some ⟨b2, 0, none⟩)) := c2
        clear c2
        have z1 := Lib.hid (szAt_is hI.out)
        have z2 := Lib.hid (szAt_is hI.out.left)
        go_wp2_with fail
        go_roundw
        case rel => exact ⟨b2, rfl, ⟨_, (k1, x1) :: (r1.prs ++ rest), Lib.hid rfl, Lib.hid hI.out.left, Lib.hid (by rw [hr.out]; simp [Tr.prs])⟩, trivial⟩
        case measure =>
          have y1 := z1.out
          have y2 := z2.out
          simp only [Tr.ptr, Tr.sz] at y1 y2
          rw [y1, y2]
          omega

/-- A tree without a key that it has. -/
def OutPost (k : List UInt8) (t : Tr Int) (w : World) (e : Ending) (w' : World) : Prop :=
  ∃ t' u, t'.ptr = .pointer u ∧ e = .returned (.pointer u) ∧ In w'.heap.size w' t' ∧ Below w.heap.size w w' ∧ t'.prs = delP k t.prs ∧ t'.avl ∧ t'.ht ≤ t.ht ∧ t.ht ≤ t'.ht + 1

set_option maxHeartbeats 1000000 in
theorem out_lt {b : Nat} {k k0 : List UInt8} {x0 : Int} {l r : Tr Int} {w : World} (hn : Hid (In w.heap.size w (.node b k0 x0 l r))) (ha : (Tr.node b k0 x0 l r).avl) (ho : ris (Tr.node b k0 x0 l r).prs) (hs : (Tr.node b k0 x0 l r).sz ≤ 800000) (h : ltB k k0 = true)
    (ih : ∀ y, In y.heap.size y l → Calls Try.prog 29 #[l.ptr, .string (bs k)] y fun e w' => OutPost k l y e w') :
    Calls Try.prog 29 #[.pointer (some ⟨b, 0, none⟩), .string (bs k)] w fun e w' => OutPost k (.node b k0 x0 l r) w e w' := by
  obtain ⟨pl, hpl⟩ := l.ptr_is
  obtain ⟨pr, hpr⟩ := r.ptr_is
  have c0 := hn.out.c0
  have c2 := hn.out.c2
  have c3 := hn.out.c3
  rw [hpl] at c2
  rw [hpr] at c3
  have hb := Lib.hid hn.out.lt
  have HC := Lib.hid (show Calls Try.prog 24 #[.string (bs k), .string (bs k0)] w fun e w' => e = .returned (.int .i64 (-1)) ∧ w' = w by rw [← cmpL_lt h]; exact cmp_Compare k k0 w)
  have HP := Lib.hid (show ∀ y, Below w.heap.size w y → Calls Try.prog 29 #[.pointer pl, .string (bs k)] y fun e w' => OutPost k l y e w' from fun y K => by rw [← hpl]; exact ih y (hn.out.left.seen K))
  have HE := Lib.hid (show ∀ l' u y, l'.ptr = .pointer u → In y.heap.size y l' → Below w.heap.size w y → l'.prs = delP k l.prs → l'.avl → l'.ht ≤ l.ht → l.ht ≤ l'.ht + 1 →
      Calls Try.prog 38 #[.pointer (some ⟨b, 0, none⟩), .pointer u, .pointer pr] y fun e w' => EvenPost k0 x0 l' r y e w' from fun l' u y e1 I K e2 e3 e4 e5 =>
      even_ask hn.out K e1 hpr I (hn.out.right.seen K) e3 ha.2.2 (by have := ha.1; omega) (by have := ha.1; omega) (by
        have := delP_len k l.prs
        rw [← e2, ← Tr.sz_prs, ← Tr.sz_prs] at this
        simp only [Tr.sz] at hs
        omega))
  have HF := Lib.hid (show ∀ l' t, l'.prs = delP k l.prs → l'.ht ≤ l.ht → l.ht ≤ l'.ht + 1 → Ev k0 x0 l' r t → t.prs = delP k (Tr.node b k0 x0 l r).prs ∧ t.avl ∧ t.ht ≤ (Tr.node b k0 x0 l r).ht ∧ (Tr.node b k0 x0 l r).ht ≤ t.ht + 1 from fun l' t e1 e2 e3 ev =>
    ⟨by rw [ev.prs, e1]; exact (delP_low h (ris_mid ho).2.2.2).symm, ev.avl, dn_left ha.1 e2 e3 ev⟩)
  have HKP := Lib.hid (show ∀ y, Below w.heap.size w y → (y.cell? ⟨b, 2, none⟩ = some (.pointer pl) ∧ y.cell? ⟨b, 3, none⟩ = some (.pointer pr)) from fun y K => ⟨by rw [K.cell (p := ⟨b, 2, none⟩) hb.out]; exact c2, by rw [K.cell (p := ⟨b, 3, none⟩) hb.out]; exact c3⟩)
  clear hpl hpr ha ho hs ih h
  go_enter Try.func29, Try.ntmps29
  go_wp2_with (go_at_call 24; (with_reducible refine HC.out.mono ?_); rintro e w ⟨rfl, rfl⟩)
  have B0 := Lib.hid (show Below w.heap.size w w.drew from (Below.refl _ w).drew)
  go_region_held3 (fun w' => w'.cell? ⟨b, 2, none⟩ = some (.pointer pl) ∧ w'.cell? ⟨b, 3, none⟩ = some (.pointer pr))
    (first | exact HKP.out _ B0.out | exact HKP.out _ B1.out | exact HKP.out _ B2.out)
    (first
    | (go_at_call 29; (with_reducible refine (HP.out _ B0.out).mono ?_); rintro e y1 ⟨l', u, e1, rfl, I1, BA, e2, e3, e4, e5⟩; have B1 := Lib.hid (B0.out.trans (BA.mono B0.out.size)); have hc := Lib.hid (HE.out l' u y1 e1 I1 B1.out e2 e3 e4 e5); have hf := fun t => Lib.hid (HF.out l' t e2 e4 e5); clear BA e1 e2 e3 e4 e5)
    | (go_at_call 38; (with_reducible refine hc.out.mono ?_); rintro e y2 ⟨t, c2, e1, rfl, I2, BA, ev⟩; have B2 := Lib.hid (B1.out.trans (BA.mono B1.out.size)); have PT := Lib.hid e1; have EV := Lib.hid ev; clear BA e1 ev))
  go_wp2_with fail
  go_ret
  exact ⟨t, _, PT.out, rfl, I2, B2.out, (hf t).out EV.out⟩
set_option maxHeartbeats 1000000 in
theorem out_gt {b : Nat} {k k0 : List UInt8} {x0 : Int} {l r : Tr Int} {w : World} (hn : Hid (In w.heap.size w (.node b k0 x0 l r))) (ha : (Tr.node b k0 x0 l r).avl) (ho : ris (Tr.node b k0 x0 l r).prs) (hs : (Tr.node b k0 x0 l r).sz ≤ 800000) (h : ltB k0 k = true)
    (ih : ∀ y, In y.heap.size y r → Calls Try.prog 29 #[r.ptr, .string (bs k)] y fun e w' => OutPost k r y e w') :
    Calls Try.prog 29 #[.pointer (some ⟨b, 0, none⟩), .string (bs k)] w fun e w' => OutPost k (.node b k0 x0 l r) w e w' := by
  obtain ⟨pl, hpl⟩ := l.ptr_is
  obtain ⟨pr, hpr⟩ := r.ptr_is
  have c0 := hn.out.c0
  have c2 := hn.out.c2
  have c3 := hn.out.c3
  rw [hpl] at c2
  rw [hpr] at c3
  have hb := Lib.hid hn.out.lt
  have HC := Lib.hid (show Calls Try.prog 24 #[.string (bs k), .string (bs k0)] w fun e w' => e = .returned (.int .i64 1) ∧ w' = w by rw [← cmpL_gt h]; exact cmp_Compare k k0 w)
  have HP := Lib.hid (show ∀ y, Below w.heap.size w y → Calls Try.prog 29 #[.pointer pr, .string (bs k)] y fun e w' => OutPost k r y e w' from fun y K => by rw [← hpr]; exact ih y (hn.out.right.seen K))
  have HE := Lib.hid (show ∀ r' u y, r'.ptr = .pointer u → In y.heap.size y r' → Below w.heap.size w y → r'.prs = delP k r.prs → r'.avl → r'.ht ≤ r.ht → r.ht ≤ r'.ht + 1 →
      Calls Try.prog 38 #[.pointer (some ⟨b, 0, none⟩), .pointer pl, .pointer u] y fun e w' => EvenPost k0 x0 l r' y e w' from fun r' u y e1 I K e2 e3 e4 e5 =>
      even_ask hn.out K hpl e1 (hn.out.left.seen K) I ha.2.1 e3 (by have := ha.1; omega) (by have := ha.1; omega) (by
        have := delP_len k r.prs
        rw [← e2, ← Tr.sz_prs, ← Tr.sz_prs] at this
        simp only [Tr.sz] at hs
        omega))
  have HF := Lib.hid (show ∀ r' t, r'.prs = delP k r.prs → r'.ht ≤ r.ht → r.ht ≤ r'.ht + 1 → Ev k0 x0 l r' t → t.prs = delP k (Tr.node b k0 x0 l r).prs ∧ t.avl ∧ t.ht ≤ (Tr.node b k0 x0 l r).ht ∧ (Tr.node b k0 x0 l r).ht ≤ t.ht + 1 from fun r' t e1 e2 e3 ev =>
    ⟨by rw [ev.prs, e1]; exact (delP_high h (ris_mid ho).2.2.1).symm, ev.avl, dn_right ha.1 e2 e3 ev⟩)
  have HKP := Lib.hid (show ∀ y, Below w.heap.size w y → (y.cell? ⟨b, 2, none⟩ = some (.pointer pl) ∧ y.cell? ⟨b, 3, none⟩ = some (.pointer pr)) from fun y K => ⟨by rw [K.cell (p := ⟨b, 2, none⟩) hb.out]; exact c2, by rw [K.cell (p := ⟨b, 3, none⟩) hb.out]; exact c3⟩)
  clear hpl hpr ha ho hs ih h
  go_enter Try.func29, Try.ntmps29
  go_wp2_with (go_at_call 24; (with_reducible refine HC.out.mono ?_); rintro e w ⟨rfl, rfl⟩)
  have B0 := Lib.hid (show Below w.heap.size w w.drew from (Below.refl _ w).drew)
  go_region_held3 (fun w' => w'.cell? ⟨b, 2, none⟩ = some (.pointer pl) ∧ w'.cell? ⟨b, 3, none⟩ = some (.pointer pr))
    (first | exact HKP.out _ B0.out | exact HKP.out _ B1.out | exact HKP.out _ B2.out)
    (first
    | (go_at_call 29; (with_reducible refine (HP.out _ B0.out).mono ?_); rintro e y1 ⟨l', u, e1, rfl, I1, BA, e2, e3, e4, e5⟩; have B1 := Lib.hid (B0.out.trans (BA.mono B0.out.size)); have hc := Lib.hid (HE.out l' u y1 e1 I1 B1.out e2 e3 e4 e5); have hf := fun t => Lib.hid (HF.out l' t e2 e4 e5); clear BA e1 e2 e3 e4 e5)
    | (go_at_call 38; (with_reducible refine hc.out.mono ?_); rintro e y2 ⟨t, c2, e1, rfl, I2, BA, ev⟩; have B2 := Lib.hid (B1.out.trans (BA.mono B1.out.size)); have PT := Lib.hid e1; have EV := Lib.hid ev; clear BA e1 ev))
  go_wp2_with fail
  go_ret
  exact ⟨t, _, PT.out, rfl, I2, B2.out, (hf t).out EV.out⟩
theorem out_last {b : Nat} {k : List UInt8} {x0 : Int} {l : Tr Int} {w : World} (hn : Hid (In w.heap.size w (.node b k x0 l .nil))) (ha : (Tr.node b k x0 l .nil).avl) (ho : ris (Tr.node b k x0 l .nil).prs) :
    Calls Try.prog 29 #[.pointer (some ⟨b, 0, none⟩), .string (bs k)] w fun e w' => OutPost k (.node b k x0 l .nil) w e w' := by
  obtain ⟨pl, hpl⟩ := l.ptr_is
  have c0 := hn.out.c0
  have c2 := hn.out.c2
  have c3 : w.cell? ⟨b, 3, none⟩ = some (.pointer none) := hn.out.c3
  rw [hpl] at c2
  have HC := Lib.hid (show Calls Try.prog 24 #[.string (bs k), .string (bs k)] w fun e w' => e = .returned (.int .i64 0) ∧ w' = w by rw [← cmpL_eq (rfl : k = k)]; exact cmp_Compare k k w)
  have HPL := Lib.hid hpl
  have HF := Lib.hid (show l.prs = delP k (Tr.node b k x0 l .nil).prs ∧ l.avl ∧ l.ht ≤ (Tr.node b k x0 l .nil).ht ∧ (Tr.node b k x0 l .nil).ht ≤ l.ht + 1 from
    ⟨by rw [Tr.prs, delP_same (ris_mid ho).2.2.1 (ris_mid ho).2.2.2]; simp [Tr.prs], ha.2.1, by simp only [Tr.ht]; omega, by simp only [Tr.ht]; omega⟩)
  clear hpl ha ho
  go_enter Try.func29, Try.ntmps29
  go_wp2_with (go_at_call 24; (with_reducible refine HC.out.mono ?_); rintro e w ⟨rfl, rfl⟩)
  go_ret
  exact ⟨l, _, HPL.out, rfl, hn.out.left, Below.refl _ _, HF.out⟩
set_option maxHeartbeats 1000000 in
theorem out_mid {b br : Nat} {k : List UInt8} {x0 : Int} {l r : Tr Int} {w : World} (hn : Hid (In w.heap.size w (.node b k x0 l r))) (hpr : r.ptr = .pointer (some ⟨br, 0, none⟩)) (ha : (Tr.node b k x0 l r).avl) (ho : ris (Tr.node b k x0 l r).prs) (hs : (Tr.node b k x0 l r).sz ≤ 800000)
    (ih : ∀ fk y, In y.heap.size y r → (∃ v ∈ r.prs, v.1 = fk) → Calls Try.prog 29 #[.pointer (some ⟨br, 0, none⟩), .string (bs fk)] y fun e w' => OutPost fk r y e w') :
    Calls Try.prog 29 #[.pointer (some ⟨b, 0, none⟩), .string (bs k)] w fun e w' => OutPost k (.node b k x0 l r) w e w' := by
  obtain ⟨pl, hpl⟩ := l.ptr_is
  have c0 := hn.out.c0
  have c2 := hn.out.c2
  have c3 := hn.out.c3
  rw [hpl] at c2
  rw [hpr] at c3
  have hb := Lib.hid hn.out.lt
  have HC := Lib.hid (show Calls Try.prog 24 #[.string (bs k), .string (bs k)] w fun e w' => e = .returned (.int .i64 0) ∧ w' = w by rw [← cmpL_eq (rfl : k = k)]; exact cmp_Compare k k w)
  have HF1 := Lib.hid (first (Lib.hid hn.out.right) hpr)
  have HP := Lib.hid (show ∀ fk y, Below w.heap.size w y → (∃ v ∈ r.prs, v.1 = fk) → Calls Try.prog 29 #[.pointer (some ⟨br, 0, none⟩), .string (bs fk)] y fun e w' => OutPost fk r y e w' from fun fk y K hv => ih fk y (hn.out.right.seen K) hv)
  have HE := Lib.hid (show ∀ fb fk fx r' u y, w.cell? ⟨fb, 0, none⟩ = some (.string (bs fk)) → w.cell? ⟨fb, 1, none⟩ = some (.int .i64 fx) → r'.ptr = .pointer u → In y.heap.size y r' → Below w.heap.size w y → r'.prs = delP fk r.prs → r'.avl → r'.ht ≤ r.ht → r.ht ≤ r'.ht + 1 →
      Calls Try.prog 38 #[.pointer (some ⟨fb, 0, none⟩), .pointer pl, .pointer u] y fun e w' => EvenPost fk fx l r' y e w' from fun fb fk fx r' u y d0 d1 e1 I K e2 e3 e4 e5 => by
      rw [← hpl, ← e1]
      refine even (Lib.hid (by rw [K.cell (cell_block d0)]; exact d0)) (Lib.hid (by rw [K.cell (cell_block d1)]; exact d1)) (Lib.hid (hn.out.left.seen K)) (Lib.hid I) ha.2.1 e3 (by have := ha.1; omega) (by have := ha.1; omega) ?_
      have := delP_len fk r.prs
      rw [← e2, ← Tr.sz_prs, ← Tr.sz_prs] at this
      simp only [Tr.sz] at hs
      omega)
  have HF := Lib.hid (show ∀ fk fx rest r' t, r.prs = (fk, fx) :: rest → r'.prs = delP fk r.prs → r'.ht ≤ r.ht → r.ht ≤ r'.ht + 1 → Ev fk fx l r' t → t.prs = delP k (Tr.node b k x0 l r).prs ∧ t.avl ∧ t.ht ≤ (Tr.node b k x0 l r).ht ∧ (Tr.node b k x0 l r).ht ≤ t.ht + 1 from fun fk fx rest r' t e0 e1 e2 e3 ev => by
    have hm := ris_mid ho
    have hq : ris ([] ++ (fk, fx) :: rest) := by rw [List.nil_append, ← e0]; exact hm.2.1
    have hd : delP fk r.prs = rest := by rw [e0]; exact delP_same (A := []) (fun _ h => by cases h) (ris_mid hq).2.2.2
    refine ⟨?_, ev.avl, dn_right ha.1 e2 e3 ev⟩
    rw [ev.prs, e1, hd, ← e0]
    exact (delP_same hm.2.2.1 hm.2.2.2).symm)
  clear hpl hpr ha ho hs ih
  go_enter Try.func29, Try.ntmps29
  go_wp2_with (first
    | (go_at_call 24; (with_reducible refine HC.out.mono ?_); rintro e w ⟨rfl, rfl⟩)
    | (go_at_call 39; (with_reducible refine HF1.out.mono ?_); rintro e w ⟨rfl, fb, fk, fx, rest, rfl, d0, d1, hr⟩))
  have B0 := Lib.hid (show Below w.heap.size w w.drew from (Below.refl _ w).drew)
  have HR := Lib.hid hr
  have HD := Lib.hid (And.intro d0 d1)
  have HKP := Lib.hid (show ∀ y, Below w.heap.size w y → (y.cell? ⟨b, 2, none⟩ = some (.pointer pl) ∧ y.cell? ⟨b, 3, none⟩ = some (.pointer (some ⟨br, 0, none⟩)) ∧ y.cell? ⟨fb, 0, none⟩ = some (.string (bs fk))) from fun y K => ⟨by rw [K.cell (p := ⟨b, 2, none⟩) hb.out]; exact c2, by rw [K.cell (p := ⟨b, 3, none⟩) hb.out]; exact c3, by rw [K.cell (cell_block HD.out.1)]; exact HD.out.1⟩)
  clear hr d1
  go_region_held3 (fun w' => w'.cell? ⟨b, 2, none⟩ = some (.pointer pl) ∧ w'.cell? ⟨b, 3, none⟩ = some (.pointer (some ⟨br, 0, none⟩)) ∧ w'.cell? ⟨fb, 0, none⟩ = some (.string (bs fk)))
    (first | exact HKP.out _ B0.out | exact HKP.out _ B1.out | exact HKP.out _ B2.out)
    (first
    | (go_at_call 29; (with_reducible refine (HP.out fk _ B0.out ⟨(fk, fx), by rw [HR.out]; simp, rfl⟩).mono ?_); rintro e y1 ⟨r', u, e1, rfl, I1, BA, e2, e3, e4, e5⟩; have B1 := Lib.hid (B0.out.trans (BA.mono B0.out.size)); have hc := Lib.hid (HE.out fb fk fx r' u y1 HD.out.1 HD.out.2 e1 I1 B1.out e2 e3 e4 e5); have hf := fun t => Lib.hid (HF.out fk fx rest r' t HR.out e2 e4 e5); clear BA e1 e2 e3 e4 e5)
    | (go_at_call 38; (with_reducible refine hc.out.mono ?_); rintro e y2 ⟨t, c2, e1, rfl, I2, BA, ev⟩; have B2 := Lib.hid (B1.out.trans (BA.mono B1.out.size)); have PT := Lib.hid e1; have EV := Lib.hid ev; clear BA e1 ev))
  go_wp2_with fail
  go_ret
  exact ⟨t, _, PT.out, rfl, I2, B2.out, (hf t).out EV.out⟩
/-- A KEY IS TAKEN OUT OF A TREE THAT HAS IT. -/
theorem without : ∀ (t : Tr Int) (k : List UInt8) (w : World), In w.heap.size w t → t.avl → ris t.prs → t.sz ≤ 800000 → (∃ v ∈ t.prs, v.1 = k) → Calls Try.prog 29 #[t.ptr, .string (bs k)] w fun e w' => OutPost k t w e w'
  | .nil, k, w, _, _, _, _, ⟨v, hv, _⟩ => by cases hv
  | .node b k0 x0 l r, k, w, hn, ha, ho, hs, ⟨v, hv, hk⟩ => by
    have h1 := ris_mid ho
    have hv' : v ∈ l.prs ∨ v = (k0, x0) ∨ v ∈ r.prs := by simpa [Tr.prs] using hv
    rcases ltB_total k k0 with h | h | h
    · have hl : v ∈ l.prs := by
        rcases hv' with e | e | e
        · exact e
        · subst e
          subst hk
          rw [ltB_irrefl] at h
          cases h
        · have := ltB_trans h (h1.2.2.2 v e)
          rw [hk, ltB_irrefl] at this
          cases this
      exact out_lt (Lib.hid hn) ha ho hs h fun y I => without l k y I ha.2.1 h1.1 (by simp only [Tr.sz] at hs; omega) ⟨v, hl, hk⟩
    · subst h
      cases r with
      | nil => exact out_last (Lib.hid hn) ha ho
      | node br kr xr rl rr =>
        exact out_mid (Lib.hid hn) rfl ha ho hs fun fk y I hv => without (.node br kr xr rl rr) fk y I ha.2.2 h1.2.1 (by simp only [Tr.sz] at hs ⊢; omega) hv
    · have hr : v ∈ r.prs := by
        rcases hv' with e | e | e
        · have := ltB_trans (h1.2.2.1 v e) h
          rw [hk, ltB_irrefl] at this
          cases this
        · subst e
          subst hk
          rw [ltB_irrefl] at h
          cases h
        · exact e
      exact out_gt (Lib.hid hn) ha ho hs h fun y I => without r k y I ha.2.2 h1.2.1 (by simp only [Tr.sz] at hs; omega) ⟨v, hr, hk⟩
end Go.Proofs.Ytbmihajbdobgbaa.MI
