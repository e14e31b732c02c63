/- The document's filter: has it a key; how many bits are 1. -/
import Derived.Test.YtbiifdnicieamaaDoorBloomRefBits
set_option linter.unusedVariables false
set_option maxRecDepth 100000
namespace Go.Proofs.YtbiifdnicieamaaDoor
open Go.RowKit

/-- In block g there are n bits. -/
def RowB (g : Nat) (f : Nat → Bool) (n : Nat) (w : World) : Prop := g < w.heap.size ∧ ∀ j, j < n → w.cell? ⟨g, j, none⟩ = some (.bool (f j)) ∧ w.frozen? ⟨g, j, none⟩ = false
theorem RowB.keep {g B n : Nat} {f : Nat → Bool} {w w' : World} (h : RowB g f n w) (k : Below B w w') (hg : g < B) : RowB g f n w' :=
  ⟨Nat.lt_of_lt_of_le h.1 k.size, fun j hj => by rw [k.cell hg, YtbiifdnicieamaaDoor.Below.frozen k hg]; exact h.2 j hj⟩
theorem RowB.below {g n : Nat} {f : Nat → Bool} {w w' : World} (h : RowB g f n w) (k : Below w.heap.size w w') : RowB g f n w' := h.keep k h.1

theorem hasB_take (l : List Nat) (f : Nat → Bool) (k : Nat) (h : k < l.length) : (l.take (k + 1)).all f = ((l.take k).all f && f (l.getD k 0)) := by
  rw [List.take_add_one, List.getElem?_eq_getElem h, List.all_append]
  simp [List.getD_eq_getElem?_getD, h]

set_option maxHeartbeats 2000000 in
theorem ref_has (h g N cap : Nat) (f : Nat → Bool) (s : ByteArray) (w : World) (hr : Hid (RowB g f N w)) (h1 : 1 ≤ h) (hh : h ≤ 8) (hN : 0 < N) (hN2 : N ≤ 1000000000) (hs : s.size ≤ 1000000) :
    Calls Tryd.prog 23 #[fv h g N cap, .string s] w fun e w' => e = .returned (.bool (hasB h N f s.data.toList)) ∧ Below w.heap.size w w' := by
  obtain ⟨Z, hZ⟩ : ∃ Z, Z = w.heap.size := ⟨_, rfl⟩
  obtain ⟨w1, hw1⟩ : ∃ w1, w1 = w.alloc (.cells #[.int .i64 (h : Int), .slice (some ⟨g, 0, none⟩) N cap] 31) := ⟨_, rfl⟩
  have B1 := Lib.hid (show Below Z w w1 by rw [hw1, hZ]; exact (Below.refl _ _).alloc (Nat.le_refl _) _)
  have S1 := Lib.hid (show w1.heap.size = Z + 1 by rw [hw1, hZ]; simp)
  have c0 := Lib.hid (show w1.cell? ⟨Z, 0, none⟩ = some (.int .i64 (h : Int)) ∧ w1.cell? ⟨Z, 1, none⟩ = some (.slice (some ⟨g, 0, none⟩) N cap) by
    rw [hw1, hZ, World.cell?_alloc_mark, World.cell?_alloc_mark]; exact ⟨rfl, rfl⟩)
  have hgZ := Lib.hid (show g < Z by rw [hZ]; exact hr.out.1)
  have R1 := Lib.hid (hr.out.keep B1.out hgZ.out)
  have HW1 := Lib.hid hw1
  have HZ := Lib.hid hZ
  clear hw1 hZ
  rw [← HZ.out]
  unfold fv
  go_enter Tryd.func23, Tryd.ntmps23
  go_wp2_with fail
  rw [← HW1.out, ← HZ.out]
  refine (ref_bits h g N cap s w1 hh hN hN2 hs).mono ?_
  rintro e w2 ⟨v, rfl, hO, hB⟩
  obtain ⟨l, hl⟩ : ∃ l, l = nos h N s.data.toList := ⟨_, rfl⟩
  rw [← hl] at hO
  have hlh : l.length = h := by rw [hl]; exact nos_len _ _ _
  have hlt := Lib.hid (show ∀ k, k < h → l.getD k 0 < N from fun k hk => by
    have hm : l.getD k 0 ∈ l := by rw [List.getD_eq_getElem?_getD, List.getElem?_eq_getElem (by omega)]; exact List.getElem_mem (by omega)
    have hm2 : l.getD k 0 ∈ nos h N s.data.toList := hl ▸ hm
    exact nos_lt hN hm2)
  obtain ⟨gl, cl, rfl, _, hgl⟩ := hO.form hlh h1
  have hcell := Lib.hid hO.cell
  have HL := Lib.hid hl
  have Hlh := Lib.hid hlh
  have HB := Lib.hid hB
  have R2 := Lib.hid (R1.out.below hB)
  have c2 := Lib.hid (show w2.cell? ⟨Z, 1, none⟩ = some (.slice (some ⟨g, 0, none⟩) N cap) by rw [hB.cell (p := ⟨Z, 1, none⟩) (show Z < w1.heap.size by rw [S1.out]; omega)]; exact c0.out.2)
  clear hO hl hlh hB
  go_wp2_with fail
  go_loopw [6] (fun vi wr => ∃ k : Nat, k ≤ h ∧ vi = .int .i64 k ∧ (l.take k).all f = true ∧ Below w2.heap.size w2 wr) (fun vi wr => h - (intOf vi).toNat)
  case atStart => exact ⟨0, by omega, rfl, by simp, Below.refl _ _⟩
  case round =>
    obtain ⟨k, hkh, rfl, hall, hB⟩ := hrel
    have HA := Lib.hid hall
    have HW := Lib.hid hB
    clear hall hB
    rcases Nat.lt_or_ge k h with hlk | hge
    · obtain ⟨x, hx⟩ : ∃ x, x = l.getD k 0 := ⟨_, rfl⟩
      obtain ⟨y, hy⟩ : ∃ y, y = f x := ⟨_, rfl⟩
      have hxN : x < N := by rw [hx]; exact hlt.out k hlk
      have e1 : ∀ n : Seen wr, n.val.cell? ⟨Z, 1, none⟩ = some (.slice (some ⟨g, 0, none⟩) N cap) := fun n => by rw [(HW.out.trans (n.below.mono HW.out.size)).cell (cell_block c2.out)]; exact c2.out
      have e2 : ∀ n : Seen wr, n.val.cell? ⟨gl, k, none⟩ = some (.int .i64 (x : Int)) := fun n => by
        have h3 := hcell.out k (by rw [Hlh.out]; exact hlk)
        rw [← hx] at h3
        rw [(HW.out.trans (n.below.mono HW.out.size)).cell (cell_block h3)]; exact h3
      have e3 : ∀ n : Seen wr, n.val.cell? ⟨g, x, none⟩ = some (.bool y) := fun n => by
        have h3 := (R2.out.2 x hxN).1
        rw [← hy] at h3
        rw [(HW.out.trans (n.below.mono HW.out.size)).cell (cell_block h3)]; exact h3
      have HNX := Lib.hid (show (l.take (k + 1)).all f = y by rw [hasB_take l f k (by rw [Hlh.out]; exact hlk), HA.out, Bool.true_and, hy, hx])
      have HY := Lib.hid (show y = false → hasB h N f s.data.toList = false by
        intro h0
        unfold hasB
        rw [← HL.out, List.all_eq_false]
        refine ⟨x, ?_, by rw [← hy, h0]; decide⟩
        rw [hx, List.getD_eq_getElem?_getD, List.getElem?_eq_getElem (by rw [Hlh.out]; exact hlk)]
        exact List.getElem_mem _)
      clear hx hy
      go_wp2_with fail
      refine region_seen (by kernel_rfl) (by kernel_rfl) ?_
      repeat go_big_quiet_step (fail)
      refine wpQuiet_nil ?_
      rintro _ ⟨m1, rfl⟩
      cases y with
      | true =>
        go_wp2_with fail
        go_roundw
        case rel => exact ⟨k + 1, by omega, by go_num, HNX.out, HW.out.trans (m1.below.mono HW.out.size)⟩
        case measure => simp [intOf]; omega
      | false =>
        have hres := Lib.hid (HY.out rfl)
        clear HY
        go_wp2_with fail
        go_ret
        exact ⟨by rw [hres.out]; rfl, (B1.out.trans (HB.out.mono (by rw [S1.out]; omega))).trans ((HW.out.trans (m1.below.mono HW.out.size)).mono (Nat.le_trans (by rw [S1.out]; omega) HB.out.size))⟩
    · obtain rfl : k = h := by omega
      have hres : hasB k N f s.data.toList = true := by
        unfold hasB
        have := HA.out
        rw [List.take_of_length_le (by rw [Hlh.out]; exact Nat.le_refl _), HL.out] at this
        exact this
      go_wp2_with fail
      go_ret
      exact ⟨by rw [hres]; rfl, (B1.out.trans (HB.out.mono (by rw [S1.out]; omega))).trans (HW.out.mono (Nat.le_trans (by rw [S1.out]; omega) HB.out.size))⟩

set_option maxHeartbeats 1000000 in
theorem ref_ones (h g N cap : Nat) (f : Nat → Bool) (w : World) (hr : Hid (RowB g f N w)) (hN2 : N ≤ 1000000000) :
    Calls Tryd.prog 21 #[fv h g N cap] w fun e w' => e = .returned (.int .i64 ((ones f N : Nat) : Int)) ∧ Below w.heap.size w w' := by
  obtain ⟨Z, hZ⟩ : ∃ Z, Z = w.heap.size := ⟨_, rfl⟩
  obtain ⟨w1, hw1⟩ : ∃ w1, w1 = w.alloc (.cells #[.int .i64 (h : Int), .slice (some ⟨g, 0, none⟩) N cap] 31) := ⟨_, rfl⟩
  have B1 := Lib.hid (show Below Z w w1 by rw [hw1, hZ]; exact (Below.refl _ _).alloc (Nat.le_refl _) _)
  have c0 : w1.cell? ⟨Z, 1, none⟩ = some (.slice (some ⟨g, 0, none⟩) N cap) := by
    rw [hw1, hZ, World.cell?_alloc_mark]; rfl
  have hgZ := Lib.hid (show g < Z by rw [hZ]; exact hr.out.1)
  have R1 := Lib.hid (hr.out.keep B1.out hgZ.out)
  have HW1 := Lib.hid hw1
  have HZ := Lib.hid hZ
  clear hw1 hZ
  rw [← HZ.out]
  unfold fv
  go_enter Tryd.func21, Tryd.ntmps21
  go_upto_region 1 with (fail)
  change Code.wp _ _ _ _ (w.alloc (.cells #[.int .i64 (h : Int), .slice (some ⟨g, 0, none⟩) N cap] 31))
  rw [← HW1.out, ← HZ.out]
  go_wp2_with fail
  go_loop [3, 4] (fun s i => ∃ k : Nat, k ≤ N ∧ i = .int .i64 k ∧ s = .int .i64 ((ones f k : Nat) : Int)) (fun s i => N - (intOf i).toNat)
  case atStart => exact ⟨0, by omega, rfl, rfl⟩
  case round =>
    obtain ⟨k, hk, rfl, rfl⟩ := hrel
    rcases Nat.lt_or_ge k N with hkm | hkm
    · obtain ⟨y, hy⟩ : ∃ y, y = f k := ⟨_, rfl⟩
      have cQ := (R1.out.2 k hkm).1
      rw [← hy] at cQ
      have HN := Lib.hid (ones_succ f k)
      rw [← hy] at HN
      obtain ⟨o, ho⟩ : ∃ o, o = ones f k := ⟨_, rfl⟩
      have hob : o ≤ 1000000000 := by rw [ho]; exact Nat.le_trans (ones_le _ _) (by omega)
      rw [← ho] at HN ⊢
      clear hy ho
      cases y with
      | true =>
        go_wp2_with fail
        go_roundw
        case rel => exact ⟨k + 1, by omega, by go_num, by rw [HN.out]; rfl⟩
        case measure => simp [intOf]; omega
      | false =>
        go_wp2_with fail
        go_roundw
        case rel => exact ⟨k + 1, by omega, by go_num, by rw [HN.out]; rfl⟩
        case measure => simp [intOf]; omega
    · obtain rfl : k = N := by omega
      go_wp2_with fail
      go_ret
      exact ⟨rfl, B1.out⟩
end Go.Proofs.YtbiifdnicieamaaDoor
