/- The document's filter: its bytes. -/
import Derived.Test.YtbiifdnicieamaaDoorBloomRefMake
import Derived.Test.YtbiifdnicieamaaDoorBloomPack
import Derived.Laws.OwnMore
set_option linter.unusedVariables false
set_option maxRecDepth 100000
namespace Go.Proofs.YtbiifdnicieamaaDoor
open Go.RowKit

theorem part_next (f : Nat → Bool) (q r : Nat) (h : r < 8) : byteOf f q / 2 ^ r = 2 * (byteOf f q / 2 ^ (r + 1)) + (f (8 * q + r)).toNat := by
  have hb := byteOf_bit f q r h
  have h2 : byteOf f q / 2 ^ (r + 1) = byteOf f q / 2 ^ r / 2 := by rw [Nat.pow_succ, Nat.div_div_eq_div_mul]
  rw [h2]
  generalize byteOf f q / 2 ^ r = z at *
  rw [← hb]
  rcases Nat.mod_two_eq_zero_or_one z with h0 | h0
  · rw [h0]; simp; omega
  · rw [h0]; simp; omega
theorem part_lt (f : Nat → Bool) (q r : Nat) : byteOf f q / 2 ^ (r + 1) < 128 := by
  have h1 := byteOf_lt f q
  have h2 : byteOf f q / 2 ^ (r + 1) ≤ byteOf f q / 2 ^ 1 := Nat.div_le_div_left (Nat.pow_le_pow_right (by decide) (by omega)) (by decide)
  omega
theorem part_top (f : Nat → Bool) (q : Nat) : byteOf f q / 2 ^ 8 = 0 := Nat.div_eq_of_lt (byteOf_lt f q)
theorem bytesOf_succ (f : Nat → Bool) (q : Nat) : bytesOf f (q + 1) = bytesOf f q ++ [UInt8.ofNat (byteOf f q)] := by simp [bytesOf, List.range_succ]
theorem byteOf_u8 (f : Nat → Bool) (q : Nat) : (UInt8.ofNat (byteOf f q)).toNat = byteOf f q := by rw [ofNat_toNat]; exact Nat.mod_eq_of_lt (byteOf_lt f q)
theorem Own8.below {B : Nat} {v : Value} {l : List UInt8} {w w' : World} (h : Own8 B v l w) (k : Below w.heap.size w w') : Own8 B v l w' := World.ownsRow.kept (row := none) h ⟨k.os, k.tape, k.output, k.size, fun j hj _ => k.block j hj⟩ (by cases e : v.ownBlock with
  | none => exact .inl rfl
  | some x => exact .inr (by simp))

set_option maxHeartbeats 2000000 in
theorem ref_pack (h g m cap : Nat) (f : Nat → Bool) (w : World) (hr : Hid (RowB g f (m * 8) w)) (hm1 : 1 ≤ m) (hm : m ≤ 100000000) (hh : h ≤ 8) :
    Calls Tryd.prog 22 #[fv h g (m * 8) cap] w fun e w' => e = .returned (.string (bs (packF h (bytesOf f m)))) ∧ Below w.heap.size w w' := by
  obtain ⟨i0, hi, hz0, hz1, hz2⟩ := info_parts info5
  obtain ⟨Z, hZ⟩ : ∃ Z, Z = w.heap.size := ⟨_, rfl⟩
  obtain ⟨N, hN⟩ : ∃ N, N = m * 8 := ⟨_, rfl⟩
  rw [← hN] at hr ⊢
  obtain ⟨w1, hw1⟩ : ∃ w1, w1 = w.alloc (.cells #[.int .i64 (h : Int), .slice (some ⟨g, 0, none⟩) N cap] 31) := ⟨_, rfl⟩
  have B1 := Lib.hid (show Below Z w w1 by rw [hw1, hZ]; exact (Below.refl _ _).alloc (Nat.le_refl _) _)
  have S1 := Lib.hid (show w1.heap.size = Z + 1 by rw [hw1, hZ]; simp)
  have c0 := Lib.hid (show w1.cell? ⟨Z, 0, none⟩ = some (.int .i64 (h : Int)) ∧ w1.cell? ⟨Z, 1, none⟩ = some (.slice (some ⟨g, 0, none⟩) N cap) by
    rw [hw1, hZ, World.cell?_alloc_mark, World.cell?_alloc_mark]; exact ⟨rfl, rfl⟩)
  have hgZ := Lib.hid (show g < Z by rw [hZ]; exact hr.out.1)
  have R1 := Lib.hid (hr.out.keep B1.out hgZ.out)
  have HW1 := Lib.hid hw1
  have HZ := Lib.hid hZ
  have HN := Lib.hid hN
  clear hw1 hZ hN
  rw [← HZ.out]
  unfold fv
  go_enter Tryd.func22, Tryd.ntmps22
  go_upto_region 1 with (fail)
  change Code.wp _ _ _ _ (w.alloc (.cells #[.int .i64 (h : Int), .slice (some ⟨g, 0, none⟩) N cap] 31))
  rw [← HW1.out, ← HZ.out]
  go_wp2_with fail
  go_loopw [3, 4] (fun v vi wr => ∃ q : Nat, q ≤ m ∧ vi = .int .i64 ((8 * q : Nat) : Int) ∧ Hid (Own8 w1.heap.size v (bytesOf f q) wr) ∧ Hid (Below w1.heap.size w1 wr)) (fun v vi wr => N - (intOf vi).toNat)
  case atStart => exact ⟨0, by omega, rfl, Lib.hid (World.ownsRow_nil _ _ _ _), Lib.hid (Below.refl _ _)⟩
  case round =>
    obtain ⟨q, hq, rfl, hO, hB⟩ := hrel
    obtain ⟨i, hi8⟩ : ∃ i, i = 8 * q := ⟨_, rfl⟩
    rw [← hi8]
    have hNm := HN.out
    have e1 := Lib.hid (show wr.cell? ⟨Z, 1, none⟩ = some (.slice (some ⟨g, 0, none⟩) N cap) by rw [hB.out.cell (p := ⟨Z, 1, none⟩) (show Z < w1.heap.size by rw [S1.out]; omega)]; exact c0.out.2)
    have e0 := Lib.hid (show wr.cell? ⟨Z, 0, none⟩ = some (.int .i64 (h : Int)) by rw [hB.out.cell (p := ⟨Z, 0, none⟩) (show Z < w1.heap.size by rw [S1.out]; omega)]; exact c0.out.1)
    have Rr := Lib.hid (R1.out.below hB.out)
    rcases Nat.lt_or_ge q m with hqm | hqm
    · have hiN : i < N := by omega
      have hib : i ≤ 800000000 := by omega
      have e1' := e1.out
      have HI := Lib.hid hi8
      have HNM := Lib.hid hNm
      clear hi8 hNm
      go_wp2_with fail
      go_loop [5, 6] (fun vx vk => ∃ r : Nat, r ≤ 8 ∧ vk = .int .i64 ((r : Int) - 1) ∧ vx = .int .u8 ((byteOf f q / 2 ^ r : Nat) : Int)) (fun vx vk => (intOf vk + 1).toNat)
      case atStart => exact ⟨8, by omega, rfl, by rw [part_top]; rfl⟩
      case round =>
        obtain ⟨r, hr8, rfl, rfl⟩ := hrel
        cases r with
        | zero =>
          have hOl := Lib.hid (bytesOf_len f q)
          have hsz := Lib.hid (show w1.heap.size ≤ wr.heap.size from hB.out.size)
          have hu8 := Lib.hid (byteOf_u8 f q)
          obtain ⟨X, hX⟩ : ∃ X, X = byteOf f q := ⟨_, rfl⟩
          have hX0 : byteOf f q / 2 ^ 0 = X := by rw [hX]; simp
          rw [hX0, show (((0 : Nat) : Int) - 1) = -1 from rfl]
          have HX := Lib.hid hX
          have HIN := Lib.hid (show ((i : Int) + 8) = ((8 * (q + 1) : Nat) : Int) by have := HI.out; omega)
          clear hX hX0
          go_wp2_with (first | (refine wpList_append_own _ rfl (.tmp 29) (.tmp 31) 48 rfl w1.heap.size 5 i0 (.int .u8 0) 1 1 Tryd.underlying48 hi hz0 hz1 hz2 rfl (by decide) u3 (bytesOf f q).length (Lib.byteCells (bytesOf f q)) (by simp [Act.eval, Act.put]) (World.ownsRow.alloc hO.out _) ⟨wr.heap.size, 0, none⟩ 1 1 [.int .u8 (X : Int)] (by simp [Act.eval, Act.put]) rfl (fun j u hj => cell_one_new _ _ _ j u hj) (by simp [Value.oneCell']) (by unfold maxLen; have := hOl.out; omega) (by have := hOl.out; omega) (by have := hsz.out; simp; omega) ?_; intro v3 w3 hown3 hg3 _))
          refine ⟨⟨q + 1, by omega, by rw [← HIN.out], Lib.hid ?_, Lib.hid ?_⟩, ?_⟩
          · rw [bytesOf_succ]
            exact Own8.push (b := UInt8.ofNat (byteOf f q)) hown3 (by rw [hu8.out, HX.out])
          · exact (hB.out.alloc hsz.out _).grown hg3 (by have := hsz.out; simp; omega) (fun j hj => (World.ownsRow.lt hO.out j hj).1)
          · have := HI.out; have := HNM.out; simp [intOf]; omega
        | succ r =>
          have hnx := Lib.hid (part_next f q r (by omega))
          have hlt := part_lt f q r
          obtain ⟨X, hX⟩ : ∃ X, X = byteOf f q / 2 ^ (r + 1) := ⟨_, rfl⟩
          rw [← hX] at hnx hlt ⊢
          obtain ⟨y, hy⟩ : ∃ y, y = f (8 * q + r) := ⟨_, rfl⟩
          rw [← hy] at hnx
          have hcell := (Rr.out.2 (8 * q + r) (by have := HNM.out; omega)).1
          rw [← hy, ← HI.out] at hcell
          have hidx : (((r + 1 : Nat) : Int) - 1) = (r : Int) := by omega
          have hirN : i + r < N := by have := HI.out; have := HNM.out; omega
          rw [hidx]
          have hr7 : r ≤ 7 := by omega
          clear hX hy hidx
          cases y with
          | true =>
            have hnx2 := Lib.hid (show byteOf f q / 2 ^ r = 2 * X + 1 from hnx.out)
            go_wp2_with fail
            go_roundw
            case rel => exact ⟨r, by omega, by go_num, by rw [hnx2.out]; go_num⟩
            case measure => simp [intOf]
          | false =>
            have hnx2 := Lib.hid (show byteOf f q / 2 ^ r = 2 * X from hnx.out)
            go_wp2_with fail
            go_roundw
            case rel => exact ⟨r, by omega, by go_num, by rw [hnx2.out]; go_num⟩
            case measure => simp [intOf]
    · obtain rfl : q = m := by omega
      have hiN : ¬ i < N := by omega
      obtain ⟨gv, cv, rfl, hgvB, hgvl⟩ := Own8.formN hO.out (bytesOf_len f q) (by omega)
      have rowv : Row8 gv (bytesOf f q) wr := ⟨hgvl, fun j hj => by
        have h1 := Own8.cell hO.out j hj
        rw [addr_add, Nat.zero_add] at h1
        refine ⟨by rw [h1, byteAt_get _ j hj], ?_⟩
        have h2 := World.ownsRow.frozenAt (cap := cv) (xs := Lib.byteCells (bytesOf f q)) (by have := hO.out; unfold Own8 at this; rw [bytesOf_len] at this; exact this) j
        exact h2⟩
      have hWh := Lib.hid (fun (W : World) (n : Seen W) => seen_of (ref_Whole (h : Int) · (by omega) (by omega)) W n)
      have hTx := Lib.hid (fun (W : World) (n : Seen W) => seen_of (ref_Text (bs (bytesOf f q)) · (by rw [bs_size, bytesOf_len]; omega)) W n)
      have hcv : ∀ n : Seen wr, (convert 48 9 (.slice (some ⟨gv, 0, none⟩) q cv)).run Tryd.prog n.val = .ok (.string (bs (bytesOf f q))) n.val := fun n => conv_back n.val gv (bytesOf f q) q cv (bytesOf_len f q).symm (rowv.keep n.below hgvl)
      have he0 : ∀ n : Seen wr, n.val.cell? ⟨Z, 0, none⟩ = some (.int .i64 (h : Int)) := fun n => by rw [n.below.cell (cell_block e0.out)]; exact e0.out
      have e1' := e1.out
      have hl1 := (whole_len (n := (h : Int)) (by omega) (by omega)).1
      have hl2 := (whole_len (n := ((bytesOf f q).length : Int)) (by omega) (by rw [bytesOf_len]; omega)).1
      have hlt2 : (text (bytesOf f q)).length ≤ 11 + q := by unfold text; rw [List.length_append, bytesOf_len] at *; omega
      have hsum : ((bs (whole (h : Int))).size : Int) + ((bs (text (bs (bytesOf f q)).data.toList)).size : Int) ≤ 9223372036854775807 := by rw [bs_size, bs_size, bs_list]; omega
      have hcat : bs (whole (h : Int)) ++ bs (text (bs (bytesOf f q)).data.toList) = bs (packF h (bytesOf f q)) := by rw [bs_cat, bs_list, bs_list]; rfl
      have Hhi := Lib.hid hi8
      clear hi8 hl1 hl2 hlt2
      go_wp2_with fail
      refine region_seen (by kernel_rfl) (by kernel_rfl) ?_
      repeat go_big_quiet_step (first | (go_at_call 41; with_reducible exact hWh.out _ _) | (go_at_call 42; with_reducible exact hTx.out _ _))
      refine wpQuiet_nil ?_
      rintro _ ⟨m1, rfl⟩
      go_wp2_with fail
      go_ret
      refine ⟨by first | rfl | exact rets (by rw [hcat]), ?_⟩
      exact B1.out.trans (((hB.out.trans (m1.below.mono hB.out.size))).mono (by rw [S1.out]; omega))
end Go.Proofs.YtbiifdnicieamaaDoor
