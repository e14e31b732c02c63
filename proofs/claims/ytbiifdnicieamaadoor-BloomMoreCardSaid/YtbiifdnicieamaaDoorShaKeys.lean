/- Keys, as the program goes over them. -/
import Derived.Test.YtbiifdnicieamaaDoorShaSum
import Derived.Test.YtbiifdnicieamaaDoorShaLaws
import Derived.Laws.Slices
import Derived.Lib.Bytealg
set_option linter.unusedVariables false
set_option maxRecDepth 100000
namespace Go.Proofs.YtbiifdnicieamaaDoor
open Go.RowKit

/-! ### Words -/
theorem and7 (n : Int) : bits .and .i64 n 7 = (((n % 8).toNat : Nat) : Int) := by
  have h7 : (BitVec.ofInt 64 7).toNat = 2 ^ 3 - 1 := by decide
  have key : (BitVec.ofInt 64 n &&& BitVec.ofInt 64 7).toNat = (n % ((2 ^ 64 : Nat) : Int)).toNat % 2 ^ 3 := by
    rw [BitVec.toNat_and, BitVec.toNat_ofInt, h7, Nat.and_two_pow_sub_one_eq_mod]
  show IntKind.i64.wrap ((BitVec.ofInt 64 n &&& BitVec.ofInt 64 7).toNat : Nat) = _
  rw [key, IntKind.wrap_i64]
  omega
theorem len25 : Tryd.prog.arrayLen 70 = 32 := by kernel_rfl
theorem elem25 : Tryd.prog.elem 70 = 5 := by kernel_rfl
theorem arr25 : Tryd.prog.underlying 70 = some (.array 32 5) := by kernel_rfl
/-- Four bytes of a key. -/
theorem run_slice4 (B o : Nat) (ho : o + 4 ≤ 32) (w : World) : (Instr.sliceAt 70 (.pointer (some ⟨B, 0, none⟩)) (some (.int .i64 (o : Int))) (some (.int .i64 ((o : Int) + 4))) none).run Tryd.prog w = .ok (.slice (some ⟨B, o, none⟩) 4 (32 - o)) w := by
  rw [run_sliceAt_array_lh w 70 ⟨B, 0, none⟩ (by rw [len25, elem25]; exact arr25) .i64 .i64 _ _ (by omega) (by omega) (by rw [len25]; omega), elem25, size5]
  simp only [Result.andThen, slicedAt, len25, Int.toNat_natCast, Nat.mul_one]
  rw [if_neg (by omega), addr_add, Nat.zero_add, show ((o : Int) + 4).toNat - o = 4 by omega]

set_option maxHeartbeats 400000 in
theorem sha_Word (l : List UInt8) (n : Int) (w : World) (hl : Hid (l.length = 32)) :
    Calls Tryd.prog 38 #[.agg (keyA l), .int .i64 n] w fun e w' => e = .returned (.int .u32 (wordAt l (4 * (n % 8).toNat))) ∧ Below w.heap.size w w' := by
  have hm := and7 n
  have hm8 : (n % 8).toNat < 8 := by omega
  have HKEY := Lib.hid (keyA_new w l hl.out 70)
  have HB := Lib.hid (((Below.refl w.heap.size w).alloc (Nat.le_refl _) (.cells (keyA l) 70)))
  generalize (n % 8).toNat = m at *
  obtain ⟨o, ho⟩ : ∃ o, o = 4 * m := ⟨_, rfl⟩
  have ho' : 4 * (m : Int) = (o : Int) := by omega
  have hsl := run_slice4 w.heap.size o (by omega)
  have HO := Lib.hid ho
  have ho28 : o ≤ 28 := by omega
  clear ho hm8
  go_enter Tryd.func38, Tryd.ntmps38
  go_wp2_with fail
  generalize w.alloc (.cells (keyA l) 70) = w1 at *
  clear hm ho' hsl
  go_loopw [6, 17] (fun x i wr => ∃ j : Nat, j ≤ 4 ∧ i = .int .i64 j ∧ x = .int .u32 (partW l o j) ∧ wr = w1) (fun x i wr => 4 - (intOf i).toNat)
  case atStart => exact ⟨0, by omega, rfl, rfl, rfl⟩
  case round =>
    obtain ⟨j, hj, rfl, rfl, rfl⟩ := hrel
    by_cases hj4 : j < 4
    · have hXl := partW_lt l o j hj4
      have HX := Lib.hid (show partW l o (j + 1) = 256 * partW l o j + byteAt l (o + j) from rfl)
      have c1 := (HKEY.out.2 (o + j) (by omega)).1
      have hbl := byteAt_lt l (o + j)
      generalize partW l o j = X at *
      generalize byteAt l (o + j) = y at *
      have hor := or_byte X y hXl hbl
      go_wp2_with fail
      go_roundw
      case rel => exact ⟨j + 1, by omega, by go_num, by rw [HX.out]; go_num, trivial⟩
      case measure => simp [intOf]; omega
    · obtain rfl : j = 4 := by omega
      have HX := Lib.hid (partW_four l o)
      go_wp2_with fail
      go_ret
      exact ⟨ret_u32' (by rw [HX.out, HO.out]), HB.out⟩

/-! ### Digits of a key -/
def hfill (l : List UInt8) (i : Nat) : List UInt8 := hexL (l.take i) ++ List.replicate (64 - 2 * i) 0
theorem hfill_len (l : List UInt8) (i : Nat) (hl : l.length = 32) (hi : i ≤ 32) : (hfill l i).length = 64 := by
  unfold hfill
  rw [List.length_append, hexL_len, List.length_take, List.length_replicate]
  omega
theorem hfill_next (l : List UInt8) (i : Nat) (hl : l.length = 32) (hi : i < 32) : ((hfill l i).set (2 * i) (digB (byteAt l i / 16))).set (2 * i + 1) (digB (byteAt l i % 16)) = hfill l (i + 1) := by
  have h1 : (hexL (l.take i)).length = 2 * i := by rw [hexL_len, List.length_take]; omega
  unfold hfill
  rw [hexL_next l i (by omega)]
  obtain ⟨k, hk⟩ : ∃ k, 64 - 2 * i = k + 1 + 1 := ⟨62 - 2 * i, by omega⟩
  rw [hk, show 64 - 2 * (i + 1) = k by omega, List.replicate_succ, List.replicate_succ]
  rw [List.set_append_right _ _ (by omega), h1, Nat.sub_self, List.set_cons_zero, List.set_append_right _ _ (by omega), h1, show 2 * i + 1 - 2 * i = 0 + 1 by omega, List.set_cons_succ, List.set_cons_zero]
  simp
theorem hfill_all (l : List UInt8) (hl : l.length = 32) : hfill l 32 = hexL l := by
  unfold hfill
  rw [List.take_of_length_le (by omega)]
  simp
theorem Row8.set {b : Nat} {l : List UInt8} {w : World} (h : Row8 b l w) {i : Nat} (hi : i < l.length) (v : UInt8) : Row8 b (l.set i v) (w.setCell ⟨b, i, none⟩ (.int .u8 (v.toNat : Int))) := by
  refine ⟨by simpa using h.1, fun j hj => ?_⟩
  rw [List.length_set] at hj
  refine ⟨?_, by rw [World.frozen?_setCell]; exact (h.2 j hj).2⟩
  by_cases hji : j = i
  · subst hji
    rw [World.cell?_setCell_same w _ _ (h.2 j hj).1]
    simp [byteAt, List.getD_eq_getElem?_getD, hj]
  · rw [World.cell?_setCell_other w _ _ _ (fun e => hji (by injection e with _ e2; exact e2.symm)), (h.2 j hj).1]
    simp [byteAt, List.getD_eq_getElem?_getD, List.getElem?_set_ne (fun e => hji e.symm)]
theorem mask15 (y : Nat) (h : y < 256) : bits .and .u8 (y : Int) 15 = ((y % 16 : Nat) : Int) := by
  rw [show (15 : Int) = ((15 : Nat) : Int) from rfl, u8_and_nat _ _ h (by omega), nat_mask4]
theorem digB_nat (k : Nat) (h : k < 16) : ((digB k).toNat : Int) = (digN k : Int) := by
  unfold digB
  rw [ofNat_toNat, Nat.mod_eq_of_lt (digN_lt h)]
theorem slice64_all (B : Nat) (w : World) : (Instr.sliceAt 90 (.pointer (some ⟨B, 0, none⟩)) none none none).run Tryd.prog w = .ok (.slice (some ⟨B, 0, none⟩) 64 64) w := by
  rw [run_sliceAt_array_all w 90 ⟨B, 0, none⟩ (by rw [len46, elem46]; exact arr46), elem46, size5]
  simp only [Result.andThen, slicedAt, len46]
  rw [if_neg (by omega), addr_add]

end Go.Proofs.YtbiifdnicieamaaDoor
