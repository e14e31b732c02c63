/- Keys, as the program goes over them. -/
import Derived.Test.YthgbjanefljjcaaDoorShaSum
import Derived.Test.YthgbjanefljjcaaDoorShaLaws
import Derived.Laws.Slices
import Derived.Lib.Bytealg
set_option linter.unusedVariables false
namespace Go.Proofs.YthgbjanefljjcaaDoor
open Go.RowKit

set_option maxHeartbeats 400000 in
theorem sha_Less (l m : List UInt8) (w : World) (hl : Hid (l.length = 32)) (hm : Hid (m.length = 32)) :
    Calls Tryd.prog 14 #[.agg (keyA l), .agg (keyA m)] w fun e w' => e = .returned (.bool (lessL l m)) ∧ Below w.heap.size w w' := by
  have HK1 := Lib.hid ((keyA_new w l hl.out 25).keep ((Below.refl (w.heap.size + 1) (w.alloc (.cells (keyA l) 25))).alloc (by simp) (.cells (keyA m) 25)) (by omega))
  have HK2 := Lib.hid (show Key8 (w.heap.size + 1) (byteAt m) ((w.alloc (.cells (keyA l) 25)).alloc (.cells (keyA m) 25)) by
    have h := keyA_new (w.alloc (.cells (keyA l) 25)) m hm.out 25
    rwa [show (w.alloc (.cells (keyA l) 25)).heap.size = w.heap.size + 1 by simp] at h)
  have HB := Lib.hid ((((Below.refl w.heap.size w).alloc (Nat.le_refl _) (.cells (keyA l) 25))).alloc (by simp) (.cells (keyA m) 25))
  go_enter Tryd.func14, Tryd.ntmps14
  go_wp2_with fail
  generalize (w.alloc (.cells (keyA l) 25)).alloc (.cells (keyA m) 25) = w2 at *
  go_loopw [6] (fun vi wr => ∃ i : Nat, i ≤ 32 ∧ vi = .int .i64 i ∧ Hid (l.take i = m.take i) ∧ Hid (∃ n, wr = w2.drewN n)) (fun vi wr => 32 - (intOf vi).toNat)
  case atStart => exact ⟨0, by omega, rfl, Lib.hid rfl, Lib.hid ⟨0, rfl⟩⟩
  case round =>
    obtain ⟨i, hi, rfl, ht, hd⟩ := hrel
    by_cases hi32 : i < 32
    · have K1 := Lib.hid (show Key8 w.heap.size (byteAt l) wr by obtain ⟨n, hn⟩ := hd.out; rw [hn]; exact ⟨HK1.out.1, HK1.out.2⟩)
      have K2 := Lib.hid (show Key8 (w.heap.size + 1) (byteAt m) wr by obtain ⟨n, hn⟩ := hd.out; rw [hn]; exact ⟨HK2.out.1, HK2.out.2⟩)
      have c1 := (K1.out.2 i hi32).1
      have c2 := (K2.out.2 i hi32).1
      have HE1 := Lib.hid (byteAt_get l i (by rw [hl.out]; exact hi32))
      have HE2 := Lib.hid (byteAt_get m i (by rw [hm.out]; exact hi32))
      obtain ⟨y1, hy1⟩ : ∃ y, y = byteAt l i := ⟨_, rfl⟩
      obtain ⟨y2, hy2⟩ : ∃ y, y = byteAt m i := ⟨_, rfl⟩
      rw [← hy1] at c1 HE1
      rw [← hy2] at c2 HE2
      clear hy1 hy2
      by_cases he : y1 = y2
      · have hb : ((y1 : Int) == (y2 : Int)) = true := beq_iff_eq.2 (by omega)
        have HT := Lib.hid (take_same ht.out (by rw [hl.out]; exact hi32) (by rw [hm.out]; exact hi32) (UInt8.toNat_inj.1 (by rw [← HE1.out, ← HE2.out, he])))
        clear he
        go_wp2_with fail
        go_quiet (fail)
        have HD := Lib.hid (show ∃ n, wr.drewN nq = w2.drewN n by obtain ⟨n, hn⟩ := hd.out; exact ⟨n + nq, by rw [hn, World.drewN_drewN]⟩)
        generalize wr.drewN nq = wq at *
        go_wp2_with fail
        go_roundw
        case rel => exact ⟨i + 1, by omega, by go_num, HT, HD⟩
        case measure => simp [intOf]; omega
      · have hb : ((y1 : Int) == (y2 : Int)) = false := beq_eq_false_iff_ne.2 (by omega)
        have HL := Lib.hid (lessL_at l m i (by rw [hl.out]; exact hi32) (by rw [hm.out]; exact hi32) ht.out (fun h => he (by rw [HE1.out, HE2.out, h])))
        go_wp2_with fail
        go_quiet (fail)
        go_wp2_with fail
        go_quiet (fail)
        go_wp2_with fail
        have HLY := Lib.hid (show lessL l m = decide (y1 < y2) by rw [HL.out, HE1.out, HE2.out])
        have HW := Lib.hid (show Below w.heap.size w wr by obtain ⟨n, hn⟩ := hd.out; rw [hn]; exact below_drewN HB.out n)
        go_ret
        exact ⟨ret_bool HLY.out, below_drewN (below_drewN HW.out _) _⟩
    · obtain rfl : i = 32 := by omega
      have HS : l = m := by
        have h := ht.out
        rw [List.take_of_length_le (by rw [hl.out]; exact Nat.le_refl _), List.take_of_length_le (by rw [hm.out]; exact Nat.le_refl _)] at h
        exact h
      have HL := Lib.hid (show lessL l m = false by rw [HS]; exact lessL_same m)
      have HW := Lib.hid (show Below w.heap.size w wr by obtain ⟨n, hn⟩ := hd.out; rw [hn]; exact below_drewN HB.out n)
      clear HS
      go_wp2_with fail
      go_ret
      exact ⟨ret_bool HL.out, HW.out⟩


/-! ### Words -/
theorem and7 (n : Int) : bits .and .i64 n 7 = (((n % 8).toNat : Nat) : Int) := by
  have h7 : (BitVec.ofInt 64 7).toNat = 2 ^ 3 - 1 := by decide
  have key : (BitVec.ofInt 64 n &&& BitVec.ofInt 64 7).toNat = (n % ((2 ^ 64 : Nat) : Int)).toNat % 2 ^ 3 := by
    rw [BitVec.toNat_and, BitVec.toNat_ofInt, h7, Nat.and_two_pow_sub_one_eq_mod]
  show IntKind.i64.wrap ((BitVec.ofInt 64 n &&& BitVec.ofInt 64 7).toNat : Nat) = _
  rw [key, IntKind.wrap_i64]
  omega
theorem len25 : Tryd.prog.arrayLen 25 = 32 := by kernel_rfl
theorem elem25 : Tryd.prog.elem 25 = 5 := by kernel_rfl
theorem arr25 : Tryd.prog.underlying 25 = some (.array 32 5) := by kernel_rfl
/-- Four bytes of a key. -/
theorem run_slice4 (B o : Nat) (ho : o + 4 ≤ 32) (w : World) : (Instr.sliceAt 25 (.pointer (some ⟨B, 0, none⟩)) (some (.int .i64 (o : Int))) (some (.int .i64 ((o : Int) + 4))) none).run Tryd.prog w = .ok (.slice (some ⟨B, o, none⟩) 4 (32 - o)) w := by
  rw [run_sliceAt_array_lh w 25 ⟨B, 0, none⟩ (by rw [len25, elem25]; exact arr25) .i64 .i64 _ _ (by omega) (by omega) (by rw [len25]; omega), elem25, size5]
  simp only [Result.andThen, slicedAt, len25, Int.toNat_natCast, Nat.mul_one]
  rw [if_neg (by omega), addr_add, Nat.zero_add, show ((o : Int) + 4).toNat - o = 4 by omega]

set_option maxHeartbeats 400000 in
theorem sha_Word (l : List UInt8) (n : Int) (w : World) (hl : Hid (l.length = 32)) :
    Calls Tryd.prog 16 #[.agg (keyA l), .int .i64 n] w fun e w' => e = .returned (.int .u32 (wordAt l (4 * (n % 8).toNat))) ∧ Below w.heap.size w w' := by
  have hm := and7 n
  have hm8 : (n % 8).toNat < 8 := by omega
  have HKEY := Lib.hid (keyA_new w l hl.out 25)
  have HB := Lib.hid (((Below.refl w.heap.size w).alloc (Nat.le_refl _) (.cells (keyA l) 25)))
  generalize (n % 8).toNat = m at *
  obtain ⟨o, ho⟩ : ∃ o, o = 4 * m := ⟨_, rfl⟩
  have ho' : 4 * (m : Int) = (o : Int) := by omega
  have hsl := run_slice4 w.heap.size o (by omega)
  have HO := Lib.hid ho
  have ho28 : o ≤ 28 := by omega
  clear ho hm8
  go_enter Tryd.func16, Tryd.ntmps16
  go_wp2_with fail
  generalize w.alloc (.cells (keyA l) 25) = w1 at *
  clear hm ho' hsl
  go_loopw [6, 17] (fun x i wr => ∃ j : Nat, j ≤ 4 ∧ i = .int .i64 j ∧ x = .int .u32 (partW l o j) ∧ wr = w1) (fun x i wr => 4 - (intOf i).toNat)
  case atStart => exact ⟨0, by omega, rfl, rfl, rfl⟩
  case round =>
    obtain ⟨j, hj, rfl, rfl, rfl⟩ := hrel
    by_cases hj4 : j < 4
    · have hXl := partW_lt l o j hj4
      have HX := Lib.hid (show partW l o (j + 1) = 256 * partW l o j + byteAt l (o + j) from rfl)
      have c1 := (HKEY.out.2 (o + j) (by omega)).1
      have hbl := byteAt_lt l (o + j)
      generalize partW l o j = X at *
      generalize byteAt l (o + j) = y at *
      have hor := or_byte X y hXl hbl
      go_wp2_with fail
      go_roundw
      case rel => exact ⟨j + 1, by omega, by go_num, by rw [HX.out]; go_num, trivial⟩
      case measure => simp [intOf]; omega
    · obtain rfl : j = 4 := by omega
      have HX := Lib.hid (partW_four l o)
      go_wp2_with fail
      go_ret
      exact ⟨ret_u32' (by rw [HX.out, HO.out]), HB.out⟩

/-! ### Digits of a key -/
def hfill (l : List UInt8) (i : Nat) : List UInt8 := hexL (l.take i) ++ List.replicate (64 - 2 * i) 0
theorem hfill_len (l : List UInt8) (i : Nat) (hl : l.length = 32) (hi : i ≤ 32) : (hfill l i).length = 64 := by
  unfold hfill
  rw [List.length_append, hexL_len, List.length_take, List.length_replicate]
  omega
theorem hfill_next (l : List UInt8) (i : Nat) (hl : l.length = 32) (hi : i < 32) : ((hfill l i).set (2 * i) (digB (byteAt l i / 16))).set (2 * i + 1) (digB (byteAt l i % 16)) = hfill l (i + 1) := by
  have h1 : (hexL (l.take i)).length = 2 * i := by rw [hexL_len, List.length_take]; omega
  unfold hfill
  rw [hexL_next l i (by omega)]
  obtain ⟨k, hk⟩ : ∃ k, 64 - 2 * i = k + 1 + 1 := ⟨62 - 2 * i, by omega⟩
  rw [hk, show 64 - 2 * (i + 1) = k by omega, List.replicate_succ, List.replicate_succ]
  rw [List.set_append_right _ _ (by omega), h1, Nat.sub_self, List.set_cons_zero, List.set_append_right _ _ (by omega), h1, show 2 * i + 1 - 2 * i = 0 + 1 by omega, List.set_cons_succ, List.set_cons_zero]
  simp
theorem hfill_all (l : List UInt8) (hl : l.length = 32) : hfill l 32 = hexL l := by
  unfold hfill
  rw [List.take_of_length_le (by omega)]
  simp
theorem Row8.set {b : Nat} {l : List UInt8} {w : World} (h : Row8 b l w) {i : Nat} (hi : i < l.length) (v : UInt8) : Row8 b (l.set i v) (w.setCell ⟨b, i, none⟩ (.int .u8 (v.toNat : Int))) := by
  refine ⟨by simpa using h.1, fun j hj => ?_⟩
  rw [List.length_set] at hj
  refine ⟨?_, by rw [World.frozen?_setCell]; exact (h.2 j hj).2⟩
  by_cases hji : j = i
  · subst hji
    rw [World.cell?_setCell_same w _ _ (h.2 j hj).1]
    simp [byteAt, List.getD_eq_getElem?_getD, hj]
  · rw [World.cell?_setCell_other w _ _ _ (fun e => hji (by injection e with _ e2; exact e2.symm)), (h.2 j hj).1]
    simp [byteAt, List.getD_eq_getElem?_getD, List.getElem?_set_ne (fun e => hji e.symm)]
theorem mask15 (y : Nat) (h : y < 256) : bits .and .u8 (y : Int) 15 = ((y % 16 : Nat) : Int) := by
  rw [show (15 : Int) = ((15 : Nat) : Int) from rfl, u8_and_nat _ _ h (by omega), nat_mask4]
theorem digB_nat (k : Nat) (h : k < 16) : ((digB k).toNat : Int) = (digN k : Int) := by
  unfold digB
  rw [ofNat_toNat, Nat.mod_eq_of_lt (digN_lt h)]
theorem slice64_all (B : Nat) (w : World) : (Instr.sliceAt 46 (.pointer (some ⟨B, 0, none⟩)) none none none).run Tryd.prog w = .ok (.slice (some ⟨B, 0, none⟩) 64 64) w := by
  rw [run_sliceAt_array_all w 46 ⟨B, 0, none⟩ (by rw [len46, elem46]; exact arr46), elem46, size5]
  simp only [Result.andThen, slicedAt, len46]
  rw [if_neg (by omega), addr_add]

set_option maxHeartbeats 1000000 in
set_option maxRecDepth 100000 in
theorem sha_Hex (l : List UInt8) (w : World) (hl : Hid (l.length = 32)) :
    Calls Tryd.prog 12 #[.agg (keyA l)] w fun e w' => e = .returned (.string (bs (hexL l))) ∧ Below w.heap.size w w' := by
  obtain ⟨H, hH⟩ : ∃ H, H = w.heap.size := ⟨_, rfl⟩
  obtain ⟨W2, hW2⟩ : ∃ W2, W2 = (w.alloc (.cells (keyA l) 25)).alloc (.cells (Array.replicate 64 (.int .u8 0)) 46) := ⟨_, rfl⟩
  have e1 : (w.alloc (.cells (keyA l) 25)).heap.size = H + 1 := by rw [hH]; simp
  have HKY := Lib.hid (show W2.rangeAt H 0 (keyA l).toList by
    have h := keyA_range w l 25
    rw [← hH] at h
    exact rangeAt_below h (show Below (H + 1) (w.alloc (.cells (keyA l) 25)) W2 by rw [hW2]; exact (Below.refl _ _).alloc (by rw [e1]; exact Nat.le_refl _) _) (by omega))
  have HTX := Lib.hid (show Row8 (H + 1) (List.replicate 64 0) W2 by
    have h := row8_zero (w.alloc (.cells (keyA l) 25)) 64 46
    rw [e1] at h
    rw [hW2]
    exact h)
  have HB := Lib.hid (show Below H w W2 by rw [hW2, hH]; exact ((Below.refl _ _).alloc (Nat.le_refl _) _).alloc (by simp) _)
  have HW2 := Lib.hid hW2
  have HH := Lib.hid hH
  clear e1 hW2 hH
  go_enter Tryd.func12, Tryd.ntmps12
  go_upto_region 2 with (fail)
  change Code.wp _ _ _ _ ((w.alloc (.cells (keyA l) 25)).alloc (.cells (Array.replicate 64 (.int .u8 0)) 46))
  rw [← HW2.out, ← HH.out]
  go_wp2_with (first | (refine wpList_load_mid rfl 25 (.tmp 1) rfl H 0 rfl (keyA l).toList _ HKY.out Tryd.underlying25 rfl (info25 l hl.out) ?_))
  obtain ⟨T, hT⟩ : ∃ x, x = H + 1 := ⟨_, rfl⟩
  rw [← hT] at HTX ⊢
  have HT := Lib.hid hT
  clear hT
  go_loopw [7] (fun vi wr => ∃ i : Nat, i ≤ 32 ∧ vi = .int .i64 i ∧ Row8 T (hfill l i) wr ∧ Below H w wr) (fun vi wr => 32 - (intOf vi).toNat)
  case atStart => exact ⟨0, by omega, rfl, HTX.out, HB.out⟩
  case round =>
    obtain ⟨i, hi, rfl, h1, h2⟩ := hrel
    have R1 := Lib.hid h1
    have B1 := Lib.hid h2
    clear h1 h2
    rcases Nat.lt_or_ge i 32 with hi32 | hi32
    · have hlen := hfill_len l i hl.out hi
      have ix := run_index_arr 25 5 32 (keyA l) i _ arr25 notAgg5 size5 hi32 (keyA_at l i (by rw [hl.out]; exact hi32))
      have hyl := byteAt_lt l i
      have HN := Lib.hid (hfill_next l i hl.out hi32)
      obtain ⟨y, hy⟩ : ∃ y, y = byteAt l i := ⟨_, rfl⟩
      rw [← hy] at ix HN hyl
      have e2 := mask15 y hyl
      obtain ⟨n1, hn1⟩ : ∃ n, n = y / 16 := ⟨_, rfl⟩
      obtain ⟨n2, hn2⟩ : ∃ n, n = y % 16 := ⟨_, rfl⟩
      have e1 : (y : Int) / 16 = (n1 : Int) := by omega
      have l1 : n1 < 16 := by omega
      have l2 : n2 < 16 := by omega
      rw [← hn1, ← hn2] at HN
      rw [← hn2] at e2
      have hx1 := hex_at n1 l1
      have hx2 := hex_at n2 l2
      have d1 := digB_nat n1 l1
      have d2 := digB_nat n2 l2
      obtain ⟨p1, hp1⟩ : ∃ p, p = 2 * i := ⟨_, rfl⟩
      obtain ⟨p2, hp2⟩ : ∃ p, p = 2 * i + 1 := ⟨_, rfl⟩
      have f1 : 2 * (i : Int) = (p1 : Int) := by omega
      have f2 : (p1 : Int) + 1 = (p2 : Int) := by omega
      have g1 : (p1 : Int) < 64 := by omega
      have g2 : (p2 : Int) < 64 := by omega
      have c1 := (R1.out.2 p1 (by omega)).1
      have c2 := (R1.out.2 p1 (by omega)).2
      have c3 := (R1.out.2 p2 (by omega)).1
      have c4 := (R1.out.2 p2 (by omega)).2
      rw [← hp2, ← hp1] at HN
      have RS := Lib.hid ((R1.out.set (i := p1) (by omega) (digB n1)).set (i := p2) (by rw [List.length_set]; omega) (digB n2))
      rw [HN.out, d1, d2] at RS
      have BS := Lib.hid ((B1.out.setCell (p := ⟨T, p1, none⟩) (by show H ≤ T; have := HT.out; omega) (.int .u8 (digN n1 : Int))).setCell (p := ⟨T, p2, none⟩) (by show H ≤ T; have := HT.out; omega) (.int .u8 (digN n2 : Int)))
      have hpp : p1 ≠ p2 := by omega
      clear hy hn1 hn2 hp1 hp2 hlen d1 d2 HN
      generalize byteAt (hfill l i) p1 = old1 at *
      generalize byteAt (hfill l i) p2 = old2 at *
      go_wp2_with fail
      go_region
      have RE := Lib.hid (show Row8 T (hfill l (i + 1)) (((wr.setCell ⟨T, p1, none⟩ (.int .u8 (digN n1 : Int))).setCell ⟨T, p2, none⟩ (.int .u8 (digN n2 : Int))).drew) from ⟨RS.out.1, RS.out.2⟩)
      have BE := Lib.hid (BS.out.drew)
      generalize ((wr.setCell ⟨T, p1, none⟩ (.int .u8 (digN n1 : Int))).setCell ⟨T, p2, none⟩ (.int .u8 (digN n2 : Int))).drew = wz at *
      clear ix e1 e2 hx1 hx2 f1 f2 c1 c2 c3 c4
      go_wp2_with fail
      go_roundw
      case rel => exact ⟨i + 1, by omega, by go_num, RE.out, BE.out⟩
      case measure => simp [intOf]; omega
    · obtain rfl : i = 32 := by omega
      rw [hfill_all l hl.out] at R1
      have hln : (hexL l).length = 64 := by rw [hexL_len, hl.out]
      have hcv := run_convert_bytes_back (P := Tryd.prog) wr 48 9 5 ⟨T, 0, none⟩ 64 (hexL l) Tryd.underlying48 Tryd.underlying5 Tryd.underlying9 (fun j hj => by rw [addr_add, Nat.zero_add, (R1.out.2 j hj).1, byteAt_get _ j hj])
      rw [hln] at hcv
      have hcv2 : (⟨(hexL l).toArray⟩ : ByteArray) = bs (hexL l) := rfl
      rw [hcv2] at hcv
      have hsl := slice64_all T
      have HBF := Lib.hid (show Below w.heap.size w wr by rw [← HH.out]; exact B1.out)
      clear hcv2 hln
      go_wp2_with fail
      go_ret
      exact ⟨rfl, HBF.out⟩
end Go.Proofs.YthgbjanefljjcaaDoor
