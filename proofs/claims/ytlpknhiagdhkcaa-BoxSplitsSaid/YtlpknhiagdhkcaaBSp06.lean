/- Texts put together: BoxRefBegin, BoxRefOpen, BoxAwake, DiskPlain -/
import Derived.Test.YtlpknhiagdhkcaaBSp05
/- The document goes over a record. -/
set_option linter.unusedVariables false
set_option maxRecDepth 100000
namespace Go.Proofs.Ytlpknhiagdhkcaa
open Go.RowKit

set_option maxHeartbeats 16000000 in
theorem ref_begin (s : ByteArray) (w : World) (hs : s.size ≤ maxLen) :
    Calls Try.prog 46 #[.string s] w fun e w' => e = .returned (.tuple #[.agg (recA (rdR s.data.toList)), .int .i64 (rdK s.data.toList : Int), .int .i64 (rdE s.data.toList)]) ∧ Below w.heap.size w w' := by
  obtain ⟨B, hB⟩ : ∃ B, B = w.heap.size := ⟨_, rfl⟩
  obtain ⟨w1, hw1⟩ : ∃ w1, w1 = w.alloc (.cells (recA RecB.zero) 25) := ⟨_, rfl⟩
  have HLEN := Lib.hid (show s.data.toList.length = s.size by rw [← Lib.size_eq])
  have K1 := Lib.hid (show Below w.heap.size w w1 by rw [hw1]; exact (Below.refl _ w).alloc (Nat.le_refl _) _)
  have N1 := Lib.hid (show RecIn B 25 RecB.zero w1 by rw [hw1, hB]; exact RecIn.new w _ _)
  have HBW := Lib.hid (show w.heap.size ≤ B by omega)
  have I2 := Lib.hid (info_refA RecB.zero_ok)
  have HB := Lib.hid hB
  have HW := Lib.hid hw1
  have HZ := Lib.hid zeroA_ref
  clear hB hw1
  by_cases h0 : s.size < 32
  · have h0' : (s.size : Int) < 32 := by omega
    have H0 := Lib.hid h0
    clear h0
    go_enter Try.func46, Try.ntmps46
    go_upto_region 1 with (fail)
    rw [← HZ.out, ← HB.out, ← HW.out]
    go_upto_region 2 with (fail)
    obtain ⟨y1, y2⟩ := set_rec (w := w) (q := RecB.zero) N1.out RecB.zero_ok RecB.zero_ok K1.out HBW.out
    have T8 := Lib.hid (N1.out.there RecB.zero_ok 0 (recA RecB.zero).size (by rw [recA_size RecB.zero_ok]; omega))
    have Y1 := Lib.hid y1
    have Y2 := Lib.hid y2
    clear y1 y2
    go_wp2_with (first | (refine wpList_store_mid rfl 25 (.tmp 2) (.tmp 14) rfl B 0 (recA RecB.zero) rfl rfl T8.out I2.out (recA_one _) ?_) | fail)
    have hOE : rdE s.data.toList = 2 := rdE_short (by rw [HLEN.out]; exact H0.out)
    refine bodyPost_ret (v := .tuple #[.agg (recA RecB.zero), .int .i64 0, .int .i64 2]) (results_cell3 rfl _ _ _ B 0 (recC RecB.zero) _ (.int .i64 0) (.int .i64 2) rfl rfl rfl Y1.out.range Try.underlying25 rfl (info_refL RecB.zero_ok)) rfl ⟨?_, Y2.out⟩
    obtain ⟨z1, z2⟩ := rdR_no (show rdE s.data.toList ≠ 0 by rw [hOE]; exact (by decide))
    rw [hOE, z1, z2]
    rfl
  · have h0' : ¬ (s.size : Int) < 32 := by omega
    have HL := Lib.hid (show 32 ≤ s.data.toList.length by rw [HLEN.out]; omega)
    go_enter Try.func46, Try.ntmps46
    go_upto_region 1 with (fail)
    rw [← HZ.out, ← HB.out, ← HW.out]
    go_wp2_with fail
    refine (ref_key s w1 (by omega) hs).mono ?_
    rintro e w2 ⟨rfl, k2⟩
    have N2 := Lib.hid (N1.out.below k2 N1.out.lt)
    have K2 := Lib.hid (K1.out.trans (k2.mono K1.out.size))
    clear k2
    obtain ⟨k, hk⟩ : ∃ k, k = s.data.toList.take 32 := ⟨_, rfl⟩
    rw [← hk]
    have HK := Lib.hid (show k = tk32 s.data.toList by rw [hk]; unfold tk32; rw [if_neg (by have := HL.out; omega)])
    have hkl : k.length = 32 := by rw [HK.out]; exact tk32_len _
    have hbld := build_key hkl
    have OK2 := Lib.hid (show RecB.Ok (RecB.mk k zero32 false []) from ⟨hkl, zero32_len⟩)
    obtain ⟨C, hC⟩ : ∃ C, C = w2.heap.size := ⟨_, rfl⟩
    obtain ⟨w3, hw3⟩ : ∃ w3, w3 = laidR 25 w2 (RecB.mk k zero32 false []) := ⟨_, rfl⟩
    have N3 := Lib.hid (show RecIn B 25 RecB.zero w3 by rw [hw3]; exact N2.out.below (laidR_below _ _ _) N2.out.lt)
    have M3 := Lib.hid (show RecIn C 25 (RecB.mk k zero32 false []) w3 by rw [hw3, hC]; exact laidR_in _ _ OK2.out)
    have K3 := Lib.hid (show Below w.heap.size w w3 by rw [hw3]; exact K2.out.trans ((laidR_below _ _ _).mono K2.out.size))
    have HBC := Lib.hid (show B ≠ C by have := N2.out.lt; omega)
    have HCW := Lib.hid (show w.heap.size ≤ C by rw [hC]; exact K2.out.size)
    have T2 := Lib.hid (laidR_there 25 w2 OK2.out)
    have I3 := Lib.hid (info_refA OK2.out)
    have HC := Lib.hid hC
    have HW3 := Lib.hid (hw3.symm)
    unfold laidR at HW3
    rw [HZ.out] at HW3 T2
    obtain ⟨s1, hs1⟩ : ∃ s1, s1 = s.extract 32 s.size := ⟨_, rfl⟩
    have hx1 : s.extract 32 s.size = s1 := hs1.symm
    have HS1 := Lib.hid (show s1.data.toList = cAt s.data.toList by rw [hs1, ext_list]; rfl)
    have HZ1 := Lib.hid (show s1.size ≤ maxLen by rw [hs1, extract_size]; have := hs; omega)
    clear hC hw3 hs1 hk hkl
    change ∀ W, (Instr.build 25 #[(0, .agg (kcs k).toArray)]).run Try.prog W = .ok (.agg (recA (RecB.mk k zero32 false []))) W at hbld
    go_wp2_with (first | (refine wpList_build_is rfl 25 [(0, .tmp 16)] rfl [(0, .agg (kcs k).toArray)] rfl (recA (RecB.mk k zero32 false [])) hbld ?_) | (with_reducible refine wpList_store_mid rfl 25 (.tmp 5) (.tmp 17) rfl w2.heap.size 0 (recA (RecB.mk k zero32 false [])) rfl rfl T2.out I3.out (recA_one _) ?_; rw [HW3.out, ← HC.out]) | fail)
    refine (ref_ReadCount s1 w3 HZ1.out).mono ?_
    rintro e w4 ⟨rfl, rfl⟩
    clear hx1
    have HCD := cd_cases s1.data.toList
    obtain ⟨n1, hn1⟩ : ∃ n1, n1 = cn s1.data.toList := ⟨_, rfl⟩
    obtain ⟨k1, hk1⟩ : ∃ k1, k1 = ck s1.data.toList := ⟨_, rfl⟩
    obtain ⟨e1, he1⟩ : ∃ e1, e1 = ce s1.data.toList := ⟨_, rfl⟩
    rw [← hn1, ← hk1, ← he1] at HCD ⊢
    have HN := Lib.hid (show n1 = cn (cAt s.data.toList) by rw [hn1, HS1.out])
    have HKK := Lib.hid (show k1 = ck (cAt s.data.toList) by rw [hk1, HS1.out])
    have HE := Lib.hid (show e1 = ce (cAt s.data.toList) by rw [he1, HS1.out])
    have hk1l : k1 ≤ s.size - 32 := by
      have h1 : s1.data.toList.length = s.size - 32 := by rw [HS1.out]; unfold cAt; rw [List.length_drop, HLEN.out]
      rcases HCD with ⟨_, _, h2, _⟩ | ⟨_, _, h2⟩ <;> omega
    have HCD' := Lib.hid HCD
    clear hn1 hk1 he1 HCD
    by_cases h1 : e1 = 0
    · have b1 : (e1 != 0) = false := by simp [h1]
      have Z1 := Lib.hid h1
      clear h1
      by_cases h2 : 1 < n1
      · have Z2 := Lib.hid h2
        go_upto_region 9 with (fail)
        obtain ⟨y1, y2⟩ := set_rec (w := w) (q := RecB.zero) N3.out RecB.zero_ok RecB.zero_ok K3.out HBW.out
        have T8 := Lib.hid (N3.out.there RecB.zero_ok 0 (recA RecB.zero).size (by rw [recA_size RecB.zero_ok]; omega))
        have Y1 := Lib.hid y1
        have Y2 := Lib.hid y2
        clear y1 y2
        go_wp2_with (first | (refine wpList_store_mid rfl 25 (.tmp 2) (.tmp 32) rfl B 0 (recA RecB.zero) rfl rfl T8.out I2.out (recA_one _) ?_) | fail)
        have hOE : rdE s.data.toList = 3 := (rdE_pat HL.out (by unfold patE; rw [← HE.out, Z1.out, ← HN.out, if_neg (by simp), if_pos Z2.out]; decide)).trans (by unfold patE; rw [← HE.out, Z1.out, ← HN.out, if_neg (by simp), if_pos Z2.out])
        refine bodyPost_ret (v := .tuple #[.agg (recA RecB.zero), .int .i64 0, .int .i64 3]) (results_cell3 rfl _ _ _ B 0 (recC RecB.zero) _ (.int .i64 0) (.int .i64 3) rfl rfl rfl Y1.out.range Try.underlying25 rfl (info_refL RecB.zero_ok)) rfl ⟨?_, Y2.out⟩
        obtain ⟨z1, z2⟩ := rdR_no (show rdE s.data.toList ≠ 0 by rw [hOE]; exact (by decide))
        rw [hOE, z1, z2]
        rfl
      · have HP := Lib.hid (show patE (cAt s.data.toList) = 0 by unfold patE; rw [← HE.out, Z1.out, ← HN.out, if_neg (by simp), if_neg h2])
        obtain ⟨p1, hp1⟩ : ∃ p1, p1 = 32 + k1 := ⟨_, rfl⟩
        have hsm : (32 : Int) + (k1 : Int) = (p1 : Int) := by omega
        have hp1l : p1 ≤ s.size := by omega
        have HP1 := Lib.hid (show p1 = 32 + ck (cAt s.data.toList) by rw [hp1, HKK.out])
        have HBA := Lib.hid (show s.data.toList.drop p1 = bAt s.data.toList by rw [HP1.out, ← List.drop_drop]; rfl)
        have hs' : s.size ≤ 9223372036854775807 := hs
        clear hp1
        by_cases h3 : n1 = 1
        · have b3 : (n1 == 1) = true := by simp [h3]
          have HC1 := Lib.hid (show cn (cAt s.data.toList) = 1 by rw [← HN.out, h3])
          have HBL := Lib.hid (show (bAt s.data.toList).length = s.size - p1 by rw [← HBA.out, List.length_drop, HLEN.out])
          obtain ⟨d1, hd1⟩ : ∃ d1, d1 = s.size - p1 := ⟨_, rfl⟩
          have HD1 := Lib.hid hd1
          clear h3
          by_cases h4 : d1 < 32
          · have h4' : (s.size : Int) - (p1 : Int) < 32 := by omega
            have Z4 := Lib.hid h4
            clear h4 hd1
            go_upto_region 13 with (fail)
            obtain ⟨y1, y2⟩ := set_rec (w := w) (q := RecB.zero) N3.out RecB.zero_ok RecB.zero_ok K3.out HBW.out
            have T8 := Lib.hid (N3.out.there RecB.zero_ok 0 (recA RecB.zero).size (by rw [recA_size RecB.zero_ok]; omega))
            have Y1 := Lib.hid y1
            have Y2 := Lib.hid y2
            clear y1 y2
            go_wp2_with (first | (refine wpList_store_mid rfl 25 (.tmp 2) (.tmp 43) rfl B 0 (recA RecB.zero) rfl rfl T8.out I2.out (recA_one _) ?_) | fail)
            have hOE : rdE s.data.toList = 2 := rdE_base HL.out HP.out HC1.out (by rw [HBL.out, ← HD1.out]; exact Z4.out)
            refine bodyPost_ret (v := .tuple #[.agg (recA RecB.zero), .int .i64 0, .int .i64 2]) (results_cell3 rfl _ _ _ B 0 (recC RecB.zero) _ (.int .i64 0) (.int .i64 2) rfl rfl rfl Y1.out.range Try.underlying25 rfl (info_refL RecB.zero_ok)) rfl ⟨?_, Y2.out⟩
            obtain ⟨z1, z2⟩ := rdR_no (show rdE s.data.toList ≠ 0 by rw [hOE]; exact (by decide))
            rw [hOE, z1, z2]
            rfl
          · have h4' : ¬ (s.size : Int) - (p1 : Int) < 32 := by omega
            have HB32 := Lib.hid (show 32 ≤ (bAt s.data.toList).length by rw [HBL.out, ← HD1.out]; omega)
            obtain ⟨p2, hp2⟩ : ∃ p2, p2 = p1 + 32 := ⟨_, rfl⟩
            have hpm : (p1 : Int) + 32 = (p2 : Int) := by omega
            have hp2l : p2 ≤ s.size := by omega
            have HP2 := Lib.hid hp2
            have HTA := Lib.hid (show s.data.toList.drop p2 = tAt s.data.toList by rw [hp2, ← List.drop_drop, HBA.out]; unfold tAt; rw [if_pos HC1.out])
            obtain ⟨s2, hs2⟩ : ∃ s2, s2 = s.extract p1 s.size := ⟨_, rfl⟩
            have hx2 : s.extract p1 s.size = s2 := hs2.symm
            have HS2 := Lib.hid (show s2.data.toList = bAt s.data.toList by rw [hs2, ext_list]; exact HBA.out)
            have hz2 : 32 ≤ s2.size := by rw [show s2.size = s2.data.toList.length by rw [← Lib.size_eq], HS2.out]; exact HB32.out
            have hz2' : s2.size ≤ maxLen := by rw [hs2, extract_size]; have := hs; omega
            have c64 := M3.out.patch OK2.out
            have f64 := M3.out.free 64
            obtain ⟨w5, hw5⟩ : ∃ w5, w5 = w3.setCell ⟨C, 64, none⟩ (.bool true) := ⟨_, rfl⟩
            have OK5 := Lib.hid (show RecB.Ok (RecB.mk k zero32 true []) from ⟨OK2.out.key, OK2.out.base⟩)
            have M5 := Lib.hid (show RecIn C 25 (RecB.mk k zero32 true []) w5 by rw [hw5]; exact M3.out.setPatch OK2.out true)
            have N5 := Lib.hid (show RecIn B 25 RecB.zero w5 by rw [hw5]; exact N3.out.kept (S := fun k => k = C) ((Only.refl (fun k => k = C) _).setCell (p := ⟨C, 64, none⟩) (.inl rfl) _) HBC.out)
            have K5 := Lib.hid (show Below w.heap.size w w5 by rw [hw5]; exact K3.out.setCell (p := ⟨C, 64, none⟩) HCW.out _)
            have HW5 := Lib.hid hw5
            clear hd1 hp2 hs2 hw5 h4
            go_wp2_with fail
            rw [← HW5.out]
            refine (ref_key s2 w5 hz2 hz2').mono ?_
            rintro e w6 ⟨rfl, k6⟩
            have N6 := Lib.hid (N5.out.below k6 N5.out.lt)
            have M6 := Lib.hid (M5.out.below k6 M5.out.lt)
            have K6 := Lib.hid (K5.out.trans (k6.mono K5.out.size))
            clear k6 hx2 c64 f64
            obtain ⟨g, hg⟩ : ∃ g, g = s2.data.toList.take 32 := ⟨_, rfl⟩
            rw [← hg]
            have HG := Lib.hid (show g = tk32 (bAt s.data.toList) by rw [hg, HS2.out]; unfold tk32; rw [if_neg (by have := HB32.out; omega)])
            have hgl : g.length = 32 := by rw [HG.out]; exact tk32_len _
            obtain ⟨w7, hw7⟩ : ∃ w7, w7 = w6.setCells C 32 (kcs g) := ⟨_, rfl⟩
            have OK7 := Lib.hid (show RecB.Ok (RecB.mk k g true []) from ⟨OK2.out.key, hgl⟩)
            have M7 := Lib.hid (show RecIn C 25 (RecB.mk k g true []) w7 by rw [hw7]; exact M6.out.setBase OK5.out hgl)
            have N7 := Lib.hid (show RecIn B 25 RecB.zero w7 by rw [hw7]; exact N6.out.kept (S := fun k => k = C) (only_setCells (S := fun k => k = C) (.inl rfl) (kcs g) 32 w6 (Only.refl _ _)) HBC.out)
            have K7 := Lib.hid (show Below w.heap.size w w7 by rw [hw7]; exact below_setCells HCW.out _ 32 K6.out)
            have T6 := Lib.hid (M6.out.there OK5.out 32 (kcs g).toArray.size (by simp [kcs_len, hgl]))
            have I6 := Lib.hid (info_keyA hgl)
            have HW7 := Lib.hid hw7
            clear hg hgl hw7
            go_upto_region 16 with (first | (with_reducible refine wpList_store_mid rfl 23 (.tmp 49) (.tmp 48) rfl C 32 (kcs g).toArray rfl rfl T6.out I6.out (kcs_arr_one g) ?_; rw [List.toList_toArray, ← HW7.out]) | fail)
            obtain ⟨s3, hs3⟩ : ∃ s3, s3 = s.extract p2 s.size := ⟨_, rfl⟩
            have hx3 : s.extract p2 s.size = s3 := hs3.symm
            have HS3 := Lib.hid (show s3.data.toList = tAt s.data.toList by rw [hs3, ext_list]; exact HTA.out)
            have HZ3 := Lib.hid (show s3.size ≤ maxLen by rw [hs3, extract_size]; have := hs; omega)
            have htl := Lib.hid (show p2 + tk s3.data.toList ≤ s.size by
              have h1 : s3.data.toList.length = s.size - p2 := by rw [hs3, ext_list, List.length_drop, HLEN.out]
              rcases td_cases s3.data.toList with ⟨_, _, _, t1, _, t2, _⟩ | ⟨_, _, t2⟩
              · rw [t2]; omega
              · rw [t2]; omega)
            clear hs3
            go_wp2_with fail
            refine (ref_ReadText s3 w7 HZ3.out).mono ?_
            rintro e w9 ⟨rfl, rfl⟩
            clear hx3
            have HRE := Lib.hid (show rdE s.data.toList = bodE s3.data.toList by rw [HS3.out]; exact rdE_body HL.out HP.out (fun _ => HB32.out))
            obtain ⟨u, hu⟩ : ∃ u, u = ts s3.data.toList := ⟨_, rfl⟩
            obtain ⟨e4, he4⟩ : ∃ e4, e4 = te s3.data.toList := ⟨_, rfl⟩
            obtain ⟨k4, hk4⟩ : ∃ k4, k4 = tk s3.data.toList := ⟨_, rfl⟩
            rw [← hu, ← he4, ← hk4]
            rw [← hk4] at htl
            have HU := Lib.hid hu
            have HE4 := Lib.hid he4
            have HK4 := Lib.hid hk4
            clear hu he4 hk4
            have hul := bs_size u
            by_cases h4 : e4 = 0
            · have b4 : (e4 != 0) = false := by simp [h4]
              have Z4 := Lib.hid h4
              clear h4
              by_cases h5 : 8192 < u.length
              · have b5 : (8192 : Int) < ((bs u).size : Int) := by rw [hul]; omega
                have Z5 := Lib.hid h5
                clear h5 hul
                go_upto_region 21 with (fail)
                obtain ⟨y1, y2⟩ := set_rec (w := w) (q := RecB.zero) N7.out RecB.zero_ok RecB.zero_ok K7.out HBW.out
                have T8 := Lib.hid (N7.out.there RecB.zero_ok 0 (recA RecB.zero).size (by rw [recA_size RecB.zero_ok]; omega))
                have Y1 := Lib.hid y1
                have Y2 := Lib.hid y2
                clear y1 y2
                go_wp2_with (first | (refine wpList_store_mid rfl 25 (.tmp 2) (.tmp 67) rfl B 0 (recA RecB.zero) rfl rfl T8.out I2.out (recA_one _) ?_) | fail)
                have hOE : rdE s.data.toList = 6 := by rw [HRE.out]; unfold bodE; rw [← HE4.out, Z4.out, ← HU.out, if_neg (by simp), if_pos Z5.out]
                refine bodyPost_ret (v := .tuple #[.agg (recA RecB.zero), .int .i64 0, .int .i64 6]) (results_cell3 rfl _ _ _ B 0 (recC RecB.zero) _ (.int .i64 0) (.int .i64 6) rfl rfl rfl Y1.out.range Try.underlying25 rfl (info_refL RecB.zero_ok)) rfl ⟨?_, Y2.out⟩
                obtain ⟨z1, z2⟩ := rdR_no (show rdE s.data.toList ≠ 0 by rw [hOE]; exact (by decide))
                rw [hOE, z1, z2]
                rfl
              · have b5 : ¬ (8192 : Int) < ((bs u).size : Int) := by rw [hul]; omega
                have Z5 := Lib.hid h5
                clear h5 hul
                obtain ⟨wa, hwa⟩ : ∃ wa, wa = w7.setCell ⟨C, 65, none⟩ (.string (bs u)) := ⟨_, rfl⟩
                have OKQ := Lib.hid (show RecB.Ok (RecB.mk k g true u) from ⟨OK7.out.key, OK7.out.base⟩)
                have MQ := Lib.hid (show RecIn C 25 (RecB.mk k g true u) wa by rw [hwa]; exact M7.out.setBody OK7.out u)
                have NQ := Lib.hid (show RecIn B 25 RecB.zero wa by rw [hwa]; exact N7.out.kept (S := fun k => k = C) ((Only.refl (fun k => k = C) _).setCell (p := ⟨C, 65, none⟩) (.inl rfl) _) HBC.out)
                have KQ := Lib.hid (show Below w.heap.size w wa by rw [hwa]; exact K7.out.setCell (p := ⟨C, 65, none⟩) HCW.out _)
                have c9 := M7.out.body OK7.out
                have f9 := M7.out.free 65
                have HWA := Lib.hid hwa
                clear hwa
                go_upto_region 23 with (fail)
                rw [← HWA.out]
                obtain ⟨y1, y2⟩ := set_rec (w := w) NQ.out RecB.zero_ok OKQ.out KQ.out HBW.out
                have T8 := Lib.hid (NQ.out.there RecB.zero_ok 0 (recA (RecB.mk k g true u)).size (by rw [recA_size OKQ.out]; omega))
                have I8 := Lib.hid (info_refA OKQ.out)
                have IL := Lib.hid (show (Try.prog.info? 25).map (·.size) = some (recA (RecB.mk k g true u)).toList.length by simpa using I8.out)
                have HRG := Lib.hid MQ.out.range
                have Y1 := Lib.hid y1
                have Y2 := Lib.hid y2
                obtain ⟨n4, hn4⟩ : ∃ n4, n4 = p2 + k4 := ⟨_, rfl⟩
                have hsum : (p2 : Int) + (k4 : Int) = (n4 : Int) := by omega
                have hsumle : n4 ≤ 9223372036854775807 := by rw [hn4]; have h1 := htl.out; have h2 := hs; unfold maxLen at h2; omega
                have HN4 := Lib.hid hn4
                clear y1 y2 hn4
                go_wp2_with (first | (refine wpList_load_mid rfl 25 (.tmp 5) rfl C 0 rfl (recA (RecB.mk k g true u)).toList _ HRG.out Try.underlying25 rfl IL.out ?_; rw [Array.toArray_toList]) | (refine wpList_store_mid rfl 25 (.tmp 2) (.tmp 70) rfl B 0 (recA (RecB.mk k g true u)) rfl rfl T8.out I8.out (recA_one _) ?_) | fail)
                have hOE : rdE s.data.toList = 0 := by rw [HRE.out]; unfold bodE; rw [← HE4.out, Z4.out, ← HU.out, if_neg (by simp), if_neg Z5.out]
                refine bodyPost_ret (v := .tuple #[.agg (recA (RecB.mk k g true u)), .int .i64 (n4 : Int), .int .i64 0]) (results_cell3 rfl _ _ _ B 0 (recC (RecB.mk k g true u)) _ (.int .i64 (n4 : Int)) (.int .i64 0) rfl rfl rfl Y1.out.range Try.underlying25 rfl (info_refL OKQ.out)) rfl ⟨?_, Y2.out⟩
                obtain ⟨z1, z2⟩ := rdR_is hOE
                rw [hOE, z1, z2, show rdV s.data.toList = RecB.mk k g true u from (by rw [HU.out, HS3.out, HK.out, HG.out]; exact (rdV_patch HL.out HC1.out rfl HB32.out).symm), show rdN s.data.toList = n4 from (by rw [HN4.out, HK4.out, HS3.out, HP2.out, HP1.out]; unfold rdN; rw [if_pos HC1.out])]
            · have b4 : (e4 != 0) = true := by simp [h4]
              have Z4 := Lib.hid h4
              clear h4
              go_upto_region 19 with (fail)
              obtain ⟨y1, y2⟩ := set_rec (w := w) (q := RecB.zero) N7.out RecB.zero_ok RecB.zero_ok K7.out HBW.out
              have T8 := Lib.hid (N7.out.there RecB.zero_ok 0 (recA RecB.zero).size (by rw [recA_size RecB.zero_ok]; omega))
              have Y1 := Lib.hid y1
              have Y2 := Lib.hid y2
              clear y1 y2
              go_wp2_with (first | (refine wpList_store_mid rfl 25 (.tmp 2) (.tmp 62) rfl B 0 (recA RecB.zero) rfl rfl T8.out I2.out (recA_one _) ?_) | fail)
              have hOE : rdE s.data.toList = e4 := by rw [HRE.out]; unfold bodE; rw [← HE4.out, if_pos Z4.out]
              refine bodyPost_ret (v := .tuple #[.agg (recA RecB.zero), .int .i64 0, .int .i64 e4]) (results_cell3 rfl _ _ _ B 0 (recC RecB.zero) _ (.int .i64 0) (.int .i64 e4) rfl rfl rfl Y1.out.range Try.underlying25 rfl (info_refL RecB.zero_ok)) rfl ⟨?_, Y2.out⟩
              obtain ⟨z1, z2⟩ := rdR_no (show rdE s.data.toList ≠ 0 by rw [hOE]; exact Z4.out)
              rw [hOE, z1, z2]
              rfl
        · have b3 : (n1 == 1) = false := by simp [h3]
          have HC1 := Lib.hid (show ¬ cn (cAt s.data.toList) = 1 by rw [← HN.out]; exact h3)
          have HTA := Lib.hid (show s.data.toList.drop p1 = tAt s.data.toList by rw [HBA.out]; unfold tAt; rw [if_neg HC1.out])
          clear h3
          obtain ⟨s3, hs3⟩ : ∃ s3, s3 = s.extract p1 s.size := ⟨_, rfl⟩
          have hx3 : s.extract p1 s.size = s3 := hs3.symm
          have HS3 := Lib.hid (show s3.data.toList = tAt s.data.toList by rw [hs3, ext_list]; exact HTA.out)
          have HZ3 := Lib.hid (show s3.size ≤ maxLen by rw [hs3, extract_size]; have := hs; omega)
          have htl := Lib.hid (show p1 + tk s3.data.toList ≤ s.size by
            have h1 : s3.data.toList.length = s.size - p1 := by rw [hs3, ext_list, List.length_drop, HLEN.out]
            rcases td_cases s3.data.toList with ⟨_, _, _, t1, _, t2, _⟩ | ⟨_, _, t2⟩
            · rw [t2]; omega
            · rw [t2]; omega)
          clear hs3
          go_wp2_with fail
          refine (ref_ReadText s3 w3 HZ3.out).mono ?_
          rintro e w9 ⟨rfl, rfl⟩
          clear hx3
          have HRE := Lib.hid (show rdE s.data.toList = bodE s3.data.toList by rw [HS3.out]; exact rdE_body HL.out HP.out (fun x => absurd x HC1.out))
          obtain ⟨u, hu⟩ : ∃ u, u = ts s3.data.toList := ⟨_, rfl⟩
          obtain ⟨e4, he4⟩ : ∃ e4, e4 = te s3.data.toList := ⟨_, rfl⟩
          obtain ⟨k4, hk4⟩ : ∃ k4, k4 = tk s3.data.toList := ⟨_, rfl⟩
          rw [← hu, ← he4, ← hk4]
          rw [← hk4] at htl
          have HU := Lib.hid hu
          have HE4 := Lib.hid he4
          have HK4 := Lib.hid hk4
          clear hu he4 hk4
          have hul := bs_size u
          by_cases h4 : e4 = 0
          · have b4 : (e4 != 0) = false := by simp [h4]
            have Z4 := Lib.hid h4
            clear h4
            by_cases h5 : 8192 < u.length
            · have b5 : (8192 : Int) < ((bs u).size : Int) := by rw [hul]; omega
              have Z5 := Lib.hid h5
              clear h5 hul
              go_upto_region 21 with (fail)
              obtain ⟨y1, y2⟩ := set_rec (w := w) (q := RecB.zero) N3.out RecB.zero_ok RecB.zero_ok K3.out HBW.out
              have T8 := Lib.hid (N3.out.there RecB.zero_ok 0 (recA RecB.zero).size (by rw [recA_size RecB.zero_ok]; omega))
              have Y1 := Lib.hid y1
              have Y2 := Lib.hid y2
              clear y1 y2
              go_wp2_with (first | (refine wpList_store_mid rfl 25 (.tmp 2) (.tmp 67) rfl B 0 (recA RecB.zero) rfl rfl T8.out I2.out (recA_one _) ?_) | fail)
              have hOE : rdE s.data.toList = 6 := by rw [HRE.out]; unfold bodE; rw [← HE4.out, Z4.out, ← HU.out, if_neg (by simp), if_pos Z5.out]
              refine bodyPost_ret (v := .tuple #[.agg (recA RecB.zero), .int .i64 0, .int .i64 6]) (results_cell3 rfl _ _ _ B 0 (recC RecB.zero) _ (.int .i64 0) (.int .i64 6) rfl rfl rfl Y1.out.range Try.underlying25 rfl (info_refL RecB.zero_ok)) rfl ⟨?_, Y2.out⟩
              obtain ⟨z1, z2⟩ := rdR_no (show rdE s.data.toList ≠ 0 by rw [hOE]; exact (by decide))
              rw [hOE, z1, z2]
              rfl
            · have b5 : ¬ (8192 : Int) < ((bs u).size : Int) := by rw [hul]; omega
              have Z5 := Lib.hid h5
              clear h5 hul
              obtain ⟨wa, hwa⟩ : ∃ wa, wa = w3.setCell ⟨C, 65, none⟩ (.string (bs u)) := ⟨_, rfl⟩
              have OKQ := Lib.hid (show RecB.Ok (RecB.mk k zero32 false u) from ⟨OK2.out.key, OK2.out.base⟩)
              have MQ := Lib.hid (show RecIn C 25 (RecB.mk k zero32 false u) wa by rw [hwa]; exact M3.out.setBody OK2.out u)
              have NQ := Lib.hid (show RecIn B 25 RecB.zero wa by rw [hwa]; exact N3.out.kept (S := fun k => k = C) ((Only.refl (fun k => k = C) _).setCell (p := ⟨C, 65, none⟩) (.inl rfl) _) HBC.out)
              have KQ := Lib.hid (show Below w.heap.size w wa by rw [hwa]; exact K3.out.setCell (p := ⟨C, 65, none⟩) HCW.out _)
              have c9 := M3.out.body OK2.out
              have f9 := M3.out.free 65
              have HWA := Lib.hid hwa
              clear hwa
              go_upto_region 23 with (fail)
              rw [← HWA.out]
              obtain ⟨y1, y2⟩ := set_rec (w := w) NQ.out RecB.zero_ok OKQ.out KQ.out HBW.out
              have T8 := Lib.hid (NQ.out.there RecB.zero_ok 0 (recA (RecB.mk k zero32 false u)).size (by rw [recA_size OKQ.out]; omega))
              have I8 := Lib.hid (info_refA OKQ.out)
              have IL := Lib.hid (show (Try.prog.info? 25).map (·.size) = some (recA (RecB.mk k zero32 false u)).toList.length by simpa using I8.out)
              have HRG := Lib.hid MQ.out.range
              have Y1 := Lib.hid y1
              have Y2 := Lib.hid y2
              obtain ⟨n4, hn4⟩ : ∃ n4, n4 = p1 + k4 := ⟨_, rfl⟩
              have hsum : (p1 : Int) + (k4 : Int) = (n4 : Int) := by omega
              have hsumle : n4 ≤ 9223372036854775807 := by rw [hn4]; have h1 := htl.out; have h2 := hs; unfold maxLen at h2; omega
              have HN4 := Lib.hid hn4
              clear y1 y2 hn4
              go_wp2_with (first | (refine wpList_load_mid rfl 25 (.tmp 5) rfl C 0 rfl (recA (RecB.mk k zero32 false u)).toList _ HRG.out Try.underlying25 rfl IL.out ?_; rw [Array.toArray_toList]) | (refine wpList_store_mid rfl 25 (.tmp 2) (.tmp 70) rfl B 0 (recA (RecB.mk k zero32 false u)) rfl rfl T8.out I8.out (recA_one _) ?_) | fail)
              have hOE : rdE s.data.toList = 0 := by rw [HRE.out]; unfold bodE; rw [← HE4.out, Z4.out, ← HU.out, if_neg (by simp), if_neg Z5.out]
              refine bodyPost_ret (v := .tuple #[.agg (recA (RecB.mk k zero32 false u)), .int .i64 (n4 : Int), .int .i64 0]) (results_cell3 rfl _ _ _ B 0 (recC (RecB.mk k zero32 false u)) _ (.int .i64 (n4 : Int)) (.int .i64 0) rfl rfl rfl Y1.out.range Try.underlying25 rfl (info_refL OKQ.out)) rfl ⟨?_, Y2.out⟩
              obtain ⟨z1, z2⟩ := rdR_is hOE
              rw [hOE, z1, z2, show rdV s.data.toList = RecB.mk k zero32 false u from (by rw [HU.out, HS3.out, HK.out]; exact (rdV_whole HL.out HC1.out).symm), show rdN s.data.toList = n4 from (by rw [HN4.out, HK4.out, HS3.out, HP1.out]; unfold rdN; rw [if_neg HC1.out]; omega)]
          · have b4 : (e4 != 0) = true := by simp [h4]
            have Z4 := Lib.hid h4
            clear h4
            go_upto_region 19 with (fail)
            obtain ⟨y1, y2⟩ := set_rec (w := w) (q := RecB.zero) N3.out RecB.zero_ok RecB.zero_ok K3.out HBW.out
            have T8 := Lib.hid (N3.out.there RecB.zero_ok 0 (recA RecB.zero).size (by rw [recA_size RecB.zero_ok]; omega))
            have Y1 := Lib.hid y1
            have Y2 := Lib.hid y2
            clear y1 y2
            go_wp2_with (first | (refine wpList_store_mid rfl 25 (.tmp 2) (.tmp 62) rfl B 0 (recA RecB.zero) rfl rfl T8.out I2.out (recA_one _) ?_) | fail)
            have hOE : rdE s.data.toList = e4 := by rw [HRE.out]; unfold bodE; rw [← HE4.out, if_pos Z4.out]
            refine bodyPost_ret (v := .tuple #[.agg (recA RecB.zero), .int .i64 0, .int .i64 e4]) (results_cell3 rfl _ _ _ B 0 (recC RecB.zero) _ (.int .i64 0) (.int .i64 e4) rfl rfl rfl Y1.out.range Try.underlying25 rfl (info_refL RecB.zero_ok)) rfl ⟨?_, Y2.out⟩
            obtain ⟨z1, z2⟩ := rdR_no (show rdE s.data.toList ≠ 0 by rw [hOE]; exact Z4.out)
            rw [hOE, z1, z2]
            rfl
    · have b1 : (e1 != 0) = true := by simp [h1]
      have Z1 := Lib.hid h1
      clear h1
      go_upto_region 7 with (fail)
      obtain ⟨y1, y2⟩ := set_rec (w := w) (q := RecB.zero) N3.out RecB.zero_ok RecB.zero_ok K3.out HBW.out
      have T8 := Lib.hid (N3.out.there RecB.zero_ok 0 (recA RecB.zero).size (by rw [recA_size RecB.zero_ok]; omega))
      have Y1 := Lib.hid y1
      have Y2 := Lib.hid y2
      clear y1 y2
      go_wp2_with (first | (refine wpList_store_mid rfl 25 (.tmp 2) (.tmp 28) rfl B 0 (recA RecB.zero) rfl rfl T8.out I2.out (recA_one _) ?_) | fail)
      have hOE : rdE s.data.toList = e1 := (rdE_pat HL.out (by unfold patE; rw [← HE.out, if_pos Z1.out]; exact Z1.out)).trans (by unfold patE; rw [← HE.out, if_pos Z1.out])
      refine bodyPost_ret (v := .tuple #[.agg (recA RecB.zero), .int .i64 0, .int .i64 e1]) (results_cell3 rfl _ _ _ B 0 (recC RecB.zero) _ (.int .i64 0) (.int .i64 e1) rfl rfl rfl Y1.out.range Try.underlying25 rfl (info_refL RecB.zero_ok)) rfl ⟨?_, Y2.out⟩
      obtain ⟨z1, z2⟩ := rdR_no (show rdE s.data.toList ≠ 0 by rw [hOE]; exact Z1.out)
      rw [hOE, z1, z2]
      rfl
end Go.Proofs.Ytlpknhiagdhkcaa
/- The document opens a record; the law's own look. -/
set_option linter.unusedVariables false
set_option maxRecDepth 100000
namespace Go.Proofs.Ytlpknhiagdhkcaa
open Go.RowKit

set_option maxHeartbeats 8000000 in
theorem ref_Open (s : ByteArray) (w : World) (hs : s.size ≤ 140737488355328) :
    Calls Try.prog 15 #[.string s] w fun e w' => e = .returned (.tuple #[.agg (recA (openR s.data.toList)), .int .i64 (openE s.data.toList)]) ∧ Below w.heap.size w w' := by
  obtain ⟨B, hB⟩ : ∃ B, B = w.heap.size := ⟨_, rfl⟩
  obtain ⟨w1, hw1⟩ : ∃ w1, w1 = w.alloc (.cells (recA RecB.zero) 25) := ⟨_, rfl⟩
  have K1 := Lib.hid (show Below w.heap.size w w1 by rw [hw1]; exact (Below.refl _ w).alloc (Nat.le_refl _) _)
  have N1 := Lib.hid (show RecIn B 25 RecB.zero w1 by rw [hw1, hB]; exact RecIn.new w _ _)
  have HBW := Lib.hid (show w.heap.size ≤ B by omega)
  have I2 := Lib.hid (info_refA RecB.zero_ok)
  have HB := Lib.hid hB
  have HW := Lib.hid hw1
  have HZ := Lib.hid zeroA_ref
  clear hB hw1
  go_enter Try.func15, Try.ntmps15
  go_wp2_with fail
  rw [← HZ.out, ← HB.out, ← HW.out]
  refine (ref_Take s w1 hs).mono ?_
  rintro e w2 ⟨rfl, k2⟩
  have N2 := Lib.hid (N1.out.below k2 N1.out.lt)
  have K2 := Lib.hid (K1.out.trans (k2.mono K1.out.size))
  clear k2
  obtain ⟨e1, he1⟩ : ∃ e1, e1 = takeE s.data.toList := ⟨_, rfl⟩
  obtain ⟨l1, hl1⟩ : ∃ l1, l1 = takeT s.data.toList := ⟨_, rfl⟩
  rw [← he1, ← hl1]
  have HSZ := Lib.hid (show (bs l1).size ≤ maxLen by rw [bs_size, hl1]; have := takeT_len s.data.toList; have h2 : s.data.toList.length = s.size := by rw [← Lib.size_eq]
                                                     unfold maxLen; omega)
  have HE1 := Lib.hid he1
  have HL1 := Lib.hid hl1
  clear he1 hl1
  by_cases h1 : e1 = 0
  · have b1 : (e1 != 0) = false := by simp [h1]
    have Z1 := Lib.hid h1
    clear h1
    go_wp2_with fail
    refine (ref_begin (bs l1) w2 HSZ.out).mono ?_
    rintro e w4 ⟨rfl, k4⟩
    rw [bs_list]
    have N4 := Lib.hid (N2.out.below k4 N2.out.lt)
    have K4 := Lib.hid (K2.out.trans (k4.mono K2.out.size))
    clear k4
    have HQ := Lib.hid (rdR_ok l1)
    obtain ⟨e2, he2⟩ : ∃ e2, e2 = rdE l1 := ⟨_, rfl⟩
    obtain ⟨q, hq⟩ : ∃ q, q = rdR l1 := ⟨_, rfl⟩
    obtain ⟨n2, hn2⟩ : ∃ n2, n2 = rdK l1 := ⟨_, rfl⟩
    rw [← hq] at HQ
    rw [← he2, ← hq, ← hn2]
    obtain ⟨C, hC⟩ : ∃ C, C = w4.heap.size := ⟨_, rfl⟩
    obtain ⟨w5, hw5⟩ : ∃ w5, w5 = laidR 25 w4 q := ⟨_, rfl⟩
    have N5 := Lib.hid (show RecIn B 25 RecB.zero w5 by rw [hw5]; exact N4.out.below (laidR_below _ _ _) N4.out.lt)
    have M5 := Lib.hid (show RecIn C 25 q w5 by rw [hw5, hC]; exact laidR_in _ _ HQ.out)
    have K5 := Lib.hid (show Below w.heap.size w w5 by rw [hw5]; exact K4.out.trans ((laidR_below _ _ _).mono K4.out.size))
    have T4 := Lib.hid (laidR_there 25 w4 HQ.out)
    have I4 := Lib.hid (info_refA HQ.out)
    have HC := Lib.hid hC
    have HW5 := Lib.hid (hw5.symm)
    have HE2 := Lib.hid he2
    have HQQ := Lib.hid hq
    have HN2 := Lib.hid hn2
    clear hC hw5 he2 hq hn2
    rw [HZ.out] at T4
    unfold laidR at HW5
    rw [HZ.out] at HW5
    go_upto_region 5 with (first | (with_reducible refine wpList_store_mid rfl 25 (.tmp 5) (.tmp 19) rfl w4.heap.size 0 (recA q) rfl rfl T4.out I4.out (recA_one _) ?_; rw [HW5.out, ← HC.out]) | fail)
    by_cases h2 : e2 = 0
    · have b2 : (e2 != 0) = false := by simp [h2]
      have Z2 := Lib.hid h2
      clear h2
      have hlb : ((bs l1).size : Int) = (l1.length : Int) := by rw [bs_size]
      by_cases h3 : n2 < l1.length
      · have h3' : (n2 : Int) < ((bs l1).size : Int) := by omega
        have Z3 := Lib.hid h3
        clear h3 hlb
        go_upto_region 8 with (fail)
        obtain ⟨y1, y2⟩ := set_rec (w := w) (q := RecB.zero) N5.out RecB.zero_ok RecB.zero_ok K5.out HBW.out
        have T8 := Lib.hid (N5.out.there RecB.zero_ok 0 (recA RecB.zero).size (by rw [recA_size RecB.zero_ok]; omega))
        have Y1 := Lib.hid y1
        have Y2 := Lib.hid y2
        clear y1 y2
        go_wp2_with (first | (refine wpList_store_mid rfl 25 (.tmp 2) (.tmp 30) rfl B 0 (recA RecB.zero) rfl rfl T8.out I2.out (recA_one _) ?_) | fail)
        have hOE : openE s.data.toList = 5 := by rw [openE_take HL1.out (by rw [← HE1.out, Z1.out]), if_neg (by rw [← HE2.out, Z2.out]; simp), ← HN2.out, if_pos Z3.out]
        refine bodyPost_ret (v := .tuple #[.agg (recA RecB.zero), .int .i64 5]) (results_cell_tmp rfl _ _ _ B 0 (recC RecB.zero) _ (.int .i64 5) rfl rfl Y1.out.range Try.underlying25 rfl (info_refL RecB.zero_ok)) rfl ⟨?_, Y2.out⟩
        rw [hOE, openR_no (by rw [hOE]; exact (by decide))]
      · have h3' : ¬ (n2 : Int) < ((bs l1).size : Int) := by omega
        have Z3 := Lib.hid h3
        clear h3 hlb
        go_upto_region 9 with (fail)
        obtain ⟨y1, y2⟩ := set_rec (w := w) N5.out RecB.zero_ok HQ.out K5.out HBW.out
        have T8 := Lib.hid (N5.out.there RecB.zero_ok 0 (recA q).size (by rw [recA_size HQ.out]; omega))
        have HRG := Lib.hid M5.out.range
        have Y1 := Lib.hid y1
        have Y2 := Lib.hid y2
        have IL := Lib.hid (show (Try.prog.info? 25).map (·.size) = some (recA q).toList.length by simpa using I4.out)
        clear y1 y2
        go_wp2_with (first | (refine wpList_load_mid rfl 25 (.tmp 5) rfl C 0 rfl (recA q).toList _ HRG.out Try.underlying25 rfl IL.out ?_; rw [Array.toArray_toList]) | (refine wpList_store_mid rfl 25 (.tmp 2) (.tmp 31) rfl B 0 (recA q) rfl rfl T8.out I4.out (recA_one _) ?_) | fail)
        have hOE : openE s.data.toList = 0 := by rw [openE_take HL1.out (by rw [← HE1.out, Z1.out]), if_neg (by rw [← HE2.out, Z2.out]; simp), ← HN2.out, if_neg Z3.out]
        refine bodyPost_ret (v := .tuple #[.agg (recA q), .int .i64 0]) (results_cell_tmp rfl _ _ _ B 0 (recC q) _ (.int .i64 0) rfl rfl Y1.out.range Try.underlying25 rfl (info_refL HQ.out)) rfl ⟨?_, Y2.out⟩
        rw [hOE, openR_yes HL1.out hOE, HQQ.out]
    · have b2 : (e2 != 0) = true := by simp [h2]
      have Z2 := Lib.hid h2
      clear h2
      go_upto_region 6 with (fail)
      obtain ⟨y1, y2⟩ := set_rec (w := w) (q := RecB.zero) N5.out RecB.zero_ok RecB.zero_ok K5.out HBW.out
      have T8 := Lib.hid (N5.out.there RecB.zero_ok 0 (recA RecB.zero).size (by rw [recA_size RecB.zero_ok]; omega))
      have Y1 := Lib.hid y1
      have Y2 := Lib.hid y2
      clear y1 y2
      go_wp2_with (first | (refine wpList_store_mid rfl 25 (.tmp 2) (.tmp 24) rfl B 0 (recA RecB.zero) rfl rfl T8.out I2.out (recA_one _) ?_) | fail)
      have hOE : openE s.data.toList = e2 := by rw [openE_take HL1.out (by rw [← HE1.out, Z1.out]), if_pos (by rw [← HE2.out]; exact Z2.out), ← HE2.out]
      refine bodyPost_ret (v := .tuple #[.agg (recA RecB.zero), .int .i64 e2]) (results_cell_tmp rfl _ _ _ B 0 (recC RecB.zero) _ (.int .i64 e2) rfl rfl Y1.out.range Try.underlying25 rfl (info_refL RecB.zero_ok)) rfl ⟨?_, Y2.out⟩
      rw [hOE, openR_no (by rw [hOE]; exact Z2.out)]
  · have b1 : (e1 != 0) = true := by simp [h1]
    have Z1 := Lib.hid h1
    clear h1
    go_upto_region 3 with (fail)
    obtain ⟨y1, y2⟩ := set_rec (w := w) (q := RecB.zero) N2.out RecB.zero_ok RecB.zero_ok K2.out HBW.out
    have T8 := Lib.hid (N2.out.there RecB.zero_ok 0 (recA RecB.zero).size (by rw [recA_size RecB.zero_ok]; omega))
    have Y1 := Lib.hid y1
    have Y2 := Lib.hid y2
    clear y1 y2
    go_wp2_with (first | (refine wpList_store_mid rfl 25 (.tmp 2) (.tmp 14) rfl B 0 (recA RecB.zero) rfl rfl T8.out I2.out (recA_one _) ?_) | fail)
    have hOE : openE s.data.toList = e1 := by unfold openE; rw [if_pos (by rw [← HE1.out]; exact Z1.out), HE1.out]
    refine bodyPost_ret (v := .tuple #[.agg (recA RecB.zero), .int .i64 e1]) (results_cell_tmp rfl _ _ _ B 0 (recC RecB.zero) _ (.int .i64 e1) rfl rfl Y1.out.range Try.underlying25 rfl (info_refL RecB.zero_ok)) rfl ⟨?_, Y2.out⟩
    rw [hOE, openR_no (by rw [hOE]; exact Z1.out)]

set_option maxHeartbeats 4000000 in
theorem law_theirs (r : RecB) (w : World) (hr : r.Ok) :
    Calls Try.prog 11 #[.agg (recA r)] w fun e w' => e = .returned (.agg (recA r)) ∧ Below w.heap.size w w' := by
  obtain ⟨B, hB⟩ : ∃ B, B = w.heap.size := ⟨_, rfl⟩
  obtain ⟨w1, hw1⟩ : ∃ w1, w1 = w.alloc (.cells (recA r) 25) := ⟨_, rfl⟩
  obtain ⟨w2, hw2⟩ : ∃ w2, w2 = w1.alloc (.cells (recA RecB.zero) 30) := ⟨_, rfl⟩
  have hs1 : w1.heap.size = B + 1 := by rw [hw1, hB]; simp
  have k2 : Below (B + 1) w1 w2 := by rw [hw2]; exact (Below.refl _ w1).alloc (by omega) _
  have K2 := Lib.hid (show Below w.heap.size w w2 by
    have k1 : Below w.heap.size w w1 := by rw [hw1]; exact (Below.refl _ w).alloc (Nat.le_refl _) _
    exact k1.trans (k2.mono (by omega)))
  have N2 := Lib.hid (show RecIn B 25 r w2 by
    have : RecIn B 25 r w1 := by rw [hw1, hB]; exact RecIn.new w _ _
    exact this.below k2 (by omega))
  have M2 := Lib.hid (show RecIn (B + 1) 30 RecB.zero w2 by rw [hw2, ← hs1]; exact RecIn.new w1 _ _)
  have R1 := Lib.hid (N2.out.rkey hr)
  have R2 := Lib.hid (N2.out.rbase hr)
  have c64 := N2.out.patch hr
  have c65 := N2.out.body hr
  have I1 := Lib.hid (info_keyL hr.key)
  have I2 := Lib.hid (info_keyL hr.base)
  have I3 := Lib.hid (info_recA hr)
  have IL := Lib.hid (info_recL hr)
  have T2 := Lib.hid (M2.out.there RecB.zero_ok 0 (recA r).size (by rw [recA_size hr]; omega))
  have HBD := Lib.hid (fun W => build_all hr W)
  have HBW := Lib.hid (show w.heap.size ≤ B + 1 by omega)
  have HM := Lib.hid (M2.out.setAll RecB.zero_ok hr)
  have HB := Lib.hid hB
  have HW1 := Lib.hid hw1
  have HW2 := Lib.hid (show w2 = w1.alloc (.cells Try.zeroCells30 30) by rw [hw2, zeroA_eq])
  have HR := Lib.hid hr
  clear hB hw1 hw2 hs1 hr k2
  go_enter Try.func11, Try.ntmps11
  go_upto_region 1 with (fail)
  rw [← HB.out, ← HW1.out, ← HW2.out]
  go_wp2_with (first
    | (refine wpList_load_mid rfl 23 (.tmp 3) rfl B 0 rfl (kcs r.key) _ R1.out Try.underlying23 rfl I1.out ?_)
    | (refine wpList_load_mid rfl 23 (.tmp 5) rfl B 32 rfl (kcs r.base) _ R2.out Try.underlying23 rfl I2.out ?_)
    | (refine wpList_build_is rfl 30 [(0, .tmp 4), (1, .tmp 6), (2, .tmp 8), (3, .tmp 10)] rfl [(0, .agg (kcs r.key).toArray), (1, .agg (kcs r.base).toArray), (2, .bool r.patch), (3, .string (bs r.body))] rfl (recA r) HBD.out ?_)
    | (with_reducible refine wpList_store_mid rfl 30 (.tmp 2) (.tmp 11) rfl (B + 1) 0 (recA r) rfl rfl T2.out I3.out (recA_one _) ?_)
    | fail)
  refine bodyPost_ret (v := .agg (recA r)) (results_cell1 rfl _ _ _ (B + 1) 0 (recC r) _ rfl HM.out.range Try.underlying30 rfl IL.out) rfl ⟨rfl, below_setCells HBW.out _ 0 K2.out⟩
end Go.Proofs.Ytlpknhiagdhkcaa
/- The law's own look: a record of the body "ab". -/
set_option linter.unusedVariables false
set_option maxRecDepth 100000
namespace Go.Proofs.Ytlpknhiagdhkcaa
open Go.RowKit

def rAb : RecB := ⟨zero32, zero32, false, [97, 98]⟩
theorem rAb_ok : rAb.Ok := ⟨zero32_len, zero32_len⟩
theorem rAb_E : packE rAb = 0 := packE_of (by decide) (fun _ => rfl)
theorem rAb_parts : partsR rAb = zero32 ++ [64, 66, 97, 98] := by
  show zero32 ++ (midR rAb ++ text [97, 98]) = _
  rw [show midR rAb = whole 0 from rfl, whole0, text_ab]
  rfl
theorem rAb_len : (packL rAb).length = 40 := by rw [packL_len, rAb_parts, List.length_append, zero32_len]; rfl
theorem rAb_mid : (bs (packL rAb)).extract 32 36 = bs [64, 66, 97, 98] := by
  refine bs_eq ?_
  rw [Lib.extract_data]
  show ((packL rAb).drop 32).take 4 = _
  rw [show packL rAb = zero32 ++ ([64, 66, 97, 98] ++ four (sumL (partsR rAb))) by unfold packL; rw [rAb_parts, List.append_assoc], List.drop_left' zero32_len]
  rfl
theorem build_ab (w : World) : (Instr.build 30 #[(3, .string ⟨#[97, 98]⟩)]).run Try.prog w = .ok (.agg (recA rAb)) w := by
  refine run_build w _ _ _ ?_
  rw [built_rec]
  kernel_rfl

set_option maxHeartbeats 4000000 in
theorem law_awake17 (w : World) : Calls Try.prog 9 #[] w fun e w' => e = .returned (.bool true) ∧ Below w.heap.size w w' := by
  have HBD := Lib.hid build_ab
  have HZ := Lib.hid zeroA_eq
  go_enter Try.func9, Try.ntmps9
  go_wp2_with (first | (refine wpList_build_is rfl 30 [(3, .const (.string ⟨#[97, 98]⟩))] rfl [(3, .string ⟨#[97, 98]⟩)] rfl (recA rAb) HBD.out ?_) | fail)
  refine (box_Pack rAb w rAb_ok (by decide)).mono ?_
  rintro e w1 ⟨rfl, k1⟩
  rw [packT_ok rAb_E, rAb_E]
  have K1 := Lib.hid k1
  clear k1
  go_wp2_with fail
  refine (box_Open (bs (packL rAb)) w1 (by rw [bs_size, rAb_len]; decide)).mono ?_
  rintro e w2 ⟨rfl, k2⟩
  obtain ⟨o1, o2⟩ := open_pack rAb_ok rAb_E
  rw [bs_list, o1, o2]
  have K2 := Lib.hid (K1.out.trans (k2.mono K1.out.size))
  clear k2 o1 o2
  obtain ⟨C, hC⟩ : ∃ C, C = w2.heap.size := ⟨_, rfl⟩
  obtain ⟨w3, hw3⟩ : ∃ w3, w3 = laidR 30 w2 rAb := ⟨_, rfl⟩
  have M3 := Lib.hid (show RecIn C 30 rAb w3 by rw [hw3, hC]; exact laidR_in _ _ rAb_ok)
  have K3 := Lib.hid (show Below w.heap.size w w3 by rw [hw3]; exact K2.out.trans ((laidR_below _ _ _).mono K2.out.size))
  have T2 := Lib.hid (laidR_there 30 w2 rAb_ok)
  have I2 := Lib.hid (info_recA rAb_ok)
  have HC := Lib.hid hC
  have HW3 := Lib.hid (hw3.symm)
  clear hC hw3
  rw [HZ.out] at T2
  unfold laidR at HW3
  rw [HZ.out] at HW3
  obtain ⟨P, hP⟩ : ∃ P, P = bs (packL rAb) := ⟨_, rfl⟩
  have hPs : P.size = 40 := by rw [hP, bs_size, rAb_len]
  have hPe : P.extract 32 36 = bs [64, 66, 97, 98] := by rw [hP]; exact rAb_mid
  rw [← hP]
  clear hP
  go_upto_region 3 with (first | (with_reducible refine wpList_store_mid rfl 30 (.tmp 3) (.tmp 13) rfl w2.heap.size 0 (recA rAb) rfl rfl T2.out I2.out (recA_one _) ?_; rw [HW3.out, ← HC.out]) | fail)
  have c65 := M3.out.body rAb_ok
  have hs1 : ((P.size : Int) == 40) = true := by rw [hPs]; rfl
  have hs2 : (bs [64, 66, 97, 98]).toList = [64, 66, 97, 98] := by decide +kernel
  have hs3 : ((bs rAb.body).toList == ([97, 98] : List UInt8)) = true := by decide +kernel
  go_wp2
  go_ret
  exact ⟨rfl, K3.out⟩
end Go.Proofs.Ytlpknhiagdhkcaa
/- The disk as the document tells it, in plain words: files, blocks, changes, a loss of power. -/
set_option linter.unusedVariables false
set_option maxRecDepth 100000
namespace Go.Proofs.Ytlpknhiagdhkcaa

/-- A file: its number, tier, bytes; whether it is sure, and how many of its bytes are. -/
structure DF where
  n : Int
  t : Int
  data : List UInt8
  sure : Bool
  sb : Nat
/-- A disk: blocks in the tiers, files, root, changes done, changes till the power goes, whether it is gone. -/
structure DS where
  r0 : Nat
  r1 : Nat
  fs : List DF
  root : Int
  steps : Nat
  left : Int
  down : Bool

/-- Blocks of so many bytes. -/
def blk (n : Nat) : Nat := 1 + (n + 63) / 64
def usedL (t : Int) : List DF → Nat
  | [] => 0
  | f :: r => (if f.t = t then blk f.data.length else 0) + usedL t r
def findL (n : Int) : List DF → Option DF
  | [] => none
  | f :: r => if f.n = n then some f else findL n r
def updL (n : Int) (g : DF → DF) (l : List DF) : List DF := l.map fun f => if f.n = n then g f else f
def delL (n : Int) (l : List DF) : List DF := l.filter fun f => decide (f.n ≠ n)
def DS.room (s : DS) (t : Int) : Nat := if t = 0 then s.r0 else s.r1
def DS.used (s : DS) (t : Int) : Nat := usedL t s.fs

/-- What holds of every disk. -/
structure DS.Fit (s : DS) : Prop where
  r0 : s.r0 ≤ 1048576
  r1 : s.r1 ≤ 1048576
  u0 : usedL 0 s.fs ≤ s.r0
  u1 : usedL 1 s.fs ≤ s.r1
  nod : (s.fs.map (·.n)).Nodup
  file : ∀ f ∈ s.fs, (f.t = 0 ∨ f.t = 1) ∧ f.sb ≤ f.data.length ∧ (f.sure = false → f.sb = 0) ∧ 1 ≤ f.n ∧ f.n ≤ 9223372036854775807
  root : s.root = 0 ∨ ∃ f ∈ s.fs, f.n = s.root ∧ f.sure = true
  l0 : -1 ≤ s.left
  l1 : s.left ≤ 9223372036854775807

/-! ### lists of files -/
theorem usedL_append (t : Int) : ∀ (a b : List DF), usedL t (a ++ b) = usedL t a + usedL t b
  | [], b => by simp [usedL]
  | f :: r, b => by simp [usedL, usedL_append t r b]; omega
theorem usedL_perm (t : Int) {a b : List DF} (h : a.Perm b) : usedL t a = usedL t b := by
  induction h with
  | nil => rfl
  | cons x _ ih => simp [usedL, ih]
  | swap x y l => simp [usedL]; omega
  | trans _ _ h1 h2 => exact h1.trans h2
theorem blk_pos (n : Nat) : 1 ≤ blk n := by unfold blk; omega
theorem blk_zero : blk 0 = 1 := rfl
theorem blk_mono {a b : Nat} (h : a ≤ b) : blk a ≤ blk b := by unfold blk; omega
theorem blk_le (n : Nat) : n ≤ 64 * blk n := by unfold blk; omega
theorem length_le_used : ∀ (l : List DF), (∀ f ∈ l, f.t = 0 ∨ f.t = 1) → l.length ≤ usedL 0 l + usedL 1 l
  | [], _ => by simp
  | f :: r, h => by
    have ih := length_le_used r (fun x hx => h x (by simp [hx]))
    have hb := blk_pos f.data.length
    rcases h f (by simp) with e | e <;> simp [usedL, e] <;> omega
theorem findL_mem {n : Int} {f : DF} : ∀ {l : List DF}, findL n l = some f → f ∈ l ∧ f.n = n
  | [], h => by cases h
  | g :: r, h => by
    unfold findL at h
    split at h
    · cases h; exact ⟨by simp, by assumption⟩
    · obtain ⟨h1, h2⟩ := findL_mem h
      exact ⟨by simp [h1], h2⟩
theorem findL_none {n : Int} : ∀ {l : List DF}, findL n l = none → ∀ f ∈ l, f.n ≠ n
  | [], _, f, hf => by cases hf
  | g :: r, h, f, hf => by
    unfold findL at h
    split at h
    · cases h
    · rcases List.mem_cons.1 hf with rfl | hf
      · assumption
      · exact findL_none h f hf
theorem findL_of {n : Int} {f : DF} {l : List DF} (hn : (l.map (·.n)).Nodup) (hm : f ∈ l) (hf : f.n = n) : findL n l = some f := by
  cases h : findL n l with
  | none => exact absurd hf (findL_none h f hm)
  | some g =>
    obtain ⟨h1, h2⟩ := findL_mem h
    have : ∀ {l : List DF}, (l.map (·.n)).Nodup → f ∈ l → g ∈ l → f = g := by
      intro l
      induction l with
      | nil => intro _ h; cases h
      | cons a r ih =>
        intro hn ha hb
        simp only [List.map_cons, List.nodup_cons] at hn
        rcases List.mem_cons.1 ha with rfl | ha'
        · rcases List.mem_cons.1 hb with rfl | hb'
          · rfl
          · exact absurd (List.mem_map.2 ⟨g, hb', by rw [h2, hf]⟩) hn.1
        · rcases List.mem_cons.1 hb with rfl | hb'
          · exact absurd (List.mem_map.2 ⟨f, ha', by rw [h2, hf]⟩) hn.1
          · exact ih hn.2 ha' hb'
    rw [this hn hm h1]
theorem upd_map_n (n : Int) (g : DF → DF) (hg : ∀ f, (g f).n = f.n) (l : List DF) : (updL n g l).map (·.n) = l.map (·.n) := by
  unfold updL
  rw [List.map_map]
  apply List.map_congr_left
  intro f _
  simp only [Function.comp]
  split
  · exact hg f
  · rfl
theorem upd_none {n : Int} (g : DF → DF) {l : List DF} (h : ∀ f ∈ l, f.n ≠ n) : updL n g l = l := by
  unfold updL
  conv => rhs; rw [← List.map_id l]
  apply List.map_congr_left
  intro f hf
  rw [if_neg (h f hf)]
  rfl
theorem del_none {n : Int} {l : List DF} (h : ∀ f ∈ l, f.n ≠ n) : delL n l = l := List.filter_eq_self.2 fun f hf => by simpa using h f hf
/-- What a file that is changed does to the blocks taken. -/
theorem used_upd (t n : Int) (g : DF → DF) (hg : ∀ f, (g f).t = f.t) : ∀ {l : List DF} {f : DF}, (l.map (·.n)).Nodup → findL n l = some f →
    usedL t (updL n g l) + (if f.t = t then blk f.data.length else 0) = usedL t l + (if f.t = t then blk (g f).data.length else 0)
  | [], f, _, h => by cases h
  | a :: r, f, hn, h => by
    simp only [List.map_cons, List.nodup_cons] at hn
    unfold findL at h
    by_cases ha : a.n = n
    · rw [if_pos ha] at h
      cases h
      have hr : updL n g r = r := upd_none g fun x hx e => hn.1 (List.mem_map.2 ⟨x, hx, by rw [e, ha]⟩)
      have : updL n g (a :: r) = g a :: r := by
        show (if a.n = n then g a else a) :: updL n g r = _
        rw [if_pos ha, hr]
      rw [this]
      simp only [usedL, hg]
      omega
    · rw [if_neg ha] at h
      have ih := used_upd t n g hg hn.2 h
      have : updL n g (a :: r) = a :: updL n g r := by
        show (if a.n = n then g a else a) :: updL n g r = _
        rw [if_neg ha]
      rw [this]
      simp only [usedL]
      omega
theorem used_del (t n : Int) : ∀ {l : List DF} {f : DF}, (l.map (·.n)).Nodup → findL n l = some f → usedL t (delL n l) + (if f.t = t then blk f.data.length else 0) = usedL t l
  | [], f, _, h => by cases h
  | a :: r, f, hn, h => by
    simp only [List.map_cons, List.nodup_cons] at hn
    unfold findL at h
    by_cases ha : a.n = n
    · rw [if_pos ha] at h
      cases h
      have hr : delL n r = r := del_none fun x hx e => hn.1 (List.mem_map.2 ⟨x, hx, by rw [e, ha]⟩)
      have : delL n (a :: r) = r := by
        unfold delL at hr ⊢
        rw [List.filter_cons, if_neg (by simp [ha]), hr]
      rw [this]
      simp only [usedL]
      omega
    · rw [if_neg ha] at h
      have ih := used_del t n hn.2 h
      have : delL n (a :: r) = a :: delL n r := by
        unfold delL
        rw [List.filter_cons, if_pos (by simp [ha])]
      rw [this]
      simp only [usedL]
      omega
theorem upd_mem {n : Int} {g : DF → DF} {l : List DF} {x : DF} (h : x ∈ updL n g l) : (∃ f ∈ l, f.n = n ∧ x = g f) ∨ (x ∈ l ∧ x.n ≠ n) := by
  unfold updL at h
  obtain ⟨f, hf, rfl⟩ := List.mem_map.1 h
  by_cases e : f.n = n
  · rw [if_pos e]; exact .inl ⟨f, hf, e, rfl⟩
  · rw [if_neg e]; exact .inr ⟨hf, e⟩
theorem mem_upd {n : Int} {g : DF → DF} {l : List DF} {f : DF} (h : f ∈ l) : (if f.n = n then g f else f) ∈ updL n g l := List.mem_map.2 ⟨f, h, rfl⟩
theorem used_ge {t : Int} {l : List DF} {f : DF} (h : f ∈ l) (ht : f.t = t) : blk f.data.length ≤ usedL t l := by
  induction l with
  | nil => cases h
  | cons a r ih =>
    rcases List.mem_cons.1 h with rfl | h
    · simp [usedL, ht]
    · have := ih h; simp only [usedL]; omega

/-! ### what the calls do -/
/-- A change that isn't refused. -/
def DS.tick (s : DS) : DS := { s with left := if s.left < 0 then s.left else s.left - 1, steps := s.steps + 1 }
def DS.off (s : DS) : DS := { s with down := true }
/-- A file's answer to a call that asks for a file. -/
def DS.make (s : DS) (t n : Int) : DS × Int :=
  if s.down = true then (s, 8) else if ¬ (t = 0 ∨ t = 1) ∨ n < 1 then (s, 1) else if (findL n s.fs).isSome then (s, 10) else if s.room t ≤ s.used t then (s, 7)
  else if s.left = 0 then (s.off, 8) else ({ s.tick with fs := s.fs ++ [⟨n, t, [], false, 0⟩] }, 0)
def addF (b : List UInt8) (f : DF) : DF := { f with data := f.data ++ b }
def DS.add (s : DS) (n : Int) (b : List UInt8) : DS × Int :=
  if s.down = true then (s, 8) else match findL n s.fs with
  | none => (s, 9)
  | some f => if s.room f.t < s.used f.t + (blk (f.data.length + b.length) - blk f.data.length) then (s, 7)
    else if s.left = 0 then ({ s.off with fs := updL n (addF b) s.fs }, 8) else ({ s.tick with fs := updL n (addF b) s.fs }, 0)
def syncF (f : DF) : DF := { f with sure := true, sb := f.data.length }
def DS.sync (s : DS) (n : Int) : DS × Int :=
  if s.down = true then (s, 8) else match findL n s.fs with
  | none => (s, 9)
  | some _ => if s.left = 0 then (s.off, 8) else ({ s.tick with fs := updL n syncF s.fs }, 0)
def DS.drop (s : DS) (n : Int) : DS × Int :=
  if s.down = true then (s, 8) else match findL n s.fs with
  | none => (s, 9)
  | some _ => if n = s.root then (s, 11) else if s.left = 0 then (s.off, 8) else ({ s.tick with fs := delL n s.fs }, 0)
def DS.point (s : DS) (n : Int) : DS × Int :=
  if s.down = true then (s, 8) else match findL n s.fs with
  | none => (s, 9)
  | some f => if f.sure = false ∨ f.sb < f.data.length then (s, 11) else if s.left = 0 then (s.off, 8) else ({ s.tick with root := n }, 0)
def DS.arm (s : DS) (n : Int) : DS := { s with left := max n (-1) }
/-- What the first Keep says that names a file. -/
def keepOf (ks : List (Int × Int)) (n : Int) : Option Int := (ks.find? fun k => decide (k.1 = n)).map (·.2)
def most (ks : List (Int × Int)) (n : Int) : Int := (keepOf ks n).getD 0
def loseF (k : Int) (f : DF) : DF :=
  let m := f.sb + min k.toNat (f.data.length - f.sb)
  { f with data := f.data.take m, sure := true, sb := m }
def backF (ks : List (Int × Int)) (f : DF) : Option DF := if keepOf ks f.n = none ∧ f.sure = false then none else some (loseF (most ks f.n) f)
def DS.back (s : DS) (ks : List (Int × Int)) : DS := { s with fs := s.fs.filterMap (backF ks), left := -1, down := false }
def DS.size (s : DS) (n : Int) : Int × Int × Int :=
  if s.down = true then (0, 0, 8) else match findL n s.fs with
  | none => (0, 0, 9)
  | some f => (f.data.length, f.t, 0)
def DS.read (s : DS) (n at_ size : Int) : List UInt8 × Int :=
  if s.down = true then ([], 8) else match findL n s.fs with
  | none => ([], 9)
  | some f => if at_ < 0 ∨ size < 0 ∨ (f.data.length : Int) - at_ < size then ([], 1) else ((f.data.drop at_.toNat).take size.toNat, 0)
def DS.new (hot cold : Nat) : DS := ⟨hot, cold, [], 0, 0, -1, false⟩

end Go.Proofs.Ytlpknhiagdhkcaa
