/- Texts put together: TableRefOpen, TableScanLen -/
import Derived.Test.YteejldddgogbkaaGreatDoorTOp20
/- The document's Open. -/
set_option linter.unusedVariables false
set_option maxRecDepth 100000
namespace Go.Proofs.YteejldddgogbkaaGreatDoor
open Go.RowKit

set_option maxHeartbeats 80000000 in
theorem ref_OpenTab (s : List UInt8) (w : World) (hs : s.length ≤ 200000) :
    Calls Tryz.prog 13 #[.string (bs s)] w (ROpenTab s w) := by
  by_cases h16 : s.length < 16
  · have ho : openTab s = (2, noTab) := by unfold openTab; rw [if_pos h16]
    refine (ref_Open_short s w h16).mono ?_
    rintro e w' ⟨he, hb⟩
    subst he
    exact ROpenTab.bad ho (by decide) hb
  obtain ⟨n, hn⟩ : ∃ n, n + 16 = s.length := ⟨s.length - 16, by omega⟩
  have hO := openTab_at n hn
  obtain ⟨Z, hZ⟩ : ∃ Z, Z = w.heap.size := ⟨_, rfl⟩
  obtain ⟨w1, hw1⟩ : ∃ w1, w1 = w.alloc (.cells #[.string ⟨#[]⟩, .slice none 0 0, .slice none 0 0, .slice none 0 0, .int .i64 0, .slice none 0 0, .int .i64 0] 45) := ⟨_, rfl⟩
  have K1 := Lib.hid (show Below w.heap.size w w1 by rw [hw1]; exact (Below.refl _ _).alloc (Nat.le_refl _) _)
  have C1 := Lib.hid (show C7 Z 45 (.string ⟨#[]⟩) (.slice none 0 0) (.slice none 0 0) (.slice none 0 0) (.int .i64 0) (.slice none 0 0) (.int .i64 0) w1 by rw [hw1, hZ]; exact heap_new w _)
  have HW1 := Lib.hid hw1
  have HZ := Lib.hid hZ
  have HZ0 := Lib.hid (show w.heap.size ≤ Z by omega)
  obtain ⟨m, hm⟩ : ∃ m, m = s.length := ⟨_, rfl⟩
  have hsz : (bs s).size = m := by rw [bs_size, hm]
  have hm2 : m ≤ 200000 := by omega
  have hmn : (m : Int) - 16 = (n : Int) := by omega
  have hn0 : ¬ ((n : Int) < 0) := by omega
  have hnm : (n : Int) ≤ (m : Int) := by omega
  obtain ⟨ft, hft⟩ : ∃ ft, ft = s.drop n := ⟨_, rfl⟩
  have hexf : (bs s).extract n m = bs ft := by
    have := (take_split (s := bs s) (n := n) (by rw [hsz]; omega)).2
    rw [hsz, bs_list] at this
    rw [hft]; exact this
  have hftl : ft.length = 16 := by rw [hft, List.length_drop]; omega
  rw [← hft] at hO
  have HFT := Lib.hid hft
  have HM := Lib.hid (And.intro hm hn)
  clear hw1 hZ hm hft h16 hn
  by_cases h0 : takeE ft = 0
  · have hfl := take_len h0
    have hE0 := Lib.hid h0
    rw [if_neg (fun h => h h0)] at hO
    obtain ⟨f, hfd⟩ : ∃ f, f = takeT ft := ⟨_, rfl⟩
    rw [← hfd] at hO hfl
    have hfl2 : f.length = 12 := by omega
    obtain ⟨f4, hf4⟩ : ∃ f4, f4 = f.drop 4 := ⟨_, rfl⟩
    obtain ⟨f8, hf8⟩ : ∃ f8, f8 = f.drop 8 := ⟨_, rfl⟩
    have hfz : (bs f).size = 12 := by rw [bs_size, hfl2]
    have hex4 : (bs f).extract 4 12 = bs f4 := by
      have := (take_split (s := bs f) (n := 4) (by rw [hfz]; omega)).2
      rw [hfz, bs_list] at this
      rw [hf4]; exact this
    have hex8 : (bs f).extract 8 12 = bs f8 := by
      have := (take_split (s := bs f) (n := 8) (by rw [hfz]; omega)).2
      rw [hfz, bs_list] at this
      rw [hf8]; exact this
    have hl4 : 4 ≤ f4.length ∧ f4.length ≤ 12 := by rw [hf4, List.length_drop]; omega
    have hl8 : 4 ≤ f8.length ∧ f8.length ≤ 12 := by rw [hf8, List.length_drop]; omega
    rw [← hf4, ← hf8] at hO
    obtain ⟨a, ha⟩ : ∃ a, a = num4 f := ⟨_, rfl⟩
    obtain ⟨b, hb⟩ : ∃ b, b = num4 f4 := ⟨_, rfl⟩
    obtain ⟨c, hc⟩ : ∃ c, c = num4 f8 := ⟨_, rfl⟩
    have ha32 : a < 4294967296 := by rw [ha]; exact num4_lt _
    have hb32 : b < 4294967296 := by rw [hb]; exact num4_lt _
    have hc32 : c < 4294967296 := by rw [hc]; exact num4_lt _
    rw [← ha, ← hb, ← hc] at hO
    have NA := Lib.hid (fun (W : World) (q : Seen W) => show Calls Tryz.prog 43 #[.string (bs f)] q.val fun e w' => e = .returned (.int .i64 (a : Int)) ∧ ∃ r : Seen W, w' = r.val from (ref_number f q.val (by omega) (by omega)).mono fun e w' ⟨h1, k, h2⟩ => ⟨by rw [h1, ha], ⟨⟨w', by rw [h2]; exact below_drewN q.below k⟩, rfl⟩⟩)
    have NB := Lib.hid (fun (W : World) (q : Seen W) => show Calls Tryz.prog 43 #[.string (bs f4)] q.val fun e w' => e = .returned (.int .i64 (b : Int)) ∧ ∃ r : Seen W, w' = r.val from (ref_number f4 q.val (by omega) (by omega)).mono fun e w' ⟨h1, k, h2⟩ => ⟨by rw [h1, hb], ⟨⟨w', by rw [h2]; exact below_drewN q.below k⟩, rfl⟩⟩)
    have NC := Lib.hid (fun (W : World) => show Calls Tryz.prog 43 #[.string (bs f8)] W fun e w' => e = .returned (.int .i64 (c : Int)) ∧ Below W.heap.size W w' from (ref_number f8 W (by omega) (by omega)).mono fun e w' ⟨h1, k, h2⟩ => ⟨by rw [h1, hc], by rw [h2]; exact below_drewN (Below.refl _ _) k⟩)
    have hTK := Lib.hid (fun W : World => ref_Take (bs ft) W (by rw [bs_size]; omega))
    rw [bs_list, h0, ← hfd] at hTK
    have HO := Lib.hid hO
    clear hO h0 ha hb hc hfd hf4 hf8
    go_enter Tryz.func13, Tryz.ntmps13
    go_upto_region 1 with (fail)
    rw [← HW1.out, ← HZ.out]
    go_wp2_with fail
    refine (hTK.out w1).mono ?_
    rintro e w2 ⟨rfl, k2⟩
    have K2 := Lib.hid (K1.out.trans (k2.mono K1.out.size))
    have C2 := Lib.hid (C1.out.below k2)
    clear k2 hTK
    have NA2 := fun q : Seen w2 => Lib.hid (NA.out w2 q)
    have NB2 := fun q : Seen w2 => Lib.hid (NB.out w2 q)
    go_upto_region 7 with (fail)
    refine region_seen (by kernel_rfl) (by kernel_rfl) ?_
    repeat go_big_quiet_step (first | (go_at_call 43; with_reducible exact (NA2 _).out) | (go_at_call 43; with_reducible exact (NB2 _).out))
    refine wpQuiet_nil ?_
    rintro _ ⟨m3, rfl⟩
    have K3 := Lib.hid (K2.out.trans (m3.below.mono K2.out.size))
    have C3 := Lib.hid (C2.out.below m3.below)
    generalize m3.val = w3 at *
    clear NA2 NB2 NA NB K2 C2
    by_cases h1 : b < a ∨ n < b
    · have HO1 := Lib.hid (show openTab s = (3, noTab) by have := HO.out; rw [if_pos h1] at this; exact this)
      by_cases h2 : b < a
      · have h2' : (b : Int) < (a : Int) := by omega
        obtain ⟨r0, r1, r2, r3, r4, r5, r6⟩ := C3.out.c0
        have rf := C3.out.free
        go_wp2_with fail
        refine bodyPost_ret (results_c7 rfl _ _ Z _ _ _ _ _ _ _ _ _ rfl rfl (C3.out.put _ _ _ _ _ _ _) Tryz.underlying45 rfl sizeTab) rfl ?_
        exact ROpenTab.bad HO1.out (by decide) (below_put7 K3.out HZ0.out _ _ _ _ _ _ _)
      · have h2' : ¬ ((b : Int) < (a : Int)) := by omega
        have h3' : (n : Int) < (b : Int) := by omega
        obtain ⟨r0, r1, r2, r3, r4, r5, r6⟩ := C3.out.c0
        have rf := C3.out.free
        go_wp2_with fail
        refine bodyPost_ret (results_c7 rfl _ _ Z _ _ _ _ _ _ _ _ _ rfl rfl (C3.out.put _ _ _ _ _ _ _) Tryz.underlying45 rfl sizeTab) rfl ?_
        exact ROpenTab.bad HO1.out (by decide) (below_put7 K3.out HZ0.out _ _ _ _ _ _ _)
    · have hHO1 := HO.out; rw [if_neg h1] at hHO1; have HO1 := Lib.hid hHO1; clear hHO1
      have h2 : a ≤ b ∧ b ≤ n := by omega
      have h2' : (a : Int) ≤ (b : Int) := by omega
      have h3' : (b : Int) ≤ (n : Int) := by omega
      have h4' : (b : Int) ≤ (m : Int) := by omega
      clear h1 HO
      obtain ⟨x, hx⟩ : ∃ x, x = (s.take b).drop a := ⟨_, rfl⟩
      have hexx : (bs s).extract a b = bs x := by
        rw [hx]
        exact bs_eq (by rw [Lib.extract_data]; rw [bs_list]; exact List.drop_take.symm)
      have hxl : x.length ≤ 200000 := by rw [hx, List.length_drop, List.length_take]; omega
      rw [← hx] at HO1
      have HX := Lib.hid hx
      have hop := Lib.hid (fun W : World => ref_OpensN x W (by omega))
      clear hx
      -- the table's variable
      obtain ⟨p, hp⟩ : ∃ p : World → Nat, p = fun W => W.heap.size := ⟨_, rfl⟩
      clear hp p
      go_wp2_with fail
      refine (NC.out w3).mono ?_
      rintro e w4 ⟨rfl, k4⟩
      have K4 := Lib.hid (K3.out.trans (k4.mono K3.out.size))
      have C4 := Lib.hid (C3.out.below k4)
      clear k4 NC K3 C3
      obtain ⟨w5, hw5⟩ : ∃ w5, w5 = w4.alloc (.cells #[.string (bs s), .slice none 0 0, .slice none 0 0, .slice none 0 0, .int .i64 0, .slice none 0 0, .int .i64 (c : Int)] 45) := ⟨_, rfl⟩
      have P5 : C7 w4.heap.size 45 (.string (bs s)) (.slice none 0 0) (.slice none 0 0) (.slice none 0 0) (.int .i64 0) (.slice none 0 0) (.int .i64 (c : Int)) w5 := by rw [hw5]; exact heap_new w4 _
      have k5 : Below w4.heap.size w4 w5 := by rw [hw5]; exact (Below.refl _ _).alloc (Nat.le_refl _) _
      have HW5 := Lib.hid hw5
      have K5 := Lib.hid (K4.out.trans (k5.mono K4.out.size))
      have C5 := Lib.hid (C4.out.below k5)
      obtain ⟨p, hp⟩ : ∃ p, p = w4.heap.size := ⟨_, rfl⟩
      have HP := Lib.hid hp
      have HZP := Lib.hid (show Z < p ∧ p < w5.heap.size from ⟨by rw [hp]; exact heap_lt C4.out, by rw [hp]; exact heap_lt P5⟩)
      rw [← hp] at P5
      have P5 := Lib.hid P5
      clear k5 hw5 hp K4 C4
      go_upto_region 11 with (fail)
      rw [← HW5.out, ← HP.out]
      clear HW5
      go_wp2_with fail
      refine (hop.out w5).mono ?_
      rintro e w6 ⟨⟨⟨ia, ic, rfl, hic, hX⟩, k6⟩, hnew⟩
      have K6 := Lib.hid (K5.out.trans (k6.mono K5.out.size))
      have C6 := Lib.hid (C5.out.below k6)
      have P6 := Lib.hid (P5.out.below k6)
      obtain ⟨z, hz⟩ : ∃ z, z = (opnS x).1 := ⟨_, rfl⟩
      obtain ⟨X, hXd⟩ : ∃ X, X = (opnS x).2 := ⟨_, rfl⟩
      obtain ⟨il, hil⟩ : ∃ il, il = X.length := ⟨_, rfl⟩
      rw [← hXd, ← hil] at hnew hX hic
      rw [← hXd, ← hz] at HO1
      rw [← hz, ← hXd, ← hil]
      rw [← hz] at hnew
      have hilX := Lib.hid hil
      have hil6 : il ≤ 65536 := by rw [hil, hXd]; exact opnS_few x
      have HIA := Lib.hid (show ∀ b off, ia = some ⟨b, off, none⟩ → b ≠ p from fun b off e => by
        have := hnew b off il ic _ (by rw [e])
        have := HZP.out.2
        omega)
      have HIB := Lib.hid (show ∀ b off, ia = some ⟨b, off, none⟩ → w5.heap.size ≤ b from fun b off e => hnew b off il ic _ (by rw [e]))
      have HSM := Lib.hid (show z = 0 → smallE X from fun h0 => by rw [hXd]; exact smallE_of ((chkE_ok _).1 (pack_open (by rw [← hz]; exact h0)).1).1)
      have o7 := (Only.refl (fun k => k = p) w6).setCell (p := ⟨p, 1, none⟩) (.inl rfl) (.slice ia il ic)
      have P7 := Lib.hid (show C7 p 45 (.string (bs s)) (.slice ia il ic) (.slice none 0 0) (.slice none 0 0) (.int .i64 0) (.slice none 0 0) (.int .i64 (c : Int)) (w6.setCell ⟨p, 1, none⟩ (.slice ia il ic)) from heap_set (o := 1) P6.out _)
      have X7 := Lib.hid (hX.only HIA.out o7)
      have C7' := Lib.hid (c7_only C6.out o7 (by have := HZP.out; omega))
      have K7 := Lib.hid (K6.out.setCell (p := ⟨p, 1, none⟩) (by show w.heap.size ≤ p; have := HZP.out; have := HZ0.out; omega) (.slice ia il ic))
      obtain ⟨u0, u1, u2, u3, u4, u5, u6⟩ := P6.out.c0
      have uf := P6.out.free
      clear k6 hnew hX o7 hz hXd hil P5 C5 K5 hop
      go_upto_region 12 with (fail)
      generalize w6.setCell ⟨p, 1, none⟩ (.slice ia il ic) = w7 at *
      clear u0 u1 u2 u3 u4 u5 u6 uf P6 C6 K6
      by_cases hz0 : z = 0
      · subst hz0
        have hHO2 := HO1.out; rw [if_neg (fun h => h rfl)] at hHO2; have HO2 := Lib.hid hHO2; clear hHO2
        have SM := Lib.hid (HSM.out rfl)
        clear HO1 HSM hic
        have R7 := Lib.hid (show RT w7 w7.heap.size p s (.slice ia il ic) (.slice none 0 0) (.slice none 0 0) (.int .i64 0) (.slice none 0 0) [] [] (c : Int) from ⟨P7.out, OwnN.nil _ _, OwnN.nil _ _, fun g h => by simp [Value.ownBlock] at h⟩)
        obtain ⟨D, hD⟩ : ∃ D, D = w7.heap.size := ⟨_, rfl⟩
        rw [← hD] at R7
        have HD := Lib.hid hD
        obtain ⟨j0, hj, hy0, hy1, hy2⟩ := info_parts infoInt9
        have HI := Lib.hid (And.intro hj (And.intro hy0 (And.intro hy1 hy2)))
        clear hD hj hy0 hy1 hy2
        go_wp2_with fail
        go_loopw [10, 11] (fun ev iv wr => ∃ (i nn : Nat) (Q : List (Nat × Nat)) (av sv : Value), i ≤ il ∧ iv = .int .i64 (i : Int) ∧ ev = .int .i64 (nn : Int) ∧ Hid (At9 a X i nn Q) ∧ Hid (RT wr D p s (.slice ia il ic) av sv (.int .i64 0) (.slice none 0 0) (Q.map (·.1)) (Q.map (·.2)) (c : Int)) ∧ Hid (Only (fun k => k = p) w7 wr)) (fun ev iv wr => il - (intOf iv).toNat)
        case atStart => exact ⟨0, 0, [], _, _, Nat.zero_le _, rfl, rfl, Lib.hid (At9.start a X), R7, Lib.hid (Only.refl _ _)⟩
        case round =>
          obtain ⟨i, nn, Q, av, sv, hi, rfl, rfl, hA, hR, hOn⟩ := hrel
          have XW := Lib.hid (X7.out.only HIA.out hOn.out)
          have CW := Lib.hid (c7_only C7'.out hOn.out (by have := HZP.out; omega))
          have KW := Lib.hid (K7.out.trans (hOn.out.below (B := w.heap.size) (fun k _ hk => by rw [hk]; have := HZP.out; have := HZ0.out; omega) K7.out.size))
          have g1 : wr.cell? ⟨p, 1, none⟩ = some (.slice ia il ic) := by simp [World.cell?, hR.out.box]
          have hnn := hA.out.le
          have hnn2 : (nn : Int) ≤ (a : Int) := by omega
          rcases Nat.lt_or_ge i il with hlt | hge
          · obtain ⟨b1, off1, xe, hia, hxe, _, hcell⟩ := XW.out.at hlt
            subst hia
            have hlt2 : (i : Int) < (il : Int) := by omega
            obtain ⟨v, hv⟩ : ∃ v, v = xe.val := ⟨_, rfl⟩
            have d1 := hcell.c1
            rw [← hv] at d1
            obtain ⟨vl, hvl⟩ : ∃ vl, vl = v.length := ⟨_, rfl⟩
            have hvz : (bs v).size = vl := by rw [bs_size, hvl]
            have hvl2 : vl ≤ 65536 := by rw [hvl, hv]; exact (SM.out xe (List.mem_of_getElem? hxe)).2
            have RC1 := Lib.hid (fun W : World => ref_ReadCount (bs v) W (by rw [hvz]; unfold maxLen; omega))
            rw [bs_list] at RC1
            have HV := Lib.hid (And.intro hv hvl)
            have HXE := Lib.hid hxe
            clear hv hvl hxe hcell
            rcases cd_cases v with ⟨c0, ck1, ck2, c3, c4, _, _, _⟩ | ⟨cbad, cn0, ck0⟩
            · obtain ⟨q1, hq1⟩ : ∃ q1 : Nat, cn v = (q1 : Int) := ⟨(cn v).toNat, by omega⟩
              have hq1b : (q1 : Int) ≤ 9223372036854775807 := by omega
              obtain ⟨kk, hkk⟩ : ∃ kk, kk = ck v := ⟨_, rfl⟩
              obtain ⟨v2, hv2⟩ : ∃ v2, v2 = v.drop kk := ⟨_, rfl⟩
              have hkv : kk ≤ vl := by rw [hkk, HV.out.2]; exact ck2
              have hkv2 : (kk : Int) ≤ (vl : Int) := by omega
              have hexv : (bs v).extract kk vl = bs v2 := by
                have := (take_split (s := bs v) (n := kk) (by rw [hvz]; exact hkv)).2
                rw [hvz, bs_list] at this
                rw [hv2]; exact this
              have hv2l : v2.length ≤ 65536 := by rw [hv2, List.length_drop, ← HV.out.2]; omega
              have RC2 := Lib.hid (fun W : World => ref_ReadCount (bs v2) W (by rw [bs_size]; unfold maxLen; omega))
              rw [bs_list] at RC2
              rw [c0, hq1, ← hkk] at RC1
              have hP0 : pieceE v nn a = if ce v2 ≠ 0 then ce v2 else if kk + ck v2 < vl ∨ (q1 : Int) ≠ (nn : Int) ∨ cn v2 > (a : Int) - (q1 : Int) then 3 else 0 := by
                unfold pieceE
                rw [if_neg (by rw [c0]; simp), ← hkk, ← hv2, hq1, HV.out.2]
              have HP0 := Lib.hid hP0
              have HV2 := Lib.hid (And.intro hv2 (And.intro hkk hq1))
              clear hP0 hv2 hkk hq1 c0 ck1 ck2 c3 c4
              rcases cd_cases v2 with ⟨e0, ek1, ek2, e3, e4, _, _, _⟩ | ⟨ebad, en0, ek0⟩
              · obtain ⟨q2, hq2⟩ : ∃ q2 : Nat, cn v2 = (q2 : Int) := ⟨(cn v2).toNat, by omega⟩
                have hq2b : (q2 : Int) ≤ 9223372036854775807 := by omega
                obtain ⟨mm, hmm⟩ : ∃ mm, mm = ck v2 := ⟨_, rfl⟩
                have hmm2 : mm ≤ 65536 := by omega
                rw [e0, hq2, ← hmm] at RC2
                have HP1 := Lib.hid (show pieceE v nn a = if kk + mm < vl ∨ (q1 : Int) ≠ (nn : Int) ∨ (q2 : Int) > (a : Int) - (q1 : Int) then 3 else 0 from by rw [HP0.out, if_neg (by rw [e0]; simp), hq2, hmm])
                have HQ2 := Lib.hid (And.intro hq2 hmm)
                clear HP0 e0 ek1 ek2 e3 e4 hq2 hmm
                go_wp2_with fail
                refine (RC1.out wr).mono ?_
                rintro e w8 ⟨rfl, rfl⟩
                go_wp2_with fail
                refine (RC2.out wr).mono ?_
                rintro e w8 ⟨rfl, rfl⟩
                by_cases hk1 : kk + mm < vl
                · have hk1' : (kk : Int) + (mm : Int) < (vl : Int) := by omega
                  have hz3 := Lib.hid (show pieceE v nn a = 3 by rw [HP1.out, if_pos (.inl hk1)])
                  have HOB := Lib.hid (show openTab s = (3, noTab) from by
                    have hp1 := hA.out.bad HXE.out (show pieceE xe.val nn a ≠ 0 by rw [← HV.out.1, hz3.out]; exact (by decide))
                    rw [← HV.out.1, hz3.out] at hp1
                    have hi1 : idxZ X a c = 3 := by unfold idxZ; rw [if_pos (by rw [hp1]; exact (by decide)), hp1]
                    have := HO2.out
                    rw [if_pos (by rw [hi1]; exact (by decide)), hi1] at this
                    exact this)
                  obtain ⟨r0, r1, r2, r3, r4, r5, r6⟩ := CW.out.c0
                  have rf := CW.out.free
                  go_wp2_with fail
                  refine bodyPost_ret (results_c7 rfl _ _ Z _ _ _ _ _ _ _ _ _ rfl rfl (CW.out.put _ _ _ _ _ _ _) Tryz.underlying45 rfl sizeTab) rfl ?_
                  exact ROpenTab.bad HOB.out (by decide) (below_put7 KW.out HZ0.out _ _ _ _ _ _ _)
                · have hk1' : ¬ ((kk : Int) + (mm : Int) < (vl : Int)) := by omega
                  by_cases hk2 : q1 = nn
                  · subst hk2
                    by_cases hk3 : (q2 : Int) ≤ (a : Int) - (q1 : Int)
                    · have hz0 := Lib.hid (show pieceE v q1 a = 0 by rw [HP1.out, if_neg (by rintro (h | h | h); (exact hk1 h); (exact h rfl); (omega))])
                      have HNX := Lib.hid (hA.out.next HXE.out (by rw [← HV.out.1]; exact hz0.out))
                      rw [← HV.out.1, ← HV2.out.2.1, ← HV2.out.1, HQ2.out.1, Int.toNat_natCast] at HNX
                      have hqa : q1 + q2 ≤ a := by omega
                      obtain ⟨aa, ac, hav⟩ := hR.out.at'.slice
                      obtain ⟨sa, sc, hsv⟩ := hR.out.size.slice
                      rw [List.length_map, hA.out.len] at hav hsv
                      have g2 : wr.cell? ⟨p, 2, none⟩ = some (.slice aa i ac) := by rw [← hav]; simp [World.cell?, hR.out.box]
                      have OA := Lib.hid (show OffRow wr D 3 1 (.slice aa i ac) i (ncells (Q.map (·.1))) from by have := hR.out.at'; rw [hav] at this; unfold OwnN at this; rw [List.length_map, hA.out.len] at this; exact this)
                      have HAV := Lib.hid (And.intro hav hsv)
                      have hDw := Lib.hid (show D ≤ wr.heap.size by rw [HD.out]; exact hOn.out.size)
                      obtain ⟨hj, hy0, hy1, hy2⟩ := HI.out
                      clear hav hsv
                      go_wp2_with (at_builtin; refine wpList_append_off rfl (.tmp 126) (.tmp 128) 40 rfl D 3 j0 _ 1 8 Tryz.underlying40 hj hy0 hy1 hy2 rfl (.slice aa i ac) i (ncells (Q.map (·.1))) rfl ?c1 (.slice (some ⟨wr.heap.size, 0, none⟩) 1 1) rfl 1 [.int .i64 (q1 : Int)] ?c2 ?c3 ?c4 ?c5 ?_)
                      case c1 => exact OA.out.allocd _
                      case c2 => exact src_block (size := 1) (cs := #[.int .i64 (q1 : Int)]) Tryz.underlying40 (heap_new _ _) 1 1 rfl (by intro u hu; simp at hu; subst hu; rfl)
                      case c3 => unfold maxLen; omega
                      case c4 => omega
                      case c5 => have := hDw.out; simp; omega
                      intro v5 w5 hr5 hg5 hat5
                      obtain ⟨a5, c5, hv5⟩ := OffRow.slice hr5
                      have hRa := hR.out.below ((Below.refl _ wr).alloc (Nat.le_refl _) (.cells #[.int .i64 (q1 : Int)] 3))
                      rw [HAV.out.1] at hRa
                      have hO5 : OwnN w5 D v5 ((Q ++ [(q1, q2)]).map (·.1)) := by
                        unfold OwnN
                        rw [List.length_map, List.length_append, hA.out.len, List.map_append, List.map_cons, List.map_nil, ncells_snoc]
                        exact hr5
                      have R5 := Lib.hid (hRa.addAt hg5 hO5 (hat5.imp_right fun h => h.trans (by simp)))
                      have bx5 : w5.heap[p]? = _ := (hg5.block p (heap_lt hRa.box) fun e => hRa.off hRa.at' p e.symm rfl).trans hRa.box
                      have s2 : w5.cell? ⟨p, 2, none⟩ = some (.slice aa i ac) := by simp [World.cell?, bx5]
                      have sf2 : w5.frozen? ⟨p, 2, none⟩ = false := by simp [World.frozen?, bx5]
                      have O5 := Lib.hid (((hOn.out.alloc (.cells #[.int .i64 (q1 : Int)] 3)).grown hg5 (fun j hj => .inr (by rw [← HD.out]; exact (OffRow.lt OA.out j hj).1))).setCell (p := ⟨p, 2, none⟩) (.inl rfl) v5)
                      subst hv5
                      clear hr5 hg5 hat5 hRa hO5 bx5 g2
                      go_upto_region 29 with (fail)
                      generalize w5.setCell ⟨p, 2, none⟩ (.slice a5 (i + 1) c5) = w6 at *
                      clear s2 sf2 OA
                      have g3 : w6.cell? ⟨p, 3, none⟩ = some (.slice sa i sc) := by rw [← HAV.out.2]; simp [World.cell?, R5.out.box]
                      have OS := Lib.hid (show OffRow w6 D 3 1 (.slice sa i sc) i (ncells (Q.map (·.2))) from by have := R5.out.size; rw [HAV.out.2] at this; unfold OwnN at this; rw [List.length_map, hA.out.len] at this; exact this)
                      have hDw6 := Lib.hid (show D ≤ w6.heap.size by rw [HD.out]; exact O5.out.size)
                      go_wp2_with (at_builtin; refine wpList_append_off rfl (.tmp 132) (.tmp 134) 40 rfl D 3 j0 _ 1 8 Tryz.underlying40 hj hy0 hy1 hy2 rfl (.slice sa i sc) i (ncells (Q.map (·.2))) rfl ?c1 (.slice (some ⟨w6.heap.size, 0, none⟩) 1 1) rfl 1 [.int .i64 (q2 : Int)] ?c2 ?c3 ?c4 ?c5 ?_)
                      case c1 => exact OS.out.allocd _
                      case c2 => exact src_block (size := 1) (cs := #[.int .i64 (q2 : Int)]) Tryz.underlying40 (heap_new _ _) 1 1 rfl (by intro u hu; simp at hu; subst hu; rfl)
                      case c3 => unfold maxLen; omega
                      case c4 => omega
                      case c5 => have := hDw6.out; simp; omega
                      intro v9 w9 hr9 hg9 hat9
                      obtain ⟨a9, c9, hv9⟩ := OffRow.slice hr9
                      have hRb := R5.out.below ((Below.refl _ w6).alloc (Nat.le_refl _) (.cells #[.int .i64 (q2 : Int)] 3))
                      rw [HAV.out.2] at hRb
                      have hO9 : OwnN w9 D v9 ((Q ++ [(q1, q2)]).map (·.2)) := by
                        unfold OwnN
                        rw [List.length_map, List.length_append, hA.out.len, List.map_append, List.map_cons, List.map_nil, ncells_snoc]
                        exact hr9
                      have R9 := Lib.hid (hRb.addSize hg9 hO9 (hat9.imp_right fun h => h.trans (by simp)))
                      have bx9 : w9.heap[p]? = _ := (hg9.block p (heap_lt hRb.box) fun e => hRb.off hRb.size p e.symm rfl).trans hRb.box
                      have s3 : w9.cell? ⟨p, 3, none⟩ = some (.slice sa i sc) := by simp [World.cell?, bx9]
                      have sf3 : w9.frozen? ⟨p, 3, none⟩ = false := by simp [World.frozen?, bx9]
                      have O9 := Lib.hid (((O5.out.alloc (.cells #[.int .i64 (q2 : Int)] 3)).grown hg9 (fun j hj => .inr (by rw [← HD.out]; exact (OffRow.lt OS.out j hj).1))).setCell (p := ⟨p, 3, none⟩) (.inl rfl) v9)
                      subst hv9
                      clear hr9 hg9 hat9 hRb hO9 bx9 g3 OS hj hy0 hy1 hy2
                      go_wp2_with fail
                      go_roundw
                      case rel => exact ⟨i + 1, q1 + q2, Q ++ [(q1, q2)], _, _, by omega, by go_num, by go_num, HNX, R9, O9⟩
                      case measure => simp [intOf]; omega
                    · have hk3' : (a : Int) - (q1 : Int) < (q2 : Int) := by omega
                      have hz3 := Lib.hid (show pieceE v q1 a = 3 by rw [HP1.out, if_pos (.inr (.inr (by omega)))])
                      have HOB := Lib.hid (show openTab s = (3, noTab) from by
                        have hp1 := hA.out.bad HXE.out (show pieceE xe.val q1 a ≠ 0 by rw [← HV.out.1, hz3.out]; exact (by decide))
                        rw [← HV.out.1, hz3.out] at hp1
                        have hi1 : idxZ X a c = 3 := by unfold idxZ; rw [if_pos (by rw [hp1]; exact (by decide)), hp1]
                        have := HO2.out
                        rw [if_pos (by rw [hi1]; exact (by decide)), hi1] at this
                        exact this)
                      obtain ⟨r0, r1, r2, r3, r4, r5, r6⟩ := CW.out.c0
                      have rf := CW.out.free
                      go_wp2_with fail
                      refine bodyPost_ret (results_c7 rfl _ _ Z _ _ _ _ _ _ _ _ _ rfl rfl (CW.out.put _ _ _ _ _ _ _) Tryz.underlying45 rfl sizeTab) rfl ?_
                      exact ROpenTab.bad HOB.out (by decide) (below_put7 KW.out HZ0.out _ _ _ _ _ _ _)
                  · have hk2' : ((q1 : Int) == (nn : Int)) = false := beq_eq_false_iff_ne.2 (by omega)
                    have hz3 := Lib.hid (show pieceE v nn a = 3 by rw [HP1.out, if_pos (.inr (.inl (by omega)))])
                    have HOB := Lib.hid (show openTab s = (3, noTab) from by
                      have hp1 := hA.out.bad HXE.out (show pieceE xe.val nn a ≠ 0 by rw [← HV.out.1, hz3.out]; exact (by decide))
                      rw [← HV.out.1, hz3.out] at hp1
                      have hi1 : idxZ X a c = 3 := by unfold idxZ; rw [if_pos (by rw [hp1]; exact (by decide)), hp1]
                      have := HO2.out
                      rw [if_pos (by rw [hi1]; exact (by decide)), hi1] at this
                      exact this)
                    obtain ⟨r0, r1, r2, r3, r4, r5, r6⟩ := CW.out.c0
                    have rf := CW.out.free
                    go_wp2_with fail
                    refine bodyPost_ret (results_c7 rfl _ _ Z _ _ _ _ _ _ _ _ _ rfl rfl (CW.out.put _ _ _ _ _ _ _) Tryz.underlying45 rfl sizeTab) rfl ?_
                    exact ROpenTab.bad HOB.out (by decide) (below_put7 KW.out HZ0.out _ _ _ _ _ _ _)
              · obtain ⟨z2, hz2⟩ : ∃ z2, z2 = ce v2 := ⟨_, rfl⟩
                have hz2n : z2 ≠ 0 := by omega
                have hz2b : (z2 == 0) = false := beq_eq_false_iff_ne.2 hz2n
                have hzz := Lib.hid (show pieceE v nn a = z2 by rw [HP0.out, if_pos (by rw [← hz2]; exact hz2n), hz2])
                have HZ2 := Lib.hid hz2n
                rw [← hz2, en0, ek0] at RC2
                clear hz2 hz2n ebad en0 ek0 HP0
                go_wp2_with fail
                refine (RC1.out wr).mono ?_
                rintro e w8 ⟨rfl, rfl⟩
                go_wp2_with fail
                refine (RC2.out wr).mono ?_
                rintro e w8 ⟨rfl, rfl⟩
                have HOB := Lib.hid (show openTab s = (z2, noTab) from by
                  have hp1 := hA.out.bad HXE.out (show pieceE xe.val nn a ≠ 0 by rw [← HV.out.1, hzz.out]; exact HZ2.out)
                  rw [← HV.out.1, hzz.out] at hp1
                  have hi1 : idxZ X a c = z2 := by unfold idxZ; rw [if_pos (by rw [hp1]; exact HZ2.out), hp1]
                  have := HO2.out
                  rw [if_pos (by rw [hi1]; exact HZ2.out), hi1] at this
                  exact this)
                obtain ⟨r0, r1, r2, r3, r4, r5, r6⟩ := CW.out.c0
                have rf := CW.out.free
                go_wp2_with fail
                refine bodyPost_ret (results_c7 rfl _ _ Z _ _ _ _ _ _ _ _ _ rfl rfl (CW.out.put _ _ _ _ _ _ _) Tryz.underlying45 rfl sizeTab) rfl ?_
                exact ROpenTab.bad HOB.out HZ2.out (below_put7 KW.out HZ0.out _ _ _ _ _ _ _)
            · obtain ⟨z1, hz1⟩ : ∃ z1, z1 = ce v := ⟨_, rfl⟩
              have hz1n : z1 ≠ 0 := by omega
              have hz1b : (z1 == 0) = false := beq_eq_false_iff_ne.2 hz1n
              have hzz := Lib.hid (show pieceE v nn a = z1 by unfold pieceE; rw [if_pos (by rw [← hz1]; exact hz1n), hz1])
              have HZ1 := Lib.hid hz1n
              rw [← hz1, cn0, ck0] at RC1
              clear hz1 hz1n cbad cn0 ck0
              go_wp2_with fail
              refine (RC1.out wr).mono ?_
              rintro e w8 ⟨rfl, rfl⟩
              have HOB := Lib.hid (show openTab s = (z1, noTab) from by
                have hp1 := hA.out.bad HXE.out (show pieceE xe.val nn a ≠ 0 by rw [← HV.out.1, hzz.out]; exact HZ1.out)
                rw [← HV.out.1, hzz.out] at hp1
                have hi1 : idxZ X a c = z1 := by unfold idxZ; rw [if_pos (by rw [hp1]; exact HZ1.out), hp1]
                have := HO2.out
                rw [if_pos (by rw [hi1]; exact HZ1.out), hi1] at this
                exact this)
              obtain ⟨r0, r1, r2, r3, r4, r5, r6⟩ := CW.out.c0
              have rf := CW.out.free
              go_wp2_with fail
              refine bodyPost_ret (results_c7 rfl _ _ Z _ _ _ _ _ _ _ _ _ rfl rfl (CW.out.put _ _ _ _ _ _ _) Tryz.underlying45 rfl sizeTab) rfl ?_
              exact ROpenTab.bad HOB.out HZ1.out (below_put7 KW.out HZ0.out _ _ _ _ _ _ _)
          · have hie : i = il := by omega
            subst hie
            have hfin := At9.fin (show At9 a X X.length nn Q from by rw [← hilX.out]; exact hA.out)
            have g6 : wr.cell? ⟨p, 6, none⟩ = some (.int .i64 (c : Int)) := by simp [World.cell?, hR.out.box]
            have hemp : X.isEmpty = decide (i = 0) := by
              rw [hilX.out]
              cases X with
              | nil => rfl
              | cons y Y => simp
            have HFIN := Lib.hid hfin
            have HEMP := Lib.hid hemp
            clear hfin hemp hge hi
            by_cases hna : nn = a
            · have hna' : ((nn : Int) == (a : Int)) = true := by rw [hna]; exact beq_self_eq_true _
              have HPL := Lib.hid (show (placesL a 0 X).1 = 0 by rw [HFIN.out.1, if_pos hna])
              have HQP := Lib.hid (HFIN.out.2 hna)
              have hna2 := hna.symm
              clear hna' hna
              subst hna2
              by_cases hi0 : i = 0
              · have hi0' : ((i : Int) == 0) = true := by rw [hi0]; rfl
                have hi0q : (i : Int) = 0 := by rw [hi0]; rfl
                have hi0p : decide ((0 : Int) < (i : Int)) = false := decide_eq_false (by omega)
                by_cases hc0 : c = 0
                · have hc0p : decide ((0 : Int) < (c : Int)) = false := decide_eq_false (by omega)
                  have HI0 := Lib.hid (show idxZ X a c = 0 by unfold idxZ; rw [if_neg (by rw [HPL.out]; simp), if_neg (by rw [HEMP.out, hi0, hc0]; simp)])
                  have hHOT := HO2.out; rw [if_neg (fun h => h HI0.out)] at hHOT; have HOT := Lib.hid hHOT; clear hHOT
                  obtain ⟨y, hy⟩ : ∃ y, y = (s.take n).drop b := ⟨_, rfl⟩
                  have hexy : (bs s).extract b n = bs y := by
                    rw [hy]
                    exact bs_eq (by rw [Lib.extract_data]; rw [bs_list]; exact List.drop_take.symm)
                  have hyl : y.length ≤ 200000 := by rw [hy, List.length_drop, List.length_take]; omega
                  rw [← hy] at HOT
                  have TKY := Lib.hid (fun W : World => ref_Take (bs y) W (by rw [bs_size]; omega))
                  rw [bs_list] at TKY
                  obtain ⟨aa, ac, hav⟩ := hR.out.at'.slice
                  obtain ⟨sa, sc, hsv⟩ := hR.out.size.slice
                  rw [List.length_map, hA.out.len] at hav hsv
                  subst hav
                  subst hsv
                  clear hy
                  go_wp2_with fail
                  refine (TKY.out wr).mono ?_
                  rintro e w8 ⟨rfl, k8⟩
                  try clear hi0'
                  try clear hi0p
                  try clear hi0q
                  try clear hc0p
                  try clear hc0'
                  try clear hc0q
                  clear hi0 hc0
                  have R8 := Lib.hid (hR.out.below k8)
                  have C8 := Lib.hid (CW.out.below k8)
                  have X8 := Lib.hid (XW.out.below k8)
                  have K8 := Lib.hid (KW.out.trans (k8.mono KW.out.size))
                  have hq8 := Lib.hid (show p < w8.heap.size from heap_lt R8.out.box)
                  clear k8 TKY g1 g6
                  by_cases hy0 : takeE y = 0
                  · rw [hy0]
                    have hHOU := HOT.out; rw [if_neg (fun h => h hy0)] at hHOU; have HOU := Lib.hid hHOU; clear hHOU
                    obtain ⟨q, hq⟩ : ∃ q, q = takeT y := ⟨_, rfl⟩
                    rw [← hq] at HOU ⊢
                    have hql : q.length ≤ 200000 := by have := take_len hy0; rw [hq]; omega
                    have ROQ := Lib.hid (fun W : World => ref_Open (bs q) W (by rw [bs_size]; omega))
                    rw [bs_list] at ROQ
                    clear hq hy0
                    go_wp2_with fail
                    refine (ROQ.out w8).mono ?_
                    rintro e w9 ⟨k9, hcase⟩
                    have R9 := Lib.hid (R8.out.below k9)
                    have C9 := Lib.hid (C8.out.below k9)
                    have X9 := Lib.hid (X8.out.below k9)
                    have K9 := Lib.hid (K8.out.trans (k9.mono K8.out.size))
                    obtain ⟨t0, t1, t2, t3, t4, t5, t6⟩ := (show C7 p 45 _ _ _ _ _ _ _ w9 from R9.out.box).c0
                    have tf := (show C7 p 45 _ _ _ _ _ _ _ w9 from R9.out.box).free
                    clear k9 ROQ
                    rcases hcase with ⟨hz, rfl⟩ | ⟨hz, g, cap, hg, rfl, hrow⟩
                    · obtain ⟨z, hzd⟩ : ∃ z, z = openE q := ⟨_, rfl⟩
                      rw [← hzd] at hz ⊢
                      have HOB := Lib.hid (show openTab s = (z, noTab) from by have := HOU.out; rw [← hzd, if_pos hz] at this; exact this)
                      have hzb : (z == 0) = false := beq_eq_false_iff_ne.2 hz
                      have HZZ := Lib.hid hz
                      have o10 := ((Only.refl (fun k => k = p) w9).setCell (p := ⟨p, 4, none⟩) (.inl rfl) (.int .i64 0)).setCell (p := ⟨p, 5, none⟩) (.inl rfl) (.slice none 0 0)
                      have C10 := Lib.hid (c7_only C9.out o10 (by have := HZP.out; omega))
                      have K10 := Lib.hid (K9.out.trans (o10.below (B := w.heap.size) (fun k _ hk => by rw [hk]; have := HZP.out; have := HZ0.out; omega) K9.out.size))
                      unfold noF
                      clear hz hzd o10
                      go_upto_region 36 with (fail)
                      generalize (w9.setCell ⟨p, 4, none⟩ (.int .i64 0)).setCell ⟨p, 5, none⟩ (.slice none 0 0) = w10 at *
                      clear t0 t1 t2 t3 t4 t5 t6 tf
                      obtain ⟨r0, r1, r2, r3, r4, r5, r6⟩ := C10.out.c0
                      have rf := C10.out.free
                      go_wp2_with fail
                      refine bodyPost_ret (results_c7 rfl _ _ Z _ _ _ _ _ _ _ _ _ rfl rfl (C10.out.put _ _ _ _ _ _ _) Tryz.underlying45 rfl sizeTab) rfl ?_
                      exact ROpenTab.bad HOB.out HZZ.out (below_put7 K10.out HZ0.out _ _ _ _ _ _ _)
                    · have HOV := Lib.hid (show openTab s = (0, ⟨s, X, Q, openH q, openT q, c⟩) from by have := HOU.out; rw [if_neg (fun h => h hz), HQP.out] at this; exact this)
                      obtain ⟨hh, hhd⟩ : ∃ hh, hh = openH q := ⟨_, rfl⟩
                      obtain ⟨bits, hbd⟩ : ∃ bits, bits = openT q := ⟨_, rfl⟩
                      rw [← hhd, ← hbd] at HOV
                      rw [← hbd] at hrow
                      rw [← hhd, ← hbd]
                      have HRW := Lib.hid hrow
                      have hgg := Lib.hid hg
                      have o10 := ((Only.refl (fun k => k = p) w9).setCell (p := ⟨p, 4, none⟩) (.inl rfl) (.int .i64 (hh : Int))).setCell (p := ⟨p, 5, none⟩) (.inl rfl) (.slice (some ⟨g, 0, none⟩) (8 * bits.length) cap)
                      have C10 := Lib.hid (c7_only C9.out o10 (by have := HZP.out; omega))
                      have K10 := Lib.hid (K9.out.trans (o10.below (B := w.heap.size) (fun k _ hk => by rw [hk]; have := HZP.out; have := HZ0.out; omega) K9.out.size))
                      have P10 := Lib.hid (show C7 p 45 (.string (bs s)) (.slice ia i ic) (.slice aa i ac) (.slice sa i sc) (.int .i64 (hh : Int)) (.slice (some ⟨g, 0, none⟩) (8 * bits.length) cap) (.int .i64 (c : Int)) ((w9.setCell ⟨p, 4, none⟩ (.int .i64 (hh : Int))).setCell ⟨p, 5, none⟩ (.slice (some ⟨g, 0, none⟩) (8 * bits.length) cap)) from heap_set (o := 5) (heap_set (o := 4) R9.out.box _) _)
                      have O10 := Lib.hid o10
                      unfold fv
                      clear hz hg hrow hhd hbd o10
                      go_upto_region 38 with (fail)
                      generalize hw10 : (w9.setCell ⟨p, 4, none⟩ (.int .i64 (hh : Int))).setCell ⟨p, 5, none⟩ (.slice (some ⟨g, 0, none⟩) (8 * bits.length) cap) = w10 at *
                      have HW10 := Lib.hid hw10
                      clear t0 t1 t2 t3 t4 t5 t6 tf hw10
                      obtain ⟨t0, t1, t2, t3, t4, t5, t6⟩ := P10.out.c0
                      have tf := P10.out.free
                      obtain ⟨r0, r1, r2, r3, r4, r5, r6⟩ := C10.out.c0
                      have rf := C10.out.free
                      go_wp2_with fail
                      refine bodyPost_ret (results_c7 rfl _ _ Z _ _ _ _ _ _ _ _ _ rfl rfl (C10.out.put _ _ _ _ _ _ _) Tryz.underlying45 rfl sizeTab) rfl ?_
                      have oz := only_put7 w10 Z (.string (bs s)) (.slice ia i ic) (.slice aa i ac) (.slice sa i sc) (.int .i64 (hh : Int)) (.slice (some ⟨g, 0, none⟩) (8 * bits.length) cap) (.int .i64 (c : Int))
                      have rk : ∀ (L : List Nat) (v : Value), OwnN w9 D v L → OwnN w10 D v L := fun L v ho => OffRow.kept ho fun j hj => O10.out.block j (OffRow.lt ho j hj).2 (by have := (OffRow.lt ho j hj).1; have := HZP.out; have := K7.out.size; have h7 := P7.out; have := heap_lt h7; rw [HD.out] at *; omega)
                      have rz : ∀ (L : List Nat) (v : Value), OwnN w10 D v L → OwnN _ D v L := fun L v ho => OffRow.kept ho fun j hj => oz.block j (OffRow.lt ho j hj).2 (by have := (OffRow.lt ho j hj).1; have := HZP.out; have h7 := P7.out; have := heap_lt h7; rw [HD.out] at *; omega)
                      have hX10 := X9.out.only HIA.out O10.out
                      have hXz := hX10.only (p := Z) (fun b off e => by have := HIB.out b off e; have := HZP.out; omega) oz
                      have hRz : RowB g (bitAt bits) (8 * bits.length) _ := (HRW.out.only O10.out (by have := hgg.out; have := hq8.out; omega)).only oz (by have := hgg.out; have := hq8.out; have := HZP.out; omega)
                      have hD9 : w.heap.size ≤ D := by rw [HD.out]; exact K7.out.size
                      refine ROpenTab.good HOV.out ⟨hilX.out, by rw [hA.out.len], hXz, fun b off e => by have := HIB.out b off e; have := HZP.out; have := HZ0.out; omega, (rz _ _ (rk _ _ R9.out.at')).weak hD9, (rz _ _ (rk _ _ R9.out.size)).weak hD9, hRz, by have := hgg.out; have := K8.out.size; omega⟩ (below_put7 K10.out HZ0.out _ _ _ _ _ _ _)
                  · have HOB := Lib.hid (show openTab s = (takeE y, noTab) from by have := HOT.out; rw [if_pos hy0] at this; exact this)
                    obtain ⟨z, hz⟩ : ∃ z, z = takeE y := ⟨_, rfl⟩
                    rw [← hz] at HOB hy0 ⊢
                    have hzb : (z == 0) = false := beq_eq_false_iff_ne.2 hy0
                    have HZZ := Lib.hid hy0
                    clear hz hy0
                    obtain ⟨r0, r1, r2, r3, r4, r5, r6⟩ := C8.out.c0
                    have rf := C8.out.free
                    go_wp2_with fail
                    refine bodyPost_ret (results_c7 rfl _ _ Z _ _ _ _ _ _ _ _ _ rfl rfl (C8.out.put _ _ _ _ _ _ _) Tryz.underlying45 rfl sizeTab) rfl ?_
                    exact ROpenTab.bad HOB.out HZZ.out (below_put7 K8.out HZ0.out _ _ _ _ _ _ _)
                · have hc0p : (0 : Int) < (c : Int) := by omega
                  have HOB := Lib.hid (show openTab s = (3, noTab) from by
                    have hi1 : idxZ X a c = 3 := by unfold idxZ; rw [if_neg (by rw [HPL.out]; simp), if_pos (.inl ⟨by rw [HEMP.out, hi0]; rfl, by omega⟩)]
                    have := HO2.out
                    rw [if_pos (by rw [hi1]; decide), hi1] at this
                    exact this)
                  obtain ⟨r0, r1, r2, r3, r4, r5, r6⟩ := CW.out.c0
                  have rf := CW.out.free
                  go_wp2_with fail
                  refine bodyPost_ret (results_c7 rfl _ _ Z _ _ _ _ _ _ _ _ _ rfl rfl (CW.out.put _ _ _ _ _ _ _) Tryz.underlying45 rfl sizeTab) rfl ?_
                  exact ROpenTab.bad HOB.out (by decide) (below_put7 KW.out HZ0.out _ _ _ _ _ _ _)
              · have hi0' : ((i : Int) == 0) = false := beq_eq_false_iff_ne.2 (by omega)
                have hi0q : ¬ ((i : Int) = 0) := by omega
                have hi0p : (0 : Int) < (i : Int) := by omega
                by_cases hc0 : c = 0
                · have hc0' : ((c : Int) == 0) = true := by rw [hc0]; rfl
                  have hc0q : (c : Int) = 0 := by rw [hc0]; rfl
                  have HOB := Lib.hid (show openTab s = (3, noTab) from by
                    have hi1 : idxZ X a c = 3 := by unfold idxZ; rw [if_neg (by rw [HPL.out]; simp), if_pos (.inr ⟨by rw [HEMP.out]; exact decide_eq_false hi0, hc0⟩)]
                    have := HO2.out
                    rw [if_pos (by rw [hi1]; decide), hi1] at this
                    exact this)
                  obtain ⟨r0, r1, r2, r3, r4, r5, r6⟩ := CW.out.c0
                  have rf := CW.out.free
                  go_wp2_with fail
                  refine bodyPost_ret (results_c7 rfl _ _ Z _ _ _ _ _ _ _ _ _ rfl rfl (CW.out.put _ _ _ _ _ _ _) Tryz.underlying45 rfl sizeTab) rfl ?_
                  exact ROpenTab.bad HOB.out (by decide) (below_put7 KW.out HZ0.out _ _ _ _ _ _ _)
                · have hc0' : ((c : Int) == 0) = false := beq_eq_false_iff_ne.2 (by omega)
                  have hc0q : ¬ ((c : Int) = 0) := by omega
                  have HI0 := Lib.hid (show idxZ X a c = 0 by unfold idxZ; rw [if_neg (by rw [HPL.out]; simp), if_neg (by rw [HEMP.out, decide_eq_false hi0]; rintro (⟨h, _⟩ | ⟨_, h⟩); (cases h); (exact hc0 h))])
                  have hHOT := HO2.out; rw [if_neg (fun h => h HI0.out)] at hHOT; have HOT := Lib.hid hHOT; clear hHOT
                  obtain ⟨y, hy⟩ : ∃ y, y = (s.take n).drop b := ⟨_, rfl⟩
                  have hexy : (bs s).extract b n = bs y := by
                    rw [hy]
                    exact bs_eq (by rw [Lib.extract_data]; rw [bs_list]; exact List.drop_take.symm)
                  have hyl : y.length ≤ 200000 := by rw [hy, List.length_drop, List.length_take]; omega
                  rw [← hy] at HOT
                  have TKY := Lib.hid (fun W : World => ref_Take (bs y) W (by rw [bs_size]; omega))
                  rw [bs_list] at TKY
                  obtain ⟨aa, ac, hav⟩ := hR.out.at'.slice
                  obtain ⟨sa, sc, hsv⟩ := hR.out.size.slice
                  rw [List.length_map, hA.out.len] at hav hsv
                  subst hav
                  subst hsv
                  clear hy
                  go_wp2_with fail
                  refine (TKY.out wr).mono ?_
                  rintro e w8 ⟨rfl, k8⟩
                  try clear hi0'
                  try clear hi0p
                  try clear hi0q
                  try clear hc0p
                  try clear hc0'
                  try clear hc0q
                  clear hi0 hc0
                  have R8 := Lib.hid (hR.out.below k8)
                  have C8 := Lib.hid (CW.out.below k8)
                  have X8 := Lib.hid (XW.out.below k8)
                  have K8 := Lib.hid (KW.out.trans (k8.mono KW.out.size))
                  have hq8 := Lib.hid (show p < w8.heap.size from heap_lt R8.out.box)
                  clear k8 TKY g1 g6
                  by_cases hy0 : takeE y = 0
                  · rw [hy0]
                    have hHOU := HOT.out; rw [if_neg (fun h => h hy0)] at hHOU; have HOU := Lib.hid hHOU; clear hHOU
                    obtain ⟨q, hq⟩ : ∃ q, q = takeT y := ⟨_, rfl⟩
                    rw [← hq] at HOU ⊢
                    have hql : q.length ≤ 200000 := by have := take_len hy0; rw [hq]; omega
                    have ROQ := Lib.hid (fun W : World => ref_Open (bs q) W (by rw [bs_size]; omega))
                    rw [bs_list] at ROQ
                    clear hq hy0
                    go_wp2_with fail
                    refine (ROQ.out w8).mono ?_
                    rintro e w9 ⟨k9, hcase⟩
                    have R9 := Lib.hid (R8.out.below k9)
                    have C9 := Lib.hid (C8.out.below k9)
                    have X9 := Lib.hid (X8.out.below k9)
                    have K9 := Lib.hid (K8.out.trans (k9.mono K8.out.size))
                    obtain ⟨t0, t1, t2, t3, t4, t5, t6⟩ := (show C7 p 45 _ _ _ _ _ _ _ w9 from R9.out.box).c0
                    have tf := (show C7 p 45 _ _ _ _ _ _ _ w9 from R9.out.box).free
                    clear k9 ROQ
                    rcases hcase with ⟨hz, rfl⟩ | ⟨hz, g, cap, hg, rfl, hrow⟩
                    · obtain ⟨z, hzd⟩ : ∃ z, z = openE q := ⟨_, rfl⟩
                      rw [← hzd] at hz ⊢
                      have HOB := Lib.hid (show openTab s = (z, noTab) from by have := HOU.out; rw [← hzd, if_pos hz] at this; exact this)
                      have hzb : (z == 0) = false := beq_eq_false_iff_ne.2 hz
                      have HZZ := Lib.hid hz
                      have o10 := ((Only.refl (fun k => k = p) w9).setCell (p := ⟨p, 4, none⟩) (.inl rfl) (.int .i64 0)).setCell (p := ⟨p, 5, none⟩) (.inl rfl) (.slice none 0 0)
                      have C10 := Lib.hid (c7_only C9.out o10 (by have := HZP.out; omega))
                      have K10 := Lib.hid (K9.out.trans (o10.below (B := w.heap.size) (fun k _ hk => by rw [hk]; have := HZP.out; have := HZ0.out; omega) K9.out.size))
                      unfold noF
                      clear hz hzd o10
                      go_upto_region 36 with (fail)
                      generalize (w9.setCell ⟨p, 4, none⟩ (.int .i64 0)).setCell ⟨p, 5, none⟩ (.slice none 0 0) = w10 at *
                      clear t0 t1 t2 t3 t4 t5 t6 tf
                      obtain ⟨r0, r1, r2, r3, r4, r5, r6⟩ := C10.out.c0
                      have rf := C10.out.free
                      go_wp2_with fail
                      refine bodyPost_ret (results_c7 rfl _ _ Z _ _ _ _ _ _ _ _ _ rfl rfl (C10.out.put _ _ _ _ _ _ _) Tryz.underlying45 rfl sizeTab) rfl ?_
                      exact ROpenTab.bad HOB.out HZZ.out (below_put7 K10.out HZ0.out _ _ _ _ _ _ _)
                    · have HOV := Lib.hid (show openTab s = (0, ⟨s, X, Q, openH q, openT q, c⟩) from by have := HOU.out; rw [if_neg (fun h => h hz), HQP.out] at this; exact this)
                      obtain ⟨hh, hhd⟩ : ∃ hh, hh = openH q := ⟨_, rfl⟩
                      obtain ⟨bits, hbd⟩ : ∃ bits, bits = openT q := ⟨_, rfl⟩
                      rw [← hhd, ← hbd] at HOV
                      rw [← hbd] at hrow
                      rw [← hhd, ← hbd]
                      have HRW := Lib.hid hrow
                      have hgg := Lib.hid hg
                      have o10 := ((Only.refl (fun k => k = p) w9).setCell (p := ⟨p, 4, none⟩) (.inl rfl) (.int .i64 (hh : Int))).setCell (p := ⟨p, 5, none⟩) (.inl rfl) (.slice (some ⟨g, 0, none⟩) (8 * bits.length) cap)
                      have C10 := Lib.hid (c7_only C9.out o10 (by have := HZP.out; omega))
                      have K10 := Lib.hid (K9.out.trans (o10.below (B := w.heap.size) (fun k _ hk => by rw [hk]; have := HZP.out; have := HZ0.out; omega) K9.out.size))
                      have P10 := Lib.hid (show C7 p 45 (.string (bs s)) (.slice ia i ic) (.slice aa i ac) (.slice sa i sc) (.int .i64 (hh : Int)) (.slice (some ⟨g, 0, none⟩) (8 * bits.length) cap) (.int .i64 (c : Int)) ((w9.setCell ⟨p, 4, none⟩ (.int .i64 (hh : Int))).setCell ⟨p, 5, none⟩ (.slice (some ⟨g, 0, none⟩) (8 * bits.length) cap)) from heap_set (o := 5) (heap_set (o := 4) R9.out.box _) _)
                      have O10 := Lib.hid o10
                      unfold fv
                      clear hz hg hrow hhd hbd o10
                      go_upto_region 38 with (fail)
                      generalize hw10 : (w9.setCell ⟨p, 4, none⟩ (.int .i64 (hh : Int))).setCell ⟨p, 5, none⟩ (.slice (some ⟨g, 0, none⟩) (8 * bits.length) cap) = w10 at *
                      have HW10 := Lib.hid hw10
                      clear t0 t1 t2 t3 t4 t5 t6 tf hw10
                      obtain ⟨t0, t1, t2, t3, t4, t5, t6⟩ := P10.out.c0
                      have tf := P10.out.free
                      obtain ⟨r0, r1, r2, r3, r4, r5, r6⟩ := C10.out.c0
                      have rf := C10.out.free
                      go_wp2_with fail
                      refine bodyPost_ret (results_c7 rfl _ _ Z _ _ _ _ _ _ _ _ _ rfl rfl (C10.out.put _ _ _ _ _ _ _) Tryz.underlying45 rfl sizeTab) rfl ?_
                      have oz := only_put7 w10 Z (.string (bs s)) (.slice ia i ic) (.slice aa i ac) (.slice sa i sc) (.int .i64 (hh : Int)) (.slice (some ⟨g, 0, none⟩) (8 * bits.length) cap) (.int .i64 (c : Int))
                      have rk : ∀ (L : List Nat) (v : Value), OwnN w9 D v L → OwnN w10 D v L := fun L v ho => OffRow.kept ho fun j hj => O10.out.block j (OffRow.lt ho j hj).2 (by have := (OffRow.lt ho j hj).1; have := HZP.out; have := K7.out.size; have h7 := P7.out; have := heap_lt h7; rw [HD.out] at *; omega)
                      have rz : ∀ (L : List Nat) (v : Value), OwnN w10 D v L → OwnN _ D v L := fun L v ho => OffRow.kept ho fun j hj => oz.block j (OffRow.lt ho j hj).2 (by have := (OffRow.lt ho j hj).1; have := HZP.out; have h7 := P7.out; have := heap_lt h7; rw [HD.out] at *; omega)
                      have hX10 := X9.out.only HIA.out O10.out
                      have hXz := hX10.only (p := Z) (fun b off e => by have := HIB.out b off e; have := HZP.out; omega) oz
                      have hRz : RowB g (bitAt bits) (8 * bits.length) _ := (HRW.out.only O10.out (by have := hgg.out; have := hq8.out; omega)).only oz (by have := hgg.out; have := hq8.out; have := HZP.out; omega)
                      have hD9 : w.heap.size ≤ D := by rw [HD.out]; exact K7.out.size
                      refine ROpenTab.good HOV.out ⟨hilX.out, by rw [hA.out.len], hXz, fun b off e => by have := HIB.out b off e; have := HZP.out; have := HZ0.out; omega, (rz _ _ (rk _ _ R9.out.at')).weak hD9, (rz _ _ (rk _ _ R9.out.size)).weak hD9, hRz, by have := hgg.out; have := K8.out.size; omega⟩ (below_put7 K10.out HZ0.out _ _ _ _ _ _ _)
                  · have HOB := Lib.hid (show openTab s = (takeE y, noTab) from by have := HOT.out; rw [if_pos hy0] at this; exact this)
                    obtain ⟨z, hz⟩ : ∃ z, z = takeE y := ⟨_, rfl⟩
                    rw [← hz] at HOB hy0 ⊢
                    have hzb : (z == 0) = false := beq_eq_false_iff_ne.2 hy0
                    have HZZ := Lib.hid hy0
                    clear hz hy0
                    obtain ⟨r0, r1, r2, r3, r4, r5, r6⟩ := C8.out.c0
                    have rf := C8.out.free
                    go_wp2_with fail
                    refine bodyPost_ret (results_c7 rfl _ _ Z _ _ _ _ _ _ _ _ _ rfl rfl (C8.out.put _ _ _ _ _ _ _) Tryz.underlying45 rfl sizeTab) rfl ?_
                    exact ROpenTab.bad HOB.out HZZ.out (below_put7 K8.out HZ0.out _ _ _ _ _ _ _)
            · have hna' : ((nn : Int) == (a : Int)) = false := beq_eq_false_iff_ne.2 (by omega)
              have hna2 : ¬ ((nn : Int) = (a : Int)) := by omega
              have HOB := Lib.hid (show openTab s = (3, noTab) from by
                have hi1 : idxZ X a c = 3 := by unfold idxZ; rw [if_pos (by rw [HFIN.out.1, if_neg hna]; decide), HFIN.out.1, if_neg hna]
                have := HO2.out
                rw [if_pos (by rw [hi1]; decide), hi1] at this
                exact this)
              obtain ⟨r0, r1, r2, r3, r4, r5, r6⟩ := CW.out.c0
              have rf := CW.out.free
              go_wp2_with fail
              refine bodyPost_ret (results_c7 rfl _ _ Z _ _ _ _ _ _ _ _ _ rfl rfl (CW.out.put _ _ _ _ _ _ _) Tryz.underlying45 rfl sizeTab) rfl ?_
              exact ROpenTab.bad HOB.out (by decide) (below_put7 KW.out HZ0.out _ _ _ _ _ _ _)
      · have HO2 := Lib.hid (show openTab s = (z, noTab) from by have := HO1.out; rw [if_pos hz0] at this; exact this)
        have hzb : (z == 0) = false := beq_eq_false_iff_ne.2 hz0
        have HZN := Lib.hid hz0
        clear HO1 hz0
        obtain ⟨r0, r1, r2, r3, r4, r5, r6⟩ := C7'.out.c0
        have rf := C7'.out.free
        go_wp2_with fail
        refine bodyPost_ret (results_c7 rfl _ _ Z _ _ _ _ _ _ _ _ _ rfl rfl (C7'.out.put _ _ _ _ _ _ _) Tryz.underlying45 rfl sizeTab) rfl ?_
        exact ROpenTab.bad HO2.out HZN.out (below_put7 K7.out HZ0.out _ _ _ _ _ _ _)
  · have HO0 := Lib.hid (show openTab s = (takeE ft, noTab) by rw [hO, if_pos h0])
    have hTK := Lib.hid (fun W : World => ref_Take (bs ft) W (by rw [bs_size]; omega))
    rw [bs_list] at hTK
    obtain ⟨z, hz⟩ : ∃ z, z = takeE ft := ⟨_, rfl⟩
    rw [← hz] at HO0 hTK h0
    have hzb : (z == 0) = false := beq_eq_false_iff_ne.2 h0
    have H0 := Lib.hid h0
    clear hO h0 hz
    go_enter Tryz.func13, Tryz.ntmps13
    go_upto_region 1 with (fail)
    rw [← HW1.out, ← HZ.out]
    go_wp2_with fail
    refine (hTK.out w1).mono ?_
    rintro e w2 ⟨rfl, k2⟩
    have K2 := Lib.hid (K1.out.trans (k2.mono K1.out.size))
    have C2 := Lib.hid (C1.out.below k2)
    clear k2 hTK
    obtain ⟨r0, r1, r2, r3, r4, r5, r6⟩ := C2.out.c0
    have rf := C2.out.free
    go_wp2_with fail
    refine bodyPost_ret (results_c7 rfl _ _ Z _ _ _ _ _ _ _ _ _ rfl rfl (C2.out.put _ _ _ _ _ _ _) Tryz.underlying45 rfl sizeTab) rfl ?_
    exact ROpenTab.bad HO0.out H0.out (below_put7 K2.out HZ0.out _ _ _ _ _ _ _)
end Go.Proofs.YteejldddgogbkaaGreatDoor
/- What a table tells is no longer than its bytes; what its places are. -/
set_option linter.unusedVariables false
set_option maxRecDepth 100000
namespace Go.Proofs.YteejldddgogbkaaGreatDoor

theorem whole_pos (n : Int) : 1 ≤ (whole n).length := by
  unfold whole grp
  split <;> simp
theorem entsB_ge : ∀ (T : List Ent) (last : List UInt8), T.length ≤ (entsB last T).length
  | [], _ => Nat.zero_le _
  | x :: T, last => by
    have ih := entsB_ge T x.key
    have h1 := whole_pos (sharedL last x.key)
    show T.length + 1 ≤ (entB last x ++ entsB x.key T).length
    rw [List.length_append]
    unfold entB
    rw [List.length_append, List.length_append]
    omega
theorem opnS_len {s : List UInt8} (h : (opnS s).1 = 0) : (opnS s).2.length ≤ s.length := by
  obtain ⟨h1, h2⟩ := pack_open h
  have h3 := entsB_ge (opnS s).2 []
  unfold packB at h2
  rw [if_pos h1] at h2
  have h4 := congrArg List.length h2
  unfold listB at h4
  rw [List.length_append, List.length_append] at h4
  omega
theorem blockT_len (t : Tab) (i : Nat) : (blockT t i).2.length ≤ (t.places.getD i (0, 0)).2 := by
  unfold blockT
  simp only
  split
  · exact Nat.zero_le _
  · rename_i h
    split
    · exact Nat.zero_le _
    · have := opnS_len (Decidable.of_not_not h)
      rw [List.length_take] at this
      show (opnS _).2.length ≤ _
      omega
def sizes : List (Nat × Nat) → Nat
  | [] => 0
  | q :: Q => q.2 + sizes Q
theorem sizes_drop : ∀ (Q : List (Nat × Nat)) (i : Nat), (Q.getD i (0, 0)).2 + sizes (Q.drop (i + 1)) ≤ sizes (Q.drop i)
  | [], i => by simp [sizes]
  | q :: Q, 0 => by simp [sizes]
  | q :: Q, i + 1 => by simpa using sizes_drop Q i
theorem sizes_le : ∀ (Q : List (Nat × Nat)) (i : Nat), sizes (Q.drop i) ≤ sizes Q
  | [], i => by simp
  | q :: Q, 0 => Nat.le_refl _
  | q :: Q, i + 1 => by
    have := sizes_le Q i
    show sizes (Q.drop i) ≤ q.2 + sizes Q
    omega
theorem scanG_len (t : Tab) (k : List UInt8) : ∀ f i, (scanG t k f i).2.length ≤ sizes (t.places.drop i)
  | 0, i => Nat.zero_le _
  | f + 1, i => by
    unfold scanG
    split
    · exact Nat.zero_le _
    · have h1 := scanG_len t k f (i + 1)
      have h2 := blockT_len t i
      have h3 := sizes_drop t.places i
      have h4 : (fromE k (blockT t i).2).length ≤ (blockT t i).2.length := List.length_filter_le _ _
      simp only [List.length_append]
      omega
theorem places_sum {a : Nat} : ∀ (X : List Ent) (n : Nat), (placesL a n X).1 = 0 → n + sizes (placesL a n X).2 = a
  | [], n, h => by
    rw [placesL] at h ⊢
    split at h
    · rename_i h0
      rw [if_pos h0]
      simp [sizes, h0]
    · cases h
  | x :: X, n, h => by
    rw [places_step] at h ⊢
    split at h
    · rename_i h0; exact absurd h h0
    · rename_i h0
      rw [if_neg h0]
      simp only at h ⊢
      rw [if_pos h]
      have := places_sum X _ h
      simp only [sizes]
      omega
theorem open_places {s : List UInt8} {t : Tab} (h : openTab s = (0, t)) : ∃ a, (placesL a 0 t.index).1 = 0 ∧ (placesL a 0 t.index).2 = t.places ∧ a ≤ s.length := by
  unfold openTab at h
  simp only at h
  split at h
  · injection h with h _; cases h
  split at h
  · rename_i _ h0; injection h with h _; exact absurd h h0
  split at h
  · injection h with h _; cases h
  rename_i hlen _ hab
  split at h
  · rename_i h0; injection h with h _; exact absurd h h0
  split at h
  · rename_i h0; injection h with h _; exact absurd h h0
  rename_i hp
  split at h
  · injection h with h _; cases h
  split at h
  · rename_i h0; injection h with h _; exact absurd h h0
  split at h
  · rename_i h0; injection h with h _; exact absurd h h0
  injection h with _ h
  subst h
  exact ⟨_, Decidable.of_not_not hp, rfl, by omega⟩
theorem scanT_len {s : List UInt8} {t : Tab} (h : openTab s = (0, t)) (k : List UInt8) : (scanT t k).2.length ≤ s.length := by
  obtain ⟨a, h1, h2, h3⟩ := open_places h
  have h4 := places_sum _ _ h1
  rw [h2] at h4
  have h5 := scanG_len t k (t.index.length - (fromN k (t.index.map (·.key)) - 1)) (fromN k (t.index.map (·.key)) - 1)
  have h6 := sizes_le t.places (fromN k (t.index.map (·.key)) - 1)
  show (scanG _ _ _ _).2.length ≤ _
  omega
end Go.Proofs.YteejldddgogbkaaGreatDoor
