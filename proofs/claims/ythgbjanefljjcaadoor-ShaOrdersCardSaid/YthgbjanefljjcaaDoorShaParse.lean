/- The key with these digits, as the program finds it. -/
import Derived.Test.YthgbjanefljjcaaDoorShaKeys
set_option linter.unusedVariables false
namespace Go.Proofs.YthgbjanefljjcaaDoor
open Go.RowKit

def idxD (c : Nat) : Int := if digO c = 16 then -1 else (digO c : Int)
theorem index_digit : ∀ c, c < 256 → Lib.indexByte [48, 49, 50, 51, 52, 53, 54, 55, 56, 57, 97, 98, 99, 100, 101, 102] (UInt8.ofNat c) = idxD c := by decide +kernel

set_option maxHeartbeats 400000 in
theorem lite_IndexByte (c : Nat) (w : World) (hc : c < 256) :
    Calls Tryd.prog 29 #[.string { data := #[48, 49, 50, 51, 52, 53, 54, 55, 56, 57, 97, 98, 99, 100, 101, 102] }, .int .u8 (c : Int)] w fun e w' => e = .returned (.int .i64 (idxD c)) ∧ w = w' := by
  have hx := index_digit c hc
  have hr : (Extern.BytealgIndexByte.indexByte #[.string { data := #[48, 49, 50, 51, 52, 53, 54, 55, 56, 57, 97, 98, 99, 100, 101, 102] }, .int .u8 (c : Int)]).run Tryd.prog w = .ok (.int .i64 (idxD c)) w := by
    rw [Lib.run_indexByteString]
    exact congrArg (fun z => Result.ok (Value.int .i64 z) w) hx
  have HR := Lib.hid hr
  clear hr hx
  go_enter Tryd.func29, Tryd.ntmps29
  go_wp2
  rw [run_callFunc_extern Tryd.func31 (by kernel_rfl) (by kernel_rfl) (by kernel_rfl) (e := Extern.BytealgIndexByte.indexByte) (by kernel_rfl), HR.out]
  simp only [Result.andThen]
  rw [Oper.upon_value]
  go_wp2
  go_ret
  exact ⟨rfl, rfl⟩
set_option maxHeartbeats 400000 in
theorem str_IndexByte (c : Nat) (w : World) (hc : c < 256) :
    Calls Tryd.prog 25 #[.string { data := #[48, 49, 50, 51, 52, 53, 54, 55, 56, 57, 97, 98, 99, 100, 101, 102] }, .int .u8 (c : Int)] w fun e w' => e = .returned (.int .i64 (idxD c)) ∧ w = w' := by
  go_enter Tryd.func25, Tryd.ntmps25
  go_wp2_with (go_at_call 29; refine (lite_IndexByte c _ hc).mono ?_; rintro e w' ⟨rfl, rfl⟩)
  go_ret
  exact ⟨rfl, rfl⟩
theorem quiet_IndexByte (c : Nat) (w : World) (hc : c < 256) (m : Nat) : Calls Tryd.prog 25 #[.string { data := #[48, 49, 50, 51, 52, 53, 54, 55, 56, 57, 97, 98, 99, 100, 101, 102] }, .int .u8 (c : Int)] (w.drewN m) fun e w'' => e = .returned (.int .i64 (idxD c)) ∧ ∃ k, w'' = w.drewN k :=
  (str_IndexByte c (w.drewN m) hc).mono fun _ _ ⟨h1, h2⟩ => ⟨h1, m, h2.symm⟩
theorem idxD_neg {c : Nat} (h : digO c = 16) : idxD c = -1 := by unfold idxD; rw [if_pos h]
theorem idxD_dig {c : Nat} (h : digO c ≠ 16) : idxD c = (digO c : Int) := by unfold idxD; rw [if_neg h]

/-- What Parse answers. -/
def ParsedE (s : List UInt8) (w : World) (e : Ending) (w' : World) : Prop := ∃ (l : List UInt8) (n : Nat), e = .returned (.tuple #[.agg (keyA l), .int .i64 (n : Int)]) ∧ (fine s → l = parseK s ∧ n = 0) ∧ (¬ fine s → l = zeroL ∧ n = 3) ∧ Below w.heap.size w w'

theorem pfill_two (s : List UInt8) (i m : Nat) : (if m = i then 16 * dg s (2 * i) + dg s (2 * i + 1) else pfill s (2 * i) m) = pfill s (2 * (i + 1)) m := by
  unfold pfill
  by_cases hm : m = i
  · subst hm
    rw [if_pos rfl, if_pos (by omega)]
  · rw [if_neg hm]
    by_cases h : m < i
    · rw [if_pos (by omega), if_pos (by omega)]
    · rw [if_neg (by omega), if_neg (by omega), if_neg (by omega), if_neg (by omega)]
theorem or_dig : ∀ a : Nat, a < 16 → ∀ b : Nat, b < 16 → bits .or .i64 ((a : Int) * 16) (b : Int) = ((16 * a + b : Nat) : Int) := by decide +kernel

set_option maxHeartbeats 2000000 in
set_option maxRecDepth 100000 in
theorem sha_Parse (s : ByteArray) (w : World) (hs : s.size ≤ 9223372036854775807) :
    Calls Tryd.prog 10 #[.string s] w (ParsedE s.data.toList w) := by
  have hl : s.data.toList.length = s.size := by rw [← Lib.size_eq]
  obtain ⟨R, hR⟩ : ∃ R, R = w.heap.size := ⟨_, rfl⟩
  have hz : zeroL.length = 32 := rfl
  have HR := Lib.hid hR
  have HLS := Lib.hid hl
  by_cases h64 : s.size = 64
  · obtain ⟨W2, hW2⟩ : ∃ W2, W2 = (w.alloc (.cells (Array.replicate 32 (.int .u8 0)) 25)).alloc (.cells (Array.replicate 32 (.int .u8 0)) 25) := ⟨_, rfl⟩
    have HK := Lib.hid (show Key8 (R + 1) (fun _ => 0) W2 by
      have h := key8_new (w.alloc (.cells (Array.replicate 32 (.int .u8 0)) 25)) 25
      rw [hW2]
      rwa [show (w.alloc (.cells (Array.replicate 32 (.int .u8 0)) 25)).heap.size = R + 1 by rw [hR]; simp] at h)
    have HRR := Lib.hid (show Key8 R (fun _ => 0) W2 by
      rw [hR, hW2]
      exact (key8_new w 25).keep ((Below.refl (w.heap.size + 1) (w.alloc (.cells (Array.replicate 32 (.int .u8 0)) 25))).alloc (by simp) (.cells (Array.replicate 32 (.int .u8 0)) 25)) (by omega))
    have HB := Lib.hid (show Below w.heap.size w W2 by rw [hW2]; exact (((Below.refl w.heap.size w).alloc (Nat.le_refl _) (.cells (Array.replicate 32 (.int .u8 0)) 25))).alloc (by simp) (.cells (Array.replicate 32 (.int .u8 0)) 25))
    have HW2 := Lib.hid hW2
    clear hW2 hl hR
    have hb : ((s.size : Int) == 64) = true := beq_iff_eq.2 (by omega)
    have H64 := Lib.hid h64
    clear h64
    go_enter Tryd.func10, Tryd.ntmps10
    go_upto_region 4 with (fail)
    change Code.wp _ _ _ _ ((w.alloc (.cells (Array.replicate 32 (.int .u8 0)) 25)).alloc (.cells (Array.replicate 32 (.int .u8 0)) 25))
    rw [← HW2.out, ← HR.out]
    rw [show ((s.size : Int) != 64) = false by unfold bne; rw [hb]; rfl]
    clear hb
    go_wp2_with fail
    go_loopw [12] (fun vi wr => ∃ i : Nat, i ≤ 32 ∧ vi = .int .i64 i ∧ Hid (∀ j, j < 2 * i → dg s.data.toList j ≠ 16) ∧ Key8 (R + 1) (pfill s.data.toList (2 * i)) wr ∧ Key8 R (fun _ => 0) wr ∧ Below R w wr) (fun vi wr => 32 - (intOf vi).toNat)
    case atStart => exact ⟨0, by omega, rfl, Lib.hid (fun j h => by omega), HK.out.same (fun m _ => (pfill_zero _ m).symm), HRR.out, by rw [HR.out]; exact HB.out⟩
    case round =>
      obtain ⟨i, hi, rfl, hd, hk1, hk2, hbw⟩ := hrel
      have KK := Lib.hid hk1
      have KR := Lib.hid hk2
      have HBW := Lib.hid hbw
      clear hk1 hk2 hbw
      by_cases hi32 : i < 32
      · obtain ⟨p1, hp1⟩ : ∃ p, p = 2 * i := ⟨_, rfl⟩
        obtain ⟨p2, hp2⟩ : ∃ p, p = 2 * i + 1 := ⟨_, rfl⟩
        have f1 : 2 * (i : Int) = (p1 : Int) := by omega
        have f2 : (p1 : Int) + 1 = (p2 : Int) := by omega
        have hib1 : p1 < s.size := by rw [H64.out]; omega
        have hib2 : p2 < s.size := by rw [H64.out]; omega
        have hsi1 : (s[p1]).toNat = byteAt s.data.toList p1 := by
          rw [byteAt_get _ p1 (by rw [HLS.out]; exact hib1)]
          rfl
        have hsi2 : (s[p2]).toNat = byteAt s.data.toList p2 := by
          rw [byteAt_get _ p2 (by rw [HLS.out]; exact hib2)]
          rfl
        have hy1 := byteAt_lt s.data.toList p1
        have hy2 := byteAt_lt s.data.toList p2
        have HP := Lib.hid (show p1 = 2 * i ∧ p2 = 2 * i + 1 from ⟨hp1, hp2⟩)
        have HD1 := Lib.hid (show dg s.data.toList p1 = digO (byteAt s.data.toList p1) from rfl)
        have HD2 := Lib.hid (show dg s.data.toList p2 = digO (byteAt s.data.toList p2) from rfl)
        clear hp1 hp2
        generalize byteAt s.data.toList p1 = y1 at *
        generalize byteAt s.data.toList p2 = y2 at *
        go_wp2_with fail
        go_quiet (first | (go_at_call 25; exact quiet_IndexByte y1 _ hy1 _) | (go_at_call 25; exact quiet_IndexByte y2 _ hy2 _))
        generalize hwq : wr.drewN nq = wq
        have KKq := Lib.hid (show Key8 (R + 1) (pfill s.data.toList (2 * i)) wq by rw [← hwq]; exact ⟨KK.out.1, KK.out.2⟩)
        have KRq := Lib.hid (show Key8 R (fun _ => 0) wq by rw [← hwq]; exact ⟨KR.out.1, KR.out.2⟩)
        have HBq := Lib.hid (show Below R w wq by rw [← hwq]; exact below_drewN HBW.out nq)
        clear hwq KK KR HBW hsi1 hsi2
        by_cases hbad : digO y1 = 16 ∨ digO y2 = 16
        · have HNF := Lib.hid (show ¬ fine s.data.toList from fun h => by
            rcases hbad with hb | hb
            · exact h.2 p1 (by have := HP.out; omega) (by rw [HD1.out]; exact hb)
            · exact h.2 p2 (by have := HP.out; omega) (by rw [HD2.out]; exact hb))
          have hth := Lib.hid (show wq.there R 0 (keyA zeroL).size from key_there KRq.out)
          have hcl : ∀ e : Ending, e = .returned (.tuple #[.agg (keyA zeroL), .int .i64 3]) → ParsedE s.data.toList w e (wq.setCells R 0 (keyA zeroL).toList) := fun e he =>
            ⟨zeroL, 3, he, fun h => absurd h HNF.out, fun _ => ⟨rfl, rfl⟩, by rw [← HR.out]; exact below_setCells (Nat.le_refl _) _ 0 HBq.out⟩
          have HCL := Lib.hid hcl
          clear hcl
          by_cases h1 : digO y1 = 16
          · rw [idxD_neg h1]
            clear hbad h1
            go_wp2_with (first | (refine wpList_store_mid rfl 25 (.tmp 2) (.tmp 32) rfl R 0 (keyA zeroL) rfl rfl hth.out (info25s zeroL hz) (keyA_one zeroL) ?_))
            refine bodyPost_ret (v := .tuple #[.agg (keyA zeroL), .int .i64 3]) (results_key rfl _ _ _ R zeroL _ (.int .i64 3) rfl rfl hth.out Tryd.underlying25 rfl (info25 zeroL hz)) rfl (HCL.out _ rfl)
          · have h2 : digO y2 = 16 := by rcases hbad with h | h; exact absurd h h1; exact h
            rw [idxD_neg h2, idxD_dig h1]
            clear hbad h1 h2
            have hpos : decide (((digO y1 : Nat) : Int) < 0) = false := decide_eq_false (by omega)
            generalize digO y1 = D1 at *
            go_wp2_with (first | (refine wpList_store_mid rfl 25 (.tmp 2) (.tmp 32) rfl R 0 (keyA zeroL) rfl rfl hth.out (info25s zeroL hz) (keyA_one zeroL) ?_))
            refine bodyPost_ret (v := .tuple #[.agg (keyA zeroL), .int .i64 3]) (results_key rfl _ _ _ R zeroL _ (.int .i64 3) rfl rfl hth.out Tryd.underlying25 rfl (info25 zeroL hz)) rfl (HCL.out _ rfl)
        · have hn1 : digO y1 ≠ 16 := fun h => hbad (.inl h)
          have hn2 : digO y2 ≠ 16 := fun h => hbad (.inr h)
          have hb1 := digO_le y1
          have hb2 := digO_le y2
          have HDN := Lib.hid (show ∀ j, j < 2 * (i + 1) → dg s.data.toList j ≠ 16 from fun j hj => by
            by_cases hj1 : j < 2 * i
            · exact hd.out j hj1
            · by_cases hj2 : j = 2 * i
              · rw [hj2, ← HP.out.1, HD1.out]; exact hn1
              · rw [show j = 2 * i + 1 by omega, ← HP.out.2, HD2.out]; exact hn2)
          have HNX := Lib.hid (fun m => pfill_two s.data.toList i m)
          have c1 := (KKq.out.2 i hi32).1
          have c2 := (KKq.out.2 i hi32).2
          rw [idxD_dig hn1, idxD_dig hn2]
          obtain ⟨D1, hD1⟩ : ∃ D, D = digO y1 := ⟨_, rfl⟩
          obtain ⟨D2, hD2⟩ : ∃ D, D = digO y2 := ⟨_, rfl⟩
          have HE := Lib.hid (show dg s.data.toList (2 * i) = D1 ∧ dg s.data.toList (2 * i + 1) = D2 by
            constructor
            · rw [← HP.out.1, HD1.out]; exact hD1.symm
            · rw [← HP.out.2, HD2.out]; exact hD2.symm)
          rw [← hD1] at hn1 hb1 ⊢
          rw [← hD2] at hn2 hb2 ⊢
          have hl1 : D1 < 16 := by omega
          have hl2 : D2 < 16 := by omega
          have hor := or_dig D1 hl1 D2 hl2
          have hZ : 16 * D1 + D2 < 256 := by omega
          generalize hZe : 16 * D1 + D2 = Z at *
          have KS := Lib.hid (show Key8 (R + 1) (pfill s.data.toList (2 * (i + 1))) (wq.setCell ⟨R + 1, i, none⟩ (.int .u8 (Z : Int))) from (KKq.out.set (i := i) hi32 Z).same (fun m _ => by
            have h := HNX.out m
            rw [HE.out.1, HE.out.2, hZe] at h
            exact h))
          have KRS := Lib.hid (KRq.out.other (a := ⟨R + 1, i, none⟩) (by show R + 1 ≠ R; omega) (.int .u8 (Z : Int)))
          have HBS := Lib.hid (HBq.out.setCell (p := ⟨R + 1, i, none⟩) (by show R ≤ R + 1; omega) (.int .u8 (Z : Int)))
          generalize pfill s.data.toList (2 * i) i = old at *
          clear hZe hD1 hD2 hn1 hn2 hb1 hb2 hbad
          go_wp2_with fail
          generalize wq.setCell ⟨R + 1, i, none⟩ (.int .u8 (Z : Int)) = wz at *
          go_wp2_with fail
          go_roundw
          case rel => exact ⟨i + 1, by omega, by go_num, HDN, KS.out, KRS.out, HBS.out⟩
          case measure => simp [intOf]; omega
      · obtain rfl : i = 32 := by omega
        have hfine : fine s.data.toList := ⟨by rw [HLS.out, H64.out], hd.out⟩
        have HF := Lib.hid hfine
        have hlen := parseK_len s.data.toList
        have hld := Lib.hid (range_of KK.out hlen (fun m hm => (parseK_at s.data.toList hd.out m hm).symm))
        have hth := Lib.hid (show wr.there R 0 (keyA (parseK s.data.toList)).size by rw [keyA_size, hlen]; exact key_there KR.out)
        have HI := Lib.hid (info25 _ hlen)
        have HIS := Lib.hid (info25s _ hlen)
        have HCL := Lib.hid (show ∀ e : Ending, e = .returned (.tuple #[.agg (keyA (parseK s.data.toList)), .int .i64 0]) → ParsedE s.data.toList w e (wr.setCells R 0 (keyA (parseK s.data.toList)).toList) from fun e he =>
            ⟨parseK s.data.toList, 0, he, fun _ => ⟨rfl, rfl⟩, fun h => absurd HF.out h, by rw [← HR.out]; exact below_setCells (Nat.le_refl _) _ 0 HBW.out⟩)
        clear hfine hlen
        go_wp2_with (first | (refine wpList_load_mid rfl 25 (.tmp 4) rfl (R + 1) 0 rfl (keyA (parseK s.data.toList)).toList _ hld.out Tryd.underlying25 rfl HI.out ?_) | (refine wpList_store_mid rfl 25 (.tmp 2) (.tmp 41) rfl R 0 (keyA (parseK s.data.toList)) rfl rfl hth.out HIS.out (keyA_one _) ?_))
        refine bodyPost_ret (v := .tuple #[.agg (keyA (parseK s.data.toList)), .int .i64 0]) (results_key rfl _ _ _ R _ _ (.int .i64 0) rfl rfl hth.out Tryd.underlying25 rfl HI.out) rfl (HCL.out _ rfl)
  · have HF := Lib.hid (show ¬ fine s.data.toList from fun h => h64 (by rw [← hl]; exact h.1))
    have hb : ((s.size : Int) == 64) = false := beq_eq_false_iff_ne.2 (by omega)
    obtain ⟨W1, hW1⟩ : ∃ W1, W1 = w.alloc (.cells (Array.replicate 32 (.int .u8 0)) 25) := ⟨_, rfl⟩
    have KR := Lib.hid (show Key8 R (fun _ => 0) W1 by rw [hR, hW1]; exact key8_new w 25)
    have HB := Lib.hid (show Below R w W1 by rw [hR, hW1]; exact (Below.refl _ _).alloc (Nat.le_refl _) _)
    have hth := Lib.hid (show W1.there R 0 (keyA zeroL).size from key_there KR.out)
    have HCL := Lib.hid (show ∀ e : Ending, e = .returned (.tuple #[.agg (keyA zeroL), .int .i64 3]) → ParsedE s.data.toList w e (W1.setCells R 0 (keyA zeroL).toList) from fun e he =>
            ⟨zeroL, 3, he, fun h => absurd h HF.out, fun _ => ⟨rfl, rfl⟩, by rw [← HR.out]; exact below_setCells (Nat.le_refl _) _ 0 HB.out⟩)
    have HW1 := Lib.hid hW1
    clear hW1 hl hR h64
    go_enter Tryd.func10, Tryd.ntmps10
    go_upto_region 2 with (fail)
    change Code.wp _ _ _ _ (w.alloc (.cells (Array.replicate 32 (.int .u8 0)) 25))
    rw [← HW1.out, ← HR.out]
    go_wp2_with (first | (refine wpList_store_mid rfl 25 (.tmp 2) (.tmp 11) rfl R 0 (keyA zeroL) rfl rfl hth.out (info25s zeroL hz) (keyA_one zeroL) ?_))
    refine bodyPost_ret (v := .tuple #[.agg (keyA zeroL), .int .i64 3]) (results_key rfl _ _ _ R zeroL _ (.int .i64 3) rfl rfl hth.out Tryd.underlying25 rfl (info25 zeroL hz)) rfl (HCL.out _ rfl)
end Go.Proofs.YthgbjanefljjcaaDoor
