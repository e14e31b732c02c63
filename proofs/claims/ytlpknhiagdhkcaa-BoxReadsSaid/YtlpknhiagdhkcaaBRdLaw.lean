/- BoxReads -/
import Derived.Test.YtlpknhiagdhkcaaRows
import Derived.Test.YtlpknhiagdhkcaaBRd10
import Derived.Test.YtlpknhiagdhkcaaBRd11
import Derived.SliceStrings
import Derived.ChangeOld
import Derived.ShutString
import Derived.ProofKit
import Derived.OpenShut
import Derived.WalkKit
import Derived.Below
/- BoxReads: at any place of any file there is a record or none, as the document says; with a byte turned none. -/
set_option linter.unusedVariables false
set_option maxRecDepth 100000
namespace Go.Proofs.Ytlpknhiagdhkcaa.LBoxReads
open Go.ChangeShapes Go.WideShapes Go.ChangeAt Go.RowKit
open Go.ChangeMaps (open_string shut_string)


theorem quiet_neq_agg {P : Program} {o : Oper} {a : Act} {C : World → Prop} {K : Act → Prop} (t ty : TypeId) (x y : Operand) (ho : o.op = .binOp .neq t x y ty) (xs ys : Array Value) (hx : a.eval x = .agg xs) (hy : a.eval y = .agg ys) (b : Bool)
    (hm : P.eqGuardType P.depth t = false) (hS : ∀ w, C w → (binOp .neq t (.agg xs) (.agg ys)).run P w = .ok (.bool b) w) (hk : K (a.put o.dst (.bool b))) : o.quiet P a C K :=
  ⟨_, fun w hw => by
    unfold Oper.quietAt execOp
    simp only [ho, hx, hy, Sem.run_bind, run_eqGuard_agg _ _ _ _ _ _ _ hm, Result.andThen_ok, hS w hw]
    exact ⟨rfl, rfl⟩, hk⟩
theorem guard_rec : Try.prog.eqGuardType Try.prog.depth 30 = false := by kernel_rfl
def oneA : DS := ⟨2000, 0, [⟨1, 0, [], false, 0⟩], 0, 1, -1, false⟩
def allD (l : List UInt8) : DS := ⟨2000, 0, [⟨1, 0, l, false, 0⟩], 0, 2, -1, false⟩
theorem make_A : (DS.new 2000 0).make 0 1 = (oneA, 0) := by rfl
theorem add_A (l : List UInt8) (h : l.length ≤ 100000) : oneA.add 1 l = (allD l, 0) := by
  have hf : findL 1 oneA.fs = some ⟨1, 0, [], false, 0⟩ := rfl
  have hu : oneA.used 0 = 1 := rfl
  have hr : oneA.room 0 = 2000 := rfl
  have hb : blk (0 + l.length) ≤ 1600 := by unfold blk; omega
  have h0 : blk 0 = 1 := rfl
  unfold DS.add
  rw [if_neg (by decide), hf]
  simp only [List.length_nil, hr, hu, h0]
  rw [if_neg (by omega), if_neg (by decide)]
  rfl
theorem read_none (l : List UInt8) (f a m : Int) (h : f ≠ 1) : readR (allD l) f a m = (RecB.zero, 9) := by
  unfold readR
  have : (allD l).read f a m = ([], 9) := by
    unfold DS.read
    rw [if_neg (by show ¬ (false = true); simp)]
    have hf : findL f (allD l).fs = none := by show (if (1 : Int) = f then _ else findL f []) = none; rw [if_neg (fun e => h e.symm)]; rfl
    rw [hf]
  rw [this]; exact readQ_no (by decide)
theorem read_bad (l : List UInt8) (a m : Int) (h : a < 0 ∨ m < 0 ∨ (l.length : Int) - a < m) : readR (allD l) 1 a m = (RecB.zero, 1) := by
  unfold readR
  have : (allD l).read 1 a m = ([], 1) := by
    unfold DS.read
    rw [if_neg (by show ¬ (false = true); simp)]
    have hf : findL 1 (allD l).fs = some ⟨1, 0, l, false, 0⟩ := rfl
    rw [hf]
    simp only
    rw [if_pos h]
  rw [this]; exact readQ_no (by decide)
theorem read_good (l : List UInt8) (a m : Nat) (h : a ≤ l.length) (h2 : m ≤ l.length - a) : readR (allD l) 1 (a : Int) (m : Int) = (openR ((l.drop a).take m), openE ((l.drop a).take m)) := by
  unfold readR
  have : (allD l).read 1 (a : Int) (m : Int) = ((l.drop a).take m, 0) := by
    unfold DS.read
    rw [if_neg (by show ¬ (false = true); simp)]
    have hf : findL 1 (allD l).fs = some ⟨1, 0, l, false, 0⟩ := rfl
    rw [hf]
    simp only
    rw [if_neg (by omega)]
    simp
  rw [this]; exact readQ_yes _

set_option maxHeartbeats 16000000 in
theorem core (r : RecB) (s : ByteArray) (p : Plc) (at_ by_ : Int) (w : World) (hr : r.Ok ∧ r.body.length ≤ 9223372036854775807) (hs0 : s.size ≤ maxLen) (hp : i64R p.f ∧ i64R p.a ∧ i64R p.l) (hat : -9223372036854775808 ≤ at_ ∧ at_ ≤ 9223372036854775807) (hby : 0 ≤ by_ ∧ by_ ≤ 255) :
    Calls Try.prog 7 #[.agg (recA r), .string s, .agg (plC p.f p.a p.l), .int .i64 at_, .int .u8 by_] w fun e w' => e = .returned (.bool true) ∧ Below w.heap.size w w' := by
  obtain ⟨f, a, l⟩ := p
  simp only at hp ⊢
  obtain ⟨B, hB⟩ : ∃ B, B = w.heap.size := ⟨_, rfl⟩
  obtain ⟨w1, hw1⟩ : ∃ w1, w1 = w.alloc (.cells (recA r) 25) := ⟨_, rfl⟩
  obtain ⟨w2, hw2⟩ : ∃ w2, w2 = w1.alloc (.cells (plC f a l) 62) := ⟨_, rfl⟩
  have hs1 : w1.heap.size = B + 1 := by rw [hw1, hB]; simp
  have K2 := Lib.hid (show Below w.heap.size w w2 by rw [hw2, hw1]; exact ((Below.refl _ w).alloc (Nat.le_refl _) _).alloc (by simp) _)
  have N2 := Lib.hid (show RecIn B 25 r w2 by
    have h1 : RecIn B 25 r w1 := by rw [hw1, hB]; exact RecIn.new w _ _
    rw [hw2]; exact h1.below ((Below.refl _ w1).alloc (Nat.le_refl _) _) h1.lt)
  have P2 := Lib.hid (show PlIn (B + 1) f a l w2 by rw [hw2, ← hs1]; exact heap_new w1 _)
  have HB := Lib.hid hB
  have HW1 := Lib.hid hw1
  have HW2 := Lib.hid hw2
  have HR := Lib.hid hr.1
  have hsz : (bs r.body).size = r.body.length := bs_size _
  have HF := Lib.hid hp
  have HSL := Lib.hid (show s.data.toList.length = s.size by rw [← Lib.size_eq])
  clear hB hw1 hw2 hr hs1 hp
  go_enter Try.func7, Try.ntmps7
  go_upto_region 1 with (fail)
  rw [← HB.out, ← HW1.out, ← HW2.out]
  go_wp2_with fail
  refine (law_awake17 w2).mono ?_
  rintro e w3 ⟨rfl, k3⟩
  have N3 := Lib.hid (N2.out.below k3 N2.out.lt)
  have P3 := Lib.hid (P2.out.below k3 (heap_lt P2.out))
  have K3 := Lib.hid (K2.out.trans (k3.mono K2.out.size))
  have c65 := N3.out.body HR.out
  clear k3
  by_cases hbig : 30000 < r.body.length ∨ 30000 < s.size
  · have HG := Lib.hid hbig
    have hgo : ∀ x : Bool, x = decide (30000 < r.body.length) → True := fun _ _ => trivial
    by_cases h1 : 30000 < r.body.length
    · have h1' : (30000 : Int) < ((bs r.body).size : Int) := by rw [hsz]; omega
      clear h1 hsz hbig hgo
      go_wp2_with fail
      refine (law_awake17 w3).mono ?_
      rintro e w4 ⟨rfl, k4⟩
      have K4 := Lib.hid (K3.out.trans (k4.mono K3.out.size))
      clear k4
      go_wp2
      go_ret
      exact ⟨rfl, K4.out⟩
    · have h1' : ¬ (30000 : Int) < ((bs r.body).size : Int) := by rw [hsz]; omega
      have h2' : (30000 : Int) < (s.size : Int) := by omega
      clear h1 hsz hbig hgo
      go_wp2_with fail
      refine (law_awake17 w3).mono ?_
      rintro e w4 ⟨rfl, k4⟩
      have K4 := Lib.hid (K3.out.trans (k4.mono K3.out.size))
      clear k4
      go_wp2
      go_ret
      exact ⟨rfl, K4.out⟩
  · have h1' : ¬ (30000 : Int) < ((bs r.body).size : Int) := by rw [hsz]; omega
    have h2' : ¬ (30000 : Int) < (s.size : Int) := by omega
    have hb : r.body.length ≤ 1000000000000 := by omega
    have HSS := Lib.hid (show s.data.toList.length ≤ 30000 by rw [HSL.out]; omega)
    have HTL := Lib.hid (show (packT r).length ≤ 30080 by
      unfold packT; split
      · rw [packL_len]; have := partsR_le HR.out (by omega); omega
      · simp)
    clear hsz hbig
    have HRG := Lib.hid N3.out.range
    have IL := Lib.hid (show (Try.prog.info? 25).map (·.size) = some (recA r).toList.length by simpa using info_refA HR.out)
    go_upto_region 3 with (fail)
    go_wp2_with (first | (refine wpList_load_mid rfl 25 (.tmp 5) rfl B 0 rfl (recA r).toList _ HRG.out Try.underlying25 rfl IL.out ?_; rw [Array.toArray_toList]) | fail)
    refine (ref_Pack r w3 HR.out hb).mono ?_
    rintro e w4 ⟨rfl, k4⟩
    have P4 := Lib.hid (P3.out.below k4 (heap_lt P3.out))
    have K4 := Lib.hid (K3.out.trans (k4.mono K3.out.size))
    clear k4 c65
    have HPT := Lib.hid (show packT r = [] ∨ ∃ X, packT r = X ++ four (sumL X) by
      unfold packT; split
      · exact .inr ⟨_, rfl⟩
      · exact .inl rfl)
    generalize packT r = T at *
    generalize packE r = z0 at *
    go_upto_region 4 with (fail)
    go_wp2_with fail
    refine (at_New 2000 0 w4 (by omega) (by omega)).mono ?_
    rintro e w5 ⟨d, rfl, dt, k5⟩
    have P5 := Lib.hid (P4.out.below k5 (heap_lt P4.out))
    have K5 := Lib.hid (K4.out.trans (k5.mono K4.out.size))
    have D5 := Lib.hid dt
    clear dt k5
    obtain ⟨U, hU⟩ : ∃ U, U = T ++ s.data.toList := ⟨_, rfl⟩
    have hcat := bs_cat T s
    have hsum : ((bs T).size : Int) + (s.size : Int) ≤ 9223372036854775807 := by rw [bs_size]; have := HTL.out; have := HSS.out; have := HSL.out; omega
    rw [← hU] at hcat
    have HUL := Lib.hid (show U.length ≤ 70000 by rw [hU, List.length_append]; have := HTL.out; have := HSS.out; omega)
    clear hU
    go_upto_region 6 with (fail)
    clear hcat hsum
    go_wp2_with fail
    have HMK := make_A
    have A5 := at_Make D5.out 0 1 (by decide) (by decide)
    rw [make_A] at A5
    refine A5.mono ?_
    rintro e w6 ⟨he, d6, k6⟩
    obtain rfl : e = .returned (.int .i64 0) := he
    have hB0 : B + 2 ≤ w4.heap.size := by have := heap_lt P4.out; omega
    have P6 := Lib.hid (P5.out.below k6 (by omega))
    have K6 := Lib.hid (K5.out.trans (k6.mono K4.out.size))
    have D6 := Lib.hid (show DAt w4.heap.size w6 d oneA from d6)
    clear d6 k6 A5 HMK
    go_wp2_with fail
    have A6 := at_Add D6.out 1 U (by decide) (by decide) (by have := HUL.out; omega)
    rw [add_A U (by have := HUL.out; omega)] at A6
    refine A6.mono ?_
    rintro e w7 ⟨he, d7, k7⟩
    obtain rfl : e = .returned (.int .i64 0) := he
    have P7 := Lib.hid (P6.out.below k7 (by omega))
    have K7 := Lib.hid (K6.out.trans (k7.mono K4.out.size))
    have D7 := Lib.hid (show DAt w4.heap.size w7 d (allD U) from d7)
    clear d7 k7 A6 D6 D5
    go_upto_region 8 with (fail)
    have HPR := Lib.hid P7.out.range
    have IP := Lib.hid info_pl
    go_wp2_with (first | (refine wpList_load_mid rfl 62 (.tmp 7) rfl (B + 1) 0 rfl (plC f a l).toList _ HPR.out Try.underlying62 rfl IP.out ?_; rw [Array.toArray_toList]) | fail)
    refine (box_Read D7.out.1 f a l (WalkArith.wf_i64 (by have := HF.out.1; unfold i64R at this; omega)) HF.out.2.1.2).mono ?_
    rintro e w8 ⟨he, k8⟩
    have HQ := Lib.hid (readR_ok (allD U) f a l)
    have P8 := Lib.hid (P7.out.below k8 (heap_lt P7.out))
    have K8 := Lib.hid (K7.out.trans (k8.mono K7.out.size))
    obtain ⟨q, hq⟩ : ∃ q, q = (readR (allD U) f a l).1 := ⟨_, rfl⟩
    obtain ⟨z, hz⟩ : ∃ z, z = (readR (allD U) f a l).2 := ⟨_, rfl⟩
    have HQZ := Lib.hid (show readR (allD U) f a l = (q, z) by rw [hq, hz])
    rw [← hq] at HQ
    rw [← hq, ← hz] at he
    subst he
    clear k8 hq hz
    obtain ⟨C, hC⟩ : ∃ C, C = w8.heap.size := ⟨_, rfl⟩
    obtain ⟨w9, hw9⟩ : ∃ x, x = laidR 30 w8 q := ⟨_, rfl⟩
    have P9 := Lib.hid (show PlIn (B + 1) f a l w9 by rw [hw9]; exact P8.out.below (laidR_below _ _ _) (heap_lt P8.out))
    have C9 := Lib.hid (show RecIn C 30 q w9 by rw [hw9, hC]; exact laidR_in _ _ HQ.out)
    have K9 := Lib.hid (show Below w.heap.size w w9 by rw [hw9]; exact K8.out.trans ((laidR_below _ _ _).mono K8.out.size))
    have T8 := Lib.hid (show (w8.alloc (.cells Try.zeroCells30 30)).there w8.heap.size 0 (recA q).size by rw [← zeroA_eq]; exact laidR_there 30 w8 HQ.out)
    have I8 := Lib.hid (info_recA HQ.out)
    have HC := Lib.hid hC
    have HW9 := Lib.hid (show (w8.alloc (.cells Try.zeroCells30 30)).setCells w8.heap.size 0 (recA q).toList = w9 by rw [← zeroA_eq, hw9]; rfl)
    clear hC hw9
    go_upto_region 12 with (first | (with_reducible refine wpList_store_mid rfl 30 (.tmp 16) (.tmp 62) rfl w8.heap.size 0 (recA q) rfl rfl T8.out I8.out (recA_one _) ?_; rw [HW9.out, ← HC.out]) | fail)
    obtain ⟨x0, x1, x2⟩ := P9.out.cells
    have LC := Lib.hid (show w9.rangeAt C 0 (recA q).toList from C9.out.range)
    have ILC := Lib.hid (show (Try.prog.info? 30).map (·.size) = some (recA q).toList.length by simpa using I8.out)
    have hnz : ∀ W, (binOp .neq 30 (.agg (recA RecB.zero)) (.agg Try.zeroCells30)).run Try.prog W = .ok (.bool false) W := fun W => by rw [← zeroA_eq, neq_recs _ _ RecB.zero_ok RecB.zero_ok]; simp
    have hcase : f ≠ 1 ∨ (f = 1 ∧ a < 0) ∨ (f = 1 ∧ ¬ a < 0 ∧ l < 0) ∨ (f = 1 ∧ ¬ a < 0 ∧ ¬ l < 0 ∧ (U.length : Int) < a) ∨ (f = 1 ∧ ¬ a < 0 ∧ ¬ l < 0 ∧ ¬ (U.length : Int) < a ∧ (U.length : Int) - a < l) ∨ (f = 1 ∧ ¬ a < 0 ∧ ¬ l < 0 ∧ ¬ (U.length : Int) < a ∧ ¬ (U.length : Int) - a < l) := by omega
    have hUs : ((bs U).size : Int) = (U.length : Int) := by rw [bs_size]
    have hUb := HUL.out
    obtain ⟨hl1, hl2⟩ := HF.out.2.2
    obtain ⟨ha1, ha2⟩ := HF.out.2.1
    rcases hcase with hf | ⟨hf, h1⟩ | ⟨hf, h1, h2⟩ | ⟨hf, h1, h2, h3⟩ | ⟨hf, h1, h2, h3, h4⟩ | ⟨hf, h1, h2, h3, h4⟩
    case' inl =>
      have bf : (f != 1) = true := by simp [hf]
      have e := (HQZ.out.symm.trans (read_none U f a l hf))
      injection e with e1 e2
      subst e1 e2
      go_upto_region 13 with (fail)
      go_upto_region 18 with (first | (with_reducible refine wpList_load_arr rfl 30 (.tmp 16) rfl C 0 rfl (recA RecB.zero) _ LC.out Try.underlying30 rfl ILC.out ?_) | fail)
      have KZ := K9
      clear LC ILC hnz x0 x1 x2 C9 T8 HW9 P9 K9 D7 P8 K8 I8 HQ HQZ HF
      generalize w9 = wz at *
    case' inr.inl =>
      subst hf
      have bf : ((1 : Int) != 1) = false := by simp
      have e := (HQZ.out.symm.trans (read_bad U a l (by omega)))
      injection e with e1 e2
      subst e1 e2
      go_upto_region 16 with (fail)
      go_upto_region 18 with (first | (with_reducible refine wpList_load_arr rfl 30 (.tmp 16) rfl C 0 rfl (recA RecB.zero) _ LC.out Try.underlying30 rfl ILC.out ?_) | fail)
      have KZ := K9
      clear LC ILC hnz x0 x1 x2 C9 T8 HW9 P9 K9 D7 P8 K8 I8 HQ HQZ HF
      generalize w9 = wz at *
    case' inr.inr.inl =>
      subst hf
      have bf : ((1 : Int) != 1) = false := by simp
      have e := (HQZ.out.symm.trans (read_bad U a l (by omega)))
      injection e with e1 e2
      subst e1 e2
      go_upto_region 16 with (fail)
      go_upto_region 18 with (first | (with_reducible refine wpList_load_arr rfl 30 (.tmp 16) rfl C 0 rfl (recA RecB.zero) _ LC.out Try.underlying30 rfl ILC.out ?_) | fail)
      have KZ := K9
      clear LC ILC hnz x0 x1 x2 C9 T8 HW9 P9 K9 D7 P8 K8 I8 HQ HQZ HF
      generalize w9 = wz at *
    case' inr.inr.inr.inl =>
      subst hf
      have bf : ((1 : Int) != 1) = false := by simp
      have e := (HQZ.out.symm.trans (read_bad U a l (by omega)))
      injection e with e1 e2
      subst e1 e2
      go_upto_region 16 with (fail)
      go_upto_region 18 with (first | (with_reducible refine wpList_load_arr rfl 30 (.tmp 16) rfl C 0 rfl (recA RecB.zero) _ LC.out Try.underlying30 rfl ILC.out ?_) | fail)
      have KZ := K9
      clear LC ILC hnz x0 x1 x2 C9 T8 HW9 P9 K9 D7 P8 K8 I8 HQ HQZ HF
      generalize w9 = wz at *
    case' inr.inr.inr.inr.inl =>
      subst hf
      have bf : ((1 : Int) != 1) = false := by simp
      have e := (HQZ.out.symm.trans (read_bad U a l (by omega)))
      injection e with e1 e2
      subst e1 e2
      go_upto_region 16 with (fail)
      go_upto_region 18 with (first | (with_reducible refine wpList_load_arr rfl 30 (.tmp 16) rfl C 0 rfl (recA RecB.zero) _ LC.out Try.underlying30 rfl ILC.out ?_) | fail)
      have KZ := K9
      clear LC ILC hnz x0 x1 x2 C9 T8 HW9 P9 K9 D7 P8 K8 I8 HQ HQZ HF
      generalize w9 = wz at *
    case' inr.inr.inr.inr.inr =>
      subst hf
      have bf : ((1 : Int) != 1) = false := by simp
      obtain ⟨an, rfl⟩ : ∃ n : Nat, a = n := ⟨a.toNat, by omega⟩
      obtain ⟨ln, rfl⟩ : ∃ n : Nat, l = n := ⟨l.toNat, by omega⟩
      have han : an ≤ U.length := by omega
      have hln : ln ≤ U.length - an := by omega
      have e := (HQZ.out.symm.trans (read_good U an ln han hln))
      injection e with e1 e2
      obtain ⟨V, hV⟩ : ∃ V, V = (U.drop an).take ln := ⟨_, rfl⟩
      rw [← hV] at e1 e2
      have E1 := Lib.hid e1
      have E2 := Lib.hid e2
      have HVL := Lib.hid (show V.length ≤ 70000 by rw [hV, List.length_take, List.length_drop]; omega)
      obtain ⟨u1, hu1⟩ : ∃ u1, u1 = (bs U).extract an (bs U).size := ⟨_, rfl⟩
      have hx1 : (bs U).extract an (bs U).size = u1 := hu1.symm
      have hu1l : u1.data.toList = U.drop an := by rw [hu1, ext_list, bs_list]
      have hu1s : u1.size = U.length - an := by rw [show u1.size = u1.data.toList.length by rw [← Lib.size_eq], hu1l, List.length_drop]
      have hx2 : u1.extract 0 ln = bs V := by rw [(take_split (s := u1) (n := ln) (by omega)).1, hu1l, hV]
      clear e1 e2 hu1 hu1l hV
      go_upto_region 9 with (fail)
      refine wp_region_kept (fun W => Below w9.heap.size w9 W) (by kernel_rfl) ?_
      change wpAnyE _ _ _ _ _ _ _ _ _ w9.drew
      have hS : Below w9.heap.size w9 w9.drew := (Below.refl _ _).drew
      generalize w9.drew = wd at *
      refine kept_take (i := 0) (d := 65) (v := .string (bs U)) rfl rfl (by kernel_rfl) (by kernel_rfl) (by kernel_rfl) (fun _ _ _ h => h) (Or.inl ⟨by rfl, ?_⟩) hS ?_
      · intro w' hw'
        go_simp
      try go_frame
      refine kept_take (i := 1) (d := 66) (v := .pointer (some ⟨B + 1, 1, none⟩)) rfl rfl (by kernel_rfl) (by kernel_rfl) (by kernel_rfl) (fun _ _ _ h => h) (Or.inl ⟨by rfl, ?_⟩) hS ?_
      · intro w' hw'
        go_simp
      try go_frame
      refine kept_take (i := 2) (d := 67) (v := .int .i64 (an : Int)) rfl rfl (by kernel_rfl) (by kernel_rfl) (by kernel_rfl) (fun _ _ _ h => h) (Or.inl ⟨by rfl, ?_⟩) hS ?_
      · intro w' hw'
        obtain ⟨z0, z1, z2⟩ := (P9.out.below hw' (heap_lt P9.out)).cells
        go_simp
      try go_frame
      refine kept_take (i := 3) (d := 68) (v := .string u1) rfl rfl (by kernel_rfl) (by kernel_rfl) (by kernel_rfl) (fun _ _ _ h => h) (Or.inl ⟨by rfl, ?_⟩) hS ?_
      · intro w' hw'
        go_simp
      try go_frame
      refine kept_take (i := 4) (d := 69) (v := .pointer (some ⟨B + 1, 2, none⟩)) rfl rfl (by kernel_rfl) (by kernel_rfl) (by kernel_rfl) (fun _ _ _ h => h) (Or.inl ⟨by rfl, ?_⟩) hS ?_
      · intro w' hw'
        go_simp
      try go_frame
      refine kept_take (i := 5) (d := 70) (v := .int .i64 (ln : Int)) rfl rfl (by kernel_rfl) (by kernel_rfl) (by kernel_rfl) (fun _ _ _ h => h) (Or.inl ⟨by rfl, ?_⟩) hS ?_
      · intro w' hw'
        obtain ⟨z0, z1, z2⟩ := (P9.out.below hw' (heap_lt P9.out)).cells
        go_simp
      try go_frame
      refine kept_take (i := 6) (d := 71) (v := .string (bs V)) rfl rfl (by kernel_rfl) (by kernel_rfl) (by kernel_rfl) (fun _ _ _ h => h) (Or.inl ⟨by rfl, ?_⟩) hS ?_
      · intro w' hw'
        go_simp
      try go_frame
      refine wpAnyE_ready (rs := [7, 11]) (by kernel_rfl) (by simp) (AllE.cons rfl (fun K hK => ?qA) (AllE.cons rfl (fun K hK => ?qB) AllE.nil))
      case' qA =>
        go_simp
        refine Calls.mono (ref_Open (bs V) wd (by rw [bs_size]; have := HVL.out; omega)) ?_
        rintro e we ⟨he, ke⟩
        rw [bs_list, ← E1.out, ← E2.out] at he
        subst he
        have hS2 : Below w9.heap.size w9 we := hS.trans (ke.mono hS.size)
        clear ke
        refine hK.out _ _ (fun _ => hS2) (fun _ => ?_)
        clear hK K hS
        have hS := hS2
        clear hS2
        try go_frame
        refine kept_take (i := 8) (d := 64) (v := .tuple #[.agg (recA q), .int .i64 z]) rfl rfl (by kernel_rfl) (by kernel_rfl) (by kernel_rfl) (fun _ _ _ h => h) (Or.inl ⟨by rfl, ?_⟩) hS ?_
        · intro w' hw'
          go_simp
        try go_frame
        refine kept_take (i := 9) (d := 73) (v := .agg (recA q)) rfl rfl (by kernel_rfl) (by kernel_rfl) (by kernel_rfl) (fun _ _ _ h => h) (Or.inl ⟨by rfl, ?_⟩) hS ?_
        · intro w' hw'
          go_simp
        try go_frame
        refine kept_take (i := 10) (d := 74) (v := .int .i64 z) rfl rfl (by kernel_rfl) (by kernel_rfl) (by kernel_rfl) (fun _ _ _ h => h) (Or.inl ⟨by rfl, ?_⟩) hS ?_
        · intro w' hw'
          go_simp
        try go_frame
        refine wpAnyE_ready (rs := [11]) (by kernel_rfl) (by simp) (AllE.cons rfl (fun K hK => ?_) AllE.nil)
        go_simp
        have hS3 : Below w9.heap.size w9 (we.alloc (.cells Try.zeroCells25 25)) := hS.alloc hS.size _
        have RD := Lib.hid (show RecIn we.heap.size 25 RecB.zero (we.alloc (.cells Try.zeroCells25 25)) by rw [← zeroA_ref]; exact RecIn.new we _ _)
        have HDW := Lib.hid (show w9.heap.size ≤ we.heap.size from hS.size)
        refine hK.out _ _ (fun _ => hS3) (fun _ => ?_)
        clear hK K hS
        have hS := hS3
        clear hS3
        try go_frame
        generalize we.alloc (.cells Try.zeroCells25 25) = wf at *
        generalize we.heap.size = D at *
        refine wpAnyE_ready (rs := [12]) (by kernel_rfl) (by simp) (AllE.cons rfl (fun K hK => ?_) AllE.nil)
        have TD := Lib.hid (RD.out.there RecB.zero_ok 0 (recA q).size (by rw [recA_size HQ.out]; omega))
        have ID := Lib.hid (info_refA HQ.out)
        refine wp_store_mid 25 (.tmp 18) (.tmp 73) rfl D 0 (recA q) rfl rfl TD.out ID.out (recA_one _) ?_
        change K ⟨_, _⟩ _
        have hS4 : Below w9.heap.size w9 (wf.setCells D 0 (recA q).toList) := below_setCells HDW.out _ 0 hS
        have RQ := Lib.hid (RD.out.setAll RecB.zero_ok HQ.out)
        refine hK.out _ _ (fun _ => hS4) (fun _ => ?_)
        clear hK K hS
        have hS := hS4
        clear hS4
        try go_frame
        generalize wf.setCells D 0 (recA q).toList = wy at *
        refine kept_take (i := 13) (d := 19) (v := .int .i64 z) rfl rfl (by kernel_rfl) (by kernel_rfl) (by kernel_rfl) (fun _ _ _ h => h) (Or.inl ⟨by rfl, ?_⟩) hS ?_
        · intro w' hw'
          go_simp
        try go_frame
        refine wpAnyE_done (by kernel_rfl) ?_ _
      case' qB =>
        go_simp
        have hS3 : Below w9.heap.size w9 (wd.alloc (.cells Try.zeroCells25 25)) := hS.alloc hS.size _
        have RD := Lib.hid (show RecIn wd.heap.size 25 RecB.zero (wd.alloc (.cells Try.zeroCells25 25)) by rw [← zeroA_ref]; exact RecIn.new wd _ _)
        have HDW := Lib.hid (show w9.heap.size ≤ wd.heap.size from hS.size)
        refine hK.out _ _ (fun _ => hS3) (fun _ => ?_)
        clear hK K hS
        have hS := hS3
        clear hS3
        try go_frame
        generalize wd.alloc (.cells Try.zeroCells25 25) = we at *
        generalize wd.heap.size = D at *
        refine wpAnyE_ready (rs := [7]) (by kernel_rfl) (by simp) (AllE.cons rfl (fun K hK => ?_) AllE.nil)
        go_simp
        refine Calls.mono (ref_Open (bs V) we (by rw [bs_size]; have := HVL.out; omega)) ?_
        rintro e wf ⟨he, ke⟩
        rw [bs_list, ← E1.out, ← E2.out] at he
        subst he
        have hS2 : Below w9.heap.size w9 wf := hS.trans (ke.mono hS.size)
        have RD' := Lib.hid (RD.out.below ke RD.out.lt)
        clear RD
        have RD := RD'
        clear RD'
        clear ke
        refine hK.out _ _ (fun _ => hS2) (fun _ => ?_)
        clear hK K hS
        have hS := hS2
        clear hS2
        try go_frame
        refine kept_take (i := 8) (d := 64) (v := .tuple #[.agg (recA q), .int .i64 z]) rfl rfl (by kernel_rfl) (by kernel_rfl) (by kernel_rfl) (fun _ _ _ h => h) (Or.inl ⟨by rfl, ?_⟩) hS ?_
        · intro w' hw'
          go_simp
        try go_frame
        refine kept_take (i := 9) (d := 73) (v := .agg (recA q)) rfl rfl (by kernel_rfl) (by kernel_rfl) (by kernel_rfl) (fun _ _ _ h => h) (Or.inl ⟨by rfl, ?_⟩) hS ?_
        · intro w' hw'
          go_simp
        try go_frame
        refine kept_take (i := 10) (d := 74) (v := .int .i64 z) rfl rfl (by kernel_rfl) (by kernel_rfl) (by kernel_rfl) (fun _ _ _ h => h) (Or.inl ⟨by rfl, ?_⟩) hS ?_
        · intro w' hw'
          go_simp
        try go_frame
        refine wpAnyE_ready (rs := [12]) (by kernel_rfl) (by simp) (AllE.cons rfl (fun K hK => ?_) AllE.nil)
        have TD := Lib.hid (RD.out.there RecB.zero_ok 0 (recA q).size (by rw [recA_size HQ.out]; omega))
        have ID := Lib.hid (info_refA HQ.out)
        refine wp_store_mid 25 (.tmp 18) (.tmp 73) rfl D 0 (recA q) rfl rfl TD.out ID.out (recA_one _) ?_
        change K ⟨_, _⟩ _
        have hS4 : Below w9.heap.size w9 (wf.setCells D 0 (recA q).toList) := below_setCells HDW.out _ 0 hS
        have RQ := Lib.hid (RD.out.setAll RecB.zero_ok HQ.out)
        refine hK.out _ _ (fun _ => hS4) (fun _ => ?_)
        clear hK K hS
        have hS := hS4
        clear hS4
        try go_frame
        generalize wf.setCells D 0 (recA q).toList = wy at *
        refine kept_take (i := 13) (d := 19) (v := .int .i64 z) rfl rfl (by kernel_rfl) (by kernel_rfl) (by kernel_rfl) (fun _ _ _ h => h) (Or.inl ⟨by rfl, ?_⟩) hS ?_
        · intro w' hw'
          go_simp
        try go_frame
        refine wpAnyE_done (by kernel_rfl) ?_ _
      all_goals
        clear hx1 hx2 hu1s RD TD HDW
        have CY := Lib.hid (C9.out.below hS C9.out.lt)
        have KY := Lib.hid (K9.out.trans (hS.mono K9.out.size))
        clear hS
        go_upto_region 10 with (fail)
        have G0 := Lib.hid (seen_of (fun W => law_theirs q W HQ.out) wy)
        have hn : ∀ n : Seen wy, (binOp .neq 30 (.agg (recA q)) (.agg (recA q))).run Try.prog n.val = .ok (.bool false) n.val := fun n => by rw [neq_recs q q HQ.out HQ.out]; simp
        have ILD := Lib.hid (show (Try.prog.info? 25).map (·.size) = some (recA q).toList.length by simpa using ID.out)
        have R1 := Lib.hid CY.out.range
        have R2 := Lib.hid RQ.out.range
        have L1 := Lib.hid CY.out.lt
        have L2 := Lib.hid RQ.out.lt
        have hzz : (z != z) = false := by simp
        try go_frame
        refine region_seen (by kernel_rfl) (by kernel_rfl) ?_
        try go_frame
        (go_big_quiet_want; refine quiet_load_arr 30 (.tmp 16) rfl C 0 rfl (recA q) _ (seen_at R1.out L1.out) Try.underlying30 rfl ILC.out ?_; go_big_quiet_on; try go_frame)
        (go_big_quiet_want; refine quiet_load_arr 25 (.tmp 18) rfl D 0 rfl (recA q) _ (seen_at R2.out L2.out) Try.underlying25 rfl ILD.out ?_; go_big_quiet_on; try go_frame)
        repeat go_big_quiet_step (first | (go_at_call 11; with_reducible exact G0.out _))
        (go_big_quiet_want; refine quiet_neq_agg 30 _ (.tmp 75) (.tmp 77) rfl (recA q) (recA q) rfl rfl false guard_rec (by rintro _ ⟨n, rfl⟩; exact hn n) ?_; go_big_quiet_on; try go_frame)
        repeat go_big_quiet_step (fail)
        refine wpQuiet_nil ?_
        rintro _ ⟨m1, rfl⟩
        have KZ := Lib.hid (KY.out.trans (m1.below.mono KY.out.size))
        clear G0 hn R1 R2 L1 L2 RQ CY KY hzz LC ILC hnz x0 x1 x2 C9 T8 HW9 P9 K9 D7 P8 K8 I8
        go_upto_region 18 with (fail)
        generalize m1.val = wz at *
        clear HQ HQZ HF
    all_goals
      obtain ⟨m, hm⟩ : ∃ m, m = T.length := ⟨_, rfl⟩
      have hTs : (bs T).size = m := by rw [bs_size, hm]
      have HM := Lib.hid hm
      have hm3 : m ≤ 30080 := by have := HTL.out; omega
      clear hm
      by_cases hT0 : m = 0
      · have hb0 : ((m : Int) == 0) = true := beq_iff_eq.2 (by omega)
        clear hT0
        go_wp2
        go_ret
        exact ⟨rfl, KZ.out⟩
      · have hb0 : ((m : Int) == 0) = false := beq_eq_false_iff_ne.2 (by omega)
        by_cases hy0 : by_ = 0
        · have hy1 : (by_ == 0) = true := by simp [hy0]
          clear hy0 hT0
          go_wp2
          go_ret
          exact ⟨rfl, KZ.out⟩
        · have hy1 : (by_ == 0) = false := by simp [hy0]
          have HY0 := Lib.hid hy0
          clear hy0
          obtain ⟨X, hX⟩ : ∃ X, T = X ++ four (sumL X) := by
            rcases HPT.out with e | e
            · exact absurd (by rw [HM.out, e]; rfl) hT0
            · exact e
          have HX := Lib.hid hX
          have hm4 : m = X.length + 4 := by rw [HM.out, hX, List.length_append, four_len]
          clear hX hT0
          obtain ⟨wc, cap8, hconv, hb8, k8⟩ := conv_out wz T m HM.out.symm
          obtain ⟨E, hE⟩ : ∃ E, E = wz.heap.size := ⟨_, rfl⟩
          have HEW := Lib.hid (show w.heap.size ≤ E by rw [hE]; exact KZ.out.size)
          have KC := Lib.hid (KZ.out.trans (k8.mono KZ.out.size))
          have HB8 := Lib.hid (show Bytes8 E T wc by rw [hE]; exact hb8)
          rw [← hE] at hconv
          clear hb8 k8 hE
          obtain ⟨u, hu⟩ : ∃ u : Int, IntKind.u64.wrap at_ = u := ⟨_, rfl⟩
          have hu1 : 0 ≤ u ∧ u ≤ 18446744073709551615 := by rw [← hu]; simp [IntKind.wrap, IntKind.signed, IntKind.bits]; omega
          obtain ⟨jn, hj⟩ : ∃ j : Nat, u % (m : Int) = (j : Int) := ⟨(u % (m : Int)).toNat, by have := Int.emod_nonneg u (b := (m : Int)) (by omega); omega⟩
          have hjm : jn < m := by have := Int.emod_lt_of_pos u (b := (m : Int)) (by omega); omega
          obtain ⟨hu2, hu3⟩ := hu1
          obtain ⟨c8, f8⟩ := HB8.out jn (by rw [← HM.out]; exact hjm)
          obtain ⟨pj, hpj⟩ : ∃ pj, pj = T.getD jn 0 := ⟨_, rfl⟩
          rw [← hpj] at c8
          have HPJ := Lib.hid hpj
          obtain ⟨bn, hbn⟩ : ∃ bn : Nat, by_ = (bn : Int) := ⟨by_.toNat, by omega⟩
          subst hbn
          have hbn8 : bn < 256 := by omega
          have hpj8 : pj.toNat < 256 := pj.toNat_lt
          have hx8 : pj.toNat ^^^ bn < 256 := by
            have : pj.toNat ^^^ bn < 2 ^ 8 := Nat.xor_lt_two_pow (by omega) (by omega)
            omega
          have hxor := u8_xor_nat pj.toNat bn hpj8 hbn8
          obtain ⟨cc, hc⟩ : ∃ c : UInt8, c = UInt8.ofNat (pj.toNat ^^^ bn) := ⟨_, rfl⟩
          have hcn : cc.toNat = pj.toNat ^^^ bn := by rw [hc, UInt8.toNat_ofNat', Nat.mod_eq_of_lt hx8]
          rw [← hcn] at hxor
          have HCN := Lib.hid hcn
          clear hc hcn hx8 hpj
          obtain ⟨L, hL⟩ : ∃ L, L = T.set jn cc := ⟨_, rfl⟩
          have hPj : jn < T.length := by rw [← HM.out]; exact hjm
          have hLl : L.length = m := by rw [hL, List.length_set, HM.out]
          obtain ⟨wv, hwv⟩ : ∃ x, wc.setCell ⟨E, jn, none⟩ (.int .u8 (cc.toNat : Int)) = x := ⟨_, rfl⟩
          have hb9 : Bytes8 E L wv := by rw [← hwv, hL]; exact HB8.out.set hPj cc
          have hback := conv_back wv E L m cap8 hLl.symm hb9
          have KV := Lib.hid (show Below w.heap.size w wv by rw [← hwv]; exact KC.out.setCell (p := ⟨E, jn, none⟩) HEW.out _)
          have HOE := Lib.hid (show openE L = 4 by
            rw [hL, HX.out]
            refine turned_rec (by omega) fun e => ?_
            rw [← HX.out, ← HPJ.out] at e
            have h1 := HCN.out
            rw [e] at h1
            have h2 : pj.toNat ^^^ (pj.toNat ^^^ bn) = pj.toNat ^^^ pj.toNat := by rw [← h1]
            rw [← Nat.xor_assoc, Nat.xor_self, Nat.zero_xor] at h2
            exact HY0.out (by omega))
          have HLL := Lib.hid (show (bs L).size ≤ 140737488355328 by rw [bs_size]; omega)
          have HWV := Lib.hid hwv
          clear hL hPj hLl hwv hb9 hm4
          go_upto_region 22 with (fail)
          rw [HWV.out]
          clear HWV hconv c8 f8 hxor hu hj
          go_wp2_with fail
          refine (box_Open (bs L) wv HLL.out).mono ?_
          rintro e wo ⟨rfl, ko⟩
          rw [bs_list, HOE.out]
          have KO := Lib.hid (KV.out.trans (ko.mono KV.out.size))
          have HQO := Lib.hid (openR_ok L)
          clear ko
          generalize openR L = qo at *
          have TO := Lib.hid (show (wo.alloc (.cells Try.zeroCells30 30)).there wo.heap.size 0 (recA qo).size by rw [← zeroA_eq]; exact laidR_there 30 wo HQO.out)
          have IO := Lib.hid (info_recA HQO.out)
          have KP := Lib.hid (show Below w.heap.size w ((wo.alloc (.cells Try.zeroCells30 30)).setCells wo.heap.size 0 (recA qo).toList) from below_setCells KO.out.size _ 0 (KO.out.alloc KO.out.size _))
          go_upto_region 23 with (first | (with_reducible refine wpList_store_mid rfl 30 (.tmp 21) (.tmp 154) rfl wo.heap.size 0 (recA qo) rfl rfl TO.out IO.out (recA_one _) ?_) | fail)
          go_wp2
          go_ret
          exact ⟨rfl, KP.out⟩

theorem own : ownKnob Try.prog.godebug = none := by kernel_rfl
theorem laidOut : laidOutB Try.prog = true := by kernel_rfl
theorem contract (H : Type) (enc : TypeId × Value → H) (W : World) (base : Nat) (args : Array Value) (ds gs : List (DataW H)) (before : List MemPlace)
    (hval : ∀ (j : Nat) t v, Try.f7.params[j]? = some t → args[j]? = some v → Value.okWide Try.prog W .any base t v)
    (hW : DataW.Whole enc Try.prog Try.f7.params.toList Rows.boxReadsSpec.vars false W args.toList ds gs before) :
    Calls Try.prog 7 args W fun e W' => ∃ v, e = .returned v ∧ Rows.boxReadsSpec.post enc Try.prog Try.f7 false true false false W args v W' := by
  have hW' := hW
  obtain ⟨p, q, hA0, hV, rfl, hfz, hnd⟩ := hW
  have hA : DataW.TrodAll enc Try.prog W 0 (fun _ => true) true Try.f7.params.toList args.toList ds p := hA0
  rw [Try.params7] at hA hval
  obtain ⟨v0, vs0, d0, ds0, p0, q0, hargs0, rfl, rfl, h0, r0⟩ := trodAll_cons hA
  obtain ⟨v1, vs1, d1, ds1, p1, q1, rfl, rfl, rfl, h1, r1⟩ := trodAll_cons r0
  obtain ⟨v2, vs2, d2, ds2, p2, q2, rfl, rfl, rfl, h2, r2⟩ := trodAll_cons r1
  obtain ⟨v3, vs3, d3, ds3, p3, q3, rfl, rfl, rfl, h3, r3⟩ := trodAll_cons r2
  obtain ⟨v4, vs4, d4, ds4, p4, q4, rfl, rfl, rfl, h4, r4⟩ := trodAll_cons r3
  obtain ⟨rfl, rfl, rfl⟩ := trodAll_nil r4
  obtain rfl : args = #[v0, v1, v2, v3, v4] := by cases args; simp_all
  obtain ⟨rfl, rfl⟩ := trodVars_none hV
  obtain ⟨cs0, rfl, sz0⟩ := okWide_struct Try.underlying25 (hval 0 25 v0 rfl rfl)
  have k0 := h0
  have lt0 : ∀ x ∈ p0, x.block < W.heap.size := by obtain ⟨m, hm⟩ := k0; exact DataW.trod_lt m _ _ _ hm
  obtain ⟨R0, rfl, i0⟩ := open_rec h0
  obtain ⟨x1, rfl, rfl, rfl, w1⟩ := open_string Try.underlying9 (hval 1 9 v1 rfl rfl) h1
  obtain ⟨cs2, rfl, sz2⟩ := okWide_struct Try.underlying62 (hval 2 62 v2 rfl rfl)
  have k2 := h2
  have lt2 : ∀ x ∈ p2, x.block < W.heap.size := by obtain ⟨m, hm⟩ := k2; exact DataW.trod_lt m _ _ _ hm
  obtain ⟨R2, rfl, i2⟩ := open_place h2
  obtain ⟨x3, rfl, rfl, rfl, w3⟩ := open_int Try.underlying3 (hval 3 3 v3 rfl rfl) h3
  have b3 : -9223372036854775808 ≤ x3 ∧ x3 ≤ 9223372036854775807 := by have hw := w3; simp [Lit.wf, IntKind.min, IntKind.max, IntKind.signed, IntKind.bits] at hw; omega
  obtain ⟨x4, rfl, rfl, rfl, w4⟩ := open_int Try.underlying5 (hval 4 5 v4 rfl rfl) h4
  have b4 : 0 ≤ x4 ∧ x4 ≤ 255 := by have hw := w4; simp [Lit.wf, IntKind.min, IntKind.max, IntKind.signed, IntKind.bits] at hw; omega
  clear hA0
  simp only [List.append_nil] at hW'
  refine (core R0 x1 R2 x3 x4 W i0 w1 i2 b3 b4).mono fun e W' ⟨he, bel⟩ => ?_
  subst he
  exact ⟨_, rfl, _, _, _, [], _, [], hW', trodAll_mk1 (shut_bool Try.underlying4 _), (trodAll_cons_mk (Below.trod laidOut (by kernel_rfl) (of_decide_eq_true (by kernel_rfl)) k0 bel lt0) (trodAll_cons_mk (shut_string Try.underlying9 w1) (trodAll_cons_mk (Below.trod laidOut (by kernel_rfl) (of_decide_eq_true (by kernel_rfl)) k2 bel lt2) (trodAll_cons_mk (shut_int Try.underlying3 w3) (trodAll_cons_mk (shut_int Try.underlying5 w4) trodAll_mk0))))), rfl, bel.frame _, fun h => by cases h⟩

set_option maxRecDepth 100000 in
theorem lifted (os : Os) (started : os.Started) (H : Type) (enc : TypeId × Value → H) :
    ReturnsInHanded {} Try.checked os 7 .any (Rows.boxReadsSpec.pre6 enc Try.prog Try.f7 Rows.boxReadsRow.domain false) (Rows.boxReadsSpec.post enc Try.prog Try.f7 false true false false) := by
  refine returnsInHanded_of_change (C := Try.checked) own started (by kernel_rfl) Try.func7
    (ChangeSpec.witness6 (enc := enc) (C := Try.checked) false ⟨#[], #[.agg #[.int .u8 0, .int .u8 0, .int .u8 0, .int .u8 0, .int .u8 0, .int .u8 0, .int .u8 0, .int .u8 0, .int .u8 0, .int .u8 0, .int .u8 0, .int .u8 0, .int .u8 0, .int .u8 0, .int .u8 0, .int .u8 0, .int .u8 0, .int .u8 0, .int .u8 0, .int .u8 0, .int .u8 0, .int .u8 0, .int .u8 0, .int .u8 0, .int .u8 0, .int .u8 0, .int .u8 0, .int .u8 0, .int .u8 0, .int .u8 0, .int .u8 0, .int .u8 0, .int .u8 0, .int .u8 0, .int .u8 0, .int .u8 0, .int .u8 0, .int .u8 0, .int .u8 0, .int .u8 0, .int .u8 0, .int .u8 0, .int .u8 0, .int .u8 0, .int .u8 0, .int .u8 0, .int .u8 0, .int .u8 0, .int .u8 0, .int .u8 0, .int .u8 0, .int .u8 0, .int .u8 0, .int .u8 0, .int .u8 0, .int .u8 0, .int .u8 0, .int .u8 0, .int .u8 0, .int .u8 0, .int .u8 0, .int .u8 0, .int .u8 0, .int .u8 0, .bool false, .string ByteArray.empty], .string ByteArray.empty, .agg #[.int .i64 0, .int .i64 0, .int .i64 0], .int .i64 0, .int .u8 0], []⟩ 8 (by kernel_rfl) (by kernel_rfl) (by kernel_rfl) (by kernel_rfl)) ?_
  intro W base args ds gs before hval hW _ _
  exact contract H enc W base args ds gs before hval hW

theorem over : Rows.boxReadsRow.holds Try.pinned (OpenSpec.ofChange Rows.boxReadsSpec) :=
  OpenClaim.holds_of_wide 7 Try.f7 rfl rfl rfl rfl rfl rfl rfl ⟨rfl, rfl, rfl, rfl, rfl⟩ rfl rfl rfl rfl rfl (by kernel_rfl) Try.func7 (by kernel_rfl)
    (of_decide_eq_true (by kernel_rfl)) (by unfold Func.isWrapper; first | (rw [if_pos (by decide +kernel)]; kernel_rfl) | (rw [if_neg (by decide +kernel)]; exact ⟨rfl, rfl⟩))
    (fun os started H enc _ => lifted os started H enc)

/-- ████ THE STATEMENT ████ -/
theorem proved : Rows.BoxReadsSaid :=
  over
#print axioms proved
end Go.Proofs.Ytlpknhiagdhkcaa.LBoxReads
