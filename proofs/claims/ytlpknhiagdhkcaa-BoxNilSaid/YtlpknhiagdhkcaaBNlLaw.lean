/- BoxNil -/
import Derived.Test.YtlpknhiagdhkcaaRows
import Derived.Test.YtlpknhiagdhkcaaBNl10
import Derived.SliceStrings
import Derived.ChangeOld
import Derived.ShutString
import Derived.ProofKit
import Derived.OpenShut
import Derived.WalkKit
import Derived.Below
/- BoxNil: a nil box, a disk that is none, and one that is full answer as the document says. -/
set_option linter.unusedVariables false
set_option maxRecDepth 100000
namespace Go.Proofs.Ytlpknhiagdhkcaa.LBoxNil
open Go.ChangeShapes Go.WideShapes Go.ChangeAt Go.RowKit
open Go.ChangeMaps (open_string shut_string)


theorem eql_pl0 (W : World) : (binOp .eql 62 (.agg #[.int .i64 0, .int .i64 0, .int .i64 0]) (.agg #[.int .i64 0, .int .i64 0, .int .i64 0])).run Try.prog W = .ok (.bool true) W := by kernel_rfl
def laidP (W : World) (f a l : Int) : World := (W.alloc (.cells (plC 0 0 0) 62)).setCells W.heap.size 0 (plC f a l).toList
theorem laidP_in (W : World) (f a l : Int) : PlIn W.heap.size f a l (laidP W f a l) := (PlIn.setAll (show PlIn W.heap.size 0 0 0 (W.alloc (.cells (plC 0 0 0) 62)) from heap_new W _)).1
theorem laidP_below (W : World) (f a l : Int) : Below W.heap.size W (laidP W f a l) := below_setCells (Nat.le_refl _) _ 0 ((Below.refl _ W).alloc (Nat.le_refl _) _)
theorem info_plA (f a l : Int) : (Try.prog.info? 62).map (·.size) = some (plC f a l).size := info_pl
theorem laidP_there (W : World) (f a l : Int) : (W.alloc (.cells (plC 0 0 0) 62)).there W.heap.size 0 (plC f a l).size := (show PlIn W.heap.size 0 0 0 (W.alloc (.cells (plC 0 0 0) 62)) from heap_new W _).there
def oneD : DS := ⟨1, 0, [⟨1, 0, [], false, 0⟩], 0, 1, -1, false⟩
theorem make_one : (DS.new 1 0).make 0 1 = (oneD, 0) := by rfl
theorem make_two : oneD.make 0 2 = (oneD, 7) := by rfl
theorem add_one (l : List UInt8) (h : 1 ≤ l.length) : oneD.add 1 l = (oneD, 7) := by
  have hf : findL 1 oneD.fs = some ⟨1, 0, [], false, 0⟩ := rfl
  have hu : oneD.used 0 = 1 := rfl
  have hr : oneD.room 0 = 1 := rfl
  have hb : 2 ≤ blk (0 + l.length) := by unfold blk; omega
  have h0 : blk 0 = 1 := rfl
  unfold DS.add
  rw [if_neg (by decide), hf]
  simp only [List.length_nil, hr, hu, h0]
  rw [if_pos (by omega)]
set_option maxHeartbeats 8000000 in
theorem core (file : Int) (s : ByteArray) (w : World) (hf : -9223372036854775808 ≤ file ∧ file ≤ 9223372036854775807) (hs0 : s.size ≤ maxLen) : Calls Try.prog 8 #[.int .i64 file, .string s] w fun e w' => e = .returned (.bool true) ∧ Below w.heap.size w w' := by
  go_enter Try.func8, Try.ntmps8
  go_wp2_with fail
  refine (law_awake17 w).mono ?_
  rintro e w1 ⟨rfl, k1⟩
  have K1 := Lib.hid k1
  clear k1
  by_cases h1 : 8192 < s.size
  · have h1' : (8192 : Int) < (s.size : Int) := by omega
    clear h1
    go_wp2_with fail
    refine (law_awake17 w1).mono ?_
    rintro e w3 ⟨rfl, k3⟩
    have K3 := Lib.hid (K1.out.trans (k3.mono K1.out.size))
    clear k3
    go_wp2
    go_ret
    exact ⟨rfl, K3.out⟩
  · have h1' : ¬ (8192 : Int) < (s.size : Int) := by omega
    have HL := Lib.hid (show s.data.toList.length ≤ 8192 by rw [show s.data.toList.length = s.size by rw [← Lib.size_eq]]; omega)
    have HBD := Lib.hid (fun W => build_body s W)
    clear h1
    obtain ⟨q, hq⟩ : ∃ q, q = RecB.mk zero32 zero32 false s.data.toList := ⟨_, rfl⟩
    rw [← hq] at HBD
    have OKQ := Lib.hid (show q.Ok by rw [hq]; exact ⟨zero32_len, zero32_len⟩)
    have HQE := Lib.hid (show packE q = 0 by rw [hq]; exact packE_of HL.out (fun _ => rfl))
    have HQB := Lib.hid (show q.body.length ≤ 8192 by rw [hq]; exact HL.out)
    clear hq
    go_upto_region 4 with (fail)
    go_wp2_with (first | (refine wpList_build_is rfl 30 [(3, .tmp 30)] rfl [(3, .string s)] rfl (recA q) HBD.out ?_) | fail)
    refine (box_Add_nil q w1).mono ?_
    rintro e w2 ⟨rfl, k2⟩
    have K2 := Lib.hid (K1.out.trans (k2.mono K1.out.size))
    clear k2
    obtain ⟨P1, hP1⟩ : ∃ x, x = w2.heap.size := ⟨_, rfl⟩
    obtain ⟨w3, hw3⟩ : ∃ x, x = laidP w2 0 0 0 := ⟨_, rfl⟩
    have P3 := Lib.hid (show PlIn P1 0 0 0 w3 by rw [hw3, hP1]; exact laidP_in _ _ _ _)
    have K3 := Lib.hid (show Below w.heap.size w w3 by rw [hw3]; exact K2.out.trans ((laidP_below _ _ _ _).mono K2.out.size))
    have T2 := Lib.hid (show (w2.alloc (.cells #[.int .i64 0, .int .i64 0, .int .i64 0] 62)).there w2.heap.size 0 (plC 0 0 0).size from laidP_there w2 0 0 0)
    have HP1 := Lib.hid hP1
    have HW3 := Lib.hid (show (w2.alloc (.cells #[.int .i64 0, .int .i64 0, .int .i64 0] 62)).setCells w2.heap.size 0 (plC 0 0 0).toList = w3 from hw3.symm)
    clear hP1 hw3
    go_upto_region 5 with (first | (with_reducible refine wpList_store_mid rfl 62 (.tmp 6) (.tmp 33) rfl w2.heap.size 0 (plC 0 0 0) rfl rfl T2.out (info_plA 0 0 0) (plC_one 0 0 0) ?_; rw [HW3.out, ← HP1.out]) | fail)
    go_wp2_with fail
    refine (box_Begin_nil 0 file w3).mono ?_
    rintro e w4 ⟨rfl, rfl⟩
    go_upto_region 6 with (fail)
    go_wp2_with fail
    refine (box_Read_nil file 0 0 w3).mono ?_
    rintro e w4 ⟨he, k4⟩
    obtain rfl : e = .returned (.tuple #[.agg (recA RecB.zero), .int .i64 8]) := he
    have P4 := Lib.hid (P3.out.below k4 (heap_lt P3.out))
    have K4 := Lib.hid (K3.out.trans (k4.mono K3.out.size))
    clear k4
    obtain ⟨R1, hR1⟩ : ∃ x, x = w4.heap.size := ⟨_, rfl⟩
    obtain ⟨w5, hw5⟩ : ∃ x, x = laidR 30 w4 RecB.zero := ⟨_, rfl⟩
    have P5 := Lib.hid (show PlIn P1 0 0 0 w5 by rw [hw5]; exact P4.out.below (laidR_below _ _ _) (heap_lt P4.out))
    have K5 := Lib.hid (show Below w.heap.size w w5 by rw [hw5]; exact K4.out.trans ((laidR_below _ _ _).mono K4.out.size))
    have T4 := Lib.hid (show (w4.alloc (.cells Try.zeroCells30 30)).there w4.heap.size 0 (recA RecB.zero).size by rw [← zeroA_eq]; exact laidR_there 30 w4 RecB.zero_ok)
    have I4 := Lib.hid (info_recA RecB.zero_ok)
    have HR1 := Lib.hid hR1
    have HW5 := Lib.hid (show (w4.alloc (.cells Try.zeroCells30 30)).setCells w4.heap.size 0 (recA RecB.zero).toList = w5 by rw [← zeroA_eq, hw5]; rfl)
    clear hR1 hw5
    have R5 := Lib.hid (show RecIn R1 30 RecB.zero w5 by rw [← HW5.out, ← zeroA_eq, HR1.out]; exact laidR_in _ _ RecB.zero_ok)
    go_upto_region 7 with (first | (with_reducible refine wpList_store_mid rfl 30 (.tmp 10) (.tmp 44) rfl w4.heap.size 0 (recA RecB.zero) rfl rfl T4.out I4.out (recA_one _) ?_; rw [HW5.out, ← HR1.out]) | fail)
    go_wp2_with fail
    refine (at_New 1 0 w5 (by omega) (by omega)).mono ?_
    rintro e w6 ⟨d, rfl, dt, k6⟩
    have P6 := Lib.hid (P5.out.below k6 (heap_lt P5.out))
    have K6 := Lib.hid (K5.out.trans (k6.mono K5.out.size))
    have D6 := Lib.hid (dt.1.tight)
    have HBG := Lib.hid (show ∀ k, (w5.heap.size ≤ k ∧ k < w6.heap.size) → ¬ k = P1 from fun k hk e => by have := heap_lt P5.out; omega)
    have HB6 := Lib.hid (show w.heap.size ≤ w5.heap.size from K5.out.size)
    clear k6 dt
    obtain ⟨S6, hS6⟩ : ∃ S : Nat → Prop, S = fun k => w5.heap.size ≤ k ∧ k < w6.heap.size := ⟨_, rfl⟩
    rw [← hS6] at D6
    have HS6 := Lib.hid (show (∀ k, S6 k → w.heap.size ≤ k ∧ k ≠ P1) by rw [hS6]; exact fun k hk => ⟨Nat.le_trans HB6.out hk.1, HBG.out k hk⟩)
    clear hS6 HBG HB6
    go_upto_region 8 with (fail)
    go_wp2_with fail
    refine (box_Begin D6.out 0 1 (by decide) (by decide)).mono ?_
    rw [make_one]
    rintro e w7 (⟨x, _⟩ | ⟨-, b, rfl, d7, o7, b7, hb1, hb2⟩)
    · exact absurd rfl x
    have P7 := Lib.hid (P6.out.kept o7 (fun x => (HS6.out _ x).2 rfl))
    have K7 := Lib.hid (K6.out.trans (o7.below (B := w.heap.size) (fun k hk hs => (HS6.out k hs).1) K6.out.size))
    obtain ⟨s7, hs7⟩ : ∃ x, x = oneD := ⟨_, rfl⟩
    change Disk (fun k => New S6 w6 k ∧ k < b) w7 d oneD at d7
    rw [← hs7] at d7
    obtain ⟨S7, hS7⟩ : ∃ S : Nat → Prop, S = fun k => New S6 w6 k ∧ k < b := ⟨_, rfl⟩
    rw [← hS7] at d7
    have D7 := Lib.hid d7
    have B7 := Lib.hid b7
    have HS7 := Lib.hid (show (∀ k, S7 k → w.heap.size ≤ k ∧ k ≠ P1 ∧ k < b) by
      rw [hS7]
      rintro k ⟨hk | hk, h2⟩
      · exact ⟨(HS6.out k hk).1, (HS6.out k hk).2, h2⟩
      · exact ⟨Nat.le_trans K6.out.size hk, by have := heap_lt P6.out; omega, h2⟩)
    have HBP := Lib.hid (show b ≠ P1 ∧ w.heap.size ≤ b by have := heap_lt P6.out; have := K6.out.size; omega)
    have HB7 := Lib.hid hb2
    clear o7 d7 b7 hb1 hb2 hS7
    have HS1 := Lib.hid hs7
    have HADD := Lib.hid (show addR s7 1 0 q = (s7, (0, 0, 0), 7, 0) by
      have hlen : 36 ≤ (packL q).length := by rw [packL_len]; unfold partsR midR; rw [List.length_append, OKQ.out.key]; omega
      have e1 : (s7.size 1).2.2 = 0 := by rw [hs7]; rfl
      have e2 : s7.add 1 (packL q) = (s7, 7) := by rw [hs7]; exact add_one _ (by omega)
      unfold addR
      rw [if_neg (by rw [HQE.out]; simp), if_neg (by rw [e1]; simp), e2, if_pos (show (7 : Int) ≠ 0 by decide)])
    clear hs7
    go_upto_region 9 with (fail)
    go_wp2_with (first | (refine wpList_build_is rfl 30 [(3, .tmp 57)] rfl [(3, .string s)] rfl (recA q) HBD.out ?_) | fail)
    refine (box_Add q D7.out B7.out (fun x => by have := (HS7.out b x).2.2; omega) (fun k hk => by have := (HS7.out k hk).2.2; have := HB7.out; omega) OKQ.out (Nat.le_trans HQB.out (by decide)) (by omega) (by decide) (by rw [HS1.out]; decide)).mono ?_
    rw [HADD.out]
    rintro e w8 ⟨he, d8, b8, o8⟩
    obtain rfl : e = .returned (.tuple #[.agg (plC 0 0 0), .int .i64 7]) := he
    change Disk (New S7 w7) w8 d s7 at d8
    change BxIn b d 1 0 w8 at b8
    have P8 := Lib.hid (P7.out.kept o8 (fun x => by rcases x with x | x; (exact (HS7.out _ x).2.1 rfl); (exact HBP.out.1 x.symm)))
    have K8 := Lib.hid (K7.out.trans (o8.below (B := w.heap.size) (fun k hk x => by rcases x with x | x; (exact (HS7.out k x).1); (rw [x]; exact HBP.out.2)) K7.out.size))
    have D8 := Lib.hid (d8.tight)
    have B8 := Lib.hid b8
    obtain ⟨S8, hS8⟩ : ∃ S : Nat → Prop, S = fun k => New S7 w7 k ∧ k < w8.heap.size := ⟨_, rfl⟩
    have HS8 := Lib.hid (show (∀ k, S8 k → w.heap.size ≤ k ∧ k ≠ P1 ∧ k ≠ b ∧ k < w8.heap.size) by
      rw [hS8]
      rintro k ⟨hk | hk, h2⟩
      · have := (HS7.out k hk).2.2
        exact ⟨(HS7.out k hk).1, (HS7.out k hk).2.1, by omega, h2⟩
      · have := HB7.out
        have := heap_lt P7.out
        exact ⟨Nat.le_trans K7.out.size hk, by omega, by omega, h2⟩)
    have D8' := Lib.hid (show Disk S8 w8 d s7 by rw [hS8]; exact D8.out)
    clear d8 b8 o8 hS8 D8
    obtain ⟨P2, hP2⟩ : ∃ x, x = w8.heap.size := ⟨_, rfl⟩
    obtain ⟨w9, hw9⟩ : ∃ x, x = laidP w8 0 0 0 := ⟨_, rfl⟩
    have Q9 := Lib.hid (show PlIn P2 0 0 0 w9 by rw [hw9, hP2]; exact laidP_in _ _ _ _)
    have P9 := Lib.hid (show PlIn P1 0 0 0 w9 by rw [hw9]; exact P8.out.below (laidP_below _ _ _ _) (heap_lt P8.out))
    have B9 := Lib.hid (show BxIn b d 1 0 w9 by rw [hw9]; unfold BxIn; rw [(laidP_below w8 0 0 0).block b (heap_lt B8.out)]; exact B8.out)
    have D9 := Lib.hid (show Disk S8 w9 d s7 by rw [hw9]; exact D8'.out.below (laidP_below _ _ _ _))
    have K9 := Lib.hid (show Below w.heap.size w w9 by rw [hw9]; exact K8.out.trans ((laidP_below _ _ _ _).mono K8.out.size))
    have T8 := Lib.hid (show (w8.alloc (.cells #[.int .i64 0, .int .i64 0, .int .i64 0] 62)).there w8.heap.size 0 (plC 0 0 0).size from laidP_there w8 0 0 0)
    have HP2 := Lib.hid hP2
    have HW9 := Lib.hid (show (w8.alloc (.cells #[.int .i64 0, .int .i64 0, .int .i64 0] 62)).setCells w8.heap.size 0 (plC 0 0 0).toList = w9 from hw9.symm)
    clear hP2 hw9
    go_upto_region 10 with (first | (with_reducible refine wpList_store_mid rfl 62 (.tmp 16) (.tmp 60) rfl w8.heap.size 0 (plC 0 0 0) rfl rfl T8.out (info_plA 0 0 0) (plC_one 0 0 0) ?_; rw [HW9.out, ← HP2.out]) | fail)
    go_wp2_with fail
    have HMK := Lib.hid (show s7.make 0 2 = (s7, 7) by rw [HS1.out]; exact make_two)
    refine (box_Begin D9.out 0 2 (by decide) (by rw [HS1.out]; decide)).mono ?_
    rw [HMK.out]
    rintro e wa (⟨-, he, da, oa⟩ | ⟨x, _⟩)
    rotate_left
    · exact absurd (show (7 : Int) = 0 from x) (by decide)
    obtain rfl : e = .returned (.tuple #[.pointer none, .int .i64 7]) := he
    have PA := Lib.hid (P9.out.kept oa (fun x => (HS8.out _ x).2.1 rfl))
    have QA := Lib.hid (Q9.out.kept oa (fun x => by have := (HS8.out _ x).2.2.2; have := HP2.out; omega))
    have BA := Lib.hid (show BxIn b d 1 0 wa by unfold BxIn; rw [oa.block b (heap_lt B9.out) (fun x => (HS8.out _ x).2.2.1 rfl)]; exact B9.out)
    have KA := Lib.hid (K9.out.trans (oa.below (B := w.heap.size) (fun k hk x => (HS8.out k x).1) K9.out.size))
    clear da oa
    go_upto_region 11 with (fail)
    have hpl := eql_pl0
    have R1' := Lib.hid (show wa.rangeAt P1 0 [Value.int .i64 0, .int .i64 0, .int .i64 0] from PA.out.range)
    have R2' := Lib.hid (show wa.rangeAt P2 0 [Value.int .i64 0, .int .i64 0, .int .i64 0] from QA.out.range)
    have IP := Lib.hid info_pl
    go_wp2_with (first | (refine wpList_load_mid rfl 62 (.tmp 6) rfl P1 0 rfl [Value.int .i64 0, .int .i64 0, .int .i64 0] _ R1'.out Try.underlying62 rfl IP.out ?_) | fail)
    refine (box_File_nil wa).mono ?_
    rintro e _ ⟨rfl, rfl⟩
    go_wp2_with fail
    refine (box_Size_nil wa).mono ?_
    rintro e _ ⟨rfl, rfl⟩
    go_wp2_with fail
    refine (box_Sync_nil wa).mono ?_
    rintro e _ ⟨rfl, rfl⟩
    go_wp2_with (first | (refine wpList_load_arr rfl 62 (.tmp 16) rfl P2 0 rfl #[Value.int .i64 0, .int .i64 0, .int .i64 0] _ R2'.out Try.underlying62 rfl IP.out ?_) | fail)
    refine (box_Size BA.out).mono ?_
    rintro e _ ⟨rfl, rfl⟩
    go_wp2
    go_ret
    exact ⟨rfl, KA.out⟩

theorem own : ownKnob Try.prog.godebug = none := by kernel_rfl
theorem laidOut : laidOutB Try.prog = true := by kernel_rfl
theorem contract (H : Type) (enc : TypeId × Value → H) (W : World) (base : Nat) (args : Array Value) (ds gs : List (DataW H)) (before : List MemPlace)
    (hval : ∀ (j : Nat) t v, Try.f8.params[j]? = some t → args[j]? = some v → Value.okWide Try.prog W .any base t v)
    (hW : DataW.Whole enc Try.prog Try.f8.params.toList Rows.boxNilSpec.vars false W args.toList ds gs before) :
    Calls Try.prog 8 args W fun e W' => ∃ v, e = .returned v ∧ Rows.boxNilSpec.post enc Try.prog Try.f8 false true false false W args v W' := by
  have hW' := hW
  obtain ⟨p, q, hA0, hV, rfl, hfz, hnd⟩ := hW
  have hA : DataW.TrodAll enc Try.prog W 0 (fun _ => true) true Try.f8.params.toList args.toList ds p := hA0
  rw [Try.params8] at hA hval
  obtain ⟨v0, vs0, d0, ds0, p0, q0, hargs0, rfl, rfl, h0, r0⟩ := trodAll_cons hA
  obtain ⟨v1, vs1, d1, ds1, p1, q1, rfl, rfl, rfl, h1, r1⟩ := trodAll_cons r0
  obtain ⟨rfl, rfl, rfl⟩ := trodAll_nil r1
  obtain rfl : args = #[v0, v1] := by cases args; simp_all
  obtain ⟨rfl, rfl⟩ := trodVars_none hV
  obtain ⟨x0, rfl, rfl, rfl, w0⟩ := open_int Try.underlying3 (hval 0 3 v0 rfl rfl) h0
  have b0 : -9223372036854775808 ≤ x0 ∧ x0 ≤ 9223372036854775807 := by have hw := w0; simp [Lit.wf, IntKind.min, IntKind.max, IntKind.signed, IntKind.bits] at hw; omega
  obtain ⟨x1, rfl, rfl, rfl, w1⟩ := open_string Try.underlying9 (hval 1 9 v1 rfl rfl) h1
  clear hA0
  simp only [List.append_nil] at hW'
  refine (core x0 x1 W b0 w1).mono fun e W' ⟨he, bel⟩ => ?_
  subst he
  exact ⟨_, rfl, _, _, _, [], _, [], hW', trodAll_mk1 (shut_bool Try.underlying4 _), (trodAll_cons_mk (shut_int Try.underlying3 w0) (trodAll_cons_mk (shut_string Try.underlying9 w1) trodAll_mk0)), rfl, bel.frame _, fun h => by cases h⟩

set_option maxRecDepth 100000 in
theorem lifted (os : Os) (started : os.Started) (H : Type) (enc : TypeId × Value → H) :
    ReturnsInHanded {} Try.checked os 8 .any (Rows.boxNilSpec.pre6 enc Try.prog Try.f8 Rows.boxNilRow.domain false) (Rows.boxNilSpec.post enc Try.prog Try.f8 false true false false) := by
  refine returnsInHanded_of_change (C := Try.checked) own started (by kernel_rfl) Try.func8
    (ChangeSpec.witness6 (enc := enc) (C := Try.checked) false ⟨#[], #[.int .i64 0, .string ByteArray.empty], []⟩ 8 (by kernel_rfl) (by kernel_rfl) (by kernel_rfl) (by kernel_rfl)) ?_
  intro W base args ds gs before hval hW _ _
  exact contract H enc W base args ds gs before hval hW

theorem over : Rows.boxNilRow.holds Try.pinned (OpenSpec.ofChange Rows.boxNilSpec) :=
  OpenClaim.holds_of_wide 8 Try.f8 rfl rfl rfl rfl rfl rfl rfl ⟨rfl, rfl, rfl, rfl, rfl⟩ rfl rfl rfl rfl rfl (by kernel_rfl) Try.func8 (by kernel_rfl)
    (of_decide_eq_true (by kernel_rfl)) (by unfold Func.isWrapper; first | (rw [if_pos (by decide +kernel)]; kernel_rfl) | (rw [if_neg (by decide +kernel)]; exact ⟨rfl, rfl⟩))
    (fun os started H enc _ => lifted os started H enc)

/-- ████ THE STATEMENT ████ -/
theorem proved : Rows.BoxNilSaid :=
  over
#print axioms proved
end Go.Proofs.Ytlpknhiagdhkcaa.LBoxNil
