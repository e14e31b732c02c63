/- BoxOpens -/
import Derived.Test.YtlpknhiagdhkcaaRows
import Derived.Test.YtlpknhiagdhkcaaBOp06
import Derived.Test.YtlpknhiagdhkcaaBOp05
import Derived.SliceStrings
import Derived.ChangeOld
import Derived.ShutString
import Derived.ProofKit
import Derived.OpenShut
import Derived.WalkKit
import Derived.Below
/- BoxOpens: any bytes, with a right sum or not, are a record, or refused, as the document says; what is taken is packed so. -/
set_option linter.unusedVariables false
set_option maxRecDepth 100000
namespace Go.Proofs.Ytlpknhiagdhkcaa.LBoxOpens
open Go.ChangeShapes Go.WideShapes Go.ChangeAt Go.RowKit
open Go.ChangeMaps (open_string shut_string)


theorem quiet_neq_agg {P : Program} {o : Oper} {a : Act} {C : World → Prop} {K : Act → Prop} (t ty : TypeId) (x y : Operand) (ho : o.op = .binOp .neq t x y ty) (xs ys : Array Value) (hx : a.eval x = .agg xs) (hy : a.eval y = .agg ys) (b : Bool)
    (hm : P.eqGuardType P.depth t = false) (hS : ∀ w, C w → (binOp .neq t (.agg xs) (.agg ys)).run P w = .ok (.bool b) w) (hk : K (a.put o.dst (.bool b))) : o.quiet P a C K :=
  ⟨_, fun w hw => by
    unfold Oper.quietAt execOp
    simp only [ho, hx, hy, Sem.run_bind, run_eqGuard_agg _ _ _ _ _ _ _ hm, Result.andThen_ok, hS w hw]
    exact ⟨rfl, rfl⟩, hk⟩
theorem guard_rec : Try.prog.eqGuardType Try.prog.depth 30 = false := by kernel_rfl
set_option maxHeartbeats 8000000 in
theorem core (s : ByteArray) (y : Bool) (w : World) (hs0 : s.size ≤ maxLen) : Calls Try.prog 4 #[.string s, .bool y] w fun e w' => e = .returned (.bool true) ∧ Below w.heap.size w w' := by
  have HL := Lib.hid (show s.data.toList.length = s.size by rw [← Lib.size_eq])
  clear hs0
  go_enter Try.func4, Try.ntmps4
  go_wp2_with fail
  refine (law_awake17 w).mono ?_
  rintro e w1 ⟨rfl, k1⟩
  have K1 := Lib.hid k1
  clear k1
  by_cases h1 : 30000 < s.size
  · have h1' : (30000 : Int) < (s.size : Int) := by omega
    clear h1
    go_wp2_with fail
    refine (law_awake17 w1).mono ?_
    rintro e w3 ⟨rfl, k3⟩
    have K3 := Lib.hid (K1.out.trans (k3.mono K1.out.size))
    clear k3
    go_wp2
    go_ret
    exact ⟨rfl, K3.out⟩
  · have h1' : ¬ (30000 : Int) < (s.size : Int) := by omega
    cases y
    · have hs : s.size ≤ 40000 := by omega
      clear h1 HL
      obtain ⟨w2, hw2⟩ : ∃ w2, w2 = w1 := ⟨_, rfl⟩
      have K2 := Lib.hid (show Below w.heap.size w w2 by rw [hw2]; exact K1.out)
      go_upto_region 5 with (fail)
      rw [← hw2]
      clear K1 hw2
      go_wp2_with fail
      refine (box_Open s w2 (by omega)).mono ?_
      rintro e w3 ⟨rfl, k3⟩
      have K3 := Lib.hid (K2.out.trans (k3.mono K2.out.size))
      clear k3
      have HPO := Lib.hid (fun h => pack_open (s := s.data.toList) h)
      have HQ := Lib.hid (openR_ok s.data.toList)
      obtain ⟨q, hq⟩ : ∃ q, q = openR s.data.toList := ⟨_, rfl⟩
      have HQQ := Lib.hid hq
      rw [← hq] at HPO HQ ⊢
      clear hq
      obtain ⟨z, hz⟩ : ∃ z, z = openE s.data.toList := ⟨_, rfl⟩
      have HZQ := Lib.hid hz
      rw [← hz] at HPO ⊢
      clear hz
      obtain ⟨C, hC⟩ : ∃ C, C = w3.heap.size := ⟨_, rfl⟩
      obtain ⟨w4, hw4⟩ : ∃ w4, w4 = laidR 30 w3 q := ⟨_, rfl⟩
      have M4 := Lib.hid (show RecIn C 30 q w4 by rw [hw4, hC]; exact laidR_in _ _ HQ.out)
      have K4 := Lib.hid (show Below w.heap.size w w4 by rw [hw4]; exact K3.out.trans ((laidR_below _ _ _).mono K3.out.size))
      have T3 := Lib.hid (laidR_there 30 w3 HQ.out)
      have I3 := Lib.hid (info_recA HQ.out)
      have HC := Lib.hid hC
      have HW4 := Lib.hid (hw4.symm)
      unfold laidR at HW4
      rw [zeroA_eq] at HW4 T3
      clear hC hw4
      go_upto_region 6 with (first | (with_reducible refine wpList_store_mid rfl 30 (.tmp 5) (.tmp 25) rfl w3.heap.size 0 (recA q) rfl rfl T3.out I3.out (recA_one _) ?_; rw [HW4.out, ← HC.out]) | fail)
      go_wp2_with fail
      refine (ref_Open s w4 (by omega)).mono ?_
      rintro e w5 ⟨rfl, k5⟩
      rw [← HZQ.out, ← HQQ.out]
      have M5 := Lib.hid (M4.out.below k5 M4.out.lt)
      have K5 := Lib.hid (K4.out.trans (k5.mono K4.out.size))
      clear k5
      obtain ⟨D, hD⟩ : ∃ D, D = w5.heap.size := ⟨_, rfl⟩
      obtain ⟨w6, hw6⟩ : ∃ w6, w6 = laidR 25 w5 q := ⟨_, rfl⟩
      have M6 := Lib.hid (show RecIn C 30 q w6 by rw [hw6]; exact M5.out.below (laidR_below _ _ _) M5.out.lt)
      have N6 := Lib.hid (show RecIn D 25 q w6 by rw [hw6, hD]; exact laidR_in _ _ HQ.out)
      have K6 := Lib.hid (show Below w.heap.size w w6 by rw [hw6]; exact K5.out.trans ((laidR_below _ _ _).mono K5.out.size))
      have T5 := Lib.hid (laidR_there 25 w5 HQ.out)
      have I5 := Lib.hid (info_refA HQ.out)
      have HD := Lib.hid hD
      have HW6 := Lib.hid (hw6.symm)
      unfold laidR at HW6
      rw [zeroA_ref] at HW6 T5
      clear hD hw6
      go_upto_region 7 with (first | (with_reducible refine wpList_store_mid rfl 25 (.tmp 7) (.tmp 30) rfl w5.heap.size 0 (recA q) rfl rfl T5.out I5.out (recA_one _) ?_; rw [HW6.out, ← HD.out]) | fail)
      have G0 := Lib.hid (seen_of (fun W => law_theirs q W HQ.out) w6)
      have hn : ∀ n : Seen w6, (binOp .neq 30 (.agg (recA q)) (.agg (recA q))).run Try.prog n.val = .ok (.bool false) n.val := fun n => by rw [neq_recs q q HQ.out HQ.out]; simp
      have hn2 : ∀ n : Seen w6, (Op.equalIn 10000 30 (.agg (recA q)) (.agg (recA q))).run Try.prog n.val = .ok true n.val := fun n => by rw [eq_recs 9997 q q HQ.out HQ.out]; simp
      have IL3 := Lib.hid (show (Try.prog.info? 30).map (·.size) = some (recA q).toList.length by simpa using I3.out)
      have IL5 := Lib.hid (show (Try.prog.info? 25).map (·.size) = some (recA q).toList.length by simpa using I5.out)
      have R1 := Lib.hid M6.out.range
      have R2 := Lib.hid N6.out.range
      have L1 := Lib.hid M6.out.lt
      have L2 := Lib.hid N6.out.lt
      have hzz : (z != z) = false := by simp
      refine region_seen (by kernel_rfl) (by kernel_rfl) ?_
      (go_big_quiet_want; refine quiet_load_arr 30 (.tmp 5) rfl C 0 rfl (recA q) _ (seen_at R1.out L1.out) Try.underlying30 rfl IL3.out ?_; go_big_quiet_on; try go_frame)
      (go_big_quiet_want; refine quiet_load_arr 25 (.tmp 7) rfl D 0 rfl (recA q) _ (seen_at R2.out L2.out) Try.underlying25 rfl IL5.out ?_; go_big_quiet_on; try go_frame)
      repeat go_big_quiet_step (first | (go_at_call 11; with_reducible exact G0.out _))
      (go_big_quiet_want; refine quiet_neq_agg 30 _ (.tmp 32) (.tmp 34) rfl (recA q) (recA q) rfl rfl false guard_rec (by rintro _ ⟨n, rfl⟩; exact hn n) ?_; go_big_quiet_on; try go_frame)
      repeat go_big_quiet_step (fail)
      refine wpQuiet_nil ?_
      rintro _ ⟨m1, rfl⟩
      have M7 := Lib.hid (M6.out.below m1.below L1.out)
      have K7 := Lib.hid (K6.out.trans (m1.below.mono K6.out.size))
      generalize m1.val = w7 at *
      clear hn hn2 G0
      by_cases hz : z = 0
      · have b1 : (z != 0) = false := by simp [hz]
        obtain ⟨-, p1, p2⟩ := HPO.out hz
        have P1 := Lib.hid p1
        have P2 := Lib.hid p2
        clear p1 p2 hz
        have R3 := Lib.hid M7.out.range
        go_upto_region 11 with (fail)
        go_wp2_with (first | (refine wpList_load_mid rfl 30 (.tmp 5) rfl C 0 rfl (recA q).toList _ R3.out Try.underlying30 rfl IL3.out ?_; rw [Array.toArray_toList]) | fail)
        refine (box_Pack q w7 HQ.out (Nat.le_trans (packE_ok P1.out).1 (by decide))).mono ?_
        rintro e w8 ⟨rfl, k8⟩
        have K8 := Lib.hid (K7.out.trans (k8.mono K7.out.size))
        clear k8
        rw [packT_ok P1.out, P1.out, P2.out, ← bs_eq (s := s) rfl]
        go_wp2
        go_ret
        exact ⟨by simp, K8.out⟩
      · have b1 : (z != 0) = true := by simp [hz]
        clear hz
        go_wp2
        go_ret
        exact ⟨rfl, K7.out⟩
    · clear h1
      go_wp2_with fail
      refine (ref_Put s w1 (by omega)).mono ?_
      rintro e w2 ⟨rfl, k2⟩
      have K2 := Lib.hid (K1.out.trans (k2.mono K1.out.size))
      have HZ := Lib.hid (show (bs (s.data.toList ++ four (sumL s.data.toList))).size ≤ 40000 by rw [bs_size, List.length_append, four_len, HL.out]; omega)
      clear k2 K1 HL h1'
      generalize bs (s.data.toList ++ four (sumL s.data.toList)) = t at *
      have hs := HZ.out
      go_upto_region 5 with (fail)
      go_wp2_with fail
      refine (box_Open t w2 (by omega)).mono ?_
      rintro e w3 ⟨rfl, k3⟩
      have K3 := Lib.hid (K2.out.trans (k3.mono K2.out.size))
      clear k3
      have HPO := Lib.hid (fun h => pack_open (s := t.data.toList) h)
      have HQ := Lib.hid (openR_ok t.data.toList)
      obtain ⟨q, hq⟩ : ∃ q, q = openR t.data.toList := ⟨_, rfl⟩
      have HQQ := Lib.hid hq
      rw [← hq] at HPO HQ ⊢
      clear hq
      obtain ⟨z, hz⟩ : ∃ z, z = openE t.data.toList := ⟨_, rfl⟩
      have HZQ := Lib.hid hz
      rw [← hz] at HPO ⊢
      clear hz
      obtain ⟨C, hC⟩ : ∃ C, C = w3.heap.size := ⟨_, rfl⟩
      obtain ⟨w4, hw4⟩ : ∃ w4, w4 = laidR 30 w3 q := ⟨_, rfl⟩
      have M4 := Lib.hid (show RecIn C 30 q w4 by rw [hw4, hC]; exact laidR_in _ _ HQ.out)
      have K4 := Lib.hid (show Below w.heap.size w w4 by rw [hw4]; exact K3.out.trans ((laidR_below _ _ _).mono K3.out.size))
      have T3 := Lib.hid (laidR_there 30 w3 HQ.out)
      have I3 := Lib.hid (info_recA HQ.out)
      have HC := Lib.hid hC
      have HW4 := Lib.hid (hw4.symm)
      unfold laidR at HW4
      rw [zeroA_eq] at HW4 T3
      clear hC hw4
      go_upto_region 6 with (first | (with_reducible refine wpList_store_mid rfl 30 (.tmp 5) (.tmp 25) rfl w3.heap.size 0 (recA q) rfl rfl T3.out I3.out (recA_one _) ?_; rw [HW4.out, ← HC.out]) | fail)
      go_wp2_with fail
      refine (ref_Open t w4 (by omega)).mono ?_
      rintro e w5 ⟨rfl, k5⟩
      rw [← HZQ.out, ← HQQ.out]
      have M5 := Lib.hid (M4.out.below k5 M4.out.lt)
      have K5 := Lib.hid (K4.out.trans (k5.mono K4.out.size))
      clear k5
      obtain ⟨D, hD⟩ : ∃ D, D = w5.heap.size := ⟨_, rfl⟩
      obtain ⟨w6, hw6⟩ : ∃ w6, w6 = laidR 25 w5 q := ⟨_, rfl⟩
      have M6 := Lib.hid (show RecIn C 30 q w6 by rw [hw6]; exact M5.out.below (laidR_below _ _ _) M5.out.lt)
      have N6 := Lib.hid (show RecIn D 25 q w6 by rw [hw6, hD]; exact laidR_in _ _ HQ.out)
      have K6 := Lib.hid (show Below w.heap.size w w6 by rw [hw6]; exact K5.out.trans ((laidR_below _ _ _).mono K5.out.size))
      have T5 := Lib.hid (laidR_there 25 w5 HQ.out)
      have I5 := Lib.hid (info_refA HQ.out)
      have HD := Lib.hid hD
      have HW6 := Lib.hid (hw6.symm)
      unfold laidR at HW6
      rw [zeroA_ref] at HW6 T5
      clear hD hw6
      go_upto_region 7 with (first | (with_reducible refine wpList_store_mid rfl 25 (.tmp 7) (.tmp 30) rfl w5.heap.size 0 (recA q) rfl rfl T5.out I5.out (recA_one _) ?_; rw [HW6.out, ← HD.out]) | fail)
      have G0 := Lib.hid (seen_of (fun W => law_theirs q W HQ.out) w6)
      have hn : ∀ n : Seen w6, (binOp .neq 30 (.agg (recA q)) (.agg (recA q))).run Try.prog n.val = .ok (.bool false) n.val := fun n => by rw [neq_recs q q HQ.out HQ.out]; simp
      have hn2 : ∀ n : Seen w6, (Op.equalIn 10000 30 (.agg (recA q)) (.agg (recA q))).run Try.prog n.val = .ok true n.val := fun n => by rw [eq_recs 9997 q q HQ.out HQ.out]; simp
      have IL3 := Lib.hid (show (Try.prog.info? 30).map (·.size) = some (recA q).toList.length by simpa using I3.out)
      have IL5 := Lib.hid (show (Try.prog.info? 25).map (·.size) = some (recA q).toList.length by simpa using I5.out)
      have R1 := Lib.hid M6.out.range
      have R2 := Lib.hid N6.out.range
      have L1 := Lib.hid M6.out.lt
      have L2 := Lib.hid N6.out.lt
      have hzz : (z != z) = false := by simp
      refine region_seen (by kernel_rfl) (by kernel_rfl) ?_
      (go_big_quiet_want; refine quiet_load_arr 30 (.tmp 5) rfl C 0 rfl (recA q) _ (seen_at R1.out L1.out) Try.underlying30 rfl IL3.out ?_; go_big_quiet_on; try go_frame)
      (go_big_quiet_want; refine quiet_load_arr 25 (.tmp 7) rfl D 0 rfl (recA q) _ (seen_at R2.out L2.out) Try.underlying25 rfl IL5.out ?_; go_big_quiet_on; try go_frame)
      repeat go_big_quiet_step (first | (go_at_call 11; with_reducible exact G0.out _))
      (go_big_quiet_want; refine quiet_neq_agg 30 _ (.tmp 32) (.tmp 34) rfl (recA q) (recA q) rfl rfl false guard_rec (by rintro _ ⟨n, rfl⟩; exact hn n) ?_; go_big_quiet_on; try go_frame)
      repeat go_big_quiet_step (fail)
      refine wpQuiet_nil ?_
      rintro _ ⟨m1, rfl⟩
      have M7 := Lib.hid (M6.out.below m1.below L1.out)
      have K7 := Lib.hid (K6.out.trans (m1.below.mono K6.out.size))
      generalize m1.val = w7 at *
      clear hn hn2 G0
      by_cases hz : z = 0
      · have b1 : (z != 0) = false := by simp [hz]
        obtain ⟨-, p1, p2⟩ := HPO.out hz
        have P1 := Lib.hid p1
        have P2 := Lib.hid p2
        clear p1 p2 hz
        have R3 := Lib.hid M7.out.range
        go_upto_region 11 with (fail)
        go_wp2_with (first | (refine wpList_load_mid rfl 30 (.tmp 5) rfl C 0 rfl (recA q).toList _ R3.out Try.underlying30 rfl IL3.out ?_; rw [Array.toArray_toList]) | fail)
        refine (box_Pack q w7 HQ.out (Nat.le_trans (packE_ok P1.out).1 (by decide))).mono ?_
        rintro e w8 ⟨rfl, k8⟩
        have K8 := Lib.hid (K7.out.trans (k8.mono K7.out.size))
        clear k8
        rw [packT_ok P1.out, P1.out, P2.out, ← bs_eq (s := t) rfl]
        go_wp2
        go_ret
        exact ⟨by simp, K8.out⟩
      · have b1 : (z != 0) = true := by simp [hz]
        clear hz
        go_wp2
        go_ret
        exact ⟨rfl, K7.out⟩

theorem own : ownKnob Try.prog.godebug = none := by kernel_rfl
theorem laidOut : laidOutB Try.prog = true := by kernel_rfl
theorem contract (H : Type) (enc : TypeId × Value → H) (W : World) (base : Nat) (args : Array Value) (ds gs : List (DataW H)) (before : List MemPlace)
    (hval : ∀ (j : Nat) t v, Try.f4.params[j]? = some t → args[j]? = some v → Value.okWide Try.prog W .any base t v)
    (hW : DataW.Whole enc Try.prog Try.f4.params.toList Rows.boxOpensSpec.vars false W args.toList ds gs before) :
    Calls Try.prog 4 args W fun e W' => ∃ v, e = .returned v ∧ Rows.boxOpensSpec.post enc Try.prog Try.f4 false true false false W args v W' := by
  have hW' := hW
  obtain ⟨p, q, hA0, hV, rfl, hfz, hnd⟩ := hW
  have hA : DataW.TrodAll enc Try.prog W 0 (fun _ => true) true Try.f4.params.toList args.toList ds p := hA0
  rw [Try.params4] at hA hval
  obtain ⟨v0, vs0, d0, ds0, p0, q0, hargs0, rfl, rfl, h0, r0⟩ := trodAll_cons hA
  obtain ⟨v1, vs1, d1, ds1, p1, q1, rfl, rfl, rfl, h1, r1⟩ := trodAll_cons r0
  obtain ⟨rfl, rfl, rfl⟩ := trodAll_nil r1
  obtain rfl : args = #[v0, v1] := by cases args; simp_all
  obtain ⟨rfl, rfl⟩ := trodVars_none hV
  obtain ⟨x0, rfl, rfl, rfl, w0⟩ := open_string Try.underlying9 (hval 0 9 v0 rfl rfl) h0
  obtain ⟨x1, rfl, rfl, rfl⟩ := open_bool Try.underlying4 (hval 1 4 v1 rfl rfl) h1
  clear hA0
  simp only [List.append_nil] at hW'
  refine (core x0 x1 W w0).mono fun e W' ⟨he, bel⟩ => ?_
  subst he
  exact ⟨_, rfl, _, _, _, [], _, [], hW', trodAll_mk1 (shut_bool Try.underlying4 _), (trodAll_cons_mk (shut_string Try.underlying9 w0) (trodAll_cons_mk (shut_bool Try.underlying4 _) trodAll_mk0)), rfl, bel.frame _, fun h => by cases h⟩

set_option maxRecDepth 100000 in
theorem lifted (os : Os) (started : os.Started) (H : Type) (enc : TypeId × Value → H) :
    ReturnsInHanded {} Try.checked os 4 .any (Rows.boxOpensSpec.pre6 enc Try.prog Try.f4 Rows.boxOpensRow.domain false) (Rows.boxOpensSpec.post enc Try.prog Try.f4 false true false false) := by
  refine returnsInHanded_of_change (C := Try.checked) own started (by kernel_rfl) Try.func4
    (ChangeSpec.witness6 (enc := enc) (C := Try.checked) false ⟨#[], #[.string ByteArray.empty, .bool false], []⟩ 8 (by kernel_rfl) (by kernel_rfl) (by kernel_rfl) (by kernel_rfl)) ?_
  intro W base args ds gs before hval hW _ _
  exact contract H enc W base args ds gs before hval hW

theorem over : Rows.boxOpensRow.holds Try.pinned (OpenSpec.ofChange Rows.boxOpensSpec) :=
  OpenClaim.holds_of_wide 4 Try.f4 rfl rfl rfl rfl rfl rfl rfl ⟨rfl, rfl, rfl, rfl, rfl⟩ rfl rfl rfl rfl rfl (by kernel_rfl) Try.func4 (by kernel_rfl)
    (of_decide_eq_true (by kernel_rfl)) (by unfold Func.isWrapper; first | (rw [if_pos (by decide +kernel)]; kernel_rfl) | (rw [if_neg (by decide +kernel)]; exact ⟨rfl, rfl⟩))
    (fun os started H enc _ => lifted os started H enc)

/-- ████ THE STATEMENT ████ -/
theorem proved : Rows.BoxOpensSaid :=
  over
#print axioms proved
end Go.Proofs.Ytlpknhiagdhkcaa.LBoxOpens
