/- ShaOrders: keys stand in one order, byte by byte; their words are their bytes. For every input; no condition beside the round numbers that the program lays (tied). -/
import Derived.Test.YthgbjanefljjcaaDoorShaLaid
import Derived.ChangeOld
set_option linter.unusedVariables false
namespace Go.Proofs.YthgbjanefljjcaaDoor.shaOrders
open Go.ChangeShapes Go.WideShapes Go.ChangeAt Go.RowKit

set_option maxHeartbeats 4000000 in
set_option maxRecDepth 100000 in
theorem core (a b c : List UInt8) (n : Int) (w : World) (ha : Hid (a.length = 32)) (hb : Hid (b.length = 32)) (hc : Hid (c.length = 32)) (lo : -9223372036854775808 ≤ n) (hi : n ≤ 9223372036854775807) (hg : Hid (Glob w)) :
    Calls Tryd.prog 5 #[.agg (keyA a), .agg (keyA b), .agg (keyA c), .int .i64 n] w fun e w' => e = .returned (.bool true) ∧ Below w.heap.size w w' := by
  obtain ⟨H, hH⟩ : ∃ H, H = w.heap.size := ⟨_, rfl⟩
  obtain ⟨W2, hW2⟩ : ∃ W2, W2 = ((w.alloc (.cells (keyA a) 25)).alloc (.cells (keyA b) 25)).alloc (.cells (keyA c) 25) := ⟨_, rfl⟩
  have e1 : (w.alloc (.cells (keyA a) 25)).heap.size = H + 1 := by rw [hH]; simp
  have e2 : ((w.alloc (.cells (keyA a) 25)).alloc (.cells (keyA b) 25)).heap.size = H + 1 + 1 := by rw [hH]; simp
  have HA := Lib.hid (show W2.rangeAt H 0 (keyA a).toList by
    have h := keyA_range w a 25
    rw [← hH] at h
    exact rangeAt_below h (show Below (H + 1) (w.alloc (.cells (keyA a) 25)) W2 by rw [hW2]; exact ((Below.refl _ _).alloc (by rw [e1]; exact Nat.le_refl _) _).alloc (by rw [e2]; omega) _) (by omega))
  have HB := Lib.hid (show W2.rangeAt (H + 1) 0 (keyA b).toList by
    have h := keyA_range (w.alloc (.cells (keyA a) 25)) b 25
    rw [e1] at h
    exact rangeAt_below h (show Below (H + 1 + 1) ((w.alloc (.cells (keyA a) 25)).alloc (.cells (keyA b) 25)) W2 by rw [hW2]; exact (Below.refl _ _).alloc (by rw [e2]; exact Nat.le_refl _) _) (by omega))
  have HC := Lib.hid (show W2.rangeAt (H + 1 + 1) 0 (keyA c).toList by
    have h := keyA_range ((w.alloc (.cells (keyA a) 25)).alloc (.cells (keyA b) 25)) c 25
    rw [e2] at h
    rw [hW2]
    exact h)
  have HS2 := Lib.hid (show W2.heap.size = H + 1 + 1 + 1 by rw [hW2, hH]; simp)
  have HBW := Lib.hid (show Below w.heap.size w W2 by rw [hW2]; exact (((Below.refl _ _).alloc (Nat.le_refl _) _).alloc (by simp) _).alloc (by simp; omega) _)
  have HG := Lib.hid (hg.out.keep HBW.out hg.out.1)
  have HAW := Lib.hid (fun (W : World) (k : Below W2.heap.size W2 W) (n : Seen W) => seen_awake W (Lib.hid (HG.out.keep k HG.out.1)) n)
  have HLA := Lib.hid (fun m : World => fun (k : Below W2.heap.size W2 m) => rangeAt_below HA.out k (by rw [HS2.out]; omega))
  have HLB := Lib.hid (fun m : World => fun (k : Below W2.heap.size W2 m) => rangeAt_below HB.out k (by rw [HS2.out]; omega))
  have HLC := Lib.hid (fun m : World => fun (k : Below W2.heap.size W2 m) => rangeAt_below HC.out k (by rw [HS2.out]; omega))
  have HIA := Lib.hid (info25 a ha.out)
  have HIB := Lib.hid (info25 b hb.out)
  have HIC := Lib.hid (info25 c hc.out)
  have HAB := Lib.hid (fun w => sha_Less a b w ha hb)
  have HBC := Lib.hid (fun w => sha_Less b c w hb hc)
  have HAC := Lib.hid (fun w => sha_Less a c w ha hc)
  have HBA := Lib.hid (fun w => sha_Less b a w hb ha)
  have HAA := Lib.hid (fun w => sha_Less a a w ha ha)
  have HRL := Lib.hid (fun w => ref_Less a b w ha hb)
  have HWA := Lib.hid (fun w => sha_Word a n w ha)
  have HRW := Lib.hid (fun w => ref_Word a n w ha lo hi)
  have HEQ := Lib.hid (eq_keys a b ha.out hb.out)
  have HTR := Lib.hid (lessL_trans a b c (by rw [ha.out, hb.out]) (by rw [hb.out, hc.out]))
  have HIF := Lib.hid (lessL_iff a b (by rw [ha.out, hb.out]))
  rw [lessL_same a] at HAA
  have HEB := Lib.hid (show (a == b) = (!lessL a b && !lessL b a) by
    rw [Bool.eq_iff_iff, beq_iff_eq, HIF.out]
    simp)
  rw [HEB.out] at HEQ
  clear HEB HIF
  obtain ⟨ka, hka⟩ : ∃ x, x = keyA a := ⟨_, rfl⟩
  obtain ⟨kb, hkb⟩ : ∃ x, x = keyA b := ⟨_, rfl⟩
  obtain ⟨kc, hkc⟩ : ∃ x, x = keyA c := ⟨_, rfl⟩
  rw [← hka] at hW2 HLA HIA HAB HAC HBA HAA HRL HWA HRW HEQ
  rw [← hkb] at hW2 HLB HIB HAB HBC HBA HRL HEQ
  rw [← hkc] at hW2 HLC HIC HBC HAC
  rw [← hka, ← hkb, ← hkc]
  generalize lessL a b = B1 at *
  generalize lessL b c = B2 at *
  generalize lessL a c = B3 at *
  generalize lessL b a = B4 at *
  generalize wordAt a (4 * (n % 8).toNat) = X at *
  have HW2 := Lib.hid hW2
  have HH := Lib.hid hH
  clear e1 e2 hW2 hH hka hkb hkc HA HB HC
  go_enter Tryd.func5, Tryd.ntmps5
  go_upto_region 1 with (fail)
  change Code.wp _ _ _ _ (((w.alloc (.cells ka 25)).alloc (.cells kb 25)).alloc (.cells kc 25))
  rw [← HW2.out, ← HH.out]
  obtain ⟨Hb, hHb⟩ : ∃ x, x = H + 1 := ⟨_, rfl⟩
  rw [← hHb] at HLB HLC ⊢
  obtain ⟨Hc, hHc⟩ : ∃ x, x = Hb + 1 := ⟨_, rfl⟩
  rw [← hHc] at HLC ⊢
  clear hHb hHc
  have hS : Hid (Below W2.heap.size W2 W2) := Lib.hid (Below.refl _ _)
  refine region_seen (by kernel_rfl) (by kernel_rfl) ?_
  repeat (first | (go_big_quiet_want; refine quiet_load_arr 25 (.tmp 4) rfl H 0 rfl ka _ (seen_range HLA.out hS.out) Tryd.underlying25 rfl HIA.out ?_; go_big_quiet_on; try go_frame) | (go_big_quiet_want; refine quiet_load_arr 25 (.tmp 5) rfl Hb 0 rfl kb _ (seen_range HLB.out hS.out) Tryd.underlying25 rfl HIB.out ?_; go_big_quiet_on; try go_frame) | go_big_quiet_step (first | (go_at_call 14; with_reducible exact seen_of HAB.out _ _) | (go_at_call 14; with_reducible exact seen_of HAA.out _ _) | (go_at_call 15; with_reducible exact seen_of HRL.out _ _) | (go_at_call 16; with_reducible exact seen_of HWA.out _ _) | (go_at_call 17; with_reducible exact seen_of HRW.out _ _)))
  refine wpQuiet_nil ?_
  rintro _ ⟨m1, rfl⟩
  have hB1 : Below W2.heap.size W2 m1.val := hS.out.trans (m1.below.mono hS.out.size)
  cases B1
  all_goals cases B2
  all_goals (try (rw [HTR.out rfl rfl] at HAC))
  all_goals
    go_upto_region 5 with (first | (refine wpList_load_arr (by rfl) 25 (.tmp 4) rfl H 0 rfl ka _ (HLA.out _ (by assumption)) Tryd.underlying25 rfl HIA.out ?_) | (refine wpList_load_arr (by rfl) 25 (.tmp 5) rfl Hb 0 rfl kb _ (HLB.out _ (by assumption)) Tryd.underlying25 rfl HIB.out ?_) | (refine wpList_load_arr (by rfl) 25 (.tmp 6) rfl Hc 0 rfl kc _ (HLC.out _ (by assumption)) Tryd.underlying25 rfl HIC.out ?_) | (go_at_call 14; (with_reducible refine (held_of HAB.out W2 _ (by assumption)).mono ?_); rintro e w' ⟨rfl, hB⟩) | (go_at_call 14; (with_reducible refine (held_of HBC.out W2 _ (by assumption)).mono ?_); rintro e w' ⟨rfl, hB⟩) | (go_at_call 14; (with_reducible refine (held_of HAC.out W2 _ (by assumption)).mono ?_); rintro e w' ⟨rfl, hB⟩))
    cases B4
  all_goals
    have heq := HEQ.out
    refine region_seen (by kernel_rfl) (by kernel_rfl) ?_
    repeat (first | (go_big_quiet_want; refine quiet_load_arr 25 (.tmp 4) rfl H 0 rfl ka _ (seen_range HLA.out (by assumption)) Tryd.underlying25 rfl HIA.out ?_; go_big_quiet_on; try go_frame) | (go_big_quiet_want; refine quiet_load_arr 25 (.tmp 5) rfl Hb 0 rfl kb _ (seen_range HLB.out (by assumption)) Tryd.underlying25 rfl HIB.out ?_; go_big_quiet_on; try go_frame) | go_big_quiet_step (first | (go_at_call 7; exact HAW.out _ (by assumption) _) | (go_at_call 14; with_reducible exact seen_of HAB.out _ _) | (go_at_call 14; with_reducible exact seen_of HBA.out _ _)))
    refine wpQuiet_nil ?_
    rintro _ ⟨m2, rfl⟩
    go_wp2
    go_ret
    exact ⟨rfl, HBW.out.trans ((Below.trans (by assumption) (m2.below.mono (Below.size (by assumption)))).mono HBW.out.size)⟩

theorem laidOut : laidOutB Tryd.prog = true := by kernel_rfl
theorem contract (H : Type) (enc : TypeId × Value → H) (W : World) (base : Nat) (args : Array Value) (ds gs : List (DataW H)) (before : List MemPlace)
    (hval : ∀ (j : Nat) t v, Tryd.f5.params[j]? = some t → args[j]? = some v → Value.okWide Tryd.prog W .any base t v)
    (hW : DataW.Whole enc Tryd.prog Tryd.f5.params.toList Rows.shaOrdersSpec.vars false W args.toList ds gs before) (hL : laidMetH Tryd.prog Rows.shaOrdersRow.laid W) :
    Calls Tryd.prog 5 args W fun e W' => ∃ v, e = .returned v ∧ Rows.shaOrdersSpec.post enc Tryd.prog Tryd.f5 false true false false W args v W' := by
  have hW' := hW
  obtain ⟨p, q, hA0, hV, rfl, hfz, hnd⟩ := hW
  have hA : DataW.TrodAll enc Tryd.prog W 0 (fun _ => true) true Tryd.f5.params.toList args.toList ds p := hA0
  rw [Tryd.params5] at hA hval
  obtain ⟨v0, vs0, d0, ds0, p0, q0, hargs0, rfl, rfl, h0, r0⟩ := trodAll_cons hA
  obtain ⟨v1, vs1, d1, ds1, p1, q1, rfl, rfl, rfl, h1, r1⟩ := trodAll_cons r0
  obtain ⟨v2, vs2, d2, ds2, p2, q2, rfl, rfl, rfl, h2, r2⟩ := trodAll_cons r1
  obtain ⟨v3, vs3, d3, ds3, p3, q3, rfl, rfl, rfl, h3, r3⟩ := trodAll_cons r2
  obtain ⟨rfl, rfl, rfl⟩ := trodAll_nil r3
  obtain rfl : args = #[v0, v1, v2, v3] := by cases args; simp_all
  obtain ⟨rfl, rfl⟩ := trodVars_none hV
  obtain ⟨l0, hl0, rfl⟩ := open_key (hval 0 25 v0 rfl rfl) h0
  obtain ⟨l1, hl1, rfl⟩ := open_key (hval 1 25 v1 rfl rfl) h1
  obtain ⟨l2, hl2, rfl⟩ := open_key (hval 2 25 v2 rfl rfl) h2
  have k3s := h3
  obtain ⟨n3, rfl, ed3, ep3, wf3⟩ := open_int Tryd.underlying3 (hval 3 3 v3 rfl rfl) k3s
  obtain ⟨lo3, hi3⟩ : -9223372036854775808 ≤ n3 ∧ n3 ≤ 9223372036854775807 := by simp [Lit.wf, IntKind.min, IntKind.max, IntKind.signed, IntKind.bits] at wf3; omega
  have lt0 : ∀ x ∈ p0, x.block < W.heap.size := by obtain ⟨m, hm⟩ := h0; exact DataW.trod_lt m _ _ _ hm
  have lt1 : ∀ x ∈ p1, x.block < W.heap.size := by obtain ⟨m, hm⟩ := h1; exact DataW.trod_lt m _ _ _ hm
  have lt2 : ∀ x ∈ p2, x.block < W.heap.size := by obtain ⟨m, hm⟩ := h2; exact DataW.trod_lt m _ _ _ hm
  have lt3 : ∀ x ∈ p3, x.block < W.heap.size := by obtain ⟨m, hm⟩ := h3; exact DataW.trod_lt m _ _ _ hm
  clear hA0
  simp only [List.append_nil] at hW'
  refine (core l0 l1 l2 n3 W (Lib.hid hl0) (Lib.hid hl1) (Lib.hid hl2) lo3 hi3 (Lib.hid (glob_of hL))).mono fun e W' ⟨he, bel⟩ => ?_
  subst he
  exact ⟨_, rfl, _, _, _, [], _, [], hW', trodAll_mk1 (shut_bool Tryd.underlying4 _), (trodAll_cons_mk (Below.trod laidOut (by kernel_rfl) (of_decide_eq_true (by kernel_rfl)) h0 bel lt0) (trodAll_cons_mk (Below.trod laidOut (by kernel_rfl) (of_decide_eq_true (by kernel_rfl)) h1 bel lt1) (trodAll_cons_mk (Below.trod laidOut (by kernel_rfl) (of_decide_eq_true (by kernel_rfl)) h2 bel lt2) (trodAll_cons_mk (Below.trod laidOut (by kernel_rfl) (of_decide_eq_true (by kernel_rfl)) h3 bel lt3) trodAll_mk0)))), rfl, bel.frame _, fun h => by cases h⟩

theorem laid_met (os : Os) : laidMet Tryd.prog Rows.shaOrdersRow.laid ((laidWorld os).forCall (fun _ _ => 0) ⟨#[], #[.agg (Array.replicate 32 (.int .u8 0)), .agg (Array.replicate 32 (.int .u8 0)), .agg (Array.replicate 32 (.int .u8 0)), .int .i64 0], []⟩).memory :=
  laidMet_of_run' 8 (by kernel_rfl) (by kernel_rfl)
theorem reads (os : Os) {H : Type} (enc : TypeId × Value → H) : ∃ places, DataW.whole enc Tryd.prog ((laidWorld os).forCall (fun _ _ => 0) ⟨#[], #[.agg (Array.replicate 32 (.int .u8 0)), .agg (Array.replicate 32 (.int .u8 0)), .agg (Array.replicate 32 (.int .u8 0)), .int .i64 0], []⟩).memory Tryd.f5.params.toList Rows.shaOrdersSpec.vars false #[Value.agg (Array.replicate 32 (Value.int .u8 0)), Value.agg (Array.replicate 32 (Value.int .u8 0)), Value.agg (Array.replicate 32 (Value.int .u8 0)), Value.int .i64 0].toList 8 = some ([.agg (List.replicate 32 (.lit (.int .u8 0))), .agg (List.replicate 32 (.lit (.int .u8 0))), .agg (List.replicate 32 (.lit (.int .u8 0))), .lit (.int .i64 0)], [], places) :=
  ⟨[], by kernel_rfl⟩

set_option maxRecDepth 100000 in
theorem lifted (os : Os) (started : os.Started) (H : Type) (enc : TypeId × Value → H) (F : Stop.Interp) :
    ReturnsInHanded {} Tryd.checked os 5 .any ((OpenSpec.ofChange Rows.shaOrdersSpec).preRow enc Tryd.prog Tryd.f5 Rows.shaOrdersRow.domain false Rows.shaOrdersRow.laid) (((OpenSpec.ofChange Rows.shaOrdersSpec).at F).post enc Tryd.prog Tryd.f5 false true false false) := by
  obtain ⟨places, hx⟩ := reads os enc
  refine returnsInHanded_of_row (C := Tryd.checked) (s := OpenSpec.ofChange Rows.shaOrdersSpec) own started (by kernel_rfl) Tryd.func5
    (witness_row_at (enc := enc) (C := Tryd.checked) false (laidWorld os) #[.agg (Array.replicate 32 (.int .u8 0)), .agg (Array.replicate 32 (.int .u8 0)), .agg (Array.replicate 32 (.int .u8 0)), .int .i64 0] rfl (by kernel_rfl) (by kernel_rfl) (by kernel_rfl)
      (OpenSpec.preRow_of_cond 8 hx (by kernel_rfl) (fun k hk => by cases hk) (by kernel_rfl) (laid_met os))) ?_
  intro W base args ds gs before hval hW _ _ _ hL _ _
  exact contract H enc W base args ds gs before hval hW hL

theorem said : Rows.ShaOrdersSaid :=
  OpenClaim.holds_of_cond 5 Tryd.f5 rfl rfl rfl rfl rfl rfl rfl ⟨rfl, rfl, rfl, rfl, rfl⟩ rfl rfl rfl rfl rfl (by kernel_rfl) Tryd.func5 (by kernel_rfl)
    (of_decide_eq_true (by kernel_rfl)) (by unfold Func.isWrapper; first | (rw [if_pos (by decide +kernel)]; kernel_rfl) | (rw [if_neg (by decide +kernel)]; exact ⟨rfl, rfl⟩))
    (fun os started H enc _ F => by rw [OpenClaim.pre_eq_preRow]; exact lifted os started H enc F)

/-- No parameter wants a stand-in; the program's own looks are off. -/
theorem plain (f : FuncId) (fn : Func) (hf : Tryd.pinned.checked.prog.funcNamed "silo/silolaw03.ShaOrders" = some f) (hfn : Tryd.pinned.checked.prog.funcs[f]? = some fn) :
    false = Tryd.pinned.checked.prog.looks [] ∧ ∀ (j : Nat) t, fn.params[j]? = some t → Tryd.pinned.checked.prog.wantsStandIn t = false := by
  obtain rfl : f = 5 := Option.some.inj ((show Tryd.prog.funcNamed "silo/silolaw03.ShaOrders" = some 5 by kernel_rfl).symm.trans hf) |>.symm
  obtain rfl : fn = Tryd.f5 := (Option.some.inj (Tryd.func5.symm.trans hfn)).symm
  refine ⟨by kernel_rfl, fun j t ht => ?_⟩
  rw [Tryd.params5] at ht
  have hm : t ∈ [25, 25, 25, 3] := by simpa using Array.mem_of_getElem? ht
  have hall : ([25, 25, 25, 3].all fun u => !Tryd.prog.wantsStandIn u) = true := by kernel_rfl
  exact (show Tryd.prog.wantsStandIn t = false by simpa using List.all_eq_true.1 hall t hm)

/-- ████ THE CARD ████ -/
theorem proved : Rows.ShaOrdersCardSaid :=
  Claim7.holds_tied_plain_at .later [] _ _ _ _ said (fun _ h => by cases h) (by kernel_rfl) (fun _ h => by cases h) shaOrders_row_tie rfl ⟨rfl, rfl⟩ (by kernel_rfl) rfl plain (by kernel_rfl)
#print axioms proved
end Go.Proofs.YthgbjanefljjcaaDoor.shaOrders
