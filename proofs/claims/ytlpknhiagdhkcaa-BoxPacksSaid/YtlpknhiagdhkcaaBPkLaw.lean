/- BoxPacks -/
import Derived.Test.YtlpknhiagdhkcaaRows
import Derived.Test.YtlpknhiagdhkcaaBPk06
import Derived.SliceStrings
import Derived.ChangeOld
import Derived.ShutString
import Derived.ProofKit
import Derived.OpenShut
import Derived.WalkKit
import Derived.Below
/- BoxPacks: for every record, packing it answers the document's bytes, or its error. -/
set_option linter.unusedVariables false
set_option maxRecDepth 100000
namespace Go.Proofs.Ytlpknhiagdhkcaa.LBoxPacks
open Go.ChangeShapes Go.WideShapes Go.ChangeAt Go.RowKit
open Go.ChangeMaps (open_string shut_string)


set_option maxHeartbeats 4000000 in
theorem core (r : RecB) (w : World) (hr : r.Ok ∧ r.body.length ≤ 9223372036854775807) : Calls Try.prog 3 #[.agg (recA r)] w fun e w' => e = .returned (.bool true) ∧ Below w.heap.size w w' := by
  obtain ⟨B, hB⟩ : ∃ B, B = w.heap.size := ⟨_, rfl⟩
  obtain ⟨w1, hw1⟩ : ∃ w1, w1 = w.alloc (.cells (recA r) 25) := ⟨_, rfl⟩
  have K1 := Lib.hid (show Below w.heap.size w w1 by rw [hw1]; exact (Below.refl _ w).alloc (Nat.le_refl _) _)
  have N1 := Lib.hid (show RecIn B 25 r w1 by rw [hw1, hB]; exact RecIn.new w _ _)
  have HB := Lib.hid hB
  have HW := Lib.hid hw1
  have HR := Lib.hid hr.1
  have hsz : (bs r.body).size = r.body.length := bs_size _
  clear hB hw1 hr
  go_enter Try.func3, Try.ntmps3
  go_wp2_with fail
  rw [← HB.out, ← HW.out]
  refine (law_awake17 w1).mono ?_
  rintro e w2 ⟨rfl, k2⟩
  have N2 := Lib.hid (N1.out.below k2 N1.out.lt)
  have K2 := Lib.hid (K1.out.trans (k2.mono K1.out.size))
  have c65 := N2.out.body HR.out
  clear k2
  by_cases h1 : 30000 < r.body.length
  · have h1' : (30000 : Int) < ((bs r.body).size : Int) := by rw [hsz]; omega
    clear h1 hsz
    go_wp2_with fail
    refine (law_awake17 w2).mono ?_
    rintro e w3 ⟨rfl, k3⟩
    have K3 := Lib.hid (K2.out.trans (k3.mono K2.out.size))
    clear k3
    go_wp2
    go_ret
    exact ⟨rfl, K3.out⟩
  · have h1' : ¬ (30000 : Int) < ((bs r.body).size : Int) := by rw [hsz]; omega
    have hb : r.body.length ≤ 1000000000000 := by omega
    clear h1 hsz
    have HRG := Lib.hid N2.out.range
    have IL := Lib.hid (show (Try.prog.info? 25).map (·.size) = some (recA r).toList.length by simpa using info_refA HR.out)
    go_wp2_with (first | (refine wpList_load_mid rfl 25 (.tmp 1) rfl B 0 rfl (recA r).toList _ HRG.out Try.underlying25 rfl IL.out ?_; rw [Array.toArray_toList]) | fail)
    refine (law_theirs r w2 HR.out).mono ?_
    rintro e w3 ⟨rfl, k3⟩
    have N3 := Lib.hid (N2.out.below k3 N2.out.lt)
    have K3 := Lib.hid (K2.out.trans (k3.mono K2.out.size))
    clear k3
    go_wp2_with fail
    refine (box_Pack r w3 HR.out hb).mono ?_
    rintro e w4 ⟨rfl, k4⟩
    have N4 := Lib.hid (N3.out.below k4 N3.out.lt)
    have K4 := Lib.hid (K3.out.trans (k4.mono K3.out.size))
    have HRG4 := Lib.hid N4.out.range
    clear k4
    go_wp2_with (first | (refine wpList_load_mid rfl 25 (.tmp 1) rfl B 0 rfl (recA r).toList _ HRG4.out Try.underlying25 rfl IL.out ?_; rw [Array.toArray_toList]) | fail)
    refine (ref_Pack r w4 HR.out hb).mono ?_
    rintro e w5 ⟨rfl, k5⟩
    have K5 := Lib.hid (K4.out.trans (k5.mono K4.out.size))
    clear k5
    generalize bs (packT r) = P at *
    generalize packE r = z at *
    go_wp2
    go_ret
    exact ⟨by simp, K5.out⟩

theorem own : ownKnob Try.prog.godebug = none := by kernel_rfl
theorem laidOut : laidOutB Try.prog = true := by kernel_rfl
theorem contract (H : Type) (enc : TypeId × Value → H) (W : World) (base : Nat) (args : Array Value) (ds gs : List (DataW H)) (before : List MemPlace)
    (hval : ∀ (j : Nat) t v, Try.f3.params[j]? = some t → args[j]? = some v → Value.okWide Try.prog W .any base t v)
    (hW : DataW.Whole enc Try.prog Try.f3.params.toList Rows.boxPacksSpec.vars false W args.toList ds gs before) :
    Calls Try.prog 3 args W fun e W' => ∃ v, e = .returned v ∧ Rows.boxPacksSpec.post enc Try.prog Try.f3 false true false false W args v W' := by
  have hW' := hW
  obtain ⟨p, q, hA0, hV, rfl, hfz, hnd⟩ := hW
  have hA : DataW.TrodAll enc Try.prog W 0 (fun _ => true) true Try.f3.params.toList args.toList ds p := hA0
  rw [Try.params3] at hA hval
  obtain ⟨v0, vs0, d0, ds0, p0, q0, hargs0, rfl, rfl, h0, r0⟩ := trodAll_cons hA
  obtain ⟨rfl, rfl, rfl⟩ := trodAll_nil r0
  obtain rfl : args = #[v0] := by cases args; simp_all
  obtain ⟨rfl, rfl⟩ := trodVars_none hV
  obtain ⟨cs0, rfl, sz0⟩ := okWide_struct Try.underlying25 (hval 0 25 v0 rfl rfl)
  have k0 := h0
  have lt0 : ∀ x ∈ p0, x.block < W.heap.size := by obtain ⟨m, hm⟩ := k0; exact DataW.trod_lt m _ _ _ hm
  obtain ⟨R0, rfl, i0⟩ := open_rec h0
  clear hA0
  simp only [List.append_nil] at hW'
  refine (core R0 W i0).mono fun e W' ⟨he, bel⟩ => ?_
  subst he
  exact ⟨_, rfl, _, _, _, [], _, [], hW', trodAll_mk1 (shut_bool Try.underlying4 _), (trodAll_cons_mk (Below.trod laidOut (by kernel_rfl) (of_decide_eq_true (by kernel_rfl)) k0 bel lt0) trodAll_mk0), rfl, bel.frame _, fun h => by cases h⟩

set_option maxRecDepth 100000 in
theorem lifted (os : Os) (started : os.Started) (H : Type) (enc : TypeId × Value → H) :
    ReturnsInHanded {} Try.checked os 3 .any (Rows.boxPacksSpec.pre6 enc Try.prog Try.f3 Rows.boxPacksRow.domain false) (Rows.boxPacksSpec.post enc Try.prog Try.f3 false true false false) := by
  refine returnsInHanded_of_change (C := Try.checked) own started (by kernel_rfl) Try.func3
    (ChangeSpec.witness6 (enc := enc) (C := Try.checked) false ⟨#[], #[.agg #[.int .u8 0, .int .u8 0, .int .u8 0, .int .u8 0, .int .u8 0, .int .u8 0, .int .u8 0, .int .u8 0, .int .u8 0, .int .u8 0, .int .u8 0, .int .u8 0, .int .u8 0, .int .u8 0, .int .u8 0, .int .u8 0, .int .u8 0, .int .u8 0, .int .u8 0, .int .u8 0, .int .u8 0, .int .u8 0, .int .u8 0, .int .u8 0, .int .u8 0, .int .u8 0, .int .u8 0, .int .u8 0, .int .u8 0, .int .u8 0, .int .u8 0, .int .u8 0, .int .u8 0, .int .u8 0, .int .u8 0, .int .u8 0, .int .u8 0, .int .u8 0, .int .u8 0, .int .u8 0, .int .u8 0, .int .u8 0, .int .u8 0, .int .u8 0, .int .u8 0, .int .u8 0, .int .u8 0, .int .u8 0, .int .u8 0, .int .u8 0, .int .u8 0, .int .u8 0, .int .u8 0, .int .u8 0, .int .u8 0, .int .u8 0, .int .u8 0, .int .u8 0, .int .u8 0, .int .u8 0, .int .u8 0, .int .u8 0, .int .u8 0, .int .u8 0, .bool false, .string ByteArray.empty]], []⟩ 8 (by kernel_rfl) (by kernel_rfl) (by kernel_rfl) (by kernel_rfl)) ?_
  intro W base args ds gs before hval hW _ _
  exact contract H enc W base args ds gs before hval hW

theorem over : Rows.boxPacksRow.holds Try.pinned (OpenSpec.ofChange Rows.boxPacksSpec) :=
  OpenClaim.holds_of_wide 3 Try.f3 rfl rfl rfl rfl rfl rfl rfl ⟨rfl, rfl, rfl, rfl, rfl⟩ rfl rfl rfl rfl rfl (by kernel_rfl) Try.func3 (by kernel_rfl)
    (of_decide_eq_true (by kernel_rfl)) (by unfold Func.isWrapper; first | (rw [if_pos (by decide +kernel)]; kernel_rfl) | (rw [if_neg (by decide +kernel)]; exact ⟨rfl, rfl⟩))
    (fun os started H enc _ => lifted os started H enc)

/-- ████ THE STATEMENT ████ -/
theorem proved : Rows.BoxPacksSaid :=
  over
#print axioms proved
end Go.Proofs.Ytlpknhiagdhkcaa.LBoxPacks
