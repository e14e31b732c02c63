/- BlockPacks: any entries have the document's bytes, or are refused as it says. For every input; no condition. -/
import Derived.Test.YtmmdhmhcfpghfaaRows
import Derived.Test.YtmmdhmhcfpghfaaBlockIn
import Derived.Test.YtmmdhmhcfpghfaaBlockRefPack
import Derived.Test.YtmmdhmhcfpghfaaBlockRefCheck
import Derived.Test.YtmmdhmhcfpghfaaBlockSame
import Derived.SliceStrings
import Derived.ChangeOld
import Derived.ShutString
import Derived.ProofKit
import Derived.OpenShut
import Derived.WalkKit
import Derived.Below
set_option linter.unusedVariables false
set_option maxRecDepth 100000
namespace Go.Proofs.Ytmmdhmhcfpghfaa.blockPacks
open Go.ChangeShapes Go.WideShapes Go.ChangeAt Go.RowKit
open Go.ChangeMaps (open_string shut_string)

theorem chkGo_small : ∀ (T : List Ent) (first : Bool) (last : List UInt8), chkGo first last T = 0 → smallE T
  | T, first, last, h => smallE_of ((chkGo_ok T first last).1 h)
/-- A slice of entries that came in, as the source of an append. -/
theorem src_ents {w : World} {a : Option Addr} {n : Nat} (c : Nat) {T : List Ent} (h : IsE w a n T) : Src Try.prog 3 22 (.slice a n c) n (ecells T) w := by
  obtain ⟨hn, b, off, hab, hz⟩ := h
  cases a with
  | none =>
    have h0 : n = 0 := hab.resolve_right (by simp)
    subst h0
    obtain rfl : T = [] := List.eq_nil_of_length_eq_zero hn.symm
    exact Src.ofNil w Try.underlying22 c
  | some x =>
    refine Src.ofSlice w Try.underlying22 x n c _ (by rw [ecells_len, hn]) (fun j u hu => ?_) (fun v hv => ?_)
    · have hj : j < T.length * 3 := by rw [← ecells_len]; exact (List.getElem?_eq_some_iff.1 hu).1
      obtain ⟨i, q, hq, rfl⟩ : ∃ i q, q < 3 ∧ j = i * 3 + q := ⟨j / 3, j % 3, by omega, by omega⟩
      have hi : i < T.length := by omega
      have hx := List.getElem?_eq_getElem hi
      rw [ecells_at T i q _ hq hx] at hu
      have := hab.resolve_left (by omega)
      injection this with this
      subst this
      rw [addr_add, ← Nat.add_assoc]
      have hc := hz i hi
      match q, hq with
      | 0, _ => rw [← hu]; exact hc.c0
      | 1, _ => rw [← hu]; exact hc.c1
      | 2, _ => rw [← hu]; exact hc.c2
    · obtain ⟨e, _, hv⟩ := List.mem_flatMap.1 hv
      simp [Ent.vals] at hv
      rcases hv with rfl | rfl | rfl <;> rfl
theorem off_empty (w : World) {B : Nat} (hB : B ≤ w.heap.size) (e : TypeId) (size : Nat) : OffRow (w.alloc (.cells #[] e)) B e size (.slice (some ⟨w.heap.size, 0, none⟩) 0 0) 0 [] :=
  ⟨by simp, .inr ⟨w.heap.size, 0, 0, #[], rfl, hB, heap_new w _, Nat.le_refl _, by unfold maxLen; omega, by simp, fun j hj => by simp at hj⟩⟩

set_option maxHeartbeats 4000000 in
theorem core (a : Option Addr) (len cap : Nat) (T : List Ent) (w : World) (h : InE w a len cap T) :
    Calls Try.prog 3 #[.slice a len cap] w fun e w' => e = .returned (.bool true) ∧ Below w.heap.size w w' := by
  obtain ⟨his, hbig, hroom, hfit⟩ := h
  obtain ⟨i0, hi, hz0, hz1, hz2⟩ := info_parts infoE
  have HIS := Lib.hid his
  have HFIT := Lib.hid hfit
  clear his hfit
  go_enter Try.func3, Try.ntmps3
  go_wp2_with fail
  refine (law_awake w).mono ?_
  rintro e w1 ⟨rfl, k1⟩
  have K1 := Lib.hid k1
  clear k1
  go_wp2_with fail
  refine (law_few a len cap T w1 (Lib.hid (HIS.out.below K1.out)) hbig HFIT).mono ?_
  rintro e w2 ⟨rfl, k2⟩
  have K2 := Lib.hid (K1.out.trans (k2.mono K1.out.size))
  clear k2
  obtain ⟨r, hr⟩ : ∃ r, r = fewB T := ⟨_, rfl⟩
  rw [← hr]
  have HR := Lib.hid hr
  clear hr
  cases r with
  | false =>
    go_wp2_with fail
    refine (law_awake w2).mono ?_
    rintro e w3 ⟨rfl, k3⟩
    have K3 := Lib.hid k3
    clear k3
    go_wp2_with fail
    go_ret
    exact ⟨rfl, K2.out.trans (K3.out.mono K2.out.size)⟩
  | true =>
    have hfew := Lib.hid (few_of HR.out.symm)
    have hlen : len ≤ 3001 := by rw [HIS.out.1]; exact hfew.out.1
    have HLEN := Lib.hid HIS.out.1
    go_wp2_with (at_builtin; refine wpList_append_off rfl (.tmp 15) (.tmp 16) 22 rfl w.heap.size 44 i0 _ 3 40 Try.underlying22 hi hz0 hz1 hz2 rfl (.slice (some ⟨w2.heap.size, 0, none⟩) 0 0) 0 [] rfl (off_empty w2 K2.out.size _ _) (.slice a len cap) rfl len (ecells T) ?c2 ?c3 ?c4 ?c5 ?_)
    case c2 => exact src_ents cap (HIS.out.below (K2.out.alloc K2.out.size _))
    case c3 => unfold maxLen; omega
    case c4 => omega
    case c5 => have := K2.out.size; simp; omega
    intro v3 w3 hr3 hg3 _
    have O3 : OwnE w3 w.heap.size v3 T := by
      unfold OwnE
      rw [← HLEN.out]
      exact hr3
    obtain ⟨a3, cap3, hv3⟩ := O3.slice
    rw [← HLEN.out] at hv3
    subst hv3
    have E3 := Lib.hid (O3.is HLEN.out)
    have K3 := Lib.hid ((K2.out.alloc K2.out.size (.cells #[] 44)).grown hg3 (by have := K2.out.size; simp; omega) (fun k hk => by
      injection hk with hk
      rw [← hk]
      exact K2.out.size))
    clear hr3 hg3 O3 hi hz0 hz1 hz2
    go_wp2_with fail
    refine (block_Pack a3 len cap3 T w3 E3 hbig HFIT).mono ?_
    rintro e w4 ⟨rfl, k4⟩
    have E4 := Lib.hid (E3.out.below k4)
    have K4 := Lib.hid (K3.out.trans (k4.mono K3.out.size))
    clear k4
    go_wp2_with fail
    refine (ref_Check a len cap T w4 (Lib.hid (HIS.out.below K4.out)) hbig HFIT).mono ?_
    rintro e w5 ⟨rfl, k5⟩
    have E5 := Lib.hid (E4.out.below k5)
    have K5 := Lib.hid (K4.out.trans (k5.mono K4.out.size))
    clear k5
    have HCK := Lib.hid (block_Check a3 len cap3 T w5 E5 hbig HFIT)
    obtain ⟨z, hz⟩ : ∃ z, z = chkE T := ⟨_, rfl⟩
    obtain ⟨P, hP⟩ : ∃ P, P = packB T := ⟨_, rfl⟩
    rw [← hz] at HCK ⊢
    rw [← hP]
    have HZ := Lib.hid hz
    have HP := Lib.hid hP
    clear hz hP
    go_wp2_with fail
    refine HCK.out.mono ?_
    rintro e w6 ⟨rfl, k6⟩
    have E6 := Lib.hid (E5.out.below k6)
    have K6 := Lib.hid (K5.out.trans (k6.mono K5.out.size))
    clear k6
    go_wp2_with fail
    refine (ref_Same a3 a len cap3 cap T w6 E6 (Lib.hid (HIS.out.below K6.out)) hbig).mono ?_
    rintro e w7 ⟨rfl, k7⟩
    have K7 := Lib.hid (K6.out.trans (k7.mono K6.out.size))
    clear k7
    by_cases h0 : z = 0
    · subst h0
      have hok := (chkE_ok T).1 HZ.out.symm
      have HSM := Lib.hid (smallE_of hok.1)
      have HPB := Lib.hid (show P = listB T ++ four (sumL (listB T)) by rw [HP.out]; unfold packB; rw [if_pos HZ.out.symm])
      clear hok
      go_wp2_with fail
      refine (ref_Pack a len cap T w7 (Lib.hid (HIS.out.below K7.out)) (by omega) HSM).mono ?_
      rintro e w8 ⟨rfl, k8⟩
      rw [← HPB.out]
      have K8 := Lib.hid (K7.out.trans (k8.mono K7.out.size))
      have heq : ((bs P).toList == (bs P).toList) = true := by simp
      clear k8
      go_wp2_with fail
      go_ret
      exact ⟨rfl, K8.out⟩
    · have hzb : (z == 0) = false := beq_eq_false_iff_ne.2 h0
      have HPB := Lib.hid (show P = [] by rw [HP.out]; unfold packB; rw [if_neg (by rw [← HZ.out]; exact h0)])
      rw [HPB.out]
      have heq : ((bs []).toList == []) = true := by rw [Lib.toList_data, bs_list]; rfl
      have heq2 : (bs []).toList.isEmpty = true := by rw [Lib.toList_data, bs_list]; rfl
      have heq3 : (bs []).toList = [] := by rw [Lib.toList_data, bs_list]
      clear h0
      go_wp2_with fail
      go_ret
      exact ⟨rfl, K7.out⟩

theorem own : ownKnob Try.prog.godebug = none := by kernel_rfl
theorem laidOut : laidOutB Try.prog = true := by kernel_rfl
theorem contract (H : Type) (enc : TypeId × Value → H) (W : World) (base : Nat) (args : Array Value) (ds gs : List (DataW H)) (before : List MemPlace)
    (hval : ∀ (j : Nat) t v, Try.f3.params[j]? = some t → args[j]? = some v → Value.okWide Try.prog W .any base t v)
    (hW : DataW.Whole enc Try.prog Try.f3.params.toList Rows.blockPacksSpec.vars false W args.toList ds gs before) :
    Calls Try.prog 3 args W fun e W' => ∃ v, e = .returned v ∧ Rows.blockPacksSpec.post enc Try.prog Try.f3 false true false false W args v W' := by
  have hW' := hW
  obtain ⟨p, q, hA0, hV, rfl, hfz, hnd⟩ := hW
  have hA : DataW.TrodAll enc Try.prog W 0 (fun _ => true) true Try.f3.params.toList args.toList ds p := hA0
  rw [Try.params3] at hA hval
  obtain ⟨v0, vs0, d0, ds0, p0, q0, hargs0, rfl, rfl, h0, r0⟩ := trodAll_cons hA
  obtain ⟨rfl, rfl, rfl⟩ := trodAll_nil r0
  obtain rfl : args = #[v0] := by cases args; simp_all
  obtain ⟨rfl, rfl⟩ := trodVars_none hV
  obtain ⟨a0, len0, cap0, rfl⟩ := okWide_slice Try.underlying22 (hval 0 22 v0 rfl rfl)
  have k0 := h0
  have lt0 : ∀ x ∈ p0, x.block < W.heap.size := by obtain ⟨m, hm⟩ := k0; exact DataW.trod_lt m _ _ _ hm
  obtain ⟨T0, i0⟩ := open_ents h0
  clear hA0
  simp only [List.append_nil] at hW'
  refine (core a0 len0 cap0 T0 W i0).mono fun e W' ⟨he, bel⟩ => ?_
  subst he
  exact ⟨_, rfl, _, _, _, [], _, [], hW', trodAll_mk1 (shut_bool Try.underlying4 _), (trodAll_cons_mk (Below.trod laidOut (by kernel_rfl) (of_decide_eq_true (by kernel_rfl)) k0 bel lt0) trodAll_mk0), rfl, bel.frame _, fun h => by cases h⟩

set_option maxRecDepth 100000 in
theorem lifted (os : Os) (started : os.Started) (H : Type) (enc : TypeId × Value → H) :
    ReturnsInHanded {} Try.checked os 3 .any (Rows.blockPacksSpec.pre6 enc Try.prog Try.f3 Rows.blockPacksRow.domain false) (Rows.blockPacksSpec.post enc Try.prog Try.f3 false true false false) := by
  refine returnsInHanded_of_change (C := Try.checked) own started (by kernel_rfl) Try.func3
    (ChangeSpec.witness6 (enc := enc) (C := Try.checked) false ⟨#[], #[.slice none 0 0], []⟩ 8 (by kernel_rfl) (by kernel_rfl) (by kernel_rfl) (by kernel_rfl)) ?_
  intro W base args ds gs before hval hW _ _
  exact contract H enc W base args ds gs before hval hW

theorem over : Rows.blockPacksRow.holds Try.pinned (OpenSpec.ofChange Rows.blockPacksSpec) :=
  OpenClaim.holds_of_wide 3 Try.f3 rfl rfl rfl rfl rfl rfl rfl ⟨rfl, rfl, rfl, rfl, rfl⟩ rfl rfl rfl rfl rfl (by kernel_rfl) Try.func3 (by kernel_rfl)
    (of_decide_eq_true (by kernel_rfl)) (by unfold Func.isWrapper; first | (rw [if_pos (by decide +kernel)]; kernel_rfl) | (rw [if_neg (by decide +kernel)]; exact ⟨rfl, rfl⟩))
    (fun os started H enc _ => lifted os started H enc)

/-- ████ THE STATEMENT ████ -/
theorem proved : Rows.BlockPacksSaid :=
  over
#print axioms proved
end Go.Proofs.Ytmmdhmhcfpghfaa.blockPacks
