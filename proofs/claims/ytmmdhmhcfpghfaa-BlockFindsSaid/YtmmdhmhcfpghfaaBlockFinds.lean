/- BlockFinds: of entries by rising keys the first one that isn't below a key is found, of any others some place. For every input; no condition. -/
import Derived.Test.YtmmdhmhcfpghfaaRows
import Derived.Test.YtmmdhmhcfpghfaaBlockIn
import Derived.SliceStrings
import Derived.ChangeOld
import Derived.ShutString
import Derived.ProofKit
import Derived.OpenShut
import Derived.WalkKit
import Derived.Below
set_option linter.unusedVariables false
set_option maxRecDepth 100000
namespace Go.Proofs.Ytmmdhmhcfpghfaa.blockFinds
open Go.ChangeShapes Go.WideShapes Go.ChangeAt Go.RowKit
open Go.ChangeMaps (open_string shut_string)

set_option maxHeartbeats 2000000 in
theorem core (a : Option Addr) (len cap : Nat) (T : List Ent) (key : ByteArray) (w : World) (h : InE w a len cap T) (hk : key.size ≤ maxLen) :
    Calls Try.prog 6 #[.slice a len cap, .string key] w fun e w' => e = .returned (.bool true) ∧ Below w.heap.size w w' := by
  obtain ⟨his, hbig, hroom, hfit⟩ := h
  obtain ⟨kl, hkl⟩ : ∃ kl, kl = key.data.toList := ⟨_, rfl⟩
  obtain rfl : key = bs kl := by rw [hkl]; exact bs_eq rfl
  have HIS := Lib.hid his
  have HFIT := Lib.hid hfit
  clear his hfit hkl hk
  go_enter Try.func6, Try.ntmps6
  go_wp2_with fail
  refine (law_awake w).mono ?_
  rintro e w1 ⟨rfl, k1⟩
  have K1 := Lib.hid k1
  clear k1
  go_wp2_with fail
  refine (law_few a len cap T w1 (Lib.hid (HIS.out.below K1.out)) hbig HFIT).mono ?_
  rintro e w2 ⟨rfl, k2⟩
  have K2 := Lib.hid (K1.out.trans (k2.mono K1.out.size))
  clear k2
  obtain ⟨r, hr⟩ : ∃ r, r = fewB T := ⟨_, rfl⟩
  rw [← hr]
  have HR := Lib.hid hr
  clear hr
  cases r with
  | false =>
    go_wp2_with fail
    refine (law_awake w2).mono ?_
    rintro e w3 ⟨rfl, k3⟩
    have K3 := Lib.hid k3
    clear k3
    go_wp2_with fail
    go_ret
    exact ⟨rfl, K2.out.trans (K3.out.mono K2.out.size)⟩
  | true =>
    have hfew := Lib.hid (few_of HR.out.symm)
    have hlen : len ≤ 3001 := by rw [HIS.out.1]; exact hfew.out.1
    go_wp2_with fail
    refine (block_Find a len cap T kl w2 (Lib.hid (HIS.out.below K2.out)) (by omega)).mono ?_
    rintro e w3 ⟨⟨r, rfl, hr1, _, _⟩, k3⟩
    have hr2 : r ≤ len := by rw [HIS.out.1]; exact hr1
    have K3 := Lib.hid (K2.out.trans (k3.mono K2.out.size))
    clear k3 hr1
    go_wp2_with fail
    refine (law_rising a len cap T w3 (Lib.hid (HIS.out.below K3.out)) hlen (Lib.hid hfew.out.2)).mono ?_
    rintro e w4 ⟨⟨a4, c4, rfl, hE4⟩, k4⟩
    have HE4 := Lib.hid hE4
    have K4 := Lib.hid (K3.out.trans (k4.mono K3.out.size))
    have HRS := Lib.hid (rising_rises T)
    have hRl : (rising T).length ≤ 3001 := Nat.le_trans (rising_len T) hfew.out.1
    clear hE4 k4
    generalize rising T = R at *
    obtain ⟨n, hn⟩ : ∃ n, n = R.length := ⟨_, rfl⟩
    rw [← hn] at hRl HE4 ⊢
    have HN := Lib.hid hn
    clear hn
    go_wp2_with fail
    refine (block_Find a4 n c4 R kl w4 (Lib.hid HE4.out) (by omega)).mono ?_
    rintro e w5 ⟨⟨q, rfl, hq1, hq2, hq3⟩, k5⟩
    have HP := Lib.hid (find_place HRS.out hq1 hq2 hq3)
    have hq : q ≤ n := by rw [HN.out]; exact hq1
    have E5 := Lib.hid (HE4.out.below k5)
    have K5 := Lib.hid (K4.out.trans (k5.mono K4.out.size))
    clear k5 hq1 hq2 hq3
    go_wp2_with fail
    go_loopw [6] (fun vi wr => ∃ i : Nat, i ≤ n ∧ vi = .int .i64 i ∧ Hid (Below w5.heap.size w5 wr)) (fun vi wr => n - (intOf vi).toNat)
    case atStart => exact ⟨0, by omega, rfl, Lib.hid (Below.refl _ _)⟩
    case round =>
      obtain ⟨i, hi, rfl, hB⟩ := hrel
      rcases Nat.lt_or_ge i n with hlt | hge
      · obtain ⟨b, off, x, rfl, hx, _, hc⟩ := (E5.out.below hB.out).at hlt
        have hpl := place_iff kl HRS.out i x hx
        rw [HP.out] at hpl
        have c0 := hc.c0
        have hcmp : Op.bytesLess (bs x.key).toList (bs kl).toList = decide (i < q) := by rw [Lib.toList_data, Lib.toList_data, bs_list, bs_list, ltB_less, hpl]
        clear hx hc hpl
        go_wp2_with fail
        go_roundw
        case rel => exact ⟨i + 1, by omega, by go_num, hB⟩
        case measure => simp [intOf]; omega
      · obtain rfl : i = n := by omega
        have BB := Lib.hid (K5.out.trans (hB.out.mono K5.out.size))
        go_wp2_with fail
        go_ret
        exact ⟨retb (by simp), BB.out⟩

theorem own : ownKnob Try.prog.godebug = none := by kernel_rfl
theorem laidOut : laidOutB Try.prog = true := by kernel_rfl
theorem contract (H : Type) (enc : TypeId × Value → H) (W : World) (base : Nat) (args : Array Value) (ds gs : List (DataW H)) (before : List MemPlace)
    (hval : ∀ (j : Nat) t v, Try.f6.params[j]? = some t → args[j]? = some v → Value.okWide Try.prog W .any base t v)
    (hW : DataW.Whole enc Try.prog Try.f6.params.toList Rows.blockFindsSpec.vars false W args.toList ds gs before) :
    Calls Try.prog 6 args W fun e W' => ∃ v, e = .returned v ∧ Rows.blockFindsSpec.post enc Try.prog Try.f6 false true false false W args v W' := by
  have hW' := hW
  obtain ⟨p, q, hA0, hV, rfl, hfz, hnd⟩ := hW
  have hA : DataW.TrodAll enc Try.prog W 0 (fun _ => true) true Try.f6.params.toList args.toList ds p := hA0
  rw [Try.params6] at hA hval
  obtain ⟨v0, vs0, d0, ds0, p0, q0, hargs0, rfl, rfl, h0, r0⟩ := trodAll_cons hA
  obtain ⟨v1, vs1, d1, ds1, p1, q1, rfl, rfl, rfl, h1, r1⟩ := trodAll_cons r0
  obtain ⟨rfl, rfl, rfl⟩ := trodAll_nil r1
  obtain rfl : args = #[v0, v1] := by cases args; simp_all
  obtain ⟨rfl, rfl⟩ := trodVars_none hV
  obtain ⟨a0, len0, cap0, rfl⟩ := okWide_slice Try.underlying22 (hval 0 22 v0 rfl rfl)
  have k0 := h0
  have lt0 : ∀ x ∈ p0, x.block < W.heap.size := by obtain ⟨m, hm⟩ := k0; exact DataW.trod_lt m _ _ _ hm
  obtain ⟨T0, i0⟩ := open_ents h0
  obtain ⟨x1, rfl, rfl, rfl, w1⟩ := open_string Try.underlying9 (hval 1 9 v1 rfl rfl) h1
  clear hA0
  simp only [List.append_nil] at hW'
  refine (core a0 len0 cap0 T0 x1 W i0 w1).mono fun e W' ⟨he, bel⟩ => ?_
  subst he
  exact ⟨_, rfl, _, _, _, [], _, [], hW', trodAll_mk1 (shut_bool Try.underlying4 _), (trodAll_cons_mk (Below.trod laidOut (by kernel_rfl) (of_decide_eq_true (by kernel_rfl)) k0 bel lt0) (trodAll_cons_mk (shut_string Try.underlying9 w1) trodAll_mk0)), rfl, bel.frame _, fun h => by cases h⟩

set_option maxRecDepth 100000 in
theorem lifted (os : Os) (started : os.Started) (H : Type) (enc : TypeId × Value → H) :
    ReturnsInHanded {} Try.checked os 6 .any (Rows.blockFindsSpec.pre6 enc Try.prog Try.f6 Rows.blockFindsRow.domain false) (Rows.blockFindsSpec.post enc Try.prog Try.f6 false true false false) := by
  refine returnsInHanded_of_change (C := Try.checked) own started (by kernel_rfl) Try.func6
    (ChangeSpec.witness6 (enc := enc) (C := Try.checked) false ⟨#[], #[.slice none 0 0, .string ByteArray.empty], []⟩ 8 (by kernel_rfl) (by kernel_rfl) (by kernel_rfl) (by kernel_rfl)) ?_
  intro W base args ds gs before hval hW _ _
  exact contract H enc W base args ds gs before hval hW

theorem over : Rows.blockFindsRow.holds Try.pinned (OpenSpec.ofChange Rows.blockFindsSpec) :=
  OpenClaim.holds_of_wide 6 Try.f6 rfl rfl rfl rfl rfl rfl rfl ⟨rfl, rfl, rfl, rfl, rfl⟩ rfl rfl rfl rfl rfl (by kernel_rfl) Try.func6 (by kernel_rfl)
    (of_decide_eq_true (by kernel_rfl)) (by unfold Func.isWrapper; first | (rw [if_pos (by decide +kernel)]; kernel_rfl) | (rw [if_neg (by decide +kernel)]; exact ⟨rfl, rfl⟩))
    (fun os started H enc _ => lifted os started H enc)

/-- ████ THE STATEMENT ████ -/
theorem proved : Rows.BlockFindsSaid :=
  over
#print axioms proved
end Go.Proofs.Ytmmdhmhcfpghfaa.blockFinds
