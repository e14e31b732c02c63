/- BlockOpens: any bytes, with a right sum or not, are entries, or refused, as the document says; what is taken is packed so. For every input; no condition. -/
import Derived.Test.YtmmdhmhcfpghfaaRows
import Derived.Test.YtmmdhmhcfpghfaaBlockIn
import Derived.Test.YtmmdhmhcfpghfaaBlockRefOpen
import Derived.Test.YtmmdhmhcfpghfaaBlockSame
import Derived.SliceStrings
import Derived.ChangeOld
import Derived.ShutString
import Derived.ProofKit
import Derived.OpenShut
import Derived.WalkKit
import Derived.Below
set_option linter.unusedVariables false
set_option maxRecDepth 100000
namespace Go.Proofs.Ytmmdhmhcfpghfaa.blockOpens
open Go.ChangeShapes Go.WideShapes Go.ChangeAt Go.RowKit
open Go.ChangeMaps (open_string shut_string)

/-- What is refused tells no entries. -/
theorem opn_none {l : List UInt8} (h : (opn l).1 ≠ 0) : (opn l).2 = [] := by
  unfold opn at h ⊢
  generalize rdEs (cn l).toNat true [] (l.drop (ck l)) = b at *
  by_cases a1 : ce l ≠ 0
  · simp only [if_pos a1]
  · by_cases a2 : b.1 ≠ 0
    · simp only [if_neg a1, if_pos a2]
    · by_cases a3 : 65536 < b.2.1.length
      · simp only [if_neg a1, if_neg a2, if_pos a3]
      · by_cases a4 : ck l + b.2.2 ≠ l.length
        · simp only [if_neg a1, if_neg a2, if_neg a3, if_pos a4]
        · simp only [if_neg a1, if_neg a2, if_neg a3, if_neg a4] at h
          exact absurd rfl h
theorem opnS_none {s : List UInt8} (h : (opnS s).1 ≠ 0) : (opnS s).2 = [] := by
  unfold opnS at h ⊢
  by_cases a : takeE s ≠ 0
  · rw [if_pos a]
  · rw [if_neg a] at h ⊢
    exact opn_none h
set_option maxHeartbeats 4000000 in
theorem core (s : ByteArray) (summed : Bool) (w : World) (hs : s.size ≤ maxLen) :
    Calls Try.prog 4 #[.string s, .bool summed] w fun e w' => e = .returned (.bool true) ∧ Below w.heap.size w w' := by
  obtain ⟨sl, hsl⟩ : ∃ sl, sl = s.data.toList := ⟨_, rfl⟩
  obtain rfl : s = bs sl := by rw [hsl]; exact bs_eq rfl
  have zs : (bs sl).size = sl.length := bs_size _
  have hs63 : sl.length ≤ 9223372036854775807 := by rw [← zs]; exact hs
  clear hsl hs
  by_cases hlong : 60000 < sl.length
  · go_enter Try.func4, Try.ntmps4
    go_wp2_with fail
    refine (law_awake w).mono ?_
    rintro e w1 ⟨rfl, k1⟩
    have K1 := Lib.hid k1
    clear k1
    go_wp2_with fail
    refine (law_awake w1).mono ?_
    rintro e w2 ⟨rfl, k2⟩
    have K2 := Lib.hid (K1.out.trans (k2.mono K1.out.size))
    clear k2
    go_wp2_with fail
    go_ret
    exact ⟨rfl, K2.out⟩
  · go_enter Try.func4, Try.ntmps4
    go_wp2_with fail
    refine (law_awake w).mono ?_
    rintro e w1 ⟨rfl, k1⟩
    have K1 := Lib.hid k1
    clear k1
    rcases Bool.eq_false_or_eq_true summed with hsm | hsm
    subst hsm
    go_wp2_with fail
    refine (ref_Put (bs sl) w1 (by rw [bs_size]; omega)).mono ?_
    rintro e w2 ⟨rfl, k2⟩
    rw [bs_list]
    obtain ⟨t, ht⟩ : ∃ t, t = sl ++ four (sumL sl) := ⟨_, rfl⟩
    have htl : t.length ≤ 60004 := by rw [ht, List.length_append, four_len]; omega
    have K2 := Lib.hid (K1.out.trans (k2.mono K1.out.size))
    rw [← ht]
    clear ht k2 zs hlong hs63
    rotate_left
    subst hsm
    obtain ⟨t, ht⟩ : ∃ t, t = sl := ⟨_, rfl⟩
    have htl : t.length ≤ 60004 := by rw [ht]; omega
    have K2 := Lib.hid K1.out
    clear hs63
    go_wp2_with fail
    rw [← ht]
    clear ht hlong zs
    generalize w1 = w2 at *
    all_goals
      go_wp2_with fail
      refine (block_Open t w2 (by omega)).mono ?_
      rintro e w3 ⟨⟨a3, c3, rfl, hE3⟩, k3⟩
      have E3 := Lib.hid hE3
      have K3 := Lib.hid (K2.out.trans (k3.mono K2.out.size))
      clear hE3 k3
      obtain ⟨z, hz⟩ : ∃ z, z = (opnS t).1 := ⟨_, rfl⟩
      obtain ⟨R, hR⟩ : ∃ R, R = (opnS t).2 := ⟨_, rfl⟩
      have HZ := Lib.hid hz
      have HR := Lib.hid hR
      rw [← hz, ← hR]
      rw [← hR] at E3
      obtain ⟨n, hn⟩ : ∃ n, n = R.length := ⟨_, rfl⟩
      have HN := Lib.hid hn
      rw [← hn] at E3 ⊢
      clear hz hR hn
      go_wp2_with fail
      refine (ref_Open t w3 (by omega)).mono ?_
      rintro e w4 ⟨⟨a4, c4, rfl, hE4⟩, k4⟩
      rw [← HR.out, ← HN.out] at hE4 ⊢
      rw [← HZ.out]
      have E4 := Lib.hid hE4
      have E3b := Lib.hid (E3.out.below k4)
      have K4 := Lib.hid (K3.out.trans (k4.mono K3.out.size))
      clear hE4 k4 E3
      have HSM := Lib.hid (fun h : z = 0 => show fitE R ∧ chkE R = 0 ∧ packB R = t ∧ n ≤ 65536 by
        obtain ⟨h1, h2⟩ := pack_open (s := t) (by rw [← HZ.out]; exact h)
        rw [← HR.out] at h1 h2
        obtain ⟨h3, h4⟩ := (chkE_ok R).1 h1
        exact ⟨fit_of_small (smallE_of h3), h1, h2, by rw [HN.out]; exact h4⟩)
      have hn64 : n ≤ 9223372036854775807 := by
        by_cases h0 : z = 0
        · have := (HSM.out h0).2.2.2; omega
        · have h2 : R = [] := by rw [HR.out]; exact opnS_none (by rw [← HZ.out]; exact h0)
          rw [HN.out, h2]
          simp
      go_wp2_with fail
      refine (ref_Same a3 a4 n c3 c4 R w4 E3b E4 hn64).mono ?_
      rintro e w5 ⟨rfl, k5⟩
      have E5 := Lib.hid (E3b.out.below k5)
      have K5 := Lib.hid (K4.out.trans (k5.mono K4.out.size))
      clear k5
      by_cases h0 : z = 0
      · obtain ⟨hfit, hchk, hpk, _⟩ := HSM.out h0
        have hp := block_Pack a3 n c3 R w5 E5 hn64 (Lib.hid hfit)
        rw [hchk, hpk] at hp
        have HPK := Lib.hid hp
        subst h0
        clear hp hfit hchk hpk
        have heq : ((bs t).toList == (bs t).toList) = true := by simp
        go_wp2_with fail
        refine HPK.out.mono ?_
        rintro e w6 ⟨rfl, k6⟩
        have K6 := Lib.hid (K5.out.trans (k6.mono K5.out.size))
        clear k6
        go_wp2_with fail
        go_ret
        exact ⟨rfl, K6.out⟩
      · have hzb : (z == 0) = false := beq_eq_false_iff_ne.2 h0
        clear h0
        go_wp2_with fail
        go_ret
        exact ⟨rfl, K5.out⟩

theorem own : ownKnob Try.prog.godebug = none := by kernel_rfl
theorem laidOut : laidOutB Try.prog = true := by kernel_rfl
theorem contract (H : Type) (enc : TypeId × Value → H) (W : World) (base : Nat) (args : Array Value) (ds gs : List (DataW H)) (before : List MemPlace)
    (hval : ∀ (j : Nat) t v, Try.f4.params[j]? = some t → args[j]? = some v → Value.okWide Try.prog W .any base t v)
    (hW : DataW.Whole enc Try.prog Try.f4.params.toList Rows.blockOpensSpec.vars false W args.toList ds gs before) :
    Calls Try.prog 4 args W fun e W' => ∃ v, e = .returned v ∧ Rows.blockOpensSpec.post enc Try.prog Try.f4 false true false false W args v W' := by
  have hW' := hW
  obtain ⟨p, q, hA0, hV, rfl, hfz, hnd⟩ := hW
  have hA : DataW.TrodAll enc Try.prog W 0 (fun _ => true) true Try.f4.params.toList args.toList ds p := hA0
  rw [Try.params4] at hA hval
  obtain ⟨v0, vs0, d0, ds0, p0, q0, hargs0, rfl, rfl, h0, r0⟩ := trodAll_cons hA
  obtain ⟨v1, vs1, d1, ds1, p1, q1, rfl, rfl, rfl, h1, r1⟩ := trodAll_cons r0
  obtain ⟨rfl, rfl, rfl⟩ := trodAll_nil r1
  obtain rfl : args = #[v0, v1] := by cases args; simp_all
  obtain ⟨rfl, rfl⟩ := trodVars_none hV
  obtain ⟨x0, rfl, rfl, rfl, w0⟩ := open_string Try.underlying9 (hval 0 9 v0 rfl rfl) h0
  obtain ⟨x1, rfl, rfl, rfl⟩ := open_bool Try.underlying4 (hval 1 4 v1 rfl rfl) h1
  clear hA0
  simp only [List.append_nil] at hW'
  refine (core x0 x1 W w0).mono fun e W' ⟨he, bel⟩ => ?_
  subst he
  exact ⟨_, rfl, _, _, _, [], _, [], hW', trodAll_mk1 (shut_bool Try.underlying4 _), (trodAll_cons_mk (shut_string Try.underlying9 w0) (trodAll_cons_mk (shut_bool Try.underlying4 _) trodAll_mk0)), rfl, bel.frame _, fun h => by cases h⟩

set_option maxRecDepth 100000 in
theorem lifted (os : Os) (started : os.Started) (H : Type) (enc : TypeId × Value → H) :
    ReturnsInHanded {} Try.checked os 4 .any (Rows.blockOpensSpec.pre6 enc Try.prog Try.f4 Rows.blockOpensRow.domain false) (Rows.blockOpensSpec.post enc Try.prog Try.f4 false true false false) := by
  refine returnsInHanded_of_change (C := Try.checked) own started (by kernel_rfl) Try.func4
    (ChangeSpec.witness6 (enc := enc) (C := Try.checked) false ⟨#[], #[.string ByteArray.empty, .bool false], []⟩ 8 (by kernel_rfl) (by kernel_rfl) (by kernel_rfl) (by kernel_rfl)) ?_
  intro W base args ds gs before hval hW _ _
  exact contract H enc W base args ds gs before hval hW

theorem over : Rows.blockOpensRow.holds Try.pinned (OpenSpec.ofChange Rows.blockOpensSpec) :=
  OpenClaim.holds_of_wide 4 Try.f4 rfl rfl rfl rfl rfl rfl rfl ⟨rfl, rfl, rfl, rfl, rfl⟩ rfl rfl rfl rfl rfl (by kernel_rfl) Try.func4 (by kernel_rfl)
    (of_decide_eq_true (by kernel_rfl)) (by unfold Func.isWrapper; first | (rw [if_pos (by decide +kernel)]; kernel_rfl) | (rw [if_neg (by decide +kernel)]; exact ⟨rfl, rfl⟩))
    (fun os started H enc _ => lifted os started H enc)

/-- ████ THE STATEMENT ████ -/
theorem proved : Rows.BlockOpensSaid :=
  over
#print axioms proved
end Go.Proofs.Ytmmdhmhcfpghfaa.blockOpens
