/- Why entries may not be packed: the document's Check. -/
import Derived.Test.YtmmdhmhcfpghfaaBlockCheck
set_option linter.unusedVariables false
set_option maxRecDepth 100000
namespace Go.Proofs.Ytmmdhmhcfpghfaa
open Go.RowKit

set_option maxHeartbeats 2000000 in
theorem ref_Check (a : Option Addr) (len cap : Nat) (T : List Ent) (w : World) (hT : Hid (IsE w a len T)) (hl : len ≤ 9223372036854775807) (hs : Hid (fitE T)) :
    Calls Try.prog 10 #[.slice a len cap] w fun e w' => e = .returned (.int .i64 (chkE T)) ∧ Below w.heap.size w w' := by
  by_cases hlong : 65536 < len
  · have hres := Lib.hid (show chkE T = 6 by unfold chkE; rw [if_pos (by rw [← hT.out.1]; exact hlong)])
    go_enter Try.func10, Try.ntmps10
    go_wp2_with fail
    go_ret
    exact ⟨ret1 hres.out, Below.refl _ _⟩
  · have hall := Lib.hid (show chkE T = chkGo true [] T by unfold chkE; rw [if_neg (by rw [← hT.out.1]; exact hlong)])
    go_enter Try.func10, Try.ntmps10
    go_wp2_with fail
    go_loopw [3] (fun vi wr => ∃ i : Nat, i ≤ len ∧ vi = .int .i64 i ∧ Hid (chkGo (decide (i = 0)) (ahead T i) (T.drop i) = chkE T) ∧ Hid (Below w.heap.size w wr)) (fun vi wr => len - (intOf vi).toNat)
    case atStart => exact ⟨0, by omega, rfl, Lib.hid hall.out.symm, Lib.hid (Below.refl _ _)⟩
    case round =>
      obtain ⟨i, hi, rfl, hgo, hB⟩ := hrel
      rcases Nat.lt_or_ge i len with hlt | hge
      · obtain ⟨b, off, x, rfl, hx, hdr, hc⟩ := (hT.out.below hB.out).at hlt
        obtain ⟨hs1, hs2⟩ := hs.out x (List.mem_of_getElem? hx)
        have c0 := hc.c0
        have c1 := hc.c1
        have c2 := hc.c2
        have hst := hgo.out
        rw [hdr] at hst
        unfold chkGo at hst
        have z1 : (bs x.key).size = x.key.length := bs_size _
        have z2 : (bs x.val).size = x.val.length := bs_size _
        have hnx := Lib.hid (ahead_next hx)
        have HST := Lib.hid hst
        clear hx hdr hc hst
        by_cases h1 : 65536 < x.key.length
        · have hres := Lib.hid (show chkE T = 6 by rw [← HST.out, if_pos (.inl h1)])
          go_wp2_with fail
          go_ret
          exact ⟨ret1 hres.out, (hB.out)⟩
        · by_cases h2 : 65536 < x.val.length
          · have hres := Lib.hid (show chkE T = 6 by rw [← HST.out, if_pos (.inr h2)])
            go_wp2_with fail
            go_ret
            exact ⟨ret1 hres.out, (hB.out)⟩
          · have HST2 := Lib.hid (show (if (decide (i = 0) = false ∧ ltB (ahead T i) x.key = false) ∨ (x.gone = true ∧ x.val ≠ []) then (1 : Int) else chkGo false x.key (T.drop (i + 1))) = chkE T by rw [← HST.out, if_neg (c := 65536 < _ ∨ _) (by omega)])
            clear HST
            obtain ⟨bad, hbad⟩ : ∃ bad : Bool, bad = (x.gone && !decide (x.val.length = 0)) := ⟨_, rfl⟩
            have hbadP := Lib.hid (show bad = true ↔ x.gone = true ∧ x.val ≠ [] by rw [hbad]; cases x.gone <;> cases x.val <;> simp)
            by_cases h0 : 0 < i
            · obtain ⟨j, hj⟩ : ∃ j : Nat, (i : Int) - 1 = (j : Int) := ⟨i - 1, by omega⟩
              have hj1 := Lib.hid (show j + 1 = i by omega)
              have hjl : j < len := by have := hj1.out; omega
              obtain ⟨b', off', y, e, hy, _, hcy⟩ := (hT.out.below hB.out).at hjl
              injection e with e
              injection e with e1 e2
              subst e1 e2
              have c3 := hcy.c0
              have HA := Lib.hid (show ahead T i = y.key by rw [← hj1.out]; exact ahead_next hy)
              have hjw : IntKind.i64.wrap (j : Int) = (j : Int) := IntWalk.i64_in _ (by omega)
              clear hcy hy
              rcases cmp3 x.key y.key with ⟨hp, hq, hc⟩ | ⟨hp, hq, hc⟩ | ⟨hp, hq, hc⟩
              case inr.inr =>
                have HN := Lib.hid (show bad = false → chkGo (decide (i + 1 = 0)) (ahead T (i + 1)) (T.drop (i + 1)) = chkE T from fun h => by
                  rw [hnx.out, ← HST2.out, if_neg, decide_eq_false (by omega)]
                  rintro (⟨_, q⟩ | q)
                  · rw [HA.out, hc] at q; cases q
                  · rw [← hbadP.out, h] at q; cases q)
                have HE := Lib.hid (show bad = true → chkE T = 1 from fun h => by rw [← HST2.out, if_pos (.inr (hbadP.out.1 h))])
                clear hc
                cases hg : x.gone with
                | true =>
                  rw [hg] at c2 hbad
                  rw [Bool.true_and] at hbad
                  cases hv : decide (x.val.length = 0) with
                  | true =>
                    rw [hv] at hbad
                    have hv1 : decide (0 < x.val.length) = false := by have := of_decide_eq_true hv; exact decide_eq_false (by omega)
                    have HN2 := Lib.hid (HN.out hbad)
                    clear hbad
                    go_wp2_with fail
                    go_quiet (fail)
                    go_wp2_with fail
                    go_roundw
                    case rel => exact ⟨i + 1, by omega, by go_num, HN2, Lib.hid (below_drewN (hB.out) _)⟩
                    case measure => simp [intOf]; omega
                  | false =>
                    rw [hv] at hbad
                    have hv1 : decide (0 < x.val.length) = true := by have := of_decide_eq_false hv; exact decide_eq_true (by omega)
                    have HE2 := Lib.hid (HE.out hbad)
                    clear hbad
                    go_wp2_with fail
                    go_quiet (fail)
                    go_wp2_with fail
                    go_ret
                    exact ⟨ret1 HE2.out, below_drewN (hB.out) _⟩
                | false => 
                  rw [hg] at c2 hbad
                  have HN2 := Lib.hid (HN.out hbad)
                  clear hbad
                  go_wp2_with fail
                  go_quiet (fail)
                  go_wp2_with fail
                  go_roundw
                  case rel => exact ⟨i + 1, by omega, by go_num, HN2, Lib.hid (below_drewN (hB.out) _)⟩
                  case measure => simp [intOf]; omega
              all_goals
                have HE2 := Lib.hid (show chkE T = 1 by rw [← HST2.out, if_pos (.inl ⟨decide_eq_false (by omega), by rw [HA.out]; exact hc⟩)])
                clear hc hbad
                go_wp2_with fail
                go_quiet (fail)
                go_wp2_with fail
                go_ret
                exact ⟨ret1 HE2.out, below_drewN (hB.out) _⟩
            · have H0 := Lib.hid (show i = 0 by omega)
              have HN := Lib.hid (show bad = false → chkGo (decide (i + 1 = 0)) (ahead T (i + 1)) (T.drop (i + 1)) = chkE T from fun h => by
                rw [hnx.out, ← HST2.out, if_neg, decide_eq_false (by omega)]
                rintro (⟨q, _⟩ | q)
                · rw [decide_eq_true H0.out] at q; cases q
                · rw [← hbadP.out, h] at q; cases q)
              have HE := Lib.hid (show bad = true → chkE T = 1 from fun h => by rw [← HST2.out, if_pos (.inr (hbadP.out.1 h))])
              cases hg : x.gone with
              | true =>
                rw [hg] at c2 hbad
                rw [Bool.true_and] at hbad
                cases hv : decide (x.val.length = 0) with
                | true =>
                  rw [hv] at hbad
                  have hv1 : decide (0 < x.val.length) = false := by have := of_decide_eq_true hv; exact decide_eq_false (by omega)
                  have HN2 := Lib.hid (HN.out hbad)
                  clear hbad
                  go_wp2_with fail
                  go_quiet (fail)
                  go_wp2_with fail
                  go_roundw
                  case rel => exact ⟨i + 1, by omega, by go_num, HN2, Lib.hid (below_drewN (hB.out) _)⟩
                  case measure => simp [intOf]; omega
                | false =>
                  rw [hv] at hbad
                  have hv1 : decide (0 < x.val.length) = true := by have := of_decide_eq_false hv; exact decide_eq_true (by omega)
                  have HE2 := Lib.hid (HE.out hbad)
                  clear hbad
                  go_wp2_with fail
                  go_quiet (fail)
                  go_wp2_with fail
                  go_ret
                  exact ⟨ret1 HE2.out, below_drewN (hB.out) _⟩
              | false => 
                rw [hg] at c2 hbad
                have HN2 := Lib.hid (HN.out hbad)
                clear hbad
                go_wp2_with fail
                go_quiet (fail)
                go_wp2_with fail
                go_roundw
                case rel => exact ⟨i + 1, by omega, by go_num, HN2, Lib.hid (below_drewN (hB.out) _)⟩
                case measure => simp [intOf]; omega
      · obtain rfl : i = len := by omega
        have hres := Lib.hid (show chkE T = 0 by
          have := hgo.out
          rw [List.drop_eq_nil_of_le (by rw [hT.out.1]; exact Nat.le_refl _)] at this
          exact this.symm)
        go_wp2_with fail
        go_ret
        exact ⟨ret1 hres.out, hB.out⟩
end Go.Proofs.Ytmmdhmhcfpghfaa
