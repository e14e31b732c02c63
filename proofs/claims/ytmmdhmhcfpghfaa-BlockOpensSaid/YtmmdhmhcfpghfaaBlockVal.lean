/- A value gone over. -/
import Derived.Test.YtmmdhmhcfpghfaaBlockTake
set_option linter.unusedVariables false
set_option maxRecDepth 100000
namespace Go.Proofs.Ytmmdhmhcfpghfaa
open Go.RowKit

/-- Why what stands here is no value. -/
def vE (l : List UInt8) : Int := if ce l ≠ 0 then ce l else if 65537 < (cn l).toNat then 6 else if (l.drop (ck l)).length + 1 < (cn l).toNat then 2 else 0
structure ValPost (r : Nat) (l : List UInt8) (w : World) (e : Ending) (w' : World) : Prop where
  out : ∃ (val : List UInt8) (g : Bool) (s : List UInt8), e = .returned (.tuple #[.string (bs val), .bool g, .int .i64 (vE l)]) ∧ Rt r (bs s) w' ∧ (vE l = 0 → val = (l.drop (ck l)).take ((cn l).toNat - 1) ∧ g = ((cn l).toNat == 0) ∧ s = (l.drop (ck l)).drop ((cn l).toNat - 1))
  only : Only (fun k => k = r) w w'
theorem val_post {r : Nat} {l : List UInt8} {w w' : World} {val : List UInt8} {g : Bool} {s : List UInt8} {z : Int} (hz : vE l = z) (hr : Rt r (bs s) w') (ho : Only (fun k => k = r) w w') (hf : z = 0 → val = (l.drop (ck l)).take ((cn l).toNat - 1) ∧ g = ((cn l).toNat == 0) ∧ s = (l.drop (ck l)).drop ((cn l).toNat - 1)) :
    ValPost r l w (.returned (.tuple #[.string (bs val), .bool g, .int .i64 z])) w' := ⟨⟨val, g, s, by rw [hz], hr, fun h => hf (hz.symm.trans h)⟩, ho⟩

set_option maxHeartbeats 2000000 in
theorem take_val (r : Nat) (l : List UInt8) (w : World) (h : Rt r (bs l) w) (hl : l.length ≤ 100000000000) :
    Calls Try.prog 52 #[.pointer (some ⟨r, 0, none⟩)] w (ValPost r l w) := by
  have hs : (bs l).size ≤ maxLen := by rw [bs_size]; unfold maxLen; omega
  have hcnt := six_ReadCount r (bs l) w h hs
  rw [bs_list, rest_bs] at hcnt
  clear h
  by_cases h1 : ce l ≠ 0
  · have hk := Lib.hid (show vE l = ce l by unfold vE; rw [if_pos h1])
    have hb : (ce l == 0) = false := beq_eq_false_iff_ne.2 h1
    obtain ⟨z, hz⟩ : ∃ z, z = ce l := ⟨_, rfl⟩
    rw [← hz] at hcnt hb hk
    have HCNT := Lib.hid hcnt
    clear hcnt h1 hz
    go_enter Try.func52, Try.ntmps52
    go_wp2_with fail
    refine HCNT.out.mono ?_
    rintro e w1 ⟨rfl, h2, k2⟩
    have H2 := Lib.hid h2
    have K2 := Lib.hid k2
    clear h2 k2
    go_wp2_with fail
    refine bodyPost_ret (results_tmp3 rfl _ _ _) rfl ?_
    exact val_post (val := []) hk.out H2.out K2.out (fun h => by simp [h] at hb)
  · have h1' : ce l = 0 := Decidable.of_not_not h1
    obtain ⟨k, hk⟩ : ∃ k, k = (cn l).toNat := ⟨_, rfl⟩
    have hkn : cn l = (k : Int) := by have := cn_of' h1'; omega
    have hk64 : k ≤ 9223372036854775807 := by have := cd_cases l; omega
    obtain ⟨l1, hl1⟩ : ∃ l1, l1 = l.drop (ck l) := ⟨_, rfl⟩
    have hl1l : l1.length ≤ 100000000000 := by rw [hl1, List.length_drop]; omega
    have hvE := Lib.hid (show vE l = if 65537 < k then 6 else if l1.length + 1 < k then 2 else 0 by unfold vE; rw [if_neg h1, ← hl1, ← hk])
    have hfin := Lib.hid (show ∀ (val : List UInt8) (g : Bool) (s : List UInt8), val = l1.take (k - 1) → g = (k == 0) → s = l1.drop (k - 1) → val = (l.drop (ck l)).take ((cn l).toNat - 1) ∧ g = ((cn l).toNat == 0) ∧ s = (l.drop (ck l)).drop ((cn l).toNat - 1) by rw [← hl1, ← hk]; exact fun _ _ _ a b c => ⟨a, b, c⟩)
    rw [← hl1, hkn, h1'] at hcnt
    have HCNT := Lib.hid hcnt
    clear hcnt h1 h1' hk hkn hl1
    by_cases hk0 : k = 0
    · subst hk0
      have hk := Lib.hid (show vE l = 0 by rw [hvE.out, if_neg (by omega), if_neg (by omega)])
      go_enter Try.func52, Try.ntmps52
      go_wp2_with fail
      refine HCNT.out.mono ?_
      rintro e w1 ⟨rfl, h2, k2⟩
      have H2 := Lib.hid h2
      have K2 := Lib.hid k2
      clear h2 k2
      go_wp2_with fail
      refine bodyPost_ret (results_tmp3 rfl _ _ _) rfl ?_
      exact val_post (val := []) (g := true) hk.out H2.out K2.out (fun h => hfin.out _ _ _ (by simp) rfl rfl)
    · have hm0 : ((k : Int) == 0) = false := beq_eq_false_iff_ne.2 (by omega)
      obtain ⟨m, hm⟩ : ∃ m : Nat, (k : Int) - 1 = (m : Int) := ⟨k - 1, by omega⟩
      have hmk := Lib.hid (show k - 1 = m ∧ (k == 0) = false from ⟨by omega, by simpa using hk0⟩)
      have HK0 := Lib.hid hk0
      clear hk0
      by_cases h6 : 65537 < k
      · have hk := Lib.hid (show vE l = 6 by rw [hvE.out, if_pos h6])
        go_enter Try.func52, Try.ntmps52
        go_wp2_with fail
        refine HCNT.out.mono ?_
        rintro e w1 ⟨rfl, h2, k2⟩
        have H2 := Lib.hid h2
        have K2 := Lib.hid k2
        clear h2 k2
        go_wp2_with fail
        refine bodyPost_ret (results_tmp3 rfl _ _ _) rfl ?_
        exact val_post (val := []) hk.out H2.out K2.out (fun h => by cases h)
      · have hraw := fun W (hW : Rt r (bs l1) W) => six_ReadRaw r (bs l1) (m : Int) W hW (by rw [bs_size]; unfold maxLen; omega) (by omega) (by omega)
        rw [bs_list, rest_bs] at hraw
        have hres : vE l = we l1 (m : Int) ∧ (we l1 (m : Int) = 0 → ws l1 (m : Int) = l1.take m ∧ wk l1 (m : Int) = m) := by
          have hmk1 := hmk.out.1
          have hk1 := HK0.out
          rw [hvE.out, if_neg h6]
          unfold we ws wk
          by_cases hq : l1.length < m
          · rw [if_pos (by omega), if_neg (by omega), if_pos (by omega)]
            exact ⟨rfl, fun h => by cases h⟩
          · rw [if_neg (by omega), if_neg (by omega), if_neg (by omega), if_neg (by omega), if_neg (by omega)]
            exact ⟨rfl, fun _ => ⟨by simp, by simp⟩⟩
        have HRAW := Lib.hid hraw
        have HRES := Lib.hid hres
        clear hraw hres
        go_enter Try.func52, Try.ntmps52
        go_wp2_with fail
        refine HCNT.out.mono ?_
        rintro e w1 ⟨rfl, h2, k2⟩
        have H2 := Lib.hid h2
        have K2 := Lib.hid k2
        clear h2 k2
        go_wp2_with fail
        refine (HRAW.out w1 H2.out).mono ?_
        rintro e w2 ⟨rfl, h3, k3⟩
        have H3 := Lib.hid h3
        have K3 := Lib.hid (K2.out.trans k3)
        clear h3 k3
        go_wp2_with fail
        refine bodyPost_ret (results_tmp3 rfl _ _ _) rfl ?_
        exact val_post HRES.out.1 H3.out K3.out (fun h => by
          obtain ⟨a, b⟩ := HRES.out.2 h
          exact hfin.out _ _ _ (by rw [a, hmk.out.1]) hmk.out.2.symm (by rw [b, hmk.out.1]))
end Go.Proofs.Ytmmdhmhcfpghfaa
