/- Why entries may not be packed: the program's Check and the document's. -/
import Derived.Test.YtmmdhmhcfpghfaaBlockRow
import Derived.Test.YtmmdhmhcfpghfaaSixReader
set_option linter.unusedVariables false
set_option maxRecDepth 100000
namespace Go.Proofs.Ytmmdhmhcfpghfaa
open Go.RowKit

def chkGo : Bool → List UInt8 → List Ent → Int
  | _, _, [] => 0
  | first, last, x :: T => if 65536 < x.key.length ∨ 65536 < x.val.length then 6 else if (first = false ∧ ltB last x.key = false) ∨ (x.gone = true ∧ x.val ≠ []) then 1 else chkGo false x.key T
/-- Why entries may not be packed. -/
def chkE (T : List Ent) : Int := if 65536 < T.length then 6 else chkGo true [] T
theorem chkGo_ok : ∀ (T : List Ent) (first : Bool) (last : List UInt8), chkGo first last T = 0 ↔ okEs first last T
  | [], _, _ => ⟨fun _ => trivial, fun _ => rfl⟩
  | x :: T, first, last => by
    have ih := chkGo_ok T false x.key
    simp only [chkGo, okEs, okE]
    by_cases h1 : 65536 < x.key.length ∨ 65536 < x.val.length
    · rw [if_pos h1]
      exact ⟨fun h => (by cases h), fun h => (by have := h.1.1; have := h.1.2.1; omega)⟩
    · rw [if_neg h1]
      by_cases h2 : (first = false ∧ ltB last x.key = false) ∨ (x.gone = true ∧ x.val ≠ [])
      · rw [if_pos h2]
        refine ⟨fun h => (by cases h), fun h => ?_⟩
        rcases h2 with ⟨a, b⟩ | ⟨a, b⟩
        · have := h.1.2.2.2 a
          rw [b] at this
          cases this
        · exact absurd (h.1.2.2.1 a) b
      · rw [if_neg h2, ih]
        refine ⟨fun h => ⟨⟨by omega, by omega, fun hg => ?_, fun hf => ?_⟩, h⟩, fun h => h.2⟩
        · cases hv : x.val with
          | nil => rfl
          | cons a b => exact absurd (.inr ⟨hg, by rw [hv]; simp⟩) h2
        · cases hb : ltB last x.key with
          | true => rfl
          | false => exact absurd (.inl ⟨hf, hb⟩) h2
theorem chkE_ok (T : List Ent) : chkE T = 0 ↔ okEs true [] T ∧ T.length ≤ 65536 := by
  unfold chkE
  split
  · exact ⟨fun h => (by cases h), fun h => (by have := h.2; omega)⟩
  · rw [chkGo_ok]
    exact ⟨fun h => ⟨h, by omega⟩, fun h => h.1⟩
theorem chkGo_cases : ∀ (T : List Ent) (first : Bool) (last : List UInt8), chkGo first last T = 0 ∨ chkGo first last T = 1 ∨ chkGo first last T = 6
  | [], _, _ => .inl rfl
  | x :: T, first, last => by
    simp only [chkGo]
    split
    · exact .inr (.inr rfl)
    · split
      · exact .inr (.inl rfl)
      · exact chkGo_cases T false x.key
theorem chkE_cases (T : List Ent) : chkE T = 0 ∨ chkE T = 1 ∨ chkE T = 6 := by
  unfold chkE
  split
  · exact .inr (.inr rfl)
  · exact chkGo_cases T _ _
/-- The key ahead of place i. -/
def ahead (T : List Ent) (i : Nat) : List UInt8 := if i = 0 then [] else (T.getD (i - 1) default).key
theorem ahead_next {T : List Ent} {i : Nat} {x : Ent} (h : T[i]? = some x) : ahead T (i + 1) = x.key := by
  unfold ahead
  rw [if_neg (by omega), Nat.add_sub_cancel, List.getD_eq_getElem?_getD, h]
  rfl
theorem ahead_at {T : List Ent} {i : Nat} {x : Ent} (h : T[i]? = some x) : ahead T (i + 1) = x.key := ahead_next h

/-- Two texts, held against one another. -/
theorem cmp3 (a b : List UInt8) : (Op.bytesLess (bs a).toList (bs b).toList = true ∧ ((bs a).toList == (bs b).toList) = false ∧ ltB b a = false) ∨ (Op.bytesLess (bs a).toList (bs b).toList = false ∧ ((bs a).toList == (bs b).toList) = true ∧ ltB b a = false) ∨ (Op.bytesLess (bs a).toList (bs b).toList = false ∧ ((bs a).toList == (bs b).toList) = false ∧ ltB b a = true) := by
  have e : ((bs a).toList == (bs b).toList) = decide (a = b) := by rw [Bool.eq_iff_iff, same_bytes, decide_eq_true_iff]
  rw [e, Lib.toList_data, Lib.toList_data, bs_list, bs_list, ltB_less]
  rcases ltB_total a b with h | h | h
  · refine .inl ⟨h, decide_eq_false ?_, ltB_asymm h⟩
    rintro rfl
    rw [ltB_irrefl] at h
    cases h
  · subst h
    exact .inr (.inl ⟨ltB_irrefl _, decide_eq_true rfl, ltB_irrefl _⟩)
  · refine .inr (.inr ⟨ltB_asymm h, decide_eq_false ?_, h⟩)
    rintro rfl
    rw [ltB_irrefl] at h
    cases h
set_option maxHeartbeats 2000000 in
theorem block_Check (a : Option Addr) (len cap : Nat) (T : List Ent) (w : World) (hT : Hid (IsE w a len T)) (hl : len ≤ 9223372036854775807) (hs : Hid (fitE T)) :
    Calls Try.prog 11 #[.slice a len cap] w fun e w' => e = .returned (.int .i64 (chkE T)) ∧ Below w.heap.size w w' := by
  by_cases hlong : 65536 < len
  · have hres := Lib.hid (show chkE T = 6 by unfold chkE; rw [if_pos (by rw [← hT.out.1]; exact hlong)])
    go_enter Try.func11, Try.ntmps11
    go_wp2_with fail
    go_ret
    exact ⟨ret1 hres.out, Below.refl _ _⟩
  · have hall := Lib.hid (show chkE T = chkGo true [] T by unfold chkE; rw [if_neg (by rw [← hT.out.1]; exact hlong)])
    go_enter Try.func11, Try.ntmps11
    go_wp2_with fail
    go_loopw [10] (fun vi wr => ∃ i : Nat, i ≤ len ∧ vi = .int .i64 i ∧ Hid (chkGo (decide (i = 0)) (ahead T i) (T.drop i) = chkE T) ∧ Hid (Below w.heap.size w wr)) (fun vi wr => len - (intOf vi).toNat)
    case atStart => exact ⟨0, by omega, rfl, Lib.hid hall.out.symm, Lib.hid (Below.refl _ _)⟩
    case round =>
      obtain ⟨i, hi, rfl, hgo, hB⟩ := hrel
      rcases Nat.lt_or_ge i len with hlt | hge
      · obtain ⟨b, off, x, rfl, hx, hdr, hc⟩ := (hT.out.below hB.out).at hlt
        obtain ⟨hs1, hs2⟩ := hs.out x (List.mem_of_getElem? hx)
        have c0 := hc.c0
        have c1 := hc.c1
        have c2 := hc.c2
        have hst := hgo.out
        rw [hdr] at hst
        unfold chkGo at hst
        have z1 : (bs x.key).size = x.key.length := bs_size _
        have z2 : (bs x.val).size = x.val.length := bs_size _
        have hnx := Lib.hid (ahead_next hx)
        have HST := Lib.hid hst
        clear hx hdr hc hst
        by_cases h1 : 65536 < x.key.length
        · have hres := Lib.hid (show chkE T = 6 by rw [← HST.out, if_pos (.inl h1)])
          go_wp2_with fail
          go_ret
          exact ⟨ret1 hres.out, (hB.out.alloc hB.out.size _)⟩
        · by_cases h2 : 65536 < x.val.length
          · have hres := Lib.hid (show chkE T = 6 by rw [← HST.out, if_pos (.inr h2)])
            go_wp2_with fail
            go_ret
            exact ⟨ret1 hres.out, (hB.out.alloc hB.out.size _)⟩
          · have HST2 := Lib.hid (show (if (decide (i = 0) = false ∧ ltB (ahead T i) x.key = false) ∨ (x.gone = true ∧ x.val ≠ []) then (1 : Int) else chkGo false x.key (T.drop (i + 1))) = chkE T by rw [← HST.out, if_neg (c := 65536 < _ ∨ _) (by omega)])
            clear HST
            obtain ⟨bad, hbad⟩ : ∃ bad : Bool, bad = (x.gone && !(bs x.val).toList.isEmpty) := ⟨_, rfl⟩
            have hbadP := Lib.hid (show bad = true ↔ x.gone = true ∧ x.val ≠ [] by rw [hbad, Lib.toList_data, bs_list]; cases x.gone <;> cases x.val <;> simp)
            by_cases h0 : 0 < i
            · obtain ⟨j, hj⟩ : ∃ j : Nat, (i : Int) - 1 = (j : Int) := ⟨i - 1, by omega⟩
              have hj1 := Lib.hid (show j + 1 = i by omega)
              have hjl : j < len := by have := hj1.out; omega
              obtain ⟨b', off', y, e, hy, _, hcy⟩ := (hT.out.below hB.out).at hjl
              injection e with e
              injection e with e1 e2
              subst e1 e2
              have c3 : ∀ o, (wr.alloc o).cell? ⟨b, off + j * 3, none⟩ = some (.string (bs y.key)) := fun o => by rw [((Below.refl wr.heap.size wr).alloc (Nat.le_refl _) o).cell hcy.lt]; exact hcy.c0
              have HA := Lib.hid (show ahead T i = y.key by rw [← hj1.out]; exact ahead_next hy)
              have hjw : IntKind.i64.wrap (j : Int) = (j : Int) := IntWalk.i64_in _ (by omega)
              clear hcy hy
              rcases cmp3 x.key y.key with ⟨hp, hq, hc⟩ | ⟨hp, hq, hc⟩ | ⟨hp, hq, hc⟩
              case inr.inr =>
                have HN := Lib.hid (show bad = false → chkGo (decide (i + 1 = 0)) (ahead T (i + 1)) (T.drop (i + 1)) = chkE T from fun h => by
                  rw [hnx.out, ← HST2.out, if_neg, decide_eq_false (by omega)]
                  rintro (⟨_, q⟩ | q)
                  · rw [HA.out, hc] at q; cases q
                  · rw [← hbadP.out, h] at q; cases q)
                have HE := Lib.hid (show bad = true → chkE T = 1 from fun h => by rw [← HST2.out, if_pos (.inr (hbadP.out.1 h))])
                clear hc
                cases hg : x.gone with
                | true =>
                  rw [hg] at c2 hbad
                  rw [Bool.true_and] at hbad
                  cases hv : (bs x.val).toList.isEmpty with
                  | true =>
                    rw [hv] at hbad
                    have HN2 := Lib.hid (HN.out hbad)
                    clear hbad
                    go_wp2_with fail
                    go_quiet (fail)
                    go_wp2_with fail
                    go_roundw
                    case rel => exact ⟨i + 1, by omega, by go_num, HN2, Lib.hid (below_drewN (hB.out.alloc hB.out.size _) _)⟩
                    case measure => simp [intOf]; omega
                  | false =>
                    rw [hv] at hbad
                    have HE2 := Lib.hid (HE.out hbad)
                    clear hbad
                    go_wp2_with fail
                    go_quiet (fail)
                    go_wp2_with fail
                    go_ret
                    exact ⟨ret1 HE2.out, below_drewN (hB.out.alloc hB.out.size _) _⟩
                | false => 
                  rw [hg] at c2 hbad
                  have HN2 := Lib.hid (HN.out hbad)
                  clear hbad
                  go_wp2_with fail
                  go_quiet (fail)
                  go_wp2_with fail
                  go_roundw
                  case rel => exact ⟨i + 1, by omega, by go_num, HN2, Lib.hid (below_drewN (hB.out.alloc hB.out.size _) _)⟩
                  case measure => simp [intOf]; omega
              all_goals
                have HE2 := Lib.hid (show chkE T = 1 by rw [← HST2.out, if_pos (.inl ⟨decide_eq_false (by omega), by rw [HA.out]; exact hc⟩)])
                clear hc hbad
                go_wp2_with fail
                go_quiet (fail)
                go_wp2_with fail
                go_ret
                exact ⟨ret1 HE2.out, below_drewN (hB.out.alloc hB.out.size _) _⟩
            · have H0 := Lib.hid (show i = 0 by omega)
              have HN := Lib.hid (show bad = false → chkGo (decide (i + 1 = 0)) (ahead T (i + 1)) (T.drop (i + 1)) = chkE T from fun h => by
                rw [hnx.out, ← HST2.out, if_neg, decide_eq_false (by omega)]
                rintro (⟨q, _⟩ | q)
                · rw [decide_eq_true H0.out] at q; cases q
                · rw [← hbadP.out, h] at q; cases q)
              have HE := Lib.hid (show bad = true → chkE T = 1 from fun h => by rw [← HST2.out, if_pos (.inr (hbadP.out.1 h))])
              cases hg : x.gone with
              | true =>
                rw [hg] at c2 hbad
                rw [Bool.true_and] at hbad
                cases hv : (bs x.val).toList.isEmpty with
                | true =>
                  rw [hv] at hbad
                  have HN2 := Lib.hid (HN.out hbad)
                  clear hbad
                  go_wp2_with fail
                  go_quiet (fail)
                  go_wp2_with fail
                  go_roundw
                  case rel => exact ⟨i + 1, by omega, by go_num, HN2, Lib.hid (below_drewN (hB.out.alloc hB.out.size _) _)⟩
                  case measure => simp [intOf]; omega
                | false =>
                  rw [hv] at hbad
                  have HE2 := Lib.hid (HE.out hbad)
                  clear hbad
                  go_wp2_with fail
                  go_quiet (fail)
                  go_wp2_with fail
                  go_ret
                  exact ⟨ret1 HE2.out, below_drewN (hB.out.alloc hB.out.size _) _⟩
              | false => 
                rw [hg] at c2 hbad
                have HN2 := Lib.hid (HN.out hbad)
                clear hbad
                go_wp2_with fail
                go_quiet (fail)
                go_wp2_with fail
                go_roundw
                case rel => exact ⟨i + 1, by omega, by go_num, HN2, Lib.hid (below_drewN (hB.out.alloc hB.out.size _) _)⟩
                case measure => simp [intOf]; omega
      · obtain rfl : i = len := by omega
        have hres := Lib.hid (show chkE T = 0 by
          have := hgo.out
          rw [List.drop_eq_nil_of_le (by rw [hT.out.1]; exact Nat.le_refl _)] at this
          exact this.symm)
        go_wp2_with fail
        go_ret
        exact ⟨ret1 hres.out, hB.out⟩
end Go.Proofs.Ytmmdhmhcfpghfaa
