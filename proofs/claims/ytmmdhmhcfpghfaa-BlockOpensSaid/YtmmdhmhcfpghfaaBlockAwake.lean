/- Packed and opened, and the document's example. -/
import Derived.Test.YtmmdhmhcfpghfaaBlockOpened
set_option linter.unusedVariables false
set_option maxRecDepth 100000
namespace Go.Proofs.Ytmmdhmhcfpghfaa
open Go.RowKit

theorem take_put (l : List UInt8) : takeE (l ++ four (sumL l)) = 0 ∧ takeT (l ++ four (sumL l)) = l := by
  have hl : (l ++ four (sumL l)).length - 4 = l.length := by rw [List.length_append, four_len]; omega
  have h4 : 4 ≤ (l ++ four (sumL l)).length := by rw [List.length_append, four_len]; omega
  have hok : okT (l ++ four (sumL l)) := by
    unfold okT
    rw [hl, List.drop_left, List.take_left]
  constructor
  · unfold takeE; rw [if_neg (by omega), if_pos hok]
  · unfold takeT; rw [if_pos ⟨h4, hok⟩, hl, List.take_left]
theorem put_take {s : List UInt8} (h : takeE s = 0) : takeT s ++ four (sumL (takeT s)) = s := by
  unfold takeE at h
  split at h
  · cases h
  · rename_i h4
    split at h
    · rename_i hok
      have e : takeT s = s.take (s.length - 4) := by unfold takeT; rw [if_pos ⟨by omega, hok⟩]
      rw [e]
      unfold okT at hok
      rw [← hok, List.take_append_drop]
    · cases h
/-- What is packed is opened as it was. -/
theorem open_pack {T : List Ent} (h : chkE T = 0) : opnS (packB T) = (0, T) := by
  obtain ⟨h1, h2⟩ := (chkE_ok T).1 h
  obtain ⟨e1, e2⟩ := take_put (listB T)
  unfold packB opnS
  rw [if_pos h, if_neg (by rw [e1]; decide), e2]
  exact opn_list h1 h2
/-- What is opened was packed. -/
theorem pack_open {s : List UInt8} (h : (opnS s).1 = 0) : chkE (opnS s).2 = 0 ∧ packB (opnS s).2 = s := by
  have hE : takeE s = 0 := Decidable.of_not_not fun g => by
    unfold opnS at h
    rw [if_pos g] at h
    exact g h
  have e : opnS s = opn (takeT s) := by unfold opnS; rw [if_neg (by rw [hE]; decide)]
  rw [e] at h ⊢
  obtain ⟨T, hT⟩ : ∃ T, opn (takeT s) = (0, T) := ⟨_, by rw [← h]⟩
  obtain ⟨a, b, c⟩ := opn_back hT
  rw [hT]
  have hc := (chkE_ok T).2 ⟨b, c⟩
  refine ⟨hc, ?_⟩
  unfold packB
  rw [if_pos hc, a]
  exact put_take hE
theorem packB_len {T : List Ent} : (packB T).length ≤ 10000000100 := by
  unfold packB
  split
  · rename_i h
    obtain ⟨h1, h2⟩ := (chkE_ok T).1 h
    rw [List.length_append, four_len]
    have := listB_len (smallE_of h1) h2
    omega
  · simp

theorem whole_small {n : Nat} (h : n < 64) : whole (n : Int) = [UInt8.ofNat (64 + n)] := by
  unfold whole grp
  rw [if_neg (by omega), Int.toNat_natCast, Nat.div_eq_of_lt h, lead_zero, Nat.mod_eq_of_lt h]
  rfl
def awT : List Ent := [⟨[97, 98], [120], false⟩, ⟨[97, 99], [], true⟩]
def awL : List UInt8 := [66, 64, 66, 97, 98, 66, 120, 65, 65, 99, 64]
theorem aw_list : listB awT = awL := by
  have w0 := whole_small (n := 0) (by decide)
  have w1 := whole_small (n := 1) (by decide)
  have w2 := whole_small (n := 2) (by decide)
  have s1 : sharedL [] [97, 98] = 0 := rfl
  have s2 : sharedL [97, 98] [97, 99] = 1 := rfl
  unfold listB awT
  simp only [entsB, entB, text, s1, s2, List.length_cons, List.length_nil, List.drop_zero, List.drop_succ_cons, if_true, Bool.false_eq_true, if_false, Nat.zero_add]
  rw [show (whole 0) = whole ((0 : Nat) : Int) from rfl]
  simp only [w0, w1, w2]
  rfl
theorem aw_chk : chkE awT = 0 := by decide
theorem aw_pack : packB awT = awL ++ four (sumL awL) := by unfold packB; rw [if_pos aw_chk, aw_list]
theorem aw_row (w : World) : IsE (w.alloc (.cells #[.string ⟨#[97, 98]⟩, .string ⟨#[120]⟩, .bool false, .string ⟨#[97, 99]⟩, .string ⟨#[]⟩, .bool true] 44)) (some ⟨w.heap.size, 0, none⟩) 2 awT := by
  have h := heap_new w (.cells #[.string ⟨#[97, 98]⟩, .string ⟨#[120]⟩, .bool false, .string ⟨#[97, 99]⟩, .string ⟨#[]⟩, .bool true] 44)
  refine ⟨rfl, w.heap.size, 0, .inr rfl, fun k hk => ?_⟩
  match k, hk with
  | 0, _ => exact ⟨heap_lt h, by simp only [World.cell?, h]; rfl, by simp only [World.cell?, h]; rfl, by simp only [World.cell?, h]; rfl⟩
  | 1, _ => exact ⟨heap_lt h, by simp only [World.cell?, h]; rfl, by simp only [World.cell?, h]; rfl, by simp only [World.cell?, h]; rfl⟩
  | k + 2, hk => exact absurd hk (by simp [awT])
theorem fit_of_small {T : List Ent} (h : smallE T) : fitE T := fun x hx => by have := h x hx; omega

set_option maxHeartbeats 2000000 in
theorem law_awake (w : World) : Calls Try.prog 7 #[] w fun e w' => e = .returned (.bool true) ∧ Below w.heap.size w w' := by
  have hP := block_Pack (some ⟨w.heap.size, 0, none⟩) 2 2 awT _ (Lib.hid (aw_row w)) (by decide) (Lib.hid (by intro x hx; simp [awT] at hx; rcases hx with rfl | rfl <;> decide))
  rw [aw_chk, aw_pack] at hP
  have HP := Lib.hid hP
  have hO := fun W => block_Open (awL ++ four (sumL awL)) W (by decide)
  have hopen := open_pack aw_chk
  rw [aw_pack] at hopen
  have HO := Lib.hid hO
  have B0 := Lib.hid ((Below.refl w.heap.size w).alloc (Nat.le_refl _) (.cells #[.string ⟨#[97, 98]⟩, .string ⟨#[120]⟩, .bool false, .string ⟨#[97, 99]⟩, .string ⟨#[]⟩, .bool true] 44))
  obtain ⟨s, hs⟩ : ∃ s, s = awL ++ four (sumL awL) := ⟨_, rfl⟩
  rw [← hs] at HP HO hopen
  have hsz : (bs s).size = 15 := by rw [bs_size, hs, List.length_append, four_len]; rfl
  have hcut : (bs s).extract 0 11 = bs awL := by
    rw [(take_split (s := bs s) (n := 11) (by omega)).1, bs_list, hs]
    rfl
  have heq : ((bs awL).toList == [66, 64, 66, 97, 98, 66, 120, 65, 65, 99, 64]) = true := by rw [Lib.toList_data, bs_list]; rfl
  have HOP := Lib.hid hopen
  clear hP hO hopen hs
  go_enter Try.func7, Try.ntmps7
  go_wp2_with fail
  refine HP.out.mono ?_
  rintro e w1 ⟨rfl, k1⟩
  have K1 := Lib.hid (B0.out.trans (k1.mono B0.out.size))
  clear k1
  go_wp2_with fail
  refine (HO.out w1).mono ?_
  rintro e w2 ⟨⟨a, c, rfl, hE⟩, k2⟩
  rw [HOP.out]
  have K2 := Lib.hid (K1.out.trans (k2.mono K1.out.size))
  clear k2 hE
  go_wp2_with fail
  go_ret
  exact ⟨rfl, K2.out⟩
end Go.Proofs.Ytmmdhmhcfpghfaa
