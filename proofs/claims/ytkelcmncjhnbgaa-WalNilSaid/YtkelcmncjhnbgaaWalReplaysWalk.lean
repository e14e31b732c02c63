/- WalReplays, walked: of any file's bytes the records are told that the document says, and whether they are all of it. -/
import Derived.Test.YtkelcmncjhnbgaaWalReplay
set_option linter.unusedVariables false
set_option maxRecDepth 100000
namespace Go.Proofs.Ytkelcmncjhnbgaa
open Go.RowKit

/-- A disk with one file. -/
def file1 (r : Nat) (b : List UInt8) (st : Nat) : DS := ⟨r, 0, [⟨1, 0, b, false, 0⟩], 0, st, -1, false⟩
theorem new_make {r : Nat} (hr : 1 ≤ r) : (DS.new r 0).make 0 1 = (file1 r [] 1, 0) := by
  unfold DS.make DS.new DS.room DS.used DS.tick file1
  simp [findL, usedL]
  omega
theorem file1_add {r st : Nat} (b : List UInt8) : (file1 r [] st).add 1 b = if r < blk b.length then (file1 r [] st, 7) else (file1 r b (st + 1), 0) := by
  have h1 : findL 1 (file1 r [] st).fs = some ⟨1, 0, [], false, 0⟩ := by simp [file1, findL]
  have hp := blk_pos b.length
  unfold DS.add
  rw [if_neg (by simp [file1]), h1]
  simp only [List.length_nil, Nat.zero_add, blk_zero]
  have hu : (file1 r [] st).room 0 = r := by simp [DS.room, file1]
  have hv : (file1 r [] st).used 0 = 1 := by simp [DS.used, file1, usedL, blk_zero]
  rw [hu, hv]
  by_cases h : r < blk b.length
  · rw [if_pos h, if_pos (by omega)]
  · rw [if_neg h, if_neg (by omega), if_neg (by simp [file1])]
    simp [file1, DS.tick, updL, addF]
theorem file1_find (r : Nat) (b : List UInt8) (st : Nat) : findL 1 (file1 r b st).fs = some ⟨1, 0, b, false, 0⟩ := by simp [file1, findL]
theorem file1_none (r : Nat) (b : List UInt8) (st : Nat) {n : Int} (h : n ≠ 1) : findL n (file1 r b st).fs = none := by
  simp [file1, findL]
  omega
theorem one_wf : (Lit.int .i64 1).wf = true := by decide
theorem wf_of {n : Int} (h1 : -9223372036854775808 ≤ n) (h2 : n ≤ 9223372036854775807) : (Lit.int .i64 n).wf = true := by
  simp [Lit.wf, IntKind.min, IntKind.max, IntKind.signed, IntKind.bits]
  omega
theorem frames_many : ∀ L : List (List UInt8), L.length ≤ (framesL L).length
  | [] => Nat.le_refl _
  | r :: L => by
    have := frameL_pos r
    have := frames_many L
    show L.length + 1 ≤ (frameL r ++ framesL L).length
    rw [List.length_append]; omega
theorem split_many (l : List UInt8) : (splitL l).1.length ≤ l.length := by
  obtain ⟨h1, h2, _⟩ := split_back _ l (Nat.le_refl _)
  have := frames_many (splitL l).1
  have := split_le l
  omega

set_option maxHeartbeats 4000000 in
theorem replays_walk (s : List UInt8) (hz : s.length ≤ 140737488351232) (file : Int) (hfile : -9223372036854775808 ≤ file ∧ file ≤ 9223372036854775807) (w : World) :
    Calls Try.prog 6 #[.string (bs s), .int .i64 file] w fun e w' => e = .returned (.bool true) ∧ Below w.heap.size w w' := by
  obtain ⟨q, hq⟩ : ∃ q, q = s.length := ⟨_, rfl⟩
  have hsz : (bs s).size = q := by rw [bs_size, hq]
  have HQ := Lib.hid hq
  rw [← hq] at hz
  clear hq
  go_enter Try.func6, Try.ntmps6
  go_wp2_with fail
  refine (law_awake w).mono ?_
  rintro e w1 ⟨rfl, k1⟩
  have K1 := Lib.hid k1
  clear k1
  by_cases hq3 : q ≤ 30000
  · have hq3' : (q : Int) ≤ 30000 := by omega
    go_wp2_with fail
    refine (show Calls Try.prog 17 #[.int .i64 1000, .int .i64 0] w1 _ from at_New 1000 0 w1 (by omega) (by omega)).mono ?_
    rintro e w2 ⟨d, rfl, d2, k2⟩
    have D2 := Lib.hid d2
    have K2 := Lib.hid (K1.out.trans (k2.mono K1.out.size))
    clear d2 k2
    go_wp2_with fail
    refine (at_Make D2.out 0 1 one_wf (by simp [DS.new])).mono ?_
    rintro e w3 ⟨rfl, d3, k3⟩
    rw [new_make (by omega)] at d3 ⊢
    have D3 := Lib.hid d3
    have K3 := Lib.hid (K2.out.trans (k3.mono K1.out.size))
    clear d3 k3 D2
    simp only
    go_wp2_with fail
    refine (at_Add D3.out 1 s one_wf (by simp [file1]) (by rw [← HQ.out]; omega)).mono ?_
    rintro e w4 ⟨rfl, d4, k4⟩
    have hnb : ¬ 1000 < blk s.length := by unfold blk; rw [← HQ.out]; omega
    rw [file1_add, if_neg hnb] at d4 ⊢
    have D4 := Lib.hid d4.1
    have K4 := Lib.hid (K3.out.trans (k4.mono K1.out.size))
    clear d4 k4 D3 hnb
    simp only
    by_cases hf1 : file = 1
    · subst hf1
      go_wp2_with fail
      refine (wal_Replay D4 one_wf (by rfl) (file1_find _ _ _)).mono ?_
      rintro e w5 ⟨v, rfl, o5, k5⟩
      have K5 := Lib.hid (K4.out.trans (k5.mono K4.out.size))
      have T5 := Lib.hid o5.txs
      clear o5 k5
      obtain ⟨a5, c5, rfl, _⟩ := id T5.out
      go_wp2_with fail
      refine (ref_Split s w5 (by rw [← HQ.out]; omega)).mono ?_
      rintro e w6 ⟨v, rfl, o6, k6⟩
      have K6 := Lib.hid (K5.out.trans (k6.mono K5.out.size))
      have T6 := Lib.hid (T5.out.below k6)
      have S6 := Lib.hid o6.txs
      clear o6 k6 T5
      obtain ⟨a6, c6, rfl, _⟩ := id S6.out
      obtain ⟨x, hx⟩ : ∃ x, x = (splitL s).2 := ⟨_, rfl⟩
      have hmany := Lib.hid (split_many s)
      have HX := Lib.hid hx
      rw [← hx, ← HQ.out]
      clear hx
      go_wp2_with fail
      refine (ref_Same T6.out S6.out (by have := hmany.out; have := HQ.out; omega)).mono ?_
      rintro e w7 ⟨rfl, k7⟩
      have K7 := Lib.hid (K6.out.trans (k7.mono K6.out.size))
      clear k7
      by_cases hxq : x = q
      · have hxq' : ((x : Int) == (q : Int)) = true := by rw [hxq]; exact beq_self_eq_true _
        have hxd : decide (x = q) = true := decide_eq_true hxq
        clear hxq
        rw [hxd]
        go_wp2_with fail
        go_ret
        exact ⟨rfl, K7.out⟩
      · have hxq' : ((x : Int) == (q : Int)) = false := beq_eq_false_iff_ne.2 (by omega)
        have hxd : decide (x = q) = false := decide_eq_false hxq
        clear hxq
        rw [hxd]
        go_wp2_with fail
        go_ret
        exact ⟨rfl, K7.out⟩
    · have hf1' : (file == 1) = false := beq_eq_false_iff_ne.2 hf1
      go_wp2_with fail
      refine (wal_Replay_none D4 (wf_of hfile.1 hfile.2) (by rfl) (file1_none _ _ _ hf1)).mono ?_
      rintro e w5 ⟨rfl, k5⟩
      have K5 := Lib.hid (K4.out.trans (k5.mono K4.out.size))
      clear k5
      go_wp2_with fail
      go_ret
      exact ⟨rfl, K5.out⟩
  · have hq3' : (30000 : Int) < (q : Int) := by omega
    go_wp2_with fail
    refine (law_awake w1).mono ?_
    rintro e w3 ⟨rfl, k3⟩
    go_wp2
    go_ret
    exact ⟨rfl, K1.out.trans (k3.mono K1.out.size)⟩
end Go.Proofs.Ytkelcmncjhnbgaa
