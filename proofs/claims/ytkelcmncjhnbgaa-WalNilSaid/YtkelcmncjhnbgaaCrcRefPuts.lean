/- The document's own answers: a text with its sum, put and taken. -/
import Derived.Test.YtkelcmncjhnbgaaCrcRefSum
set_option linter.unusedVariables false
set_option maxRecDepth 100000
namespace Go.Proofs.Ytkelcmncjhnbgaa
open Go.RowKit

set_option maxHeartbeats 400000 in
theorem ref_Four (x : Nat) (w : World) (hx : x < 4294967296) :
    Calls Try.prog 63 #[.int .u32 x] w fun e w' => e = .returned (.string (bs (four x))) ∧ Below w.heap.size w w' := by
  have hconv := conv_four w w.heap.size x rfl ((x : Int) / 16777216) ((x : Int) / 65536 % 256) ((x : Int) / 256 % 256) ((x : Int) % 256) (by omega) (by omega) (by omega) (by omega)
  go_enter Try.func63, Try.ntmps63
  go_wp2
  go_ret
  exact ⟨rfl, (Below.refl _ _).alloc (Nat.le_refl _) _⟩

set_option maxHeartbeats 400000 in
theorem ref_Put (s : ByteArray) (w : World) (hs : s.size ≤ 140737488351232) :
    Calls Try.prog 49 #[.string s] w fun e w' => e = .returned (.string (bs (s.data.toList ++ four (sumL s.data.toList)))) ∧ Below w.heap.size w w' := by
  have hcat := cat_bs s (four (sumL s.data.toList))
  have hsum : (s.size : Int) + ((bs (four (sumL s.data.toList))).size : Int) ≤ 9223372036854775807 := by rw [bs_size, four_len]; omega
  have hlt := sumL_lt s.data.toList
  go_enter Try.func49, Try.ntmps49
  go_wp2_with fail
  refine (ref_SumC s w (by omega)).mono ?_
  rintro e w1 ⟨rfl, k1⟩
  go_wp2_with fail
  refine (ref_Four _ w1 hlt).mono ?_
  rintro e w2 ⟨rfl, k2⟩
  go_wp2
  go_ret
  exact ⟨rfl, k1.trans (k2.mono k1.size)⟩

theorem seen_refSum (W : World) (s : ByteArray) (hs : s.size ≤ 140737488355328) (n : Seen W) : Calls Try.prog 64 #[.string s] n.val fun e w'' => e = .returned (.int .u32 (sumL s.data.toList)) ∧ ∃ m : Seen W, w'' = m.val :=
  (ref_SumC s n.val hs).mono fun _ w'' ⟨h1, h2⟩ => ⟨h1, ⟨⟨w'', n.below.trans (h2.mono n.below.size)⟩, rfl⟩⟩
theorem seen_refFour (W : World) (x : Nat) (hx : x < 4294967296) (n : Seen W) : Calls Try.prog 63 #[.int .u32 x] n.val fun e w'' => e = .returned (.string (bs (four x))) ∧ ∃ m : Seen W, w'' = m.val :=
  (ref_Four x n.val hx).mono fun _ w'' ⟨h1, h2⟩ => ⟨h1, ⟨⟨w'', n.below.trans (h2.mono n.below.size)⟩, rfl⟩⟩

set_option maxHeartbeats 400000 in
theorem ref_Take (s : ByteArray) (w : World) (hs : s.size ≤ 140737488355328) :
    Calls Try.prog 39 #[.string s] w fun e w' => e = .returned (.tuple #[.string (bs (takeT s.data.toList)), .int .i64 (takeE s.data.toList)]) ∧ Below w.heap.size w w' := by
  have hl : s.data.toList.length = s.size := by rw [← Lib.size_eq]
  by_cases h4 : s.size < 4
  · have e1 : takeT s.data.toList = [] := by unfold takeT; rw [if_neg (by omega)]
    have e2 : takeE s.data.toList = 2 := by unfold takeE; rw [if_pos (by omega)]
    rw [e1, e2]
    clear e1 e2
    go_enter Try.func39, Try.ntmps39
    go_wp2
    go_ret2
    exact ⟨rfl, Below.refl _ _⟩
  · obtain ⟨n, hn⟩ : ∃ n : Nat, s.size = n + 4 := ⟨s.size - 4, by omega⟩
    obtain ⟨x1, x2⟩ := take_split (s := s) (n := n) (by omega)
    have hok : okT s.data.toList ↔ s.data.toList.drop n = four (sumL (s.data.toList.take n)) := by unfold okT; rw [hl, hn, Nat.add_sub_cancel]
    have e1 : takeT s.data.toList = if okT s.data.toList then s.data.toList.take n else [] := by
      unfold takeT
      rw [hl, hn, Nat.add_sub_cancel]
      by_cases h : okT s.data.toList
      · rw [if_pos ⟨by omega, h⟩, if_pos h]
      · rw [if_neg (fun x => h x.2), if_neg h]
    have e2 : takeE s.data.toList = if okT s.data.toList then 0 else 4 := by unfold takeE; rw [if_neg (by omega)]
    have hsz : ((s.size : Int) - 4) = (n : Int) := by omega
    have hle : n ≤ s.size := by omega
    have hlen : (s.data.toList.take n).length ≤ 140737488355328 := by rw [List.length_take]; omega
    have HN := Lib.hid hn
    clear hn
    go_enter Try.func39, Try.ntmps39
    go_wp2_with fail
    refine region_seen (by kernel_rfl) (by kernel_rfl) ?_
    repeat (go_big_quiet_step (first | (go_at_call 64; exact seen_refSum _ _ (by rw [bs_size]; exact hlen) _) | (go_at_call 63; exact seen_refFour _ _ (sumL_lt _) _)))
    refine wpQuiet_nil ?_
    rintro _ ⟨m, rfl⟩
    go_wp2_with fail
    · rename_i h
      rw [Bool.not_eq_true', Bool.eq_false_iff, Ne, same_bytes, bs_list, ← hok] at h
      go_ret2
      exact ⟨ret2s (by rw [e1, if_neg h]; rfl) (by rw [e2, if_neg h]), m.below⟩
    · rename_i h
      rw [Bool.not_eq_false', same_bytes, bs_list, ← hok] at h
      go_ret2
      exact ⟨ret2s (by rw [e1, if_pos h]) (by rw [e2, if_pos h]), m.below⟩
end Go.Proofs.Ytkelcmncjhnbgaa
