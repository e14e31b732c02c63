/- A text with its sum behind it, put and taken. -/
import Derived.Test.YtkelcmncjhnbgaaCrcSum
set_option linter.unusedVariables false
set_option maxRecDepth 100000
namespace Go.Proofs.Ytkelcmncjhnbgaa
open Go.RowKit

theorem conv_four (W : World) (g x : Nat) (hg : g = W.heap.size) (c0 c1 c2 c3 : Int) (h0 : c0 = ((x / 16777216 % 256 : Nat) : Int)) (h1 : c1 = ((x / 65536 % 256 : Nat) : Int)) (h2 : c2 = ((x / 256 % 256 : Nat) : Int)) (h3 : c3 = ((x % 256 : Nat) : Int)) :
    (convert 34 9 (.slice (some ⟨g, 0, none⟩) 4 4)).run Try.prog (W.alloc (.cells #[.int .u8 c0, .int .u8 c1, .int .u8 c2, .int .u8 c3] 5)) = .ok (.string (bs (four x))) (W.alloc (.cells #[.int .u8 c0, .int .u8 c1, .int .u8 c2, .int .u8 c3] 5)) := by
  subst hg h0 h1 h2 h3
  refine run_convert_bytes_back (P := Try.prog) _ 34 9 5 ⟨W.heap.size, 0, none⟩ 4 (four x) Try.underlying34 Try.underlying5 Try.underlying9 ?_
  intro j hj
  have hj4 : j < 4 := hj
  have hadd : (⟨W.heap.size, 0, none⟩ : Addr).add j = ⟨W.heap.size, 0 + j, none⟩ := by unfold Addr.add; split <;> simp_all
  rw [hadd, World.cell?_alloc_mark]
  have : j = 0 ∨ j = 1 ∨ j = 2 ∨ j = 3 := by omega
  rcases this with rfl | rfl | rfl | rfl <;> simp [four, ofNat_toNat]

set_option maxHeartbeats 400000 in
theorem crc_sumOf (s : ByteArray) (w : World) (hs : s.size ≤ 140737488355328) :
    Calls Try.prog 54 #[.string s] w fun e w' => e = .returned (.string (bs (four (sumL s.data.toList)))) ∧ Below w.heap.size w w' := by
  have hrow := row_new w [s] 9
  have hj : joinedC [s] = s.data.toList := by simp [joinedC]
  have hlt := sumL_lt s.data.toList
  obtain ⟨x, hx⟩ : ∃ x, x = sumL s.data.toList := ⟨_, rfl⟩
  rw [← hx] at hlt ⊢
  have HX := Lib.hid hx
  clear hx
  go_enter Try.func54, Try.ntmps54
  go_wp2_with fail
  refine (crc_Sum (some ⟨w.heap.size, 0, none⟩) w.heap.size 0 1 1 [s] _ (Lib.hid rfl) (by omega) (Lib.hid hrow) (Lib.hid (by simpa using hs)) (Lib.hid (.inr rfl))).mono ?_
  rintro e w1 ⟨rfl, rfl⟩
  rw [hj, ← HX.out]
  have hconv := conv_four (w.alloc (.cells #[.string s] 9)) (w.heap.size + 1) x (by simp) ((x : Int) / 16777216) ((x : Int) / 65536 % 256) ((x : Int) / 256 % 256) ((x : Int) % 256) (by omega) (by omega) (by omega) (by omega)
  go_wp2
  go_ret
  exact ⟨rfl, ((Below.refl _ _).alloc (Nat.le_refl _) _).alloc (by simp) _⟩

set_option maxHeartbeats 400000 in
theorem crc_Put (s : ByteArray) (w : World) (hs : s.size ≤ 140737488351232) :
    Calls Try.prog 35 #[.string s] w fun e w' => e = .returned (.string (bs (s.data.toList ++ four (sumL s.data.toList)))) ∧ Below w.heap.size w w' := by
  have hcat := cat_bs s (four (sumL s.data.toList))
  have hsum : (s.size : Int) + ((bs (four (sumL s.data.toList))).size : Int) ≤ 9223372036854775807 := by rw [bs_size, four_len]; omega
  go_enter Try.func35, Try.ntmps35
  go_wp2_with fail
  refine (crc_sumOf s w (by omega)).mono ?_
  rintro e w1 ⟨rfl, k1⟩
  go_wp2
  go_ret
  exact ⟨rfl, k1⟩

theorem seen_sumOf (W : World) (s : ByteArray) (hs : s.size ≤ 140737488355328) (n : Seen W) : Calls Try.prog 54 #[.string s] n.val fun e w'' => e = .returned (.string (bs (four (sumL s.data.toList)))) ∧ ∃ m : Seen W, w'' = m.val :=
  (crc_sumOf s n.val hs).mono fun _ w'' ⟨h1, h2⟩ => ⟨h1, ⟨⟨w'', n.below.trans (h2.mono n.below.size)⟩, rfl⟩⟩

/-- What a text is without its sum; why it is none. -/
def okT (l : List UInt8) : Prop := l.drop (l.length - 4) = four (sumL (l.take (l.length - 4)))
instance (l : List UInt8) : Decidable (okT l) := by unfold okT; infer_instance
def takeT (l : List UInt8) : List UInt8 := if 4 ≤ l.length ∧ okT l then l.take (l.length - 4) else []
def takeE (l : List UInt8) : Int := if l.length < 4 then 2 else if okT l then 0 else 4
set_option maxHeartbeats 400000 in
theorem crc_Take (s : ByteArray) (w : World) (hs : s.size ≤ 140737488355328) :
    Calls Try.prog 60 #[.string s] w fun e w' => e = .returned (.tuple #[.string (bs (takeT s.data.toList)), .int .i64 (takeE s.data.toList)]) ∧ Below w.heap.size w w' := by
  have hl : s.data.toList.length = s.size := by rw [← Lib.size_eq]
  by_cases h4 : s.size < 4
  · have e1 : takeT s.data.toList = [] := by unfold takeT; rw [if_neg (by omega)]
    have e2 : takeE s.data.toList = 2 := by unfold takeE; rw [if_pos (by omega)]
    rw [e1, e2]
    clear e1 e2
    go_enter Try.func60, Try.ntmps60
    go_wp2
    go_ret2
    exact ⟨rfl, Below.refl _ _⟩
  · obtain ⟨n, hn⟩ : ∃ n : Nat, s.size = n + 4 := ⟨s.size - 4, by omega⟩
    obtain ⟨x1, x2⟩ := take_split (s := s) (n := n) (by omega)
    have hok : okT s.data.toList ↔ s.data.toList.drop n = four (sumL (s.data.toList.take n)) := by unfold okT; rw [hl, hn, Nat.add_sub_cancel]
    have e1 : takeT s.data.toList = if okT s.data.toList then s.data.toList.take n else [] := by
      unfold takeT
      rw [hl, hn, Nat.add_sub_cancel]
      by_cases h : okT s.data.toList
      · rw [if_pos ⟨by omega, h⟩, if_pos h]
      · rw [if_neg (fun x => h x.2), if_neg h]
    have e2 : takeE s.data.toList = if okT s.data.toList then 0 else 4 := by unfold takeE; rw [if_neg (by omega)]
    have hsz : ((s.size : Int) - 4) = (n : Int) := by omega
    have hle : n ≤ s.size := by omega
    have hlen : (s.data.toList.take n).length ≤ 140737488355328 := by rw [List.length_take]; omega
    have HN := Lib.hid hn
    clear hn
    go_enter Try.func60, Try.ntmps60
    go_wp2_with fail
    refine region_seen (by kernel_rfl) (by kernel_rfl) ?_
    repeat (go_big_quiet_step (first | (go_at_call 54; exact seen_sumOf _ _ (by rw [bs_size]; exact hlen) _)))
    refine wpQuiet_nil ?_
    rintro _ ⟨m, rfl⟩
    go_wp2_with fail
    · rename_i h
      rw [Bool.not_eq_true', Bool.eq_false_iff, Ne, same_bytes, bs_list, ← hok] at h
      go_ret2
      exact ⟨ret2s (by rw [e1, if_neg h]; rfl) (by rw [e2, if_neg h]), m.below⟩
    · rename_i h
      rw [Bool.not_eq_false', same_bytes, bs_list, ← hok] at h
      go_ret2
      exact ⟨ret2s (by rw [e1, if_pos h]) (by rw [e2, if_pos h]), m.below⟩
end Go.Proofs.Ytkelcmncjhnbgaa
