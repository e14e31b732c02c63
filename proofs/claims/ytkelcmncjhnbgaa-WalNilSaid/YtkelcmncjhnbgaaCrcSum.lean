/- The sum, bit by bit. -/
import Derived.Test.YtkelcmncjhnbgaaBase
import Derived.Test.YtkelcmncjhnbgaaCrcPlain
set_option linter.unusedVariables false
set_option maxRecDepth 100000
namespace Go.Proofs.Ytkelcmncjhnbgaa
open Go.RowKit

theorem tap_bits (x : Nat) (hx : x < 4294967296) : bits BinOp.xor IntKind.u32 ((x : Int) / 2) (bits BinOp.and IntKind.u32 2197175160 (-bits BinOp.and IntKind.u32 (x : Int) 1 % 4294967296)) = ((tap x : Nat) : Int) := by
  have h1 : bits BinOp.and IntKind.u32 (x : Int) 1 = ((x % 2 : Nat) : Int) := by
    rw [u32_and _ _ (by omega) (by omega) (by omega) (by omega), show (x : Int).toNat = x by omega, show (1 : Int).toNat = 1 from rfl, nat_mask1]
  have h2 : (-(((x % 2 : Nat) : Int)) % 4294967296) = (((4294967296 - x % 2) % 4294967296 : Nat) : Int) := by omega
  have h4 : (4294967296 - x % 2) % 4294967296 < 4294967296 := Nat.mod_lt _ (by decide)
  have h3 := u32_and 2197175160 (((4294967296 - x % 2) % 4294967296 : Nat) : Int) (by omega) (by omega) (by omega) (by omega)
  have h5 : 2197175160 &&& ((4294967296 - x % 2) % 4294967296) < 2 ^ 32 := Nat.and_lt_two_pow _ h4
  rw [h1, h2, h3, show ((2197175160 : Int)).toNat = 2197175160 from rfl, Int.toNat_natCast, show ((x : Int) / 2) = ((x / 2 : Nat) : Int) by omega,
    u32_xor_nat _ _ (by omega) (by omega), tap_code]

set_option maxHeartbeats 400000 in
theorem crc_through (r b : Nat) (w : World) (hr : r < 4294967296) (hb : b < 256) :
    Calls Try.prog 77 #[.int .u32 r, .int .u8 b] w fun e w' => e = .returned (.int .u32 (thr r b)) ∧ w = w' := by
  have h0 : bits BinOp.xor IntKind.u32 (r : Int) (b : Int) = ((tapN 0 (r ^^^ b) : Nat) : Int) := u32_xor_nat r b hr (by omega)
  have hx : r ^^^ b < 4294967296 := Nat.xor_lt_two_pow (n := 32) hr (by omega)
  have h8 : tapN 8 (r ^^^ b) = thr r b := rfl
  generalize r ^^^ b = x at *
  go_enter Try.func77, Try.ntmps77
  go_wp2_with fail
  go_loopw [0, 9] (fun y i wr => ∃ k : Nat, k ≤ 8 ∧ i = .int .i64 k ∧ y = .int .u32 (tapN k x) ∧ wr = w) (fun y i wr => 8 - (intOf i).toNat)
  case atStart => exact ⟨0, by omega, rfl, rfl, rfl⟩
  case round =>
    obtain ⟨k, hk, rfl, rfl, rfl⟩ := hrel
    by_cases hlt : k < 8
    · have hbit := tap_bits (tapN k x) (tapN_lt k hx)
      rw [← tapN_last] at hbit
      go_wp2
      go_roundw
      case rel => exact ⟨k + 1, by omega, by go_num, rfl, trivial⟩
      case measure => simp [intOf]; omega
    · obtain rfl : k = 8 := by omega
      rw [h8]
      go_wp2
      go_ret
      exact ⟨rfl, rfl⟩

def joinedC (T : List ByteArray) : List UInt8 := T.flatMap fun s => s.data.toList

theorem joinedC_next (T : List ByteArray) (k : Nat) (h : k < T.length) : joinedC (T.take (k + 1)) = joinedC (T.take k) ++ (T.getD k ByteArray.empty).data.toList := by
  unfold joinedC
  rw [List.take_add_one, List.getElem?_eq_getElem h, List.flatMap_append, List.getD_eq_getElem?_getD, List.getElem?_eq_getElem h]
  simp
theorem take_next (l : List UInt8) (k : Nat) (h : k < l.length) : l.take (k + 1) = l.take k ++ [l[k]] := by
  rw [List.take_add_one, List.getElem?_eq_getElem h]; rfl
theorem feedL_next (r : Nat) (l : List UInt8) (k : Nat) (h : k < l.length) : feedL r (l.take (k + 1)) = thr (feedL r (l.take k)) (l[k]).toNat := by
  rw [take_next l k h, feedL_append]; rfl

theorem feedS_next (r : Nat) (s : ByteArray) (k : Nat) (h : k < s.size) : feedL r (s.data.toList.take (k + 1)) = thr (feedL r (s.data.toList.take k)) (s[k]).toNat :=
  feedL_next r s.data.toList k (by simpa using h)
theorem feedS_all (r : Nat) (s : ByteArray) : feedL r (s.data.toList.take s.size) = feedL r s.data.toList := by
  rw [List.take_of_length_le (by simp)]
theorem feedL_lt' (l : List UInt8) {r : Nat} (h : r < 4294967296) : feedL r l < 4294967296 := feedL_lt l h
/-- Each bit of a register turned. -/
def notN (x : Nat) : Nat := 4294967295 - x
theorem not_nat (q : Nat) (h : q < 4294967296) : 4294967295 ^^^ q = notN q := by
  apply Nat.eq_of_testBit_eq
  intro i
  have h1 := Nat.testBit_two_pow_sub_succ (n := 32) (x := q) (by simpa using h) i
  have h2 := Nat.testBit_two_pow_sub_one 32 i
  rw [show 2 ^ 32 - (q + 1) = notN q by unfold notN; omega] at h1
  rw [show (2 : Nat) ^ 32 - 1 = 4294967295 by decide] at h2
  rw [Nat.testBit_xor, h1, h2]
  by_cases hi : i < 32
  · simp [hi]
  · have : q.testBit i = false := Nat.testBit_lt_two_pow (Nat.lt_of_lt_of_le h (Nat.pow_le_pow_right (n := 2) (by decide) (show 32 ≤ i by omega)))
    simp [hi, this]
theorem not_bits (q : Nat) (h : q < 4294967296) : bits BinOp.xor IntKind.u32 IntKind.u32.max (q : Int) = ((notN q : Nat) : Int) := by
  rw [show IntKind.u32.max = 4294967295 by decide, u32_xor _ _ (by omega) (by omega) (by omega) (by omega), show (4294967295 : Int).toNat = 4294967295 from rfl, Int.toNat_natCast, not_nat q h]
theorem not_ret (q : Nat) (h : q < 4294967296) : Ending.returned (.int .u32 (bits BinOp.xor IntKind.u32 IntKind.u32.max (q : Int))) = Ending.returned (.int .u32 ((notN q : Nat) : Int)) := by rw [not_bits q h]

set_option maxHeartbeats 400000 in
theorem crc_Sum (a : Option Addr) (b off len cap : Nat) (T : List ByteArray) (w : World) (hlen : Hid (len = T.length)) (hl : len ≤ 9223372036854775807) (hz : Hid (RowS b off T w)) (hs : Hid (∀ s ∈ T, s.size ≤ 140737488355328)) (hab : Hid (len = 0 ∨ a = some ⟨b, off, none⟩)) :
    Calls Try.prog 71 #[.slice a len cap] w fun e w' => e = .returned (.int .u32 (sumL (joinedC T))) ∧ w = w' := by
  go_enter Try.func71, Try.ntmps71
  go_wp2_with fail
  go_loopw [3, 9] (fun y i wr => ∃ k : Nat, k ≤ len ∧ i = .int .i64 k ∧ y = .int .u32 (feedL 4294967295 (joinedC (T.take k))) ∧ wr = w) (fun y i wr => len - (intOf i).toNat)
  case atStart => exact ⟨0, by omega, rfl, rfl, rfl⟩
  case round =>
    obtain ⟨k, hk, rfl, rfl, rfl⟩ := hrel
    by_cases hlt : k < len
    · have hkT : k < T.length := by rw [← hlen.out]; exact hlt
      obtain ⟨hb, c1⟩ := hz.out k hkT
      have ha : a = some ⟨b, off, none⟩ := by rcases hab.out with h | h; (omega); (exact h)
      have hnext := Lib.hid (joinedC_next T k hkT)
      have hsz : (T.getD k ByteArray.empty).size ≤ 140737488355328 := hs.out _ (by rw [List.getD_eq_getElem?_getD, List.getElem?_eq_getElem hkT]; exact List.getElem_mem _)
      have hrl := Lib.hid (feedL_lt' (joinedC (T.take k)) (r := 4294967295) (by decide))
      clear hb
      generalize T.getD k ByteArray.empty = s at *
      obtain ⟨R, hR⟩ : ∃ R, R = feedL 4294967295 (joinedC (T.take k)) := ⟨_, rfl⟩
      rw [← hR] at hrl ⊢
      have HR := Lib.hid hR
      clear hR
      subst ha
      go_wp2_with fail
      go_loopw [3, 15] (fun y i wo => ∃ j : Nat, j ≤ s.size ∧ i = .int .i64 j ∧ y = .int .u32 (feedL R (s.data.toList.take j)) ∧ wo = wr) (fun y i wo => s.size - (intOf i).toNat)
      case atStart => exact ⟨0, by omega, rfl, rfl, rfl⟩
      case round =>
        obtain ⟨j, hj, rfl, rfl, rfl⟩ := hrel
        by_cases hjt : j < s.size
        · have hfn := feedS_next R s j hjt
          have hq := feedL_lt' (s.data.toList.take j) hrl.out
          generalize feedL R (s.data.toList.take j) = q at *
          have hbt : (s[j]).toNat < 256 := (s[j]).toNat_lt
          go_wp2_with fail
          refine (crc_through q (s[j]).toNat wr hq hbt).mono ?_
          rintro e w2 ⟨rfl, rfl⟩
          go_wp2_with fail
          go_roundw
          case rel => exact ⟨j + 1, by omega, by go_num, by rw [hfn], trivial⟩
          case measure => simp [intOf]; omega
        · obtain rfl : j = s.size := by omega
          have hend : feedL R (s.data.toList.take s.size) = feedL 4294967295 (joinedC (T.take (k + 1))) := by
            rw [feedS_all, hnext.out, feedL_append, HR.out]
          rw [hend]
          clear hend
          go_wp2_with fail
          go_roundw
          case rel => exact ⟨k + 1, by omega, by go_num, rfl, trivial⟩
          case measure => simp [intOf]; omega
    · obtain rfl : k = len := by omega
      have hall : joinedC (T.take k) = joinedC T := by rw [hlen.out, List.take_length]
      have hlt := feedL_lt' (joinedC T) (r := 4294967295) (by decide)
      rw [hall]
      have hsum : sumL (joinedC T) = notN (feedL 4294967295 (joinedC T)) := rfl
      generalize feedL 4294967295 (joinedC T) = q at *
      go_wp2_with fail
      go_ret
      exact ⟨not_ret q hlt, rfl⟩
end Go.Proofs.Ytkelcmncjhnbgaa
