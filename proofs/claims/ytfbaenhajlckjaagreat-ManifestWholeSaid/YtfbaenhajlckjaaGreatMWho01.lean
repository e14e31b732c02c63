/- Texts put together: CrcSum, CrcPuts, SixPlain, SixRefs, WalPlain -/
import Derived.Test.YtfbaenhajlckjaaGreatMWho00
import Derived.WalkKit
import Derived.WalkSpells
import Derived.WalkLawsBesides
import Derived.Lib.Hide
import Derived.Lib.Strings
import Derived.OwnWalk
import Derived.Deep.Cut
import Derived.Outline
/- The sum, bit by bit. -/
set_option linter.unusedVariables false
set_option maxRecDepth 100000
namespace Go.Proofs.YtfbaenhajlckjaaGreat
open Go.RowKit

theorem tap_bits (x : Nat) (hx : x < 4294967296) : bits BinOp.xor IntKind.u32 ((x : Int) / 2) (bits BinOp.and IntKind.u32 2197175160 (-bits BinOp.and IntKind.u32 (x : Int) 1 % 4294967296)) = ((tap x : Nat) : Int) := by
  have h1 : bits BinOp.and IntKind.u32 (x : Int) 1 = ((x % 2 : Nat) : Int) := by
    rw [u32_and _ _ (by omega) (by omega) (by omega) (by omega), show (x : Int).toNat = x by omega, show (1 : Int).toNat = 1 from rfl, nat_mask1]
  have h2 : (-(((x % 2 : Nat) : Int)) % 4294967296) = (((4294967296 - x % 2) % 4294967296 : Nat) : Int) := by omega
  have h4 : (4294967296 - x % 2) % 4294967296 < 4294967296 := Nat.mod_lt _ (by decide)
  have h3 := u32_and 2197175160 (((4294967296 - x % 2) % 4294967296 : Nat) : Int) (by omega) (by omega) (by omega) (by omega)
  have h5 : 2197175160 &&& ((4294967296 - x % 2) % 4294967296) < 2 ^ 32 := Nat.and_lt_two_pow _ h4
  rw [h1, h2, h3, show ((2197175160 : Int)).toNat = 2197175160 from rfl, Int.toNat_natCast, show ((x : Int) / 2) = ((x / 2 : Nat) : Int) by omega,
    u32_xor_nat _ _ (by omega) (by omega), tap_code]

set_option maxHeartbeats 400000 in
theorem crc_through (r b : Nat) (w : World) (hr : r < 4294967296) (hb : b < 256) :
    Calls Tryz.prog 225 #[.int .u32 r, .int .u8 b] w fun e w' => e = .returned (.int .u32 (thr r b)) ∧ w = w' := by
  have h0 : bits BinOp.xor IntKind.u32 (r : Int) (b : Int) = ((tapN 0 (r ^^^ b) : Nat) : Int) := u32_xor_nat r b hr (by omega)
  have hx : r ^^^ b < 4294967296 := Nat.xor_lt_two_pow (n := 32) hr (by omega)
  have h8 : tapN 8 (r ^^^ b) = thr r b := rfl
  generalize r ^^^ b = x at *
  go_enter Tryz.func225, Tryz.ntmps225
  go_wp2_with fail
  go_loopw [0, 9] (fun y i wr => ∃ k : Nat, k ≤ 8 ∧ i = .int .i64 k ∧ y = .int .u32 (tapN k x) ∧ wr = w) (fun y i wr => 8 - (intOf i).toNat)
  case atStart => exact ⟨0, by omega, rfl, rfl, rfl⟩
  case round =>
    obtain ⟨k, hk, rfl, rfl, rfl⟩ := hrel
    by_cases hlt : k < 8
    · have hbit := tap_bits (tapN k x) (tapN_lt k hx)
      rw [← tapN_last] at hbit
      go_wp2
      go_roundw
      case rel => exact ⟨k + 1, by omega, by go_num, rfl, trivial⟩
      case measure => simp [intOf]; omega
    · obtain rfl : k = 8 := by omega
      rw [h8]
      go_wp2
      go_ret
      exact ⟨rfl, rfl⟩

def joinedC (T : List ByteArray) : List UInt8 := T.flatMap fun s => s.data.toList

theorem joinedC_next (T : List ByteArray) (k : Nat) (h : k < T.length) : joinedC (T.take (k + 1)) = joinedC (T.take k) ++ (T.getD k ByteArray.empty).data.toList := by
  unfold joinedC
  rw [List.take_add_one, List.getElem?_eq_getElem h, List.flatMap_append, List.getD_eq_getElem?_getD, List.getElem?_eq_getElem h]
  simp
theorem take_next (l : List UInt8) (k : Nat) (h : k < l.length) : l.take (k + 1) = l.take k ++ [l[k]] := by
  rw [List.take_add_one, List.getElem?_eq_getElem h]; rfl
theorem feedL_next (r : Nat) (l : List UInt8) (k : Nat) (h : k < l.length) : feedL r (l.take (k + 1)) = thr (feedL r (l.take k)) (l[k]).toNat := by
  rw [take_next l k h, feedL_append]; rfl

theorem feedS_next (r : Nat) (s : ByteArray) (k : Nat) (h : k < s.size) : feedL r (s.data.toList.take (k + 1)) = thr (feedL r (s.data.toList.take k)) (s[k]).toNat :=
  feedL_next r s.data.toList k (by simpa using h)
theorem feedS_all (r : Nat) (s : ByteArray) : feedL r (s.data.toList.take s.size) = feedL r s.data.toList := by
  rw [List.take_of_length_le (by simp)]
theorem feedL_lt' (l : List UInt8) {r : Nat} (h : r < 4294967296) : feedL r l < 4294967296 := feedL_lt l h
/-- Each bit of a register turned. -/
def notN (x : Nat) : Nat := 4294967295 - x
theorem not_nat (q : Nat) (h : q < 4294967296) : 4294967295 ^^^ q = notN q := by
  apply Nat.eq_of_testBit_eq
  intro i
  have h1 := Nat.testBit_two_pow_sub_succ (n := 32) (x := q) (by simpa using h) i
  have h2 := Nat.testBit_two_pow_sub_one 32 i
  rw [show 2 ^ 32 - (q + 1) = notN q by unfold notN; omega] at h1
  rw [show (2 : Nat) ^ 32 - 1 = 4294967295 by decide] at h2
  rw [Nat.testBit_xor, h1, h2]
  by_cases hi : i < 32
  · simp [hi]
  · have : q.testBit i = false := Nat.testBit_lt_two_pow (Nat.lt_of_lt_of_le h (Nat.pow_le_pow_right (n := 2) (by decide) (show 32 ≤ i by omega)))
    simp [hi, this]
theorem not_bits (q : Nat) (h : q < 4294967296) : bits BinOp.xor IntKind.u32 IntKind.u32.max (q : Int) = ((notN q : Nat) : Int) := by
  rw [show IntKind.u32.max = 4294967295 by decide, u32_xor _ _ (by omega) (by omega) (by omega) (by omega), show (4294967295 : Int).toNat = 4294967295 from rfl, Int.toNat_natCast, not_nat q h]
theorem not_ret (q : Nat) (h : q < 4294967296) : Ending.returned (.int .u32 (bits BinOp.xor IntKind.u32 IntKind.u32.max (q : Int))) = Ending.returned (.int .u32 ((notN q : Nat) : Int)) := by rw [not_bits q h]

set_option maxHeartbeats 400000 in
theorem crc_Sum (a : Option Addr) (b off len cap : Nat) (T : List ByteArray) (w : World) (hlen : Hid (len = T.length)) (hl : len ≤ 9223372036854775807) (hz : Hid (RowS b off T w)) (hs : Hid (∀ s ∈ T, s.size ≤ 140737488355328)) (hab : Hid (len = 0 ∨ a = some ⟨b, off, none⟩)) :
    Calls Tryz.prog 219 #[.slice a len cap] w fun e w' => e = .returned (.int .u32 (sumL (joinedC T))) ∧ w = w' := by
  go_enter Tryz.func219, Tryz.ntmps219
  go_wp2_with fail
  go_loopw [3, 9] (fun y i wr => ∃ k : Nat, k ≤ len ∧ i = .int .i64 k ∧ y = .int .u32 (feedL 4294967295 (joinedC (T.take k))) ∧ wr = w) (fun y i wr => len - (intOf i).toNat)
  case atStart => exact ⟨0, by omega, rfl, rfl, rfl⟩
  case round =>
    obtain ⟨k, hk, rfl, rfl, rfl⟩ := hrel
    by_cases hlt : k < len
    · have hkT : k < T.length := by rw [← hlen.out]; exact hlt
      obtain ⟨hb, c1⟩ := hz.out k hkT
      have ha : a = some ⟨b, off, none⟩ := by rcases hab.out with h | h; (omega); (exact h)
      have hnext := Lib.hid (joinedC_next T k hkT)
      have hsz : (T.getD k ByteArray.empty).size ≤ 140737488355328 := hs.out _ (by rw [List.getD_eq_getElem?_getD, List.getElem?_eq_getElem hkT]; exact List.getElem_mem _)
      have hrl := Lib.hid (feedL_lt' (joinedC (T.take k)) (r := 4294967295) (by decide))
      clear hb
      generalize T.getD k ByteArray.empty = s at *
      obtain ⟨R, hR⟩ : ∃ R, R = feedL 4294967295 (joinedC (T.take k)) := ⟨_, rfl⟩
      rw [← hR] at hrl ⊢
      have HR := Lib.hid hR
      clear hR
      subst ha
      go_wp2_with fail
      go_loopw [3, 15] (fun y i wo => ∃ j : Nat, j ≤ s.size ∧ i = .int .i64 j ∧ y = .int .u32 (feedL R (s.data.toList.take j)) ∧ wo = wr) (fun y i wo => s.size - (intOf i).toNat)
      case atStart => exact ⟨0, by omega, rfl, rfl, rfl⟩
      case round =>
        obtain ⟨j, hj, rfl, rfl, rfl⟩ := hrel
        by_cases hjt : j < s.size
        · have hfn := feedS_next R s j hjt
          have hq := feedL_lt' (s.data.toList.take j) hrl.out
          generalize feedL R (s.data.toList.take j) = q at *
          have hbt : (s[j]).toNat < 256 := (s[j]).toNat_lt
          go_wp2_with fail
          refine (crc_through q (s[j]).toNat wr hq hbt).mono ?_
          rintro e w2 ⟨rfl, rfl⟩
          go_wp2_with fail
          go_roundw
          case rel => exact ⟨j + 1, by omega, by go_num, by rw [hfn], trivial⟩
          case measure => simp [intOf]; omega
        · obtain rfl : j = s.size := by omega
          have hend : feedL R (s.data.toList.take s.size) = feedL 4294967295 (joinedC (T.take (k + 1))) := by
            rw [feedS_all, hnext.out, feedL_append, HR.out]
          rw [hend]
          clear hend
          go_wp2_with fail
          go_roundw
          case rel => exact ⟨k + 1, by omega, by go_num, rfl, trivial⟩
          case measure => simp [intOf]; omega
    · obtain rfl : k = len := by omega
      have hall : joinedC (T.take k) = joinedC T := by rw [hlen.out, List.take_length]
      have hlt := feedL_lt' (joinedC T) (r := 4294967295) (by decide)
      rw [hall]
      have hsum : sumL (joinedC T) = notN (feedL 4294967295 (joinedC T)) := rfl
      generalize feedL 4294967295 (joinedC T) = q at *
      go_wp2_with fail
      go_ret
      exact ⟨not_ret q hlt, rfl⟩
end Go.Proofs.YtfbaenhajlckjaaGreat
/- A text with its sum behind it, put and taken. -/
set_option linter.unusedVariables false
set_option maxRecDepth 100000
namespace Go.Proofs.YtfbaenhajlckjaaGreat
open Go.RowKit

theorem conv_four (W : World) (g x : Nat) (hg : g = W.heap.size) (c0 c1 c2 c3 : Int) (h0 : c0 = ((x / 16777216 % 256 : Nat) : Int)) (h1 : c1 = ((x / 65536 % 256 : Nat) : Int)) (h2 : c2 = ((x / 256 % 256 : Nat) : Int)) (h3 : c3 = ((x % 256 : Nat) : Int)) :
    (convert 136 9 (.slice (some ⟨g, 0, none⟩) 4 4)).run Tryz.prog (W.alloc (.cells #[.int .u8 c0, .int .u8 c1, .int .u8 c2, .int .u8 c3] 5)) = .ok (.string (bs (four x))) (W.alloc (.cells #[.int .u8 c0, .int .u8 c1, .int .u8 c2, .int .u8 c3] 5)) := by
  subst hg h0 h1 h2 h3
  refine run_convert_bytes_back (P := Tryz.prog) _ 136 9 5 ⟨W.heap.size, 0, none⟩ 4 (four x) Tryz.underlying136 Tryz.underlying5 Tryz.underlying9 ?_
  intro j hj
  have hj4 : j < 4 := hj
  have hadd : (⟨W.heap.size, 0, none⟩ : Addr).add j = ⟨W.heap.size, 0 + j, none⟩ := by unfold Addr.add; split <;> simp_all
  rw [hadd, World.cell?_alloc_mark]
  have : j = 0 ∨ j = 1 ∨ j = 2 ∨ j = 3 := by omega
  rcases this with rfl | rfl | rfl | rfl <;> simp [four, ofNat_toNat]

set_option maxHeartbeats 400000 in
theorem crc_sumOf (s : ByteArray) (w : World) (hs : s.size ≤ 140737488355328) :
    Calls Tryz.prog 201 #[.string s] w fun e w' => e = .returned (.string (bs (four (sumL s.data.toList)))) ∧ Below w.heap.size w w' := by
  have hrow := row_new w [s] 9
  have hj : joinedC [s] = s.data.toList := by simp [joinedC]
  have hlt := sumL_lt s.data.toList
  obtain ⟨x, hx⟩ : ∃ x, x = sumL s.data.toList := ⟨_, rfl⟩
  rw [← hx] at hlt ⊢
  have HX := Lib.hid hx
  clear hx
  go_enter Tryz.func201, Tryz.ntmps201
  go_wp2_with fail
  refine (crc_Sum (some ⟨w.heap.size, 0, none⟩) w.heap.size 0 1 1 [s] _ (Lib.hid rfl) (by omega) (Lib.hid hrow) (Lib.hid (by simpa using hs)) (Lib.hid (.inr rfl))).mono ?_
  rintro e w1 ⟨rfl, rfl⟩
  rw [hj, ← HX.out]
  have hconv := conv_four (w.alloc (.cells #[.string s] 9)) (w.heap.size + 1) x (by simp) ((x : Int) / 16777216) ((x : Int) / 65536 % 256) ((x : Int) / 256 % 256) ((x : Int) % 256) (by omega) (by omega) (by omega) (by omega)
  go_wp2
  go_ret
  exact ⟨rfl, ((Below.refl _ _).alloc (Nat.le_refl _) _).alloc (by simp) _⟩

set_option maxHeartbeats 400000 in
theorem crc_Put (s : ByteArray) (w : World) (hs : s.size ≤ 140737488351232) :
    Calls Tryz.prog 160 #[.string s] w fun e w' => e = .returned (.string (bs (s.data.toList ++ four (sumL s.data.toList)))) ∧ Below w.heap.size w w' := by
  have hcat := cat_bs s (four (sumL s.data.toList))
  have hsum : (s.size : Int) + ((bs (four (sumL s.data.toList))).size : Int) ≤ 9223372036854775807 := by rw [bs_size, four_len]; omega
  go_enter Tryz.func160, Tryz.ntmps160
  go_wp2_with fail
  refine (crc_sumOf s w (by omega)).mono ?_
  rintro e w1 ⟨rfl, k1⟩
  go_wp2
  go_ret
  exact ⟨rfl, k1⟩

theorem seen_sumOf (W : World) (s : ByteArray) (hs : s.size ≤ 140737488355328) (n : Seen W) : Calls Tryz.prog 201 #[.string s] n.val fun e w'' => e = .returned (.string (bs (four (sumL s.data.toList)))) ∧ ∃ m : Seen W, w'' = m.val :=
  (crc_sumOf s n.val hs).mono fun _ w'' ⟨h1, h2⟩ => ⟨h1, ⟨⟨w'', n.below.trans (h2.mono n.below.size)⟩, rfl⟩⟩

/-- What a text is without its sum; why it is none. -/
def okT (l : List UInt8) : Prop := l.drop (l.length - 4) = four (sumL (l.take (l.length - 4)))
instance (l : List UInt8) : Decidable (okT l) := by unfold okT; infer_instance
def takeT (l : List UInt8) : List UInt8 := if 4 ≤ l.length ∧ okT l then l.take (l.length - 4) else []
def takeE (l : List UInt8) : Int := if l.length < 4 then 2 else if okT l then 0 else 4
set_option maxHeartbeats 400000 in
theorem crc_Take (s : ByteArray) (w : World) (hs : s.size ≤ 140737488355328) :
    Calls Tryz.prog 200 #[.string s] w fun e w' => e = .returned (.tuple #[.string (bs (takeT s.data.toList)), .int .i64 (takeE s.data.toList)]) ∧ Below w.heap.size w w' := by
  have hl : s.data.toList.length = s.size := by rw [← Lib.size_eq]
  by_cases h4 : s.size < 4
  · have e1 : takeT s.data.toList = [] := by unfold takeT; rw [if_neg (by omega)]
    have e2 : takeE s.data.toList = 2 := by unfold takeE; rw [if_pos (by omega)]
    rw [e1, e2]
    clear e1 e2
    go_enter Tryz.func200, Tryz.ntmps200
    go_wp2
    go_ret2
    exact ⟨rfl, Below.refl _ _⟩
  · obtain ⟨n, hn⟩ : ∃ n : Nat, s.size = n + 4 := ⟨s.size - 4, by omega⟩
    obtain ⟨x1, x2⟩ := take_split (s := s) (n := n) (by omega)
    have hok : okT s.data.toList ↔ s.data.toList.drop n = four (sumL (s.data.toList.take n)) := by unfold okT; rw [hl, hn, Nat.add_sub_cancel]
    have e1 : takeT s.data.toList = if okT s.data.toList then s.data.toList.take n else [] := by
      unfold takeT
      rw [hl, hn, Nat.add_sub_cancel]
      by_cases h : okT s.data.toList
      · rw [if_pos ⟨by omega, h⟩, if_pos h]
      · rw [if_neg (fun x => h x.2), if_neg h]
    have e2 : takeE s.data.toList = if okT s.data.toList then 0 else 4 := by unfold takeE; rw [if_neg (by omega)]
    have hsz : ((s.size : Int) - 4) = (n : Int) := by omega
    have hle : n ≤ s.size := by omega
    have hlen : (s.data.toList.take n).length ≤ 140737488355328 := by rw [List.length_take]; omega
    have HN := Lib.hid hn
    clear hn
    go_enter Tryz.func200, Tryz.ntmps200
    go_wp2_with fail
    refine region_seen (by kernel_rfl) (by kernel_rfl) ?_
    repeat (go_big_quiet_step (first | (go_at_call 201; exact seen_sumOf _ _ (by rw [bs_size]; exact hlen) _)))
    refine wpQuiet_nil ?_
    rintro _ ⟨m, rfl⟩
    go_wp2_with fail
    · rename_i h
      rw [Bool.not_eq_true', Bool.eq_false_iff, Ne, same_bytes, bs_list, ← hok] at h
      go_ret2
      exact ⟨ret2s (by rw [e1, if_neg h]; rfl) (by rw [e2, if_neg h]), m.below⟩
    · rename_i h
      rw [Bool.not_eq_false', same_bytes, bs_list, ← hok] at h
      go_ret2
      exact ⟨ret2s (by rw [e1, if_pos h]) (by rw [e2, if_pos h]), m.below⟩
end Go.Proofs.YtfbaenhajlckjaaGreat
/- Plain mathematics of the statements over layer six: no program, no world. Numbers in groups of six bits, and how they are read. -/
namespace Go.Proofs.YtfbaenhajlckjaaGreat

/-! ### Written -/

/-- The groups ahead of the last one: the highest first, none of them for 0. -/
def lead (n : Nat) : List UInt8 := if _h : n = 0 then [] else lead (n / 64) ++ [UInt8.ofNat (n % 64)]
termination_by n
decreasing_by omega

theorem lead_zero : lead 0 = [] := by rw [lead]; simp
theorem lead_pos {n : Nat} (h : n ≠ 0) : lead n = lead (n / 64) ++ [UInt8.ofNat (n % 64)] := by rw [lead]; simp [h]

/-- A number from 0 on with its mark. -/
def grp (n mark : Nat) : List UInt8 := lead (n / 64) ++ [UInt8.ofNat (mark + n % 64)]
def whole (n : Int) : List UInt8 := if n < 0 then grp (-1 - n).toNat 128 else grp n.toNat 64
def text (s : List UInt8) : List UInt8 := whole s.length ++ s

theorem lead_len (k : Nat) : ∀ n : Nat, n < 64 ^ k → (lead n).length ≤ k := by
  induction k with
  | zero => intro n h; have : n = 0 := by simpa using h
            subst this; simp [lead_zero]
  | succ k ih =>
    intro n h
    by_cases h0 : n = 0
    · subst h0; simp [lead_zero]
    · rw [lead_pos h0]
      have : n / 64 < 64 ^ k := by rw [Nat.pow_succ] at h; omega
      have := ih _ this
      simp; omega

theorem grp_len {n mark : Nat} (h : n < 9223372036854775808) : (grp n mark).length ≤ 11 ∧ 1 ≤ (grp n mark).length := by
  have := lead_len 10 (n / 64) (by have : (64 : Nat) ^ 10 = 1152921504606846976 := by decide
                                   omega)
  simp [grp]; omega

theorem whole_len {n : Int} (h1 : -9223372036854775808 ≤ n) (h2 : n ≤ 9223372036854775807) : (whole n).length ≤ 11 ∧ 1 ≤ (whole n).length := by
  unfold whole
  split
  · exact grp_len (by omega)
  · exact grp_len (by omega)

/-! ### Read -/

/-- What the bytes from here on say, behind i bytes whose groups make x: the number, the bytes that it has, the error. -/
def rdw : List UInt8 → Nat → Nat → Int × Nat × Int
  | [], _, _ => (0, 0, 2)
  | c :: l, i, x =>
    if 192 ≤ c.toNat ∨ (c.toNat = 0 ∧ i = 0) ∨ 144115188075855871 < x then (0, 0, 3)
    else if 128 ≤ c.toNat then (-1 - ((64 * x + c.toNat % 64 : Nat) : Int), i + 1, 0)
    else if 64 ≤ c.toNat then (((64 * x + c.toNat % 64 : Nat) : Int), i + 1, 0)
    else rdw l (i + 1) (64 * x + c.toNat % 64)

def rn (l : List UInt8) : Int := (rdw l 0 0).1
def rk (l : List UInt8) : Nat := (rdw l 0 0).2.1
def re (l : List UInt8) : Int := (rdw l 0 0).2.2

/-- All that is known of an answer. -/
def Fine (i : Nat) (l : List UInt8) (a : Int × Nat × Int) : Prop :=
  (a.2.2 = 0 ∧ i < a.2.1 ∧ a.2.1 ≤ i + l.length ∧ -9223372036854775808 ≤ a.1 ∧ a.1 ≤ 9223372036854775807) ∨ ((a.2.2 = 2 ∨ a.2.2 = 3) ∧ a.1 = 0 ∧ a.2.1 = 0)

theorem rdw_fine (l : List UInt8) : ∀ i x, Fine i l (rdw l i x) := by
  induction l with
  | nil => intro i x; right; simp [rdw]
  | cons c l ih =>
    intro i x
    have hc : c.toNat < 256 := c.toNat_lt
    unfold rdw
    split
    · right; simp
    · rename_i h
      split
      · left; refine ⟨rfl, ?_, ?_, ?_, ?_⟩ <;> simp <;> omega
      · split
        · left; refine ⟨rfl, ?_, ?_, ?_, ?_⟩ <;> simp <;> omega
        · rcases ih (i + 1) (64 * x + c.toNat % 64) with ⟨h0, h1, h2, h3, h4⟩ | h'
          · left; exact ⟨h0, by omega, by simp; omega, h3, h4⟩
          · right; exact h'

theorem rd_cases (l : List UInt8) : (re l = 0 ∧ 0 < rk l ∧ rk l ≤ l.length ∧ -9223372036854775808 ≤ rn l ∧ rn l ≤ 9223372036854775807) ∨ ((re l = 2 ∨ re l = 3) ∧ rn l = 0 ∧ rk l = 0) := by
  have h := rdw_fine l 0 0
  unfold Fine at h
  simpa [rn, rk, re] using h

/-! ### What was written is read as it was -/

theorem toNat_ofNat {n : Nat} (h : n < 256) : (UInt8.ofNat n).toNat = n := by simp; omega

theorem rdw_lead (m : Nat) (h : m ≤ 144115188075855871) (t : List UInt8) : rdw (lead m ++ t) 0 0 = rdw t (lead m).length m := by
  induction m using Nat.strongRecOn generalizing t with
  | _ m ih =>
    by_cases h0 : m = 0
    · subst h0; simp [lead_zero]
    · rw [lead_pos h0]
      have := ih (m / 64) (by omega) (by omega) ([UInt8.ofNat (m % 64)] ++ t)
      rw [List.append_assoc, this]
      have hz : (lead (m / 64)).length = 0 → m / 64 = 0 := by
        intro hl
        by_cases hq : m / 64 = 0
        · exact hq
        · rw [lead_pos hq] at hl; simp at hl
      have hn : (UInt8.ofNat (m % 64)).toNat = m % 64 := toNat_ofNat (by omega)
      simp only [List.cons_append, List.nil_append, rdw, hn, List.length_append, List.length_cons, List.length_nil]
      rw [if_neg, if_neg, if_neg]
      · congr 1; omega
      · omega
      · omega
      · intro hh
        rcases hh with hh | ⟨hh, hi⟩ | hh
        · omega
        · have := hz hi; omega
        · omega

theorem rdw_grp64 (n : Nat) (h : n < 9223372036854775808) (t : List UInt8) : rdw (grp n 64 ++ t) 0 0 = ((n : Int), (grp n 64).length, 0) := by
  unfold grp
  rw [List.append_assoc, rdw_lead _ (by omega)]
  have hn : (UInt8.ofNat (64 + n % 64)).toNat = 64 + n % 64 := toNat_ofNat (by omega)
  simp only [List.cons_append, List.nil_append, rdw, hn, List.length_append, List.length_cons, List.length_nil]
  rw [if_neg (by omega), if_neg (by omega), if_pos (by omega)]
  congr 1
  omega

theorem rdw_grp128 (n : Nat) (h : n < 9223372036854775808) (t : List UInt8) : rdw (grp n 128 ++ t) 0 0 = (-1 - (n : Int), (grp n 128).length, 0) := by
  unfold grp
  rw [List.append_assoc, rdw_lead _ (by omega)]
  have hn : (UInt8.ofNat (128 + n % 64)).toNat = 128 + n % 64 := toNat_ofNat (by omega)
  simp only [List.cons_append, List.nil_append, rdw, hn, List.length_append, List.length_cons, List.length_nil]
  rw [if_neg (by omega), if_pos (by omega)]
  congr 1
  omega

theorem rd_whole {n : Int} (h1 : -9223372036854775808 ≤ n) (h2 : n ≤ 9223372036854775807) (t : List UInt8) :
    rn (whole n ++ t) = n ∧ rk (whole n ++ t) = (whole n).length ∧ re (whole n ++ t) = 0 := by
  unfold whole rn rk re
  split
  · rw [rdw_grp128 _ (by omega)]; refine ⟨?_, rfl, rfl⟩; simp; omega
  · rw [rdw_grp64 _ (by omega)]; refine ⟨?_, rfl, rfl⟩; simp; omega

/-! ### What is read are just the bytes that would be written -/

theorem grp_of (x : Nat) (c mark : Nat) (hc : c < 64) : grp (64 * x + c) mark = lead x ++ [UInt8.ofNat (mark + c)] := by
  unfold grp
  rw [show (64 * x + c) / 64 = x by omega, show (64 * x + c) % 64 = c by omega]

theorem ofNat_of (c : UInt8) {n : Nat} (h : n = c.toNat) : UInt8.ofNat n = c := by subst h; simp

theorem rdw_back (l : List UInt8) : ∀ (i x : Nat), i = (lead x).length → (rdw l i x).2.2 = 0 → ∃ t, lead x ++ l = whole (rdw l i x).1 ++ t ∧ (rdw l i x).2.1 = (whole (rdw l i x).1).length := by
  induction l with
  | nil => intro i x _ h; simp [rdw] at h
  | cons c l ih =>
    intro i x hi h
    have hc : c.toNat < 256 := c.toNat_lt
    by_cases h1 : 192 ≤ c.toNat ∨ (c.toNat = 0 ∧ i = 0) ∨ 144115188075855871 < x
    · simp [rdw, h1] at h
    · by_cases h2 : 128 ≤ c.toNat
      · have e : rdw (c :: l) i x = (-1 - ((64 * x + c.toNat % 64 : Nat) : Int), i + 1, 0) := by simp only [rdw]; rw [if_neg h1, if_pos h2]
        rw [e]
        have hw : whole (-1 - ((64 * x + c.toNat % 64 : Nat) : Int)) = lead x ++ [c] := by
          unfold whole
          rw [if_pos (by omega), show (-1 - (-1 - ((64 * x + c.toNat % 64 : Nat) : Int))).toNat = 64 * x + c.toNat % 64 by omega, grp_of _ _ _ (by omega)]
          rw [ofNat_of c (by omega)]
        exact ⟨l, by simp only [hw]; simp, by simp only [hw]; simp [hi]⟩
      · by_cases h3 : 64 ≤ c.toNat
        · have e : rdw (c :: l) i x = (((64 * x + c.toNat % 64 : Nat) : Int), i + 1, 0) := by simp only [rdw]; rw [if_neg h1, if_neg h2, if_pos h3]
          rw [e]
          have hw : whole ((64 * x + c.toNat % 64 : Nat) : Int) = lead x ++ [c] := by
            unfold whole
            rw [if_neg (by omega), show (((64 * x + c.toNat % 64 : Nat) : Int)).toNat = 64 * x + c.toNat % 64 by omega, grp_of _ _ _ (by omega)]
            rw [ofNat_of c (by omega)]
          exact ⟨l, by simp only [hw]; simp, by simp only [hw]; simp [hi]⟩
        · have e : rdw (c :: l) i x = rdw l (i + 1) (64 * x + c.toNat % 64) := by simp only [rdw]; rw [if_neg h1, if_neg h2, if_neg h3]
          rw [e] at h ⊢
          have hl : lead (64 * x + c.toNat % 64) = lead x ++ [c] := by
            by_cases hz : 64 * x + c.toNat % 64 = 0
            · exfalso
              have hx : x = 0 := by omega
              subst hx
              rw [lead_zero] at hi
              simp at hi
              omega
            · rw [lead_pos hz, show (64 * x + c.toNat % 64) / 64 = x by omega, ofNat_of c (by omega)]
          obtain ⟨t, ht, hk⟩ := ih (i + 1) (64 * x + c.toNat % 64) (by rw [hl]; simp [hi]) h
          exact ⟨t, by rw [hl] at ht; simpa using ht, hk⟩

theorem rd_back {l : List UInt8} (h : re l = 0) : whole (rn l) ++ l.drop (rk l) = l ∧ rk l = (whole (rn l)).length := by
  obtain ⟨t, ht, hk⟩ := rdw_back l 0 0 (by simp [lead_zero]) h
  rw [lead_zero, List.nil_append] at ht
  have hk' : rk l = (whole (rn l)).length := hk
  refine ⟨?_, hk'⟩
  rw [hk']
  show whole (rn l) ++ l.drop (whole (rn l)).length = l
  have ht' : l = whole (rn l) ++ t := ht
  conv => lhs; arg 2; arg 2; rw [ht']
  rw [List.drop_left, ← ht']

/-! ### Counts, bytes and texts -/

def cn (l : List UInt8) : Int := if re l = 0 ∧ rn l < 0 then 0 else rn l
def ck (l : List UInt8) : Nat := if re l = 0 ∧ rn l < 0 then 0 else rk l
def ce (l : List UInt8) : Int := if re l = 0 ∧ rn l < 0 then 3 else re l

theorem cd_cases (l : List UInt8) : (ce l = 0 ∧ 0 < ck l ∧ ck l ≤ l.length ∧ 0 ≤ cn l ∧ cn l ≤ 9223372036854775807 ∧ re l = 0 ∧ cn l = rn l ∧ ck l = rk l) ∨ ((ce l = 2 ∨ ce l = 3) ∧ cn l = 0 ∧ ck l = 0) := by
  unfold cn ck ce
  rcases rd_cases l with ⟨h0, h1, h2, h3, h4⟩ | ⟨h0, h1, h2⟩
  · by_cases hn : rn l < 0
    · simp [h0, hn]
    · simp [h0, hn]; omega
  · have : ¬ (re l = 0 ∧ rn l < 0) := by omega
    rw [if_neg this, if_neg this, if_neg this]; omega

/-- So many bytes: the text, how many, the error. -/
def ws (l : List UInt8) (n : Int) : List UInt8 := if n < 0 ∨ (l.length : Int) < n then [] else l.take n.toNat
def wk (l : List UInt8) (n : Int) : Nat := if n < 0 ∨ (l.length : Int) < n then 0 else n.toNat
def we (l : List UInt8) (n : Int) : Int := if n < 0 then 1 else if (l.length : Int) < n then 2 else 0

def ts (l : List UInt8) : List UInt8 := if ce l ≠ 0 then [] else ws (l.drop (ck l)) (cn l)
def te (l : List UInt8) : Int := if ce l ≠ 0 then ce l else we (l.drop (ck l)) (cn l)
def tk (l : List UInt8) : Nat := if te l ≠ 0 then 0 else ck l + wk (l.drop (ck l)) (cn l)

theorem td_cases (l : List UInt8) : (te l = 0 ∧ ce l = 0 ∧ 0 ≤ cn l ∧ ck l + (cn l).toNat ≤ l.length ∧ 0 < ck l ∧ tk l = ck l + (cn l).toNat ∧ ts l = (l.drop (ck l)).take (cn l).toNat) ∨ ((te l = 2 ∨ te l = 3) ∧ ts l = [] ∧ tk l = 0) := by
  rcases cd_cases l with ⟨h0, h1, h2, h3, h4, h5, h6, h7⟩ | ⟨h0, h1, h2⟩
  · have hd : (l.drop (ck l)).length = l.length - ck l := by simp
    by_cases hs : ((l.drop (ck l)).length : Int) < cn l
    · right
      have : te l = 2 := by unfold te we; rw [if_neg (by simp [h0]), if_neg (by omega), if_pos hs]
      refine ⟨.inl this, ?_, ?_⟩
      · unfold ts ws; rw [if_neg (by simp [h0]), if_pos (by omega)]
      · unfold tk; rw [if_pos (by simp [this])]
    · left
      have : te l = 0 := by unfold te we; rw [if_neg (by simp [h0]), if_neg (by omega), if_neg hs]
      refine ⟨this, h0, h3, by omega, h1, ?_, ?_⟩
      · unfold tk wk; rw [if_neg (by simp [this]), if_neg (by omega)]
      · unfold ts ws; rw [if_neg (by simp [h0]), if_neg (by omega)]
  · right
    have e : te l = ce l := by unfold te; rw [if_pos (by omega)]
    refine ⟨by omega, ?_, ?_⟩
    · unfold ts; rw [if_pos (by omega)]
    · unfold tk; rw [if_pos (by omega)]

/-! ### A round of the reading -/

/-- Where a reader stands: behind k bytes whose groups make y. -/
def At (l : List UInt8) (k y : Nat) : Prop := rdw (l.drop k) k y = rdw l 0 0

theorem at_zero (l : List UInt8) : At l 0 0 := rfl
theorem at_bad {l t : List UInt8} {k y : Nat} {c : UInt8} (h : At l k y) (hl : l.drop k = c :: t) (hb : 192 ≤ c.toNat ∨ (c.toNat = 0 ∧ k = 0) ∨ 144115188075855871 < y) : rn l = 0 ∧ rk l = 0 ∧ re l = 3 := by
  unfold At at h
  rw [hl] at h
  simp only [rdw] at h
  rw [if_pos hb] at h
  simp [rn, rk, re, ← h]
theorem at_low {l t : List UInt8} {k y : Nat} {c : UInt8} (h : At l k y) (hl : l.drop k = c :: t) (hb : ¬ (192 ≤ c.toNat ∨ (c.toNat = 0 ∧ k = 0) ∨ 144115188075855871 < y)) (h1 : 128 ≤ c.toNat) :
    rn l = -1 - ((64 * y + c.toNat % 64 : Nat) : Int) ∧ rk l = k + 1 ∧ re l = 0 := by
  unfold At at h
  rw [hl] at h
  simp only [rdw] at h
  rw [if_neg hb, if_pos h1] at h
  simp [rn, rk, re, ← h]
theorem at_high {l t : List UInt8} {k y : Nat} {c : UInt8} (h : At l k y) (hl : l.drop k = c :: t) (hb : ¬ (192 ≤ c.toNat ∨ (c.toNat = 0 ∧ k = 0) ∨ 144115188075855871 < y)) (h1 : ¬ 128 ≤ c.toNat) (h2 : 64 ≤ c.toNat) :
    rn l = ((64 * y + c.toNat % 64 : Nat) : Int) ∧ rk l = k + 1 ∧ re l = 0 := by
  unfold At at h
  rw [hl] at h
  simp only [rdw] at h
  rw [if_neg hb, if_neg h1, if_pos h2] at h
  simp [rn, rk, re, ← h]
theorem at_next {l : List UInt8} {k y : Nat} {c : UInt8} (h : At l k y) (hl : l.drop k = c :: l.drop (k + 1)) (hb : ¬ (192 ≤ c.toNat ∨ (c.toNat = 0 ∧ k = 0) ∨ 144115188075855871 < y)) (h1 : ¬ 64 ≤ c.toNat) :
    At l (k + 1) (64 * y + c.toNat % 64) := by
  unfold At at h ⊢
  rw [hl] at h
  simp only [rdw] at h
  rw [if_neg hb, if_neg (by omega), if_neg h1] at h
  exact h
theorem at_end {l : List UInt8} {k y : Nat} (h : At l k y) (hl : l.length ≤ k) : rn l = 0 ∧ rk l = 0 ∧ re l = 2 := by
  unfold At at h
  rw [List.drop_of_length_le hl] at h
  simp only [rdw] at h
  simp [rn, rk, re, ← h]

theorem drop_at (s : ByteArray) (k : Nat) (h : k < s.size) : s.data.toList.drop k = s[k] :: s.data.toList.drop (k + 1) := by
  rw [List.drop_eq_getElem_cons (by simpa using h)]
  rfl
theorem byte_le (s : ByteArray) (k : Nat) (h : k < s.size) : 0 ≤ ((s[k].toNat : Nat) : Int) ∧ ((s[k].toNat : Nat) : Int) ≤ 255 := by
  have := s[k].toNat_lt
  omega

end Go.Proofs.YtfbaenhajlckjaaGreat
/- The document's own answers: what siloref01's functions hand back. -/
set_option linter.unusedVariables false
set_option maxRecDepth 100000
namespace Go.Proofs.YtfbaenhajlckjaaGreat
open Go.RowKit

theorem ret3 {j k m : IntKind} {a b c a' b' c' : Int} (h1 : a' = a) (h2 : b' = b) (h3 : c' = c) : Ending.returned (.tuple #[.int j a, .int k b, .int m c]) = Ending.returned (.tuple #[.int j a', .int k b', .int m c']) := by rw [h1, h2, h3]

set_option maxHeartbeats 400000 in
theorem ref_ReadWhole (s : ByteArray) (w : World) (hs : s.size ≤ maxLen) :
    Calls Tryz.prog 66 #[.string s] w fun e w' => e = .returned (.tuple #[.int .i64 (rn s.data.toList), .int .i64 (rk s.data.toList), .int .i64 (re s.data.toList)]) ∧ w = w' := by
  unfold maxLen at hs
  go_enter Tryz.func66, Tryz.ntmps66
  go_wp2_with fail
  go_loop [5, 6] (fun x i => ∃ k y : Nat, k ≤ s.size ∧ y ≤ 9223372036854775807 ∧ i = .int .i64 k ∧ x = .int .u64 y ∧ At s.data.toList k y) (fun _ i => s.size - (intOf i).toNat)
  case atStart => exact ⟨0, 0, Nat.zero_le _, by omega, rfl, rfl, at_zero _⟩
  case round =>
    obtain ⟨k, y, hk, hy, rfl, rfl, HR⟩ := hrel
    by_cases hlt : k < s.size
    · have HD := Lib.hid (drop_at s k hlt)
      obtain ⟨hc0, hc1⟩ := byte_le s k hlt
      go_upto_region 6 with (fail)
      generalize s[k] = b at *
      by_cases h1 : 192 ≤ ((b.toNat : Nat) : Int)
      · go_wp2
        go_ret3
        obtain ⟨e1, e2, e3⟩ := at_bad HR HD.out (by omega)
        exact ⟨ret3 e1 (by rw [e2]; rfl) e3, rfl⟩
      · by_cases h0 : b = 0
        · subst h0
          clear hc0 hc1 h1
          by_cases hk0 : k = 0
          · have hkb : (((k : Nat) : Int) == 0) = true := beq_iff_eq.2 (by omega)
            have HK := Lib.hid hk0
            clear hk0
            go_wp2
            go_ret3
            obtain ⟨e1, e2, e3⟩ := at_bad HR HD.out (.inr (.inl ⟨rfl, HK.out⟩))
            exact ⟨ret3 e1 (by rw [e2]; rfl) e3, rfl⟩
          · have hkb : (((k : Nat) : Int) == 0) = false := beq_eq_false_iff_ne.2 (by omega)
            have HK := Lib.hid hk0
            clear hk0
            by_cases h2 : 144115188075855871 < (y : Int)
            · go_wp2
              go_ret3
              obtain ⟨e1, e2, e3⟩ := at_bad HR HD.out (by omega)
              exact ⟨ret3 e1 (by rw [e2]; rfl) e3, rfl⟩
            · go_wp2
              go_round
              case rel => exact ⟨k + 1, _, by omega, by omega, by go_num, by go_num, at_next HR HD.out (by have := HK.out; have : (0 : UInt8).toNat = 0 := rfl; omega) (by decide)⟩
              case measure => simp [intOf]; omega
        · have h0' : b.toNat ≠ 0 := fun h => h0 (UInt8.toNat_inj.1 (by simpa using h))
          have hb : (((b.toNat : Nat) : Int) == 0) = false := beq_eq_false_iff_ne.2 (by omega)
          have H0 := Lib.hid h0'
          clear h0 h0'
          by_cases h2 : 144115188075855871 < (y : Int)
          · go_wp2
            go_ret3
            obtain ⟨e1, e2, e3⟩ := at_bad HR HD.out (by omega)
            exact ⟨ret3 e1 (by rw [e2]; rfl) e3, rfl⟩
          · have hN : ¬ (192 ≤ b.toNat ∨ (b.toNat = 0 ∧ k = 0) ∨ 144115188075855871 < y) := by have := H0.out; omega
            have HN := Lib.hid hN
            clear hN
            by_cases h3 : 128 ≤ ((b.toNat : Nat) : Int)
            · go_wp2
              go_ret3
              obtain ⟨e1, e2, e3⟩ := at_low HR HD.out HN.out (by omega)
              exact ⟨ret3 (by rw [e1]; omega) (by rw [e2]; rfl) e3, rfl⟩
            · by_cases h4 : 64 ≤ ((b.toNat : Nat) : Int)
              · go_wp2
                go_ret3
                obtain ⟨e1, e2, e3⟩ := at_high HR HD.out HN.out (by omega) (by omega)
                exact ⟨ret3 (by rw [e1]; omega) (by rw [e2]; rfl) e3, rfl⟩
              · go_wp2
                go_round
                case rel => exact ⟨k + 1, _, by omega, by omega, by go_num, by go_num, at_next HR HD.out HN.out (by omega)⟩
                case measure => simp [intOf]; omega
    · go_wp2
      go_ret3
      obtain ⟨e1, e2, e3⟩ := at_end HR (by simp; omega)
      exact ⟨ret3 e1 (by rw [e2]; rfl) e3, rfl⟩

set_option maxHeartbeats 400000 in
theorem ref_ReadCount (s : ByteArray) (w : World) (hs : s.size ≤ maxLen) :
    Calls Tryz.prog 65 #[.string s] w fun e w' => e = .returned (.tuple #[.int .i64 (cn s.data.toList), .int .i64 (ck s.data.toList), .int .i64 (ce s.data.toList)]) ∧ w = w' := by
  have H := Lib.hid (rd_cases s.data.toList)
  by_cases h0 : re s.data.toList = 0
  · have hb : (re s.data.toList == 0) = true := beq_iff_eq.2 h0
    have H0 := Lib.hid h0
    clear h0
    by_cases h1 : rn s.data.toList < 0
    · go_enter Tryz.func65, Tryz.ntmps65
      go_wp2_with (go_at_call 66; refine (ref_ReadWhole _ _ hs).mono ?_; rintro e w' ⟨rfl, rfl⟩)
      go_ret3
      have h2 : re s.data.toList = 0 ∧ rn s.data.toList < 0 := ⟨H0.out, h1⟩
      exact ⟨ret3 (by unfold cn; rw [if_pos h2]) (by unfold ck; rw [if_pos h2]; rfl) (by unfold ce; rw [if_pos h2]), rfl⟩
    · go_enter Tryz.func65, Tryz.ntmps65
      go_wp2_with (go_at_call 66; refine (ref_ReadWhole _ _ hs).mono ?_; rintro e w' ⟨rfl, rfl⟩)
      go_ret3
      have h2 : ¬ (re s.data.toList = 0 ∧ rn s.data.toList < 0) := by omega
      exact ⟨ret3 (by unfold cn; rw [if_neg h2]) (by unfold ck; rw [if_neg h2]) (by unfold ce; rw [if_neg h2]), rfl⟩
  · have hb : (re s.data.toList == 0) = false := beq_eq_false_iff_ne.2 h0
    have H0 := Lib.hid h0
    clear h0
    go_enter Tryz.func65, Tryz.ntmps65
    go_wp2_with (go_at_call 66; refine (ref_ReadWhole _ _ hs).mono ?_; rintro e w' ⟨rfl, rfl⟩)
    go_ret3
    have h2 : ¬ (re s.data.toList = 0 ∧ rn s.data.toList < 0) := fun h => H0.out h.1
    exact ⟨ret3 (by unfold cn; rw [if_neg h2]) (by unfold ck; rw [if_neg h2]) (by unfold ce; rw [if_neg h2]), rfl⟩

theorem ret3s {k m : IntKind} {s s' : ByteArray} {b c b' c' : Int} (h1 : s' = s) (h2 : b' = b) (h3 : c' = c) : Ending.returned (.tuple #[.string s, .int k b, .int m c]) = Ending.returned (.tuple #[.string s', .int k b', .int m c']) := by rw [h1, h2, h3]

set_option maxHeartbeats 400000 in
theorem ref_ReadRaw (s : ByteArray) (n : Int) (w : World) (hs : s.size ≤ maxLen) (hn1 : -9223372036854775808 ≤ n) (hn2 : n ≤ 9223372036854775807) :
    Calls Tryz.prog 119 #[.string s, .int .i64 n] w fun e w' => e = .returned (.tuple #[.string (bs (ws s.data.toList n)), .int .i64 (wk s.data.toList n), .int .i64 (we s.data.toList n)]) ∧ w = w' := by
  unfold maxLen at hs
  have HL := Lib.hid (show s.data.toList.length = s.size by rw [← Lib.size_eq])
  by_cases h0 : n < 0
  · go_enter Tryz.func119, Tryz.ntmps119
    go_wp2
    go_ret3
    exact ⟨ret3s (by unfold ws; rw [if_pos (.inl h0)]; rfl) (by unfold wk; rw [if_pos (.inl h0)]; rfl) (by unfold we; rw [if_pos h0]), rfl⟩
  · obtain ⟨m, rfl⟩ : ∃ m : Nat, n = m := ⟨n.toNat, by omega⟩
    by_cases h1 : s.size < m
    · go_enter Tryz.func119, Tryz.ntmps119
      go_wp2
      go_ret3
      have h2 : (m : Int) < 0 ∨ (s.data.toList.length : Int) < m := .inr (by have := HL.out; omega)
      exact ⟨ret3s (by unfold ws; rw [if_pos h2]; rfl) (by unfold wk; rw [if_pos h2]; rfl) (by unfold we; rw [if_neg (by omega), if_pos (by have := HL.out; omega)]), rfl⟩
    · go_enter Tryz.func119, Tryz.ntmps119
      go_wp2
      go_ret3
      have h2 : ¬ ((m : Int) < 0 ∨ (s.data.toList.length : Int) < m) := by have := HL.out; omega
      refine ⟨ret3s ?_ (by unfold wk; rw [if_neg h2]; omega) (by unfold we; rw [if_neg (by omega), if_neg (by have := HL.out; omega)]), rfl⟩
      unfold ws; rw [if_neg h2]
      exact (bs_eq (by rw [Lib.extract_data]; simp)).symm

theorem extract_rest (s : ByteArray) (k : Nat) : (s.extract k s.size).data.toList = s.data.toList.drop k := by
  rw [Lib.extract_data, List.take_of_length_le]
  rw [List.length_drop, ← Lib.size_eq]; exact Nat.le_refl _
theorem extract_size (s : ByteArray) (k : Nat) : (s.extract k s.size).size = s.size - k := by
  rw [Lib.size_eq, extract_rest, List.length_drop, ← Lib.size_eq]

/-- ReadText behind its two callees' answers. -/
def Ret3 (a b c : Value) (w : World) (e : Ending) (w' : World) : Prop := e = .returned (.tuple #[a, b, c]) ∧ w = w'

set_option maxHeartbeats 400000 in
theorem ref_ReadText_ok (s t : ByteArray) (n : Int) (k m : Nat) (w : World) (hk : k ≤ s.size) (hs : s.size ≤ maxLen) (hm : k + m ≤ 9223372036854775807) (h1 : -9223372036854775808 ≤ n) (h2 : n ≤ 9223372036854775807)
    (h39 : Hid (∀ w, Calls Tryz.prog 65 #[.string s] w (Ret3 (.int .i64 n) (.int .i64 k) (.int .i64 0) w)))
    (h42 : Hid (∀ w, Calls Tryz.prog 119 #[.string (s.extract k s.size), .int .i64 n] w (Ret3 (.string t) (.int .i64 m) (.int .i64 0) w))) :
    Calls Tryz.prog 67 #[.string s] w (Ret3 (.string t) (.int .i64 (k + m : Nat)) (.int .i64 0) w) := by
  unfold maxLen at hs
  go_enter Tryz.func67, Tryz.ntmps67
  go_wp2_with (first | (go_at_call 65; refine (h39.out _).mono ?_; rintro e w' ⟨rfl, rfl⟩) | (go_at_call 119; refine (h42.out _).mono ?_; rintro e w' ⟨rfl, rfl⟩))
  go_ret3
  exact ⟨ret3s rfl (by omega) rfl, rfl⟩

set_option maxHeartbeats 400000 in
theorem ref_ReadText_no (s t : ByteArray) (n e : Int) (k m : Nat) (w : World) (hk : k ≤ s.size) (hs : s.size ≤ maxLen) (h1 : -9223372036854775808 ≤ n) (h2 : n ≤ 9223372036854775807) (he : (e == 0) = false)
    (h39 : Hid (∀ w, Calls Tryz.prog 65 #[.string s] w (Ret3 (.int .i64 n) (.int .i64 k) (.int .i64 0) w)))
    (h42 : Hid (∀ w, Calls Tryz.prog 119 #[.string (s.extract k s.size), .int .i64 n] w (Ret3 (.string t) (.int .i64 m) (.int .i64 e) w))) :
    Calls Tryz.prog 67 #[.string s] w (Ret3 (.string (bs [])) (.int .i64 (0 : Nat)) (.int .i64 e) w) := by
  unfold maxLen at hs
  go_enter Tryz.func67, Tryz.ntmps67
  go_wp2_with (first | (go_at_call 65; refine (h39.out _).mono ?_; rintro e w' ⟨rfl, rfl⟩) | (go_at_call 119; refine (h42.out _).mono ?_; rintro e w' ⟨rfl, rfl⟩))
  go_ret3
  exact ⟨rfl, rfl⟩

set_option maxHeartbeats 400000 in
theorem ref_ReadText_none (s : ByteArray) (n e : Int) (k : Nat) (w : World) (he : (e == 0) = false)
    (h39 : Hid (∀ w, Calls Tryz.prog 65 #[.string s] w (Ret3 (.int .i64 n) (.int .i64 k) (.int .i64 e) w))) :
    Calls Tryz.prog 67 #[.string s] w (Ret3 (.string (bs [])) (.int .i64 (0 : Nat)) (.int .i64 e) w) := by
  go_enter Tryz.func67, Tryz.ntmps67
  go_wp2_with (go_at_call 65; refine (h39.out _).mono ?_; rintro e w' ⟨rfl, rfl⟩)
  go_ret3
  exact ⟨rfl, rfl⟩

theorem ref_ReadText (s : ByteArray) (w : World) (hs : s.size ≤ maxLen) :
    Calls Tryz.prog 67 #[.string s] w fun e w' => e = .returned (.tuple #[.string (bs (ts s.data.toList)), .int .i64 (tk s.data.toList), .int .i64 (te s.data.toList)]) ∧ w = w' := by
  have HL : s.data.toList.length = s.size := by rw [← Lib.size_eq]
  have h39 := fun w => ref_ReadCount s w hs
  have hm : maxLen = 9223372036854775807 := rfl
  rcases cd_cases s.data.toList with ⟨c0, c1, c2, c3, c4, _, _, _⟩ | ⟨c0, _, _⟩
  · have HZ : (s.extract (ck s.data.toList) s.size).size ≤ maxLen := by rw [extract_size]; omega
    have h42 := fun w => ref_ReadRaw (s.extract (ck s.data.toList) s.size) (cn s.data.toList) w HZ (by omega) (by omega)
    rw [extract_rest] at h42
    have HW : te s.data.toList = we (s.data.toList.drop (ck s.data.toList)) (cn s.data.toList) := by unfold te; rw [if_neg (by rw [c0]; simp)]
    have HT : ts s.data.toList = ws (s.data.toList.drop (ck s.data.toList)) (cn s.data.toList) := by unfold ts; rw [if_neg (by rw [c0]; simp)]
    rw [← HW, ← HT] at h42
    rw [c0] at h39
    rcases td_cases s.data.toList with ⟨t0, t1, t2, t3, t4, t5, t6⟩ | ⟨t0, t1, t2⟩
    · rw [t0] at h42
      have hk : tk s.data.toList = ck s.data.toList + wk (s.data.toList.drop (ck s.data.toList)) (cn s.data.toList) := by unfold tk; rw [if_neg (by rw [t0]; simp)]
      rw [t0, hk]
      exact ref_ReadText_ok s _ _ _ _ w (by omega) hs (by omega) (by omega) (by omega) (Lib.hid h39) (Lib.hid h42)
    · rw [t1, t2]
      exact ref_ReadText_no s _ _ _ _ _ w (by omega) hs (by omega) (by omega) (beq_eq_false_iff_ne.2 (by omega)) (Lib.hid h39) (Lib.hid h42)
  · have e1 : te s.data.toList = ce s.data.toList := by unfold te; rw [if_pos (by omega)]
    have e2 : ts s.data.toList = [] := by unfold ts; rw [if_pos (by omega)]
    have e3 : tk s.data.toList = 0 := by unfold tk; rw [if_pos (by omega)]
    rw [e1, e2, e3]
    exact ref_ReadText_none s _ _ _ w (beq_eq_false_iff_ne.2 (by omega)) (Lib.hid h39)

end Go.Proofs.YtfbaenhajlckjaaGreat
/- Logs in plain words: frames, and the records that any bytes bear. -/
set_option linter.unusedVariables false
set_option maxRecDepth 100000
set_option maxRecDepth 100000
namespace Go.Proofs.YtfbaenhajlckjaaGreat

theorem cn_of' {l : List UInt8} (h : ce l = 0) : re l = 0 ∧ cn l = rn l ∧ ck l = rk l ∧ 0 ≤ rn l := by
  rcases cd_cases l with ⟨_, _, _, h1, _, h2, h3, h4⟩ | ⟨h1, _⟩
  · exact ⟨h2, h3, h4, by omega⟩
  · omega
/-- A count, and what is behind it. -/
theorem cd_whole {n : Nat} (h : n ≤ 9223372036854775807) (t : List UInt8) : ce (whole (n : Int) ++ t) = 0 ∧ cn (whole (n : Int) ++ t) = n ∧ ck (whole (n : Int) ++ t) = (whole (n : Int)).length := by
  have r := rd_whole (n := (n : Int)) (by omega) (by omega) t
  simp only [ce, cn, ck, r.1, r.2.1, r.2.2]
  simp
  constructor <;> intro <;> omega
/-- A text, and what is behind it. -/
theorem td_text {s : List UInt8} (h : s.length ≤ 9223372036854775807) (t : List UInt8) : te (text s ++ t) = 0 ∧ ts (text s ++ t) = s ∧ tk (text s ++ t) = (text s).length := by
  have c := cd_whole (n := s.length) h (s ++ t)
  have e : text s ++ t = whole (s.length : Int) ++ (s ++ t) := by unfold text; rw [List.append_assoc]
  have hd : (text s ++ t).drop (whole (s.length : Int)).length = s ++ t := by rw [e, List.drop_left]
  rw [← e] at c
  have hws : ws (s ++ t) (s.length : Int) = s ∧ wk (s ++ t) (s.length : Int) = s.length ∧ we (s ++ t) (s.length : Int) = 0 := by
    unfold ws wk we
    rw [if_neg (by simp; omega), if_neg (by simp; omega), if_neg (by omega), if_neg (by simp; omega)]
    simp
  have hte : te (text s ++ t) = 0 := by unfold te; rw [if_neg (by omega), c.2.2, c.2.1, hd]; exact hws.2.2
  refine ⟨hte, by unfold ts; rw [if_neg (by omega), c.2.2, c.2.1, hd]; exact hws.1, ?_⟩
  unfold tk
  rw [if_neg (by omega), c.2.2, c.2.1, hd, hws.2.1, text, List.length_append]
/-- A text that is read, back. -/
theorem td_back {l : List UInt8} (h : te l = 0) : text (ts l) ++ l.drop (tk l) = l ∧ tk l = (text (ts l)).length := by
  rcases td_cases l with ⟨_, b1, b2, b3, b4, b5, b6⟩ | ⟨b1, _⟩
  · have hd := cn_of' b1
    obtain ⟨c1, c2⟩ := rd_back hd.1
    have hlen : (ts l).length = (cn l).toNat := by rw [b6, List.length_take, List.length_drop]; omega
    have hw : whole ((ts l).length : Int) = whole (rn l) := by rw [hlen, show (((cn l).toNat : Nat) : Int) = rn l by omega]
    have hk : tk l = (text (ts l)).length := by rw [text, List.length_append, hw, hlen, b5, hd.2.2.1, c2]
    refine ⟨?_, hk⟩
    rw [text, hw, List.append_assoc]
    have : ts l ++ l.drop (tk l) = l.drop (rk l) := by
      rw [b6, b5, ← List.drop_drop, hd.2.2.1]
      exact List.take_append_drop ..
    rw [this, c1]
  · omega

/-- A record's frame; the frames of records, one behind the other. -/
def frameL (r : List UInt8) : List UInt8 := text r ++ four (sumL (text r))
def framesL : List (List UInt8) → List UInt8
  | [] => []
  | r :: L => frameL r ++ framesL L
theorem framesL_append : ∀ L M : List (List UInt8), framesL (L ++ M) = framesL L ++ framesL M
  | [], M => rfl
  | r :: L, M => by show frameL r ++ framesL (L ++ M) = _; rw [framesL_append L M, ← List.append_assoc]; rfl
theorem framesL_one (r : List UInt8) : framesL [r] = frameL r := List.append_nil _
theorem frameL_len (r : List UInt8) : (frameL r).length = (text r).length + 4 := by rw [frameL, List.length_append, four_len]
theorem frameL_pos (r : List UInt8) : 4 ≤ (frameL r).length := by rw [frameL_len]; omega
theorem text_le {r : List UInt8} (h : r.length ≤ 9223372036854775807) : (text r).length ≤ r.length + 11 := by
  have := (whole_len (n := (r.length : Int)) (by omega) (by omega)).1
  rw [text, List.length_append]
  omega
theorem frameL_le {r : List UInt8} (h : r.length ≤ 9223372036854775807) : (frameL r).length ≤ r.length + 15 := by
  have := text_le h
  rw [frameL_len]
  omega


/-- The record of the whole frame that bytes begin with, and how many bytes the frame has. -/
def firstL (l : List UInt8) : Option (List UInt8 × Nat) :=
  if te l = 0 ∧ (ts l).length ≤ 1048576 ∧ tk l + 4 ≤ l.length ∧ okT (l.take (tk l + 4)) then some (ts l, tk l + 4) else none
theorem first_yes {l : List UInt8} (h1 : te l = 0) (h2 : (ts l).length ≤ 1048576) (h3 : tk l + 4 ≤ l.length) (h4 : okT (l.take (tk l + 4))) : firstL l = some (ts l, tk l + 4) := by unfold firstL; rw [if_pos ⟨h1, h2, h3, h4⟩]
theorem first_no {l : List UInt8} (h : ¬ (te l = 0 ∧ (ts l).length ≤ 1048576 ∧ tk l + 4 ≤ l.length ∧ okT (l.take (tk l + 4)))) : firstL l = none := by unfold firstL; rw [if_neg h]
theorem first_some {l : List UInt8} {r : List UInt8} {k : Nat} (h : firstL l = some (r, k)) : te l = 0 ∧ r.length ≤ 1048576 ∧ tk l + 4 ≤ l.length ∧ okT (l.take (tk l + 4)) ∧ r = ts l ∧ k = tk l + 4 := by
  unfold firstL at h
  split at h
  · rename_i hc
    cases h
    exact ⟨hc.1, hc.2.1, hc.2.2.1, hc.2.2.2, rfl, rfl⟩
  · cases h
theorem frame_first {r : List UInt8} (h : r.length ≤ 1048576) (t : List UInt8) : firstL (frameL r ++ t) = some (r, (frameL r).length) := by
  have e : frameL r ++ t = text r ++ (four (sumL (text r)) ++ t) := by rw [frameL, List.append_assoc]
  obtain ⟨a1, a2, a3⟩ := td_text (s := r) (by omega) (four (sumL (text r)) ++ t)
  rw [← e] at a1 a2 a3
  have hk : tk (frameL r ++ t) + 4 = (frameL r).length := by rw [a3, frameL_len]
  have hok : okT ((frameL r ++ t).take (tk (frameL r ++ t) + 4)) := by
    rw [hk, List.take_left]
    unfold okT
    rw [frameL_len, Nat.add_sub_cancel, frameL, List.drop_left, List.take_left]
  rw [first_yes a1 (by rw [a2]; exact h) (by rw [hk, List.length_append]; omega) hok, hk, a2]
theorem first_back {l r : List UInt8} {k : Nat} (h : firstL l = some (r, k)) : r.length ≤ 1048576 ∧ frameL r ++ l.drop k = l ∧ k = (frameL r).length := by
  obtain ⟨h1, h2, h3, h4, rfl, rfl⟩ := first_some h
  obtain ⟨b1, b2⟩ := td_back h1
  have hlen : (l.take (tk l + 4)).length = tk l + 4 := by rw [List.length_take]; omega
  unfold okT at h4
  rw [hlen, Nat.add_sub_cancel, List.take_take, Nat.min_eq_left (by omega)] at h4
  have htk : l.take (tk l) = text (ts l) := by
    have := congrArg (List.take (tk l)) b1
    rw [← this]
    conv => lhs; rw [b2]
    rw [List.take_left]
  have hfr : l.take (tk l + 4) = frameL (ts l) := by
    rw [← List.take_append_drop (tk l) (l.take (tk l + 4)), h4, List.take_take, Nat.min_eq_left (by omega), htk]
    rfl
  refine ⟨h2, ?_, ?_⟩
  · rw [← hfr, List.take_append_drop]
  · rw [frameL_len, ← b2]
theorem first_lt {l r : List UInt8} {k : Nat} (h : firstL l = some (r, k)) : 0 < k ∧ k ≤ l.length := by
  obtain ⟨h1, h2, h3, h4, rfl, rfl⟩ := first_some h
  omega

/-- The records that bytes begin with, and how many bytes their frames have. -/
def splitL (l : List UInt8) : List (List UInt8) × Nat :=
  match h : firstL l with
  | none => ([], 0)
  | some (r, k) => (r :: (splitL (l.drop k)).1, k + (splitL (l.drop k)).2)
termination_by l.length
decreasing_by
  all_goals
    have := first_lt h
    rw [List.length_drop]
    omega
theorem split_none {l : List UInt8} (h : firstL l = none) : splitL l = ([], 0) := by
  rw [splitL]
  split
  · rfl
  · rename_i h'; rw [h] at h'; cases h'
theorem split_some {l r : List UInt8} {k : Nat} (h : firstL l = some (r, k)) : splitL l = (r :: (splitL (l.drop k)).1, k + (splitL (l.drop k)).2) := by
  rw [splitL]
  split
  · rename_i h'; rw [h] at h'; cases h'
  · rename_i r' k' h'; rw [h] at h'; cases h'; rfl
theorem split_frames : ∀ (L : List (List UInt8)) (t : List UInt8), (∀ r ∈ L, r.length ≤ 1048576) → splitL (framesL L ++ t) = (L ++ (splitL t).1, (framesL L).length + (splitL t).2)
  | [], t, _ => by simp [framesL]
  | r :: L, t, h => by
    have ih := split_frames L t (fun x hx => h x (List.mem_cons_of_mem _ hx))
    have e : framesL (r :: L) ++ t = frameL r ++ (framesL L ++ t) := List.append_assoc ..
    rw [e, split_some (frame_first (h r (List.mem_cons_self ..)) _), List.drop_left, ih]
    show _ = (r :: (L ++ (splitL t).1), (frameL r ++ framesL L).length + (splitL t).2)
    rw [List.length_append, Nat.add_assoc]
theorem split_back (n : Nat) : ∀ l : List UInt8, l.length ≤ n → framesL (splitL l).1 ++ l.drop (splitL l).2 = l ∧ (splitL l).2 = (framesL (splitL l).1).length ∧ ∀ r ∈ (splitL l).1, r.length ≤ 1048576 := by
  induction n with
  | zero =>
    intro l hl
    have h0 : firstL l = none := by
      rcases hf : firstL l with _ | ⟨r, k⟩
      · rfl
      · have := first_lt hf; omega
    rw [split_none h0]
    exact ⟨rfl, rfl, fun r hr => by cases hr⟩
  | succ n ih =>
    intro l hl
    rcases hf : firstL l with _ | ⟨r, k⟩
    · rw [split_none hf]; exact ⟨rfl, rfl, fun r hr => by cases hr⟩
    · have hlt := first_lt hf
      obtain ⟨h1, h2, h3⟩ := first_back hf
      obtain ⟨i1, i2, i3⟩ := ih (l.drop k) (by rw [List.length_drop]; omega)
      rw [split_some hf]
      refine ⟨?_, ?_, ?_⟩
      · show (frameL r ++ framesL (splitL (l.drop k)).1) ++ l.drop (k + (splitL (l.drop k)).2) = l
        rw [← List.drop_drop, List.append_assoc, i1, h2]
      · show k + (splitL (l.drop k)).2 = (frameL r ++ framesL (splitL (l.drop k)).1).length
        rw [List.length_append, ← i2, ← h3]
      · intro x hx
        rcases List.mem_cons.1 hx with rfl | hx
        · exact h1
        · exact i3 x hx
theorem split_le (l : List UInt8) : (splitL l).2 ≤ l.length := by
  obtain ⟨h1, h2, _⟩ := split_back l.length l (Nat.le_refl _)
  have := congrArg List.length h1
  rw [List.length_append] at this
  omega

/-- How many of the records have their frames wholly among the first k bytes. -/
def wholeN : List (List UInt8) → Nat → Nat
  | [], _ => 0
  | r :: L, k => if (frameL r).length ≤ k then wholeN L (k - (frameL r).length) + 1 else 0
theorem whole_le : ∀ (L : List (List UInt8)) (k : Nat), wholeN L k ≤ L.length
  | [], _ => Nat.le_refl _
  | r :: L, k => by
    unfold wholeN
    split
    · have := whole_le L (k - (frameL r).length); simp; omega
    · simp
theorem whole_iff : ∀ (L : List (List UInt8)) (k j : Nat), j ≤ L.length → (j ≤ wholeN L k ↔ (framesL (L.take j)).length ≤ k)
  | [], k, j, h => by have : j = 0 := Nat.le_zero.1 h; subst this; simp [framesL]
  | r :: L, k, 0, h => by simp [framesL]
  | r :: L, k, j + 1, h => by
    have ih := whole_iff L (k - (frameL r).length) j (by simpa using h)
    have e : (framesL ((r :: L).take (j + 1))).length = (frameL r).length + (framesL (L.take j)).length := by
      show (frameL r ++ framesL (L.take j)).length = _
      rw [List.length_append]
    rw [e]
    unfold wholeN
    split
    · constructor
      · intro hh; have := ih.1 (by omega); omega
      · intro hh; have := ih.2 (by omega); omega
    · constructor
      · intro hh; omega
      · intro hh; omega
theorem whole_in (L : List (List UInt8)) (k : Nat) : (framesL (L.take (wholeN L k))).length ≤ k := (whole_iff L k _ (whole_le L k)).1 (Nat.le_refl _)
theorem whole_is {L : List (List UInt8)} {k j : Nat} (hj : j ≤ L.length) (h1 : (framesL (L.take j)).length ≤ k) (h2 : j < L.length → k < (framesL (L.take (j + 1))).length) : wholeN L k = j := by
  have a := (whole_iff L k j hj).2 h1
  rcases Nat.lt_or_ge j (wholeN L k) with h | h
  · have hl := whole_le L k
    have := (whole_iff L k (j + 1) (by omega)).1 h
    have := h2 (by omega)
    omega
  · omega
theorem first_part {r p q : List UInt8} (hr : r.length ≤ 1048576) (h : frameL r = p ++ q) (hq : q ≠ []) : firstL p = none := by
  rcases hf : firstL p with _ | ⟨r', k⟩
  · rfl
  · obtain ⟨b1, b2, b3⟩ := first_back hf
    have hlt := first_lt hf
    have e : frameL r ++ [] = frameL r' ++ (p.drop k ++ q) := by rw [List.append_nil, h, ← List.append_assoc, b2]
    have f1 := frame_first hr []
    rw [e, frame_first b1] at f1
    cases f1
    have hl := congrArg List.length h
    rw [List.length_append] at hl
    have : 0 < q.length := List.length_pos_iff.2 hq
    omega
/-- What frames bear that are cut off. -/
theorem split_cut : ∀ (L : List (List UInt8)) (k : Nat), (∀ r ∈ L, r.length ≤ 1048576) → splitL ((framesL L).take k) = (L.take (wholeN L k), (framesL (L.take (wholeN L k))).length)
  | [], k, _ => by
    have h0 : firstL (([] : List UInt8).take k) = none := by
      rcases hf : firstL (([] : List UInt8).take k) with _ | ⟨r, j⟩
      · rfl
      · have := first_lt hf
        simp at this
        omega
    show splitL (([] : List UInt8).take k) = _
    rw [split_none h0]
    simp [wholeN, framesL]
  | r :: L, k, h => by
    have hr := h r (List.mem_cons_self ..)
    unfold wholeN
    split
    · rename_i hk
      have ih := split_cut L (k - (frameL r).length) (fun x hx => h x (List.mem_cons_of_mem _ hx))
      have e : (framesL (r :: L)).take k = frameL r ++ (framesL L).take (k - (frameL r).length) := by
        show (frameL r ++ framesL L).take k = _
        rw [List.take_append, List.take_of_length_le hk]
      rw [e, split_some (frame_first hr _), List.drop_left, ih]
      show _ = (r :: L.take _, (frameL r ++ framesL (L.take _)).length)
      rw [List.length_append]
    · rename_i hk
      have e : (framesL (r :: L)).take k = (frameL r).take k := by
        show (frameL r ++ framesL L).take k = _
        rw [List.take_append_of_le_length (by omega)]
      rw [e, split_none (first_part hr (List.take_append_drop k (frameL r)).symm (by intro hh; have := congrArg List.length hh; simp at this; omega))]
      simp [framesL]
theorem take_eq_split {l m : List UInt8} {k j : Nat} (h : l.take k = m.take k) (hj : j ≤ k) : l.take j = m.take j := by
  have := congrArg (List.take j) h
  rwa [List.take_take, List.take_take, Nat.min_eq_left hj] at this
/-- Bytes that begin as frames do, up to a place, bear the whole ones ahead of it. -/
theorem split_turned {L : List (List UInt8)} {b : List UInt8} {k : Nat} (hL : ∀ r ∈ L, r.length ≤ 1048576) (h : b.take k = (framesL L).take k) : ∃ M, (splitL b).1 = L.take (wholeN L k) ++ M := by
  have hin := whole_in L k
  have e : b = framesL (L.take (wholeN L k)) ++ b.drop (framesL (L.take (wholeN L k))).length := by
    have h2 := take_eq_split h hin
    have e2 : framesL L = framesL (L.take (wholeN L k)) ++ framesL (L.drop (wholeN L k)) := by rw [← framesL_append, List.take_append_drop]
    have e3 : (framesL L).take (framesL (L.take (wholeN L k))).length = framesL (L.take (wholeN L k)) := by
      conv => lhs; arg 2; rw [e2]
      rw [List.take_left]
    rw [e3] at h2
    conv => lhs; rw [← List.take_append_drop (framesL (L.take (wholeN L k))).length b, h2]
  rw [e, split_frames _ _ (fun r hr => hL r (List.mem_of_mem_take hr))]
  exact ⟨_, rfl⟩
end Go.Proofs.YtfbaenhajlckjaaGreat
