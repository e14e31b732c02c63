/- The writer of package six: what each of its methods adds. -/
import Derived.Test.YtkelcmncjhnbgaaSixBuilder
import Derived.Deep.RegionWith
namespace Go.Proofs.Ytkelcmncjhnbgaa
open Go.RowKit

theorem builder_WriteNum (B b : Nat) (l : List UInt8) (c : Int) (w : World) (h : Wt B b l w) (h1 : 0 ≤ c) (h2 : c ≤ 255) (hlen : l.length + 1 ≤ 140737488355328) :
    Calls Try.prog 75 #[.pointer (some ⟨b, 0, none⟩), .int .u8 c] w fun e w' => e = .returned .nilIface ∧ Wt B b (l ++ [UInt8.ofNat c.toNat]) w' ∧ Below B w w' := by
  have e : c = ((UInt8.ofNat c.toNat).toNat : Int) := by rw [toNat_ofNat (by omega)]; omega
  have := builder_WriteByte B b l (UInt8.ofNat c.toNat) w h hlen
  rw [← e] at this
  exact this

theorem shift_pow (n k : Nat) : ((n : Int) / 2 ^ (6 * k)) = ((n / 64 ^ k : Nat) : Int) := by
  have e : ((2 : Int) ^ (6 * k)) = ((64 ^ k : Nat) : Int) := by
    rw [show (64 : Nat) = 2 ^ 6 from rfl, ← Nat.pow_mul]
    simp
  rw [e]
  simp

theorem and63_i64 (n : Nat) (h : n ≤ 9223372036854775807) : bits .and .i64 (n : Int) 63 = ((n % 64 : Nat) : Int) := by
  show IntKind.i64.wrap ((BitVec.ofInt 64 (n : Int) &&& BitVec.ofInt 64 ((63 : Nat) : Int)).toNat : Int) = _
  rw [BitVec.toNat_and, ofInt_u64 _ (by omega), ofInt_u64 _ (by omega), nat_mask6, IntWalk.i64_in _ (by omega)]
theorem or_mark (x mark : Nat) (hx : x < 64) (hm : mark = 64 ∨ mark = 128) : bits .or .u8 (x : Int) (mark : Int) = ((mark + x : Nat) : Int) := by
  rw [u8_or_nat x mark (by omega) (by omega), Nat.or_comm]
  rcases hm with rfl | rfl
  · rw [nat_join 6 64 x (by decide) hx]
  · rw [nat_join 6 128 x (by decide) hx]

theorem Wt.drew {B b : Nat} {l : List UInt8} {w : World} (h : Wt B b l w) : Wt B b l w.drew := by
  rcases h with h | h
  · exact .inl h.drew
  · exact .inr h.drew

theorem lead_le (n j : Nat) (h : n ≤ 9223372036854775807) : (lead (n / 64 ^ (j + 1))).length ≤ 10 := by
  refine lead_len 10 _ ?_
  have e : (64 : Nat) ^ 10 = 1152921504606846976 := by decide
  have : n / 64 ^ (j + 1) ≤ n / 64 := by
    rw [Nat.pow_succ, Nat.mul_comm, ← Nat.div_div_eq_div_mul]
    exact Nat.div_le_self _ _
  omega

set_option maxHeartbeats 400000 in
theorem six_groups (B b : Nat) (l : List UInt8) (n mark : Nat) (w : World) (h : Wt B b l w) (hn : n ≤ 9223372036854775807) (hm : mark = 64 ∨ mark = 128) (hlen : l.length + 11 ≤ 140737488355328) :
    Calls Try.prog 69 #[.pointer (some ⟨b, 0, none⟩), .int .i64 n, .int .u8 mark] w fun e w' => e = .returned (.tuple #[]) ∧ Wt B b (l ++ grp n mark) w' ∧ Below B w w' := by
  have HW := Lib.hid h
  have HM := Lib.hid hm
  have hm0 : (mark : Int) ≤ 128 := by omega
  clear h hm
  go_enter Try.func69, Try.ntmps69
  go_wp2_with fail
  go_loop [6] (fun x => ∃ k : Nat, k ≤ 10 ∧ x = .int .i64 (6 * k : Nat) ∧ Hid (n / 64 ^ k ≠ 0 ∨ k = 0)) (fun x => 60 - (intOf x).toNat)
  case atStart => exact ⟨0, by omega, rfl, .inr rfl⟩
  case round =>
    obtain ⟨k, hk, rfl, HK⟩ := hrel
    have hq := shift_pow n k
    obtain ⟨q, hQ⟩ : ∃ q, q = n / 64 ^ k := ⟨_, rfl⟩
    rw [← hQ] at hq HK
    have hQ' := Lib.hid hQ
    clear hQ
    by_cases ht : 63 < (q : Int)
    · go_wp2_with fail
      go_round
      case rel =>
        have e : n / 64 ^ (k + 1) = q / 64 := by rw [hQ'.out, Nat.pow_succ, Nat.div_div_eq_div_mul]
        have hk10 : k ≠ 10 := by
          intro hk10
          have := hQ'.out
          rw [hk10, show (64 : Nat) ^ 10 = 1152921504606846976 by decide] at this
          omega
        exact ⟨k + 1, by omega, by go_num, .inl (by rw [e]; omega)⟩
      case measure =>
        have hk10 : k ≠ 10 := by
          intro hk10
          have := hQ'.out
          rw [hk10, show (64 : Nat) ^ 10 = 1152921504606846976 by decide] at this
          omega
        simp [intOf]; omega
    · go_wp2_with fail
      have hq0 : (q : Int) ≤ 63 := by omega
      clear hq ht
      go_loopw [6] (fun x wr => ∃ j : Nat, j ≤ k ∧ x = .int .i64 (6 * j : Nat) ∧ Wt B b (l ++ lead (n / 64 ^ (j + 1))) wr ∧ Below B w wr) (fun x wr => (intOf x).toNat)
      case atStart =>
        refine ⟨k, Nat.le_refl _, by go_num, ?_, Below.refl _ _⟩
        have e : n / 64 ^ (k + 1) = 0 := by rw [Nat.pow_succ, ← Nat.div_div_eq_div_mul, ← hQ'.out]; omega
        rw [e, lead_zero, List.append_nil]
        exact HW.out
      case round =>
        obtain ⟨j, hj, rfl, hw, hbw⟩ := hrel
        have HW2 := Lib.hid hw
        have HB2 := Lib.hid hbw
        clear hw hbw
        have hlen2 := Lib.hid (show (l ++ lead (n / 64 ^ (j + 1))).length + 1 ≤ 140737488355328 by rw [List.length_append]; have := lead_le n j hn; omega)
        by_cases hj0 : (j : Int) ≤ 0
        · have hj1 : j = 0 := by omega
          obtain ⟨x, hx⟩ : ∃ x, x = n % 64 := ⟨_, rfl⟩
          obtain ⟨z, hz⟩ : ∃ z, z = mark + x := ⟨_, rfl⟩
          have hand := and63_i64 n hn
          have hor := or_mark x mark (by omega) HM.out
          rw [← hx] at hand
          rw [← hz] at hor
          have hx1 : x ≤ 63 := by omega
          have hz1 : z ≤ 191 := by have := HM.out; omega
          have HX := Lib.hid hx
          have HZ := Lib.hid hz
          have HJ := Lib.hid hj1
          clear hx hz hj1
          go_wp2_with fail
          refine (builder_WriteNum B b _ _ _ HW2.out (by omega) (by omega) hlen2.out).mono ?_
          rintro e w2 ⟨rfl, h2, k2⟩
          have H2 := Lib.hid h2
          have K2 := Lib.hid k2
          clear h2 k2
          go_wp2
          go_end0
          refine ⟨rfl, ?_, HB2.out.trans K2.out⟩
          have hg : grp n mark = lead (n / 64 ^ (j + 1)) ++ [UInt8.ofNat ((z : Int)).toNat] := by
            unfold grp
            rw [HJ.out, HZ.out, HX.out, Int.toNat_natCast, Nat.zero_add, Nat.pow_one]
          rw [hg, ← List.append_assoc]
          exact H2.out
        · have hj1 : j ≠ 0 := by omega
          obtain ⟨p, hp⟩ : ∃ p, p = n / 64 ^ j := ⟨_, rfl⟩
          obtain ⟨x, hx⟩ : ∃ x, x = p % 64 := ⟨_, rfl⟩
          have hps := shift_pow n j
          have hpn : p ≤ 9223372036854775807 := by have := Nat.div_le_self n (64 ^ j); omega
          have hand := and63_i64 p hpn
          rw [← hp] at hps
          rw [← hx] at hand
          have hx1 : x ≤ 63 := by omega
          have HP := Lib.hid hp
          have HX := Lib.hid hx
          clear hp hx
          go_wp2_with fail
          have hwr : IntKind.u8.wrap (x : Int) = x := by rw [IntKind.wrap_u8']; omega
          have htn : (6 * (j : Int)).toNat = 6 * j := by omega
          go_region_with (go_at_call 75; refine (builder_WriteNum B b _ _ _ HW2.out.drew (by omega) (by omega) hlen2.out).mono ?_; rintro e w2 ⟨rfl, h2, k2⟩; have H2 := Lib.hid h2; have K2 := Lib.hid k2; clear h2 k2)
          clear hwr htn hand hps
          go_wp2
          go_roundw
          case rel =>
            obtain ⟨i, rfl⟩ : ∃ i, j = i + 1 := ⟨j - 1, by omega⟩
            refine ⟨i, by omega, by go_num, ?_, HB2.out.drew.trans K2.out⟩
            have hk0 : n / 64 ^ (i + 1) ≠ 0 := by
              rcases HK.out with hk1 | hk1
              · intro hz
                have h1 : 64 ^ (i + 1) ≤ 64 ^ k := Nat.pow_le_pow_right (by decide) hj
                have h2 : n / 64 ^ k ≤ n / 64 ^ (i + 1) := Nat.div_le_div_left h1 (Nat.pow_pos (by decide))
                have := hQ'.out
                omega
              · omega
            have hl : lead (n / 64 ^ (i + 1)) = lead (n / 64 ^ (i + 1 + 1)) ++ [UInt8.ofNat ((x : Int)).toNat] := by
              rw [lead_pos hk0, HX.out, HP.out, Int.toNat_natCast, Nat.pow_succ 64 (i + 1), ← Nat.div_div_eq_div_mul]
            rw [hl, ← List.append_assoc]
            exact H2.out
          case measure => simp [intOf]; omega

set_option maxHeartbeats 400000 in
theorem six_Count (B b : Nat) (l : List UInt8) (n : Nat) (w : World) (h : Wt B b l w) (hn : n ≤ 9223372036854775807) (hlen : l.length + 11 ≤ 140737488355328) :
    Calls Try.prog 52 #[.pointer (some ⟨b, 0, none⟩), .int .i64 n] w fun e w' => e = .returned (.int .i64 0) ∧ Wt B b (l ++ whole n) w' ∧ Below B w w' := by
  have hg := Lib.hid (show whole n = grp n 64 by unfold whole; rw [if_neg (by omega)]; rfl)
  have HW := Lib.hid h
  clear h
  go_enter Try.func52, Try.ntmps52
  go_wp2_with fail
  refine (six_groups B b l n 64 w HW.out hn (.inl rfl) hlen).mono ?_
  rintro e w2 ⟨rfl, h2, k2⟩
  have H2 := Lib.hid h2
  have K2 := Lib.hid k2
  clear h2 k2
  go_wp2
  go_ret
  exact ⟨rfl, by rw [hg.out]; exact H2.out, K2.out⟩
theorem six_Count_neg (p : Option Addr) (n : Int) (w : World) (hn : n < 0) :
    Calls Try.prog 52 #[.pointer p, .int .i64 n] w fun e w' => e = .returned (.int .i64 1) ∧ w = w' := by
  cases p with
  | none =>
    go_enter Try.func52, Try.ntmps52
    go_wp2
    go_ret
    exact ⟨rfl, rfl⟩
  | some a =>
    go_enter Try.func52, Try.ntmps52
    go_wp2
    go_ret
    exact ⟨rfl, rfl⟩
theorem six_Count_nil (n : Int) (w : World) :
    Calls Try.prog 52 #[.pointer none, .int .i64 n] w fun e w' => e = .returned (.int .i64 1) ∧ w = w' := by
  go_enter Try.func52, Try.ntmps52
  go_wp2
  go_ret
  exact ⟨rfl, rfl⟩

theorem six_Raw (B b : Nat) (l : List UInt8) (s : ByteArray) (w : World) (h : Wt B b l w) (hlen : l.length + s.size ≤ 140737488355328) :
    Calls Try.prog 53 #[.pointer (some ⟨b, 0, none⟩), .string s] w fun e w' => e = .returned (.int .i64 0) ∧ Wt B b (l ++ s.data.toList) w' ∧ Below B w w' := by
  have HW := Lib.hid h
  clear h
  go_enter Try.func53, Try.ntmps53
  go_wp2_with fail
  refine (builder_WriteString B b l s w HW.out hlen).mono ?_
  rintro e w2 ⟨rfl, h2, k2⟩
  have H2 := Lib.hid h2
  have K2 := Lib.hid k2
  clear h2 k2
  go_wp2
  go_ret
  exact ⟨rfl, H2.out, K2.out⟩
theorem six_Raw_nil (s : ByteArray) (w : World) :
    Calls Try.prog 53 #[.pointer none, .string s] w fun e w' => e = .returned (.int .i64 1) ∧ w = w' := by
  go_enter Try.func53, Try.ntmps53
  go_wp2
  go_ret
  exact ⟨rfl, rfl⟩

theorem six_Text (B b : Nat) (l : List UInt8) (s : ByteArray) (w : World) (h : Wt B b l w) (hlen : l.length + 11 + s.size ≤ 140737488355328) :
    Calls Try.prog 34 #[.pointer (some ⟨b, 0, none⟩), .string s] w fun e w' => e = .returned (.int .i64 0) ∧ Wt B b (l ++ text s.data.toList) w' ∧ Below B w w' := by
  have HW := Lib.hid h
  clear h
  have hl := Lib.hid (show (whole (s.size : Int)).length ≤ 11 from (whole_len (by omega) (by omega)).1)
  have ht := Lib.hid (show text s.data.toList = whole (s.size : Int) ++ s.data.toList by unfold text; rw [← Lib.size_eq])
  go_enter Try.func34, Try.ntmps34
  go_wp2_with fail
  refine (six_Count B b l s.size w HW.out (by omega) (by omega)).mono ?_
  rintro e w2 ⟨rfl, h2, k2⟩
  have H2 := Lib.hid h2
  have K2 := Lib.hid k2
  clear h2 k2
  go_wp2_with fail
  refine (six_Raw B b _ s w2 H2.out (by rw [List.length_append]; have := hl.out; omega)).mono ?_
  rintro e w3 ⟨rfl, h3, k3⟩
  have H3 := Lib.hid h3
  have K3 := Lib.hid k3
  clear h3 k3
  go_wp2
  go_ret
  exact ⟨rfl, by rw [ht.out, ← List.append_assoc]; exact H3.out, K2.out.trans K3.out⟩
theorem six_Text_nil (s : ByteArray) (w : World) :
    Calls Try.prog 34 #[.pointer none, .string s] w fun e w' => e = .returned (.int .i64 1) ∧ w = w' := by
  go_enter Try.func34, Try.ntmps34
  go_wp2_with fail
  refine (six_Count_nil _ w).mono ?_
  rintro e w2 ⟨rfl, rfl⟩
  go_wp2
  go_ret
  exact ⟨rfl, rfl⟩

end Go.Proofs.Ytkelcmncjhnbgaa
