/- Texts put together: SixWriter, SixTexts, SixAwake, BoxTakeKey, BoxTake -/
import Derived.Test.YtlpknhiagdhkcaaBSp02
import Derived.Deep.RegionWith
import Derived.Lib.SlBuf
import Derived.Lib.LazyBuf
/- The writer of package six: what each of its methods adds. -/
namespace Go.Proofs.Ytlpknhiagdhkcaa
open Go.RowKit

theorem builder_WriteNum (B b : Nat) (l : List UInt8) (c : Int) (w : World) (h : Wt B b l w) (h1 : 0 ≤ c) (h2 : c ≤ 255) (hlen : l.length + 1 ≤ 140737488355328) :
    Calls Try.prog 72 #[.pointer (some ⟨b, 0, none⟩), .int .u8 c] w fun e w' => e = .returned .nilIface ∧ Wt B b (l ++ [UInt8.ofNat c.toNat]) w' ∧ Below B w w' := by
  have e : c = ((UInt8.ofNat c.toNat).toNat : Int) := by rw [toNat_ofNat (by omega)]; omega
  have := builder_WriteByte B b l (UInt8.ofNat c.toNat) w h hlen
  rw [← e] at this
  exact this

theorem shift_pow (n k : Nat) : ((n : Int) / 2 ^ (6 * k)) = ((n / 64 ^ k : Nat) : Int) := by
  have e : ((2 : Int) ^ (6 * k)) = ((64 ^ k : Nat) : Int) := by
    rw [show (64 : Nat) = 2 ^ 6 from rfl, ← Nat.pow_mul]
    simp
  rw [e]
  simp

theorem and63_i64 (n : Nat) (h : n ≤ 9223372036854775807) : bits .and .i64 (n : Int) 63 = ((n % 64 : Nat) : Int) := by
  show IntKind.i64.wrap ((BitVec.ofInt 64 (n : Int) &&& BitVec.ofInt 64 ((63 : Nat) : Int)).toNat : Int) = _
  rw [BitVec.toNat_and, ofInt_u64 _ (by omega), ofInt_u64 _ (by omega), nat_mask6, IntWalk.i64_in _ (by omega)]
theorem or_mark (x mark : Nat) (hx : x < 64) (hm : mark = 64 ∨ mark = 128) : bits .or .u8 (x : Int) (mark : Int) = ((mark + x : Nat) : Int) := by
  rw [u8_or_nat x mark (by omega) (by omega), Nat.or_comm]
  rcases hm with rfl | rfl
  · rw [nat_join 6 64 x (by decide) hx]
  · rw [nat_join 6 128 x (by decide) hx]

theorem Wt.drew {B b : Nat} {l : List UInt8} {w : World} (h : Wt B b l w) : Wt B b l w.drew := by
  rcases h with h | h
  · exact .inl h.drew
  · exact .inr h.drew

theorem lead_le (n j : Nat) (h : n ≤ 9223372036854775807) : (lead (n / 64 ^ (j + 1))).length ≤ 10 := by
  refine lead_len 10 _ ?_
  have e : (64 : Nat) ^ 10 = 1152921504606846976 := by decide
  have : n / 64 ^ (j + 1) ≤ n / 64 := by
    rw [Nat.pow_succ, Nat.mul_comm, ← Nat.div_div_eq_div_mul]
    exact Nat.div_le_self _ _
  omega

set_option maxHeartbeats 400000 in
theorem six_groups (B b : Nat) (l : List UInt8) (n mark : Nat) (w : World) (h : Wt B b l w) (hn : n ≤ 9223372036854775807) (hm : mark = 64 ∨ mark = 128) (hlen : l.length + 11 ≤ 140737488355328) :
    Calls Try.prog 58 #[.pointer (some ⟨b, 0, none⟩), .int .i64 n, .int .u8 mark] w fun e w' => e = .returned (.tuple #[]) ∧ Wt B b (l ++ grp n mark) w' ∧ Below B w w' := by
  have HW := Lib.hid h
  have HM := Lib.hid hm
  have hm0 : (mark : Int) ≤ 128 := by omega
  clear h hm
  go_enter Try.func58, Try.ntmps58
  go_wp2_with fail
  go_loop [6] (fun x => ∃ k : Nat, k ≤ 10 ∧ x = .int .i64 (6 * k : Nat) ∧ Hid (n / 64 ^ k ≠ 0 ∨ k = 0)) (fun x => 60 - (intOf x).toNat)
  case atStart => exact ⟨0, by omega, rfl, .inr rfl⟩
  case round =>
    obtain ⟨k, hk, rfl, HK⟩ := hrel
    have hq := shift_pow n k
    obtain ⟨q, hQ⟩ : ∃ q, q = n / 64 ^ k := ⟨_, rfl⟩
    rw [← hQ] at hq HK
    have hQ' := Lib.hid hQ
    clear hQ
    by_cases ht : 63 < (q : Int)
    · go_wp2_with fail
      go_round
      case rel =>
        have e : n / 64 ^ (k + 1) = q / 64 := by rw [hQ'.out, Nat.pow_succ, Nat.div_div_eq_div_mul]
        have hk10 : k ≠ 10 := by
          intro hk10
          have := hQ'.out
          rw [hk10, show (64 : Nat) ^ 10 = 1152921504606846976 by decide] at this
          omega
        exact ⟨k + 1, by omega, by go_num, .inl (by rw [e]; omega)⟩
      case measure =>
        have hk10 : k ≠ 10 := by
          intro hk10
          have := hQ'.out
          rw [hk10, show (64 : Nat) ^ 10 = 1152921504606846976 by decide] at this
          omega
        simp [intOf]; omega
    · go_wp2_with fail
      have hq0 : (q : Int) ≤ 63 := by omega
      clear hq ht
      go_loopw [6] (fun x wr => ∃ j : Nat, j ≤ k ∧ x = .int .i64 (6 * j : Nat) ∧ Wt B b (l ++ lead (n / 64 ^ (j + 1))) wr ∧ Below B w wr) (fun x wr => (intOf x).toNat)
      case atStart =>
        refine ⟨k, Nat.le_refl _, by go_num, ?_, Below.refl _ _⟩
        have e : n / 64 ^ (k + 1) = 0 := by rw [Nat.pow_succ, ← Nat.div_div_eq_div_mul, ← hQ'.out]; omega
        rw [e, lead_zero, List.append_nil]
        exact HW.out
      case round =>
        obtain ⟨j, hj, rfl, hw, hbw⟩ := hrel
        have HW2 := Lib.hid hw
        have HB2 := Lib.hid hbw
        clear hw hbw
        have hlen2 := Lib.hid (show (l ++ lead (n / 64 ^ (j + 1))).length + 1 ≤ 140737488355328 by rw [List.length_append]; have := lead_le n j hn; omega)
        by_cases hj0 : (j : Int) ≤ 0
        · have hj1 : j = 0 := by omega
          obtain ⟨x, hx⟩ : ∃ x, x = n % 64 := ⟨_, rfl⟩
          obtain ⟨z, hz⟩ : ∃ z, z = mark + x := ⟨_, rfl⟩
          have hand := and63_i64 n hn
          have hor := or_mark x mark (by omega) HM.out
          rw [← hx] at hand
          rw [← hz] at hor
          have hx1 : x ≤ 63 := by omega
          have hz1 : z ≤ 191 := by have := HM.out; omega
          have HX := Lib.hid hx
          have HZ := Lib.hid hz
          have HJ := Lib.hid hj1
          clear hx hz hj1
          go_wp2_with fail
          refine (builder_WriteNum B b _ _ _ HW2.out (by omega) (by omega) hlen2.out).mono ?_
          rintro e w2 ⟨rfl, h2, k2⟩
          have H2 := Lib.hid h2
          have K2 := Lib.hid k2
          clear h2 k2
          go_wp2
          go_end0
          refine ⟨rfl, ?_, HB2.out.trans K2.out⟩
          have hg : grp n mark = lead (n / 64 ^ (j + 1)) ++ [UInt8.ofNat ((z : Int)).toNat] := by
            unfold grp
            rw [HJ.out, HZ.out, HX.out, Int.toNat_natCast, Nat.zero_add, Nat.pow_one]
          rw [hg, ← List.append_assoc]
          exact H2.out
        · have hj1 : j ≠ 0 := by omega
          obtain ⟨p, hp⟩ : ∃ p, p = n / 64 ^ j := ⟨_, rfl⟩
          obtain ⟨x, hx⟩ : ∃ x, x = p % 64 := ⟨_, rfl⟩
          have hps := shift_pow n j
          have hpn : p ≤ 9223372036854775807 := by have := Nat.div_le_self n (64 ^ j); omega
          have hand := and63_i64 p hpn
          rw [← hp] at hps
          rw [← hx] at hand
          have hx1 : x ≤ 63 := by omega
          have HP := Lib.hid hp
          have HX := Lib.hid hx
          clear hp hx
          go_wp2_with fail
          have hwr : IntKind.u8.wrap (x : Int) = x := by rw [IntKind.wrap_u8']; omega
          have htn : (6 * (j : Int)).toNat = 6 * j := by omega
          go_region_with (go_at_call 72; refine (builder_WriteNum B b _ _ _ HW2.out.drew (by omega) (by omega) hlen2.out).mono ?_; rintro e w2 ⟨rfl, h2, k2⟩; have H2 := Lib.hid h2; have K2 := Lib.hid k2; clear h2 k2)
          clear hwr htn hand hps
          go_wp2
          go_roundw
          case rel =>
            obtain ⟨i, rfl⟩ : ∃ i, j = i + 1 := ⟨j - 1, by omega⟩
            refine ⟨i, by omega, by go_num, ?_, HB2.out.drew.trans K2.out⟩
            have hk0 : n / 64 ^ (i + 1) ≠ 0 := by
              rcases HK.out with hk1 | hk1
              · intro hz
                have h1 : 64 ^ (i + 1) ≤ 64 ^ k := Nat.pow_le_pow_right (by decide) hj
                have h2 : n / 64 ^ k ≤ n / 64 ^ (i + 1) := Nat.div_le_div_left h1 (Nat.pow_pos (by decide))
                have := hQ'.out
                omega
              · omega
            have hl : lead (n / 64 ^ (i + 1)) = lead (n / 64 ^ (i + 1 + 1)) ++ [UInt8.ofNat ((x : Int)).toNat] := by
              rw [lead_pos hk0, HX.out, HP.out, Int.toNat_natCast, Nat.pow_succ 64 (i + 1), ← Nat.div_div_eq_div_mul]
            rw [hl, ← List.append_assoc]
            exact H2.out
          case measure => simp [intOf]; omega

set_option maxHeartbeats 400000 in
theorem six_Count (B b : Nat) (l : List UInt8) (n : Nat) (w : World) (h : Wt B b l w) (hn : n ≤ 9223372036854775807) (hlen : l.length + 11 ≤ 140737488355328) :
    Calls Try.prog 33 #[.pointer (some ⟨b, 0, none⟩), .int .i64 n] w fun e w' => e = .returned (.int .i64 0) ∧ Wt B b (l ++ whole n) w' ∧ Below B w w' := by
  have hg := Lib.hid (show whole n = grp n 64 by unfold whole; rw [if_neg (by omega)]; rfl)
  have HW := Lib.hid h
  clear h
  go_enter Try.func33, Try.ntmps33
  go_wp2_with fail
  refine (six_groups B b l n 64 w HW.out hn (.inl rfl) hlen).mono ?_
  rintro e w2 ⟨rfl, h2, k2⟩
  have H2 := Lib.hid h2
  have K2 := Lib.hid k2
  clear h2 k2
  go_wp2
  go_ret
  exact ⟨rfl, by rw [hg.out]; exact H2.out, K2.out⟩
theorem six_Count_neg (p : Option Addr) (n : Int) (w : World) (hn : n < 0) :
    Calls Try.prog 33 #[.pointer p, .int .i64 n] w fun e w' => e = .returned (.int .i64 1) ∧ w = w' := by
  cases p with
  | none =>
    go_enter Try.func33, Try.ntmps33
    go_wp2
    go_ret
    exact ⟨rfl, rfl⟩
  | some a =>
    go_enter Try.func33, Try.ntmps33
    go_wp2
    go_ret
    exact ⟨rfl, rfl⟩
theorem six_Count_nil (n : Int) (w : World) :
    Calls Try.prog 33 #[.pointer none, .int .i64 n] w fun e w' => e = .returned (.int .i64 1) ∧ w = w' := by
  go_enter Try.func33, Try.ntmps33
  go_wp2
  go_ret
  exact ⟨rfl, rfl⟩

theorem six_Raw (B b : Nat) (l : List UInt8) (s : ByteArray) (w : World) (h : Wt B b l w) (hlen : l.length + s.size ≤ 140737488355328) :
    Calls Try.prog 32 #[.pointer (some ⟨b, 0, none⟩), .string s] w fun e w' => e = .returned (.int .i64 0) ∧ Wt B b (l ++ s.data.toList) w' ∧ Below B w w' := by
  have HW := Lib.hid h
  clear h
  go_enter Try.func32, Try.ntmps32
  go_wp2_with fail
  refine (builder_WriteString B b l s w HW.out hlen).mono ?_
  rintro e w2 ⟨rfl, h2, k2⟩
  have H2 := Lib.hid h2
  have K2 := Lib.hid k2
  clear h2 k2
  go_wp2
  go_ret
  exact ⟨rfl, H2.out, K2.out⟩
theorem six_Raw_nil (s : ByteArray) (w : World) :
    Calls Try.prog 32 #[.pointer none, .string s] w fun e w' => e = .returned (.int .i64 1) ∧ w = w' := by
  go_enter Try.func32, Try.ntmps32
  go_wp2
  go_ret
  exact ⟨rfl, rfl⟩

theorem six_Text (B b : Nat) (l : List UInt8) (s : ByteArray) (w : World) (h : Wt B b l w) (hlen : l.length + 11 + s.size ≤ 140737488355328) :
    Calls Try.prog 34 #[.pointer (some ⟨b, 0, none⟩), .string s] w fun e w' => e = .returned (.int .i64 0) ∧ Wt B b (l ++ text s.data.toList) w' ∧ Below B w w' := by
  have HW := Lib.hid h
  clear h
  have hl := Lib.hid (show (whole (s.size : Int)).length ≤ 11 from (whole_len (by omega) (by omega)).1)
  have ht := Lib.hid (show text s.data.toList = whole (s.size : Int) ++ s.data.toList by unfold text; rw [← Lib.size_eq])
  go_enter Try.func34, Try.ntmps34
  go_wp2_with fail
  refine (six_Count B b l s.size w HW.out (by omega) (by omega)).mono ?_
  rintro e w2 ⟨rfl, h2, k2⟩
  have H2 := Lib.hid h2
  have K2 := Lib.hid k2
  clear h2 k2
  go_wp2_with fail
  refine (six_Raw B b _ s w2 H2.out (by rw [List.length_append]; have := hl.out; omega)).mono ?_
  rintro e w3 ⟨rfl, h3, k3⟩
  have H3 := Lib.hid h3
  have K3 := Lib.hid k3
  clear h3 k3
  go_wp2
  go_ret
  exact ⟨rfl, by rw [ht.out, ← List.append_assoc]; exact H3.out, K2.out.trans K3.out⟩
theorem six_Text_nil (s : ByteArray) (w : World) :
    Calls Try.prog 34 #[.pointer none, .string s] w fun e w' => e = .returned (.int .i64 1) ∧ w = w' := by
  go_enter Try.func34, Try.ntmps34
  go_wp2_with fail
  refine (six_Count_nil _ w).mono ?_
  rintro e w2 ⟨rfl, rfl⟩
  go_wp2
  go_ret
  exact ⟨rfl, rfl⟩

end Go.Proofs.Ytlpknhiagdhkcaa
/- The reader of package six: a text. -/
namespace Go.Proofs.Ytlpknhiagdhkcaa
open Go.RowKit

theorem six_ReadText_nil (w : World) : Calls Try.prog 75 #[.pointer none] w fun e w' => e = .returned (.tuple #[.string ⟨#[]⟩, .int .i64 1]) ∧ w = w' := by
  go_enter Try.func75, Try.ntmps75
  go_wp2
  go_ret2
  exact ⟨rfl, rfl⟩

set_option maxHeartbeats 400000 in
theorem six_ReadText_ok (r : Nat) (s s1 s2 t : ByteArray) (n : Int) (w : World) (h : Hid (Rt r s w))
    (h30 : Hid (Calls Try.prog 74 #[.pointer (some ⟨r, 0, none⟩)] w (Rd r s1 (.int .i64 n) (.int .i64 0) w)))
    (h31 : Hid (∀ w, Rt r s1 w → Calls Try.prog 68 #[.pointer (some ⟨r, 0, none⟩), .int .i64 n] w (Rd r s2 (.string t) (.int .i64 0) w))) :
    Calls Try.prog 75 #[.pointer (some ⟨r, 0, none⟩)] w (Rd r s2 (.string t) (.int .i64 0) w) := by
  have c0 := h.out.cell
  go_enter Try.func75, Try.ntmps75
  go_wp2_with fail
  refine h30.out.mono ?_
  rintro e w1 ⟨rfl, h2, k2⟩
  have H2 := Lib.hid h2
  have K2 := Lib.hid k2
  clear h2 k2
  go_wp2_with fail
  refine (h31.out _ H2.out).mono ?_
  rintro e w2 ⟨rfl, h3, k3⟩
  have H3 := Lib.hid h3
  have K3 := Lib.hid k3
  clear h3 k3
  go_wp2
  go_ret2
  exact ⟨rfl, H3.out, K2.out.trans K3.out⟩

set_option maxHeartbeats 400000 in
theorem six_ReadText_no (r : Nat) (s s1 s2 t : ByteArray) (n e : Int) (w : World) (h : Hid (Rt r s w)) (he : (e == 0) = false)
    (h30 : Hid (Calls Try.prog 74 #[.pointer (some ⟨r, 0, none⟩)] w (Rd r s1 (.int .i64 n) (.int .i64 0) w)))
    (h31 : Hid (∀ w, Rt r s1 w → Calls Try.prog 68 #[.pointer (some ⟨r, 0, none⟩), .int .i64 n] w (Rd r s2 (.string t) (.int .i64 e) w))) :
    Calls Try.prog 75 #[.pointer (some ⟨r, 0, none⟩)] w (Rd r s (.string (bs [])) (.int .i64 e) w) := by
  have c0 := h.out.cell
  go_enter Try.func75, Try.ntmps75
  go_wp2_with fail
  refine h30.out.mono ?_
  rintro e w1 ⟨rfl, h2, k2⟩
  have H2 := Lib.hid h2
  have K2 := Lib.hid k2
  clear h2 k2
  go_wp2_with fail
  refine (h31.out _ H2.out).mono ?_
  rintro e w2 ⟨rfl, h3, k3⟩
  have c3 := h3.cell
  have f3 := h3.free
  have H3 := Lib.hid h3
  have K3 := Lib.hid k3
  clear h3 k3
  go_wp2
  go_ret2
  exact ⟨rfl, H3.out.put s, (K2.out.trans K3.out).setCell (p := ⟨r, 0, none⟩) (.inl rfl) _⟩

set_option maxHeartbeats 400000 in
theorem six_ReadText_none (r : Nat) (s s1 : ByteArray) (n e : Int) (w : World) (h : Hid (Rt r s w)) (he : (e == 0) = false)
    (h30 : Hid (Calls Try.prog 74 #[.pointer (some ⟨r, 0, none⟩)] w (Rd r s1 (.int .i64 n) (.int .i64 e) w))) :
    Calls Try.prog 75 #[.pointer (some ⟨r, 0, none⟩)] w (Rd r s1 (.string (bs [])) (.int .i64 e) w) := by
  have c0 := h.out.cell
  go_enter Try.func75, Try.ntmps75
  go_wp2_with fail
  refine h30.out.mono ?_
  rintro e w1 ⟨rfl, h2, k2⟩
  have H2 := Lib.hid h2
  have K2 := Lib.hid k2
  clear h2 k2
  go_wp2
  go_ret2
  exact ⟨rfl, H2.out, K2.out⟩

theorem extract_twice (s : ByteArray) (a b : Nat) : (s.extract a s.size).extract b (s.extract a s.size).size = s.extract (a + b) s.size := by
  have h1 := extract_rest (s.extract a s.size) b
  rw [extract_rest s a, List.drop_drop] at h1
  rw [bs_eq h1, bs_eq (extract_rest s (a + b))]

theorem six_ReadText (r : Nat) (s : ByteArray) (w : World) (h : Rt r s w) (hs : s.size ≤ maxLen) :
    Calls Try.prog 75 #[.pointer (some ⟨r, 0, none⟩)] w (Rd r (s.extract (tk s.data.toList) s.size) (.string (bs (ts s.data.toList))) (.int .i64 (te s.data.toList)) w) := by
  have HL : s.data.toList.length = s.size := by rw [← Lib.size_eq]
  have h30 := six_ReadCount r s w h hs
  have hm : maxLen = 9223372036854775807 := rfl
  rcases cd_cases s.data.toList with ⟨c0, c1, c2, c3, c4, _, _, _⟩ | ⟨c0, c1, c2⟩
  · have HZ : (s.extract (ck s.data.toList) s.size).size ≤ maxLen := by rw [extract_size]; omega
    have h31 := fun w hw => six_ReadRaw r (s.extract (ck s.data.toList) s.size) (cn s.data.toList) w hw HZ (by omega) (by omega)
    have HW : te s.data.toList = we (s.data.toList.drop (ck s.data.toList)) (cn s.data.toList) := by unfold te; rw [if_neg (by rw [c0]; simp)]
    have HT : ts s.data.toList = ws (s.data.toList.drop (ck s.data.toList)) (cn s.data.toList) := by unfold ts; rw [if_neg (by rw [c0]; simp)]
    simp only [extract_twice, extract_rest] at h31
    rw [← HW, ← HT] at h31
    rw [c0] at h30
    rcases td_cases s.data.toList with ⟨t0, t1, t2, t3, t4, t5, t6⟩ | ⟨t0, t1, t2⟩
    · rw [t0] at h31
      have hk : tk s.data.toList = ck s.data.toList + wk (s.data.toList.drop (ck s.data.toList)) (cn s.data.toList) := by unfold tk; rw [if_neg (by rw [t0]; simp)]
      rw [t0, hk]
      exact six_ReadText_ok r s _ _ _ _ w (Lib.hid h) (Lib.hid h30) (Lib.hid h31)
    · rw [t1, t2, rest0]
      exact six_ReadText_no r s _ _ _ _ _ w (Lib.hid h) (beq_eq_false_iff_ne.2 (by omega)) (Lib.hid h30) (Lib.hid h31)
  · have e1 : te s.data.toList = ce s.data.toList := by unfold te; rw [if_pos (by omega)]
    have e2 : ts s.data.toList = [] := by unfold ts; rw [if_pos (by omega)]
    have e3 : tk s.data.toList = ck s.data.toList := by rw [c2]; unfold tk; rw [if_pos (by omega)]
    rw [e1, e2, e3]
    exact six_ReadText_none r s _ _ _ w (Lib.hid h) (beq_eq_false_iff_ne.2 (by omega)) (Lib.hid h30)

end Go.Proofs.Ytlpknhiagdhkcaa
/- The laws' own first look: answers that the document fixes. -/
set_option linter.unusedVariables false
set_option maxRecDepth 100000
namespace Go.Proofs.Ytlpknhiagdhkcaa
open Go.RowKit

theorem six_CountI (B b : Nat) (l : List UInt8) (n : Int) (w : World) (h : Wt B b l w) (h0 : 0 ≤ n) (hn : n ≤ 9223372036854775807) (hlen : l.length + 11 ≤ 140737488355328) :
    Calls Try.prog 33 #[.pointer (some ⟨b, 0, none⟩), .int .i64 n] w fun e w' => e = .returned (.int .i64 0) ∧ Wt B b (l ++ whole n) w' ∧ Below B w w' := by
  obtain ⟨m, rfl⟩ : ∃ m : Nat, n = m := ⟨n.toNat, by omega⟩
  exact six_Count B b l m w h (by omega) hlen

def abL : List UInt8 := [1, 64, 1, 128, 66, 97, 98]
theorem whole64 : whole 64 = [1, 64] := by
  unfold whole grp
  rw [if_neg (by decide), show (64 : Int).toNat / 64 = 1 from rfl, lead_pos (by decide), show 1 / 64 = 0 from rfl, lead_zero]
  rfl
theorem whole65 : whole (-65) = [1, 128] := by
  unfold whole grp
  rw [if_pos (by decide), show (-1 - (-65) : Int).toNat / 64 = 1 from rfl, lead_pos (by decide), show 1 / 64 = 0 from rfl, lead_zero]
  rfl
theorem text_ab : text [97, 98] = [66, 97, 98] := by
  unfold text whole grp
  rw [if_neg (by decide), show (([97, 98] : List UInt8).length : Int).toNat / 64 = 0 from rfl, lead_zero]
  rfl

theorem abSize : (bs abL).size = 7 := rfl
theorem ab1 : (bs abL).extract 2 (bs abL).size = bs [1, 128, 66, 97, 98] := rfl
theorem ab2 : (bs [1, 128, 66, 97, 98]).extract 2 (bs [1, 128, 66, 97, 98]).size = bs [66, 97, 98] := rfl
theorem ab3 : (bs [66, 97, 98]).extract 3 (bs [66, 97, 98]).size = bs [] := rfl

theorem Rd.mk' {r : Nat} {s : ByteArray} {a b : Value} {w w' : World} {e : Ending} (h : Rd r s a b w e w') : e = .returned (.tuple #[a, b]) ∧ Rt r s w' ∧ Only (fun k => k = r) w w' := h

theorem rd_ab1 (r : Nat) (w : World) (h : Rt r (bs abL) w) : Calls Try.prog 74 #[.pointer (some ⟨r, 0, none⟩)] w (Rd r (bs [1, 128, 66, 97, 98]) (.int .i64 64) (.int .i64 0) w) := by
  have := six_ReadCount r (bs abL) w h (by decide)
  exact this
theorem rd_ab2 (r : Nat) (w : World) (h : Rt r (bs [1, 128, 66, 97, 98]) w) : Calls Try.prog 80 #[.pointer (some ⟨r, 0, none⟩)] w (Rd r (bs [66, 97, 98]) (.int .i64 (-65)) (.int .i64 0) w) := by
  have := six_ReadWhole r (bs [1, 128, 66, 97, 98]) w h (by decide)
  exact this
theorem rd_ab3 (r : Nat) (w : World) (h : Rt r (bs [66, 97, 98]) w) : Calls Try.prog 75 #[.pointer (some ⟨r, 0, none⟩)] w (Rd r (bs []) (.string (bs [97, 98])) (.int .i64 0) w) := by
  have := six_ReadText r (bs [66, 97, 98]) w h (by decide)
  exact this

theorem Wt.same {B b : Nat} {l : List UInt8} {w w' : World} (h : Wt B b l w) (k : ∀ j, j < w.heap.size → (∀ s, ¬ Rt j s w) → w'.heap[j]? = w.heap[j]?) : Wt B b l w' := by
  have core : ∀ p, Lib.BuilderAtF 120 5 B b p (Lib.byteCells l) w → Lib.BuilderAtF 120 5 B b p (Lib.byteCells l) w' := by
    rintro p ⟨hB, v, hb, hown, hne⟩
    have hlt : b < w.heap.size := Lib.BuilderAtF.lt ⟨hB, v, hb, hown, hne⟩
    refine ⟨hB, v, ?_, ⟨hown.1, ?_⟩, hne⟩
    · rw [k b hlt (fun s hs => by unfold Rt at hs; rw [hb] at hs; simp at hs), hb]
    · rcases hown.2 with hn | ⟨g, cap, cur, fz, hv, hbg, hg, rest⟩
      · exact .inl hn
      · refine .inr ⟨g, cap, cur, fz, hv, hbg, ?_, rest⟩
        rw [k g (Array.getElem?_eq_some_iff.1 hg).1 (fun s hs => by unfold Rt at hs; rw [hg] at hs; simp at hs), hg]
  rcases h with h | h
  · exact .inl (core _ h)
  · exact .inr (core _ h)
theorem Wt.alloc {B b : Nat} {l : List UInt8} {w : World} (h : Wt B b l w) (o : Obj) : Wt B b l (w.alloc o) := h.same (fun j hj _ => Below.heap_alloc w o j hj)
theorem Wt.keep {B b : Nat} {l : List UInt8} {w w' : World} (h : Wt B b l w) (k : Below w.heap.size w w') : Wt B b l w' := h.same (fun j hj _ => k.block j hj)
theorem Wt.read {B b r : Nat} {l : List UInt8} {s : ByteArray} {w w' : World} (h : Wt B b l w) (hr : Rt r s w) (k : Only (fun k => k = r) w w') : Wt B b l w' :=
  h.same (fun j hj hs => k.block j hj (fun e => by subst e; exact hs s hr))
theorem Rt.new (s : ByteArray) (w : World) : Rt w.heap.size s (w.alloc (.cells #[.string s] 130)) := by
  show (w.heap.push _)[w.heap.size]? = _
  simp
theorem Rt.below {r B : Nat} {s : ByteArray} {w w' : World} (h : Rt r s w) (k : Below B w w') (hr : r < B) : Rt r s w' := by
  unfold Rt at h ⊢
  rw [k.block r hr, h]

theorem Rt.others {r b : Nat} {s : ByteArray} {w w' : World} (h : Rt r s w) (k : Lib.OthersKept 5 (some b) w w') (hb : r ≠ b) : Rt r s w' :=
  k r _ h (fun e => hb (Option.some.inj e)) (fun c fz e => by simp at e)

/-- A new block that a call has laid, kept by all that lies above it. -/
theorem below_new {B : Nat} {w w' : World} (h : Below B w w') (hB : B ≤ w.heap.size) {o : Obj} {k : Nat} (hk : k < B) (ho : w.heap[k]? = some o) : w'.heap[k]? = some o := by rw [h.block k hk, ho]

end Go.Proofs.Ytlpknhiagdhkcaa
/- The program goes over a key, the mark of a patch, a body. -/
set_option linter.unusedVariables false
set_option maxRecDepth 100000
namespace Go.Proofs.Ytlpknhiagdhkcaa
open Go.RowKit

theorem results_cell_tmp {fn : Func} {p u : Tmp} {ty : TypeId} (h : fn.results = #[.cell p ty, .tmp u]) (tmps : Array Value) (P : Program) (w : World) (b o : Nat) (cs : List Value) (d : TypeDesc) (x : Value) (hp : tmps.getD p undef = .pointer (some ⟨b, o, none⟩)) (hx : tmps.getD u undef = x) (hc : w.rangeAt b o cs)
    (hu : P.underlying ty = some d) (hd : d.isRow = true) (hi : (P.info? ty).map (·.size) = some cs.length) :
    (results fn tmps).run P w = .ok (.tuple #[.agg cs.toArray, x]) w := by
  have hl := run_loadVar_mid w b o ty cs d hc hu hd hi
  have hp' : tmps[p]?.getD undef = .pointer (some ⟨b, o, none⟩) := by simpa using hp
  have hx' : tmps[u]?.getD undef = x := by simpa using hx
  simp only [results, h]
  simp [Sem.run_bind, Result.andThen, hp', hx', asAddr, hl]

/-- A key's bytes ahead, or zeros. -/
def tk32 (l : List UInt8) : List UInt8 := if l.length < 32 then zero32 else l.take 32
theorem tk32_len (l : List UInt8) : (tk32 l).length = 32 := by
  unfold tk32; split
  · exact zero32_len
  · rw [List.length_take]; omega
theorem kcs_zero : (kcs zero32).toArray = Array.replicate 32 (.int .u8 0) := by kernel_rfl
theorem elem_key : Try.prog.elem 23 = 5 := by kernel_rfl
theorem len_key : Try.prog.arrayLen 23 = 32 := by kernel_rfl
theorem slice_key (b o : Nat) (w : World) : (Instr.sliceAt 23 (.pointer (some ⟨b, o, none⟩)) none none none).run Try.prog w = .ok (.slice (some ⟨b, o, none⟩) 32 32) w := by
  rw [run_sliceAt_array_all w 23 ⟨b, o, none⟩ (by rw [len_key, elem_key]; exact arr_key), elem_key]
  simp [slicedAt, len_key, addr_add]

theorem tk32_ok {l : List UInt8} (h : we l 32 = 0) : tk32 l = ws l 32 ∧ (ws l 32).length = 32 := by
  unfold we at h; unfold tk32 ws
  rw [if_neg (by omega)] at h
  split at h
  · omega
  · rename_i h1
    rw [if_neg (by omega), if_neg (by omega)]
    refine ⟨rfl, ?_⟩
    rw [List.length_take]; have : (32 : Int).toNat = 32 := rfl
    omega
theorem tk32_no {l : List UInt8} (h : we l 32 ≠ 0) : tk32 l = zero32 ∧ ws l 32 = [] := by
  unfold we at h; unfold tk32 ws
  rw [if_neg (by omega)] at h
  split at h
  · rw [if_pos (by omega), if_pos (by omega)]; exact ⟨rfl, rfl⟩
  · omega

set_option maxHeartbeats 1000000 in
theorem box_takeKey (r : Nat) (s : ByteArray) (w : World) (h : Rt r s w) (hs : s.size ≤ maxLen) :
    Calls Try.prog 62 #[.pointer (some ⟨r, 0, none⟩)] w fun e w' => e = .returned (.tuple #[.agg (kcs (tk32 s.data.toList)).toArray, .int .i64 (we s.data.toList 32)]) ∧ Rt r (s.extract (wk s.data.toList 32) s.size) w' ∧ Only (fun k => k = r) w w' := by
  obtain ⟨Z, hZ⟩ : ∃ Z, Z = (kcs zero32).toArray := ⟨_, rfl⟩
  obtain ⟨w1, hw1⟩ : ∃ w1, w1 = w.alloc (.cells Z 23) := ⟨_, rfl⟩
  obtain ⟨B, hB⟩ : ∃ B, B = w.heap.size := ⟨_, rfl⟩
  have H1 := Lib.hid (show Rt r s w1 by rw [hw1]; exact h.below ((Below.refl (r + 1) w).alloc h.lt _) (Nat.lt_succ_self r))
  have K1 := Lib.hid (show Only (fun k => k = r) w w1 by rw [hw1]; exact (Only.refl (fun k => k = r) w).alloc _)
  have N1 := Lib.hid (show w1.heap[B]? = some (.cells (kcs zero32).toArray 23 (0, 0)) by rw [hw1, hB, hZ]; exact heap_new w _)
  have HR := Lib.hid (show B ≠ r by have := h.lt; omega)
  have HBS := Lib.hid hB
  have HZ : Z = #[.int .u8 0, .int .u8 0, .int .u8 0, .int .u8 0, .int .u8 0, .int .u8 0, .int .u8 0, .int .u8 0, .int .u8 0, .int .u8 0, .int .u8 0, .int .u8 0, .int .u8 0, .int .u8 0, .int .u8 0, .int .u8 0, .int .u8 0, .int .u8 0, .int .u8 0, .int .u8 0, .int .u8 0, .int .u8 0, .int .u8 0, .int .u8 0, .int .u8 0, .int .u8 0, .int .u8 0, .int .u8 0, .int .u8 0, .int .u8 0, .int .u8 0, .int .u8 0] := by rw [hZ]; kernel_rfl
  have HZ' := Lib.hid HZ
  have HW := Lib.hid hw1
  have HB := Lib.hid hB
  clear h hZ hw1 hB HZ
  go_enter Try.func62, Try.ntmps62
  go_wp2_with fail
  rw [← HZ'.out, ← HB.out, ← HW.out]
  refine (six_ReadRaw r s 32 w1 H1.out hs (by omega) (by omega)).mono ?_
  rintro e w2 ⟨rfl, h2, k2⟩
  have H2 := Lib.hid h2
  have K2 := Lib.hid k2
  clear h2 k2
  have N2 := Lib.hid (show w2.heap[B]? = some (.cells (kcs zero32).toArray 23 (0, 0)) by rw [(K2.out).block B (heap_lt N1.out) HR.out]; exact N1.out)
  have hsl := slice_key B 0 w2
  by_cases h0 : we s.data.toList 32 = 0
  · obtain ⟨t1, t2⟩ := tk32_ok h0
    have T1 := Lib.hid t1
    have hcp := run_copy_string (P := Try.prog) w2 76 9 3 5 B 0 32 32 (bs (ws s.data.toList 32)) Try.underlying76 size_u8 (by rw [bs_size, t2]; exact Nat.le_refl _)
      (fun j hj => by rw [bs_size, t2] at hj; simp only [World.cell?, N2.out, Nat.zero_add]; simp [kcs_len, zero32_len, hj]) (fun j hj => by simp [World.frozen?, N2.out])
    rw [bs_size, bs_list, t2] at hcp
    obtain ⟨w3, hw3⟩ : ∃ w3, w3 = w2.setCells B 0 (kcs (ws s.data.toList 32)) := ⟨_, rfl⟩
    have N3 := Lib.hid (show w3.rangeAt B 0 (kcs (ws s.data.toList 32)) by
      rw [hw3]
      refine World.rangeAt_setCells_same w2 B 0 _ fun j hj => ?_
      rw [kcs_len, t2] at hj
      refine ⟨?_, by simp [World.frozen?, N2.out]⟩
      simp only [World.cell?, N2.out, Nat.zero_add]; simp [kcs_len, zero32_len, hj])
    have K3 := Lib.hid (show Only (fun k => k = r) w w3 by rw [hw3]; exact only_setCells (.inr (by rw [HBS.out]; exact Nat.le_refl _)) _ 0 w2 (K1.out.trans K2.out))
    have H3 := Lib.hid (show Rt r (s.extract (wk s.data.toList 32) s.size) w3 by
      rw [hw3]; exact H2.out.kept (S := fun k => k = B) (only_setCells (S := fun k => k = B) (.inl rfl) _ 0 w2 (Only.refl _ w2)) (fun e => HR.out e.symm))
    have W3 := Lib.hid hw3
    have H0 := Lib.hid h0
    have T2 := Lib.hid t2
    clear hw3 t1 t2 h0
    rw [show (List.map (fun x : UInt8 => Value.int IntKind.u8 (x.toNat : Int)) (ws s.data.toList 32)) = kcs (ws s.data.toList 32) from rfl, ← W3.out] at hcp
    go_wp2_with (with_reducible refine Lib.wpList_copy_run _ rfl (.tmp 10) (.tmp 11) 76 9 rfl (.slice (some ⟨B, 0, none⟩) 32 32) (.string (bs (ws s.data.toList 32))) rfl rfl hcp ?_)
    refine bodyPost_ret (v := .tuple #[.agg (kcs (ws s.data.toList 32)).toArray, .int .i64 (we s.data.toList 32)]) (results_cell_tmp rfl _ _ _ B 0 (kcs (ws s.data.toList 32)) _ (.int .i64 (we s.data.toList 32)) rfl rfl N3.out Try.underlying23 rfl (info_keyL T2.out)) rfl ⟨by rw [T1.out], H3.out, K3.out⟩
  · obtain ⟨t1, t2⟩ := tk32_no h0
    have hcp := run_copy_string (P := Try.prog) w2 76 9 3 5 B 0 32 32 (bs []) Try.underlying76 size_u8 (by decide) (fun j hj => absurd hj (by simp [bs_size])) (fun j hj => absurd hj (by simp [bs_size]))
    change _ = Result.ok (goInt 0) w2 at hcp
    have N3 := Lib.hid (show w2.rangeAt B 0 (kcs zero32) from fun j v hj => by simp only [World.cell?, N2.out, Nat.zero_add]; simpa using hj)
    have T1 := Lib.hid t1
    rw [t2]
    clear t1 h0 t2
    go_wp2_with (with_reducible refine Lib.wpList_copy_run _ rfl (.tmp 10) (.tmp 11) 76 9 rfl (.slice (some ⟨B, 0, none⟩) 32 32) (.string (bs [])) rfl rfl hcp ?_)
    refine bodyPost_ret (v := .tuple #[.agg (kcs zero32).toArray, .int .i64 (we s.data.toList 32)]) (results_cell_tmp rfl _ _ _ B 0 (kcs zero32) _ (.int .i64 (we s.data.toList 32)) rfl rfl N3.out Try.underlying23 rfl (info_keyL zero32_len)) rfl ⟨by rw [T1.out], H2.out, K1.out.trans K2.out⟩

def patE (l : List UInt8) : Int := if ce l ≠ 0 then ce l else if 1 < cn l then 3 else 0
set_option maxHeartbeats 1000000 in
theorem box_takePatch (r : Nat) (s : ByteArray) (w : World) (h : Rt r s w) (hs : s.size ≤ maxLen) :
    Calls Try.prog 63 #[.pointer (some ⟨r, 0, none⟩)] w fun e w' => e = .returned (.tuple #[.bool (decide (cn s.data.toList = 1)), .int .i64 (patE s.data.toList)]) ∧ Rt r (s.extract (ck s.data.toList) s.size) w' ∧ Only (fun k => k = r) w w' := by
  have H := Lib.hid h
  clear h
  by_cases h0 : ce s.data.toList = 0
  · have b0 : (ce s.data.toList == 0) = true := beq_iff_eq.2 h0
    have H0 := Lib.hid h0
    by_cases h1 : 1 < cn s.data.toList
    · have hE := Lib.hid (show patE s.data.toList = 3 by unfold patE; rw [if_neg (by omega), if_pos h1])
      clear h0
      go_enter Try.func63, Try.ntmps63
      go_wp2_with fail
      refine (six_ReadCount r s w H.out hs).mono ?_
      rintro e w1 ⟨rfl, h2, k2⟩
      go_wp2
      go_ret2
      exact ⟨by rw [hE.out]; rfl, h2, k2⟩
    · have hE := Lib.hid (show patE s.data.toList = ce s.data.toList by unfold patE; rw [if_neg (by omega), if_neg h1, H0.out])
      clear h0
      go_enter Try.func63, Try.ntmps63
      go_wp2_with fail
      refine (six_ReadCount r s w H.out hs).mono ?_
      rintro e w1 ⟨rfl, h2, k2⟩
      go_wp2
      go_ret2
      exact ⟨by rw [hE.out]; rfl, h2, k2⟩
  · have b0 : (ce s.data.toList == 0) = false := beq_eq_false_iff_ne.2 h0
    have hE := Lib.hid (show patE s.data.toList = ce s.data.toList by unfold patE; rw [if_pos h0])
    clear h0
    go_enter Try.func63, Try.ntmps63
    go_wp2_with fail
    refine (six_ReadCount r s w H.out hs).mono ?_
    rintro e w1 ⟨rfl, h2, k2⟩
    go_wp2
    go_ret2
    exact ⟨by rw [hE.out]; rfl, h2, k2⟩

def bodE (l : List UInt8) : Int := if te l ≠ 0 then te l else if 8192 < (ts l).length then 6 else 0
set_option maxHeartbeats 1000000 in
theorem box_takeBody (r : Nat) (s : ByteArray) (w : World) (h : Rt r s w) (hs : s.size ≤ maxLen) :
    Calls Try.prog 64 #[.pointer (some ⟨r, 0, none⟩)] w fun e w' => e = .returned (.tuple #[.string (bs (ts s.data.toList)), .int .i64 (bodE s.data.toList)]) ∧ Rt r (s.extract (tk s.data.toList) s.size) w' ∧ Only (fun k => k = r) w w' := by
  have H := Lib.hid h
  clear h
  have hsz := bs_size (ts s.data.toList)
  by_cases h0 : te s.data.toList = 0
  · have b0 : (te s.data.toList == 0) = true := beq_iff_eq.2 h0
    have H0 := Lib.hid h0
    by_cases h1 : 8192 < (ts s.data.toList).length
    · have hE := Lib.hid (show bodE s.data.toList = 6 by unfold bodE; rw [if_neg (by omega), if_pos h1])
      have h1' : (8192 : Int) < ((bs (ts s.data.toList)).size : Int) := by rw [hsz]; omega
      clear h0 h1 hsz
      go_enter Try.func64, Try.ntmps64
      go_wp2_with fail
      refine (six_ReadText r s w H.out hs).mono ?_
      rintro e w1 ⟨rfl, h2, k2⟩
      go_wp2
      go_ret2
      exact ⟨by rw [hE.out]; rfl, h2, k2⟩
    · have hE := Lib.hid (show bodE s.data.toList = te s.data.toList by unfold bodE; rw [if_neg (by omega), if_neg h1, H0.out])
      have h1' : ¬ (8192 : Int) < ((bs (ts s.data.toList)).size : Int) := by rw [hsz]; omega
      clear h0 h1 hsz
      go_enter Try.func64, Try.ntmps64
      go_wp2_with fail
      refine (six_ReadText r s w H.out hs).mono ?_
      rintro e w1 ⟨rfl, h2, k2⟩
      go_wp2
      go_ret2
      exact ⟨by rw [hE.out]; rfl, h2, k2⟩
  · have b0 : (te s.data.toList == 0) = false := beq_eq_false_iff_ne.2 h0
    have hE := Lib.hid (show bodE s.data.toList = te s.data.toList by unfold bodE; rw [if_pos h0])
    clear h0 hsz
    go_enter Try.func64, Try.ntmps64
    go_wp2_with fail
    refine (six_ReadText r s w H.out hs).mono ?_
    rintro e w1 ⟨rfl, h2, k2⟩
    go_wp2
    go_ret2
    exact ⟨by rw [hE.out]; rfl, h2, k2⟩
end Go.Proofs.Ytlpknhiagdhkcaa
/- The program goes over a record. -/
set_option linter.unusedVariables false
set_option maxRecDepth 100000
namespace Go.Proofs.Ytlpknhiagdhkcaa
open Go.RowKit

theorem zeroA_eq : recA RecB.zero = Try.zeroCells30 := by kernel_rfl
theorem we32 (l : List UInt8) : we l 32 = if l.length < 32 then 2 else 0 := by
  unfold we
  rw [if_neg (by omega)]
  by_cases h : l.length < 32
  · rw [if_pos (by omega), if_pos h]
  · rw [if_neg (by omega), if_neg h]
theorem wk32 {l : List UInt8} (h : 32 ≤ l.length) : wk l 32 = 32 := by
  unfold wk; rw [if_neg (by omega)]; rfl
theorem info_recL {r : RecB} (h : r.Ok) : (Try.prog.info? 30).map (·.size) = some (recC r).length := by rw [recC_len h]; exact info_rec

/-- What going over a record leaves. -/
def TakePost (r : Nat) (s : ByteArray) (w : World) (e : Ending) (w' : World) : Prop :=
  ∃ q : RecB, q.Ok ∧ e = .returned (.tuple #[.agg (recA q), .int .i64 (rdE s.data.toList)]) ∧ (rdE s.data.toList = 0 → q = rdR s.data.toList ∧ Rt r (s.extract (rdK s.data.toList) s.size) w') ∧ (∃ t, Rt r t w') ∧ Only (fun k => k = r) w w'

theorem store_keep {B r : Nat} {s : ByteArray} {w w2 : World} {S : Nat → Prop} (hS : S = fun k => k = r) (hB : B ≠ r) (hBw : w.heap.size ≤ B) (h : Rt r s w2) (k : Only S w w2) (vs : List Value) (o : Nat) : Rt r s (w2.setCells B o vs) ∧ Only S w (w2.setCells B o vs) := by
  subst hS
  exact ⟨h.kept (S := fun k => k = B) (only_setCells (S := fun k => k = B) (.inl rfl) vs o w2 (Only.refl _ w2)) (fun e => hB e.symm), only_setCells (.inr hBw) vs o w2 k⟩

theorem ext_list (s : ByteArray) (k : Nat) : (s.extract k s.size).data.toList = s.data.toList.drop k := extract_rest s k
theorem ext_le (s : ByteArray) (k : Nat) : (s.extract k s.size).size ≤ s.size := by rw [extract_size]; omega
theorem rdE_short {l : List UInt8} (h : l.length < 32) : rdE l = 2 := by unfold rdE; rw [if_pos h]
theorem rdE_pat {l : List UInt8} (h : 32 ≤ l.length) (h2 : patE (cAt l) ≠ 0) : rdE l = patE (cAt l) := by
  unfold rdE; rw [if_neg (by omega)]
  unfold patE at h2 ⊢
  by_cases hc : ce (cAt l) ≠ 0
  · rw [if_pos hc, if_pos hc]
  · rw [if_neg hc] at h2; rw [if_neg hc, if_neg hc]
    by_cases h3 : 1 < cn (cAt l)
    · rw [if_pos h3, if_pos h3]
    · rw [if_neg h3] at h2; exact absurd rfl h2
theorem pat_ok {l : List UInt8} (h : patE l = 0) : ce l = 0 ∧ cn l ≤ 1 := by
  unfold patE at h
  split at h
  · omega
  · split at h
    · omega
    · exact ⟨by omega, by omega⟩
theorem rdE_base {l : List UInt8} (h : 32 ≤ l.length) (h2 : patE (cAt l) = 0) (h3 : cn (cAt l) = 1) (h4 : (bAt l).length < 32) : rdE l = 2 := by
  obtain ⟨a1, a2⟩ := pat_ok h2
  unfold rdE; rw [if_neg (by omega), if_neg (by omega), if_neg (by omega), if_pos ⟨h3, h4⟩]
theorem rdE_body {l : List UInt8} (h : 32 ≤ l.length) (h2 : patE (cAt l) = 0) (h4 : cn (cAt l) = 1 → 32 ≤ (bAt l).length) : rdE l = bodE (tAt l) := by
  obtain ⟨a1, a2⟩ := pat_ok h2
  unfold rdE bodE; rw [if_neg (by omega), if_neg (by omega), if_neg (by omega), if_neg (fun x => by have := h4 x.1; omega)]
theorem rdR_is {l : List UInt8} (h : rdE l = 0) : rdR l = rdV l ∧ rdK l = rdN l := ⟨by unfold rdR; rw [if_pos h], by unfold rdK; rw [if_pos h]⟩

theorem rdV_whole {l : List UInt8} (h : 32 ≤ l.length) (hc : ¬ cn (cAt l) = 1) : RecB.mk (tk32 l) zero32 false (ts (tAt l)) = rdV l := by
  unfold rdV tk32; rw [if_neg (by omega), if_neg hc, decide_eq_false hc]
theorem rdV_patch {l m : List UInt8} (h : 32 ≤ l.length) (hc : cn (cAt l) = 1) (hm : m = bAt l) (h2 : 32 ≤ m.length) : RecB.mk (tk32 l) (tk32 m) true (ts (tAt l)) = rdV l := by
  subst hm
  unfold rdV tk32; rw [if_neg (by omega), if_neg (by omega), if_pos hc, decide_eq_true hc]
theorem drop_rdN (l : List UInt8) : l.drop (rdN l) = (tAt l).drop (tk (tAt l)) := by
  unfold rdN
  by_cases hc : cn (cAt l) = 1
  · rw [if_pos hc]
    have e : tAt l = (bAt l).drop 32 := by unfold tAt; rw [if_pos hc]
    rw [← List.drop_drop, ← List.drop_drop, ← List.drop_drop, e]; rfl
  · rw [if_neg hc]
    have e : tAt l = bAt l := by unfold tAt; rw [if_neg hc]
    rw [Nat.add_zero, ← List.drop_drop, ← List.drop_drop, e]; rfl
theorem ext_same {s t : ByteArray} {a b : Nat} (h : s.data.toList.drop a = t.data.toList.drop b) : s.extract a s.size = t.extract b t.size := by
  rw [bs_eq (ext_list s a), bs_eq (ext_list t b), h]
theorem rest_rdN {s t : ByteArray} (h : t.data.toList = tAt s.data.toList) : s.extract (rdN s.data.toList) s.size = t.extract (tk t.data.toList) t.size :=
  ext_same (by rw [drop_rdN, h])

set_option maxHeartbeats 8000000 in
theorem box_take (r : Nat) (s : ByteArray) (w : World) (h : Rt r s w) (hs : s.size ≤ maxLen) :
    Calls Try.prog 43 #[.pointer (some ⟨r, 0, none⟩)] w (TakePost r s w) := by
  obtain ⟨Z, hZ⟩ : ∃ Z, Z = recA RecB.zero := ⟨_, rfl⟩
  obtain ⟨w1, hw1⟩ : ∃ w1, w1 = w.alloc (.cells Z 30) := ⟨_, rfl⟩
  obtain ⟨B, hB⟩ : ∃ B, B = w.heap.size := ⟨_, rfl⟩
  have HLEN := Lib.hid (show s.data.toList.length = s.size by rw [← Lib.size_eq])
  have H1 := Lib.hid (show Rt r s w1 by rw [hw1]; exact h.below ((Below.refl (r + 1) w).alloc h.lt _) (Nat.lt_succ_self r))
  have K1 := Lib.hid (show Only (fun k => k = r) w w1 by rw [hw1]; exact (Only.refl (fun k => k = r) w).alloc _)
  have N1 := Lib.hid (show RecIn B 30 RecB.zero w1 by rw [hw1, hB, hZ]; exact RecIn.new w _ _)
  have HR := Lib.hid (show B ≠ r by have := h.lt; omega)
  have HBS := Lib.hid (show w.heap.size ≤ B by omega)
  have HZ := Lib.hid (hZ.trans zeroA_eq)
  have HW := Lib.hid hw1
  have HB := Lib.hid hB
  clear h hZ hw1 hB
  go_enter Try.func43, Try.ntmps43
  go_wp2_with fail
  rw [← HZ.out, ← HB.out, ← HW.out]
  refine (box_takeKey r s w1 H1.out hs).mono ?_
  rintro e w2 ⟨rfl, h2, k2⟩
  have N2 := Lib.hid (N1.out.kept k2 HR.out)
  have K2 := Lib.hid (K1.out.trans k2)
  have H2 := Lib.hid h2
  clear h2 k2
  have hE1 := we32 s.data.toList
  have hKL := tk32_len s.data.toList
  obtain ⟨k, hk⟩ : ∃ k, k = tk32 s.data.toList := ⟨_, rfl⟩
  obtain ⟨s1, hs1⟩ : ∃ s1, s1 = s.extract (wk s.data.toList 32) s.size := ⟨_, rfl⟩
  obtain ⟨e1, he1⟩ : ∃ e1, e1 = we s.data.toList 32 := ⟨_, rfl⟩
  rw [← hk] at hKL ⊢
  rw [← hs1] at H2
  rw [← he1] at hE1 ⊢
  obtain ⟨w3, hw3⟩ : ∃ w3, w3 = w2.setCells B 0 (kcs k) := ⟨_, rfl⟩
  have OK1 := Lib.hid (show RecB.Ok { RecB.zero with key := k } from ⟨hKL, zero32_len⟩)
  have N3 := Lib.hid (show RecIn B 30 { RecB.zero with key := k } w3 by rw [hw3]; exact N2.out.setKey RecB.zero_ok hKL)
  obtain ⟨x1, x2⟩ := store_keep rfl HR.out HBS.out H2.out K2.out (kcs k) 0
  rw [← hw3] at x1 x2
  have H3 := Lib.hid x1
  have K3 := Lib.hid x2
  have T2 := Lib.hid (N2.out.there RecB.zero_ok 0 (kcs k).toArray.size (by simp [kcs_len, hKL]))
  have I2 := Lib.hid (info_keyA hKL)
  have HK := Lib.hid hk
  have HS1 := Lib.hid hs1
  have HE1 := Lib.hid hE1
  have HX1 := Lib.hid he1
  have HW3 := Lib.hid hw3
  clear x1 x2 hKL hk hs1 hE1 he1 hw3
  by_cases h1 : e1 = 0
  · have b1 : (e1 != 0) = false := by simp [h1]
    have HL := Lib.hid (show 32 ≤ s.data.toList.length by have := HE1.out; split at this <;> omega)
    have HL1 := Lib.hid (show s1.data.toList = cAt s.data.toList by rw [HS1.out, wk32 HL.out, ext_list]; rfl)
    have HSZ1 := Lib.hid (show s1.size ≤ s.size by rw [HS1.out]; exact ext_le s _)
    have Z1 := Lib.hid h1
    clear h1
    go_wp2_with (first | (with_reducible refine wpList_store_mid rfl 23 (.tmp 9) (.tmp 7) rfl B 0 (kcs k).toArray rfl rfl T2.out I2.out (kcs_arr_one k) ?_; rw [List.toList_toArray, ← HW3.out]) | fail)
    refine (box_takePatch r s1 w3 H3.out (Nat.le_trans HSZ1.out hs)).mono ?_
    rintro e w4 ⟨rfl, h4, k4⟩
    have N4 := Lib.hid (N3.out.kept k4 HR.out)
    have K4 := Lib.hid (K3.out.trans k4)
    have H4 := Lib.hid h4
    clear h4 k4
    obtain ⟨s2, hs2⟩ : ∃ s2, s2 = s1.extract (ck s1.data.toList) s1.size := ⟨_, rfl⟩
    obtain ⟨e2, he2⟩ : ∃ e2, e2 = patE s1.data.toList := ⟨_, rfl⟩
    obtain ⟨p, hp⟩ : ∃ p, p = decide (cn s1.data.toList = 1) := ⟨_, rfl⟩
    rw [← hs2] at H4
    rw [← he2, ← hp]
    have HSZ2 := Lib.hid (show s2.size ≤ s.size by rw [hs2]; exact Nat.le_trans (ext_le s1 _) HSZ1.out)
    have HL2 := Lib.hid (show s2.data.toList = bAt s.data.toList by rw [hs2, ext_list, HL1.out]; rfl)
    have HS2 := Lib.hid hs2
    have HE2 := Lib.hid (show e2 = patE (cAt s.data.toList) by rw [he2, HL1.out])
    have HPP := Lib.hid (show p = decide (cn (cAt s.data.toList) = 1) by rw [hp, HL1.out])
    obtain ⟨w5, hw5⟩ : ∃ w5, w5 = w4.setCell ⟨B, 64, none⟩ (.bool p) := ⟨_, rfl⟩
    have OK5 := Lib.hid (show RecB.Ok (RecB.mk k zero32 p []) from ⟨OK1.out.key, zero32_len⟩)
    have N5 := Lib.hid (show RecIn B 30 (RecB.mk k zero32 p []) w5 by rw [hw5]; exact N4.out.setPatch OK1.out p)
    obtain ⟨y1, y2⟩ := store_keep rfl HR.out HBS.out H4.out K4.out [.bool p] 64
    rw [show w4.setCells B 64 [.bool p] = w4.setCell ⟨B, 64, none⟩ (.bool p) from rfl, ← hw5] at y1 y2
    have H5 := Lib.hid y1
    have K5 := Lib.hid y2
    have c4 := N4.out.patch OK1.out
    have f4 := N4.out.free 64
    have c5 := N5.out.patch OK5.out
    have HW5 := Lib.hid hw5
    clear y1 y2 hw5 hs2 he2 hp
    rw [HW5.out] at c5
    by_cases h2 : e2 = 0
    · have b2 : (e2 != 0) = false := by simp [h2]
      have HP := Lib.hid (show patE (cAt s.data.toList) = 0 by rw [← HE2.out, h2])
      clear h2
      cases p
      · have HC := Lib.hid (show ¬ cn (cAt s.data.toList) = 1 by have := HPP.out; simpa using this.symm)
        have HS3 := Lib.hid (show s2.data.toList = tAt s.data.toList by rw [HL2.out]; unfold tAt; rw [if_neg HC.out])
        have HSZ := HSZ2
        go_wp2_with fail
        rw [← HW5.out]
        refine (box_takeBody r s2 w5 H5.out (Nat.le_trans HSZ.out hs)).mono ?_
        rintro e w8 ⟨rfl, h8, k8⟩
        have N8 := Lib.hid (N5.out.kept k8 HR.out)
        have K8 := Lib.hid (K5.out.trans k8)
        have H8 := Lib.hid h8
        clear h8 k8
        obtain ⟨u, hu⟩ : ∃ u, u = ts s2.data.toList := ⟨_, rfl⟩
        obtain ⟨e4, he4⟩ : ∃ e4, e4 = bodE s2.data.toList := ⟨_, rfl⟩
        rw [← hu, ← he4]
        obtain ⟨w9, hw9⟩ : ∃ w9, w9 = w8.setCell ⟨B, 65, none⟩ (.string (bs u)) := ⟨_, rfl⟩
        have OK9 := Lib.hid (show RecB.Ok (RecB.mk k zero32 false u) from ⟨OK5.out.key, OK5.out.base⟩)
        have N9 := Lib.hid (show RecIn B 30 (RecB.mk k zero32 false u) w9 by rw [hw9]; exact N8.out.setBody OK5.out u)
        obtain ⟨y1, y2⟩ := store_keep rfl HR.out HBS.out H8.out K8.out [.string (bs u)] 65
        rw [show w8.setCells B 65 [.string (bs u)] = w8.setCell ⟨B, 65, none⟩ (.string (bs u)) from rfl, ← hw9] at y1 y2
        have H9 := Lib.hid y1
        have K9 := Lib.hid y2
        have c9 := N8.out.body OK5.out
        have f9 := N8.out.free 65
        have HW9 := Lib.hid hw9
        have HU := Lib.hid hu
        have HE4 := Lib.hid he4
        clear y1 y2 hw9 hu he4
        go_wp2
        rw [← HW9.out]
        have hRE : rdE s.data.toList = e4 := by rw [HE4.out, HS3.out]; exact rdE_body HL.out HP.out (fun x => absurd x HC.out)
        refine bodyPost_ret (v := .tuple #[.agg (recA (RecB.mk k zero32 false u)), .int .i64 e4]) (results_cell_tmp rfl _ _ _ B 0 (recC (RecB.mk k zero32 false u)) _ (.int .i64 e4) rfl rfl N9.out.range Try.underlying30 rfl (info_recL OK9.out)) rfl ⟨_, OK9.out, by rw [hRE], fun h0 => ?_, ⟨_, H9.out⟩, K9.out⟩
        obtain ⟨z1, z2⟩ := rdR_is h0
        rw [z1, z2]
        refine ⟨?_, ?_⟩
        · rw [HU.out, HS3.out, HK.out]; exact rdV_whole HL.out HC.out
        · rw [rest_rdN HS3.out]; exact H9.out
      · have HC := Lib.hid (show cn (cAt s.data.toList) = 1 by have := HPP.out; simpa using this.symm)
        go_wp2_with fail
        rw [← HW5.out]
        refine (box_takeKey r s2 w5 H5.out (Nat.le_trans HSZ2.out hs)).mono ?_
        rintro e w6 ⟨rfl, h6, k6⟩
        have N6 := Lib.hid (N5.out.kept k6 HR.out)
        have K6 := Lib.hid (K5.out.trans k6)
        have H6 := Lib.hid h6
        clear h6 k6
        have hKL := tk32_len s2.data.toList
        have hE3 := we32 s2.data.toList
        obtain ⟨g, hg⟩ : ∃ g, g = tk32 s2.data.toList := ⟨_, rfl⟩
        obtain ⟨s3, hs3⟩ : ∃ s3, s3 = s2.extract (wk s2.data.toList 32) s2.size := ⟨_, rfl⟩
        obtain ⟨e3, he3⟩ : ∃ e3, e3 = we s2.data.toList 32 := ⟨_, rfl⟩
        rw [← hg] at hKL ⊢
        rw [← hs3] at H6
        rw [← he3] at hE3 ⊢
        obtain ⟨w7, hw7⟩ : ∃ w7, w7 = w6.setCells B 32 (kcs g) := ⟨_, rfl⟩
        have OK7 := Lib.hid (show RecB.Ok (RecB.mk k g true []) from ⟨OK1.out.key, hKL⟩)
        have N7 := Lib.hid (show RecIn B 30 (RecB.mk k g true []) w7 by rw [hw7]; exact N6.out.setBase OK5.out hKL)
        obtain ⟨y1, y2⟩ := store_keep rfl HR.out HBS.out H6.out K6.out (kcs g) 32
        rw [← hw7] at y1 y2
        have H7 := Lib.hid y1
        have K7 := Lib.hid y2
        have T6 := Lib.hid (N6.out.there OK5.out 32 (kcs g).toArray.size (by simp [kcs_len, hKL]))
        have I6 := Lib.hid (info_keyA hKL)
        have HG := Lib.hid hg
        have HS3' := Lib.hid hs3
        have HE3 := Lib.hid hE3
        have HW7 := Lib.hid hw7
        clear y1 y2 hKL hg hs3 hE3 he3 hw7
        by_cases h3 : e3 = 0
        · have b3 : (e3 != 0) = false := by simp [h3]
          have HL3 := Lib.hid (show 32 ≤ s2.data.toList.length by have := HE3.out; split at this <;> omega)
          have HS3 := Lib.hid (show s3.data.toList = tAt s.data.toList by rw [HS3'.out, wk32 HL3.out, ext_list, HL2.out]; unfold tAt; rw [if_pos HC.out])
          have HSZ := Lib.hid (show s3.size ≤ s.size by rw [HS3'.out]; exact Nat.le_trans (ext_le s2 _) HSZ2.out)
          clear h3
          go_wp2_with (first | (with_reducible refine wpList_store_mid rfl 23 (.tmp 27) (.tmp 25) rfl B 32 (kcs g).toArray rfl rfl T6.out I6.out (kcs_arr_one g) ?_; rw [List.toList_toArray, ← HW7.out]) | fail)
          refine (box_takeBody r s3 w7 H7.out (Nat.le_trans HSZ.out hs)).mono ?_
          rintro e w8 ⟨rfl, h8, k8⟩
          have N8 := Lib.hid (N7.out.kept k8 HR.out)
          have K8 := Lib.hid (K7.out.trans k8)
          have H8 := Lib.hid h8
          clear h8 k8
          obtain ⟨u, hu⟩ : ∃ u, u = ts s3.data.toList := ⟨_, rfl⟩
          obtain ⟨e4, he4⟩ : ∃ e4, e4 = bodE s3.data.toList := ⟨_, rfl⟩
          rw [← hu, ← he4]
          obtain ⟨w9, hw9⟩ : ∃ w9, w9 = w8.setCell ⟨B, 65, none⟩ (.string (bs u)) := ⟨_, rfl⟩
          have OK9 := Lib.hid (show RecB.Ok (RecB.mk k g true u) from ⟨OK7.out.key, OK7.out.base⟩)
          have N9 := Lib.hid (show RecIn B 30 (RecB.mk k g true u) w9 by rw [hw9]; exact N8.out.setBody OK7.out u)
          obtain ⟨y1, y2⟩ := store_keep rfl HR.out HBS.out H8.out K8.out [.string (bs u)] 65
          rw [show w8.setCells B 65 [.string (bs u)] = w8.setCell ⟨B, 65, none⟩ (.string (bs u)) from rfl, ← hw9] at y1 y2
          have H9 := Lib.hid y1
          have K9 := Lib.hid y2
          have c9 := N8.out.body OK7.out
          have f9 := N8.out.free 65
          have HW9 := Lib.hid hw9
          have HU := Lib.hid hu
          have HE4 := Lib.hid he4
          clear y1 y2 hw9 hu he4
          go_wp2
          rw [← HW9.out]
          have hRE : rdE s.data.toList = e4 := by rw [HE4.out, HS3.out]; exact rdE_body HL.out HP.out (fun x => by rw [← HL2.out]; exact HL3.out)
          refine bodyPost_ret (v := .tuple #[.agg (recA (RecB.mk k g true u)), .int .i64 e4]) (results_cell_tmp rfl _ _ _ B 0 (recC (RecB.mk k g true u)) _ (.int .i64 e4) rfl rfl N9.out.range Try.underlying30 rfl (info_recL OK9.out)) rfl ⟨_, OK9.out, by rw [hRE], fun h0 => ?_, ⟨_, H9.out⟩, K9.out⟩
          obtain ⟨z1, z2⟩ := rdR_is h0
          rw [z1, z2]
          refine ⟨?_, ?_⟩
          · rw [HU.out, HS3.out, HK.out, HG.out]; exact rdV_patch HL.out HC.out HL2.out HL3.out
          · rw [rest_rdN HS3.out]; exact H9.out
        · have b3 : (e3 != 0) = true := by simp [h3]
          have Z3 := Lib.hid h3
          have HL3 := Lib.hid (show s2.data.toList.length < 32 ∧ e3 = 2 by have := HE3.out; split at this <;> omega)
          clear h3
          go_wp2_with (first | (with_reducible refine wpList_store_mid rfl 23 (.tmp 27) (.tmp 25) rfl B 32 (kcs g).toArray rfl rfl T6.out I6.out (kcs_arr_one g) ?_; rw [List.toList_toArray, ← HW7.out]) | fail)
          have hRE : rdE s.data.toList = e3 := by rw [HL3.out.2]; exact rdE_base HL.out HP.out HC.out (by rw [← HL2.out]; exact HL3.out.1)
          refine bodyPost_ret (v := .tuple #[.agg (recA (RecB.mk k g true [])), .int .i64 e3]) (results_cell_tmp rfl _ _ _ B 0 (recC (RecB.mk k g true [])) _ (.int .i64 e3) rfl rfl N7.out.range Try.underlying30 rfl (info_recL OK7.out)) rfl ⟨(RecB.mk k g true []), OK7.out, by rw [hRE], fun h0 => absurd (hRE.symm.trans h0) Z3.out, ⟨_, H7.out⟩, K7.out⟩
    · have b2 : (e2 != 0) = true := by simp [h2]
      have Z2 := Lib.hid h2
      clear h2
      go_wp2
      rw [← HW5.out]
      have hRE : rdE s.data.toList = e2 := by rw [HE2.out]; exact rdE_pat HL.out (by rw [← HE2.out]; exact Z2.out)
      refine bodyPost_ret (v := .tuple #[.agg (recA (RecB.mk k zero32 p [])), .int .i64 e2]) (results_cell_tmp rfl _ _ _ B 0 (recC (RecB.mk k zero32 p [])) _ (.int .i64 e2) rfl rfl N5.out.range Try.underlying30 rfl (info_recL OK5.out)) rfl ⟨(RecB.mk k zero32 p []), OK5.out, by rw [hRE], fun h0 => absurd (hRE.symm.trans h0) Z2.out, ⟨_, H5.out⟩, K5.out⟩
  · have b1 : (e1 != 0) = true := by simp [h1]
    have Z1 := Lib.hid h1
    have HL := Lib.hid (show s.data.toList.length < 32 ∧ e1 = 2 by have := HE1.out; split at this <;> omega)
    clear h1
    go_wp2_with (first | (with_reducible refine wpList_store_mid rfl 23 (.tmp 9) (.tmp 7) rfl B 0 (kcs k).toArray rfl rfl T2.out I2.out (kcs_arr_one k) ?_; rw [List.toList_toArray, ← HW3.out]) | fail)
    have hRE : rdE s.data.toList = e1 := by rw [HL.out.2]; exact rdE_short HL.out.1
    refine bodyPost_ret (v := .tuple #[.agg (recA { RecB.zero with key := k }), .int .i64 e1]) (results_cell_tmp rfl _ _ _ B 0 (recC { RecB.zero with key := k }) _ (.int .i64 e1) rfl rfl N3.out.range Try.underlying30 rfl (info_recL OK1.out)) rfl ⟨{ RecB.zero with key := k }, OK1.out, by rw [hRE], fun h0 => absurd (hRE.symm.trans h0) Z1.out, ⟨_, H3.out⟩, K3.out⟩
end Go.Proofs.Ytlpknhiagdhkcaa
