/- The document's own answers: what siloref01's functions hand back. -/
import Derived.Test.YtkelcmncjhnbgaaOnly
import Derived.Test.YtkelcmncjhnbgaaSixPlain
import Derived.WalkKit
import Derived.WalkSpells
import Derived.WalkLawsBesides
import Derived.Lib.Hide
import Derived.Lib.Strings
import Derived.OwnWalk
import Derived.Deep.Cut
import Derived.Outline
set_option linter.unusedVariables false
set_option maxRecDepth 100000
namespace Go.Proofs.Ytkelcmncjhnbgaa
open Go.RowKit

theorem ret3 {j k m : IntKind} {a b c a' b' c' : Int} (h1 : a' = a) (h2 : b' = b) (h3 : c' = c) : Ending.returned (.tuple #[.int j a, .int k b, .int m c]) = Ending.returned (.tuple #[.int j a', .int k b', .int m c']) := by rw [h1, h2, h3]

set_option maxHeartbeats 400000 in
theorem ref_ReadWhole (s : ByteArray) (w : World) (hs : s.size ≤ maxLen) :
    Calls Try.prog 73 #[.string s] w fun e w' => e = .returned (.tuple #[.int .i64 (rn s.data.toList), .int .i64 (rk s.data.toList), .int .i64 (re s.data.toList)]) ∧ w = w' := by
  unfold maxLen at hs
  go_enter Try.func73, Try.ntmps73
  go_wp2_with fail
  go_loop [5, 6] (fun x i => ∃ k y : Nat, k ≤ s.size ∧ y ≤ 9223372036854775807 ∧ i = .int .i64 k ∧ x = .int .u64 y ∧ At s.data.toList k y) (fun _ i => s.size - (intOf i).toNat)
  case atStart => exact ⟨0, 0, Nat.zero_le _, by omega, rfl, rfl, at_zero _⟩
  case round =>
    obtain ⟨k, y, hk, hy, rfl, rfl, HR⟩ := hrel
    by_cases hlt : k < s.size
    · have HD := Lib.hid (drop_at s k hlt)
      obtain ⟨hc0, hc1⟩ := byte_le s k hlt
      go_upto_region 6 with (fail)
      generalize s[k] = b at *
      by_cases h1 : 192 ≤ ((b.toNat : Nat) : Int)
      · go_wp2
        go_ret3
        obtain ⟨e1, e2, e3⟩ := at_bad HR HD.out (by omega)
        exact ⟨ret3 e1 (by rw [e2]; rfl) e3, rfl⟩
      · by_cases h0 : b = 0
        · subst h0
          clear hc0 hc1 h1
          by_cases hk0 : k = 0
          · have hkb : (((k : Nat) : Int) == 0) = true := beq_iff_eq.2 (by omega)
            have HK := Lib.hid hk0
            clear hk0
            go_wp2
            go_ret3
            obtain ⟨e1, e2, e3⟩ := at_bad HR HD.out (.inr (.inl ⟨rfl, HK.out⟩))
            exact ⟨ret3 e1 (by rw [e2]; rfl) e3, rfl⟩
          · have hkb : (((k : Nat) : Int) == 0) = false := beq_eq_false_iff_ne.2 (by omega)
            have HK := Lib.hid hk0
            clear hk0
            by_cases h2 : 144115188075855871 < (y : Int)
            · go_wp2
              go_ret3
              obtain ⟨e1, e2, e3⟩ := at_bad HR HD.out (by omega)
              exact ⟨ret3 e1 (by rw [e2]; rfl) e3, rfl⟩
            · go_wp2
              go_round
              case rel => exact ⟨k + 1, _, by omega, by omega, by go_num, by go_num, at_next HR HD.out (by have := HK.out; have : (0 : UInt8).toNat = 0 := rfl; omega) (by decide)⟩
              case measure => simp [intOf]; omega
        · have h0' : b.toNat ≠ 0 := fun h => h0 (UInt8.toNat_inj.1 (by simpa using h))
          have hb : (((b.toNat : Nat) : Int) == 0) = false := beq_eq_false_iff_ne.2 (by omega)
          have H0 := Lib.hid h0'
          clear h0 h0'
          by_cases h2 : 144115188075855871 < (y : Int)
          · go_wp2
            go_ret3
            obtain ⟨e1, e2, e3⟩ := at_bad HR HD.out (by omega)
            exact ⟨ret3 e1 (by rw [e2]; rfl) e3, rfl⟩
          · have hN : ¬ (192 ≤ b.toNat ∨ (b.toNat = 0 ∧ k = 0) ∨ 144115188075855871 < y) := by have := H0.out; omega
            have HN := Lib.hid hN
            clear hN
            by_cases h3 : 128 ≤ ((b.toNat : Nat) : Int)
            · go_wp2
              go_ret3
              obtain ⟨e1, e2, e3⟩ := at_low HR HD.out HN.out (by omega)
              exact ⟨ret3 (by rw [e1]; omega) (by rw [e2]; rfl) e3, rfl⟩
            · by_cases h4 : 64 ≤ ((b.toNat : Nat) : Int)
              · go_wp2
                go_ret3
                obtain ⟨e1, e2, e3⟩ := at_high HR HD.out HN.out (by omega) (by omega)
                exact ⟨ret3 (by rw [e1]; omega) (by rw [e2]; rfl) e3, rfl⟩
              · go_wp2
                go_round
                case rel => exact ⟨k + 1, _, by omega, by omega, by go_num, by go_num, at_next HR HD.out HN.out (by omega)⟩
                case measure => simp [intOf]; omega
    · go_wp2
      go_ret3
      obtain ⟨e1, e2, e3⟩ := at_end HR (by simp; omega)
      exact ⟨ret3 e1 (by rw [e2]; rfl) e3, rfl⟩

set_option maxHeartbeats 400000 in
theorem ref_ReadCount (s : ByteArray) (w : World) (hs : s.size ≤ maxLen) :
    Calls Try.prog 61 #[.string s] w fun e w' => e = .returned (.tuple #[.int .i64 (cn s.data.toList), .int .i64 (ck s.data.toList), .int .i64 (ce s.data.toList)]) ∧ w = w' := by
  have H := Lib.hid (rd_cases s.data.toList)
  by_cases h0 : re s.data.toList = 0
  · have hb : (re s.data.toList == 0) = true := beq_iff_eq.2 h0
    have H0 := Lib.hid h0
    clear h0
    by_cases h1 : rn s.data.toList < 0
    · go_enter Try.func61, Try.ntmps61
      go_wp2_with (go_at_call 73; refine (ref_ReadWhole _ _ hs).mono ?_; rintro e w' ⟨rfl, rfl⟩)
      go_ret3
      have h2 : re s.data.toList = 0 ∧ rn s.data.toList < 0 := ⟨H0.out, h1⟩
      exact ⟨ret3 (by unfold cn; rw [if_pos h2]) (by unfold ck; rw [if_pos h2]; rfl) (by unfold ce; rw [if_pos h2]), rfl⟩
    · go_enter Try.func61, Try.ntmps61
      go_wp2_with (go_at_call 73; refine (ref_ReadWhole _ _ hs).mono ?_; rintro e w' ⟨rfl, rfl⟩)
      go_ret3
      have h2 : ¬ (re s.data.toList = 0 ∧ rn s.data.toList < 0) := by omega
      exact ⟨ret3 (by unfold cn; rw [if_neg h2]) (by unfold ck; rw [if_neg h2]) (by unfold ce; rw [if_neg h2]), rfl⟩
  · have hb : (re s.data.toList == 0) = false := beq_eq_false_iff_ne.2 h0
    have H0 := Lib.hid h0
    clear h0
    go_enter Try.func61, Try.ntmps61
    go_wp2_with (go_at_call 73; refine (ref_ReadWhole _ _ hs).mono ?_; rintro e w' ⟨rfl, rfl⟩)
    go_ret3
    have h2 : ¬ (re s.data.toList = 0 ∧ rn s.data.toList < 0) := fun h => H0.out h.1
    exact ⟨ret3 (by unfold cn; rw [if_neg h2]) (by unfold ck; rw [if_neg h2]) (by unfold ce; rw [if_neg h2]), rfl⟩

theorem ret3s {k m : IntKind} {s s' : ByteArray} {b c b' c' : Int} (h1 : s' = s) (h2 : b' = b) (h3 : c' = c) : Ending.returned (.tuple #[.string s, .int k b, .int m c]) = Ending.returned (.tuple #[.string s', .int k b', .int m c']) := by rw [h1, h2, h3]

set_option maxHeartbeats 400000 in
theorem ref_ReadRaw (s : ByteArray) (n : Int) (w : World) (hs : s.size ≤ maxLen) (hn1 : -9223372036854775808 ≤ n) (hn2 : n ≤ 9223372036854775807) :
    Calls Try.prog 62 #[.string s, .int .i64 n] w fun e w' => e = .returned (.tuple #[.string (bs (ws s.data.toList n)), .int .i64 (wk s.data.toList n), .int .i64 (we s.data.toList n)]) ∧ w = w' := by
  unfold maxLen at hs
  have HL := Lib.hid (show s.data.toList.length = s.size by rw [← Lib.size_eq])
  by_cases h0 : n < 0
  · go_enter Try.func62, Try.ntmps62
    go_wp2
    go_ret3
    exact ⟨ret3s (by unfold ws; rw [if_pos (.inl h0)]; rfl) (by unfold wk; rw [if_pos (.inl h0)]; rfl) (by unfold we; rw [if_pos h0]), rfl⟩
  · obtain ⟨m, rfl⟩ : ∃ m : Nat, n = m := ⟨n.toNat, by omega⟩
    by_cases h1 : s.size < m
    · go_enter Try.func62, Try.ntmps62
      go_wp2
      go_ret3
      have h2 : (m : Int) < 0 ∨ (s.data.toList.length : Int) < m := .inr (by have := HL.out; omega)
      exact ⟨ret3s (by unfold ws; rw [if_pos h2]; rfl) (by unfold wk; rw [if_pos h2]; rfl) (by unfold we; rw [if_neg (by omega), if_pos (by have := HL.out; omega)]), rfl⟩
    · go_enter Try.func62, Try.ntmps62
      go_wp2
      go_ret3
      have h2 : ¬ ((m : Int) < 0 ∨ (s.data.toList.length : Int) < m) := by have := HL.out; omega
      refine ⟨ret3s ?_ (by unfold wk; rw [if_neg h2]; omega) (by unfold we; rw [if_neg (by omega), if_neg (by have := HL.out; omega)]), rfl⟩
      unfold ws; rw [if_neg h2]
      exact (bs_eq (by rw [Lib.extract_data]; simp)).symm

theorem extract_rest (s : ByteArray) (k : Nat) : (s.extract k s.size).data.toList = s.data.toList.drop k := by
  rw [Lib.extract_data, List.take_of_length_le]
  rw [List.length_drop, ← Lib.size_eq]; exact Nat.le_refl _
theorem extract_size (s : ByteArray) (k : Nat) : (s.extract k s.size).size = s.size - k := by
  rw [Lib.size_eq, extract_rest, List.length_drop, ← Lib.size_eq]

/-- ReadText behind its two callees' answers. -/
def Ret3 (a b c : Value) (w : World) (e : Ending) (w' : World) : Prop := e = .returned (.tuple #[a, b, c]) ∧ w = w'

set_option maxHeartbeats 400000 in
theorem ref_ReadText_ok (s t : ByteArray) (n : Int) (k m : Nat) (w : World) (hk : k ≤ s.size) (hs : s.size ≤ maxLen) (hm : k + m ≤ 9223372036854775807) (h1 : -9223372036854775808 ≤ n) (h2 : n ≤ 9223372036854775807)
    (h39 : Hid (∀ w, Calls Try.prog 61 #[.string s] w (Ret3 (.int .i64 n) (.int .i64 k) (.int .i64 0) w)))
    (h42 : Hid (∀ w, Calls Try.prog 62 #[.string (s.extract k s.size), .int .i64 n] w (Ret3 (.string t) (.int .i64 m) (.int .i64 0) w))) :
    Calls Try.prog 38 #[.string s] w (Ret3 (.string t) (.int .i64 (k + m : Nat)) (.int .i64 0) w) := by
  unfold maxLen at hs
  go_enter Try.func38, Try.ntmps38
  go_wp2_with (first | (go_at_call 61; refine (h39.out _).mono ?_; rintro e w' ⟨rfl, rfl⟩) | (go_at_call 62; refine (h42.out _).mono ?_; rintro e w' ⟨rfl, rfl⟩))
  go_ret3
  exact ⟨ret3s rfl (by omega) rfl, rfl⟩

set_option maxHeartbeats 400000 in
theorem ref_ReadText_no (s t : ByteArray) (n e : Int) (k m : Nat) (w : World) (hk : k ≤ s.size) (hs : s.size ≤ maxLen) (h1 : -9223372036854775808 ≤ n) (h2 : n ≤ 9223372036854775807) (he : (e == 0) = false)
    (h39 : Hid (∀ w, Calls Try.prog 61 #[.string s] w (Ret3 (.int .i64 n) (.int .i64 k) (.int .i64 0) w)))
    (h42 : Hid (∀ w, Calls Try.prog 62 #[.string (s.extract k s.size), .int .i64 n] w (Ret3 (.string t) (.int .i64 m) (.int .i64 e) w))) :
    Calls Try.prog 38 #[.string s] w (Ret3 (.string (bs [])) (.int .i64 (0 : Nat)) (.int .i64 e) w) := by
  unfold maxLen at hs
  go_enter Try.func38, Try.ntmps38
  go_wp2_with (first | (go_at_call 61; refine (h39.out _).mono ?_; rintro e w' ⟨rfl, rfl⟩) | (go_at_call 62; refine (h42.out _).mono ?_; rintro e w' ⟨rfl, rfl⟩))
  go_ret3
  exact ⟨rfl, rfl⟩

set_option maxHeartbeats 400000 in
theorem ref_ReadText_none (s : ByteArray) (n e : Int) (k : Nat) (w : World) (he : (e == 0) = false)
    (h39 : Hid (∀ w, Calls Try.prog 61 #[.string s] w (Ret3 (.int .i64 n) (.int .i64 k) (.int .i64 e) w))) :
    Calls Try.prog 38 #[.string s] w (Ret3 (.string (bs [])) (.int .i64 (0 : Nat)) (.int .i64 e) w) := by
  go_enter Try.func38, Try.ntmps38
  go_wp2_with (go_at_call 61; refine (h39.out _).mono ?_; rintro e w' ⟨rfl, rfl⟩)
  go_ret3
  exact ⟨rfl, rfl⟩

theorem ref_ReadText (s : ByteArray) (w : World) (hs : s.size ≤ maxLen) :
    Calls Try.prog 38 #[.string s] w fun e w' => e = .returned (.tuple #[.string (bs (ts s.data.toList)), .int .i64 (tk s.data.toList), .int .i64 (te s.data.toList)]) ∧ w = w' := by
  have HL : s.data.toList.length = s.size := by rw [← Lib.size_eq]
  have h39 := fun w => ref_ReadCount s w hs
  have hm : maxLen = 9223372036854775807 := rfl
  rcases cd_cases s.data.toList with ⟨c0, c1, c2, c3, c4, _, _, _⟩ | ⟨c0, _, _⟩
  · have HZ : (s.extract (ck s.data.toList) s.size).size ≤ maxLen := by rw [extract_size]; omega
    have h42 := fun w => ref_ReadRaw (s.extract (ck s.data.toList) s.size) (cn s.data.toList) w HZ (by omega) (by omega)
    rw [extract_rest] at h42
    have HW : te s.data.toList = we (s.data.toList.drop (ck s.data.toList)) (cn s.data.toList) := by unfold te; rw [if_neg (by rw [c0]; simp)]
    have HT : ts s.data.toList = ws (s.data.toList.drop (ck s.data.toList)) (cn s.data.toList) := by unfold ts; rw [if_neg (by rw [c0]; simp)]
    rw [← HW, ← HT] at h42
    rw [c0] at h39
    rcases td_cases s.data.toList with ⟨t0, t1, t2, t3, t4, t5, t6⟩ | ⟨t0, t1, t2⟩
    · rw [t0] at h42
      have hk : tk s.data.toList = ck s.data.toList + wk (s.data.toList.drop (ck s.data.toList)) (cn s.data.toList) := by unfold tk; rw [if_neg (by rw [t0]; simp)]
      rw [t0, hk]
      exact ref_ReadText_ok s _ _ _ _ w (by omega) hs (by omega) (by omega) (by omega) (Lib.hid h39) (Lib.hid h42)
    · rw [t1, t2]
      exact ref_ReadText_no s _ _ _ _ _ w (by omega) hs (by omega) (by omega) (beq_eq_false_iff_ne.2 (by omega)) (Lib.hid h39) (Lib.hid h42)
  · have e1 : te s.data.toList = ce s.data.toList := by unfold te; rw [if_pos (by omega)]
    have e2 : ts s.data.toList = [] := by unfold ts; rw [if_pos (by omega)]
    have e3 : tk s.data.toList = 0 := by unfold tk; rw [if_pos (by omega)]
    rw [e1, e2, e3]
    exact ref_ReadText_none s _ _ _ w (beq_eq_false_iff_ne.2 (by omega)) (Lib.hid h39)

end Go.Proofs.Ytkelcmncjhnbgaa
