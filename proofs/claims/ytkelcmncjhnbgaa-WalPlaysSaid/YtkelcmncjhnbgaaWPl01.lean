/- Texts put together: SixRefs, WalPlain, SixReader -/
import Derived.Test.YtkelcmncjhnbgaaWPl00
import Derived.WalkKit
import Derived.WalkSpells
import Derived.WalkLawsBesides
import Derived.Lib.Hide
import Derived.Lib.Strings
import Derived.OwnWalk
import Derived.Deep.Cut
import Derived.Outline
import Derived.Laws.BitsAllLaws
/- The document's own answers: what siloref01's functions hand back. -/
set_option linter.unusedVariables false
set_option maxRecDepth 100000
namespace Go.Proofs.Ytkelcmncjhnbgaa
open Go.RowKit

theorem ret3 {j k m : IntKind} {a b c a' b' c' : Int} (h1 : a' = a) (h2 : b' = b) (h3 : c' = c) : Ending.returned (.tuple #[.int j a, .int k b, .int m c]) = Ending.returned (.tuple #[.int j a', .int k b', .int m c']) := by rw [h1, h2, h3]

set_option maxHeartbeats 400000 in
theorem ref_ReadWhole (s : ByteArray) (w : World) (hs : s.size ≤ maxLen) :
    Calls Try.prog 73 #[.string s] w fun e w' => e = .returned (.tuple #[.int .i64 (rn s.data.toList), .int .i64 (rk s.data.toList), .int .i64 (re s.data.toList)]) ∧ w = w' := by
  unfold maxLen at hs
  go_enter Try.func73, Try.ntmps73
  go_wp2_with fail
  go_loop [5, 6] (fun x i => ∃ k y : Nat, k ≤ s.size ∧ y ≤ 9223372036854775807 ∧ i = .int .i64 k ∧ x = .int .u64 y ∧ At s.data.toList k y) (fun _ i => s.size - (intOf i).toNat)
  case atStart => exact ⟨0, 0, Nat.zero_le _, by omega, rfl, rfl, at_zero _⟩
  case round =>
    obtain ⟨k, y, hk, hy, rfl, rfl, HR⟩ := hrel
    by_cases hlt : k < s.size
    · have HD := Lib.hid (drop_at s k hlt)
      obtain ⟨hc0, hc1⟩ := byte_le s k hlt
      go_upto_region 6 with (fail)
      generalize s[k] = b at *
      by_cases h1 : 192 ≤ ((b.toNat : Nat) : Int)
      · go_wp2
        go_ret3
        obtain ⟨e1, e2, e3⟩ := at_bad HR HD.out (by omega)
        exact ⟨ret3 e1 (by rw [e2]; rfl) e3, rfl⟩
      · by_cases h0 : b = 0
        · subst h0
          clear hc0 hc1 h1
          by_cases hk0 : k = 0
          · have hkb : (((k : Nat) : Int) == 0) = true := beq_iff_eq.2 (by omega)
            have HK := Lib.hid hk0
            clear hk0
            go_wp2
            go_ret3
            obtain ⟨e1, e2, e3⟩ := at_bad HR HD.out (.inr (.inl ⟨rfl, HK.out⟩))
            exact ⟨ret3 e1 (by rw [e2]; rfl) e3, rfl⟩
          · have hkb : (((k : Nat) : Int) == 0) = false := beq_eq_false_iff_ne.2 (by omega)
            have HK := Lib.hid hk0
            clear hk0
            by_cases h2 : 144115188075855871 < (y : Int)
            · go_wp2
              go_ret3
              obtain ⟨e1, e2, e3⟩ := at_bad HR HD.out (by omega)
              exact ⟨ret3 e1 (by rw [e2]; rfl) e3, rfl⟩
            · go_wp2
              go_round
              case rel => exact ⟨k + 1, _, by omega, by omega, by go_num, by go_num, at_next HR HD.out (by have := HK.out; have : (0 : UInt8).toNat = 0 := rfl; omega) (by decide)⟩
              case measure => simp [intOf]; omega
        · have h0' : b.toNat ≠ 0 := fun h => h0 (UInt8.toNat_inj.1 (by simpa using h))
          have hb : (((b.toNat : Nat) : Int) == 0) = false := beq_eq_false_iff_ne.2 (by omega)
          have H0 := Lib.hid h0'
          clear h0 h0'
          by_cases h2 : 144115188075855871 < (y : Int)
          · go_wp2
            go_ret3
            obtain ⟨e1, e2, e3⟩ := at_bad HR HD.out (by omega)
            exact ⟨ret3 e1 (by rw [e2]; rfl) e3, rfl⟩
          · have hN : ¬ (192 ≤ b.toNat ∨ (b.toNat = 0 ∧ k = 0) ∨ 144115188075855871 < y) := by have := H0.out; omega
            have HN := Lib.hid hN
            clear hN
            by_cases h3 : 128 ≤ ((b.toNat : Nat) : Int)
            · go_wp2
              go_ret3
              obtain ⟨e1, e2, e3⟩ := at_low HR HD.out HN.out (by omega)
              exact ⟨ret3 (by rw [e1]; omega) (by rw [e2]; rfl) e3, rfl⟩
            · by_cases h4 : 64 ≤ ((b.toNat : Nat) : Int)
              · go_wp2
                go_ret3
                obtain ⟨e1, e2, e3⟩ := at_high HR HD.out HN.out (by omega) (by omega)
                exact ⟨ret3 (by rw [e1]; omega) (by rw [e2]; rfl) e3, rfl⟩
              · go_wp2
                go_round
                case rel => exact ⟨k + 1, _, by omega, by omega, by go_num, by go_num, at_next HR HD.out HN.out (by omega)⟩
                case measure => simp [intOf]; omega
    · go_wp2
      go_ret3
      obtain ⟨e1, e2, e3⟩ := at_end HR (by simp; omega)
      exact ⟨ret3 e1 (by rw [e2]; rfl) e3, rfl⟩

set_option maxHeartbeats 400000 in
theorem ref_ReadCount (s : ByteArray) (w : World) (hs : s.size ≤ maxLen) :
    Calls Try.prog 61 #[.string s] w fun e w' => e = .returned (.tuple #[.int .i64 (cn s.data.toList), .int .i64 (ck s.data.toList), .int .i64 (ce s.data.toList)]) ∧ w = w' := by
  have H := Lib.hid (rd_cases s.data.toList)
  by_cases h0 : re s.data.toList = 0
  · have hb : (re s.data.toList == 0) = true := beq_iff_eq.2 h0
    have H0 := Lib.hid h0
    clear h0
    by_cases h1 : rn s.data.toList < 0
    · go_enter Try.func61, Try.ntmps61
      go_wp2_with (go_at_call 73; refine (ref_ReadWhole _ _ hs).mono ?_; rintro e w' ⟨rfl, rfl⟩)
      go_ret3
      have h2 : re s.data.toList = 0 ∧ rn s.data.toList < 0 := ⟨H0.out, h1⟩
      exact ⟨ret3 (by unfold cn; rw [if_pos h2]) (by unfold ck; rw [if_pos h2]; rfl) (by unfold ce; rw [if_pos h2]), rfl⟩
    · go_enter Try.func61, Try.ntmps61
      go_wp2_with (go_at_call 73; refine (ref_ReadWhole _ _ hs).mono ?_; rintro e w' ⟨rfl, rfl⟩)
      go_ret3
      have h2 : ¬ (re s.data.toList = 0 ∧ rn s.data.toList < 0) := by omega
      exact ⟨ret3 (by unfold cn; rw [if_neg h2]) (by unfold ck; rw [if_neg h2]) (by unfold ce; rw [if_neg h2]), rfl⟩
  · have hb : (re s.data.toList == 0) = false := beq_eq_false_iff_ne.2 h0
    have H0 := Lib.hid h0
    clear h0
    go_enter Try.func61, Try.ntmps61
    go_wp2_with (go_at_call 73; refine (ref_ReadWhole _ _ hs).mono ?_; rintro e w' ⟨rfl, rfl⟩)
    go_ret3
    have h2 : ¬ (re s.data.toList = 0 ∧ rn s.data.toList < 0) := fun h => H0.out h.1
    exact ⟨ret3 (by unfold cn; rw [if_neg h2]) (by unfold ck; rw [if_neg h2]) (by unfold ce; rw [if_neg h2]), rfl⟩

theorem ret3s {k m : IntKind} {s s' : ByteArray} {b c b' c' : Int} (h1 : s' = s) (h2 : b' = b) (h3 : c' = c) : Ending.returned (.tuple #[.string s, .int k b, .int m c]) = Ending.returned (.tuple #[.string s', .int k b', .int m c']) := by rw [h1, h2, h3]

set_option maxHeartbeats 400000 in
theorem ref_ReadRaw (s : ByteArray) (n : Int) (w : World) (hs : s.size ≤ maxLen) (hn1 : -9223372036854775808 ≤ n) (hn2 : n ≤ 9223372036854775807) :
    Calls Try.prog 62 #[.string s, .int .i64 n] w fun e w' => e = .returned (.tuple #[.string (bs (ws s.data.toList n)), .int .i64 (wk s.data.toList n), .int .i64 (we s.data.toList n)]) ∧ w = w' := by
  unfold maxLen at hs
  have HL := Lib.hid (show s.data.toList.length = s.size by rw [← Lib.size_eq])
  by_cases h0 : n < 0
  · go_enter Try.func62, Try.ntmps62
    go_wp2
    go_ret3
    exact ⟨ret3s (by unfold ws; rw [if_pos (.inl h0)]; rfl) (by unfold wk; rw [if_pos (.inl h0)]; rfl) (by unfold we; rw [if_pos h0]), rfl⟩
  · obtain ⟨m, rfl⟩ : ∃ m : Nat, n = m := ⟨n.toNat, by omega⟩
    by_cases h1 : s.size < m
    · go_enter Try.func62, Try.ntmps62
      go_wp2
      go_ret3
      have h2 : (m : Int) < 0 ∨ (s.data.toList.length : Int) < m := .inr (by have := HL.out; omega)
      exact ⟨ret3s (by unfold ws; rw [if_pos h2]; rfl) (by unfold wk; rw [if_pos h2]; rfl) (by unfold we; rw [if_neg (by omega), if_pos (by have := HL.out; omega)]), rfl⟩
    · go_enter Try.func62, Try.ntmps62
      go_wp2
      go_ret3
      have h2 : ¬ ((m : Int) < 0 ∨ (s.data.toList.length : Int) < m) := by have := HL.out; omega
      refine ⟨ret3s ?_ (by unfold wk; rw [if_neg h2]; omega) (by unfold we; rw [if_neg (by omega), if_neg (by have := HL.out; omega)]), rfl⟩
      unfold ws; rw [if_neg h2]
      exact (bs_eq (by rw [Lib.extract_data]; simp)).symm

theorem extract_rest (s : ByteArray) (k : Nat) : (s.extract k s.size).data.toList = s.data.toList.drop k := by
  rw [Lib.extract_data, List.take_of_length_le]
  rw [List.length_drop, ← Lib.size_eq]; exact Nat.le_refl _
theorem extract_size (s : ByteArray) (k : Nat) : (s.extract k s.size).size = s.size - k := by
  rw [Lib.size_eq, extract_rest, List.length_drop, ← Lib.size_eq]

/-- ReadText behind its two callees' answers. -/
def Ret3 (a b c : Value) (w : World) (e : Ending) (w' : World) : Prop := e = .returned (.tuple #[a, b, c]) ∧ w = w'

set_option maxHeartbeats 400000 in
theorem ref_ReadText_ok (s t : ByteArray) (n : Int) (k m : Nat) (w : World) (hk : k ≤ s.size) (hs : s.size ≤ maxLen) (hm : k + m ≤ 9223372036854775807) (h1 : -9223372036854775808 ≤ n) (h2 : n ≤ 9223372036854775807)
    (h39 : Hid (∀ w, Calls Try.prog 61 #[.string s] w (Ret3 (.int .i64 n) (.int .i64 k) (.int .i64 0) w)))
    (h42 : Hid (∀ w, Calls Try.prog 62 #[.string (s.extract k s.size), .int .i64 n] w (Ret3 (.string t) (.int .i64 m) (.int .i64 0) w))) :
    Calls Try.prog 38 #[.string s] w (Ret3 (.string t) (.int .i64 (k + m : Nat)) (.int .i64 0) w) := by
  unfold maxLen at hs
  go_enter Try.func38, Try.ntmps38
  go_wp2_with (first | (go_at_call 61; refine (h39.out _).mono ?_; rintro e w' ⟨rfl, rfl⟩) | (go_at_call 62; refine (h42.out _).mono ?_; rintro e w' ⟨rfl, rfl⟩))
  go_ret3
  exact ⟨ret3s rfl (by omega) rfl, rfl⟩

set_option maxHeartbeats 400000 in
theorem ref_ReadText_no (s t : ByteArray) (n e : Int) (k m : Nat) (w : World) (hk : k ≤ s.size) (hs : s.size ≤ maxLen) (h1 : -9223372036854775808 ≤ n) (h2 : n ≤ 9223372036854775807) (he : (e == 0) = false)
    (h39 : Hid (∀ w, Calls Try.prog 61 #[.string s] w (Ret3 (.int .i64 n) (.int .i64 k) (.int .i64 0) w)))
    (h42 : Hid (∀ w, Calls Try.prog 62 #[.string (s.extract k s.size), .int .i64 n] w (Ret3 (.string t) (.int .i64 m) (.int .i64 e) w))) :
    Calls Try.prog 38 #[.string s] w (Ret3 (.string (bs [])) (.int .i64 (0 : Nat)) (.int .i64 e) w) := by
  unfold maxLen at hs
  go_enter Try.func38, Try.ntmps38
  go_wp2_with (first | (go_at_call 61; refine (h39.out _).mono ?_; rintro e w' ⟨rfl, rfl⟩) | (go_at_call 62; refine (h42.out _).mono ?_; rintro e w' ⟨rfl, rfl⟩))
  go_ret3
  exact ⟨rfl, rfl⟩

set_option maxHeartbeats 400000 in
theorem ref_ReadText_none (s : ByteArray) (n e : Int) (k : Nat) (w : World) (he : (e == 0) = false)
    (h39 : Hid (∀ w, Calls Try.prog 61 #[.string s] w (Ret3 (.int .i64 n) (.int .i64 k) (.int .i64 e) w))) :
    Calls Try.prog 38 #[.string s] w (Ret3 (.string (bs [])) (.int .i64 (0 : Nat)) (.int .i64 e) w) := by
  go_enter Try.func38, Try.ntmps38
  go_wp2_with (go_at_call 61; refine (h39.out _).mono ?_; rintro e w' ⟨rfl, rfl⟩)
  go_ret3
  exact ⟨rfl, rfl⟩

theorem ref_ReadText (s : ByteArray) (w : World) (hs : s.size ≤ maxLen) :
    Calls Try.prog 38 #[.string s] w fun e w' => e = .returned (.tuple #[.string (bs (ts s.data.toList)), .int .i64 (tk s.data.toList), .int .i64 (te s.data.toList)]) ∧ w = w' := by
  have HL : s.data.toList.length = s.size := by rw [← Lib.size_eq]
  have h39 := fun w => ref_ReadCount s w hs
  have hm : maxLen = 9223372036854775807 := rfl
  rcases cd_cases s.data.toList with ⟨c0, c1, c2, c3, c4, _, _, _⟩ | ⟨c0, _, _⟩
  · have HZ : (s.extract (ck s.data.toList) s.size).size ≤ maxLen := by rw [extract_size]; omega
    have h42 := fun w => ref_ReadRaw (s.extract (ck s.data.toList) s.size) (cn s.data.toList) w HZ (by omega) (by omega)
    rw [extract_rest] at h42
    have HW : te s.data.toList = we (s.data.toList.drop (ck s.data.toList)) (cn s.data.toList) := by unfold te; rw [if_neg (by rw [c0]; simp)]
    have HT : ts s.data.toList = ws (s.data.toList.drop (ck s.data.toList)) (cn s.data.toList) := by unfold ts; rw [if_neg (by rw [c0]; simp)]
    rw [← HW, ← HT] at h42
    rw [c0] at h39
    rcases td_cases s.data.toList with ⟨t0, t1, t2, t3, t4, t5, t6⟩ | ⟨t0, t1, t2⟩
    · rw [t0] at h42
      have hk : tk s.data.toList = ck s.data.toList + wk (s.data.toList.drop (ck s.data.toList)) (cn s.data.toList) := by unfold tk; rw [if_neg (by rw [t0]; simp)]
      rw [t0, hk]
      exact ref_ReadText_ok s _ _ _ _ w (by omega) hs (by omega) (by omega) (by omega) (Lib.hid h39) (Lib.hid h42)
    · rw [t1, t2]
      exact ref_ReadText_no s _ _ _ _ _ w (by omega) hs (by omega) (by omega) (beq_eq_false_iff_ne.2 (by omega)) (Lib.hid h39) (Lib.hid h42)
  · have e1 : te s.data.toList = ce s.data.toList := by unfold te; rw [if_pos (by omega)]
    have e2 : ts s.data.toList = [] := by unfold ts; rw [if_pos (by omega)]
    have e3 : tk s.data.toList = 0 := by unfold tk; rw [if_pos (by omega)]
    rw [e1, e2, e3]
    exact ref_ReadText_none s _ _ _ w (beq_eq_false_iff_ne.2 (by omega)) (Lib.hid h39)

end Go.Proofs.Ytkelcmncjhnbgaa
/- Logs in plain words: frames, and the records that any bytes bear. -/
set_option linter.unusedVariables false
set_option maxRecDepth 100000
namespace Go.Proofs.Ytkelcmncjhnbgaa

theorem cn_of' {l : List UInt8} (h : ce l = 0) : re l = 0 ∧ cn l = rn l ∧ ck l = rk l ∧ 0 ≤ rn l := by
  rcases cd_cases l with ⟨_, _, _, h1, _, h2, h3, h4⟩ | ⟨h1, _⟩
  · exact ⟨h2, h3, h4, by omega⟩
  · omega
/-- A count, and what is behind it. -/
theorem cd_whole {n : Nat} (h : n ≤ 9223372036854775807) (t : List UInt8) : ce (whole (n : Int) ++ t) = 0 ∧ cn (whole (n : Int) ++ t) = n ∧ ck (whole (n : Int) ++ t) = (whole (n : Int)).length := by
  have r := rd_whole (n := (n : Int)) (by omega) (by omega) t
  simp only [ce, cn, ck, r.1, r.2.1, r.2.2]
  simp
  constructor <;> intro <;> omega
/-- A text, and what is behind it. -/
theorem td_text {s : List UInt8} (h : s.length ≤ 9223372036854775807) (t : List UInt8) : te (text s ++ t) = 0 ∧ ts (text s ++ t) = s ∧ tk (text s ++ t) = (text s).length := by
  have c := cd_whole (n := s.length) h (s ++ t)
  have e : text s ++ t = whole (s.length : Int) ++ (s ++ t) := by unfold text; rw [List.append_assoc]
  have hd : (text s ++ t).drop (whole (s.length : Int)).length = s ++ t := by rw [e, List.drop_left]
  rw [← e] at c
  have hws : ws (s ++ t) (s.length : Int) = s ∧ wk (s ++ t) (s.length : Int) = s.length ∧ we (s ++ t) (s.length : Int) = 0 := by
    unfold ws wk we
    rw [if_neg (by simp; omega), if_neg (by simp; omega), if_neg (by omega), if_neg (by simp; omega)]
    simp
  have hte : te (text s ++ t) = 0 := by unfold te; rw [if_neg (by omega), c.2.2, c.2.1, hd]; exact hws.2.2
  refine ⟨hte, by unfold ts; rw [if_neg (by omega), c.2.2, c.2.1, hd]; exact hws.1, ?_⟩
  unfold tk
  rw [if_neg (by omega), c.2.2, c.2.1, hd, hws.2.1, text, List.length_append]
/-- A text that is read, back. -/
theorem td_back {l : List UInt8} (h : te l = 0) : text (ts l) ++ l.drop (tk l) = l ∧ tk l = (text (ts l)).length := by
  rcases td_cases l with ⟨_, b1, b2, b3, b4, b5, b6⟩ | ⟨b1, _⟩
  · have hd := cn_of' b1
    obtain ⟨c1, c2⟩ := rd_back hd.1
    have hlen : (ts l).length = (cn l).toNat := by rw [b6, List.length_take, List.length_drop]; omega
    have hw : whole ((ts l).length : Int) = whole (rn l) := by rw [hlen, show (((cn l).toNat : Nat) : Int) = rn l by omega]
    have hk : tk l = (text (ts l)).length := by rw [text, List.length_append, hw, hlen, b5, hd.2.2.1, c2]
    refine ⟨?_, hk⟩
    rw [text, hw, List.append_assoc]
    have : ts l ++ l.drop (tk l) = l.drop (rk l) := by
      rw [b6, b5, ← List.drop_drop, hd.2.2.1]
      exact List.take_append_drop ..
    rw [this, c1]
  · omega

/-- A record's frame; the frames of records, one behind the other. -/
def frameL (r : List UInt8) : List UInt8 := text r ++ four (sumL (text r))
def framesL : List (List UInt8) → List UInt8
  | [] => []
  | r :: L => frameL r ++ framesL L
theorem framesL_append : ∀ L M : List (List UInt8), framesL (L ++ M) = framesL L ++ framesL M
  | [], M => rfl
  | r :: L, M => by show frameL r ++ framesL (L ++ M) = _; rw [framesL_append L M, ← List.append_assoc]; rfl
theorem framesL_one (r : List UInt8) : framesL [r] = frameL r := List.append_nil _
theorem frameL_len (r : List UInt8) : (frameL r).length = (text r).length + 4 := by rw [frameL, List.length_append, four_len]
theorem frameL_pos (r : List UInt8) : 4 ≤ (frameL r).length := by rw [frameL_len]; omega
theorem text_le {r : List UInt8} (h : r.length ≤ 9223372036854775807) : (text r).length ≤ r.length + 11 := by
  have := (whole_len (n := (r.length : Int)) (by omega) (by omega)).1
  rw [text, List.length_append]
  omega
theorem frameL_le {r : List UInt8} (h : r.length ≤ 9223372036854775807) : (frameL r).length ≤ r.length + 15 := by
  have := text_le h
  rw [frameL_len]
  omega


/-- The record of the whole frame that bytes begin with, and how many bytes the frame has. -/
def firstL (l : List UInt8) : Option (List UInt8 × Nat) :=
  if te l = 0 ∧ (ts l).length ≤ 1048576 ∧ tk l + 4 ≤ l.length ∧ okT (l.take (tk l + 4)) then some (ts l, tk l + 4) else none
theorem first_yes {l : List UInt8} (h1 : te l = 0) (h2 : (ts l).length ≤ 1048576) (h3 : tk l + 4 ≤ l.length) (h4 : okT (l.take (tk l + 4))) : firstL l = some (ts l, tk l + 4) := by unfold firstL; rw [if_pos ⟨h1, h2, h3, h4⟩]
theorem first_no {l : List UInt8} (h : ¬ (te l = 0 ∧ (ts l).length ≤ 1048576 ∧ tk l + 4 ≤ l.length ∧ okT (l.take (tk l + 4)))) : firstL l = none := by unfold firstL; rw [if_neg h]
theorem first_some {l : List UInt8} {r : List UInt8} {k : Nat} (h : firstL l = some (r, k)) : te l = 0 ∧ r.length ≤ 1048576 ∧ tk l + 4 ≤ l.length ∧ okT (l.take (tk l + 4)) ∧ r = ts l ∧ k = tk l + 4 := by
  unfold firstL at h
  split at h
  · rename_i hc
    cases h
    exact ⟨hc.1, hc.2.1, hc.2.2.1, hc.2.2.2, rfl, rfl⟩
  · cases h
theorem frame_first {r : List UInt8} (h : r.length ≤ 1048576) (t : List UInt8) : firstL (frameL r ++ t) = some (r, (frameL r).length) := by
  have e : frameL r ++ t = text r ++ (four (sumL (text r)) ++ t) := by rw [frameL, List.append_assoc]
  obtain ⟨a1, a2, a3⟩ := td_text (s := r) (by omega) (four (sumL (text r)) ++ t)
  rw [← e] at a1 a2 a3
  have hk : tk (frameL r ++ t) + 4 = (frameL r).length := by rw [a3, frameL_len]
  have hok : okT ((frameL r ++ t).take (tk (frameL r ++ t) + 4)) := by
    rw [hk, List.take_left]
    unfold okT
    rw [frameL_len, Nat.add_sub_cancel, frameL, List.drop_left, List.take_left]
  rw [first_yes a1 (by rw [a2]; exact h) (by rw [hk, List.length_append]; omega) hok, hk, a2]
theorem first_back {l r : List UInt8} {k : Nat} (h : firstL l = some (r, k)) : r.length ≤ 1048576 ∧ frameL r ++ l.drop k = l ∧ k = (frameL r).length := by
  obtain ⟨h1, h2, h3, h4, rfl, rfl⟩ := first_some h
  obtain ⟨b1, b2⟩ := td_back h1
  have hlen : (l.take (tk l + 4)).length = tk l + 4 := by rw [List.length_take]; omega
  unfold okT at h4
  rw [hlen, Nat.add_sub_cancel, List.take_take, Nat.min_eq_left (by omega)] at h4
  have htk : l.take (tk l) = text (ts l) := by
    have := congrArg (List.take (tk l)) b1
    rw [← this]
    conv => lhs; rw [b2]
    rw [List.take_left]
  have hfr : l.take (tk l + 4) = frameL (ts l) := by
    rw [← List.take_append_drop (tk l) (l.take (tk l + 4)), h4, List.take_take, Nat.min_eq_left (by omega), htk]
    rfl
  refine ⟨h2, ?_, ?_⟩
  · rw [← hfr, List.take_append_drop]
  · rw [frameL_len, ← b2]
theorem first_lt {l r : List UInt8} {k : Nat} (h : firstL l = some (r, k)) : 0 < k ∧ k ≤ l.length := by
  obtain ⟨h1, h2, h3, h4, rfl, rfl⟩ := first_some h
  omega

/-- The records that bytes begin with, and how many bytes their frames have. -/
def splitL (l : List UInt8) : List (List UInt8) × Nat :=
  match h : firstL l with
  | none => ([], 0)
  | some (r, k) => (r :: (splitL (l.drop k)).1, k + (splitL (l.drop k)).2)
termination_by l.length
decreasing_by
  all_goals
    have := first_lt h
    rw [List.length_drop]
    omega
theorem split_none {l : List UInt8} (h : firstL l = none) : splitL l = ([], 0) := by
  rw [splitL]
  split
  · rfl
  · rename_i h'; rw [h] at h'; cases h'
theorem split_some {l r : List UInt8} {k : Nat} (h : firstL l = some (r, k)) : splitL l = (r :: (splitL (l.drop k)).1, k + (splitL (l.drop k)).2) := by
  rw [splitL]
  split
  · rename_i h'; rw [h] at h'; cases h'
  · rename_i r' k' h'; rw [h] at h'; cases h'; rfl
theorem split_frames : ∀ (L : List (List UInt8)) (t : List UInt8), (∀ r ∈ L, r.length ≤ 1048576) → splitL (framesL L ++ t) = (L ++ (splitL t).1, (framesL L).length + (splitL t).2)
  | [], t, _ => by simp [framesL]
  | r :: L, t, h => by
    have ih := split_frames L t (fun x hx => h x (List.mem_cons_of_mem _ hx))
    have e : framesL (r :: L) ++ t = frameL r ++ (framesL L ++ t) := List.append_assoc ..
    rw [e, split_some (frame_first (h r (List.mem_cons_self ..)) _), List.drop_left, ih]
    show _ = (r :: (L ++ (splitL t).1), (frameL r ++ framesL L).length + (splitL t).2)
    rw [List.length_append, Nat.add_assoc]
theorem split_back (n : Nat) : ∀ l : List UInt8, l.length ≤ n → framesL (splitL l).1 ++ l.drop (splitL l).2 = l ∧ (splitL l).2 = (framesL (splitL l).1).length ∧ ∀ r ∈ (splitL l).1, r.length ≤ 1048576 := by
  induction n with
  | zero =>
    intro l hl
    have h0 : firstL l = none := by
      rcases hf : firstL l with _ | ⟨r, k⟩
      · rfl
      · have := first_lt hf; omega
    rw [split_none h0]
    exact ⟨rfl, rfl, fun r hr => by cases hr⟩
  | succ n ih =>
    intro l hl
    rcases hf : firstL l with _ | ⟨r, k⟩
    · rw [split_none hf]; exact ⟨rfl, rfl, fun r hr => by cases hr⟩
    · have hlt := first_lt hf
      obtain ⟨h1, h2, h3⟩ := first_back hf
      obtain ⟨i1, i2, i3⟩ := ih (l.drop k) (by rw [List.length_drop]; omega)
      rw [split_some hf]
      refine ⟨?_, ?_, ?_⟩
      · show (frameL r ++ framesL (splitL (l.drop k)).1) ++ l.drop (k + (splitL (l.drop k)).2) = l
        rw [← List.drop_drop, List.append_assoc, i1, h2]
      · show k + (splitL (l.drop k)).2 = (frameL r ++ framesL (splitL (l.drop k)).1).length
        rw [List.length_append, ← i2, ← h3]
      · intro x hx
        rcases List.mem_cons.1 hx with rfl | hx
        · exact h1
        · exact i3 x hx
theorem split_le (l : List UInt8) : (splitL l).2 ≤ l.length := by
  obtain ⟨h1, h2, _⟩ := split_back l.length l (Nat.le_refl _)
  have := congrArg List.length h1
  rw [List.length_append] at this
  omega

/-- How many of the records have their frames wholly among the first k bytes. -/
def wholeN : List (List UInt8) → Nat → Nat
  | [], _ => 0
  | r :: L, k => if (frameL r).length ≤ k then wholeN L (k - (frameL r).length) + 1 else 0
theorem whole_le : ∀ (L : List (List UInt8)) (k : Nat), wholeN L k ≤ L.length
  | [], _ => Nat.le_refl _
  | r :: L, k => by
    unfold wholeN
    split
    · have := whole_le L (k - (frameL r).length); simp; omega
    · simp
theorem whole_iff : ∀ (L : List (List UInt8)) (k j : Nat), j ≤ L.length → (j ≤ wholeN L k ↔ (framesL (L.take j)).length ≤ k)
  | [], k, j, h => by have : j = 0 := Nat.le_zero.1 h; subst this; simp [framesL]
  | r :: L, k, 0, h => by simp [framesL]
  | r :: L, k, j + 1, h => by
    have ih := whole_iff L (k - (frameL r).length) j (by simpa using h)
    have e : (framesL ((r :: L).take (j + 1))).length = (frameL r).length + (framesL (L.take j)).length := by
      show (frameL r ++ framesL (L.take j)).length = _
      rw [List.length_append]
    rw [e]
    unfold wholeN
    split
    · constructor
      · intro hh; have := ih.1 (by omega); omega
      · intro hh; have := ih.2 (by omega); omega
    · constructor
      · intro hh; omega
      · intro hh; omega
theorem whole_in (L : List (List UInt8)) (k : Nat) : (framesL (L.take (wholeN L k))).length ≤ k := (whole_iff L k _ (whole_le L k)).1 (Nat.le_refl _)
theorem whole_is {L : List (List UInt8)} {k j : Nat} (hj : j ≤ L.length) (h1 : (framesL (L.take j)).length ≤ k) (h2 : j < L.length → k < (framesL (L.take (j + 1))).length) : wholeN L k = j := by
  have a := (whole_iff L k j hj).2 h1
  rcases Nat.lt_or_ge j (wholeN L k) with h | h
  · have hl := whole_le L k
    have := (whole_iff L k (j + 1) (by omega)).1 h
    have := h2 (by omega)
    omega
  · omega
theorem first_part {r p q : List UInt8} (hr : r.length ≤ 1048576) (h : frameL r = p ++ q) (hq : q ≠ []) : firstL p = none := by
  rcases hf : firstL p with _ | ⟨r', k⟩
  · rfl
  · obtain ⟨b1, b2, b3⟩ := first_back hf
    have hlt := first_lt hf
    have e : frameL r ++ [] = frameL r' ++ (p.drop k ++ q) := by rw [List.append_nil, h, ← List.append_assoc, b2]
    have f1 := frame_first hr []
    rw [e, frame_first b1] at f1
    cases f1
    have hl := congrArg List.length h
    rw [List.length_append] at hl
    have : 0 < q.length := List.length_pos_iff.2 hq
    omega
/-- What frames bear that are cut off. -/
theorem split_cut : ∀ (L : List (List UInt8)) (k : Nat), (∀ r ∈ L, r.length ≤ 1048576) → splitL ((framesL L).take k) = (L.take (wholeN L k), (framesL (L.take (wholeN L k))).length)
  | [], k, _ => by
    have h0 : firstL (([] : List UInt8).take k) = none := by
      rcases hf : firstL (([] : List UInt8).take k) with _ | ⟨r, j⟩
      · rfl
      · have := first_lt hf
        simp at this
        omega
    show splitL (([] : List UInt8).take k) = _
    rw [split_none h0]
    simp [wholeN, framesL]
  | r :: L, k, h => by
    have hr := h r (List.mem_cons_self ..)
    unfold wholeN
    split
    · rename_i hk
      have ih := split_cut L (k - (frameL r).length) (fun x hx => h x (List.mem_cons_of_mem _ hx))
      have e : (framesL (r :: L)).take k = frameL r ++ (framesL L).take (k - (frameL r).length) := by
        show (frameL r ++ framesL L).take k = _
        rw [List.take_append, List.take_of_length_le hk]
      rw [e, split_some (frame_first hr _), List.drop_left, ih]
      show _ = (r :: L.take _, (frameL r ++ framesL (L.take _)).length)
      rw [List.length_append]
    · rename_i hk
      have e : (framesL (r :: L)).take k = (frameL r).take k := by
        show (frameL r ++ framesL L).take k = _
        rw [List.take_append_of_le_length (by omega)]
      rw [e, split_none (first_part hr (List.take_append_drop k (frameL r)).symm (by intro hh; have := congrArg List.length hh; simp at this; omega))]
      simp [framesL]
theorem take_eq_split {l m : List UInt8} {k j : Nat} (h : l.take k = m.take k) (hj : j ≤ k) : l.take j = m.take j := by
  have := congrArg (List.take j) h
  rwa [List.take_take, List.take_take, Nat.min_eq_left hj] at this
/-- Bytes that begin as frames do, up to a place, bear the whole ones ahead of it. -/
theorem split_turned {L : List (List UInt8)} {b : List UInt8} {k : Nat} (hL : ∀ r ∈ L, r.length ≤ 1048576) (h : b.take k = (framesL L).take k) : ∃ M, (splitL b).1 = L.take (wholeN L k) ++ M := by
  have hin := whole_in L k
  have e : b = framesL (L.take (wholeN L k)) ++ b.drop (framesL (L.take (wholeN L k))).length := by
    have h2 := take_eq_split h hin
    have e2 : framesL L = framesL (L.take (wholeN L k)) ++ framesL (L.drop (wholeN L k)) := by rw [← framesL_append, List.take_append_drop]
    have e3 : (framesL L).take (framesL (L.take (wholeN L k))).length = framesL (L.take (wholeN L k)) := by
      conv => lhs; arg 2; rw [e2]
      rw [List.take_left]
    rw [e3] at h2
    conv => lhs; rw [← List.take_append_drop (framesL (L.take (wholeN L k))).length b, h2]
  rw [e, split_frames _ _ (fun r hr => hL r (List.mem_of_mem_take hr))]
  exact ⟨_, rfl⟩
end Go.Proofs.Ytkelcmncjhnbgaa
/- The reader of package six: what each of its methods hands back, and where it stands behind the call. -/
set_option linter.unusedVariables false
set_option maxRecDepth 100000
namespace Go.Proofs.Ytkelcmncjhnbgaa
open Go.RowKit

namespace Only
variable {S S' : Nat → Prop} {a b c w : World}
end Only

/-- In block r there is a reader that stands ahead of the bytes s. -/
def Rt (r : Nat) (s : ByteArray) (w : World) : Prop := w.heap[r]? = some (.cells #[.string s] 125 (0, 0))

theorem Rt.cell {r : Nat} {s : ByteArray} {w : World} (h : Rt r s w) : w.cell? ⟨r, 0, none⟩ = some (.string s) := by unfold Rt at h; simp [World.cell?, h]
theorem Rt.free {r : Nat} {s : ByteArray} {w : World} (h : Rt r s w) : w.frozen? ⟨r, 0, none⟩ = false := by unfold Rt at h; simp [World.frozen?, h]
theorem Rt.lt {r : Nat} {s : ByteArray} {w : World} (h : Rt r s w) : r < w.heap.size := by
  rcases Nat.lt_or_ge r w.heap.size with h' | h'
  · exact h'
  · unfold Rt at h; simp [Array.getElem?_eq_none h'] at h
theorem Rt.put {r : Nat} {s : ByteArray} {w : World} (h : Rt r s w) (t : ByteArray) : Rt r t (w.setCell ⟨r, 0, none⟩ (.string t)) := by
  unfold Rt at h ⊢
  simp [World.setCell, Array.getElem?_modify, h]
theorem Rt.kept {r : Nat} {s : ByteArray} {w w' : World} {S : Nat → Prop} (h : Rt r s w) (k : Only S w w') (hS : ¬ S r) : Rt r s w' := by
  have := k.block r h.lt hS
  unfold Rt at h ⊢
  rw [this, h]

theorem six_Over (s : ByteArray) (w : World) : Calls Try.prog 56 #[.string s] w fun e w' => e = .returned (.pointer (some ⟨w.heap.size, 0, none⟩)) ∧ w.alloc (.cells #[.string s] 125) = w' := by
  go_enter Try.func56, Try.ntmps56
  go_wp2
  go_ret
  exact ⟨rfl, rfl⟩

theorem six_Rest (r : Nat) (s : ByteArray) (w : World) (h : Rt r s w) : Calls Try.prog 59 #[.pointer (some ⟨r, 0, none⟩)] w fun e w' => e = .returned (.string s) ∧ w = w' := by
  have c0 := h.cell
  go_enter Try.func59, Try.ntmps59
  go_wp2
  go_ret
  exact ⟨rfl, rfl⟩
theorem six_Rest_nil (w : World) : Calls Try.prog 59 #[.pointer none] w fun e w' => e = .returned (.string ⟨#[]⟩) ∧ w = w' := by
  go_enter Try.func59, Try.ntmps59
  go_wp2
  go_ret
  exact ⟨rfl, rfl⟩
/-- Whether bytes are left. -/
def endE (l : List UInt8) : Int := if l = [] then 0 else 5
theorem ret1 {k : IntKind} {a a' : Int} (h1 : a' = a) : Ending.returned (.int k a) = Ending.returned (.int k a') := by rw [h1]
theorem ret2 {k m : IntKind} {a b a' b' : Int} (h1 : a' = a) (h2 : b' = b) : Ending.returned (.tuple #[.int k a, .int m b]) = Ending.returned (.tuple #[.int k a', .int m b']) := by rw [h1, h2]
theorem six_ReadWhole_nil (w : World) : Calls Try.prog 78 #[.pointer none] w fun e w' => e = .returned (.tuple #[.int .i64 0, .int .i64 1]) ∧ w = w' := by
  go_enter Try.func78, Try.ntmps78
  go_wp2
  go_ret2
  exact ⟨rfl, rfl⟩

/-- What a call of a reader leaves: an answer, the place, and all else as it was. -/
def Rd (r : Nat) (s : ByteArray) (a b : Value) (w : World) (e : Ending) (w' : World) : Prop := e = .returned (.tuple #[a, b]) ∧ Rt r s w' ∧ Only (fun k => k = r) w w'

theorem rest0 (s : ByteArray) : s.extract 0 s.size = s := by
  have h := extract_rest s 0
  rw [List.drop_zero] at h
  obtain ⟨⟨x⟩⟩ := s
  exact bs_eq h

theorem or_join (y c : Nat) (hy : y ≤ 144115188075855871) (hc : c < 64) : bits .or .i64 ((y : Int) * 64) (c : Int) = ((64 * y + c : Nat) : Int) := by
  have hj : y * 64 ||| c = y * 64 + c := nat_join 6 (y * 64) c (by omega) (by omega)
  rw [show ((y : Int) * 64) = ((y * 64 : Nat) : Int) by omega]
  show IntKind.i64.wrap ((BitVec.ofInt 64 ((y * 64 : Nat) : Int) ||| BitVec.ofInt 64 (c : Int)).toNat : Int) = _
  rw [BitVec.toNat_or, ofInt_u64 _ (by omega), ofInt_u64 _ (by omega), hj]
  rw [IntWalk.i64_in _ (by omega)]
  omega
theorem and128_lo (c : Nat) (hc : c < 128) : bits .and .u8 (c : Int) 128 = 0 := by
  have h := u8_and_nat c 128 (by omega) (by omega)
  rw [show (128 : Nat) = 2 ^ 7 from rfl, nat_bit 7 c, show c / 2 ^ 7 = 0 by omega] at h
  simpa using h
theorem and128_hi (c : Nat) (h1 : 128 ≤ c) (h2 : c < 256) : bits .and .u8 (c : Int) 128 = 128 := by
  have h := u8_and_nat c 128 (by omega) (by omega)
  rw [show (128 : Nat) = 2 ^ 7 from rfl, nat_bit 7 c, show c / 2 ^ 7 = 1 by omega] at h
  simpa using h

theorem rd_none {r : Nat} {s : ByteArray} {w : World} {a b : Int} (h : Rt r s w) (e1 : rn s.data.toList = a) (e2 : rk s.data.toList = 0) (e3 : re s.data.toList = b) :
    Rd r (s.extract (rk s.data.toList) s.size) (.int .i64 (rn s.data.toList)) (.int .i64 (re s.data.toList)) w (.returned (.tuple #[.int .i64 a, .int .i64 b])) w :=
  ⟨ret2 e1 e3, by rw [e2, rest0]; exact h, Only.refl _ _⟩

theorem rd_some {r : Nat} {s : ByteArray} {w : World} {a : Int} {k : Nat} (h : Rt r s w) (e1 : rn s.data.toList = a) (e2 : rk s.data.toList = k) (e3 : re s.data.toList = 0) :
    Rd r (s.extract (rk s.data.toList) s.size) (.int .i64 (rn s.data.toList)) (.int .i64 (re s.data.toList)) w (.returned (.tuple #[.int .i64 a, .int .i64 0])) (w.setCell ⟨r, 0, none⟩ (.string (s.extract k s.size))) :=
  ⟨ret2 e1 e3, by rw [e2]; exact h.put _, (Only.refl (fun k => k = r) w).setCell (p := ⟨r, 0, none⟩) (.inl rfl) _⟩

set_option maxHeartbeats 400000 in
theorem six_ReadWhole (r : Nat) (s : ByteArray) (w : World) (h : Rt r s w) (hs : s.size ≤ maxLen) :
    Calls Try.prog 78 #[.pointer (some ⟨r, 0, none⟩)] w (Rd r (s.extract (rk s.data.toList) s.size) (.int .i64 (rn s.data.toList)) (.int .i64 (re s.data.toList)) w) := by
  unfold maxLen at hs
  have c0 := h.cell
  have f0 := h.free
  have HH := Lib.hid h
  clear h
  go_enter Try.func78, Try.ntmps78
  go_wp2_with fail
  go_loop [4, 14] (fun x i => ∃ k y : Nat, k ≤ s.size ∧ y ≤ 9223372036854775807 ∧ i = .int .i64 k ∧ x = .int .i64 y ∧ At s.data.toList k y) (fun _ i => s.size - (intOf i).toNat)
  case atStart => exact ⟨0, 0, Nat.zero_le _, by omega, rfl, rfl, at_zero _⟩
  case round =>
    obtain ⟨k, y, hk, hy, rfl, rfl, HR⟩ := hrel
    by_cases hlt : k < s.size
    · have HD := Lib.hid (drop_at s k hlt)
      obtain ⟨hc0, hc1⟩ := byte_le s k hlt
      go_upto_region 8 with (fail)
      generalize s[k] = b at *
      by_cases h1 : 191 < ((b.toNat : Nat) : Int)
      · go_wp2
        go_ret2
        obtain ⟨e1, e2, e3⟩ := at_bad HR HD.out (by omega)
        exact rd_none HH.out e1 e2 e3
      · by_cases h0 : b = 0
        · subst h0
          clear hc0 hc1 h1
          by_cases hk0 : k = 0
          · have hkb : (((k : Nat) : Int) == 0) = true := beq_iff_eq.2 (by omega)
            have HK := Lib.hid hk0
            clear hk0
            go_wp2
            go_ret2
            obtain ⟨e1, e2, e3⟩ := at_bad HR HD.out (.inr (.inl ⟨rfl, HK.out⟩))
            exact rd_none HH.out e1 e2 e3
          · have hkb : (((k : Nat) : Int) == 0) = false := beq_eq_false_iff_ne.2 (by omega)
            have HK := Lib.hid hk0
            clear hk0
            by_cases h2 : 144115188075855871 < (y : Int)
            · go_wp2
              go_ret2
              obtain ⟨e1, e2, e3⟩ := at_bad HR HD.out (by omega)
              exact rd_none HH.out e1 e2 e3
            · have hor : bits .or .i64 ((y : Int) * 64) 0 = ((64 * y : Nat) : Int) := by
                have := or_join y 0 (by omega) (by omega)
                simpa using this
              obtain ⟨z, hz⟩ : ∃ z : Nat, z = 64 * y := ⟨_, rfl⟩
              have hz1 : z ≤ 9223372036854775807 := by omega
              rw [← hz] at hor
              have HZ := Lib.hid hz
              clear hz
              go_wp2
              go_round
              case rel => exact ⟨k + 1, z, by omega, by omega, by go_num, rfl, by rw [HZ.out]; exact at_next HR HD.out (by have := HK.out; have : (0 : UInt8).toNat = 0 := rfl; omega) (by decide)⟩
              case measure => simp [intOf]; omega
        · have h0' : b.toNat ≠ 0 := fun h => h0 (UInt8.toNat_inj.1 (by simpa using h))
          have hb : (((b.toNat : Nat) : Int) == 0) = false := beq_eq_false_iff_ne.2 (by omega)
          have H0 := Lib.hid h0'
          clear h0 h0'
          by_cases h2 : 144115188075855871 < (y : Int)
          · rcases Bool.eq_false_or_eq_true ((k : Int) == 0) with hkb | hkb
            all_goals go_wp2
            all_goals go_ret2
            all_goals obtain ⟨e1, e2, e3⟩ := at_bad HR HD.out (by omega)
            all_goals exact rd_none HH.out e1 e2 e3
          · have hN : ¬ (192 ≤ b.toNat ∨ (b.toNat = 0 ∧ k = 0) ∨ 144115188075855871 < y) := by have := H0.out; omega
            have HN := Lib.hid hN
            clear hN
            obtain ⟨z, hz⟩ : ∃ z : Nat, z = 64 * y + b.toNat % 64 := ⟨_, rfl⟩
            have hor : bits .or .i64 ((y : Int) * 64) ((b.toNat : Int) % 64) = (z : Int) := by
              rw [hz, show ((b.toNat : Int) % 64) = ((b.toNat % 64 : Nat) : Int) by omega]
              exact or_join y _ (by omega) (by omega)
            have hz1 : z ≤ 9223372036854775807 := by omega
            have HZ := Lib.hid hz
            clear hz
            by_cases h3 : ((b.toNat : Nat) : Int) ≤ 63
            · rcases Bool.eq_false_or_eq_true ((k : Int) == 0) with hkb | hkb
              all_goals go_wp2
              all_goals go_round
              all_goals first | (case rel => exact ⟨k + 1, z, by omega, by omega, by go_num, rfl, by rw [HZ.out]; exact at_next HR HD.out HN.out (by omega)⟩) | skip
              all_goals (simp [intOf]; omega)
            · by_cases h4 : 128 ≤ ((b.toNat : Nat) : Int)
              · have hand : bits .and .u8 (b.toNat : Int) 128 = 128 := and128_hi _ (by omega) b.toNat_lt
                rcases Bool.eq_false_or_eq_true ((k : Int) == 0) with hkb | hkb
                all_goals go_wp2
                all_goals go_ret2
                all_goals obtain ⟨e1, e2, e3⟩ := at_low HR HD.out HN.out (by omega)
                all_goals exact rd_some HH.out (by rw [e1, HZ.out]) e2 e3
              · have hand : bits .and .u8 (b.toNat : Int) 128 = 0 := and128_lo _ (by omega)
                rcases Bool.eq_false_or_eq_true ((k : Int) == 0) with hkb | hkb
                all_goals go_wp2
                all_goals go_ret2
                all_goals obtain ⟨e1, e2, e3⟩ := at_high HR HD.out HN.out (by omega) (by omega)
                all_goals exact rd_some HH.out (by rw [e1, HZ.out]) e2 e3
    · go_wp2
      go_ret2
      obtain ⟨e1, e2, e3⟩ := at_end HR (by simp; omega)
      exact rd_none HH.out e1 e2 e3

theorem six_ReadCount_nil (w : World) : Calls Try.prog 72 #[.pointer none] w fun e w' => e = .returned (.tuple #[.int .i64 0, .int .i64 1]) ∧ w = w' := by
  go_enter Try.func72, Try.ntmps72
  go_wp2
  go_ret2
  exact ⟨rfl, rfl⟩

set_option maxHeartbeats 400000 in
theorem six_ReadCount (r : Nat) (s : ByteArray) (w : World) (h : Rt r s w) (hs : s.size ≤ maxLen) :
    Calls Try.prog 72 #[.pointer (some ⟨r, 0, none⟩)] w (Rd r (s.extract (ck s.data.toList) s.size) (.int .i64 (cn s.data.toList)) (.int .i64 (ce s.data.toList)) w) := by
  have c0 := h.cell
  have HH := Lib.hid h
  have HS := Lib.hid hs
  clear h hs
  have HC := Lib.hid (rd_cases s.data.toList)
  by_cases h0 : re s.data.toList = 0
  · have hb : (re s.data.toList == 0) = true := beq_iff_eq.2 h0
    have H0 := Lib.hid h0
    clear h0
    by_cases h1 : rn s.data.toList < 0
    · go_enter Try.func72, Try.ntmps72
      go_wp2_with fail
      refine (six_ReadWhole r s w HH.out HS.out).mono ?_
      rintro e w1 ⟨rfl, h2, k2⟩
      have c1 := h2.cell
      have f1 := h2.free
      have H2 := Lib.hid h2
      have K2 := Lib.hid k2
      clear h2 k2
      go_wp2
      go_ret2
      have h2 : re s.data.toList = 0 ∧ rn s.data.toList < 0 := ⟨H0.out, h1⟩
      refine ⟨ret2 (by unfold cn; rw [if_pos h2]) (by unfold ce; rw [if_pos h2]), ?_, (K2.out).setCell (p := ⟨r, 0, none⟩) (.inl rfl) _⟩
      unfold ck; rw [if_pos h2, rest0]
      exact H2.out.put s
    · go_enter Try.func72, Try.ntmps72
      go_wp2_with fail
      refine (six_ReadWhole r s w HH.out HS.out).mono ?_
      rintro e w1 ⟨rfl, h2, k2⟩
      have H2 := Lib.hid h2
      have K2 := Lib.hid k2
      clear h2 k2
      go_wp2
      go_ret2
      have h2 : ¬ (re s.data.toList = 0 ∧ rn s.data.toList < 0) := by omega
      refine ⟨ret2 (by unfold cn; rw [if_neg h2]) (by unfold ce; rw [if_neg h2, H0.out]), ?_, K2.out⟩
      unfold ck; rw [if_neg h2]
      exact H2.out
  · have hb : (re s.data.toList == 0) = false := beq_eq_false_iff_ne.2 h0
    have H0 := Lib.hid h0
    clear h0
    go_enter Try.func72, Try.ntmps72
    go_wp2_with fail
    refine (six_ReadWhole r s w HH.out HS.out).mono ?_
    rintro e w1 ⟨rfl, h2, k2⟩
    have H2 := Lib.hid h2
    have K2 := Lib.hid k2
    clear h2 k2
    go_wp2
    go_ret2
    have h2 : ¬ (re s.data.toList = 0 ∧ rn s.data.toList < 0) := fun h => H0.out h.1
    have hz : rn s.data.toList = 0 := by rcases HC.out with h | h; (exact absurd h.1 H0.out); (exact h.2.1)
    refine ⟨ret2 (by unfold cn; rw [if_neg h2, hz]) (by unfold ce; rw [if_neg h2]), ?_, K2.out⟩
    unfold ck; rw [if_neg h2]
    exact H2.out

theorem six_ReadRaw_nil (n : Int) (w : World) : Calls Try.prog 58 #[.pointer none, .int .i64 n] w fun e w' => e = .returned (.tuple #[.string ⟨#[]⟩, .int .i64 1]) ∧ w = w' := by
  go_enter Try.func58, Try.ntmps58
  go_wp2
  go_ret2
  exact ⟨rfl, rfl⟩

set_option maxHeartbeats 400000 in
theorem six_ReadRaw (r : Nat) (s : ByteArray) (n : Int) (w : World) (h : Rt r s w) (hs : s.size ≤ maxLen) (hn1 : -9223372036854775808 ≤ n) (hn2 : n ≤ 9223372036854775807) :
    Calls Try.prog 58 #[.pointer (some ⟨r, 0, none⟩), .int .i64 n] w (Rd r (s.extract (wk s.data.toList n) s.size) (.string (bs (ws s.data.toList n))) (.int .i64 (we s.data.toList n)) w) := by
  unfold maxLen at hs
  have HL := Lib.hid (show s.data.toList.length = s.size by rw [← Lib.size_eq])
  have c0 := h.cell
  have f0 := h.free
  have HH := Lib.hid h
  clear h
  by_cases h0 : n < 0
  · go_enter Try.func58, Try.ntmps58
    go_wp2
    go_ret2
    refine ⟨ret2s (by unfold ws; rw [if_pos (.inl h0)]; rfl) (by unfold we; rw [if_pos h0]), ?_, Only.refl _ _⟩
    unfold wk; rw [if_pos (.inl h0), rest0]; exact HH.out
  · obtain ⟨m, rfl⟩ : ∃ m : Nat, n = m := ⟨n.toNat, by omega⟩
    by_cases h1 : s.size < m
    · go_enter Try.func58, Try.ntmps58
      go_wp2
      go_ret2
      have h2 : (m : Int) < 0 ∨ (s.data.toList.length : Int) < m := .inr (by have := HL.out; omega)
      refine ⟨ret2s (by unfold ws; rw [if_pos h2]; rfl) (by unfold we; rw [if_neg (by omega), if_pos (by have := HL.out; omega)]), ?_, Only.refl _ _⟩
      unfold wk; rw [if_pos h2, rest0]; exact HH.out
    · go_enter Try.func58, Try.ntmps58
      go_wp2
      go_ret2
      have h2 : ¬ ((m : Int) < 0 ∨ (s.data.toList.length : Int) < m) := by have := HL.out; omega
      refine ⟨ret2s ?_ (by unfold we; rw [if_neg (by omega), if_neg (by have := HL.out; omega)]), ?_, (Only.refl (fun k => k = r) w).setCell (p := ⟨r, 0, none⟩) (.inl rfl) _⟩
      · unfold ws; rw [if_neg h2]
        exact (bs_eq (by rw [Lib.extract_data]; simp)).symm
      · unfold wk; rw [if_neg h2]
        exact HH.out.put _

end Go.Proofs.Ytkelcmncjhnbgaa
