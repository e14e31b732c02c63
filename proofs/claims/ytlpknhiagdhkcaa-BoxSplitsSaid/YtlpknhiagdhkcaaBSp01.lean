/- Texts put together: SixRefs, WalPlain, BoxPlain, Region -/
import Derived.Test.YtlpknhiagdhkcaaBSp00
import Derived.WalkKit
import Derived.WalkSpells
import Derived.WalkLawsBesides
import Derived.Lib.Hide
import Derived.Lib.Strings
import Derived.OwnWalk
import Derived.Deep.Cut
import Derived.Outline
import Derived.Laws.Rows
import Derived.Deep.MidRow
import Derived.Deep.RegionHeld3
/- The document's own answers: what siloref01's functions hand back. -/
set_option linter.unusedVariables false
set_option maxRecDepth 100000
namespace Go.Proofs.Ytlpknhiagdhkcaa
open Go.RowKit

theorem ret3 {j k m : IntKind} {a b c a' b' c' : Int} (h1 : a' = a) (h2 : b' = b) (h3 : c' = c) : Ending.returned (.tuple #[.int j a, .int k b, .int m c]) = Ending.returned (.tuple #[.int j a', .int k b', .int m c']) := by rw [h1, h2, h3]

set_option maxHeartbeats 400000 in
theorem ref_ReadWhole (s : ByteArray) (w : World) (hs : s.size ≤ maxLen) :
    Calls Try.prog 76 #[.string s] w fun e w' => e = .returned (.tuple #[.int .i64 (rn s.data.toList), .int .i64 (rk s.data.toList), .int .i64 (re s.data.toList)]) ∧ w = w' := by
  unfold maxLen at hs
  go_enter Try.func76, Try.ntmps76
  go_wp2_with fail
  go_loop [5, 6] (fun x i => ∃ k y : Nat, k ≤ s.size ∧ y ≤ 9223372036854775807 ∧ i = .int .i64 k ∧ x = .int .u64 y ∧ At s.data.toList k y) (fun _ i => s.size - (intOf i).toNat)
  case atStart => exact ⟨0, 0, Nat.zero_le _, by omega, rfl, rfl, at_zero _⟩
  case round =>
    obtain ⟨k, y, hk, hy, rfl, rfl, HR⟩ := hrel
    by_cases hlt : k < s.size
    · have HD := Lib.hid (drop_at s k hlt)
      obtain ⟨hc0, hc1⟩ := byte_le s k hlt
      go_upto_region 6 with (fail)
      generalize s[k] = b at *
      by_cases h1 : 192 ≤ ((b.toNat : Nat) : Int)
      · go_wp2
        go_ret3
        obtain ⟨e1, e2, e3⟩ := at_bad HR HD.out (by omega)
        exact ⟨ret3 e1 (by rw [e2]; rfl) e3, rfl⟩
      · by_cases h0 : b = 0
        · subst h0
          clear hc0 hc1 h1
          by_cases hk0 : k = 0
          · have hkb : (((k : Nat) : Int) == 0) = true := beq_iff_eq.2 (by omega)
            have HK := Lib.hid hk0
            clear hk0
            go_wp2
            go_ret3
            obtain ⟨e1, e2, e3⟩ := at_bad HR HD.out (.inr (.inl ⟨rfl, HK.out⟩))
            exact ⟨ret3 e1 (by rw [e2]; rfl) e3, rfl⟩
          · have hkb : (((k : Nat) : Int) == 0) = false := beq_eq_false_iff_ne.2 (by omega)
            have HK := Lib.hid hk0
            clear hk0
            by_cases h2 : 144115188075855871 < (y : Int)
            · go_wp2
              go_ret3
              obtain ⟨e1, e2, e3⟩ := at_bad HR HD.out (by omega)
              exact ⟨ret3 e1 (by rw [e2]; rfl) e3, rfl⟩
            · go_wp2
              go_round
              case rel => exact ⟨k + 1, _, by omega, by omega, by go_num, by go_num, at_next HR HD.out (by have := HK.out; have : (0 : UInt8).toNat = 0 := rfl; omega) (by decide)⟩
              case measure => simp [intOf]; omega
        · have h0' : b.toNat ≠ 0 := fun h => h0 (UInt8.toNat_inj.1 (by simpa using h))
          have hb : (((b.toNat : Nat) : Int) == 0) = false := beq_eq_false_iff_ne.2 (by omega)
          have H0 := Lib.hid h0'
          clear h0 h0'
          by_cases h2 : 144115188075855871 < (y : Int)
          · go_wp2
            go_ret3
            obtain ⟨e1, e2, e3⟩ := at_bad HR HD.out (by omega)
            exact ⟨ret3 e1 (by rw [e2]; rfl) e3, rfl⟩
          · have hN : ¬ (192 ≤ b.toNat ∨ (b.toNat = 0 ∧ k = 0) ∨ 144115188075855871 < y) := by have := H0.out; omega
            have HN := Lib.hid hN
            clear hN
            by_cases h3 : 128 ≤ ((b.toNat : Nat) : Int)
            · go_wp2
              go_ret3
              obtain ⟨e1, e2, e3⟩ := at_low HR HD.out HN.out (by omega)
              exact ⟨ret3 (by rw [e1]; omega) (by rw [e2]; rfl) e3, rfl⟩
            · by_cases h4 : 64 ≤ ((b.toNat : Nat) : Int)
              · go_wp2
                go_ret3
                obtain ⟨e1, e2, e3⟩ := at_high HR HD.out HN.out (by omega) (by omega)
                exact ⟨ret3 (by rw [e1]; omega) (by rw [e2]; rfl) e3, rfl⟩
              · go_wp2
                go_round
                case rel => exact ⟨k + 1, _, by omega, by omega, by go_num, by go_num, at_next HR HD.out HN.out (by omega)⟩
                case measure => simp [intOf]; omega
    · go_wp2
      go_ret3
      obtain ⟨e1, e2, e3⟩ := at_end HR (by simp; omega)
      exact ⟨ret3 e1 (by rw [e2]; rfl) e3, rfl⟩

set_option maxHeartbeats 400000 in
theorem ref_ReadCount (s : ByteArray) (w : World) (hs : s.size ≤ maxLen) :
    Calls Try.prog 66 #[.string s] w fun e w' => e = .returned (.tuple #[.int .i64 (cn s.data.toList), .int .i64 (ck s.data.toList), .int .i64 (ce s.data.toList)]) ∧ w = w' := by
  have H := Lib.hid (rd_cases s.data.toList)
  by_cases h0 : re s.data.toList = 0
  · have hb : (re s.data.toList == 0) = true := beq_iff_eq.2 h0
    have H0 := Lib.hid h0
    clear h0
    by_cases h1 : rn s.data.toList < 0
    · go_enter Try.func66, Try.ntmps66
      go_wp2_with (go_at_call 76; refine (ref_ReadWhole _ _ hs).mono ?_; rintro e w' ⟨rfl, rfl⟩)
      go_ret3
      have h2 : re s.data.toList = 0 ∧ rn s.data.toList < 0 := ⟨H0.out, h1⟩
      exact ⟨ret3 (by unfold cn; rw [if_pos h2]) (by unfold ck; rw [if_pos h2]; rfl) (by unfold ce; rw [if_pos h2]), rfl⟩
    · go_enter Try.func66, Try.ntmps66
      go_wp2_with (go_at_call 76; refine (ref_ReadWhole _ _ hs).mono ?_; rintro e w' ⟨rfl, rfl⟩)
      go_ret3
      have h2 : ¬ (re s.data.toList = 0 ∧ rn s.data.toList < 0) := by omega
      exact ⟨ret3 (by unfold cn; rw [if_neg h2]) (by unfold ck; rw [if_neg h2]) (by unfold ce; rw [if_neg h2]), rfl⟩
  · have hb : (re s.data.toList == 0) = false := beq_eq_false_iff_ne.2 h0
    have H0 := Lib.hid h0
    clear h0
    go_enter Try.func66, Try.ntmps66
    go_wp2_with (go_at_call 76; refine (ref_ReadWhole _ _ hs).mono ?_; rintro e w' ⟨rfl, rfl⟩)
    go_ret3
    have h2 : ¬ (re s.data.toList = 0 ∧ rn s.data.toList < 0) := fun h => H0.out h.1
    exact ⟨ret3 (by unfold cn; rw [if_neg h2]) (by unfold ck; rw [if_neg h2]) (by unfold ce; rw [if_neg h2]), rfl⟩

theorem ret3s {k m : IntKind} {s s' : ByteArray} {b c b' c' : Int} (h1 : s' = s) (h2 : b' = b) (h3 : c' = c) : Ending.returned (.tuple #[.string s, .int k b, .int m c]) = Ending.returned (.tuple #[.string s', .int k b', .int m c']) := by rw [h1, h2, h3]

set_option maxHeartbeats 400000 in
theorem ref_ReadRaw (s : ByteArray) (n : Int) (w : World) (hs : s.size ≤ maxLen) (hn1 : -9223372036854775808 ≤ n) (hn2 : n ≤ 9223372036854775807) :
    Calls Try.prog 77 #[.string s, .int .i64 n] w fun e w' => e = .returned (.tuple #[.string (bs (ws s.data.toList n)), .int .i64 (wk s.data.toList n), .int .i64 (we s.data.toList n)]) ∧ w = w' := by
  unfold maxLen at hs
  have HL := Lib.hid (show s.data.toList.length = s.size by rw [← Lib.size_eq])
  by_cases h0 : n < 0
  · go_enter Try.func77, Try.ntmps77
    go_wp2
    go_ret3
    exact ⟨ret3s (by unfold ws; rw [if_pos (.inl h0)]; rfl) (by unfold wk; rw [if_pos (.inl h0)]; rfl) (by unfold we; rw [if_pos h0]), rfl⟩
  · obtain ⟨m, rfl⟩ : ∃ m : Nat, n = m := ⟨n.toNat, by omega⟩
    by_cases h1 : s.size < m
    · go_enter Try.func77, Try.ntmps77
      go_wp2
      go_ret3
      have h2 : (m : Int) < 0 ∨ (s.data.toList.length : Int) < m := .inr (by have := HL.out; omega)
      exact ⟨ret3s (by unfold ws; rw [if_pos h2]; rfl) (by unfold wk; rw [if_pos h2]; rfl) (by unfold we; rw [if_neg (by omega), if_pos (by have := HL.out; omega)]), rfl⟩
    · go_enter Try.func77, Try.ntmps77
      go_wp2
      go_ret3
      have h2 : ¬ ((m : Int) < 0 ∨ (s.data.toList.length : Int) < m) := by have := HL.out; omega
      refine ⟨ret3s ?_ (by unfold wk; rw [if_neg h2]; omega) (by unfold we; rw [if_neg (by omega), if_neg (by have := HL.out; omega)]), rfl⟩
      unfold ws; rw [if_neg h2]
      exact (bs_eq (by rw [Lib.extract_data]; simp)).symm

theorem extract_rest (s : ByteArray) (k : Nat) : (s.extract k s.size).data.toList = s.data.toList.drop k := by
  rw [Lib.extract_data, List.take_of_length_le]
  rw [List.length_drop, ← Lib.size_eq]; exact Nat.le_refl _
theorem extract_size (s : ByteArray) (k : Nat) : (s.extract k s.size).size = s.size - k := by
  rw [Lib.size_eq, extract_rest, List.length_drop, ← Lib.size_eq]

/-- ReadText behind its two callees' answers. -/
def Ret3 (a b c : Value) (w : World) (e : Ending) (w' : World) : Prop := e = .returned (.tuple #[a, b, c]) ∧ w = w'

set_option maxHeartbeats 400000 in
theorem ref_ReadText_ok (s t : ByteArray) (n : Int) (k m : Nat) (w : World) (hk : k ≤ s.size) (hs : s.size ≤ maxLen) (hm : k + m ≤ 9223372036854775807) (h1 : -9223372036854775808 ≤ n) (h2 : n ≤ 9223372036854775807)
    (h39 : Hid (∀ w, Calls Try.prog 66 #[.string s] w (Ret3 (.int .i64 n) (.int .i64 k) (.int .i64 0) w)))
    (h42 : Hid (∀ w, Calls Try.prog 77 #[.string (s.extract k s.size), .int .i64 n] w (Ret3 (.string t) (.int .i64 m) (.int .i64 0) w))) :
    Calls Try.prog 67 #[.string s] w (Ret3 (.string t) (.int .i64 (k + m : Nat)) (.int .i64 0) w) := by
  unfold maxLen at hs
  go_enter Try.func67, Try.ntmps67
  go_wp2_with (first | (go_at_call 66; refine (h39.out _).mono ?_; rintro e w' ⟨rfl, rfl⟩) | (go_at_call 77; refine (h42.out _).mono ?_; rintro e w' ⟨rfl, rfl⟩))
  go_ret3
  exact ⟨ret3s rfl (by omega) rfl, rfl⟩

set_option maxHeartbeats 400000 in
theorem ref_ReadText_no (s t : ByteArray) (n e : Int) (k m : Nat) (w : World) (hk : k ≤ s.size) (hs : s.size ≤ maxLen) (h1 : -9223372036854775808 ≤ n) (h2 : n ≤ 9223372036854775807) (he : (e == 0) = false)
    (h39 : Hid (∀ w, Calls Try.prog 66 #[.string s] w (Ret3 (.int .i64 n) (.int .i64 k) (.int .i64 0) w)))
    (h42 : Hid (∀ w, Calls Try.prog 77 #[.string (s.extract k s.size), .int .i64 n] w (Ret3 (.string t) (.int .i64 m) (.int .i64 e) w))) :
    Calls Try.prog 67 #[.string s] w (Ret3 (.string (bs [])) (.int .i64 (0 : Nat)) (.int .i64 e) w) := by
  unfold maxLen at hs
  go_enter Try.func67, Try.ntmps67
  go_wp2_with (first | (go_at_call 66; refine (h39.out _).mono ?_; rintro e w' ⟨rfl, rfl⟩) | (go_at_call 77; refine (h42.out _).mono ?_; rintro e w' ⟨rfl, rfl⟩))
  go_ret3
  exact ⟨rfl, rfl⟩

set_option maxHeartbeats 400000 in
theorem ref_ReadText_none (s : ByteArray) (n e : Int) (k : Nat) (w : World) (he : (e == 0) = false)
    (h39 : Hid (∀ w, Calls Try.prog 66 #[.string s] w (Ret3 (.int .i64 n) (.int .i64 k) (.int .i64 e) w))) :
    Calls Try.prog 67 #[.string s] w (Ret3 (.string (bs [])) (.int .i64 (0 : Nat)) (.int .i64 e) w) := by
  go_enter Try.func67, Try.ntmps67
  go_wp2_with (go_at_call 66; refine (h39.out _).mono ?_; rintro e w' ⟨rfl, rfl⟩)
  go_ret3
  exact ⟨rfl, rfl⟩

theorem ref_ReadText (s : ByteArray) (w : World) (hs : s.size ≤ maxLen) :
    Calls Try.prog 67 #[.string s] w fun e w' => e = .returned (.tuple #[.string (bs (ts s.data.toList)), .int .i64 (tk s.data.toList), .int .i64 (te s.data.toList)]) ∧ w = w' := by
  have HL : s.data.toList.length = s.size := by rw [← Lib.size_eq]
  have h39 := fun w => ref_ReadCount s w hs
  have hm : maxLen = 9223372036854775807 := rfl
  rcases cd_cases s.data.toList with ⟨c0, c1, c2, c3, c4, _, _, _⟩ | ⟨c0, _, _⟩
  · have HZ : (s.extract (ck s.data.toList) s.size).size ≤ maxLen := by rw [extract_size]; omega
    have h42 := fun w => ref_ReadRaw (s.extract (ck s.data.toList) s.size) (cn s.data.toList) w HZ (by omega) (by omega)
    rw [extract_rest] at h42
    have HW : te s.data.toList = we (s.data.toList.drop (ck s.data.toList)) (cn s.data.toList) := by unfold te; rw [if_neg (by rw [c0]; simp)]
    have HT : ts s.data.toList = ws (s.data.toList.drop (ck s.data.toList)) (cn s.data.toList) := by unfold ts; rw [if_neg (by rw [c0]; simp)]
    rw [← HW, ← HT] at h42
    rw [c0] at h39
    rcases td_cases s.data.toList with ⟨t0, t1, t2, t3, t4, t5, t6⟩ | ⟨t0, t1, t2⟩
    · rw [t0] at h42
      have hk : tk s.data.toList = ck s.data.toList + wk (s.data.toList.drop (ck s.data.toList)) (cn s.data.toList) := by unfold tk; rw [if_neg (by rw [t0]; simp)]
      rw [t0, hk]
      exact ref_ReadText_ok s _ _ _ _ w (by omega) hs (by omega) (by omega) (by omega) (Lib.hid h39) (Lib.hid h42)
    · rw [t1, t2]
      exact ref_ReadText_no s _ _ _ _ _ w (by omega) hs (by omega) (by omega) (beq_eq_false_iff_ne.2 (by omega)) (Lib.hid h39) (Lib.hid h42)
  · have e1 : te s.data.toList = ce s.data.toList := by unfold te; rw [if_pos (by omega)]
    have e2 : ts s.data.toList = [] := by unfold ts; rw [if_pos (by omega)]
    have e3 : tk s.data.toList = 0 := by unfold tk; rw [if_pos (by omega)]
    rw [e1, e2, e3]
    exact ref_ReadText_none s _ _ _ w (beq_eq_false_iff_ne.2 (by omega)) (Lib.hid h39)

end Go.Proofs.Ytlpknhiagdhkcaa
/- Logs in plain words: frames, and the records that any bytes bear. -/
set_option linter.unusedVariables false
set_option maxRecDepth 100000
set_option maxRecDepth 100000
namespace Go.Proofs.Ytlpknhiagdhkcaa

theorem cn_of' {l : List UInt8} (h : ce l = 0) : re l = 0 ∧ cn l = rn l ∧ ck l = rk l ∧ 0 ≤ rn l := by
  rcases cd_cases l with ⟨_, _, _, h1, _, h2, h3, h4⟩ | ⟨h1, _⟩
  · exact ⟨h2, h3, h4, by omega⟩
  · omega
/-- A count, and what is behind it. -/
theorem cd_whole {n : Nat} (h : n ≤ 9223372036854775807) (t : List UInt8) : ce (whole (n : Int) ++ t) = 0 ∧ cn (whole (n : Int) ++ t) = n ∧ ck (whole (n : Int) ++ t) = (whole (n : Int)).length := by
  have r := rd_whole (n := (n : Int)) (by omega) (by omega) t
  simp only [ce, cn, ck, r.1, r.2.1, r.2.2]
  simp
  constructor <;> intro <;> omega
/-- A text, and what is behind it. -/
theorem td_text {s : List UInt8} (h : s.length ≤ 9223372036854775807) (t : List UInt8) : te (text s ++ t) = 0 ∧ ts (text s ++ t) = s ∧ tk (text s ++ t) = (text s).length := by
  have c := cd_whole (n := s.length) h (s ++ t)
  have e : text s ++ t = whole (s.length : Int) ++ (s ++ t) := by unfold text; rw [List.append_assoc]
  have hd : (text s ++ t).drop (whole (s.length : Int)).length = s ++ t := by rw [e, List.drop_left]
  rw [← e] at c
  have hws : ws (s ++ t) (s.length : Int) = s ∧ wk (s ++ t) (s.length : Int) = s.length ∧ we (s ++ t) (s.length : Int) = 0 := by
    unfold ws wk we
    rw [if_neg (by simp; omega), if_neg (by simp; omega), if_neg (by omega), if_neg (by simp; omega)]
    simp
  have hte : te (text s ++ t) = 0 := by unfold te; rw [if_neg (by omega), c.2.2, c.2.1, hd]; exact hws.2.2
  refine ⟨hte, by unfold ts; rw [if_neg (by omega), c.2.2, c.2.1, hd]; exact hws.1, ?_⟩
  unfold tk
  rw [if_neg (by omega), c.2.2, c.2.1, hd, hws.2.1, text, List.length_append]
/-- A text that is read, back. -/
theorem td_back {l : List UInt8} (h : te l = 0) : text (ts l) ++ l.drop (tk l) = l ∧ tk l = (text (ts l)).length := by
  rcases td_cases l with ⟨_, b1, b2, b3, b4, b5, b6⟩ | ⟨b1, _⟩
  · have hd := cn_of' b1
    obtain ⟨c1, c2⟩ := rd_back hd.1
    have hlen : (ts l).length = (cn l).toNat := by rw [b6, List.length_take, List.length_drop]; omega
    have hw : whole ((ts l).length : Int) = whole (rn l) := by rw [hlen, show (((cn l).toNat : Nat) : Int) = rn l by omega]
    have hk : tk l = (text (ts l)).length := by rw [text, List.length_append, hw, hlen, b5, hd.2.2.1, c2]
    refine ⟨?_, hk⟩
    rw [text, hw, List.append_assoc]
    have : ts l ++ l.drop (tk l) = l.drop (rk l) := by
      rw [b6, b5, ← List.drop_drop, hd.2.2.1]
      exact List.take_append_drop ..
    rw [this, c1]
  · omega

/-- A record's frame; the frames of records, one behind the other. -/
def frameL (r : List UInt8) : List UInt8 := text r ++ four (sumL (text r))
def framesL : List (List UInt8) → List UInt8
  | [] => []
  | r :: L => frameL r ++ framesL L
theorem framesL_append : ∀ L M : List (List UInt8), framesL (L ++ M) = framesL L ++ framesL M
  | [], M => rfl
  | r :: L, M => by show frameL r ++ framesL (L ++ M) = _; rw [framesL_append L M, ← List.append_assoc]; rfl
theorem framesL_one (r : List UInt8) : framesL [r] = frameL r := List.append_nil _
theorem frameL_len (r : List UInt8) : (frameL r).length = (text r).length + 4 := by rw [frameL, List.length_append, four_len]
theorem frameL_pos (r : List UInt8) : 4 ≤ (frameL r).length := by rw [frameL_len]; omega
theorem text_le {r : List UInt8} (h : r.length ≤ 9223372036854775807) : (text r).length ≤ r.length + 11 := by
  have := (whole_len (n := (r.length : Int)) (by omega) (by omega)).1
  rw [text, List.length_append]
  omega
theorem frameL_le {r : List UInt8} (h : r.length ≤ 9223372036854775807) : (frameL r).length ≤ r.length + 15 := by
  have := text_le h
  rw [frameL_len]
  omega


/-- The record of the whole frame that bytes begin with, and how many bytes the frame has. -/
def firstL (l : List UInt8) : Option (List UInt8 × Nat) :=
  if te l = 0 ∧ (ts l).length ≤ 1048576 ∧ tk l + 4 ≤ l.length ∧ okT (l.take (tk l + 4)) then some (ts l, tk l + 4) else none
theorem first_yes {l : List UInt8} (h1 : te l = 0) (h2 : (ts l).length ≤ 1048576) (h3 : tk l + 4 ≤ l.length) (h4 : okT (l.take (tk l + 4))) : firstL l = some (ts l, tk l + 4) := by unfold firstL; rw [if_pos ⟨h1, h2, h3, h4⟩]
theorem first_no {l : List UInt8} (h : ¬ (te l = 0 ∧ (ts l).length ≤ 1048576 ∧ tk l + 4 ≤ l.length ∧ okT (l.take (tk l + 4)))) : firstL l = none := by unfold firstL; rw [if_neg h]
theorem first_some {l : List UInt8} {r : List UInt8} {k : Nat} (h : firstL l = some (r, k)) : te l = 0 ∧ r.length ≤ 1048576 ∧ tk l + 4 ≤ l.length ∧ okT (l.take (tk l + 4)) ∧ r = ts l ∧ k = tk l + 4 := by
  unfold firstL at h
  split at h
  · rename_i hc
    cases h
    exact ⟨hc.1, hc.2.1, hc.2.2.1, hc.2.2.2, rfl, rfl⟩
  · cases h
theorem frame_first {r : List UInt8} (h : r.length ≤ 1048576) (t : List UInt8) : firstL (frameL r ++ t) = some (r, (frameL r).length) := by
  have e : frameL r ++ t = text r ++ (four (sumL (text r)) ++ t) := by rw [frameL, List.append_assoc]
  obtain ⟨a1, a2, a3⟩ := td_text (s := r) (by omega) (four (sumL (text r)) ++ t)
  rw [← e] at a1 a2 a3
  have hk : tk (frameL r ++ t) + 4 = (frameL r).length := by rw [a3, frameL_len]
  have hok : okT ((frameL r ++ t).take (tk (frameL r ++ t) + 4)) := by
    rw [hk, List.take_left]
    unfold okT
    rw [frameL_len, Nat.add_sub_cancel, frameL, List.drop_left, List.take_left]
  rw [first_yes a1 (by rw [a2]; exact h) (by rw [hk, List.length_append]; omega) hok, hk, a2]
theorem first_back {l r : List UInt8} {k : Nat} (h : firstL l = some (r, k)) : r.length ≤ 1048576 ∧ frameL r ++ l.drop k = l ∧ k = (frameL r).length := by
  obtain ⟨h1, h2, h3, h4, rfl, rfl⟩ := first_some h
  obtain ⟨b1, b2⟩ := td_back h1
  have hlen : (l.take (tk l + 4)).length = tk l + 4 := by rw [List.length_take]; omega
  unfold okT at h4
  rw [hlen, Nat.add_sub_cancel, List.take_take, Nat.min_eq_left (by omega)] at h4
  have htk : l.take (tk l) = text (ts l) := by
    have := congrArg (List.take (tk l)) b1
    rw [← this]
    conv => lhs; rw [b2]
    rw [List.take_left]
  have hfr : l.take (tk l + 4) = frameL (ts l) := by
    rw [← List.take_append_drop (tk l) (l.take (tk l + 4)), h4, List.take_take, Nat.min_eq_left (by omega), htk]
    rfl
  refine ⟨h2, ?_, ?_⟩
  · rw [← hfr, List.take_append_drop]
  · rw [frameL_len, ← b2]
theorem first_lt {l r : List UInt8} {k : Nat} (h : firstL l = some (r, k)) : 0 < k ∧ k ≤ l.length := by
  obtain ⟨h1, h2, h3, h4, rfl, rfl⟩ := first_some h
  omega

/-- The records that bytes begin with, and how many bytes their frames have. -/
def splitL (l : List UInt8) : List (List UInt8) × Nat :=
  match h : firstL l with
  | none => ([], 0)
  | some (r, k) => (r :: (splitL (l.drop k)).1, k + (splitL (l.drop k)).2)
termination_by l.length
decreasing_by
  all_goals
    have := first_lt h
    rw [List.length_drop]
    omega
theorem split_none {l : List UInt8} (h : firstL l = none) : splitL l = ([], 0) := by
  rw [splitL]
  split
  · rfl
  · rename_i h'; rw [h] at h'; cases h'
theorem split_some {l r : List UInt8} {k : Nat} (h : firstL l = some (r, k)) : splitL l = (r :: (splitL (l.drop k)).1, k + (splitL (l.drop k)).2) := by
  rw [splitL]
  split
  · rename_i h'; rw [h] at h'; cases h'
  · rename_i r' k' h'; rw [h] at h'; cases h'; rfl
theorem split_frames : ∀ (L : List (List UInt8)) (t : List UInt8), (∀ r ∈ L, r.length ≤ 1048576) → splitL (framesL L ++ t) = (L ++ (splitL t).1, (framesL L).length + (splitL t).2)
  | [], t, _ => by simp [framesL]
  | r :: L, t, h => by
    have ih := split_frames L t (fun x hx => h x (List.mem_cons_of_mem _ hx))
    have e : framesL (r :: L) ++ t = frameL r ++ (framesL L ++ t) := List.append_assoc ..
    rw [e, split_some (frame_first (h r (List.mem_cons_self ..)) _), List.drop_left, ih]
    show _ = (r :: (L ++ (splitL t).1), (frameL r ++ framesL L).length + (splitL t).2)
    rw [List.length_append, Nat.add_assoc]
theorem split_back (n : Nat) : ∀ l : List UInt8, l.length ≤ n → framesL (splitL l).1 ++ l.drop (splitL l).2 = l ∧ (splitL l).2 = (framesL (splitL l).1).length ∧ ∀ r ∈ (splitL l).1, r.length ≤ 1048576 := by
  induction n with
  | zero =>
    intro l hl
    have h0 : firstL l = none := by
      rcases hf : firstL l with _ | ⟨r, k⟩
      · rfl
      · have := first_lt hf; omega
    rw [split_none h0]
    exact ⟨rfl, rfl, fun r hr => by cases hr⟩
  | succ n ih =>
    intro l hl
    rcases hf : firstL l with _ | ⟨r, k⟩
    · rw [split_none hf]; exact ⟨rfl, rfl, fun r hr => by cases hr⟩
    · have hlt := first_lt hf
      obtain ⟨h1, h2, h3⟩ := first_back hf
      obtain ⟨i1, i2, i3⟩ := ih (l.drop k) (by rw [List.length_drop]; omega)
      rw [split_some hf]
      refine ⟨?_, ?_, ?_⟩
      · show (frameL r ++ framesL (splitL (l.drop k)).1) ++ l.drop (k + (splitL (l.drop k)).2) = l
        rw [← List.drop_drop, List.append_assoc, i1, h2]
      · show k + (splitL (l.drop k)).2 = (frameL r ++ framesL (splitL (l.drop k)).1).length
        rw [List.length_append, ← i2, ← h3]
      · intro x hx
        rcases List.mem_cons.1 hx with rfl | hx
        · exact h1
        · exact i3 x hx
theorem split_le (l : List UInt8) : (splitL l).2 ≤ l.length := by
  obtain ⟨h1, h2, _⟩ := split_back l.length l (Nat.le_refl _)
  have := congrArg List.length h1
  rw [List.length_append] at this
  omega

/-- How many of the records have their frames wholly among the first k bytes. -/
def wholeN : List (List UInt8) → Nat → Nat
  | [], _ => 0
  | r :: L, k => if (frameL r).length ≤ k then wholeN L (k - (frameL r).length) + 1 else 0
theorem whole_le : ∀ (L : List (List UInt8)) (k : Nat), wholeN L k ≤ L.length
  | [], _ => Nat.le_refl _
  | r :: L, k => by
    unfold wholeN
    split
    · have := whole_le L (k - (frameL r).length); simp; omega
    · simp
theorem whole_iff : ∀ (L : List (List UInt8)) (k j : Nat), j ≤ L.length → (j ≤ wholeN L k ↔ (framesL (L.take j)).length ≤ k)
  | [], k, j, h => by have : j = 0 := Nat.le_zero.1 h; subst this; simp [framesL]
  | r :: L, k, 0, h => by simp [framesL]
  | r :: L, k, j + 1, h => by
    have ih := whole_iff L (k - (frameL r).length) j (by simpa using h)
    have e : (framesL ((r :: L).take (j + 1))).length = (frameL r).length + (framesL (L.take j)).length := by
      show (frameL r ++ framesL (L.take j)).length = _
      rw [List.length_append]
    rw [e]
    unfold wholeN
    split
    · constructor
      · intro hh; have := ih.1 (by omega); omega
      · intro hh; have := ih.2 (by omega); omega
    · constructor
      · intro hh; omega
      · intro hh; omega
theorem whole_in (L : List (List UInt8)) (k : Nat) : (framesL (L.take (wholeN L k))).length ≤ k := (whole_iff L k _ (whole_le L k)).1 (Nat.le_refl _)
theorem whole_is {L : List (List UInt8)} {k j : Nat} (hj : j ≤ L.length) (h1 : (framesL (L.take j)).length ≤ k) (h2 : j < L.length → k < (framesL (L.take (j + 1))).length) : wholeN L k = j := by
  have a := (whole_iff L k j hj).2 h1
  rcases Nat.lt_or_ge j (wholeN L k) with h | h
  · have hl := whole_le L k
    have := (whole_iff L k (j + 1) (by omega)).1 h
    have := h2 (by omega)
    omega
  · omega
theorem first_part {r p q : List UInt8} (hr : r.length ≤ 1048576) (h : frameL r = p ++ q) (hq : q ≠ []) : firstL p = none := by
  rcases hf : firstL p with _ | ⟨r', k⟩
  · rfl
  · obtain ⟨b1, b2, b3⟩ := first_back hf
    have hlt := first_lt hf
    have e : frameL r ++ [] = frameL r' ++ (p.drop k ++ q) := by rw [List.append_nil, h, ← List.append_assoc, b2]
    have f1 := frame_first hr []
    rw [e, frame_first b1] at f1
    cases f1
    have hl := congrArg List.length h
    rw [List.length_append] at hl
    have : 0 < q.length := List.length_pos_iff.2 hq
    omega
/-- What frames bear that are cut off. -/
theorem split_cut : ∀ (L : List (List UInt8)) (k : Nat), (∀ r ∈ L, r.length ≤ 1048576) → splitL ((framesL L).take k) = (L.take (wholeN L k), (framesL (L.take (wholeN L k))).length)
  | [], k, _ => by
    have h0 : firstL (([] : List UInt8).take k) = none := by
      rcases hf : firstL (([] : List UInt8).take k) with _ | ⟨r, j⟩
      · rfl
      · have := first_lt hf
        simp at this
        omega
    show splitL (([] : List UInt8).take k) = _
    rw [split_none h0]
    simp [wholeN, framesL]
  | r :: L, k, h => by
    have hr := h r (List.mem_cons_self ..)
    unfold wholeN
    split
    · rename_i hk
      have ih := split_cut L (k - (frameL r).length) (fun x hx => h x (List.mem_cons_of_mem _ hx))
      have e : (framesL (r :: L)).take k = frameL r ++ (framesL L).take (k - (frameL r).length) := by
        show (frameL r ++ framesL L).take k = _
        rw [List.take_append, List.take_of_length_le hk]
      rw [e, split_some (frame_first hr _), List.drop_left, ih]
      show _ = (r :: L.take _, (frameL r ++ framesL (L.take _)).length)
      rw [List.length_append]
    · rename_i hk
      have e : (framesL (r :: L)).take k = (frameL r).take k := by
        show (frameL r ++ framesL L).take k = _
        rw [List.take_append_of_le_length (by omega)]
      rw [e, split_none (first_part hr (List.take_append_drop k (frameL r)).symm (by intro hh; have := congrArg List.length hh; simp at this; omega))]
      simp [framesL]
theorem take_eq_split {l m : List UInt8} {k j : Nat} (h : l.take k = m.take k) (hj : j ≤ k) : l.take j = m.take j := by
  have := congrArg (List.take j) h
  rwa [List.take_take, List.take_take, Nat.min_eq_left hj] at this
/-- Bytes that begin as frames do, up to a place, bear the whole ones ahead of it. -/
theorem split_turned {L : List (List UInt8)} {b : List UInt8} {k : Nat} (hL : ∀ r ∈ L, r.length ≤ 1048576) (h : b.take k = (framesL L).take k) : ∃ M, (splitL b).1 = L.take (wholeN L k) ++ M := by
  have hin := whole_in L k
  have e : b = framesL (L.take (wholeN L k)) ++ b.drop (framesL (L.take (wholeN L k))).length := by
    have h2 := take_eq_split h hin
    have e2 : framesL L = framesL (L.take (wholeN L k)) ++ framesL (L.drop (wholeN L k)) := by rw [← framesL_append, List.take_append_drop]
    have e3 : (framesL L).take (framesL (L.take (wholeN L k))).length = framesL (L.take (wholeN L k)) := by
      conv => lhs; arg 2; rw [e2]
      rw [List.take_left]
    rw [e3] at h2
    conv => lhs; rw [← List.take_append_drop (framesL (L.take (wholeN L k))).length b, h2]
  rw [e, split_frames _ _ (fun r hr => hL r (List.mem_of_mem_take hr))]
  exact ⟨_, rfl⟩
end Go.Proofs.Ytlpknhiagdhkcaa
/- Records of chunks in plain words: their bytes, and which records any bytes are. -/
set_option linter.unusedVariables false
set_option maxRecDepth 100000
namespace Go.Proofs.Ytlpknhiagdhkcaa

/-- A record. -/
structure RecB where
  key : List UInt8
  base : List UInt8
  patch : Bool
  body : List UInt8
def zero32 : List UInt8 := List.replicate 32 0
theorem zero32_len : zero32.length = 32 := by simp [zero32]
def RecB.zero : RecB := ⟨zero32, zero32, false, []⟩
structure RecB.Ok (r : RecB) : Prop where
  key : r.key.length = 32
  base : r.base.length = 32
theorem RecB.zero_ok : RecB.zero.Ok := ⟨zero32_len, zero32_len⟩

/-- A record's parts, ahead of its sum; its error; its bytes. -/
def midR (r : RecB) : List UInt8 := if r.patch = true then whole 1 ++ r.base else whole 0
def partsR (r : RecB) : List UInt8 := r.key ++ (midR r ++ text r.body)
def packE (r : RecB) : Int := if 8192 < r.body.length then 6 else if r.patch = false ∧ r.base ≠ zero32 then 1 else 0
def packL (r : RecB) : List UInt8 := partsR r ++ four (sumL (partsR r))
def packT (r : RecB) : List UInt8 := if packE r = 0 then packL r else []

theorem whole0 : whole 0 = [64] := by
  unfold whole; rw [if_neg (by omega)]; unfold grp
  rw [show (0 : Int).toNat / 64 = 0 from rfl, lead_zero]; rfl
theorem whole1 : whole 1 = [65] := by
  unfold whole; rw [if_neg (by omega)]; unfold grp
  rw [show (1 : Int).toNat / 64 = 0 from rfl, lead_zero]; rfl
theorem packE_ok {r : RecB} (h : packE r = 0) : r.body.length ≤ 8192 ∧ (r.patch = false → r.base = zero32) := by
  unfold packE at h
  split at h
  · omega
  · split at h
    · omega
    · rename_i h1 h2
      refine ⟨by omega, fun hp => Classical.byContradiction fun hb => h2 ⟨hp, hb⟩⟩
theorem packE_of {r : RecB} (h1 : r.body.length ≤ 8192) (h2 : r.patch = false → r.base = zero32) : packE r = 0 := by
  unfold packE
  rw [if_neg (by omega), if_neg (fun h => h.2 (h2 h.1))]
theorem packE_cases (r : RecB) : packE r = 0 ∨ packE r = 1 ∨ packE r = 6 := by
  unfold packE; split
  · simp
  · split <;> simp
theorem packT_ok {r : RecB} (h : packE r = 0) : packT r = packL r := by unfold packT; rw [if_pos h]
theorem packT_no {r : RecB} (h : packE r ≠ 0) : packT r = [] := by unfold packT; rw [if_neg h]

/-! ### Read -/
def cAt (l : List UInt8) : List UInt8 := l.drop 32
def bAt (l : List UInt8) : List UInt8 := (cAt l).drop (ck (cAt l))
def tAt (l : List UInt8) : List UInt8 := if cn (cAt l) = 1 then (bAt l).drop 32 else bAt l
def rdE (l : List UInt8) : Int :=
  if l.length < 32 then 2 else if ce (cAt l) ≠ 0 then ce (cAt l) else if 1 < cn (cAt l) then 3 else if cn (cAt l) = 1 ∧ (bAt l).length < 32 then 2
  else if te (tAt l) ≠ 0 then te (tAt l) else if 8192 < (ts (tAt l)).length then 6 else 0
def rdV (l : List UInt8) : RecB := ⟨l.take 32, if cn (cAt l) = 1 then (bAt l).take 32 else zero32, decide (cn (cAt l) = 1), ts (tAt l)⟩
def rdR (l : List UInt8) : RecB := if rdE l = 0 then rdV l else RecB.zero
def rdN (l : List UInt8) : Nat := 32 + ck (cAt l) + (if cn (cAt l) = 1 then 32 else 0) + tk (tAt l)
def rdK (l : List UInt8) : Nat := if rdE l = 0 then rdN l else 0

theorem rdE_ok {l : List UInt8} (h : rdE l = 0) : 32 ≤ l.length ∧ ce (cAt l) = 0 ∧ cn (cAt l) ≤ 1 ∧ (cn (cAt l) = 1 → 32 ≤ (bAt l).length) ∧ te (tAt l) = 0 ∧ (ts (tAt l)).length ≤ 8192 := by
  unfold rdE at h
  split at h
  · omega
  · split at h
    · omega
    · split at h
      · omega
      · split at h
        · omega
        · split at h
          · omega
          · split at h
            · omega
            · rename_i h1 h2 h3 h4 h5 h6
              refine ⟨by omega, by omega, by omega, fun h => ?_, by omega, by omega⟩
              rcases Nat.lt_or_ge (bAt l).length 32 with x | x
              · exact absurd ⟨h, x⟩ h4
              · exact x
theorem rdE_of {l : List UInt8} (h1 : 32 ≤ l.length) (h2 : ce (cAt l) = 0) (h3 : cn (cAt l) ≤ 1) (h4 : cn (cAt l) = 1 → 32 ≤ (bAt l).length) (h5 : te (tAt l) = 0) (h6 : (ts (tAt l)).length ≤ 8192) : rdE l = 0 := by
  unfold rdE
  rw [if_neg (by omega), if_neg (by omega), if_neg (by omega), if_neg (fun h => by have := h4 h.1; omega), if_neg (by omega), if_neg (by omega)]

/-- What was read were a record's parts. -/
theorem rd_parts_back {l : List UInt8} (h : rdE l = 0) : partsR (rdR l) ++ l.drop (rdK l) = l ∧ rdK l = (partsR (rdR l)).length ∧ (rdR l).Ok ∧ packE (rdR l) = 0 := by
  obtain ⟨h1, h2, h3, h4, h5, h6⟩ := rdE_ok h
  have hd := cn_of' h2
  obtain ⟨c1, c2⟩ := rd_back hd.1
  obtain ⟨t1, t2⟩ := td_back h5
  rw [show rdR l = rdV l by unfold rdR; rw [if_pos h], show rdK l = rdN l by unfold rdK; rw [if_pos h]]
  have hz : cn (cAt l) = 0 ∨ cn (cAt l) = 1 := by omega
  have hw : whole (cn (cAt l)) ++ bAt l = cAt l := by unfold bAt; rw [hd.2.1, hd.2.2.1]; exact c1
  have hwl : ck (cAt l) = (whole (cn (cAt l))).length := by rw [hd.2.2.1, hd.2.1]; exact c2
  have e32 : l.take 32 ++ cAt l = l := List.take_append_drop ..
  rcases hz with hz | hz
  · have hm : midR (rdV l) = whole 0 := by unfold midR rdV; simp [hz]
    have hT : tAt l = bAt l := by unfold tAt; rw [if_neg (by omega)]
    rw [hT] at t1 t2 h5 h6
    have hb : (rdV l).body = ts (bAt l) := by show ts (tAt l) = _; rw [hT]
    have hp : partsR (rdV l) = l.take 32 ++ (whole 0 ++ text (ts (bAt l))) := by unfold partsR; rw [hm, hb]; rfl
    have hN : rdN l = 32 + (ck (cAt l) + tk (bAt l)) := by unfold rdN; rw [if_neg (by omega), hT]; omega
    have hdrop : l.drop (rdN l) = (bAt l).drop (tk (bAt l)) := by
      rw [hN, ← List.drop_drop, ← List.drop_drop]; rfl
    rw [hz] at hw hwl
    refine ⟨?_, ?_, ⟨by show (l.take 32).length = 32; rw [List.length_take]; omega, ?_⟩, packE_of ?_ fun _ => ?_⟩
    · rw [hp, hdrop, List.append_assoc, List.append_assoc, t1, hw, e32]
    · rw [hp, List.length_append, List.length_append, List.length_take, ← t2, ← hwl, hN]; omega
    · show (if cn (cAt l) = 1 then (bAt l).take 32 else zero32).length = 32
      rw [if_neg (by omega)]; exact zero32_len
    · rw [hb]; exact h6
    · show (if cn (cAt l) = 1 then (bAt l).take 32 else zero32) = zero32
      rw [if_neg (by omega)]
  · have hB := h4 hz
    have hm : midR (rdV l) = whole 1 ++ (bAt l).take 32 := by unfold midR rdV; simp [hz]
    have hT : tAt l = (bAt l).drop 32 := by unfold tAt; rw [if_pos hz]
    rw [hT] at t1 t2 h5 h6
    have hb : (rdV l).body = ts ((bAt l).drop 32) := by show ts (tAt l) = _; rw [hT]
    have hp : partsR (rdV l) = l.take 32 ++ ((whole 1 ++ (bAt l).take 32) ++ text (ts ((bAt l).drop 32))) := by unfold partsR; rw [hm, hb]; rfl
    have hN : rdN l = 32 + (ck (cAt l) + (32 + tk ((bAt l).drop 32))) := by unfold rdN; rw [if_pos hz, hT]; omega
    have hdrop : l.drop (rdN l) = ((bAt l).drop 32).drop (tk ((bAt l).drop 32)) := by
      rw [hN, ← List.drop_drop, ← List.drop_drop, ← List.drop_drop]; rfl
    rw [hz] at hw hwl
    refine ⟨?_, ?_, ⟨by show (l.take 32).length = 32; rw [List.length_take]; omega, ?_⟩, packE_of ?_ fun hp => ?_⟩
    · rw [hp, hdrop, List.append_assoc, List.append_assoc, List.append_assoc, t1, List.take_append_drop, hw, e32]
    · rw [hp, List.length_append, List.length_append, List.length_append, List.length_take, List.length_take, ← t2, ← hwl, hN]; omega
    · show (if cn (cAt l) = 1 then (bAt l).take 32 else zero32).length = 32
      rw [if_pos hz, List.length_take]; omega
    · rw [hb]; exact h6
    · have : decide (cn (cAt l) = 1) = false := hp
      rw [hz] at this; simp at this

/-- A record's parts, and what stands behind them, are read as that record. -/
theorem rd_parts {r : RecB} (hr : r.Ok) (h : packE r = 0) (t : List UInt8) : rdE (partsR r ++ t) = 0 ∧ rdR (partsR r ++ t) = r ∧ rdK (partsR r ++ t) = (partsR r).length := by
  obtain ⟨hb, hz⟩ := packE_ok h
  have e : partsR r ++ t = r.key ++ (midR r ++ (text r.body ++ t)) := by unfold partsR; rw [List.append_assoc, List.append_assoc]
  have hc : cAt (partsR r ++ t) = midR r ++ (text r.body ++ t) := by unfold cAt; rw [e, ← hr.key, List.drop_left]
  have hk : (partsR r ++ t).take 32 = r.key := by rw [e, ← hr.key, List.take_left]
  obtain ⟨x1, x2, x3⟩ := td_text (s := r.body) (by omega) t
  have hlen : 32 ≤ (partsR r ++ t).length := by rw [e, List.length_append, hr.key]; omega
  rcases hp : r.patch with _ | _
  · have hm : midR r = whole ((0 : Nat) : Int) := by unfold midR; rw [hp]; simp
    rw [hm] at hc
    obtain ⟨d1, d2, d3⟩ := cd_whole (n := 0) (by omega) (text r.body ++ t)
    rw [← hc] at d1 d2 d3
    have hB : bAt (partsR r ++ t) = text r.body ++ t := by unfold bAt; rw [d3, hc, List.drop_left]
    have hT : tAt (partsR r ++ t) = text r.body ++ t := by unfold tAt; rw [if_neg (by rw [d2]; decide), hB]
    rw [← hT] at x1 x2 x3
    have hE : rdE (partsR r ++ t) = 0 := rdE_of hlen d1 (by rw [d2]; decide) (fun h => by rw [d2] at h; cases h) x1 (by rw [x2]; exact hb)
    refine ⟨hE, ?_, ?_⟩
    · unfold rdR; rw [if_pos hE]
      unfold rdV; rw [hk, if_neg (by rw [d2]; decide), x2, d2, ← hz hp]
      cases r; simp at hp; subst hp; rfl
    · unfold rdK; rw [if_pos hE]
      unfold rdN; rw [d3, if_neg (by rw [d2]; decide), x3]
      unfold partsR
      rw [List.length_append, List.length_append, hm, hr.key]; omega
  · have hm : midR r = whole ((1 : Nat) : Int) ++ r.base := by unfold midR; rw [hp]; simp
    rw [hm, List.append_assoc] at hc
    obtain ⟨d1, d2, d3⟩ := cd_whole (n := 1) (by omega) (r.base ++ (text r.body ++ t))
    rw [← hc] at d1 d2 d3
    have hB : bAt (partsR r ++ t) = r.base ++ (text r.body ++ t) := by unfold bAt; rw [d3, hc, List.drop_left]
    have hB1 : (bAt (partsR r ++ t)).take 32 = r.base := by rw [hB, ← hr.base, List.take_left]
    have hT : tAt (partsR r ++ t) = text r.body ++ t := by unfold tAt; rw [if_pos (by rw [d2]; rfl), hB, ← hr.base, List.drop_left]
    rw [← hT] at x1 x2 x3
    have hE : rdE (partsR r ++ t) = 0 := rdE_of hlen d1 (by rw [d2]; decide) (fun _ => by rw [hB, List.length_append, hr.base]; omega) x1 (by rw [x2]; exact hb)
    refine ⟨hE, ?_, ?_⟩
    · unfold rdR; rw [if_pos hE]
      unfold rdV; rw [hk, if_pos (by rw [d2]; rfl), hB1, x2, d2]
      cases r; simp at hp; subst hp; rfl
    · unfold rdK; rw [if_pos hE]
      unfold rdN; rw [d3, if_pos (by rw [d2]; rfl), x3]
      unfold partsR
      rw [List.length_append, List.length_append, hm, List.length_append, hr.key, hr.base]; omega

theorem rdK_le {l : List UInt8} (h : rdE l = 0) : 0 < rdK l ∧ rdK l ≤ l.length := by
  obtain ⟨h1, h2, h3, h4⟩ := rd_parts_back h
  have := congrArg List.length h1
  rw [List.length_append] at this
  refine ⟨?_, by omega⟩
  rw [h2]; unfold partsR; rw [List.length_append, h3.key]; omega
theorem rdR_ok (l : List UInt8) : (rdR l).Ok := by
  by_cases h : rdE l = 0
  · exact (rd_parts_back h).2.2.1
  · unfold rdR; rw [if_neg h]; exact RecB.zero_ok

/-! ### Whole records -/
def openE (s : List UInt8) : Int := if takeE s ≠ 0 then takeE s else if rdE (takeT s) ≠ 0 then rdE (takeT s) else if rdK (takeT s) < (takeT s).length then 5 else 0
def openR (s : List UInt8) : RecB := if openE s = 0 then rdR (takeT s) else RecB.zero
theorem openE_ok {s : List UInt8} (h : openE s = 0) : takeE s = 0 ∧ rdE (takeT s) = 0 ∧ rdK (takeT s) = (takeT s).length := by
  unfold openE at h
  split at h
  · omega
  · split at h
    · omega
    · split at h
      · omega
      · rename_i h1 h2 h3
        have := rdK_le (l := takeT s) (by omega)
        exact ⟨by omega, by omega, by omega⟩
theorem take_of {s : List UInt8} (h : takeE s = 0) : takeT s ++ four (sumL (takeT s)) = s ∧ 4 ≤ s.length := by
  unfold takeE at h
  split at h
  · omega
  · split at h
    · rename_i h1 h2
      have e : takeT s = s.take (s.length - 4) := by unfold takeT; rw [if_pos ⟨by omega, h2⟩]
      unfold okT at h2
      exact ⟨by rw [e, ← h2, List.take_append_drop], by omega⟩
    · omega
theorem take_put (l : List UInt8) : takeE (l ++ four (sumL l)) = 0 ∧ takeT (l ++ four (sumL l)) = l := by
  have hl : (l ++ four (sumL l)).length = l.length + 4 := by rw [List.length_append, four_len]
  have hok : okT (l ++ four (sumL l)) := by unfold okT; rw [hl, Nat.add_sub_cancel, List.drop_left, List.take_left]
  refine ⟨by unfold takeE; rw [if_neg (by omega), if_pos hok], ?_⟩
  unfold takeT
  rw [if_pos ⟨by omega, hok⟩, hl, Nat.add_sub_cancel, List.take_left]
theorem open_pack {r : RecB} (hr : r.Ok) (h : packE r = 0) : openE (packL r) = 0 ∧ openR (packL r) = r := by
  obtain ⟨a1, a2⟩ := take_put (partsR r)
  obtain ⟨b1, b2, b3⟩ := rd_parts hr h []
  rw [List.append_nil] at b1 b2 b3
  have hE : openE (packL r) = 0 := by unfold openE packL; rw [if_neg (by omega), a2, if_neg (by omega), if_neg (by omega)]
  refine ⟨hE, ?_⟩
  unfold openR; rw [if_pos hE]; unfold packL; rw [a2, b2]
theorem pack_open {s : List UInt8} (h : openE s = 0) : (openR s).Ok ∧ packE (openR s) = 0 ∧ packL (openR s) = s := by
  obtain ⟨h1, h2, h3⟩ := openE_ok h
  obtain ⟨a1, a2⟩ := take_of h1
  obtain ⟨b1, b2, b3, b4⟩ := rd_parts_back h2
  have e : openR s = rdR (takeT s) := by unfold openR; rw [if_pos h]
  rw [h3, List.drop_length, List.append_nil] at b1
  refine ⟨e ▸ b3, e ▸ b4, ?_⟩
  rw [e]; unfold packL; rw [b1, a1]
theorem openR_ok (s : List UInt8) : (openR s).Ok := by
  unfold openR; split
  · exact rdR_ok _
  · exact RecB.zero_ok

/-! ### Records, one behind the other -/
/-- The whole record that bytes begin with, and how many bytes it has. -/
def fstR (l : List UInt8) : Option (RecB × Nat) := if rdE l = 0 ∧ rdK l + 4 ≤ l.length ∧ okT (l.take (rdK l + 4)) then some (rdR l, rdK l + 4) else none
theorem fst_yes {l : List UInt8} (h : rdE l = 0 ∧ rdK l + 4 ≤ l.length ∧ okT (l.take (rdK l + 4))) : fstR l = some (rdR l, rdK l + 4) := by unfold fstR; rw [if_pos h]
theorem fst_no {l : List UInt8} (h : ¬ (rdE l = 0 ∧ rdK l + 4 ≤ l.length ∧ okT (l.take (rdK l + 4)))) : fstR l = none := by unfold fstR; rw [if_neg h]
theorem fst_some {l : List UInt8} {r : RecB} {k : Nat} (h : fstR l = some (r, k)) : rdE l = 0 ∧ rdK l + 4 ≤ l.length ∧ okT (l.take (rdK l + 4)) ∧ r = rdR l ∧ k = rdK l + 4 := by
  unfold fstR at h
  split at h
  · rename_i hc; cases h; exact ⟨hc.1, hc.2.1, hc.2.2, rfl, rfl⟩
  · cases h
theorem packL_len (r : RecB) : (packL r).length = (partsR r).length + 4 := by unfold packL; rw [List.length_append, four_len]
theorem pack_fst {r : RecB} (hr : r.Ok) (h : packE r = 0) (t : List UInt8) : fstR (packL r ++ t) = some (r, (packL r).length) := by
  have e : packL r ++ t = partsR r ++ (four (sumL (partsR r)) ++ t) := by unfold packL; rw [List.append_assoc]
  obtain ⟨a1, a2, a3⟩ := rd_parts hr h (four (sumL (partsR r)) ++ t)
  rw [← e] at a1 a2 a3
  have hk : rdK (packL r ++ t) + 4 = (packL r).length := by rw [a3, packL_len]
  have hok : okT ((packL r ++ t).take (rdK (packL r ++ t) + 4)) := by
    rw [hk, List.take_left]
    unfold okT
    rw [packL_len, Nat.add_sub_cancel]; unfold packL; rw [List.drop_left, List.take_left]
  rw [fst_yes ⟨a1, by rw [hk, List.length_append]; omega, hok⟩, hk, a2]
theorem fst_back {l : List UInt8} {r : RecB} {k : Nat} (h : fstR l = some (r, k)) : r.Ok ∧ packE r = 0 ∧ packL r ++ l.drop k = l ∧ k = (packL r).length := by
  obtain ⟨h1, h3, h4, rfl, rfl⟩ := fst_some h
  obtain ⟨b1, b2, b3, b4⟩ := rd_parts_back h1
  have hlen : (l.take (rdK l + 4)).length = rdK l + 4 := by rw [List.length_take]; omega
  unfold okT at h4
  rw [hlen, Nat.add_sub_cancel, List.take_take, Nat.min_eq_left (by omega)] at h4
  have htk : l.take (rdK l) = partsR (rdR l) := by
    have := congrArg (List.take (rdK l)) b1
    rw [← this]
    conv => lhs; rw [b2]
    rw [List.take_left]
  have hfr : l.take (rdK l + 4) = packL (rdR l) := by
    rw [← List.take_append_drop (rdK l) (l.take (rdK l + 4)), h4, List.take_take, Nat.min_eq_left (by omega), htk]
    rfl
  refine ⟨b3, b4, ?_, ?_⟩
  · rw [← hfr, List.take_append_drop]
  · rw [packL_len, ← b2]
theorem fst_lt {l : List UInt8} {r : RecB} {k : Nat} (h : fstR l = some (r, k)) : 0 < k ∧ k ≤ l.length := by
  obtain ⟨h1, h3, h4, rfl, rfl⟩ := fst_some h
  omega
/-- Opening just the bytes of the record that was gone over tells that record. -/
theorem fst_open {l : List UInt8} {r : RecB} {k : Nat} (h : fstR l = some (r, k)) : openE (l.take k) = 0 ∧ openR (l.take k) = r := by
  obtain ⟨h1, h2, h3, h4⟩ := fst_back h
  have e : l.take k = packL r := by
    conv => lhs; rw [← h3, h4]
    rw [List.take_left]
  rw [e]; exact open_pack h1 h2
theorem fst_open_no {l : List UInt8} (h1 : rdE l = 0) (h2 : rdK l + 4 ≤ l.length) (h : fstR l = none) : openE (l.take (rdK l + 4)) = 4 := by
  have hn : ¬ okT (l.take (rdK l + 4)) := fun x => by rw [fst_yes ⟨h1, h2, x⟩] at h; cases h
  have hE : takeE (l.take (rdK l + 4)) = 4 := by unfold takeE; rw [if_neg (by rw [List.length_take]; omega), if_neg hn]
  unfold openE; rw [if_pos (by omega), hE]

/-- Records with their bulk, and how many bytes they have. -/
def splitR (l : List UInt8) : List (RecB × Nat) × Nat :=
  match h : fstR l with
  | none => ([], 0)
  | some (r, k) => ((r, k) :: (splitR (l.drop k)).1, k + (splitR (l.drop k)).2)
termination_by l.length
decreasing_by
  all_goals
    have := fst_lt h
    rw [List.length_drop]
    omega
theorem splitR_none {l : List UInt8} (h : fstR l = none) : splitR l = ([], 0) := by
  rw [splitR]
  split
  · rfl
  · rename_i h'; rw [h] at h'; cases h'
theorem splitR_some {l : List UInt8} {r : RecB} {k : Nat} (h : fstR l = some (r, k)) : splitR l = ((r, k) :: (splitR (l.drop k)).1, k + (splitR (l.drop k)).2) := by
  rw [splitR]
  split
  · rename_i h'; rw [h] at h'; cases h'
  · rename_i r' k' h'; rw [h] at h'; cases h'; rfl
def packsL : List RecB → List UInt8
  | [] => []
  | r :: L => packL r ++ packsL L
theorem packsL_append : ∀ L M : List RecB, packsL (L ++ M) = packsL L ++ packsL M
  | [], M => rfl
  | r :: L, M => by show packL r ++ packsL (L ++ M) = _; rw [packsL_append L M, ← List.append_assoc]; rfl
/-- A part of a record is none. -/
theorem fst_part {r : RecB} (hr : r.Ok) (h0 : packE r = 0) {p q : List UInt8} (h : packL r = p ++ q) (hq : q ≠ []) : fstR p = none := by
  rcases hf : fstR p with _ | ⟨r', k⟩
  · rfl
  · obtain ⟨b0, b1, b2, b3⟩ := fst_back hf
    have hlt := fst_lt hf
    have e : packL r ++ [] = packL r' ++ (p.drop k ++ q) := by rw [List.append_nil, h, ← List.append_assoc, b2]
    have f1 := pack_fst hr h0 []
    rw [e, pack_fst b0 b1] at f1
    cases f1
    have hl := congrArg List.length h
    rw [List.length_append] at hl
    have : 0 < q.length := List.length_pos_iff.2 hq
    omega
end Go.Proofs.Ytlpknhiagdhkcaa
/- Arrays by value, whole loads and stores, regions that draw their order: what all layers share. -/
set_option linter.unusedVariables false
set_option maxRecDepth 100000
namespace Go.Proofs.Ytlpknhiagdhkcaa
open Go.RowKit

theorem Below.frozen {B : Nat} {w w' : World} (k : Below B w w') {b : Nat} (hb : b < B) (j : Nat) : w'.frozen? ⟨b, j, none⟩ = w.frozen? ⟨b, j, none⟩ := by
  unfold World.frozen?
  rw [k.block b hb]
theorem below_setCells {B b : Nat} {a : World} (hB : B ≤ b) : ∀ (vs : List Value) (o : Nat) {w : World}, Below B a w → Below B a (w.setCells b o vs)
  | [], _, _, h => h
  | v :: vs, o, _, h => below_setCells hB vs (o + 1) (h.setCell (p := ⟨b, o, none⟩) hB v)
theorem results_cell1 {fn : Func} {p : Tmp} {ty : TypeId} (h : fn.results = #[.cell p ty]) (tmps : Array Value) (P : Program) (w : World) (b o : Nat) (cs : List Value) (d : TypeDesc) (hp : tmps.getD p undef = .pointer (some ⟨b, o, none⟩)) (hc : w.rangeAt b o cs)
    (hu : P.underlying ty = some d) (hd : d.isRow = true) (hi : (P.info? ty).map (·.size) = some cs.length) :
    (results fn tmps).run P w = .ok (.agg cs.toArray) w := by
  have hl := run_loadVar_mid w b o ty cs d hc hu hd hi
  have hp' : tmps[p]?.getD undef = .pointer (some ⟨b, o, none⟩) := by simpa using hp
  simp only [results, h]
  simp [Sem.run_bind, Result.andThen, hp', asAddr, hl]
/-- An array by value, at a place within it. -/
theorem run_index_arr (t e : TypeId) (n : Nat) (cs : Array Value) (i : Nat) (v : Value) (hu : Try.prog.underlying t = some (.array n e)) (ha : ∀ w, (isAgg e).run Try.prog w = .ok false w) (hs : ∀ w, (Go.sizeOf e).run Try.prog w = .ok 1 w) (hi : i < n) (hc : cs[i]? = some v) (w : World) :
    (Instr.index t (.agg cs) (.int .i64 (i : Int))).run Try.prog w = .ok v w := by
  have h1 : (0 : Int) ≤ (i : Int) ∧ (i : Int) < (n : Int) := by omega
  simp [Instr.index, run_underlying hu, asIntOf, h1, part, ha, hs, hc, go_sem]
  omega
theorem rangeAt_below {b o B : Nat} {cs : List Value} {w w' : World} (h : w.rangeAt b o cs) (k : Below B w w') (hb : b < B) : w'.rangeAt b o cs := by
  intro j v hj
  rw [k.cell hb]
  exact h j v hj

theorem results_arr {fn : Func} {p : Tmp} {ty : TypeId} (h : fn.results = #[.cell p ty]) (tmps : Array Value) (P : Program) (w : World) (b : Nat) (cs : Array Value) (d : TypeDesc) (hp : tmps.getD p undef = .pointer (some ⟨b, 0, none⟩)) (hc : w.there b 0 cs.size)
    (hu : P.underlying ty = some d) (hd : d.isRow = true) (hi : (P.info? ty).map (·.size) = some cs.toList.length) :
    (results fn tmps).run P (w.setCells b 0 cs.toList) = .ok (.agg cs) (w.setCells b 0 cs.toList) := by
  have := results_cell1 h tmps P (w.setCells b 0 cs.toList) b 0 cs.toList d hp (World.rangeAt_setCells_same w b 0 _ (by simpa using hc)) hu hd hi
  simpa using this

theorem seen_of {P : Program} {F : FuncId} {args : Array Value} {r : Value} (h : ∀ w, Calls P F args w fun e w' => e = .returned r ∧ Below w.heap.size w w') (W : World) (n : Seen W) : Calls P F args n.val fun e w'' => e = .returned r ∧ ∃ m : Seen W, w'' = m.val :=
  (h n.val).mono fun _ w'' ⟨h1, h2⟩ => ⟨h1, ⟨⟨w'', n.below.trans (h2.mono n.below.size)⟩, rfl⟩⟩
theorem held_of {P : Program} {F : FuncId} {args : Array Value} {r : Value} (h : ∀ w, Calls P F args w fun e w' => e = .returned r ∧ Below w.heap.size w w') (W w : World) (k : Below W.heap.size W w) : Calls P F args w fun e w'' => e = .returned r ∧ Below W.heap.size W w'' :=
  (h w).mono fun _ w'' ⟨h1, h2⟩ => ⟨h1, k.trans (h2.mono k.size)⟩
/-- A whole array that is loaded in a region that writes nothing that was there. -/
theorem quiet_load_mid {P : Program} {o : Oper} {a : Act} {C : World → Prop} {K : Act → Prop} (ty : TypeId) (x : Operand) (ho : o.op = .load ty x) (b off : Nat) (hx : a.eval x = .pointer (some ⟨b, off, none⟩)) (cs : List Value) (d : TypeDesc) (hS : ∀ w, C w → w.rangeAt b off cs)
    (hu : P.underlying ty = some d) (hd : d.isRow = true) (hi : (P.info? ty).map (·.size) = some cs.length) (hk : K (a.put o.dst (.agg cs.toArray))) : o.quiet P a C K :=
  ⟨_, fun w hw => by
    unfold Oper.quietAt execOp
    simp only [ho, hx, Instr.loadAt, Instr.sureAddr, Sem.run_bind, Sem.run_pure, Result.andThen_ok, run_loadVar_mid w b off ty cs d (hS w hw) hu hd hi]
    exact ⟨rfl, rfl⟩, hk⟩
theorem quiet_load_arr {P : Program} {o : Oper} {a : Act} {C : World → Prop} {K : Act → Prop} (ty : TypeId) (x : Operand) (ho : o.op = .load ty x) (b off : Nat) (hx : a.eval x = .pointer (some ⟨b, off, none⟩)) (cs : Array Value) (d : TypeDesc) (hS : ∀ w, C w → w.rangeAt b off cs.toList)
    (hu : P.underlying ty = some d) (hd : d.isRow = true) (hi : (P.info? ty).map (·.size) = some cs.toList.length) (hk : K (a.put o.dst (.agg cs))) : o.quiet P a C K :=
  quiet_load_mid ty x ho b off hx cs.toList d hS hu hd hi (by simpa using hk)
theorem seen_range {W W' : World} {b : Nat} {cs : List Value} (h : ∀ m, Below W.heap.size W m → m.rangeAt b 0 cs) (k : Below W.heap.size W W') : ∀ w, (∃ n : Seen W', w = n.val) → w.rangeAt b 0 cs := by
  rintro _ ⟨n, rfl⟩
  exact h n.val (k.trans (n.below.mono k.size))
/-- A whole array that is loaded behind a guard. -/
theorem wpList_load_arr {P : Program} {ops : Array Oper} {rest : List Oper} {op : Oper} {a : Act} {w : World} {Q : Exit → Act → World → Prop} (hw : Region.wanted op (yielded ops a.tmps) = true) (ty : TypeId) (x : Operand) (ho : op.op = .load ty x)
    (b o : Nat) (hx : a.eval x = .pointer (some ⟨b, o, none⟩)) (cs : Array Value) (d : TypeDesc) (hc : w.rangeAt b o cs.toList)
    (hu : P.underlying ty = some d) (hd : d.isRow = true) (hi : (P.info? ty).map (·.size) = some cs.toList.length)
    (h : wpList P ops Q rest (a.put op.dst (.agg cs)) w) : wpList P ops Q (op :: rest) a w :=
  wpList_step fun _ hK => by
    rw [if_pos hw]
    exact wp_load_mid ty x ho b o hx cs.toList d hc hu hd hi (hK _ _ (by simpa using h))
/-- A region that draws its order, gone through by hand: an operation that may come first, its slot named. -/
theorem held_take {P : Program} {md : Region.Mode} {ops : Array Oper} {Q : Exit → Act → World → Prop} {S : World → Prop} {fuel : Nat} {listed : Array Bool} {a : Act} {w : World} (i d : Nat) {oi : Oper} {v : Value} (hi : ops[i]? = some oi) (hd : oi.dst = some d)
    (hs : Region.noSelect ops = true) (hf : Region.free md ops listed i = true) (hr : (Region.ready md ops listed).contains i = true)
    (hQ : ∀ c a w, Q (.panic c) (a.put oi.dst v) w → Q (.panic c) a w) (hy : YieldsIf P ops S oi v a) (hS : S w)
    (h : wpAnyH P md ops Q S fuel (listed.setIfInBounds i true) (a.put (some d) v) w) : wpAnyH P md ops Q S (fuel + 1) listed a w :=
  wpAnyH_take hi hs hf hr hQ hy hS (by rw [hd]; exact h)
theorem seen_at {W : World} {b : Nat} {cs : List Value} (h : W.rangeAt b 0 cs) (hb : b < W.heap.size) : ∀ w, (∃ n : Seen W, w = n.val) → w.rangeAt b 0 cs := by
  rintro _ ⟨n, rfl⟩
  exact rangeAt_below h n.below hb
end Go.Proofs.Ytlpknhiagdhkcaa
