/- The reader of package six: a text. -/
import Derived.Test.YtkelcmncjhnbgaaSixReader
namespace Go.Proofs.Ytkelcmncjhnbgaa
open Go.RowKit

theorem six_ReadText_nil (w : World) : Calls Try.prog 57 #[.pointer none] w fun e w' => e = .returned (.tuple #[.string ⟨#[]⟩, .int .i64 1]) ∧ w = w' := by
  go_enter Try.func57, Try.ntmps57
  go_wp2
  go_ret2
  exact ⟨rfl, rfl⟩

set_option maxHeartbeats 400000 in
theorem six_ReadText_ok (r : Nat) (s s1 s2 t : ByteArray) (n : Int) (w : World) (h : Hid (Rt r s w))
    (h30 : Hid (Calls Try.prog 72 #[.pointer (some ⟨r, 0, none⟩)] w (Rd r s1 (.int .i64 n) (.int .i64 0) w)))
    (h31 : Hid (∀ w, Rt r s1 w → Calls Try.prog 58 #[.pointer (some ⟨r, 0, none⟩), .int .i64 n] w (Rd r s2 (.string t) (.int .i64 0) w))) :
    Calls Try.prog 57 #[.pointer (some ⟨r, 0, none⟩)] w (Rd r s2 (.string t) (.int .i64 0) w) := by
  have c0 := h.out.cell
  go_enter Try.func57, Try.ntmps57
  go_wp2_with fail
  refine h30.out.mono ?_
  rintro e w1 ⟨rfl, h2, k2⟩
  have H2 := Lib.hid h2
  have K2 := Lib.hid k2
  clear h2 k2
  go_wp2_with fail
  refine (h31.out _ H2.out).mono ?_
  rintro e w2 ⟨rfl, h3, k3⟩
  have H3 := Lib.hid h3
  have K3 := Lib.hid k3
  clear h3 k3
  go_wp2
  go_ret2
  exact ⟨rfl, H3.out, K2.out.trans K3.out⟩

set_option maxHeartbeats 400000 in
theorem six_ReadText_no (r : Nat) (s s1 s2 t : ByteArray) (n e : Int) (w : World) (h : Hid (Rt r s w)) (he : (e == 0) = false)
    (h30 : Hid (Calls Try.prog 72 #[.pointer (some ⟨r, 0, none⟩)] w (Rd r s1 (.int .i64 n) (.int .i64 0) w)))
    (h31 : Hid (∀ w, Rt r s1 w → Calls Try.prog 58 #[.pointer (some ⟨r, 0, none⟩), .int .i64 n] w (Rd r s2 (.string t) (.int .i64 e) w))) :
    Calls Try.prog 57 #[.pointer (some ⟨r, 0, none⟩)] w (Rd r s (.string (bs [])) (.int .i64 e) w) := by
  have c0 := h.out.cell
  go_enter Try.func57, Try.ntmps57
  go_wp2_with fail
  refine h30.out.mono ?_
  rintro e w1 ⟨rfl, h2, k2⟩
  have H2 := Lib.hid h2
  have K2 := Lib.hid k2
  clear h2 k2
  go_wp2_with fail
  refine (h31.out _ H2.out).mono ?_
  rintro e w2 ⟨rfl, h3, k3⟩
  have c3 := h3.cell
  have f3 := h3.free
  have H3 := Lib.hid h3
  have K3 := Lib.hid k3
  clear h3 k3
  go_wp2
  go_ret2
  exact ⟨rfl, H3.out.put s, (K2.out.trans K3.out).setCell (p := ⟨r, 0, none⟩) (.inl rfl) _⟩

set_option maxHeartbeats 400000 in
theorem six_ReadText_none (r : Nat) (s s1 : ByteArray) (n e : Int) (w : World) (h : Hid (Rt r s w)) (he : (e == 0) = false)
    (h30 : Hid (Calls Try.prog 72 #[.pointer (some ⟨r, 0, none⟩)] w (Rd r s1 (.int .i64 n) (.int .i64 e) w))) :
    Calls Try.prog 57 #[.pointer (some ⟨r, 0, none⟩)] w (Rd r s1 (.string (bs [])) (.int .i64 e) w) := by
  have c0 := h.out.cell
  go_enter Try.func57, Try.ntmps57
  go_wp2_with fail
  refine h30.out.mono ?_
  rintro e w1 ⟨rfl, h2, k2⟩
  have H2 := Lib.hid h2
  have K2 := Lib.hid k2
  clear h2 k2
  go_wp2
  go_ret2
  exact ⟨rfl, H2.out, K2.out⟩

theorem extract_twice (s : ByteArray) (a b : Nat) : (s.extract a s.size).extract b (s.extract a s.size).size = s.extract (a + b) s.size := by
  have h1 := extract_rest (s.extract a s.size) b
  rw [extract_rest s a, List.drop_drop] at h1
  rw [bs_eq h1, bs_eq (extract_rest s (a + b))]

theorem six_ReadText (r : Nat) (s : ByteArray) (w : World) (h : Rt r s w) (hs : s.size ≤ maxLen) :
    Calls Try.prog 57 #[.pointer (some ⟨r, 0, none⟩)] w (Rd r (s.extract (tk s.data.toList) s.size) (.string (bs (ts s.data.toList))) (.int .i64 (te s.data.toList)) w) := by
  have HL : s.data.toList.length = s.size := by rw [← Lib.size_eq]
  have h30 := six_ReadCount r s w h hs
  have hm : maxLen = 9223372036854775807 := rfl
  rcases cd_cases s.data.toList with ⟨c0, c1, c2, c3, c4, _, _, _⟩ | ⟨c0, c1, c2⟩
  · have HZ : (s.extract (ck s.data.toList) s.size).size ≤ maxLen := by rw [extract_size]; omega
    have h31 := fun w hw => six_ReadRaw r (s.extract (ck s.data.toList) s.size) (cn s.data.toList) w hw HZ (by omega) (by omega)
    have HW : te s.data.toList = we (s.data.toList.drop (ck s.data.toList)) (cn s.data.toList) := by unfold te; rw [if_neg (by rw [c0]; simp)]
    have HT : ts s.data.toList = ws (s.data.toList.drop (ck s.data.toList)) (cn s.data.toList) := by unfold ts; rw [if_neg (by rw [c0]; simp)]
    simp only [extract_twice, extract_rest] at h31
    rw [← HW, ← HT] at h31
    rw [c0] at h30
    rcases td_cases s.data.toList with ⟨t0, t1, t2, t3, t4, t5, t6⟩ | ⟨t0, t1, t2⟩
    · rw [t0] at h31
      have hk : tk s.data.toList = ck s.data.toList + wk (s.data.toList.drop (ck s.data.toList)) (cn s.data.toList) := by unfold tk; rw [if_neg (by rw [t0]; simp)]
      rw [t0, hk]
      exact six_ReadText_ok r s _ _ _ _ w (Lib.hid h) (Lib.hid h30) (Lib.hid h31)
    · rw [t1, t2, rest0]
      exact six_ReadText_no r s _ _ _ _ _ w (Lib.hid h) (beq_eq_false_iff_ne.2 (by omega)) (Lib.hid h30) (Lib.hid h31)
  · have e1 : te s.data.toList = ce s.data.toList := by unfold te; rw [if_pos (by omega)]
    have e2 : ts s.data.toList = [] := by unfold ts; rw [if_pos (by omega)]
    have e3 : tk s.data.toList = ck s.data.toList := by rw [c2]; unfold tk; rw [if_pos (by omega)]
    rw [e1, e2, e3]
    exact six_ReadText_none r s _ _ _ w (Lib.hid h) (beq_eq_false_iff_ne.2 (by omega)) (Lib.hid h30)

end Go.Proofs.Ytkelcmncjhnbgaa
