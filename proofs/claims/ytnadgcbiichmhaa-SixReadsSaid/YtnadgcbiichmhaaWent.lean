/- One call of a reader held against the document's answer. -/
import Derived.Test.YtnadgcbiichmhaaAwake
import Derived.Deep.QuietTactic
import Derived.BigQuiet
set_option linter.unusedVariables false
namespace Go.Proofs.Ytnadgcbiichmhaa
open Go.RowKit

/-- A reader stands somewhere in block r, and all else is as it was. -/
def Stands (r : Nat) (w w' : World) : Prop := (∃ s : ByteArray, s.size ≤ maxLen ∧ Rt r s w') ∧ Only (fun k => k = r) w w'

theorem Rt.drewN {r : Nat} {s : ByteArray} {w : World} (h : Rt r s w) (n : Nat) : Rt r s (w.drewN n) := h
theorem Only.drewN {S : Nat → Prop} {a w : World} (h : Only S a w) (n : Nat) : Only S a (w.drewN n) := ⟨h.os, h.tape, h.output, h.size, h.block⟩
theorem rest_quiet (r : Nat) (s : ByteArray) (w : World) (n : Nat) (h : Rt r s w) : Calls Try.prog 19 #[.pointer (some ⟨r, 0, none⟩)] (w.drewN n) fun e w' => e = .returned (.string s) ∧ w' = w.drewN n :=
  (six_Rest r s _ (h.drewN n)).mono fun _ _ ⟨h1, h2⟩ => ⟨h1, h2.symm⟩

set_option maxHeartbeats 1000000 in
set_option maxRecDepth 100000 in
theorem went_0 (r : Nat) (s : ByteArray) (kind n a b : Int) (k : Nat) (w : World) (h : Hid (Rt r s w)) (hs : s.size ≤ maxLen) (hk : k ≤ s.size)
    (h0 : (kind % 4 == 0) = true) (hp : 0 ≤ kind) (hp2 : kind ≤ 255) (hb : 0 ≤ b) (hb2 : b ≤ 5)
    (h30 : Hid (Calls Try.prog 30 #[.pointer (some ⟨r, 0, none⟩)] w (Rd r (s.extract k s.size) (.int .i64 a) (.int .i64 b) w)))
    (h39 : Hid (∀ w, Calls Try.prog 39 #[.string s] w (Ret3 (.int .i64 a) (.int .i64 k) (.int .i64 b) w))) :
    Calls Try.prog 20 #[.pointer (some ⟨r, 0, none⟩), .int .i64 kind, .int .i64 n] w fun e w' => e = .returned (.bool true) ∧ Stands r w w' := by
  unfold maxLen at hs
  go_enter Try.func20, Try.ntmps20
  go_wp2_with fail
  refine (six_Rest r s w h.out).mono ?_
  rintro e w1 ⟨rfl, rfl⟩
  go_wp2_with fail
  refine h30.out.mono ?_
  rintro e w1 ⟨rfl, h1, k1⟩
  have H1 := Lib.hid h1
  have K1 := Lib.hid k1
  have c1 := h1.cell
  clear h1 k1
  go_wp2_with fail
  refine (h39.out w1).mono ?_
  rintro e w2 ⟨rfl, rfl⟩
  go_wp2_with fail
  go_quiet ((go_at_call 19; exact Calls.quiet_of_same (rest_quiet r _ _ _ H1.out)))
  go_wp2
  go_ret
  exact ⟨rfl, ⟨_, by rw [extract_size]; unfold maxLen; omega, H1.out.drewN _⟩, K1.out.drewN _⟩

set_option maxHeartbeats 1000000 in
set_option maxRecDepth 100000 in
theorem went_1 (r : Nat) (s : ByteArray) (kind n a b : Int) (k : Nat) (w : World) (h : Hid (Rt r s w)) (hs : s.size ≤ maxLen) (hk : k ≤ s.size)
    (h0 : (kind % 4 == 0) = false) (h01 : (kind % 4 == 1) = true) (hp : 0 ≤ kind) (hp2 : kind ≤ 255) (hb : 0 ≤ b) (hb2 : b ≤ 5)
    (h30 : Hid (Calls Try.prog 22 #[.pointer (some ⟨r, 0, none⟩)] w (Rd r (s.extract k s.size) (.int .i64 a) (.int .i64 b) w)))
    (h39 : Hid (∀ w, Calls Try.prog 40 #[.string s] w (Ret3 (.int .i64 a) (.int .i64 k) (.int .i64 b) w))) :
    Calls Try.prog 20 #[.pointer (some ⟨r, 0, none⟩), .int .i64 kind, .int .i64 n] w fun e w' => e = .returned (.bool true) ∧ Stands r w w' := by
  unfold maxLen at hs
  go_enter Try.func20, Try.ntmps20
  go_wp2_with fail
  refine (six_Rest r s w h.out).mono ?_
  rintro e w1 ⟨rfl, rfl⟩
  go_wp2_with fail
  refine h30.out.mono ?_
  rintro e w1 ⟨rfl, h1, k1⟩
  have H1 := Lib.hid h1
  have K1 := Lib.hid k1
  have c1 := h1.cell
  clear h1 k1
  go_wp2_with fail
  refine (h39.out w1).mono ?_
  rintro e w2 ⟨rfl, rfl⟩
  go_wp2_with fail
  go_quiet ((go_at_call 19; exact Calls.quiet_of_same (rest_quiet r _ _ _ H1.out)))
  go_wp2
  go_ret
  exact ⟨rfl, ⟨_, by rw [extract_size]; unfold maxLen; omega, H1.out.drewN _⟩, K1.out.drewN _⟩

set_option maxHeartbeats 1000000 in
set_option maxRecDepth 100000 in
theorem went_2 (r : Nat) (s : ByteArray) (t : ByteArray) (kind n b : Int) (k : Nat) (w : World) (h : Hid (Rt r s w)) (hs : s.size ≤ maxLen) (hk : k ≤ s.size)
    (h0 : (kind % 4 == 0) = false) (h01 : (kind % 4 == 1) = false) (h02 : (kind % 4 == 2) = true) (hp : 0 ≤ kind) (hp2 : kind ≤ 255) (hb : 0 ≤ b) (hb2 : b ≤ 5)
    (h30 : Hid (Calls Try.prog 23 #[.pointer (some ⟨r, 0, none⟩)] w (Rd r (s.extract k s.size) (.string t) (.int .i64 b) w)))
    (h39 : Hid (∀ w, Calls Try.prog 41 #[.string s] w (Ret3 (.string t) (.int .i64 k) (.int .i64 b) w))) :
    Calls Try.prog 20 #[.pointer (some ⟨r, 0, none⟩), .int .i64 kind, .int .i64 n] w fun e w' => e = .returned (.bool true) ∧ Stands r w w' := by
  unfold maxLen at hs
  go_enter Try.func20, Try.ntmps20
  go_wp2_with fail
  refine (six_Rest r s w h.out).mono ?_
  rintro e w1 ⟨rfl, rfl⟩
  go_wp2_with fail
  refine h30.out.mono ?_
  rintro e w1 ⟨rfl, h1, k1⟩
  have H1 := Lib.hid h1
  have K1 := Lib.hid k1
  have c1 := h1.cell
  clear h1 k1
  go_wp2_with fail
  refine (h39.out w1).mono ?_
  rintro e w2 ⟨rfl, rfl⟩
  go_wp2_with fail
  go_quiet ((go_at_call 19; exact Calls.quiet_of_same (rest_quiet r _ _ _ H1.out)))
  go_wp2
  go_ret
  exact ⟨rfl, ⟨_, by rw [extract_size]; unfold maxLen; omega, H1.out.drewN _⟩, K1.out.drewN _⟩

set_option maxHeartbeats 1000000 in
set_option maxRecDepth 100000 in
theorem went_3 (r : Nat) (s : ByteArray) (t : ByteArray) (kind n b : Int) (k : Nat) (w : World) (h : Hid (Rt r s w)) (hs : s.size ≤ maxLen) (hk : k ≤ s.size)
    (h0 : (kind % 4 == 0) = false) (h01 : (kind % 4 == 1) = false) (h02 : (kind % 4 == 2) = false) (hp : 0 ≤ kind) (hp2 : kind ≤ 255) (hb : 0 ≤ b) (hb2 : b ≤ 5)
    (h30 : Hid (Calls Try.prog 31 #[.pointer (some ⟨r, 0, none⟩), .int .i64 n] w (Rd r (s.extract k s.size) (.string t) (.int .i64 b) w)))
    (h39 : Hid (∀ w, Calls Try.prog 42 #[.string s, .int .i64 n] w (Ret3 (.string t) (.int .i64 k) (.int .i64 b) w))) :
    Calls Try.prog 20 #[.pointer (some ⟨r, 0, none⟩), .int .i64 kind, .int .i64 n] w fun e w' => e = .returned (.bool true) ∧ Stands r w w' := by
  unfold maxLen at hs
  go_enter Try.func20, Try.ntmps20
  go_wp2_with fail
  refine (six_Rest r s w h.out).mono ?_
  rintro e w1 ⟨rfl, rfl⟩
  go_wp2_with fail
  refine h30.out.mono ?_
  rintro e w1 ⟨rfl, h1, k1⟩
  have H1 := Lib.hid h1
  have K1 := Lib.hid k1
  have c1 := h1.cell
  clear h1 k1
  go_wp2_with fail
  refine (h39.out w1).mono ?_
  rintro e w2 ⟨rfl, rfl⟩
  go_wp2_with fail
  go_quiet ((go_at_call 19; exact Calls.quiet_of_same (rest_quiet r _ _ _ H1.out)))
  go_wp2
  go_ret
  exact ⟨rfl, ⟨_, by rw [extract_size]; unfold maxLen; omega, H1.out.drewN _⟩, K1.out.drewN _⟩

theorem went_any (r : Nat) (s : ByteArray) (kind n : Int) (w : World) (h : Rt r s w) (hs : s.size ≤ maxLen) (hp : 0 ≤ kind) (hp2 : kind ≤ 255) (hn1 : -9223372036854775808 ≤ n) (hn2 : n ≤ 9223372036854775807) :
    Calls Try.prog 20 #[.pointer (some ⟨r, 0, none⟩), .int .i64 kind, .int .i64 n] w fun e w' => e = .returned (.bool true) ∧ Stands r w w' := by
  have HL : s.data.toList.length = s.size := by rw [← Lib.size_eq]
  by_cases k0 : kind % 4 = 0
  · have hc := cd_cases s.data.toList
    exact went_0 r s kind n _ _ _ w (Lib.hid h) hs (by omega) (beq_iff_eq.2 k0) hp hp2 (by omega) (by omega) (Lib.hid (six_ReadCount r s w h hs)) (Lib.hid fun w => ref_ReadCount s w hs)
  · by_cases k1 : kind % 4 = 1
    · have hc := rd_cases s.data.toList
      exact went_1 r s kind n _ _ _ w (Lib.hid h) hs (by omega) (beq_eq_false_iff_ne.2 k0) (beq_iff_eq.2 k1) hp hp2 (by omega) (by omega) (Lib.hid (six_ReadWhole r s w h hs)) (Lib.hid fun w => ref_ReadWhole s w hs)
    · by_cases k2 : kind % 4 = 2
      · have hc := td_cases s.data.toList
        exact went_2 r s _ kind n _ _ w (Lib.hid h) hs (by omega) (beq_eq_false_iff_ne.2 k0) (beq_eq_false_iff_ne.2 k1) (beq_iff_eq.2 k2) hp hp2 (by omega) (by omega) (Lib.hid (six_ReadText r s w h hs)) (Lib.hid fun w => ref_ReadText s w hs)
      · have hw : wk s.data.toList n ≤ s.size := by unfold wk; split <;> omega
        have hb : 0 ≤ we s.data.toList n ∧ we s.data.toList n ≤ 5 := by unfold we; split <;> (try split) <;> omega
        exact went_3 r s _ kind n _ _ w (Lib.hid h) hs hw (beq_eq_false_iff_ne.2 k0) (beq_eq_false_iff_ne.2 k1) (beq_eq_false_iff_ne.2 k2) hp hp2 hb.1 hb.2 (Lib.hid (six_ReadRaw r s n w h hs hn1 hn2)) (Lib.hid fun w => ref_ReadRaw s n w hs hn1 hn2)

end Go.Proofs.Ytnadgcbiichmhaa
