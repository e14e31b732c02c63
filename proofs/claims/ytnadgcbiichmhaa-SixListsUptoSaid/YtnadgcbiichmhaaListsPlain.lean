/- Lists of texts: how they are gone over, text by text. -/
import Derived.Test.YtnadgcbiichmhaaBackPlain
set_option linter.unusedVariables false
namespace Go.Proofs.Ytnadgcbiichmhaa

/-- n texts more, behind k bytes and the texts T. -/
def lst (l : List UInt8) : Nat → List ByteArray → Nat → List ByteArray × Nat × Int
  | 0, T, k => (T, k, 0)
  | n + 1, T, k => if te (l.drop k) ≠ 0 then ([], 0, te (l.drop k)) else lst l n (T ++ [bs (ts (l.drop k))]) (k + tk (l.drop k))

def FL (l : List UInt8) : List ByteArray × Nat × Int := if ce l ≠ 0 then ([], 0, ce l) else lst l (cn l).toNat [] (ck l)
def fT (l : List UInt8) : List ByteArray := (FL l).1
def fk (l : List UInt8) : Nat := (FL l).2.1
def fe (l : List UInt8) : Int := (FL l).2.2

/-- Where the going over of a list stands. -/
def Upon (l : List UInt8) (n : Nat) (T : List ByteArray) (k : Nat) : Prop := lst l n T k = FL l

theorem upon_start {l : List UInt8} (h : ce l = 0) : Upon l (cn l).toNat [] (ck l) := by unfold Upon FL; rw [if_neg (by rw [h]; simp)]
theorem upon_none {l : List UInt8} (h : ce l ≠ 0) : fT l = [] ∧ fk l = 0 ∧ fe l = ce l := by unfold fT fk fe FL; rw [if_pos h]; exact ⟨rfl, rfl, rfl⟩
theorem upon_end {l : List UInt8} {T : List ByteArray} {k : Nat} (h : Upon l 0 T k) : fT l = T ∧ fk l = k ∧ fe l = 0 := by
  unfold Upon at h
  unfold fT fk fe
  rw [← h]
  exact ⟨rfl, rfl, rfl⟩
theorem upon_stop {l : List UInt8} {n : Nat} {T : List ByteArray} {k : Nat} (h : Upon l (n + 1) T k) (he : te (l.drop k) ≠ 0) : fT l = [] ∧ fk l = 0 ∧ fe l = te (l.drop k) := by
  unfold Upon at h
  simp only [lst] at h
  rw [if_pos he] at h
  unfold fT fk fe
  rw [← h]
  exact ⟨rfl, rfl, rfl⟩
theorem upon_next {l : List UInt8} {n : Nat} {T : List ByteArray} {k : Nat} (h : Upon l (n + 1) T k) (he : te (l.drop k) = 0) : Upon l n (T ++ [bs (ts (l.drop k))]) (k + tk (l.drop k)) := by
  unfold Upon at h ⊢
  simp only [lst] at h
  rw [if_neg (by rw [he]; simp)] at h
  exact h

theorem te_nil : te [] = 2 := rfl
theorem ts_nil : ts [] = [] := rfl
theorem tk_nil : tk [] = 0 := rfl

theorem lst_fine (l : List UInt8) (n : Nat) : ∀ T k, k ≤ l.length → (lst l n T k).2.1 ≤ l.length ∧ ((lst l n T k).2.2 = 0 ∨ (lst l n T k).2.2 = 2 ∨ (lst l n T k).2.2 = 3) := by
  induction n with
  | zero => intro T k hk; exact ⟨hk, .inl rfl⟩
  | succ n ih =>
    intro T k hk
    simp only [lst]
    rcases td_cases (l.drop k) with h | h
    · rw [if_neg (by rw [h.1]; simp)]
      have hd : (l.drop k).length = l.length - k := List.length_drop
      exact ih _ _ (by omega)
    · rw [if_pos (by omega)]
      exact ⟨Nat.zero_le _, by rcases h.1 with h | h <;> simp [h]⟩
theorem fl_fine (l : List UInt8) : fk l ≤ l.length ∧ (fe l = 0 ∨ fe l = 2 ∨ fe l = 3) := by
  unfold fk fe FL
  rcases cd_cases l with h | h
  · rw [if_neg (by rw [h.1]; simp)]
    exact lst_fine l _ _ _ (by omega)
  · rw [if_pos (by omega)]
    exact ⟨Nat.zero_le _, by rcases h.1 with h | h <;> simp [h]⟩

/-- Texts that were written are gone over as they were. -/
theorem lst_tt (l s : List UInt8) (R : List ByteArray) (hR : total R ≤ 1048576) : ∀ A k, l.drop k = tt R ++ s → lst l R.length A k = (A ++ R, k + (tt R).length, 0) := by
  induction R with
  | nil => intro A k h; simp [lst, tt]
  | cons u R ih =>
    intro A k h
    simp only [total] at hR
    have e : tt (u :: R) = text u.data.toList ++ tt R := by simp [tt]
    rw [e, List.append_assoc] at h
    obtain ⟨h1, h2, h3⟩ := td_text u.data.toList (tt R ++ s) (by rw [← Lib.size_eq]; omega)
    simp only [List.length_cons, lst]
    rw [h, h1, h2, h3, if_neg (by simp)]
    have hd : l.drop (k + (text u.data.toList).length) = tt R ++ s := by rw [← List.drop_drop, h, List.drop_left]
    rw [ih (by omega) _ _ hd, e, ← bs_eq (s := u) rfl]
    simp only [List.append_assoc, List.cons_append, List.nil_append, List.length_append]
    rw [Nat.add_assoc]
theorem fl_tt (T : List ByteArray) (s : List UInt8) (hT : total T ≤ 1048576) (hl : T.length ≤ 1048576) :
    FL (whole (T.length : Int) ++ (tt T ++ s)) = (T, (whole (T.length : Int) ++ tt T).length, 0) := by
  obtain ⟨h1, h2, h3⟩ := rd_whole (n := (T.length : Int)) (by omega) (by omega) (tt T ++ s)
  generalize hle : whole (T.length : Int) ++ (tt T ++ s) = l at *
  have c0 : ce l = 0 := by unfold ce; rw [if_neg (by omega), h3]
  have c1 : cn l = T.length := by unfold cn; rw [if_neg (by omega), h1]
  have c2 : ck l = (whole (T.length : Int)).length := by unfold ck; rw [if_neg (by omega), h2]
  unfold FL
  rw [if_neg (by rw [c0]; simp), c1, c2, Int.toNat_natCast]
  rw [lst_tt l s T hT [] _ (by rw [← hle, List.drop_left])]
  simp

/-- Every text has at least a byte. -/
theorem upon_room {l : List UInt8} {T : List ByteArray} {k : Nat} (h : T.length ≤ k) (hk : k ≤ l.length) (he : te (l.drop k) = 0) :
    (T ++ [bs (ts (l.drop k))]).length ≤ k + tk (l.drop k) ∧ k + tk (l.drop k) ≤ l.length ∧ k < l.length := by
  rcases td_cases (l.drop k) with h1 | h1
  · have hd : (l.drop k).length = l.length - k := List.length_drop
    rw [List.length_append]
    simp only [List.length_cons, List.length_nil]
    omega
  · omega

end Go.Proofs.Ytnadgcbiichmhaa
