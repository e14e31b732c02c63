/- What the laws over readers share: the row of a slice of bytes, what holds behind each round, and what a round of SixOne comes to. -/
import Derived.Test.YtnadgcbiichmhaaAwake
set_option linter.unusedVariables false
namespace Go.Proofs.Ytnadgcbiichmhaa
open Go.RowKit

/-- The row of a slice, cell by cell. -/
def Row8 (b off len : Nat) (z : Nat → Int) (w : World) : Prop := ∀ k, k < len → b < w.heap.size ∧ w.cell? ⟨b, off + k, none⟩ = some (.int .u8 (z k)) ∧ 0 ≤ z k ∧ z k ≤ 255

theorem cell_block {w : World} {b o : Nat} {v : Value} (h : w.cell? ⟨b, o, none⟩ = some v) : b < w.heap.size := by
  rcases Nat.lt_or_ge b w.heap.size with h' | h'
  · exact h'
  · simp [World.cell?, Array.getElem?_eq_none h'] at h

/-- What holds behind each round. -/
def Going (r : Nat) (w wr : World) : Prop := (∃ s : ByteArray, s.size ≤ maxLen ∧ Rt r s wr) ∧ Below w.heap.size w wr

theorem list_inj {a b : ByteArray} (h : a.data.toList = b.data.toList) : a = b := by rw [bs_eq h]; exact (bs_eq rfl).symm
theorem cat_list (a b : ByteArray) : (a ++ b).data.toList = a.data.toList ++ b.data.toList := by
  obtain ⟨⟨x⟩⟩ := a
  obtain ⟨⟨y⟩⟩ := b
  simp
theorem bs_cat (l : List UInt8) (s : ByteArray) : bs l ++ s = bs (l ++ s.data.toList) := bs_eq (by rw [cat_list, bs_list])

theorem td_back {l : List UInt8} (h : te l = 0) : text (ts l) ++ l.drop (tk l) = l := by
  rcases td_cases l with ⟨t0, t1, t2, t3, t4, t5, t6⟩ | ⟨t0, _, _⟩
  · rcases cd_cases l with ⟨c0, c1, c2, c3, c4, c5, c6, c7⟩ | ⟨c0, _, _⟩
    · have hb := (rd_back c5).1
      have hl : ((ts l).length : Int) = cn l := by
        rw [t6, List.length_take, List.length_drop]
        omega
      unfold text
      rw [hl, c6, List.append_assoc, t5, ← List.drop_drop, t6, List.take_append_drop, c7]
      exact hb
    · omega
  · omega

/-- A number is gone over and, where one was there, written again. -/
theorem whole_round (s : ByteArray) (hs : s.size ≤ maxLen) : ∃ (s1 : ByteArray) (n e : Int), s1.size ≤ maxLen ∧ -9223372036854775808 ≤ n ∧ n ≤ 9223372036854775807 ∧
    (∀ r w, Rt r s w → Calls Try.prog 22 #[.pointer (some ⟨r, 0, none⟩)] w (Rd r s1 (.int .i64 n) (.int .i64 e) w)) ∧ (e = 0 → bs (whole n) ++ s1 = s) ∧ (e ≠ 0 → bs [] ++ s1 = s) ∧ s1.size ≤ s.size := by
  have hx := extract_size s (rk s.data.toList)
  have hm : maxLen = 9223372036854775807 := rfl
  refine ⟨_, _, _, ?_, ?_, ?_, fun r w h => six_ReadWhole r s w h hs, ?_, ?_, ?_⟩
  · rw [hx]; omega
  · rcases rd_cases s.data.toList with h | h <;> omega
  · rcases rd_cases s.data.toList with h | h <;> omega
  · intro he
    rw [bs_cat]
    apply list_inj
    rw [bs_list, extract_rest]
    exact (rd_back he).1
  · intro he
    rw [bs_cat]
    apply list_inj
    rw [bs_list, extract_rest]
    rcases rd_cases s.data.toList with h | h
    · exact absurd h.1 he
    · rw [h.2.2]; rfl
  · rw [hx]; omega
theorem text_round (s : ByteArray) (hs : s.size ≤ maxLen) : ∃ (s1 t : ByteArray) (e : Int), s1.size ≤ maxLen ∧ t.size ≤ s.size ∧
    (∀ r w, Rt r s w → Calls Try.prog 23 #[.pointer (some ⟨r, 0, none⟩)] w (Rd r s1 (.string t) (.int .i64 e) w)) ∧ (e = 0 → bs (text t.data.toList) ++ s1 = s) ∧ (e ≠ 0 → bs [] ++ s1 = s) ∧ s1.size ≤ s.size := by
  have hx := extract_size s (tk s.data.toList)
  have HL : s.data.toList.length = s.size := by rw [← Lib.size_eq]
  refine ⟨_, _, _, ?_, ?_, fun r w h => six_ReadText r s w h hs, ?_, ?_, ?_⟩
  · rw [hx]; omega
  · rw [bs_size]
    rcases td_cases s.data.toList with h | h
    · rw [h.2.2.2.2.2.2, List.length_take, List.length_drop]; omega
    · rw [h.2.1]; simp
  · intro he
    rw [bs_cat]
    apply list_inj
    rw [bs_list, extract_rest, bs_list]
    exact td_back he
  · intro he
    rw [bs_cat]
    apply list_inj
    rw [bs_list, extract_rest]
    rcases td_cases s.data.toList with h | h
    · exact absurd h.1 he
    · rw [h.2.2]; rfl
  · rw [hx]; omega

end Go.Proofs.Ytnadgcbiichmhaa
