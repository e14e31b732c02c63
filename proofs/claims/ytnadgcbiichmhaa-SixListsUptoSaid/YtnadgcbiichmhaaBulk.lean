/- What the bound on the arguments' bulk gives: how many elements, how many letters. -/
import Derived.Test.YtnadgcbiichmhaaRows
namespace Go.Proofs.Ytnadgcbiichmhaa

theorem bulk_pos {H : Type} (d : DataW H) : 1 ≤ Rows.uptoBulk d := by
  cases d with
  | lit l => cases l <;> simp [Rows.uptoBulk]
  | nil => simp [Rows.uptoBulk]
  | ptr d => simp [Rows.uptoBulk]
  | slice elems spare => simp [Rows.uptoBulk]
  | agg parts => simp [Rows.uptoBulk]
  | iface t d => simp [Rows.uptoBulk]
  | map entries => simp [Rows.uptoBulk]
  | held h => simp [Rows.uptoBulk]

theorem bulk_len {H : Type} (l : List (DataW H)) : l.length ≤ Rows.uptoBulkAll l := by
  induction l with
  | nil => simp
  | cons x r ih => have := bulk_pos x; simp only [Rows.uptoBulkAll, List.length_cons]; omega

/-- A slice's elements, each with what it holds. -/
theorem bulk_slice {H : Type} (elems spare : List (DataW H)) : Rows.uptoBulkAll elems ≤ Rows.uptoBulk (.slice elems spare) := by
  simp only [Rows.uptoBulk]
  omega

theorem bulk_string {H : Type} (s : List UInt8) : s.length ≤ Rows.uptoBulk (DataW.lit (H := H) (.string s)) := by
  simp [Rows.uptoBulk]

/-- The bytes of a list of strings. -/
def total : List ByteArray → Nat
  | [] => 0
  | s :: r => s.size + total r

theorem bulk_strs {H : Type} (ss : List ByteArray) : total ss + ss.length ≤ Rows.uptoBulkAll (ss.map fun s => DataW.lit (H := H) (.string s.data.toList)) := by
  induction ss with
  | nil => simp [total]
  | cons s r ih =>
    have e : s.size = s.data.toList.length := by simp only [Array.length_toList]; rfl
    simp only [total, List.length_cons, List.map_cons, Rows.uptoBulkAll, Rows.uptoBulk]
    omega

theorem bulk_two {H : Type} {a b : DataW H} (h : Rows.uptoSmall H [a, b] = true) : Rows.uptoBulk a + Rows.uptoBulk b ≤ 1048576 := by
  have h1 : Rows.uptoBulkAll [a, b] ≤ 1048576 := of_decide_eq_true h
  simp only [Rows.uptoBulkAll] at h1
  omega
theorem bulk_three {H : Type} {a b c : DataW H} (h : Rows.uptoSmall H [a, b, c] = true) : Rows.uptoBulk a + Rows.uptoBulk b + Rows.uptoBulk c ≤ 1048576 := by
  have h1 : Rows.uptoBulkAll [a, b, c] ≤ 1048576 := of_decide_eq_true h
  simp only [Rows.uptoBulkAll] at h1
  omega

end Go.Proofs.Ytnadgcbiichmhaa
