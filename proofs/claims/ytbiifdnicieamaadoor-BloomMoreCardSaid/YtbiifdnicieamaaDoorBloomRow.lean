/- Slices of texts that a law copies, or writes itself, and hands on. -/
import Derived.Test.YtbiifdnicieamaaDoorEpRow
import Derived.Test.YtbiifdnicieamaaDoorBloomSame
set_option linter.unusedVariables false
set_option maxRecDepth 100000
namespace Go.Proofs.YtbiifdnicieamaaDoor
open Go.RowKit

theorem info9 : (Tryd.prog.info? 9).map (fun i => (i.zero, i.size, i.bytes)) = some (some (.string ByteArray.empty), 1, 16) := by kernel_rfl
theorem texts_at (T : List ByteArray) (j : Nat) (u : Value) (hu : (T.map Value.string)[j]? = some u) : j < T.length ∧ u = .string (T.getD j ByteArray.empty) := by
  rw [List.getElem?_map] at hu
  cases h : T[j]? with
  | none => rw [h] at hu; cases hu
  | some x =>
    rw [h] at hu
    injection hu with hu
    exact ⟨(List.getElem?_eq_some_iff.1 h).1, by rw [List.getD_eq_getElem?_getD, h]; exact hu.symm⟩
/-- A slice of texts that came in, as the source of an append. -/
theorem src_texts {w : World} {a : Option Addr} {n kb koff : Nat} (c : Nat) {T : List ByteArray} (hn : n = T.length) (hab : n = 0 ∨ a = some ⟨kb, koff, none⟩) (hz : RowS kb koff T w) :
    Src Tryd.prog 1 22 (.slice a n c) n (T.map Value.string) w := by
  cases a with
  | none =>
    have h0 : n = 0 := hab.resolve_right (by simp)
    subst h0
    obtain rfl : T = [] := List.eq_nil_of_length_eq_zero hn.symm
    exact Src.ofNil w Tryd.underlying22 c
  | some x =>
    refine Src.ofSlice w Tryd.underlying22 x n c _ (by simp; omega) (fun j u hu => ?_) (fun v hv => by obtain ⟨t, _, rfl⟩ := List.mem_map.1 hv; rfl)
    obtain ⟨hj, rfl⟩ := texts_at T j u hu
    have := hab.resolve_left (by omega)
    injection this with this
    subst this
    rw [addr_add]
    exact (hz j hj).2
theorem off_empty (w : World) {B : Nat} (hB : B ≤ w.heap.size) (e : TypeId) (size : Nat) : OffRow (w.alloc (.cells #[] e)) B e size (.slice (some ⟨w.heap.size, 0, none⟩) 0 0) 0 [] :=
  ⟨by simp, .inr ⟨w.heap.size, 0, 0, #[], rfl, hB, heap_new w _, Nat.le_refl _, by unfold maxLen; omega, by simp, fun j hj => by simp at hj⟩⟩
theorem OffRow.texts {w : World} {B : Nat} {v : Value} {n : Nat} {T : List ByteArray} (h : OffRow w B 9 1 v n (T.map Value.string)) :
    ∃ a c, v = .slice a n c ∧ n = T.length ∧ ∃ kb koff, (n = 0 ∨ a = some ⟨kb, koff, none⟩) ∧ RowS kb koff T w := by
  have hl := h.1
  rw [List.length_map, Nat.mul_one] at hl
  rcases h.2 with ⟨rfl, h0⟩ | ⟨g, off, cap, cur, rfl, hB, hg, h1, h2, h3, h4⟩
  · subst h0
    exact ⟨_, _, rfl, hl.symm, 0, 0, .inl rfl, fun k hk => by omega⟩
  · refine ⟨_, _, rfl, hl.symm, g, off, .inr rfl, fun k hk => ⟨heap_lt hg, ?_⟩⟩
    have := h4 k (by omega)
    simp only [World.cell?, hg]
    rw [this, List.getElem?_map, List.getElem?_eq_getElem hk, List.getD_eq_getElem?_getD, List.getElem?_eq_getElem hk]
    rfl
/-- One text more. -/
theorem OffRow.push {w : World} {B : Nat} {v : Value} {n : Nat} {T : List ByteArray} {s : ByteArray} (h : OffRow w B 9 1 v (n + 1) (T.map Value.string ++ [.string s])) : OffRow w B 9 1 v (n + 1) ((T ++ [s]).map Value.string) := by
  rw [List.map_append]; exact h
end Go.Proofs.YtbiifdnicieamaaDoor
