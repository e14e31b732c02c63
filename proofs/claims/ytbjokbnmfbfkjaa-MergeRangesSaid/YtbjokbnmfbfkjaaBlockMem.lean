/- Entries in memory, for layers that do not reach the block's own code: variables, rows that are filled. -/
import Derived.Test.YtbjokbnmfbfkjaaBlockRow
import Derived.Test.YtbjokbnmfbfkjaaEpRow
import Derived.Test.YtbjokbnmfbfkjaaQTail
import Derived.OwnWalk
import Derived.Deep.Cut
import Derived.Outline
import Derived.Deep.RegionWith
import Derived.Lib.FrozenHead2
import Derived.Lib.OthersKept
import Derived.Lib.Slices
import Derived.Lib.Walk
set_option linter.unusedVariables false
set_option maxRecDepth 100000
set_option maxRecDepth 100000
namespace Go.Proofs.Ytbjokbnmfbfkjaa
open Go.RowKit

/-- A variable that holds a text. -/
def Bx (c : Nat) (s : List UInt8) (w : World) : Prop := w.heap[c]? = some (.cells #[.string (bs s)] 9 (0, 0))
theorem Bx.cell {c : Nat} {s : List UInt8} {w : World} (h : Bx c s w) : w.cell? ⟨c, 0, none⟩ = some (.string (bs s)) := by unfold Bx at h; simp [World.cell?, h]
theorem Bx.free {c : Nat} {s : List UInt8} {w : World} (h : Bx c s w) : w.frozen? ⟨c, 0, none⟩ = false := by unfold Bx at h; simp [World.frozen?, h]
theorem Bx.put {c : Nat} {s : List UInt8} {w : World} (h : Bx c s w) (t : List UInt8) : Bx c t (w.setCell ⟨c, 0, none⟩ (.string (bs t))) := heap_set (o := 0) h _
/-- A variable that holds an entry. -/
def Bx3 (c : Nat) (x : Ent) (w : World) : Prop := w.heap[c]? = some (.cells #[.string (bs x.key), .string (bs x.val), .bool x.gone] 32 (0, 0))
theorem Bx3.cells {c : Nat} {x : Ent} {w : World} (h : Bx3 c x w) : w.cell? ⟨c, 0, none⟩ = some (.string (bs x.key)) ∧ w.cell? ⟨c, 1, none⟩ = some (.string (bs x.val)) ∧ w.cell? ⟨c, 2, none⟩ = some (.bool x.gone) := by unfold Bx3 at h; simp [World.cell?, h]

theorem Bx3.free {c : Nat} {x : Ent} {w : World} (h : Bx3 c x w) (j : Nat) : w.frozen? ⟨c, j, none⟩ = false := by unfold Bx3 at h; simp [World.frozen?, h]
theorem Bx3.put2 {c : Nat} {x : Ent} {w : World} (h : Bx3 c x w) (g : Bool) : Bx3 c ⟨x.key, x.val, g⟩ (w.setCell ⟨c, 2, none⟩ (.bool g)) := heap_set (o := 2) h _
theorem Bx3.put1 {c : Nat} {x : Ent} {w : World} (h : Bx3 c x w) (u : List UInt8) : Bx3 c ⟨x.key, u, x.gone⟩ (w.setCell ⟨c, 1, none⟩ (.string (bs u))) := heap_set (o := 1) h _
theorem take_ent {T : List Ent} {k : Nat} {x : Ent} (h : T[k]? = some x) : T.take (k + 1) = T.take k ++ [x] := by rw [List.take_add_one, h]; rfl
theorem retb {a b : Bool} (h : a = b) : Ending.returned (.bool a) = Ending.returned (.bool b) := by rw [h]
/-- A row of entries that is being filled. -/
def Fill (G n : Nat) (T : List Ent) (i : Nat) (w : World) : Prop :=
  ∃ cur, w.heap[G]? = some (.cells cur 32 (0, 0)) ∧ cur.size = n * 3 ∧ ∀ j x, j < i → T[j]? = some x → cur[j * 3]? = some (.string (bs x.key)) ∧ cur[j * 3 + 1]? = some (.string (bs x.val)) ∧ cur[j * 3 + 2]? = some (.bool x.gone)
theorem Fill.cells {G n i : Nat} {T : List Ent} {w : World} (h : Fill G n T i w) {k : Nat} (hk : k < n * 3) : (∃ v, w.cell? ⟨G, k, none⟩ = some v) ∧ w.frozen? ⟨G, k, none⟩ = false := by
  obtain ⟨cur, h1, h2, _⟩ := h
  refine ⟨⟨cur[k]'(by omega), ?_⟩, by simp [World.frozen?, h1]⟩
  simp only [World.cell?, h1]
  exact Array.getElem?_eq_getElem _
theorem Fill.put {G n i : Nat} {T : List Ent} {w : World} {x : Ent} (h : Fill G n T i w) (hi : i < n) (hx : T[i]? = some x) : Fill G n T (i + 1) (((w.setCell ⟨G, i * 3, none⟩ (.string (bs x.key))).setCell ⟨G, i * 3 + 1, none⟩ (.string (bs x.val))).setCell ⟨G, i * 3 + 2, none⟩ (.bool x.gone)) := by
  obtain ⟨cur, h1, h2, h3⟩ := h
  have s1 := heap_set (o := i * 3) h1 (.string (bs x.key))
  have s2 := heap_set (o := i * 3 + 1) s1 (.string (bs x.val))
  have s3 := heap_set (o := i * 3 + 2) s2 (.bool x.gone)
  refine ⟨_, s3, by simp [h2], fun j y hj hy => ?_⟩
  simp only [Array.getElem?_setIfInBounds, Array.size_setIfInBounds, h2]
  by_cases hji : j = i
  · subst hji
    rw [hx] at hy
    injection hy with hy
    subst hy
    refine ⟨?_, ?_, ?_⟩
    · rw [if_neg (by omega), if_neg (by omega), if_pos rfl, if_pos (by omega)]
    · rw [if_neg (by omega), if_pos rfl, if_pos (by omega)]
    · rw [if_pos rfl, if_pos (by omega)]
  · obtain ⟨a, b, c⟩ := h3 j y (by omega) hy
    refine ⟨?_, ?_, ?_⟩
    · rw [if_neg (by omega), if_neg (by omega), if_neg (by omega)]; exact a
    · rw [if_neg (by omega), if_neg (by omega), if_neg (by omega)]; exact b
    · rw [if_neg (by omega), if_neg (by omega), if_neg (by omega)]; exact c
theorem Fill.keep {G n i : Nat} {T : List Ent} {w w' : World} (h : Fill G n T i w) (k : Below w.heap.size w w') : Fill G n T i w' := by
  obtain ⟨cur, h1, h2⟩ := h
  exact ⟨cur, (k.block G (heap_lt h1)).trans h1, h2⟩
theorem Fill.full {G : Nat} {T : List Ent} {w : World} (h : Fill G T.length T T.length w) : IsE w (some ⟨G, 0, none⟩) T.length T := by
  obtain ⟨cur, h1, h2, h3⟩ := h
  refine ⟨rfl, G, 0, .inr rfl, fun k hk => ?_⟩
  obtain ⟨a, b, c⟩ := h3 k _ hk (List.getElem?_eq_getElem hk)
  rw [Nat.zero_add]
  exact ⟨heap_lt h1, by simp only [World.cell?, h1]; exact a, by simp only [World.cell?, h1]; exact b, by simp only [World.cell?, h1]; exact c⟩
theorem infoE : (Try.prog.info? 32).map (fun i => (i.zero, i.size, i.bytes)) = some (some (.agg #[.string ByteArray.empty, .string ByteArray.empty, .bool false]), 3, 40) := by kernel_rfl
/-- A slice that a call answers is new. -/
def NewS (w : World) (e : Ending) : Prop := ∀ b off n c, e = .returned (.slice (some ⟨b, off, none⟩) n c) → w.heap.size ≤ b
theorem OffRow.allocd {w : World} {B n size : Nat} {e : TypeId} {v : Value} {xs : List Value} (h : OffRow w B e size v n xs) (o : Obj) : OffRow (w.alloc o) B e size v n xs := h.kept fun j hj => Below.heap_alloc w o j (h.lt j hj).2
/-- A variable that holds a slice. -/
def BxS (c : Nat) (v : Value) (w : World) : Prop := w.heap[c]? = some (.cells #[v] 22 (0, 0))
end Go.Proofs.Ytbjokbnmfbfkjaa
