/- Worlds in which the nodes of trees stay as they are: a block of another type may be written. -/
import Derived.Test.YtbmihajbdobgbaaMemMem
set_option linter.unusedVariables false
namespace Go.Proofs.Ytbmihajbdobgbaa
open Go.RowKit

/-- Each block of this type is kept. -/
def Kn (ty : TypeId) (w w' : World) : Prop := w.heap.size ≤ w'.heap.size ∧ ∀ (b : Nat) (cs : Array Value), w.heap[b]? = some (.cells cs ty (0, 0)) → w'.heap[b]? = w.heap[b]?
namespace Kn
variable {ty : TypeId} {a b c w w' : World}
theorem refl (ty : TypeId) (w : World) : Kn ty w w := ⟨Nat.le_refl _, fun _ _ _ => rfl⟩
theorem trans (h : Kn ty a b) (k : Kn ty b c) : Kn ty a c := ⟨Nat.le_trans h.1 k.1, fun i cs hi => (k.2 i cs ((h.2 i cs hi).trans hi)).trans (h.2 i cs hi)⟩
theorem of_below (h : Below w.heap.size w w') : Kn ty w w' := ⟨h.size, fun i cs hi => h.block i (heap_lt hi)⟩
theorem below (h : Kn ty a b) (k : Below b.heap.size b c) : Kn ty a c := h.trans (of_below k)
theorem drew (h : Kn ty a b) : Kn ty a b.drew := h.below (Below.refl _ _).drew
theorem alloc (h : Kn ty a b) (o : Obj) : Kn ty a (b.alloc o) := h.below ((Below.refl _ _).alloc (Nat.le_refl _) o)
/-- A store into a block that holds something else. -/
theorem set (h : Kn ty a b) {i o : Nat} {cs : Array Value} {t : TypeId} (hi : b.heap[i]? = some (.cells cs t (0, 0))) (ht : t ≠ ty) (v : Value) : Kn ty a (b.setCell ⟨i, o, none⟩ v) :=
  h.trans ⟨by simp [World.setCell], fun j cs' hj => heap_set_other (fun e => by
    subst e
    rw [hi] at hj
    injection hj with hj
    injection hj with _ hj
    exact ht hj) v⟩
/-- A row of something else has grown. -/
theorem grown (h : Kn ty a b) {row : Option Nat} (k : b.grownBy c row) (hr : ∀ j, row = some j → (∃ cs t, b.heap[j]? = some (.cells cs t (0, 0)) ∧ t ≠ ty) ∨ b.heap.size ≤ j) : Kn ty a c :=
  h.trans ⟨k.size, fun j cs hj => k.block j (heap_lt hj) fun e => by
    rcases hr j e.symm with ⟨cs', t, h1, h2⟩ | h1
    · rw [hj] at h1
      injection h1 with h1
      injection h1 with _ h1
      exact h2 h1.symm
    · have := heap_lt hj
      omega⟩
end Kn
theorem InT.kn {α : Type} {ty : TypeId} {val : α → Value} {B : Nat} {w w' : World} : ∀ {t : Tr α}, InT ty val B w t → Kn ty w w' → InT ty val w'.heap.size w' t
  | .nil, _, _ => trivial
  | .node b k x l r, ⟨⟨h1, h2⟩, hl, hr⟩, k' => ⟨⟨Nat.lt_of_lt_of_le (heap_lt h2) k'.1, (k'.2 b _ h2).trans h2⟩, hl.kn k', hr.kn k'⟩
end Go.Proofs.Ytbmihajbdobgbaa
