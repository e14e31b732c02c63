/- Trees of keys in memory; two texts held against each other. -/
import Derived.Test.YtbmihajbdobgbaaMemPlain
import Derived.Test.YtbmihajbdobgbaaEpRow
import Derived.Test.YtbmihajbdobgbaaQTail
set_option linter.unusedVariables false
set_option maxRecDepth 100000
namespace Go.Proofs.Ytbmihajbdobgbaa
open Go.RowKit

/-- Where a tree's first node lies. -/
def Tr.ptr {α : Type} : Tr α → Value
  | .nil => .pointer none
  | .node b _ _ _ _ => .pointer (some ⟨b, 0, none⟩)
theorem Tr.ptr_is {α : Type} (t : Tr α) : ∃ u, t.ptr = .pointer u := by cases t <;> exact ⟨_, rfl⟩
/-- A node's cells. -/
def ncells {α : Type} (val : α → Value) (k : List UInt8) (x : α) (l r : Tr α) : Array Value :=
  #[.string (bs k), val x, l.ptr, r.ptr, .int .i64 ((1 + max l.ht r.ht : Nat) : Int), .int .i64 ((1 + l.sz + r.sz : Nat) : Int)]
/-- A tree lies in a world, its nodes below B. -/
def InT {α : Type} (ty : TypeId) (val : α → Value) (B : Nat) (w : World) : Tr α → Prop
  | .nil => True
  | .node b k x l r => (b < B ∧ w.heap[b]? = some (.cells (ncells val k x l r) ty (0, 0))) ∧ InT ty val B w l ∧ InT ty val B w r
namespace InT
variable {α : Type} {ty : TypeId} {val : α → Value} {B C : Nat} {w w' : World}
theorem below : ∀ {t : Tr α}, InT ty val B w t → Below B w w' → InT ty val B w' t
  | .nil, _, _ => trivial
  | .node b k x l r, ⟨⟨h1, h2⟩, hl, hr⟩, k' => ⟨⟨h1, (k'.block b h1).trans h2⟩, hl.below k', hr.below k'⟩
theorem mono : ∀ {t : Tr α}, InT ty val B w t → B ≤ C → InT ty val C w t
  | .nil, _, _ => trivial
  | .node b k x l r, ⟨⟨h1, h2⟩, hl, hr⟩, hc => ⟨⟨by omega, h2⟩, hl.mono hc, hr.mono hc⟩
theorem low : ∀ {t : Tr α}, InT ty val B w t → InT ty val w.heap.size w t
  | .nil, _ => trivial
  | .node b k x l r, ⟨⟨h1, h2⟩, hl, hr⟩ => ⟨⟨heap_lt h2, h2⟩, hl.low, hr.low⟩
/-- What was there stays there where nothing that was there is written. -/
theorem seen {t : Tr α} (h : InT ty val B w t) (k : Below w.heap.size w w') : InT ty val w'.heap.size w' t := (h.low.below k).mono k.size
theorem cell {b : Nat} {k : List UInt8} {x : α} {l r : Tr α} (h : InT ty val B w (.node b k x l r)) (j : Nat) : w.cell? ⟨b, j, none⟩ = (ncells val k x l r)[j]? := by simp [World.cell?, h.1.2]
theorem c0 {b : Nat} {k : List UInt8} {x : α} {l r : Tr α} (h : InT ty val B w (.node b k x l r)) : w.cell? ⟨b, 0, none⟩ = some (.string (bs k)) := h.cell 0
theorem c1 {b : Nat} {k : List UInt8} {x : α} {l r : Tr α} (h : InT ty val B w (.node b k x l r)) : w.cell? ⟨b, 1, none⟩ = some (val x) := h.cell 1
theorem c2 {b : Nat} {k : List UInt8} {x : α} {l r : Tr α} (h : InT ty val B w (.node b k x l r)) : w.cell? ⟨b, 2, none⟩ = some l.ptr := h.cell 2
theorem c3 {b : Nat} {k : List UInt8} {x : α} {l r : Tr α} (h : InT ty val B w (.node b k x l r)) : w.cell? ⟨b, 3, none⟩ = some r.ptr := h.cell 3
theorem c4 {b : Nat} {k : List UInt8} {x : α} {l r : Tr α} (h : InT ty val B w (.node b k x l r)) : w.cell? ⟨b, 4, none⟩ = some (.int .i64 ((1 + max l.ht r.ht : Nat) : Int)) := h.cell 4
theorem c5 {b : Nat} {k : List UInt8} {x : α} {l r : Tr α} (h : InT ty val B w (.node b k x l r)) : w.cell? ⟨b, 5, none⟩ = some (.int .i64 ((1 + l.sz + r.sz : Nat) : Int)) := h.cell 5
end InT

/-- Two texts held against each other. -/
def cmpL (a b : List UInt8) : Int := if ltB a b then -1 else if ltB b a then 1 else 0
theorem cmpL_lt {a b : List UInt8} (h : ltB a b = true) : cmpL a b = -1 := by simp [cmpL, h]
theorem cmpL_gt {a b : List UInt8} (h : ltB b a = true) : cmpL a b = 1 := by simp [cmpL, h, ltB_asymm h]
theorem cmpL_eq {a b : List UInt8} (h : a = b) : cmpL a b = 0 := by subst h; simp [cmpL, ltB_irrefl]
theorem cmp_isNaN (a : ByteArray) (w : World) : Calls Try.prog 35 #[.string a] w fun e w' => e = .returned (.bool false) ∧ w' = w := by
  go_enter Try.func35, Try.ntmps35
  go_wp2
  go_ret
  simp
theorem cmp_Compare (a b : List UInt8) (w : World) : Calls Try.prog 24 #[.string (bs a), .string (bs b)] w fun e w' => e = .returned (.int .i64 (cmpL a b)) ∧ w' = w := by
  have hab : Op.bytesLess (bs a).toList (bs b).toList = ltB a b := by rw [Lib.toList_data, Lib.toList_data, bs_list, bs_list, ltB_less]
  have hba : Op.bytesLess (bs b).toList (bs a).toList = ltB b a := by rw [Lib.toList_data, Lib.toList_data, bs_list, bs_list, ltB_less]
  have heq : ((bs a).toList == (bs b).toList) = (a == b) := by rw [Lib.toList_data, Lib.toList_data, bs_list, bs_list]
  obtain ⟨c, hc⟩ : ∃ c, c = cmpL a b := ⟨_, rfl⟩
  rw [← hc]
  have HC := Lib.hid hc
  clear hc
  have HN := fun x w => Lib.hid (cmp_isNaN x w)
  go_enter Try.func24, Try.ntmps24
  rcases ltB_total a b with h | h | h
  · rw [h] at hab
    have HC1 := Lib.hid (HC.out.trans (cmpL_lt h))
    clear h HC hba heq
    go_wp2_with (go_at_call 35; with_reducible refine (HN _ _).out.mono ?_; rintro e w1 ⟨rfl, rfl⟩)
    all_goals go_ret
    all_goals exact ⟨by rw [HC1.out]; rfl, rfl⟩
  · have h1 : ltB a b = false := by rw [h, ltB_irrefl]
    have h2 : (a == b) = true := by simpa using h
    rw [h1] at hab
    rw [h2] at heq
    have HC1 := Lib.hid (HC.out.trans (cmpL_eq h))
    clear h h1 h2 HC hba
    go_wp2_with (go_at_call 35; with_reducible refine (HN _ _).out.mono ?_; rintro e w1 ⟨rfl, rfl⟩)
    all_goals go_ret
    all_goals exact ⟨by rw [HC1.out]; rfl, rfl⟩
  · have h2 : (a == b) = false := by simpa using (ltB_ne h).symm
    rw [ltB_asymm h] at hab
    rw [h2] at heq
    have HC1 := Lib.hid (HC.out.trans (cmpL_gt h))
    clear h h2 HC hba
    go_wp2_with (go_at_call 35; with_reducible refine (HN _ _).out.mono ?_; rintro e w1 ⟨rfl, rfl⟩)
    all_goals go_ret
    all_goals exact ⟨by rw [HC1.out]; rfl, rfl⟩
end Go.Proofs.Ytbmihajbdobgbaa
