/- Ranges over functions: a round keeps all blocks of cells but one; marks among the deferred calls of a function that holds such a loop within another loop. -/
import Derived.Test.YtbmihajbdobgbaaQTail
import Derived.Test.YtbmihajbdobgbaaOnly
import Derived.RangeFuncNested
import Derived.RangeFuncBound
import Derived.RangeFuncCalls
import Derived.RangeFuncLeaves
import Derived.Shelf.Abstract
import Derived.Shelf.RegionOpen
import Derived.WalkKit
import Derived.OwnWalkIn
import Derived.TacticsInMore
import Derived.LoopNIn
import Derived.LoopIn
set_option linter.unusedVariables false
set_option maxRecDepth 100000
namespace Go.Proofs.Ytbmihajbdobgbaa
open Go.RowKit

/-- A box that was just laid; what lay before it. -/
theorem box_new (W : World) (v : Value) (t : TypeId) : (W.alloc (.cells #[v] t)).cell? ⟨W.heap.size, 0, none⟩ = some v := by
  rw [World.cell?_alloc_mark]; simp
theorem box_free (W : World) (v : Value) (t : TypeId) : (W.alloc (.cells #[v] t)).frozen? ⟨W.heap.size, 0, none⟩ = false := by
  rw [World.frozen?_alloc_mark]; simp
theorem cell_on {W : World} {a : Addr} {v : Value} (o : Obj) (h : W.cell? a = some v) : (W.alloc o).cell? a = some v := cell_kept h (World.grownBy_alloc W o none) (fun r e => by cases e)
theorem free_on {W : World} {a : Addr} {v : Value} (o : Obj) (h : W.cell? a = some v) (hf : W.frozen? a = false) : (W.alloc o).frozen? a = false := (frozen_kept h (World.grownBy_alloc W o none) (fun r e => by cases e)).trans hf

/-- All blocks of cells but X's are kept. -/
structure KeepsCells (X : Nat) (W W' : World) : Prop where
  os : W'.os = W.os
  tape : W'.tape = W.tape
  output : W'.output = W.output
  size : W.heap.size ≤ W'.heap.size
  cells : ∀ (k : Nat) (o : Obj), k ≠ X → W.heap[k]? = some o → o.isCells = true → W'.heap[k]? = some o
namespace KeepsCells
variable {X : Nat} {A B C : World}
theorem refl (X : Nat) (W : World) : KeepsCells X W W := ⟨rfl, rfl, rfl, Nat.le_refl _, fun _ _ _ h _ => h⟩
theorem trans (h : KeepsCells X A B) (k : KeepsCells X B C) : KeepsCells X A C :=
  ⟨k.os.trans h.os, k.tape.trans h.tape, k.output.trans h.output, Nat.le_trans h.size k.size, fun j o hj ho hc => k.cells j o hj (h.cells j o hj ho hc) hc⟩
theorem of_below (h : Below A.heap.size A B) : KeepsCells X A B :=
  ⟨h.os, h.tape, h.output, h.size, fun j o _ ho _ => (h.block j (Array.getElem?_eq_some_iff.1 ho).1).trans ho⟩
theorem setCell (W : World) (o : Nat) (v : Value) : KeepsCells X W (W.setCell ⟨X, o, none⟩ v) :=
  ⟨rfl, rfl, rfl, by simp, fun j o' hj ho _ => (Below.heap_setCell W ⟨X, o, none⟩ v j hj).trans ho⟩
theorem grown {row : Option Nat} (h : KeepsCells X A B) (hg : B.grownBy C row) (hr : ∀ r, row = some r → ∃ o : Obj, B.heap[r]? = some o ∧ o.isCells = false) : KeepsCells X A C :=
  ⟨hg.os.trans h.os, hg.tape.trans h.tape, hg.output.trans h.output, Nat.le_trans h.size hg.size, fun j o hj ho hc => by
    have hb := h.cells j o hj ho hc
    refine (hg.block j (Array.getElem?_eq_some_iff.1 hb).1 (fun e => ?_)).trans hb
    obtain ⟨o', h1, h2⟩ := hr j e.symm
    rw [hb] at h1
    obtain rfl := Option.some.inj h1
    rw [hc] at h2
    cases h2⟩
theorem putObj (W : World) (l : Nat) (o o' : Obj) (h : W.heap[l]? = some o) (ho : o.isCells = false) : KeepsCells X W (W.putObj l o') :=
  (KeepsCells.refl X W).grown (grownBy_putObj' W l o') (fun r e => by cases e; exact ⟨o, h, ho⟩)
/-- What is there of a block of cells. -/
theorem block (h : KeepsCells X A B) {b : Nat} (hb : b ≠ X) {p : Nat} {v : Value} (hc : A.cell? ⟨b, p, none⟩ = some v) : B.heap[b]? = A.heap[b]? := by
  unfold World.cell? at hc
  cases ho : A.heap[b]? with
  | none => simp [ho] at hc
  | some o =>
    cases o with
    | cells c t f => exact h.cells b _ hb ho rfl
    | _ => simp [ho] at hc
theorem cell (h : KeepsCells X A B) {b p : Nat} (hb : b ≠ X) {v : Value} (hc : A.cell? ⟨b, p, none⟩ = some v) : B.cell? ⟨b, p, none⟩ = some v := by
  rw [← hc]
  unfold World.cell?
  rw [h.block hb hc]
theorem frozen (h : KeepsCells X A B) {b p q : Nat} (hb : b ≠ X) {v : Value} (hc : A.cell? ⟨b, p, none⟩ = some v) : B.frozen? ⟨b, q, none⟩ = A.frozen? ⟨b, q, none⟩ := by
  unfold World.frozen?
  rw [h.block hb hc]
end KeepsCells
theorem keeps_own {α : Type} (B X : Nat) (W : World) : OwnFrom B (fun (_ : α) W' => KeepsCells X W W') := fun s A C row hs hg hr => hs.grown hg (fun r e => (hr r e).2)

theorem only_own {α : Type} {S : Nat → Prop} {B : Nat} {W : World} (hB : W.heap.size ≤ B) : OwnFrom B (fun (_ : α) W' => Only S W W') := fun s A C row hs hg hr => hs.grown hg (fun j e => .inr (Nat.le_trans hB (hr j e).1))
theorem Only.keepsCells {X : Nat} {A B : World} (h : Only (fun k => k = X) A B) : KeepsCells X A B :=
  ⟨h.os, h.tape, h.output, h.size, fun j o hj ho _ => (h.block j (Array.getElem?_eq_some_iff.1 ho).1 hj).trans ho⟩

/-- Behind each loop over a function there is a mark: none of them holds a call. -/
def Marks : List Deferred → World → Prop
  | [], _ => True
  | d :: ds, w => (∃ r, d.target = .collected r ∧ w.heap[r]? = some (.deferred (some [])) ∧ ∀ d' ∈ ds, d'.target ≠ .collected r) ∧ Marks ds w
/-- Where the marks lie from B on. -/
def MarksFrom (B : Nat) (ds : List Deferred) : Prop := ∀ d ∈ ds, ∀ r, d.target = .collected r → B ≤ r
theorem Marks.keep : ∀ {ds : List Deferred} {w w' : World}, Marks ds w → (∀ d ∈ ds, ∀ r, d.target = .collected r → w'.heap[r]? = w.heap[r]?) → Marks ds w'
  | [], _, _, _, _ => trivial
  | d :: ds, w, w', h, k => by
    obtain ⟨⟨r, h1, h2, h3⟩, h4⟩ := h
    exact ⟨⟨r, h1, by rw [k d (by simp) r h1, h2], h3⟩, Marks.keep h4 (fun d' hd r hr => k d' (by simp [hd]) r hr)⟩
theorem marks_lt : ∀ {ds : List Deferred} {w : World} {d : Deferred} {r : Nat}, Marks ds w → d ∈ ds → d.target = .collected r → r < w.heap.size
  | [], _, _, _, _, h, _ => by cases h
  | d :: ds, w, d', r, h, hd, hr => by
    obtain ⟨⟨r', h1, h2, h3⟩, h4⟩ := h
    rcases List.mem_cons.1 hd with rfl | hd
    · rw [h1] at hr
      cases hr
      exact (Array.getElem?_eq_some_iff.1 h2).1
    · exact marks_lt h4 hd hr
/-- The function's return with such marks. -/
theorem leaves_marks {F : Fence} {n : Nat} {P : Program} {fn : Func} {tmps : Array Value} {R : Ending → World → Prop} {B : Nat} :
    ∀ (ds : List Deferred) (w : World), Marks ds w → MarksFrom B ds → B ≤ w.heap.size → (∀ w', Below B w w' → (∀ (k : Nat) (o : Obj), w.heap[k]? = some o → o.isCells = true → w'.heap[k]? = some o) → LeavesIn F n P fn tmps R [] .returning w') → LeavesInM F n P fn tmps R ds .returning w
  | [], w, _, _, hB, h => h w (Below.refl _ _) (fun _ _ h _ => h)
  | d :: ds, w, hm, hf, hB, h => by
    obtain ⟨⟨r, h1, h2, h3⟩, h4⟩ := hm
    have hlt : r < w.heap.size := (Array.getElem?_eq_some_iff.1 h2).1
    refine ⟨by simp, .inl ⟨r, _, h1, run_takeDeferred h2, ?_⟩⟩
    have hk : ∀ j, j ≠ r → (w.putObj r (.deferred none)).heap[j]? = w.heap[j]? := fun j hj => World.putObj_heap_other hj
    have hb : Below B w (w.putObj r (.deferred none)) := (Below.refl B w).grown (grownBy_putObj' w r (.deferred none)) hB (fun k e => by cases e; exact hf d (by simp) r h1)
    refine leaves_marks ds _ (Marks.keep h4 fun d' hd' r' hr' => hk r' (fun e => h3 d' hd' (by rw [hr', e]))) (fun d' hd' => hf d' (by simp [hd'])) (Nat.le_trans hB hb.size) (fun w' kb kc => h w' (hb.trans kb) (fun k o hko hoc => kc k o ?_ hoc))
    rw [hk k (fun e => by subst e; rw [h2] at hko; cases hko; cases hoc)]
    exact hko
end Go.Proofs.Ytbmihajbdobgbaa
