/- A step's own state: the document's world, and the step that is done, in a block of its own. -/
import Derived.Test.YtccliallljcjgaaSchedReady
import Derived.Deep.CutRange
import Derived.Deep.CutBlock
import Derived.BigQuiet
import Derived.Below
set_option linter.unusedVariables false
namespace Go.Proofs.Ytccliallljcjgaa
open Go.RowKit

structure Mid (B : Nat) (S : Nat → Prop) (w0 : World) (q : At5) (xb : Nat) (x : INS) (p : PW) (w : World) : Prop where
  lay : Lay5 B S w q p
  xs : w.heap[xb]? = some (.cells x.vals 73 (0, 0))
  only : Only S w0 w
namespace Mid
variable {B : Nat} {S : Nat → Prop} {w0 w : World} {q : At5} {xb : Nat} {x : INS} {p p' : PW}
theorem x_ne (h : Mid B S w0 q xb x p w) : q.m ≠ xb ∧ q.T ≠ xb ∧ q.C ≠ xb ∧ q.X ≠ xb ∧ q.H ≠ xb := by
  have h1 := h.xs
  obtain ⟨cur, h2, _⟩ := h.lay.tr
  refine ⟨?_, ?_, ?_, ?_, ?_⟩ <;> intro e <;> rw [← e] at h1
  · rw [h.lay.obj] at h1; simp at h1
  · rw [h2] at h1; simp at h1
  · rw [h.lay.c.2.1] at h1; simp at h1
  · rw [h.lay.x.2.1] at h1; simp at h1
  · rw [h.lay.h.2.1] at h1; simp at h1
theorem cell (h : Mid B S w0 q xb x p w) (k : Nat) : w.cell? ⟨xb, k, none⟩ = x.vals[k]? := by simp [World.cell?, h.xs]
theorem drewN (h : Mid B S w0 q xb x p w) (n : Nat) : Mid B S w0 q xb x p (w.drewN n) := ⟨h.lay.drewN n, h.xs, h.only.drewN n⟩
theorem turn (h : Mid B S w0 q xb x p w) {b o : Nat} {u : Value} (hl : Lay5 B S (w.setCell ⟨b, o, none⟩ u) q p') (hb : S b) (hx : b ≠ xb) : Mid B S w0 q xb x p' (w.setCell ⟨b, o, none⟩ u) :=
  ⟨hl, (heap_set_other (Ne.symm hx) u).trans h.xs, h.only.setCell (p := ⟨b, o, none⟩) (.inl hb) u⟩
theorem setSteps (h : Mid B S w0 q xb x p w) (n : Int) (hn : 0 ≤ n) : Mid B S w0 q xb x { p with steps := n } (w.setCell ⟨q.m, 4, none⟩ (.int .i64 n)) := h.turn (h.lay.setSteps n hn) h.lay.sm h.x_ne.1
theorem setCells (h : Mid B S w0 q xb x p w) (i : Nat) (z : Int) (hz : -9223372036854775808 ≤ z ∧ z ≤ 9223372036854775807) : Mid B S w0 q xb x { p with cells := p.cells.set i z } (w.setCell ⟨q.C, i, none⟩ (.int .i64 z)) := h.turn (h.lay.setCells i z hz) h.lay.sC h.x_ne.2.2.1
theorem setSets (h : Mid B S w0 q xb x p w) (i : Nat) (z : Int) (hz : -9223372036854775808 ≤ z ∧ z ≤ 9223372036854775807) : Mid B S w0 q xb x { p with sets := p.sets.set i z } (w.setCell ⟨q.X, i, none⟩ (.int .i64 z)) := h.turn (h.lay.setSets i z hz) h.lay.sX h.x_ne.2.2.2.1
theorem setHeld (h : Mid B S w0 q xb x p w) (i : Nat) (z : Int) (hz : -9223372036854775808 ≤ z ∧ z ≤ 9223372036854775807) : Mid B S w0 q xb x { p with held := p.held.set i z } (w.setCell ⟨q.H, i, none⟩ (.int .i64 z)) := h.turn (h.lay.setHeld i z hz) h.lay.sH h.x_ne.2.2.2.2
theorem setTask (h : Mid B S w0 q xb x p w) (i : Nat) (hi : i < p.ts.length) (j : Nat) (hj : j < 4) (u : Value) (t' : TK) (ht : (p.ts.getD i default).vals.setIfInBounds j u = t'.vals) (hok : t'.Ok w B) :
    Mid B S w0 q xb x { p with ts := p.ts.set i t' } (w.setCell ⟨q.T, i * 4 + j, none⟩ u) := h.turn (h.lay.setTask i hi j hj u t' ht hok) h.lay.sT h.x_ne.2.1
end Mid

theorem set_same {l : List Int} {i : Nat} : l.set i (l.getD i 0) = l := by
  apply List.ext_getElem?
  intro k
  rw [List.getElem?_set]
  split
  · next h =>
    subst h
    split
    · next h => rw [List.getD_eq_getElem?_getD, List.getElem?_eq_getElem h]; rfl
    · next h => rw [List.getElem?_eq_none (by omega)]
  · rfl
theorem wrap_in (z : Int) : -9223372036854775808 ≤ IntKind.i64.wrap z ∧ IntKind.i64.wrap z ≤ 9223372036854775807 := by
  unfold IntKind.wrap
  simp only [IntKind.signed, IntKind.bits]
  by_cases h : z % 2 ^ 64 ≥ 2 ^ (64 - 1)
  · simp [h] at *; omega
  · simp [h] at *; omega
/-- What a task knows is written, and then the step's cell. -/
theorem Mid.known {B : Nat} {S : Nat → Prop} {w0 w : World} {q : At5} {xb : Nat} {x : INS} {ts : List TK} {t1 : TK} {cs ss hs : List Int} {st : Int} {i : Nat} (hi : i < ts.length)
    (h : Mid B S w0 q xb x ⟨ts.set i t1, cs, ss, hs, st⟩ w) (z : Int) (hz : -9223372036854775808 ≤ z ∧ z ≤ 9223372036854775807) :
    Mid B S w0 q xb x ⟨ts.set i { t1 with known := z }, cs, ss, hs, st⟩ (w.setCell ⟨q.T, i * 4 + 2, none⟩ (.int .i64 z)) := by
  have hi2 : i < (ts.set i t1).length := by simpa using hi
  have hg : (ts.set i t1).getD i default = t1 := getD_set_same hi _ _
  have k := h.lay.tk i hi2
  simp only at k
  rw [hg] at k
  have := h.setTask i hi2 2 (by omega) (.int .i64 z) { t1 with known := z } (by simp only; rw [hg]; simp [TK.vals]) ⟨k.p, k.at_, hz.1, hz.2⟩
  simp only [List.set_set] at this
  exact this

end Go.Proofs.Ytccliallljcjgaa
