/- EpochSafe: the book, and the three rows that the statement keeps beside it. -/
import Derived.Test.YtagadjgemgajjaaSafePlain
import Derived.Test.YtagadjgemgajjaaEpOpen
set_option linter.unusedVariables false
namespace Go.Proofs.Ytagadjgemgajjaa
open Go.RowKit

/-- E: the row of who came when; vn: the names; vt: when they were told. -/
structure Lw (B : Nat) (w0 w : World) (q : AtB) (s : EB) (E : Nat) (ent : List Int) (vn : Value) (names : List Value) (vt : Value) (told : List Int) : Prop where
  bk : Bk 58 62 B w q s
  ent : w.heap[E]? = some (.cells (ent.map intV).toArray 3 (0, 0))
  nm : OffRow w B 9 1 vn names.length names
  tl : OffRow w B 3 1 vt told.length (told.map intV)
  sE : ¬ q.S E
  sN : ∀ j, vn.ownBlock = some j → ¬ q.S j
  sT : ∀ j, vt.ownBlock = some j → ¬ q.S j ∧ j ≠ E
  lE : B ≤ E
  bel : Below B w0 w
  bz : B ≤ w.heap.size
namespace Lw
variable {B : Nat} {w0 w w1 W : World} {q q' : AtB} {s s' : EB} {E : Nat} {ent : List Int} {vn vn' : Value} {names : List Value} {vt vt' : Value} {told : List Int}
theorem ltE (h : Lw B w0 w q s E ent vn names vt told) : E < w.heap.size := heap_lt h.ent
theorem tagN (h : Lw B w0 w q s E ent vn names vt told) {j : Nat} (hj : vn.ownBlock = some j) : j ≠ E ∧ vt.ownBlock ≠ some j := by
  obtain ⟨cur, hc⟩ := h.nm.tag hj
  refine ⟨tag_ne hc h.ent (by decide), fun e => ?_⟩
  obtain ⟨cur2, hc2⟩ := h.tl.tag e
  exact tag_ne hc hc2 (by decide) rfl
theorem cell (h : Lw B w0 w q s E ent vn names vt told) {k : Nat} (hk : k < ent.length) : w.cell? ⟨E, k, none⟩ = some (.int .i64 (ent.getD k 0)) := by
  simp [World.cell?, h.ent, List.getD_eq_getElem?_getD, hk, intV]
theorem free (h : Lw B w0 w q s E ent vn names vt told) (k : Nat) : w.frozen? ⟨E, k, none⟩ = false := by simp [World.frozen?, h.ent]
theorem book (h : Lw B w0 w q s E ent vn names vt told) (k : Turned 58 62 B w q s' w1 q') : Lw B w0 w1 q' s' E ent vn names vt told := by
  have new : ∀ j, j < w.heap.size → ¬ q.S j → ¬ q'.S j := fun j hj hn hs => by
    rcases k.sub j hs with x | x
    · exact hn x
    · omega
  exact ⟨k.bk, (k.only.block E h.ltE h.sE).trans h.ent, h.nm.kept fun j hj => k.only.block j (h.nm.lt j hj).2 (h.sN j hj), h.tl.kept fun j hj => k.only.block j (h.tl.lt j hj).2 (h.sT j hj).1, new E h.ltE h.sE, fun j hj => new j (h.nm.lt j hj).2 (h.sN j hj), fun j hj => ⟨new j (h.tl.lt j hj).2 (h.sT j hj).1, (h.sT j hj).2⟩, h.lE, h.bel.trans (k.bel h.bk h.bz), Nat.le_trans h.bz k.only.size⟩
theorem kept (h : Lw B w0 w q s E ent vn names vt told) (k : Below w.heap.size w w1) : Lw B w0 w1 q s E ent vn names vt told :=
  ⟨h.bk.below k, (k.block E h.ltE).trans h.ent, h.nm.below k, h.tl.below k, h.sE, h.sN, h.sT, h.lE, h.bel.trans (k.mono h.bz), Nat.le_trans h.bz k.size⟩
theorem setEnt (h : Lw B w0 w q s E ent vn names vt told) (k : Nat) (z : Int) : Lw B w0 (w.setCell ⟨E, k, none⟩ (.int .i64 z)) q s E (ent.set k z) vn names vt told := by
  refine ⟨h.bk.kept fun j hj => heap_set_other (show j ≠ E from fun e => h.sE (e ▸ hj)) _, ?_, h.nm.kept fun j hj => heap_set_other (h.tagN hj).1 _, h.tl.kept fun j hj => heap_set_other (h.sT j hj).2 _, h.sE, h.sN, h.sT, h.lE, h.bel.setCell (p := ⟨E, k, none⟩) h.lE _, by simpa [World.setCell] using h.bz⟩
  rw [heap_set h.ent]
  congr 2
  apply Array.ext'
  simp [intV, List.map_set]
theorem pushN (h : Lw B w0 w q s E ent vn names vt told) (hg : w.grownBy w1 vn.ownBlock) (hat : vn'.ownBlock = vn.ownBlock ∨ vn'.ownBlock = some w.heap.size) {l : List Value} (hr : OffRow w1 B 9 1 vn' (names.length + l.length) (names ++ l)) : Lw B w0 w1 q s E ent vn' (names ++ l) vt told := by
  have kp : ∀ j, j < w.heap.size → vn.ownBlock ≠ some j → w1.heap[j]? = w.heap[j]? := fun j hj hn => hg.block j hj fun e => hn e.symm
  refine ⟨h.bk.kept fun j hj => kp j (h.bk.low j hj).2 fun e => h.sN j e hj, (kp E h.ltE fun e => (h.tagN e).1 rfl).trans h.ent, by rw [List.length_append]; exact hr, h.tl.kept fun j hj => kp j (h.tl.lt j hj).2 fun e => (h.tagN e).2 hj, h.sE, fun j hj hs => ?_, h.sT, h.lE, ?_, Nat.le_trans h.bz hg.size⟩
  · rcases hat with e | e
    · exact h.sN j (e ▸ hj) hs
    · rw [e] at hj
      injection hj with hj
      have := (h.bk.low j hs).2
      omega
  · exact h.bel.trans ⟨hg.os, hg.tape, hg.output, hg.size, fun j hj => hg.block j (by have := h.bz; omega) fun e => by have := (h.nm.lt j e.symm).1; omega⟩
theorem pushT (h : Lw B w0 w q s E ent vn names vt told) (hA : Below w.heap.size w W) (hg : W.grownBy w1 vt.ownBlock) (hat : vt'.ownBlock = vt.ownBlock ∨ vt'.ownBlock = some W.heap.size) {t : Int} (hr : OffRow w1 B 3 1 vt' (told.length + 1) (told.map intV ++ [.int .i64 t])) : Lw B w0 w1 q s E ent vn names vt' (told ++ [t]) := by
  have hs := hA.size
  have kp : ∀ j, j < w.heap.size → vt.ownBlock ≠ some j → w1.heap[j]? = w.heap[j]? := fun j hj hn => (hg.block j (by omega) fun e => hn e.symm).trans (hA.block j hj)
  refine ⟨h.bk.kept fun j hj => kp j (h.bk.low j hj).2 fun e => (h.sT j e).1 hj, (kp E h.ltE fun e => (h.sT E e).2 rfl).trans h.ent, h.nm.kept fun j hj => kp j (h.nm.lt j hj).2 fun e => (h.tagN hj).2 e, by rw [List.length_append, List.map_append]; exact hr, h.sE, h.sN, fun j hj => ?_, h.lE, ?_, Nat.le_trans h.bz (Nat.le_trans hs hg.size)⟩
  · rcases hat with e | e
    · exact h.sT j (e ▸ hj)
    · rw [e] at hj
      injection hj with hj
      refine ⟨fun x => ?_, fun x => ?_⟩
      · have := (h.bk.low j x).2
        omega
      · have := h.ltE
        omega
  · have h1 : Below B w W := hA.mono h.bz
    exact h.bel.trans ⟨hg.os.trans h1.os, hg.tape.trans h1.tape, hg.output.trans h1.output, Nat.le_trans h1.size hg.size, fun j hj => (hg.block j (by have := h.bz; omega) fun e => by have := (h.tl.lt j e.symm).1; omega).trans (h1.block j hj)⟩
/-- What is freed is taken off. -/
theorem cut (h : Lw B w0 w q s E ent vn names vt told) {names' : List Value} {told' : List Int} (hn : OffRow w B 9 1 vn' names'.length names') (ht : OffRow w B 3 1 vt' told'.length (told'.map intV)) (h1 : ∀ j, vn'.ownBlock = some j → vn.ownBlock = some j) (h2 : ∀ j, vt'.ownBlock = some j → vt.ownBlock = some j) : Lw B w0 w q s E ent vn' names' vt' told' :=
  ⟨h.bk, h.ent, hn, ht, h.sE, fun j hj => h.sN j (h1 j hj), fun j hj => h.sT j (h2 j hj), h.lE, h.bel, h.bz⟩
end Lw
/-- 's[g:]' of such a slice, whatever its room. -/
theorem slice_off {w : World} {B : Nat} {t e : TypeId} {i : TypeInfo} (ht : Try.prog.underlying t = some (.slice e)) (hi : Try.prog.info? e = some i) {size : Nat} (hs : i.size = size) {n cap g : Nat} {a : Option Addr} {xs : List Value} (h : OffRow w B e size (.slice a n cap) n xs) (hg : g ≤ n) :
    ∃ a', (∀ W, (Instr.slice t (.slice a n cap) (some (.int .i64 (g : Int))) none none).run Try.prog W = .ok (.slice a' (n - g) (cap - g)) W) ∧ OffRow w B e size (.slice a' (n - g) (cap - g)) (n - g) (xs.drop (g * size)) ∧ ∀ j, (Value.slice a' (n - g) (cap - g)).ownBlock = some j → (Value.slice a n cap).ownBlock = some j := by
  obtain ⟨a', d1, d2, d3⟩ := h.drop rfl hg
  have hc : g ≤ cap := by
    rcases h.2 with ⟨e0, h0⟩ | ⟨b, off, c, cur, e0, _, _, h1, _⟩
    · omega
    · injection e0 with _ _ e3
      omega
  have h1 : (g : Int) ≤ (n : Int) := by omega
  refine ⟨a', fun W => ?_, d3, fun j hj => ?_⟩
  · subst hs
    rcases Nat.lt_or_ge g cap with x | x
    · have hne : ¬ cap = g := by omega
      have e1 := d1 x
      have hgn : g ≤ n := hg
      subst e1
      simp [Instr.slice, run_underlying ht, Instr.sliceBounds, run_sliceBound, sizeOf, typeInfo, hi, hgn, hne]
    · have hge : g = cap := by omega
      have e1 := d2 hge
      subst e1
      have hgn : g ≤ n := hg
      rw [← hge]
      simp [Instr.slice, run_underlying ht, Instr.sliceBounds, run_sliceBound, sizeOf, typeInfo, hi, hgn]
  · rcases Nat.lt_or_ge g cap with x | x
    · rw [d1 x] at hj
      cases a with
      | none => simp [Value.ownBlock] at hj
      | some y =>
        simp [Value.ownBlock] at hj ⊢
        rw [← hj]
        unfold Addr.add
        split <;> rfl
    · rw [d2 (by omega)] at hj
      cases a with
      | none => simp [Value.ownBlock] at hj
      | some y => simpa [Value.ownBlock] using hj
/-- Where all are, behind i steps. -/
def At6 (B : Nat) (w0 w : World) (b E : Nat) (vn vt : Value) (i : Nat) : Prop :=
  ∃ q s ent told, q.b = b ∧ Lw B w0 w q s E ent vn (s.wait.map (·.1)) vt told ∧ Safe s ent told i
end Go.Proofs.Ytagadjgemgajjaa
