/- The document's world in memory: its block, its tasks' row, the rows of its cells, counts and mutexes. -/
import Derived.Test.YtccliallljcjgaaSchedPlain
set_option linter.unusedVariables false
namespace Go.Proofs.Ytccliallljcjgaa
open Go.RowKit

def intV (z : Int) : Value := .int .i64 z
/-- Where the world lies: its block, the rows' blocks, the tasks' capacity. -/
structure At5 where
  m : Nat
  T : Nat
  C : Nat
  X : Nat
  H : Nat
  cap : Nat
def At5.cells (q : At5) (n : Nat) (steps : Int) : Array Value :=
  #[.slice (some ⟨q.T, 0, none⟩) n q.cap, .slice (some ⟨q.C, 0, none⟩) 4 4, .slice (some ⟨q.X, 0, none⟩) 4 4, .slice (some ⟨q.H, 0, none⟩) 4 4, .int .i64 steps]
/-- A row of four numbers. -/
def Four (w : World) (b : Nat) (l : List Int) : Prop := l.length = 4 ∧ w.heap[b]? = some (.cells (l.map intV).toArray 3 (0, 0)) ∧ ∀ z ∈ l, -9223372036854775808 ≤ z ∧ z ≤ 9223372036854775807
/-- A row of tasks. -/
def TRow (w : World) (b : Nat) (l : List TK) : Prop := ∃ cur, w.heap[b]? = some (.cells cur 46 (0, 0)) ∧ ∀ i, i < l.length → ∀ j, j < 4 → cur[i * 4 + j]? = (l.getD i default).vals[j]?
structure Lay5 (B : Nat) (S : Nat → Prop) (w : World) (q : At5) (p : PW) : Prop where
  obj : w.heap[q.m]? = some (.cells (q.cells p.ts.length p.steps) 31 (0, 0))
  tr : TRow w q.T p.ts
  tk : ∀ i, i < p.ts.length → (p.ts.getD i default).Ok w B
  c : Four w q.C p.cells
  x : Four w q.X p.sets
  h : Four w q.H p.held
  few : p.ts.length ≤ 8
  ne : q.C ≠ q.X ∧ q.C ≠ q.H ∧ q.X ≠ q.H
  s0 : 0 ≤ p.steps
  sm : S q.m
  sT : S q.T
  sC : S q.C
  sX : S q.X
  sH : S q.H
  low : ∀ k, S k → B ≤ k

theorem Four.kept {w w' : World} {b : Nat} {l : List Int} (h : Four w b l) (k : w'.heap[b]? = w.heap[b]?) : Four w' b l := ⟨h.1, k.trans h.2.1, h.2.2⟩
theorem Four.cell {w : World} {b : Nat} {l : List Int} (h : Four w b l) (i : Nat) (hi : i < 4) : w.cell? ⟨b, i, none⟩ = some (.int .i64 (l.getD i 0)) := by
  have hl : i < l.length := by have := h.1; omega
  simp [World.cell?, h.2.1, List.getD_eq_getElem?_getD, hl, intV]
theorem Four.free {w : World} {b : Nat} {l : List Int} (h : Four w b l) (i : Nat) : w.frozen? ⟨b, i, none⟩ = false := by simp [World.frozen?, h.2.1]
theorem Four.lo {w : World} {b : Nat} {l : List Int} (h : Four w b l) (i : Nat) (hi : i < 4) : -9223372036854775808 ≤ l.getD i 0 ∧ l.getD i 0 ≤ 9223372036854775807 := by
  have hl : i < l.length := by have := h.1; omega
  have : l.getD i 0 ∈ l := by rw [List.getD_eq_getElem?_getD, List.getElem?_eq_getElem hl]; simp
  exact h.2.2 _ this
theorem Four.set {w : World} {b : Nat} {l : List Int} (h : Four w b l) (i : Nat) (z : Int) (hz : -9223372036854775808 ≤ z ∧ z ≤ 9223372036854775807) : Four (w.setCell ⟨b, i, none⟩ (.int .i64 z)) b (l.set i z) := by
  refine ⟨by simpa using h.1, ?_, fun y hy => ?_⟩
  · rw [heap_set h.2.1]
    congr 2
    apply Array.ext'
    simp [intV, List.map_set]
  · rcases List.mem_or_eq_of_mem_set hy with hy | rfl
    · exact h.2.2 y hy
    · exact hz
theorem TRow.kept {w w' : World} {b : Nat} {l : List TK} (h : TRow w b l) (k : w'.heap[b]? = w.heap[b]?) : TRow w' b l := by
  obtain ⟨cur, h1, h2⟩ := h
  exact ⟨cur, k.trans h1, h2⟩
theorem TRow.cell {w : World} {b : Nat} {l : List TK} (h : TRow w b l) {i : Nat} (hi : i < l.length) {j : Nat} (hj : j < 4) : w.cell? ⟨b, i * 4 + j, none⟩ = (l.getD i default).vals[j]? := by
  obtain ⟨cur, h1, h2⟩ := h
  rw [← h2 i hi j hj]
  simp [World.cell?, h1]
theorem TRow.free {w : World} {b : Nat} {l : List TK} (h : TRow w b l) (i : Nat) : w.frozen? ⟨b, i, none⟩ = false := by
  obtain ⟨cur, h1, h2⟩ := h
  simp [World.frozen?, h1]
theorem getD_set_same {α : Type} {l : List α} {i : Nat} (h : i < l.length) (x d : α) : (l.set i x).getD i d = x := by
  rw [List.getD_eq_getElem?_getD]; simp [h]
theorem getD_set_other {α : Type} {l : List α} {i k : Nat} (h : k ≠ i) (x d : α) : (l.set i x).getD k d = l.getD k d := by
  rw [List.getD_eq_getElem?_getD, List.getD_eq_getElem?_getD, List.getElem?_set_ne (Ne.symm h)]
/-- A field of a task is written. -/
theorem TRow.set {w : World} {b : Nat} {l : List TK} (h : TRow w b l) {i : Nat} (hi : i < l.length) {j : Nat} (hj : j < 4) (u : Value) (t' : TK) (ht : (l.getD i default).vals.setIfInBounds j u = t'.vals) : TRow (w.setCell ⟨b, i * 4 + j, none⟩ u) b (l.set i t') := by
  obtain ⟨cur, h1, h2⟩ := h
  refine ⟨_, heap_set h1 u, fun k hk n hn => ?_⟩
  rw [List.length_set] at hk
  have h3 := h2 k hk n hn
  by_cases hki : k = i
  · subst hki
    rw [getD_set_same hi, ← ht, Array.getElem?_setIfInBounds, Array.getElem?_setIfInBounds]
    by_cases hnj : j = n
    · subst hnj
      have hlt : k * 4 + j < cur.size := by
        rcases Nat.lt_or_ge (k * 4 + j) cur.size with x | x
        · exact x
        · rw [Array.getElem?_eq_none x] at h3
          have : (l.getD k default).vals.size = 4 := rfl
          rw [Array.getElem?_eq_getElem (by omega)] at h3
          cases h3
      have h4 : j < (l.getD k default).vals.size := hj
      rw [if_pos rfl, if_pos rfl, if_pos hlt, if_pos h4]
    · rw [if_neg (by omega), if_neg hnj]
      exact h3
  · rw [getD_set_other hki, Array.getElem?_setIfInBounds, if_neg (by omega)]
    exact h3
theorem TK.Ok.kept {w w' : World} {B : Nat} {t : TK} (h : t.Ok w B) (hs : w.heap.size ≤ w'.heap.size) (k : ∀ j, j < w.heap.size → j < B → w'.heap[j]? = w.heap[j]?) : t.Ok w' B := ⟨h.p.kept hs k, h.at_, h.lo, h.hi⟩

namespace Lay5
variable {B : Nat} {S : Nat → Prop} {w w' : World} {q : At5} {p : PW}
theorem kept (h : Lay5 B S w q p) (hs : w.heap.size ≤ w'.heap.size) (hk : ∀ k, k < w.heap.size → S k ∨ k < B → w'.heap[k]? = w.heap[k]?) : Lay5 B S w' q p := by
  have hT : q.T < w.heap.size := by obtain ⟨cur, h1, _⟩ := h.tr; exact heap_lt h1
  exact ⟨(hk _ (heap_lt h.obj) (.inl h.sm)).trans h.obj, h.tr.kept (hk _ hT (.inl h.sT)), fun i hi => (h.tk i hi).kept hs fun j hj hb => hk j hj (.inr hb),
    h.c.kept (hk _ (heap_lt h.c.2.1) (.inl h.sC)), h.x.kept (hk _ (heap_lt h.x.2.1) (.inl h.sX)), h.h.kept (hk _ (heap_lt h.h.2.1) (.inl h.sH)), h.few, h.ne, h.s0, h.sm, h.sT, h.sC, h.sX, h.sH, h.low⟩
theorem only {T : Nat → Prop} (h : Lay5 B S w q p) (k : Only T w w') (hT : ∀ j, j < w.heap.size → S j ∨ j < B → ¬ T j) : Lay5 B S w' q p := h.kept k.size fun j hj hs => k.block j hj (hT j hj hs)
theorem below (h : Lay5 B S w q p) (k : Below w.heap.size w w') : Lay5 B S w' q p := h.kept k.size fun j hj _ => k.block j hj
theorem drewN (h : Lay5 B S w q p) (n : Nat) : Lay5 B S (w.drewN n) q p := h.kept (Nat.le_refl _) fun _ _ _ => rfl
theorem alloc (h : Lay5 B S w q p) (o : Obj) : Lay5 B S (w.alloc o) q p := h.kept (by simp) fun k hk _ => Below.heap_alloc w o k hk
theorem cell (h : Lay5 B S w q p) (i : Nat) : w.cell? ⟨q.m, i, none⟩ = (q.cells p.ts.length p.steps)[i]? := by simp [World.cell?, h.obj]
theorem free (h : Lay5 B S w q p) (i : Nat) : w.frozen? ⟨q.m, i, none⟩ = false := by simp [World.frozen?, h.obj]
theorem T_ne (h : Lay5 B S w q p) : q.T ≠ q.m ∧ q.T ≠ q.C ∧ q.T ≠ q.X ∧ q.T ≠ q.H := by
  obtain ⟨cur, h1, _⟩ := h.tr
  refine ⟨?_, ?_, ?_, ?_⟩ <;> intro e <;> rw [e] at h1
  · rw [h.obj] at h1; simp at h1
  · rw [h.c.2.1] at h1; simp at h1
  · rw [h.x.2.1] at h1; simp at h1
  · rw [h.h.2.1] at h1; simp at h1
theorem m_ne (h : Lay5 B S w q p) : q.m ≠ q.C ∧ q.m ≠ q.X ∧ q.m ≠ q.H := by
  have h1 := h.obj
  refine ⟨?_, ?_, ?_⟩ <;> intro e <;> rw [e] at h1
  · rw [h.c.2.1] at h1; simp at h1
  · rw [h.x.2.1] at h1; simp at h1
  · rw [h.h.2.1] at h1; simp at h1
theorem keepB (h : Lay5 B S w q p) {b : Nat} (hb : S b) (o : Nat) (u : Value) (i : Nat) (hi : i < p.ts.length) : (p.ts.getD i default).Ok (w.setCell ⟨b, o, none⟩ u) B :=
  (h.tk i hi).kept (by simp [World.setCell]) fun j _ hj => heap_set_other (by have := h.low b hb; omega) u
/-- The count of steps is written. -/
theorem setSteps (h : Lay5 B S w q p) (n : Int) (hn : 0 ≤ n) : Lay5 B S (w.setCell ⟨q.m, 4, none⟩ (.int .i64 n)) q { p with steps := n } :=
  ⟨by rw [heap_set h.obj]; rfl, h.tr.kept (heap_set_other h.T_ne.1 _), fun i hi => h.keepB h.sm _ _ i hi,
    h.c.kept (heap_set_other (Ne.symm h.m_ne.1) _), h.x.kept (heap_set_other (Ne.symm h.m_ne.2.1) _), h.h.kept (heap_set_other (Ne.symm h.m_ne.2.2) _), h.few, h.ne, hn, h.sm, h.sT, h.sC, h.sX, h.sH, h.low⟩
theorem setCells (h : Lay5 B S w q p) (i : Nat) (z : Int) (hz : -9223372036854775808 ≤ z ∧ z ≤ 9223372036854775807) : Lay5 B S (w.setCell ⟨q.C, i, none⟩ (.int .i64 z)) q { p with cells := p.cells.set i z } :=
  ⟨(heap_set_other h.m_ne.1 _).trans h.obj, h.tr.kept (heap_set_other h.T_ne.2.1 _), fun i hi => h.keepB h.sC _ _ i hi,
    h.c.set i z hz, h.x.kept (heap_set_other (Ne.symm h.ne.1) _), h.h.kept (heap_set_other (Ne.symm h.ne.2.1) _), h.few, h.ne, h.s0, h.sm, h.sT, h.sC, h.sX, h.sH, h.low⟩
theorem setSets (h : Lay5 B S w q p) (i : Nat) (z : Int) (hz : -9223372036854775808 ≤ z ∧ z ≤ 9223372036854775807) : Lay5 B S (w.setCell ⟨q.X, i, none⟩ (.int .i64 z)) q { p with sets := p.sets.set i z } :=
  ⟨(heap_set_other h.m_ne.2.1 _).trans h.obj, h.tr.kept (heap_set_other h.T_ne.2.2.1 _), fun i hi => h.keepB h.sX _ _ i hi,
    h.c.kept (heap_set_other h.ne.1 _), h.x.set i z hz, h.h.kept (heap_set_other (Ne.symm h.ne.2.2) _), h.few, h.ne, h.s0, h.sm, h.sT, h.sC, h.sX, h.sH, h.low⟩
theorem setHeld (h : Lay5 B S w q p) (i : Nat) (z : Int) (hz : -9223372036854775808 ≤ z ∧ z ≤ 9223372036854775807) : Lay5 B S (w.setCell ⟨q.H, i, none⟩ (.int .i64 z)) q { p with held := p.held.set i z } :=
  ⟨(heap_set_other h.m_ne.2.2 _).trans h.obj, h.tr.kept (heap_set_other h.T_ne.2.2.2 _), fun i hi => h.keepB h.sH _ _ i hi,
    h.c.kept (heap_set_other h.ne.2.1 _), h.x.kept (heap_set_other h.ne.2.2 _), h.h.set i z hz, h.few, h.ne, h.s0, h.sm, h.sT, h.sC, h.sX, h.sH, h.low⟩
/-- A field of a task is written. -/
theorem setTask (h : Lay5 B S w q p) (i : Nat) (hi : i < p.ts.length) (j : Nat) (hj : j < 4) (u : Value) (t' : TK) (ht : (p.ts.getD i default).vals.setIfInBounds j u = t'.vals) (hok : t'.Ok w B) :
    Lay5 B S (w.setCell ⟨q.T, i * 4 + j, none⟩ u) q { p with ts := p.ts.set i t' } := by
  refine ⟨?_, h.tr.set hi hj u t' ht, fun k hk => ?_, h.c.kept (heap_set_other (Ne.symm h.T_ne.2.1) _), h.x.kept (heap_set_other (Ne.symm h.T_ne.2.2.1) _), h.h.kept (heap_set_other (Ne.symm h.T_ne.2.2.2) _), ?_, h.ne, h.s0, h.sm, h.sT, h.sC, h.sX, h.sH, h.low⟩
  · rw [heap_set_other (Ne.symm h.T_ne.1), h.obj]
    simp
  · simp only [List.length_set] at hk
    by_cases hki : k = i
    · subst hki
      simp only
      rw [getD_set_same hi]
      exact hok.kept (by simp [World.setCell]) fun j _ hj => heap_set_other (by have := h.low _ h.sT; omega) u
    · simp only
      rw [getD_set_other hki]
      exact h.keepB h.sT _ _ k hk
  · simpa using h.few
end Lay5
end Go.Proofs.Ytccliallljcjgaa
