/- The program's world is begun: what is known, and the tasks. -/
import Derived.Test.YtccliallljcjgaaBeg
set_option linter.unusedVariables false
namespace Go.Proofs.Ytccliallljcjgaa
open Go.RowKit

/-- The world's block, its cells and mutexes, and so many zeros of what is known. -/
structure Beg3 (B : Nat) (w : World) (g : AtG) (vk : Value) (j : Nat) : Prop where
  obj : w.heap[g.W]? = some (.cells #[.slice (some ⟨g.CR, 0, none⟩) 4 g.cc, .slice (some ⟨g.MR, 0, none⟩) 4 g.mc, vk, .pointer (some ⟨g.s, 0, none⟩)] 38 (0, 0))
  cr : ∃ cur, w.heap[g.CR]? = some (.cells cur 54 (0, 0)) ∧ ∀ i, i < 4 → cur[i]? = some (.pointer (some ⟨g.c i, 0, none⟩))
  mr : ∃ cur, w.heap[g.MR]? = some (.cells cur 56 (0, 0)) ∧ ∀ i, i < 4 → cur[i]? = some (.pointer (some ⟨g.m i, 0, none⟩))
  ce : ∀ i, i < 4 → w.heap[g.c i]? = some (.cells #[.int .i64 0, .int .i64 0] 86 (0, 0))
  mu : ∀ i, i < 4 → w.heap[g.m i]? = some (.cells #[.int .i64 (-1)] 83 (0, 0))
  ci : ∀ i j, i < 4 → j < 4 → g.c i = g.c j → i = j
  mi : ∀ i j, i < 4 → j < 4 → g.m i = g.m j → i = j
  own : OwnN B vk (List.replicate j 0) w
theorem getD_rep (n i : Nat) (z : Int) (h : i < n) : (List.replicate n z).getD i 0 = z := by
  rw [List.getD_eq_getElem?_getD, List.getElem?_replicate, if_pos h]; rfl
theorem four_rep (z : Int) (i : Nat) (h : i < 4) : ([z, z, z, z] : List Int).getD i 0 = z := getD_rep 4 i z h
/-- Its row of what is known is there once somebody is known of. -/
theorem Beg3.cel {B : Nat} {w : World} {g : AtG} {vk : Value} {j : Nat} (h : Beg3 B w g vk j) (hj : 0 < j) (ks : Nat → Prop) (z : Nat → Nat → Prop) : ∃ K kc cur, vk = .slice (some ⟨K, 0, none⟩) j kc ∧ B ≤ K ∧ w.heap[K]? = some (.cells cur 3 (0, 0)) ∧ j ≤ cur.size ∧
    Cel w { g with K := K, kc := kc, KS := ks, Z := z K } j [0, 0, 0, 0] [0, 0, 0, 0] [-1, -1, -1, -1] (List.replicate j 0) := by
  obtain ⟨_, ⟨_, h0⟩ | ⟨K, cap, cur, hv, hB, hg, h1, h2, h3, h4⟩⟩ := h.own
  · rw [List.length_replicate] at h0; omega
  · rw [List.length_replicate] at hv h1 h4
    refine ⟨K, cap, cur, hv, hB, hg, by omega, ?_, h.cr, h.mr, ⟨cur, hg, fun i hi => ?_⟩, fun i hi => ?_, fun i hi => ?_, h.ci, h.mi, rfl, rfl, rfl, by simp⟩
    · rw [h.obj, hv]; rfl
    · have h5 : (cur.toList.take (j * 1))[i]? = ((List.replicate j 0).map natI)[i]? := by rw [h4]
      rw [List.getElem?_take, if_pos (by omega)] at h5
      rw [getD_rep j i 0 hi]
      simpa [hi, natI] using h5
    · rw [four_rep 0 i hi]; exact h.ce i hi
    · rw [four_rep (-1) i hi]; exact h.mu i hi
theorem own_tagN {w : World} {B : Nat} {v : Value} {l : List Nat} (h : OwnN B v l w) {q : Nat} (hq : v.ownBlock = some q) : ∃ cur, w.heap[q]? = some (.cells cur 3 (0, 0)) ∧ l.length ≤ cur.size := by
  obtain ⟨_, ⟨rfl, h0⟩ | ⟨g, cap, cur, rfl, hB, hg, h1, h2, h3, _⟩⟩ := h
  · simp [Value.ownBlock] at hq
  · simp [Value.ownBlock] at hq
    subst hq
    exact ⟨cur, hg, by omega⟩
theorem OwnN.kept {w w' : World} {B : Nat} {v : Value} {l : List Nat} (h : OwnN B v l w) (k : ∀ q, v.ownBlock = some q → w'.heap[q]? = w.heap[q]?) : OwnN B v l w' := by
  obtain ⟨h1, ⟨rfl, h0⟩ | ⟨g, cap, cur, rfl, hB, hg, h2⟩⟩ := h
  · exact ⟨h1, .inl ⟨rfl, h0⟩⟩
  · exact ⟨h1, .inr ⟨g, cap, cur, rfl, hB, (k g rfl).trans hg, h2⟩⟩
namespace Beg3
variable {B : Nat} {w w' wA w3 : World} {g : AtG} {vk v3 : Value} {j : Nat}
theorem kept (h : Beg3 B w g vk j) (k : ∀ q cb tb, w.heap[q]? = some (.cells cb tb (0, 0)) → (tb = 38 ∨ tb = 54 ∨ tb = 56 ∨ tb = 86 ∨ tb = 83 ∨ (tb = 3 ∧ vk.ownBlock = some q)) → w'.heap[q]? = w.heap[q]?) : Beg3 B w' g vk j := by
  obtain ⟨c1, h1, h2⟩ := h.cr
  obtain ⟨c2, h3, h4⟩ := h.mr
  exact ⟨(k _ _ _ h.obj (.inl rfl)).trans h.obj, ⟨c1, (k _ _ _ h1 (.inr (.inl rfl))).trans h1, h2⟩, ⟨c2, (k _ _ _ h3 (.inr (.inr (.inl rfl)))).trans h3, h4⟩,
    fun i hi => (k _ _ _ (h.ce i hi) (.inr (.inr (.inr (.inl rfl))))).trans (h.ce i hi), fun i hi => (k _ _ _ (h.mu i hi) (.inr (.inr (.inr (.inr (.inl rfl)))))).trans (h.mu i hi), h.ci, h.mi,
    h.own.kept fun q hq => by
      obtain ⟨cur, hc, _⟩ := own_tagN h.own hq
      exact k _ _ _ hc (.inr (.inr (.inr (.inr (.inr ⟨rfl, hq⟩)))))⟩
theorem below (h : Beg3 B w g vk j) (k : Below w.heap.size w w') : Beg3 B w' g vk j := h.kept fun q cb tb hq _ => k.block q (heap_lt hq)
theorem cellW (h : Beg3 B w g vk j) : w.cell? ⟨g.W, 2, none⟩ = some vk ∧ w.cell? ⟨g.W, 3, none⟩ = some (.pointer (some ⟨g.s, 0, none⟩)) := by simp [World.cell?, h.obj]
/-- One more zero is known. -/
theorem add (h : Beg3 B w g vk j) (hBs : B ≤ w.heap.size) {w0 : World} (hbel : Below B w0 w) (hW : B ≤ g.W)
    (ho : w3.ownsRow B 3 1 v3 ((List.replicate j 0).length + 1) ((List.replicate j 0).map natI ++ [.int .i64 0])) (hg : ((w.alloc (.cells #[.int .i64 0] 3))).grownBy w3 vk.ownBlock) :
    ∃ K kc, v3 = .slice (some ⟨K, 0, none⟩) (j + 1) kc ∧ w3.cell? ⟨g.W, 2, none⟩ = some vk ∧ w3.frozen? ⟨g.W, 2, none⟩ = false ∧ Beg3 B (w3.setCell ⟨g.W, 2, none⟩ v3) g v3 (j + 1) ∧ Below B w0 (w3.setCell ⟨g.W, 2, none⟩ v3) ∧
      w.heap.size ≤ w3.heap.size ∧ (∀ q cb tb, w.heap[q]? = some (.cells cb tb (0, 0)) → tb ≠ 38 → (tb ≠ 3 ∨ vk.ownBlock ≠ some q) → (w3.setCell ⟨g.W, 2, none⟩ v3).heap[q]? = w.heap[q]?) := by
  have hA : Below w.heap.size w (w.alloc (.cells #[.int .i64 0] 3)) := (Below.refl _ w).alloc (Nat.le_refl _) _
  have keep : ∀ (q : Nat) (cb : Array Value) (tb : TypeId), w.heap[q]? = some (.cells cb tb (0, 0)) → (tb ≠ 3 ∨ vk.ownBlock ≠ some q) → w3.heap[q]? = w.heap[q]? := by
    intro q cb tb hq ht
    refine (hg.block q (Nat.lt_of_lt_of_le (heap_lt hq) hA.size) fun e => ?_).trans (hA.block q (heap_lt hq))
    rcases ht with ht | ht
    · obtain ⟨cur, hc, _⟩ := own_tagN h.own e.symm
      rw [hc] at hq
      injection hq with hq
      injection hq with _ hq
      exact ht hq.symm
    · exact ht e.symm
  have hrep : List.replicate (j + 1) (0 : Nat) = List.replicate j 0 ++ [0] := List.replicate_succ'
  have ho' : OwnN B v3 (List.replicate (j + 1) 0) w3 := by
    unfold OwnN
    rw [hrep, List.length_append, List.map_append]
    exact ho
  have hW3 := (keep _ _ _ h.obj (.inl (by decide))).trans h.obj
  obtain ⟨K, kc, cur, hv, hK, _⟩ : ∃ (K kc : Nat) (cur : Array Value), v3 = .slice (some ⟨K, 0, none⟩) (j + 1) kc ∧ w3.heap[K]? = some (.cells cur 3 (0, 0)) ∧ True := by
    obtain ⟨_, ⟨_, h0⟩ | ⟨K, cap, cur, hv, hB, hg, _⟩⟩ := ho'
    · rw [List.length_replicate] at h0; omega
    · rw [List.length_replicate] at hv
      exact ⟨K, cap, cur, hv, hg, trivial⟩
  have set : ∀ (q : Nat) (cb : Array Value) (tb : TypeId), w3.heap[q]? = some (.cells cb tb (0, 0)) → tb ≠ 38 → (w3.setCell ⟨g.W, 2, none⟩ v3).heap[q]? = w3.heap[q]? := fun q cb tb hq ht => heap_set_other (tag_ne hq hW3 ht) _
  have both : ∀ (q : Nat) (cb : Array Value) (tb : TypeId), w.heap[q]? = some (.cells cb tb (0, 0)) → tb ≠ 38 → (tb ≠ 3 ∨ vk.ownBlock ≠ some q) → (w3.setCell ⟨g.W, 2, none⟩ v3).heap[q]? = w.heap[q]? := fun q cb tb hq h38 ht =>
    (set q cb tb ((keep q cb tb hq ht).trans hq) h38).trans (keep q cb tb hq ht)
  obtain ⟨c1, h1, h2⟩ := h.cr
  obtain ⟨c2, h3, h4⟩ := h.mr
  refine ⟨K, kc, hv, by simp [World.cell?, hW3], by simp [World.frozen?, hW3], ⟨heap_set hW3 _, ⟨c1, (both _ _ _ h1 (by decide) (.inl (by decide))).trans h1, h2⟩, ⟨c2, (both _ _ _ h3 (by decide) (.inl (by decide))).trans h3, h4⟩,
    fun i hi => (both _ _ _ (h.ce i hi) (by decide) (.inl (by decide))).trans (h.ce i hi), fun i hi => (both _ _ _ (h.mu i hi) (by decide) (.inl (by decide))).trans (h.mu i hi), h.ci, h.mi,
    ho'.kept fun q hq => by
      obtain ⟨cur, hc, _⟩ := own_tagN ho' hq
      exact set q _ _ hc (by decide)⟩, ?_, Nat.le_trans hA.size hg.size, both⟩
  exact ((hbel.trans (hA.mono hBs)).grown hg (Nat.le_trans hBs hA.size) (fun q hq => by
    obtain ⟨_, ⟨rfl, h0⟩ | ⟨g, cap, cur, rfl, hB, _⟩⟩ := h.own
    · simp [Value.ownBlock] at hq
    · simp [Value.ownBlock] at hq
      omega)).setCell (p := ⟨g.W, 2, none⟩) hW _
end Beg3
end Go.Proofs.Ytccliallljcjgaa
