/- The program's world in the law: its cells, its mutexes, what its tasks know. -/
import Derived.Test.YtccliallljcjgaaDoes
import Derived.Test.YtccliallljcjgaaSchedLay
set_option linter.unusedVariables false
namespace Go.Proofs.Ytccliallljcjgaa
open Go.RowKit

/-- Where the program's world lies: its block, the rows of its cells, mutexes and of what is known, its scheduler; the cells' and mutexes' blocks; rows of numbers that may be written. -/
structure AtG where
  W : Nat
  CR : Nat
  cc : Nat
  MR : Nat
  mc : Nat
  K : Nat
  kc : Nat
  s : Nat
  c : Nat → Nat
  m : Nat → Nat
  t : Nat
  KS : Nat → Prop
  Z : Nat → Prop
def AtG.obj (g : AtG) (n : Nat) : Array Value := #[.slice (some ⟨g.CR, 0, none⟩) 4 g.cc, .slice (some ⟨g.MR, 0, none⟩) 4 g.mc, .slice (some ⟨g.K, 0, none⟩) n g.kc, .pointer (some ⟨g.s, 0, none⟩)]
structure Cel (w : World) (g : AtG) (n : Nat) (C X H K : List Int) : Prop where
  obj : w.heap[g.W]? = some (.cells (g.obj n) 38 (0, 0))
  cr : ∃ cur, w.heap[g.CR]? = some (.cells cur 54 (0, 0)) ∧ ∀ i, i < 4 → cur[i]? = some (.pointer (some ⟨g.c i, 0, none⟩))
  mr : ∃ cur, w.heap[g.MR]? = some (.cells cur 56 (0, 0)) ∧ ∀ i, i < 4 → cur[i]? = some (.pointer (some ⟨g.m i, 0, none⟩))
  kr : ∃ cur, w.heap[g.K]? = some (.cells cur 3 (0, 0)) ∧ ∀ i, i < n → cur[i]? = some (.int .i64 (K.getD i 0))
  ce : ∀ i, i < 4 → w.heap[g.c i]? = some (.cells #[.int .i64 (C.getD i 0), .int .i64 (X.getD i 0)] 86 (0, 0))
  mu : ∀ i, i < 4 → w.heap[g.m i]? = some (.cells #[.int .i64 (H.getD i 0)] 83 (0, 0))
  ci : ∀ i j, i < 4 → j < 4 → g.c i = g.c j → i = j
  mi : ∀ i j, i < 4 → j < 4 → g.m i = g.m j → i = j
  lc : C.length = 4
  lx : X.length = 4
  lh : H.length = 4
  lk : K.length = n
/-- The blocks that tasks' steps write. -/
def CS (g : AtG) (j : Nat) : Prop := j = g.K ∨ (∃ i, i < 4 ∧ j = g.c i) ∨ ∃ i, i < 4 ∧ j = g.m i

theorem tag_ne {w : World} {a b : Nat} {ca cb : Array Value} {ta tb : TypeId} (h1 : w.heap[a]? = some (.cells ca ta (0, 0))) (h2 : w.heap[b]? = some (.cells cb tb (0, 0))) (ht : ta ≠ tb) : a ≠ b := by
  intro e
  rw [e, h2] at h1
  injection h1 with h1
  injection h1 with h1 h3
  exact ht h3.symm
namespace Cel
variable {w w' : World} {g : AtG} {n : Nat} {C X H K : List Int}
theorem o0 (h : Cel w g n C X H K) : w.cell? ⟨g.W, 0, none⟩ = some (.slice (some ⟨g.CR, 0, none⟩) 4 g.cc) := by simp [World.cell?, h.obj, AtG.obj]
theorem o1 (h : Cel w g n C X H K) : w.cell? ⟨g.W, 1, none⟩ = some (.slice (some ⟨g.MR, 0, none⟩) 4 g.mc) := by simp [World.cell?, h.obj, AtG.obj]
theorem o2 (h : Cel w g n C X H K) : w.cell? ⟨g.W, 2, none⟩ = some (.slice (some ⟨g.K, 0, none⟩) n g.kc) := by simp [World.cell?, h.obj, AtG.obj]
theorem o3 (h : Cel w g n C X H K) : w.cell? ⟨g.W, 3, none⟩ = some (.pointer (some ⟨g.s, 0, none⟩)) := by simp [World.cell?, h.obj, AtG.obj]
theorem rc (h : Cel w g n C X H K) {i : Nat} (hi : i < 4) : w.cell? ⟨g.CR, i, none⟩ = some (.pointer (some ⟨g.c i, 0, none⟩)) := by
  obtain ⟨cur, h1, h2⟩ := h.cr
  rw [← h2 i hi]
  simp [World.cell?, h1]
theorem rm (h : Cel w g n C X H K) {i : Nat} (hi : i < 4) : w.cell? ⟨g.MR, i, none⟩ = some (.pointer (some ⟨g.m i, 0, none⟩)) := by
  obtain ⟨cur, h1, h2⟩ := h.mr
  rw [← h2 i hi]
  simp [World.cell?, h1]
theorem rk (h : Cel w g n C X H K) {i : Nat} (hi : i < n) : w.cell? ⟨g.K, i, none⟩ = some (.int .i64 (K.getD i 0)) := by
  obtain ⟨cur, h1, h2⟩ := h.kr
  rw [← h2 i hi]
  simp [World.cell?, h1]
theorem fk (h : Cel w g n C X H K) (i : Nat) : w.frozen? ⟨g.K, i, none⟩ = false := by
  obtain ⟨cur, h1, h2⟩ := h.kr
  simp [World.frozen?, h1]
theorem c0 (h : Cel w g n C X H K) {i : Nat} (hi : i < 4) : w.cell? ⟨g.c i, 0, none⟩ = some (.int .i64 (C.getD i 0)) := by simp [World.cell?, h.ce i hi]
theorem c1 (h : Cel w g n C X H K) {i : Nat} (hi : i < 4) : w.cell? ⟨g.c i, 1, none⟩ = some (.int .i64 (X.getD i 0)) := by simp [World.cell?, h.ce i hi]
theorem fc (h : Cel w g n C X H K) {i : Nat} (hi : i < 4) (o : Nat) : w.frozen? ⟨g.c i, o, none⟩ = false := by simp [World.frozen?, h.ce i hi]
theorem m0 (h : Cel w g n C X H K) {i : Nat} (hi : i < 4) : w.cell? ⟨g.m i, 0, none⟩ = some (.int .i64 (H.getD i 0)) := by simp [World.cell?, h.mu i hi]
theorem fm (h : Cel w g n C X H K) {i : Nat} (hi : i < 4) (o : Nat) : w.frozen? ⟨g.m i, o, none⟩ = false := by simp [World.frozen?, h.mu i hi]
/-- The world's blocks. -/
def Own (g : AtG) (j : Nat) : Prop := j = g.W ∨ j = g.CR ∨ j = g.MR ∨ CS g j
theorem kept (h : Cel w g n C X H K) (k : ∀ j, Own g j → w'.heap[j]? = w.heap[j]?) : Cel w' g n C X H K := by
  obtain ⟨c1, h1, h2⟩ := h.cr
  obtain ⟨c2, h3, h4⟩ := h.mr
  obtain ⟨c3, h5, h6⟩ := h.kr
  exact ⟨(k _ (.inl rfl)).trans h.obj, ⟨c1, (k _ (.inr (.inl rfl))).trans h1, h2⟩, ⟨c2, (k _ (.inr (.inr (.inl rfl)))).trans h3, h4⟩, ⟨c3, (k _ (.inr (.inr (.inr (.inl rfl))))).trans h5, h6⟩,
    fun i hi => (k _ (.inr (.inr (.inr (.inr (.inl ⟨i, hi, rfl⟩)))))).trans (h.ce i hi), fun i hi => (k _ (.inr (.inr (.inr (.inr (.inr ⟨i, hi, rfl⟩)))))).trans (h.mu i hi), h.ci, h.mi, h.lc, h.lx, h.lh, h.lk⟩
theorem lt (h : Cel w g n C X H K) {j : Nat} (hj : Own g j) : j < w.heap.size := by
  obtain ⟨c1, h1, h2⟩ := h.cr
  obtain ⟨c2, h3, h4⟩ := h.mr
  obtain ⟨c3, h5, h6⟩ := h.kr
  rcases hj with rfl | rfl | rfl | rfl | ⟨i, hi, rfl⟩ | ⟨i, hi, rfl⟩
  · exact heap_lt h.obj
  · exact heap_lt h1
  · exact heap_lt h3
  · exact heap_lt h5
  · exact heap_lt (h.ce i hi)
  · exact heap_lt (h.mu i hi)
theorem below (h : Cel w g n C X H K) (k : Below w.heap.size w w') : Cel w' g n C X H K := h.kept fun j hj => k.block j (h.lt hj)
theorem drewN (h : Cel w g n C X H K) (m : Nat) : Cel (w.drewN m) g n C X H K := h.kept fun _ _ => rfl
theorem alloc (h : Cel w g n C X H K) (o : Obj) : Cel (w.alloc o) g n C X H K := h.kept fun j hj => Below.heap_alloc w o j (h.lt hj)
/-- Blocks of one kind aren't of another. -/
theorem tag (h : Cel w g n C X H K) {j : Nat} (hj : CS g j) : ∃ cur t, w.heap[j]? = some (.cells cur t (0, 0)) ∧ (t = 3 ∨ t = 86 ∨ t = 83) := by
  rcases hj with rfl | ⟨i, hi, rfl⟩ | ⟨i, hi, rfl⟩
  · obtain ⟨cur, h1, _⟩ := h.kr
    exact ⟨_, _, h1, .inl rfl⟩
  · exact ⟨_, _, h.ce i hi, .inr (.inl rfl)⟩
  · exact ⟨_, _, h.mu i hi, .inr (.inr rfl)⟩
theorem cs_ne (h : Cel w g n C X H K) {j b : Nat} (hj : CS g j) {cb : Array Value} {tb : TypeId} (hb : w.heap[b]? = some (.cells cb tb (0, 0))) (ht : tb ≠ 3 ∧ tb ≠ 86 ∧ tb ≠ 83) : j ≠ b := by
  obtain ⟨cur, t, h1, h2⟩ := h.tag hj
  refine tag_ne h1 hb ?_
  rintro rfl
  rcases h2 with h2 | h2 | h2
  · exact ht.1 h2
  · exact ht.2.1 h2
  · exact ht.2.2 h2
theorem own_ne (h : Cel w g n C X H K) {j b : Nat} (hj : Own g j) {cb : Array Value} {tb : TypeId} (hb : w.heap[b]? = some (.cells cb tb (0, 0))) (ht : tb ≠ 3 ∧ tb ≠ 86 ∧ tb ≠ 83 ∧ tb ≠ 38 ∧ tb ≠ 54 ∧ tb ≠ 56) : j ≠ b := by
  obtain ⟨c1, h1, h2⟩ := h.cr
  obtain ⟨c2, h3, h4⟩ := h.mr
  rcases hj with rfl | rfl | rfl | hj
  · exact tag_ne h.obj hb (Ne.symm ht.2.2.2.1)
  · exact tag_ne h1 hb (Ne.symm ht.2.2.2.2.1)
  · exact tag_ne h3 hb (Ne.symm ht.2.2.2.2.2)
  · exact h.cs_ne hj hb ⟨ht.1, ht.2.1, ht.2.2.1⟩
theorem w_ne (h : Cel w g n C X H K) {j : Nat} (hj : CS g j) : g.W ≠ j ∧ g.CR ≠ j ∧ g.MR ≠ j := by
  obtain ⟨c1, h1, h2⟩ := h.cr
  obtain ⟨c2, h3, h4⟩ := h.mr
  exact ⟨Ne.symm (h.cs_ne hj h.obj (by decide)), Ne.symm (h.cs_ne hj h1 (by decide)), Ne.symm (h.cs_ne hj h3 (by decide))⟩
theorem k_ne_c (h : Cel w g n C X H K) {i : Nat} (hi : i < 4) : g.K ≠ g.c i := by
  obtain ⟨c3, h5, h6⟩ := h.kr
  exact tag_ne h5 (h.ce i hi) (by decide)
theorem k_ne_m (h : Cel w g n C X H K) {i : Nat} (hi : i < 4) : g.K ≠ g.m i := by
  obtain ⟨c3, h5, h6⟩ := h.kr
  exact tag_ne h5 (h.mu i hi) (by decide)
theorem c_ne_m (h : Cel w g n C X H K) {i j : Nat} (hi : i < 4) (hj : j < 4) : g.c i ≠ g.m j := tag_ne (h.ce i hi) (h.mu j hj) (by decide)
theorem getD_set (l : List Int) (i j : Nat) (z : Int) (hi : i < l.length) : (l.set i z).getD j 0 = if i = j then z else l.getD j 0 := by
  by_cases h : i = j
  · subst h
    rw [if_pos rfl, getD_set_same hi]
  · rw [if_neg h, getD_set_other (Ne.symm h)]
theorem setK (h : Cel w g n C X H K) {i : Nat} (hi : i < n) (z : Int) : Cel (w.setCell ⟨g.K, i, none⟩ (.int .i64 z)) g n C X H (K.set i z) := by
  obtain ⟨c1, h1, h2⟩ := h.cr
  obtain ⟨c2, h3, h4⟩ := h.mr
  obtain ⟨c3, h5, h6⟩ := h.kr
  have hw := h.w_ne (.inl rfl)
  refine ⟨(heap_set_other hw.1 _).trans h.obj, ⟨c1, (heap_set_other hw.2.1 _).trans h1, h2⟩, ⟨c2, (heap_set_other hw.2.2 _).trans h3, h4⟩, ⟨_, heap_set h5 _, fun j hj => ?_⟩,
    fun j hj => (heap_set_other (Ne.symm (h.k_ne_c hj)) _).trans (h.ce j hj), fun j hj => (heap_set_other (Ne.symm (h.k_ne_m hj)) _).trans (h.mu j hj), h.ci, h.mi, h.lc, h.lx, h.lh, by simpa using h.lk⟩
  rw [Array.getElem?_setIfInBounds, getD_set _ _ _ _ (by rw [h.lk]; exact hi)]
  have hlt : i < c3.size := (Array.getElem?_eq_some_iff.1 (h6 i hi)).1
  by_cases e : i = j
  · rw [if_pos e, if_pos e, if_pos (by omega)]
  · rw [if_neg e, if_neg e]
    exact h6 j hj
theorem setC (h : Cel w g n C X H K) {i : Nat} (hi : i < 4) (z y : Int) : Cel ((w.setCell ⟨g.c i, 0, none⟩ (.int .i64 z)).setCell ⟨g.c i, 1, none⟩ (.int .i64 y)) g n (C.set i z) (X.set i y) H K := by
  obtain ⟨c1, h1, h2⟩ := h.cr
  obtain ⟨c2, h3, h4⟩ := h.mr
  obtain ⟨c3, h5, h6⟩ := h.kr
  have hw := h.w_ne (.inr (.inl ⟨i, hi, rfl⟩))
  have ot : ∀ j, j ≠ g.c i → ((w.setCell ⟨g.c i, 0, none⟩ (.int .i64 z)).setCell ⟨g.c i, 1, none⟩ (.int .i64 y)).heap[j]? = w.heap[j]? := fun j hj => (heap_set_other hj _).trans (heap_set_other hj _)
  refine ⟨(ot _ hw.1).trans h.obj, ⟨c1, (ot _ hw.2.1).trans h1, h2⟩, ⟨c2, (ot _ hw.2.2).trans h3, h4⟩, ⟨c3, (ot _ (h.k_ne_c hi)).trans h5, h6⟩, fun j hj => ?_,
    fun j hj => (ot _ (Ne.symm (h.c_ne_m hi hj))).trans (h.mu j hj), h.ci, h.mi, by simpa using h.lc, by simpa using h.lx, h.lh, h.lk⟩
  rw [getD_set _ _ _ _ (by rw [h.lc]; exact hi), getD_set _ _ _ _ (by rw [h.lx]; exact hi)]
  by_cases e : i = j
  · subst e
    rw [if_pos rfl, if_pos rfl, heap_set (heap_set (h.ce i hi) _)]
    rfl
  · rw [if_neg e, if_neg e, ot _ (fun x => e (h.ci j i hj hi x).symm)]
    exact h.ce j hj
theorem setM (h : Cel w g n C X H K) {i : Nat} (hi : i < 4) (z : Int) : Cel (w.setCell ⟨g.m i, 0, none⟩ (.int .i64 z)) g n C X (H.set i z) K := by
  obtain ⟨c1, h1, h2⟩ := h.cr
  obtain ⟨c2, h3, h4⟩ := h.mr
  obtain ⟨c3, h5, h6⟩ := h.kr
  have hw := h.w_ne (.inr (.inr ⟨i, hi, rfl⟩))
  refine ⟨(heap_set_other hw.1 _).trans h.obj, ⟨c1, (heap_set_other hw.2.1 _).trans h1, h2⟩, ⟨c2, (heap_set_other hw.2.2 _).trans h3, h4⟩, ⟨c3, (heap_set_other (h.k_ne_m hi) _).trans h5, h6⟩,
    fun j hj => (heap_set_other (h.c_ne_m hj hi) _).trans (h.ce j hj), fun j hj => ?_, h.ci, h.mi, h.lc, h.lx, by simpa using h.lh, h.lk⟩
  rw [getD_set _ _ _ _ (by rw [h.lh]; exact hi)]
  by_cases e : i = j
  · subst e
    rw [if_pos rfl, heap_set (h.mu i hi)]
    rfl
  · rw [if_neg e, heap_set_other (fun x => e (h.mi j i hj hi x).symm)]
    exact h.mu j hj
end Cel
/-- In the midst of a step: the step that is done lies in a block of its own. -/
structure CelX (w0 : World) (g : AtG) (n : Nat) (xb : Nat) (x : INS) (C X H K : List Int) (w : World) : Prop where
  cel : Cel w g n C X H K
  xs : w.heap[xb]? = some (.cells x.vals 73 (0, 0))
  only : Only (CS g) w0 w
namespace CelX
variable {w0 w : World} {g : AtG} {n xb : Nat} {x : INS} {C X H K : List Int}
theorem x_ne (h : CelX w0 g n xb x C X H K w) {j : Nat} (hj : CS g j) : xb ≠ j := Ne.symm (h.cel.cs_ne hj h.xs (by decide))
theorem cell (h : CelX w0 g n xb x C X H K w) (k : Nat) : w.cell? ⟨xb, k, none⟩ = x.vals[k]? := by simp [World.cell?, h.xs]
theorem drewN (h : CelX w0 g n xb x C X H K w) (m : Nat) : CelX w0 g n xb x C X H K (w.drewN m) := ⟨h.cel.drewN m, h.xs, h.only.drewN m⟩
theorem setK (h : CelX w0 g n xb x C X H K w) {i : Nat} (hi : i < n) (z : Int) : CelX w0 g n xb x C X H (K.set i z) (w.setCell ⟨g.K, i, none⟩ (.int .i64 z)) :=
  ⟨h.cel.setK hi z, (heap_set_other (h.x_ne (.inl rfl)) _).trans h.xs, h.only.setCell (p := ⟨g.K, i, none⟩) (.inl (.inl rfl)) _⟩
theorem setC (h : CelX w0 g n xb x C X H K w) {i : Nat} (hi : i < 4) (z y : Int) : CelX w0 g n xb x (C.set i z) (X.set i y) H K ((w.setCell ⟨g.c i, 0, none⟩ (.int .i64 z)).setCell ⟨g.c i, 1, none⟩ (.int .i64 y)) :=
  have hc : CS g (g.c i) := .inr (.inl ⟨i, hi, rfl⟩)
  ⟨h.cel.setC hi z y, ((heap_set_other (h.x_ne hc) _).trans (heap_set_other (h.x_ne hc) _)).trans h.xs, (h.only.setCell (p := ⟨g.c i, 0, none⟩) (.inl hc) _).setCell (p := ⟨g.c i, 1, none⟩) (.inl hc) _⟩
theorem setM (h : CelX w0 g n xb x C X H K w) {i : Nat} (hi : i < 4) (z : Int) : CelX w0 g n xb x C X (H.set i z) K (w.setCell ⟨g.m i, 0, none⟩ (.int .i64 z)) :=
  have hc : CS g (g.m i) := .inr (.inr ⟨i, hi, rfl⟩)
  ⟨h.cel.setM hi z, (heap_set_other (h.x_ne hc) _).trans h.xs, h.only.setCell (p := ⟨g.m i, 0, none⟩) (.inl hc) _⟩
end CelX
end Go.Proofs.Ytccliallljcjgaa
