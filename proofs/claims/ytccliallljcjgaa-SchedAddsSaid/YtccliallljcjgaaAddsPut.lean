/- SchedAdds: one task more is put. -/
import Derived.Test.YtccliallljcjgaaAddsPicks
import Derived.Deep.CutRange
import Derived.Deep.CutBlock
set_option linter.unusedVariables false
namespace Go.Proofs.Ytccliallljcjgaa
open Go.RowKit

/-- A slice of numbers that came in. -/
def IsNums (k : IntKind) (w : World) (a : Option Addr) (n : Nat) (zs : List Int) : Prop :=
  n = zs.length ∧ ∃ b off, (n = 0 ∨ a = some ⟨b, off, none⟩) ∧ ∀ i z, zs[i]? = some z → b < w.heap.size ∧ w.cell? ⟨b, off + i, none⟩ = some (.int k z) ∧ (Lit.int k z).wf = true
/-- The first j tasks are put. -/
structure AP (B : Nat) (w0 w : World) (g : AG) (s t : Nat) (sw : Bool) (want : Int) (ts : List AT) (tsS : List (Option TS)) (n j : Nat) : Prop where
  inv : AInv sw want 0 (-1) ts
  mem : AMem w g sw 0 (-1) ts
  sch : Sch w s t tsS 0
  len : ts.length = j
  lenS : tsS.length = n
  slot : ∀ i x y, ts[i]? = some x → tsS[i]? = some y → SlotOk g sw i x y
  none_ : ∀ i, j ≤ i → i < n → tsS[i]? = some none
  lo : B ≤ g.c ∧ B ≤ g.m ∧ (∀ i, i < ts.length → B ≤ g.lf i ∧ B ≤ g.sn i) ∧ B ≤ s ∧ B ≤ t
  lk : ∀ (i : Nat) y, tsS[i]? = some (some y) → B ≤ y.k
  few : want ≤ 20 * j
  bel : Below B w0 w
  bz : B ≤ w.heap.size

theorem sumL_app (l m : List AT) : sumL (l ++ m) = sumL l + sumL m := by
  induction l with
  | nil => simp [sumL]
  | cons x r ih => simp only [List.cons_append, sumL, ih]; omega
/-- One task more has its blocks. -/
def AG.put (g : AG) (j z : Nat) : AG := { g with lf := fun i => if i = j then z else g.lf i, sn := fun i => if i = j then z + 1 else g.sn i, ld := fun i => if i = j then z + 2 else g.ld i, st := fun i => if i = j then z + 3 else g.st i }
theorem put_old (g : AG) {i j : Nat} (z : Nat) (h : i ≠ j) : (g.put j z).lf i = g.lf i ∧ (g.put j z).sn i = g.sn i ∧ (g.put j z).ld i = g.ld i ∧ (g.put j z).st i = g.st i ∧ ldC (g.put j z) i = ldC g i ∧ stC (g.put j z) i = stC g i := by
  simp [AG.put, ldC, stC, h]
theorem put_new (g : AG) (j z : Nat) : (g.put j z).lf j = z ∧ (g.put j z).sn j = z + 1 ∧ (g.put j z).ld j = z + 2 ∧ (g.put j z).st j = z + 3 := by simp [AG.put]
theorem AP.next {B : Nat} {w0 w wC w6 w7 : World} {g : AG} {s t : Nat} {sw : Bool} {want : Int} {ts : List AT} {tsS : List (Option TS)} {n j d k : Nat} (A : AP B w0 w g s t sw want ts tsS n j) (hj : j < n) (hn : n ≤ 8) (hd : d ≤ 19)
    (hB : Below w.heap.size w wC) (y1 : wC.heap[w.heap.size]? = some (.cells #[.int .i64 (1 + (d : Int))] 3 (0, 0))) (y2 : wC.heap[w.heap.size + 1]? = some (.cells #[.int .i64 0] 3 (0, 0)))
    (y3 : wC.heap[w.heap.size + 2]? = some (.cells #[.func (.func 24) #[] (ldC (g.put j w.heap.size) j)] 58 (0, 0))) (y4 : wC.heap[w.heap.size + 3]? = some (.cells #[.func (.func 26) #[] (stC (g.put j w.heap.size) j)] 58 (0, 0)))
    (hk : w.heap.size ≤ k) (hO : Only (fun p => p = t) wC w6) (hS : Sch w6 s t (tsS.set j (some ⟨k, .func (.func 24) #[] (ldC (g.put j w.heap.size) j), if sw then none else some ⟨g.m, 0, none⟩⟩)) 0) (hb7 : Below w6.heap.size w6 w7) :
    AP B w0 w7 (g.put j w.heap.size) s t sw (want + (1 + (d : Int))) (ts ++ [⟨d + 1, 0, false⟩]) (tsS.set j (some ⟨k, .func (.func 24) #[] (ldC (g.put j w.heap.size) j), if sw then none else some ⟨g.m, 0, none⟩⟩)) n (j + 1) := by
  have hz := A.bz
  have hSC := A.sch.below hB
  have htag : ∀ {q : Nat} {cb : Array Value} {tb : TypeId}, wC.heap[q]? = some (.cells cb tb (0, 0)) → tb ≠ 78 → w7.heap[q]? = some (.cells cb tb (0, 0)) := fun {q cb tb} hq ht => by
    have h1 : w6.heap[q]? = some (.cells cb tb (0, 0)) := (hO.block q (heap_lt hq) (ne_types hq hSC.row ht)).trans hq
    exact (hb7.block q (heap_lt h1)).trans h1
  have old : ∀ {q : Nat} {cb : Array Value} {tb : TypeId}, w.heap[q]? = some (.cells cb tb (0, 0)) → tb ≠ 78 → w7.heap[q]? = some (.cells cb tb (0, 0)) := fun hq ht => htag ((hB.block _ (heap_lt hq)).trans hq) ht
  obtain ⟨p1, p2, p3, p4⟩ := put_new g j w.heap.size
  have hlt : ∀ i (x : AT), ts[i]? = some x → i < j := fun i x hx => by rw [← A.len]; exact (List.getElem?_eq_some_iff.1 hx).1
  have hap : ∀ i (x : AT), (ts ++ [⟨d + 1, 0, false⟩])[i]? = some x → (ts[i]? = some x ∧ i < j) ∨ (i = j ∧ x = ⟨d + 1, 0, false⟩) := fun i x hx => by
    rw [List.getElem?_append] at hx
    split at hx
    · exact .inl ⟨hx, hlt i x hx⟩
    · rename_i h
      rw [A.len] at h hx
      have : i = j := by
        apply Classical.byContradiction
        intro hne
        rw [List.getElem?_eq_none (by simp; omega)] at hx
        cases hx
      subst this
      simp at hx
      exact .inr ⟨rfl, hx.symm⟩
  have hl0 : ∀ i, i < j → ∃ x, ts[i]? = some x := fun i hi => ⟨_, List.getElem?_eq_getElem (by rw [A.len]; exact hi)⟩
  have hlen : (ts ++ [(⟨d + 1, 0, false⟩ : AT)]).length = j + 1 := by rw [List.length_append, A.len]; rfl
  have hbl7 : Below w.heap.size w w7 → True := fun _ => trivial
  have hB7 : Below B w0 w7 := by
    have hBC : Below B w0 wC := A.bel.trans (hB.mono hz)
    have hB6 : Below B w0 w6 := hBC.trans (hO.below (fun q _ hq => by rw [hq]; exact A.lo.2.2.2.2) (Nat.le_trans hz hB.size))
    exact hB6.trans (hb7.mono (Nat.le_trans (Nat.le_trans hz hB.size) hO.size))
  refine ⟨⟨?_, by simp, ?_, by rw [hlen]; omega, fun x hx => ?_, fun x hx h0 => ?_, fun x hx => ?_, ?_⟩, ⟨old A.mem.bs (by decide), old A.mem.cb (by decide), old A.mem.mb (by decide), old A.mem.c (by decide), old A.mem.m (by decide), fun i x hx => ?_, fun i x hx => ?_, fun i hi => ?_, fun i hi => ?_, fun a b ha hb => ?_⟩, hS.below hb7, hlen, by rw [List.length_set]; exact A.lenS, fun i x y hx hy => ?_, fun i h1 h2 => ?_, ⟨A.lo.1, A.lo.2.1, fun i hi => ?_, A.lo.2.2.2.1, A.lo.2.2.2.2⟩, fun i y hy => ?_, ?_, hB7, Nat.le_trans (Nat.le_trans (Nat.le_trans hz hB.size) hO.size) hb7.size⟩
  · have := A.inv.sum
    rw [sumL_app]
    simp only [sumL]
    omega
  · have := A.few
    omega
  · rcases List.mem_append.1 hx with hx | hx
    · exact A.inv.l20 x hx
    · simp at hx; subst hx; simp only; omega
  · rcases List.mem_append.1 hx with hx | hx
    · exact A.inv.dn x hx h0
    · simp at hx; subst hx; rfl
  · rcases List.mem_append.1 hx with hx | hx
    · exact A.inv.sn x hx
    · simp at hx; subst hx; simp
  · rcases A.inv.ml with ⟨e, _⟩ | ⟨e, hh⟩
    · exact .inl ⟨e, rfl⟩
    · refine .inr ⟨e, .inl ⟨rfl, fun x hx => ?_⟩⟩
      rcases List.mem_append.1 hx with hx | hx
      · rcases hh with ⟨_, h⟩ | ⟨i, y, h, _⟩
        · exact h x hx
        · omega
      · simp at hx; subst hx; rfl
  · rcases hap i x hx with ⟨h1, h2⟩ | ⟨rfl, rfl⟩
    · rw [(put_old g w.heap.size (Nat.ne_of_lt h2)).1]; exact old (A.mem.lf i x h1) (by decide)
    · rw [p1]
      have := htag y1 (by decide)
      rw [this]
      simp only [Int.natCast_add]
      congr 5
      simp
      omega
  · rcases hap i x hx with ⟨h1, h2⟩ | ⟨rfl, rfl⟩
    · rw [(put_old g w.heap.size (Nat.ne_of_lt h2)).2.1]; exact old (A.mem.sn i x h1) (by decide)
    · rw [p2]; exact htag y2 (by decide)
  · by_cases hij : i = j
    · subst hij; rw [p3]; exact htag y3 (by decide)
    · have hi' : i < j := by rw [hlen] at hi; omega
      obtain ⟨_, _, e1, _, e2, _⟩ := put_old g w.heap.size hij
      rw [e1, e2]
      exact old (A.mem.ld i (by rw [A.len]; exact hi')) (by decide)
  · by_cases hij : i = j
    · subst hij; rw [p4]; exact htag y4 (by decide)
    · have hi' : i < j := by rw [hlen] at hi; omega
      obtain ⟨_, _, _, e1, _, e2⟩ := put_old g w.heap.size hij
      rw [e1, e2]
      exact old (A.mem.st i (by rw [A.len]; exact hi')) (by decide)
  · have lo : ∀ i, i < j → g.lf i < w.heap.size ∧ g.sn i < w.heap.size := fun i hi => by
      obtain ⟨x, hx⟩ := hl0 i hi
      exact ⟨heap_lt (A.mem.lf i x hx), heap_lt (A.mem.sn i x hx)⟩
    rw [hlen] at ha hb
    by_cases h1 : a = j
    · subst h1
      by_cases h2 : b = a
      · subst h2
        rw [p1, p2]
        exact ⟨fun h => absurd rfl h, by omega⟩
      · have := lo b (by omega)
        obtain ⟨e1, e2, _⟩ := put_old g w.heap.size h2
        rw [e1, e2, p1, p2]
        exact ⟨fun _ => ⟨by omega, by omega⟩, by omega⟩
    · have l1 := lo a (by omega)
      obtain ⟨e1, e2, _⟩ := put_old g w.heap.size h1
      by_cases h2 : b = j
      · subst h2
        rw [e1, e2, p1, p2]
        exact ⟨fun _ => ⟨by omega, by omega⟩, by omega⟩
      · obtain ⟨e3, e4, _⟩ := put_old g w.heap.size h2
        rw [e1, e2, e3, e4]
        exact A.mem.inj a b (by rw [A.len]; omega) (by rw [A.len]; omega)
  · rcases hap i x hx with ⟨h1, h2⟩ | ⟨rfl, rfl⟩
    · rw [List.getElem?_set_ne (by omega)] at hy
      obtain ⟨_, _, _, _, e1, e2⟩ := put_old g w.heap.size (Nat.ne_of_lt h2)
      have := A.slot i x y h1 hy
      unfold SlotOk at this ⊢
      rw [e1, e2]
      exact this
    · rw [List.getElem?_set, if_pos rfl, if_pos (by rw [A.lenS]; exact hj)] at hy
      injection hy with hy
      subst hy
      refine .inr ⟨by simp, k, ?_⟩
      simp [AG.put]
  · rw [List.getElem?_set_ne (by omega)]
    exact A.none_ i (by omega) h2
  · by_cases hij : i = j
    · subst hij; rw [p1, p2]; omega
    · obtain ⟨e1, e2, _⟩ := put_old g w.heap.size hij
      rw [e1, e2]
      rw [hlen] at hi
      exact A.lo.2.2.1 i (by rw [A.len]; omega)
  · by_cases hij : i = j
    · subst hij
      rw [List.getElem?_set, if_pos rfl, if_pos (by rw [A.lenS]; exact hj)] at hy
      injection hy with hy
      injection hy with hy
      subst hy
      exact Nat.le_trans hz hk
    · rw [List.getElem?_set_ne (Ne.symm hij)] at hy
      exact A.lk i y hy
  · have := A.few
    omega
end Go.Proofs.Ytccliallljcjgaa
