/- A file taken away. -/
import Derived.Test.YtkelcmncjhnbgaaDiskDrop
set_option linter.unusedVariables false
set_option maxRecDepth 100000
namespace Go.Proofs.Ytkelcmncjhnbgaa
open Go.RowKit Go.Maps

theorem delE_mem {n : Int} {x : DE} {es : List DE} (h : x ∈ delE n es) : x ∈ es ∧ x.f.n ≠ n := by
  unfold delE at h
  obtain ⟨h1, h2⟩ := List.mem_filter.1 h
  exact ⟨h1, by simpa using h2⟩
theorem Lay.del {S : Nat → Prop} {w w' : World} {d mb : Nat} {es : List DE} {c : DC} (h : Lay S w d mb es c) (n : Int) (hm : FileMap w' mb (delE n es)) (hk : ∀ k, k < w.heap.size → k ≠ mb → w'.heap[k]? = w.heap[k]?) : Lay S w' d mb (delE n es) c := by
  refine ⟨(hk d (heap_lt h.obj) h.ne_map.symm).trans h.obj, hm, fun e he => ?_, ?_, fun e he e' he' => h.sep e (delE_mem he).1 e' (delE_mem he').1, h.sd, h.sm, fun e he => h.sf e (delE_mem he).1, fun e he => h.sr e (delE_mem he).1⟩
  · have he := (delE_mem he).1
    refine (h.file e he).kept (hk _ (heap_lt (h.file e he).1) (h.ne_file he).2) fun g hg => hk g ?_ (h.ne_row he hg).2.1
    obtain ⟨cur, hc⟩ := ownsRow_row (h.file e he).2 hg
    exact heap_lt hc
  · exact h.nod.sublist (List.filter_sublist.map _)
theorem turned_other {w w' : World} {b : Nat} (h : w.mapTurned w' b) (k : Nat) (hk : k ≠ b) : w'.heap[k]? = w.heap[k]? := by
  obtain ⟨x, c, x', c', hb, rfl⟩ := h
  exact Go.ChangeMaps.heap_setBlock_other hb _ hk
/-- What the tiers' counts come to. -/
def DC.use (c : DC) (t x : Int) : DC := { c with u0 := if t = 0 then x else c.u0, u1 := if t = 0 then c.u1 else x }
theorem Lay.setU {S : Nat → Prop} {w : World} {d mb : Nat} {es : List DE} {c : DC} (h : Lay S w d mb es c) (x : Int) :
    Lay S (w.setCell ⟨d, 2, none⟩ (.int .i64 x)) d mb es (c.use 0 x) ∧ Lay S (w.setCell ⟨d, 3, none⟩ (.int .i64 x)) d mb es (c.use 1 x) :=
  ⟨h.setD 2 _ _ rfl, h.setD 3 _ _ rfl⟩
theorem tier_cases {s : DS} (hF : s.Fit) {f : DF} {n : Int} (h : findL n s.fs = some f) : f.t = 0 ∨ f.t = 1 := (hF.file f (findL_mem h).1).1
theorem len_bound {s : DS} (hF : s.Fit) {f : DF} {n : Int} (h : findL n s.fs = some f) : f.data.length ≤ 67108864 ∧ blk f.data.length ≤ 1048576 := by
  have h1 := blk_le f.data.length
  have hm := (findL_mem h).1
  rcases tier_cases hF h with e | e
  · have := used_ge hm e; have := hF.u0; have := hF.r0; omega
  · have := used_ge hm e; have := hF.u1; have := hF.r1; omega
/-- The file is gone. -/
theorem DS.Fit.del {s : DS} (h : s.Fit) {n : Int} {f : DF} (hf : findL n s.fs = some f) (hr : n ≠ s.root) : ({ s with fs := delL n s.fs } : DS).Fit := by
  have huse := fun t => used_del t n h.nod hf
  refine ⟨h.r0, h.r1, ?_, ?_, ?_, ?_, ?_, h.l0, h.l1⟩
  · have := huse 0; have := h.u0; simp only at *; omega
  · have := huse 1; have := h.u1; simp only at *; omega
  · exact h.nod.sublist (List.filter_sublist.map _)
  · exact fun x hx => h.file x (List.mem_filter.1 hx).1
  · rcases h.root with e | ⟨y, hy, hyn, hys⟩
    · exact .inl e
    · exact .inr ⟨y, List.mem_filter.2 ⟨hy, by simp; rw [hyn]; exact Ne.symm hr⟩, hyn, hys⟩

end Go.Proofs.Ytkelcmncjhnbgaa
