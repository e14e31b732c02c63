/- Plain laws of the disk: files taken away, one by one; blocks as the document counts them; a row of numbers. -/
import Derived.Test.YtgmfcjmbapmagaaDiskSurePlain
import Derived.Test.YtgmfcjmbapmagaaDiskFiles
set_option linter.unusedVariables false
namespace Go.Proofs.Ytgmfcjmbapmagaa
open Go.RowKit Go.Maps

theorem ref_Blocks (n : Nat) (hn : n ≤ 4611686018427387904) (w : World) : Calls Try.prog 25 #[.int .i64 (n : Int)] w fun e w' => e = .returned (.int .i64 (blk n : Int)) ∧ w = w' := by
  have h0 : (0 : Int) ≤ n := by omega
  by_cases hz : (n : Int) % 64 = 0
  · have hb : ((blk n : Nat) : Int) = 1 + (n : Int) / 64 := by unfold blk; omega
    have HB := Lib.hid hb
    have hz' : ((n : Int) % 64 == 0) = true := by simpa using hz
    clear hb
    go_enter Try.func25, Try.ntmps25
    go_wp2
    go_ret
    exact ⟨ret1 HB.out, rfl⟩
  · have hb : ((blk n : Nat) : Int) = 2 + (n : Int) / 64 := by unfold blk; omega
    have HB := Lib.hid hb
    have hz' : ((n : Int) % 64 == 0) = false := by simpa using hz
    clear hb
    go_enter Try.func25, Try.ntmps25
    go_wp2
    go_ret
    exact ⟨ret1 HB.out, rfl⟩
/-- Numbers in a row. -/
def RowN (w : World) (a : Option Addr) (ns : List Int) : Prop := ns = [] ∨ ∃ g, a = some ⟨g, 0, none⟩ ∧ g < w.heap.size ∧ ∀ i (h : i < ns.length), w.cell? ⟨g, i, none⟩ = some (.int .i64 ns[i])
theorem rowN_of {w : World} {base : Nat} {v : Value} {ns : List Int} (h : w.ownsRow base 3 1 v ns.length (ns.map (Value.int .i64))) : ∃ a cap, v = .slice a ns.length cap ∧ RowN w a ns ∧ (∀ g, a = some ⟨g, 0, none⟩ → base ≤ g) := by
  rcases h.2 with ⟨rfl, h0⟩ | ⟨g, cap, cur, rfl, hb, hg, hle, _, _, htk⟩
  · exact ⟨none, 0, by rw [h0], .inl (List.eq_nil_of_length_eq_zero h0), fun g hg => by cases hg⟩
  · refine ⟨some ⟨g, 0, none⟩, cap, rfl, .inr ⟨g, rfl, heap_lt hg, fun i hi => ?_⟩, fun g' hg' => by injection hg' with hg'; injection hg' with hg'; omega⟩
    have h1 : (ns.map (Value.int .i64))[i]? = cur.toList[i]? := by rw [← htk, Nat.mul_one, List.getElem?_take, if_pos hi]
    rw [List.getElem?_map, List.getElem?_eq_getElem hi] at h1
    simp only [World.cell?, hg]
    simpa using h1.symm
/-- The files, taken away one by one: behind i of them. -/
structure Gone (ns : List Int) (i : Nat) (root : Int) (st : Nat) (s : DS) : Prop where
  calm : Calm s
  rt : s.root = root
  rest : ∀ f ∈ s.fs, f.n = root ∨ f.n ∈ ns.drop i
  there : ∀ m ∈ ns.drop i, ∃ f, findL m s.fs = some f
  steps : s.steps ≤ st + i
theorem gone_start {s : DS} (h : Calm s) (hF : s.Fit) {ns : List Int} (hp : ns.Perm (s.fs.map (·.n))) : Gone ns 0 s.root s.steps s := by
  refine ⟨h, rfl, fun f hf => .inr ?_, fun m hm => ?_, Nat.le_refl _⟩
  · exact hp.mem_iff.2 (List.mem_map.2 ⟨f, hf, rfl⟩)
  · obtain ⟨f, hf, hn⟩ := List.mem_map.1 (hp.mem_iff.1 hm)
    exact ⟨f, findL_of hF.nod hf hn⟩
theorem find_del {n m : Int} (h : n ≠ m) : ∀ {l : List DF} {f : DF}, findL n l = some f → findL n (delL m l) = some f
  | [], f, hf => by cases hf
  | a :: r, f, hf => by
    unfold findL at hf
    unfold delL
    rw [List.filter_cons]
    by_cases ha : a.n = n
    · rw [if_pos ha] at hf
      rw [if_pos (by simp [ha, h])]
      unfold findL
      rw [if_pos ha]
      exact hf
    · rw [if_neg ha] at hf
      have ih := find_del h hf
      unfold delL at ih
      split
      · unfold findL
        rw [if_neg ha]
        exact ih
      · exact ih
/-- The next one. -/
theorem gone_next {ns : List Int} {i : Nat} {root : Int} {st : Nat} {s : DS} (h : Gone ns i root st s) (hi : i < ns.length) (hnd : ns.Nodup) :
    ∃ c, s.drop ns[i] = ((s.drop ns[i]).1, c) ∧ Gone ns (i + 1) root st (s.drop ns[i]).1 ∧ (s.drop ns[i]).1.root = s.root ∧ (ns[i] = root → c = 11) ∧ (ns[i] ≠ root → c = 0) := by
  have hd : ns.drop i = ns[i] :: ns.drop (i + 1) := List.drop_eq_getElem_cons hi
  obtain ⟨f, hf⟩ := h.there ns[i] (by rw [hd]; exact List.mem_cons_self ..)
  have hnot : ns[i] ∉ ns.drop (i + 1) := by
    have := hnd.sublist (List.drop_sublist i ns)
    rw [hd, List.nodup_cons] at this
    exact this.1
  rcases drop_calm h.calm ns[i] with ⟨_, x⟩ | ⟨g, _, ⟨e, hr⟩ | ⟨e, hr⟩⟩
  · rw [hf] at x; cases x
  · rw [e]
    refine ⟨11, rfl, ⟨h.calm, h.rt, fun x hx => ?_, fun m hm => h.there m (by rw [hd]; exact List.mem_cons_of_mem _ hm), by have := h.steps; show s.steps ≤ _; omega⟩, rfl, fun _ => rfl, fun x => absurd (hr.trans h.rt) x⟩
    rcases h.rest x hx with y | y
    · exact .inl y
    · rw [hd] at y
      rcases List.mem_cons.1 y with y | y
      · exact .inl (by rw [y, hr, h.rt])
      · exact .inr y
  · rw [e]
    refine ⟨0, rfl, ⟨⟨calm_tick h.calm, h.calm.down⟩, h.rt, fun x hx => ?_, fun m hm => ?_, by have := h.steps; show s.steps + 1 ≤ _; omega⟩, rfl, fun x => absurd (x.trans h.rt.symm) hr, fun _ => rfl⟩
    · obtain ⟨hx1, hx2⟩ := List.mem_filter.1 hx
      have hx2' : x.n ≠ ns[i] := by simpa using hx2
      rcases h.rest x hx1 with y | y
      · exact .inl y
      · rw [hd] at y
        rcases List.mem_cons.1 y with y | y
        · exact absurd y hx2'
        · exact .inr y
    · obtain ⟨f2, hf2⟩ := h.there m (by rw [hd]; exact List.mem_cons_of_mem _ hm)
      exact ⟨f2, find_del (fun x => hnot (by rw [← x]; exact hm)) hf2⟩
/-- What is left. -/
theorem gone_end {ns : List Int} {root : Int} {st : Nat} {s : DS} (h : Gone ns ns.length root st s) (hF : s.Fit) : (root = 0 ∧ s.used 0 + s.used 1 = 0) ∨ (1 ≤ root ∧ ∃ f, findL root s.fs = some f ∧ s.used 0 + s.used 1 = blk f.data.length) := by
  have hrest : ∀ f ∈ s.fs, f.n = root := fun f hf => by
    rcases h.rest f hf with x | x
    · exact x
    · rw [List.drop_length] at x; cases x
  have hnod := hF.nod
  have hfile := hF.file
  have hroot := hF.root
  unfold DS.used
  cases hfs : s.fs with
  | nil =>
    rw [hfs] at hroot
    rcases hroot with e | ⟨f, hf, _⟩
    · exact .inl ⟨by rw [← h.rt, e], rfl⟩
    · cases hf
  | cons f r =>
    rw [hfs] at hnod hrest hfile
    have hr : r = [] := by
      cases r with
      | nil => rfl
      | cons g r' =>
        simp only [List.map_cons, List.nodup_cons] at hnod
        exact absurd (by rw [hrest f (by simp), hrest g (by simp)]; exact List.mem_cons_self ..) hnod.1
    subst hr
    obtain ⟨ht, _, _, hn1, _⟩ := hfile f (by simp)
    have hfn := hrest f (by simp)
    refine .inr ⟨by omega, f, by unfold findL; rw [if_pos hfn], ?_⟩
    rcases ht with e | e <;> simp [usedL, e]
end Go.Proofs.Ytgmfcjmbapmagaa
