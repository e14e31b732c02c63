/- Plain laws of the disk: what calls leave as it was. -/
import Derived.Test.YtgmfcjmbapmagaaDiskOpen
set_option linter.unusedVariables false
namespace Go.Proofs.Ytgmfcjmbapmagaa
open Go.RowKit Go.Maps

/-- A disk on which nothing was armed. -/
structure Calm (s : DS) : Prop where
  left : s.left = -1
  down : s.down = false
theorem calm_new (a b : Nat) : Calm (DS.new a b) := ⟨rfl, rfl⟩
theorem calm_back (s : DS) (ks : List (Int × Int)) : Calm (s.back ks) := ⟨rfl, rfl⟩
theorem calm_tick {s : DS} (h : Calm s) : s.tick.left = -1 := by
  unfold DS.tick
  simp only [h.left]
  rfl
/-- What each call does to a calm disk. -/
theorem make_calm {s : DS} (h : Calm s) (t n : Int) : s.make t n = (s, 1) ∧ ((¬ (t = 0 ∨ t = 1)) ∨ n < 1) ∨ s.make t n = (s, 10) ∧ (findL n s.fs).isSome = true ∨ s.make t n = (s, 7) ∨
    s.make t n = ({ s.tick with fs := s.fs ++ [⟨n, t, [], false, 0⟩] }, 0) ∧ findL n s.fs = none ∧ (t = 0 ∨ t = 1) ∧ 1 ≤ n := by
  unfold DS.make
  rw [if_neg (by rw [h.down]; simp)]
  by_cases h1 : ¬ (t = 0 ∨ t = 1) ∨ n < 1
  · rw [if_pos h1]; exact .inl ⟨rfl, h1⟩
  · rw [if_neg h1]
    by_cases h2 : (findL n s.fs).isSome = true
    · rw [if_pos h2]; exact .inr (.inl ⟨rfl, h2⟩)
    · rw [if_neg h2]
      by_cases h3 : s.room t ≤ s.used t
      · rw [if_pos h3]; exact .inr (.inr (.inl rfl))
      · rw [if_neg h3, if_neg (by rw [h.left]; omega)]
        refine .inr (.inr (.inr ⟨rfl, ?_, ?_⟩))
        · cases hx : findL n s.fs with
          | none => rfl
          | some f => rw [hx] at h2; exact absurd rfl h2
        · constructor
          · exact Classical.byContradiction fun x => h1 (.inl x)
          · omega
theorem add_calm {s : DS} (h : Calm s) (n : Int) (b : List UInt8) : s.add n b = (s, 9) ∧ findL n s.fs = none ∨ (∃ f, findL n s.fs = some f ∧ (s.add n b = (s, 7) ∨ s.add n b = ({ s.tick with fs := updL n (addF b) s.fs }, 0))) := by
  unfold DS.add
  rw [if_neg (by rw [h.down]; simp)]
  cases hx : findL n s.fs with
  | none => exact .inl ⟨rfl, rfl⟩
  | some f =>
    refine .inr ⟨f, rfl, ?_⟩
    simp only
    split
    · exact .inl rfl
    · rw [if_neg (by rw [h.left]; omega)]
      exact .inr rfl
theorem sync_calm {s : DS} (h : Calm s) (n : Int) : s.sync n = (s, 9) ∧ findL n s.fs = none ∨ (∃ f, findL n s.fs = some f ∧ s.sync n = ({ s.tick with fs := updL n syncF s.fs }, 0)) := by
  unfold DS.sync
  rw [if_neg (by rw [h.down]; simp)]
  cases hx : findL n s.fs with
  | none => exact .inl ⟨rfl, rfl⟩
  | some f =>
    refine .inr ⟨f, rfl, ?_⟩
    simp only
    rw [if_neg (by rw [h.left]; omega)]
theorem drop_calm {s : DS} (h : Calm s) (n : Int) : s.drop n = (s, 9) ∧ findL n s.fs = none ∨ (∃ f, findL n s.fs = some f ∧ (s.drop n = (s, 11) ∧ n = s.root ∨ s.drop n = ({ s.tick with fs := delL n s.fs }, 0) ∧ n ≠ s.root)) := by
  unfold DS.drop
  rw [if_neg (by rw [h.down]; simp)]
  cases hx : findL n s.fs with
  | none => exact .inl ⟨rfl, rfl⟩
  | some f =>
    refine .inr ⟨f, rfl, ?_⟩
    simp only
    by_cases hr : n = s.root
    · rw [if_pos hr]; exact .inl ⟨rfl, hr⟩
    · rw [if_neg hr, if_neg (by rw [h.left]; omega)]
      exact .inr ⟨rfl, hr⟩
theorem point_calm {s : DS} (h : Calm s) (n : Int) : s.point n = (s, 9) ∧ findL n s.fs = none ∨ (∃ f, findL n s.fs = some f ∧ (s.point n = (s, 11) ∨ s.point n = ({ s.tick with root := n }, 0))) := by
  unfold DS.point
  rw [if_neg (by rw [h.down]; simp)]
  cases hx : findL n s.fs with
  | none => exact .inl ⟨rfl, rfl⟩
  | some f =>
    refine .inr ⟨f, rfl, ?_⟩
    simp only
    split
    · exact .inl rfl
    · rw [if_neg (by rw [h.left]; omega)]
      exact .inr rfl
/-- A call of a script, on a calm disk: it stays calm, and counts one change at the most. -/
theorem do_calm {s : DS} (h : Calm s) (o : OP) : Calm (doS s o).1 ∧ (doS s o).1.steps ≤ s.steps + 1 ∧ (doS s o).1.r0 = s.r0 ∧ (doS s o).1.r1 = s.r1 ∧ ((doS s o).2 ≠ 0 → (doS s o).1 = s) ∧
    ((doS s o).1.root = s.root ∨ o.kind = 5 ∧ (doS s o).2 = 0 ∧ (doS s o).1.root = o.file) := by
  have ht := calm_tick h
  have hd : s.tick.down = false := h.down
  unfold doS
  by_cases h1 : o.kind = 1
  · rw [if_pos h1]
    rcases make_calm h o.tier o.file with ⟨e, _⟩ | ⟨e, _⟩ | e | ⟨e, _⟩ <;> rw [e]
    · exact ⟨h, Nat.le_succ _, rfl, rfl, fun _ => rfl, .inl rfl⟩
    · exact ⟨h, Nat.le_succ _, rfl, rfl, fun _ => rfl, .inl rfl⟩
    · exact ⟨h, Nat.le_succ _, rfl, rfl, fun _ => rfl, .inl rfl⟩
    · exact ⟨⟨ht, hd⟩, Nat.le_refl _, rfl, rfl, fun x => absurd rfl x, .inl rfl⟩
  rw [if_neg h1]
  by_cases h2 : o.kind = 2
  · rw [if_pos h2]
    rcases add_calm h o.file o.text with ⟨e, _⟩ | ⟨f, _, e | e⟩ <;> rw [e]
    · exact ⟨h, Nat.le_succ _, rfl, rfl, fun _ => rfl, .inl rfl⟩
    · exact ⟨h, Nat.le_succ _, rfl, rfl, fun _ => rfl, .inl rfl⟩
    · exact ⟨⟨ht, hd⟩, Nat.le_refl _, rfl, rfl, fun x => absurd rfl x, .inl rfl⟩
  rw [if_neg h2]
  by_cases h3 : o.kind = 3
  · rw [if_pos h3]
    rcases sync_calm h o.file with ⟨e, _⟩ | ⟨f, _, e⟩ <;> rw [e]
    · exact ⟨h, Nat.le_succ _, rfl, rfl, fun _ => rfl, .inl rfl⟩
    · exact ⟨⟨ht, hd⟩, Nat.le_refl _, rfl, rfl, fun x => absurd rfl x, .inl rfl⟩
  rw [if_neg h3]
  by_cases h4 : o.kind = 4
  · rw [if_pos h4]
    rcases drop_calm h o.file with ⟨e, _⟩ | ⟨f, _, ⟨e, _⟩ | ⟨e, _⟩⟩ <;> rw [e]
    · exact ⟨h, Nat.le_succ _, rfl, rfl, fun _ => rfl, .inl rfl⟩
    · exact ⟨h, Nat.le_succ _, rfl, rfl, fun _ => rfl, .inl rfl⟩
    · exact ⟨⟨ht, hd⟩, Nat.le_refl _, rfl, rfl, fun x => absurd rfl x, .inl rfl⟩
  rw [if_neg h4]
  by_cases h5 : o.kind = 5
  · rw [if_pos h5]
    rcases point_calm h o.file with ⟨e, _⟩ | ⟨f, _, e | e⟩ <;> rw [e]
    · exact ⟨h, Nat.le_succ _, rfl, rfl, fun _ => rfl, .inl rfl⟩
    · exact ⟨h, Nat.le_succ _, rfl, rfl, fun _ => rfl, .inl rfl⟩
    · exact ⟨⟨ht, hd⟩, Nat.le_refl _, rfl, rfl, fun x => absurd rfl x, .inr ⟨h5, rfl, rfl⟩⟩
  rw [if_neg h5]
  by_cases h8 : o.kind = 8
  · rw [if_pos h8]
    exact ⟨calm_back s o.ks, Nat.le_succ _, rfl, rfl, fun x => absurd rfl x, .inl rfl⟩
  · rw [if_neg h8]
    exact ⟨h, Nat.le_succ _, rfl, rfl, fun _ => rfl, .inl rfl⟩
/-- The root is there. -/
theorem root_there {s : DS} (hF : s.Fit) (hr : s.root ≠ 0) : ∃ f, findL s.root s.fs = some f := by
  rcases hF.root with e | ⟨f, hf, hn, _⟩
  · exact absurd e hr
  · exact ⟨f, findL_of hF.nod hf hn⟩
theorem file_pos {s : DS} (hF : s.Fit) {n : Int} {f : DF} (h : findL n s.fs = some f) : 1 ≤ n := by
  obtain ⟨h1, h2⟩ := findL_mem h
  have := (hF.file f h1).2.2.2.1
  omega
theorem root_wf {s : DS} (hF : s.Fit) : (Lit.int .i64 s.root).wf = true := by
  rcases hF.root with e | ⟨f, hf, hn, _⟩
  · rw [e]; decide
  · have := (hF.file f hf).2.2.2
    exact WalkArith.wf_i64 (by omega)
theorem size_there {s : DS} (h : Calm s) {n : Int} {f : DF} (hf : findL n s.fs = some f) : s.size n = ((f.data.length : Int), f.t, 0) := by
  unfold DS.size
  rw [if_neg (by rw [h.down]; simp), hf]
theorem drop_root {s : DS} (h : Calm s) (hF : s.Fit) (hr : s.root ≠ 0) : s.drop s.root = (s, 11) := by
  obtain ⟨f, hf⟩ := root_there hF hr
  rcases drop_calm h s.root with ⟨e, h0⟩ | ⟨g, _, ⟨e, _⟩ | ⟨_, hn⟩⟩
  · rw [hf] at h0; cases h0
  · exact e
  · exact absurd rfl hn
end Go.Proofs.Ytgmfcjmbapmagaa
