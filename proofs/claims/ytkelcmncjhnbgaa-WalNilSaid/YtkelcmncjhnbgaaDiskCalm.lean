/- Plain laws of the disk: what calls leave as it was. -/
import Derived.Test.YtkelcmncjhnbgaaDiskAt
set_option linter.unusedVariables false
set_option maxRecDepth 100000
namespace Go.Proofs.Ytkelcmncjhnbgaa
open Go.RowKit Go.Maps

/-- A disk on which nothing was armed. -/
structure Calm (s : DS) : Prop where
  left : s.left = -1
  down : s.down = false
theorem calm_new (a b : Nat) : Calm (DS.new a b) := ⟨rfl, rfl⟩
theorem calm_back (s : DS) (ks : List (Int × Int)) : Calm (s.back ks) := ⟨rfl, rfl⟩
theorem calm_tick {s : DS} (h : Calm s) : s.tick.left = -1 := by
  unfold DS.tick
  simp only [h.left]
  rfl
/-- What each call does to a calm disk. -/
theorem make_calm {s : DS} (h : Calm s) (t n : Int) : s.make t n = (s, 1) ∧ ((¬ (t = 0 ∨ t = 1)) ∨ n < 1) ∨ s.make t n = (s, 10) ∧ (findL n s.fs).isSome = true ∨ s.make t n = (s, 7) ∨
    s.make t n = ({ s.tick with fs := s.fs ++ [⟨n, t, [], false, 0⟩] }, 0) ∧ findL n s.fs = none ∧ (t = 0 ∨ t = 1) ∧ 1 ≤ n := by
  unfold DS.make
  rw [if_neg (by rw [h.down]; simp)]
  by_cases h1 : ¬ (t = 0 ∨ t = 1) ∨ n < 1
  · rw [if_pos h1]; exact .inl ⟨rfl, h1⟩
  · rw [if_neg h1]
    by_cases h2 : (findL n s.fs).isSome = true
    · rw [if_pos h2]; exact .inr (.inl ⟨rfl, h2⟩)
    · rw [if_neg h2]
      by_cases h3 : s.room t ≤ s.used t
      · rw [if_pos h3]; exact .inr (.inr (.inl rfl))
      · rw [if_neg h3, if_neg (by rw [h.left]; omega)]
        refine .inr (.inr (.inr ⟨rfl, ?_, ?_⟩))
        · cases hx : findL n s.fs with
          | none => rfl
          | some f => rw [hx] at h2; exact absurd rfl h2
        · constructor
          · exact Classical.byContradiction fun x => h1 (.inl x)
          · omega
theorem add_calm {s : DS} (h : Calm s) (n : Int) (b : List UInt8) : s.add n b = (s, 9) ∧ findL n s.fs = none ∨ (∃ f, findL n s.fs = some f ∧ (s.add n b = (s, 7) ∨ s.add n b = ({ s.tick with fs := updL n (addF b) s.fs }, 0))) := by
  unfold DS.add
  rw [if_neg (by rw [h.down]; simp)]
  cases hx : findL n s.fs with
  | none => exact .inl ⟨rfl, rfl⟩
  | some f =>
    refine .inr ⟨f, rfl, ?_⟩
    simp only
    split
    · exact .inl rfl
    · rw [if_neg (by rw [h.left]; omega)]
      exact .inr rfl
theorem sync_calm {s : DS} (h : Calm s) (n : Int) : s.sync n = (s, 9) ∧ findL n s.fs = none ∨ (∃ f, findL n s.fs = some f ∧ s.sync n = ({ s.tick with fs := updL n syncF s.fs }, 0)) := by
  unfold DS.sync
  rw [if_neg (by rw [h.down]; simp)]
  cases hx : findL n s.fs with
  | none => exact .inl ⟨rfl, rfl⟩
  | some f =>
    refine .inr ⟨f, rfl, ?_⟩
    simp only
    rw [if_neg (by rw [h.left]; omega)]
theorem drop_calm {s : DS} (h : Calm s) (n : Int) : s.drop n = (s, 9) ∧ findL n s.fs = none ∨ (∃ f, findL n s.fs = some f ∧ (s.drop n = (s, 11) ∧ n = s.root ∨ s.drop n = ({ s.tick with fs := delL n s.fs }, 0) ∧ n ≠ s.root)) := by
  unfold DS.drop
  rw [if_neg (by rw [h.down]; simp)]
  cases hx : findL n s.fs with
  | none => exact .inl ⟨rfl, rfl⟩
  | some f =>
    refine .inr ⟨f, rfl, ?_⟩
    simp only
    by_cases hr : n = s.root
    · rw [if_pos hr]; exact .inl ⟨rfl, hr⟩
    · rw [if_neg hr, if_neg (by rw [h.left]; omega)]
      exact .inr ⟨rfl, hr⟩
theorem point_calm {s : DS} (h : Calm s) (n : Int) : s.point n = (s, 9) ∧ findL n s.fs = none ∨ (∃ f, findL n s.fs = some f ∧ (s.point n = (s, 11) ∨ s.point n = ({ s.tick with root := n }, 0))) := by
  unfold DS.point
  rw [if_neg (by rw [h.down]; simp)]
  cases hx : findL n s.fs with
  | none => exact .inl ⟨rfl, rfl⟩
  | some f =>
    refine .inr ⟨f, rfl, ?_⟩
    simp only
    split
    · exact .inl rfl
    · rw [if_neg (by rw [h.left]; omega)]
      exact .inr rfl
/-- The root is there. -/
theorem root_there {s : DS} (hF : s.Fit) (hr : s.root ≠ 0) : ∃ f, findL s.root s.fs = some f := by
  rcases hF.root with e | ⟨f, hf, hn, _⟩
  · exact absurd e hr
  · exact ⟨f, findL_of hF.nod hf hn⟩
theorem file_pos {s : DS} (hF : s.Fit) {n : Int} {f : DF} (h : findL n s.fs = some f) : 1 ≤ n := by
  obtain ⟨h1, h2⟩ := findL_mem h
  have := (hF.file f h1).2.2.2.1
  omega
theorem root_wf {s : DS} (hF : s.Fit) : (Lit.int .i64 s.root).wf = true := by
  rcases hF.root with e | ⟨f, hf, hn, _⟩
  · rw [e]; decide
  · have := (hF.file f hf).2.2.2
    exact WalkArith.wf_i64 (by omega)
theorem size_there {s : DS} (h : Calm s) {n : Int} {f : DF} (hf : findL n s.fs = some f) : s.size n = ((f.data.length : Int), f.t, 0) := by
  unfold DS.size
  rw [if_neg (by rw [h.down]; simp), hf]
theorem drop_root {s : DS} (h : Calm s) (hF : s.Fit) (hr : s.root ≠ 0) : s.drop s.root = (s, 11) := by
  obtain ⟨f, hf⟩ := root_there hF hr
  rcases drop_calm h s.root with ⟨e, h0⟩ | ⟨g, _, ⟨e, _⟩ | ⟨_, hn⟩⟩
  · rw [hf] at h0; cases h0
  · exact e
  · exact absurd rfl hn
theorem find_upd {n : Int} {g : DF → DF} (hg : ∀ x, (g x).n = x.n) : ∀ {l : List DF} {f : DF}, findL n l = some f → findL n (updL n g l) = some (g f)
  | [], f, h => by cases h
  | a :: r, f, h => by
    unfold findL at h
    show findL n ((if a.n = n then g a else a) :: updL n g r) = some (g f)
    by_cases ha : a.n = n
    · rw [if_pos ha] at h
      rw [if_pos ha]
      unfold findL
      rw [if_pos (by rw [hg]; exact ha)]
      cases h
      rfl
    · rw [if_neg ha] at h
      rw [if_neg ha]
      unfold findL
      rw [if_neg ha]
      exact find_upd hg h
theorem find_new {n : Int} {x : DF} (hx : x.n = n) : ∀ {l : List DF}, findL n l = none → findL n (l ++ [x]) = some x
  | [], _ => by unfold findL; simp [hx]
  | a :: r, h => by
    unfold findL at h
    show findL n (a :: (r ++ [x])) = some x
    by_cases ha : a.n = n
    · rw [if_pos ha] at h; cases h
    · rw [if_neg ha] at h
      unfold findL
      rw [if_neg ha]
      exact find_new hx h
theorem read_at {s : DS} (h : Calm s) {n : Int} {f : DF} (hf : findL n s.fs = some f) (k : Nat) (hk : k ≤ f.data.length) : s.read n 0 (k : Int) = (f.data.take k, 0) := by
  unfold DS.read
  rw [if_neg (by rw [h.down]; simp), hf]
  simp only
  rw [if_neg (by omega)]
  simp
/-- A file begun, or there already. -/
theorem make_then {s : DS} (h : Calm s) {n : Int} (hn : 1 ≤ n) : s.make 0 n = (s, 7) ∨ ∃ s2 c f, s.make 0 n = (s2, c) ∧ (c = 0 ∨ c = 10) ∧ Calm s2 ∧ s2.steps ≤ s.steps + 1 ∧ findL n s2.fs = some f := by
  rcases make_calm h 0 n with ⟨_, x⟩ | ⟨e, x⟩ | e | ⟨e, x, _⟩
  · omega
  · cases hf : findL n s.fs with
    | none => rw [hf] at x; cases x
    | some f => exact .inr ⟨s, 10, f, e, .inr rfl, h, Nat.le_succ _, hf⟩
  · exact .inl e
  · exact .inr ⟨_, 0, ⟨n, 0, [], false, 0⟩, e, .inl rfl, ⟨calm_tick h, h.down⟩, Nat.le_refl _, find_new (x := ⟨n, 0, [], false, 0⟩) rfl x⟩
theorem add_then {s : DS} (h : Calm s) {n : Int} {f : DF} (hf : findL n s.fs = some f) (b : List UInt8) : s.add n b = (s, 7) ∨ ∃ s2, s.add n b = (s2, 0) ∧ Calm s2 ∧ s2.steps ≤ s.steps + 1 ∧ findL n s2.fs = some (addF b f) := by
  rcases add_calm h n b with ⟨_, x⟩ | ⟨g, _, e | e⟩
  · rw [hf] at x; cases x
  · exact .inl e
  · exact .inr ⟨_, e, ⟨calm_tick h, h.down⟩, Nat.le_refl _, find_upd (g := addF b) (fun _ => rfl) hf⟩
theorem sync_then {s : DS} (h : Calm s) {n : Int} {f : DF} (hf : findL n s.fs = some f) : ∃ s2, s.sync n = (s2, 0) ∧ Calm s2 ∧ s2.steps ≤ s.steps + 1 ∧ findL n s2.fs = some (syncF f) := by
  rcases sync_calm h n with ⟨_, x⟩ | ⟨g, _, e⟩
  · rw [hf] at x; cases x
  · exact ⟨_, e, ⟨calm_tick h, h.down⟩, Nat.le_refl _, find_upd (g := syncF) (fun _ => rfl) hf⟩
/-- Behind a loss of power: the sure bytes, and a beginning of the others. -/
theorem back_then {s : DS} (hF : s.Fit) {n : Int} {f : DF} (hf : findL n s.fs = some f) (hs : f.sure = true) (ks : List (Int × Int)) : ∃ f', findL n (s.back ks).fs = some f' ∧ f'.data = f.data.take f'.data.length ∧ f.sb ≤ f'.data.length ∧ f'.data.length ≤ f.data.length := by
  have h1 : findL n (s.back ks).fs = some (loseF (most ks f.n) f) := by
    show findL n (s.fs.filterMap (backF ks)) = _
    rw [back_find hF.nod, hf]
    show backF ks f = _
    unfold backF
    rw [if_neg (by rw [hs]; simp)]
  have hsb := (hF.file f (findL_mem hf).1).2.1
  obtain ⟨k1, k2⟩ := keptLen_le (k := most ks f.n) hsb
  refine ⟨_, h1, ?_, ?_, ?_⟩
  · rw [loseF_eq]
    simp only [List.length_take, Nat.min_eq_left k1]
  · rw [loseF_eq]
    simp only [List.length_take, Nat.min_eq_left k1]
    exact k2
  · rw [loseF_eq]
    simp only [List.length_take, Nat.min_eq_left k1]
    exact k1
theorem fit_len {s : DS} (hF : s.Fit) {n : Int} {f : DF} (hf : findL n s.fs = some f) : f.data.length ≤ 67108864 := (len_bound hF hf).1
end Go.Proofs.Ytkelcmncjhnbgaa
