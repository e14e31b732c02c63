/- Plain laws of the disk: what was made sure is there behind a loss of power. -/
import Derived.Test.YtgmfcjmbapmagaaDiskLaws
set_option linter.unusedVariables false
namespace Go.Proofs.Ytgmfcjmbapmagaa
open Go.RowKit Go.Maps

theorem find_upd {n : Int} {g : DF → DF} (hg : ∀ x, (g x).n = x.n) : ∀ {l : List DF} {f : DF}, findL n l = some f → findL n (updL n g l) = some (g f)
  | [], f, h => by cases h
  | a :: r, f, h => by
    unfold findL at h
    show findL n ((if a.n = n then g a else a) :: updL n g r) = some (g f)
    by_cases ha : a.n = n
    · rw [if_pos ha] at h
      rw [if_pos ha]
      unfold findL
      rw [if_pos (by rw [hg]; exact ha)]
      cases h
      rfl
    · rw [if_neg ha] at h
      rw [if_neg ha]
      unfold findL
      rw [if_neg ha]
      exact find_upd hg h
theorem find_new {n : Int} {x : DF} (hx : x.n = n) : ∀ {l : List DF}, findL n l = none → findL n (l ++ [x]) = some x
  | [], _ => by unfold findL; simp [hx]
  | a :: r, h => by
    unfold findL at h
    show findL n (a :: (r ++ [x])) = some x
    by_cases ha : a.n = n
    · rw [if_pos ha] at h; cases h
    · rw [if_neg ha] at h
      unfold findL
      rw [if_neg ha]
      exact find_new hx h
theorem read_at {s : DS} (h : Calm s) {n : Int} {f : DF} (hf : findL n s.fs = some f) (k : Nat) (hk : k ≤ f.data.length) : s.read n 0 (k : Int) = (f.data.take k, 0) := by
  unfold DS.read
  rw [if_neg (by rw [h.down]; simp), hf]
  simp only
  rw [if_neg (by omega)]
  simp
/-- A file begun, or there already. -/
theorem make_then {s : DS} (h : Calm s) {n : Int} (hn : 1 ≤ n) : s.make 0 n = (s, 7) ∨ ∃ s2 c f, s.make 0 n = (s2, c) ∧ (c = 0 ∨ c = 10) ∧ Calm s2 ∧ s2.steps ≤ s.steps + 1 ∧ findL n s2.fs = some f := by
  rcases make_calm h 0 n with ⟨_, x⟩ | ⟨e, x⟩ | e | ⟨e, x, _⟩
  · omega
  · cases hf : findL n s.fs with
    | none => rw [hf] at x; cases x
    | some f => exact .inr ⟨s, 10, f, e, .inr rfl, h, Nat.le_succ _, hf⟩
  · exact .inl e
  · exact .inr ⟨_, 0, ⟨n, 0, [], false, 0⟩, e, .inl rfl, ⟨calm_tick h, h.down⟩, Nat.le_refl _, find_new (x := ⟨n, 0, [], false, 0⟩) rfl x⟩
theorem add_then {s : DS} (h : Calm s) {n : Int} {f : DF} (hf : findL n s.fs = some f) (b : List UInt8) : s.add n b = (s, 7) ∨ ∃ s2, s.add n b = (s2, 0) ∧ Calm s2 ∧ s2.steps ≤ s.steps + 1 ∧ findL n s2.fs = some (addF b f) := by
  rcases add_calm h n b with ⟨_, x⟩ | ⟨g, _, e | e⟩
  · rw [hf] at x; cases x
  · exact .inl e
  · exact .inr ⟨_, e, ⟨calm_tick h, h.down⟩, Nat.le_refl _, find_upd (g := addF b) (fun _ => rfl) hf⟩
theorem sync_then {s : DS} (h : Calm s) {n : Int} {f : DF} (hf : findL n s.fs = some f) : ∃ s2, s.sync n = (s2, 0) ∧ Calm s2 ∧ s2.steps ≤ s.steps + 1 ∧ findL n s2.fs = some (syncF f) := by
  rcases sync_calm h n with ⟨_, x⟩ | ⟨g, _, e⟩
  · rw [hf] at x; cases x
  · exact ⟨_, e, ⟨calm_tick h, h.down⟩, Nat.le_refl _, find_upd (g := syncF) (fun _ => rfl) hf⟩
/-- Behind a loss of power: the sure bytes, and a beginning of the others. -/
theorem back_then {s : DS} (hF : s.Fit) {n : Int} {f : DF} (hf : findL n s.fs = some f) (hs : f.sure = true) (ks : List (Int × Int)) : ∃ f', findL n (s.back ks).fs = some f' ∧ f'.data = f.data.take f'.data.length ∧ f.sb ≤ f'.data.length ∧ f'.data.length ≤ f.data.length := by
  have h1 : findL n (s.back ks).fs = some (loseF (most ks f.n) f) := by
    show findL n (s.fs.filterMap (backF ks)) = _
    rw [back_find hF.nod, hf]
    show backF ks f = _
    unfold backF
    rw [if_neg (by rw [hs]; simp)]
  have hsb := (hF.file f (findL_mem hf).1).2.1
  obtain ⟨k1, k2⟩ := keptLen_le (k := most ks f.n) hsb
  refine ⟨_, h1, ?_, ?_, ?_⟩
  · rw [loseF_eq]
    simp only [List.length_take, Nat.min_eq_left k1]
  · rw [loseF_eq]
    simp only [List.length_take, Nat.min_eq_left k1]
    exact k2
  · rw [loseF_eq]
    simp only [List.length_take, Nat.min_eq_left k1]
    exact k1
theorem fit_len {s : DS} (hF : s.Fit) {n : Int} {f : DF} (hf : findL n s.fs = some f) : f.data.length ≤ 67108864 := (len_bound hF hf).1
end Go.Proofs.Ytgmfcjmbapmagaa
