/- Plain laws of an armed disk. -/
import Derived.Test.YtkelcmncjhnbgaaDiskCalm
set_option linter.unusedVariables false
set_option maxRecDepth 100000
namespace Go.Proofs.Ytkelcmncjhnbgaa
open Go.RowKit Go.Maps

/-- A disk on which n was armed. -/
def Armed (n : Int) (s : DS) : Prop := (n < 0 ∧ s.left = -1 ∧ s.down = false) ∨ (0 ≤ n ∧ s.down = false ∧ s.left = n - s.steps ∧ 0 ≤ s.left) ∨ (0 ≤ n ∧ s.down = true ∧ (s.steps : Int) = n)
def bulkS (s : DS) : Nat := 64 * (usedL 0 s.fs + usedL 1 s.fs)
theorem used_both_upd {s : DS} (hF : s.Fit) {n : Int} {f : DF} {g : DF → DF} (hf : findL n s.fs = some f) (hg : ∀ x, (g x).t = x.t) :
    usedL 0 (updL n g s.fs) + usedL 1 (updL n g s.fs) + blk f.data.length = usedL 0 s.fs + usedL 1 s.fs + blk (g f).data.length := by
  have h0 := used_upd 0 n g hg hF.nod hf
  have h1 := used_upd 1 n g hg hF.nod hf
  rcases tier_cases hF hf with e | e <;> simp [e] at h0 h1 <;> omega
theorem armed_off {n : Int} {s s2 : DS} (h : Armed n s) (hd : s.down = false) (hl : s.left = 0) (h2 : s2.down = true) (hs : s2.steps = s.steps) : Armed n s2 := by
  rcases h with ⟨_, x, _⟩ | ⟨a, _, b, _⟩ | ⟨_, x, _⟩
  · omega
  · exact .inr (.inr ⟨a, h2, by rw [hs]; omega⟩)
  · rw [hd] at x; cases x
theorem armed_tick {n : Int} {s s2 : DS} (h : Armed n s) (hd : s.down = false) (hl : s.left ≠ 0) (h2 : s2.down = false) (hs : s2.steps = s.steps + 1) (hl2 : s2.left = s.tick.left) : Armed n s2 := by
  unfold DS.tick at hl2
  simp only at hl2
  rcases h with ⟨a, x, _⟩ | ⟨a, _, b, c⟩ | ⟨_, x, _⟩
  · refine .inl ⟨a, ?_, h2⟩
    rw [hl2, x]
    rfl
  · refine .inr (.inl ⟨a, h2, ?_, ?_⟩)
    · rw [hl2, hs]; split <;> omega
    · rw [hl2]; split <;> omega
  · rw [hd] at x; cases x
theorem bulk_same {s s2 : DS} (h : s2.fs = s.fs) : bulkS s2 = bulkS s := by unfold bulkS; rw [h]
/-- What holds of an armed disk. -/
theorem armed_steps {n : Int} {s : DS} (h : Armed n s) : (0 ≤ n → (s.steps : Int) ≤ n) ∧ (s.down = true → 0 ≤ n ∧ (s.steps : Int) = n) := by
  rcases h with ⟨a, _, b⟩ | ⟨a, b, c, d⟩ | ⟨a, b, c⟩
  · exact ⟨fun x => (by omega), fun x => (by rw [b] at x; cases x)⟩
  · exact ⟨fun _ => (by omega), fun x => (by rw [b] at x; cases x)⟩
  · exact ⟨fun _ => (by omega), fun _ => ⟨a, c⟩⟩
/-- So many numbers in a row want so many files. -/
theorem pigeons (c : Int) : ∀ (q : Nat) (fs : List DF), (∀ x : Nat, x < q → ∃ f ∈ fs, f.n = c + x) → q ≤ fs.length
  | 0, _, _ => Nat.zero_le _
  | q + 1, fs, h => by
    obtain ⟨f, hf, hn⟩ := h q (Nat.lt_succ_self q)
    have h1 := pigeons c q (delL (c + q) fs) fun x hx => by
      obtain ⟨g, hg, hgn⟩ := h x (Nat.lt_succ_of_lt hx)
      exact ⟨g, List.mem_filter.2 ⟨hg, by simp; omega⟩, hgn⟩
    have h2 : (delL (c + q) fs).length < fs.length := List.length_filter_lt_length_iff_exists.2 ⟨f, hf, by simp [hn]⟩
    omega
theorem back_bulk (s : DS) (ks : List (Int × Int)) : bulkS (s.back ks) ≤ bulkS s ∧ (s.back ks).fs.length ≤ s.fs.length := by
  have h0 := used_back 0 ks s.fs
  have h1 := used_back 1 ks s.fs
  refine ⟨?_, List.length_filterMap_le _ _⟩
  unfold bulkS
  show 64 * (usedL 0 (s.fs.filterMap (backF ks)) + usedL 1 (s.fs.filterMap (backF ks))) ≤ _
  omega
end Go.Proofs.Ytkelcmncjhnbgaa
