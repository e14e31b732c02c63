/- Plain laws of the disk: power that goes behind so many changes. -/
import Derived.Test.YtgmfcjmbapmagaaDiskSurePlain
set_option linter.unusedVariables false
namespace Go.Proofs.Ytgmfcjmbapmagaa
open Go.RowKit Go.Maps

/-- A disk on which n was armed. -/
def Armed (n : Int) (s : DS) : Prop := (n < 0 ∧ s.left = -1 ∧ s.down = false) ∨ (0 ≤ n ∧ s.down = false ∧ s.left = n - s.steps ∧ 0 ≤ s.left) ∨ (0 ≤ n ∧ s.down = true ∧ (s.steps : Int) = n)
def bulkS (s : DS) : Nat := 64 * (usedL 0 s.fs + usedL 1 s.fs)
/-- What a call may do. -/
structure Turn (n : Int) (s : DS) (o : OP) (r : DS × Int) : Prop where
  armed : Armed n r.1
  bulk : bulkS r.1 ≤ bulkS s + 64 + o.text.length
  len : r.1.fs.length ≤ s.fs.length + 1
  ok : r.2 = 0 → 1 ≤ o.kind ∧ o.kind ≤ 5 → r.1.steps = s.steps + 1
  no : r.2 ≠ 0 → r.1.steps = s.steps
  off : r.2 = 8 ↔ (r.1.down = true ∧ 1 ≤ o.kind ∧ o.kind ≤ 5)
  r1 : r.1.r1 = s.r1
theorem used_both_upd {s : DS} (hF : s.Fit) {n : Int} {f : DF} {g : DF → DF} (hf : findL n s.fs = some f) (hg : ∀ x, (g x).t = x.t) :
    usedL 0 (updL n g s.fs) + usedL 1 (updL n g s.fs) + blk f.data.length = usedL 0 s.fs + usedL 1 s.fs + blk (g f).data.length := by
  have h0 := used_upd 0 n g hg hF.nod hf
  have h1 := used_upd 1 n g hg hF.nod hf
  rcases tier_cases hF hf with e | e <;> simp [e] at h0 h1 <;> omega
theorem armed_off {n : Int} {s s2 : DS} (h : Armed n s) (hd : s.down = false) (hl : s.left = 0) (h2 : s2.down = true) (hs : s2.steps = s.steps) : Armed n s2 := by
  rcases h with ⟨_, x, _⟩ | ⟨a, _, b, _⟩ | ⟨_, x, _⟩
  · omega
  · exact .inr (.inr ⟨a, h2, by rw [hs]; omega⟩)
  · rw [hd] at x; cases x
theorem armed_tick {n : Int} {s s2 : DS} (h : Armed n s) (hd : s.down = false) (hl : s.left ≠ 0) (h2 : s2.down = false) (hs : s2.steps = s.steps + 1) (hl2 : s2.left = s.tick.left) : Armed n s2 := by
  unfold DS.tick at hl2
  simp only at hl2
  rcases h with ⟨a, x, _⟩ | ⟨a, _, b, c⟩ | ⟨_, x, _⟩
  · refine .inl ⟨a, ?_, h2⟩
    rw [hl2, x]
    rfl
  · refine .inr (.inl ⟨a, h2, ?_, ?_⟩)
    · rw [hl2, hs]; split <;> omega
    · rw [hl2]; split <;> omega
  · rw [hd] at x; cases x
theorem turn_refused {n : Int} {s : DS} {o : OP} {c : Int} (h : Armed n s) (hd : s.down = false) (h0 : c ≠ 0) (h8 : c ≠ 8) : Turn n s o (s, c) :=
  ⟨h, by simp only; omega, Nat.le_succ _, fun x => absurd x h0, fun _ => rfl, ⟨fun x => absurd x h8, fun x => (by rw [hd] at x; cases x.1)⟩, rfl⟩
theorem turn_off {n : Int} {s s2 : DS} {o : OP} (h : Armed n s) (hd : s.down = false) (hl : s.left = 0) (hk : 1 ≤ o.kind ∧ o.kind ≤ 5) (h2 : s2.down = true) (hs : s2.steps = s.steps) (hr : s2.r1 = s.r1)
    (hb : bulkS s2 ≤ bulkS s + 64 + o.text.length) (hn : s2.fs.length ≤ s.fs.length + 1) : Turn n s o (s2, 8) :=
  ⟨armed_off h hd hl h2 hs, hb, hn, fun x => (by cases x), fun _ => hs, ⟨fun _ => ⟨h2, hk⟩, fun _ => rfl⟩, hr⟩
theorem turn_done {n : Int} {s s2 : DS} {o : OP} (h : Armed n s) (hd : s.down = false) (hl : s.left ≠ 0) (h2 : s2.down = false) (hs : s2.steps = s.steps + 1) (hl2 : s2.left = s.tick.left) (hr : s2.r1 = s.r1)
    (hb : bulkS s2 ≤ bulkS s + 64 + o.text.length) (hn : s2.fs.length ≤ s.fs.length + 1) : Turn n s o (s2, 0) :=
  ⟨armed_tick h hd hl h2 hs hl2, hb, hn, fun _ _ => hs, fun x => absurd rfl x, ⟨fun x => (by cases x), fun x => (by rw [h2] at x; cases x.1)⟩, hr⟩
theorem turn_down {n : Int} {s : DS} {o : OP} (h : Armed n s) (hd : s.down = true) (hk : 1 ≤ o.kind ∧ o.kind ≤ 5) : Turn n s o (s, 8) :=
  ⟨h, by simp only; omega, Nat.le_succ _, fun x => (by cases x), fun _ => rfl, ⟨fun _ => ⟨hd, hk⟩, fun _ => rfl⟩, rfl⟩
theorem bulk_same {s s2 : DS} (h : s2.fs = s.fs) : bulkS s2 = bulkS s := by unfold bulkS; rw [h]
theorem armed_do {n : Int} {s : DS} (h : Armed n s) (hF : s.Fit) (o : OP) (h8 : o.kind ≠ 8) : Turn n s o (doS s o) := by
  unfold doS
  by_cases hdn : s.down = true
  · by_cases h1 : o.kind = 1
    · rw [if_pos h1, show s.make o.tier o.file = (s, 8) by unfold DS.make; rw [if_pos hdn]]
      exact turn_down h hdn (by omega)
    rw [if_neg h1]
    by_cases h2 : o.kind = 2
    · rw [if_pos h2, show s.add o.file o.text = (s, 8) by unfold DS.add; rw [if_pos hdn]]
      exact turn_down h hdn (by omega)
    rw [if_neg h2]
    by_cases h3 : o.kind = 3
    · rw [if_pos h3, show s.sync o.file = (s, 8) by unfold DS.sync; rw [if_pos hdn]]
      exact turn_down h hdn (by omega)
    rw [if_neg h3]
    by_cases h4 : o.kind = 4
    · rw [if_pos h4, show s.drop o.file = (s, 8) by unfold DS.drop; rw [if_pos hdn]]
      exact turn_down h hdn (by omega)
    rw [if_neg h4]
    by_cases h5 : o.kind = 5
    · rw [if_pos h5, show s.point o.file = (s, 8) by unfold DS.point; rw [if_pos hdn]]
      exact turn_down h hdn (by omega)
    rw [if_neg h5, if_neg h8]
    exact ⟨h, by simp only; omega, Nat.le_succ _, fun _ x => (by omega), fun _ => rfl, ⟨fun x => (by cases x), fun x => (by omega)⟩, rfl⟩
  · have hd : s.down = false := by cases hx : s.down with | true => exact absurd hx hdn | false => rfl
    by_cases h1 : o.kind = 1
    · rw [if_pos h1]
      unfold DS.make
      rw [if_neg hdn]
      split
      · exact turn_refused h hd (by omega) (by omega)
      · split
        · exact turn_refused h hd (by omega) (by omega)
        · split
          · exact turn_refused h hd (by omega) (by omega)
          · rename_i hcond _ _
            split
            · exact turn_off h hd (by assumption) (by omega) rfl rfl rfl (by rw [bulk_same (s := s) (s2 := s.off) rfl]; omega) (Nat.le_succ _)
            · refine turn_done h hd (by assumption) hd rfl rfl rfl ?_ (by simp)
              unfold bulkS
              simp only [usedL_append, usedL, blk, List.length_nil]
              have ht : o.tier = 0 ∨ o.tier = 1 := by omega
              rcases ht with e | e <;> simp [e] <;> omega
    rw [if_neg h1]
    by_cases h2 : o.kind = 2
    · rw [if_pos h2]
      unfold DS.add
      rw [if_neg hdn]
      cases hx : findL o.file s.fs with
      | none => exact turn_refused h hd (by omega) (by omega)
      | some f =>
        simp only
        have hu := used_both_upd hF (g := addF o.text) hx (fun _ => rfl)
        have hl2 : (addF o.text f).data.length = f.data.length + o.text.length := List.length_append
        rw [hl2] at hu
        have hb : bulkS ({ s with fs := updL o.file (addF o.text) s.fs } : DS) ≤ bulkS s + 64 + o.text.length := by
          unfold bulkS
          simp only
          unfold blk at hu
          omega
        split
        · exact turn_refused h hd (by omega) (by omega)
        · split
          · exact turn_off h hd (by assumption) (by omega) rfl rfl rfl hb (by simp [updL])
          · exact turn_done h hd (by assumption) hd rfl rfl rfl hb (by simp [updL])
    rw [if_neg h2]
    by_cases h3 : o.kind = 3
    · rw [if_pos h3]
      unfold DS.sync
      rw [if_neg hdn]
      cases hx : findL o.file s.fs with
      | none => exact turn_refused h hd (by omega) (by omega)
      | some f =>
        simp only
        have hu := used_both_upd hF (g := syncF) hx (fun _ => rfl)
        have hl2 : (syncF f).data.length = f.data.length := rfl
        rw [hl2] at hu
        have hb : bulkS ({ s with fs := updL o.file syncF s.fs } : DS) ≤ bulkS s + 64 + o.text.length := by
          unfold bulkS
          simp only
          omega
        split
        · exact turn_off h hd (by assumption) (by omega) rfl rfl rfl (by rw [bulk_same (s := s) (s2 := s.off) rfl]; omega) (Nat.le_succ _)
        · exact turn_done h hd (by assumption) hd rfl rfl rfl hb (by simp [updL])
    rw [if_neg h3]
    by_cases h4 : o.kind = 4
    · rw [if_pos h4]
      unfold DS.drop
      rw [if_neg hdn]
      cases hx : findL o.file s.fs with
      | none => exact turn_refused h hd (by omega) (by omega)
      | some f =>
        simp only
        have hu0 := used_del 0 o.file hF.nod hx
        have hu1 := used_del 1 o.file hF.nod hx
        have hb : bulkS ({ s with fs := delL o.file s.fs } : DS) ≤ bulkS s + 64 + o.text.length := by
          unfold bulkS
          simp only
          omega
        split
        · exact turn_refused h hd (by omega) (by omega)
        · split
          · exact turn_off h hd (by assumption) (by omega) rfl rfl rfl (by rw [bulk_same (s := s) (s2 := s.off) rfl]; omega) (Nat.le_succ _)
          · exact turn_done h hd (by assumption) hd rfl rfl rfl hb (Nat.le_succ_of_le (List.length_filter_le _ _))
    rw [if_neg h4]
    by_cases h5 : o.kind = 5
    · rw [if_pos h5]
      unfold DS.point
      rw [if_neg hdn]
      cases hx : findL o.file s.fs with
      | none => exact turn_refused h hd (by omega) (by omega)
      | some f =>
        simp only
        split
        · exact turn_refused h hd (by omega) (by omega)
        · split
          · exact turn_off h hd (by assumption) (by omega) rfl rfl rfl (by rw [bulk_same (s := s) (s2 := s.off) rfl]; omega) (Nat.le_succ _)
          · exact turn_done h hd (by assumption) hd rfl rfl rfl (by unfold bulkS; simp only; show 64 * (usedL 0 s.fs + usedL 1 s.fs) ≤ _; omega) (Nat.le_succ _)
    rw [if_neg h5, if_neg h8]
    exact ⟨h, by simp only; omega, Nat.le_succ _, fun _ x => (by omega), fun _ => rfl, ⟨fun x => (by cases x), fun x => (by omega)⟩, rfl⟩
/-- What holds of an armed disk. -/
theorem armed_steps {n : Int} {s : DS} (h : Armed n s) : (0 ≤ n → (s.steps : Int) ≤ n) ∧ (s.down = true → 0 ≤ n ∧ (s.steps : Int) = n) := by
  rcases h with ⟨a, _, b⟩ | ⟨a, b, c, d⟩ | ⟨a, b, c⟩
  · exact ⟨fun x => (by omega), fun x => (by rw [b] at x; cases x)⟩
  · exact ⟨fun _ => (by omega), fun x => (by rw [b] at x; cases x)⟩
  · exact ⟨fun _ => (by omega), fun _ => ⟨a, c⟩⟩
/-- So many numbers in a row want so many files. -/
theorem pigeons (c : Int) : ∀ (q : Nat) (fs : List DF), (∀ x : Nat, x < q → ∃ f ∈ fs, f.n = c + x) → q ≤ fs.length
  | 0, _, _ => Nat.zero_le _
  | q + 1, fs, h => by
    obtain ⟨f, hf, hn⟩ := h q (Nat.lt_succ_self q)
    have h1 := pigeons c q (delL (c + q) fs) fun x hx => by
      obtain ⟨g, hg, hgn⟩ := h x (Nat.lt_succ_of_lt hx)
      exact ⟨g, List.mem_filter.2 ⟨hg, by simp; omega⟩, hgn⟩
    have h2 : (delL (c + q) fs).length < fs.length := List.length_filter_lt_length_iff_exists.2 ⟨f, hf, by simp [hn]⟩
    omega
theorem back_bulk (s : DS) (ks : List (Int × Int)) : bulkS (s.back ks) ≤ bulkS s ∧ (s.back ks).fs.length ≤ s.fs.length := by
  have h0 := used_back 0 ks s.fs
  have h1 := used_back 1 ks s.fs
  refine ⟨?_, List.length_filterMap_le _ _⟩
  unfold bulkS
  show 64 * (usedL 0 (s.fs.filterMap (backF ks)) + usedL 1 (s.fs.filterMap (backF ks))) ≤ _
  omega
theorem armed_arm (n : Int) (hn : n ≤ 9223372036854775807) : Armed n ((DS.new 5000 5000).arm n) := by
  by_cases h : n < 0
  · refine .inl ⟨h, ?_, rfl⟩
    show max n (-1) = -1
    omega
  · refine .inr (.inl ⟨by omega, rfl, ?_, ?_⟩)
    · show max n (-1) = n - ((0 : Nat) : Int)
      omega
    · show 0 ≤ max n (-1)
      omega
end Go.Proofs.Ytgmfcjmbapmagaa
