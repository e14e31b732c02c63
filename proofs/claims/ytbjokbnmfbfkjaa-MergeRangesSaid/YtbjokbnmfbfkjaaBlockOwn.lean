/- Rows of entries of the call's own: what stands in them, one entry overwritten, one more. -/
import Derived.Test.YtbjokbnmfbfkjaaBlockMem
set_option linter.unusedVariables false
set_option maxRecDepth 100000
set_option maxRecDepth 100000
namespace Go.Proofs.Ytbjokbnmfbfkjaa
open Go.RowKit

def ecells (R : List Ent) : List Value := R.flatMap Ent.vals
theorem ecells_len : ∀ R : List Ent, (ecells R).length = R.length * 3
  | [] => rfl
  | x :: R => by
    show (x.vals ++ ecells R).length = _
    rw [List.length_append, ecells_len R]
    simp [Ent.vals]
    omega
theorem ecells_append (R S : List Ent) : ecells (R ++ S) = ecells R ++ ecells S := List.flatMap_append
theorem ecells_at : ∀ (R : List Ent) (i q : Nat) (x : Ent), q < 3 → R[i]? = some x → (ecells R)[i * 3 + q]? = x.vals[q]?
  | [], i, q, x, _, h => by cases h
  | z :: R, 0, q, x, hq, h => by
    injection h with h
    subst h
    show (z.vals ++ ecells R)[0 * 3 + q]? = _
    rw [List.getElem?_append_left (by simp [Ent.vals]; omega)]
    simp
  | z :: R, i + 1, q, x, hq, h => by
    show (z.vals ++ ecells R)[(i + 1) * 3 + q]? = _
    rw [List.getElem?_append_right (by simp [Ent.vals]; omega), ← ecells_at R i q x hq h]
    congr 1
    simp [Ent.vals]
    omega
/-- A row of entries of the call's own. -/
def OwnE (w : World) (B : Nat) (v : Value) (R : List Ent) : Prop := OffRow w B 32 3 v R.length (ecells R)
theorem OwnE.ent {w : World} {B : Nat} {a : Option Addr} {n cap : Nat} {R : List Ent} (h : OwnE w B (.slice a n cap) R) {k : Nat} {x : Ent} (hx : R[k]? = some x) :
    ∃ g off, a = some ⟨g, off, none⟩ ∧ B ≤ g ∧ CellE g (off + k * 3) x w := by
  have hk : k < R.length := (List.getElem?_eq_some_iff.1 hx).1
  obtain ⟨g, off, cp, cur, e1, hB, hg, hc⟩ := OffRow.form h (by omega)
  injection e1 with e1 _ _
  have hq := fun q (hq : q < 3) => (hc (k * 3 + q) (by omega)).trans (ecells_at R k q x hq hx)
  exact ⟨g, off, e1, hB, heap_lt hg, hq 0 (by omega), by have := hq 1 (by omega); rwa [← Nat.add_assoc] at this, by have := hq 2 (by omega); rwa [← Nat.add_assoc] at this⟩
theorem OwnE.is {w : World} {B : Nat} {a : Option Addr} {n cap : Nat} {R : List Ent} (h : OwnE w B (.slice a n cap) R) (hn : n = R.length) : IsE w a n R := by
  cases R with
  | nil => subst hn; exact IsE.nil _ _
  | cons y R =>
    obtain ⟨g, off, ha, _, _⟩ := h.ent (k := 0) (x := y) rfl
    refine ⟨hn, g, off, .inr ha, fun k hk => ?_⟩
    obtain ⟨g', off', ha', _, hc⟩ := h.ent (List.getElem?_eq_getElem hk)
    rw [ha] at ha'
    injection ha' with ha'
    injection ha' with e1 e2
    rw [e1, e2]
    exact hc
theorem OwnE.below {w w' : World} {B : Nat} {v : Value} {R : List Ent} (h : OwnE w B v R) (k : Below w.heap.size w w') : OwnE w' B v R := OffRow.kept h fun j hj => k.block j (OffRow.lt h j hj).2
theorem OwnE.len_cap {w : World} {B : Nat} {a : Option Addr} {n cap : Nat} {R : List Ent} (h : OwnE w B (.slice a n cap) R) : R.length ≤ cap := by
  rcases h.2 with ⟨h1, h2⟩ | ⟨g, off, c, cur, h1, _, _, h3, _⟩
  · omega
  · injection h1 with _ _ h1
    rw [h1]; exact h3
theorem OwnE.nil (w : World) (B : Nat) : OwnE w B (.slice none 0 0) [] := OffRow.nil _ _ _ _
theorem OwnE.slice {w : World} {B : Nat} {v : Value} {R : List Ent} (h : OwnE w B v R) : ∃ a cap, v = .slice a R.length cap := OffRow.slice h
/-- Where an entry stands it may be overwritten. -/
theorem OwnE.room {w : World} {B : Nat} {g off n cap : Nat} {R : List Ent} (h : OwnE w B (.slice (some ⟨g, off, none⟩) n cap) R) : (∃ cur, w.heap[g]? = some (.cells cur 32 (0, 0))) ∧ ∀ j, w.frozen? ⟨g, j, none⟩ = false := by
  obtain ⟨cur, hc⟩ := OffRow.tag h (k := g) rfl
  exact ⟨⟨cur, hc⟩, fun j => by simp [World.frozen?, hc]⟩
theorem OwnE.set {w : World} {B : Nat} {g off n cap : Nat} {R : List Ent} (h : OwnE w B (.slice (some ⟨g, off, none⟩) n cap) R) {k : Nat} (hk : k < R.length) (x : Ent) :
    OwnE (((w.setCell ⟨g, off + k * 3, none⟩ (.string (bs x.key))).setCell ⟨g, off + k * 3 + 1, none⟩ (.string (bs x.val))).setCell ⟨g, off + k * 3 + 2, none⟩ (.bool x.gone)) B (.slice (some ⟨g, off, none⟩) n cap) (R.set k x) := by
  rcases OffRow.form h (by omega) with ⟨g', off', cp, cur, e1, hB, hg, hc⟩
  rcases h.2 with ⟨h0, _⟩ | ⟨g2, off2, cap2, cur2, h0, hB2, hg2, h1, h2, h3, h4⟩
  · cases h0
  · injection h0 with e2 e3 e4
    injection e2 with e2
    injection e2 with e2 e5
    subst e2 e4 e5
    have s1 := heap_set (o := off + k * 3) hg2 (.string (bs x.key))
    have s2 := heap_set (o := off + k * 3 + 1) s1 (.string (bs x.val))
    have s3 := heap_set (o := off + k * 3 + 2) s2 (.bool x.gone)
    have hle : k * 3 + 3 ≤ cap * 3 := by omega
    refine ⟨by rw [ecells_len], .inr ⟨g, off, cap, _, by rw [List.length_set, e3], hB2, s3, by rw [List.length_set]; exact h1, h2, by simp only [Array.size_setIfInBounds]; exact h3, fun j hj => ?_⟩⟩
    rw [List.length_set] at hj
    obtain ⟨i, q, hq, rfl⟩ : ∃ i q, q < 3 ∧ j = i * 3 + q := ⟨j / 3, j % 3, by omega, by omega⟩
    have hi : i < R.length := by omega
    obtain ⟨y, hy⟩ : ∃ y, (R.set k x)[i]? = some y := ⟨_, List.getElem?_eq_getElem (by rw [List.length_set]; exact hi)⟩
    rw [ecells_at (R.set k x) i q y hq hy]
    simp only [Array.getElem?_setIfInBounds, Array.size_setIfInBounds]
    by_cases hik : i = k
    · subst hik
      rw [List.getElem?_set_self hk] at hy
      injection hy with hy
      subst hy
      match q, hq with
      | 0, _ => rw [if_neg (by omega), if_neg (by omega), if_pos (by omega), if_pos (by omega)]; rfl
      | 1, _ => rw [if_neg (by omega), if_pos (by omega), if_pos (by omega)]; rfl
      | 2, _ => rw [if_pos (by omega), if_pos (by omega)]; rfl
    · rw [List.getElem?_set_ne (Ne.symm hik)] at hy
      rw [if_neg (by omega), if_neg (by omega), if_neg (by omega), h4 _ hj, ecells_at R i q y hq hy]
theorem below_put3 {B g : Nat} {a w : World} (h : Below B a w) (hB : B ≤ g) (o1 o2 o3 : Nat) (v1 v2 v3 : Value) : Below B a (((w.setCell ⟨g, o1, none⟩ v1).setCell ⟨g, o2, none⟩ v2).setCell ⟨g, o3, none⟩ v3) :=
  ((h.setCell (p := ⟨g, o1, none⟩) hB v1).setCell (p := ⟨g, o2, none⟩) hB v2).setCell (p := ⟨g, o3, none⟩) hB v3
/-- The place is the first one that isn't below. -/
theorem place_first {key : List UInt8} : ∀ {R : List Ent} {p : Nat}, p ≤ R.length → (∀ j y, j < p → R[j]? = some y → ltB y.key key = true) → (∀ y, R[p]? = some y → ltB y.key key = false) → place key R = p
  | [], p, h, _, _ => by simp at h; subst h; rfl
  | z :: R, 0, _, _, h => by rw [place_cons, h z rfl]; rfl
  | z :: R, p + 1, hp, h1, h2 => by
    rw [place_cons, h1 0 z (by omega) rfl, if_pos rfl, place_first (by simpa using hp) (fun j y hj hy => h1 (j + 1) y (by omega) hy) (fun y hy => h2 y hy)]
/-- One entry moved up. -/
theorem shift_step {R : List Ent} {z y : Ent} {k : Nat} (hk : 0 < k) (hkl : k ≤ R.length) (hy : R[k - 1]? = some y) : ((R ++ [z]).take (k + 1) ++ R.drop k).set k y = (R ++ [z]).take k ++ R.drop (k - 1) := by
  apply List.ext_getElem?
  intro j
  have hl : ((R ++ [z]).take (k + 1)).length = k + 1 := by simp; omega
  have hl2 : ((R ++ [z]).take k).length = k := by simp; omega
  rw [List.getElem?_set]
  by_cases hj : k = j
  · subst hj
    rw [if_pos rfl, if_pos (by rw [List.length_append, hl]; omega), List.getElem?_append_right (by omega), hl2, Nat.sub_self, List.getElem?_drop, Nat.add_zero, hy]
  · rw [if_neg hj]
    rcases Nat.lt_or_ge j k with h | h
    · rw [List.getElem?_append_left (by omega), List.getElem?_append_left (by omega), List.getElem?_take, List.getElem?_take, if_pos (by omega), if_pos h]
    · rw [List.getElem?_append_right (by omega), List.getElem?_append_right (by omega), hl, hl2, List.getElem?_drop, List.getElem?_drop]
      congr 1
      omega
theorem shift_end {R : List Ent} {z x : Ent} {k : Nat} (hkl : k ≤ R.length) : ((R ++ [z]).take (k + 1) ++ R.drop k).set k x = R.take k ++ x :: R.drop k := by
  apply List.ext_getElem?
  intro j
  have hl : ((R ++ [z]).take (k + 1)).length = k + 1 := by simp; omega
  have hl2 : (R.take k).length = k := by simp; omega
  rw [List.getElem?_set]
  by_cases hj : k = j
  · subst hj
    rw [if_pos rfl, if_pos (by rw [List.length_append, hl]; omega), List.getElem?_append_right (by omega), hl2, Nat.sub_self]
    rfl
  · rw [if_neg hj]
    rcases Nat.lt_or_ge j k with h | h
    · rw [List.getElem?_append_left (by omega), List.getElem?_append_left (by omega), List.getElem?_take, List.getElem?_take, if_pos (by omega), if_pos h, List.getElem?_append_left (by omega)]
    · rw [List.getElem?_append_right (by omega), List.getElem?_append_right (by omega), hl, hl2]
      obtain ⟨m, rfl⟩ : ∃ m, j = k + 1 + m := ⟨j - k - 1, by omega⟩
      rw [show k + 1 + m - (k + 1) = m by omega, show k + 1 + m - k = m + 1 by omega, List.getElem?_cons_succ]
end Go.Proofs.Ytbjokbnmfbfkjaa
