/- Rows of the call's own: what is left of each. -/
import Derived.Test.YtbjokbnmfbfkjaaMergeOpen
set_option linter.unusedVariables false
set_option maxRecDepth 100000
namespace Go.Proofs.Ytbjokbnmfbfkjaa
open Go.RowKit

def rcells (Rs : List Rw) : List Value := Rs.flatMap Rw.vals
theorem rcells_len : ∀ R : List Rw, (rcells R).length = R.length * 2
  | [] => rfl
  | x :: R => by
    show (x.vals ++ rcells R).length = _
    rw [List.length_append, rcells_len R]
    simp [Rw.vals]
    omega
theorem rcells_append (R S : List Rw) : rcells (R ++ S) = rcells R ++ rcells S := List.flatMap_append
theorem rcells_at : ∀ (R : List Rw) (i q : Nat) (x : Rw), q < 2 → R[i]? = some x → (rcells R)[i * 2 + q]? = x.vals[q]?
  | [], i, q, x, _, h => by cases h
  | z :: R, 0, q, x, hq, h => by
    injection h with h
    subst h
    show (z.vals ++ rcells R)[0 * 2 + q]? = _
    rw [List.getElem?_append_left (by simp [Rw.vals]; omega)]
    simp
  | z :: R, i + 1, q, x, hq, h => by
    show (z.vals ++ rcells R)[(i + 1) * 2 + q]? = _
    rw [List.getElem?_append_right (by simp [Rw.vals]; omega), ← rcells_at R i q x hq h]
    congr 1
    simp [Rw.vals]
    omega
/-- A row of rows of the call's own. -/
def OwnR (w : World) (B : Nat) (v : Value) (R : List Rw) : Prop := OffRow w B 24 2 v R.length (rcells R)
theorem OwnR.slice {w : World} {B : Nat} {v : Value} {R : List Rw} (h : OwnR w B v R) : ∃ a cap, v = .slice a R.length cap := OffRow.slice h
theorem OwnR.nil (w : World) (B : Nat) : OwnR w B (.slice none 0 0) [] := OffRow.nil _ _ _ _
theorem OwnR.only {w w' : World} {B : Nat} {v : Value} {R : List Rw} {S : Nat → Prop} (h : OwnR w B v R) (k : Only S w w') (hS : ∀ j, v.ownBlock = some j → ¬ S j) : OwnR w' B v R := OffRow.kept h fun j hj => k.block j (OffRow.lt h j hj).2 (hS j hj)
theorem OwnR.get {w : World} {B : Nat} {a : Option Addr} {n cap : Nat} {R : List Rw} (h : OwnR w B (.slice a n cap) R) {k : Nat} {x : Rw} (hx : R[k]? = some x) :
    ∃ g off, a = some ⟨g, off, none⟩ ∧ B ≤ g ∧ w.cell? ⟨g, off + k * 2, none⟩ = some (.slice x.a x.len x.cap) ∧ w.cell? ⟨g, off + k * 2 + 1, none⟩ = some (.int .i64 x.e) ∧ (∀ j, w.frozen? ⟨g, j, none⟩ = false) ∧ ∃ cur, w.heap[g]? = some (.cells cur 24 (0, 0)) := by
  have hk : k < R.length := (List.getElem?_eq_some_iff.1 hx).1
  obtain ⟨g, off, cp, cur, e1, hB, hg, hc⟩ := OffRow.form h (by omega)
  injection e1 with e1 _ _
  have hq := fun q (hq : q < 2) => (hc (k * 2 + q) (by omega)).trans (rcells_at R k q x hq hx)
  exact ⟨g, off, e1, hB, hq 0 (by omega), by have := hq 1 (by omega); rwa [← Nat.add_assoc] at this, fun j => by simp [World.frozen?, hg], cur, hg⟩
/-- One row's list is another one. -/
theorem OwnR.set {w : World} {B : Nat} {g off n cap : Nat} {R : List Rw} (h : OwnR w B (.slice (some ⟨g, off, none⟩) n cap) R) {k : Nat} {x : Rw} (hx : R[k]? = some x) (a : Option Addr) (len c : Nat) (T : List Ent) :
    OwnR (w.setCell ⟨g, off + k * 2, none⟩ (.slice a len c)) B (.slice (some ⟨g, off, none⟩) n cap) (R.set k ⟨a, len, c, T, x.e⟩) := by
  have hk : k < R.length := (List.getElem?_eq_some_iff.1 hx).1
  rcases h.2 with ⟨h0, _⟩ | ⟨g2, off2, cap2, cur2, h0, hB2, hg2, h1, h2, h3, h4⟩
  · cases h0
  · injection h0 with e2 e3 e4
    injection e2 with e2
    injection e2 with e2 e5
    subst e2 e4 e5
    have s1 := heap_set (o := off + k * 2) hg2 (.slice a len c)
    refine ⟨by rw [rcells_len], .inr ⟨g, off, cap, _, by rw [List.length_set, e3], hB2, s1, by rw [List.length_set]; exact h1, h2, by simp only [Array.size_setIfInBounds]; exact h3, fun j hj => ?_⟩⟩
    rw [List.length_set] at hj
    obtain ⟨i, q, hq, rfl⟩ : ∃ i q, q < 2 ∧ j = i * 2 + q := ⟨j / 2, j % 2, by omega, by omega⟩
    have hi : i < R.length := by omega
    obtain ⟨y, hy⟩ : ∃ y, (R.set k ⟨a, len, c, T, x.e⟩)[i]? = some y := ⟨_, List.getElem?_eq_getElem (by rw [List.length_set]; exact hi)⟩
    rw [rcells_at _ i q y hq hy]
    simp only [Array.getElem?_setIfInBounds, Array.size_setIfInBounds]
    by_cases hik : i = k
    · subst hik
      rw [List.getElem?_set_self hk] at hy
      injection hy with hy
      subst hy
      match q, hq with
      | 0, _ => rw [if_pos (by omega), if_pos (by omega)]; rfl
      | 1, _ =>
        rw [if_neg (by omega), h4 _ hj, rcells_at R i 1 x (by omega) hx]
        rfl
    · rw [List.getElem?_set_ne (Ne.symm hik)] at hy
      rw [if_neg (by omega), h4 _ hj, rcells_at R i q y hq hy]
/-- What is left of the rows: each list in a row of its own, whose block is below M. -/
def EachAt (w : World) (B M : Nat) (R : List Rw) : Prop := ∀ r ∈ R, OwnE w B (.slice r.a r.len r.cap) r.T ∧ r.len = r.T.length ∧ ∀ j, (Value.slice r.a r.len r.cap).ownBlock = some j → j < M
theorem EachAt.only {w w' : World} {B M : Nat} {R : List Rw} {S : Nat → Prop} (h : EachAt w B M R) (k : Only S w w') (hS : ∀ r ∈ R, ∀ j, (Value.slice r.a r.len r.cap).ownBlock = some j → ¬ S j) : EachAt w' B M R :=
  fun r hr => ⟨(h r hr).1.only k (hS r hr), (h r hr).2⟩
/-- A block of rows is none of entries. -/
theorem EachAt.tag {w : World} {B M : Nat} {R : List Rw} (h : EachAt w B M R) {g : Nat} {cur : Array Value} (hg : w.heap[g]? = some (.cells cur 24 (0, 0))) : ∀ r ∈ R, ∀ j, (Value.slice r.a r.len r.cap).ownBlock = some j → j ≠ g := fun r hr j hj e => by
  obtain ⟨c, hc⟩ := OffRow.tag (h r hr).1 hj
  rw [e, hg] at hc
  injection hc with hc
  injection hc with _ hc
  exact absurd hc (by decide)
def pairs (R : List Rw) : List (List Ent × Int) := R.map fun r => (r.T, r.e)
theorem pairs_get {R : List Rw} {k : Nat} {r : Rw} (h : R[k]? = some r) : (pairs R).drop k = (r.T, r.e) :: (pairs R).drop (k + 1) := by
  have hk := (List.getElem?_eq_some_iff.1 h).1
  rw [List.drop_eq_getElem_cons (by unfold pairs; simpa using hk)]
  rw [List.getElem?_eq_getElem hk] at h
  injection h with h
  simp [pairs, h]
theorem pairs_len (R : List Rw) : (pairs R).length = R.length := by simp [pairs]
/-- The rows ahead of place i have passed the key over. -/
def Passed (R0 R : List Rw) (key : List UInt8) (i : Nat) : Prop := pairs R = passP key ((pairs R0).take i) ++ (pairs R0).drop i
theorem passed_zero (R : List Rw) (key : List UInt8) : Passed R R key 0 := by simp [Passed, passP]
theorem passed_len {R0 R : List Rw} {key : List UInt8} {i : Nat} (h : Passed R0 R key i) : R.length = R0.length := by
  have := congrArg List.length h
  rw [pairs_len, List.length_append] at this
  simp only [passP, List.length_map, List.length_take, List.length_drop, pairs_len] at this
  omega
theorem passed_get {R0 R : List Rw} {key : List UInt8} {i : Nat} {r r0 : Rw} (h : Passed R0 R key i) (hr : R[i]? = some r) (hr0 : R0[i]? = some r0) : (r.T, r.e) = (r0.T, r0.e) := by
  have hl := passed_len h
  have hi := (List.getElem?_eq_some_iff.1 hr).1
  have h1 : (pairs R)[i]? = some (r.T, r.e) := by simp [pairs, hr]
  have h2 : (passP key ((pairs R0).take i)).length = i := by simp [passP, pairs]; omega
  rw [h, List.getElem?_append_right (by omega), h2, Nat.sub_self, List.getElem?_drop, Nat.add_zero] at h1
  have h3 : (pairs R0)[i]? = some (r0.T, r0.e) := by simp [pairs, hr0]
  rw [h3] at h1
  injection h1 with h1
  exact h1.symm
theorem passed_next {R0 R : List Rw} {key : List UInt8} {i : Nat} {r0 : Rw} (h : Passed R0 R key i) (hr0 : R0[i]? = some r0) {r' : Rw} (hr' : (r'.T, r'.e) = (passL key r0.T, r0.e)) : Passed R0 (R.set i r') key (i + 1) := by
  have hi := (List.getElem?_eq_some_iff.1 hr0).1
  have hl := passed_len h
  unfold Passed at h ⊢
  have h1 : pairs (R.set i r') = (pairs R).set i (r'.T, r'.e) := by simp [pairs, List.map_set]
  have h2 : (passP key ((pairs R0).take i)).length = i := by simp [passP, pairs]; omega
  rw [h1, h, hr', pairs_get hr0]
  rw [List.set_append_right _ _ (by omega), h2, Nat.sub_self, List.set_cons_zero]
  rw [List.take_add_one, show (pairs R0)[i]? = some (r0.T, r0.e) by simp [pairs, hr0]]
  simp [passP]
theorem set_self' {α : Type} {l : List α} {i : Nat} {x : α} (h : l[i]? = some x) : l.set i x = l := by
  apply List.ext_getElem?
  intro j
  rw [List.getElem?_set]
  split
  · rename_i e
    subst e
    rw [if_pos (List.getElem?_eq_some_iff.1 h).1, h]
  · rfl
theorem passed_end {R0 R : List Rw} {key : List UInt8} {i : Nat} (h : Passed R0 R key i) (hi : R0.length ≤ i) : pairs R = passP key (pairs R0) := by
  unfold Passed at h
  rw [List.take_of_length_le (by rw [pairs_len]; exact hi), List.drop_eq_nil_of_le (by rw [pairs_len]; exact hi), List.append_nil] at h
  exact h
def lenOf : Value → Nat
  | .slice _ n _ => n
  | _ => 0
/-- What loop 3 knows of the best one. -/
def BestAt (R : List Rw) (i : Nat) (bv : Int) (best : Option Ent) : Prop := (bv = -1 ∧ best = none) ∨ ∃ (b : Nat) (r : Rw) (x : Ent) (t : List Ent), bv = (b : Int) ∧ b < i ∧ R[b]? = some r ∧ r.T = x :: t ∧ best = some x
end Go.Proofs.Ytbjokbnmfbfkjaa
