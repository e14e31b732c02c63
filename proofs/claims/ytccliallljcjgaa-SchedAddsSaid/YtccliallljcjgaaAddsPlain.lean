/- SchedAdds in plain words: tasks that add to one cell, what holds of them at every pick, and a count that falls with each. -/
import Derived.Test.YtccliallljcjgaaAwake
set_option linter.unusedVariables false
namespace Go.Proofs.Ytccliallljcjgaa
open Go.RowKit

/-- A task: how many it has left to add, what it has seen, whether its next step sets the cell. -/
structure AT where
  l : Nat
  seen : Int
  set : Bool
def sumL : List AT → Nat
  | [] => 0
  | x :: r => x.l + sumL r
def gA (v : Int) (x : AT) : Nat := if x.l = 0 then 0 else if x.set then (if x.seen = v then 1 else 3) else 2
def sumG (v : Int) : List AT → Nat
  | [] => 0
  | x :: r => gA v x + sumG v r
/-- The count. -/
def cntA (v : Int) (ts : List AT) : Nat := 20 * sumL ts + sumG v ts
theorem sumL_set : ∀ {ts : List AT} {i : Nat} {x : AT} (y : AT), ts[i]? = some x → sumL (ts.set i y) + x.l = sumL ts + y.l
  | [], i, x, y, h => by simp at h
  | z :: r, 0, x, y, h => by
    simp at h
    subst h
    simp [sumL]
    omega
  | z :: r, i + 1, x, y, h => by
    have := sumL_set (ts := r) (i := i) y (by simpa using h)
    simp only [List.set_cons_succ, sumL]
    omega
theorem sumG_set : ∀ {v : Int} {ts : List AT} {i : Nat} {x : AT} (y : AT), ts[i]? = some x → sumG v (ts.set i y) + gA v x = sumG v ts + gA v y
  | v, [], i, x, y, h => by simp at h
  | v, z :: r, 0, x, y, h => by
    simp at h
    subst h
    simp [sumG]
    omega
  | v, z :: r, i + 1, x, y, h => by
    have := sumG_set (v := v) (ts := r) (i := i) y (by simpa using h)
    simp only [List.set_cons_succ, sumG]
    omega
theorem gA_le (v : Int) (x : AT) : gA v x ≤ 3 := by
  unfold gA
  repeat (first | split | omega)
theorem gA_up (v : Int) (x : AT) : gA (v + 1) x ≤ gA v x + 2 := by
  unfold gA
  repeat (first | split | omega)
theorem sumG_up (v : Int) : ∀ ts : List AT, sumG (v + 1) ts ≤ sumG v ts + 2 * ts.length
  | [] => by simp [sumG]
  | x :: r => by
    have := gA_up v x
    have := sumG_up v r
    simp only [sumG, List.length_cons]
    omega
structure AInv (sw : Bool) (want v h : Int) (ts : List AT) : Prop where
  sum : v + sumL ts = want
  v0 : 0 ≤ v
  w1 : want ≤ 160
  len : ts.length ≤ 8
  l20 : ∀ x ∈ ts, x.l ≤ 20
  dn : ∀ x ∈ ts, x.l = 0 → x.set = false
  sn : ∀ x ∈ ts, 0 ≤ x.seen ∧ x.seen ≤ v
  ml : (sw = true ∧ h = -1) ∨ (sw = false ∧ ((h = -1 ∧ ∀ x ∈ ts, x.set = false) ∨ ∃ (i : Nat) (x : AT), h = (i : Int) ∧ ts[i]? = some x ∧ x.set = true ∧ x.seen = v ∧ ∀ (j : Nat) (y : AT), j ≠ i → ts[j]? = some y → y.set = false))
theorem mem_set {ts : List AT} {i : Nat} {x y z : AT} (hx : ts[i]? = some x) (h : z ∈ ts.set i y) : z ∈ ts ∨ z = y := List.mem_or_eq_of_mem_set h
namespace AInv
variable {sw : Bool} {want v h : Int} {ts : List AT} {i : Nat} {x : AT}
theorem left_le (k : AInv sw want v h ts) (hx : ts[i]? = some x) : x.l ≤ sumL ts := by
  have := sumL_set ⟨0, 0, false⟩ hx
  simp at this
  omega
/-- A task reads the cell. -/
theorem load (k : AInv sw want v h ts) (hx : ts[i]? = some x) (hl : 0 < x.l) (hs : x.set = false) (hr : sw = true ∨ h = -1) :
    AInv sw want v (if sw then -1 else (i : Int)) (ts.set i { x with seen := v, set := true }) ∧ cntA v (ts.set i { x with seen := v, set := true }) + 1 ≤ cntA v ts := by
  have hm := List.mem_of_getElem? hx
  refine ⟨⟨?_, k.v0, k.w1, by simpa using k.len, fun z hz => ?_, fun z hz h0 => ?_, fun z hz => ?_, ?_⟩, ?_⟩
  · have := sumL_set { x with seen := v, set := true } hx
    have := k.sum
    simp only at *
    omega
  · rcases mem_set hx hz with hz | rfl
    · exact k.l20 z hz
    · exact k.l20 x hm
  · rcases mem_set hx hz with hz | rfl
    · exact k.dn z hz h0
    · simp only at h0; omega
  · rcases mem_set hx hz with hz | rfl
    · exact k.sn z hz
    · exact ⟨k.v0, Int.le_refl _⟩
  · rcases k.ml with ⟨e, _⟩ | ⟨e, hh⟩
    · exact .inl ⟨e, by rw [e]; rfl⟩
    · have hh1 : h = -1 := by rcases hr with x | x; (rw [e] at x; cases x); (exact x)
      have hno : ∀ z ∈ ts, z.set = false := by
        rcases hh with ⟨_, x⟩ | ⟨j, y, e2, _⟩
        · exact x
        · omega
      have hi : i < ts.length := (List.getElem?_eq_some_iff.1 hx).1
      refine .inr ⟨e, .inr ⟨i, { x with seen := v, set := true }, by rw [e]; rfl, by rw [List.getElem?_set, if_pos rfl, if_pos hi], rfl, rfl, fun j y hj hy => ?_⟩⟩
      rw [List.getElem?_set_ne (Ne.symm hj)] at hy
      exact hno y (List.mem_of_getElem? hy)
  · have h1 := sumL_set { x with seen := v, set := true } hx
    have h2 := sumG_set (v := v) { x with seen := v, set := true } hx
    have h3 : gA v x = 2 := by unfold gA; rw [if_neg (by omega), hs]; rfl
    have h4 : gA v { x with seen := v, set := true } = 1 := by
      unfold gA
      simp only
      rw [if_neg (by omega)]
      simp
    simp only at h1
    rw [h3, h4] at h2
    unfold cntA
    omega
/-- A task adds one. -/
theorem add (k : AInv sw want v h ts) (hx : ts[i]? = some x) (hl : 0 < x.l) (hs : x.set = true) (hv : x.seen = v) (hr : sw = false → h = (i : Int)) :
    AInv sw want (v + 1) (-1) (ts.set i ⟨x.l - 1, v, false⟩) ∧ cntA (v + 1) (ts.set i ⟨x.l - 1, v, false⟩) + 1 ≤ cntA v ts := by
  have hm := List.mem_of_getElem? hx
  refine ⟨⟨?_, by have := k.v0; omega, k.w1, by simpa using k.len, fun z hz => ?_, fun z hz h0 => ?_, fun z hz => ?_, ?_⟩, ?_⟩
  · have := sumL_set ⟨x.l - 1, v, false⟩ hx
    have := k.sum
    simp only at *
    omega
  · rcases mem_set hx hz with hz | rfl
    · exact k.l20 z hz
    · have := k.l20 x hm
      simp only
      omega
  · rcases mem_set hx hz with hz | rfl
    · exact k.dn z hz h0
    · rfl
  · rcases mem_set hx hz with hz | rfl
    · have := k.sn z hz
      omega
    · have := k.v0
      simp only
      omega
  · rcases k.ml with ⟨e, _⟩ | ⟨e, hh⟩
    · exact .inl ⟨e, rfl⟩
    · refine .inr ⟨e, .inl ⟨rfl, fun z hz => ?_⟩⟩
      rcases hh with ⟨_, x⟩ | ⟨j, y, e2, hy, _, _, hno⟩
      · rcases mem_set hx hz with hz | rfl
        · exact x z hz
        · rfl
      · have hji : j = i := by have := hr e; omega
        subst hji
        obtain ⟨n, hn, rfl⟩ := List.mem_iff_getElem.1 hz
        by_cases hne : n = j
        · subst hne
          simp
        · rw [List.getElem_set_ne (Ne.symm hne)]
          exact hno n _ hne (List.getElem?_eq_getElem _)
  · have h1 := sumL_set ⟨x.l - 1, v, false⟩ hx
    have h2 := sumG_set (v := v + 1) ⟨x.l - 1, v, false⟩ hx
    have h3 := sumG_up v ts
    have h4 := gA_le (v + 1) ⟨x.l - 1, v, false⟩
    have h5 := k.len
    simp only at h1
    unfold cntA
    omega
/-- A task's swap fails. -/
theorem miss (k : AInv true want v h ts) (hx : ts[i]? = some x) (hl : 0 < x.l) (hs : x.set = true) (hv : x.seen ≠ v) :
    AInv true want v (-1) (ts.set i { x with set := false }) ∧ cntA v (ts.set i { x with set := false }) + 1 ≤ cntA v ts := by
  have hm := List.mem_of_getElem? hx
  refine ⟨⟨?_, k.v0, k.w1, by simpa using k.len, fun z hz => ?_, fun z hz h0 => ?_, fun z hz => ?_, .inl ⟨rfl, rfl⟩⟩, ?_⟩
  · have := sumL_set { x with set := false } hx
    have := k.sum
    simp only at *
    omega
  · rcases mem_set hx hz with hz | rfl
    · exact k.l20 z hz
    · exact k.l20 x hm
  · rcases mem_set hx hz with hz | rfl
    · exact k.dn z hz h0
    · rfl
  · rcases mem_set hx hz with hz | rfl
    · exact k.sn z hz
    · exact k.sn x hm
  · have h1 := sumL_set { x with set := false } hx
    have h2 := sumG_set (v := v) { x with set := false } hx
    have h3 : gA v x = 3 := by unfold gA; rw [if_neg (by omega), hs, if_neg hv]; rfl
    have h4 : gA v { x with set := false } = 2 := by
      unfold gA
      simp only
      rw [if_neg (by omega)]
      rfl
    simp only at h1
    rw [h3, h4] at h2
    unfold cntA
    omega
/-- Who is ready. -/
def rdy (sw : Bool) (h : Int) (x : AT) : Bool := decide (0 < x.l) && (sw || x.set || decide (h = -1))
/-- While a task is left one is ready; when none is ready all has been added, and nobody has the mutex. -/
theorem none_left (k : AInv sw want v h ts) (hn : ∀ x ∈ ts, rdy sw h x = false) : v = want ∧ h = -1 := by
  have h0 : ∀ x ∈ ts, x.l = 0 := by
    intro x hx
    apply Classical.byContradiction
    intro hl
    have hr := hn x hx
    rcases k.ml with ⟨e, _⟩ | ⟨e, ⟨eh, _⟩ | ⟨j, y, eh, hy, hs, _, _⟩⟩
    · simp [rdy, e] at hr
      omega
    · simp [rdy, eh] at hr
      omega
    · have hym := List.mem_of_getElem? hy
      have hry := hn y hym
      simp [rdy, hs] at hry
      have := k.dn y hym (by omega)
      rw [hs] at this
      cases this
  have hz : sumL ts = 0 := by
    have : ∀ l : List AT, (∀ x ∈ l, x.l = 0) → sumL l = 0 := fun l => by
      induction l with
      | nil => intro _; rfl
      | cons x r ih =>
        intro hh
        simp only [sumL]
        rw [hh x (by simp), ih fun y hy => hh y (by simp [hy])]
    exact this ts h0
  refine ⟨by have := k.sum; omega, ?_⟩
  rcases k.ml with ⟨_, e⟩ | ⟨_, ⟨e, _⟩ | ⟨j, y, _, hy, hs, _, _⟩⟩
  · exact e
  · exact e
  · have := k.dn y (List.mem_of_getElem? hy) (h0 y (List.mem_of_getElem? hy))
    rw [hs] at this
    cases this
end AInv
end Go.Proofs.Ytccliallljcjgaa
