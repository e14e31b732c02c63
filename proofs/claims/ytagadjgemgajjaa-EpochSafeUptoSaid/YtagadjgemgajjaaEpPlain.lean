/- A book in plain words: the time, when who reads in each slot came (0: nobody), the things that wait, each with when it was retired. -/
import Derived.Test.YtagadjgemgajjaaEpRow
set_option linter.unusedVariables false
namespace Go.Proofs.Ytagadjgemgajjaa
open Go.RowKit

structure EB where
  now : Int
  came : List Int
  wait : List (Value × Int)
namespace EB
def enter (s : EB) (slot at_ : Int) : EB × Int :=
  if 0 ≤ slot ∧ slot < s.came.length ∧ 1 ≤ at_ ∧ at_ ≤ s.now then
    if s.came.getD slot.toNat 0 = 0 then ({ s with came := s.came.set slot.toNat at_ }, 0) else (s, 11)
  else (s, 1)
def leave (s : EB) (slot : Int) : EB × Int :=
  if 0 ≤ slot ∧ slot < s.came.length then
    if s.came.getD slot.toNat 0 = 0 then (s, 11) else ({ s with came := s.came.set slot.toNat 0 }, 0)
  else (s, 1)
def stamp (l : List Value) (t : Int) : List (Value × Int) := l.map fun v => (v, t)
def retire (s : EB) (l : List Value) : EB := { s with now := s.now + 1, wait := s.wait ++ stamp l s.now }
def lim : Int → List Int → Int
  | m, [] => m
  | m, x :: r => lim (if x = 0 then m else min m x) r
def limit (s : EB) : Int := lim s.now s.came
/-- How many of the things that wait may go. -/
def gone (L : Int) : List (Value × Int) → Nat
  | [] => 0
  | p :: r => if p.2 < L then gone L r + 1 else 0
def free (s : EB) : EB × List Value := ({ s with wait := s.wait.drop (gone s.limit s.wait) }, (s.wait.take (gone s.limit s.wait)).map (·.1))
def cnt : List Int → Nat
  | [] => 0
  | x :: r => (if x = 0 then 0 else 1) + cnt r
structure Ok (s : EB) : Prop where
  n1 : 1 ≤ s.now
  n2 : s.now ≤ 4611686018427387904
  l1 : 0 < s.came.length
  l2 : s.came.length ≤ 16
  cm : ∀ x ∈ s.came, 0 ≤ x ∧ x ≤ s.now
  one : ∀ p ∈ s.wait, p.1.oneCell' = true
  ats : ∀ p ∈ s.wait, 1 ≤ p.2 ∧ p.2 < s.now
  srt : s.wait.Pairwise fun p q => p.2 ≤ q.2
  few : s.wait.length ≤ 1099511627776
theorem stamp_len (l : List Value) (t : Int) : (stamp l t).length = l.length := by simp [stamp]
theorem lim_le : ∀ (c : List Int) (m : Int), lim m c ≤ m
  | [], m => Int.le_refl _
  | x :: r, m => by
    unfold lim
    have := lim_le r (if x = 0 then m else min m x)
    by_cases hx : x = 0
    · simp only [hx, if_true] at this ⊢; exact this
    · simp only [hx, if_false] at this ⊢; omega
theorem lim_app (c d : List Int) (m : Int) : lim m (c ++ d) = lim (lim m c) d := by
  induction c generalizing m with
  | nil => rfl
  | cons x r ih => exact ih _
theorem gone_le (L : Int) : ∀ l : List (Value × Int), gone L l ≤ l.length
  | [] => Nat.le_refl _
  | p :: r => by
    unfold gone
    have := gone_le L r
    split <;> simp <;> omega
theorem gone_lt {L : Int} : ∀ {l : List (Value × Int)} {k : Nat} (h : k < gone L l), ∃ p, l[k]? = some p ∧ p.2 < L
  | [], k, h => absurd h (by simp [gone])
  | p :: r, k, h => by
    unfold gone at h
    split at h
    · cases k with
      | zero => exact ⟨p, rfl, by assumption⟩
      | succ k => simpa using gone_lt (l := r) (k := k) (by omega)
    · omega
theorem gone_end {L : Int} : ∀ {l : List (Value × Int)} (h : gone L l < l.length), ∃ p, l[gone L l]? = some p ∧ ¬ p.2 < L
  | [], h => absurd h (by simp)
  | p :: r, h => by
    unfold gone at h ⊢
    split
    · rename_i hp
      rw [if_pos hp] at h
      simpa using gone_end (l := r) (by simp at h; omega)
    · exact ⟨p, rfl, by assumption⟩
/-- Where the walk over those that wait is: k have gone, and the next one, if there is one, stays. -/
theorem gone_is {L : Int} : ∀ {l : List (Value × Int)} {k : Nat}, (∀ i, i < k → ∃ p, l[i]? = some p ∧ p.2 < L) → (∀ p, l[k]? = some p → ¬ p.2 < L) → gone L l = k
  | [], k, h1, h2 => by
    cases k with
    | zero => rfl
    | succ k => obtain ⟨p, hp, _⟩ := h1 0 (by omega); simp at hp
  | q :: r, k, h1, h2 => by
    unfold gone
    cases k with
    | zero => rw [if_neg (h2 q rfl)]
    | succ k =>
      obtain ⟨p, hp, hl⟩ := h1 0 (by omega)
      simp at hp
      subst hp
      rw [if_pos hl, gone_is (l := r) (k := k) (fun i hi => by simpa using h1 (i + 1) (by omega)) (fun p hp => h2 p (by simpa using hp))]
theorem cnt_app (c d : List Int) : cnt (c ++ d) = cnt c + cnt d := by
  induction c with
  | nil => simp [cnt]
  | cons x r ih => simp only [List.cons_append, cnt, ih]; omega
theorem cnt_le : ∀ c : List Int, cnt c ≤ c.length
  | [] => Nat.le_refl _
  | x :: r => by
    have := cnt_le r
    simp only [cnt, List.length_cons]
    split <;> omega
namespace Ok
variable {s : EB}
theorem enter (h : s.Ok) (slot at_ : Int) : (s.enter slot at_).1.Ok := by
  unfold EB.enter
  split
  · rename_i h1
    split
    · refine ⟨h.n1, h.n2, by simpa using h.l1, by simpa using h.l2, fun x hx => ?_, h.one, h.ats, h.srt, h.few⟩
      rcases List.mem_or_eq_of_mem_set hx with hx | rfl
      · exact h.cm x hx
      · exact ⟨by omega, h1.2.2.2⟩
    · exact h
  · exact h
theorem leave (h : s.Ok) (slot : Int) : (s.leave slot).1.Ok := by
  unfold EB.leave
  split
  · split
    · exact h
    · refine ⟨h.n1, h.n2, by simpa using h.l1, by simpa using h.l2, fun x hx => ?_, h.one, h.ats, h.srt, h.few⟩
      rcases List.mem_or_eq_of_mem_set hx with hx | rfl
      · exact h.cm x hx
      · exact ⟨Int.le_refl _, by have := h.n1; simp only; omega⟩
  · exact h
theorem retire (h : s.Ok) {l : List Value} (h1 : ∀ v ∈ l, v.oneCell' = true) (h2 : s.wait.length + l.length ≤ 1099511627776) (h3 : s.now < 4611686018427387904) : (s.retire l).Ok := by
  have hn := h.n1
  refine ⟨by show 1 ≤ s.now + 1; omega, by show s.now + 1 ≤ _; omega, h.l1, h.l2, fun x hx => ?_, fun p hp => ?_, fun p hp => ?_, ?_, by simp [EB.retire, stamp]; exact h2⟩
  · have := h.cm x hx
    exact ⟨this.1, by show x ≤ s.now + 1; omega⟩
  · rcases List.mem_append.1 hp with hp | hp
    · exact h.one p hp
    · obtain ⟨v, hv, rfl⟩ := List.mem_map.1 hp
      exact h1 v hv
  · show 1 ≤ p.2 ∧ p.2 < s.now + 1
    rcases List.mem_append.1 hp with hp | hp
    · have := h.ats p hp
      omega
    · obtain ⟨v, hv, rfl⟩ := List.mem_map.1 hp
      simp only
      omega
  · show (s.wait ++ stamp l s.now).Pairwise _
    rw [List.pairwise_append]
    refine ⟨h.srt, ?_, fun p hp q hq => ?_⟩
    · unfold stamp
      rw [List.pairwise_map]
      exact List.Pairwise.imp (R := fun _ _ => True) (fun _ => Int.le_refl _) (List.pairwise_of_forall (fun _ _ => trivial))
    · obtain ⟨v, hv, rfl⟩ := List.mem_map.1 hq
      have := h.ats p hp
      simp only
      omega
theorem free (h : s.Ok) : s.free.1.Ok :=
  ⟨h.n1, h.n2, h.l1, h.l2, h.cm, fun p hp => h.one p (List.mem_of_mem_drop hp), fun p hp => h.ats p (List.mem_of_mem_drop hp), h.srt.drop, by have := h.few; simp [EB.free]; omega⟩
end Ok
/-- The document's words: may somebody look at what was retired then? -/
def seen (s : EB) (t : Int) : Bool := decide (s.now ≤ t) || s.came.any fun x => decide (0 < x ∧ x ≤ t)
theorem lim_gt {t : Int} : ∀ (c : List Int) (m : Int), (∀ x ∈ c, 0 ≤ x) → (t < lim m c ↔ t < m ∧ (c.any fun x => decide (0 < x ∧ x ≤ t)) = false)
  | [], m, _ => by simp [lim]
  | x :: r, m, h => by
    have hx := h x (by simp)
    unfold lim
    rw [lim_gt r _ (fun y hy => h y (by simp [hy])), List.any_cons, Bool.or_eq_false_iff, decide_eq_false_iff_not]
    constructor
    · rintro ⟨h1, h2⟩
      refine ⟨?_, ?_, h2⟩
      · split at h1 <;> omega
      · split at h1 <;> omega
    · rintro ⟨h1, h2, h3⟩
      refine ⟨?_, h3⟩
      split <;> omega
theorem seen_iff {s : EB} (h : s.Ok) (t : Int) : s.seen t = false ↔ t < s.limit := by
  unfold seen limit
  rw [lim_gt s.came s.now (fun x hx => (h.cm x hx).1), Bool.or_eq_false_iff, decide_eq_false_iff_not]
  constructor <;> rintro ⟨h1, h2⟩ <;> exact ⟨by omega, h2⟩
theorem filter_gone {L : Int} : ∀ (l : List (Value × Int)), l.Pairwise (fun p q => p.2 ≤ q.2) → l.filter (fun p => decide (p.2 < L)) = l.take (gone L l) ∧ l.filter (fun p => !decide (p.2 < L)) = l.drop (gone L l)
  | [], _ => by simp
  | p :: r, h => by
    obtain ⟨h1, h2⟩ := List.pairwise_cons.1 h
    obtain ⟨a, b⟩ := filter_gone r h2
    unfold gone
    by_cases hp : p.2 < L
    · simp only [List.filter_cons, decide_eq_true hp, if_true, Bool.not_true, Bool.false_eq_true, if_false, if_pos hp, List.take_succ_cons, List.drop_succ_cons]
      exact ⟨by rw [a], b⟩
    · rw [if_neg hp]
      refine ⟨?_, ?_⟩
      · rw [List.filter_eq_nil_iff.2 (fun q hq => ?_)]
        · rfl
        · rcases List.mem_cons.1 hq with rfl | hq
          · simp; omega
          · have := h1 q hq
            simp; omega
      · rw [List.drop_zero, List.filter_eq_self.2 (fun q hq => ?_)]
        rcases List.mem_cons.1 hq with rfl | hq
        · simp; omega
        · have := h1 q hq
          simp; omega
end EB
/-- The cells of things that wait. -/
def cellsOf : List (Value × Int) → List Value
  | [] => []
  | p :: r => p.1 :: .int .i64 p.2 :: cellsOf r
theorem cellsOf_len : ∀ l : List (Value × Int), (cellsOf l).length = l.length * 2
  | [] => rfl
  | p :: r => by simp [cellsOf, cellsOf_len r]; omega
theorem cellsOf_app (l m : List (Value × Int)) : cellsOf (l ++ m) = cellsOf l ++ cellsOf m := by
  induction l with
  | nil => rfl
  | cons p r ih => simp [cellsOf, ih]
theorem cellsOf_drop : ∀ (l : List (Value × Int)) (g : Nat), (cellsOf l).drop (g * 2) = cellsOf (l.drop g)
  | l, 0 => by simp
  | [], g + 1 => by simp [cellsOf]
  | p :: r, g + 1 => by
    rw [show (g + 1) * 2 = g * 2 + 2 by omega]
    simp only [cellsOf, List.drop_succ_cons]
    exact cellsOf_drop r g
theorem cellsOf_get : ∀ {l : List (Value × Int)} {k : Nat} {p : Value × Int}, l[k]? = some p → (cellsOf l)[k * 2]? = some p.1 ∧ (cellsOf l)[k * 2 + 1]? = some (.int .i64 p.2)
  | [], k, p, h => by simp at h
  | q :: r, 0, p, h => by
    simp at h
    subst h
    simp [cellsOf]
  | q :: r, k + 1, p, h => by
    have := cellsOf_get (l := r) (k := k) (by simpa using h)
    rw [show (k + 1) * 2 = k * 2 + 2 by omega]
    simpa [cellsOf] using this
end Go.Proofs.Ytagadjgemgajjaa
