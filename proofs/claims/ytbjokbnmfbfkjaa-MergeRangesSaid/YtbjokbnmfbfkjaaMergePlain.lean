/- Rows of entries in plain words: what a cursor tells of a row, rows merged, one key passed over. -/
import Derived.Test.YtbjokbnmfbfkjaaBlockOrder
set_option linter.unusedVariables false
namespace Go.Proofs.Ytbjokbnmfbfkjaa

/-- Does a row end ahead of this entry, behind that key? -/
def stops (last : Option (List UInt8)) (x : Ent) : Bool := match last with
  | none => false
  | some k => !ltB k x.key
/-- What is told of a row that has an error at its end. -/
def toldP (err : Int) : Option (List UInt8) → List Ent → List Ent × Int
  | _, [] => ([], err)
  | last, x :: T => if stops last x then ([], 3) else (x :: (toldP err (some x.key) T).1, (toldP err (some x.key) T).2)
def better (best : Option Ent) (x : Ent) : Bool := match best with
  | none => true
  | some y => ltB x.key y.key
/-- The entry with the least key of those that come next, and the first error. -/
def leastGo : Option Ent → List (List Ent × Int) → Option Ent × Int
  | best, [] => (best, 0)
  | best, ([], e) :: ps => if e = 0 then leastGo best ps else (none, e)
  | best, (x :: _, _) :: ps => leastGo (if better best x then some x else best) ps
/-- The row without its first entry, if that has this key. -/
def passL (key : List UInt8) : List Ent → List Ent
  | [] => []
  | x :: t => if x.key = key then t else x :: t
def passP (key : List UInt8) (ps : List (List Ent × Int)) : List (List Ent × Int) := ps.map fun p => (passL key p.1, p.2)
def total (ps : List (List Ent × Int)) : Nat := (ps.map fun p => p.1.length).sum
def mergeN : Nat → List (List Ent × Int) → List Ent × Int
  | 0, ps => ([], (leastGo none ps).2)
  | n + 1, ps => match leastGo none ps with
    | (none, e) => ([], e)
    | (some x, _) => (x :: (mergeN n (passP x.key ps)).1, (mergeN n (passP x.key ps)).2)
/-- Rows as one. -/
def mergeP (ps : List (List Ent × Int)) : List Ent × Int := mergeN (total ps) ps
/-- Without what is gone. -/
def liveL (l : List Ent) : List Ent := l.filter fun x => !x.gone

theorem least_some : ∀ {ps : List (List Ent × Int)} {best : Option Ent} {x : Ent} {e : Int}, leastGo best ps = (some x, e) → e = 0 ∧ (best = some x ∨ ∃ p ∈ ps, p.1.head? = some x)
  | [], best, x, e, h => by
    simp only [leastGo, Prod.mk.injEq] at h
    exact ⟨h.2.symm, .inl h.1⟩
  | ([], d) :: ps, best, x, e, h => by
    unfold leastGo at h
    split at h
    · obtain ⟨a, b⟩ := least_some h
      exact ⟨a, b.imp_right fun ⟨p, hp, hx⟩ => ⟨p, List.mem_cons_of_mem _ hp, hx⟩⟩
    · cases h
  | (y :: t, d) :: ps, best, x, e, h => by
    unfold leastGo at h
    obtain ⟨a, b⟩ := least_some h
    refine ⟨a, ?_⟩
    rcases b with b | ⟨p, hp, hx⟩
    · split at b
      · exact .inr ⟨_, List.mem_cons_self, b⟩
      · exact .inl b
    · exact .inr ⟨p, List.mem_cons_of_mem _ hp, hx⟩
theorem least_ends : ∀ {ps : List (List Ent × Int)} {best r : Option Ent}, leastGo best ps = (r, 0) → ∀ p ∈ ps, p.1 = [] → p.2 = 0
  | [], best, r, h, p, hp, _ => by cases hp
  | ([], d) :: ps, best, r, h, p, hp, h0 => by
    unfold leastGo at h
    split at h
    · rename_i hd
      rcases List.mem_cons.1 hp with rfl | hp
      · exact hd
      · exact least_ends h p hp h0
    · rename_i hd
      injection h with _ h
      exact absurd h hd
  | (y :: t, d) :: ps, best, r, h, p, hp, h0 => by
    unfold leastGo at h
    rcases List.mem_cons.1 hp with rfl | hp
    · cases h0
    · exact least_ends h p hp h0
theorem ltB_le_trans {a b c : List UInt8} (h1 : ltB b a = false) (h2 : ltB c b = false) : ltB c a = false := by
  cases h : ltB c a with
  | false => rfl
  | true =>
    rcases ltB_total a b with e | e | e
    · rw [ltB_trans h e] at h2; cases h2
    · subst e; rw [h] at h2; cases h2
    · rw [e] at h1; cases h1
theorem least_min : ∀ {ps : List (List Ent × Int)} {best : Option Ent} {x : Ent} {e : Int}, leastGo best ps = (some x, e) → (∀ p ∈ ps, ∀ y, p.1.head? = some y → ltB y.key x.key = false) ∧ (∀ y, best = some y → ltB y.key x.key = false)
  | [], best, x, e, h => by
    simp only [leastGo, Prod.mk.injEq] at h
    refine ⟨fun p hp => by (cases hp), fun y hy => ?_⟩
    rw [h.1] at hy
    injection hy with hy
    rw [hy]
    exact ltB_irrefl _
  | ([], d) :: ps, best, x, e, h => by
    unfold leastGo at h
    split at h
    · obtain ⟨a, b⟩ := least_min h
      refine ⟨fun p hp y hy => ?_, b⟩
      rcases List.mem_cons.1 hp with rfl | hp
      · cases hy
      · exact a p hp y hy
    · cases h
  | (z :: t, d) :: ps, best, x, e, h => by
    unfold leastGo at h
    obtain ⟨a, b⟩ := least_min h
    by_cases hb : better best z = true
    · rw [if_pos hb] at b
      have hz := b z rfl
      refine ⟨fun p hp y hy => ?_, fun y hy => ?_⟩
      · rcases List.mem_cons.1 hp with rfl | hp
        · injection hy with hy
          rw [← hy]; exact hz
        · exact a p hp y hy
      · subst hy
        simp only [better] at hb
        exact ltB_le_trans hz (ltB_asymm hb)
    · rw [if_neg hb] at b
      refine ⟨fun p hp y hy => ?_, b⟩
      rcases List.mem_cons.1 hp with rfl | hp
      · injection hy with hy
        subst hy
        cases best with
        | none => exact absurd rfl hb
        | some u =>
          have hu := b u rfl
          simp only [better, Bool.not_eq_true] at hb
          exact ltB_le_trans hu hb
      · exact a p hp y hy
theorem least_none : ∀ {ps : List (List Ent × Int)} {best : Option Ent}, leastGo best ps = (none, 0) → best = none ∧ ∀ p ∈ ps, p = ([], 0)
  | [], best, h => by
    simp only [leastGo, Prod.mk.injEq] at h
    exact ⟨h.1, fun p hp => by cases hp⟩
  | ([], d) :: ps, best, h => by
    unfold leastGo at h
    split at h
    · rename_i hd
      obtain ⟨a, b⟩ := least_none h
      refine ⟨a, fun p hp => ?_⟩
      rcases List.mem_cons.1 hp with rfl | hp
      · rw [hd]
      · exact b p hp
    · rename_i hd
      injection h with _ h
      exact absurd h hd
  | (y :: t, d) :: ps, best, h => by
    unfold leastGo at h
    obtain ⟨a, _⟩ := least_none h
    split at a
    · cases a
    · rename_i hb
      subst a
      exact absurd rfl hb
theorem passL_le (key : List UInt8) (l : List Ent) : (passL key l).length ≤ l.length := by
  cases l with
  | nil => exact Nat.le_refl _
  | cons x t => simp only [passL]; split <;> simp
theorem pass_total_le (key : List UInt8) : ∀ ps : List (List Ent × Int), total (passP key ps) ≤ total ps
  | [] => Nat.le_refl _
  | p :: ps => by
    have := pass_total_le key ps
    have := passL_le key p.1
    simp only [total, passP, List.map_cons, List.sum_cons] at *
    omega
theorem pass_total_lt {key : List UInt8} {x : Ent} (hk : x.key = key) : ∀ {ps : List (List Ent × Int)}, (∃ p ∈ ps, p.1.head? = some x) → total (passP key ps) < total ps
  | [], ⟨p, hp, _⟩ => by cases hp
  | q :: ps, ⟨p, hp, hx⟩ => by
    have h1 := pass_total_le key ps
    have h2 := passL_le key q.1
    rcases List.mem_cons.1 hp with rfl | hp
    · have h3 : (passL key p.1).length < p.1.length := by
        obtain ⟨l, d⟩ := p
        cases l with
        | nil => cases hx
        | cons y t =>
          injection hx with hx
          subst hx
          simp [passL, hk]
      simp only [total, passP, List.map_cons, List.sum_cons] at *
      omega
    · have h3 := pass_total_lt hk ⟨p, hp, hx⟩
      simp only [total, passP, List.map_cons, List.sum_cons] at *
      omega
theorem least_pos {ps : List (List Ent × Int)} {x : Ent} {e : Int} (h : leastGo none ps = (some x, e)) : total (passP x.key ps) < total ps :=
  pass_total_lt rfl ((least_some h).2.resolve_left (by simp))
theorem merge_fuel : ∀ (n m : Nat) (ps : List (List Ent × Int)), total ps ≤ n → total ps ≤ m → mergeN n ps = mergeN m ps := by
  intro n
  induction n with
  | zero =>
    intro m ps hn hm
    cases hl : leastGo none ps with
    | mk r e =>
      cases r with
      | some x => have := least_pos hl; omega
      | none =>
        cases m with
        | zero => rfl
        | succ m => simp only [mergeN, hl]
  | succ n ih =>
    intro m ps hn hm
    cases hl : leastGo none ps with
    | mk r e =>
      cases r with
      | none =>
        cases m with
        | zero => simp only [mergeN, hl]
        | succ m => simp only [mergeN, hl]
      | some x =>
        have h1 := least_pos hl
        cases m with
        | zero => omega
        | succ m =>
          simp only [mergeN, hl]
          rw [ih m (passP x.key ps) (by omega) (by omega)]
theorem mergeP_none {ps : List (List Ent × Int)} {e : Int} (h : leastGo none ps = (none, e)) : mergeP ps = ([], e) := by
  unfold mergeP
  cases total ps <;> simp only [mergeN, h]
theorem mergeP_some {ps : List (List Ent × Int)} {x : Ent} {e : Int} (h : leastGo none ps = (some x, e)) : mergeP ps = (x :: (mergeP (passP x.key ps)).1, (mergeP (passP x.key ps)).2) := by
  have h1 := least_pos h
  unfold mergeP
  obtain ⟨n, hn⟩ : ∃ n, total ps = n + 1 := ⟨total ps - 1, by omega⟩
  rw [hn]
  simp only [mergeN, h]
  rw [merge_fuel n (total (passP x.key ps)) (passP x.key ps) (by omega) (Nat.le_refl _)]
theorem mergeP_cons {ps : List (List Ent × Int)} {x : Ent} {l : List Ent} {e : Int} (h : mergeP ps = (x :: l, e)) : leastGo none ps = (some x, 0) ∧ mergeP (passP x.key ps) = (l, e) := by
  cases hl : leastGo none ps with
  | mk r d =>
    cases r with
    | none => rw [mergeP_none hl] at h; cases h
    | some y =>
      rw [mergeP_some hl] at h
      injection h with h1 h2
      injection h1 with h1 h3
      subst h1
      exact ⟨by rw [(least_some hl).1], by rw [← h3, ← h2]⟩
theorem mergeP_nil {ps : List (List Ent × Int)} {e : Int} (h : mergeP ps = ([], e)) : leastGo none ps = (none, e) := by
  cases hl : leastGo none ps with
  | mk r d =>
    cases r with
    | none => rw [mergeP_none hl] at h; injection h with _ h; rw [h]
    | some y => rw [mergeP_some hl] at h; cases h
/-- Where the key is below all that come next, nothing is passed over. -/
theorem passL_same {key : List UInt8} {l : List Ent} (h : ∀ x, l.head? = some x → x.key ≠ key) : passL key l = l := by
  cases l with
  | nil => rfl
  | cons x t => simp only [passL]; rw [if_neg (h x rfl)]
theorem passP_same {key : List UInt8} : ∀ {ps : List (List Ent × Int)}, (∀ p ∈ ps, ∀ x, p.1.head? = some x → x.key ≠ key) → passP key ps = ps
  | [], _ => rfl
  | p :: ps, h => by
    show (passL key p.1, p.2) :: passP key ps = p :: ps
    rw [passP_same fun q hq => h q (List.mem_cons_of_mem _ hq), passL_same (h p List.mem_cons_self)]
/-- Passing over a key that is not above what comes next: the parts pass it over. -/
theorem mergeP_pass {ps : List (List Ent × Int)} {l : List Ent} {e : Int} {key : List UInt8} (h : mergeP ps = (l, e)) (h0 : l = [] → e = 0) (hk : ∀ x, l.head? = some x → ltB x.key key = false) :
    mergeP (passP key ps) = (passL key l, e) := by
  cases l with
  | nil =>
    have hl := mergeP_nil h
    rw [h0 rfl] at hl ⊢
    have := (least_none hl).2
    rw [passP_same fun p hp x hx => by rw [this p hp] at hx; cases hx]
    rw [h0 rfl] at h
    exact h
  | cons x t =>
    obtain ⟨hl, hm⟩ := mergeP_cons h
    by_cases hx : x.key = key
    · subst hx
      rw [hm]
      simp [passL]
    · have hlt : ltB key x.key = true := by
        rcases ltB_total key x.key with g | g | g
        · exact g
        · exact absurd g.symm hx
        · rw [hk x rfl] at g; cases g
      rw [passP_same fun p hp y hy e => by
        have := (least_min hl).1 p hp y hy
        rw [e, hlt] at this; cases this]
      rw [h]
      simp [passL, hx]
theorem merge_heads {ps : List (List Ent × Int)} {l : List Ent} {e : Int} {key : List UInt8} (h : mergeP ps = (l, e)) (h0 : l = [] → e = 0) (hk : ∀ x, l.head? = some x → ltB x.key key = false) :
    ∀ p ∈ ps, (p.1 = [] → p.2 = 0) ∧ ∀ y, p.1.head? = some y → ltB y.key key = false := by
  intro p hp
  cases l with
  | nil =>
    have hl := mergeP_nil h
    rw [h0 rfl] at hl
    have := (least_none hl).2 p hp
    rw [this]
    exact ⟨fun _ => rfl, fun y hy => by cases hy⟩
  | cons x t =>
    obtain ⟨hl, hm⟩ := mergeP_cons h
    exact ⟨least_ends hl p hp, fun y hy => ltB_le_trans (hk x rfl) ((least_min hl).1 p hp y hy)⟩
end Go.Proofs.Ytbjokbnmfbfkjaa
