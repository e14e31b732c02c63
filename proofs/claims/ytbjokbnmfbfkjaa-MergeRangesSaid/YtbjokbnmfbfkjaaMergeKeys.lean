/- Rows merged, in plain words: each key once, from the first row that has it; so in parts they are what they are at once. -/
import Derived.Test.YtbjokbnmfbfkjaaMergePlain
set_option linter.unusedVariables false
namespace Go.Proofs.Ytbjokbnmfbfkjaa

theorem ltB_ne {a b : List UInt8} (h : ltB a b = true) : a ≠ b := by
  rintro rfl
  rw [ltB_irrefl] at h
  cases h
/-- What a row has under a key. -/
def findK (key : List UInt8) (l : List Ent) : Option Ent := l.find? fun x => decide (x.key = key)
/-- What the first row has that has it. -/
def firstP (key : List UInt8) (ps : List (List Ent × Int)) : Option Ent := ps.findSome? fun p => findK key p.1
theorem findK_key {key : List UInt8} {l : List Ent} {x : Ent} (h : findK key l = some x) : x.key = key := by
  have := List.find?_some h
  simpa using this
theorem findK_mem {key : List UInt8} {l : List Ent} {x : Ent} (h : findK key l = some x) : x ∈ l := List.mem_of_find?_eq_some h
theorem rises_all {x : Ent} {t : List Ent} (h : rises (x :: t)) : ∀ y ∈ t, ltB x.key y.key = true := h.1
theorem rises_tail {x : Ent} {t : List Ent} (h : rises (x :: t)) : rises t := h.2
theorem rises_cons {x : Ent} {t : List Ent} (h : rises t) (hx : ∀ y ∈ t, ltB x.key y.key = true) : rises (x :: t) := ⟨hx, h⟩
theorem passL_cons (key : List UInt8) (x : Ent) (t : List Ent) : passL key (x :: t) = if x.key = key then t else x :: t := rfl
theorem filter_some (key : List UInt8) (x : Ent) : (some x).filter (fun y : Ent => decide (y.key = key)) = if x.key = key then some x else none := by
  by_cases e : x.key = key <;> simp [Option.filter, e]
theorem findK_none {key : List UInt8} {l : List Ent} (h : ∀ y ∈ l, y.key ≠ key) : findK key l = none := by
  unfold findK
  rw [List.find?_eq_none]
  intro y hy
  simpa using h y hy
theorem findK_cons (key : List UInt8) (x : Ent) (t : List Ent) : findK key (x :: t) = if x.key = key then some x else findK key t := by
  unfold findK
  rw [List.find?_cons]
  by_cases h : x.key = key <;> simp [h]
/-- Rising rows that have the same under each key are one. -/
theorem rises_ext : ∀ {l m : List Ent}, rises l → rises m → (∀ key, findK key l = findK key m) → l = m
  | [], [], _, _, _ => rfl
  | [], y :: u, _, _, h => by
    have := h y.key
    rw [findK_cons, if_pos rfl] at this
    cases this
  | x :: t, [], _, _, h => by
    have := h x.key
    rw [findK_cons, if_pos rfl] at this
    cases this
  | x :: t, y :: u, hl, hm, h => by
    have hxy : x = y := by
      have h1 := h x.key
      have h2 := h y.key
      rw [findK_cons, findK_cons, if_pos rfl] at h1
      rw [findK_cons, findK_cons, if_pos (rfl : y.key = y.key)] at h2
      by_cases e : y.key = x.key
      · rw [if_pos e] at h1
        injection h1
      · rw [if_neg e] at h1
        rw [if_neg (Ne.symm e)] at h2
        have a := rises_all hm x (findK_mem h1.symm)
        have b := rises_all hl y (findK_mem h2)
        rw [ltB_asymm a] at b
        cases b
    subst hxy
    rw [rises_ext (rises_tail hl) (rises_tail hm) fun key => by
      have h1 := h key
      rw [findK_cons, findK_cons] at h1
      by_cases e : x.key = key
      · rw [findK_none fun y hy e' => ltB_ne (rises_all hl y hy) (e.trans e'.symm), findK_none fun y hy e' => ltB_ne (rises_all hm y hy) (e.trans e'.symm)]
      · rwa [if_neg e, if_neg e] at h1]
/-- The rows rise, and end without an error. -/
def Good (ps : List (List Ent × Int)) : Prop := ∀ p ∈ ps, rises p.1 ∧ p.2 = 0
theorem passL_rises {key : List UInt8} {l : List Ent} (h : rises l) : rises (passL key l) := by
  cases l with
  | nil => exact True.intro
  | cons x t =>
    rw [passL_cons]
    split
    · exact rises_tail h
    · exact h
theorem good_pass {key : List UInt8} {ps : List (List Ent × Int)} (h : Good ps) : Good (passP key ps) := by
  intro p hp
  obtain ⟨q, hq, rfl⟩ := List.mem_map.1 hp
  exact ⟨passL_rises (h q hq).1, (h q hq).2⟩
/-- The entry that comes next is the one of the first row that has its key. -/
theorem least_first : ∀ {ps : List (List Ent × Int)} {best : Option Ent} {x : Ent} {e : Int}, leastGo best ps = (some x, e) →
    (∀ y, best = some y → y.key = x.key → y = x) ∧ ((∀ y, best = some y → y.key ≠ x.key) → (ps.findSome? fun p => p.1.head?.filter fun y => decide (y.key = x.key)) = some x)
  | [], best, x, e, h => by
    simp only [leastGo, Prod.mk.injEq] at h
    obtain ⟨rfl, _⟩ := h
    exact ⟨fun y hy _ => (by injection hy with hy; exact hy.symm), fun hn => absurd rfl (hn x rfl)⟩
  | ([], d) :: ps, best, x, e, h => by
    unfold leastGo at h
    split at h
    · obtain ⟨h1, h2⟩ := least_first h
      exact ⟨h1, fun hn => by rw [List.findSome?_cons]; exact h2 hn⟩
    · cases h
  | (z :: t, d) :: ps, best, x, e, h => by
    unfold leastGo at h
    obtain ⟨h1, h2⟩ := least_first h
    have hmin := (least_min h).2
    by_cases hb : better best z = true
    · rw [if_pos hb] at h1 h2 hmin
      refine ⟨fun y hy e' => ?_, fun hn => ?_⟩
      · subst hy
        simp only [better] at hb
        have := hmin z rfl
        rw [e'] at hb
        rw [hb] at this
        cases this
      · by_cases ez : z.key = x.key
        · have := h1 z rfl ez
          subst this
          rw [List.findSome?_cons, List.head?_cons, filter_some, if_pos rfl]
        · have := h2 fun y hy => by injection hy with hy; rw [← hy]; exact ez
          rw [List.findSome?_cons, List.head?_cons, filter_some, if_neg ez]
          exact this
    · rw [if_neg hb] at h1 h2 hmin
      refine ⟨h1, fun hn => ?_⟩
      have hz : z.key ≠ x.key := by
        intro ez
        cases best with
        | none => exact hb rfl
        | some y =>
          simp only [better, Bool.not_eq_true] at hb
          have h3 := hmin y rfl
          rw [ez] at hb
          rcases ltB_total y.key x.key with g | g | g
          · rw [h3] at g; cases g
          · exact hn y rfl g
          · rw [hb] at g; cases g
      rw [List.findSome?_cons, List.head?_cons, filter_some, if_neg hz]
      exact h2 hn
/-- In a rising row none of whose keys is below, what stands under a key is its first entry, or nothing. -/
theorem findK_head {key : List UInt8} {l : List Ent} (h : rises l) (hm : ∀ y, l.head? = some y → ltB y.key key = false) : findK key l = l.head?.filter fun y => decide (y.key = key) := by
  cases l with
  | nil => rfl
  | cons x t =>
    rw [findK_cons]
    rw [List.head?_cons, filter_some]
    by_cases e : x.key = key
    · rw [if_pos e, if_pos e]
    · rw [if_neg e, if_neg e, findK_none]
      · intro y hy e'
        have h1 := rises_all h y hy
        rw [e', hm x rfl] at h1
        cases h1
theorem pass_above {key : List UInt8} {l : List Ent} (h : rises l) (hm : ∀ y, l.head? = some y → ltB y.key key = false) : ∀ y ∈ passL key l, ltB key y.key = true := by
  cases l with
  | nil => intro y hy; simp [passL] at hy
  | cons x t =>
    intro y hy
    rw [passL_cons] at hy
    split at hy
    · rename_i e
      rw [← e]
      exact rises_all h y hy
    · rename_i e
      have hx : ltB key x.key = true := by
        rcases ltB_total key x.key with g | g | g
        · exact g
        · exact absurd g.symm e
        · rw [hm x rfl] at g; cases g
      rcases List.mem_cons.1 hy with rfl | hy
      · exact hx
      · exact ltB_trans hx (rises_all h y hy)
theorem pass_find {key k : List UInt8} {l : List Ent} (h : k ≠ key) : findK key (passL k l) = findK key l := by
  cases l with
  | nil => rfl
  | cons x t =>
    rw [passL_cons]
    split
    · rename_i e
      rw [findK_cons, if_neg (by rw [e]; exact h)]
    · rfl
theorem firstP_pass {key k : List UInt8} (h : k ≠ key) : ∀ ps : List (List Ent × Int), firstP key (passP k ps) = firstP key ps
  | [] => rfl
  | p :: ps => by
    have ih := firstP_pass h ps
    unfold firstP at ih ⊢
    simp only [passP, List.map_cons, List.findSome?_cons, pass_find h]
    rw [show List.map (fun p => (passL k p.1, p.2)) ps = passP k ps from rfl, ih]
theorem firstP_none {key : List UInt8} {ps : List (List Ent × Int)} (h : ∀ p ∈ ps, p.1 = []) : firstP key ps = none := by
  unfold firstP
  rw [List.findSome?_eq_none_iff]
  intro p hp
  rw [h p hp]
  rfl
theorem firstP_mem {key : List UInt8} {ps : List (List Ent × Int)} {x : Ent} (h : firstP key ps = some x) : ∃ p ∈ ps, x ∈ p.1 ∧ x.key = key := by
  obtain ⟨p, hp, hx⟩ := List.exists_of_findSome?_eq_some h
  exact ⟨p, hp, findK_mem hx, findK_key hx⟩
theorem good_least {ps : List (List Ent × Int)} (h : Good ps) : (leastGo none ps).2 = 0 := by
  suffices ∀ (ps : List (List Ent × Int)) (b : Option Ent), Good ps → (leastGo b ps).2 = 0 from this ps none h
  intro ps
  induction ps with
  | nil => intro b _; rfl
  | cons p ps ih =>
    intro b h
    obtain ⟨l, d⟩ := p
    have hd : d = 0 := (h _ List.mem_cons_self).2
    have hr : Good ps := fun q hq => h q (List.mem_cons_of_mem _ hq)
    cases l with
    | nil =>
      unfold leastGo
      rw [if_pos hd]
      exact ih b hr
    | cons x t =>
      unfold leastGo
      exact ih _ hr
theorem mergeP_good : ∀ (n : Nat) (ps : List (List Ent × Int)), total ps ≤ n → Good ps → (mergeP ps).2 = 0 ∧ rises (mergeP ps).1 ∧ ∀ key, findK key (mergeP ps).1 = firstP key ps := by
  intro n
  induction n with
  | zero =>
    intro ps hn hg
    cases hl : leastGo none ps with
    | mk r e =>
      have he := good_least hg
      rw [hl] at he
      simp only at he
      subst he
      cases r with
      | some x => have := least_pos hl; omega
      | none =>
        rw [mergeP_none hl]
        refine ⟨rfl, True.intro, fun key => ?_⟩
        rw [firstP_none fun p hp => by rw [(least_none hl).2 p hp]]
        rfl
  | succ n ih =>
    intro ps hn hg
    cases hl : leastGo none ps with
    | mk r e =>
      have he := good_least hg
      rw [hl] at he
      simp only at he
      subst he
      cases r with
      | none =>
        rw [mergeP_none hl]
        refine ⟨rfl, True.intro, fun key => ?_⟩
        rw [firstP_none fun p hp => by rw [(least_none hl).2 p hp]]
        rfl
      | some x =>
        have hp := least_pos hl
        obtain ⟨i1, i2, i3⟩ := ih (passP x.key ps) (by omega) (good_pass hg)
        have hmin := (least_min hl).1
        rw [mergeP_some hl]
        refine ⟨i1, rises_cons i2 fun y hy => ?_, fun key => ?_⟩
        · obtain ⟨y', hy'⟩ : ∃ y', findK y.key (mergeP (passP x.key ps)).1 = some y' := by
            cases h : findK y.key (mergeP (passP x.key ps)).1 with
            | some z => exact ⟨z, rfl⟩
            | none =>
              unfold findK at h
              rw [List.find?_eq_none] at h
              exact absurd (by simp) (h y hy)
          rw [i3] at hy'
          obtain ⟨p, hp, hm, hk⟩ := firstP_mem hy'
          obtain ⟨q, hq, rfl⟩ := List.mem_map.1 hp
          rw [← hk]
          exact pass_above (hg q hq).1 (fun z hz => hmin q hq z hz) y' hm
        · show findK key (x :: (mergeP (passP x.key ps)).1) = _
          rw [findK_cons]
          by_cases e : x.key = key
          · subst e
            rw [if_pos rfl]
            have h1 := (least_first hl).2 fun y hy => by cases hy
            rw [← h1]
            unfold firstP
            have : ∀ (qs : List (List Ent × Int)), (∀ q ∈ qs, q ∈ ps) → (qs.findSome? fun p => p.1.head?.filter fun y => decide (y.key = x.key)) = qs.findSome? fun p => findK x.key p.1 := by
              intro qs
              induction qs with
              | nil => intro _; rfl
              | cons q qs ihq =>
                intro hq
                rw [List.findSome?_cons, List.findSome?_cons, findK_head (hg q (hq q List.mem_cons_self)).1 (fun z hz => hmin q (hq q List.mem_cons_self) z hz), ihq fun r hr => hq r (List.mem_cons_of_mem _ hr)]
            exact this ps fun q hq => hq
          · rw [if_neg e, i3, firstP_pass e]
theorem good_merge {ps : List (List Ent × Int)} (h : Good ps) : (mergeP ps).2 = 0 ∧ rises (mergeP ps).1 ∧ ∀ key, findK key (mergeP ps).1 = firstP key ps := mergeP_good _ ps (Nat.le_refl _) h
theorem merge_eq {ps qs : List (List Ent × Int)} (h : Good ps) (k : Good qs) (e : ∀ key, firstP key ps = firstP key qs) : mergeP ps = mergeP qs := by
  obtain ⟨a1, a2, a3⟩ := good_merge h
  obtain ⟨b1, b2, b3⟩ := good_merge k
  exact Prod.ext (rises_ext a2 b2 fun key => by rw [a3, b3, e]) (a1.trans b1.symm)
theorem firstP_cons (key : List UInt8) (p : List Ent × Int) (ps : List (List Ent × Int)) : firstP key (p :: ps) = (findK key p.1).or (firstP key ps) := by
  unfold firstP
  rw [List.findSome?_cons]
  cases findK key p.1 <;> rfl
theorem firstP_append (key : List UInt8) (ps qs : List (List Ent × Int)) : firstP key (ps ++ qs) = (firstP key ps).or (firstP key qs) := by
  unfold firstP
  rw [List.findSome?_append]
theorem good_append {ps qs : List (List Ent × Int)} (h : Good ps) (k : Good qs) : Good (ps ++ qs) := fun p hp => (List.mem_append.1 hp).elim (h p) (k p)
/-- IN PARTS THEY ARE WHAT THEY ARE AT ONCE. -/
theorem merge_parts {ps qs : List (List Ent × Int)} (h : Good ps) (k : Good qs) : mergeP [([], 0), mergeP ps, ([], 0), mergeP qs] = mergeP (ps ++ qs) := by
  obtain ⟨a1, a2, a3⟩ := good_merge h
  obtain ⟨b1, b2, b3⟩ := good_merge k
  refine merge_eq (fun p hp => ?_) (good_append h k) fun key => ?_
  · simp only [List.mem_cons, List.not_mem_nil, or_false] at hp
    rcases hp with rfl | rfl | rfl | rfl
    · exact ⟨True.intro, rfl⟩
    · exact ⟨a2, a1⟩
    · exact ⟨True.intro, rfl⟩
    · exact ⟨b2, b1⟩
  · rw [firstP_append, firstP_cons, firstP_cons, firstP_cons, firstP_cons, a3, b3]
    show (none : Option Ent).or ((firstP key ps).or ((none : Option Ent).or ((firstP key qs).or none))) = _
    simp
/-- Merged with themselves they are as they were. -/
theorem merge_twice {ps : List (List Ent × Int)} (h : Good ps) : mergeP (ps ++ ps) = mergeP ps :=
  merge_eq (good_append h h) h fun key => by rw [firstP_append]; cases firstP key ps <;> rfl
theorem told_rises (e : Int) : ∀ {R : List Ent} (k : Option (List UInt8)), rises R → (∀ x, R.head? = some x → stops k x = false) → toldP e k R = (R, e)
  | [], _, _, _ => rfl
  | x :: t, k, h, hs => by
    unfold toldP
    rw [hs x rfl]
    have := told_rises e (some x.key) (rises_tail h) fun y hy => by
      simp only [stops]
      cases t with
      | nil => cases hy
      | cons z u =>
        injection hy with hy
        subst hy
        rw [h.1 z List.mem_cons_self]
        rfl
    rw [this]
    rfl
theorem told_rising {R : List Ent} (e : Int) (h : rises R) : toldP e none R = (R, e) := told_rises e none h fun x _ => rfl
end Go.Proofs.Ytbjokbnmfbfkjaa
