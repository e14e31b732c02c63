/- Maps in plain words: trees of keys; what is put and taken away; how high they are. -/
import Derived.Test.YtbmihajbdobgbaaBlockOrder
set_option linter.unusedVariables false
set_option maxRecDepth 100000
namespace Go.Proofs.Ytbmihajbdobgbaa

/-- A tree of keys: the block in which its node lies, the key, the value, the two sides. -/
inductive Tr (α : Type) where
  | nil : Tr α
  | node (b : Nat) (k : List UInt8) (x : α) (l r : Tr α) : Tr α
namespace Tr
variable {α : Type}
def ht : Tr α → Nat
  | nil => 0
  | node _ _ _ l r => 1 + max l.ht r.ht
def sz : Tr α → Nat
  | nil => 0
  | node _ _ _ l r => 1 + l.sz + r.sz
def prs : Tr α → List (List UInt8 × α)
  | nil => []
  | node _ k x l r => l.prs ++ (k, x) :: r.prs
def avl : Tr α → Prop
  | nil => True
  | node _ _ _ l r => (l.ht ≤ r.ht + 1 ∧ r.ht ≤ l.ht + 1) ∧ l.avl ∧ r.avl
theorem sz_prs : ∀ t : Tr α, t.sz = t.prs.length
  | nil => rfl
  | node b k x l r => by
    simp only [sz, prs, List.length_append, List.length_cons, sz_prs l, sz_prs r]
    omega
theorem ht_le : ∀ t : Tr α, t.ht ≤ t.sz
  | nil => Nat.le_refl _
  | node b k x l r => by
    have := ht_le l
    have := ht_le r
    simp only [ht, sz]
    omega
theorem ht_zero : ∀ t : Tr α, t.ht = 0 ↔ t.sz = 0
  | nil => by simp [ht, sz]
  | node b k x l r => by simp only [ht, sz]; omega
end Tr
/-- By rising keys. -/
def ris {α : Type} (L : List (List UInt8 × α)) : Prop := L.Pairwise fun a b => ltB a.1 b.1 = true
theorem ris_mid {α : Type} {A B : List (List UInt8 × α)} {k : List UInt8} {x : α} (h : ris (A ++ (k, x) :: B)) :
    ris A ∧ ris B ∧ (∀ y ∈ A, ltB y.1 k = true) ∧ (∀ y ∈ B, ltB k y.1 = true) := by
  obtain ⟨h1, h2, h3⟩ := List.pairwise_append.1 h
  obtain ⟨h4, h5⟩ := List.pairwise_cons.1 h2
  exact ⟨h1, h5, fun y hy => h3 y hy (k, x) (by simp), fun y hy => h4 y hy⟩
section plain
variable {α : Type}
/-- The list with this value. -/
def putP (k : List UInt8) (x : α) : List (List UInt8 × α) → List (List UInt8 × α)
  | [] => [(k, x)]
  | y :: L => if ltB y.1 k = true then y :: putP k x L else if y.1 = k then (k, x) :: L else (k, x) :: y :: L
/-- The list without the key. -/
def delP (k : List UInt8) (L : List (List UInt8 × α)) : List (List UInt8 × α) := L.filter fun y => decide (y.1 ≠ k)
/-- What is told from a key on. -/
def fromP (k : List UInt8) (L : List (List UInt8 × α)) : List (List UInt8 × α) := L.filter fun y => !ltB y.1 k
/-- A key's value. -/
def getP (k : List UInt8) : List (List UInt8 × α) → Option α
  | [] => none
  | y :: L => if y.1 = k then some y.2 else getP k L

theorem ltB_ne {a b : List UInt8} (h : ltB a b = true) : a ≠ b := by
  rintro rfl
  rw [ltB_irrefl] at h
  cases h
theorem putP_low {k k0 : List UInt8} {x x0 : α} {B : List (List UInt8 × α)} (h : ltB k k0 = true) : ∀ A : List (List UInt8 × α), putP k x (A ++ (k0, x0) :: B) = putP k x A ++ (k0, x0) :: B
  | [] => by simp [putP, ltB_asymm h, (ltB_ne h).symm]
  | y :: A => by
    simp only [List.cons_append, putP, putP_low h A]
    split
    · rfl
    · split <;> rfl
theorem putP_high {k k0 : List UInt8} {x x0 : α} {B : List (List UInt8 × α)} (h : ltB k0 k = true) : ∀ {A : List (List UInt8 × α)}, (∀ y ∈ A, ltB y.1 k0 = true) → putP k x (A ++ (k0, x0) :: B) = A ++ (k0, x0) :: putP k x B
  | [], _ => by simp [putP, h]
  | y :: A, hA => by
    have h1 := ltB_trans (hA y (by simp)) h
    simp only [List.cons_append, putP, h1, if_true, putP_high h (fun z hz => hA z (List.mem_cons_of_mem _ hz))]
theorem putP_same {k : List UInt8} {x x0 : α} {B : List (List UInt8 × α)} : ∀ {A : List (List UInt8 × α)}, (∀ y ∈ A, ltB y.1 k = true) → putP k x (A ++ (k, x0) :: B) = A ++ (k, x) :: B
  | [], _ => by simp [putP, ltB_irrefl]
  | y :: A, hA => by
    have h1 := hA y (by simp)
    simp only [List.cons_append, putP, h1, if_true, putP_same (fun z hz => hA z (List.mem_cons_of_mem _ hz))]
theorem putP_mem {k : List UInt8} {x : α} {z : List UInt8 × α} : ∀ {L : List (List UInt8 × α)}, z ∈ putP k x L → z = (k, x) ∨ z ∈ L
  | [], h => by simp [putP] at h; exact .inl h
  | y :: L, h => by
    simp only [putP] at h
    split at h
    · rcases List.mem_cons.1 h with e | e
      · exact .inr (by simp [e])
      · rcases putP_mem e with e | e
        · exact .inl e
        · exact .inr (by simp [e])
    · split at h
      · rcases List.mem_cons.1 h with e | e
        · exact .inl e
        · exact .inr (by simp [e])
      · rcases List.mem_cons.1 h with e | e
        · exact .inl e
        · exact .inr e
theorem putP_ris {k : List UInt8} {x : α} : ∀ {L : List (List UInt8 × α)}, ris L → ris (putP k x L)
  | [], _ => by simp [putP, ris]
  | y :: L, h => by
    obtain ⟨h1, h2⟩ := List.pairwise_cons.1 h
    simp only [putP]
    split
    · rename_i hy
      refine List.pairwise_cons.2 ⟨fun z hz => ?_, putP_ris h2⟩
      rcases putP_mem hz with rfl | hz
      · exact hy
      · exact h1 z hz
    · rename_i hy
      split
      · rename_i e
        exact List.pairwise_cons.2 ⟨fun z hz => by rw [← e]; exact h1 z hz, h2⟩
      · rename_i e
        have hk : ltB k y.1 = true := by
          rcases ltB_total y.1 k with a | a | a
          · exact absurd a hy
          · exact absurd a e
          · exact a
        refine List.pairwise_cons.2 ⟨fun z hz => ?_, h⟩
        rcases List.mem_cons.1 hz with rfl | hz
        · exact hk
        · exact ltB_trans hk (h1 z hz)
theorem putP_len (k : List UInt8) (x : α) : ∀ L : List (List UInt8 × α), (putP k x L).length ≤ L.length + 1 ∧ L.length ≤ (putP k x L).length
  | [] => by simp [putP]
  | y :: L => by
    have := putP_len k x L
    simp only [putP]
    split
    · simp; omega
    · split <;> simp
theorem delP_ris {k : List UInt8} {L : List (List UInt8 × α)} (h : ris L) : ris (delP k L) := List.Pairwise.filter _ h
theorem delP_none {k : List UInt8} {L : List (List UInt8 × α)} (h : ∀ y ∈ L, y.1 ≠ k) : delP k L = L := List.filter_eq_self.2 fun y hy => decide_eq_true (h y hy)
theorem delP_mid {k k0 : List UInt8} {x0 : α} {A B : List (List UInt8 × α)} : delP k (A ++ (k0, x0) :: B) = delP k A ++ (if k0 = k then delP k B else (k0, x0) :: delP k B) := by
  unfold delP
  rw [List.filter_append, List.filter_cons]
  by_cases h : k0 = k <;> simp [h]
theorem delP_low {k k0 : List UInt8} {x0 : α} {A B : List (List UInt8 × α)} (h : ltB k k0 = true) (hB : ∀ y ∈ B, ltB k0 y.1 = true) : delP k (A ++ (k0, x0) :: B) = delP k A ++ (k0, x0) :: B := by
  rw [delP_mid, if_neg (ltB_ne h).symm, delP_none fun y hy => (ltB_ne (ltB_trans h (hB y hy))).symm]
theorem delP_high {k k0 : List UInt8} {x0 : α} {A B : List (List UInt8 × α)} (h : ltB k0 k = true) (hA : ∀ y ∈ A, ltB y.1 k0 = true) : delP k (A ++ (k0, x0) :: B) = A ++ (k0, x0) :: delP k B := by
  rw [delP_mid, if_neg (ltB_ne h), delP_none fun y hy => ltB_ne (ltB_trans (hA y hy) h)]
theorem delP_same {k : List UInt8} {x0 : α} {A B : List (List UInt8 × α)} (hA : ∀ y ∈ A, ltB y.1 k = true) (hB : ∀ y ∈ B, ltB k y.1 = true) : delP k (A ++ (k, x0) :: B) = A ++ B := by
  rw [delP_mid, if_pos rfl, delP_none fun y hy => ltB_ne (hA y hy), delP_none fun y hy => (ltB_ne (hB y hy)).symm]
theorem delP_len (k : List UInt8) (L : List (List UInt8 × α)) : (delP k L).length ≤ L.length := List.length_filter_le _ _
theorem getP_none {k : List UInt8} : ∀ {L : List (List UInt8 × α)}, getP k L = none ↔ ∀ y ∈ L, y.1 ≠ k
  | [] => by simp [getP]
  | y :: L => by
    simp only [getP]
    by_cases h : y.1 = k
    · simp [h]
    · rw [if_neg h, getP_none (L := L)]
      simp [h]
theorem getP_skip {k : List UInt8} {B : List (List UInt8 × α)} : ∀ {A : List (List UInt8 × α)}, (∀ y ∈ A, y.1 ≠ k) → getP k (A ++ B) = getP k B
  | [], _ => rfl
  | y :: A, h => by
    have := h y (by simp)
    simp only [List.cons_append, getP, if_neg this]
    exact getP_skip fun z hz => h z (by simp [hz])
theorem getP_left {k k0 : List UInt8} {x0 : α} {B : List (List UInt8 × α)} (h : ltB k k0 = true) (hB : ∀ y ∈ B, ltB k0 y.1 = true) : ∀ A : List (List UInt8 × α), getP k (A ++ (k0, x0) :: B) = getP k A
  | [] => by
    show getP k ((k0, x0) :: B) = none
    refine getP_none.2 fun y hy => ?_
    rcases List.mem_cons.1 hy with rfl | hy
    · exact (ltB_ne h).symm
    · exact (ltB_ne (ltB_trans h (hB y hy))).symm
  | y :: A => by
    simp only [List.cons_append, getP, getP_left h hB A]
theorem getP_right {k k0 : List UInt8} {x0 : α} {A B : List (List UInt8 × α)} (h : ltB k0 k = true) (hA : ∀ y ∈ A, ltB y.1 k0 = true) : getP k (A ++ (k0, x0) :: B) = getP k B := by
  rw [getP_skip fun y hy => ltB_ne (ltB_trans (hA y hy) h)]
  simp [getP, ltB_ne h]
theorem getP_here {k : List UInt8} {x0 : α} {A B : List (List UInt8 × α)} (hA : ∀ y ∈ A, ltB y.1 k = true) : getP k (A ++ (k, x0) :: B) = some x0 := by
  rw [getP_skip fun y hy => ltB_ne (hA y hy)]
  simp [getP]
theorem fromP_nil (L : List (List UInt8 × α)) : fromP [] L = L := List.filter_eq_self.2 fun y _ => by
  cases y with | mk a b => cases a <;> rfl
theorem fromP_low {k k0 : List UInt8} {x0 : α} {A B : List (List UInt8 × α)} (h : ltB k0 k = true) (hA : ∀ y ∈ A, ltB y.1 k0 = true) : fromP k (A ++ (k0, x0) :: B) = fromP k B := by
  unfold fromP
  rw [List.filter_append, List.filter_cons]
  have : A.filter (fun y => !ltB y.1 k) = [] := List.filter_eq_nil_iff.2 fun y hy => by simp [ltB_trans (hA y hy) h]
  rw [this]
  simp [h]
theorem fromP_high {k k0 : List UInt8} {x0 : α} {A B : List (List UInt8 × α)} (h : ltB k0 k = false) (hB : ∀ y ∈ B, ltB k0 y.1 = true) : fromP k (A ++ (k0, x0) :: B) = fromP k A ++ (k0, x0) :: B := by
  unfold fromP
  rw [List.filter_append, List.filter_cons]
  have : B.filter (fun y => !ltB y.1 k) = B := List.filter_eq_self.2 fun y hy => by
    cases e : ltB y.1 k with
    | false => rfl
    | true => have := ltB_trans (hB y hy) e; rw [h] at this; cases this
  rw [this]
  simp [h]
end plain

/-- How few keys a tree of some height has, and one more. -/
def fb : Nat → Nat
  | 0 => 1
  | 1 => 2
  | h + 2 => fb (h + 1) + fb h
theorem fb_up : ∀ h, fb h ≤ fb (h + 1)
  | 0 => by decide
  | 1 => by decide
  | h + 2 => by
    have := fb_up h
    have := fb_up (h + 1)
    simp only [fb] at *
    omega
theorem fb_half : ∀ h, 3 * fb h ≤ 2 * fb (h + 1)
  | 0 => by decide
  | 1 => by decide
  | h + 2 => by
    have := fb_up (h + 1)
    have := fb_up h
    have := fb_half h
    simp only [fb] at *
    omega
theorem fb_four (h : Nat) : 4 * fb h ≤ fb (h + 3) := by
  have := fb_half h
  have e : fb (h + 3) = fb (h + 1) + fb h + fb (h + 1) := rfl
  rw [e]
  omega
theorem fb_mono {a b : Nat} (h : a ≤ b) : fb a ≤ fb b := by
  induction h with
  | refl => exact Nat.le_refl _
  | step _ ih => exact Nat.le_trans ih (fb_up _)
theorem fb_pow : ∀ d h, 3 * d ≤ 2 * h → 2 ^ d ≤ fb h
  | 0, h, _ => by
    have := fb_mono (Nat.zero_le h)
    simpa [fb] using this
  | 1, h, hd => by
    have : fb 2 ≤ fb h := fb_mono (by omega)
    have e : fb 2 = 3 := rfl
    omega
  | d + 2, h, hd => by
    obtain ⟨g, rfl⟩ : ∃ g, h = g + 3 := ⟨h - 3, by omega⟩
    have := fb_pow d g (by omega)
    have := fb_four g
    rw [Nat.pow_succ, Nat.pow_succ]
    omega
theorem avl_fb {α : Type} : ∀ t : Tr α, t.avl → fb t.ht ≤ t.sz + 1
  | .nil, _ => Nat.le_refl _
  | .node b k x l r, ⟨⟨h1, h2⟩, h3, h4⟩ => by
    have a := avl_fb l h3
    have c := avl_fb r h4
    simp only [Tr.ht, Tr.sz]
    rcases Nat.lt_trichotomy l.ht r.ht with e | e | e
    · have e1 : r.ht = l.ht + 1 := by omega
      rw [e1] at c
      rw [show 1 + max l.ht r.ht = l.ht + 2 by omega]
      simp only [fb]
      omega
    · rw [show 1 + max l.ht r.ht = l.ht + 1 by omega]
      rw [← e] at c
      cases hl : l.ht with
      | zero => simp [fb]; omega
      | succ n =>
        rw [hl] at a c
        have := fb_up n
        simp only [fb] at *
        omega
    · have e1 : l.ht = r.ht + 1 := by omega
      rw [e1] at a
      rw [show 1 + max l.ht r.ht = r.ht + 2 by omega]
      simp only [fb]
      omega
/-- A tree is never higher than the document says. -/
theorem avl_high {α : Type} {t : Tr α} (h : t.avl) {d : Nat} (hd : t.sz + 1 < 2 ^ d) : t.ht ≤ (3 * d + 1) / 2 := by
  rcases Nat.lt_or_ge ((3 * d + 1) / 2) t.ht with e | e
  · have h1 := fb_pow d t.ht (by omega)
    have h2 := avl_fb t h
    omega
  · exact e
end Go.Proofs.Ytbmihajbdobgbaa
