/- The order of texts; entries put into it. -/
import Derived.Test.YtbmihajbdobgbaaBlockPlain
import Derived.Test.YtbmihajbdobgbaaBase
set_option linter.unusedVariables false
set_option maxRecDepth 100000
set_option maxRecDepth 100000
namespace Go.Proofs.Ytbmihajbdobgbaa

theorem ltB_less : ∀ a b : List UInt8, Op.bytesLess a b = ltB a b
  | [], [] => rfl
  | [], _ :: _ => rfl
  | _ :: _, [] => rfl
  | x :: a, y :: b => by
    have := ltB_less a b
    simp only [Op.bytesLess, ltB]
    by_cases h : x = y
    · subst h
      simp [this]
    · have h2 : x.toNat ≠ y.toNat := fun e => h (UInt8.toNat.inj e)
      simp [h, UInt8.lt_iff_toNat_lt]
theorem ltB_irrefl : ∀ a : List UInt8, ltB a a = false
  | [] => rfl
  | x :: a => by simp [ltB, ltB_irrefl a]
theorem ltB_total : ∀ a b : List UInt8, ltB a b = true ∨ a = b ∨ ltB b a = true
  | [], [] => .inr (.inl rfl)
  | [], _ :: _ => .inl rfl
  | _ :: _, [] => .inr (.inr rfl)
  | x :: a, y :: b => by
    by_cases h : x = y
    · subst h
      rcases ltB_total a b with e | e | e
      · exact .inl (by simp [ltB, e])
      · exact .inr (.inl (by rw [e]))
      · exact .inr (.inr (by simp [ltB, e]))
    · have h2 : x.toNat ≠ y.toNat := fun e => h (UInt8.toNat.inj e)
      rcases Nat.lt_or_ge x.toNat y.toNat with e | e
      · exact .inl (by simp [ltB, h, e])
      · exact .inr (.inr (by simp [ltB, Ne.symm h]; omega))
theorem ltB_trans : ∀ {a b c : List UInt8}, ltB a b = true → ltB b c = true → ltB a c = true
  | [], [], _, h, _ => by cases h
  | [], _ :: _, [], _, h => by cases h
  | [], _ :: _, _ :: _, _, _ => rfl
  | _ :: _, [], _, h, _ => by cases h
  | _ :: _, _ :: _, [], _, h => by cases h
  | x :: a, y :: b, z :: c, h1, h2 => by
    simp only [ltB] at h1 h2 ⊢
    by_cases e1 : x = y
    · subst e1
      rw [if_pos rfl] at h1
      by_cases e2 : x = z
      · subst e2
        rw [if_pos rfl] at h2 ⊢
        exact ltB_trans h1 h2
      · rw [if_neg e2] at h2 ⊢
        exact h2
    · rw [if_neg e1] at h1
      by_cases e2 : y = z
      · subst e2
        rw [if_neg e1]
        exact h1
      · rw [if_neg e2] at h2
        have a1 := of_decide_eq_true h1
        have a2 := of_decide_eq_true h2
        rw [if_neg (by rintro rfl; omega)]
        exact decide_eq_true (by omega)
theorem ltB_asymm {a b : List UInt8} (h : ltB a b = true) : ltB b a = false := by
  cases e : ltB b a with
  | false => rfl
  | true => have := ltB_trans h e; rw [ltB_irrefl] at this; cases this

/-- Entries by rising keys. -/
def rises : List Ent → Prop
  | [] => True
  | x :: T => (∀ y ∈ T, ltB x.key y.key = true) ∧ rises T
/-- An entry put at its place; one of the same key is overwritten. -/
def put (x : Ent) : List Ent → List Ent
  | [] => [x]
  | y :: T => if ltB y.key x.key then y :: put x T else if y.key = x.key then x :: T else x :: y :: T
def norm (x : Ent) : Ent := if x.gone then { x with val := [] } else x
def rising (T : List Ent) : List Ent := T.foldl (fun R x => put (norm x) R) []
theorem rising_snoc (T : List Ent) (x : Ent) : rising (T ++ [x]) = put (norm x) (rising T) := by simp [rising]
theorem put_mem {x y : Ent} : ∀ {T : List Ent}, y ∈ put x T → y = x ∨ y ∈ T
  | [], h => by simp [put] at h; exact .inl h
  | z :: T, h => by
    simp only [put] at h
    split at h
    · rcases List.mem_cons.1 h with e | e
      · exact .inr (by simp [e])
      · rcases put_mem e with e | e
        · exact .inl e
        · exact .inr (by simp [e])
    · split at h
      · rcases List.mem_cons.1 h with e | e
        · exact .inl e
        · exact .inr (by simp [e])
      · rcases List.mem_cons.1 h with e | e
        · exact .inl e
        · exact .inr e
theorem put_rises {x : Ent} : ∀ {T : List Ent}, rises T → rises (put x T)
  | [], _ => show rises [x] from ⟨fun _ h => (by cases h), trivial⟩
  | z :: T, ⟨h1, h2⟩ => by
    simp only [put]
    split
    · rename_i h
      refine ⟨fun y hy => ?_, put_rises h2⟩
      rcases put_mem hy with rfl | e
      · exact h
      · exact h1 y e
    · rename_i h
      split
      · rename_i e
        exact ⟨fun y hy => by rw [← e]; exact h1 y hy, h2⟩
      · rename_i e
        have hx : ltB x.key z.key = true := by
          rcases ltB_total z.key x.key with a | a | a
          · exact absurd a h
          · exact absurd a e
          · exact a
        refine ⟨fun y hy => ?_, h1, h2⟩
        rcases List.mem_cons.1 hy with rfl | hy
        · exact hx
        · exact ltB_trans hx (h1 y hy)
theorem rising_rises (T : List Ent) : rises (rising T) := by
  have : ∀ (T R : List Ent), rises R → rises (T.foldl (fun R x => put (norm x) R) R) := by
    intro T
    induction T with
    | nil => exact fun R h => h
    | cons x T ih => exact fun R h => ih _ (put_rises h)
  exact this T [] trivial
theorem rising_mem {T : List Ent} {y : Ent} (h : y ∈ rising T) : ∃ x ∈ T, y = norm x := by
  have : ∀ (T R : List Ent), y ∈ T.foldl (fun R x => put (norm x) R) R → y ∈ R ∨ ∃ x ∈ T, y = norm x := by
    intro T
    induction T with
    | nil => exact fun R h => .inl h
    | cons x T ih =>
      intro R h
      rcases ih _ h with e | ⟨z, hz, e⟩
      · rcases put_mem e with e | e
        · exact .inr ⟨x, by simp, e⟩
        · exact .inl e
      · exact .inr ⟨z, by simp [hz], e⟩
  rcases this T [] h with e | e
  · cases e
  · exact e
theorem put_len (x : Ent) : ∀ T : List Ent, (put x T).length ≤ T.length + 1
  | [] => by simp [put]
  | y :: T => by
    have := put_len x T
    simp only [put]
    split
    · simp; omega
    · split <;> simp
theorem rising_len (T : List Ent) : (rising T).length ≤ T.length := by
  have : ∀ (T R : List Ent), (T.foldl (fun R x => put (norm x) R) R).length ≤ R.length + T.length := by
    intro T
    induction T with
    | nil => exact fun R => by simp
    | cons x T ih =>
      intro R
      have h1 := ih (put (norm x) R)
      have h2 := put_len (norm x) R
      simp only [List.foldl_cons, List.length_cons]
      omega
  simpa [rising] using this T []
/-- Rising entries of fitting sizes may be packed. -/
theorem okEs_of_rises : ∀ {T : List Ent} (first : Bool) (last : List UInt8), rises T → (∀ x ∈ T, x.key.length ≤ 65536 ∧ x.val.length ≤ 65536 ∧ (x.gone = true → x.val = [])) → (first = false → ∀ x ∈ T, ltB last x.key = true) → okEs first last T
  | [], _, _, _, _, _ => trivial
  | x :: T, first, last, ⟨h1, h2⟩, hs, hl => by
    obtain ⟨a, b, c⟩ := hs x (by simp)
    exact ⟨⟨a, b, c, fun hf => hl hf x (by simp)⟩, okEs_of_rises false x.key h2 (fun y hy => hs y (by simp [hy])) (fun _ y hy => h1 y hy)⟩
theorem rises_of_okEs : ∀ {T : List Ent} (first : Bool) (last : List UInt8), okEs first last T → rises T ∧ (first = false → ∀ x ∈ T, ltB last x.key = true)
  | [], _, _, _ => ⟨trivial, fun _ _ h => by cases h⟩
  | x :: T, first, last, ⟨h1, h2⟩ => by
    obtain ⟨a, b⟩ := rises_of_okEs false x.key h2
    refine ⟨⟨b rfl, a⟩, fun hf y hy => ?_⟩
    rcases List.mem_cons.1 hy with rfl | hy
    · exact h1.2.2.2 hf
    · exact ltB_trans (h1.2.2.2 hf) (b rfl y hy)
/-- The place of the first entry that isn't below a key. -/
def place (key : List UInt8) (T : List Ent) : Nat := T.findIdx fun x => !ltB x.key key
theorem place_le (key : List UInt8) (T : List Ent) : place key T ≤ T.length := List.findIdx_le_length
theorem place_cons (key : List UInt8) (x : Ent) (T : List Ent) : place key (x :: T) = if ltB x.key key then place key T + 1 else 0 := by
  unfold place
  rw [List.findIdx_cons]
  cases h : ltB x.key key <;> simp
/-- In rising entries just those ahead of the place are below the key. -/
theorem place_iff (key : List UInt8) : ∀ {T : List Ent}, rises T → ∀ (i : Nat) (x : Ent), T[i]? = some x → ltB x.key key = decide (i < place key T)
  | [], _, i, x, h => by cases h
  | y :: T, ⟨h1, h2⟩, i, x, h => by
    rw [place_cons]
    cases hy : ltB y.key key with
    | true =>
      rw [if_pos rfl]
      cases i with
      | zero =>
        injection h with h
        subst h
        rw [hy, decide_eq_true (by omega)]
      | succ i =>
        rw [place_iff key h2 i x h]
        simp
    | false =>
      rw [if_neg (by decide)]
      have hx : ltB x.key key = false := by
        cases i with
        | zero =>
          injection h with h
          subst h
          exact hy
        | succ i =>
          have hm : x ∈ T := List.mem_of_getElem? h
          cases e : ltB x.key key with
          | false => rfl
          | true => have := ltB_trans (h1 x hm) e; rw [hy] at this; cases this
      rw [hx]
      simp
/-- A place that splits rising entries so is the place. -/
theorem place_of {key : List UInt8} {T : List Ent} (h : rises T) {n : Nat} (hn : n ≤ T.length) (ha : ∀ i x, i < n → T[i]? = some x → ltB x.key key = true) (hb : ∀ i x, n ≤ i → T[i]? = some x → ltB x.key key = false) : place key T = n := by
  have hp := place_le key T
  rcases Nat.lt_trichotomy (place key T) n with e | e | e
  · have hl : place key T < T.length := by omega
    have h1 := ha _ _ e (List.getElem?_eq_getElem hl)
    rw [place_iff key h _ _ (List.getElem?_eq_getElem hl)] at h1
    simp at h1
  · exact e
  · have hl : n < T.length := by omega
    have h1 := hb _ _ (Nat.le_refl _) (List.getElem?_eq_getElem hl)
    rw [place_iff key h _ _ (List.getElem?_eq_getElem hl)] at h1
    simp [e] at h1
theorem rises_at {T : List Ent} (h : rises T) : ∀ (i j : Nat) (x y : Ent), i < j → T[i]? = some x → T[j]? = some y → ltB x.key y.key = true := by
  induction T with
  | nil => exact fun i j x y _ h => by cases h
  | cons z T ih =>
    intro i j x y hij hx hy
    cases j with
    | zero => omega
    | succ j =>
      cases i with
      | zero =>
        injection hx with hx
        subst hx
        exact h.1 y (List.mem_of_getElem? hy)
      | succ i => exact ih h.2 i j x y (by omega) hx hy

/-- Where an entry is put. -/
theorem put_new {x : Ent} : ∀ {R : List Ent}, (∀ y, R[place x.key R]? = some y → y.key ≠ x.key) → put x R = R.take (place x.key R) ++ x :: R.drop (place x.key R)
  | [], _ => rfl
  | z :: R, h => by
    rw [place_cons] at h ⊢
    simp only [put]
    cases hz : ltB z.key x.key with
    | true =>
      rw [hz, if_pos rfl] at h
      rw [if_pos rfl, if_pos rfl, put_new (fun y hy => h y hy)]
      rfl
    | false =>
      rw [hz, if_neg (by decide)] at h
      rw [if_neg (by decide), if_neg (h z rfl), if_neg (by decide)]
      rfl
theorem put_same {x y : Ent} : ∀ {R : List Ent}, R[place x.key R]? = some y → y.key = x.key → put x R = R.set (place x.key R) x
  | [], h, _ => by cases h
  | z :: R, h, hk => by
    rw [place_cons] at h ⊢
    simp only [put]
    cases hz : ltB z.key x.key with
    | true =>
      rw [hz, if_pos rfl] at h
      rw [if_pos rfl, if_pos rfl, put_same (R := R) h hk]
      rfl
    | false =>
      rw [hz, if_neg (by decide)] at h
      injection h with h
      rw [if_neg (by decide), if_pos (by rw [h]; exact hk), if_neg (by decide)]
      rfl

/-- A scan of two texts, byte by byte. -/
theorem shared_stop : ∀ (a b : List UInt8) (n : Nat) (x y : UInt8), (∀ i, i < n → a[i]? = b[i]?) → a[n]? = some x → b[n]? = some y → x ≠ y → sharedL a b = n
  | [], _, n, x, y, _, h, _, _ => by cases h
  | _ :: _, [], n, x, y, _, _, h, _ => by cases h
  | u :: a, v :: b, 0, x, y, h, h1, h2, h3 => by
    injection h1 with h1
    injection h2 with h2
    simp [sharedL, h1, h2, h3]
  | u :: a, v :: b, n + 1, x, y, h, h1, h2, h3 => by
    have h0 := h 0 (by omega)
    injection h0 with h0
    simp only [sharedL, h0, if_true]
    rw [shared_stop a b n x y (fun i hi => h (i + 1) (by omega)) h1 h2 h3]
theorem shared_end : ∀ (a b : List UInt8) (n : Nat), (∀ i, i < n → a[i]? = b[i]?) → (n = a.length ∧ n ≤ b.length ∨ n = b.length ∧ n ≤ a.length) → sharedL a b = n
  | [], b, n, h, h1 => by simp [sharedL]; simp at h1; omega
  | _ :: _, [], n, h, h1 => by simp [sharedL]; simp at h1; omega
  | u :: a, v :: b, 0, h, h1 => by simp at h1
  | u :: a, v :: b, n + 1, h, h1 => by
    have h0 := h 0 (by omega)
    injection h0 with h0
    simp only [sharedL, h0, if_true]
    rw [shared_end a b n (fun i hi => h (i + 1) (by omega)) (by simp at h1; omega)]
end Go.Proofs.Ytbmihajbdobgbaa
