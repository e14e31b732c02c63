/- Plain mathematics of the statements over layer six: no program, no world. Numbers in groups of six bits, and how they are read. -/
namespace Go.Proofs.Ytkelcmncjhnbgaa

/-! ### Written -/

/-- The groups ahead of the last one: the highest first, none of them for 0. -/
def lead (n : Nat) : List UInt8 := if _h : n = 0 then [] else lead (n / 64) ++ [UInt8.ofNat (n % 64)]
termination_by n
decreasing_by omega

theorem lead_zero : lead 0 = [] := by rw [lead]; simp
theorem lead_pos {n : Nat} (h : n ≠ 0) : lead n = lead (n / 64) ++ [UInt8.ofNat (n % 64)] := by rw [lead]; simp [h]

/-- A number from 0 on with its mark. -/
def grp (n mark : Nat) : List UInt8 := lead (n / 64) ++ [UInt8.ofNat (mark + n % 64)]
def whole (n : Int) : List UInt8 := if n < 0 then grp (-1 - n).toNat 128 else grp n.toNat 64
def text (s : List UInt8) : List UInt8 := whole s.length ++ s

theorem lead_len (k : Nat) : ∀ n : Nat, n < 64 ^ k → (lead n).length ≤ k := by
  induction k with
  | zero => intro n h; have : n = 0 := by simpa using h
            subst this; simp [lead_zero]
  | succ k ih =>
    intro n h
    by_cases h0 : n = 0
    · subst h0; simp [lead_zero]
    · rw [lead_pos h0]
      have : n / 64 < 64 ^ k := by rw [Nat.pow_succ] at h; omega
      have := ih _ this
      simp; omega

theorem grp_len {n mark : Nat} (h : n < 9223372036854775808) : (grp n mark).length ≤ 11 ∧ 1 ≤ (grp n mark).length := by
  have := lead_len 10 (n / 64) (by have : (64 : Nat) ^ 10 = 1152921504606846976 := by decide
                                   omega)
  simp [grp]; omega

theorem whole_len {n : Int} (h1 : -9223372036854775808 ≤ n) (h2 : n ≤ 9223372036854775807) : (whole n).length ≤ 11 ∧ 1 ≤ (whole n).length := by
  unfold whole
  split
  · exact grp_len (by omega)
  · exact grp_len (by omega)

/-! ### Read -/

/-- What the bytes from here on say, behind i bytes whose groups make x: the number, the bytes that it has, the error. -/
def rdw : List UInt8 → Nat → Nat → Int × Nat × Int
  | [], _, _ => (0, 0, 2)
  | c :: l, i, x =>
    if 192 ≤ c.toNat ∨ (c.toNat = 0 ∧ i = 0) ∨ 144115188075855871 < x then (0, 0, 3)
    else if 128 ≤ c.toNat then (-1 - ((64 * x + c.toNat % 64 : Nat) : Int), i + 1, 0)
    else if 64 ≤ c.toNat then (((64 * x + c.toNat % 64 : Nat) : Int), i + 1, 0)
    else rdw l (i + 1) (64 * x + c.toNat % 64)

def rn (l : List UInt8) : Int := (rdw l 0 0).1
def rk (l : List UInt8) : Nat := (rdw l 0 0).2.1
def re (l : List UInt8) : Int := (rdw l 0 0).2.2

/-- All that is known of an answer. -/
def Fine (i : Nat) (l : List UInt8) (a : Int × Nat × Int) : Prop :=
  (a.2.2 = 0 ∧ i < a.2.1 ∧ a.2.1 ≤ i + l.length ∧ -9223372036854775808 ≤ a.1 ∧ a.1 ≤ 9223372036854775807) ∨ ((a.2.2 = 2 ∨ a.2.2 = 3) ∧ a.1 = 0 ∧ a.2.1 = 0)

theorem rdw_fine (l : List UInt8) : ∀ i x, Fine i l (rdw l i x) := by
  induction l with
  | nil => intro i x; right; simp [rdw]
  | cons c l ih =>
    intro i x
    have hc : c.toNat < 256 := c.toNat_lt
    unfold rdw
    split
    · right; simp
    · rename_i h
      split
      · left; refine ⟨rfl, ?_, ?_, ?_, ?_⟩ <;> simp <;> omega
      · split
        · left; refine ⟨rfl, ?_, ?_, ?_, ?_⟩ <;> simp <;> omega
        · rcases ih (i + 1) (64 * x + c.toNat % 64) with ⟨h0, h1, h2, h3, h4⟩ | h'
          · left; exact ⟨h0, by omega, by simp; omega, h3, h4⟩
          · right; exact h'

theorem rd_cases (l : List UInt8) : (re l = 0 ∧ 0 < rk l ∧ rk l ≤ l.length ∧ -9223372036854775808 ≤ rn l ∧ rn l ≤ 9223372036854775807) ∨ ((re l = 2 ∨ re l = 3) ∧ rn l = 0 ∧ rk l = 0) := by
  have h := rdw_fine l 0 0
  unfold Fine at h
  simpa [rn, rk, re] using h

/-! ### What was written is read as it was -/

theorem toNat_ofNat {n : Nat} (h : n < 256) : (UInt8.ofNat n).toNat = n := by simp; omega

theorem rdw_lead (m : Nat) (h : m ≤ 144115188075855871) (t : List UInt8) : rdw (lead m ++ t) 0 0 = rdw t (lead m).length m := by
  induction m using Nat.strongRecOn generalizing t with
  | _ m ih =>
    by_cases h0 : m = 0
    · subst h0; simp [lead_zero]
    · rw [lead_pos h0]
      have := ih (m / 64) (by omega) (by omega) ([UInt8.ofNat (m % 64)] ++ t)
      rw [List.append_assoc, this]
      have hz : (lead (m / 64)).length = 0 → m / 64 = 0 := by
        intro hl
        by_cases hq : m / 64 = 0
        · exact hq
        · rw [lead_pos hq] at hl; simp at hl
      have hn : (UInt8.ofNat (m % 64)).toNat = m % 64 := toNat_ofNat (by omega)
      simp only [List.cons_append, List.nil_append, rdw, hn, List.length_append, List.length_cons, List.length_nil]
      rw [if_neg, if_neg, if_neg]
      · congr 1; omega
      · omega
      · omega
      · intro hh
        rcases hh with hh | ⟨hh, hi⟩ | hh
        · omega
        · have := hz hi; omega
        · omega

theorem rdw_grp64 (n : Nat) (h : n < 9223372036854775808) (t : List UInt8) : rdw (grp n 64 ++ t) 0 0 = ((n : Int), (grp n 64).length, 0) := by
  unfold grp
  rw [List.append_assoc, rdw_lead _ (by omega)]
  have hn : (UInt8.ofNat (64 + n % 64)).toNat = 64 + n % 64 := toNat_ofNat (by omega)
  simp only [List.cons_append, List.nil_append, rdw, hn, List.length_append, List.length_cons, List.length_nil]
  rw [if_neg (by omega), if_neg (by omega), if_pos (by omega)]
  congr 1
  omega

theorem rdw_grp128 (n : Nat) (h : n < 9223372036854775808) (t : List UInt8) : rdw (grp n 128 ++ t) 0 0 = (-1 - (n : Int), (grp n 128).length, 0) := by
  unfold grp
  rw [List.append_assoc, rdw_lead _ (by omega)]
  have hn : (UInt8.ofNat (128 + n % 64)).toNat = 128 + n % 64 := toNat_ofNat (by omega)
  simp only [List.cons_append, List.nil_append, rdw, hn, List.length_append, List.length_cons, List.length_nil]
  rw [if_neg (by omega), if_pos (by omega)]
  congr 1
  omega

theorem rd_whole {n : Int} (h1 : -9223372036854775808 ≤ n) (h2 : n ≤ 9223372036854775807) (t : List UInt8) :
    rn (whole n ++ t) = n ∧ rk (whole n ++ t) = (whole n).length ∧ re (whole n ++ t) = 0 := by
  unfold whole rn rk re
  split
  · rw [rdw_grp128 _ (by omega)]; refine ⟨?_, rfl, rfl⟩; simp; omega
  · rw [rdw_grp64 _ (by omega)]; refine ⟨?_, rfl, rfl⟩; simp; omega

/-! ### What is read are just the bytes that would be written -/

theorem grp_of (x : Nat) (c mark : Nat) (hc : c < 64) : grp (64 * x + c) mark = lead x ++ [UInt8.ofNat (mark + c)] := by
  unfold grp
  rw [show (64 * x + c) / 64 = x by omega, show (64 * x + c) % 64 = c by omega]

theorem ofNat_of (c : UInt8) {n : Nat} (h : n = c.toNat) : UInt8.ofNat n = c := by subst h; simp

theorem rdw_back (l : List UInt8) : ∀ (i x : Nat), i = (lead x).length → (rdw l i x).2.2 = 0 → ∃ t, lead x ++ l = whole (rdw l i x).1 ++ t ∧ (rdw l i x).2.1 = (whole (rdw l i x).1).length := by
  induction l with
  | nil => intro i x _ h; simp [rdw] at h
  | cons c l ih =>
    intro i x hi h
    have hc : c.toNat < 256 := c.toNat_lt
    by_cases h1 : 192 ≤ c.toNat ∨ (c.toNat = 0 ∧ i = 0) ∨ 144115188075855871 < x
    · simp [rdw, h1] at h
    · by_cases h2 : 128 ≤ c.toNat
      · have e : rdw (c :: l) i x = (-1 - ((64 * x + c.toNat % 64 : Nat) : Int), i + 1, 0) := by simp only [rdw]; rw [if_neg h1, if_pos h2]
        rw [e]
        have hw : whole (-1 - ((64 * x + c.toNat % 64 : Nat) : Int)) = lead x ++ [c] := by
          unfold whole
          rw [if_pos (by omega), show (-1 - (-1 - ((64 * x + c.toNat % 64 : Nat) : Int))).toNat = 64 * x + c.toNat % 64 by omega, grp_of _ _ _ (by omega)]
          rw [ofNat_of c (by omega)]
        exact ⟨l, by simp only [hw]; simp, by simp only [hw]; simp [hi]⟩
      · by_cases h3 : 64 ≤ c.toNat
        · have e : rdw (c :: l) i x = (((64 * x + c.toNat % 64 : Nat) : Int), i + 1, 0) := by simp only [rdw]; rw [if_neg h1, if_neg h2, if_pos h3]
          rw [e]
          have hw : whole ((64 * x + c.toNat % 64 : Nat) : Int) = lead x ++ [c] := by
            unfold whole
            rw [if_neg (by omega), show (((64 * x + c.toNat % 64 : Nat) : Int)).toNat = 64 * x + c.toNat % 64 by omega, grp_of _ _ _ (by omega)]
            rw [ofNat_of c (by omega)]
          exact ⟨l, by simp only [hw]; simp, by simp only [hw]; simp [hi]⟩
        · have e : rdw (c :: l) i x = rdw l (i + 1) (64 * x + c.toNat % 64) := by simp only [rdw]; rw [if_neg h1, if_neg h2, if_neg h3]
          rw [e] at h ⊢
          have hl : lead (64 * x + c.toNat % 64) = lead x ++ [c] := by
            by_cases hz : 64 * x + c.toNat % 64 = 0
            · exfalso
              have hx : x = 0 := by omega
              subst hx
              rw [lead_zero] at hi
              simp at hi
              omega
            · rw [lead_pos hz, show (64 * x + c.toNat % 64) / 64 = x by omega, ofNat_of c (by omega)]
          obtain ⟨t, ht, hk⟩ := ih (i + 1) (64 * x + c.toNat % 64) (by rw [hl]; simp [hi]) h
          exact ⟨t, by rw [hl] at ht; simpa using ht, hk⟩

theorem rd_back {l : List UInt8} (h : re l = 0) : whole (rn l) ++ l.drop (rk l) = l ∧ rk l = (whole (rn l)).length := by
  obtain ⟨t, ht, hk⟩ := rdw_back l 0 0 (by simp [lead_zero]) h
  rw [lead_zero, List.nil_append] at ht
  have hk' : rk l = (whole (rn l)).length := hk
  refine ⟨?_, hk'⟩
  rw [hk']
  show whole (rn l) ++ l.drop (whole (rn l)).length = l
  have ht' : l = whole (rn l) ++ t := ht
  conv => lhs; arg 2; arg 2; rw [ht']
  rw [List.drop_left, ← ht']

/-! ### Counts, bytes and texts -/

def cn (l : List UInt8) : Int := if re l = 0 ∧ rn l < 0 then 0 else rn l
def ck (l : List UInt8) : Nat := if re l = 0 ∧ rn l < 0 then 0 else rk l
def ce (l : List UInt8) : Int := if re l = 0 ∧ rn l < 0 then 3 else re l

theorem cd_cases (l : List UInt8) : (ce l = 0 ∧ 0 < ck l ∧ ck l ≤ l.length ∧ 0 ≤ cn l ∧ cn l ≤ 9223372036854775807 ∧ re l = 0 ∧ cn l = rn l ∧ ck l = rk l) ∨ ((ce l = 2 ∨ ce l = 3) ∧ cn l = 0 ∧ ck l = 0) := by
  unfold cn ck ce
  rcases rd_cases l with ⟨h0, h1, h2, h3, h4⟩ | ⟨h0, h1, h2⟩
  · by_cases hn : rn l < 0
    · simp [h0, hn]
    · simp [h0, hn]; omega
  · have : ¬ (re l = 0 ∧ rn l < 0) := by omega
    rw [if_neg this, if_neg this, if_neg this]; omega

/-- So many bytes: the text, how many, the error. -/
def ws (l : List UInt8) (n : Int) : List UInt8 := if n < 0 ∨ (l.length : Int) < n then [] else l.take n.toNat
def wk (l : List UInt8) (n : Int) : Nat := if n < 0 ∨ (l.length : Int) < n then 0 else n.toNat
def we (l : List UInt8) (n : Int) : Int := if n < 0 then 1 else if (l.length : Int) < n then 2 else 0

def ts (l : List UInt8) : List UInt8 := if ce l ≠ 0 then [] else ws (l.drop (ck l)) (cn l)
def te (l : List UInt8) : Int := if ce l ≠ 0 then ce l else we (l.drop (ck l)) (cn l)
def tk (l : List UInt8) : Nat := if te l ≠ 0 then 0 else ck l + wk (l.drop (ck l)) (cn l)

theorem td_cases (l : List UInt8) : (te l = 0 ∧ ce l = 0 ∧ 0 ≤ cn l ∧ ck l + (cn l).toNat ≤ l.length ∧ 0 < ck l ∧ tk l = ck l + (cn l).toNat ∧ ts l = (l.drop (ck l)).take (cn l).toNat) ∨ ((te l = 2 ∨ te l = 3) ∧ ts l = [] ∧ tk l = 0) := by
  rcases cd_cases l with ⟨h0, h1, h2, h3, h4, h5, h6, h7⟩ | ⟨h0, h1, h2⟩
  · have hd : (l.drop (ck l)).length = l.length - ck l := by simp
    by_cases hs : ((l.drop (ck l)).length : Int) < cn l
    · right
      have : te l = 2 := by unfold te we; rw [if_neg (by simp [h0]), if_neg (by omega), if_pos hs]
      refine ⟨.inl this, ?_, ?_⟩
      · unfold ts ws; rw [if_neg (by simp [h0]), if_pos (by omega)]
      · unfold tk; rw [if_pos (by simp [this])]
    · left
      have : te l = 0 := by unfold te we; rw [if_neg (by simp [h0]), if_neg (by omega), if_neg hs]
      refine ⟨this, h0, h3, by omega, h1, ?_, ?_⟩
      · unfold tk wk; rw [if_neg (by simp [this]), if_neg (by omega)]
      · unfold ts ws; rw [if_neg (by simp [h0]), if_neg (by omega)]
  · right
    have e : te l = ce l := by unfold te; rw [if_pos (by omega)]
    refine ⟨by omega, ?_, ?_⟩
    · unfold ts; rw [if_pos (by omega)]
    · unfold tk; rw [if_pos (by omega)]

/-! ### A round of the reading -/

/-- Where a reader stands: behind k bytes whose groups make y. -/
def At (l : List UInt8) (k y : Nat) : Prop := rdw (l.drop k) k y = rdw l 0 0

theorem at_zero (l : List UInt8) : At l 0 0 := rfl
theorem at_bad {l t : List UInt8} {k y : Nat} {c : UInt8} (h : At l k y) (hl : l.drop k = c :: t) (hb : 192 ≤ c.toNat ∨ (c.toNat = 0 ∧ k = 0) ∨ 144115188075855871 < y) : rn l = 0 ∧ rk l = 0 ∧ re l = 3 := by
  unfold At at h
  rw [hl] at h
  simp only [rdw] at h
  rw [if_pos hb] at h
  simp [rn, rk, re, ← h]
theorem at_low {l t : List UInt8} {k y : Nat} {c : UInt8} (h : At l k y) (hl : l.drop k = c :: t) (hb : ¬ (192 ≤ c.toNat ∨ (c.toNat = 0 ∧ k = 0) ∨ 144115188075855871 < y)) (h1 : 128 ≤ c.toNat) :
    rn l = -1 - ((64 * y + c.toNat % 64 : Nat) : Int) ∧ rk l = k + 1 ∧ re l = 0 := by
  unfold At at h
  rw [hl] at h
  simp only [rdw] at h
  rw [if_neg hb, if_pos h1] at h
  simp [rn, rk, re, ← h]
theorem at_high {l t : List UInt8} {k y : Nat} {c : UInt8} (h : At l k y) (hl : l.drop k = c :: t) (hb : ¬ (192 ≤ c.toNat ∨ (c.toNat = 0 ∧ k = 0) ∨ 144115188075855871 < y)) (h1 : ¬ 128 ≤ c.toNat) (h2 : 64 ≤ c.toNat) :
    rn l = ((64 * y + c.toNat % 64 : Nat) : Int) ∧ rk l = k + 1 ∧ re l = 0 := by
  unfold At at h
  rw [hl] at h
  simp only [rdw] at h
  rw [if_neg hb, if_neg h1, if_pos h2] at h
  simp [rn, rk, re, ← h]
theorem at_next {l : List UInt8} {k y : Nat} {c : UInt8} (h : At l k y) (hl : l.drop k = c :: l.drop (k + 1)) (hb : ¬ (192 ≤ c.toNat ∨ (c.toNat = 0 ∧ k = 0) ∨ 144115188075855871 < y)) (h1 : ¬ 64 ≤ c.toNat) :
    At l (k + 1) (64 * y + c.toNat % 64) := by
  unfold At at h ⊢
  rw [hl] at h
  simp only [rdw] at h
  rw [if_neg hb, if_neg (by omega), if_neg h1] at h
  exact h
theorem at_end {l : List UInt8} {k y : Nat} (h : At l k y) (hl : l.length ≤ k) : rn l = 0 ∧ rk l = 0 ∧ re l = 2 := by
  unfold At at h
  rw [List.drop_of_length_le hl] at h
  simp only [rdw] at h
  simp [rn, rk, re, ← h]

theorem drop_at (s : ByteArray) (k : Nat) (h : k < s.size) : s.data.toList.drop k = s[k] :: s.data.toList.drop (k + 1) := by
  rw [List.drop_eq_getElem_cons (by simpa using h)]
  rfl
theorem byte_le (s : ByteArray) (k : Nat) (h : k < s.size) : 0 ≤ ((s[k].toNat : Nat) : Int) ∧ ((s[k].toNat : Nat) : Int) ≤ 255 := by
  have := s[k].toNat_lt
  omega

end Go.Proofs.Ytkelcmncjhnbgaa
