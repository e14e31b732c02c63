/- Plain mathematics of the statements over layer crc: no program, no world. A register of 32 bits, bit by bit; bits turned within 32 in a row are told. -/
namespace Go.Proofs.Ytkelcmncjhnbgaa

/-! ### The register -/

/-- The register behind one bit, where what comes in is added to its lowest bit. -/
def stepB (x : Nat) (b : Bool) : Nat := x / 2 ^^^ (if (x.testBit 0 != b) = true then 2197175160 else 0)
/-- The register behind one bit that is 0. -/
def tap (x : Nat) : Nat := stepB x false
def tapN : Nat → Nat → Nat
  | 0, x => x
  | k + 1, x => tapN k (tap x)
def feedB (x : Nat) (u : List Bool) : Nat := u.foldl stepB x
def num : List Bool → Nat
  | [] => 0
  | b :: u => b.toNat + 2 * num u
def bitsN : Nat → Nat → List Bool
  | 0, _ => []
  | k + 1, n => (n % 2 == 1) :: bitsN k (n / 2)

theorem taps_lt : (2197175160 : Nat) < 2 ^ 32 := by decide

theorem stepB_lt {x : Nat} (b : Bool) (h : x < 2 ^ 32) : stepB x b < 2 ^ 32 := by
  unfold stepB
  refine Nat.xor_lt_two_pow (by omega) ?_
  split
  · decide
  · decide
theorem tap_lt {x : Nat} (h : x < 2 ^ 32) : tap x < 2 ^ 32 := stepB_lt _ h
theorem tapN_lt (k : Nat) : ∀ {x : Nat}, x < 2 ^ 32 → tapN k x < 2 ^ 32 := by
  induction k with
  | zero => intro x h; exact h
  | succ k ih => intro x h; exact ih (tap_lt h)
theorem feedB_lt (u : List Bool) : ∀ {x : Nat}, x < 2 ^ 32 → feedB x u < 2 ^ 32 := by
  induction u with
  | nil => intro x h; exact h
  | cons b u ih => intro x h; exact ih (stepB_lt b h)

theorem high (x : Nat) (b : Bool) (h : x < 2 ^ 32) : (stepB x b).testBit 31 = (x.testBit 0 != b) := by
  unfold stepB
  rw [Nat.testBit_xor, Nat.testBit_lt_two_pow (by omega)]
  cases (x.testBit 0 != b) with
  | true => decide
  | false => decide

theorem bit0_eq {x y : Nat} (h : x.testBit 0 = y.testBit 0) (h2 : x / 2 = y / 2) : x = y := by
  rw [Nat.testBit_zero, Nat.testBit_zero] at h
  have := decide_eq_decide.1 h
  omega

theorem xor_cancel {a b c : Nat} (h : a ^^^ c = b ^^^ c) : a = b := by
  have := congrArg (· ^^^ c) h
  simpa [Nat.xor_assoc] using this
theorem xor_cancel_left {a b c : Nat} (h : c ^^^ a = c ^^^ b) : a = b := by
  rw [Nat.xor_comm c, Nat.xor_comm c] at h
  exact xor_cancel h

theorem stepB_inj {x y : Nat} (b : Bool) (hx : x < 2 ^ 32) (hy : y < 2 ^ 32) (h : stepB x b = stepB y b) : x = y := by
  have h31 : (stepB x b).testBit 31 = (stepB y b).testBit 31 := by rw [h]
  rw [high x b hx, high y b hy] at h31
  have h0 : x.testBit 0 = y.testBit 0 := by
    cases hx0 : x.testBit 0 <;> cases hy0 : y.testBit 0 <;> cases b <;> simp_all
  unfold stepB at h
  rw [h0] at h
  exact bit0_eq h0 (xor_cancel h)
theorem tapN_inj (k : Nat) : ∀ {x y : Nat}, x < 2 ^ 32 → y < 2 ^ 32 → tapN k x = tapN k y → x = y := by
  induction k with
  | zero => intro x y _ _ h; exact h
  | succ k ih => intro x y hx hy h; exact stepB_inj false hx hy (ih (tap_lt hx) (tap_lt hy) h)
theorem feedB_inj (u : List Bool) : ∀ {x y : Nat}, x < 2 ^ 32 → y < 2 ^ 32 → feedB x u = feedB y u → x = y := by
  induction u with
  | nil => intro x y _ _ h; exact h
  | cons b u ih => intro x y hx hy h; exact stepB_inj b hx hy (ih (stepB_lt b hx) (stepB_lt b hy) h)

/-- All bits may be added ahead. -/
theorem tap_num1 (x : Nat) (b : Bool) (u : List Bool) : tap (x ^^^ num (b :: u)) = stepB x b ^^^ num u := by
  unfold tap stepB
  have h1 : num (b :: u) / 2 = num u := by simp only [num]; cases b <;> simp <;> omega
  have h2 : (num (b :: u)).testBit 0 = b := by
    rw [Nat.testBit_zero]; simp only [num]; cases b <;> simp <;> omega
  have h3 : (x ^^^ num (b :: u)) / 2 = x / 2 ^^^ num u := by
    rw [← h1]
    have := Nat.shiftRight_xor_distrib (a := x) (b := num (b :: u)) (i := 1)
    simpa [Nat.shiftRight_eq_div_pow] using this
  rw [h3, Nat.testBit_xor, h2]
  have h4 : ((x.testBit 0 ^^ b) != false) = (x.testBit 0 != b) := by cases x.testBit 0 <;> cases b <;> rfl
  rw [h4, Nat.xor_assoc, Nat.xor_assoc, Nat.xor_comm (num u)]
theorem tap_num (u : List Bool) : ∀ x : Nat, tapN u.length (x ^^^ num u) = feedB x u := by
  induction u with
  | nil => intro x; simp [num, tapN, feedB]
  | cons b u ih =>
    intro x
    show tapN u.length (tap (x ^^^ num (b :: u))) = feedB (stepB x b) u
    rw [tap_num1, ih]

theorem num_lt (u : List Bool) : num u < 2 ^ u.length := by
  induction u with
  | nil => simp [num]
  | cons b u ih => simp only [num, List.length_cons, Nat.pow_succ]; cases b <;> simp <;> omega
theorem num_inj (u : List Bool) : ∀ v : List Bool, u.length = v.length → num u = num v → u = v := by
  induction u with
  | nil => intro v h _; cases v with
    | nil => rfl
    | cons _ _ => simp at h
  | cons b u ih =>
    intro v h hn
    cases v with
    | nil => simp at h
    | cons c v =>
      simp only [num] at hn
      have hb : b = c := by cases b <;> cases c <;> simp at hn ⊢ <;> omega
      subst hb
      rw [ih v (by simpa using h) (by omega)]

/-- At most 32 bits in a row, from one register on, are told by the register behind them. -/
theorem mid_inj {x : Nat} (hx : x < 2 ^ 32) {u v : List Bool} (hl : u.length = v.length) (h32 : u.length ≤ 32) (h : feedB x u = feedB x v) : u = v := by
  rw [← tap_num, ← tap_num, ← hl] at h
  have hp : 2 ^ u.length ≤ 2 ^ 32 := Nat.pow_le_pow_right (by decide) h32
  have hu := num_lt u
  have hv := num_lt v
  rw [← hl] at hv
  have h' := tapN_inj _ (Nat.xor_lt_two_pow hx (by omega)) (Nat.xor_lt_two_pow hx (by omega)) h
  exact num_inj u v hl (xor_cancel_left h')

theorem feedB_append (x : Nat) (u v : List Bool) : feedB x (u ++ v) = feedB (feedB x u) v := List.foldl_append

theorem burst_bits {r : Nat} (hr : r < 2 ^ 32) {u v : List Bool} (hl : u.length = v.length) (f : Nat) (h : ∀ i, i < f ∨ f + 32 ≤ i → u[i]? = v[i]?) (he : feedB r u = feedB r v) : u = v := by
  have split3 : ∀ w : List Bool, w = w.take f ++ ((w.drop f).take 32 ++ w.drop (f + 32)) := by
    intro w
    rw [← List.drop_drop, List.take_append_drop, List.take_append_drop]
  have hpre : u.take f = v.take f := by
    apply List.ext_getElem?
    intro i
    rw [List.getElem?_take, List.getElem?_take]
    split
    · exact h i (by omega)
    · rfl
  have hpost : u.drop (f + 32) = v.drop (f + 32) := by
    apply List.ext_getElem?
    intro i
    rw [List.getElem?_drop, List.getElem?_drop]
    exact h _ (by omega)
  rw [split3 u, split3 v, feedB_append, feedB_append, feedB_append, feedB_append, hpre, hpost] at he
  have hx : feedB r (v.take f) < 2 ^ 32 := feedB_lt _ hr
  have hmid := mid_inj hx (u := (u.drop f).take 32) (v := (v.drop f).take 32) (by simp [hl]) (by simp; omega) (feedB_inj _ (feedB_lt _ hx) (feedB_lt _ hx) he)
  rw [split3 u, split3 v, hpre, hpost, hmid]

/-! ### Bytes -/

theorem bitsN_len (k : Nat) : ∀ n, (bitsN k n).length = k := by
  induction k with
  | zero => intro n; rfl
  | succ k ih => intro n; simp [bitsN, ih]
theorem num_bitsN (k : Nat) : ∀ n, n < 2 ^ k → num (bitsN k n) = n := by
  induction k with
  | zero => intro n h; simp only [bitsN, num]; omega
  | succ k ih =>
    intro n h
    simp only [bitsN, num]
    rw [ih (n / 2) (by rw [Nat.pow_succ] at h; omega)]
    rcases Nat.mod_two_eq_zero_or_one n with h0 | h0 <;> simp [h0] <;> omega
theorem bitsN_get (k : Nat) : ∀ n i, i < k → (bitsN k n)[i]? = some (n.testBit i) := by
  induction k with
  | zero => intro n i h; omega
  | succ k ih =>
    intro n i h
    cases i with
    | zero => simp only [bitsN, List.getElem?_cons_zero, Nat.testBit_zero]; rcases Nat.mod_two_eq_zero_or_one n with h0 | h0 <;> simp [h0]
    | succ i => simp only [bitsN, List.getElem?_cons_succ]; rw [ih _ _ (by omega), Nat.testBit_succ]

def thr (r b : Nat) : Nat := tapN 8 (r ^^^ b)
theorem thr_bits (r b : Nat) (h : b < 256) : thr r b = feedB r (bitsN 8 b) := by
  have := tap_num (bitsN 8 b) r
  rw [bitsN_len, num_bitsN 8 b h] at this
  exact this

def feedL (r : Nat) (l : List UInt8) : Nat := l.foldl (fun r b => thr r b.toNat) r
def bitsL (l : List UInt8) : List Bool := l.flatMap fun b => bitsN 8 b.toNat
theorem feedL_bits (l : List UInt8) : ∀ r, feedL r l = feedB r (bitsL l) := by
  induction l with
  | nil => intro r; rfl
  | cons b l ih =>
    intro r
    show feedL (thr r b.toNat) l = feedB r (bitsN 8 b.toNat ++ bitsL l)
    rw [feedB_append, ih, thr_bits _ _ b.toNat_lt]
theorem feedL_append (r : Nat) (l m : List UInt8) : feedL r (l ++ m) = feedL (feedL r l) m := List.foldl_append
theorem feedL_lt (l : List UInt8) {r : Nat} (h : r < 2 ^ 32) : feedL r l < 2 ^ 32 := by rw [feedL_bits]; exact feedB_lt _ h
theorem thr_lt {r b : Nat} (h : r < 2 ^ 32) (hb : b < 256) : thr r b < 2 ^ 32 := by rw [thr_bits _ _ hb]; exact feedB_lt _ h

/-- The sum of bytes. -/
def sumL (l : List UInt8) : Nat := 4294967295 - feedL 4294967295 l
theorem sumL_lt (l : List UInt8) : sumL l < 4294967296 := by unfold sumL; omega
theorem full_lt : (4294967295 : Nat) < 2 ^ 32 := by decide
theorem sumL_eq {l m : List UInt8} (h : sumL l = sumL m) : feedL 4294967295 l = feedL 4294967295 m := by
  have h1 := feedL_lt l full_lt
  have h2 := feedL_lt m full_lt
  unfold sumL at h
  omega

/-- A sum's bytes, the highest first. -/
def four (x : Nat) : List UInt8 := [UInt8.ofNat (x / 16777216), UInt8.ofNat (x / 65536), UInt8.ofNat (x / 256), UInt8.ofNat x]
theorem four_len (x : Nat) : (four x).length = 4 := rfl
theorem four_inj {x y : Nat} (hx : x < 4294967296) (hy : y < 4294967296) (h : four x = four y) : x = y := by
  unfold four at h
  simp only [List.cons.injEq, and_true] at h
  obtain ⟨h1, h2, h3, h4⟩ := h
  have g1 := congrArg UInt8.toNat h1
  have g2 := congrArg UInt8.toNat h2
  have g3 := congrArg UInt8.toNat h3
  have g4 := congrArg UInt8.toNat h4
  simp only [UInt8.toNat_ofNat'] at g1 g2 g3 g4
  omega

/-! ### Bits of bytes -/

def bitL (l : List UInt8) (i : Nat) : Bool := (l.getD (i / 8) 0).toNat.testBit (i % 8)

theorem bitsL_len (l : List UInt8) : (bitsL l).length = 8 * l.length := by
  induction l with
  | nil => rfl
  | cons b l ih => simp only [bitsL, List.flatMap_cons, List.length_append, bitsN_len, List.length_cons]; unfold bitsL at ih; omega
theorem bitsL_get (l : List UInt8) : ∀ i, i < 8 * l.length → (bitsL l)[i]? = some (bitL l i) := by
  induction l with
  | nil => intro i h; simp at h
  | cons b l ih =>
    intro i h
    show (bitsN 8 b.toNat ++ bitsL l)[i]? = _
    by_cases h8 : i < 8
    · rw [List.getElem?_append_left (by rw [bitsN_len]; exact h8), bitsN_get _ _ _ h8]
      unfold bitL
      rw [show i / 8 = 0 by omega, show i % 8 = i by omega]
      rfl
    · rw [List.getElem?_append_right (by rw [bitsN_len]; omega), bitsN_len, ih _ (by simp at h; omega)]
      unfold bitL
      rw [show i / 8 = (i - 8) / 8 + 1 by omega, show i % 8 = (i - 8) % 8 by omega]
      rfl

theorem byte_ext {a b : UInt8} (h : ∀ k, k < 8 → a.toNat.testBit k = b.toNat.testBit k) : a = b := by
  apply UInt8.toNat_inj.1
  apply Nat.eq_of_testBit_eq
  intro k
  by_cases hk : k < 8
  · exact h k hk
  · have ha := a.toNat_lt
    have hb := b.toNat_lt
    have : (2 : Nat) ^ 8 ≤ 2 ^ k := Nat.pow_le_pow_right (by decide) (by omega)
    rw [Nat.testBit_lt_two_pow (by omega), Nat.testBit_lt_two_pow (by omega)]

theorem list_ext {l m : List UInt8} (hl : l.length = m.length) (h : ∀ i, i < 8 * l.length → bitL l i = bitL m i) : l = m := by
  apply List.ext_getElem hl
  intro j h1 h2
  apply byte_ext
  intro k hk
  have := h (8 * j + k) (by omega)
  unfold bitL at this
  rw [show (8 * j + k) / 8 = j by omega, show (8 * j + k) % 8 = k by omega] at this
  simpa [List.getD_eq_getElem?_getD, h1, h2] using this

/-- Bits turned within 32 in a row are told by the sum. -/
theorem burst {s t : List UInt8} (hl : s.length = t.length) (f : Nat) (h : ∀ i, i < 8 * s.length → i < f ∨ f + 32 ≤ i → bitL s i = bitL t i) (he : sumL s = sumL t) : s = t := by
  have h1 := sumL_eq he
  rw [feedL_bits, feedL_bits] at h1
  have hbl : (bitsL s).length = (bitsL t).length := by rw [bitsL_len, bitsL_len, hl]
  have hb := burst_bits full_lt hbl f (fun i hi => by
    by_cases hs : i < 8 * s.length
    · rw [bitsL_get s i hs, bitsL_get t i (by omega), h i hs hi]
    · rw [List.getElem?_eq_none (by rw [bitsL_len]; omega), List.getElem?_eq_none (by rw [bitsL_len]; omega)]) h1
  apply list_ext hl
  intro i hi
  have h2 := bitsL_get s i hi
  rw [hb, bitsL_get t i (by omega)] at h2
  exact (Option.some.inj h2).symm

/-! ### Bits turned -/

/-- The bytes with one bit turned. -/
def flip (l : List UInt8) (i : Nat) : List UInt8 := l.set (i / 8) (UInt8.ofNat ((l.getD (i / 8) 0).toNat ^^^ 2 ^ (i % 8)))
theorem flip_len (l : List UInt8) (i : Nat) : (flip l i).length = l.length := by simp [flip]
theorem flip_bit {l : List UInt8} {i : Nat} (h : i < 8 * l.length) (k : Nat) : bitL (flip l i) k = (bitL l k ^^ decide (k = i)) := by
  unfold bitL flip
  have hi : i / 8 < l.length := by omega
  by_cases hk : k / 8 = i / 8
  · have hg : (l.set (i / 8) (UInt8.ofNat ((l.getD (i / 8) 0).toNat ^^^ 2 ^ (i % 8)))).getD (k / 8) 0 = UInt8.ofNat ((l.getD (i / 8) 0).toNat ^^^ 2 ^ (i % 8)) := by
      rw [hk, List.getD_eq_getElem?_getD, List.getElem?_set_self hi]; rfl
    have hlt : (l.getD (i / 8) 0).toNat ^^^ 2 ^ (i % 8) < 256 := by
      have h8 : i % 8 < 8 := by omega
      have hp : 2 ^ (i % 8) < 2 ^ 8 := Nat.pow_lt_pow_right (by decide) h8
      exact Nat.xor_lt_two_pow (n := 8) (l.getD (i / 8) 0).toNat_lt hp
    rw [hg, UInt8.toNat_ofNat', Nat.mod_eq_of_lt hlt, Nat.testBit_xor, Nat.testBit_two_pow, hk]
    congr 1
    apply decide_eq_decide.2
    omega
  · have hg : (l.set (i / 8) (UInt8.ofNat ((l.getD (i / 8) 0).toNat ^^^ 2 ^ (i % 8)))).getD (k / 8) 0 = l.getD (k / 8) 0 := by
      rw [List.getD_eq_getElem?_getD, List.getElem?_set_ne (by omega), ← List.getD_eq_getElem?_getD]
    rw [hg, decide_eq_false (by omega), Bool.xor_false]

/-- What stands behind k rounds: the bits of a mask turned from a place on; whether one was. -/
structure Turned (P : List UInt8) (f mask k : Nat) (L : List UInt8) (t : Bool) : Prop where
  len : L.length = P.length
  bit : ∀ i, bitL L i = (bitL P i ^^ decide (f ≤ i ∧ i < f + k ∧ mask.testBit (i - f) = true))
  was : t = true ↔ ∃ j, j < k ∧ mask.testBit j = true

theorem Turned.start (P : List UInt8) (f mask : Nat) : Turned P f mask 0 P false :=
  ⟨rfl, fun i => by rw [decide_eq_false (by omega), Bool.xor_false], ⟨(fun h => by cases h), fun ⟨j, h, _⟩ => by omega⟩⟩
theorem Turned.no {P L : List UInt8} {f mask k : Nat} {t : Bool} (h : Turned P f mask k L t) (hm : mask.testBit k = false) : Turned P f mask (k + 1) L t := by
  refine ⟨h.len, fun i => ?_, ?_⟩
  · rw [h.bit i]
    congr 1
    apply decide_eq_decide.2
    constructor
    · rintro ⟨a, b, c⟩; exact ⟨a, by omega, c⟩
    · rintro ⟨a, b, c⟩
      refine ⟨a, ?_, c⟩
      by_cases hi : i - f = k
      · rw [hi, hm] at c; cases c
      · omega
  · rw [h.was]
    constructor
    · rintro ⟨j, a, b⟩; exact ⟨j, by omega, b⟩
    · rintro ⟨j, a, b⟩
      by_cases hj : j = k
      · rw [hj, hm] at b; cases b
      · exact ⟨j, by omega, b⟩
theorem Turned.yes {P L : List UInt8} {f mask k : Nat} {t : Bool} (h : Turned P f mask k L t) (hm : mask.testBit k = true) (hk : f + k < 8 * P.length) : Turned P f mask (k + 1) (flip L (f + k)) true := by
  refine ⟨by rw [flip_len, h.len], fun i => ?_, ⟨fun _ => ⟨k, by omega, hm⟩, fun _ => rfl⟩⟩
  rw [flip_bit (by rw [h.len]; exact hk), h.bit i, Bool.xor_assoc]
  congr 1
  by_cases hi : i = f + k
  · subst hi
    rw [decide_eq_false (by omega), decide_eq_true rfl, decide_eq_true ⟨by omega, by omega, by rw [show f + k - f = k by omega]; exact hm⟩]
    rfl
  · rw [decide_eq_false hi, Bool.xor_false]
    apply decide_eq_decide.2
    constructor
    · rintro ⟨a, b, c⟩; exact ⟨a, by omega, c⟩
    · rintro ⟨a, b, c⟩; exact ⟨a, by omega, c⟩

theorem bitL_take {l : List UInt8} {n i : Nat} (h : i < 8 * n) : bitL (l.take n) i = bitL l i := by
  unfold bitL
  rw [List.getD_eq_getElem?_getD, List.getElem?_take, if_pos (by omega), ← List.getD_eq_getElem?_getD]
theorem bitL_drop (l : List UInt8) (n i : Nat) : bitL (l.drop n) i = bitL l (8 * n + i) := by
  unfold bitL
  rw [List.getD_eq_getElem?_getD, List.getElem?_drop, ← List.getD_eq_getElem?_getD, show (8 * n + i) / 8 = n + i / 8 by omega, show (8 * n + i) % 8 = i % 8 by omega]

/-- Bits turned within 32 in a row, all of them in the text or all in its sum, are told. -/
theorem turned_said {s L : List UInt8} {f mask k : Nat} {t : Bool} (h : Turned (s ++ four (sumL s)) f mask k L t) (hk : k ≤ 32) (hf : f + k ≤ 8 * s.length ∨ 8 * s.length ≤ f ∧ f + k ≤ 8 * (s.length + 4)) :
    t = true ↔ L.drop s.length ≠ four (sumL (L.take s.length)) := by
  have hPl : (s ++ four (sumL s)).length = s.length + 4 := by rw [List.length_append, four_len]
  have hL : L.length = s.length + 4 := by rw [h.len, hPl]
  have hs : (s ++ four (sumL s)).take s.length = s := List.take_left
  have hd : (s ++ four (sumL s)).drop s.length = four (sumL s) := List.drop_left
  constructor
  · intro ht heq
    obtain ⟨j, hj, hm⟩ := h.was.1 ht
    have hbit := h.bit (f + j)
    rw [decide_eq_true ⟨by omega, by omega, by rw [show f + j - f = j by omega]; exact hm⟩] at hbit
    rcases hf with hf | ⟨hf1, hf2⟩
    · have e1 : L.drop s.length = four (sumL s) := by
        rw [← hd]
        apply list_ext (by simp [hL, hPl, four_len])
        intro i _
        rw [bitL_drop, bitL_drop, h.bit, decide_eq_false (by omega), Bool.xor_false]
      have e2 := four_inj (sumL_lt _) (sumL_lt _) (e1.symm.trans heq)
      have e3 : s = L.take s.length := burst (by simp [hL]) f (fun i hi hio => by
        rw [bitL_take hi, h.bit, decide_eq_false (by omega), Bool.xor_false]
        conv => lhs; rw [← hs]
        exact bitL_take hi) e2
      have e4 : bitL L (f + j) = bitL s (f + j) := by rw [← bitL_take (l := L) (n := s.length) (by omega), ← e3]
      have e5 : bitL (s ++ four (sumL s)) (f + j) = bitL s (f + j) := by rw [← bitL_take (n := s.length) (by omega), hs]
      rw [e4, e5] at hbit
      cases hb : bitL s (f + j) <;> rw [hb] at hbit <;> cases hbit
    · have e1 : L.take s.length = s := by
        apply list_ext (by simp [hL])
        intro i hi
        have hi' : i < 8 * s.length := by rw [List.length_take, hL] at hi; omega
        rw [bitL_take hi', h.bit, decide_eq_false (by omega), Bool.xor_false, ← bitL_take (n := s.length) hi', hs]
      rw [e1] at heq
      have e2 : bitL L (f + j) = bitL (four (sumL s)) (f + j - 8 * s.length) := by rw [← heq, bitL_drop]; congr 1; omega
      have e3 : bitL (s ++ four (sumL s)) (f + j) = bitL (four (sumL s)) (f + j - 8 * s.length) := by
        conv => rhs; rw [← hd]
        rw [bitL_drop]; congr 1; omega
      rw [e2, e3] at hbit
      cases hb : bitL (four (sumL s)) (f + j - 8 * s.length) <;> rw [hb] at hbit <;> cases hbit
  · intro hne
    apply Classical.byContradiction
    intro ht
    apply hne
    have hLP : L = s ++ four (sumL s) := by
      apply list_ext h.len
      intro i _
      rw [h.bit, decide_eq_false, Bool.xor_false]
      rintro ⟨a, b, c⟩
      exact ht (h.was.2 ⟨i - f, by omega, c⟩)
    rw [hLP, hs, hd]

/-! ### What the code does, round by round -/

theorem tapN_last (k : Nat) : ∀ x, tapN (k + 1) x = tap (tapN k x) := by
  induction k with
  | zero => intro x; rfl
  | succ k ih => intro x; exact ih (tap x)
/-- The bit that goes out makes the mask. -/
theorem tap_code (x : Nat) : x / 2 ^^^ (2197175160 &&& ((4294967296 - x % 2) % 4294967296)) = tap x := by
  unfold tap stepB
  congr 1
  rw [Nat.testBit_zero]
  rcases Nat.mod_two_eq_zero_or_one x with h | h <;> rw [h] <;> decide

theorem feed_next (x c k : Nat) (h : k < 8) : feedB x ((bitsN 8 c).take (k + 1)) = stepB (feedB x ((bitsN 8 c).take k)) (c.testBit k) := by
  have h1 := bitsN_get 8 c k h
  rw [List.take_add_one, h1, feedB_append]
  rfl
theorem feed_all (x c : Nat) (h : c < 256) : feedB x ((bitsN 8 c).take 8) = thr x c := by
  rw [List.take_of_length_le (by rw [bitsN_len]; exact Nat.le_refl 8), thr_bits _ _ h]

/-- The register turned, from a bit on. -/
def turnedFrom (r i : Nat) : Nat := (4294967295 - r) / 2 ^ i
theorem turned_top (r : Nat) : turnedFrom r 32 = 0 := by unfold turnedFrom; omega
theorem turned_next (r i : Nat) (hr : r < 4294967296) (hi : i < 32) : turnedFrom r i = 2 * turnedFrom r (i + 1) + (if r.testBit i then 0 else 1) := by
  unfold turnedFrom
  have h1 := Nat.testBit_two_pow_sub_succ (n := 32) (x := r) (by simpa using hr) i
  rw [decide_eq_true hi, Bool.true_and, show 2 ^ 32 - (r + 1) = 4294967295 - r by omega, Nat.testBit_eq_decide_div_mod_eq] at h1
  rw [Nat.pow_succ, ← Nat.div_div_eq_div_mul]
  cases hb : r.testBit i with
  | true => rw [hb] at h1; simp at h1 ⊢; omega
  | false => rw [hb] at h1; simp at h1 ⊢; omega

/-- The register moved down so far. -/
def down (x k : Nat) (j : Nat) : Bool := if j < k then x.testBit (j + 1) else x.testBit j
theorem down_all (x j : Nat) (hx : x < 4294967296) (hj : j < 32) : (if j = 31 then false else down x 31 j) = (x / 2).testBit j := by
  rw [Nat.testBit_div_two]
  unfold down
  by_cases h : j = 31
  · subst h; rw [if_pos rfl, Nat.testBit_lt_two_pow (by simpa using hx)]
  · rw [if_neg h, if_pos (by omega)]
/-- The taps added so far. -/
def added (y k : Nat) (j : Nat) : Bool := if j < k then (y ^^^ 2197175160).testBit j else y.testBit j

end Go.Proofs.Ytkelcmncjhnbgaa
