/- Texts put together: CrcPlain, CrcSum, CrcPuts, WalPlain, SixRefWrites -/
import Derived.Test.YtgljjdldhnajdaaGreatMPac00
import Derived.Laws.IdiomStrings
/- Plain mathematics of the statements over layer crc: no program, no world. A register of 32 bits, bit by bit; bits turned within 32 in a row are told. -/
namespace Go.Proofs.YtgljjdldhnajdaaGreat

/-! ### The register -/

/-- The register behind one bit, where what comes in is added to its lowest bit. -/
def stepB (x : Nat) (b : Bool) : Nat := x / 2 ^^^ (if (x.testBit 0 != b) = true then 2197175160 else 0)
/-- The register behind one bit that is 0. -/
def tap (x : Nat) : Nat := stepB x false
def tapN : Nat → Nat → Nat
  | 0, x => x
  | k + 1, x => tapN k (tap x)
def feedB (x : Nat) (u : List Bool) : Nat := u.foldl stepB x
def num : List Bool → Nat
  | [] => 0
  | b :: u => b.toNat + 2 * num u
def bitsN : Nat → Nat → List Bool
  | 0, _ => []
  | k + 1, n => (n % 2 == 1) :: bitsN k (n / 2)

theorem taps_lt : (2197175160 : Nat) < 2 ^ 32 := by decide

theorem stepB_lt {x : Nat} (b : Bool) (h : x < 2 ^ 32) : stepB x b < 2 ^ 32 := by
  unfold stepB
  refine Nat.xor_lt_two_pow (by omega) ?_
  split
  · decide
  · decide
theorem tap_lt {x : Nat} (h : x < 2 ^ 32) : tap x < 2 ^ 32 := stepB_lt _ h
theorem tapN_lt (k : Nat) : ∀ {x : Nat}, x < 2 ^ 32 → tapN k x < 2 ^ 32 := by
  induction k with
  | zero => intro x h; exact h
  | succ k ih => intro x h; exact ih (tap_lt h)
theorem feedB_lt (u : List Bool) : ∀ {x : Nat}, x < 2 ^ 32 → feedB x u < 2 ^ 32 := by
  induction u with
  | nil => intro x h; exact h
  | cons b u ih => intro x h; exact ih (stepB_lt b h)

theorem high (x : Nat) (b : Bool) (h : x < 2 ^ 32) : (stepB x b).testBit 31 = (x.testBit 0 != b) := by
  unfold stepB
  rw [Nat.testBit_xor, Nat.testBit_lt_two_pow (by omega)]
  cases (x.testBit 0 != b) with
  | true => decide
  | false => decide

theorem bit0_eq {x y : Nat} (h : x.testBit 0 = y.testBit 0) (h2 : x / 2 = y / 2) : x = y := by
  rw [Nat.testBit_zero, Nat.testBit_zero] at h
  have := decide_eq_decide.1 h
  omega

theorem xor_cancel {a b c : Nat} (h : a ^^^ c = b ^^^ c) : a = b := by
  have := congrArg (· ^^^ c) h
  simpa [Nat.xor_assoc] using this
theorem xor_cancel_left {a b c : Nat} (h : c ^^^ a = c ^^^ b) : a = b := by
  rw [Nat.xor_comm c, Nat.xor_comm c] at h
  exact xor_cancel h

theorem stepB_inj {x y : Nat} (b : Bool) (hx : x < 2 ^ 32) (hy : y < 2 ^ 32) (h : stepB x b = stepB y b) : x = y := by
  have h31 : (stepB x b).testBit 31 = (stepB y b).testBit 31 := by rw [h]
  rw [high x b hx, high y b hy] at h31
  have h0 : x.testBit 0 = y.testBit 0 := by
    cases hx0 : x.testBit 0 <;> cases hy0 : y.testBit 0 <;> cases b <;> simp_all
  unfold stepB at h
  rw [h0] at h
  exact bit0_eq h0 (xor_cancel h)
theorem tapN_inj (k : Nat) : ∀ {x y : Nat}, x < 2 ^ 32 → y < 2 ^ 32 → tapN k x = tapN k y → x = y := by
  induction k with
  | zero => intro x y _ _ h; exact h
  | succ k ih => intro x y hx hy h; exact stepB_inj false hx hy (ih (tap_lt hx) (tap_lt hy) h)
theorem feedB_inj (u : List Bool) : ∀ {x y : Nat}, x < 2 ^ 32 → y < 2 ^ 32 → feedB x u = feedB y u → x = y := by
  induction u with
  | nil => intro x y _ _ h; exact h
  | cons b u ih => intro x y hx hy h; exact stepB_inj b hx hy (ih (stepB_lt b hx) (stepB_lt b hy) h)

/-- All bits may be added ahead. -/
theorem tap_num1 (x : Nat) (b : Bool) (u : List Bool) : tap (x ^^^ num (b :: u)) = stepB x b ^^^ num u := by
  unfold tap stepB
  have h1 : num (b :: u) / 2 = num u := by simp only [num]; cases b <;> simp <;> omega
  have h2 : (num (b :: u)).testBit 0 = b := by
    rw [Nat.testBit_zero]; simp only [num]; cases b <;> simp <;> omega
  have h3 : (x ^^^ num (b :: u)) / 2 = x / 2 ^^^ num u := by
    rw [← h1]
    have := Nat.shiftRight_xor_distrib (a := x) (b := num (b :: u)) (i := 1)
    simpa [Nat.shiftRight_eq_div_pow] using this
  rw [h3, Nat.testBit_xor, h2]
  have h4 : ((x.testBit 0 ^^ b) != false) = (x.testBit 0 != b) := by cases x.testBit 0 <;> cases b <;> rfl
  rw [h4, Nat.xor_assoc, Nat.xor_assoc, Nat.xor_comm (num u)]
theorem tap_num (u : List Bool) : ∀ x : Nat, tapN u.length (x ^^^ num u) = feedB x u := by
  induction u with
  | nil => intro x; simp [num, tapN, feedB]
  | cons b u ih =>
    intro x
    show tapN u.length (tap (x ^^^ num (b :: u))) = feedB (stepB x b) u
    rw [tap_num1, ih]

theorem num_lt (u : List Bool) : num u < 2 ^ u.length := by
  induction u with
  | nil => simp [num]
  | cons b u ih => simp only [num, List.length_cons, Nat.pow_succ]; cases b <;> simp <;> omega
theorem num_inj (u : List Bool) : ∀ v : List Bool, u.length = v.length → num u = num v → u = v := by
  induction u with
  | nil => intro v h _; cases v with
    | nil => rfl
    | cons _ _ => simp at h
  | cons b u ih =>
    intro v h hn
    cases v with
    | nil => simp at h
    | cons c v =>
      simp only [num] at hn
      have hb : b = c := by cases b <;> cases c <;> simp at hn ⊢ <;> omega
      subst hb
      rw [ih v (by simpa using h) (by omega)]

/-- At most 32 bits in a row, from one register on, are told by the register behind them. -/
theorem mid_inj {x : Nat} (hx : x < 2 ^ 32) {u v : List Bool} (hl : u.length = v.length) (h32 : u.length ≤ 32) (h : feedB x u = feedB x v) : u = v := by
  rw [← tap_num, ← tap_num, ← hl] at h
  have hp : 2 ^ u.length ≤ 2 ^ 32 := Nat.pow_le_pow_right (by decide) h32
  have hu := num_lt u
  have hv := num_lt v
  rw [← hl] at hv
  have h' := tapN_inj _ (Nat.xor_lt_two_pow hx (by omega)) (Nat.xor_lt_two_pow hx (by omega)) h
  exact num_inj u v hl (xor_cancel_left h')

theorem feedB_append (x : Nat) (u v : List Bool) : feedB x (u ++ v) = feedB (feedB x u) v := List.foldl_append

theorem burst_bits {r : Nat} (hr : r < 2 ^ 32) {u v : List Bool} (hl : u.length = v.length) (f : Nat) (h : ∀ i, i < f ∨ f + 32 ≤ i → u[i]? = v[i]?) (he : feedB r u = feedB r v) : u = v := by
  have split3 : ∀ w : List Bool, w = w.take f ++ ((w.drop f).take 32 ++ w.drop (f + 32)) := by
    intro w
    rw [← List.drop_drop, List.take_append_drop, List.take_append_drop]
  have hpre : u.take f = v.take f := by
    apply List.ext_getElem?
    intro i
    rw [List.getElem?_take, List.getElem?_take]
    split
    · exact h i (by omega)
    · rfl
  have hpost : u.drop (f + 32) = v.drop (f + 32) := by
    apply List.ext_getElem?
    intro i
    rw [List.getElem?_drop, List.getElem?_drop]
    exact h _ (by omega)
  rw [split3 u, split3 v, feedB_append, feedB_append, feedB_append, feedB_append, hpre, hpost] at he
  have hx : feedB r (v.take f) < 2 ^ 32 := feedB_lt _ hr
  have hmid := mid_inj hx (u := (u.drop f).take 32) (v := (v.drop f).take 32) (by simp [hl]) (by simp; omega) (feedB_inj _ (feedB_lt _ hx) (feedB_lt _ hx) he)
  rw [split3 u, split3 v, hpre, hpost, hmid]

/-! ### Bytes -/

theorem bitsN_len (k : Nat) : ∀ n, (bitsN k n).length = k := by
  induction k with
  | zero => intro n; rfl
  | succ k ih => intro n; simp [bitsN, ih]
theorem num_bitsN (k : Nat) : ∀ n, n < 2 ^ k → num (bitsN k n) = n := by
  induction k with
  | zero => intro n h; simp only [bitsN, num]; omega
  | succ k ih =>
    intro n h
    simp only [bitsN, num]
    rw [ih (n / 2) (by rw [Nat.pow_succ] at h; omega)]
    rcases Nat.mod_two_eq_zero_or_one n with h0 | h0 <;> simp [h0] <;> omega
theorem bitsN_get (k : Nat) : ∀ n i, i < k → (bitsN k n)[i]? = some (n.testBit i) := by
  induction k with
  | zero => intro n i h; omega
  | succ k ih =>
    intro n i h
    cases i with
    | zero => simp only [bitsN, List.getElem?_cons_zero, Nat.testBit_zero]; rcases Nat.mod_two_eq_zero_or_one n with h0 | h0 <;> simp [h0]
    | succ i => simp only [bitsN, List.getElem?_cons_succ]; rw [ih _ _ (by omega), Nat.testBit_succ]

def thr (r b : Nat) : Nat := tapN 8 (r ^^^ b)
theorem thr_bits (r b : Nat) (h : b < 256) : thr r b = feedB r (bitsN 8 b) := by
  have := tap_num (bitsN 8 b) r
  rw [bitsN_len, num_bitsN 8 b h] at this
  exact this

def feedL (r : Nat) (l : List UInt8) : Nat := l.foldl (fun r b => thr r b.toNat) r
def bitsL (l : List UInt8) : List Bool := l.flatMap fun b => bitsN 8 b.toNat
theorem feedL_bits (l : List UInt8) : ∀ r, feedL r l = feedB r (bitsL l) := by
  induction l with
  | nil => intro r; rfl
  | cons b l ih =>
    intro r
    show feedL (thr r b.toNat) l = feedB r (bitsN 8 b.toNat ++ bitsL l)
    rw [feedB_append, ih, thr_bits _ _ b.toNat_lt]
theorem feedL_append (r : Nat) (l m : List UInt8) : feedL r (l ++ m) = feedL (feedL r l) m := List.foldl_append
theorem feedL_lt (l : List UInt8) {r : Nat} (h : r < 2 ^ 32) : feedL r l < 2 ^ 32 := by rw [feedL_bits]; exact feedB_lt _ h
theorem thr_lt {r b : Nat} (h : r < 2 ^ 32) (hb : b < 256) : thr r b < 2 ^ 32 := by rw [thr_bits _ _ hb]; exact feedB_lt _ h

/-- The sum of bytes. -/
def sumL (l : List UInt8) : Nat := 4294967295 - feedL 4294967295 l
theorem sumL_lt (l : List UInt8) : sumL l < 4294967296 := by unfold sumL; omega
theorem full_lt : (4294967295 : Nat) < 2 ^ 32 := by decide
theorem sumL_eq {l m : List UInt8} (h : sumL l = sumL m) : feedL 4294967295 l = feedL 4294967295 m := by
  have h1 := feedL_lt l full_lt
  have h2 := feedL_lt m full_lt
  unfold sumL at h
  omega

/-- A sum's bytes, the highest first. -/
def four (x : Nat) : List UInt8 := [UInt8.ofNat (x / 16777216), UInt8.ofNat (x / 65536), UInt8.ofNat (x / 256), UInt8.ofNat x]
theorem four_len (x : Nat) : (four x).length = 4 := rfl
theorem four_inj {x y : Nat} (hx : x < 4294967296) (hy : y < 4294967296) (h : four x = four y) : x = y := by
  unfold four at h
  simp only [List.cons.injEq, and_true] at h
  obtain ⟨h1, h2, h3, h4⟩ := h
  have g1 := congrArg UInt8.toNat h1
  have g2 := congrArg UInt8.toNat h2
  have g3 := congrArg UInt8.toNat h3
  have g4 := congrArg UInt8.toNat h4
  simp only [UInt8.toNat_ofNat'] at g1 g2 g3 g4
  omega

/-! ### Bits of bytes -/

def bitL (l : List UInt8) (i : Nat) : Bool := (l.getD (i / 8) 0).toNat.testBit (i % 8)

theorem bitsL_len (l : List UInt8) : (bitsL l).length = 8 * l.length := by
  induction l with
  | nil => rfl
  | cons b l ih => simp only [bitsL, List.flatMap_cons, List.length_append, bitsN_len, List.length_cons]; unfold bitsL at ih; omega
theorem bitsL_get (l : List UInt8) : ∀ i, i < 8 * l.length → (bitsL l)[i]? = some (bitL l i) := by
  induction l with
  | nil => intro i h; simp at h
  | cons b l ih =>
    intro i h
    show (bitsN 8 b.toNat ++ bitsL l)[i]? = _
    by_cases h8 : i < 8
    · rw [List.getElem?_append_left (by rw [bitsN_len]; exact h8), bitsN_get _ _ _ h8]
      unfold bitL
      rw [show i / 8 = 0 by omega, show i % 8 = i by omega]
      rfl
    · rw [List.getElem?_append_right (by rw [bitsN_len]; omega), bitsN_len, ih _ (by simp at h; omega)]
      unfold bitL
      rw [show i / 8 = (i - 8) / 8 + 1 by omega, show i % 8 = (i - 8) % 8 by omega]
      rfl

theorem byte_ext {a b : UInt8} (h : ∀ k, k < 8 → a.toNat.testBit k = b.toNat.testBit k) : a = b := by
  apply UInt8.toNat_inj.1
  apply Nat.eq_of_testBit_eq
  intro k
  by_cases hk : k < 8
  · exact h k hk
  · have ha := a.toNat_lt
    have hb := b.toNat_lt
    have : (2 : Nat) ^ 8 ≤ 2 ^ k := Nat.pow_le_pow_right (by decide) (by omega)
    rw [Nat.testBit_lt_two_pow (by omega), Nat.testBit_lt_two_pow (by omega)]

theorem list_ext {l m : List UInt8} (hl : l.length = m.length) (h : ∀ i, i < 8 * l.length → bitL l i = bitL m i) : l = m := by
  apply List.ext_getElem hl
  intro j h1 h2
  apply byte_ext
  intro k hk
  have := h (8 * j + k) (by omega)
  unfold bitL at this
  rw [show (8 * j + k) / 8 = j by omega, show (8 * j + k) % 8 = k by omega] at this
  simpa [List.getD_eq_getElem?_getD, h1, h2] using this

/-- Bits turned within 32 in a row are told by the sum. -/
theorem burst {s t : List UInt8} (hl : s.length = t.length) (f : Nat) (h : ∀ i, i < 8 * s.length → i < f ∨ f + 32 ≤ i → bitL s i = bitL t i) (he : sumL s = sumL t) : s = t := by
  have h1 := sumL_eq he
  rw [feedL_bits, feedL_bits] at h1
  have hbl : (bitsL s).length = (bitsL t).length := by rw [bitsL_len, bitsL_len, hl]
  have hb := burst_bits full_lt hbl f (fun i hi => by
    by_cases hs : i < 8 * s.length
    · rw [bitsL_get s i hs, bitsL_get t i (by omega), h i hs hi]
    · rw [List.getElem?_eq_none (by rw [bitsL_len]; omega), List.getElem?_eq_none (by rw [bitsL_len]; omega)]) h1
  apply list_ext hl
  intro i hi
  have h2 := bitsL_get s i hi
  rw [hb, bitsL_get t i (by omega)] at h2
  exact (Option.some.inj h2).symm

/-! ### Bits turned -/

/-- The bytes with one bit turned. -/
def flip (l : List UInt8) (i : Nat) : List UInt8 := l.set (i / 8) (UInt8.ofNat ((l.getD (i / 8) 0).toNat ^^^ 2 ^ (i % 8)))
theorem flip_len (l : List UInt8) (i : Nat) : (flip l i).length = l.length := by simp [flip]
theorem flip_bit {l : List UInt8} {i : Nat} (h : i < 8 * l.length) (k : Nat) : bitL (flip l i) k = (bitL l k ^^ decide (k = i)) := by
  unfold bitL flip
  have hi : i / 8 < l.length := by omega
  by_cases hk : k / 8 = i / 8
  · have hg : (l.set (i / 8) (UInt8.ofNat ((l.getD (i / 8) 0).toNat ^^^ 2 ^ (i % 8)))).getD (k / 8) 0 = UInt8.ofNat ((l.getD (i / 8) 0).toNat ^^^ 2 ^ (i % 8)) := by
      rw [hk, List.getD_eq_getElem?_getD, List.getElem?_set_self hi]; rfl
    have hlt : (l.getD (i / 8) 0).toNat ^^^ 2 ^ (i % 8) < 256 := by
      have h8 : i % 8 < 8 := by omega
      have hp : 2 ^ (i % 8) < 2 ^ 8 := Nat.pow_lt_pow_right (by decide) h8
      exact Nat.xor_lt_two_pow (n := 8) (l.getD (i / 8) 0).toNat_lt hp
    rw [hg, UInt8.toNat_ofNat', Nat.mod_eq_of_lt hlt, Nat.testBit_xor, Nat.testBit_two_pow, hk]
    congr 1
    apply decide_eq_decide.2
    omega
  · have hg : (l.set (i / 8) (UInt8.ofNat ((l.getD (i / 8) 0).toNat ^^^ 2 ^ (i % 8)))).getD (k / 8) 0 = l.getD (k / 8) 0 := by
      rw [List.getD_eq_getElem?_getD, List.getElem?_set_ne (by omega), ← List.getD_eq_getElem?_getD]
    rw [hg, decide_eq_false (by omega), Bool.xor_false]

/-- What stands behind k rounds: the bits of a mask turned from a place on; whether one was. -/
structure Turned (P : List UInt8) (f mask k : Nat) (L : List UInt8) (t : Bool) : Prop where
  len : L.length = P.length
  bit : ∀ i, bitL L i = (bitL P i ^^ decide (f ≤ i ∧ i < f + k ∧ mask.testBit (i - f) = true))
  was : t = true ↔ ∃ j, j < k ∧ mask.testBit j = true

theorem Turned.start (P : List UInt8) (f mask : Nat) : Turned P f mask 0 P false :=
  ⟨rfl, fun i => by rw [decide_eq_false (by omega), Bool.xor_false], ⟨(fun h => by cases h), fun ⟨j, h, _⟩ => by omega⟩⟩
theorem Turned.no {P L : List UInt8} {f mask k : Nat} {t : Bool} (h : Turned P f mask k L t) (hm : mask.testBit k = false) : Turned P f mask (k + 1) L t := by
  refine ⟨h.len, fun i => ?_, ?_⟩
  · rw [h.bit i]
    congr 1
    apply decide_eq_decide.2
    constructor
    · rintro ⟨a, b, c⟩; exact ⟨a, by omega, c⟩
    · rintro ⟨a, b, c⟩
      refine ⟨a, ?_, c⟩
      by_cases hi : i - f = k
      · rw [hi, hm] at c; cases c
      · omega
  · rw [h.was]
    constructor
    · rintro ⟨j, a, b⟩; exact ⟨j, by omega, b⟩
    · rintro ⟨j, a, b⟩
      by_cases hj : j = k
      · rw [hj, hm] at b; cases b
      · exact ⟨j, by omega, b⟩
theorem Turned.yes {P L : List UInt8} {f mask k : Nat} {t : Bool} (h : Turned P f mask k L t) (hm : mask.testBit k = true) (hk : f + k < 8 * P.length) : Turned P f mask (k + 1) (flip L (f + k)) true := by
  refine ⟨by rw [flip_len, h.len], fun i => ?_, ⟨fun _ => ⟨k, by omega, hm⟩, fun _ => rfl⟩⟩
  rw [flip_bit (by rw [h.len]; exact hk), h.bit i, Bool.xor_assoc]
  congr 1
  by_cases hi : i = f + k
  · subst hi
    rw [decide_eq_false (by omega), decide_eq_true rfl, decide_eq_true ⟨by omega, by omega, by rw [show f + k - f = k by omega]; exact hm⟩]
    rfl
  · rw [decide_eq_false hi, Bool.xor_false]
    apply decide_eq_decide.2
    constructor
    · rintro ⟨a, b, c⟩; exact ⟨a, by omega, c⟩
    · rintro ⟨a, b, c⟩; exact ⟨a, by omega, c⟩

theorem bitL_take {l : List UInt8} {n i : Nat} (h : i < 8 * n) : bitL (l.take n) i = bitL l i := by
  unfold bitL
  rw [List.getD_eq_getElem?_getD, List.getElem?_take, if_pos (by omega), ← List.getD_eq_getElem?_getD]
theorem bitL_drop (l : List UInt8) (n i : Nat) : bitL (l.drop n) i = bitL l (8 * n + i) := by
  unfold bitL
  rw [List.getD_eq_getElem?_getD, List.getElem?_drop, ← List.getD_eq_getElem?_getD, show (8 * n + i) / 8 = n + i / 8 by omega, show (8 * n + i) % 8 = i % 8 by omega]

/-- Bits turned within 32 in a row, all of them in the text or all in its sum, are told. -/
theorem turned_said {s L : List UInt8} {f mask k : Nat} {t : Bool} (h : Turned (s ++ four (sumL s)) f mask k L t) (hk : k ≤ 32) (hf : f + k ≤ 8 * s.length ∨ 8 * s.length ≤ f ∧ f + k ≤ 8 * (s.length + 4)) :
    t = true ↔ L.drop s.length ≠ four (sumL (L.take s.length)) := by
  have hPl : (s ++ four (sumL s)).length = s.length + 4 := by rw [List.length_append, four_len]
  have hL : L.length = s.length + 4 := by rw [h.len, hPl]
  have hs : (s ++ four (sumL s)).take s.length = s := List.take_left
  have hd : (s ++ four (sumL s)).drop s.length = four (sumL s) := List.drop_left
  constructor
  · intro ht heq
    obtain ⟨j, hj, hm⟩ := h.was.1 ht
    have hbit := h.bit (f + j)
    rw [decide_eq_true ⟨by omega, by omega, by rw [show f + j - f = j by omega]; exact hm⟩] at hbit
    rcases hf with hf | ⟨hf1, hf2⟩
    · have e1 : L.drop s.length = four (sumL s) := by
        rw [← hd]
        apply list_ext (by simp [hL, hPl, four_len])
        intro i _
        rw [bitL_drop, bitL_drop, h.bit, decide_eq_false (by omega), Bool.xor_false]
      have e2 := four_inj (sumL_lt _) (sumL_lt _) (e1.symm.trans heq)
      have e3 : s = L.take s.length := burst (by simp [hL]) f (fun i hi hio => by
        rw [bitL_take hi, h.bit, decide_eq_false (by omega), Bool.xor_false]
        conv => lhs; rw [← hs]
        exact bitL_take hi) e2
      have e4 : bitL L (f + j) = bitL s (f + j) := by rw [← bitL_take (l := L) (n := s.length) (by omega), ← e3]
      have e5 : bitL (s ++ four (sumL s)) (f + j) = bitL s (f + j) := by rw [← bitL_take (n := s.length) (by omega), hs]
      rw [e4, e5] at hbit
      cases hb : bitL s (f + j) <;> rw [hb] at hbit <;> cases hbit
    · have e1 : L.take s.length = s := by
        apply list_ext (by simp [hL])
        intro i hi
        have hi' : i < 8 * s.length := by rw [List.length_take, hL] at hi; omega
        rw [bitL_take hi', h.bit, decide_eq_false (by omega), Bool.xor_false, ← bitL_take (n := s.length) hi', hs]
      rw [e1] at heq
      have e2 : bitL L (f + j) = bitL (four (sumL s)) (f + j - 8 * s.length) := by rw [← heq, bitL_drop]; congr 1; omega
      have e3 : bitL (s ++ four (sumL s)) (f + j) = bitL (four (sumL s)) (f + j - 8 * s.length) := by
        conv => rhs; rw [← hd]
        rw [bitL_drop]; congr 1; omega
      rw [e2, e3] at hbit
      cases hb : bitL (four (sumL s)) (f + j - 8 * s.length) <;> rw [hb] at hbit <;> cases hbit
  · intro hne
    apply Classical.byContradiction
    intro ht
    apply hne
    have hLP : L = s ++ four (sumL s) := by
      apply list_ext h.len
      intro i _
      rw [h.bit, decide_eq_false, Bool.xor_false]
      rintro ⟨a, b, c⟩
      exact ht (h.was.2 ⟨i - f, by omega, c⟩)
    rw [hLP, hs, hd]

/-! ### What the code does, round by round -/

theorem tapN_last (k : Nat) : ∀ x, tapN (k + 1) x = tap (tapN k x) := by
  induction k with
  | zero => intro x; rfl
  | succ k ih => intro x; exact ih (tap x)
/-- The bit that goes out makes the mask. -/
theorem tap_code (x : Nat) : x / 2 ^^^ (2197175160 &&& ((4294967296 - x % 2) % 4294967296)) = tap x := by
  unfold tap stepB
  congr 1
  rw [Nat.testBit_zero]
  rcases Nat.mod_two_eq_zero_or_one x with h | h <;> rw [h] <;> decide

theorem feed_next (x c k : Nat) (h : k < 8) : feedB x ((bitsN 8 c).take (k + 1)) = stepB (feedB x ((bitsN 8 c).take k)) (c.testBit k) := by
  have h1 := bitsN_get 8 c k h
  rw [List.take_add_one, h1, feedB_append]
  rfl
theorem feed_all (x c : Nat) (h : c < 256) : feedB x ((bitsN 8 c).take 8) = thr x c := by
  rw [List.take_of_length_le (by rw [bitsN_len]; exact Nat.le_refl 8), thr_bits _ _ h]

/-- The register turned, from a bit on. -/
def turnedFrom (r i : Nat) : Nat := (4294967295 - r) / 2 ^ i
theorem turned_top (r : Nat) : turnedFrom r 32 = 0 := by unfold turnedFrom; omega
theorem turned_next (r i : Nat) (hr : r < 4294967296) (hi : i < 32) : turnedFrom r i = 2 * turnedFrom r (i + 1) + (if r.testBit i then 0 else 1) := by
  unfold turnedFrom
  have h1 := Nat.testBit_two_pow_sub_succ (n := 32) (x := r) (by simpa using hr) i
  rw [decide_eq_true hi, Bool.true_and, show 2 ^ 32 - (r + 1) = 4294967295 - r by omega, Nat.testBit_eq_decide_div_mod_eq] at h1
  rw [Nat.pow_succ, ← Nat.div_div_eq_div_mul]
  cases hb : r.testBit i with
  | true => rw [hb] at h1; simp at h1 ⊢; omega
  | false => rw [hb] at h1; simp at h1 ⊢; omega

/-- The register moved down so far. -/
def down (x k : Nat) (j : Nat) : Bool := if j < k then x.testBit (j + 1) else x.testBit j
theorem down_all (x j : Nat) (hx : x < 4294967296) (hj : j < 32) : (if j = 31 then false else down x 31 j) = (x / 2).testBit j := by
  rw [Nat.testBit_div_two]
  unfold down
  by_cases h : j = 31
  · subst h; rw [if_pos rfl, Nat.testBit_lt_two_pow (by simpa using hx)]
  · rw [if_neg h, if_pos (by omega)]
/-- The taps added so far. -/
def added (y k : Nat) (j : Nat) : Bool := if j < k then (y ^^^ 2197175160).testBit j else y.testBit j

end Go.Proofs.YtgljjdldhnajdaaGreat
/- The sum, bit by bit. -/
set_option linter.unusedVariables false
set_option maxRecDepth 100000
namespace Go.Proofs.YtgljjdldhnajdaaGreat
open Go.RowKit

theorem tap_bits (x : Nat) (hx : x < 4294967296) : bits BinOp.xor IntKind.u32 ((x : Int) / 2) (bits BinOp.and IntKind.u32 2197175160 (-bits BinOp.and IntKind.u32 (x : Int) 1 % 4294967296)) = ((tap x : Nat) : Int) := by
  have h1 : bits BinOp.and IntKind.u32 (x : Int) 1 = ((x % 2 : Nat) : Int) := by
    rw [u32_and _ _ (by omega) (by omega) (by omega) (by omega), show (x : Int).toNat = x by omega, show (1 : Int).toNat = 1 from rfl, nat_mask1]
  have h2 : (-(((x % 2 : Nat) : Int)) % 4294967296) = (((4294967296 - x % 2) % 4294967296 : Nat) : Int) := by omega
  have h4 : (4294967296 - x % 2) % 4294967296 < 4294967296 := Nat.mod_lt _ (by decide)
  have h3 := u32_and 2197175160 (((4294967296 - x % 2) % 4294967296 : Nat) : Int) (by omega) (by omega) (by omega) (by omega)
  have h5 : 2197175160 &&& ((4294967296 - x % 2) % 4294967296) < 2 ^ 32 := Nat.and_lt_two_pow _ h4
  rw [h1, h2, h3, show ((2197175160 : Int)).toNat = 2197175160 from rfl, Int.toNat_natCast, show ((x : Int) / 2) = ((x / 2 : Nat) : Int) by omega,
    u32_xor_nat _ _ (by omega) (by omega), tap_code]

set_option maxHeartbeats 400000 in
theorem crc_through (r b : Nat) (w : World) (hr : r < 4294967296) (hb : b < 256) :
    Calls Tryz.prog 205 #[.int .u32 r, .int .u8 b] w fun e w' => e = .returned (.int .u32 (thr r b)) ∧ w = w' := by
  have h0 : bits BinOp.xor IntKind.u32 (r : Int) (b : Int) = ((tapN 0 (r ^^^ b) : Nat) : Int) := u32_xor_nat r b hr (by omega)
  have hx : r ^^^ b < 4294967296 := Nat.xor_lt_two_pow (n := 32) hr (by omega)
  have h8 : tapN 8 (r ^^^ b) = thr r b := rfl
  generalize r ^^^ b = x at *
  go_enter Tryz.func205, Tryz.ntmps205
  go_wp2_with fail
  go_loopw [0, 9] (fun y i wr => ∃ k : Nat, k ≤ 8 ∧ i = .int .i64 k ∧ y = .int .u32 (tapN k x) ∧ wr = w) (fun y i wr => 8 - (intOf i).toNat)
  case atStart => exact ⟨0, by omega, rfl, rfl, rfl⟩
  case round =>
    obtain ⟨k, hk, rfl, rfl, rfl⟩ := hrel
    by_cases hlt : k < 8
    · have hbit := tap_bits (tapN k x) (tapN_lt k hx)
      rw [← tapN_last] at hbit
      go_wp2
      go_roundw
      case rel => exact ⟨k + 1, by omega, by go_num, rfl, trivial⟩
      case measure => simp [intOf]; omega
    · obtain rfl : k = 8 := by omega
      rw [h8]
      go_wp2
      go_ret
      exact ⟨rfl, rfl⟩

def joinedC (T : List ByteArray) : List UInt8 := T.flatMap fun s => s.data.toList

theorem joinedC_next (T : List ByteArray) (k : Nat) (h : k < T.length) : joinedC (T.take (k + 1)) = joinedC (T.take k) ++ (T.getD k ByteArray.empty).data.toList := by
  unfold joinedC
  rw [List.take_add_one, List.getElem?_eq_getElem h, List.flatMap_append, List.getD_eq_getElem?_getD, List.getElem?_eq_getElem h]
  simp
theorem take_next (l : List UInt8) (k : Nat) (h : k < l.length) : l.take (k + 1) = l.take k ++ [l[k]] := by
  rw [List.take_add_one, List.getElem?_eq_getElem h]; rfl
theorem feedL_next (r : Nat) (l : List UInt8) (k : Nat) (h : k < l.length) : feedL r (l.take (k + 1)) = thr (feedL r (l.take k)) (l[k]).toNat := by
  rw [take_next l k h, feedL_append]; rfl

theorem feedS_next (r : Nat) (s : ByteArray) (k : Nat) (h : k < s.size) : feedL r (s.data.toList.take (k + 1)) = thr (feedL r (s.data.toList.take k)) (s[k]).toNat :=
  feedL_next r s.data.toList k (by simpa using h)
theorem feedS_all (r : Nat) (s : ByteArray) : feedL r (s.data.toList.take s.size) = feedL r s.data.toList := by
  rw [List.take_of_length_le (by simp)]
theorem feedL_lt' (l : List UInt8) {r : Nat} (h : r < 4294967296) : feedL r l < 4294967296 := feedL_lt l h
/-- Each bit of a register turned. -/
def notN (x : Nat) : Nat := 4294967295 - x
theorem not_nat (q : Nat) (h : q < 4294967296) : 4294967295 ^^^ q = notN q := by
  apply Nat.eq_of_testBit_eq
  intro i
  have h1 := Nat.testBit_two_pow_sub_succ (n := 32) (x := q) (by simpa using h) i
  have h2 := Nat.testBit_two_pow_sub_one 32 i
  rw [show 2 ^ 32 - (q + 1) = notN q by unfold notN; omega] at h1
  rw [show (2 : Nat) ^ 32 - 1 = 4294967295 by decide] at h2
  rw [Nat.testBit_xor, h1, h2]
  by_cases hi : i < 32
  · simp [hi]
  · have : q.testBit i = false := Nat.testBit_lt_two_pow (Nat.lt_of_lt_of_le h (Nat.pow_le_pow_right (n := 2) (by decide) (show 32 ≤ i by omega)))
    simp [hi, this]
theorem not_bits (q : Nat) (h : q < 4294967296) : bits BinOp.xor IntKind.u32 IntKind.u32.max (q : Int) = ((notN q : Nat) : Int) := by
  rw [show IntKind.u32.max = 4294967295 by decide, u32_xor _ _ (by omega) (by omega) (by omega) (by omega), show (4294967295 : Int).toNat = 4294967295 from rfl, Int.toNat_natCast, not_nat q h]
theorem not_ret (q : Nat) (h : q < 4294967296) : Ending.returned (.int .u32 (bits BinOp.xor IntKind.u32 IntKind.u32.max (q : Int))) = Ending.returned (.int .u32 ((notN q : Nat) : Int)) := by rw [not_bits q h]

set_option maxHeartbeats 400000 in
theorem crc_Sum (a : Option Addr) (b off len cap : Nat) (T : List ByteArray) (w : World) (hlen : Hid (len = T.length)) (hl : len ≤ 9223372036854775807) (hz : Hid (RowS b off T w)) (hs : Hid (∀ s ∈ T, s.size ≤ 140737488355328)) (hab : Hid (len = 0 ∨ a = some ⟨b, off, none⟩)) :
    Calls Tryz.prog 196 #[.slice a len cap] w fun e w' => e = .returned (.int .u32 (sumL (joinedC T))) ∧ w = w' := by
  go_enter Tryz.func196, Tryz.ntmps196
  go_wp2_with fail
  go_loopw [3, 9] (fun y i wr => ∃ k : Nat, k ≤ len ∧ i = .int .i64 k ∧ y = .int .u32 (feedL 4294967295 (joinedC (T.take k))) ∧ wr = w) (fun y i wr => len - (intOf i).toNat)
  case atStart => exact ⟨0, by omega, rfl, rfl, rfl⟩
  case round =>
    obtain ⟨k, hk, rfl, rfl, rfl⟩ := hrel
    by_cases hlt : k < len
    · have hkT : k < T.length := by rw [← hlen.out]; exact hlt
      obtain ⟨hb, c1⟩ := hz.out k hkT
      have ha : a = some ⟨b, off, none⟩ := by rcases hab.out with h | h; (omega); (exact h)
      have hnext := Lib.hid (joinedC_next T k hkT)
      have hsz : (T.getD k ByteArray.empty).size ≤ 140737488355328 := hs.out _ (by rw [List.getD_eq_getElem?_getD, List.getElem?_eq_getElem hkT]; exact List.getElem_mem _)
      have hrl := Lib.hid (feedL_lt' (joinedC (T.take k)) (r := 4294967295) (by decide))
      clear hb
      generalize T.getD k ByteArray.empty = s at *
      obtain ⟨R, hR⟩ : ∃ R, R = feedL 4294967295 (joinedC (T.take k)) := ⟨_, rfl⟩
      rw [← hR] at hrl ⊢
      have HR := Lib.hid hR
      clear hR
      subst ha
      go_wp2_with fail
      go_loopw [3, 15] (fun y i wo => ∃ j : Nat, j ≤ s.size ∧ i = .int .i64 j ∧ y = .int .u32 (feedL R (s.data.toList.take j)) ∧ wo = wr) (fun y i wo => s.size - (intOf i).toNat)
      case atStart => exact ⟨0, by omega, rfl, rfl, rfl⟩
      case round =>
        obtain ⟨j, hj, rfl, rfl, rfl⟩ := hrel
        by_cases hjt : j < s.size
        · have hfn := feedS_next R s j hjt
          have hq := feedL_lt' (s.data.toList.take j) hrl.out
          generalize feedL R (s.data.toList.take j) = q at *
          have hbt : (s[j]).toNat < 256 := (s[j]).toNat_lt
          go_wp2_with fail
          refine (crc_through q (s[j]).toNat wr hq hbt).mono ?_
          rintro e w2 ⟨rfl, rfl⟩
          go_wp2_with fail
          go_roundw
          case rel => exact ⟨j + 1, by omega, by go_num, by rw [hfn], trivial⟩
          case measure => simp [intOf]; omega
        · obtain rfl : j = s.size := by omega
          have hend : feedL R (s.data.toList.take s.size) = feedL 4294967295 (joinedC (T.take (k + 1))) := by
            rw [feedS_all, hnext.out, feedL_append, HR.out]
          rw [hend]
          clear hend
          go_wp2_with fail
          go_roundw
          case rel => exact ⟨k + 1, by omega, by go_num, rfl, trivial⟩
          case measure => simp [intOf]; omega
    · obtain rfl : k = len := by omega
      have hall : joinedC (T.take k) = joinedC T := by rw [hlen.out, List.take_length]
      have hlt := feedL_lt' (joinedC T) (r := 4294967295) (by decide)
      rw [hall]
      have hsum : sumL (joinedC T) = notN (feedL 4294967295 (joinedC T)) := rfl
      generalize feedL 4294967295 (joinedC T) = q at *
      go_wp2_with fail
      go_ret
      exact ⟨not_ret q hlt, rfl⟩
end Go.Proofs.YtgljjdldhnajdaaGreat
/- A text with its sum behind it, put and taken. -/
set_option linter.unusedVariables false
set_option maxRecDepth 100000
namespace Go.Proofs.YtgljjdldhnajdaaGreat
open Go.RowKit

theorem conv_four (W : World) (g x : Nat) (hg : g = W.heap.size) (c0 c1 c2 c3 : Int) (h0 : c0 = ((x / 16777216 % 256 : Nat) : Int)) (h1 : c1 = ((x / 65536 % 256 : Nat) : Int)) (h2 : c2 = ((x / 256 % 256 : Nat) : Int)) (h3 : c3 = ((x % 256 : Nat) : Int)) :
    (convert 110 9 (.slice (some ⟨g, 0, none⟩) 4 4)).run Tryz.prog (W.alloc (.cells #[.int .u8 c0, .int .u8 c1, .int .u8 c2, .int .u8 c3] 5)) = .ok (.string (bs (four x))) (W.alloc (.cells #[.int .u8 c0, .int .u8 c1, .int .u8 c2, .int .u8 c3] 5)) := by
  subst hg h0 h1 h2 h3
  refine run_convert_bytes_back (P := Tryz.prog) _ 110 9 5 ⟨W.heap.size, 0, none⟩ 4 (four x) Tryz.underlying110 Tryz.underlying5 Tryz.underlying9 ?_
  intro j hj
  have hj4 : j < 4 := hj
  have hadd : (⟨W.heap.size, 0, none⟩ : Addr).add j = ⟨W.heap.size, 0 + j, none⟩ := by unfold Addr.add; split <;> simp_all
  rw [hadd, World.cell?_alloc_mark]
  have : j = 0 ∨ j = 1 ∨ j = 2 ∨ j = 3 := by omega
  rcases this with rfl | rfl | rfl | rfl <;> simp [four, ofNat_toNat]

set_option maxHeartbeats 400000 in
theorem crc_sumOf (s : ByteArray) (w : World) (hs : s.size ≤ 140737488355328) :
    Calls Tryz.prog 167 #[.string s] w fun e w' => e = .returned (.string (bs (four (sumL s.data.toList)))) ∧ Below w.heap.size w w' := by
  have hrow := row_new w [s] 9
  have hj : joinedC [s] = s.data.toList := by simp [joinedC]
  have hlt := sumL_lt s.data.toList
  obtain ⟨x, hx⟩ : ∃ x, x = sumL s.data.toList := ⟨_, rfl⟩
  rw [← hx] at hlt ⊢
  have HX := Lib.hid hx
  clear hx
  go_enter Tryz.func167, Tryz.ntmps167
  go_wp2_with fail
  refine (crc_Sum (some ⟨w.heap.size, 0, none⟩) w.heap.size 0 1 1 [s] _ (Lib.hid rfl) (by omega) (Lib.hid hrow) (Lib.hid (by simpa using hs)) (Lib.hid (.inr rfl))).mono ?_
  rintro e w1 ⟨rfl, rfl⟩
  rw [hj, ← HX.out]
  have hconv := conv_four (w.alloc (.cells #[.string s] 9)) (w.heap.size + 1) x (by simp) ((x : Int) / 16777216) ((x : Int) / 65536 % 256) ((x : Int) / 256 % 256) ((x : Int) % 256) (by omega) (by omega) (by omega) (by omega)
  go_wp2
  go_ret
  exact ⟨rfl, ((Below.refl _ _).alloc (Nat.le_refl _) _).alloc (by simp) _⟩

set_option maxHeartbeats 400000 in
theorem crc_Put (s : ByteArray) (w : World) (hs : s.size ≤ 140737488351232) :
    Calls Tryz.prog 126 #[.string s] w fun e w' => e = .returned (.string (bs (s.data.toList ++ four (sumL s.data.toList)))) ∧ Below w.heap.size w w' := by
  have hcat := cat_bs s (four (sumL s.data.toList))
  have hsum : (s.size : Int) + ((bs (four (sumL s.data.toList))).size : Int) ≤ 9223372036854775807 := by rw [bs_size, four_len]; omega
  go_enter Tryz.func126, Tryz.ntmps126
  go_wp2_with fail
  refine (crc_sumOf s w (by omega)).mono ?_
  rintro e w1 ⟨rfl, k1⟩
  go_wp2
  go_ret
  exact ⟨rfl, k1⟩

theorem seen_sumOf (W : World) (s : ByteArray) (hs : s.size ≤ 140737488355328) (n : Seen W) : Calls Tryz.prog 167 #[.string s] n.val fun e w'' => e = .returned (.string (bs (four (sumL s.data.toList)))) ∧ ∃ m : Seen W, w'' = m.val :=
  (crc_sumOf s n.val hs).mono fun _ w'' ⟨h1, h2⟩ => ⟨h1, ⟨⟨w'', n.below.trans (h2.mono n.below.size)⟩, rfl⟩⟩

/-- What a text is without its sum; why it is none. -/
def okT (l : List UInt8) : Prop := l.drop (l.length - 4) = four (sumL (l.take (l.length - 4)))
instance (l : List UInt8) : Decidable (okT l) := by unfold okT; infer_instance
def takeT (l : List UInt8) : List UInt8 := if 4 ≤ l.length ∧ okT l then l.take (l.length - 4) else []
def takeE (l : List UInt8) : Int := if l.length < 4 then 2 else if okT l then 0 else 4
set_option maxHeartbeats 400000 in
theorem crc_Take (s : ByteArray) (w : World) (hs : s.size ≤ 140737488355328) :
    Calls Tryz.prog 130 #[.string s] w fun e w' => e = .returned (.tuple #[.string (bs (takeT s.data.toList)), .int .i64 (takeE s.data.toList)]) ∧ Below w.heap.size w w' := by
  have hl : s.data.toList.length = s.size := by rw [← Lib.size_eq]
  by_cases h4 : s.size < 4
  · have e1 : takeT s.data.toList = [] := by unfold takeT; rw [if_neg (by omega)]
    have e2 : takeE s.data.toList = 2 := by unfold takeE; rw [if_pos (by omega)]
    rw [e1, e2]
    clear e1 e2
    go_enter Tryz.func130, Tryz.ntmps130
    go_wp2
    go_ret2
    exact ⟨rfl, Below.refl _ _⟩
  · obtain ⟨n, hn⟩ : ∃ n : Nat, s.size = n + 4 := ⟨s.size - 4, by omega⟩
    obtain ⟨x1, x2⟩ := take_split (s := s) (n := n) (by omega)
    have hok : okT s.data.toList ↔ s.data.toList.drop n = four (sumL (s.data.toList.take n)) := by unfold okT; rw [hl, hn, Nat.add_sub_cancel]
    have e1 : takeT s.data.toList = if okT s.data.toList then s.data.toList.take n else [] := by
      unfold takeT
      rw [hl, hn, Nat.add_sub_cancel]
      by_cases h : okT s.data.toList
      · rw [if_pos ⟨by omega, h⟩, if_pos h]
      · rw [if_neg (fun x => h x.2), if_neg h]
    have e2 : takeE s.data.toList = if okT s.data.toList then 0 else 4 := by unfold takeE; rw [if_neg (by omega)]
    have hsz : ((s.size : Int) - 4) = (n : Int) := by omega
    have hle : n ≤ s.size := by omega
    have hlen : (s.data.toList.take n).length ≤ 140737488355328 := by rw [List.length_take]; omega
    have HN := Lib.hid hn
    clear hn
    go_enter Tryz.func130, Tryz.ntmps130
    go_wp2_with fail
    refine region_seen (by kernel_rfl) (by kernel_rfl) ?_
    repeat (go_big_quiet_step (first | (go_at_call 167; exact seen_sumOf _ _ (by rw [bs_size]; exact hlen) _)))
    refine wpQuiet_nil ?_
    rintro _ ⟨m, rfl⟩
    go_wp2_with fail
    · rename_i h
      rw [Bool.not_eq_true', Bool.eq_false_iff, Ne, same_bytes, bs_list, ← hok] at h
      go_ret2
      exact ⟨ret2s (by rw [e1, if_neg h]; rfl) (by rw [e2, if_neg h]), m.below⟩
    · rename_i h
      rw [Bool.not_eq_false', same_bytes, bs_list, ← hok] at h
      go_ret2
      exact ⟨ret2s (by rw [e1, if_pos h]) (by rw [e2, if_pos h]), m.below⟩
end Go.Proofs.YtgljjdldhnajdaaGreat
/- Logs in plain words: frames, and the records that any bytes bear. -/
set_option linter.unusedVariables false
set_option maxRecDepth 100000
set_option maxRecDepth 100000
namespace Go.Proofs.YtgljjdldhnajdaaGreat

theorem cn_of' {l : List UInt8} (h : ce l = 0) : re l = 0 ∧ cn l = rn l ∧ ck l = rk l ∧ 0 ≤ rn l := by
  rcases cd_cases l with ⟨_, _, _, h1, _, h2, h3, h4⟩ | ⟨h1, _⟩
  · exact ⟨h2, h3, h4, by omega⟩
  · omega
/-- A count, and what is behind it. -/
theorem cd_whole {n : Nat} (h : n ≤ 9223372036854775807) (t : List UInt8) : ce (whole (n : Int) ++ t) = 0 ∧ cn (whole (n : Int) ++ t) = n ∧ ck (whole (n : Int) ++ t) = (whole (n : Int)).length := by
  have r := rd_whole (n := (n : Int)) (by omega) (by omega) t
  simp only [ce, cn, ck, r.1, r.2.1, r.2.2]
  simp
  constructor <;> intro <;> omega
/-- A text, and what is behind it. -/
theorem td_text {s : List UInt8} (h : s.length ≤ 9223372036854775807) (t : List UInt8) : te (text s ++ t) = 0 ∧ ts (text s ++ t) = s ∧ tk (text s ++ t) = (text s).length := by
  have c := cd_whole (n := s.length) h (s ++ t)
  have e : text s ++ t = whole (s.length : Int) ++ (s ++ t) := by unfold text; rw [List.append_assoc]
  have hd : (text s ++ t).drop (whole (s.length : Int)).length = s ++ t := by rw [e, List.drop_left]
  rw [← e] at c
  have hws : ws (s ++ t) (s.length : Int) = s ∧ wk (s ++ t) (s.length : Int) = s.length ∧ we (s ++ t) (s.length : Int) = 0 := by
    unfold ws wk we
    rw [if_neg (by simp; omega), if_neg (by simp; omega), if_neg (by omega), if_neg (by simp; omega)]
    simp
  have hte : te (text s ++ t) = 0 := by unfold te; rw [if_neg (by omega), c.2.2, c.2.1, hd]; exact hws.2.2
  refine ⟨hte, by unfold ts; rw [if_neg (by omega), c.2.2, c.2.1, hd]; exact hws.1, ?_⟩
  unfold tk
  rw [if_neg (by omega), c.2.2, c.2.1, hd, hws.2.1, text, List.length_append]
/-- A text that is read, back. -/
theorem td_back {l : List UInt8} (h : te l = 0) : text (ts l) ++ l.drop (tk l) = l ∧ tk l = (text (ts l)).length := by
  rcases td_cases l with ⟨_, b1, b2, b3, b4, b5, b6⟩ | ⟨b1, _⟩
  · have hd := cn_of' b1
    obtain ⟨c1, c2⟩ := rd_back hd.1
    have hlen : (ts l).length = (cn l).toNat := by rw [b6, List.length_take, List.length_drop]; omega
    have hw : whole ((ts l).length : Int) = whole (rn l) := by rw [hlen, show (((cn l).toNat : Nat) : Int) = rn l by omega]
    have hk : tk l = (text (ts l)).length := by rw [text, List.length_append, hw, hlen, b5, hd.2.2.1, c2]
    refine ⟨?_, hk⟩
    rw [text, hw, List.append_assoc]
    have : ts l ++ l.drop (tk l) = l.drop (rk l) := by
      rw [b6, b5, ← List.drop_drop, hd.2.2.1]
      exact List.take_append_drop ..
    rw [this, c1]
  · omega

/-- A record's frame; the frames of records, one behind the other. -/
def frameL (r : List UInt8) : List UInt8 := text r ++ four (sumL (text r))
def framesL : List (List UInt8) → List UInt8
  | [] => []
  | r :: L => frameL r ++ framesL L
theorem framesL_append : ∀ L M : List (List UInt8), framesL (L ++ M) = framesL L ++ framesL M
  | [], M => rfl
  | r :: L, M => by show frameL r ++ framesL (L ++ M) = _; rw [framesL_append L M, ← List.append_assoc]; rfl
theorem framesL_one (r : List UInt8) : framesL [r] = frameL r := List.append_nil _
theorem frameL_len (r : List UInt8) : (frameL r).length = (text r).length + 4 := by rw [frameL, List.length_append, four_len]
theorem frameL_pos (r : List UInt8) : 4 ≤ (frameL r).length := by rw [frameL_len]; omega
theorem text_le {r : List UInt8} (h : r.length ≤ 9223372036854775807) : (text r).length ≤ r.length + 11 := by
  have := (whole_len (n := (r.length : Int)) (by omega) (by omega)).1
  rw [text, List.length_append]
  omega
theorem frameL_le {r : List UInt8} (h : r.length ≤ 9223372036854775807) : (frameL r).length ≤ r.length + 15 := by
  have := text_le h
  rw [frameL_len]
  omega


/-- The record of the whole frame that bytes begin with, and how many bytes the frame has. -/
def firstL (l : List UInt8) : Option (List UInt8 × Nat) :=
  if te l = 0 ∧ (ts l).length ≤ 1048576 ∧ tk l + 4 ≤ l.length ∧ okT (l.take (tk l + 4)) then some (ts l, tk l + 4) else none
theorem first_yes {l : List UInt8} (h1 : te l = 0) (h2 : (ts l).length ≤ 1048576) (h3 : tk l + 4 ≤ l.length) (h4 : okT (l.take (tk l + 4))) : firstL l = some (ts l, tk l + 4) := by unfold firstL; rw [if_pos ⟨h1, h2, h3, h4⟩]
theorem first_no {l : List UInt8} (h : ¬ (te l = 0 ∧ (ts l).length ≤ 1048576 ∧ tk l + 4 ≤ l.length ∧ okT (l.take (tk l + 4)))) : firstL l = none := by unfold firstL; rw [if_neg h]
theorem first_some {l : List UInt8} {r : List UInt8} {k : Nat} (h : firstL l = some (r, k)) : te l = 0 ∧ r.length ≤ 1048576 ∧ tk l + 4 ≤ l.length ∧ okT (l.take (tk l + 4)) ∧ r = ts l ∧ k = tk l + 4 := by
  unfold firstL at h
  split at h
  · rename_i hc
    cases h
    exact ⟨hc.1, hc.2.1, hc.2.2.1, hc.2.2.2, rfl, rfl⟩
  · cases h
theorem frame_first {r : List UInt8} (h : r.length ≤ 1048576) (t : List UInt8) : firstL (frameL r ++ t) = some (r, (frameL r).length) := by
  have e : frameL r ++ t = text r ++ (four (sumL (text r)) ++ t) := by rw [frameL, List.append_assoc]
  obtain ⟨a1, a2, a3⟩ := td_text (s := r) (by omega) (four (sumL (text r)) ++ t)
  rw [← e] at a1 a2 a3
  have hk : tk (frameL r ++ t) + 4 = (frameL r).length := by rw [a3, frameL_len]
  have hok : okT ((frameL r ++ t).take (tk (frameL r ++ t) + 4)) := by
    rw [hk, List.take_left]
    unfold okT
    rw [frameL_len, Nat.add_sub_cancel, frameL, List.drop_left, List.take_left]
  rw [first_yes a1 (by rw [a2]; exact h) (by rw [hk, List.length_append]; omega) hok, hk, a2]
theorem first_back {l r : List UInt8} {k : Nat} (h : firstL l = some (r, k)) : r.length ≤ 1048576 ∧ frameL r ++ l.drop k = l ∧ k = (frameL r).length := by
  obtain ⟨h1, h2, h3, h4, rfl, rfl⟩ := first_some h
  obtain ⟨b1, b2⟩ := td_back h1
  have hlen : (l.take (tk l + 4)).length = tk l + 4 := by rw [List.length_take]; omega
  unfold okT at h4
  rw [hlen, Nat.add_sub_cancel, List.take_take, Nat.min_eq_left (by omega)] at h4
  have htk : l.take (tk l) = text (ts l) := by
    have := congrArg (List.take (tk l)) b1
    rw [← this]
    conv => lhs; rw [b2]
    rw [List.take_left]
  have hfr : l.take (tk l + 4) = frameL (ts l) := by
    rw [← List.take_append_drop (tk l) (l.take (tk l + 4)), h4, List.take_take, Nat.min_eq_left (by omega), htk]
    rfl
  refine ⟨h2, ?_, ?_⟩
  · rw [← hfr, List.take_append_drop]
  · rw [frameL_len, ← b2]
theorem first_lt {l r : List UInt8} {k : Nat} (h : firstL l = some (r, k)) : 0 < k ∧ k ≤ l.length := by
  obtain ⟨h1, h2, h3, h4, rfl, rfl⟩ := first_some h
  omega

/-- The records that bytes begin with, and how many bytes their frames have. -/
def splitL (l : List UInt8) : List (List UInt8) × Nat :=
  match h : firstL l with
  | none => ([], 0)
  | some (r, k) => (r :: (splitL (l.drop k)).1, k + (splitL (l.drop k)).2)
termination_by l.length
decreasing_by
  all_goals
    have := first_lt h
    rw [List.length_drop]
    omega
theorem split_none {l : List UInt8} (h : firstL l = none) : splitL l = ([], 0) := by
  rw [splitL]
  split
  · rfl
  · rename_i h'; rw [h] at h'; cases h'
theorem split_some {l r : List UInt8} {k : Nat} (h : firstL l = some (r, k)) : splitL l = (r :: (splitL (l.drop k)).1, k + (splitL (l.drop k)).2) := by
  rw [splitL]
  split
  · rename_i h'; rw [h] at h'; cases h'
  · rename_i r' k' h'; rw [h] at h'; cases h'; rfl
theorem split_frames : ∀ (L : List (List UInt8)) (t : List UInt8), (∀ r ∈ L, r.length ≤ 1048576) → splitL (framesL L ++ t) = (L ++ (splitL t).1, (framesL L).length + (splitL t).2)
  | [], t, _ => by simp [framesL]
  | r :: L, t, h => by
    have ih := split_frames L t (fun x hx => h x (List.mem_cons_of_mem _ hx))
    have e : framesL (r :: L) ++ t = frameL r ++ (framesL L ++ t) := List.append_assoc ..
    rw [e, split_some (frame_first (h r (List.mem_cons_self ..)) _), List.drop_left, ih]
    show _ = (r :: (L ++ (splitL t).1), (frameL r ++ framesL L).length + (splitL t).2)
    rw [List.length_append, Nat.add_assoc]
theorem split_back (n : Nat) : ∀ l : List UInt8, l.length ≤ n → framesL (splitL l).1 ++ l.drop (splitL l).2 = l ∧ (splitL l).2 = (framesL (splitL l).1).length ∧ ∀ r ∈ (splitL l).1, r.length ≤ 1048576 := by
  induction n with
  | zero =>
    intro l hl
    have h0 : firstL l = none := by
      rcases hf : firstL l with _ | ⟨r, k⟩
      · rfl
      · have := first_lt hf; omega
    rw [split_none h0]
    exact ⟨rfl, rfl, fun r hr => by cases hr⟩
  | succ n ih =>
    intro l hl
    rcases hf : firstL l with _ | ⟨r, k⟩
    · rw [split_none hf]; exact ⟨rfl, rfl, fun r hr => by cases hr⟩
    · have hlt := first_lt hf
      obtain ⟨h1, h2, h3⟩ := first_back hf
      obtain ⟨i1, i2, i3⟩ := ih (l.drop k) (by rw [List.length_drop]; omega)
      rw [split_some hf]
      refine ⟨?_, ?_, ?_⟩
      · show (frameL r ++ framesL (splitL (l.drop k)).1) ++ l.drop (k + (splitL (l.drop k)).2) = l
        rw [← List.drop_drop, List.append_assoc, i1, h2]
      · show k + (splitL (l.drop k)).2 = (frameL r ++ framesL (splitL (l.drop k)).1).length
        rw [List.length_append, ← i2, ← h3]
      · intro x hx
        rcases List.mem_cons.1 hx with rfl | hx
        · exact h1
        · exact i3 x hx
theorem split_le (l : List UInt8) : (splitL l).2 ≤ l.length := by
  obtain ⟨h1, h2, _⟩ := split_back l.length l (Nat.le_refl _)
  have := congrArg List.length h1
  rw [List.length_append] at this
  omega

/-- How many of the records have their frames wholly among the first k bytes. -/
def wholeN : List (List UInt8) → Nat → Nat
  | [], _ => 0
  | r :: L, k => if (frameL r).length ≤ k then wholeN L (k - (frameL r).length) + 1 else 0
theorem whole_le : ∀ (L : List (List UInt8)) (k : Nat), wholeN L k ≤ L.length
  | [], _ => Nat.le_refl _
  | r :: L, k => by
    unfold wholeN
    split
    · have := whole_le L (k - (frameL r).length); simp; omega
    · simp
theorem whole_iff : ∀ (L : List (List UInt8)) (k j : Nat), j ≤ L.length → (j ≤ wholeN L k ↔ (framesL (L.take j)).length ≤ k)
  | [], k, j, h => by have : j = 0 := Nat.le_zero.1 h; subst this; simp [framesL]
  | r :: L, k, 0, h => by simp [framesL]
  | r :: L, k, j + 1, h => by
    have ih := whole_iff L (k - (frameL r).length) j (by simpa using h)
    have e : (framesL ((r :: L).take (j + 1))).length = (frameL r).length + (framesL (L.take j)).length := by
      show (frameL r ++ framesL (L.take j)).length = _
      rw [List.length_append]
    rw [e]
    unfold wholeN
    split
    · constructor
      · intro hh; have := ih.1 (by omega); omega
      · intro hh; have := ih.2 (by omega); omega
    · constructor
      · intro hh; omega
      · intro hh; omega
theorem whole_in (L : List (List UInt8)) (k : Nat) : (framesL (L.take (wholeN L k))).length ≤ k := (whole_iff L k _ (whole_le L k)).1 (Nat.le_refl _)
theorem whole_is {L : List (List UInt8)} {k j : Nat} (hj : j ≤ L.length) (h1 : (framesL (L.take j)).length ≤ k) (h2 : j < L.length → k < (framesL (L.take (j + 1))).length) : wholeN L k = j := by
  have a := (whole_iff L k j hj).2 h1
  rcases Nat.lt_or_ge j (wholeN L k) with h | h
  · have hl := whole_le L k
    have := (whole_iff L k (j + 1) (by omega)).1 h
    have := h2 (by omega)
    omega
  · omega
theorem first_part {r p q : List UInt8} (hr : r.length ≤ 1048576) (h : frameL r = p ++ q) (hq : q ≠ []) : firstL p = none := by
  rcases hf : firstL p with _ | ⟨r', k⟩
  · rfl
  · obtain ⟨b1, b2, b3⟩ := first_back hf
    have hlt := first_lt hf
    have e : frameL r ++ [] = frameL r' ++ (p.drop k ++ q) := by rw [List.append_nil, h, ← List.append_assoc, b2]
    have f1 := frame_first hr []
    rw [e, frame_first b1] at f1
    cases f1
    have hl := congrArg List.length h
    rw [List.length_append] at hl
    have : 0 < q.length := List.length_pos_iff.2 hq
    omega
/-- What frames bear that are cut off. -/
theorem split_cut : ∀ (L : List (List UInt8)) (k : Nat), (∀ r ∈ L, r.length ≤ 1048576) → splitL ((framesL L).take k) = (L.take (wholeN L k), (framesL (L.take (wholeN L k))).length)
  | [], k, _ => by
    have h0 : firstL (([] : List UInt8).take k) = none := by
      rcases hf : firstL (([] : List UInt8).take k) with _ | ⟨r, j⟩
      · rfl
      · have := first_lt hf
        simp at this
        omega
    show splitL (([] : List UInt8).take k) = _
    rw [split_none h0]
    simp [wholeN, framesL]
  | r :: L, k, h => by
    have hr := h r (List.mem_cons_self ..)
    unfold wholeN
    split
    · rename_i hk
      have ih := split_cut L (k - (frameL r).length) (fun x hx => h x (List.mem_cons_of_mem _ hx))
      have e : (framesL (r :: L)).take k = frameL r ++ (framesL L).take (k - (frameL r).length) := by
        show (frameL r ++ framesL L).take k = _
        rw [List.take_append, List.take_of_length_le hk]
      rw [e, split_some (frame_first hr _), List.drop_left, ih]
      show _ = (r :: L.take _, (frameL r ++ framesL (L.take _)).length)
      rw [List.length_append]
    · rename_i hk
      have e : (framesL (r :: L)).take k = (frameL r).take k := by
        show (frameL r ++ framesL L).take k = _
        rw [List.take_append_of_le_length (by omega)]
      rw [e, split_none (first_part hr (List.take_append_drop k (frameL r)).symm (by intro hh; have := congrArg List.length hh; simp at this; omega))]
      simp [framesL]
theorem take_eq_split {l m : List UInt8} {k j : Nat} (h : l.take k = m.take k) (hj : j ≤ k) : l.take j = m.take j := by
  have := congrArg (List.take j) h
  rwa [List.take_take, List.take_take, Nat.min_eq_left hj] at this
/-- Bytes that begin as frames do, up to a place, bear the whole ones ahead of it. -/
theorem split_turned {L : List (List UInt8)} {b : List UInt8} {k : Nat} (hL : ∀ r ∈ L, r.length ≤ 1048576) (h : b.take k = (framesL L).take k) : ∃ M, (splitL b).1 = L.take (wholeN L k) ++ M := by
  have hin := whole_in L k
  have e : b = framesL (L.take (wholeN L k)) ++ b.drop (framesL (L.take (wholeN L k))).length := by
    have h2 := take_eq_split h hin
    have e2 : framesL L = framesL (L.take (wholeN L k)) ++ framesL (L.drop (wholeN L k)) := by rw [← framesL_append, List.take_append_drop]
    have e3 : (framesL L).take (framesL (L.take (wholeN L k))).length = framesL (L.take (wholeN L k)) := by
      conv => lhs; arg 2; rw [e2]
      rw [List.take_left]
    rw [e3] at h2
    conv => lhs; rw [← List.take_append_drop (framesL (L.take (wholeN L k))).length b, h2]
  rw [e, split_frames _ _ (fun r hr => hL r (List.mem_of_mem_take hr))]
  exact ⟨_, rfl⟩
end Go.Proofs.YtgljjdldhnajdaaGreat
/- The document's own answers: how siloref01 writes numbers and texts. -/
set_option linter.unusedVariables false
set_option maxRecDepth 100000
namespace Go.Proofs.YtgljjdldhnajdaaGreat
open Go.RowKit

theorem conv_one (W : World) (c : Nat) (hc : c ≤ 255) : (convert 110 9 (.slice (some ⟨W.heap.size, 0, none⟩) 1 1)).run Tryz.prog (W.alloc (.cells #[.int .u8 (c : Int)] 5)) = .ok (.string (bs [UInt8.ofNat c])) (W.alloc (.cells #[.int .u8 (c : Int)] 5)) := by
  refine run_convert_bytes_back (P := Tryz.prog) _ 110 9 5 ⟨W.heap.size, 0, none⟩ 1 [UInt8.ofNat c] Tryz.underlying110 Tryz.underlying5 Tryz.underlying9 ?_
  intro j hj
  have hj0 : j = 0 := by simpa using hj
  subst hj0
  have hn : (UInt8.ofNat c).toNat = c := toNat_ofNat (by omega)
  simp only [List.getElem_cons_zero, hn]
  exact cell_one_new W (.int .u8 (c : Int)) 5 0 _ rfl

theorem rets {a a' : ByteArray} (h : a' = a) : Ending.returned (.string a) = Ending.returned (.string a') := by rw [h]

theorem lead_tail_len {q : Nat} {t g : List UInt8} (h : lead q ++ t = g) (hg : g.length ≤ 11) : t.length ≤ 11 := by
  rw [← h, List.length_append] at hg
  omega

set_option maxHeartbeats 400000 in
theorem ref_groups (x mark : Nat) (w : World) (hx : x ≤ 9223372036854775807) (hm : mark = 64 ∨ mark = 128) :
    Calls Tryz.prog 81 #[.int .u64 x, .int .i64 mark] w fun e w' => e = .returned (.string (bs (grp x mark))) ∧ Below w.heap.size w w' := by
  have HM := Lib.hid hm
  have hm1 : (mark : Int) ≤ 128 := by omega
  have hm2 : (0 : Int) ≤ mark := by omega
  obtain ⟨c, hc⟩ : ∃ c, c = mark + x % 64 := ⟨_, rfl⟩
  have hcv : ((mark : Int) + (x : Int) % 64) = (c : Int) := by omega
  have hc1 : c ≤ 255 := by omega
  have hconv := fun W : World => conv_one W c hc1
  have HC := Lib.hid hc
  clear hm hc
  have hlen := (grp_len (n := x) (mark := mark) (by omega)).1
  obtain ⟨g, hg⟩ : ∃ g, g = grp x mark := ⟨_, rfl⟩
  rw [← hg] at hlen ⊢
  have HL := Lib.hid hlen
  have h0 : lead (x / 64) ++ [UInt8.ofNat c] = g := by rw [hg, HC.out]; rfl
  have H0 := Lib.hid h0
  clear hlen hg h0
  go_enter Tryz.func81, Tryz.ntmps81
  go_wp2_with fail
  go_loopw [0, 5] (fun y s wr => ∃ (q : Nat) (t : List UInt8), q ≤ 9223372036854775807 ∧ y = .int .u64 q ∧ s = .string (bs t) ∧ Hid (lead q ++ t = g) ∧ Below w.heap.size w wr) (fun y s wr => (intOf y).toNat)
  case atStart => exact ⟨x / 64, [UInt8.ofNat c], by omega, by go_num, rfl, H0, (Below.refl _ _).alloc (Nat.le_refl _) _⟩
  case round =>
    obtain ⟨q, t, hq, rfl, rfl, ht, hbw⟩ := hrel
    have HB := Lib.hid hbw
    clear hbw hconv hcv hc1
    by_cases hq0 : 0 < (q : Int)
    · obtain ⟨d, hd⟩ : ∃ d, d = q % 64 := ⟨_, rfl⟩
      have hdv : ((q : Int) % 64) = (d : Int) := by omega
      have hd1 : d ≤ 255 := by omega
      have hconv := fun W : World => conv_one W d hd1
      have hcat : bs [UInt8.ofNat d] ++ bs t = bs (UInt8.ofNat d :: t) := bs_eq (by simp [bs])
      have hsum : ((bs [UInt8.ofNat d]).size : Int) + ((bs t).size : Int) ≤ 9223372036854775807 := by
        rw [bs_size, bs_size]
        have := lead_tail_len ht.out HL.out
        simp
        omega
      have HD := Lib.hid hd
      clear hd
      go_wp2
      go_roundw
      case rel =>
        refine ⟨q / 64, UInt8.ofNat d :: t, by omega, by go_num, rfl, ?_, HB.out.alloc HB.out.size _⟩
        have := ht.out
        rw [lead_pos (by omega), ← HD.out] at this
        show lead (q / 64) ++ (UInt8.ofNat d :: t) = g
        rw [← this]
        simp
      case measure => simp [intOf]; omega
    · go_wp2
      go_ret
      have hq1 : q = 0 := by omega
      have := ht.out
      rw [hq1, lead_zero, List.nil_append] at this
      exact ⟨rets (by rw [this]), HB.out⟩

set_option maxHeartbeats 400000 in
theorem ref_Whole (n : Int) (w : World) (hn1 : -9223372036854775808 ≤ n) (hn2 : n ≤ 9223372036854775807) :
    Calls Tryz.prog 41 #[.int .i64 n] w fun e w' => e = .returned (.string (bs (whole n))) ∧ Below w.heap.size w w' := by
  by_cases h0 : n < 0
  · obtain ⟨m, hm⟩ : ∃ m : Nat, -1 - n = m := ⟨(-1 - n).toNat, by omega⟩
    have hg := Lib.hid (show whole n = grp m 128 by unfold whole; rw [if_pos h0, hm]; rfl)
    have hm1 : m ≤ 9223372036854775807 := by omega
    have hv : -(n + 1) = (m : Int) := by omega
    have hv2 : IntKind.i64.wrap (n + 1) = n + 1 := IntWalk.i64_in _ (by omega)
    clear hm
    go_enter Tryz.func41, Tryz.ntmps41
    go_wp2_with fail
    refine (ref_groups m 128 w hm1 (.inr rfl)).mono ?_
    rintro e w2 ⟨rfl, k2⟩
    have K2 := Lib.hid k2
    clear k2
    go_wp2
    go_ret
    exact ⟨rets (by rw [hg.out]), K2.out⟩
  · obtain ⟨m, rfl⟩ : ∃ m : Nat, n = m := ⟨n.toNat, by omega⟩
    have hg := Lib.hid (show whole m = grp m 64 by unfold whole; rw [if_neg (by omega)]; rfl)
    go_enter Tryz.func41, Tryz.ntmps41
    go_wp2_with fail
    refine (ref_groups m 64 w (by omega) (.inl rfl)).mono ?_
    rintro e w2 ⟨rfl, k2⟩
    have K2 := Lib.hid k2
    clear k2
    go_wp2
    go_ret
    exact ⟨rets (by rw [hg.out]), K2.out⟩

set_option maxHeartbeats 400000 in
theorem ref_Text (s : ByteArray) (w : World) (hs : s.size ≤ 140737488355328) :
    Calls Tryz.prog 42 #[.string s] w fun e w' => e = .returned (.string (bs (text s.data.toList))) ∧ Below w.heap.size w w' := by
  have hl := (whole_len (n := (s.size : Int)) (by omega) (by omega)).1
  have hcat : bs (whole (s.size : Int)) ++ s = bs (text s.data.toList) := bs_eq (by unfold text; rw [← Lib.size_eq]; obtain ⟨⟨x⟩⟩ := s; simp [bs])
  have hsum : ((bs (whole (s.size : Int))).size : Int) + (s.size : Int) ≤ 9223372036854775807 := by rw [bs_size]; omega
  clear hl
  go_enter Tryz.func42, Tryz.ntmps42
  go_wp2_with fail
  refine (ref_Whole (s.size : Int) w (by omega) (by omega)).mono ?_
  rintro e w2 ⟨rfl, k2⟩
  have K2 := Lib.hid k2
  clear k2
  go_wp2
  go_ret
  exact ⟨rfl, K2.out⟩

end Go.Proofs.YtgljjdldhnajdaaGreat
