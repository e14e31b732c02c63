/- Texts put together: CrcPlain, CrcSum, CrcPuts, BlockPut, BlockPack -/
import Derived.Test.YteejldddgogbkaaGreatDoorTOp00
import Derived.Test.YteejldddgogbkaaGreatDoorTOp01
import Derived.Test.YteejldddgogbkaaGreatDoorTOp02
/- Plain mathematics of the statements over layer crc: no program, no world. A register of 32 bits, bit by bit; bits turned within 32 in a row are told. -/
namespace Go.Proofs.YteejldddgogbkaaGreatDoor

/-! ### The register -/

/-- The register behind one bit, where what comes in is added to its lowest bit. -/
def stepB (x : Nat) (b : Bool) : Nat := x / 2 ^^^ (if (x.testBit 0 != b) = true then 2197175160 else 0)
/-- The register behind one bit that is 0. -/
def tap (x : Nat) : Nat := stepB x false
def tapN : Nat → Nat → Nat
  | 0, x => x
  | k + 1, x => tapN k (tap x)
def feedB (x : Nat) (u : List Bool) : Nat := u.foldl stepB x
def num : List Bool → Nat
  | [] => 0
  | b :: u => b.toNat + 2 * num u
def bitsN : Nat → Nat → List Bool
  | 0, _ => []
  | k + 1, n => (n % 2 == 1) :: bitsN k (n / 2)

theorem taps_lt : (2197175160 : Nat) < 2 ^ 32 := by decide

theorem stepB_lt {x : Nat} (b : Bool) (h : x < 2 ^ 32) : stepB x b < 2 ^ 32 := by
  unfold stepB
  refine Nat.xor_lt_two_pow (by omega) ?_
  split
  · decide
  · decide
theorem tap_lt {x : Nat} (h : x < 2 ^ 32) : tap x < 2 ^ 32 := stepB_lt _ h
theorem tapN_lt (k : Nat) : ∀ {x : Nat}, x < 2 ^ 32 → tapN k x < 2 ^ 32 := by
  induction k with
  | zero => intro x h; exact h
  | succ k ih => intro x h; exact ih (tap_lt h)
theorem feedB_lt (u : List Bool) : ∀ {x : Nat}, x < 2 ^ 32 → feedB x u < 2 ^ 32 := by
  induction u with
  | nil => intro x h; exact h
  | cons b u ih => intro x h; exact ih (stepB_lt b h)

theorem high (x : Nat) (b : Bool) (h : x < 2 ^ 32) : (stepB x b).testBit 31 = (x.testBit 0 != b) := by
  unfold stepB
  rw [Nat.testBit_xor, Nat.testBit_lt_two_pow (by omega)]
  cases (x.testBit 0 != b) with
  | true => decide
  | false => decide

theorem bit0_eq {x y : Nat} (h : x.testBit 0 = y.testBit 0) (h2 : x / 2 = y / 2) : x = y := by
  rw [Nat.testBit_zero, Nat.testBit_zero] at h
  have := decide_eq_decide.1 h
  omega

theorem xor_cancel {a b c : Nat} (h : a ^^^ c = b ^^^ c) : a = b := by
  have := congrArg (· ^^^ c) h
  simpa [Nat.xor_assoc] using this
theorem xor_cancel_left {a b c : Nat} (h : c ^^^ a = c ^^^ b) : a = b := by
  rw [Nat.xor_comm c, Nat.xor_comm c] at h
  exact xor_cancel h

theorem stepB_inj {x y : Nat} (b : Bool) (hx : x < 2 ^ 32) (hy : y < 2 ^ 32) (h : stepB x b = stepB y b) : x = y := by
  have h31 : (stepB x b).testBit 31 = (stepB y b).testBit 31 := by rw [h]
  rw [high x b hx, high y b hy] at h31
  have h0 : x.testBit 0 = y.testBit 0 := by
    cases hx0 : x.testBit 0 <;> cases hy0 : y.testBit 0 <;> cases b <;> simp_all
  unfold stepB at h
  rw [h0] at h
  exact bit0_eq h0 (xor_cancel h)
theorem tapN_inj (k : Nat) : ∀ {x y : Nat}, x < 2 ^ 32 → y < 2 ^ 32 → tapN k x = tapN k y → x = y := by
  induction k with
  | zero => intro x y _ _ h; exact h
  | succ k ih => intro x y hx hy h; exact stepB_inj false hx hy (ih (tap_lt hx) (tap_lt hy) h)
theorem feedB_inj (u : List Bool) : ∀ {x y : Nat}, x < 2 ^ 32 → y < 2 ^ 32 → feedB x u = feedB y u → x = y := by
  induction u with
  | nil => intro x y _ _ h; exact h
  | cons b u ih => intro x y hx hy h; exact stepB_inj b hx hy (ih (stepB_lt b hx) (stepB_lt b hy) h)

/-- All bits may be added ahead. -/
theorem tap_num1 (x : Nat) (b : Bool) (u : List Bool) : tap (x ^^^ num (b :: u)) = stepB x b ^^^ num u := by
  unfold tap stepB
  have h1 : num (b :: u) / 2 = num u := by simp only [num]; cases b <;> simp <;> omega
  have h2 : (num (b :: u)).testBit 0 = b := by
    rw [Nat.testBit_zero]; simp only [num]; cases b <;> simp <;> omega
  have h3 : (x ^^^ num (b :: u)) / 2 = x / 2 ^^^ num u := by
    rw [← h1]
    have := Nat.shiftRight_xor_distrib (a := x) (b := num (b :: u)) (i := 1)
    simpa [Nat.shiftRight_eq_div_pow] using this
  rw [h3, Nat.testBit_xor, h2]
  have h4 : ((x.testBit 0 ^^ b) != false) = (x.testBit 0 != b) := by cases x.testBit 0 <;> cases b <;> rfl
  rw [h4, Nat.xor_assoc, Nat.xor_assoc, Nat.xor_comm (num u)]
theorem tap_num (u : List Bool) : ∀ x : Nat, tapN u.length (x ^^^ num u) = feedB x u := by
  induction u with
  | nil => intro x; simp [num, tapN, feedB]
  | cons b u ih =>
    intro x
    show tapN u.length (tap (x ^^^ num (b :: u))) = feedB (stepB x b) u
    rw [tap_num1, ih]

theorem num_lt (u : List Bool) : num u < 2 ^ u.length := by
  induction u with
  | nil => simp [num]
  | cons b u ih => simp only [num, List.length_cons, Nat.pow_succ]; cases b <;> simp <;> omega
theorem num_inj (u : List Bool) : ∀ v : List Bool, u.length = v.length → num u = num v → u = v := by
  induction u with
  | nil => intro v h _; cases v with
    | nil => rfl
    | cons _ _ => simp at h
  | cons b u ih =>
    intro v h hn
    cases v with
    | nil => simp at h
    | cons c v =>
      simp only [num] at hn
      have hb : b = c := by cases b <;> cases c <;> simp at hn ⊢ <;> omega
      subst hb
      rw [ih v (by simpa using h) (by omega)]

/-- At most 32 bits in a row, from one register on, are told by the register behind them. -/
theorem mid_inj {x : Nat} (hx : x < 2 ^ 32) {u v : List Bool} (hl : u.length = v.length) (h32 : u.length ≤ 32) (h : feedB x u = feedB x v) : u = v := by
  rw [← tap_num, ← tap_num, ← hl] at h
  have hp : 2 ^ u.length ≤ 2 ^ 32 := Nat.pow_le_pow_right (by decide) h32
  have hu := num_lt u
  have hv := num_lt v
  rw [← hl] at hv
  have h' := tapN_inj _ (Nat.xor_lt_two_pow hx (by omega)) (Nat.xor_lt_two_pow hx (by omega)) h
  exact num_inj u v hl (xor_cancel_left h')

theorem feedB_append (x : Nat) (u v : List Bool) : feedB x (u ++ v) = feedB (feedB x u) v := List.foldl_append

theorem burst_bits {r : Nat} (hr : r < 2 ^ 32) {u v : List Bool} (hl : u.length = v.length) (f : Nat) (h : ∀ i, i < f ∨ f + 32 ≤ i → u[i]? = v[i]?) (he : feedB r u = feedB r v) : u = v := by
  have split3 : ∀ w : List Bool, w = w.take f ++ ((w.drop f).take 32 ++ w.drop (f + 32)) := by
    intro w
    rw [← List.drop_drop, List.take_append_drop, List.take_append_drop]
  have hpre : u.take f = v.take f := by
    apply List.ext_getElem?
    intro i
    rw [List.getElem?_take, List.getElem?_take]
    split
    · exact h i (by omega)
    · rfl
  have hpost : u.drop (f + 32) = v.drop (f + 32) := by
    apply List.ext_getElem?
    intro i
    rw [List.getElem?_drop, List.getElem?_drop]
    exact h _ (by omega)
  rw [split3 u, split3 v, feedB_append, feedB_append, feedB_append, feedB_append, hpre, hpost] at he
  have hx : feedB r (v.take f) < 2 ^ 32 := feedB_lt _ hr
  have hmid := mid_inj hx (u := (u.drop f).take 32) (v := (v.drop f).take 32) (by simp [hl]) (by simp; omega) (feedB_inj _ (feedB_lt _ hx) (feedB_lt _ hx) he)
  rw [split3 u, split3 v, hpre, hpost, hmid]

/-! ### Bytes -/

theorem bitsN_len (k : Nat) : ∀ n, (bitsN k n).length = k := by
  induction k with
  | zero => intro n; rfl
  | succ k ih => intro n; simp [bitsN, ih]
theorem num_bitsN (k : Nat) : ∀ n, n < 2 ^ k → num (bitsN k n) = n := by
  induction k with
  | zero => intro n h; simp only [bitsN, num]; omega
  | succ k ih =>
    intro n h
    simp only [bitsN, num]
    rw [ih (n / 2) (by rw [Nat.pow_succ] at h; omega)]
    rcases Nat.mod_two_eq_zero_or_one n with h0 | h0 <;> simp [h0] <;> omega
theorem bitsN_get (k : Nat) : ∀ n i, i < k → (bitsN k n)[i]? = some (n.testBit i) := by
  induction k with
  | zero => intro n i h; omega
  | succ k ih =>
    intro n i h
    cases i with
    | zero => simp only [bitsN, List.getElem?_cons_zero, Nat.testBit_zero]; rcases Nat.mod_two_eq_zero_or_one n with h0 | h0 <;> simp [h0]
    | succ i => simp only [bitsN, List.getElem?_cons_succ]; rw [ih _ _ (by omega), Nat.testBit_succ]

def thr (r b : Nat) : Nat := tapN 8 (r ^^^ b)
theorem thr_bits (r b : Nat) (h : b < 256) : thr r b = feedB r (bitsN 8 b) := by
  have := tap_num (bitsN 8 b) r
  rw [bitsN_len, num_bitsN 8 b h] at this
  exact this

def feedL (r : Nat) (l : List UInt8) : Nat := l.foldl (fun r b => thr r b.toNat) r
def bitsL (l : List UInt8) : List Bool := l.flatMap fun b => bitsN 8 b.toNat
theorem feedL_bits (l : List UInt8) : ∀ r, feedL r l = feedB r (bitsL l) := by
  induction l with
  | nil => intro r; rfl
  | cons b l ih =>
    intro r
    show feedL (thr r b.toNat) l = feedB r (bitsN 8 b.toNat ++ bitsL l)
    rw [feedB_append, ih, thr_bits _ _ b.toNat_lt]
theorem feedL_append (r : Nat) (l m : List UInt8) : feedL r (l ++ m) = feedL (feedL r l) m := List.foldl_append
theorem feedL_lt (l : List UInt8) {r : Nat} (h : r < 2 ^ 32) : feedL r l < 2 ^ 32 := by rw [feedL_bits]; exact feedB_lt _ h
theorem thr_lt {r b : Nat} (h : r < 2 ^ 32) (hb : b < 256) : thr r b < 2 ^ 32 := by rw [thr_bits _ _ hb]; exact feedB_lt _ h

/-- The sum of bytes. -/
def sumL (l : List UInt8) : Nat := 4294967295 - feedL 4294967295 l
theorem sumL_lt (l : List UInt8) : sumL l < 4294967296 := by unfold sumL; omega
theorem full_lt : (4294967295 : Nat) < 2 ^ 32 := by decide
theorem sumL_eq {l m : List UInt8} (h : sumL l = sumL m) : feedL 4294967295 l = feedL 4294967295 m := by
  have h1 := feedL_lt l full_lt
  have h2 := feedL_lt m full_lt
  unfold sumL at h
  omega

/-- A sum's bytes, the highest first. -/
def four (x : Nat) : List UInt8 := [UInt8.ofNat (x / 16777216), UInt8.ofNat (x / 65536), UInt8.ofNat (x / 256), UInt8.ofNat x]
theorem four_len (x : Nat) : (four x).length = 4 := rfl
theorem four_inj {x y : Nat} (hx : x < 4294967296) (hy : y < 4294967296) (h : four x = four y) : x = y := by
  unfold four at h
  simp only [List.cons.injEq, and_true] at h
  obtain ⟨h1, h2, h3, h4⟩ := h
  have g1 := congrArg UInt8.toNat h1
  have g2 := congrArg UInt8.toNat h2
  have g3 := congrArg UInt8.toNat h3
  have g4 := congrArg UInt8.toNat h4
  simp only [UInt8.toNat_ofNat'] at g1 g2 g3 g4
  omega

/-! ### Bits of bytes -/

def bitL (l : List UInt8) (i : Nat) : Bool := (l.getD (i / 8) 0).toNat.testBit (i % 8)

theorem bitsL_len (l : List UInt8) : (bitsL l).length = 8 * l.length := by
  induction l with
  | nil => rfl
  | cons b l ih => simp only [bitsL, List.flatMap_cons, List.length_append, bitsN_len, List.length_cons]; unfold bitsL at ih; omega
theorem bitsL_get (l : List UInt8) : ∀ i, i < 8 * l.length → (bitsL l)[i]? = some (bitL l i) := by
  induction l with
  | nil => intro i h; simp at h
  | cons b l ih =>
    intro i h
    show (bitsN 8 b.toNat ++ bitsL l)[i]? = _
    by_cases h8 : i < 8
    · rw [List.getElem?_append_left (by rw [bitsN_len]; exact h8), bitsN_get _ _ _ h8]
      unfold bitL
      rw [show i / 8 = 0 by omega, show i % 8 = i by omega]
      rfl
    · rw [List.getElem?_append_right (by rw [bitsN_len]; omega), bitsN_len, ih _ (by simp at h; omega)]
      unfold bitL
      rw [show i / 8 = (i - 8) / 8 + 1 by omega, show i % 8 = (i - 8) % 8 by omega]
      rfl

theorem byte_ext {a b : UInt8} (h : ∀ k, k < 8 → a.toNat.testBit k = b.toNat.testBit k) : a = b := by
  apply UInt8.toNat_inj.1
  apply Nat.eq_of_testBit_eq
  intro k
  by_cases hk : k < 8
  · exact h k hk
  · have ha := a.toNat_lt
    have hb := b.toNat_lt
    have : (2 : Nat) ^ 8 ≤ 2 ^ k := Nat.pow_le_pow_right (by decide) (by omega)
    rw [Nat.testBit_lt_two_pow (by omega), Nat.testBit_lt_two_pow (by omega)]

theorem list_ext {l m : List UInt8} (hl : l.length = m.length) (h : ∀ i, i < 8 * l.length → bitL l i = bitL m i) : l = m := by
  apply List.ext_getElem hl
  intro j h1 h2
  apply byte_ext
  intro k hk
  have := h (8 * j + k) (by omega)
  unfold bitL at this
  rw [show (8 * j + k) / 8 = j by omega, show (8 * j + k) % 8 = k by omega] at this
  simpa [List.getD_eq_getElem?_getD, h1, h2] using this

/-- Bits turned within 32 in a row are told by the sum. -/
theorem burst {s t : List UInt8} (hl : s.length = t.length) (f : Nat) (h : ∀ i, i < 8 * s.length → i < f ∨ f + 32 ≤ i → bitL s i = bitL t i) (he : sumL s = sumL t) : s = t := by
  have h1 := sumL_eq he
  rw [feedL_bits, feedL_bits] at h1
  have hbl : (bitsL s).length = (bitsL t).length := by rw [bitsL_len, bitsL_len, hl]
  have hb := burst_bits full_lt hbl f (fun i hi => by
    by_cases hs : i < 8 * s.length
    · rw [bitsL_get s i hs, bitsL_get t i (by omega), h i hs hi]
    · rw [List.getElem?_eq_none (by rw [bitsL_len]; omega), List.getElem?_eq_none (by rw [bitsL_len]; omega)]) h1
  apply list_ext hl
  intro i hi
  have h2 := bitsL_get s i hi
  rw [hb, bitsL_get t i (by omega)] at h2
  exact (Option.some.inj h2).symm

/-! ### Bits turned -/

/-- The bytes with one bit turned. -/
def flip (l : List UInt8) (i : Nat) : List UInt8 := l.set (i / 8) (UInt8.ofNat ((l.getD (i / 8) 0).toNat ^^^ 2 ^ (i % 8)))
theorem flip_len (l : List UInt8) (i : Nat) : (flip l i).length = l.length := by simp [flip]
theorem flip_bit {l : List UInt8} {i : Nat} (h : i < 8 * l.length) (k : Nat) : bitL (flip l i) k = (bitL l k ^^ decide (k = i)) := by
  unfold bitL flip
  have hi : i / 8 < l.length := by omega
  by_cases hk : k / 8 = i / 8
  · have hg : (l.set (i / 8) (UInt8.ofNat ((l.getD (i / 8) 0).toNat ^^^ 2 ^ (i % 8)))).getD (k / 8) 0 = UInt8.ofNat ((l.getD (i / 8) 0).toNat ^^^ 2 ^ (i % 8)) := by
      rw [hk, List.getD_eq_getElem?_getD, List.getElem?_set_self hi]; rfl
    have hlt : (l.getD (i / 8) 0).toNat ^^^ 2 ^ (i % 8) < 256 := by
      have h8 : i % 8 < 8 := by omega
      have hp : 2 ^ (i % 8) < 2 ^ 8 := Nat.pow_lt_pow_right (by decide) h8
      exact Nat.xor_lt_two_pow (n := 8) (l.getD (i / 8) 0).toNat_lt hp
    rw [hg, UInt8.toNat_ofNat', Nat.mod_eq_of_lt hlt, Nat.testBit_xor, Nat.testBit_two_pow, hk]
    congr 1
    apply decide_eq_decide.2
    omega
  · have hg : (l.set (i / 8) (UInt8.ofNat ((l.getD (i / 8) 0).toNat ^^^ 2 ^ (i % 8)))).getD (k / 8) 0 = l.getD (k / 8) 0 := by
      rw [List.getD_eq_getElem?_getD, List.getElem?_set_ne (by omega), ← List.getD_eq_getElem?_getD]
    rw [hg, decide_eq_false (by omega), Bool.xor_false]

/-- What stands behind k rounds: the bits of a mask turned from a place on; whether one was. -/
structure Turned (P : List UInt8) (f mask k : Nat) (L : List UInt8) (t : Bool) : Prop where
  len : L.length = P.length
  bit : ∀ i, bitL L i = (bitL P i ^^ decide (f ≤ i ∧ i < f + k ∧ mask.testBit (i - f) = true))
  was : t = true ↔ ∃ j, j < k ∧ mask.testBit j = true

theorem Turned.start (P : List UInt8) (f mask : Nat) : Turned P f mask 0 P false :=
  ⟨rfl, fun i => by rw [decide_eq_false (by omega), Bool.xor_false], ⟨(fun h => by cases h), fun ⟨j, h, _⟩ => by omega⟩⟩
theorem Turned.no {P L : List UInt8} {f mask k : Nat} {t : Bool} (h : Turned P f mask k L t) (hm : mask.testBit k = false) : Turned P f mask (k + 1) L t := by
  refine ⟨h.len, fun i => ?_, ?_⟩
  · rw [h.bit i]
    congr 1
    apply decide_eq_decide.2
    constructor
    · rintro ⟨a, b, c⟩; exact ⟨a, by omega, c⟩
    · rintro ⟨a, b, c⟩
      refine ⟨a, ?_, c⟩
      by_cases hi : i - f = k
      · rw [hi, hm] at c; cases c
      · omega
  · rw [h.was]
    constructor
    · rintro ⟨j, a, b⟩; exact ⟨j, by omega, b⟩
    · rintro ⟨j, a, b⟩
      by_cases hj : j = k
      · rw [hj, hm] at b; cases b
      · exact ⟨j, by omega, b⟩
theorem Turned.yes {P L : List UInt8} {f mask k : Nat} {t : Bool} (h : Turned P f mask k L t) (hm : mask.testBit k = true) (hk : f + k < 8 * P.length) : Turned P f mask (k + 1) (flip L (f + k)) true := by
  refine ⟨by rw [flip_len, h.len], fun i => ?_, ⟨fun _ => ⟨k, by omega, hm⟩, fun _ => rfl⟩⟩
  rw [flip_bit (by rw [h.len]; exact hk), h.bit i, Bool.xor_assoc]
  congr 1
  by_cases hi : i = f + k
  · subst hi
    rw [decide_eq_false (by omega), decide_eq_true rfl, decide_eq_true ⟨by omega, by omega, by rw [show f + k - f = k by omega]; exact hm⟩]
    rfl
  · rw [decide_eq_false hi, Bool.xor_false]
    apply decide_eq_decide.2
    constructor
    · rintro ⟨a, b, c⟩; exact ⟨a, by omega, c⟩
    · rintro ⟨a, b, c⟩; exact ⟨a, by omega, c⟩

theorem bitL_take {l : List UInt8} {n i : Nat} (h : i < 8 * n) : bitL (l.take n) i = bitL l i := by
  unfold bitL
  rw [List.getD_eq_getElem?_getD, List.getElem?_take, if_pos (by omega), ← List.getD_eq_getElem?_getD]
theorem bitL_drop (l : List UInt8) (n i : Nat) : bitL (l.drop n) i = bitL l (8 * n + i) := by
  unfold bitL
  rw [List.getD_eq_getElem?_getD, List.getElem?_drop, ← List.getD_eq_getElem?_getD, show (8 * n + i) / 8 = n + i / 8 by omega, show (8 * n + i) % 8 = i % 8 by omega]

/-- Bits turned within 32 in a row, all of them in the text or all in its sum, are told. -/
theorem turned_said {s L : List UInt8} {f mask k : Nat} {t : Bool} (h : Turned (s ++ four (sumL s)) f mask k L t) (hk : k ≤ 32) (hf : f + k ≤ 8 * s.length ∨ 8 * s.length ≤ f ∧ f + k ≤ 8 * (s.length + 4)) :
    t = true ↔ L.drop s.length ≠ four (sumL (L.take s.length)) := by
  have hPl : (s ++ four (sumL s)).length = s.length + 4 := by rw [List.length_append, four_len]
  have hL : L.length = s.length + 4 := by rw [h.len, hPl]
  have hs : (s ++ four (sumL s)).take s.length = s := List.take_left
  have hd : (s ++ four (sumL s)).drop s.length = four (sumL s) := List.drop_left
  constructor
  · intro ht heq
    obtain ⟨j, hj, hm⟩ := h.was.1 ht
    have hbit := h.bit (f + j)
    rw [decide_eq_true ⟨by omega, by omega, by rw [show f + j - f = j by omega]; exact hm⟩] at hbit
    rcases hf with hf | ⟨hf1, hf2⟩
    · have e1 : L.drop s.length = four (sumL s) := by
        rw [← hd]
        apply list_ext (by simp [hL, hPl, four_len])
        intro i _
        rw [bitL_drop, bitL_drop, h.bit, decide_eq_false (by omega), Bool.xor_false]
      have e2 := four_inj (sumL_lt _) (sumL_lt _) (e1.symm.trans heq)
      have e3 : s = L.take s.length := burst (by simp [hL]) f (fun i hi hio => by
        rw [bitL_take hi, h.bit, decide_eq_false (by omega), Bool.xor_false]
        conv => lhs; rw [← hs]
        exact bitL_take hi) e2
      have e4 : bitL L (f + j) = bitL s (f + j) := by rw [← bitL_take (l := L) (n := s.length) (by omega), ← e3]
      have e5 : bitL (s ++ four (sumL s)) (f + j) = bitL s (f + j) := by rw [← bitL_take (n := s.length) (by omega), hs]
      rw [e4, e5] at hbit
      cases hb : bitL s (f + j) <;> rw [hb] at hbit <;> cases hbit
    · have e1 : L.take s.length = s := by
        apply list_ext (by simp [hL])
        intro i hi
        have hi' : i < 8 * s.length := by rw [List.length_take, hL] at hi; omega
        rw [bitL_take hi', h.bit, decide_eq_false (by omega), Bool.xor_false, ← bitL_take (n := s.length) hi', hs]
      rw [e1] at heq
      have e2 : bitL L (f + j) = bitL (four (sumL s)) (f + j - 8 * s.length) := by rw [← heq, bitL_drop]; congr 1; omega
      have e3 : bitL (s ++ four (sumL s)) (f + j) = bitL (four (sumL s)) (f + j - 8 * s.length) := by
        conv => rhs; rw [← hd]
        rw [bitL_drop]; congr 1; omega
      rw [e2, e3] at hbit
      cases hb : bitL (four (sumL s)) (f + j - 8 * s.length) <;> rw [hb] at hbit <;> cases hbit
  · intro hne
    apply Classical.byContradiction
    intro ht
    apply hne
    have hLP : L = s ++ four (sumL s) := by
      apply list_ext h.len
      intro i _
      rw [h.bit, decide_eq_false, Bool.xor_false]
      rintro ⟨a, b, c⟩
      exact ht (h.was.2 ⟨i - f, by omega, c⟩)
    rw [hLP, hs, hd]

/-! ### What the code does, round by round -/

theorem tapN_last (k : Nat) : ∀ x, tapN (k + 1) x = tap (tapN k x) := by
  induction k with
  | zero => intro x; rfl
  | succ k ih => intro x; exact ih (tap x)
/-- The bit that goes out makes the mask. -/
theorem tap_code (x : Nat) : x / 2 ^^^ (2197175160 &&& ((4294967296 - x % 2) % 4294967296)) = tap x := by
  unfold tap stepB
  congr 1
  rw [Nat.testBit_zero]
  rcases Nat.mod_two_eq_zero_or_one x with h | h <;> rw [h] <;> decide

theorem feed_next (x c k : Nat) (h : k < 8) : feedB x ((bitsN 8 c).take (k + 1)) = stepB (feedB x ((bitsN 8 c).take k)) (c.testBit k) := by
  have h1 := bitsN_get 8 c k h
  rw [List.take_add_one, h1, feedB_append]
  rfl
theorem feed_all (x c : Nat) (h : c < 256) : feedB x ((bitsN 8 c).take 8) = thr x c := by
  rw [List.take_of_length_le (by rw [bitsN_len]; exact Nat.le_refl 8), thr_bits _ _ h]

/-- The register turned, from a bit on. -/
def turnedFrom (r i : Nat) : Nat := (4294967295 - r) / 2 ^ i
theorem turned_top (r : Nat) : turnedFrom r 32 = 0 := by unfold turnedFrom; omega
theorem turned_next (r i : Nat) (hr : r < 4294967296) (hi : i < 32) : turnedFrom r i = 2 * turnedFrom r (i + 1) + (if r.testBit i then 0 else 1) := by
  unfold turnedFrom
  have h1 := Nat.testBit_two_pow_sub_succ (n := 32) (x := r) (by simpa using hr) i
  rw [decide_eq_true hi, Bool.true_and, show 2 ^ 32 - (r + 1) = 4294967295 - r by omega, Nat.testBit_eq_decide_div_mod_eq] at h1
  rw [Nat.pow_succ, ← Nat.div_div_eq_div_mul]
  cases hb : r.testBit i with
  | true => rw [hb] at h1; simp at h1 ⊢; omega
  | false => rw [hb] at h1; simp at h1 ⊢; omega

/-- The register moved down so far. -/
def down (x k : Nat) (j : Nat) : Bool := if j < k then x.testBit (j + 1) else x.testBit j
theorem down_all (x j : Nat) (hx : x < 4294967296) (hj : j < 32) : (if j = 31 then false else down x 31 j) = (x / 2).testBit j := by
  rw [Nat.testBit_div_two]
  unfold down
  by_cases h : j = 31
  · subst h; rw [if_pos rfl, Nat.testBit_lt_two_pow (by simpa using hx)]
  · rw [if_neg h, if_pos (by omega)]
/-- The taps added so far. -/
def added (y k : Nat) (j : Nat) : Bool := if j < k then (y ^^^ 2197175160).testBit j else y.testBit j

end Go.Proofs.YteejldddgogbkaaGreatDoor
/- The sum, bit by bit. -/
set_option linter.unusedVariables false
set_option maxRecDepth 100000
namespace Go.Proofs.YteejldddgogbkaaGreatDoor
open Go.RowKit

theorem tap_bits (x : Nat) (hx : x < 4294967296) : bits BinOp.xor IntKind.u32 ((x : Int) / 2) (bits BinOp.and IntKind.u32 2197175160 (-bits BinOp.and IntKind.u32 (x : Int) 1 % 4294967296)) = ((tap x : Nat) : Int) := by
  have h1 : bits BinOp.and IntKind.u32 (x : Int) 1 = ((x % 2 : Nat) : Int) := by
    rw [u32_and _ _ (by omega) (by omega) (by omega) (by omega), show (x : Int).toNat = x by omega, show (1 : Int).toNat = 1 from rfl, nat_mask1]
  have h2 : (-(((x % 2 : Nat) : Int)) % 4294967296) = (((4294967296 - x % 2) % 4294967296 : Nat) : Int) := by omega
  have h4 : (4294967296 - x % 2) % 4294967296 < 4294967296 := Nat.mod_lt _ (by decide)
  have h3 := u32_and 2197175160 (((4294967296 - x % 2) % 4294967296 : Nat) : Int) (by omega) (by omega) (by omega) (by omega)
  have h5 : 2197175160 &&& ((4294967296 - x % 2) % 4294967296) < 2 ^ 32 := Nat.and_lt_two_pow _ h4
  rw [h1, h2, h3, show ((2197175160 : Int)).toNat = 2197175160 from rfl, Int.toNat_natCast, show ((x : Int) / 2) = ((x / 2 : Nat) : Int) by omega,
    u32_xor_nat _ _ (by omega) (by omega), tap_code]

set_option maxHeartbeats 400000 in
theorem crc_through (r b : Nat) (w : World) (hr : r < 4294967296) (hb : b < 256) :
    Calls Tryz.prog 108 #[.int .u32 r, .int .u8 b] w fun e w' => e = .returned (.int .u32 (thr r b)) ∧ w = w' := by
  have h0 : bits BinOp.xor IntKind.u32 (r : Int) (b : Int) = ((tapN 0 (r ^^^ b) : Nat) : Int) := u32_xor_nat r b hr (by omega)
  have hx : r ^^^ b < 4294967296 := Nat.xor_lt_two_pow (n := 32) hr (by omega)
  have h8 : tapN 8 (r ^^^ b) = thr r b := rfl
  generalize r ^^^ b = x at *
  go_enter Tryz.func108, Tryz.ntmps108
  go_wp2_with fail
  go_loopw [0, 9] (fun y i wr => ∃ k : Nat, k ≤ 8 ∧ i = .int .i64 k ∧ y = .int .u32 (tapN k x) ∧ wr = w) (fun y i wr => 8 - (intOf i).toNat)
  case atStart => exact ⟨0, by omega, rfl, rfl, rfl⟩
  case round =>
    obtain ⟨k, hk, rfl, rfl, rfl⟩ := hrel
    by_cases hlt : k < 8
    · have hbit := tap_bits (tapN k x) (tapN_lt k hx)
      rw [← tapN_last] at hbit
      go_wp2
      go_roundw
      case rel => exact ⟨k + 1, by omega, by go_num, rfl, trivial⟩
      case measure => simp [intOf]; omega
    · obtain rfl : k = 8 := by omega
      rw [h8]
      go_wp2
      go_ret
      exact ⟨rfl, rfl⟩

def joinedC (T : List ByteArray) : List UInt8 := T.flatMap fun s => s.data.toList

theorem joinedC_next (T : List ByteArray) (k : Nat) (h : k < T.length) : joinedC (T.take (k + 1)) = joinedC (T.take k) ++ (T.getD k ByteArray.empty).data.toList := by
  unfold joinedC
  rw [List.take_add_one, List.getElem?_eq_getElem h, List.flatMap_append, List.getD_eq_getElem?_getD, List.getElem?_eq_getElem h]
  simp
theorem take_next (l : List UInt8) (k : Nat) (h : k < l.length) : l.take (k + 1) = l.take k ++ [l[k]] := by
  rw [List.take_add_one, List.getElem?_eq_getElem h]; rfl
theorem feedL_next (r : Nat) (l : List UInt8) (k : Nat) (h : k < l.length) : feedL r (l.take (k + 1)) = thr (feedL r (l.take k)) (l[k]).toNat := by
  rw [take_next l k h, feedL_append]; rfl

theorem feedS_next (r : Nat) (s : ByteArray) (k : Nat) (h : k < s.size) : feedL r (s.data.toList.take (k + 1)) = thr (feedL r (s.data.toList.take k)) (s[k]).toNat :=
  feedL_next r s.data.toList k (by simpa using h)
theorem feedS_all (r : Nat) (s : ByteArray) : feedL r (s.data.toList.take s.size) = feedL r s.data.toList := by
  rw [List.take_of_length_le (by simp)]
theorem feedL_lt' (l : List UInt8) {r : Nat} (h : r < 4294967296) : feedL r l < 4294967296 := feedL_lt l h
/-- Each bit of a register turned. -/
def notN (x : Nat) : Nat := 4294967295 - x
theorem not_nat (q : Nat) (h : q < 4294967296) : 4294967295 ^^^ q = notN q := by
  apply Nat.eq_of_testBit_eq
  intro i
  have h1 := Nat.testBit_two_pow_sub_succ (n := 32) (x := q) (by simpa using h) i
  have h2 := Nat.testBit_two_pow_sub_one 32 i
  rw [show 2 ^ 32 - (q + 1) = notN q by unfold notN; omega] at h1
  rw [show (2 : Nat) ^ 32 - 1 = 4294967295 by decide] at h2
  rw [Nat.testBit_xor, h1, h2]
  by_cases hi : i < 32
  · simp [hi]
  · have : q.testBit i = false := Nat.testBit_lt_two_pow (Nat.lt_of_lt_of_le h (Nat.pow_le_pow_right (n := 2) (by decide) (show 32 ≤ i by omega)))
    simp [hi, this]
theorem not_bits (q : Nat) (h : q < 4294967296) : bits BinOp.xor IntKind.u32 IntKind.u32.max (q : Int) = ((notN q : Nat) : Int) := by
  rw [show IntKind.u32.max = 4294967295 by decide, u32_xor _ _ (by omega) (by omega) (by omega) (by omega), show (4294967295 : Int).toNat = 4294967295 from rfl, Int.toNat_natCast, not_nat q h]
theorem not_ret (q : Nat) (h : q < 4294967296) : Ending.returned (.int .u32 (bits BinOp.xor IntKind.u32 IntKind.u32.max (q : Int))) = Ending.returned (.int .u32 ((notN q : Nat) : Int)) := by rw [not_bits q h]

set_option maxHeartbeats 400000 in
theorem crc_Sum (a : Option Addr) (b off len cap : Nat) (T : List ByteArray) (w : World) (hlen : Hid (len = T.length)) (hl : len ≤ 9223372036854775807) (hz : Hid (RowS b off T w)) (hs : Hid (∀ s ∈ T, s.size ≤ 140737488355328)) (hab : Hid (len = 0 ∨ a = some ⟨b, off, none⟩)) :
    Calls Tryz.prog 91 #[.slice a len cap] w fun e w' => e = .returned (.int .u32 (sumL (joinedC T))) ∧ w = w' := by
  go_enter Tryz.func91, Tryz.ntmps91
  go_wp2_with fail
  go_loopw [3, 9] (fun y i wr => ∃ k : Nat, k ≤ len ∧ i = .int .i64 k ∧ y = .int .u32 (feedL 4294967295 (joinedC (T.take k))) ∧ wr = w) (fun y i wr => len - (intOf i).toNat)
  case atStart => exact ⟨0, by omega, rfl, rfl, rfl⟩
  case round =>
    obtain ⟨k, hk, rfl, rfl, rfl⟩ := hrel
    by_cases hlt : k < len
    · have hkT : k < T.length := by rw [← hlen.out]; exact hlt
      obtain ⟨hb, c1⟩ := hz.out k hkT
      have ha : a = some ⟨b, off, none⟩ := by rcases hab.out with h | h; (omega); (exact h)
      have hnext := Lib.hid (joinedC_next T k hkT)
      have hsz : (T.getD k ByteArray.empty).size ≤ 140737488355328 := hs.out _ (by rw [List.getD_eq_getElem?_getD, List.getElem?_eq_getElem hkT]; exact List.getElem_mem _)
      have hrl := Lib.hid (feedL_lt' (joinedC (T.take k)) (r := 4294967295) (by decide))
      clear hb
      generalize T.getD k ByteArray.empty = s at *
      obtain ⟨R, hR⟩ : ∃ R, R = feedL 4294967295 (joinedC (T.take k)) := ⟨_, rfl⟩
      rw [← hR] at hrl ⊢
      have HR := Lib.hid hR
      clear hR
      subst ha
      go_wp2_with fail
      go_loopw [3, 15] (fun y i wo => ∃ j : Nat, j ≤ s.size ∧ i = .int .i64 j ∧ y = .int .u32 (feedL R (s.data.toList.take j)) ∧ wo = wr) (fun y i wo => s.size - (intOf i).toNat)
      case atStart => exact ⟨0, by omega, rfl, rfl, rfl⟩
      case round =>
        obtain ⟨j, hj, rfl, rfl, rfl⟩ := hrel
        by_cases hjt : j < s.size
        · have hfn := feedS_next R s j hjt
          have hq := feedL_lt' (s.data.toList.take j) hrl.out
          generalize feedL R (s.data.toList.take j) = q at *
          have hbt : (s[j]).toNat < 256 := (s[j]).toNat_lt
          go_wp2_with fail
          refine (crc_through q (s[j]).toNat wr hq hbt).mono ?_
          rintro e w2 ⟨rfl, rfl⟩
          go_wp2_with fail
          go_roundw
          case rel => exact ⟨j + 1, by omega, by go_num, by rw [hfn], trivial⟩
          case measure => simp [intOf]; omega
        · obtain rfl : j = s.size := by omega
          have hend : feedL R (s.data.toList.take s.size) = feedL 4294967295 (joinedC (T.take (k + 1))) := by
            rw [feedS_all, hnext.out, feedL_append, HR.out]
          rw [hend]
          clear hend
          go_wp2_with fail
          go_roundw
          case rel => exact ⟨k + 1, by omega, by go_num, rfl, trivial⟩
          case measure => simp [intOf]; omega
    · obtain rfl : k = len := by omega
      have hall : joinedC (T.take k) = joinedC T := by rw [hlen.out, List.take_length]
      have hlt := feedL_lt' (joinedC T) (r := 4294967295) (by decide)
      rw [hall]
      have hsum : sumL (joinedC T) = notN (feedL 4294967295 (joinedC T)) := rfl
      generalize feedL 4294967295 (joinedC T) = q at *
      go_wp2_with fail
      go_ret
      exact ⟨not_ret q hlt, rfl⟩
end Go.Proofs.YteejldddgogbkaaGreatDoor
/- A text with its sum behind it, put and taken. -/
set_option linter.unusedVariables false
set_option maxRecDepth 100000
namespace Go.Proofs.YteejldddgogbkaaGreatDoor
open Go.RowKit

theorem conv_four (W : World) (g x : Nat) (hg : g = W.heap.size) (c0 c1 c2 c3 : Int) (h0 : c0 = ((x / 16777216 % 256 : Nat) : Int)) (h1 : c1 = ((x / 65536 % 256 : Nat) : Int)) (h2 : c2 = ((x / 256 % 256 : Nat) : Int)) (h3 : c3 = ((x % 256 : Nat) : Int)) :
    (convert 62 9 (.slice (some ⟨g, 0, none⟩) 4 4)).run Tryz.prog (W.alloc (.cells #[.int .u8 c0, .int .u8 c1, .int .u8 c2, .int .u8 c3] 5)) = .ok (.string (bs (four x))) (W.alloc (.cells #[.int .u8 c0, .int .u8 c1, .int .u8 c2, .int .u8 c3] 5)) := by
  subst hg h0 h1 h2 h3
  refine run_convert_bytes_back (P := Tryz.prog) _ 62 9 5 ⟨W.heap.size, 0, none⟩ 4 (four x) Tryz.underlying62 Tryz.underlying5 Tryz.underlying9 ?_
  intro j hj
  have hj4 : j < 4 := hj
  have hadd : (⟨W.heap.size, 0, none⟩ : Addr).add j = ⟨W.heap.size, 0 + j, none⟩ := by unfold Addr.add; split <;> simp_all
  rw [hadd, World.cell?_alloc_mark]
  have : j = 0 ∨ j = 1 ∨ j = 2 ∨ j = 3 := by omega
  rcases this with rfl | rfl | rfl | rfl <;> simp [four, ofNat_toNat]

set_option maxHeartbeats 400000 in
theorem crc_sumOf (s : ByteArray) (w : World) (hs : s.size ≤ 140737488355328) :
    Calls Tryz.prog 64 #[.string s] w fun e w' => e = .returned (.string (bs (four (sumL s.data.toList)))) ∧ Below w.heap.size w w' := by
  have hrow := row_new w [s] 9
  have hj : joinedC [s] = s.data.toList := by simp [joinedC]
  have hlt := sumL_lt s.data.toList
  obtain ⟨x, hx⟩ : ∃ x, x = sumL s.data.toList := ⟨_, rfl⟩
  rw [← hx] at hlt ⊢
  have HX := Lib.hid hx
  clear hx
  go_enter Tryz.func64, Tryz.ntmps64
  go_wp2_with fail
  refine (crc_Sum (some ⟨w.heap.size, 0, none⟩) w.heap.size 0 1 1 [s] _ (Lib.hid rfl) (by omega) (Lib.hid hrow) (Lib.hid (by simpa using hs)) (Lib.hid (.inr rfl))).mono ?_
  rintro e w1 ⟨rfl, rfl⟩
  rw [hj, ← HX.out]
  have hconv := conv_four (w.alloc (.cells #[.string s] 9)) (w.heap.size + 1) x (by simp) ((x : Int) / 16777216) ((x : Int) / 65536 % 256) ((x : Int) / 256 % 256) ((x : Int) % 256) (by omega) (by omega) (by omega) (by omega)
  go_wp2
  go_ret
  exact ⟨rfl, ((Below.refl _ _).alloc (Nat.le_refl _) _).alloc (by simp) _⟩

set_option maxHeartbeats 400000 in
theorem crc_Put (s : ByteArray) (w : World) (hs : s.size ≤ 140737488351232) :
    Calls Tryz.prog 27 #[.string s] w fun e w' => e = .returned (.string (bs (s.data.toList ++ four (sumL s.data.toList)))) ∧ Below w.heap.size w w' := by
  have hcat := cat_bs s (four (sumL s.data.toList))
  have hsum : (s.size : Int) + ((bs (four (sumL s.data.toList))).size : Int) ≤ 9223372036854775807 := by rw [bs_size, four_len]; omega
  go_enter Tryz.func27, Tryz.ntmps27
  go_wp2_with fail
  refine (crc_sumOf s w (by omega)).mono ?_
  rintro e w1 ⟨rfl, k1⟩
  go_wp2
  go_ret
  exact ⟨rfl, k1⟩

theorem seen_sumOf (W : World) (s : ByteArray) (hs : s.size ≤ 140737488355328) (n : Seen W) : Calls Tryz.prog 64 #[.string s] n.val fun e w'' => e = .returned (.string (bs (four (sumL s.data.toList)))) ∧ ∃ m : Seen W, w'' = m.val :=
  (crc_sumOf s n.val hs).mono fun _ w'' ⟨h1, h2⟩ => ⟨h1, ⟨⟨w'', n.below.trans (h2.mono n.below.size)⟩, rfl⟩⟩

/-- What a text is without its sum; why it is none. -/
def okT (l : List UInt8) : Prop := l.drop (l.length - 4) = four (sumL (l.take (l.length - 4)))
instance (l : List UInt8) : Decidable (okT l) := by unfold okT; infer_instance
def takeT (l : List UInt8) : List UInt8 := if 4 ≤ l.length ∧ okT l then l.take (l.length - 4) else []
def takeE (l : List UInt8) : Int := if l.length < 4 then 2 else if okT l then 0 else 4
set_option maxHeartbeats 400000 in
theorem crc_Take (s : ByteArray) (w : World) (hs : s.size ≤ 140737488355328) :
    Calls Tryz.prog 70 #[.string s] w fun e w' => e = .returned (.tuple #[.string (bs (takeT s.data.toList)), .int .i64 (takeE s.data.toList)]) ∧ Below w.heap.size w w' := by
  have hl : s.data.toList.length = s.size := by rw [← Lib.size_eq]
  by_cases h4 : s.size < 4
  · have e1 : takeT s.data.toList = [] := by unfold takeT; rw [if_neg (by omega)]
    have e2 : takeE s.data.toList = 2 := by unfold takeE; rw [if_pos (by omega)]
    rw [e1, e2]
    clear e1 e2
    go_enter Tryz.func70, Tryz.ntmps70
    go_wp2
    go_ret2
    exact ⟨rfl, Below.refl _ _⟩
  · obtain ⟨n, hn⟩ : ∃ n : Nat, s.size = n + 4 := ⟨s.size - 4, by omega⟩
    obtain ⟨x1, x2⟩ := take_split (s := s) (n := n) (by omega)
    have hok : okT s.data.toList ↔ s.data.toList.drop n = four (sumL (s.data.toList.take n)) := by unfold okT; rw [hl, hn, Nat.add_sub_cancel]
    have e1 : takeT s.data.toList = if okT s.data.toList then s.data.toList.take n else [] := by
      unfold takeT
      rw [hl, hn, Nat.add_sub_cancel]
      by_cases h : okT s.data.toList
      · rw [if_pos ⟨by omega, h⟩, if_pos h]
      · rw [if_neg (fun x => h x.2), if_neg h]
    have e2 : takeE s.data.toList = if okT s.data.toList then 0 else 4 := by unfold takeE; rw [if_neg (by omega)]
    have hsz : ((s.size : Int) - 4) = (n : Int) := by omega
    have hle : n ≤ s.size := by omega
    have hlen : (s.data.toList.take n).length ≤ 140737488355328 := by rw [List.length_take]; omega
    have HN := Lib.hid hn
    clear hn
    go_enter Tryz.func70, Tryz.ntmps70
    go_wp2_with fail
    refine region_seen (by kernel_rfl) (by kernel_rfl) ?_
    repeat (go_big_quiet_step (first | (go_at_call 64; exact seen_sumOf _ _ (by rw [bs_size]; exact hlen) _)))
    refine wpQuiet_nil ?_
    rintro _ ⟨m, rfl⟩
    go_wp2_with fail
    · rename_i h
      rw [Bool.not_eq_true', Bool.eq_false_iff, Ne, same_bytes, bs_list, ← hok] at h
      go_ret2
      exact ⟨ret2s (by rw [e1, if_neg h]; rfl) (by rw [e2, if_neg h]), m.below⟩
    · rename_i h
      rw [Bool.not_eq_false', same_bytes, bs_list, ← hok] at h
      go_ret2
      exact ⟨ret2s (by rw [e1, if_pos h]) (by rw [e2, if_pos h]), m.below⟩
end Go.Proofs.YteejldddgogbkaaGreatDoor
/- The program's Pack: the closure that adds an entry, the list, the sum. -/
set_option linter.unusedVariables false
set_option maxRecDepth 100000
set_option maxRecDepth 100000
namespace Go.Proofs.YteejldddgogbkaaGreatDoor
open Go.RowKit

theorem rest_bs (l : List UInt8) (k : Nat) : (bs l).extract k (bs l).size = bs (l.drop k) := bs_eq (by rw [extract_rest, bs_list])
/-- A variable that holds a text. -/
def Bx (c : Nat) (s : List UInt8) (w : World) : Prop := w.heap[c]? = some (.cells #[.string (bs s)] 9 (0, 0))
theorem Bx.cell {c : Nat} {s : List UInt8} {w : World} (h : Bx c s w) : w.cell? ⟨c, 0, none⟩ = some (.string (bs s)) := by unfold Bx at h; simp [World.cell?, h]
theorem Bx.free {c : Nat} {s : List UInt8} {w : World} (h : Bx c s w) : w.frozen? ⟨c, 0, none⟩ = false := by unfold Bx at h; simp [World.frozen?, h]
theorem Bx.put {c : Nat} {s : List UInt8} {w : World} (h : Bx c s w) (t : List UInt8) : Bx c t (w.setCell ⟨c, 0, none⟩ (.string (bs t))) := heap_set (o := 0) h _
/-- A variable that holds an entry. -/
def Bx3 (c : Nat) (x : Ent) (w : World) : Prop := w.heap[c]? = some (.cells #[.string (bs x.key), .string (bs x.val), .bool x.gone] 49 (0, 0))
theorem Bx3.cells {c : Nat} {x : Ent} {w : World} (h : Bx3 c x w) : w.cell? ⟨c, 0, none⟩ = some (.string (bs x.key)) ∧ w.cell? ⟨c, 1, none⟩ = some (.string (bs x.val)) ∧ w.cell? ⟨c, 2, none⟩ = some (.bool x.gone) := by unfold Bx3 at h; simp [World.cell?, h]

/-- The writer is kept where a variable of another kind is written. -/
theorem Wt.beside {B b c : Nat} {l : List UInt8} {w w' : World} {cs : Array Value} {t : TypeId} {z : Nat × Nat} (h : Wt B b l w) (hc : w.heap[c]? = some (.cells cs t z)) (hb : c ≠ b) (ht : t ≠ 5) (k : ∀ j, j < w.heap.size → j ≠ c → w'.heap[j]? = w.heap[j]?) : Wt B b l w' := by
  have core : ∀ p, Lib.BuilderAtF 140 5 B b p (Lib.byteCells l) w → Lib.BuilderAtF 140 5 B b p (Lib.byteCells l) w' := by
    rintro p ⟨hB, v, hbk, hown, hne⟩
    have hlt : b < w.heap.size := Lib.BuilderAtF.lt ⟨hB, v, hbk, hown, hne⟩
    refine ⟨hB, v, ?_, ⟨hown.1, ?_⟩, hne⟩
    · rw [k b hlt (Ne.symm hb), hbk]
    · rcases hown.2 with hn | ⟨g, cap, cur, fz, hv, hbg, hg, rest⟩
      · exact .inl hn
      · refine .inr ⟨g, cap, cur, fz, hv, hbg, ?_, rest⟩
        rw [k g (Array.getElem?_eq_some_iff.1 hg).1 (fun e => ?_), hg]
        subst e
        rw [hg] at hc
        injection hc with hc
        injection hc with _ hc
        exact ht hc.symm
  rcases h with h | h
  · exact .inl (core _ h)
  · exact .inr (core _ h)
set_option maxHeartbeats 2000000 in
theorem put_entry (B b c : Nat) (l last : List UInt8) (x : Ent) (w : World) (h : Wt B b l w) (hc : Bx c last w) (hbc : c ≠ b) (hBc : B ≤ c) (hlen : l.length ≤ 100000000000000) (hlast : last.length ≤ 65536) (hk : x.key.length ≤ 65536) (hv : x.val.length ≤ 65536) :
    Calls Tryz.prog 83 #[.pointer (some ⟨b, 0, none⟩), .agg #[.string (bs x.key), .string (bs x.val), .bool x.gone], .pointer (some ⟨c, 0, none⟩)] w fun e w' => e = .returned (.tuple #[]) ∧ Wt B b (l ++ entB last x) w' ∧ Bx c x.key w' ∧ Below B w w' := by
  have hcw : c < w.heap.size := heap_lt hc
  have hbw : b < w.heap.size := h.lt
  have hBw : B ≤ w.heap.size := by have := h.le; omega
  have HD := Lib.hid (show w.heap.size ≠ b ∧ w.heap.size ≠ c by omega)
  have H0 := Lib.hid (h.alloc (.cells #[.string (bs x.key), .string (bs x.val), .bool x.gone] 49))
  have C0 := Lib.hid (show Bx c last (w.alloc (.cells #[.string (bs x.key), .string (bs x.val), .bool x.gone] 49)) from (Below.heap_alloc w _ c hcw).trans hc)
  have D0 := Lib.hid (show Bx3 w.heap.size x (w.alloc (.cells #[.string (bs x.key), .string (bs x.val), .bool x.gone] 49)) from heap_new w _)
  have K0 := Lib.hid ((Below.refl B w).alloc hBw (.cells #[.string (bs x.key), .string (bs x.val), .bool x.gone] 49))
  have HBC := Lib.hid (And.intro hbc (And.intro hBc hBw))
  have cc0 : (w.alloc (.cells #[.string (bs x.key), .string (bs x.val), .bool x.gone] 49)).cell? ⟨c, 0, none⟩ = some (.string (bs last)) := C0.out.cell
  clear h hc hbc hBc hcw hbw hBw
  obtain ⟨n, hn⟩ : ∃ n, n = sharedL last x.key := ⟨_, rfl⟩
  have hnk : n ≤ x.key.length := by rw [hn]; exact (shared_le _ _).2
  have HE := Lib.hid (show entB last x = whole (n : Int) ++ text (x.key.drop n) ++ (if x.gone then whole ((0 : Nat) : Int) else whole ((x.val.length + 1 : Nat) : Int) ++ x.val) by rw [hn]; rfl)
  have HN := Lib.hid hn
  have z1 : (bs x.key).size = x.key.length := bs_size _
  have z2 : (bs x.val).size = x.val.length := bs_size _
  have hr := rest_bs x.key n
  rw [z1] at hr
  have hdl : (x.key.drop n).length ≤ 65536 := by rw [List.length_drop]; omega
  clear hn
  go_enter Tryz.func83, Tryz.ntmps83
  go_wp2_with fail
  refine (block_shared last x.key _ (by omega) (by omega)).mono ?_
  rintro e w1 ⟨rfl, k1⟩
  rw [← HN.out]
  have hs1 := k1.size
  have H1 := Lib.hid (H0.out.keep k1)
  have C1 := Lib.hid (show Bx c last w1 from (k1.block c (heap_lt C0.out)).trans C0.out)
  have D1 := Lib.hid (show Bx3 w.heap.size x w1 from (k1.block _ (heap_lt D0.out)).trans D0.out)
  have K1 := Lib.hid (K0.out.trans (k1.mono (Nat.le_trans HBC.out.2.2 K0.out.size)))
  clear k1 H0 C0 D0 K0 cc0
  obtain ⟨d0, d1, d2⟩ := D1.out.cells
  have hw0 := Lib.hid (whole_len (n := (n : Int)) (by omega) (by omega)).1
  have hw1 := Lib.hid (whole_len (n := ((x.key.drop n).length : Int)) (by omega) (by omega)).1
  have ht1 := Lib.hid (show (text (x.key.drop n)).length ≤ 70000 by unfold text; rw [List.length_append]; have := hw1.out; omega)
  go_wp2_with fail
  refine (six_CountO B b l n w1 H1.out (by omega) (by omega)).mono ?_
  rintro e w2 ⟨rfl, h2, k2⟩
  have H2 := Lib.hid h2
  have C2 := Lib.hid (show Bx c last w2 from k2.keeps C1.out HBC.out.1 (by decide))
  have D2 := Lib.hid (show Bx3 w.heap.size x w2 from k2.keeps D1.out HD.out.1 (by decide))
  have K2 := Lib.hid (K1.out.trans k2.bel)
  clear h2 k2 H1 C1 D1 K1 d0 d1 d2
  obtain ⟨d0, d1, d2⟩ := D2.out.cells
  go_wp2_with fail
  refine (six_TextO B b _ (bs (x.key.drop n)) w2 H2.out (by rw [bs_size, List.length_append]; have := hw0.out; omega)).mono ?_
  rintro e w3 ⟨rfl, h3, k3⟩
  rw [bs_list] at h3
  have H3 := Lib.hid h3
  have C3 := Lib.hid (show Bx c last w3 from k3.keeps C2.out HBC.out.1 (by decide))
  have D3 := Lib.hid (show Bx3 w.heap.size x w3 from k3.keeps D2.out HD.out.1 (by decide))
  have K3 := Lib.hid (K2.out.trans k3.bel)
  clear h3 k3 H2 C2 D2 K2 d0 d1 d2
  obtain ⟨d0, d1, d2⟩ := D3.out.cells
  have hl3 := Lib.hid (show (l ++ whole (n : Int) ++ text (x.key.drop n)).length ≤ 100000000100000 by rw [List.length_append, List.length_append]; have := hw0.out; have := ht1.out; omega)
  cases hg : x.gone with
  | true =>
    rw [hg] at d2
    have HG := Lib.hid hg
    clear hg
    go_wp2_with fail
    refine (six_CountO B b _ 0 w3 H3.out (by omega) (by have := hl3.out; omega)).mono ?_
    rintro e w4 ⟨rfl, h4, k4⟩
    have H4 := Lib.hid h4
    have C4 := Lib.hid (show Bx c last w4 from k4.keeps C3.out HBC.out.1 (by decide))
    have D4 := Lib.hid (show Bx3 w.heap.size x w4 from k4.keeps D3.out HD.out.1 (by decide))
    have K4 := Lib.hid (K3.out.trans k4.bel)
    clear h4 k4 H3 C3 D3 K3 d0 d1 d2
    obtain ⟨d0, _, _⟩ := D4.out.cells
    have cf := C4.out.free
    have cc := C4.out.cell
    go_wp2_with fail
    go_end0
    refine ⟨rfl, ?_, C4.out.put _, K4.out.setCell (p := ⟨c, 0, none⟩) HBC.out.2.1 _⟩
    rw [HE.out, if_pos HG.out, ← List.append_assoc, ← List.append_assoc]
    exact H4.out.beside C4.out HBC.out.1 (by decide) fun j _ hj => heap_set_other hj _
  | false =>
    rw [hg] at d2
    have HG := Lib.hid hg
    clear hg
    go_wp2_with fail
    refine (six_CountO B b _ (x.val.length + 1) w3 H3.out (by omega) (by have := hl3.out; omega)).mono ?_
    rintro e w4 ⟨rfl, h4, k4⟩
    have H4 := Lib.hid h4
    have C4 := Lib.hid (show Bx c last w4 from k4.keeps C3.out HBC.out.1 (by decide))
    have D4 := Lib.hid (show Bx3 w.heap.size x w4 from k4.keeps D3.out HD.out.1 (by decide))
    have K4 := Lib.hid (K3.out.trans k4.bel)
    clear h4 k4 H3 C3 D3 K3 d0 d1 d2
    obtain ⟨d0, d1, _⟩ := D4.out.cells
    have hw4 := Lib.hid (whole_len (n := ((x.val.length + 1 : Nat) : Int)) (by omega) (by omega)).1
    go_wp2_with fail
    refine (six_RawO B b _ (bs x.val) w4 H4.out (by rw [bs_size, List.length_append]; have := hl3.out; have := hw4.out; omega)).mono ?_
    rintro e w5 ⟨rfl, h5, k5⟩
    rw [bs_list] at h5
    have H5 := Lib.hid h5
    have C5 := Lib.hid (show Bx c last w5 from k5.keeps C4.out HBC.out.1 (by decide))
    have D5 := Lib.hid (show Bx3 w.heap.size x w5 from k5.keeps D4.out HD.out.1 (by decide))
    have K5 := Lib.hid (K4.out.trans k5.bel)
    clear h5 k5 H4 C4 D4 K4 d0 d1
    obtain ⟨d0, _, _⟩ := D5.out.cells
    have cf := C5.out.free
    have cc := C5.out.cell
    go_wp2_with fail
    go_end0
    refine ⟨rfl, ?_, C5.out.put _, K5.out.setCell (p := ⟨c, 0, none⟩) HBC.out.2.1 _⟩
    rw [HE.out, if_neg (by rw [HG.out]; decide), ← List.append_assoc, ← List.append_assoc, ← List.append_assoc]
    exact H5.out.beside C5.out HBC.out.1 (by decide) fun j _ hj => heap_set_other hj _
end Go.Proofs.YteejldddgogbkaaGreatDoor
/- The program's Pack. -/
set_option linter.unusedVariables false
set_option maxRecDepth 100000
set_option maxRecDepth 100000
namespace Go.Proofs.YteejldddgogbkaaGreatDoor
open Go.RowKit

/-- The last key, or the one ahead. -/
def lastK : List UInt8 → List Ent → List UInt8
  | last, [] => last
  | _, x :: T => lastK x.key T
theorem entsB_snoc (x : Ent) : ∀ (T : List Ent) (last : List UInt8), entsB last (T ++ [x]) = entsB last T ++ entB (lastK last T) x
  | [], last => by simp [entsB, lastK]
  | y :: T, last => by
    show entB last y ++ entsB y.key (T ++ [x]) = _
    rw [entsB_snoc x T y.key]
    simp [entsB, lastK]
theorem lastK_snoc (x : Ent) : ∀ (T : List Ent) (last : List UInt8), lastK last (T ++ [x]) = x.key
  | [], _ => rfl
  | y :: T, _ => lastK_snoc x T y.key
theorem take_ent {T : List Ent} {k : Nat} {x : Ent} (h : T[k]? = some x) : T.take (k + 1) = T.take k ++ [x] := by rw [List.take_add_one, h]; rfl
/-- Entries of sizes that may be packed. -/
def smallE (T : List Ent) : Prop := ∀ x ∈ T, x.key.length ≤ 65536 ∧ x.val.length ≤ 65536
theorem smallE.take {T : List Ent} (h : smallE T) (k : Nat) : smallE (T.take k) := fun x hx => h x (List.mem_of_mem_take hx)
theorem lastK_le : ∀ (T : List Ent) (last : List UInt8), last.length ≤ 65536 → smallE T → (lastK last T).length ≤ 65536
  | [], last, h, _ => h
  | x :: T, _, _, h => lastK_le T x.key (h x (by simp)).1 fun y hy => h y (by simp [hy])
theorem entB_len {last : List UInt8} {x : Ent} (h : x.key.length ≤ 65536 ∧ x.val.length ≤ 65536) : (entB last x).length ≤ 140000 := by
  have h1 := (shared_le last x.key).2
  have a1 := (whole_len (n := (sharedL last x.key : Int)) (by omega) (by omega)).1
  have h2 : (x.key.drop (sharedL last x.key)).length ≤ 65536 := by rw [List.length_drop]; omega
  have a2 := (whole_len (n := ((x.key.drop (sharedL last x.key)).length : Int)) (by omega) (by omega)).1
  have a3 := (whole_len (n := (0 : Int)) (by omega) (by omega)).1
  have a4 := (whole_len (n := ((x.val.length + 1 : Nat) : Int)) (by omega) (by omega)).1
  unfold entB text
  rw [List.length_append, List.length_append, List.length_append]
  split
  · omega
  · rw [List.length_append]; omega
theorem entsB_len : ∀ (T : List Ent) (last : List UInt8), smallE T → (entsB last T).length ≤ T.length * 140000
  | [], _, _ => by simp [entsB]
  | x :: T, last, h => by
    have h1 := entB_len (last := last) (h x (by simp))
    have h2 := entsB_len T x.key fun y hy => h y (by simp [hy])
    simp only [entsB, List.length_append, List.length_cons]
    omega

theorem block_putter (w : World) : Calls Tryz.prog 60 #[] w fun e w' => e = .returned (.func (.func 83) #[] #[.pointer (some ⟨w.heap.size, 0, none⟩)]) ∧ w.alloc (.cells #[.string (bs [])] 9) = w' := by
  go_enter Tryz.func60, Tryz.ntmps60
  go_wp2
  go_ret
  exact ⟨rfl, rfl⟩

set_option maxHeartbeats 2000000 in
theorem put_list (B b c : Nat) (T : List Ent) (a : Option Addr) (len cap : Nat) (w : World) (h : Wt B b [] w) (hc : Bx c [] w) (hbc : c ≠ b) (hBc : B ≤ c) (hT : Hid (∀ w', Below B w w' → IsE w' a len T)) (hl : len ≤ 65536) (hs : Hid (smallE T)) :
    Calls Tryz.prog 59 #[.pointer (some ⟨b, 0, none⟩), .slice a len cap, .func (.func 83) #[] #[.pointer (some ⟨c, 0, none⟩)]] w fun e w' => e = .returned (.int .i64 0) ∧ Wt B b (listB T) w' ∧ Below B w w' := by
  have hf : ∀ w : World, (binOp .eql 112 (.func (.func 83) #[] #[.pointer (some ⟨c, 0, none⟩)]) .nilFunc).run Tryz.prog w = .ok (.bool false) w := fun _ => by kernel_rfl
  have HW := Lib.hid h
  have HC := Lib.hid hc
  have HBC := Lib.hid (And.intro hbc hBc)
  have hlen := Lib.hid (show len = T.length from (hT.out w (Below.refl _ _)).1)
  clear h hc hbc hBc
  go_enter Tryz.func59, Tryz.ntmps59
  go_wp2_with fail
  refine (six_CountO B b [] len w HW.out (by omega) (by simp)).mono ?_
  rintro e w2 ⟨rfl, h2, k2⟩
  rw [List.nil_append] at h2
  have H2 := Lib.hid h2
  have C2 := Lib.hid (show Bx c [] w2 from k2.keeps HC.out HBC.out.1 (by decide))
  have K2 := Lib.hid k2.bel
  clear h2 k2
  go_wp2_with fail
  go_loopw [21] (fun i wr => ∃ k : Nat, k ≤ len ∧ i = .int .i64 k ∧ Wt B b (whole (len : Int) ++ entsB [] (T.take k)) wr ∧ Bx c (lastK [] (T.take k)) wr ∧ Below B w wr) (fun i wr => len - (intOf i).toNat)
  case atStart => exact ⟨0, Nat.zero_le _, rfl, by simpa [entsB] using H2.out, by simpa [lastK] using C2.out, K2.out⟩
  case round =>
    obtain ⟨k, hk, rfl, hwt, hcr, hbw⟩ := hrel
    have HWr := Lib.hid hwt
    have HCr := Lib.hid hcr
    have HK := Lib.hid hbw
    clear hwt hcr hbw
    by_cases hlt : k < len
    · obtain ⟨b1, off, x, rfl, hx, _, hcell⟩ := (hT.out wr HK.out).at hlt
      have hsx := Lib.hid (hs.out x (List.mem_of_getElem? hx))
      have hnext := Lib.hid (show entsB [] (T.take (k + 1)) = entsB [] (T.take k) ++ entB (lastK [] (T.take k)) x by rw [take_ent hx, entsB_snoc])
      have hlast := Lib.hid (show lastK [] (T.take (k + 1)) = x.key by rw [take_ent hx, lastK_snoc])
      have c0 := hcell.c0
      have c1 := hcell.c1
      have c2 := hcell.c2
      have hbB := Lib.hid HWr.out.lt
      have hbc2 := Lib.hid (heap_lt HCr.out)
      have A1 := Lib.hid (HWr.out.alloc (.cells #[.string (bs x.key), .string (bs x.val), .bool x.gone] 49))
      have A2 := Lib.hid (show Bx c (lastK [] (T.take k)) (wr.alloc (.cells #[.string (bs x.key), .string (bs x.val), .bool x.gone] 49)) from (Below.heap_alloc wr _ c hbc2.out).trans HCr.out)
      have A3 := Lib.hid (HK.out.alloc (by have := HWr.out.le; have := hbB.out; omega) (.cells #[.string (bs x.key), .string (bs x.val), .bool x.gone] 49))
      have hll := Lib.hid (show (whole (len : Int) ++ entsB [] (T.take k)).length ≤ 100000000000000 by
        have h0 := (whole_len (n := (len : Int)) (by omega) (by omega)).1
        have h1 := entsB_len (T.take k) [] (hs.out.take k)
        rw [List.length_take] at h1
        rw [List.length_append]
        omega)
      clear hx hcell HWr HCr HK
      go_wp2_with fail
      refine (put_entry B b c _ _ x _ A1.out A2.out HBC.out.1 HBC.out.2 hll.out (lastK_le _ _ (by simp) (hs.out.take k)) hsx.out.1 hsx.out.2).mono ?_
      rintro e w3 ⟨rfl, h3, c3, k3⟩
      have HW3 := Lib.hid h3
      have HC3 := Lib.hid c3
      have HK3 := Lib.hid (A3.out.trans k3)
      clear h3 c3 k3 c0 c1 c2
      go_wp2
      go_roundw
      case rel => exact ⟨k + 1, by omega, by go_num, by rw [hnext.out, ← List.append_assoc]; exact HW3.out, by rw [hlast.out]; exact HC3.out, HK3.out⟩
      case measure => simp [intOf]; omega
    · have hwall := Lib.hid (show Wt B b (listB T) wr by
        have := HWr.out
        rw [List.take_of_length_le (by rw [← hlen.out]; omega), hlen.out] at this
        exact this)
      clear HWr
      go_wp2
      go_ret
      exact ⟨rfl, hwall.out, HK.out⟩

/-- What Pack answers. -/
def packB (T : List Ent) : List UInt8 := if chkE T = 0 then listB T ++ four (sumL (listB T)) else []
theorem listB_len {T : List Ent} (hs : smallE T) (hl : T.length ≤ 65536) : (listB T).length ≤ 10000000000 := by
  have h0 := (whole_len (n := (T.length : Int)) (by omega) (by omega)).1
  have h1 := entsB_len T [] hs
  unfold listB
  rw [List.length_append]
  omega
theorem smallE_of {T : List Ent} : ∀ {first : Bool} {last : List UInt8}, okEs first last T → smallE T := by
  induction T with
  | nil => exact fun _ x hx => by cases hx
  | cons y T ih =>
    intro first last h x hx
    rcases List.mem_cons.1 hx with rfl | hx
    · exact ⟨h.1.1, h.1.2.1⟩
    · exact ih h.2 x hx
set_option maxHeartbeats 1000000 in
theorem block_Pack (a : Option Addr) (len cap : Nat) (T : List Ent) (w : World) (hT : Hid (IsE w a len T)) (hl : len ≤ 9223372036854775807) (hs : Hid (fitE T)) :
    Calls Tryz.prog 23 #[.slice a len cap] w fun e w' => e = .returned (.tuple #[.string (bs (packB T)), .int .i64 (chkE T)]) ∧ Below w.heap.size w w' := by
  by_cases h0 : chkE T = 0
  · obtain ⟨hok, hlen⟩ := (chkE_ok T).1 h0
    have hsm := Lib.hid (smallE_of hok)
    have hle : len ≤ 65536 := by rw [hT.out.1]; exact hlen
    have hb := Lib.hid (listB_len hsm.out hlen)
    have hres := Lib.hid (show packB T = listB T ++ four (sumL (listB T)) by unfold packB; rw [if_pos h0])
    have hchk := block_Check a len cap T w hT hl hs
    rw [h0] at hchk ⊢
    have HCHK := Lib.hid hchk
    clear hchk h0 hok hlen
    go_enter Tryz.func23, Tryz.ntmps23
    go_wp2_with fail
    refine HCHK.out.mono ?_
    rintro e w1 ⟨rfl, k1⟩
    have K1 := Lib.hid k1
    clear k1
    go_wp2_with fail
    refine (six_New w1).mono ?_
    rintro e w2 ⟨rfl, hw2⟩
    obtain ⟨B, hB⟩ : ∃ B, B = w1.heap.size := ⟨_, rfl⟩
    have H2 := Lib.hid (show Wt B B [] w2 by rw [← hw2, hB]; exact wt_new w1)
    have K2 := Lib.hid (show Below B w1 w2 by rw [← hw2, hB]; exact (Below.refl _ _).alloc (Nat.le_refl _) _)
    have S2 := Lib.hid (show w2.heap.size = B + 1 by rw [← hw2, hB]; simp)
    rw [← hB]
    have HB := Lib.hid hB
    clear hw2 hB
    go_wp2_with fail
    refine (block_putter w2).mono ?_
    rintro e w3 ⟨rfl, hw3⟩
    have H3 := Lib.hid (show Wt B B [] w3 by rw [← hw3]; exact H2.out.alloc _)
    have K3 := Lib.hid (show Below B w1 w3 by rw [← hw3]; exact K2.out.alloc (by have := S2.out; omega) _)
    have C3 := Lib.hid (show Bx w2.heap.size [] w3 by rw [← hw3]; exact heap_new w2 _)
    clear hw3
    go_wp2_with fail
    refine (put_list B B w2.heap.size T a len cap w3 H3.out C3.out (by have := S2.out; omega) (by have := S2.out; omega) (Lib.hid fun w' hk => hT.out.below ((K1.out.trans ((K3.out.trans hk).mono (by rw [HB.out]; exact K1.out.size))))) hle hsm).mono ?_
    rintro e w4 ⟨rfl, h4, k4⟩
    have H4 := Lib.hid h4
    have K4 := Lib.hid (K3.out.trans k4)
    clear h4 k4
    go_wp2_with fail
    refine (six_Bytes B B _ w4 H4.out).mono ?_
    rintro e w5 ⟨rfl, _, k5, _⟩
    have K5 := Lib.hid (K4.out.trans k5)
    clear k5
    go_wp2_with fail
    refine (crc_Put (bs (listB T)) w5 (by rw [bs_size]; have := hb.out; omega)).mono ?_
    rintro e w6 ⟨rfl, k6⟩
    rw [bs_list, ← hres.out]
    have K6 := Lib.hid (K5.out.trans (k6.mono (by have := K5.out.size; rw [HB.out]; omega)))
    clear k6
    go_wp2_with fail
    go_ret2
    exact ⟨rfl, K1.out.trans (K6.out.mono (by rw [HB.out]; exact K1.out.size))⟩
  · have hres := Lib.hid (show packB T = [] by unfold packB; rw [if_neg h0])
    have hne : (chkE T == 0) = false := beq_eq_false_iff_ne.2 h0
    have HCHK := Lib.hid (block_Check a len cap T w hT hl hs)
    obtain ⟨e, he⟩ : ∃ e, e = chkE T := ⟨_, rfl⟩
    rw [← he] at HCHK hne ⊢
    rw [hres.out]
    clear h0 he hres
    go_enter Tryz.func23, Tryz.ntmps23
    go_wp2_with fail
    refine HCHK.out.mono ?_
    rintro e w1 ⟨rfl, k1⟩
    go_wp2_with fail
    go_ret2
    exact ⟨rfl, k1⟩
end Go.Proofs.YteejldddgogbkaaGreatDoor
