/- Texts put together: Base, CrcPlain, CrcSum, CrcPuts, Only, SixPlain -/
import Derived.Test.YtlpknhiagdhkcaaChecked
import Derived.WalkKit
import Derived.WalkSpells
import Derived.WalkLawsBesides
import Derived.Lib.Hide
import Derived.Lib.Strings
import Derived.Laws.BitsAllLaws
import Derived.Laws.IdiomStrings
import Derived.Deep.QuietTactic
import Derived.BigQuiet
import Derived.Below
/- What all layers share: bytes as strings, rows of strings, regions that write nothing that was there. -/
set_option linter.unusedVariables false
set_option maxRecDepth 100000
namespace Go.Proofs.Ytlpknhiagdhkcaa
open Go.RowKit

theorem info5 : (Try.prog.info? 5).map (fun i => (i.zero, i.size, i.bytes)) = some (some (.int .u8 0), 1, 1) := by kernel_rfl
/-- The texts that stand in a row of strings. -/
def RowS (b off : Nat) (T : List ByteArray) (w : World) : Prop := ∀ k, k < T.length → b < w.heap.size ∧ w.cell? ⟨b, off + k, none⟩ = some (.string (T.getD k ByteArray.empty))
/-- A list of bytes as a string. -/
def bs (l : List UInt8) : ByteArray := ⟨l.toArray⟩
theorem bs_list (l : List UInt8) : (bs l).data.toList = l := rfl
theorem bs_size (l : List UInt8) : (bs l).size = l.length := by rw [Lib.size_eq, bs_list]
theorem bs_eq {s : ByteArray} {l : List UInt8} (h : s.data.toList = l) : s = bs l := by
  obtain ⟨⟨x⟩⟩ := s
  subst h
  rfl
theorem bs_inj {l m : List UInt8} (h : bs l = bs m) : l = m := by rw [← bs_list l, h, bs_list]
theorem cat_list (a b : ByteArray) : (a ++ b).data.toList = a.data.toList ++ b.data.toList := by
  obtain ⟨⟨x⟩⟩ := a
  obtain ⟨⟨y⟩⟩ := b
  simp
theorem cat_bs (s : ByteArray) (l : List UInt8) : s ++ bs l = bs (s.data.toList ++ l) := bs_eq (by rw [cat_list, bs_list])

theorem row_new (w : World) (T : List ByteArray) (t : TypeId) : RowS w.heap.size 0 T (w.alloc (.cells (T.map Value.string).toArray t)) := by
  intro k hk
  refine ⟨by show w.heap.size < (w.heap.push _).size; simp, ?_⟩
  rw [World.cell?_alloc_mark]
  simp [hk, List.getD_eq_getElem?_getD]

theorem ofNat_toNat (n : Nat) : (UInt8.ofNat n).toNat = n % 256 := UInt8.toNat_ofNat'

theorem bs_cat (l : List UInt8) (s : ByteArray) : bs l ++ s = bs (l ++ s.data.toList) := bs_eq (by rw [cat_list, bs_list])
theorem take_split {s : ByteArray} {n : Nat} (h : n ≤ s.size) : s.extract 0 n = bs (s.data.toList.take n) ∧ s.extract n s.size = bs (s.data.toList.drop n) := by
  have hn : s.data.toList.length = s.size := by rw [← Lib.size_eq]
  constructor
  · exact bs_eq (by rw [Lib.extract_data]; simp)
  · exact bs_eq (by rw [Lib.extract_data, List.take_of_length_le (by rw [List.length_drop]; omega)])

theorem same_bytes (l m : List UInt8) : ((bs l).toList == (bs m).toList) = true ↔ l = m := by
  rw [Lib.toList_data, Lib.toList_data, bs_list, bs_list, beq_iff_eq]

theorem ret2s {k : IntKind} {s s' : ByteArray} {b b' : Int} (h1 : s' = s) (h2 : b' = b) : Ending.returned (.tuple #[.string s, .int k b]) = Ending.returned (.tuple #[.string s', .int k b']) := by rw [h1, h2]

theorem RowS.below {b off : Nat} {T : List ByteArray} {w w' : World} (h : RowS b off T w) (k : Below w.heap.size w w') : RowS b off T w' := by
  intro i hi
  obtain ⟨h1, h2⟩ := h i hi
  exact ⟨Nat.lt_of_lt_of_le h1 k.size, by rw [k.cell h1]; exact h2⟩
/-- The worlds that a call may come to that writes nothing that was there. -/
structure Seen (W : World) where
  val : World
  below : Below W.heap.size W val
instance seen_any (W : World) : Nonempty (Seen W) := ⟨⟨W, Below.refl _ _⟩⟩
/-- A region that draws its order and whose operations write nothing that was there: one walk in the order of the text. -/
theorem region_seen {P : Program} {id : Nat} {Q : Exit → Act → World → Prop} {a : Act} {w : World} {l : List Oper} (hm : P.follows .mixedOrders = true) (hB : Region.lexB .any l.toArray = true)
    (h : wpQuiet P l.toArray (fun w' => ∃ n : Seen w, w' = n.val) (fun a' => ∀ w', (∃ n : Seen w, w' = n.val) → Q .normal a' w') l a) : (Code.region id l.toArray true).wp P Q a w :=
  wp_region_quiet (C := fun w' => ∃ n : Seen w, w' = n.val) hm hB ⟨⟨w.drew, (Below.refl _ _).drew⟩, rfl⟩ (by simpa using h)
theorem addr_add (b o j : Nat) : (⟨b, o, none⟩ : Addr).add j = ⟨b, o + j, none⟩ := by unfold Addr.add; split <;> simp_all
/-- WHAT IS KNOWN OF A SLICE OF TEXTS THAT CAME IN. -/
def IsTexts (w : World) (a : Option Addr) (len : Nat) (T : List ByteArray) : Prop :=
  len = T.length ∧ ∃ b off, (len = 0 ∨ a = some ⟨b, off, none⟩) ∧ RowS b off T w

theorem take_get {α : Type} (l : List α) (d : α) (n k : Nat) (h : k < n) : (l.take n).getD k d = l.getD k d := by
  simp [List.getD_eq_getElem?_getD, List.getElem?_take, h]
theorem cell_block {w : World} {b o : Nat} {v : Value} (h : w.cell? ⟨b, o, none⟩ = some v) : b < w.heap.size := by
  rcases Nat.lt_or_ge b w.heap.size with h' | h'
  · exact h'
  · simp [World.cell?, Array.getElem?_eq_none h'] at h

theorem texts_is {w : World} {x : Addr} {len cap : Nat} {ss : List ByteArray} (hl : len ≤ cap) (hz : ss.length = cap) (hcell : ∀ i, i < ss.length → w.cell? (x.add i) = some (.string (ss.getD i ByteArray.empty))) :
    IsTexts w (some x) len (ss.take len) := by
  refine ⟨by rw [List.length_take]; omega, ?_⟩
  by_cases h0 : len = 0
  · subst h0
    exact ⟨0, 0, .inl rfl, fun k hk => absurd hk (by simp)⟩
  · obtain ⟨b, off, spot⟩ := x
    have hspot : spot = none := by simpa [Addr.add] using World.cell?_spot (hcell 0 (by omega))
    subst hspot
    refine ⟨b, off, .inr rfl, fun k hk => ?_⟩
    have hk' : k < len := by rw [List.length_take] at hk; omega
    have h1 := hcell k (by omega)
    rw [addr_add] at h1
    rw [take_get ss ByteArray.empty len k hk']
    exact ⟨cell_block h1, h1⟩

end Go.Proofs.Ytlpknhiagdhkcaa
/- Plain mathematics of the statements over layer crc: no program, no world. A register of 32 bits, bit by bit; bits turned within 32 in a row are told. -/
namespace Go.Proofs.Ytlpknhiagdhkcaa

/-! ### The register -/

/-- The register behind one bit, where what comes in is added to its lowest bit. -/
def stepB (x : Nat) (b : Bool) : Nat := x / 2 ^^^ (if (x.testBit 0 != b) = true then 2197175160 else 0)
/-- The register behind one bit that is 0. -/
def tap (x : Nat) : Nat := stepB x false
def tapN : Nat → Nat → Nat
  | 0, x => x
  | k + 1, x => tapN k (tap x)
def feedB (x : Nat) (u : List Bool) : Nat := u.foldl stepB x
def num : List Bool → Nat
  | [] => 0
  | b :: u => b.toNat + 2 * num u
def bitsN : Nat → Nat → List Bool
  | 0, _ => []
  | k + 1, n => (n % 2 == 1) :: bitsN k (n / 2)

theorem taps_lt : (2197175160 : Nat) < 2 ^ 32 := by decide

theorem stepB_lt {x : Nat} (b : Bool) (h : x < 2 ^ 32) : stepB x b < 2 ^ 32 := by
  unfold stepB
  refine Nat.xor_lt_two_pow (by omega) ?_
  split
  · decide
  · decide
theorem tap_lt {x : Nat} (h : x < 2 ^ 32) : tap x < 2 ^ 32 := stepB_lt _ h
theorem tapN_lt (k : Nat) : ∀ {x : Nat}, x < 2 ^ 32 → tapN k x < 2 ^ 32 := by
  induction k with
  | zero => intro x h; exact h
  | succ k ih => intro x h; exact ih (tap_lt h)
theorem feedB_lt (u : List Bool) : ∀ {x : Nat}, x < 2 ^ 32 → feedB x u < 2 ^ 32 := by
  induction u with
  | nil => intro x h; exact h
  | cons b u ih => intro x h; exact ih (stepB_lt b h)

theorem high (x : Nat) (b : Bool) (h : x < 2 ^ 32) : (stepB x b).testBit 31 = (x.testBit 0 != b) := by
  unfold stepB
  rw [Nat.testBit_xor, Nat.testBit_lt_two_pow (by omega)]
  cases (x.testBit 0 != b) with
  | true => decide
  | false => decide

theorem bit0_eq {x y : Nat} (h : x.testBit 0 = y.testBit 0) (h2 : x / 2 = y / 2) : x = y := by
  rw [Nat.testBit_zero, Nat.testBit_zero] at h
  have := decide_eq_decide.1 h
  omega

theorem xor_cancel {a b c : Nat} (h : a ^^^ c = b ^^^ c) : a = b := by
  have := congrArg (· ^^^ c) h
  simpa [Nat.xor_assoc] using this
theorem xor_cancel_left {a b c : Nat} (h : c ^^^ a = c ^^^ b) : a = b := by
  rw [Nat.xor_comm c, Nat.xor_comm c] at h
  exact xor_cancel h

theorem stepB_inj {x y : Nat} (b : Bool) (hx : x < 2 ^ 32) (hy : y < 2 ^ 32) (h : stepB x b = stepB y b) : x = y := by
  have h31 : (stepB x b).testBit 31 = (stepB y b).testBit 31 := by rw [h]
  rw [high x b hx, high y b hy] at h31
  have h0 : x.testBit 0 = y.testBit 0 := by
    cases hx0 : x.testBit 0 <;> cases hy0 : y.testBit 0 <;> cases b <;> simp_all
  unfold stepB at h
  rw [h0] at h
  exact bit0_eq h0 (xor_cancel h)
theorem tapN_inj (k : Nat) : ∀ {x y : Nat}, x < 2 ^ 32 → y < 2 ^ 32 → tapN k x = tapN k y → x = y := by
  induction k with
  | zero => intro x y _ _ h; exact h
  | succ k ih => intro x y hx hy h; exact stepB_inj false hx hy (ih (tap_lt hx) (tap_lt hy) h)
theorem feedB_inj (u : List Bool) : ∀ {x y : Nat}, x < 2 ^ 32 → y < 2 ^ 32 → feedB x u = feedB y u → x = y := by
  induction u with
  | nil => intro x y _ _ h; exact h
  | cons b u ih => intro x y hx hy h; exact stepB_inj b hx hy (ih (stepB_lt b hx) (stepB_lt b hy) h)

/-- All bits may be added ahead. -/
theorem tap_num1 (x : Nat) (b : Bool) (u : List Bool) : tap (x ^^^ num (b :: u)) = stepB x b ^^^ num u := by
  unfold tap stepB
  have h1 : num (b :: u) / 2 = num u := by simp only [num]; cases b <;> simp <;> omega
  have h2 : (num (b :: u)).testBit 0 = b := by
    rw [Nat.testBit_zero]; simp only [num]; cases b <;> simp <;> omega
  have h3 : (x ^^^ num (b :: u)) / 2 = x / 2 ^^^ num u := by
    rw [← h1]
    have := Nat.shiftRight_xor_distrib (a := x) (b := num (b :: u)) (i := 1)
    simpa [Nat.shiftRight_eq_div_pow] using this
  rw [h3, Nat.testBit_xor, h2]
  have h4 : ((x.testBit 0 ^^ b) != false) = (x.testBit 0 != b) := by cases x.testBit 0 <;> cases b <;> rfl
  rw [h4, Nat.xor_assoc, Nat.xor_assoc, Nat.xor_comm (num u)]
theorem tap_num (u : List Bool) : ∀ x : Nat, tapN u.length (x ^^^ num u) = feedB x u := by
  induction u with
  | nil => intro x; simp [num, tapN, feedB]
  | cons b u ih =>
    intro x
    show tapN u.length (tap (x ^^^ num (b :: u))) = feedB (stepB x b) u
    rw [tap_num1, ih]

theorem num_lt (u : List Bool) : num u < 2 ^ u.length := by
  induction u with
  | nil => simp [num]
  | cons b u ih => simp only [num, List.length_cons, Nat.pow_succ]; cases b <;> simp <;> omega
theorem num_inj (u : List Bool) : ∀ v : List Bool, u.length = v.length → num u = num v → u = v := by
  induction u with
  | nil => intro v h _; cases v with
    | nil => rfl
    | cons _ _ => simp at h
  | cons b u ih =>
    intro v h hn
    cases v with
    | nil => simp at h
    | cons c v =>
      simp only [num] at hn
      have hb : b = c := by cases b <;> cases c <;> simp at hn ⊢ <;> omega
      subst hb
      rw [ih v (by simpa using h) (by omega)]

/-- At most 32 bits in a row, from one register on, are told by the register behind them. -/
theorem mid_inj {x : Nat} (hx : x < 2 ^ 32) {u v : List Bool} (hl : u.length = v.length) (h32 : u.length ≤ 32) (h : feedB x u = feedB x v) : u = v := by
  rw [← tap_num, ← tap_num, ← hl] at h
  have hp : 2 ^ u.length ≤ 2 ^ 32 := Nat.pow_le_pow_right (by decide) h32
  have hu := num_lt u
  have hv := num_lt v
  rw [← hl] at hv
  have h' := tapN_inj _ (Nat.xor_lt_two_pow hx (by omega)) (Nat.xor_lt_two_pow hx (by omega)) h
  exact num_inj u v hl (xor_cancel_left h')

theorem feedB_append (x : Nat) (u v : List Bool) : feedB x (u ++ v) = feedB (feedB x u) v := List.foldl_append

theorem burst_bits {r : Nat} (hr : r < 2 ^ 32) {u v : List Bool} (hl : u.length = v.length) (f : Nat) (h : ∀ i, i < f ∨ f + 32 ≤ i → u[i]? = v[i]?) (he : feedB r u = feedB r v) : u = v := by
  have split3 : ∀ w : List Bool, w = w.take f ++ ((w.drop f).take 32 ++ w.drop (f + 32)) := by
    intro w
    rw [← List.drop_drop, List.take_append_drop, List.take_append_drop]
  have hpre : u.take f = v.take f := by
    apply List.ext_getElem?
    intro i
    rw [List.getElem?_take, List.getElem?_take]
    split
    · exact h i (by omega)
    · rfl
  have hpost : u.drop (f + 32) = v.drop (f + 32) := by
    apply List.ext_getElem?
    intro i
    rw [List.getElem?_drop, List.getElem?_drop]
    exact h _ (by omega)
  rw [split3 u, split3 v, feedB_append, feedB_append, feedB_append, feedB_append, hpre, hpost] at he
  have hx : feedB r (v.take f) < 2 ^ 32 := feedB_lt _ hr
  have hmid := mid_inj hx (u := (u.drop f).take 32) (v := (v.drop f).take 32) (by simp [hl]) (by simp; omega) (feedB_inj _ (feedB_lt _ hx) (feedB_lt _ hx) he)
  rw [split3 u, split3 v, hpre, hpost, hmid]

/-! ### Bytes -/

theorem bitsN_len (k : Nat) : ∀ n, (bitsN k n).length = k := by
  induction k with
  | zero => intro n; rfl
  | succ k ih => intro n; simp [bitsN, ih]
theorem num_bitsN (k : Nat) : ∀ n, n < 2 ^ k → num (bitsN k n) = n := by
  induction k with
  | zero => intro n h; simp only [bitsN, num]; omega
  | succ k ih =>
    intro n h
    simp only [bitsN, num]
    rw [ih (n / 2) (by rw [Nat.pow_succ] at h; omega)]
    rcases Nat.mod_two_eq_zero_or_one n with h0 | h0 <;> simp [h0] <;> omega
theorem bitsN_get (k : Nat) : ∀ n i, i < k → (bitsN k n)[i]? = some (n.testBit i) := by
  induction k with
  | zero => intro n i h; omega
  | succ k ih =>
    intro n i h
    cases i with
    | zero => simp only [bitsN, List.getElem?_cons_zero, Nat.testBit_zero]; rcases Nat.mod_two_eq_zero_or_one n with h0 | h0 <;> simp [h0]
    | succ i => simp only [bitsN, List.getElem?_cons_succ]; rw [ih _ _ (by omega), Nat.testBit_succ]

def thr (r b : Nat) : Nat := tapN 8 (r ^^^ b)
theorem thr_bits (r b : Nat) (h : b < 256) : thr r b = feedB r (bitsN 8 b) := by
  have := tap_num (bitsN 8 b) r
  rw [bitsN_len, num_bitsN 8 b h] at this
  exact this

def feedL (r : Nat) (l : List UInt8) : Nat := l.foldl (fun r b => thr r b.toNat) r
def bitsL (l : List UInt8) : List Bool := l.flatMap fun b => bitsN 8 b.toNat
theorem feedL_bits (l : List UInt8) : ∀ r, feedL r l = feedB r (bitsL l) := by
  induction l with
  | nil => intro r; rfl
  | cons b l ih =>
    intro r
    show feedL (thr r b.toNat) l = feedB r (bitsN 8 b.toNat ++ bitsL l)
    rw [feedB_append, ih, thr_bits _ _ b.toNat_lt]
theorem feedL_append (r : Nat) (l m : List UInt8) : feedL r (l ++ m) = feedL (feedL r l) m := List.foldl_append
theorem feedL_lt (l : List UInt8) {r : Nat} (h : r < 2 ^ 32) : feedL r l < 2 ^ 32 := by rw [feedL_bits]; exact feedB_lt _ h
theorem thr_lt {r b : Nat} (h : r < 2 ^ 32) (hb : b < 256) : thr r b < 2 ^ 32 := by rw [thr_bits _ _ hb]; exact feedB_lt _ h

/-- The sum of bytes. -/
def sumL (l : List UInt8) : Nat := 4294967295 - feedL 4294967295 l
theorem sumL_lt (l : List UInt8) : sumL l < 4294967296 := by unfold sumL; omega
theorem full_lt : (4294967295 : Nat) < 2 ^ 32 := by decide
theorem sumL_eq {l m : List UInt8} (h : sumL l = sumL m) : feedL 4294967295 l = feedL 4294967295 m := by
  have h1 := feedL_lt l full_lt
  have h2 := feedL_lt m full_lt
  unfold sumL at h
  omega

/-- A sum's bytes, the highest first. -/
def four (x : Nat) : List UInt8 := [UInt8.ofNat (x / 16777216), UInt8.ofNat (x / 65536), UInt8.ofNat (x / 256), UInt8.ofNat x]
theorem four_len (x : Nat) : (four x).length = 4 := rfl
theorem four_inj {x y : Nat} (hx : x < 4294967296) (hy : y < 4294967296) (h : four x = four y) : x = y := by
  unfold four at h
  simp only [List.cons.injEq, and_true] at h
  obtain ⟨h1, h2, h3, h4⟩ := h
  have g1 := congrArg UInt8.toNat h1
  have g2 := congrArg UInt8.toNat h2
  have g3 := congrArg UInt8.toNat h3
  have g4 := congrArg UInt8.toNat h4
  simp only [UInt8.toNat_ofNat'] at g1 g2 g3 g4
  omega

/-! ### Bits of bytes -/

def bitL (l : List UInt8) (i : Nat) : Bool := (l.getD (i / 8) 0).toNat.testBit (i % 8)

theorem bitsL_len (l : List UInt8) : (bitsL l).length = 8 * l.length := by
  induction l with
  | nil => rfl
  | cons b l ih => simp only [bitsL, List.flatMap_cons, List.length_append, bitsN_len, List.length_cons]; unfold bitsL at ih; omega
theorem bitsL_get (l : List UInt8) : ∀ i, i < 8 * l.length → (bitsL l)[i]? = some (bitL l i) := by
  induction l with
  | nil => intro i h; simp at h
  | cons b l ih =>
    intro i h
    show (bitsN 8 b.toNat ++ bitsL l)[i]? = _
    by_cases h8 : i < 8
    · rw [List.getElem?_append_left (by rw [bitsN_len]; exact h8), bitsN_get _ _ _ h8]
      unfold bitL
      rw [show i / 8 = 0 by omega, show i % 8 = i by omega]
      rfl
    · rw [List.getElem?_append_right (by rw [bitsN_len]; omega), bitsN_len, ih _ (by simp at h; omega)]
      unfold bitL
      rw [show i / 8 = (i - 8) / 8 + 1 by omega, show i % 8 = (i - 8) % 8 by omega]
      rfl

theorem byte_ext {a b : UInt8} (h : ∀ k, k < 8 → a.toNat.testBit k = b.toNat.testBit k) : a = b := by
  apply UInt8.toNat_inj.1
  apply Nat.eq_of_testBit_eq
  intro k
  by_cases hk : k < 8
  · exact h k hk
  · have ha := a.toNat_lt
    have hb := b.toNat_lt
    have : (2 : Nat) ^ 8 ≤ 2 ^ k := Nat.pow_le_pow_right (by decide) (by omega)
    rw [Nat.testBit_lt_two_pow (by omega), Nat.testBit_lt_two_pow (by omega)]

theorem list_ext {l m : List UInt8} (hl : l.length = m.length) (h : ∀ i, i < 8 * l.length → bitL l i = bitL m i) : l = m := by
  apply List.ext_getElem hl
  intro j h1 h2
  apply byte_ext
  intro k hk
  have := h (8 * j + k) (by omega)
  unfold bitL at this
  rw [show (8 * j + k) / 8 = j by omega, show (8 * j + k) % 8 = k by omega] at this
  simpa [List.getD_eq_getElem?_getD, h1, h2] using this

/-- Bits turned within 32 in a row are told by the sum. -/
theorem burst {s t : List UInt8} (hl : s.length = t.length) (f : Nat) (h : ∀ i, i < 8 * s.length → i < f ∨ f + 32 ≤ i → bitL s i = bitL t i) (he : sumL s = sumL t) : s = t := by
  have h1 := sumL_eq he
  rw [feedL_bits, feedL_bits] at h1
  have hbl : (bitsL s).length = (bitsL t).length := by rw [bitsL_len, bitsL_len, hl]
  have hb := burst_bits full_lt hbl f (fun i hi => by
    by_cases hs : i < 8 * s.length
    · rw [bitsL_get s i hs, bitsL_get t i (by omega), h i hs hi]
    · rw [List.getElem?_eq_none (by rw [bitsL_len]; omega), List.getElem?_eq_none (by rw [bitsL_len]; omega)]) h1
  apply list_ext hl
  intro i hi
  have h2 := bitsL_get s i hi
  rw [hb, bitsL_get t i (by omega)] at h2
  exact (Option.some.inj h2).symm

/-! ### Bits turned -/

/-- The bytes with one bit turned. -/
def flip (l : List UInt8) (i : Nat) : List UInt8 := l.set (i / 8) (UInt8.ofNat ((l.getD (i / 8) 0).toNat ^^^ 2 ^ (i % 8)))
theorem flip_len (l : List UInt8) (i : Nat) : (flip l i).length = l.length := by simp [flip]
theorem flip_bit {l : List UInt8} {i : Nat} (h : i < 8 * l.length) (k : Nat) : bitL (flip l i) k = (bitL l k ^^ decide (k = i)) := by
  unfold bitL flip
  have hi : i / 8 < l.length := by omega
  by_cases hk : k / 8 = i / 8
  · have hg : (l.set (i / 8) (UInt8.ofNat ((l.getD (i / 8) 0).toNat ^^^ 2 ^ (i % 8)))).getD (k / 8) 0 = UInt8.ofNat ((l.getD (i / 8) 0).toNat ^^^ 2 ^ (i % 8)) := by
      rw [hk, List.getD_eq_getElem?_getD, List.getElem?_set_self hi]; rfl
    have hlt : (l.getD (i / 8) 0).toNat ^^^ 2 ^ (i % 8) < 256 := by
      have h8 : i % 8 < 8 := by omega
      have hp : 2 ^ (i % 8) < 2 ^ 8 := Nat.pow_lt_pow_right (by decide) h8
      exact Nat.xor_lt_two_pow (n := 8) (l.getD (i / 8) 0).toNat_lt hp
    rw [hg, UInt8.toNat_ofNat', Nat.mod_eq_of_lt hlt, Nat.testBit_xor, Nat.testBit_two_pow, hk]
    congr 1
    apply decide_eq_decide.2
    omega
  · have hg : (l.set (i / 8) (UInt8.ofNat ((l.getD (i / 8) 0).toNat ^^^ 2 ^ (i % 8)))).getD (k / 8) 0 = l.getD (k / 8) 0 := by
      rw [List.getD_eq_getElem?_getD, List.getElem?_set_ne (by omega), ← List.getD_eq_getElem?_getD]
    rw [hg, decide_eq_false (by omega), Bool.xor_false]

/-- What stands behind k rounds: the bits of a mask turned from a place on; whether one was. -/
structure Turned (P : List UInt8) (f mask k : Nat) (L : List UInt8) (t : Bool) : Prop where
  len : L.length = P.length
  bit : ∀ i, bitL L i = (bitL P i ^^ decide (f ≤ i ∧ i < f + k ∧ mask.testBit (i - f) = true))
  was : t = true ↔ ∃ j, j < k ∧ mask.testBit j = true

theorem Turned.start (P : List UInt8) (f mask : Nat) : Turned P f mask 0 P false :=
  ⟨rfl, fun i => by rw [decide_eq_false (by omega), Bool.xor_false], ⟨(fun h => by cases h), fun ⟨j, h, _⟩ => by omega⟩⟩
theorem Turned.no {P L : List UInt8} {f mask k : Nat} {t : Bool} (h : Turned P f mask k L t) (hm : mask.testBit k = false) : Turned P f mask (k + 1) L t := by
  refine ⟨h.len, fun i => ?_, ?_⟩
  · rw [h.bit i]
    congr 1
    apply decide_eq_decide.2
    constructor
    · rintro ⟨a, b, c⟩; exact ⟨a, by omega, c⟩
    · rintro ⟨a, b, c⟩
      refine ⟨a, ?_, c⟩
      by_cases hi : i - f = k
      · rw [hi, hm] at c; cases c
      · omega
  · rw [h.was]
    constructor
    · rintro ⟨j, a, b⟩; exact ⟨j, by omega, b⟩
    · rintro ⟨j, a, b⟩
      by_cases hj : j = k
      · rw [hj, hm] at b; cases b
      · exact ⟨j, by omega, b⟩
theorem Turned.yes {P L : List UInt8} {f mask k : Nat} {t : Bool} (h : Turned P f mask k L t) (hm : mask.testBit k = true) (hk : f + k < 8 * P.length) : Turned P f mask (k + 1) (flip L (f + k)) true := by
  refine ⟨by rw [flip_len, h.len], fun i => ?_, ⟨fun _ => ⟨k, by omega, hm⟩, fun _ => rfl⟩⟩
  rw [flip_bit (by rw [h.len]; exact hk), h.bit i, Bool.xor_assoc]
  congr 1
  by_cases hi : i = f + k
  · subst hi
    rw [decide_eq_false (by omega), decide_eq_true rfl, decide_eq_true ⟨by omega, by omega, by rw [show f + k - f = k by omega]; exact hm⟩]
    rfl
  · rw [decide_eq_false hi, Bool.xor_false]
    apply decide_eq_decide.2
    constructor
    · rintro ⟨a, b, c⟩; exact ⟨a, by omega, c⟩
    · rintro ⟨a, b, c⟩; exact ⟨a, by omega, c⟩

theorem bitL_take {l : List UInt8} {n i : Nat} (h : i < 8 * n) : bitL (l.take n) i = bitL l i := by
  unfold bitL
  rw [List.getD_eq_getElem?_getD, List.getElem?_take, if_pos (by omega), ← List.getD_eq_getElem?_getD]
theorem bitL_drop (l : List UInt8) (n i : Nat) : bitL (l.drop n) i = bitL l (8 * n + i) := by
  unfold bitL
  rw [List.getD_eq_getElem?_getD, List.getElem?_drop, ← List.getD_eq_getElem?_getD, show (8 * n + i) / 8 = n + i / 8 by omega, show (8 * n + i) % 8 = i % 8 by omega]

/-- Bits turned within 32 in a row, all of them in the text or all in its sum, are told. -/
theorem turned_said {s L : List UInt8} {f mask k : Nat} {t : Bool} (h : Turned (s ++ four (sumL s)) f mask k L t) (hk : k ≤ 32) (hf : f + k ≤ 8 * s.length ∨ 8 * s.length ≤ f ∧ f + k ≤ 8 * (s.length + 4)) :
    t = true ↔ L.drop s.length ≠ four (sumL (L.take s.length)) := by
  have hPl : (s ++ four (sumL s)).length = s.length + 4 := by rw [List.length_append, four_len]
  have hL : L.length = s.length + 4 := by rw [h.len, hPl]
  have hs : (s ++ four (sumL s)).take s.length = s := List.take_left
  have hd : (s ++ four (sumL s)).drop s.length = four (sumL s) := List.drop_left
  constructor
  · intro ht heq
    obtain ⟨j, hj, hm⟩ := h.was.1 ht
    have hbit := h.bit (f + j)
    rw [decide_eq_true ⟨by omega, by omega, by rw [show f + j - f = j by omega]; exact hm⟩] at hbit
    rcases hf with hf | ⟨hf1, hf2⟩
    · have e1 : L.drop s.length = four (sumL s) := by
        rw [← hd]
        apply list_ext (by simp [hL, hPl, four_len])
        intro i _
        rw [bitL_drop, bitL_drop, h.bit, decide_eq_false (by omega), Bool.xor_false]
      have e2 := four_inj (sumL_lt _) (sumL_lt _) (e1.symm.trans heq)
      have e3 : s = L.take s.length := burst (by simp [hL]) f (fun i hi hio => by
        rw [bitL_take hi, h.bit, decide_eq_false (by omega), Bool.xor_false]
        conv => lhs; rw [← hs]
        exact bitL_take hi) e2
      have e4 : bitL L (f + j) = bitL s (f + j) := by rw [← bitL_take (l := L) (n := s.length) (by omega), ← e3]
      have e5 : bitL (s ++ four (sumL s)) (f + j) = bitL s (f + j) := by rw [← bitL_take (n := s.length) (by omega), hs]
      rw [e4, e5] at hbit
      cases hb : bitL s (f + j) <;> rw [hb] at hbit <;> cases hbit
    · have e1 : L.take s.length = s := by
        apply list_ext (by simp [hL])
        intro i hi
        have hi' : i < 8 * s.length := by rw [List.length_take, hL] at hi; omega
        rw [bitL_take hi', h.bit, decide_eq_false (by omega), Bool.xor_false, ← bitL_take (n := s.length) hi', hs]
      rw [e1] at heq
      have e2 : bitL L (f + j) = bitL (four (sumL s)) (f + j - 8 * s.length) := by rw [← heq, bitL_drop]; congr 1; omega
      have e3 : bitL (s ++ four (sumL s)) (f + j) = bitL (four (sumL s)) (f + j - 8 * s.length) := by
        conv => rhs; rw [← hd]
        rw [bitL_drop]; congr 1; omega
      rw [e2, e3] at hbit
      cases hb : bitL (four (sumL s)) (f + j - 8 * s.length) <;> rw [hb] at hbit <;> cases hbit
  · intro hne
    apply Classical.byContradiction
    intro ht
    apply hne
    have hLP : L = s ++ four (sumL s) := by
      apply list_ext h.len
      intro i _
      rw [h.bit, decide_eq_false, Bool.xor_false]
      rintro ⟨a, b, c⟩
      exact ht (h.was.2 ⟨i - f, by omega, c⟩)
    rw [hLP, hs, hd]

/-! ### What the code does, round by round -/

theorem tapN_last (k : Nat) : ∀ x, tapN (k + 1) x = tap (tapN k x) := by
  induction k with
  | zero => intro x; rfl
  | succ k ih => intro x; exact ih (tap x)
/-- The bit that goes out makes the mask. -/
theorem tap_code (x : Nat) : x / 2 ^^^ (2197175160 &&& ((4294967296 - x % 2) % 4294967296)) = tap x := by
  unfold tap stepB
  congr 1
  rw [Nat.testBit_zero]
  rcases Nat.mod_two_eq_zero_or_one x with h | h <;> rw [h] <;> decide

theorem feed_next (x c k : Nat) (h : k < 8) : feedB x ((bitsN 8 c).take (k + 1)) = stepB (feedB x ((bitsN 8 c).take k)) (c.testBit k) := by
  have h1 := bitsN_get 8 c k h
  rw [List.take_add_one, h1, feedB_append]
  rfl
theorem feed_all (x c : Nat) (h : c < 256) : feedB x ((bitsN 8 c).take 8) = thr x c := by
  rw [List.take_of_length_le (by rw [bitsN_len]; exact Nat.le_refl 8), thr_bits _ _ h]

/-- The register turned, from a bit on. -/
def turnedFrom (r i : Nat) : Nat := (4294967295 - r) / 2 ^ i
theorem turned_top (r : Nat) : turnedFrom r 32 = 0 := by unfold turnedFrom; omega
theorem turned_next (r i : Nat) (hr : r < 4294967296) (hi : i < 32) : turnedFrom r i = 2 * turnedFrom r (i + 1) + (if r.testBit i then 0 else 1) := by
  unfold turnedFrom
  have h1 := Nat.testBit_two_pow_sub_succ (n := 32) (x := r) (by simpa using hr) i
  rw [decide_eq_true hi, Bool.true_and, show 2 ^ 32 - (r + 1) = 4294967295 - r by omega, Nat.testBit_eq_decide_div_mod_eq] at h1
  rw [Nat.pow_succ, ← Nat.div_div_eq_div_mul]
  cases hb : r.testBit i with
  | true => rw [hb] at h1; simp at h1 ⊢; omega
  | false => rw [hb] at h1; simp at h1 ⊢; omega

/-- The register moved down so far. -/
def down (x k : Nat) (j : Nat) : Bool := if j < k then x.testBit (j + 1) else x.testBit j
theorem down_all (x j : Nat) (hx : x < 4294967296) (hj : j < 32) : (if j = 31 then false else down x 31 j) = (x / 2).testBit j := by
  rw [Nat.testBit_div_two]
  unfold down
  by_cases h : j = 31
  · subst h; rw [if_pos rfl, Nat.testBit_lt_two_pow (by simpa using hx)]
  · rw [if_neg h, if_pos (by omega)]
/-- The taps added so far. -/
def added (y k : Nat) (j : Nat) : Bool := if j < k then (y ^^^ 2197175160).testBit j else y.testBit j

end Go.Proofs.Ytlpknhiagdhkcaa
/- The sum, bit by bit. -/
set_option linter.unusedVariables false
set_option maxRecDepth 100000
namespace Go.Proofs.Ytlpknhiagdhkcaa
open Go.RowKit

theorem tap_bits (x : Nat) (hx : x < 4294967296) : bits BinOp.xor IntKind.u32 ((x : Int) / 2) (bits BinOp.and IntKind.u32 2197175160 (-bits BinOp.and IntKind.u32 (x : Int) 1 % 4294967296)) = ((tap x : Nat) : Int) := by
  have h1 : bits BinOp.and IntKind.u32 (x : Int) 1 = ((x % 2 : Nat) : Int) := by
    rw [u32_and _ _ (by omega) (by omega) (by omega) (by omega), show (x : Int).toNat = x by omega, show (1 : Int).toNat = 1 from rfl, nat_mask1]
  have h2 : (-(((x % 2 : Nat) : Int)) % 4294967296) = (((4294967296 - x % 2) % 4294967296 : Nat) : Int) := by omega
  have h4 : (4294967296 - x % 2) % 4294967296 < 4294967296 := Nat.mod_lt _ (by decide)
  have h3 := u32_and 2197175160 (((4294967296 - x % 2) % 4294967296 : Nat) : Int) (by omega) (by omega) (by omega) (by omega)
  have h5 : 2197175160 &&& ((4294967296 - x % 2) % 4294967296) < 2 ^ 32 := Nat.and_lt_two_pow _ h4
  rw [h1, h2, h3, show ((2197175160 : Int)).toNat = 2197175160 from rfl, Int.toNat_natCast, show ((x : Int) / 2) = ((x / 2 : Nat) : Int) by omega,
    u32_xor_nat _ _ (by omega) (by omega), tap_code]

set_option maxHeartbeats 400000 in
theorem crc_through (r b : Nat) (w : World) (hr : r < 4294967296) (hb : b < 256) :
    Calls Try.prog 79 #[.int .u32 r, .int .u8 b] w fun e w' => e = .returned (.int .u32 (thr r b)) ∧ w = w' := by
  have h0 : bits BinOp.xor IntKind.u32 (r : Int) (b : Int) = ((tapN 0 (r ^^^ b) : Nat) : Int) := u32_xor_nat r b hr (by omega)
  have hx : r ^^^ b < 4294967296 := Nat.xor_lt_two_pow (n := 32) hr (by omega)
  have h8 : tapN 8 (r ^^^ b) = thr r b := rfl
  generalize r ^^^ b = x at *
  go_enter Try.func79, Try.ntmps79
  go_wp2_with fail
  go_loopw [0, 9] (fun y i wr => ∃ k : Nat, k ≤ 8 ∧ i = .int .i64 k ∧ y = .int .u32 (tapN k x) ∧ wr = w) (fun y i wr => 8 - (intOf i).toNat)
  case atStart => exact ⟨0, by omega, rfl, rfl, rfl⟩
  case round =>
    obtain ⟨k, hk, rfl, rfl, rfl⟩ := hrel
    by_cases hlt : k < 8
    · have hbit := tap_bits (tapN k x) (tapN_lt k hx)
      rw [← tapN_last] at hbit
      go_wp2
      go_roundw
      case rel => exact ⟨k + 1, by omega, by go_num, rfl, trivial⟩
      case measure => simp [intOf]; omega
    · obtain rfl : k = 8 := by omega
      rw [h8]
      go_wp2
      go_ret
      exact ⟨rfl, rfl⟩

def joinedC (T : List ByteArray) : List UInt8 := T.flatMap fun s => s.data.toList

theorem joinedC_next (T : List ByteArray) (k : Nat) (h : k < T.length) : joinedC (T.take (k + 1)) = joinedC (T.take k) ++ (T.getD k ByteArray.empty).data.toList := by
  unfold joinedC
  rw [List.take_add_one, List.getElem?_eq_getElem h, List.flatMap_append, List.getD_eq_getElem?_getD, List.getElem?_eq_getElem h]
  simp
theorem take_next (l : List UInt8) (k : Nat) (h : k < l.length) : l.take (k + 1) = l.take k ++ [l[k]] := by
  rw [List.take_add_one, List.getElem?_eq_getElem h]; rfl
theorem feedL_next (r : Nat) (l : List UInt8) (k : Nat) (h : k < l.length) : feedL r (l.take (k + 1)) = thr (feedL r (l.take k)) (l[k]).toNat := by
  rw [take_next l k h, feedL_append]; rfl

theorem feedS_next (r : Nat) (s : ByteArray) (k : Nat) (h : k < s.size) : feedL r (s.data.toList.take (k + 1)) = thr (feedL r (s.data.toList.take k)) (s[k]).toNat :=
  feedL_next r s.data.toList k (by simpa using h)
theorem feedS_all (r : Nat) (s : ByteArray) : feedL r (s.data.toList.take s.size) = feedL r s.data.toList := by
  rw [List.take_of_length_le (by simp)]
theorem feedL_lt' (l : List UInt8) {r : Nat} (h : r < 4294967296) : feedL r l < 4294967296 := feedL_lt l h
/-- Each bit of a register turned. -/
def notN (x : Nat) : Nat := 4294967295 - x
theorem not_nat (q : Nat) (h : q < 4294967296) : 4294967295 ^^^ q = notN q := by
  apply Nat.eq_of_testBit_eq
  intro i
  have h1 := Nat.testBit_two_pow_sub_succ (n := 32) (x := q) (by simpa using h) i
  have h2 := Nat.testBit_two_pow_sub_one 32 i
  rw [show 2 ^ 32 - (q + 1) = notN q by unfold notN; omega] at h1
  rw [show (2 : Nat) ^ 32 - 1 = 4294967295 by decide] at h2
  rw [Nat.testBit_xor, h1, h2]
  by_cases hi : i < 32
  · simp [hi]
  · have : q.testBit i = false := Nat.testBit_lt_two_pow (Nat.lt_of_lt_of_le h (Nat.pow_le_pow_right (n := 2) (by decide) (show 32 ≤ i by omega)))
    simp [hi, this]
theorem not_bits (q : Nat) (h : q < 4294967296) : bits BinOp.xor IntKind.u32 IntKind.u32.max (q : Int) = ((notN q : Nat) : Int) := by
  rw [show IntKind.u32.max = 4294967295 by decide, u32_xor _ _ (by omega) (by omega) (by omega) (by omega), show (4294967295 : Int).toNat = 4294967295 from rfl, Int.toNat_natCast, not_nat q h]
theorem not_ret (q : Nat) (h : q < 4294967296) : Ending.returned (.int .u32 (bits BinOp.xor IntKind.u32 IntKind.u32.max (q : Int))) = Ending.returned (.int .u32 ((notN q : Nat) : Int)) := by rw [not_bits q h]

set_option maxHeartbeats 400000 in
theorem crc_Sum (a : Option Addr) (b off len cap : Nat) (T : List ByteArray) (w : World) (hlen : Hid (len = T.length)) (hl : len ≤ 9223372036854775807) (hz : Hid (RowS b off T w)) (hs : Hid (∀ s ∈ T, s.size ≤ 140737488355328)) (hab : Hid (len = 0 ∨ a = some ⟨b, off, none⟩)) :
    Calls Try.prog 73 #[.slice a len cap] w fun e w' => e = .returned (.int .u32 (sumL (joinedC T))) ∧ w = w' := by
  go_enter Try.func73, Try.ntmps73
  go_wp2_with fail
  go_loopw [3, 9] (fun y i wr => ∃ k : Nat, k ≤ len ∧ i = .int .i64 k ∧ y = .int .u32 (feedL 4294967295 (joinedC (T.take k))) ∧ wr = w) (fun y i wr => len - (intOf i).toNat)
  case atStart => exact ⟨0, by omega, rfl, rfl, rfl⟩
  case round =>
    obtain ⟨k, hk, rfl, rfl, rfl⟩ := hrel
    by_cases hlt : k < len
    · have hkT : k < T.length := by rw [← hlen.out]; exact hlt
      obtain ⟨hb, c1⟩ := hz.out k hkT
      have ha : a = some ⟨b, off, none⟩ := by rcases hab.out with h | h; (omega); (exact h)
      have hnext := Lib.hid (joinedC_next T k hkT)
      have hsz : (T.getD k ByteArray.empty).size ≤ 140737488355328 := hs.out _ (by rw [List.getD_eq_getElem?_getD, List.getElem?_eq_getElem hkT]; exact List.getElem_mem _)
      have hrl := Lib.hid (feedL_lt' (joinedC (T.take k)) (r := 4294967295) (by decide))
      clear hb
      generalize T.getD k ByteArray.empty = s at *
      obtain ⟨R, hR⟩ : ∃ R, R = feedL 4294967295 (joinedC (T.take k)) := ⟨_, rfl⟩
      rw [← hR] at hrl ⊢
      have HR := Lib.hid hR
      clear hR
      subst ha
      go_wp2_with fail
      go_loopw [3, 15] (fun y i wo => ∃ j : Nat, j ≤ s.size ∧ i = .int .i64 j ∧ y = .int .u32 (feedL R (s.data.toList.take j)) ∧ wo = wr) (fun y i wo => s.size - (intOf i).toNat)
      case atStart => exact ⟨0, by omega, rfl, rfl, rfl⟩
      case round =>
        obtain ⟨j, hj, rfl, rfl, rfl⟩ := hrel
        by_cases hjt : j < s.size
        · have hfn := feedS_next R s j hjt
          have hq := feedL_lt' (s.data.toList.take j) hrl.out
          generalize feedL R (s.data.toList.take j) = q at *
          have hbt : (s[j]).toNat < 256 := (s[j]).toNat_lt
          go_wp2_with fail
          refine (crc_through q (s[j]).toNat wr hq hbt).mono ?_
          rintro e w2 ⟨rfl, rfl⟩
          go_wp2_with fail
          go_roundw
          case rel => exact ⟨j + 1, by omega, by go_num, by rw [hfn], trivial⟩
          case measure => simp [intOf]; omega
        · obtain rfl : j = s.size := by omega
          have hend : feedL R (s.data.toList.take s.size) = feedL 4294967295 (joinedC (T.take (k + 1))) := by
            rw [feedS_all, hnext.out, feedL_append, HR.out]
          rw [hend]
          clear hend
          go_wp2_with fail
          go_roundw
          case rel => exact ⟨k + 1, by omega, by go_num, rfl, trivial⟩
          case measure => simp [intOf]; omega
    · obtain rfl : k = len := by omega
      have hall : joinedC (T.take k) = joinedC T := by rw [hlen.out, List.take_length]
      have hlt := feedL_lt' (joinedC T) (r := 4294967295) (by decide)
      rw [hall]
      have hsum : sumL (joinedC T) = notN (feedL 4294967295 (joinedC T)) := rfl
      generalize feedL 4294967295 (joinedC T) = q at *
      go_wp2_with fail
      go_ret
      exact ⟨not_ret q hlt, rfl⟩
end Go.Proofs.Ytlpknhiagdhkcaa
/- A text with its sum behind it, put and taken. -/
set_option linter.unusedVariables false
set_option maxRecDepth 100000
namespace Go.Proofs.Ytlpknhiagdhkcaa
open Go.RowKit

theorem conv_four (W : World) (g x : Nat) (hg : g = W.heap.size) (c0 c1 c2 c3 : Int) (h0 : c0 = ((x / 16777216 % 256 : Nat) : Int)) (h1 : c1 = ((x / 65536 % 256 : Nat) : Int)) (h2 : c2 = ((x / 256 % 256 : Nat) : Int)) (h3 : c3 = ((x % 256 : Nat) : Int)) :
    (convert 76 9 (.slice (some ⟨g, 0, none⟩) 4 4)).run Try.prog (W.alloc (.cells #[.int .u8 c0, .int .u8 c1, .int .u8 c2, .int .u8 c3] 5)) = .ok (.string (bs (four x))) (W.alloc (.cells #[.int .u8 c0, .int .u8 c1, .int .u8 c2, .int .u8 c3] 5)) := by
  subst hg h0 h1 h2 h3
  refine run_convert_bytes_back (P := Try.prog) _ 76 9 5 ⟨W.heap.size, 0, none⟩ 4 (four x) Try.underlying76 Try.underlying5 Try.underlying9 ?_
  intro j hj
  have hj4 : j < 4 := hj
  have hadd : (⟨W.heap.size, 0, none⟩ : Addr).add j = ⟨W.heap.size, 0 + j, none⟩ := by unfold Addr.add; split <;> simp_all
  rw [hadd, World.cell?_alloc_mark]
  have : j = 0 ∨ j = 1 ∨ j = 2 ∨ j = 3 := by omega
  rcases this with rfl | rfl | rfl | rfl <;> simp [four, ofNat_toNat]

set_option maxHeartbeats 400000 in
theorem crc_sumOf (s : ByteArray) (w : World) (hs : s.size ≤ 140737488355328) :
    Calls Try.prog 59 #[.string s] w fun e w' => e = .returned (.string (bs (four (sumL s.data.toList)))) ∧ Below w.heap.size w w' := by
  have hrow := row_new w [s] 9
  have hj : joinedC [s] = s.data.toList := by simp [joinedC]
  have hlt := sumL_lt s.data.toList
  obtain ⟨x, hx⟩ : ∃ x, x = sumL s.data.toList := ⟨_, rfl⟩
  rw [← hx] at hlt ⊢
  have HX := Lib.hid hx
  clear hx
  go_enter Try.func59, Try.ntmps59
  go_wp2_with fail
  refine (crc_Sum (some ⟨w.heap.size, 0, none⟩) w.heap.size 0 1 1 [s] _ (Lib.hid rfl) (by omega) (Lib.hid hrow) (Lib.hid (by simpa using hs)) (Lib.hid (.inr rfl))).mono ?_
  rintro e w1 ⟨rfl, rfl⟩
  rw [hj, ← HX.out]
  have hconv := conv_four (w.alloc (.cells #[.string s] 9)) (w.heap.size + 1) x (by simp) ((x : Int) / 16777216) ((x : Int) / 65536 % 256) ((x : Int) / 256 % 256) ((x : Int) % 256) (by omega) (by omega) (by omega) (by omega)
  go_wp2
  go_ret
  exact ⟨rfl, ((Below.refl _ _).alloc (Nat.le_refl _) _).alloc (by simp) _⟩

set_option maxHeartbeats 400000 in
theorem crc_Put (s : ByteArray) (w : World) (hs : s.size ≤ 140737488351232) :
    Calls Try.prog 35 #[.string s] w fun e w' => e = .returned (.string (bs (s.data.toList ++ four (sumL s.data.toList)))) ∧ Below w.heap.size w w' := by
  have hcat := cat_bs s (four (sumL s.data.toList))
  have hsum : (s.size : Int) + ((bs (four (sumL s.data.toList))).size : Int) ≤ 9223372036854775807 := by rw [bs_size, four_len]; omega
  go_enter Try.func35, Try.ntmps35
  go_wp2_with fail
  refine (crc_sumOf s w (by omega)).mono ?_
  rintro e w1 ⟨rfl, k1⟩
  go_wp2
  go_ret
  exact ⟨rfl, k1⟩

theorem seen_sumOf (W : World) (s : ByteArray) (hs : s.size ≤ 140737488355328) (n : Seen W) : Calls Try.prog 59 #[.string s] n.val fun e w'' => e = .returned (.string (bs (four (sumL s.data.toList)))) ∧ ∃ m : Seen W, w'' = m.val :=
  (crc_sumOf s n.val hs).mono fun _ w'' ⟨h1, h2⟩ => ⟨h1, ⟨⟨w'', n.below.trans (h2.mono n.below.size)⟩, rfl⟩⟩

/-- What a text is without its sum; why it is none. -/
def okT (l : List UInt8) : Prop := l.drop (l.length - 4) = four (sumL (l.take (l.length - 4)))
instance (l : List UInt8) : Decidable (okT l) := by unfold okT; infer_instance
def takeT (l : List UInt8) : List UInt8 := if 4 ≤ l.length ∧ okT l then l.take (l.length - 4) else []
def takeE (l : List UInt8) : Int := if l.length < 4 then 2 else if okT l then 0 else 4
set_option maxHeartbeats 400000 in
theorem crc_Take (s : ByteArray) (w : World) (hs : s.size ≤ 140737488355328) :
    Calls Try.prog 41 #[.string s] w fun e w' => e = .returned (.tuple #[.string (bs (takeT s.data.toList)), .int .i64 (takeE s.data.toList)]) ∧ Below w.heap.size w w' := by
  have hl : s.data.toList.length = s.size := by rw [← Lib.size_eq]
  by_cases h4 : s.size < 4
  · have e1 : takeT s.data.toList = [] := by unfold takeT; rw [if_neg (by omega)]
    have e2 : takeE s.data.toList = 2 := by unfold takeE; rw [if_pos (by omega)]
    rw [e1, e2]
    clear e1 e2
    go_enter Try.func41, Try.ntmps41
    go_wp2
    go_ret2
    exact ⟨rfl, Below.refl _ _⟩
  · obtain ⟨n, hn⟩ : ∃ n : Nat, s.size = n + 4 := ⟨s.size - 4, by omega⟩
    obtain ⟨x1, x2⟩ := take_split (s := s) (n := n) (by omega)
    have hok : okT s.data.toList ↔ s.data.toList.drop n = four (sumL (s.data.toList.take n)) := by unfold okT; rw [hl, hn, Nat.add_sub_cancel]
    have e1 : takeT s.data.toList = if okT s.data.toList then s.data.toList.take n else [] := by
      unfold takeT
      rw [hl, hn, Nat.add_sub_cancel]
      by_cases h : okT s.data.toList
      · rw [if_pos ⟨by omega, h⟩, if_pos h]
      · rw [if_neg (fun x => h x.2), if_neg h]
    have e2 : takeE s.data.toList = if okT s.data.toList then 0 else 4 := by unfold takeE; rw [if_neg (by omega)]
    have hsz : ((s.size : Int) - 4) = (n : Int) := by omega
    have hle : n ≤ s.size := by omega
    have hlen : (s.data.toList.take n).length ≤ 140737488355328 := by rw [List.length_take]; omega
    have HN := Lib.hid hn
    clear hn
    go_enter Try.func41, Try.ntmps41
    go_wp2_with fail
    refine region_seen (by kernel_rfl) (by kernel_rfl) ?_
    repeat (go_big_quiet_step (first | (go_at_call 59; exact seen_sumOf _ _ (by rw [bs_size]; exact hlen) _)))
    refine wpQuiet_nil ?_
    rintro _ ⟨m, rfl⟩
    go_wp2_with fail
    · rename_i h
      rw [Bool.not_eq_true', Bool.eq_false_iff, Ne, same_bytes, bs_list, ← hok] at h
      go_ret2
      exact ⟨ret2s (by rw [e1, if_neg h]; rfl) (by rw [e2, if_neg h]), m.below⟩
    · rename_i h
      rw [Bool.not_eq_false', same_bytes, bs_list, ← hok] at h
      go_ret2
      exact ⟨ret2s (by rw [e1, if_pos h]) (by rw [e2, if_pos h]), m.below⟩
end Go.Proofs.Ytlpknhiagdhkcaa
/- A world's blocks but those of a set are kept: what all layers share. -/
set_option linter.unusedVariables false
set_option maxRecDepth 100000
namespace Go.Proofs.Ytlpknhiagdhkcaa
open Go.RowKit

/-- A world's blocks but those of S are kept. -/
structure Only (S : Nat → Prop) (w w' : World) : Prop where
  os : w'.os = w.os
  tape : w'.tape = w.tape
  output : w'.output = w.output
  size : w.heap.size ≤ w'.heap.size
  block : ∀ k, k < w.heap.size → ¬ S k → w'.heap[k]? = w.heap[k]?

namespace Only
variable {S S' : Nat → Prop} {a b c w : World}
theorem refl (S : Nat → Prop) (w : World) : Only S w w := ⟨rfl, rfl, rfl, Nat.le_refl _, fun _ _ _ => rfl⟩
theorem trans (h : Only S a b) (k : Only S b c) : Only S a c :=
  ⟨k.os.trans h.os, k.tape.trans h.tape, k.output.trans h.output, Nat.le_trans h.size k.size, fun j hj hs => (k.block j (Nat.lt_of_lt_of_le hj h.size) hs).trans (h.block j hj hs)⟩
theorem mono (h : Only S a b) (hS : ∀ k, k < a.heap.size → S k → S' k) : Only S' a b := ⟨h.os, h.tape, h.output, h.size, fun k hk hs => h.block k hk (fun x => hs (hS k hk x))⟩
theorem drew (h : Only S a w) : Only S a w.drew := ⟨h.os, h.tape, h.output, h.size, h.block⟩
theorem drewN (h : Only S a w) (n : Nat) : Only S a (w.drewN n) := ⟨h.os, h.tape, h.output, h.size, h.block⟩
theorem alloc (h : Only S a w) (o : Obj) : Only S a (w.alloc o) :=
  ⟨h.os, h.tape, h.output, Nat.le_trans h.size (by simp), fun k hk hs => (Below.heap_alloc w o k (Nat.lt_of_lt_of_le hk h.size)).trans (h.block k hk hs)⟩
theorem setCell (h : Only S a w) {p : Addr} (hp : S p.block ∨ a.heap.size ≤ p.block) (u : Value) : Only S a (w.setCell p u) :=
  ⟨h.os, h.tape, h.output, by simpa [World.setCell] using h.size, fun k hk hs => (Below.heap_setCell w p u k (fun e => by rcases hp with hp | hp; (subst e; exact hs hp); (omega))).trans (h.block k hk hs)⟩
theorem grown (h : Only S a b) {row : Option Nat} (k : b.grownBy c row) (hr : ∀ j, row = some j → S j ∨ a.heap.size ≤ j) : Only S a c :=
  ⟨k.os.trans h.os, k.tape.trans h.tape, k.output.trans h.output, Nat.le_trans h.size k.size, fun j hj hs => (k.block j (Nat.lt_of_lt_of_le hj h.size) (fun e => by
    rcases hr j e.symm with x | x
    · exact hs x
    · omega)).trans (h.block j hj hs)⟩
theorem below (h : Only S a b) {B : Nat} (hS : ∀ k, k < a.heap.size → S k → B ≤ k) (hB : B ≤ a.heap.size) : Below B a b :=
  ⟨h.os, h.tape, h.output, h.size, fun k hk => h.block k (by omega) (fun x => by have := hS k (by omega) x; omega)⟩
theorem of_below {B : Nat} (h : Below B a b) (hS : ∀ k, k < a.heap.size → B ≤ k → S k) : Only S a b :=
  ⟨h.os, h.tape, h.output, h.size, fun k hk hs => h.block k (by rcases Nat.lt_or_ge k B with x | x; (exact x); (exact absurd (hS k hk x) hs))⟩
/-- What may turn behind a call may be of it, or new. -/
theorem andThen (h : Only S a b) (k : Only S' b c) (hS : ∀ j, j < a.heap.size → S' j → S j) : Only S a c :=
  ⟨k.os.trans h.os, k.tape.trans h.tape, k.output.trans h.output, Nat.le_trans h.size k.size, fun j hj hs => (k.block j (Nat.lt_of_lt_of_le hj h.size) (fun x => hs (hS j hj x))).trans (h.block j hj hs)⟩
end Only
theorem heap_lt {w : World} {b : Nat} {o : Obj} (h : w.heap[b]? = some o) : b < w.heap.size := (Array.getElem?_eq_some_iff.1 h).1
theorem heap_set {w : World} {b o : Nat} {c : Array Value} {t : TypeId} (h : w.heap[b]? = some (.cells c t (0, 0))) (u : Value) : (w.setCell ⟨b, o, none⟩ u).heap[b]? = some (.cells (c.setIfInBounds o u) t (0, 0)) := by
  simp [World.setCell, Array.getElem?_modify, h]
theorem heap_set_other {w : World} {b k o : Nat} (hk : k ≠ b) (u : Value) : (w.setCell ⟨b, o, none⟩ u).heap[k]? = w.heap[k]? := Below.heap_setCell w ⟨b, o, none⟩ u k hk
theorem heap_new (w : World) (o : Obj) : (w.alloc o).heap[w.heap.size]? = some o := MapKept.heap_alloc w o |>.1
end Go.Proofs.Ytlpknhiagdhkcaa
/- Plain mathematics of the statements over layer six: no program, no world. Numbers in groups of six bits, and how they are read. -/
namespace Go.Proofs.Ytlpknhiagdhkcaa

/-! ### Written -/

/-- The groups ahead of the last one: the highest first, none of them for 0. -/
def lead (n : Nat) : List UInt8 := if _h : n = 0 then [] else lead (n / 64) ++ [UInt8.ofNat (n % 64)]
termination_by n
decreasing_by omega

theorem lead_zero : lead 0 = [] := by rw [lead]; simp
theorem lead_pos {n : Nat} (h : n ≠ 0) : lead n = lead (n / 64) ++ [UInt8.ofNat (n % 64)] := by rw [lead]; simp [h]

/-- A number from 0 on with its mark. -/
def grp (n mark : Nat) : List UInt8 := lead (n / 64) ++ [UInt8.ofNat (mark + n % 64)]
def whole (n : Int) : List UInt8 := if n < 0 then grp (-1 - n).toNat 128 else grp n.toNat 64
def text (s : List UInt8) : List UInt8 := whole s.length ++ s

theorem lead_len (k : Nat) : ∀ n : Nat, n < 64 ^ k → (lead n).length ≤ k := by
  induction k with
  | zero => intro n h; have : n = 0 := by simpa using h
            subst this; simp [lead_zero]
  | succ k ih =>
    intro n h
    by_cases h0 : n = 0
    · subst h0; simp [lead_zero]
    · rw [lead_pos h0]
      have : n / 64 < 64 ^ k := by rw [Nat.pow_succ] at h; omega
      have := ih _ this
      simp; omega

theorem grp_len {n mark : Nat} (h : n < 9223372036854775808) : (grp n mark).length ≤ 11 ∧ 1 ≤ (grp n mark).length := by
  have := lead_len 10 (n / 64) (by have : (64 : Nat) ^ 10 = 1152921504606846976 := by decide
                                   omega)
  simp [grp]; omega

theorem whole_len {n : Int} (h1 : -9223372036854775808 ≤ n) (h2 : n ≤ 9223372036854775807) : (whole n).length ≤ 11 ∧ 1 ≤ (whole n).length := by
  unfold whole
  split
  · exact grp_len (by omega)
  · exact grp_len (by omega)

/-! ### Read -/

/-- What the bytes from here on say, behind i bytes whose groups make x: the number, the bytes that it has, the error. -/
def rdw : List UInt8 → Nat → Nat → Int × Nat × Int
  | [], _, _ => (0, 0, 2)
  | c :: l, i, x =>
    if 192 ≤ c.toNat ∨ (c.toNat = 0 ∧ i = 0) ∨ 144115188075855871 < x then (0, 0, 3)
    else if 128 ≤ c.toNat then (-1 - ((64 * x + c.toNat % 64 : Nat) : Int), i + 1, 0)
    else if 64 ≤ c.toNat then (((64 * x + c.toNat % 64 : Nat) : Int), i + 1, 0)
    else rdw l (i + 1) (64 * x + c.toNat % 64)

def rn (l : List UInt8) : Int := (rdw l 0 0).1
def rk (l : List UInt8) : Nat := (rdw l 0 0).2.1
def re (l : List UInt8) : Int := (rdw l 0 0).2.2

/-- All that is known of an answer. -/
def Fine (i : Nat) (l : List UInt8) (a : Int × Nat × Int) : Prop :=
  (a.2.2 = 0 ∧ i < a.2.1 ∧ a.2.1 ≤ i + l.length ∧ -9223372036854775808 ≤ a.1 ∧ a.1 ≤ 9223372036854775807) ∨ ((a.2.2 = 2 ∨ a.2.2 = 3) ∧ a.1 = 0 ∧ a.2.1 = 0)

theorem rdw_fine (l : List UInt8) : ∀ i x, Fine i l (rdw l i x) := by
  induction l with
  | nil => intro i x; right; simp [rdw]
  | cons c l ih =>
    intro i x
    have hc : c.toNat < 256 := c.toNat_lt
    unfold rdw
    split
    · right; simp
    · rename_i h
      split
      · left; refine ⟨rfl, ?_, ?_, ?_, ?_⟩ <;> simp <;> omega
      · split
        · left; refine ⟨rfl, ?_, ?_, ?_, ?_⟩ <;> simp <;> omega
        · rcases ih (i + 1) (64 * x + c.toNat % 64) with ⟨h0, h1, h2, h3, h4⟩ | h'
          · left; exact ⟨h0, by omega, by simp; omega, h3, h4⟩
          · right; exact h'

theorem rd_cases (l : List UInt8) : (re l = 0 ∧ 0 < rk l ∧ rk l ≤ l.length ∧ -9223372036854775808 ≤ rn l ∧ rn l ≤ 9223372036854775807) ∨ ((re l = 2 ∨ re l = 3) ∧ rn l = 0 ∧ rk l = 0) := by
  have h := rdw_fine l 0 0
  unfold Fine at h
  simpa [rn, rk, re] using h

/-! ### What was written is read as it was -/

theorem toNat_ofNat {n : Nat} (h : n < 256) : (UInt8.ofNat n).toNat = n := by simp; omega

theorem rdw_lead (m : Nat) (h : m ≤ 144115188075855871) (t : List UInt8) : rdw (lead m ++ t) 0 0 = rdw t (lead m).length m := by
  induction m using Nat.strongRecOn generalizing t with
  | _ m ih =>
    by_cases h0 : m = 0
    · subst h0; simp [lead_zero]
    · rw [lead_pos h0]
      have := ih (m / 64) (by omega) (by omega) ([UInt8.ofNat (m % 64)] ++ t)
      rw [List.append_assoc, this]
      have hz : (lead (m / 64)).length = 0 → m / 64 = 0 := by
        intro hl
        by_cases hq : m / 64 = 0
        · exact hq
        · rw [lead_pos hq] at hl; simp at hl
      have hn : (UInt8.ofNat (m % 64)).toNat = m % 64 := toNat_ofNat (by omega)
      simp only [List.cons_append, List.nil_append, rdw, hn, List.length_append, List.length_cons, List.length_nil]
      rw [if_neg, if_neg, if_neg]
      · congr 1; omega
      · omega
      · omega
      · intro hh
        rcases hh with hh | ⟨hh, hi⟩ | hh
        · omega
        · have := hz hi; omega
        · omega

theorem rdw_grp64 (n : Nat) (h : n < 9223372036854775808) (t : List UInt8) : rdw (grp n 64 ++ t) 0 0 = ((n : Int), (grp n 64).length, 0) := by
  unfold grp
  rw [List.append_assoc, rdw_lead _ (by omega)]
  have hn : (UInt8.ofNat (64 + n % 64)).toNat = 64 + n % 64 := toNat_ofNat (by omega)
  simp only [List.cons_append, List.nil_append, rdw, hn, List.length_append, List.length_cons, List.length_nil]
  rw [if_neg (by omega), if_neg (by omega), if_pos (by omega)]
  congr 1
  omega

theorem rdw_grp128 (n : Nat) (h : n < 9223372036854775808) (t : List UInt8) : rdw (grp n 128 ++ t) 0 0 = (-1 - (n : Int), (grp n 128).length, 0) := by
  unfold grp
  rw [List.append_assoc, rdw_lead _ (by omega)]
  have hn : (UInt8.ofNat (128 + n % 64)).toNat = 128 + n % 64 := toNat_ofNat (by omega)
  simp only [List.cons_append, List.nil_append, rdw, hn, List.length_append, List.length_cons, List.length_nil]
  rw [if_neg (by omega), if_pos (by omega)]
  congr 1
  omega

theorem rd_whole {n : Int} (h1 : -9223372036854775808 ≤ n) (h2 : n ≤ 9223372036854775807) (t : List UInt8) :
    rn (whole n ++ t) = n ∧ rk (whole n ++ t) = (whole n).length ∧ re (whole n ++ t) = 0 := by
  unfold whole rn rk re
  split
  · rw [rdw_grp128 _ (by omega)]; refine ⟨?_, rfl, rfl⟩; simp; omega
  · rw [rdw_grp64 _ (by omega)]; refine ⟨?_, rfl, rfl⟩; simp; omega

/-! ### What is read are just the bytes that would be written -/

theorem grp_of (x : Nat) (c mark : Nat) (hc : c < 64) : grp (64 * x + c) mark = lead x ++ [UInt8.ofNat (mark + c)] := by
  unfold grp
  rw [show (64 * x + c) / 64 = x by omega, show (64 * x + c) % 64 = c by omega]

theorem ofNat_of (c : UInt8) {n : Nat} (h : n = c.toNat) : UInt8.ofNat n = c := by subst h; simp

theorem rdw_back (l : List UInt8) : ∀ (i x : Nat), i = (lead x).length → (rdw l i x).2.2 = 0 → ∃ t, lead x ++ l = whole (rdw l i x).1 ++ t ∧ (rdw l i x).2.1 = (whole (rdw l i x).1).length := by
  induction l with
  | nil => intro i x _ h; simp [rdw] at h
  | cons c l ih =>
    intro i x hi h
    have hc : c.toNat < 256 := c.toNat_lt
    by_cases h1 : 192 ≤ c.toNat ∨ (c.toNat = 0 ∧ i = 0) ∨ 144115188075855871 < x
    · simp [rdw, h1] at h
    · by_cases h2 : 128 ≤ c.toNat
      · have e : rdw (c :: l) i x = (-1 - ((64 * x + c.toNat % 64 : Nat) : Int), i + 1, 0) := by simp only [rdw]; rw [if_neg h1, if_pos h2]
        rw [e]
        have hw : whole (-1 - ((64 * x + c.toNat % 64 : Nat) : Int)) = lead x ++ [c] := by
          unfold whole
          rw [if_pos (by omega), show (-1 - (-1 - ((64 * x + c.toNat % 64 : Nat) : Int))).toNat = 64 * x + c.toNat % 64 by omega, grp_of _ _ _ (by omega)]
          rw [ofNat_of c (by omega)]
        exact ⟨l, by simp only [hw]; simp, by simp only [hw]; simp [hi]⟩
      · by_cases h3 : 64 ≤ c.toNat
        · have e : rdw (c :: l) i x = (((64 * x + c.toNat % 64 : Nat) : Int), i + 1, 0) := by simp only [rdw]; rw [if_neg h1, if_neg h2, if_pos h3]
          rw [e]
          have hw : whole ((64 * x + c.toNat % 64 : Nat) : Int) = lead x ++ [c] := by
            unfold whole
            rw [if_neg (by omega), show (((64 * x + c.toNat % 64 : Nat) : Int)).toNat = 64 * x + c.toNat % 64 by omega, grp_of _ _ _ (by omega)]
            rw [ofNat_of c (by omega)]
          exact ⟨l, by simp only [hw]; simp, by simp only [hw]; simp [hi]⟩
        · have e : rdw (c :: l) i x = rdw l (i + 1) (64 * x + c.toNat % 64) := by simp only [rdw]; rw [if_neg h1, if_neg h2, if_neg h3]
          rw [e] at h ⊢
          have hl : lead (64 * x + c.toNat % 64) = lead x ++ [c] := by
            by_cases hz : 64 * x + c.toNat % 64 = 0
            · exfalso
              have hx : x = 0 := by omega
              subst hx
              rw [lead_zero] at hi
              simp at hi
              omega
            · rw [lead_pos hz, show (64 * x + c.toNat % 64) / 64 = x by omega, ofNat_of c (by omega)]
          obtain ⟨t, ht, hk⟩ := ih (i + 1) (64 * x + c.toNat % 64) (by rw [hl]; simp [hi]) h
          exact ⟨t, by rw [hl] at ht; simpa using ht, hk⟩

theorem rd_back {l : List UInt8} (h : re l = 0) : whole (rn l) ++ l.drop (rk l) = l ∧ rk l = (whole (rn l)).length := by
  obtain ⟨t, ht, hk⟩ := rdw_back l 0 0 (by simp [lead_zero]) h
  rw [lead_zero, List.nil_append] at ht
  have hk' : rk l = (whole (rn l)).length := hk
  refine ⟨?_, hk'⟩
  rw [hk']
  show whole (rn l) ++ l.drop (whole (rn l)).length = l
  have ht' : l = whole (rn l) ++ t := ht
  conv => lhs; arg 2; arg 2; rw [ht']
  rw [List.drop_left, ← ht']

/-! ### Counts, bytes and texts -/

def cn (l : List UInt8) : Int := if re l = 0 ∧ rn l < 0 then 0 else rn l
def ck (l : List UInt8) : Nat := if re l = 0 ∧ rn l < 0 then 0 else rk l
def ce (l : List UInt8) : Int := if re l = 0 ∧ rn l < 0 then 3 else re l

theorem cd_cases (l : List UInt8) : (ce l = 0 ∧ 0 < ck l ∧ ck l ≤ l.length ∧ 0 ≤ cn l ∧ cn l ≤ 9223372036854775807 ∧ re l = 0 ∧ cn l = rn l ∧ ck l = rk l) ∨ ((ce l = 2 ∨ ce l = 3) ∧ cn l = 0 ∧ ck l = 0) := by
  unfold cn ck ce
  rcases rd_cases l with ⟨h0, h1, h2, h3, h4⟩ | ⟨h0, h1, h2⟩
  · by_cases hn : rn l < 0
    · simp [h0, hn]
    · simp [h0, hn]; omega
  · have : ¬ (re l = 0 ∧ rn l < 0) := by omega
    rw [if_neg this, if_neg this, if_neg this]; omega

/-- So many bytes: the text, how many, the error. -/
def ws (l : List UInt8) (n : Int) : List UInt8 := if n < 0 ∨ (l.length : Int) < n then [] else l.take n.toNat
def wk (l : List UInt8) (n : Int) : Nat := if n < 0 ∨ (l.length : Int) < n then 0 else n.toNat
def we (l : List UInt8) (n : Int) : Int := if n < 0 then 1 else if (l.length : Int) < n then 2 else 0

def ts (l : List UInt8) : List UInt8 := if ce l ≠ 0 then [] else ws (l.drop (ck l)) (cn l)
def te (l : List UInt8) : Int := if ce l ≠ 0 then ce l else we (l.drop (ck l)) (cn l)
def tk (l : List UInt8) : Nat := if te l ≠ 0 then 0 else ck l + wk (l.drop (ck l)) (cn l)

theorem td_cases (l : List UInt8) : (te l = 0 ∧ ce l = 0 ∧ 0 ≤ cn l ∧ ck l + (cn l).toNat ≤ l.length ∧ 0 < ck l ∧ tk l = ck l + (cn l).toNat ∧ ts l = (l.drop (ck l)).take (cn l).toNat) ∨ ((te l = 2 ∨ te l = 3) ∧ ts l = [] ∧ tk l = 0) := by
  rcases cd_cases l with ⟨h0, h1, h2, h3, h4, h5, h6, h7⟩ | ⟨h0, h1, h2⟩
  · have hd : (l.drop (ck l)).length = l.length - ck l := by simp
    by_cases hs : ((l.drop (ck l)).length : Int) < cn l
    · right
      have : te l = 2 := by unfold te we; rw [if_neg (by simp [h0]), if_neg (by omega), if_pos hs]
      refine ⟨.inl this, ?_, ?_⟩
      · unfold ts ws; rw [if_neg (by simp [h0]), if_pos (by omega)]
      · unfold tk; rw [if_pos (by simp [this])]
    · left
      have : te l = 0 := by unfold te we; rw [if_neg (by simp [h0]), if_neg (by omega), if_neg hs]
      refine ⟨this, h0, h3, by omega, h1, ?_, ?_⟩
      · unfold tk wk; rw [if_neg (by simp [this]), if_neg (by omega)]
      · unfold ts ws; rw [if_neg (by simp [h0]), if_neg (by omega)]
  · right
    have e : te l = ce l := by unfold te; rw [if_pos (by omega)]
    refine ⟨by omega, ?_, ?_⟩
    · unfold ts; rw [if_pos (by omega)]
    · unfold tk; rw [if_pos (by omega)]

/-! ### A round of the reading -/

/-- Where a reader stands: behind k bytes whose groups make y. -/
def At (l : List UInt8) (k y : Nat) : Prop := rdw (l.drop k) k y = rdw l 0 0

theorem at_zero (l : List UInt8) : At l 0 0 := rfl
theorem at_bad {l t : List UInt8} {k y : Nat} {c : UInt8} (h : At l k y) (hl : l.drop k = c :: t) (hb : 192 ≤ c.toNat ∨ (c.toNat = 0 ∧ k = 0) ∨ 144115188075855871 < y) : rn l = 0 ∧ rk l = 0 ∧ re l = 3 := by
  unfold At at h
  rw [hl] at h
  simp only [rdw] at h
  rw [if_pos hb] at h
  simp [rn, rk, re, ← h]
theorem at_low {l t : List UInt8} {k y : Nat} {c : UInt8} (h : At l k y) (hl : l.drop k = c :: t) (hb : ¬ (192 ≤ c.toNat ∨ (c.toNat = 0 ∧ k = 0) ∨ 144115188075855871 < y)) (h1 : 128 ≤ c.toNat) :
    rn l = -1 - ((64 * y + c.toNat % 64 : Nat) : Int) ∧ rk l = k + 1 ∧ re l = 0 := by
  unfold At at h
  rw [hl] at h
  simp only [rdw] at h
  rw [if_neg hb, if_pos h1] at h
  simp [rn, rk, re, ← h]
theorem at_high {l t : List UInt8} {k y : Nat} {c : UInt8} (h : At l k y) (hl : l.drop k = c :: t) (hb : ¬ (192 ≤ c.toNat ∨ (c.toNat = 0 ∧ k = 0) ∨ 144115188075855871 < y)) (h1 : ¬ 128 ≤ c.toNat) (h2 : 64 ≤ c.toNat) :
    rn l = ((64 * y + c.toNat % 64 : Nat) : Int) ∧ rk l = k + 1 ∧ re l = 0 := by
  unfold At at h
  rw [hl] at h
  simp only [rdw] at h
  rw [if_neg hb, if_neg h1, if_pos h2] at h
  simp [rn, rk, re, ← h]
theorem at_next {l : List UInt8} {k y : Nat} {c : UInt8} (h : At l k y) (hl : l.drop k = c :: l.drop (k + 1)) (hb : ¬ (192 ≤ c.toNat ∨ (c.toNat = 0 ∧ k = 0) ∨ 144115188075855871 < y)) (h1 : ¬ 64 ≤ c.toNat) :
    At l (k + 1) (64 * y + c.toNat % 64) := by
  unfold At at h ⊢
  rw [hl] at h
  simp only [rdw] at h
  rw [if_neg hb, if_neg (by omega), if_neg h1] at h
  exact h
theorem at_end {l : List UInt8} {k y : Nat} (h : At l k y) (hl : l.length ≤ k) : rn l = 0 ∧ rk l = 0 ∧ re l = 2 := by
  unfold At at h
  rw [List.drop_of_length_le hl] at h
  simp only [rdw] at h
  simp [rn, rk, re, ← h]

theorem drop_at (s : ByteArray) (k : Nat) (h : k < s.size) : s.data.toList.drop k = s[k] :: s.data.toList.drop (k + 1) := by
  rw [List.drop_eq_getElem_cons (by simpa using h)]
  rfl
theorem byte_le (s : ByteArray) (k : Nat) (h : k < s.size) : 0 ≤ ((s[k].toNat : Nat) : Int) ∧ ((s[k].toNat : Nat) : Int) ≤ 255 := by
  have := s[k].toNat_lt
  omega

end Go.Proofs.Ytlpknhiagdhkcaa
