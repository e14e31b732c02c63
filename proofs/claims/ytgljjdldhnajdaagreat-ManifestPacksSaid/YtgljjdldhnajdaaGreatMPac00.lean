/- Texts put together: Base, Only, SixPlain, SixRefs, SixReader -/
import Derived.Test.YtgljjdldhnajdaaGreatChecked
import Derived.WalkKit
import Derived.WalkSpells
import Derived.WalkLawsBesides
import Derived.Lib.Hide
import Derived.Lib.Strings
import Derived.Laws.BitsAllLaws
import Derived.Laws.IdiomStrings
import Derived.Deep.QuietTactic
import Derived.BigQuiet
import Derived.Below
import Derived.OwnWalk
import Derived.Deep.Cut
import Derived.Outline
/- What all layers share: bytes as strings, rows of strings, regions that write nothing that was there. -/
set_option linter.unusedVariables false
set_option maxRecDepth 100000
namespace Go.Proofs.YtgljjdldhnajdaaGreat
open Go.RowKit

theorem info5 : (Tryz.prog.info? 5).map (fun i => (i.zero, i.size, i.bytes)) = some (some (.int .u8 0), 1, 1) := by kernel_rfl
/-- The texts that stand in a row of strings. -/
def RowS (b off : Nat) (T : List ByteArray) (w : World) : Prop := ∀ k, k < T.length → b < w.heap.size ∧ w.cell? ⟨b, off + k, none⟩ = some (.string (T.getD k ByteArray.empty))
/-- A list of bytes as a string. -/
def bs (l : List UInt8) : ByteArray := ⟨l.toArray⟩
theorem bs_list (l : List UInt8) : (bs l).data.toList = l := rfl
theorem bs_size (l : List UInt8) : (bs l).size = l.length := by rw [Lib.size_eq, bs_list]
theorem bs_eq {s : ByteArray} {l : List UInt8} (h : s.data.toList = l) : s = bs l := by
  obtain ⟨⟨x⟩⟩ := s
  subst h
  rfl
theorem bs_inj {l m : List UInt8} (h : bs l = bs m) : l = m := by rw [← bs_list l, h, bs_list]
theorem cat_list (a b : ByteArray) : (a ++ b).data.toList = a.data.toList ++ b.data.toList := by
  obtain ⟨⟨x⟩⟩ := a
  obtain ⟨⟨y⟩⟩ := b
  simp
theorem cat_bs (s : ByteArray) (l : List UInt8) : s ++ bs l = bs (s.data.toList ++ l) := bs_eq (by rw [cat_list, bs_list])

theorem row_new (w : World) (T : List ByteArray) (t : TypeId) : RowS w.heap.size 0 T (w.alloc (.cells (T.map Value.string).toArray t)) := by
  intro k hk
  refine ⟨by show w.heap.size < (w.heap.push _).size; simp, ?_⟩
  rw [World.cell?_alloc_mark]
  simp [hk, List.getD_eq_getElem?_getD]

theorem ofNat_toNat (n : Nat) : (UInt8.ofNat n).toNat = n % 256 := UInt8.toNat_ofNat'

theorem bs_cat (l : List UInt8) (s : ByteArray) : bs l ++ s = bs (l ++ s.data.toList) := bs_eq (by rw [cat_list, bs_list])
theorem take_split {s : ByteArray} {n : Nat} (h : n ≤ s.size) : s.extract 0 n = bs (s.data.toList.take n) ∧ s.extract n s.size = bs (s.data.toList.drop n) := by
  have hn : s.data.toList.length = s.size := by rw [← Lib.size_eq]
  constructor
  · exact bs_eq (by rw [Lib.extract_data]; simp)
  · exact bs_eq (by rw [Lib.extract_data, List.take_of_length_le (by rw [List.length_drop]; omega)])

theorem same_bytes (l m : List UInt8) : ((bs l).toList == (bs m).toList) = true ↔ l = m := by
  rw [Lib.toList_data, Lib.toList_data, bs_list, bs_list, beq_iff_eq]

theorem ret2s {k : IntKind} {s s' : ByteArray} {b b' : Int} (h1 : s' = s) (h2 : b' = b) : Ending.returned (.tuple #[.string s, .int k b]) = Ending.returned (.tuple #[.string s', .int k b']) := by rw [h1, h2]

theorem RowS.below {b off : Nat} {T : List ByteArray} {w w' : World} (h : RowS b off T w) (k : Below w.heap.size w w') : RowS b off T w' := by
  intro i hi
  obtain ⟨h1, h2⟩ := h i hi
  exact ⟨Nat.lt_of_lt_of_le h1 k.size, by rw [k.cell h1]; exact h2⟩
/-- The worlds that a call may come to that writes nothing that was there. -/
structure Seen (W : World) where
  val : World
  below : Below W.heap.size W val
instance seen_any (W : World) : Nonempty (Seen W) := ⟨⟨W, Below.refl _ _⟩⟩
/-- A region that draws its order and whose operations write nothing that was there: one walk in the order of the text. -/
theorem region_seen {P : Program} {id : Nat} {Q : Exit → Act → World → Prop} {a : Act} {w : World} {l : List Oper} (hm : P.follows .mixedOrders = true) (hB : Region.lexB .any l.toArray = true)
    (h : wpQuiet P l.toArray (fun w' => ∃ n : Seen w, w' = n.val) (fun a' => ∀ w', (∃ n : Seen w, w' = n.val) → Q .normal a' w') l a) : (Code.region id l.toArray true).wp P Q a w :=
  wp_region_quiet (C := fun w' => ∃ n : Seen w, w' = n.val) hm hB ⟨⟨w.drew, (Below.refl _ _).drew⟩, rfl⟩ (by simpa using h)
theorem addr_add (b o j : Nat) : (⟨b, o, none⟩ : Addr).add j = ⟨b, o + j, none⟩ := by unfold Addr.add; split <;> simp_all
/-- WHAT IS KNOWN OF A SLICE OF TEXTS THAT CAME IN. -/
def IsTexts (w : World) (a : Option Addr) (len : Nat) (T : List ByteArray) : Prop :=
  len = T.length ∧ ∃ b off, (len = 0 ∨ a = some ⟨b, off, none⟩) ∧ RowS b off T w

theorem take_get {α : Type} (l : List α) (d : α) (n k : Nat) (h : k < n) : (l.take n).getD k d = l.getD k d := by
  simp [List.getD_eq_getElem?_getD, List.getElem?_take, h]
theorem cell_block {w : World} {b o : Nat} {v : Value} (h : w.cell? ⟨b, o, none⟩ = some v) : b < w.heap.size := by
  rcases Nat.lt_or_ge b w.heap.size with h' | h'
  · exact h'
  · simp [World.cell?, Array.getElem?_eq_none h'] at h

theorem texts_is {w : World} {x : Addr} {len cap : Nat} {ss : List ByteArray} (hl : len ≤ cap) (hz : ss.length = cap) (hcell : ∀ i, i < ss.length → w.cell? (x.add i) = some (.string (ss.getD i ByteArray.empty))) :
    IsTexts w (some x) len (ss.take len) := by
  refine ⟨by rw [List.length_take]; omega, ?_⟩
  by_cases h0 : len = 0
  · subst h0
    exact ⟨0, 0, .inl rfl, fun k hk => absurd hk (by simp)⟩
  · obtain ⟨b, off, spot⟩ := x
    have hspot : spot = none := by simpa [Addr.add] using World.cell?_spot (hcell 0 (by omega))
    subst hspot
    refine ⟨b, off, .inr rfl, fun k hk => ?_⟩
    have hk' : k < len := by rw [List.length_take] at hk; omega
    have h1 := hcell k (by omega)
    rw [addr_add] at h1
    rw [take_get ss ByteArray.empty len k hk']
    exact ⟨cell_block h1, h1⟩

end Go.Proofs.YtgljjdldhnajdaaGreat
/- A world's blocks but those of a set are kept: what all layers share. -/
set_option linter.unusedVariables false
set_option maxRecDepth 100000
namespace Go.Proofs.YtgljjdldhnajdaaGreat
open Go.RowKit

/-- A world's blocks but those of S are kept. -/
structure Only (S : Nat → Prop) (w w' : World) : Prop where
  os : w'.os = w.os
  tape : w'.tape = w.tape
  output : w'.output = w.output
  size : w.heap.size ≤ w'.heap.size
  block : ∀ k, k < w.heap.size → ¬ S k → w'.heap[k]? = w.heap[k]?

namespace Only
variable {S S' : Nat → Prop} {a b c w : World}
theorem refl (S : Nat → Prop) (w : World) : Only S w w := ⟨rfl, rfl, rfl, Nat.le_refl _, fun _ _ _ => rfl⟩
theorem trans (h : Only S a b) (k : Only S b c) : Only S a c :=
  ⟨k.os.trans h.os, k.tape.trans h.tape, k.output.trans h.output, Nat.le_trans h.size k.size, fun j hj hs => (k.block j (Nat.lt_of_lt_of_le hj h.size) hs).trans (h.block j hj hs)⟩
theorem mono (h : Only S a b) (hS : ∀ k, k < a.heap.size → S k → S' k) : Only S' a b := ⟨h.os, h.tape, h.output, h.size, fun k hk hs => h.block k hk (fun x => hs (hS k hk x))⟩
theorem drew (h : Only S a w) : Only S a w.drew := ⟨h.os, h.tape, h.output, h.size, h.block⟩
theorem drewN (h : Only S a w) (n : Nat) : Only S a (w.drewN n) := ⟨h.os, h.tape, h.output, h.size, h.block⟩
theorem alloc (h : Only S a w) (o : Obj) : Only S a (w.alloc o) :=
  ⟨h.os, h.tape, h.output, Nat.le_trans h.size (by simp), fun k hk hs => (Below.heap_alloc w o k (Nat.lt_of_lt_of_le hk h.size)).trans (h.block k hk hs)⟩
theorem setCell (h : Only S a w) {p : Addr} (hp : S p.block ∨ a.heap.size ≤ p.block) (u : Value) : Only S a (w.setCell p u) :=
  ⟨h.os, h.tape, h.output, by simpa [World.setCell] using h.size, fun k hk hs => (Below.heap_setCell w p u k (fun e => by rcases hp with hp | hp; (subst e; exact hs hp); (omega))).trans (h.block k hk hs)⟩
theorem grown (h : Only S a b) {row : Option Nat} (k : b.grownBy c row) (hr : ∀ j, row = some j → S j ∨ a.heap.size ≤ j) : Only S a c :=
  ⟨k.os.trans h.os, k.tape.trans h.tape, k.output.trans h.output, Nat.le_trans h.size k.size, fun j hj hs => (k.block j (Nat.lt_of_lt_of_le hj h.size) (fun e => by
    rcases hr j e.symm with x | x
    · exact hs x
    · omega)).trans (h.block j hj hs)⟩
theorem below (h : Only S a b) {B : Nat} (hS : ∀ k, k < a.heap.size → S k → B ≤ k) (hB : B ≤ a.heap.size) : Below B a b :=
  ⟨h.os, h.tape, h.output, h.size, fun k hk => h.block k (by omega) (fun x => by have := hS k (by omega) x; omega)⟩
theorem of_below {B : Nat} (h : Below B a b) (hS : ∀ k, k < a.heap.size → B ≤ k → S k) : Only S a b :=
  ⟨h.os, h.tape, h.output, h.size, fun k hk hs => h.block k (by rcases Nat.lt_or_ge k B with x | x; (exact x); (exact absurd (hS k hk x) hs))⟩
/-- What may turn behind a call may be of it, or new. -/
theorem andThen (h : Only S a b) (k : Only S' b c) (hS : ∀ j, j < a.heap.size → S' j → S j) : Only S a c :=
  ⟨k.os.trans h.os, k.tape.trans h.tape, k.output.trans h.output, Nat.le_trans h.size k.size, fun j hj hs => (k.block j (Nat.lt_of_lt_of_le hj h.size) (fun x => hs (hS j hj x))).trans (h.block j hj hs)⟩
end Only
theorem heap_lt {w : World} {b : Nat} {o : Obj} (h : w.heap[b]? = some o) : b < w.heap.size := (Array.getElem?_eq_some_iff.1 h).1
theorem heap_set {w : World} {b o : Nat} {c : Array Value} {t : TypeId} (h : w.heap[b]? = some (.cells c t (0, 0))) (u : Value) : (w.setCell ⟨b, o, none⟩ u).heap[b]? = some (.cells (c.setIfInBounds o u) t (0, 0)) := by
  simp [World.setCell, Array.getElem?_modify, h]
theorem heap_set_other {w : World} {b k o : Nat} (hk : k ≠ b) (u : Value) : (w.setCell ⟨b, o, none⟩ u).heap[k]? = w.heap[k]? := Below.heap_setCell w ⟨b, o, none⟩ u k hk
theorem heap_new (w : World) (o : Obj) : (w.alloc o).heap[w.heap.size]? = some o := MapKept.heap_alloc w o |>.1
end Go.Proofs.YtgljjdldhnajdaaGreat
/- Plain mathematics of the statements over layer six: no program, no world. Numbers in groups of six bits, and how they are read. -/
namespace Go.Proofs.YtgljjdldhnajdaaGreat

/-! ### Written -/

/-- The groups ahead of the last one: the highest first, none of them for 0. -/
def lead (n : Nat) : List UInt8 := if _h : n = 0 then [] else lead (n / 64) ++ [UInt8.ofNat (n % 64)]
termination_by n
decreasing_by omega

theorem lead_zero : lead 0 = [] := by rw [lead]; simp
theorem lead_pos {n : Nat} (h : n ≠ 0) : lead n = lead (n / 64) ++ [UInt8.ofNat (n % 64)] := by rw [lead]; simp [h]

/-- A number from 0 on with its mark. -/
def grp (n mark : Nat) : List UInt8 := lead (n / 64) ++ [UInt8.ofNat (mark + n % 64)]
def whole (n : Int) : List UInt8 := if n < 0 then grp (-1 - n).toNat 128 else grp n.toNat 64
def text (s : List UInt8) : List UInt8 := whole s.length ++ s

theorem lead_len (k : Nat) : ∀ n : Nat, n < 64 ^ k → (lead n).length ≤ k := by
  induction k with
  | zero => intro n h; have : n = 0 := by simpa using h
            subst this; simp [lead_zero]
  | succ k ih =>
    intro n h
    by_cases h0 : n = 0
    · subst h0; simp [lead_zero]
    · rw [lead_pos h0]
      have : n / 64 < 64 ^ k := by rw [Nat.pow_succ] at h; omega
      have := ih _ this
      simp; omega

theorem grp_len {n mark : Nat} (h : n < 9223372036854775808) : (grp n mark).length ≤ 11 ∧ 1 ≤ (grp n mark).length := by
  have := lead_len 10 (n / 64) (by have : (64 : Nat) ^ 10 = 1152921504606846976 := by decide
                                   omega)
  simp [grp]; omega

theorem whole_len {n : Int} (h1 : -9223372036854775808 ≤ n) (h2 : n ≤ 9223372036854775807) : (whole n).length ≤ 11 ∧ 1 ≤ (whole n).length := by
  unfold whole
  split
  · exact grp_len (by omega)
  · exact grp_len (by omega)

/-! ### Read -/

/-- What the bytes from here on say, behind i bytes whose groups make x: the number, the bytes that it has, the error. -/
def rdw : List UInt8 → Nat → Nat → Int × Nat × Int
  | [], _, _ => (0, 0, 2)
  | c :: l, i, x =>
    if 192 ≤ c.toNat ∨ (c.toNat = 0 ∧ i = 0) ∨ 144115188075855871 < x then (0, 0, 3)
    else if 128 ≤ c.toNat then (-1 - ((64 * x + c.toNat % 64 : Nat) : Int), i + 1, 0)
    else if 64 ≤ c.toNat then (((64 * x + c.toNat % 64 : Nat) : Int), i + 1, 0)
    else rdw l (i + 1) (64 * x + c.toNat % 64)

def rn (l : List UInt8) : Int := (rdw l 0 0).1
def rk (l : List UInt8) : Nat := (rdw l 0 0).2.1
def re (l : List UInt8) : Int := (rdw l 0 0).2.2

/-- All that is known of an answer. -/
def Fine (i : Nat) (l : List UInt8) (a : Int × Nat × Int) : Prop :=
  (a.2.2 = 0 ∧ i < a.2.1 ∧ a.2.1 ≤ i + l.length ∧ -9223372036854775808 ≤ a.1 ∧ a.1 ≤ 9223372036854775807) ∨ ((a.2.2 = 2 ∨ a.2.2 = 3) ∧ a.1 = 0 ∧ a.2.1 = 0)

theorem rdw_fine (l : List UInt8) : ∀ i x, Fine i l (rdw l i x) := by
  induction l with
  | nil => intro i x; right; simp [rdw]
  | cons c l ih =>
    intro i x
    have hc : c.toNat < 256 := c.toNat_lt
    unfold rdw
    split
    · right; simp
    · rename_i h
      split
      · left; refine ⟨rfl, ?_, ?_, ?_, ?_⟩ <;> simp <;> omega
      · split
        · left; refine ⟨rfl, ?_, ?_, ?_, ?_⟩ <;> simp <;> omega
        · rcases ih (i + 1) (64 * x + c.toNat % 64) with ⟨h0, h1, h2, h3, h4⟩ | h'
          · left; exact ⟨h0, by omega, by simp; omega, h3, h4⟩
          · right; exact h'

theorem rd_cases (l : List UInt8) : (re l = 0 ∧ 0 < rk l ∧ rk l ≤ l.length ∧ -9223372036854775808 ≤ rn l ∧ rn l ≤ 9223372036854775807) ∨ ((re l = 2 ∨ re l = 3) ∧ rn l = 0 ∧ rk l = 0) := by
  have h := rdw_fine l 0 0
  unfold Fine at h
  simpa [rn, rk, re] using h

/-! ### What was written is read as it was -/

theorem toNat_ofNat {n : Nat} (h : n < 256) : (UInt8.ofNat n).toNat = n := by simp; omega

theorem rdw_lead (m : Nat) (h : m ≤ 144115188075855871) (t : List UInt8) : rdw (lead m ++ t) 0 0 = rdw t (lead m).length m := by
  induction m using Nat.strongRecOn generalizing t with
  | _ m ih =>
    by_cases h0 : m = 0
    · subst h0; simp [lead_zero]
    · rw [lead_pos h0]
      have := ih (m / 64) (by omega) (by omega) ([UInt8.ofNat (m % 64)] ++ t)
      rw [List.append_assoc, this]
      have hz : (lead (m / 64)).length = 0 → m / 64 = 0 := by
        intro hl
        by_cases hq : m / 64 = 0
        · exact hq
        · rw [lead_pos hq] at hl; simp at hl
      have hn : (UInt8.ofNat (m % 64)).toNat = m % 64 := toNat_ofNat (by omega)
      simp only [List.cons_append, List.nil_append, rdw, hn, List.length_append, List.length_cons, List.length_nil]
      rw [if_neg, if_neg, if_neg]
      · congr 1; omega
      · omega
      · omega
      · intro hh
        rcases hh with hh | ⟨hh, hi⟩ | hh
        · omega
        · have := hz hi; omega
        · omega

theorem rdw_grp64 (n : Nat) (h : n < 9223372036854775808) (t : List UInt8) : rdw (grp n 64 ++ t) 0 0 = ((n : Int), (grp n 64).length, 0) := by
  unfold grp
  rw [List.append_assoc, rdw_lead _ (by omega)]
  have hn : (UInt8.ofNat (64 + n % 64)).toNat = 64 + n % 64 := toNat_ofNat (by omega)
  simp only [List.cons_append, List.nil_append, rdw, hn, List.length_append, List.length_cons, List.length_nil]
  rw [if_neg (by omega), if_neg (by omega), if_pos (by omega)]
  congr 1
  omega

theorem rdw_grp128 (n : Nat) (h : n < 9223372036854775808) (t : List UInt8) : rdw (grp n 128 ++ t) 0 0 = (-1 - (n : Int), (grp n 128).length, 0) := by
  unfold grp
  rw [List.append_assoc, rdw_lead _ (by omega)]
  have hn : (UInt8.ofNat (128 + n % 64)).toNat = 128 + n % 64 := toNat_ofNat (by omega)
  simp only [List.cons_append, List.nil_append, rdw, hn, List.length_append, List.length_cons, List.length_nil]
  rw [if_neg (by omega), if_pos (by omega)]
  congr 1
  omega

theorem rd_whole {n : Int} (h1 : -9223372036854775808 ≤ n) (h2 : n ≤ 9223372036854775807) (t : List UInt8) :
    rn (whole n ++ t) = n ∧ rk (whole n ++ t) = (whole n).length ∧ re (whole n ++ t) = 0 := by
  unfold whole rn rk re
  split
  · rw [rdw_grp128 _ (by omega)]; refine ⟨?_, rfl, rfl⟩; simp; omega
  · rw [rdw_grp64 _ (by omega)]; refine ⟨?_, rfl, rfl⟩; simp; omega

/-! ### What is read are just the bytes that would be written -/

theorem grp_of (x : Nat) (c mark : Nat) (hc : c < 64) : grp (64 * x + c) mark = lead x ++ [UInt8.ofNat (mark + c)] := by
  unfold grp
  rw [show (64 * x + c) / 64 = x by omega, show (64 * x + c) % 64 = c by omega]

theorem ofNat_of (c : UInt8) {n : Nat} (h : n = c.toNat) : UInt8.ofNat n = c := by subst h; simp

theorem rdw_back (l : List UInt8) : ∀ (i x : Nat), i = (lead x).length → (rdw l i x).2.2 = 0 → ∃ t, lead x ++ l = whole (rdw l i x).1 ++ t ∧ (rdw l i x).2.1 = (whole (rdw l i x).1).length := by
  induction l with
  | nil => intro i x _ h; simp [rdw] at h
  | cons c l ih =>
    intro i x hi h
    have hc : c.toNat < 256 := c.toNat_lt
    by_cases h1 : 192 ≤ c.toNat ∨ (c.toNat = 0 ∧ i = 0) ∨ 144115188075855871 < x
    · simp [rdw, h1] at h
    · by_cases h2 : 128 ≤ c.toNat
      · have e : rdw (c :: l) i x = (-1 - ((64 * x + c.toNat % 64 : Nat) : Int), i + 1, 0) := by simp only [rdw]; rw [if_neg h1, if_pos h2]
        rw [e]
        have hw : whole (-1 - ((64 * x + c.toNat % 64 : Nat) : Int)) = lead x ++ [c] := by
          unfold whole
          rw [if_pos (by omega), show (-1 - (-1 - ((64 * x + c.toNat % 64 : Nat) : Int))).toNat = 64 * x + c.toNat % 64 by omega, grp_of _ _ _ (by omega)]
          rw [ofNat_of c (by omega)]
        exact ⟨l, by simp only [hw]; simp, by simp only [hw]; simp [hi]⟩
      · by_cases h3 : 64 ≤ c.toNat
        · have e : rdw (c :: l) i x = (((64 * x + c.toNat % 64 : Nat) : Int), i + 1, 0) := by simp only [rdw]; rw [if_neg h1, if_neg h2, if_pos h3]
          rw [e]
          have hw : whole ((64 * x + c.toNat % 64 : Nat) : Int) = lead x ++ [c] := by
            unfold whole
            rw [if_neg (by omega), show (((64 * x + c.toNat % 64 : Nat) : Int)).toNat = 64 * x + c.toNat % 64 by omega, grp_of _ _ _ (by omega)]
            rw [ofNat_of c (by omega)]
          exact ⟨l, by simp only [hw]; simp, by simp only [hw]; simp [hi]⟩
        · have e : rdw (c :: l) i x = rdw l (i + 1) (64 * x + c.toNat % 64) := by simp only [rdw]; rw [if_neg h1, if_neg h2, if_neg h3]
          rw [e] at h ⊢
          have hl : lead (64 * x + c.toNat % 64) = lead x ++ [c] := by
            by_cases hz : 64 * x + c.toNat % 64 = 0
            · exfalso
              have hx : x = 0 := by omega
              subst hx
              rw [lead_zero] at hi
              simp at hi
              omega
            · rw [lead_pos hz, show (64 * x + c.toNat % 64) / 64 = x by omega, ofNat_of c (by omega)]
          obtain ⟨t, ht, hk⟩ := ih (i + 1) (64 * x + c.toNat % 64) (by rw [hl]; simp [hi]) h
          exact ⟨t, by rw [hl] at ht; simpa using ht, hk⟩

theorem rd_back {l : List UInt8} (h : re l = 0) : whole (rn l) ++ l.drop (rk l) = l ∧ rk l = (whole (rn l)).length := by
  obtain ⟨t, ht, hk⟩ := rdw_back l 0 0 (by simp [lead_zero]) h
  rw [lead_zero, List.nil_append] at ht
  have hk' : rk l = (whole (rn l)).length := hk
  refine ⟨?_, hk'⟩
  rw [hk']
  show whole (rn l) ++ l.drop (whole (rn l)).length = l
  have ht' : l = whole (rn l) ++ t := ht
  conv => lhs; arg 2; arg 2; rw [ht']
  rw [List.drop_left, ← ht']

/-! ### Counts, bytes and texts -/

def cn (l : List UInt8) : Int := if re l = 0 ∧ rn l < 0 then 0 else rn l
def ck (l : List UInt8) : Nat := if re l = 0 ∧ rn l < 0 then 0 else rk l
def ce (l : List UInt8) : Int := if re l = 0 ∧ rn l < 0 then 3 else re l

theorem cd_cases (l : List UInt8) : (ce l = 0 ∧ 0 < ck l ∧ ck l ≤ l.length ∧ 0 ≤ cn l ∧ cn l ≤ 9223372036854775807 ∧ re l = 0 ∧ cn l = rn l ∧ ck l = rk l) ∨ ((ce l = 2 ∨ ce l = 3) ∧ cn l = 0 ∧ ck l = 0) := by
  unfold cn ck ce
  rcases rd_cases l with ⟨h0, h1, h2, h3, h4⟩ | ⟨h0, h1, h2⟩
  · by_cases hn : rn l < 0
    · simp [h0, hn]
    · simp [h0, hn]; omega
  · have : ¬ (re l = 0 ∧ rn l < 0) := by omega
    rw [if_neg this, if_neg this, if_neg this]; omega

/-- So many bytes: the text, how many, the error. -/
def ws (l : List UInt8) (n : Int) : List UInt8 := if n < 0 ∨ (l.length : Int) < n then [] else l.take n.toNat
def wk (l : List UInt8) (n : Int) : Nat := if n < 0 ∨ (l.length : Int) < n then 0 else n.toNat
def we (l : List UInt8) (n : Int) : Int := if n < 0 then 1 else if (l.length : Int) < n then 2 else 0

def ts (l : List UInt8) : List UInt8 := if ce l ≠ 0 then [] else ws (l.drop (ck l)) (cn l)
def te (l : List UInt8) : Int := if ce l ≠ 0 then ce l else we (l.drop (ck l)) (cn l)
def tk (l : List UInt8) : Nat := if te l ≠ 0 then 0 else ck l + wk (l.drop (ck l)) (cn l)

theorem td_cases (l : List UInt8) : (te l = 0 ∧ ce l = 0 ∧ 0 ≤ cn l ∧ ck l + (cn l).toNat ≤ l.length ∧ 0 < ck l ∧ tk l = ck l + (cn l).toNat ∧ ts l = (l.drop (ck l)).take (cn l).toNat) ∨ ((te l = 2 ∨ te l = 3) ∧ ts l = [] ∧ tk l = 0) := by
  rcases cd_cases l with ⟨h0, h1, h2, h3, h4, h5, h6, h7⟩ | ⟨h0, h1, h2⟩
  · have hd : (l.drop (ck l)).length = l.length - ck l := by simp
    by_cases hs : ((l.drop (ck l)).length : Int) < cn l
    · right
      have : te l = 2 := by unfold te we; rw [if_neg (by simp [h0]), if_neg (by omega), if_pos hs]
      refine ⟨.inl this, ?_, ?_⟩
      · unfold ts ws; rw [if_neg (by simp [h0]), if_pos (by omega)]
      · unfold tk; rw [if_pos (by simp [this])]
    · left
      have : te l = 0 := by unfold te we; rw [if_neg (by simp [h0]), if_neg (by omega), if_neg hs]
      refine ⟨this, h0, h3, by omega, h1, ?_, ?_⟩
      · unfold tk wk; rw [if_neg (by simp [this]), if_neg (by omega)]
      · unfold ts ws; rw [if_neg (by simp [h0]), if_neg (by omega)]
  · right
    have e : te l = ce l := by unfold te; rw [if_pos (by omega)]
    refine ⟨by omega, ?_, ?_⟩
    · unfold ts; rw [if_pos (by omega)]
    · unfold tk; rw [if_pos (by omega)]

/-! ### A round of the reading -/

/-- Where a reader stands: behind k bytes whose groups make y. -/
def At (l : List UInt8) (k y : Nat) : Prop := rdw (l.drop k) k y = rdw l 0 0

theorem at_zero (l : List UInt8) : At l 0 0 := rfl
theorem at_bad {l t : List UInt8} {k y : Nat} {c : UInt8} (h : At l k y) (hl : l.drop k = c :: t) (hb : 192 ≤ c.toNat ∨ (c.toNat = 0 ∧ k = 0) ∨ 144115188075855871 < y) : rn l = 0 ∧ rk l = 0 ∧ re l = 3 := by
  unfold At at h
  rw [hl] at h
  simp only [rdw] at h
  rw [if_pos hb] at h
  simp [rn, rk, re, ← h]
theorem at_low {l t : List UInt8} {k y : Nat} {c : UInt8} (h : At l k y) (hl : l.drop k = c :: t) (hb : ¬ (192 ≤ c.toNat ∨ (c.toNat = 0 ∧ k = 0) ∨ 144115188075855871 < y)) (h1 : 128 ≤ c.toNat) :
    rn l = -1 - ((64 * y + c.toNat % 64 : Nat) : Int) ∧ rk l = k + 1 ∧ re l = 0 := by
  unfold At at h
  rw [hl] at h
  simp only [rdw] at h
  rw [if_neg hb, if_pos h1] at h
  simp [rn, rk, re, ← h]
theorem at_high {l t : List UInt8} {k y : Nat} {c : UInt8} (h : At l k y) (hl : l.drop k = c :: t) (hb : ¬ (192 ≤ c.toNat ∨ (c.toNat = 0 ∧ k = 0) ∨ 144115188075855871 < y)) (h1 : ¬ 128 ≤ c.toNat) (h2 : 64 ≤ c.toNat) :
    rn l = ((64 * y + c.toNat % 64 : Nat) : Int) ∧ rk l = k + 1 ∧ re l = 0 := by
  unfold At at h
  rw [hl] at h
  simp only [rdw] at h
  rw [if_neg hb, if_neg h1, if_pos h2] at h
  simp [rn, rk, re, ← h]
theorem at_next {l : List UInt8} {k y : Nat} {c : UInt8} (h : At l k y) (hl : l.drop k = c :: l.drop (k + 1)) (hb : ¬ (192 ≤ c.toNat ∨ (c.toNat = 0 ∧ k = 0) ∨ 144115188075855871 < y)) (h1 : ¬ 64 ≤ c.toNat) :
    At l (k + 1) (64 * y + c.toNat % 64) := by
  unfold At at h ⊢
  rw [hl] at h
  simp only [rdw] at h
  rw [if_neg hb, if_neg (by omega), if_neg h1] at h
  exact h
theorem at_end {l : List UInt8} {k y : Nat} (h : At l k y) (hl : l.length ≤ k) : rn l = 0 ∧ rk l = 0 ∧ re l = 2 := by
  unfold At at h
  rw [List.drop_of_length_le hl] at h
  simp only [rdw] at h
  simp [rn, rk, re, ← h]

theorem drop_at (s : ByteArray) (k : Nat) (h : k < s.size) : s.data.toList.drop k = s[k] :: s.data.toList.drop (k + 1) := by
  rw [List.drop_eq_getElem_cons (by simpa using h)]
  rfl
theorem byte_le (s : ByteArray) (k : Nat) (h : k < s.size) : 0 ≤ ((s[k].toNat : Nat) : Int) ∧ ((s[k].toNat : Nat) : Int) ≤ 255 := by
  have := s[k].toNat_lt
  omega

end Go.Proofs.YtgljjdldhnajdaaGreat
/- The document's own answers: what siloref01's functions hand back. -/
set_option linter.unusedVariables false
set_option maxRecDepth 100000
namespace Go.Proofs.YtgljjdldhnajdaaGreat
open Go.RowKit

theorem ret3 {j k m : IntKind} {a b c a' b' c' : Int} (h1 : a' = a) (h2 : b' = b) (h3 : c' = c) : Ending.returned (.tuple #[.int j a, .int k b, .int m c]) = Ending.returned (.tuple #[.int j a', .int k b', .int m c']) := by rw [h1, h2, h3]

set_option maxHeartbeats 400000 in
theorem ref_ReadWhole (s : ByteArray) (w : World) (hs : s.size ≤ maxLen) :
    Calls Tryz.prog 44 #[.string s] w fun e w' => e = .returned (.tuple #[.int .i64 (rn s.data.toList), .int .i64 (rk s.data.toList), .int .i64 (re s.data.toList)]) ∧ w = w' := by
  unfold maxLen at hs
  go_enter Tryz.func44, Tryz.ntmps44
  go_wp2_with fail
  go_loop [5, 6] (fun x i => ∃ k y : Nat, k ≤ s.size ∧ y ≤ 9223372036854775807 ∧ i = .int .i64 k ∧ x = .int .u64 y ∧ At s.data.toList k y) (fun _ i => s.size - (intOf i).toNat)
  case atStart => exact ⟨0, 0, Nat.zero_le _, by omega, rfl, rfl, at_zero _⟩
  case round =>
    obtain ⟨k, y, hk, hy, rfl, rfl, HR⟩ := hrel
    by_cases hlt : k < s.size
    · have HD := Lib.hid (drop_at s k hlt)
      obtain ⟨hc0, hc1⟩ := byte_le s k hlt
      go_upto_region 6 with (fail)
      generalize s[k] = b at *
      by_cases h1 : 192 ≤ ((b.toNat : Nat) : Int)
      · go_wp2
        go_ret3
        obtain ⟨e1, e2, e3⟩ := at_bad HR HD.out (by omega)
        exact ⟨ret3 e1 (by rw [e2]; rfl) e3, rfl⟩
      · by_cases h0 : b = 0
        · subst h0
          clear hc0 hc1 h1
          by_cases hk0 : k = 0
          · have hkb : (((k : Nat) : Int) == 0) = true := beq_iff_eq.2 (by omega)
            have HK := Lib.hid hk0
            clear hk0
            go_wp2
            go_ret3
            obtain ⟨e1, e2, e3⟩ := at_bad HR HD.out (.inr (.inl ⟨rfl, HK.out⟩))
            exact ⟨ret3 e1 (by rw [e2]; rfl) e3, rfl⟩
          · have hkb : (((k : Nat) : Int) == 0) = false := beq_eq_false_iff_ne.2 (by omega)
            have HK := Lib.hid hk0
            clear hk0
            by_cases h2 : 144115188075855871 < (y : Int)
            · go_wp2
              go_ret3
              obtain ⟨e1, e2, e3⟩ := at_bad HR HD.out (by omega)
              exact ⟨ret3 e1 (by rw [e2]; rfl) e3, rfl⟩
            · go_wp2
              go_round
              case rel => exact ⟨k + 1, _, by omega, by omega, by go_num, by go_num, at_next HR HD.out (by have := HK.out; have : (0 : UInt8).toNat = 0 := rfl; omega) (by decide)⟩
              case measure => simp [intOf]; omega
        · have h0' : b.toNat ≠ 0 := fun h => h0 (UInt8.toNat_inj.1 (by simpa using h))
          have hb : (((b.toNat : Nat) : Int) == 0) = false := beq_eq_false_iff_ne.2 (by omega)
          have H0 := Lib.hid h0'
          clear h0 h0'
          by_cases h2 : 144115188075855871 < (y : Int)
          · go_wp2
            go_ret3
            obtain ⟨e1, e2, e3⟩ := at_bad HR HD.out (by omega)
            exact ⟨ret3 e1 (by rw [e2]; rfl) e3, rfl⟩
          · have hN : ¬ (192 ≤ b.toNat ∨ (b.toNat = 0 ∧ k = 0) ∨ 144115188075855871 < y) := by have := H0.out; omega
            have HN := Lib.hid hN
            clear hN
            by_cases h3 : 128 ≤ ((b.toNat : Nat) : Int)
            · go_wp2
              go_ret3
              obtain ⟨e1, e2, e3⟩ := at_low HR HD.out HN.out (by omega)
              exact ⟨ret3 (by rw [e1]; omega) (by rw [e2]; rfl) e3, rfl⟩
            · by_cases h4 : 64 ≤ ((b.toNat : Nat) : Int)
              · go_wp2
                go_ret3
                obtain ⟨e1, e2, e3⟩ := at_high HR HD.out HN.out (by omega) (by omega)
                exact ⟨ret3 (by rw [e1]; omega) (by rw [e2]; rfl) e3, rfl⟩
              · go_wp2
                go_round
                case rel => exact ⟨k + 1, _, by omega, by omega, by go_num, by go_num, at_next HR HD.out HN.out (by omega)⟩
                case measure => simp [intOf]; omega
    · go_wp2
      go_ret3
      obtain ⟨e1, e2, e3⟩ := at_end HR (by simp; omega)
      exact ⟨ret3 e1 (by rw [e2]; rfl) e3, rfl⟩

set_option maxHeartbeats 400000 in
theorem ref_ReadCount (s : ByteArray) (w : World) (hs : s.size ≤ maxLen) :
    Calls Tryz.prog 43 #[.string s] w fun e w' => e = .returned (.tuple #[.int .i64 (cn s.data.toList), .int .i64 (ck s.data.toList), .int .i64 (ce s.data.toList)]) ∧ w = w' := by
  have H := Lib.hid (rd_cases s.data.toList)
  by_cases h0 : re s.data.toList = 0
  · have hb : (re s.data.toList == 0) = true := beq_iff_eq.2 h0
    have H0 := Lib.hid h0
    clear h0
    by_cases h1 : rn s.data.toList < 0
    · go_enter Tryz.func43, Tryz.ntmps43
      go_wp2_with (go_at_call 44; refine (ref_ReadWhole _ _ hs).mono ?_; rintro e w' ⟨rfl, rfl⟩)
      go_ret3
      have h2 : re s.data.toList = 0 ∧ rn s.data.toList < 0 := ⟨H0.out, h1⟩
      exact ⟨ret3 (by unfold cn; rw [if_pos h2]) (by unfold ck; rw [if_pos h2]; rfl) (by unfold ce; rw [if_pos h2]), rfl⟩
    · go_enter Tryz.func43, Tryz.ntmps43
      go_wp2_with (go_at_call 44; refine (ref_ReadWhole _ _ hs).mono ?_; rintro e w' ⟨rfl, rfl⟩)
      go_ret3
      have h2 : ¬ (re s.data.toList = 0 ∧ rn s.data.toList < 0) := by omega
      exact ⟨ret3 (by unfold cn; rw [if_neg h2]) (by unfold ck; rw [if_neg h2]) (by unfold ce; rw [if_neg h2]), rfl⟩
  · have hb : (re s.data.toList == 0) = false := beq_eq_false_iff_ne.2 h0
    have H0 := Lib.hid h0
    clear h0
    go_enter Tryz.func43, Tryz.ntmps43
    go_wp2_with (go_at_call 44; refine (ref_ReadWhole _ _ hs).mono ?_; rintro e w' ⟨rfl, rfl⟩)
    go_ret3
    have h2 : ¬ (re s.data.toList = 0 ∧ rn s.data.toList < 0) := fun h => H0.out h.1
    exact ⟨ret3 (by unfold cn; rw [if_neg h2]) (by unfold ck; rw [if_neg h2]) (by unfold ce; rw [if_neg h2]), rfl⟩

theorem ret3s {k m : IntKind} {s s' : ByteArray} {b c b' c' : Int} (h1 : s' = s) (h2 : b' = b) (h3 : c' = c) : Ending.returned (.tuple #[.string s, .int k b, .int m c]) = Ending.returned (.tuple #[.string s', .int k b', .int m c']) := by rw [h1, h2, h3]

set_option maxHeartbeats 400000 in
theorem ref_ReadRaw (s : ByteArray) (n : Int) (w : World) (hs : s.size ≤ maxLen) (hn1 : -9223372036854775808 ≤ n) (hn2 : n ≤ 9223372036854775807) :
    Calls Tryz.prog 82 #[.string s, .int .i64 n] w fun e w' => e = .returned (.tuple #[.string (bs (ws s.data.toList n)), .int .i64 (wk s.data.toList n), .int .i64 (we s.data.toList n)]) ∧ w = w' := by
  unfold maxLen at hs
  have HL := Lib.hid (show s.data.toList.length = s.size by rw [← Lib.size_eq])
  by_cases h0 : n < 0
  · go_enter Tryz.func82, Tryz.ntmps82
    go_wp2
    go_ret3
    exact ⟨ret3s (by unfold ws; rw [if_pos (.inl h0)]; rfl) (by unfold wk; rw [if_pos (.inl h0)]; rfl) (by unfold we; rw [if_pos h0]), rfl⟩
  · obtain ⟨m, rfl⟩ : ∃ m : Nat, n = m := ⟨n.toNat, by omega⟩
    by_cases h1 : s.size < m
    · go_enter Tryz.func82, Tryz.ntmps82
      go_wp2
      go_ret3
      have h2 : (m : Int) < 0 ∨ (s.data.toList.length : Int) < m := .inr (by have := HL.out; omega)
      exact ⟨ret3s (by unfold ws; rw [if_pos h2]; rfl) (by unfold wk; rw [if_pos h2]; rfl) (by unfold we; rw [if_neg (by omega), if_pos (by have := HL.out; omega)]), rfl⟩
    · go_enter Tryz.func82, Tryz.ntmps82
      go_wp2
      go_ret3
      have h2 : ¬ ((m : Int) < 0 ∨ (s.data.toList.length : Int) < m) := by have := HL.out; omega
      refine ⟨ret3s ?_ (by unfold wk; rw [if_neg h2]; omega) (by unfold we; rw [if_neg (by omega), if_neg (by have := HL.out; omega)]), rfl⟩
      unfold ws; rw [if_neg h2]
      exact (bs_eq (by rw [Lib.extract_data]; simp)).symm

theorem extract_rest (s : ByteArray) (k : Nat) : (s.extract k s.size).data.toList = s.data.toList.drop k := by
  rw [Lib.extract_data, List.take_of_length_le]
  rw [List.length_drop, ← Lib.size_eq]; exact Nat.le_refl _
theorem extract_size (s : ByteArray) (k : Nat) : (s.extract k s.size).size = s.size - k := by
  rw [Lib.size_eq, extract_rest, List.length_drop, ← Lib.size_eq]

/-- ReadText behind its two callees' answers. -/
def Ret3 (a b c : Value) (w : World) (e : Ending) (w' : World) : Prop := e = .returned (.tuple #[a, b, c]) ∧ w = w'

set_option maxHeartbeats 400000 in
theorem ref_ReadText_ok (s t : ByteArray) (n : Int) (k m : Nat) (w : World) (hk : k ≤ s.size) (hs : s.size ≤ maxLen) (hm : k + m ≤ 9223372036854775807) (h1 : -9223372036854775808 ≤ n) (h2 : n ≤ 9223372036854775807)
    (h39 : Hid (∀ w, Calls Tryz.prog 43 #[.string s] w (Ret3 (.int .i64 n) (.int .i64 k) (.int .i64 0) w)))
    (h42 : Hid (∀ w, Calls Tryz.prog 82 #[.string (s.extract k s.size), .int .i64 n] w (Ret3 (.string t) (.int .i64 m) (.int .i64 0) w))) :
    Calls Tryz.prog 45 #[.string s] w (Ret3 (.string t) (.int .i64 (k + m : Nat)) (.int .i64 0) w) := by
  unfold maxLen at hs
  go_enter Tryz.func45, Tryz.ntmps45
  go_wp2_with (first | (go_at_call 43; refine (h39.out _).mono ?_; rintro e w' ⟨rfl, rfl⟩) | (go_at_call 82; refine (h42.out _).mono ?_; rintro e w' ⟨rfl, rfl⟩))
  go_ret3
  exact ⟨ret3s rfl (by omega) rfl, rfl⟩

set_option maxHeartbeats 400000 in
theorem ref_ReadText_no (s t : ByteArray) (n e : Int) (k m : Nat) (w : World) (hk : k ≤ s.size) (hs : s.size ≤ maxLen) (h1 : -9223372036854775808 ≤ n) (h2 : n ≤ 9223372036854775807) (he : (e == 0) = false)
    (h39 : Hid (∀ w, Calls Tryz.prog 43 #[.string s] w (Ret3 (.int .i64 n) (.int .i64 k) (.int .i64 0) w)))
    (h42 : Hid (∀ w, Calls Tryz.prog 82 #[.string (s.extract k s.size), .int .i64 n] w (Ret3 (.string t) (.int .i64 m) (.int .i64 e) w))) :
    Calls Tryz.prog 45 #[.string s] w (Ret3 (.string (bs [])) (.int .i64 (0 : Nat)) (.int .i64 e) w) := by
  unfold maxLen at hs
  go_enter Tryz.func45, Tryz.ntmps45
  go_wp2_with (first | (go_at_call 43; refine (h39.out _).mono ?_; rintro e w' ⟨rfl, rfl⟩) | (go_at_call 82; refine (h42.out _).mono ?_; rintro e w' ⟨rfl, rfl⟩))
  go_ret3
  exact ⟨rfl, rfl⟩

set_option maxHeartbeats 400000 in
theorem ref_ReadText_none (s : ByteArray) (n e : Int) (k : Nat) (w : World) (he : (e == 0) = false)
    (h39 : Hid (∀ w, Calls Tryz.prog 43 #[.string s] w (Ret3 (.int .i64 n) (.int .i64 k) (.int .i64 e) w))) :
    Calls Tryz.prog 45 #[.string s] w (Ret3 (.string (bs [])) (.int .i64 (0 : Nat)) (.int .i64 e) w) := by
  go_enter Tryz.func45, Tryz.ntmps45
  go_wp2_with (go_at_call 43; refine (h39.out _).mono ?_; rintro e w' ⟨rfl, rfl⟩)
  go_ret3
  exact ⟨rfl, rfl⟩

theorem ref_ReadText (s : ByteArray) (w : World) (hs : s.size ≤ maxLen) :
    Calls Tryz.prog 45 #[.string s] w fun e w' => e = .returned (.tuple #[.string (bs (ts s.data.toList)), .int .i64 (tk s.data.toList), .int .i64 (te s.data.toList)]) ∧ w = w' := by
  have HL : s.data.toList.length = s.size := by rw [← Lib.size_eq]
  have h39 := fun w => ref_ReadCount s w hs
  have hm : maxLen = 9223372036854775807 := rfl
  rcases cd_cases s.data.toList with ⟨c0, c1, c2, c3, c4, _, _, _⟩ | ⟨c0, _, _⟩
  · have HZ : (s.extract (ck s.data.toList) s.size).size ≤ maxLen := by rw [extract_size]; omega
    have h42 := fun w => ref_ReadRaw (s.extract (ck s.data.toList) s.size) (cn s.data.toList) w HZ (by omega) (by omega)
    rw [extract_rest] at h42
    have HW : te s.data.toList = we (s.data.toList.drop (ck s.data.toList)) (cn s.data.toList) := by unfold te; rw [if_neg (by rw [c0]; simp)]
    have HT : ts s.data.toList = ws (s.data.toList.drop (ck s.data.toList)) (cn s.data.toList) := by unfold ts; rw [if_neg (by rw [c0]; simp)]
    rw [← HW, ← HT] at h42
    rw [c0] at h39
    rcases td_cases s.data.toList with ⟨t0, t1, t2, t3, t4, t5, t6⟩ | ⟨t0, t1, t2⟩
    · rw [t0] at h42
      have hk : tk s.data.toList = ck s.data.toList + wk (s.data.toList.drop (ck s.data.toList)) (cn s.data.toList) := by unfold tk; rw [if_neg (by rw [t0]; simp)]
      rw [t0, hk]
      exact ref_ReadText_ok s _ _ _ _ w (by omega) hs (by omega) (by omega) (by omega) (Lib.hid h39) (Lib.hid h42)
    · rw [t1, t2]
      exact ref_ReadText_no s _ _ _ _ _ w (by omega) hs (by omega) (by omega) (beq_eq_false_iff_ne.2 (by omega)) (Lib.hid h39) (Lib.hid h42)
  · have e1 : te s.data.toList = ce s.data.toList := by unfold te; rw [if_pos (by omega)]
    have e2 : ts s.data.toList = [] := by unfold ts; rw [if_pos (by omega)]
    have e3 : tk s.data.toList = 0 := by unfold tk; rw [if_pos (by omega)]
    rw [e1, e2, e3]
    exact ref_ReadText_none s _ _ _ w (beq_eq_false_iff_ne.2 (by omega)) (Lib.hid h39)

end Go.Proofs.YtgljjdldhnajdaaGreat
/- The reader of package six: what each of its methods hands back, and where it stands behind the call. -/
set_option linter.unusedVariables false
set_option maxRecDepth 100000
namespace Go.Proofs.YtgljjdldhnajdaaGreat
open Go.RowKit

namespace Only
variable {S S' : Nat → Prop} {a b c w : World}
end Only

/-- In block r there is a reader that stands ahead of the bytes s. -/
def Rt (r : Nat) (s : ByteArray) (w : World) : Prop := w.heap[r]? = some (.cells #[.string s] 146 (0, 0))

theorem Rt.cell {r : Nat} {s : ByteArray} {w : World} (h : Rt r s w) : w.cell? ⟨r, 0, none⟩ = some (.string s) := by unfold Rt at h; simp [World.cell?, h]
theorem Rt.free {r : Nat} {s : ByteArray} {w : World} (h : Rt r s w) : w.frozen? ⟨r, 0, none⟩ = false := by unfold Rt at h; simp [World.frozen?, h]
theorem Rt.lt {r : Nat} {s : ByteArray} {w : World} (h : Rt r s w) : r < w.heap.size := by
  rcases Nat.lt_or_ge r w.heap.size with h' | h'
  · exact h'
  · unfold Rt at h; simp [Array.getElem?_eq_none h'] at h
theorem Rt.put {r : Nat} {s : ByteArray} {w : World} (h : Rt r s w) (t : ByteArray) : Rt r t (w.setCell ⟨r, 0, none⟩ (.string t)) := by
  unfold Rt at h ⊢
  simp [World.setCell, Array.getElem?_modify, h]
theorem Rt.kept {r : Nat} {s : ByteArray} {w w' : World} {S : Nat → Prop} (h : Rt r s w) (k : Only S w w') (hS : ¬ S r) : Rt r s w' := by
  have := k.block r h.lt hS
  unfold Rt at h ⊢
  rw [this, h]

theorem six_Over (s : ByteArray) (w : World) : Calls Tryz.prog 37 #[.string s] w fun e w' => e = .returned (.pointer (some ⟨w.heap.size, 0, none⟩)) ∧ w.alloc (.cells #[.string s] 146) = w' := by
  go_enter Tryz.func37, Tryz.ntmps37
  go_wp2
  go_ret
  exact ⟨rfl, rfl⟩

theorem six_Rest (r : Nat) (s : ByteArray) (w : World) (h : Rt r s w) : Calls Tryz.prog 129 #[.pointer (some ⟨r, 0, none⟩)] w fun e w' => e = .returned (.string s) ∧ w = w' := by
  have c0 := h.cell
  go_enter Tryz.func129, Tryz.ntmps129
  go_wp2
  go_ret
  exact ⟨rfl, rfl⟩
theorem six_Rest_nil (w : World) : Calls Tryz.prog 129 #[.pointer none] w fun e w' => e = .returned (.string ⟨#[]⟩) ∧ w = w' := by
  go_enter Tryz.func129, Tryz.ntmps129
  go_wp2
  go_ret
  exact ⟨rfl, rfl⟩
theorem six_End_nil (w : World) : Calls Tryz.prog 40 #[.pointer none] w fun e w' => e = .returned (.int .i64 1) ∧ w = w' := by
  go_enter Tryz.func40, Tryz.ntmps40
  go_wp2
  go_ret
  exact ⟨rfl, rfl⟩
/-- Whether bytes are left. -/
def endE (l : List UInt8) : Int := if l = [] then 0 else 5
theorem ret1 {k : IntKind} {a a' : Int} (h1 : a' = a) : Ending.returned (.int k a) = Ending.returned (.int k a') := by rw [h1]
theorem ret2 {k m : IntKind} {a b a' b' : Int} (h1 : a' = a) (h2 : b' = b) : Ending.returned (.tuple #[.int k a, .int m b]) = Ending.returned (.tuple #[.int k a', .int m b']) := by rw [h1, h2]
theorem six_End (r : Nat) (s : ByteArray) (w : World) (h : Rt r s w) : Calls Tryz.prog 40 #[.pointer (some ⟨r, 0, none⟩)] w fun e w' => e = .returned (.int .i64 (endE s.data.toList)) ∧ w = w' := by
  have c0 := h.cell
  by_cases hs : s.data.toList = []
  · have H := Lib.hid hs
    have h1 : s.toList = [] := by rw [Lib.toList_data, hs]
    have h2 : s.toList.isEmpty = true := by rw [Lib.toList_data, hs]; rfl
    clear hs
    go_enter Tryz.func40, Tryz.ntmps40
    go_wp2
    go_ret
    exact ⟨ret1 (by unfold endE; rw [if_pos H.out]), rfl⟩
  · have H := Lib.hid hs
    have h1 : ¬ s.toList = [] := by rw [Lib.toList_data]; exact hs
    have h2 : s.toList.isEmpty = false := by rw [Lib.toList_data]; simpa using hs
    clear hs
    go_enter Tryz.func40, Tryz.ntmps40
    go_wp2
    go_ret
    exact ⟨ret1 (by unfold endE; rw [if_neg H.out]), rfl⟩

theorem six_ReadWhole_nil (w : World) : Calls Tryz.prog 79 #[.pointer none] w fun e w' => e = .returned (.tuple #[.int .i64 0, .int .i64 1]) ∧ w = w' := by
  go_enter Tryz.func79, Tryz.ntmps79
  go_wp2
  go_ret2
  exact ⟨rfl, rfl⟩

/-- What a call of a reader leaves: an answer, the place, and all else as it was. -/
def Rd (r : Nat) (s : ByteArray) (a b : Value) (w : World) (e : Ending) (w' : World) : Prop := e = .returned (.tuple #[a, b]) ∧ Rt r s w' ∧ Only (fun k => k = r) w w'

theorem rest0 (s : ByteArray) : s.extract 0 s.size = s := by
  have h := extract_rest s 0
  rw [List.drop_zero] at h
  obtain ⟨⟨x⟩⟩ := s
  exact bs_eq h

theorem or_join (y c : Nat) (hy : y ≤ 144115188075855871) (hc : c < 64) : bits .or .i64 ((y : Int) * 64) (c : Int) = ((64 * y + c : Nat) : Int) := by
  have hj : y * 64 ||| c = y * 64 + c := nat_join 6 (y * 64) c (by omega) (by omega)
  rw [show ((y : Int) * 64) = ((y * 64 : Nat) : Int) by omega]
  show IntKind.i64.wrap ((BitVec.ofInt 64 ((y * 64 : Nat) : Int) ||| BitVec.ofInt 64 (c : Int)).toNat : Int) = _
  rw [BitVec.toNat_or, ofInt_u64 _ (by omega), ofInt_u64 _ (by omega), hj]
  rw [IntWalk.i64_in _ (by omega)]
  omega
theorem and128_lo (c : Nat) (hc : c < 128) : bits .and .u8 (c : Int) 128 = 0 := by
  have h := u8_and_nat c 128 (by omega) (by omega)
  rw [show (128 : Nat) = 2 ^ 7 from rfl, nat_bit 7 c, show c / 2 ^ 7 = 0 by omega] at h
  simpa using h
theorem and128_hi (c : Nat) (h1 : 128 ≤ c) (h2 : c < 256) : bits .and .u8 (c : Int) 128 = 128 := by
  have h := u8_and_nat c 128 (by omega) (by omega)
  rw [show (128 : Nat) = 2 ^ 7 from rfl, nat_bit 7 c, show c / 2 ^ 7 = 1 by omega] at h
  simpa using h

theorem rd_none {r : Nat} {s : ByteArray} {w : World} {a b : Int} (h : Rt r s w) (e1 : rn s.data.toList = a) (e2 : rk s.data.toList = 0) (e3 : re s.data.toList = b) :
    Rd r (s.extract (rk s.data.toList) s.size) (.int .i64 (rn s.data.toList)) (.int .i64 (re s.data.toList)) w (.returned (.tuple #[.int .i64 a, .int .i64 b])) w :=
  ⟨ret2 e1 e3, by rw [e2, rest0]; exact h, Only.refl _ _⟩

theorem rd_some {r : Nat} {s : ByteArray} {w : World} {a : Int} {k : Nat} (h : Rt r s w) (e1 : rn s.data.toList = a) (e2 : rk s.data.toList = k) (e3 : re s.data.toList = 0) :
    Rd r (s.extract (rk s.data.toList) s.size) (.int .i64 (rn s.data.toList)) (.int .i64 (re s.data.toList)) w (.returned (.tuple #[.int .i64 a, .int .i64 0])) (w.setCell ⟨r, 0, none⟩ (.string (s.extract k s.size))) :=
  ⟨ret2 e1 e3, by rw [e2]; exact h.put _, (Only.refl (fun k => k = r) w).setCell (p := ⟨r, 0, none⟩) (.inl rfl) _⟩

set_option maxHeartbeats 400000 in
theorem six_ReadWhole (r : Nat) (s : ByteArray) (w : World) (h : Rt r s w) (hs : s.size ≤ maxLen) :
    Calls Tryz.prog 79 #[.pointer (some ⟨r, 0, none⟩)] w (Rd r (s.extract (rk s.data.toList) s.size) (.int .i64 (rn s.data.toList)) (.int .i64 (re s.data.toList)) w) := by
  unfold maxLen at hs
  have c0 := h.cell
  have f0 := h.free
  have HH := Lib.hid h
  clear h
  go_enter Tryz.func79, Tryz.ntmps79
  go_wp2_with fail
  go_loop [4, 14] (fun x i => ∃ k y : Nat, k ≤ s.size ∧ y ≤ 9223372036854775807 ∧ i = .int .i64 k ∧ x = .int .i64 y ∧ At s.data.toList k y) (fun _ i => s.size - (intOf i).toNat)
  case atStart => exact ⟨0, 0, Nat.zero_le _, by omega, rfl, rfl, at_zero _⟩
  case round =>
    obtain ⟨k, y, hk, hy, rfl, rfl, HR⟩ := hrel
    by_cases hlt : k < s.size
    · have HD := Lib.hid (drop_at s k hlt)
      obtain ⟨hc0, hc1⟩ := byte_le s k hlt
      go_upto_region 8 with (fail)
      generalize s[k] = b at *
      by_cases h1 : 191 < ((b.toNat : Nat) : Int)
      · go_wp2
        go_ret2
        obtain ⟨e1, e2, e3⟩ := at_bad HR HD.out (by omega)
        exact rd_none HH.out e1 e2 e3
      · by_cases h0 : b = 0
        · subst h0
          clear hc0 hc1 h1
          by_cases hk0 : k = 0
          · have hkb : (((k : Nat) : Int) == 0) = true := beq_iff_eq.2 (by omega)
            have HK := Lib.hid hk0
            clear hk0
            go_wp2
            go_ret2
            obtain ⟨e1, e2, e3⟩ := at_bad HR HD.out (.inr (.inl ⟨rfl, HK.out⟩))
            exact rd_none HH.out e1 e2 e3
          · have hkb : (((k : Nat) : Int) == 0) = false := beq_eq_false_iff_ne.2 (by omega)
            have HK := Lib.hid hk0
            clear hk0
            by_cases h2 : 144115188075855871 < (y : Int)
            · go_wp2
              go_ret2
              obtain ⟨e1, e2, e3⟩ := at_bad HR HD.out (by omega)
              exact rd_none HH.out e1 e2 e3
            · have hor : bits .or .i64 ((y : Int) * 64) 0 = ((64 * y : Nat) : Int) := by
                have := or_join y 0 (by omega) (by omega)
                simpa using this
              obtain ⟨z, hz⟩ : ∃ z : Nat, z = 64 * y := ⟨_, rfl⟩
              have hz1 : z ≤ 9223372036854775807 := by omega
              rw [← hz] at hor
              have HZ := Lib.hid hz
              clear hz
              go_wp2
              go_round
              case rel => exact ⟨k + 1, z, by omega, by omega, by go_num, rfl, by rw [HZ.out]; exact at_next HR HD.out (by have := HK.out; have : (0 : UInt8).toNat = 0 := rfl; omega) (by decide)⟩
              case measure => simp [intOf]; omega
        · have h0' : b.toNat ≠ 0 := fun h => h0 (UInt8.toNat_inj.1 (by simpa using h))
          have hb : (((b.toNat : Nat) : Int) == 0) = false := beq_eq_false_iff_ne.2 (by omega)
          have H0 := Lib.hid h0'
          clear h0 h0'
          by_cases h2 : 144115188075855871 < (y : Int)
          · rcases Bool.eq_false_or_eq_true ((k : Int) == 0) with hkb | hkb
            all_goals go_wp2
            all_goals go_ret2
            all_goals obtain ⟨e1, e2, e3⟩ := at_bad HR HD.out (by omega)
            all_goals exact rd_none HH.out e1 e2 e3
          · have hN : ¬ (192 ≤ b.toNat ∨ (b.toNat = 0 ∧ k = 0) ∨ 144115188075855871 < y) := by have := H0.out; omega
            have HN := Lib.hid hN
            clear hN
            obtain ⟨z, hz⟩ : ∃ z : Nat, z = 64 * y + b.toNat % 64 := ⟨_, rfl⟩
            have hor : bits .or .i64 ((y : Int) * 64) ((b.toNat : Int) % 64) = (z : Int) := by
              rw [hz, show ((b.toNat : Int) % 64) = ((b.toNat % 64 : Nat) : Int) by omega]
              exact or_join y _ (by omega) (by omega)
            have hz1 : z ≤ 9223372036854775807 := by omega
            have HZ := Lib.hid hz
            clear hz
            by_cases h3 : ((b.toNat : Nat) : Int) ≤ 63
            · rcases Bool.eq_false_or_eq_true ((k : Int) == 0) with hkb | hkb
              all_goals go_wp2
              all_goals go_round
              all_goals first | (case rel => exact ⟨k + 1, z, by omega, by omega, by go_num, rfl, by rw [HZ.out]; exact at_next HR HD.out HN.out (by omega)⟩) | skip
              all_goals (simp [intOf]; omega)
            · by_cases h4 : 128 ≤ ((b.toNat : Nat) : Int)
              · have hand : bits .and .u8 (b.toNat : Int) 128 = 128 := and128_hi _ (by omega) b.toNat_lt
                rcases Bool.eq_false_or_eq_true ((k : Int) == 0) with hkb | hkb
                all_goals go_wp2
                all_goals go_ret2
                all_goals obtain ⟨e1, e2, e3⟩ := at_low HR HD.out HN.out (by omega)
                all_goals exact rd_some HH.out (by rw [e1, HZ.out]) e2 e3
              · have hand : bits .and .u8 (b.toNat : Int) 128 = 0 := and128_lo _ (by omega)
                rcases Bool.eq_false_or_eq_true ((k : Int) == 0) with hkb | hkb
                all_goals go_wp2
                all_goals go_ret2
                all_goals obtain ⟨e1, e2, e3⟩ := at_high HR HD.out HN.out (by omega) (by omega)
                all_goals exact rd_some HH.out (by rw [e1, HZ.out]) e2 e3
    · go_wp2
      go_ret2
      obtain ⟨e1, e2, e3⟩ := at_end HR (by simp; omega)
      exact rd_none HH.out e1 e2 e3

theorem six_ReadCount_nil (w : World) : Calls Tryz.prog 77 #[.pointer none] w fun e w' => e = .returned (.tuple #[.int .i64 0, .int .i64 1]) ∧ w = w' := by
  go_enter Tryz.func77, Tryz.ntmps77
  go_wp2
  go_ret2
  exact ⟨rfl, rfl⟩

set_option maxHeartbeats 400000 in
theorem six_ReadCount (r : Nat) (s : ByteArray) (w : World) (h : Rt r s w) (hs : s.size ≤ maxLen) :
    Calls Tryz.prog 77 #[.pointer (some ⟨r, 0, none⟩)] w (Rd r (s.extract (ck s.data.toList) s.size) (.int .i64 (cn s.data.toList)) (.int .i64 (ce s.data.toList)) w) := by
  have c0 := h.cell
  have HH := Lib.hid h
  have HS := Lib.hid hs
  clear h hs
  have HC := Lib.hid (rd_cases s.data.toList)
  by_cases h0 : re s.data.toList = 0
  · have hb : (re s.data.toList == 0) = true := beq_iff_eq.2 h0
    have H0 := Lib.hid h0
    clear h0
    by_cases h1 : rn s.data.toList < 0
    · go_enter Tryz.func77, Tryz.ntmps77
      go_wp2_with fail
      refine (six_ReadWhole r s w HH.out HS.out).mono ?_
      rintro e w1 ⟨rfl, h2, k2⟩
      have c1 := h2.cell
      have f1 := h2.free
      have H2 := Lib.hid h2
      have K2 := Lib.hid k2
      clear h2 k2
      go_wp2
      go_ret2
      have h2 : re s.data.toList = 0 ∧ rn s.data.toList < 0 := ⟨H0.out, h1⟩
      refine ⟨ret2 (by unfold cn; rw [if_pos h2]) (by unfold ce; rw [if_pos h2]), ?_, (K2.out).setCell (p := ⟨r, 0, none⟩) (.inl rfl) _⟩
      unfold ck; rw [if_pos h2, rest0]
      exact H2.out.put s
    · go_enter Tryz.func77, Tryz.ntmps77
      go_wp2_with fail
      refine (six_ReadWhole r s w HH.out HS.out).mono ?_
      rintro e w1 ⟨rfl, h2, k2⟩
      have H2 := Lib.hid h2
      have K2 := Lib.hid k2
      clear h2 k2
      go_wp2
      go_ret2
      have h2 : ¬ (re s.data.toList = 0 ∧ rn s.data.toList < 0) := by omega
      refine ⟨ret2 (by unfold cn; rw [if_neg h2]) (by unfold ce; rw [if_neg h2, H0.out]), ?_, K2.out⟩
      unfold ck; rw [if_neg h2]
      exact H2.out
  · have hb : (re s.data.toList == 0) = false := beq_eq_false_iff_ne.2 h0
    have H0 := Lib.hid h0
    clear h0
    go_enter Tryz.func77, Tryz.ntmps77
    go_wp2_with fail
    refine (six_ReadWhole r s w HH.out HS.out).mono ?_
    rintro e w1 ⟨rfl, h2, k2⟩
    have H2 := Lib.hid h2
    have K2 := Lib.hid k2
    clear h2 k2
    go_wp2
    go_ret2
    have h2 : ¬ (re s.data.toList = 0 ∧ rn s.data.toList < 0) := fun h => H0.out h.1
    have hz : rn s.data.toList = 0 := by rcases HC.out with h | h; (exact absurd h.1 H0.out); (exact h.2.1)
    refine ⟨ret2 (by unfold cn; rw [if_neg h2, hz]) (by unfold ce; rw [if_neg h2]), ?_, K2.out⟩
    unfold ck; rw [if_neg h2]
    exact H2.out

theorem six_ReadRaw_nil (n : Int) (w : World) : Calls Tryz.prog 106 #[.pointer none, .int .i64 n] w fun e w' => e = .returned (.tuple #[.string ⟨#[]⟩, .int .i64 1]) ∧ w = w' := by
  go_enter Tryz.func106, Tryz.ntmps106
  go_wp2
  go_ret2
  exact ⟨rfl, rfl⟩

set_option maxHeartbeats 400000 in
theorem six_ReadRaw (r : Nat) (s : ByteArray) (n : Int) (w : World) (h : Rt r s w) (hs : s.size ≤ maxLen) (hn1 : -9223372036854775808 ≤ n) (hn2 : n ≤ 9223372036854775807) :
    Calls Tryz.prog 106 #[.pointer (some ⟨r, 0, none⟩), .int .i64 n] w (Rd r (s.extract (wk s.data.toList n) s.size) (.string (bs (ws s.data.toList n))) (.int .i64 (we s.data.toList n)) w) := by
  unfold maxLen at hs
  have HL := Lib.hid (show s.data.toList.length = s.size by rw [← Lib.size_eq])
  have c0 := h.cell
  have f0 := h.free
  have HH := Lib.hid h
  clear h
  by_cases h0 : n < 0
  · go_enter Tryz.func106, Tryz.ntmps106
    go_wp2
    go_ret2
    refine ⟨ret2s (by unfold ws; rw [if_pos (.inl h0)]; rfl) (by unfold we; rw [if_pos h0]), ?_, Only.refl _ _⟩
    unfold wk; rw [if_pos (.inl h0), rest0]; exact HH.out
  · obtain ⟨m, rfl⟩ : ∃ m : Nat, n = m := ⟨n.toNat, by omega⟩
    by_cases h1 : s.size < m
    · go_enter Tryz.func106, Tryz.ntmps106
      go_wp2
      go_ret2
      have h2 : (m : Int) < 0 ∨ (s.data.toList.length : Int) < m := .inr (by have := HL.out; omega)
      refine ⟨ret2s (by unfold ws; rw [if_pos h2]; rfl) (by unfold we; rw [if_neg (by omega), if_pos (by have := HL.out; omega)]), ?_, Only.refl _ _⟩
      unfold wk; rw [if_pos h2, rest0]; exact HH.out
    · go_enter Tryz.func106, Tryz.ntmps106
      go_wp2
      go_ret2
      have h2 : ¬ ((m : Int) < 0 ∨ (s.data.toList.length : Int) < m) := by have := HL.out; omega
      refine ⟨ret2s ?_ (by unfold we; rw [if_neg (by omega), if_neg (by have := HL.out; omega)]), ?_, (Only.refl (fun k => k = r) w).setCell (p := ⟨r, 0, none⟩) (.inl rfl) _⟩
      · unfold ws; rw [if_neg h2]
        exact (bs_eq (by rw [Lib.extract_data]; simp)).symm
      · unfold wk; rw [if_neg h2]
        exact HH.out.put _

end Go.Proofs.YtgljjdldhnajdaaGreat
