/- Plain mathematics: a text laid into blocks piece by piece; the end of a text. -/
import Derived.Test.YtbiifdnicieamaaDoorShaRefKeys
set_option linter.unusedVariables false
set_option maxRecDepth 100000
namespace Go.Proofs.YtbiifdnicieamaaDoor

theorem byteAt_append (l m : List UInt8) (i : Nat) (h : i < l.length) : byteAt (l ++ m) i = byteAt l i := by
  unfold byteAt
  rw [List.getD_eq_getElem?_getD, List.getD_eq_getElem?_getD, List.getElem?_append_left h]
theorem sched_same (p q : List UInt8) (o : Nat) (h : ∀ j, j < 64 → byteAt p (o + j) = byteAt q j) : ∀ i, i ≤ 64 → sched p o i = sched q 0 i := by
  intro i
  induction i with
  | zero => intro _; rfl
  | succ i ih =>
    intro hi
    simp only [sched]
    rw [ih (by omega)]
    by_cases h16 : i < 16
    · rw [if_pos h16, if_pos h16]
      unfold wordAt
      have e0 := h (4 * i) (by omega)
      have e1 := h (4 * i + 1) (by omega)
      have e2 := h (4 * i + 2) (by omega)
      have e3 := h (4 * i + 3) (by omega)
      rw [Nat.zero_add, e0, show o + 4 * i + 1 = o + (4 * i + 1) by omega, e1, show o + 4 * i + 2 = o + (4 * i + 2) by omega, e2, show o + 4 * i + 3 = o + (4 * i + 3) by omega, e3]
    · rw [if_neg h16, if_neg h16]
theorem sched_app (l m : List UInt8) (o : Nat) (h : o + 64 ≤ l.length) : ∀ i, i ≤ 64 → sched (l ++ m) o i = sched l o i := by
  intro i
  induction i with
  | zero => intro _; rfl
  | succ i ih =>
    intro hi
    simp only [sched]
    rw [ih (by omega)]
    by_cases h16 : i < 16
    · rw [if_pos h16, if_pos h16]
      unfold wordAt
      rw [byteAt_append l m _ (by omega), byteAt_append l m _ (by omega), byteAt_append l m _ (by omega), byteAt_append l m _ (by omega)]
    · rw [if_neg h16, if_neg h16]
theorem blks_app (l m : List UInt8) : ∀ n, 64 * n ≤ l.length → blks (l ++ m) n = blks l n := by
  intro n
  induction n with
  | zero => intro _; rfl
  | succ n ih =>
    intro h
    simp only [blks, blk]
    rw [ih (by omega), sched_app l m (64 * n) (by omega) 64 (by omega)]

/-- A block's bytes stand for what is laid but not mixed yet. -/
def Tail (L B : List UInt8) : Prop := B.length = 64 ∧ B.take (L.length % 64) = L.drop (64 * (L.length / 64))
/-- The block behind a piece. -/
def laidB (B : List UInt8) (r : Nat) (x : List UInt8) : List UInt8 := B.take r ++ x ++ B.drop (r + x.length)
theorem laidB_len {B : List UInt8} {r : Nat} {x : List UInt8} (hB : B.length = 64) (h : r + x.length ≤ 64) : (laidB B r x).length = 64 := by
  unfold laidB
  rw [List.length_append, List.length_append, List.length_take, List.length_drop, hB]
  omega
theorem laidB_take {B : List UInt8} {r : Nat} {x : List UInt8} (hB : B.length = 64) (h : r + x.length ≤ 64) : (laidB B r x).take (r + x.length) = B.take r ++ x := by
  unfold laidB
  rw [List.take_left' (by rw [List.length_append, List.length_take, hB]; omega)]
theorem laidB_at {B : List UInt8} {r : Nat} {x : List UInt8} (hB : B.length = 64) (h : r + x.length ≤ 64) (j : Nat) : byteAt (laidB B r x) j = if r ≤ j ∧ j < r + x.length then byteAt x (j - r) else byteAt B j := by
  unfold laidB byteAt
  have h1 : (B.take r).length = r := by rw [List.length_take, hB]; omega
  simp only [List.getD_eq_getElem?_getD]
  by_cases hj : j < r
  · rw [if_neg (by omega), List.append_assoc, List.getElem?_append_left (by omega), List.getElem?_take, if_pos hj]
  · by_cases hj2 : j < r + x.length
    · rw [if_pos ⟨by omega, hj2⟩, List.getElem?_append_left (by rw [List.length_append]; omega), List.getElem?_append_right (by omega), h1]
    · rw [if_neg (by omega), List.getElem?_append_right (by rw [List.length_append]; omega), List.length_append, h1, List.getElem?_drop]
      rw [show r + x.length + (j - (r + x.length)) = j by omega]
theorem tail_less {L B x : List UInt8} (hT : Tail L B) (h : L.length % 64 + x.length < 64) : Tail (L ++ x) (laidB B (L.length % 64) x) ∧ blks (L ++ x) ((L ++ x).length / 64) = blks L (L.length / 64) := by
  obtain ⟨hB, hT⟩ := hT
  have e1 : (L ++ x).length % 64 = L.length % 64 + x.length := by rw [List.length_append]; omega
  have e2 : (L ++ x).length / 64 = L.length / 64 := by rw [List.length_append]; omega
  refine ⟨⟨laidB_len hB (by omega), ?_⟩, ?_⟩
  · rw [e1, e2, laidB_take hB (by omega), hT, List.drop_append_of_le_length (by omega)]
  · rw [e2, blks_app _ _ _ (by omega)]
theorem tail_full {L B x : List UInt8} (hT : Tail L B) (h : L.length % 64 + x.length = 64) : Tail (L ++ x) (laidB B (L.length % 64) x) ∧ blks (L ++ x) ((L ++ x).length / 64) = plus (blks L (L.length / 64)) (rnds (sched (laidB B (L.length % 64) x) 0 64) (blks L (L.length / 64)) 64) := by
  obtain ⟨hB, hT⟩ := hT
  have hlen : (L ++ x).length = 64 * (L.length / 64) + 64 := by rw [List.length_append]; omega
  have e1 : (L ++ x).length % 64 = 0 := by omega
  have e2 : (L ++ x).length / 64 = L.length / 64 + 1 := by omega
  have hl : laidB B (L.length % 64) x = (L ++ x).drop (64 * (L.length / 64)) := by
    rw [List.drop_append_of_le_length (by omega), ← hT, ← laidB_take hB (by omega), h, List.take_of_length_le (by rw [laidB_len hB (by omega)]; exact Nat.le_refl _)]
  refine ⟨⟨laidB_len hB (by omega), ?_⟩, ?_⟩
  · rw [e1, e2, List.take_zero, List.drop_of_length_le (by omega)]
  · rw [e2]
    simp only [blks, blk]
    rw [blks_app L x _ (by omega)]
    rw [sched_same (L ++ x) (laidB B (L.length % 64) x) _ (fun j hj => ?_) 64 (by omega)]
    rw [hl]
    unfold byteAt
    rw [List.getD_eq_getElem?_getD, List.getD_eq_getElem?_getD, List.getElem?_drop]

/-- What stands behind so many bytes. -/
def endOf (n : Nat) : List UInt8 := [128] ++ List.replicate (zerosOf n) 0 ++ len8 (8 * n)
theorem padded_end (l : List UInt8) : padded l = l ++ endOf l.length := by
  unfold padded endOf
  simp [List.append_assoc]
theorem endOf_len (n : Nat) : (endOf n).length ≤ 72 := by
  unfold endOf zerosOf len8
  simp only [List.length_append, List.length_replicate, List.length_cons, List.length_nil]
  omega
/-- The number of bits, moved up by bytes. -/
theorem moved_byte (M j : Nat) (h : j < 8) : (M * 256 ^ j % 18446744073709551616) / 72057594037927936 = M / 256 ^ (7 - j) % 256 := by
  have e1 : (18446744073709551616 : Nat) = 256 ^ (8 - j) * 256 ^ j := by rw [← Nat.pow_add, show 8 - j + j = 8 by omega]
  have e2 : (72057594037927936 : Nat) = 256 ^ j * 256 ^ (7 - j) := by rw [← Nat.pow_add, show j + (7 - j) = 7 by omega]
  have e3 : 256 ^ (8 - j) = 256 ^ (7 - j) * 256 := by rw [← Nat.pow_succ, show (7 - j).succ = 8 - j by omega]
  rw [e1, Nat.mul_mod_mul_right, e2, ← Nat.div_div_eq_div_mul, Nat.mul_div_cancel _ (Nat.pow_pos (by decide)), e3, Nat.mod_mul_right_div_self]
theorem moved_next (M j : Nat) : (M * 256 ^ j % 18446744073709551616) * 256 % 18446744073709551616 = M * 256 ^ (j + 1) % 18446744073709551616 := by
  rw [Nat.mod_mul_mod, Nat.pow_succ, Nat.mul_assoc]

/-- Texts, one behind the other. -/
def joined (T : List ByteArray) : List UInt8 := T.flatMap fun s => s.data.toList
theorem joined_next (T : List ByteArray) (k : Nat) (h : k < T.length) : joined (T.take (k + 1)) = joined (T.take k) ++ (T.getD k ByteArray.empty).data.toList := by
  unfold joined
  rw [List.take_add_one, List.getElem?_eq_getElem h, List.flatMap_append, List.getD_eq_getElem?_getD, List.getElem?_eq_getElem h]
  simp
theorem digestE_all (l : List UInt8) : digestE l = blks (l ++ endOf l.length) ((l ++ endOf l.length).length / 64) := by
  unfold digestE
  rw [padded_end]
end Go.Proofs.YtbiifdnicieamaaDoor
