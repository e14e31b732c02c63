/- Texts for layer 9, put together: TableGetPlain, TableScanPlain, TableSpoilPlain, TableSpoiltPlain, TableMem, TableAt, TableNum, TableRead -/
import Derived.Test.YteejldddgogbkaaDoorNi12
import Derived.Test.YteejldddgogbkaaDoorNi10
import Derived.Test.YteejldddgogbkaaDoorNi00
import Derived.Test.YteejldddgogbkaaDoorNi03
import Derived.Test.YteejldddgogbkaaDoorNi01
import Derived.Test.YteejldddgogbkaaDoorNi08
import Derived.Test.YteejldddgogbkaaDoorNi06
/- What a table answers of a key, in plain words. -/
set_option linter.unusedVariables false
set_option maxRecDepth 100000
namespace Go.Proofs.YteejldddgogbkaaDoor
open Go.RowKit

/-- The last of rising keys that isn't above k, counted from 1; 0: there is none. -/
def fromN (k : List UInt8) : List (List UInt8) → Nat
  | [] => 0
  | y :: Y => if fromN k Y ≠ 0 then fromN k Y + 1 else if ltB k y then 0 else 1
theorem fromN_cons (k y : List UInt8) (Y : List (List UInt8)) : fromN k (y :: Y) = if fromN k Y ≠ 0 then fromN k Y + 1 else if ltB k y then 0 else 1 := rfl
theorem fromN_le (k : List UInt8) : ∀ Y : List (List UInt8), fromN k Y ≤ Y.length
  | [] => Nat.le_refl _
  | y :: Y => by
    have := fromN_le k Y
    simp only [fromN, List.length_cons]
    split
    · omega
    · split <;> omega
theorem from_none {k : List UInt8} : ∀ {Y : List (List UInt8)}, fromN k Y = 0 → ∀ y ∈ Y, ltB k y = true
  | [], _, _, h => by cases h
  | z :: Y, h, y, hy => by
    simp only [fromN] at h
    split at h
    · omega
    · rename_i h0
      split at h
      · rename_i h1
        rcases List.mem_cons.1 hy with rfl | hy
        · exact h1
        · exact from_none (Nat.eq_zero_of_not_pos (by omega)) y hy
      · omega
theorem from_some {k : List UInt8} : ∀ {Y : List (List UInt8)}, fromN k Y ≠ 0 → ∃ y ∈ Y, ltB k y = false
  | [], h => absurd rfl h
  | z :: Y, h => by
    simp only [fromN] at h
    split at h
    · rename_i h0
      obtain ⟨y, hy, e⟩ := from_some h0
      exact ⟨y, by simp [hy], e⟩
    · split at h
      · exact absurd rfl h
      · rename_i h1
        exact ⟨z, by simp, by simpa using h1⟩
def isKey (k : List UInt8) (x : Ent) : Bool := decide (x.key = k)
/-- Where a key stands in no other part than the one from which it would be told. -/
theorem find_from {k : List UInt8} : ∀ {C : List (List Ent)}, rises C.flatten → (∀ c ∈ C, 1 ≤ c.length) →
    C.flatten.find? (isKey k) = if fromN k (C.map keyE) = 0 then none else (C.getD (fromN k (C.map keyE) - 1) []).find? (isKey k)
  | [], _, _ => by simp [fromN]
  | c :: D, h, hc => by
    rw [List.flatten_cons] at h
    obtain ⟨ha, hb, hab⟩ := rises_app h
    have ih := find_from (k := k) hb fun d hd => hc d (by simp [hd])
    rw [List.flatten_cons, List.find?_append, ih]
    obtain ⟨m, hm⟩ : ∃ m, m = fromN k (D.map keyE) := ⟨_, rfl⟩
    rw [List.map_cons, fromN_cons, ← hm]
    by_cases h0 : m = 0
    · subst h0
      rw [if_pos (show (0 : Nat) = 0 from rfl), if_neg (show ¬ (0 : Nat) ≠ 0 by decide)]
      simp only [Option.or_none]
      by_cases h1 : ltB k (keyE c) = true
      · rw [if_pos h1, if_pos (show (0 : Nat) = 0 from rfl), List.find?_eq_none]
        intro y hy
        cases c with
        | nil => cases hy
        | cons x c =>
          simp only [isKey, decide_eq_true_eq]
          rintro rfl
          rcases List.mem_cons.1 hy with rfl | hy
          · rw [show keyE (y :: c) = y.key from rfl, ltB_irrefl] at h1; cases h1
          · have := ltB_asymm (ha.1 y hy)
            rw [show keyE (x :: c) = x.key from rfl, this] at h1
            cases h1
      · rw [if_neg h1, if_neg (show ¬ (1 : Nat) = 0 by decide)]
        simp
    · rw [if_neg h0, if_pos h0, if_neg (by omega)]
      obtain ⟨y, hy, e⟩ := from_some (k := k) (Y := D.map keyE) (by rw [← hm]; exact h0)
      obtain ⟨d, hd, rfl⟩ := List.mem_map.1 hy
      obtain ⟨z, hz, hkz⟩ := keyE_mem (hc d (by simp [hd]))
      have hn : c.find? (isKey k) = none := by
        rw [List.find?_eq_none]
        intro x hx
        simp only [isKey, decide_eq_true_eq]
        rintro rfl
        have := hab x hx z (List.mem_flatten.2 ⟨d, hd, hz⟩)
        rw [← hkz, e] at this
        cases this
      rw [hn, Option.none_or]
      obtain ⟨j, hj⟩ : ∃ j, m = j + 1 := ⟨m - 1, by omega⟩
      rw [hj]
      simp
/-- What a table answers of a key: the entry, whether there is one, the error, how many blocks were read. -/
def getT (t : Tab) (k : List UInt8) : Ent × Bool × Int × Nat :=
  let n := fromN k (t.index.map (·.key))
  if hasB t.h (t.bits.length * 8) (bitAt t.bits) k = false ∨ n = 0 then (⟨[], [], false⟩, false, 0, 0) else
  let b := blockT t (n - 1)
  match b.2.find? (isKey k) with
  | some x => (x, true, 0, 1)
  | none => (⟨[], [], false⟩, false, b.1, 1)
theorem idxs_keys : ∀ (C : List (List Ent)) (n : Nat), (idxs n C).map (·.key) = C.map keyE
  | [], _ => rfl
  | c :: C, n => by simp [idxs, idxE, idxs_keys C]
/-- What a table that was built answers of a key. -/
theorem get_built {C : List (List Ent)} {T : List Ent} {R : List UInt8} {h m n : Nat} {k : List UInt8} (hT : C.flatten = T) (hr : okEs true [] T) (hcs : ∀ d ∈ C, 1 ≤ d.length ∧ d.length ≤ 65536) (hm : 0 < m) :
    ∃ r, r ≤ 1 ∧ ((T.find? (isKey k)).isSome = true → r = 1) ∧
      getT ⟨blksB C ++ R, idxs 0 C, offs 0 C, h, bytesOf (made h (m * 64) (T.map (·.key))) (m * 8), n⟩ k = ((T.find? (isKey k)).getD ⟨[], [], false⟩, (T.find? (isKey k)).isSome, 0, r) := by
  subst hT
  have hff := find_from (k := k) (rises_of_okEs true [] hr).1 fun c hc => (hcs c hc).1
  have hhas : hasB h (m * 8 * 8) (bitAt (bytesOf (made h (m * 64) (C.flatten.map (·.key))) (m * 8))) k = hasB h (m * 64) (made h (m * 64) (C.flatten.map (·.key))) k := by
    have e8 : m * 8 * 8 = m * 64 := by omega
    rw [e8]
    unfold hasB
    rw [Bool.eq_iff_iff, List.all_eq_true, List.all_eq_true]
    have hb := fun x (hx : x ∈ nos h (m * 64) k) => bitAt_bytesOf (made h (m * 64) (C.flatten.map (·.key))) (m * 8) x (by have := nos_lt (by omega) hx; omega)
    exact ⟨fun H x hx => by rw [← hb x hx]; exact H x hx, fun H x hx => by rw [hb x hx]; exact H x hx⟩
  unfold getT
  simp only [bytesOf_len, hhas, idxs_keys]
  by_cases hh : hasB h (m * 64) (made h (m * 64) (C.flatten.map (·.key))) k = false
  · rw [if_pos (.inl hh)]
    have hn : C.flatten.find? (isKey k) = none := by
      rw [List.find?_eq_none]
      intro x hx
      simp only [isKey, decide_eq_true_eq]
      rintro rfl
      rw [has_made (List.mem_map.2 ⟨x, hx, rfl⟩)] at hh
      cases hh
    rw [hn]
    exact ⟨0, by omega, fun h => (by cases h), rfl⟩
  · by_cases h0 : fromN k (C.map keyE) = 0
    · rw [if_pos (.inr h0), hff, if_pos h0]
      exact ⟨0, by omega, fun h => (by cases h), rfl⟩
    · rw [if_neg (fun e => e.elim hh h0)]
      have hle := fromN_le k (C.map keyE)
      rw [List.length_map] at hle
      have hlt : fromN k (C.map keyE) - 1 < C.length := by omega
      have hg := List.getElem?_eq_getElem hlt
      have hb := block_built (R := R) (h := h) (bits := bytesOf (made h (m * 64) (C.flatten.map (·.key))) (m * 8)) (n := n) hr hcs hg
      rw [hb]
      rw [if_neg h0, List.getD_eq_getElem?_getD, hg, Option.getD_some] at hff
      rw [hff]
      refine ⟨1, Nat.le_refl _, fun _ => rfl, ?_⟩
      cases C[fromN k (C.map keyE) - 1].find? (isKey k) <;> rfl
end Go.Proofs.YteejldddgogbkaaDoor
/- What a table tells from a key on, in plain words. -/
set_option linter.unusedVariables false
set_option maxRecDepth 100000
namespace Go.Proofs.YteejldddgogbkaaDoor
open Go.RowKit

/-- The entries from a key on. -/
def fromE (k : List UInt8) (T : List Ent) : List Ent := T.filter fun x => !ltB x.key k
/-- f blocks from the i-th on, up to the first error. -/
def scanG (t : Tab) (k : List UInt8) : Nat → Nat → Int × List Ent
  | 0, _ => (0, [])
  | f + 1, i => if (blockT t i).1 ≠ 0 then ((blockT t i).1, []) else ((scanG t k f (i + 1)).1, fromE k (blockT t i).2 ++ (scanG t k f (i + 1)).2)
def scanT (t : Tab) (k : List UInt8) : Int × List Ent :=
  scanG t k (t.index.length - (fromN k (t.index.map (·.key)) - 1)) (fromN k (t.index.map (·.key)) - 1)
theorem from_at {k : List UInt8} : ∀ {Y : List (List UInt8)} {j : Nat}, fromN k Y = j + 1 → ∃ y, Y[j]? = some y ∧ ltB k y = false
  | [], j, h => by simp [fromN] at h
  | z :: Y, j, h => by
    rw [fromN_cons] at h
    split at h
    · rename_i h0
      obtain ⟨i, hi⟩ : ∃ i, fromN k Y = i + 1 := ⟨fromN k Y - 1, by omega⟩
      obtain ⟨y, hy, e⟩ := from_at hi
      obtain rfl : j = i + 1 := by omega
      exact ⟨y, by simpa using hy, e⟩
    · split at h
      · omega
      · rename_i h1
        obtain rfl : j = 0 := by omega
        exact ⟨z, rfl, by simpa using h1⟩
theorem fromE_app (k : List UInt8) (A D : List Ent) : fromE k (A ++ D) = fromE k A ++ fromE k D := List.filter_append ..
theorem below_of {k : List UInt8} {x y : List UInt8} (h : ltB x y = true) (e : ltB k y = false) : ltB x k = true := by
  rcases ltB_total x k with a | a | a
  · exact a
  · rw [a, e] at h; cases h
  · rw [ltB_trans a h] at e; cases e
theorem scan_blocks {C : List (List Ent)} {R : List UInt8} {h n : Nat} {bits : List UInt8} {k : List UInt8} (hr : okEs true [] C.flatten) (hcs : ∀ d ∈ C, 1 ≤ d.length ∧ d.length ≤ 65536) :
    ∀ (f i : Nat), i + f = C.length → scanG ⟨blksB C ++ R, idxs 0 C, offs 0 C, h, bits, n⟩ k f i = (0, fromE k (C.drop i).flatten)
  | 0, i, e => by rw [List.drop_eq_nil_of_le (by omega)]; rfl
  | f + 1, i, e => by
    have hlt : i < C.length := by omega
    have hb := block_built (R := R) (h := h) (bits := bits) (n := n) hr hcs (List.getElem?_eq_getElem hlt)
    have ih := scan_blocks (R := R) (h := h) (n := n) (bits := bits) (k := k) hr hcs f (i + 1) (by omega)
    unfold scanG
    rw [hb, ih, if_neg (by simp), List.drop_eq_getElem_cons hlt, List.flatten_cons, fromE_app]
/-- What a table that was built tells from a key on. -/
theorem scan_built {C : List (List Ent)} {T : List Ent} {R : List UInt8} {h n : Nat} {bits : List UInt8} {k : List UInt8} (hT : C.flatten = T) (hr : okEs true [] T) (hcs : ∀ d ∈ C, 1 ≤ d.length ∧ d.length ≤ 65536) :
    scanT ⟨blksB C ++ R, idxs 0 C, offs 0 C, h, bits, n⟩ k = (0, fromE k T) := by
  subst hT
  have hle := fromN_le k (C.map keyE)
  rw [List.length_map] at hle
  unfold scanT
  simp only [idxs_keys, idxs_len]
  rw [scan_blocks hr hcs _ _ (by omega)]
  congr 1
  obtain ⟨i, hi⟩ : ∃ i, i = fromN k (C.map keyE) - 1 := ⟨_, rfl⟩
  rw [← hi]
  have hsplit : C.flatten = (C.take i).flatten ++ (C.drop i).flatten := by rw [← List.flatten_append, List.take_append_drop]
  have hno : fromE k (C.take i).flatten = [] := by
    by_cases h0 : i = 0
    · rw [h0]; rfl
    · obtain ⟨y, hy, e⟩ := from_at (k := k) (Y := C.map keyE) (j := i) (by omega)
      have hil : i < C.length := by
        have := (List.getElem?_eq_some_iff.1 hy).1
        rwa [List.length_map] at this
      have hy2 : y = keyE C[i] := by
        rw [List.getElem?_map, List.getElem?_eq_getElem hil] at hy
        injection hy with hy
        exact hy.symm
      obtain ⟨z, hz, hkz⟩ := keyE_mem (hcs C[i] (List.getElem_mem hil)).1
      have hrs := (rises_of_okEs true [] hr).1
      rw [hsplit] at hrs
      obtain ⟨_, _, hab⟩ := rises_app hrs
      unfold fromE
      rw [List.filter_eq_nil_iff]
      intro x hx
      have := hab x hx z (List.mem_flatten.2 ⟨C[i], by rw [List.drop_eq_getElem_cons hil]; exact List.mem_cons_self, hz⟩)
      rw [← hkz, ← hy2] at this
      simp [below_of this e]
  rw [hsplit, fromE_app, hno, List.nil_append]
end Go.Proofs.YteejldddgogbkaaDoor
/- One byte of a text with its sum made another: it is told. -/
set_option linter.unusedVariables false
set_option maxRecDepth 100000
namespace Go.Proofs.YteejldddgogbkaaDoor
open Go.RowKit

/-- One byte is another one. -/
def Spoilt (l L : List UInt8) (p : Nat) : Prop := L.length = l.length ∧ p < l.length ∧ (∀ i, i ≠ p → L[i]? = l[i]?) ∧ L[p]? ≠ l[p]?
theorem Spoilt.ne {l L : List UInt8} {p : Nat} (h : Spoilt l L p) : L ≠ l := fun e => h.2.2.2 (by rw [e])
theorem crcd_spoilt {l L : List UInt8} {p : Nat} (h : Spoilt (crcd l) L p) : takeE L = 4 := by
  obtain ⟨h1, h2, h3, h4⟩ := h
  rw [crcd_len] at h1 h2
  unfold takeE
  rw [if_neg (by omega)]
  have hn : L.length - 4 = l.length := by omega
  have hc : ∀ i, (crcd l)[i]? = if i < l.length then l[i]? else (four (sumL l))[i - l.length]? := fun i => by
    unfold crcd
    rw [List.getElem?_append]
  rw [if_neg]
  intro hok
  unfold okT at hok
  rw [hn] at hok
  have hL : L = L.take l.length ++ four (sumL (L.take l.length)) := by rw [← hok, List.take_append_drop]
  have hfin : L.take l.length = l → False := fun e => by
    rw [e] at hL
    exact h4 (by rw [hL]; rfl)
  by_cases hp : p < l.length
  · have hsum : four (sumL (L.take l.length)) = four (sumL l) := by
      rw [← hok]
      apply List.ext_getElem?
      intro i
      rw [List.getElem?_drop, h3 (l.length + i) (by omega), hc, if_neg (by omega), Nat.add_sub_cancel_left]
    refine hfin (burst (by rw [List.length_take]; omega) (8 * p) (fun i hi hf => ?_) (four_inj (sumL_lt _) (sumL_lt _) hsum))
    rw [List.length_take] at hi
    unfold bitL
    rw [List.getD_eq_getElem?_getD, List.getD_eq_getElem?_getD, List.getElem?_take_of_lt (by omega), h3 (i / 8) (by omega), hc, if_pos (by omega)]
  · refine hfin ?_
    apply List.ext_getElem?
    intro i
    by_cases hi : i < l.length
    · rw [List.getElem?_take_of_lt hi, h3 i (by omega), hc, if_pos hi]
    · rw [List.getElem?_eq_none (by rw [List.length_take]; omega), List.getElem?_eq_none (by omega)]
/-- Of three texts behind one another one is spoilt. -/
theorem Spoilt.split {a b L : List UInt8} {p : Nat} (h : Spoilt (a ++ b) L p) : ∃ A D, L = A ++ D ∧ A.length = a.length ∧ D.length = b.length ∧ (Spoilt a A p ∧ D = b ∨ A = a ∧ Spoilt b D (p - a.length)) := by
  obtain ⟨h1, h2, h3, h4⟩ := h
  rw [List.length_append] at h1 h2
  refine ⟨L.take a.length, L.drop a.length, (List.take_append_drop _ _).symm, by rw [List.length_take]; omega, by rw [List.length_drop]; omega, ?_⟩
  by_cases hp : p < a.length
  · refine .inl ⟨⟨by rw [List.length_take]; omega, hp, fun i hi => ?_, ?_⟩, ?_⟩
    · by_cases hia : i < a.length
      · rw [List.getElem?_take_of_lt hia, h3 i hi, List.getElem?_append_left hia]
      · rw [List.getElem?_eq_none (by rw [List.length_take]; omega), List.getElem?_eq_none (by omega)]
    · rw [List.getElem?_take_of_lt hp]
      rwa [List.getElem?_append_left hp] at h4
    · apply List.ext_getElem?
      intro i
      rw [List.getElem?_drop, h3 (a.length + i) (by omega), List.getElem?_append_right (by omega), Nat.add_sub_cancel_left]
  · refine .inr ⟨?_, by rw [List.length_drop]; omega, by omega, fun i hi => ?_, ?_⟩
    · apply List.ext_getElem?
      intro i
      by_cases hia : i < a.length
      · rw [List.getElem?_take_of_lt hia, h3 i (by omega), List.getElem?_append_left hia]
      · rw [List.getElem?_eq_none (by rw [List.length_take]; omega), List.getElem?_eq_none (by omega)]
    · rw [List.getElem?_drop, h3 (a.length + i) (by omega), List.getElem?_append_right (by omega), Nat.add_sub_cancel_left]
    · rw [List.getElem?_drop, show a.length + (p - a.length) = p by omega]
      rwa [List.getElem?_append_right (by omega)] at h4
end Go.Proofs.YteejldddgogbkaaDoor
/- A table of which one byte is another one: opening it, or going through it, tells. -/
set_option linter.unusedVariables false
set_option maxRecDepth 100000
namespace Go.Proofs.YteejldddgogbkaaDoor
open Go.RowKit

theorem scanG_err {t : Tab} {k : List UInt8} : ∀ (f i j : Nat), i ≤ j → j < i + f → (blockT t j).1 ≠ 0 → (scanG t k f i).1 ≠ 0
  | 0, i, j, h1, h2, _ => by omega
  | f + 1, i, j, h1, h2, h3 => by
    unfold scanG
    by_cases h : (blockT t i).1 ≠ 0
    · rw [if_pos h]; exact h
    · rw [if_neg h]
      have hij : i ≠ j := fun e => h (e ▸ h3)
      exact scanG_err f (i + 1) j (by omega) (by omega) h3
theorem blks_spoilt : ∀ {C : List (List Ent)} {S : List UInt8} {p : Nat}, Spoilt (blksB C) S p → ∃ (i q : Nat) (c : List Ent) (B : List UInt8), C[i]? = some c ∧ Spoilt (blkB c) B q ∧ ∀ R, ((S ++ R).drop (blksB (C.take i)).length).take (blkB c).length = B
  | [], S, p, h => by have := h.2.1; simp [blksB] at this
  | c :: C, S, p, h => by
    have e : blksB (c :: C) = blkB c ++ blksB C := by simp [blksB]
    rw [e] at h
    obtain ⟨A, D, rfl, ha, hd, hs⟩ := h.split
    rcases hs with ⟨hs, rfl⟩ | ⟨rfl, hs⟩
    · refine ⟨0, p, c, A, rfl, hs, fun R => ?_⟩
      show ((A ++ blksB C ++ R).drop 0).take (blkB c).length = A
      rw [List.drop_zero, List.append_assoc, ← ha, List.take_left]
    · obtain ⟨i, q, d, B, h1, h2, h3⟩ := blks_spoilt hs
      refine ⟨i + 1, q, d, B, by simpa using h1, h2, fun R => ?_⟩
      have e2 : (blksB ((c :: C).take (i + 1))).length = (blkB c).length + (blksB (C.take i)).length := by simp [blksB]
      rw [e2, List.append_assoc, ← List.drop_drop, List.drop_left, h3 R]
theorem opnS_spoilt {T : List Ent} {B : List UInt8} {q : Nat} (h : Spoilt (blkB T) B q) : (opnS B).1 ≠ 0 := by
  have e := crcd_spoilt h
  unfold opnS
  rw [e, if_pos (by decide)]
  decide
/-- Opening, by the parts of the bytes. -/
theorem open_parts {S Y V : List UInt8} {n : Nat} (hs : S.length + Y.length < 4294967296) (hn : n < 4294967296) :
    openTab (S ++ Y ++ V ++ crcd (footB S.length (S.length + Y.length) n)) =
      (if (opnS Y).1 ≠ 0 then ((opnS Y).1, noTab) else
        if (placesL S.length 0 (opnS Y).2).1 ≠ 0 then ((placesL S.length 0 (opnS Y).2).1, noTab) else
        if (opnS Y).2.isEmpty = true ∧ 0 < n ∨ (opnS Y).2.isEmpty = false ∧ n = 0 then (3, noTab) else
        if takeE V ≠ 0 then (takeE V, noTab) else
        if openE (takeT V) ≠ 0 then (openE (takeT V), noTab) else
        (0, ⟨S ++ Y ++ V ++ crcd (footB S.length (S.length + Y.length) n), (opnS Y).2, (placesL S.length 0 (opnS Y).2).2, openH (takeT V), openT (takeT V), n⟩)) := by
  obtain ⟨E, hE⟩ : ∃ E, E = footB S.length (S.length + Y.length) n := ⟨_, rfl⟩
  have hEl : E.length = 12 := by rw [hE]; rfl
  have e0 : num4 E = S.length := by rw [hE]; unfold footB; rw [List.append_assoc]; exact num4_four (by omega) _
  have e1 : num4 (E.drop 4) = S.length + Y.length := by rw [hE]; exact num4_four (x := S.length + Y.length) (by omega) (four n)
  have e2 : num4 (E.drop 8) = n := by rw [hE]; have := num4_four (x := n) (by omega) []; rwa [List.append_nil] at this
  rw [← hE]
  obtain ⟨R, hR⟩ : ∃ R, R = S ++ Y ++ V := ⟨_, rfl⟩
  have hlen : (S ++ Y ++ V ++ crcd E).length = R.length + 16 := by rw [← hR, List.length_append, crcd_len, hEl]
  have d0 : (S ++ Y ++ V ++ crcd E).drop R.length = crcd E := by rw [← hR, List.drop_left]
  have d1 : (S ++ Y ++ V ++ crcd E).take R.length = R := by rw [← hR, List.take_left]
  have d2 : ((S ++ Y ++ V ++ crcd E).take (S.length + Y.length)).drop S.length = Y := by
    rw [List.append_assoc (S ++ Y), ← List.length_append, List.take_left, List.drop_left]
  have d3 : R.drop (S.length + Y.length) = V := by rw [hR, ← List.length_append, List.drop_left]
  have hRl : S.length + Y.length ≤ R.length := by rw [hR, List.length_append, List.length_append]; omega
  unfold openTab
  simp only [hlen, Nat.add_sub_cancel, d0, d1, (take_crcd E).1, (take_crcd E).2, e0, e1, e2, d2, d3]
  rw [if_neg (by omega), if_neg (by simp), if_neg (by omega)]
theorem open_foot {R E L : List UInt8} {p : Nat} (hE : E.length = 12) (h : Spoilt (crcd E) L p) : (openTab (R ++ L)).1 ≠ 0 := by
  have hl : L.length = 16 := by rw [h.1, crcd_len, hE]
  unfold openTab
  simp only [List.length_append, hl, Nat.add_sub_cancel, List.drop_left, crcd_spoilt h]
  rw [if_neg (by omega), if_pos (by decide)]
  decide
end Go.Proofs.YteejldddgogbkaaDoor
/- A table in memory; what a source answers. -/
set_option linter.unusedVariables false
set_option maxRecDepth 100000
namespace Go.Proofs.YteejldddgogbkaaDoor
open Go.RowKit

/-- Objects that lie as they are. -/
def Keep (K : List (Nat × Obj)) (W : World) : Prop := ∀ p ∈ K, W.heap[p.1]? = some p.2
theorem Keep.below {K : List (Nat × Obj)} {W W' : World} (h : Keep K W) (k : Below W.heap.size W W') : Keep K W' := fun p hp => (k.block _ (heap_lt (h p hp))).trans (h p hp)
theorem Keep.only {K : List (Nat × Obj)} {W W' : World} {S : Nat → Prop} (h : Keep K W) (k : Only S W W') (hS : ∀ p ∈ K, ¬ S p.1) : Keep K W' := fun p hp => (k.block _ (heap_lt (h p hp)) (hS p hp)).trans (h p hp)
/-- What a function that is a source does: it answers of the bytes L, or the error d. -/
structure Src (F : Nat) (c : Array Value) (K : List (Nat × Obj)) (d : Int) (L : List UInt8) : Prop where
  enters : Enters Tryd.prog F
  calls : ∀ W, Keep K W → ∀ n k : Nat, n + k ≤ L.length → Calls Tryd.prog F (#[.int .i64 (n : Int), .int .i64 (k : Int)] ++ c) W fun e W' => e = .returned (.tuple #[.string (bs (if d = 0 then (L.drop n).take k else [])), .int .i64 d]) ∧ Below W.heap.size W W'
def srcV (F : Nat) (c : Array Value) : Value := .func (.func F) #[] c
/-- A block of a table as the table knows it: its first key, its place, its size. -/
abbrev Pc := List UInt8 × Nat × Nat
structure CellP (b o : Nat) (x : Pc) (w : World) : Prop where
  lt : b < w.heap.size
  c0 : w.cell? ⟨b, o, none⟩ = some (.string (bs x.1))
  c1 : w.cell? ⟨b, o + 1, none⟩ = some (.int .i64 (x.2.1 : Int))
  c2 : w.cell? ⟨b, o + 2, none⟩ = some (.int .i64 (x.2.2 : Int))
theorem lt_of_same {w w' : World} {b : Nat} (h : b < w.heap.size) (k : w'.heap[b]? = w.heap[b]?) : b < w'.heap.size := by
  rcases Nat.lt_or_ge b w'.heap.size with h1 | h1
  · exact h1
  · rw [Array.getElem?_eq_none h1, Array.getElem?_eq_getElem h] at k; cases k
theorem cell_same {w w' : World} {b o : Nat} {v : Value} (h : w.cell? ⟨b, o, none⟩ = some v) (k : w'.heap[b]? = w.heap[b]?) : w'.cell? ⟨b, o, none⟩ = some v := by
  unfold World.cell? at h ⊢
  simp only [k]
  exact h
theorem CellP.block {b o : Nat} {x : Pc} {w w' : World} (h : CellP b o x w) (k : w'.heap[b]? = w.heap[b]?) : CellP b o x w' :=
  ⟨lt_of_same h.lt k, cell_same h.c0 k, cell_same h.c1 k, cell_same h.c2 k⟩
/-- A slice of them, in a block below p. -/
def IsP (w : World) (p : Nat) (a : Option Addr) (len : Nat) (P : List Pc) : Prop := len = P.length ∧ ∃ b off, b < p ∧ (len = 0 ∨ a = some ⟨b, off, none⟩) ∧ ∀ k (h : k < P.length), CellP b (off + k * 3) P[k] w
theorem IsP.keep {w w' : World} {p : Nat} {a : Option Addr} {len : Nat} {P : List Pc} (h : IsP w p a len P) (k : ∀ j, j < p → j < w.heap.size → w'.heap[j]? = w.heap[j]?) : IsP w' p a len P := by
  obtain ⟨h1, b, off, h2, h3, h4⟩ := h
  exact ⟨h1, b, off, h2, h3, fun i hi => (h4 i hi).block (k b h2 (h4 i hi).lt)⟩
theorem IsP.at {w : World} {p : Nat} {a : Option Addr} {len : Nat} {P : List Pc} (h : IsP w p a len P) {k : Nat} (hk : k < len) : ∃ b off x, a = some ⟨b, off, none⟩ ∧ P[k]? = some x ∧ CellP b (off + k * 3) x w := by
  obtain ⟨h1, b, off, h2, h3, h4⟩ := h
  have hk' : k < P.length := by omega
  refine ⟨b, off, P[k], ?_, List.getElem?_eq_getElem hk', h4 k hk'⟩
  rcases h3 with h3 | h3
  · omega
  · exact h3
def piecesOf (t : Tab) : List Pc := (t.index.map (·.key)).zip t.places
/-- A table that was opened. -/
structure FineT (t : Tab) : Prop where
  idx : rises t.index
  pl : t.places.length = t.index.length
  inn : ∀ q ∈ t.places, q.1 + q.2 ≤ t.bytes.length
  bits : 0 < t.bits.length ∧ t.bits.length % 8 = 0 ∧ t.bits.length ≤ t.bytes.length
  h8 : t.h ≤ 8
  few : t.index.length ≤ 65536
theorem piecesOf_len {t : Tab} (h : FineT t) : (piecesOf t).length = t.index.length := by unfold piecesOf; rw [List.length_zip, List.length_map, h.pl]; omega
theorem piecesOf_at {t : Tab} (h : FineT t) {i : Nat} (hi : i < t.index.length) : (piecesOf t)[i]? = some ((t.index.map (·.key)).getD i [], t.places.getD i (0, 0)) := by
  unfold piecesOf
  rw [List.getElem?_zip_eq_some]
  refine ⟨?_, ?_⟩
  · show (t.index.map (·.key))[i]? = some ((t.index.map (·.key)).getD i [])
    rw [List.getD_eq_getElem?_getD, List.getElem?_eq_getElem (by rw [List.length_map]; exact hi)]; rfl
  · show t.places[i]? = some (t.places.getD i (0, 0))
    rw [List.getD_eq_getElem?_getD, List.getElem?_eq_getElem (by rw [h.pl]; exact hi)]; rfl
/-- A table in block p, n blocks of which were read. -/
structure TabM (p : Nat) (v : Value) (n : Int) (t : Tab) (w : World) : Prop where
  ex : ∃ a cap fb fg, w.heap[p]? = some (.cells #[v, .slice a t.index.length cap, .pointer (some ⟨fb, 0, none⟩), .int .i64 (t.count : Int), .int .i64 n] 78 (0, 0)) ∧ IsP w p a t.index.length (piecesOf t) ∧ Flt fb fg t.h t.bits w ∧ fb < p ∧ fg < p
theorem TabM.lt {p : Nat} {v : Value} {n : Int} {t : Tab} {w : World} (h : TabM p v n t w) : p < w.heap.size := by
  obtain ⟨a, cap, fb, fg, h1, _⟩ := h.ex
  exact heap_lt h1
theorem Flt.blocks {b g h : Nat} {L : List UInt8} {w w' : World} (f : Flt b g h L w) (k1 : w'.heap[b]? = w.heap[b]?) (k2 : w'.heap[g]? = w.heap[g]?) : Flt b g h L w' := by
  refine ⟨cell_same f.c0 k1, ?_, ⟨lt_of_same f.row.1 k2, fun j hj => ?_⟩, lt_of_same f.lt k1⟩
  · obtain ⟨cap, hc⟩ := f.c1
    exact ⟨cap, cell_same hc k1⟩
  · have := f.row.2 j hj
    unfold World.cell? World.frozen? at this ⊢
    simp only [k2]
    exact this
theorem TabM.below {p : Nat} {v : Value} {n : Int} {t : Tab} {w w' : World} (h : TabM p v n t w) (k : Below w.heap.size w w') : TabM p v n t w' := by
  obtain ⟨a, cap, fb, fg, h1, h2, h3, h4, h5⟩ := h.ex
  exact ⟨a, cap, fb, fg, (k.block p (heap_lt h1)).trans h1, h2.keep fun j _ hj => k.block j hj, h3.below k, h4, h5⟩
/-- Where only the table's own block is written: another number of blocks read. -/
theorem TabM.reads {p : Nat} {v : Value} {n : Int} {t : Tab} {w : World} (h : TabM p v n t w) (m : Int) : TabM p v m t (w.setCell ⟨p, 4, none⟩ (.int .i64 m)) := by
  obtain ⟨a, cap, fb, fg, h1, h2, h3, h4, h5⟩ := h.ex
  refine ⟨a, cap, fb, fg, by rw [heap_set (o := 4) h1]; rfl, h2.keep fun j hj _ => heap_set_other (by omega) _, h3.blocks (heap_set_other (by omega) _) (heap_set_other (by omega) _), h4, h5⟩
theorem places_inn {a : Nat} : ∀ {X : List Ent} {n : Nat} {P : List (Nat × Nat)}, placesL a n X = (0, P) → P.length = X.length ∧ ∀ q ∈ P, q.1 + q.2 ≤ a
  | [], n, P, h => by
    unfold placesL at h
    split at h
    · injection h with _ h; subst h; exact ⟨rfl, fun q hq => by cases hq⟩
    · injection h with h _; cases h
  | x :: X, n, P, h => by
    unfold placesL at h
    simp only at h
    split at h
    · rename_i h0
      injection h with h _
      exact absurd h h0
    split at h
    · rename_i _ h0
      injection h with h _
      exact absurd h h0
    split at h
    · injection h with h _; cases h
    · rename_i h1 h2 h3
      injection h with e1 e2
      rw [e1, if_pos rfl] at e2
      have h1' : ce x.val = 0 := Decidable.of_not_not h1
      have h2' : ce (x.val.drop (ck x.val)) = 0 := Decidable.of_not_not h2
      have hc := cn_of' h2'
      have hr : placesL a (n + (cn (x.val.drop (ck x.val))).toNat) X = (0, (placesL a (n + (cn (x.val.drop (ck x.val))).toNat) X).2) := by rw [← e1]
      obtain ⟨g1, g2⟩ := places_inn hr
      subst e2
      refine ⟨by rw [List.length_cons, g1, List.length_cons], fun q hq => ?_⟩
      rcases List.mem_cons.1 hq with rfl | hq
      · simp only
        omega
      · exact g2 q hq
theorem fine_mk {s x q : List UInt8} {a b n c : Nat} (hlen : n = s.length - 16) (hab : ¬ (b < a ∨ n < b)) (ho : (opnS x).1 = 0) (hp : (placesL a 0 (opnS x).2).1 = 0) (hq : openE q = 0) (hql : q.length ≤ s.length) (hs : 16 ≤ s.length) : FineT ⟨s, (opnS x).2, (placesL a 0 (opnS x).2).2, openH q, openT q, c⟩ := by
  obtain ⟨hc, hk⟩ := pack_open ho
  obtain ⟨hok, hl⟩ := (chkE_ok _).1 hc
  obtain ⟨g1, g2⟩ := places_inn (a := a) (X := (opnS x).2) (n := 0) (P := (placesL a 0 (opnS x).2).2) (by rw [← hp])
  obtain ⟨_, q1, q2, q3, q4, q5⟩ := open_ok hq
  refine ⟨(rises_of_okEs true [] hok).1, g1, fun y hy => ?_, ⟨List.length_pos_iff.2 q3, q4, Nat.le_trans q5 hql⟩, q2, hl⟩
  have h := g2 y hy
  show y.1 + y.2 ≤ s.length
  omega
set_option maxHeartbeats 1000000 in
/-- What opening leaves is fine. -/
theorem open_fine {s : List UInt8} {t : Tab} (h : openTab s = (0, t)) : FineT t ∧ t.bytes = s := by
  unfold openTab at h
  simp only at h
  split at h
  · injection h with h _; cases h
  split at h
  · rename_i _ h0; injection h with h _; exact absurd h h0
  split at h
  · injection h with h _; cases h
  rename_i hlen _ hab
  split at h
  · rename_i h0; injection h with h _; exact absurd h h0
  rename_i ho
  split at h
  · rename_i h0; injection h with h _; exact absurd h h0
  rename_i hp
  split at h
  · injection h with h _; cases h
  split at h
  · rename_i h0; injection h with h _; exact absurd h h0
  split at h
  · rename_i h0; injection h with h _; exact absurd h h0
  rename_i hq
  injection h with _ h
  subst h
  have ho' := Decidable.of_not_not ho
  have hp' := Decidable.of_not_not hp
  have hq' := Decidable.of_not_not hq
  refine ⟨fine_mk rfl hab ho' hp' hq' ?_ (by omega), rfl⟩
  have h1 := takeT_len ((s.take (s.length - 16)).drop (num4 ((takeT (s.drop (s.length - 16))).drop 4)))
  rw [List.length_drop, List.length_take] at h1
  exact Nat.le_trans h1 (by omega)
end Go.Proofs.YteejldddgogbkaaDoor
/- In which block a key would stand. -/
set_option linter.unusedVariables false
set_option maxRecDepth 100000
namespace Go.Proofs.YteejldddgogbkaaDoor
open Go.RowKit

def risesK : List Pc → Prop := fun P => ∀ (i j : Nat) (x y : Pc), i < j → P[i]? = some x → P[j]? = some y → ltB x.1 y.1 = true
theorem from_zero {k : List UInt8} : ∀ {Y : List (List UInt8)}, (∀ y ∈ Y, ltB k y = true) → fromN k Y = 0
  | [], _ => rfl
  | y :: Y, h => by
    rw [fromN_cons, from_zero fun z hz => h z (List.mem_cons_of_mem _ hz), if_neg (fun e => e rfl), if_pos (h y (by simp))]
theorem from_app {k : List UInt8} : ∀ {A B : List (List UInt8)} {y : List UInt8}, fromN k B = 0 → ltB k y = false → fromN k (A ++ y :: B) = A.length + 1
  | [], B, y, h, hy => by
    rw [List.nil_append, fromN_cons, h, if_neg (fun e => e rfl), if_neg (by rw [hy]; decide)]
    rfl
  | z :: A, B, y, h, hy => by
    rw [List.cons_append, fromN_cons, from_app (A := A) h hy, if_pos (by omega), List.length_cons]
/-- What a search of the first block above a key finds. -/
theorem from_found {k : List UInt8} {P : List Pc} (hP : risesK P) {r : Nat} (hr : r ≤ P.length) (h1 : ∀ x, 0 < r → P[r - 1]? = some x → ltB k x.1 = false) (h2 : ∀ x, P[r]? = some x → ltB k x.1 = true) : fromN k (P.map (·.1)) = r := by
  have hB : fromN k ((P.drop r).map (·.1)) = 0 := from_zero fun y hy => by
    obtain ⟨x, hx, rfl⟩ := List.mem_map.1 hy
    obtain ⟨i, hi⟩ := List.mem_iff_getElem?.1 hx
    rw [List.getElem?_drop] at hi
    by_cases h0 : i = 0
    · subst h0
      exact h2 x (by simpa using hi)
    · have hl := (List.getElem?_eq_some_iff.1 hi).1
      obtain ⟨z, hz⟩ : ∃ z, P[r]? = some z := ⟨_, List.getElem?_eq_getElem (by omega)⟩
      exact ltB_trans (h2 z hz) (hP r (r + i) z x (by omega) hz hi)
  rcases Nat.eq_zero_or_pos r with h0 | h0
  · subst h0
    simpa using hB
  · obtain ⟨x, hx⟩ : ∃ x, P[r - 1]? = some x := ⟨_, List.getElem?_eq_getElem (by omega)⟩
    have hsp : P = P.take (r - 1) ++ x :: P.drop r := by
      have h3 := List.getElem?_eq_some_iff.1 hx
      have h4 : P.drop (r - 1) = x :: P.drop r := by rw [List.drop_eq_getElem_cons h3.1, h3.2, Nat.sub_add_cancel h0]
      rw [← h4, List.take_append_drop]
    have h5 := from_app (k := k) (A := (P.take (r - 1)).map (·.1)) (B := (P.drop r).map (·.1)) hB (h1 x h0 hx)
    have h6 : P.map (·.1) = (P.take (r - 1)).map (·.1) ++ x.1 :: (P.drop r).map (·.1) := by
      conv => lhs; rw [hsp]
      simp
    rw [h6, h5, List.length_map, List.length_take]
    omega
/-- A variable that holds a pointer to a table. -/
def BxP (c : Nat) (p : Nat) (w : World) : Prop := w.heap[c]? = some (.cells #[.pointer (some ⟨p, 0, none⟩)] 30 (0, 0))
theorem BxP.cell {c p : Nat} {w : World} (h : BxP c p w) : w.cell? ⟨c, 0, none⟩ = some (.pointer (some ⟨p, 0, none⟩)) := by unfold BxP at h; simp [World.cell?, h]
set_option maxHeartbeats 1000000 in
theorem at_look (b1 b2 p q : Nat) (a : Option Addr) (len cap : Nat) (P : List Pc) (key : List UInt8) (i : Nat) (x : Pc) (w : World) (h1 : BxP b1 p w) (h2 : Bx b2 key w) (hc : w.cell? ⟨p, 1, none⟩ = some (.slice a len cap)) (hP : Hid (IsP w q a len P)) (hi : i < len) (hx : Hid (P[i]? = some x)) :
    Calls Tryd.prog 59 #[.int .i64 (i : Int), .pointer (some ⟨b1, 0, none⟩), .pointer (some ⟨b2, 0, none⟩)] w fun e w' => e = .returned (.bool (ltB key x.1)) ∧ Below w.heap.size w w' := by
  obtain ⟨b, off, y, rfl, hy, hcl⟩ := hP.out.at hi
  have hxy : x = y := by have := hx.out; rw [hy] at this; injection this with this; exact this.symm
  have c0 := hcl.c0
  have k1 := h1.cell
  have k2 := h2.cell
  rw [hxy]
  obtain ⟨A, hA⟩ : ∃ A, Op.bytesLess (bs y.1).toList (bs key).toList = A := ⟨_, rfl⟩
  obtain ⟨B, hB⟩ : ∃ B, ((bs y.1).toList == (bs key).toList) = B := ⟨_, rfl⟩
  obtain ⟨z, hz⟩ : ∃ z, z = ltB key y.1 := ⟨_, rfl⟩
  rw [← hz]
  have HZ := Lib.hid (show z = (!A && !B) by
    rw [hz, ← hA, ← hB]
    rcases cmp3 y.1 key with ⟨e1, e2, e3⟩ | ⟨e1, e2, e3⟩ | ⟨e1, e2, e3⟩ <;> rw [e1, e2, e3] <;> rfl)
  clear hxy hx hy h1 h2 hcl hz
  go_enter Tryd.func59, Tryd.ntmps59
  go_wp2_with fail
  go_quiet (fail)
  go_wp2_with fail
  go_ret
  exact ⟨by rw [HZ.out]; rfl, below_drewN (Below.refl _ _) _⟩
structure AtPost (P : List Pc) (key : List UInt8) (w : World) (e : Ending) (w' : World) : Prop where
  out : ∃ r, e = .returned (.int .i64 ((r : Nat) : Int)) ∧ r ≤ P.length ∧ (∀ x, 0 < r → P[r - 1]? = some x → ltB key x.1 = false) ∧ (∀ x, P[r]? = some x → ltB key x.1 = true)
  bel : Below w.heap.size w w'
set_option maxHeartbeats 2000000 in
theorem at_search (b1 b2 p q : Nat) (a : Option Addr) (len cap : Nat) (P : List Pc) (key : List UInt8) (w : World) (h1 : BxP b1 p w) (h2 : Bx b2 key w) (hc : Hid (w.cell? ⟨p, 1, none⟩ = some (.slice a len cap))) (hP : Hid (IsP w q a len P)) (hl : len ≤ 100000) :
    Calls Tryd.prog 58 #[.int .i64 (len : Int), .func (.func 59) #[] #[.pointer (some ⟨b1, 0, none⟩), .pointer (some ⟨b2, 0, none⟩)]] w (AtPost P key w) := by
  have H1 := Lib.hid h1
  have H2 := Lib.hid h2
  clear h1 h2
  go_enter Tryd.func58, Tryd.ntmps58
  go_wp2_with fail
  go_loopw [5, 6] (fun iv jv wr => ∃ i j : Nat, i ≤ j ∧ j ≤ len ∧ iv = .int .i64 i ∧ jv = .int .i64 j ∧ Hid (∀ x, 0 < i → P[i - 1]? = some x → ltB key x.1 = false) ∧ Hid (∀ x, P[j]? = some x → ltB key x.1 = true) ∧ Hid (Below w.heap.size w wr)) (fun iv jv wr => (intOf jv).toNat - (intOf iv).toNat)
  case atStart => exact ⟨0, len, by omega, by omega, rfl, rfl, Lib.hid (fun x h => absurd h (by omega)), Lib.hid (fun x h => by have := (List.getElem?_eq_some_iff.1 h).1; have := hP.out.1; omega), Lib.hid (Below.refl _ _)⟩
  case round =>
    obtain ⟨i, j, hij, hj, rfl, rfl, hA, hZ, hB⟩ := hrel
    by_cases hlt : i < j
    · obtain ⟨m, hm⟩ : ∃ m, m = (i + j) / 2 := ⟨_, rfl⟩
      obtain ⟨s, hs⟩ : ∃ s : Int, s = (i : Int) + (j : Int) := ⟨_, rfl⟩
      have hs1 : IntKind.i64.wrap ((i : Int) + (j : Int)) = s := by rw [IntWalk.i64_in _ (by omega), hs]
      have hm1 : s / 2 = (m : Int) := by omega
      have hmi : i ≤ m := by omega
      have hmj : m < j := by omega
      have hml : m < len := by omega
      have hs0 : 0 ≤ s := by omega
      have hs2 : s ≤ 200000 := by omega
      have hs3 : (i : Int) + (j : Int) = s := hs.symm
      obtain ⟨x, hx⟩ : ∃ x, P[m]? = some x := ⟨_, List.getElem?_eq_getElem (by have := hP.out.1; omega)⟩
      have HL := Lib.hid (at_look b1 b2 p q a len cap P key m x wr ((hB.out.block b1 (heap_lt H1.out)).trans H1.out) ((hB.out.block b2 (heap_lt H2.out)).trans H2.out) (by rw [hB.out.cell (cell_block hc.out)]; exact hc.out) (Lib.hid (hP.out.keep fun j _ hj => hB.out.block j hj)) hml (Lib.hid hx))
      have HX := Lib.hid hx
      have HM := Lib.hid (And.intro hmi hmj)
      clear hs hm hx
      cases hcs : ltB key x.1 with
      | false =>
        rw [hcs] at HL
        have HC := Lib.hid hcs
        clear hcs
        go_wp2_with fail
        refine HL.out.mono ?_
        rintro e w2 ⟨rfl, k2⟩
        have HB2 := Lib.hid (hB.out.trans (k2.mono hB.out.size))
        clear k2
        go_wp2_with fail
        go_roundw
        case rel => exact ⟨m + 1, j, by omega, hj, by go_num, rfl, Lib.hid (fun y _ hy => by rw [Nat.add_sub_cancel, HX.out] at hy; injection hy with hy; rw [← hy]; exact HC.out), hZ, HB2⟩
        case measure => simp [intOf]; omega
      | true =>
        rw [hcs] at HL
        have HC := Lib.hid hcs
        clear hcs
        go_wp2_with fail
        refine HL.out.mono ?_
        rintro e w2 ⟨rfl, k2⟩
        have HB2 := Lib.hid (hB.out.trans (k2.mono hB.out.size))
        clear k2
        go_wp2_with fail
        go_roundw
        case rel => exact ⟨i, m, hmi, by omega, rfl, rfl, hA, Lib.hid (fun y hy => by rw [HX.out] at hy; injection hy with hy; rw [← hy]; exact HC.out), HB2⟩
        case measure => simp [intOf]; omega
    · obtain rfl : i = j := by omega
      go_wp2_with fail
      go_ret
      exact ⟨⟨i, rfl, by have := hP.out.1; omega, hA.out, hZ.out⟩, hB.out⟩
set_option maxHeartbeats 1000000 in
theorem table_blockOf (p q : Nat) (a : Option Addr) (len cap : Nat) (P : List Pc) (key : List UInt8) (w : World) (hc : Hid (w.cell? ⟨p, 1, none⟩ = some (.slice a len cap))) (hP : Hid (IsP w q a len P)) (hr : Hid (risesK P)) (hl : len ≤ 100000) :
    Calls Tryd.prog 37 #[.pointer (some ⟨p, 0, none⟩), .string (bs key)] w fun e w' => e = .returned (.int .i64 ((fromN key (P.map (·.1)) : Int) - 1)) ∧ Below w.heap.size w w' := by
  obtain ⟨w0, hw0⟩ : ∃ w0, (w.alloc (.cells #[.pointer (some ⟨p, 0, none⟩)] 30)).alloc (.cells #[.string (bs key)] 9) = w0 := ⟨_, rfl⟩
  have K0 := Lib.hid (show Below w.heap.size w w0 by rw [← hw0]; exact ((Below.refl _ _).alloc (Nat.le_refl _) _).alloc (by simp) _)
  have S0 := Lib.hid (show BxP w.heap.size p w0 by rw [← hw0]; exact (Below.heap_alloc _ _ _ (by simp)).trans (heap_new w _))
  have S1 := Lib.hid (show Bx (w.heap.size + 1) key w0 by
    have h := heap_new (w.alloc (.cells #[.pointer (some ⟨p, 0, none⟩)] 30)) (.cells #[.string (bs key)] 9)
    rw [show (w.alloc (.cells #[.pointer (some ⟨p, 0, none⟩)] 30)).heap.size = w.heap.size + 1 by simp] at h
    rw [← hw0]; exact h)
  have hc0 : w0.cell? ⟨p, 1, none⟩ = some (.slice a len cap) := by rw [K0.out.cell (cell_block hc.out)]; exact hc.out
  have HS := Lib.hid (at_search w.heap.size (w.heap.size + 1) p q a len cap P key w0 S0.out S1.out (Lib.hid hc0) (Lib.hid (hP.out.keep fun j _ hj => K0.out.block j hj)) hl)
  have c0 : w0.cell? ⟨w.heap.size, 0, none⟩ = some (.pointer (some ⟨p, 0, none⟩)) := S0.out.cell
  have HW0 := Lib.hid hw0
  clear hw0
  go_enter Tryd.func37, Tryd.ntmps37
  go_upto_region 1 with (fail)
  rw [HW0.out]
  go_wp2_with fail
  refine HS.out.mono ?_
  rintro e w1 ⟨⟨r, rfl, h1, h2, h3⟩, k1⟩
  have hf := Lib.hid (from_found hr.out h1 h2 h3)
  have hrl : r ≤ 100000 := by have := hP.out.1; omega
  clear h2 h3
  go_wp2_with fail
  go_ret
  exact ⟨ret1 (by rw [hf.out]), K0.out.trans (k1.mono K0.out.size)⟩
end Go.Proofs.YteejldddgogbkaaDoor
/- The foot's numbers: four bytes, the highest first, read and written. -/
set_option linter.unusedVariables false
set_option maxRecDepth 100000
namespace Go.Proofs.YteejldddgogbkaaDoor
open Go.RowKit

def numG (l : List UInt8) : Nat := l.foldl (fun n b => n * 256 + b.toNat) 0
theorem numG_snoc (l : List UInt8) (b : UInt8) : numG (l ++ [b]) = numG l * 256 + b.toNat := by simp [numG]
theorem numG_go : ∀ (l : List UInt8) (n : Nat), l.foldl (fun n b => n * 256 + b.toNat) n < (n + 1) * 256 ^ l.length
  | [], n => by simp
  | b :: l, n => by
    have h := numG_go l (n * 256 + b.toNat)
    have hb := b.toNat_lt
    have h2 : (n * 256 + b.toNat + 1) * 256 ^ l.length ≤ ((n + 1) * 256) * 256 ^ l.length := Nat.mul_le_mul_right _ (by omega)
    rw [List.foldl_cons, List.length_cons, Nat.pow_succ, Nat.mul_comm (256 ^ l.length) 256, ← Nat.mul_assoc]
    omega
theorem numG_lt (l : List UInt8) : numG l < 256 ^ l.length := by
  have := numG_go l 0
  rw [Nat.zero_add, Nat.one_mul] at this
  exact this
theorem numG_four {l : List UInt8} (h : l.length = 4) : numG l = num4 l := by
  match l, h with
  | [a, b, c, d], _ => simp [numG, num4]
theorem get_bs4 (l : List UInt8) (n : Nat) (h : n < (bs l).size) : ∃ x : UInt8, l[n]? = some x ∧ (bs l)[n] = x := by
  have hl : n < l.length := by rw [← bs_size]; exact h
  exact ⟨l[n], List.getElem?_eq_getElem hl, rfl⟩
theorem or_b256 (n b : Nat) (hn : n < 16777216) (hb : b < 256) : bits .or .i64 ((n : Int) * 256) (b : Int) = ((n * 256 + b : Nat) : Int) := by
  have h := bits_join .i64 63 (by decide) (fun n h0 h1 => by rw [IntKind.wrap_i64]; omega) 8 ((n : Int) * 256) (b : Int) (by omega) (by omega) (by omega) (by omega) (by omega) (by omega)
  rw [h]
  omega
set_option maxHeartbeats 1000000 in
theorem table_number (l : List UInt8) (w : World) (hl : l.length = 4) :
    Calls Tryd.prog 54 #[.string (bs l)] w fun e w' => e = .returned (.int .i64 ((num4 l : Nat) : Int)) ∧ Below w.heap.size w w' := by
  have z1 : (bs l).size = 4 := by rw [bs_size, hl]
  have HL := Lib.hid hl
  clear hl
  go_enter Tryd.func54, Tryd.ntmps54
  go_wp2_with fail
  go_loopw [3, 7] (fun vn vi wr => ∃ i : Nat, i ≤ 4 ∧ vi = .int .i64 i ∧ vn = .int .i64 ((numG (l.take i) : Nat) : Int) ∧ Hid (Below w.heap.size w wr)) (fun vn vi wr => 4 - (intOf vi).toNat)
  case atStart => exact ⟨0, by omega, rfl, rfl, Lib.hid (Below.refl _ _)⟩
  case round =>
    obtain ⟨i, hi, rfl, rfl, hB⟩ := hrel
    rcases Nat.lt_or_ge i 4 with h4 | h4
    · obtain ⟨b, hb, hbb⟩ := get_bs4 l i (by rw [z1]; exact h4)
      have hlt := numG_lt (l.take i)
      rw [List.length_take, HL.out, Nat.min_eq_left hi] at hlt
      have hlt2 : numG (l.take i) < 16777216 := by
        have : 256 ^ i ≤ 256 ^ 3 := Nat.pow_le_pow_right (by decide) (by omega)
        omega
      have hn : numG (l.take (i + 1)) = numG (l.take i) * 256 + b.toNat := by rw [List.take_add_one, hb]; exact numG_snoc _ _
      have hb8 := b.toNat_lt
      obtain ⟨n, hnn⟩ : ∃ n, n = numG (l.take i) := ⟨_, rfl⟩
      rw [← hnn] at hlt2 hn ⊢
      have hor := or_b256 n b.toNat hlt2 hb8
      have hwr : IntKind.i64.wrap ((n : Int) * 256) = (n : Int) * 256 := by rw [IntKind.wrap_i64]; omega
      have HN := Lib.hid hn
      clear hlt hnn hb hn
      go_wp2_with fail
      go_roundw
      case rel => exact ⟨i + 1, by omega, by go_num, by rw [HN.out]; go_num, hB⟩
      case measure => simp [intOf]; omega
    · obtain rfl : i = 4 := by omega
      have hf := Lib.hid (show num4 l = numG (l.take 4) by rw [List.take_of_length_le (by rw [HL.out]; exact Nat.le_refl _), numG_four HL.out])
      rw [show ((4 : Nat) : Int) = 4 from rfl]
      go_wp2_with fail
      go_ret
      exact ⟨ret1 (by rw [hf.out]), hB.out⟩
end Go.Proofs.YteejldddgogbkaaDoor
/- A table's parts, read: the foot, a piece of the index, the filter. -/
set_option linter.unusedVariables false
set_option maxRecDepth 100000
namespace Go.Proofs.YteejldddgogbkaaDoor
open Go.RowKit

/-- A variable of three cells. -/
def C3 (b : Nat) (ty : TypeId) (v0 v1 v2 : Value) (w : World) : Prop := w.heap[b]? = some (.cells #[v0, v1, v2] ty (0, 0))
namespace C3
variable {b : Nat} {ty : TypeId} {v0 v1 v2 : Value} {w w' : World}
theorem c0 (h : C3 b ty v0 v1 v2 w) : w.cell? ⟨b, 0, none⟩ = some v0 := by unfold C3 at h; simp [World.cell?, h]
theorem c1 (h : C3 b ty v0 v1 v2 w) : w.cell? ⟨b, 1, none⟩ = some v1 := by unfold C3 at h; simp [World.cell?, h]
theorem c2 (h : C3 b ty v0 v1 v2 w) : w.cell? ⟨b, 2, none⟩ = some v2 := by unfold C3 at h; simp [World.cell?, h]
theorem free (h : C3 b ty v0 v1 v2 w) (j : Nat) : w.frozen? ⟨b, j, none⟩ = false := by unfold C3 at h; simp [World.frozen?, h]
theorem below (h : C3 b ty v0 v1 v2 w) (k : Below w.heap.size w w') : C3 b ty v0 v1 v2 w' := (k.block b (heap_lt h)).trans h
theorem put (h : C3 b ty v0 v1 v2 w) (u0 u1 u2 : Value) : C3 b ty u0 u1 u2 (((w.setCell ⟨b, 0, none⟩ u0).setCell ⟨b, 1, none⟩ u1).setCell ⟨b, 2, none⟩ u2) := by
  have h1 := heap_set (o := 0) h u0
  have h2 := heap_set (o := 1) h1 u1
  exact heap_set (o := 2) h2 u2
theorem range (h : C3 b ty v0 v1 v2 w) : w.rangeAt b 0 [v0, v1, v2] := fun j v hj => by
  match j, hj with
  | 0, hj => cases hj; exact h.c0
  | 1, hj => cases hj; exact h.c1
  | 2, hj => cases hj; exact h.c2
  | n + 3, hj => cases hj
end C3
theorem results_c3 {fn : Func} {p u : Tmp} {ty ty' : TypeId} (h : fn.results = #[.cell p ty, .tmp u]) (tmps : Array Value) (w : World) (b : Nat) (v0 v1 v2 x : Value) (d : TypeDesc) (hp : tmps.getD p undef = .pointer (some ⟨b, 0, none⟩)) (hx : tmps.getD u undef = x) (hc : C3 b ty' v0 v1 v2 w)
    (hu : Tryd.prog.underlying ty = some d) (hd : d.isRow = true) (hi : (Tryd.prog.info? ty).map (·.size) = some 3) : (results fn tmps).run Tryd.prog w = .ok (.tuple #[.agg #[v0, v1, v2], x]) w :=
  results_cell_bool h tmps Tryd.prog w b 0 [v0, v1, v2] d x hp hx hc.range hu hd hi
theorem results_c3b {fn : Func} {p u r : Tmp} {ty ty' : TypeId} (h : fn.results = #[.cell p ty, .tmp u, .tmp r]) (tmps : Array Value) (w : World) (b : Nat) (v0 v1 v2 x y : Value) (d : TypeDesc) (hp : tmps.getD p undef = .pointer (some ⟨b, 0, none⟩)) (hx : tmps.getD u undef = x) (hy : tmps.getD r undef = y) (hc : C3 b ty' v0 v1 v2 w)
    (hu : Tryd.prog.underlying ty = some d) (hd : d.isRow = true) (hi : (Tryd.prog.info? ty).map (·.size) = some 3) : (results fn tmps).run Tryd.prog w = .ok (.tuple #[.agg #[v0, v1, v2], x, y]) w := by
  have hl := run_loadVar_mid w b 0 ty [v0, v1, v2] d hc.range hu hd hi
  have hp' : tmps[p]?.getD undef = .pointer (some ⟨b, 0, none⟩) := by simpa using hp
  have hx' : tmps[u]?.getD undef = x := by simpa using hx
  have hy' : tmps[r]?.getD undef = y := by simpa using hy
  simp only [results, h]
  simp [Sem.run_bind, Result.andThen, hp', hx', hy', asAddr, hl]
theorem below_put3' {B g : Nat} {a w : World} (h : Below B a w) (hB : B ≤ g) (v0 v1 v2 : Value) : Below B a (((w.setCell ⟨g, 0, none⟩ v0).setCell ⟨g, 1, none⟩ v1).setCell ⟨g, 2, none⟩ v2) :=
  ((h.setCell (p := ⟨g, 0, none⟩) hB v0).setCell (p := ⟨g, 1, none⟩) hB v1).setCell (p := ⟨g, 2, none⟩) hB v2
theorem sizeFoot : (Tryd.prog.info? 59).map (·.size) = some 3 := by kernel_rfl
theorem sizePiece : (Tryd.prog.info? 107).map (·.size) = some 3 := by kernel_rfl
theorem sizeEnt : (Tryd.prog.info? 38).map (·.size) = some 3 := by kernel_rfl
def fv3 (a b c : Nat) : Value := .agg #[.int .i64 (a : Int), .int .i64 (b : Int), .int .i64 (c : Int)]
theorem num4_lt (l : List UInt8) : num4 l < 4294967296 := by
  unfold num4
  split
  · rename_i a b c d _
    have := a.toNat_lt; have := b.toNat_lt; have := c.toNat_lt; have := d.toNat_lt
    omega
  · omega
theorem num4_take (l : List UInt8) : num4 (l.take 4) = num4 l := by
  match l with
  | [] => rfl
  | [_] => rfl
  | [_, _] => rfl
  | [_, _, _] => rfl
  | a :: b :: c :: d :: t => rfl
theorem takeT_twelve {s : List UInt8} (hl : s.length = 16) (h : takeE s = 0) : (takeT s).length = 12 := by
  unfold takeE at h
  rw [if_neg (by omega)] at h
  have hk : okT s := by
    by_cases hk : okT s
    · exact hk
    · rw [if_neg hk] at h; cases h
  unfold takeT
  rw [if_pos ⟨by omega, hk⟩, List.length_take]
  omega
set_option maxHeartbeats 2000000 in
theorem readFoot_no (n F : Nat) (c : Array Value) (K : List (Nat × Obj)) (d z : Int) (L : List UInt8) (w : World) (hs : Hid (Src F c K d L)) (hk : Hid (Keep K w)) (hn : n + 16 = L.length) (hl : L.length ≤ 9223372036854775807) (hz : Hid (d ≠ 0 ∧ z = d ∨ d = 0 ∧ takeE (L.drop n) = z ∧ z ≠ 0)) :
    Calls Tryd.prog 32 #[.int .i64 (n : Int), srcV F c] w fun e w' => e = .returned (.tuple #[fv3 0 0 0, .int .i64 z]) ∧ Below w.heap.size w w' := by
  obtain ⟨w1, hw1⟩ : ∃ w1, w1 = w.alloc (.cells #[.int .i64 0, .int .i64 0, .int .i64 0] 59) := ⟨_, rfl⟩
  have K1 := Lib.hid (show Below w.heap.size w w1 by rw [hw1]; exact (Below.refl _ _).alloc (Nat.le_refl _) _)
  have C1 := Lib.hid (show C3 w.heap.size 59 (.int .i64 0) (.int .i64 0) (.int .i64 0) w1 by rw [hw1]; exact heap_new w _)
  have HC := Lib.hid (hs.out.calls w1 (hk.out.below K1.out) n 16 (by omega))
  have eF := hs.out.enters
  have HW1 := Lib.hid hw1
  have hz0 : (z == 0) = false := beq_eq_false_iff_ne.2 (by rcases hz.out with ⟨h1, h2⟩ | ⟨_, _, h2⟩; (rw [h2]; exact h1); (exact h2))
  unfold Enters at eF
  unfold srcV fv3
  clear hw1
  rcases hz.out with ⟨hd, rfl⟩ | ⟨rfl, htk, hzn⟩
  · have hC := HC.out
    rw [if_neg hd] at hC
    clear HC hz
    go_enter Tryd.func32, Tryd.ntmps32
    go_upto_region 1 with (fail)
    rw [← HW1.out]
    go_wp2_with fail
    refine hC.mono ?_
    rintro e w2 ⟨rfl, k2⟩
    have c2 := C1.out.below k2
    have q0 := c2.c0
    have q1 := c2.c1
    have q2 := c2.c2
    have qf := c2.free
    have C2 := Lib.hid c2
    have K2 := Lib.hid (K1.out.trans (k2.mono K1.out.size))
    clear k2 c2 hC eF
    go_wp2_with fail
    refine bodyPost_ret (results_c3 rfl _ _ w.heap.size _ _ _ _ _ rfl rfl (C2.out.put _ _ _) Tryd.underlying59 rfl sizeFoot) rfl ?_
    exact ⟨rfl, below_put3' K2.out (Nat.le_refl _) _ _ _⟩
  · have hC := HC.out
    rw [if_pos rfl] at hC
    obtain ⟨s, hs'⟩ : ∃ s, s = (L.drop n).take 16 := ⟨_, rfl⟩
    have hse : s = L.drop n := by rw [hs']; exact List.take_of_length_le (by rw [List.length_drop]; omega)
    rw [← hs'] at hC
    have htk2 := fun W => crc_Take (bs s) W (by rw [bs_size, hse, List.length_drop]; omega)
    simp only [bs_list] at htk2
    rw [hse, htk, ← hse] at htk2
    have HT := Lib.hid htk2
    clear HC hz hs' hse htk htk2
    go_enter Tryd.func32, Tryd.ntmps32
    go_upto_region 1 with (fail)
    rw [← HW1.out]
    go_wp2_with fail
    refine hC.mono ?_
    rintro e w2 ⟨rfl, k2⟩
    have C2 := Lib.hid (C1.out.below k2)
    have K2 := Lib.hid (K1.out.trans (k2.mono K1.out.size))
    clear k2 hC eF
    go_wp2_with fail
    refine (HT.out w2).mono ?_
    rintro e w3 ⟨rfl, k3⟩
    have c3 := C2.out.below k3
    have q0 := c3.c0
    have q1 := c3.c1
    have q2 := c3.c2
    have qf := c3.free
    have C3' := Lib.hid c3
    have K3 := Lib.hid (K2.out.trans (k3.mono K2.out.size))
    clear k3 c3
    go_wp2_with fail
    refine bodyPost_ret (results_c3 rfl _ _ w.heap.size _ _ _ _ _ rfl rfl (C3'.out.put _ _ _) Tryd.underlying59 rfl sizeFoot) rfl ?_
    exact ⟨rfl, below_put3' K3.out (Nat.le_refl _) _ _ _⟩
end Go.Proofs.YteejldddgogbkaaDoor
