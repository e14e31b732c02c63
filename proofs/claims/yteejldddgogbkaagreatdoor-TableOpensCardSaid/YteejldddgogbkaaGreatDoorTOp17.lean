/- Texts put together: TableOpenPlain, TableBlockPlain, TableGetPlain, TableRefFrom, TableRefBlock, TableScanPlain, TableSpoilPlain, TableSpoiltPlain, TableMem -/
import Derived.Test.YteejldddgogbkaaGreatDoorTOp16
import Derived.Test.YteejldddgogbkaaGreatDoorTOp02
import Derived.Test.YteejldddgogbkaaGreatDoorTOp09
import Derived.Test.YteejldddgogbkaaGreatDoorTOp05
import Derived.Test.YteejldddgogbkaaGreatDoorTOp14
import Derived.Test.YteejldddgogbkaaGreatDoorTOp07
import Derived.Test.YteejldddgogbkaaGreatDoorTOp00
/- A table opened, in plain words. -/
set_option linter.unusedVariables false
set_option maxRecDepth 100000
namespace Go.Proofs.YteejldddgogbkaaGreatDoor
open Go.RowKit

def num4 : List UInt8 → Nat
  | a :: b :: c :: d :: _ => ((a.toNat * 256 + b.toNat) * 256 + c.toNat) * 256 + d.toNat
  | _ => 0
theorem num4_four {x : Nat} (h : x < 4294967296) (t : List UInt8) : num4 (four x ++ t) = x := by
  show ((((UInt8.ofNat (x / 16777216)).toNat * 256 + (UInt8.ofNat (x / 65536)).toNat) * 256 + (UInt8.ofNat (x / 256)).toNat) * 256 + (UInt8.ofNat x).toNat) = x
  simp only [UInt8.toNat_ofNat']
  omega
structure Tab where
  bytes : List UInt8
  index : List Ent
  places : List (Nat × Nat)
  h : Nat
  bits : List UInt8
  count : Nat
def noTab : Tab := ⟨[], [], [], 0, [], 0⟩
def openTab (s : List UInt8) : Int × Tab :=
  if s.length < 16 then (2, noTab) else
  let n := s.length - 16
  if takeE (s.drop n) ≠ 0 then (takeE (s.drop n), noTab) else
  let f := takeT (s.drop n)
  let a := num4 f
  let b := num4 (f.drop 4)
  if b < a ∨ n < b then (3, noTab) else
  let o := opnS ((s.take b).drop a)
  if o.1 ≠ 0 then (o.1, noTab) else
  let p := placesL a 0 o.2
  if p.1 ≠ 0 then (p.1, noTab) else
  let c := num4 (f.drop 8)
  if o.2.isEmpty = true ∧ 0 < c ∨ o.2.isEmpty = false ∧ c = 0 then (3, noTab) else
  if takeE ((s.take n).drop b) ≠ 0 then (takeE ((s.take n).drop b), noTab) else
  let q := takeT ((s.take n).drop b)
  if openE q ≠ 0 then (openE q, noTab) else
  (0, ⟨s, o.2, p.2, openH q, openT q, c⟩)
theorem take_crcd (l : List UInt8) : takeE (crcd l) = 0 ∧ takeT (crcd l) = l := take_put l
/-- A table that was built is opened as what it was built of. -/
theorem open_tab {each per : Nat} {T : List Ent} (h1 : 1 ≤ each) (h2 : each ≤ 256) (h3 : 1 ≤ per) (h4 : per ≤ 32) (hl : T.length ≤ 3001) (hT : chkE T = 0) :
    openTab (tabB each per T) = (0, ⟨tabB each per T, idxs 0 (chunks each T), offs 0 (chunks each T), hashesOf per, bytesOf (made (hashesOf per) (wordsOf per T.length * 64) (T.map (·.key))) (wordsOf per T.length * 8), T.length⟩) := by
  obtain ⟨hok, _⟩ := (chkE_ok T).1 hT
  have hsm := smallE_of hok
  have hr := (rises_of_okEs true [] hok).1
  obtain ⟨hfl, hcn⟩ := chunks_all (k := each) (by omega) T
  obtain ⟨C, hC⟩ : ∃ C, C = chunks each T := ⟨_, rfl⟩
  rw [← hC] at hfl hcn
  have hcs : ∀ c ∈ C, smallE c ∧ 1 ≤ c.length ∧ c.length ≤ 65536 := fun c hc => ⟨fun x hx => hsm x (by rw [← hfl]; exact List.mem_flatten.2 ⟨c, hc, hx⟩), (hcn c hc).1, by have := (hcn c hc).2; omega⟩
  have hbl := blks_len C hcs
  rw [hfl] at hbl
  have hix := idxs_ok (C := C) (by rw [hfl]; exact hr) hcs (by omega) (by omega)
  have hop := opnS_blk hix
  have hpl := places_idxs (a := (blksB C).length) (by omega) C 0 (by omega)
  have hxs := idxs_small C 0 hcs (by omega)
  have hYl := blkB_len hxs (by rw [idxs_len]; omega)
  rw [idxs_len] at hYl
  have hem : (idxs 0 C).isEmpty = T.isEmpty := by
    cases C with
    | nil => rw [← hfl]; rfl
    | cons c C =>
      have hc := hcs c (by simp)
      rw [← hfl]
      cases c with
      | nil => simp at hc
      | cons x c => rfl
  obtain ⟨F, hF⟩ : ∃ F, F = filB per T := ⟨_, rfl⟩
  have hw : 1 ≤ wordsOf per T.length := wordsOf_pos per T.length
  have hh8 := hashesOf_le per
  have hof := open_pack (h := hashesOf per) (L := bytesOf (made (hashesOf per) (wordsOf per T.length * 64) (T.map (·.key))) (wordsOf per T.length * 8)) hh8.1 hh8.2 (by
    intro h; have := congrArg List.length h; rw [bytesOf_len] at this; simp at this; omega) (by rw [bytesOf_len]; omega) (by
    rw [bytesOf_len]
    have := Nat.mul_le_mul h4 (show T.length ≤ 65536 by omega)
    unfold wordsOf
    omega)
  rw [show packF (hashesOf per) (bytesOf (made (hashesOf per) (wordsOf per T.length * 64) (T.map (·.key))) (wordsOf per T.length * 8)) = F from hF.symm] at hof
  have hfol : (filB per T).length ≤ 300000 := filB_len h3 h4 (by omega)
  rw [← hF] at hfol
  have htab : tabB each per T = blksB C ++ blkB (idxs 0 C) ++ crcd F ++ crcd (footB (blksB C).length ((blksB C).length + (blkB (idxs 0 C)).length) T.length) := by unfold tabB tabC; rw [← hC, ← hF]
  rw [htab]
  obtain ⟨X, hX⟩ : ∃ X, X = idxs 0 C := ⟨_, rfl⟩
  rw [← hX] at hop hpl hYl hem ⊢
  obtain ⟨S, hS⟩ : ∃ S, S = blksB C := ⟨_, rfl⟩
  rw [← hS] at hpl hbl ⊢
  obtain ⟨Y, hY⟩ : ∃ Y, Y = blkB X := ⟨_, rfl⟩
  rw [← hY] at hop hYl ⊢
  obtain ⟨E, hE⟩ : ∃ E, E = footB S.length (S.length + Y.length) T.length := ⟨_, rfl⟩
  have hEl : E.length = 12 := by rw [hE]; rfl
  have e0 : num4 E = S.length := by rw [hE]; unfold footB; rw [List.append_assoc]; exact num4_four (by omega) _
  have e1 : num4 (E.drop 4) = S.length + Y.length := by rw [hE]; exact num4_four (x := S.length + Y.length) (by omega) (four T.length)
  have e2 : num4 (E.drop 8) = T.length := by rw [hE]; have := num4_four (x := T.length) (by omega) []; rwa [List.append_nil] at this
  rw [← hE]
  obtain ⟨R, hR⟩ : ∃ R, R = S ++ Y ++ crcd F := ⟨_, rfl⟩
  have hlen : (S ++ Y ++ crcd F ++ crcd E).length = R.length + 16 := by rw [← hR, List.length_append, crcd_len, hEl]
  have d0 : (S ++ Y ++ crcd F ++ crcd E).drop R.length = crcd E := by rw [← hR, List.drop_left]
  have d1 : (S ++ Y ++ crcd F ++ crcd E).take R.length = R := by rw [← hR, List.take_left]
  have d2 : ((S ++ Y ++ crcd F ++ crcd E).take (S.length + Y.length)).drop S.length = Y := by
    rw [List.append_assoc (S ++ Y), ← List.length_append, List.take_left, List.drop_left]
  have d3 : R.drop (S.length + Y.length) = crcd F := by rw [hR, ← List.length_append, List.drop_left]
  have hRl : S.length + Y.length ≤ R.length := by rw [hR, List.length_append, List.length_append]; omega
  unfold openTab
  simp only [hlen, Nat.add_sub_cancel, d0, d1, (take_crcd E).1, (take_crcd E).2, e0, e1, e2, d2, d3, hop, hpl, (take_crcd F).1, (take_crcd F).2, hof.1, hof.2.1, hof.2.2, hem]
  rw [if_neg (by omega), if_neg (by simp), if_neg (by omega), if_neg (by simp), if_neg (by simp), if_neg (by
    cases T with
    | nil => simp
    | cons x T => simp), if_neg (by simp), if_neg (by simp)]
  rw [hX, hC]
end Go.Proofs.YteejldddgogbkaaGreatDoor
/- A table's blocks, in plain words. -/
set_option linter.unusedVariables false
set_option maxRecDepth 100000
namespace Go.Proofs.YteejldddgogbkaaGreatDoor
open Go.RowKit

/-- A block's entries, or the error. -/
def blockT (t : Tab) (i : Nat) : Int × List Ent :=
  let p := t.places.getD i (0, 0)
  let o := opnS ((t.bytes.drop p.1).take p.2)
  if o.1 ≠ 0 then (o.1, []) else
  if o.2.isEmpty = true ∨ keyE o.2 ≠ ((t.index.map (·.key)).getD i []) then (3, []) else (0, o.2)
theorem offs_at : ∀ (C : List (List Ent)) (n i : Nat) (c : List Ent), C[i]? = some c → (offs n C)[i]? = some (n + (blksB (C.take i)).length, (blkB c).length)
  | [], _, _, _, h => by simp at h
  | d :: C, n, 0, c, h => by
    injection h with h
    subst h
    simp [offs, blksB]
  | d :: C, n, i + 1, c, h => by
    have ih := offs_at C (n + (blkB d).length) i c (by simpa using h)
    simp only [offs, List.getElem?_cons_succ, ih, List.take_succ_cons]
    simp [blksB, Nat.add_assoc]
theorem idxs_at : ∀ (C : List (List Ent)) (n i : Nat) (c : List Ent), C[i]? = some c → ((idxs n C).map (·.key))[i]? = some (keyE c)
  | [], _, _, _, h => by simp at h
  | d :: C, n, 0, c, h => by
    injection h with h
    subst h
    simp [idxs, idxE]
  | d :: C, n, i + 1, c, h => by
    have ih := idxs_at C (n + (blkB d).length) i c (by simpa using h)
    simpa [idxs] using ih
theorem blks_at (R : List UInt8) : ∀ (C : List (List Ent)) (i : Nat) (c : List Ent), C[i]? = some c → ((blksB C ++ R).drop (blksB (C.take i)).length).take (blkB c).length = blkB c
  | [], _, _, h => by simp at h
  | d :: C, 0, c, h => by
    injection h with h
    subst h
    simp [blksB]
  | d :: C, i + 1, c, h => by
    have ih := blks_at R C i c (by simpa using h)
    have e1 : blksB (d :: C) ++ R = blkB d ++ (blksB C ++ R) := by simp [blksB]
    have e2 : (blksB ((d :: C).take (i + 1))).length = (blkB d).length + (blksB (C.take i)).length := by simp [blksB]
    rw [e1, e2, ← List.drop_drop, List.drop_left, ih]
/-- A block of a table that was built. -/
theorem block_built {C : List (List Ent)} {R : List UInt8} {h : Nat} {bits : List UInt8} {n i : Nat} {c : List Ent} (hr : okEs true [] C.flatten) (hcs : ∀ d ∈ C, 1 ≤ d.length ∧ d.length ≤ 65536) (hi : C[i]? = some c) :
    blockT ⟨blksB C ++ R, idxs 0 C, offs 0 C, h, bits, n⟩ i = (0, c) := by
  have hm : c ∈ C := List.mem_of_getElem? hi
  have hrs := (rises_of_okEs true [] hr).1
  have hsub : c.Sublist C.flatten := List.sublist_flatten_of_mem hm
  have hrc : rises c := by
    have : ∀ {D : List (List Ent)}, rises D.flatten → ∀ d ∈ D, rises d := by
      intro D
      induction D with
      | nil => intro _ d hd; cases hd
      | cons e D ih =>
        intro h d hd
        rw [List.flatten_cons] at h
        obtain ⟨a, b, _⟩ := rises_app h
        rcases List.mem_cons.1 hd with rfl | hd
        · exact a
        · exact ih b d hd
    exact this hrs c hm
  have hall : ∀ {f : Bool} {l : List UInt8} {T : List Ent}, okEs f l T → ∀ x ∈ T, x.key.length ≤ 65536 ∧ x.val.length ≤ 65536 ∧ (x.gone = true → x.val = []) := by
    intro f l T
    induction T generalizing f l with
    | nil => intro _ x hx; cases hx
    | cons y T ih =>
      intro h x hx
      rcases List.mem_cons.1 hx with rfl | hx
      · exact ⟨h.1.1, h.1.2.1, h.1.2.2.1⟩
      · exact ih h.2 x hx
  have hck : chkE c = 0 := (chkE_ok c).2 ⟨okEs_of_rises true [] hrc (fun x hx => hall hr x (hsub.subset hx)) (fun hf => by cases hf), (hcs c hm).2⟩
  have h1 := offs_at C 0 i c hi
  have h2 := idxs_at C 0 i c hi
  have h3 := blks_at R C i c hi
  unfold blockT
  simp only [List.getD_eq_getElem?_getD, h1, h2, Option.getD_some, Nat.zero_add, h3, opnS_blk hck]
  rw [if_neg (by simp), if_neg (by
    have := (hcs c hm).1
    cases c with
    | nil => simp at this
    | cons x c => simp)]
end Go.Proofs.YteejldddgogbkaaGreatDoor
/- What a table answers of a key, in plain words. -/
set_option linter.unusedVariables false
set_option maxRecDepth 100000
namespace Go.Proofs.YteejldddgogbkaaGreatDoor
open Go.RowKit

/-- The last of rising keys that isn't above k, counted from 1; 0: there is none. -/
def fromN (k : List UInt8) : List (List UInt8) → Nat
  | [] => 0
  | y :: Y => if fromN k Y ≠ 0 then fromN k Y + 1 else if ltB k y then 0 else 1
theorem fromN_cons (k y : List UInt8) (Y : List (List UInt8)) : fromN k (y :: Y) = if fromN k Y ≠ 0 then fromN k Y + 1 else if ltB k y then 0 else 1 := rfl
theorem fromN_le (k : List UInt8) : ∀ Y : List (List UInt8), fromN k Y ≤ Y.length
  | [] => Nat.le_refl _
  | y :: Y => by
    have := fromN_le k Y
    simp only [fromN, List.length_cons]
    split
    · omega
    · split <;> omega
theorem from_none {k : List UInt8} : ∀ {Y : List (List UInt8)}, fromN k Y = 0 → ∀ y ∈ Y, ltB k y = true
  | [], _, _, h => by cases h
  | z :: Y, h, y, hy => by
    simp only [fromN] at h
    split at h
    · omega
    · rename_i h0
      split at h
      · rename_i h1
        rcases List.mem_cons.1 hy with rfl | hy
        · exact h1
        · exact from_none (Nat.eq_zero_of_not_pos (by omega)) y hy
      · omega
theorem from_some {k : List UInt8} : ∀ {Y : List (List UInt8)}, fromN k Y ≠ 0 → ∃ y ∈ Y, ltB k y = false
  | [], h => absurd rfl h
  | z :: Y, h => by
    simp only [fromN] at h
    split at h
    · rename_i h0
      obtain ⟨y, hy, e⟩ := from_some h0
      exact ⟨y, by simp [hy], e⟩
    · split at h
      · exact absurd rfl h
      · rename_i h1
        exact ⟨z, by simp, by simpa using h1⟩
def isKey (k : List UInt8) (x : Ent) : Bool := decide (x.key = k)
/-- Where a key stands in no other part than the one from which it would be told. -/
theorem find_from {k : List UInt8} : ∀ {C : List (List Ent)}, rises C.flatten → (∀ c ∈ C, 1 ≤ c.length) →
    C.flatten.find? (isKey k) = if fromN k (C.map keyE) = 0 then none else (C.getD (fromN k (C.map keyE) - 1) []).find? (isKey k)
  | [], _, _ => by simp [fromN]
  | c :: D, h, hc => by
    rw [List.flatten_cons] at h
    obtain ⟨ha, hb, hab⟩ := rises_app h
    have ih := find_from (k := k) hb fun d hd => hc d (by simp [hd])
    rw [List.flatten_cons, List.find?_append, ih]
    obtain ⟨m, hm⟩ : ∃ m, m = fromN k (D.map keyE) := ⟨_, rfl⟩
    rw [List.map_cons, fromN_cons, ← hm]
    by_cases h0 : m = 0
    · subst h0
      rw [if_pos (show (0 : Nat) = 0 from rfl), if_neg (show ¬ (0 : Nat) ≠ 0 by decide)]
      simp only [Option.or_none]
      by_cases h1 : ltB k (keyE c) = true
      · rw [if_pos h1, if_pos (show (0 : Nat) = 0 from rfl), List.find?_eq_none]
        intro y hy
        cases c with
        | nil => cases hy
        | cons x c =>
          simp only [isKey, decide_eq_true_eq]
          rintro rfl
          rcases List.mem_cons.1 hy with rfl | hy
          · rw [show keyE (y :: c) = y.key from rfl, ltB_irrefl] at h1; cases h1
          · have := ltB_asymm (ha.1 y hy)
            rw [show keyE (x :: c) = x.key from rfl, this] at h1
            cases h1
      · rw [if_neg h1, if_neg (show ¬ (1 : Nat) = 0 by decide)]
        simp
    · rw [if_neg h0, if_pos h0, if_neg (by omega)]
      obtain ⟨y, hy, e⟩ := from_some (k := k) (Y := D.map keyE) (by rw [← hm]; exact h0)
      obtain ⟨d, hd, rfl⟩ := List.mem_map.1 hy
      obtain ⟨z, hz, hkz⟩ := keyE_mem (hc d (by simp [hd]))
      have hn : c.find? (isKey k) = none := by
        rw [List.find?_eq_none]
        intro x hx
        simp only [isKey, decide_eq_true_eq]
        rintro rfl
        have := hab x hx z (List.mem_flatten.2 ⟨d, hd, hz⟩)
        rw [← hkz, e] at this
        cases this
      rw [hn, Option.none_or]
      obtain ⟨j, hj⟩ : ∃ j, m = j + 1 := ⟨m - 1, by omega⟩
      rw [hj]
      simp
/-- What a table answers of a key: the entry, whether there is one, the error, how many blocks were read. -/
def getT (t : Tab) (k : List UInt8) : Ent × Bool × Int × Nat :=
  let n := fromN k (t.index.map (·.key))
  if hasB t.h (t.bits.length * 8) (bitAt t.bits) k = false ∨ n = 0 then (⟨[], [], false⟩, false, 0, 0) else
  let b := blockT t (n - 1)
  match b.2.find? (isKey k) with
  | some x => (x, true, 0, 1)
  | none => (⟨[], [], false⟩, false, b.1, 1)
theorem idxs_keys : ∀ (C : List (List Ent)) (n : Nat), (idxs n C).map (·.key) = C.map keyE
  | [], _ => rfl
  | c :: C, n => by simp [idxs, idxE, idxs_keys C]
/-- What a table that was built answers of a key. -/
theorem get_built {C : List (List Ent)} {T : List Ent} {R : List UInt8} {h m n : Nat} {k : List UInt8} (hT : C.flatten = T) (hr : okEs true [] T) (hcs : ∀ d ∈ C, 1 ≤ d.length ∧ d.length ≤ 65536) (hm : 0 < m) :
    ∃ r, r ≤ 1 ∧ ((T.find? (isKey k)).isSome = true → r = 1) ∧
      getT ⟨blksB C ++ R, idxs 0 C, offs 0 C, h, bytesOf (made h (m * 64) (T.map (·.key))) (m * 8), n⟩ k = ((T.find? (isKey k)).getD ⟨[], [], false⟩, (T.find? (isKey k)).isSome, 0, r) := by
  subst hT
  have hff := find_from (k := k) (rises_of_okEs true [] hr).1 fun c hc => (hcs c hc).1
  have hhas : hasB h (m * 8 * 8) (bitAt (bytesOf (made h (m * 64) (C.flatten.map (·.key))) (m * 8))) k = hasB h (m * 64) (made h (m * 64) (C.flatten.map (·.key))) k := by
    have e8 : m * 8 * 8 = m * 64 := by omega
    rw [e8]
    unfold hasB
    rw [Bool.eq_iff_iff, List.all_eq_true, List.all_eq_true]
    have hb := fun x (hx : x ∈ nos h (m * 64) k) => bitAt_bytesOf (made h (m * 64) (C.flatten.map (·.key))) (m * 8) x (by have := nos_lt (by omega) hx; omega)
    exact ⟨fun H x hx => by rw [← hb x hx]; exact H x hx, fun H x hx => by rw [hb x hx]; exact H x hx⟩
  unfold getT
  simp only [bytesOf_len, hhas, idxs_keys]
  by_cases hh : hasB h (m * 64) (made h (m * 64) (C.flatten.map (·.key))) k = false
  · rw [if_pos (.inl hh)]
    have hn : C.flatten.find? (isKey k) = none := by
      rw [List.find?_eq_none]
      intro x hx
      simp only [isKey, decide_eq_true_eq]
      rintro rfl
      rw [has_made (List.mem_map.2 ⟨x, hx, rfl⟩)] at hh
      cases hh
    rw [hn]
    exact ⟨0, by omega, fun h => (by cases h), rfl⟩
  · by_cases h0 : fromN k (C.map keyE) = 0
    · rw [if_pos (.inr h0), hff, if_pos h0]
      exact ⟨0, by omega, fun h => (by cases h), rfl⟩
    · rw [if_neg (fun e => e.elim hh h0)]
      have hle := fromN_le k (C.map keyE)
      rw [List.length_map] at hle
      have hlt : fromN k (C.map keyE) - 1 < C.length := by omega
      have hg := List.getElem?_eq_getElem hlt
      have hb := block_built (R := R) (h := h) (bits := bytesOf (made h (m * 64) (C.flatten.map (·.key))) (m * 8)) (n := n) hr hcs hg
      rw [hb]
      rw [if_neg h0, List.getD_eq_getElem?_getD, hg, Option.getD_some] at hff
      rw [hff]
      refine ⟨1, Nat.le_refl _, fun _ => rfl, ?_⟩
      cases C[fromN k (C.map keyE) - 1].find? (isKey k) <;> rfl
end Go.Proofs.YteejldddgogbkaaGreatDoor
/- The document's table by value; in which block a key would stand. -/
set_option linter.unusedVariables false
set_option maxRecDepth 100000
namespace Go.Proofs.YteejldddgogbkaaGreatDoor
open Go.RowKit

/-- The document's table. -/
def mV (s : List UInt8) (ia : Option Addr) (il ic : Nat) (aa : Option Addr) (al ac : Nat) (sa : Option Addr) (sl sc : Nat) (h g N cap : Nat) (count : Int) : Value :=
  .agg #[.string (bs s), .slice ia il ic, .slice aa al ac, .slice sa sl sc, .int .i64 (h : Int), .slice (some ⟨g, 0, none⟩) N cap, .int .i64 count]
theorem from_snoc (k y : List UInt8) : ∀ Y : List (List UInt8), fromN k (Y ++ [y]) = if ltB k y then fromN k Y else Y.length + 1
  | [] => by simp [fromN]
  | z :: Y => by
    rw [List.cons_append, fromN_cons, fromN_cons, from_snoc k y Y]
    by_cases h : ltB k y = true
    · simp [h]
    · simp [h]
set_option maxHeartbeats 2000000 in
theorem ref_from (s : List UInt8) (ia : Option Addr) (il ic : Nat) (aa : Option Addr) (al ac : Nat) (sa : Option Addr) (sl sc : Nat) (h g N cap : Nat) (count : Int) (X : List Ent) (key : List UInt8) (w : World) (hX : Hid (IsE w ia il X)) (hl : il ≤ 100000) :
    Calls Tryz.prog 51 #[mV s ia il ic aa al ac sa sl sc h g N cap count, .string (bs key)] w fun e w' => e = .returned (.int .i64 ((fromN key (X.map (·.key)) : Int) - 1)) ∧ Below w.heap.size w w' := by
  obtain ⟨w1, hw1⟩ : ∃ w1, w1 = w.alloc (.cells #[.string (bs s), .slice ia il ic, .slice aa al ac, .slice sa sl sc, .int .i64 (h : Int), .slice (some ⟨g, 0, none⟩) N cap, .int .i64 count] 45) := ⟨_, rfl⟩
  have K1 := Lib.hid (show Below w.heap.size w w1 by rw [hw1]; exact (Below.refl _ _).alloc (Nat.le_refl _) _)
  have c1 := Lib.hid (show w1.cell? ⟨w.heap.size, 1, none⟩ = some (.slice ia il ic) by rw [hw1, World.cell?_alloc_mark]; rfl)
  have X1 := Lib.hid (hX.out.below K1.out)
  have HXL := Lib.hid hX.out.1
  have HW1 := Lib.hid hw1
  have S1 := Lib.hid (show w.heap.size < w1.heap.size by rw [hw1]; simp)
  clear hw1
  unfold mV
  go_enter Tryz.func51, Tryz.ntmps51
  go_upto_region 1 with (fail)
  rw [← HW1.out]
  go_wp2_with fail
  go_loopw [5, 6] (fun nv iv wr => ∃ i : Nat, i ≤ il ∧ iv = .int .i64 (i : Int) ∧ nv = .int .i64 ((fromN key ((X.take i).map (·.key)) : Int) - 1) ∧ wr = w1) (fun nv iv wr => il - (intOf iv).toNat)
  case atStart => exact ⟨0, by omega, rfl, rfl, rfl⟩
  case round =>
    obtain ⟨i, hi, rfl, rfl, rfl⟩ := hrel
    have d1 := c1.out
    rcases Nat.lt_or_ge i il with hlt | hge
    · obtain ⟨b, off, x, rfl, hx, -, hc⟩ := X1.out.at hlt
      have x0 := hc.c0
      have hlt2 : (i : Int) < (il : Int) := by omega
      have hle : Op.bytesLess (bs key).toList (bs x.key).toList = ltB key x.key := by rw [Lib.toList_data, Lib.toList_data, bs_list, bs_list, ltB_less]
      have htk : (X.take (i + 1)).map (·.key) = (X.take i).map (·.key) ++ [x.key] := by rw [List.take_add_one, hx, List.map_append]; rfl
      have hln : ((X.take i).map (·.key)).length = i := by rw [List.length_map, List.length_take]; have := HXL.out; omega
      have hfs : fromN key ((X.take (i + 1)).map (·.key)) = if ltB key x.key then fromN key ((X.take i).map (·.key)) else i + 1 := by rw [htk, from_snoc, hln]
      have HFS := Lib.hid hfs
      clear hfs htk hln hx
      have hless : Op.bytesLess (bs x.key).toList (bs key).toList = ltB x.key key := by rw [Lib.toList_data, Lib.toList_data, bs_list, bs_list, ltB_less]
      have heq : ((bs x.key).toList == (bs key).toList) = (x.key == key) := by rw [Lib.toList_data, Lib.toList_data, bs_list, bs_list]
      clear hle
      by_cases hb : ltB key x.key = true
      · have h1 : ltB x.key key = false := ltB_asymm hb
        have h2 : (x.key == key) = false := by simpa using fun e : x.key = key => by rw [e, ltB_irrefl] at hb; cases hb
        rw [h1] at hless
        rw [h2] at heq
        rw [if_pos hb] at HFS
        clear hb h1 h2
        go_wp2_with fail
        go_roundw
        case rel => exact ⟨i + 1, by omega, by go_num, by rw [HFS.out], trivial⟩
        case measure => simp [intOf]; omega
      · rw [if_neg hb] at HFS
        by_cases h1 : ltB x.key key = true
        · rw [h1] at hless
          clear hb h1
          go_wp2_with fail
          go_roundw
          case rel => exact ⟨i + 1, by omega, by go_num, by rw [HFS.out]; congr 1; omega, trivial⟩
          case measure => simp [intOf]; omega
        · have h2 : x.key = key := by rcases ltB_total x.key key with h | h | h; (exact absurd h h1); (exact h); (exact absurd h hb)
          have h3 : (x.key == key) = true := by simpa using h2
          rw [Bool.eq_false_iff.2 h1] at hless
          rw [h3] at heq
          clear hb h1 h2 h3
          go_wp2_with fail
          go_roundw
          case rel => exact ⟨i + 1, by omega, by go_num, by rw [HFS.out]; congr 1; omega, trivial⟩
          case measure => simp [intOf]; omega
    · obtain rfl : i = il := by omega
      go_wp2_with fail
      go_ret
      exact ⟨by rw [List.take_of_length_le (by have := HXL.out; omega)]; rfl, K1.out⟩
end Go.Proofs.YteejldddgogbkaaGreatDoor
/- The document's block of a table: its entries, or the error. -/
set_option linter.unusedVariables false
set_option maxRecDepth 100000
namespace Go.Proofs.YteejldddgogbkaaGreatDoor
open Go.RowKit

/-- A row of numbers that a slice tells. -/
def IsI (w : World) (a : Option Addr) (n : Nat) (P : List Nat) : Prop := n = P.length ∧ ∃ b off, (n = 0 ∨ a = some ⟨b, off, none⟩) ∧ ∀ k (h : k < P.length), b < w.heap.size ∧ w.cell? ⟨b, off + k, none⟩ = some (.int .i64 (P[k] : Int))
theorem IsI.below {w w' : World} {a : Option Addr} {n : Nat} {P : List Nat} (h : IsI w a n P) (k : Below w.heap.size w w') : IsI w' a n P := by
  obtain ⟨h1, b, off, h2, h3⟩ := h
  exact ⟨h1, b, off, h2, fun j hj => ⟨Nat.lt_of_lt_of_le (h3 j hj).1 k.size, by rw [k.cell (h3 j hj).1]; exact (h3 j hj).2⟩⟩
theorem IsI.at {w : World} {a : Option Addr} {n : Nat} {P : List Nat} (h : IsI w a n P) {k : Nat} (hk : k < n) : ∃ b off, a = some ⟨b, off, none⟩ ∧ b < w.heap.size ∧ w.cell? ⟨b, off + k, none⟩ = some (.int .i64 (P.getD k 0 : Int)) := by
  obtain ⟨h1, b, off, h2, h3⟩ := h
  have hp : k < P.length := by omega
  refine ⟨b, off, h2.resolve_left (by omega), (h3 k hp).1, ?_⟩
  rw [(h3 k hp).2, List.getD_eq_getElem?_getD, List.getElem?_eq_getElem hp]
  rfl
/-- What a block is, read: o. -/
def blkR (o : Int × List Ent) (k : List UInt8) : Int × List Ent := if o.1 ≠ 0 then (o.1, []) else if o.2.isEmpty = true ∨ keyE o.2 ≠ k then (3, []) else (0, o.2)
theorem blkR_t (t : Tab) (i : Nat) : blkR (opnS ((t.bytes.drop (t.places.getD i (0, 0)).1).take (t.places.getD i (0, 0)).2)) ((t.index.map (·.key)).getD i []) = blockT t i := rfl
theorem newE_at {w : World} {a : Option Addr} {n c : Nat} {z : Value} (h : NewE w (.returned (.tuple #[.slice a n c, z]))) (b off : Nat) (e : a = some ⟨b, off, none⟩) : w.heap.size ≤ b := by
  subst e
  exact h b off n c z rfl
/-- What the document's Block answers. -/
structure BlockPost (R : Int × List Ent) (w : World) (e : Ending) (w' : World) : Prop where
  out : ∃ a c, e = .returned (.tuple #[.slice a R.2.length c, .int .i64 R.1]) ∧ R.2.length ≤ c ∧ IsE w' a R.2.length R.2
  bel : Below w.heap.size w w'
  new : NewE w e
set_option maxHeartbeats 2000000 in
theorem ref_Block (s : List UInt8) (ia : Option Addr) (il ic : Nat) (aa : Option Addr) (al ac : Nat) (sa : Option Addr) (sl sc : Nat) (h g N cap : Nat) (count : Int) (X : List Ent) (A S : List Nat) (i : Nat) (w : World)
    (hX : Hid (IsE w ia il X)) (hA : Hid (IsI w aa al A)) (hS : Hid (IsI w sa sl S)) (hal : al = il) (hsl : sl = il) (hi : i < il) (hl : il ≤ 100000) (hb : Hid (A.getD i 0 + S.getD i 0 ≤ s.length)) (hs : s.length ≤ 100000000000) :
    Calls Tryz.prog 53 #[mV s ia il ic aa al ac sa sl sc h g N cap count, .int .i64 (i : Int)] w (BlockPost (blkR (opnS ((s.drop (A.getD i 0)).take (S.getD i 0))) ((X.map (·.key)).getD i [])) w) := by
  obtain ⟨w1, hw1⟩ : ∃ w1, w1 = w.alloc (.cells #[.string (bs s), .slice ia il ic, .slice aa al ac, .slice sa sl sc, .int .i64 (h : Int), .slice (some ⟨g, 0, none⟩) N cap, .int .i64 count] 45) := ⟨_, rfl⟩
  have K1 := Lib.hid (show Below w.heap.size w w1 by rw [hw1]; exact (Below.refl _ _).alloc (Nat.le_refl _) _)
  obtain ⟨Z, hZ⟩ : ∃ Z, Z = w.heap.size := ⟨_, rfl⟩
  have c0 := Lib.hid (show w1.cell? ⟨Z, 0, none⟩ = some (.string (bs s)) by rw [hw1, hZ, World.cell?_alloc_mark]; rfl)
  have c1 := Lib.hid (show w1.cell? ⟨Z, 1, none⟩ = some (.slice ia il ic) by rw [hw1, hZ, World.cell?_alloc_mark]; rfl)
  have c2 := Lib.hid (show w1.cell? ⟨Z, 2, none⟩ = some (.slice aa al ac) by rw [hw1, hZ, World.cell?_alloc_mark]; rfl)
  have c3 := Lib.hid (show w1.cell? ⟨Z, 3, none⟩ = some (.slice sa sl sc) by rw [hw1, hZ, World.cell?_alloc_mark]; rfl)
  have X1 := Lib.hid (hX.out.below K1.out)
  have A1 := Lib.hid (hA.out.below K1.out)
  have S1 := Lib.hid (hS.out.below K1.out)
  have HW1 := Lib.hid hw1
  have HZ := Lib.hid hZ
  have hZ1 := Lib.hid (show Z < w1.heap.size by rw [hw1, hZ]; simp)
  clear hw1 hZ
  subst hal hsl
  obtain ⟨ab, ao, rfl, hab, ha0⟩ := A1.out.at hi
  obtain ⟨sb, so, rfl, hsb, hs0⟩ := S1.out.at hi
  obtain ⟨p, hp⟩ : ∃ p, p = A.getD i 0 := ⟨_, rfl⟩
  obtain ⟨q, hq⟩ : ∃ q, q = S.getD i 0 := ⟨_, rfl⟩
  rw [← hp, ← hq] at hb
  rw [← hp] at ha0 ⊢
  rw [← hq] at hs0 ⊢
  have hps : p ≤ s.length := by have := hb.out; omega
  have hx1 : (bs s).extract p (bs s).size = bs (s.drop p) := rest_bs s p
  have hx2 : (bs (s.drop p)).extract 0 q = bs ((s.drop p).take q) := by
    have := (take_split (s := bs (s.drop p)) (n := q) (by rw [bs_size, List.length_drop]; have := hb.out; omega)).1
    rw [this, bs_list]
  obtain ⟨R, hR⟩ : ∃ R, R = blkR (opnS ((s.drop p).take q)) ((X.map (·.key)).getD i []) := ⟨_, rfl⟩
  rw [← hR]
  have HR := Lib.hid hR
  clear hR
  have hlt2 : (i : Int) < (sl : Int) := by omega
  have hge2 : (0 : Int) ≤ (i : Int) := by omega
  obtain ⟨r, hr⟩ : ∃ r, r = s.length - p := ⟨_, rfl⟩
  obtain ⟨m, hm⟩ : ∃ m, m = s.length := ⟨_, rfl⟩
  have hz1 : (bs s).size = m := by rw [bs_size, hm]
  have hz2 : (bs (s.drop p)).size = r := by rw [bs_size, List.length_drop, hr]
  have hqs : q ≤ r := by have := hb.out; omega
  have hpm : p ≤ m := by omega
  have hqI : (q : Int) ≤ (r : Int) := by omega
  have hpI : (p : Int) ≤ (m : Int) := by omega
  have hq0 : (0 : Int) ≤ (q : Int) := by omega
  have hp0 : (0 : Int) ≤ (p : Int) := by omega
  rw [hz1] at hx1
  have HKP := Lib.hid (show ∀ x1, Below w1.drew.heap.size w1.drew x1 → (x1.cell? ⟨Z, 0, none⟩ = some (.string (bs s)) ∧ x1.cell? ⟨Z, 2, none⟩ = some (.slice (some ⟨ab, ao, none⟩) sl ac) ∧ x1.cell? ⟨Z, 3, none⟩ = some (.slice (some ⟨sb, so, none⟩) sl sc) ∧ x1.cell? ⟨ab, ao + i, none⟩ = some (.int .i64 (p : Int)) ∧ x1.cell? ⟨sb, so + i, none⟩ = some (.int .i64 (q : Int))) ∧ x1.cell? ⟨Z, 1, none⟩ = some (.slice ia sl ic) ∧ IsE x1 ia sl X ∧ Below w.heap.size w x1 from fun x1 hB => by
    have h0 : Below w1.heap.size w1 w1.drew := (Below.refl _ _).drew
    have h2 : Below w1.heap.size w1 x1 := h0.trans (show Below w1.heap.size w1.drew x1 from hB)
    exact ⟨⟨by rw [h2.cell (p := ⟨Z, 0, none⟩) hZ1.out]; exact c0.out, by rw [h2.cell (p := ⟨Z, 2, none⟩) hZ1.out]; exact c2.out, by rw [h2.cell (p := ⟨Z, 3, none⟩) hZ1.out]; exact c3.out, by rw [h2.cell (p := ⟨ab, ao + i, none⟩) hab]; exact ha0, by rw [h2.cell (p := ⟨sb, so + i, none⟩) hsb]; exact hs0⟩,
      by rw [h2.cell (p := ⟨Z, 1, none⟩) hZ1.out]; exact c1.out, X1.out.below h2, K1.out.trans (h2.mono K1.out.size)⟩)
  have h1 := Lib.hid (ref_OpensN ((s.drop p).take q) w1.drew (by rw [List.length_take, List.length_drop]; omega))
  have HRM := Lib.hid (And.intro hr hm)
  have HDS := Lib.hid (show w.heap.size ≤ w1.drew.heap.size from K1.out.size)
  clear hr hm hps hp hq
  unfold mV
  go_enter Tryz.func53, Tryz.ntmps53
  go_upto_region 1 with (fail)
  rw [← HW1.out, ← HZ.out]
  have t0 := Lib.hid (show w1.drew.cell? ⟨Z, 0, none⟩ = some (.string (bs s)) ∧ w1.drew.cell? ⟨Z, 2, none⟩ = some (.slice (some ⟨ab, ao, none⟩) sl ac) ∧ w1.drew.cell? ⟨Z, 3, none⟩ = some (.slice (some ⟨sb, so, none⟩) sl sc) ∧ w1.drew.cell? ⟨ab, ao + i, none⟩ = some (.int .i64 (p : Int)) ∧ w1.drew.cell? ⟨sb, so + i, none⟩ = some (.int .i64 (q : Int)) from ⟨c0.out, c2.out, c3.out, ha0, hs0⟩)
  go_region_held3 (fun w' => w'.cell? ⟨Z, 0, none⟩ = some (.string (bs s)) ∧ w'.cell? ⟨Z, 2, none⟩ = some (.slice (some ⟨ab, ao, none⟩) sl ac) ∧ w'.cell? ⟨Z, 3, none⟩ = some (.slice (some ⟨sb, so, none⟩) sl sc) ∧ w'.cell? ⟨ab, ao + i, none⟩ = some (.int .i64 (p : Int)) ∧ w'.cell? ⟨sb, so + i, none⟩ = some (.int .i64 (q : Int)))
    (first | exact t0.out | exact t1.out)
    (first
    | (go_at_call 44; with_reducible refine h1.out.mono ?_; rintro en x1 ⟨⟨⟨a1, c1', rfl, hc1, hE1⟩, hB1⟩, hn1⟩; have HN1 := Lib.hid (show ∀ b off, a1 = some ⟨b, off, none⟩ → w.heap.size ≤ b from fun b off h => Nat.le_trans HDS.out (newE_at hn1 b off h)); clear hn1; have HB1 := Lib.hid (HKP.out x1 hB1); have HE1 := Lib.hid hE1; have t1 := Lib.hid HB1.out.1; clear hE1 hB1))
  obtain ⟨Y, hY⟩ : ∃ Y, Y = opnS ((s.drop p).take q) := ⟨_, rfl⟩
  rw [← hY] at HE1 hc1 HR ⊢
  obtain ⟨y, l⟩ := Y
  simp only at HE1 hc1 ⊢
  have b1 := Lib.hid HB1.out.2.1
  clear hY
  have b2 := Lib.hid HB1.out.2.2.1
  have b3 := Lib.hid HB1.out.2.2.2
  obtain ⟨xb, xo, xi, rfl, hxi, -, hxc⟩ := b2.out.at hi
  have hxk : (X.map (·.key)).getD i [] = xi.key := by rw [List.getD_eq_getElem?_getD, List.getElem?_map, hxi]; rfl
  rw [hxk] at HR
  clear hxk
  by_cases hy : y = 0
  · subst hy
    cases l with
    | nil =>
      simp only [List.length_nil] at HE1 hc1 ⊢
      have hR3 : R = (3, []) := HR.out
      subst hR3
      have n0 : ∀ n : Seen x1, n.val.cell? ⟨Z, 1, none⟩ = some (.slice (some ⟨xb, xo, none⟩) sl ic) := fun n => by rw [n.below.cell (cell_block b1.out)]; exact b1.out
      go_wp2_with fail
      go_upto_region 4 with (fail)
      refine region_seen (by kernel_rfl) (by kernel_rfl) ?_
      repeat go_big_quiet_step (fail)
      refine wpQuiet_nil ?_
      rintro _ ⟨m1, rfl⟩
      have B4 := Lib.hid (b3.out.trans (m1.below.mono b3.out.size))
      go_wp2_with fail
      go_ret2
      exact ⟨⟨none, 0, rfl, Nat.le_refl _, IsE.nil _ _⟩, B4.out, NewE.none _ _ _ _⟩
    | cons z l =>
      obtain ⟨zb, zo, z', rfl, hz', -, hzc⟩ := HE1.out.at (k := 0) (by simp)
      injection hz' with hz'
      subst hz'
      have n0 : ∀ n : Seen x1, n.val.cell? ⟨Z, 1, none⟩ = some (.slice (some ⟨xb, xo, none⟩) sl ic) := fun n => by rw [n.below.cell (cell_block b1.out)]; exact b1.out
      have n1 : ∀ n : Seen x1, n.val.cell? ⟨xb, xo + i * 3, none⟩ = some (.string (bs xi.key)) := fun n => by rw [n.below.cell (cell_block hxc.c0)]; exact hxc.c0
      have hzc0 := hzc.c0
      rw [Nat.zero_mul, Nat.add_zero] at hzc0
      have n2 : ∀ n : Seen x1, n.val.cell? ⟨zb, zo, none⟩ = some (.string (bs z.key)) := fun n => by rw [n.below.cell (cell_block hzc0)]; exact hzc0
      obtain ⟨ll, hll⟩ : ∃ ll, ll = (z :: l).length := ⟨_, rfl⟩
      have hlp : 0 < ll := by rw [hll]; simp
      have hlz : ((ll : Int) == 0) = false := by simp; omega
      have hlI : (0 : Int) < (ll : Int) := by omega
      have HE2 := Lib.hid HE1.out
      rw [← hll] at HE1 HE2 hc1 ⊢
      have HLL := Lib.hid hll
      clear hzc hll
      by_cases hk : z.key = xi.key
      · have hR0 : R = (0, z :: l) := by rw [HR.out]; unfold blkR; rw [if_neg (by simp), if_neg (by simp [keyE, hk])]
        subst hR0
        rw [hk] at n2
        go_wp2_with fail
        go_upto_region 4 with (fail)
        refine region_seen (by kernel_rfl) (by kernel_rfl) ?_
        repeat go_big_quiet_step (fail)
        refine wpQuiet_nil ?_
        rintro _ ⟨m1, rfl⟩
        have B4 := Lib.hid (b3.out.trans (m1.below.mono b3.out.size))
        have E4 := Lib.hid (HE2.out.below m1.below)
        clear n0 n1 n2
        go_wp2_with fail
        go_ret2
        obtain rfl : ll = (z :: l).length := HLL.out
        exact ⟨⟨_, _, rfl, hc1, E4.out⟩, B4.out, NewE.of (a := some ⟨zb, zo, none⟩) (c := c1') HN1.out⟩
      · have hR0 : R = (3, []) := by rw [HR.out]; unfold blkR; rw [if_neg (by simp), if_pos (.inr (by simpa [keyE] using hk))]
        subst hR0
        have heq : ((bs z.key).toList == (bs xi.key).toList) = false := by rw [Lib.toList_data, Lib.toList_data, bs_list, bs_list]; simpa using hk
        have hsb : ¬ bs z.key = bs xi.key := fun e => hk (by have := congrArg (fun s => s.data.toList) e; simpa [bs_list] using this)
        go_wp2_with fail
        go_upto_region 4 with (fail)
        refine region_seen (by kernel_rfl) (by kernel_rfl) ?_
        repeat go_big_quiet_step (fail)
        refine wpQuiet_nil ?_
        rintro _ ⟨m1, rfl⟩
        have B4 := Lib.hid (b3.out.trans (m1.below.mono b3.out.size))
        clear n0 n1 n2
        go_wp2_with fail
        go_ret2
        exact ⟨⟨none, 0, rfl, Nat.le_refl _, IsE.nil _ _⟩, B4.out, NewE.none _ _ _ _⟩
  · have h1e : (y == 0) = false := by simpa using hy
    have h2e : (y != 0) = true := by simpa using hy
    have hRy : R = (y, []) := by rw [HR.out]; unfold blkR; rw [if_pos hy]
    subst hRy
    go_wp2_with fail
    go_ret2
    exact ⟨⟨none, 0, rfl, Nat.le_refl _, IsE.nil _ _⟩, b3.out, NewE.none _ _ _ _⟩
end Go.Proofs.YteejldddgogbkaaGreatDoor
/- What a table tells from a key on, in plain words. -/
set_option linter.unusedVariables false
set_option maxRecDepth 100000
namespace Go.Proofs.YteejldddgogbkaaGreatDoor
open Go.RowKit

/-- The entries from a key on. -/
def fromE (k : List UInt8) (T : List Ent) : List Ent := T.filter fun x => !ltB x.key k
/-- f blocks from the i-th on, up to the first error. -/
def scanG (t : Tab) (k : List UInt8) : Nat → Nat → Int × List Ent
  | 0, _ => (0, [])
  | f + 1, i => if (blockT t i).1 ≠ 0 then ((blockT t i).1, []) else ((scanG t k f (i + 1)).1, fromE k (blockT t i).2 ++ (scanG t k f (i + 1)).2)
def scanT (t : Tab) (k : List UInt8) : Int × List Ent :=
  scanG t k (t.index.length - (fromN k (t.index.map (·.key)) - 1)) (fromN k (t.index.map (·.key)) - 1)
theorem from_at {k : List UInt8} : ∀ {Y : List (List UInt8)} {j : Nat}, fromN k Y = j + 1 → ∃ y, Y[j]? = some y ∧ ltB k y = false
  | [], j, h => by simp [fromN] at h
  | z :: Y, j, h => by
    rw [fromN_cons] at h
    split at h
    · rename_i h0
      obtain ⟨i, hi⟩ : ∃ i, fromN k Y = i + 1 := ⟨fromN k Y - 1, by omega⟩
      obtain ⟨y, hy, e⟩ := from_at hi
      obtain rfl : j = i + 1 := by omega
      exact ⟨y, by simpa using hy, e⟩
    · split at h
      · omega
      · rename_i h1
        obtain rfl : j = 0 := by omega
        exact ⟨z, rfl, by simpa using h1⟩
theorem fromE_app (k : List UInt8) (A D : List Ent) : fromE k (A ++ D) = fromE k A ++ fromE k D := List.filter_append ..
theorem below_of {k : List UInt8} {x y : List UInt8} (h : ltB x y = true) (e : ltB k y = false) : ltB x k = true := by
  rcases ltB_total x k with a | a | a
  · exact a
  · rw [a, e] at h; cases h
  · rw [ltB_trans a h] at e; cases e
theorem scan_blocks {C : List (List Ent)} {R : List UInt8} {h n : Nat} {bits : List UInt8} {k : List UInt8} (hr : okEs true [] C.flatten) (hcs : ∀ d ∈ C, 1 ≤ d.length ∧ d.length ≤ 65536) :
    ∀ (f i : Nat), i + f = C.length → scanG ⟨blksB C ++ R, idxs 0 C, offs 0 C, h, bits, n⟩ k f i = (0, fromE k (C.drop i).flatten)
  | 0, i, e => by rw [List.drop_eq_nil_of_le (by omega)]; rfl
  | f + 1, i, e => by
    have hlt : i < C.length := by omega
    have hb := block_built (R := R) (h := h) (bits := bits) (n := n) hr hcs (List.getElem?_eq_getElem hlt)
    have ih := scan_blocks (R := R) (h := h) (n := n) (bits := bits) (k := k) hr hcs f (i + 1) (by omega)
    unfold scanG
    rw [hb, ih, if_neg (by simp), List.drop_eq_getElem_cons hlt, List.flatten_cons, fromE_app]
/-- What a table that was built tells from a key on. -/
theorem scan_built {C : List (List Ent)} {T : List Ent} {R : List UInt8} {h n : Nat} {bits : List UInt8} {k : List UInt8} (hT : C.flatten = T) (hr : okEs true [] T) (hcs : ∀ d ∈ C, 1 ≤ d.length ∧ d.length ≤ 65536) :
    scanT ⟨blksB C ++ R, idxs 0 C, offs 0 C, h, bits, n⟩ k = (0, fromE k T) := by
  subst hT
  have hle := fromN_le k (C.map keyE)
  rw [List.length_map] at hle
  unfold scanT
  simp only [idxs_keys, idxs_len]
  rw [scan_blocks hr hcs _ _ (by omega)]
  congr 1
  obtain ⟨i, hi⟩ : ∃ i, i = fromN k (C.map keyE) - 1 := ⟨_, rfl⟩
  rw [← hi]
  have hsplit : C.flatten = (C.take i).flatten ++ (C.drop i).flatten := by rw [← List.flatten_append, List.take_append_drop]
  have hno : fromE k (C.take i).flatten = [] := by
    by_cases h0 : i = 0
    · rw [h0]; rfl
    · obtain ⟨y, hy, e⟩ := from_at (k := k) (Y := C.map keyE) (j := i) (by omega)
      have hil : i < C.length := by
        have := (List.getElem?_eq_some_iff.1 hy).1
        rwa [List.length_map] at this
      have hy2 : y = keyE C[i] := by
        rw [List.getElem?_map, List.getElem?_eq_getElem hil] at hy
        injection hy with hy
        exact hy.symm
      obtain ⟨z, hz, hkz⟩ := keyE_mem (hcs C[i] (List.getElem_mem hil)).1
      have hrs := (rises_of_okEs true [] hr).1
      rw [hsplit] at hrs
      obtain ⟨_, _, hab⟩ := rises_app hrs
      unfold fromE
      rw [List.filter_eq_nil_iff]
      intro x hx
      have := hab x hx z (List.mem_flatten.2 ⟨C[i], by rw [List.drop_eq_getElem_cons hil]; exact List.mem_cons_self, hz⟩)
      rw [← hkz, ← hy2] at this
      simp [below_of this e]
  rw [hsplit, fromE_app, hno, List.nil_append]
end Go.Proofs.YteejldddgogbkaaGreatDoor
/- One byte of a text with its sum made another: it is told. -/
set_option linter.unusedVariables false
set_option maxRecDepth 100000
namespace Go.Proofs.YteejldddgogbkaaGreatDoor
open Go.RowKit

/-- One byte is another one. -/
def Spoilt (l L : List UInt8) (p : Nat) : Prop := L.length = l.length ∧ p < l.length ∧ (∀ i, i ≠ p → L[i]? = l[i]?) ∧ L[p]? ≠ l[p]?
theorem Spoilt.ne {l L : List UInt8} {p : Nat} (h : Spoilt l L p) : L ≠ l := fun e => h.2.2.2 (by rw [e])
theorem crcd_spoilt {l L : List UInt8} {p : Nat} (h : Spoilt (crcd l) L p) : takeE L = 4 := by
  obtain ⟨h1, h2, h3, h4⟩ := h
  rw [crcd_len] at h1 h2
  unfold takeE
  rw [if_neg (by omega)]
  have hn : L.length - 4 = l.length := by omega
  have hc : ∀ i, (crcd l)[i]? = if i < l.length then l[i]? else (four (sumL l))[i - l.length]? := fun i => by
    unfold crcd
    rw [List.getElem?_append]
  rw [if_neg]
  intro hok
  unfold okT at hok
  rw [hn] at hok
  have hL : L = L.take l.length ++ four (sumL (L.take l.length)) := by rw [← hok, List.take_append_drop]
  have hfin : L.take l.length = l → False := fun e => by
    rw [e] at hL
    exact h4 (by rw [hL]; rfl)
  by_cases hp : p < l.length
  · have hsum : four (sumL (L.take l.length)) = four (sumL l) := by
      rw [← hok]
      apply List.ext_getElem?
      intro i
      rw [List.getElem?_drop, h3 (l.length + i) (by omega), hc, if_neg (by omega), Nat.add_sub_cancel_left]
    refine hfin (burst (by rw [List.length_take]; omega) (8 * p) (fun i hi hf => ?_) (four_inj (sumL_lt _) (sumL_lt _) hsum))
    rw [List.length_take] at hi
    unfold bitL
    rw [List.getD_eq_getElem?_getD, List.getD_eq_getElem?_getD, List.getElem?_take_of_lt (by omega), h3 (i / 8) (by omega), hc, if_pos (by omega)]
  · refine hfin ?_
    apply List.ext_getElem?
    intro i
    by_cases hi : i < l.length
    · rw [List.getElem?_take_of_lt hi, h3 i (by omega), hc, if_pos hi]
    · rw [List.getElem?_eq_none (by rw [List.length_take]; omega), List.getElem?_eq_none (by omega)]
/-- Of three texts behind one another one is spoilt. -/
theorem Spoilt.split {a b L : List UInt8} {p : Nat} (h : Spoilt (a ++ b) L p) : ∃ A D, L = A ++ D ∧ A.length = a.length ∧ D.length = b.length ∧ (Spoilt a A p ∧ D = b ∨ A = a ∧ Spoilt b D (p - a.length)) := by
  obtain ⟨h1, h2, h3, h4⟩ := h
  rw [List.length_append] at h1 h2
  refine ⟨L.take a.length, L.drop a.length, (List.take_append_drop _ _).symm, by rw [List.length_take]; omega, by rw [List.length_drop]; omega, ?_⟩
  by_cases hp : p < a.length
  · refine .inl ⟨⟨by rw [List.length_take]; omega, hp, fun i hi => ?_, ?_⟩, ?_⟩
    · by_cases hia : i < a.length
      · rw [List.getElem?_take_of_lt hia, h3 i hi, List.getElem?_append_left hia]
      · rw [List.getElem?_eq_none (by rw [List.length_take]; omega), List.getElem?_eq_none (by omega)]
    · rw [List.getElem?_take_of_lt hp]
      rwa [List.getElem?_append_left hp] at h4
    · apply List.ext_getElem?
      intro i
      rw [List.getElem?_drop, h3 (a.length + i) (by omega), List.getElem?_append_right (by omega), Nat.add_sub_cancel_left]
  · refine .inr ⟨?_, by rw [List.length_drop]; omega, by omega, fun i hi => ?_, ?_⟩
    · apply List.ext_getElem?
      intro i
      by_cases hia : i < a.length
      · rw [List.getElem?_take_of_lt hia, h3 i (by omega), List.getElem?_append_left hia]
      · rw [List.getElem?_eq_none (by rw [List.length_take]; omega), List.getElem?_eq_none (by omega)]
    · rw [List.getElem?_drop, h3 (a.length + i) (by omega), List.getElem?_append_right (by omega), Nat.add_sub_cancel_left]
    · rw [List.getElem?_drop, show a.length + (p - a.length) = p by omega]
      rwa [List.getElem?_append_right (by omega)] at h4
end Go.Proofs.YteejldddgogbkaaGreatDoor
/- A table of which one byte is another one: opening it, or going through it, tells. -/
set_option linter.unusedVariables false
set_option maxRecDepth 100000
namespace Go.Proofs.YteejldddgogbkaaGreatDoor
open Go.RowKit

theorem scanG_err {t : Tab} {k : List UInt8} : ∀ (f i j : Nat), i ≤ j → j < i + f → (blockT t j).1 ≠ 0 → (scanG t k f i).1 ≠ 0
  | 0, i, j, h1, h2, _ => by omega
  | f + 1, i, j, h1, h2, h3 => by
    unfold scanG
    by_cases h : (blockT t i).1 ≠ 0
    · rw [if_pos h]; exact h
    · rw [if_neg h]
      have hij : i ≠ j := fun e => h (e ▸ h3)
      exact scanG_err f (i + 1) j (by omega) (by omega) h3
theorem blks_spoilt : ∀ {C : List (List Ent)} {S : List UInt8} {p : Nat}, Spoilt (blksB C) S p → ∃ (i q : Nat) (c : List Ent) (B : List UInt8), C[i]? = some c ∧ Spoilt (blkB c) B q ∧ ∀ R, ((S ++ R).drop (blksB (C.take i)).length).take (blkB c).length = B
  | [], S, p, h => by have := h.2.1; simp [blksB] at this
  | c :: C, S, p, h => by
    have e : blksB (c :: C) = blkB c ++ blksB C := by simp [blksB]
    rw [e] at h
    obtain ⟨A, D, rfl, ha, hd, hs⟩ := h.split
    rcases hs with ⟨hs, rfl⟩ | ⟨rfl, hs⟩
    · refine ⟨0, p, c, A, rfl, hs, fun R => ?_⟩
      show ((A ++ blksB C ++ R).drop 0).take (blkB c).length = A
      rw [List.drop_zero, List.append_assoc, ← ha, List.take_left]
    · obtain ⟨i, q, d, B, h1, h2, h3⟩ := blks_spoilt hs
      refine ⟨i + 1, q, d, B, by simpa using h1, h2, fun R => ?_⟩
      have e2 : (blksB ((c :: C).take (i + 1))).length = (blkB c).length + (blksB (C.take i)).length := by simp [blksB]
      rw [e2, List.append_assoc, ← List.drop_drop, List.drop_left, h3 R]
theorem opnS_spoilt {T : List Ent} {B : List UInt8} {q : Nat} (h : Spoilt (blkB T) B q) : (opnS B).1 ≠ 0 := by
  have e := crcd_spoilt h
  unfold opnS
  rw [e, if_pos (by decide)]
  decide
/-- Opening, by the parts of the bytes. -/
theorem open_parts {S Y V : List UInt8} {n : Nat} (hs : S.length + Y.length < 4294967296) (hn : n < 4294967296) :
    openTab (S ++ Y ++ V ++ crcd (footB S.length (S.length + Y.length) n)) =
      (if (opnS Y).1 ≠ 0 then ((opnS Y).1, noTab) else
        if (placesL S.length 0 (opnS Y).2).1 ≠ 0 then ((placesL S.length 0 (opnS Y).2).1, noTab) else
        if (opnS Y).2.isEmpty = true ∧ 0 < n ∨ (opnS Y).2.isEmpty = false ∧ n = 0 then (3, noTab) else
        if takeE V ≠ 0 then (takeE V, noTab) else
        if openE (takeT V) ≠ 0 then (openE (takeT V), noTab) else
        (0, ⟨S ++ Y ++ V ++ crcd (footB S.length (S.length + Y.length) n), (opnS Y).2, (placesL S.length 0 (opnS Y).2).2, openH (takeT V), openT (takeT V), n⟩)) := by
  obtain ⟨E, hE⟩ : ∃ E, E = footB S.length (S.length + Y.length) n := ⟨_, rfl⟩
  have hEl : E.length = 12 := by rw [hE]; rfl
  have e0 : num4 E = S.length := by rw [hE]; unfold footB; rw [List.append_assoc]; exact num4_four (by omega) _
  have e1 : num4 (E.drop 4) = S.length + Y.length := by rw [hE]; exact num4_four (x := S.length + Y.length) (by omega) (four n)
  have e2 : num4 (E.drop 8) = n := by rw [hE]; have := num4_four (x := n) (by omega) []; rwa [List.append_nil] at this
  rw [← hE]
  obtain ⟨R, hR⟩ : ∃ R, R = S ++ Y ++ V := ⟨_, rfl⟩
  have hlen : (S ++ Y ++ V ++ crcd E).length = R.length + 16 := by rw [← hR, List.length_append, crcd_len, hEl]
  have d0 : (S ++ Y ++ V ++ crcd E).drop R.length = crcd E := by rw [← hR, List.drop_left]
  have d1 : (S ++ Y ++ V ++ crcd E).take R.length = R := by rw [← hR, List.take_left]
  have d2 : ((S ++ Y ++ V ++ crcd E).take (S.length + Y.length)).drop S.length = Y := by
    rw [List.append_assoc (S ++ Y), ← List.length_append, List.take_left, List.drop_left]
  have d3 : R.drop (S.length + Y.length) = V := by rw [hR, ← List.length_append, List.drop_left]
  have hRl : S.length + Y.length ≤ R.length := by rw [hR, List.length_append, List.length_append]; omega
  unfold openTab
  simp only [hlen, Nat.add_sub_cancel, d0, d1, (take_crcd E).1, (take_crcd E).2, e0, e1, e2, d2, d3]
  rw [if_neg (by omega), if_neg (by simp), if_neg (by omega)]
theorem open_foot {R E L : List UInt8} {p : Nat} (hE : E.length = 12) (h : Spoilt (crcd E) L p) : (openTab (R ++ L)).1 ≠ 0 := by
  have hl : L.length = 16 := by rw [h.1, crcd_len, hE]
  unfold openTab
  simp only [List.length_append, hl, Nat.add_sub_cancel, List.drop_left, crcd_spoilt h]
  rw [if_neg (by omega), if_pos (by decide)]
  decide
end Go.Proofs.YteejldddgogbkaaGreatDoor
/- A table in memory; what a source answers. -/
set_option linter.unusedVariables false
set_option maxRecDepth 100000
namespace Go.Proofs.YteejldddgogbkaaGreatDoor
open Go.RowKit

/-- Objects that lie as they are. -/
def Keep (K : List (Nat × Obj)) (W : World) : Prop := ∀ p ∈ K, W.heap[p.1]? = some p.2
theorem Keep.below {K : List (Nat × Obj)} {W W' : World} (h : Keep K W) (k : Below W.heap.size W W') : Keep K W' := fun p hp => (k.block _ (heap_lt (h p hp))).trans (h p hp)
theorem Keep.only {K : List (Nat × Obj)} {W W' : World} {S : Nat → Prop} (h : Keep K W) (k : Only S W W') (hS : ∀ p ∈ K, ¬ S p.1) : Keep K W' := fun p hp => (k.block _ (heap_lt (h p hp)) (hS p hp)).trans (h p hp)
/-- What a function that is a source does: it answers of the bytes L, or the error d. -/
structure Src (F : Nat) (c : Array Value) (K : List (Nat × Obj)) (d : Int) (L : List UInt8) : Prop where
  enters : Enters Tryz.prog F
  calls : ∀ W, Keep K W → ∀ n k : Nat, n + k ≤ L.length → Calls Tryz.prog F (#[.int .i64 (n : Int), .int .i64 (k : Int)] ++ c) W fun e W' => e = .returned (.tuple #[.string (bs (if d = 0 then (L.drop n).take k else [])), .int .i64 d]) ∧ Below W.heap.size W W'
def srcV (F : Nat) (c : Array Value) : Value := .func (.func F) #[] c
/-- A block of a table as the table knows it: its first key, its place, its size. -/
abbrev Pc := List UInt8 × Nat × Nat
structure CellP (b o : Nat) (x : Pc) (w : World) : Prop where
  lt : b < w.heap.size
  c0 : w.cell? ⟨b, o, none⟩ = some (.string (bs x.1))
  c1 : w.cell? ⟨b, o + 1, none⟩ = some (.int .i64 (x.2.1 : Int))
  c2 : w.cell? ⟨b, o + 2, none⟩ = some (.int .i64 (x.2.2 : Int))
theorem lt_of_same {w w' : World} {b : Nat} (h : b < w.heap.size) (k : w'.heap[b]? = w.heap[b]?) : b < w'.heap.size := by
  rcases Nat.lt_or_ge b w'.heap.size with h1 | h1
  · exact h1
  · rw [Array.getElem?_eq_none h1, Array.getElem?_eq_getElem h] at k; cases k
theorem cell_same {w w' : World} {b o : Nat} {v : Value} (h : w.cell? ⟨b, o, none⟩ = some v) (k : w'.heap[b]? = w.heap[b]?) : w'.cell? ⟨b, o, none⟩ = some v := by
  unfold World.cell? at h ⊢
  simp only [k]
  exact h
theorem CellP.block {b o : Nat} {x : Pc} {w w' : World} (h : CellP b o x w) (k : w'.heap[b]? = w.heap[b]?) : CellP b o x w' :=
  ⟨lt_of_same h.lt k, cell_same h.c0 k, cell_same h.c1 k, cell_same h.c2 k⟩
/-- A slice of them, in a block below p. -/
def IsP (w : World) (p : Nat) (a : Option Addr) (len : Nat) (P : List Pc) : Prop := len = P.length ∧ ∃ b off, b < p ∧ (len = 0 ∨ a = some ⟨b, off, none⟩) ∧ ∀ k (h : k < P.length), CellP b (off + k * 3) P[k] w
theorem IsP.keep {w w' : World} {p : Nat} {a : Option Addr} {len : Nat} {P : List Pc} (h : IsP w p a len P) (k : ∀ j, j < p → j < w.heap.size → w'.heap[j]? = w.heap[j]?) : IsP w' p a len P := by
  obtain ⟨h1, b, off, h2, h3, h4⟩ := h
  exact ⟨h1, b, off, h2, h3, fun i hi => (h4 i hi).block (k b h2 (h4 i hi).lt)⟩
theorem IsP.at {w : World} {p : Nat} {a : Option Addr} {len : Nat} {P : List Pc} (h : IsP w p a len P) {k : Nat} (hk : k < len) : ∃ b off x, a = some ⟨b, off, none⟩ ∧ P[k]? = some x ∧ CellP b (off + k * 3) x w := by
  obtain ⟨h1, b, off, h2, h3, h4⟩ := h
  have hk' : k < P.length := by omega
  refine ⟨b, off, P[k], ?_, List.getElem?_eq_getElem hk', h4 k hk'⟩
  rcases h3 with h3 | h3
  · omega
  · exact h3
def piecesOf (t : Tab) : List Pc := (t.index.map (·.key)).zip t.places
/-- A table that was opened. -/
structure FineT (t : Tab) : Prop where
  idx : rises t.index
  pl : t.places.length = t.index.length
  inn : ∀ q ∈ t.places, q.1 + q.2 ≤ t.bytes.length
  bits : 0 < t.bits.length ∧ t.bits.length % 8 = 0 ∧ t.bits.length ≤ t.bytes.length
  h8 : t.h ≤ 8
  few : t.index.length ≤ 65536
theorem piecesOf_len {t : Tab} (h : FineT t) : (piecesOf t).length = t.index.length := by unfold piecesOf; rw [List.length_zip, List.length_map, h.pl]; omega
theorem piecesOf_at {t : Tab} (h : FineT t) {i : Nat} (hi : i < t.index.length) : (piecesOf t)[i]? = some ((t.index.map (·.key)).getD i [], t.places.getD i (0, 0)) := by
  unfold piecesOf
  rw [List.getElem?_zip_eq_some]
  refine ⟨?_, ?_⟩
  · show (t.index.map (·.key))[i]? = some ((t.index.map (·.key)).getD i [])
    rw [List.getD_eq_getElem?_getD, List.getElem?_eq_getElem (by rw [List.length_map]; exact hi)]; rfl
  · show t.places[i]? = some (t.places.getD i (0, 0))
    rw [List.getD_eq_getElem?_getD, List.getElem?_eq_getElem (by rw [h.pl]; exact hi)]; rfl
/-- A table in block p, n blocks of which were read. -/
structure TabM (p : Nat) (v : Value) (n : Int) (t : Tab) (w : World) : Prop where
  ex : ∃ a cap fb fg, w.heap[p]? = some (.cells #[v, .slice a t.index.length cap, .pointer (some ⟨fb, 0, none⟩), .int .i64 (t.count : Int), .int .i64 n] 93 (0, 0)) ∧ IsP w p a t.index.length (piecesOf t) ∧ Flt fb fg t.h t.bits w ∧ fb < p ∧ fg < p
theorem TabM.lt {p : Nat} {v : Value} {n : Int} {t : Tab} {w : World} (h : TabM p v n t w) : p < w.heap.size := by
  obtain ⟨a, cap, fb, fg, h1, _⟩ := h.ex
  exact heap_lt h1
theorem Flt.blocks {b g h : Nat} {L : List UInt8} {w w' : World} (f : Flt b g h L w) (k1 : w'.heap[b]? = w.heap[b]?) (k2 : w'.heap[g]? = w.heap[g]?) : Flt b g h L w' := by
  refine ⟨cell_same f.c0 k1, ?_, ⟨lt_of_same f.row.1 k2, fun j hj => ?_⟩, lt_of_same f.lt k1⟩
  · obtain ⟨cap, hc⟩ := f.c1
    exact ⟨cap, cell_same hc k1⟩
  · have := f.row.2 j hj
    unfold World.cell? World.frozen? at this ⊢
    simp only [k2]
    exact this
theorem TabM.below {p : Nat} {v : Value} {n : Int} {t : Tab} {w w' : World} (h : TabM p v n t w) (k : Below w.heap.size w w') : TabM p v n t w' := by
  obtain ⟨a, cap, fb, fg, h1, h2, h3, h4, h5⟩ := h.ex
  exact ⟨a, cap, fb, fg, (k.block p (heap_lt h1)).trans h1, h2.keep fun j _ hj => k.block j hj, h3.below k, h4, h5⟩
/-- Where only the table's own block is written: another number of blocks read. -/
theorem TabM.reads {p : Nat} {v : Value} {n : Int} {t : Tab} {w : World} (h : TabM p v n t w) (m : Int) : TabM p v m t (w.setCell ⟨p, 4, none⟩ (.int .i64 m)) := by
  obtain ⟨a, cap, fb, fg, h1, h2, h3, h4, h5⟩ := h.ex
  refine ⟨a, cap, fb, fg, by rw [heap_set (o := 4) h1]; rfl, h2.keep fun j hj _ => heap_set_other (by omega) _, h3.blocks (heap_set_other (by omega) _) (heap_set_other (by omega) _), h4, h5⟩
theorem places_inn {a : Nat} : ∀ {X : List Ent} {n : Nat} {P : List (Nat × Nat)}, placesL a n X = (0, P) → P.length = X.length ∧ ∀ q ∈ P, q.1 + q.2 ≤ a
  | [], n, P, h => by
    unfold placesL at h
    split at h
    · injection h with _ h; subst h; exact ⟨rfl, fun q hq => by cases hq⟩
    · injection h with h _; cases h
  | x :: X, n, P, h => by
    unfold placesL at h
    simp only at h
    split at h
    · rename_i h0
      injection h with h _
      exact absurd h h0
    split at h
    · rename_i _ h0
      injection h with h _
      exact absurd h h0
    split at h
    · injection h with h _; cases h
    · rename_i h1 h2 h3
      injection h with e1 e2
      rw [e1, if_pos rfl] at e2
      have h1' : ce x.val = 0 := Decidable.of_not_not h1
      have h2' : ce (x.val.drop (ck x.val)) = 0 := Decidable.of_not_not h2
      have hc := cn_of' h2'
      have hr : placesL a (n + (cn (x.val.drop (ck x.val))).toNat) X = (0, (placesL a (n + (cn (x.val.drop (ck x.val))).toNat) X).2) := by rw [← e1]
      obtain ⟨g1, g2⟩ := places_inn hr
      subst e2
      refine ⟨by rw [List.length_cons, g1, List.length_cons], fun q hq => ?_⟩
      rcases List.mem_cons.1 hq with rfl | hq
      · simp only
        omega
      · exact g2 q hq
theorem fine_mk {s x q : List UInt8} {a b n c : Nat} (hlen : n = s.length - 16) (hab : ¬ (b < a ∨ n < b)) (ho : (opnS x).1 = 0) (hp : (placesL a 0 (opnS x).2).1 = 0) (hq : openE q = 0) (hql : q.length ≤ s.length) (hs : 16 ≤ s.length) : FineT ⟨s, (opnS x).2, (placesL a 0 (opnS x).2).2, openH q, openT q, c⟩ := by
  obtain ⟨hc, hk⟩ := pack_open ho
  obtain ⟨hok, hl⟩ := (chkE_ok _).1 hc
  obtain ⟨g1, g2⟩ := places_inn (a := a) (X := (opnS x).2) (n := 0) (P := (placesL a 0 (opnS x).2).2) (by rw [← hp])
  obtain ⟨_, q1, q2, q3, q4, q5⟩ := open_ok hq
  refine ⟨(rises_of_okEs true [] hok).1, g1, fun y hy => ?_, ⟨List.length_pos_iff.2 q3, q4, Nat.le_trans q5 hql⟩, q2, hl⟩
  have h := g2 y hy
  show y.1 + y.2 ≤ s.length
  omega
set_option maxHeartbeats 1000000 in
/-- What opening leaves is fine. -/
theorem open_fine {s : List UInt8} {t : Tab} (h : openTab s = (0, t)) : FineT t ∧ t.bytes = s := by
  unfold openTab at h
  simp only at h
  split at h
  · injection h with h _; cases h
  split at h
  · rename_i _ h0; injection h with h _; exact absurd h h0
  split at h
  · injection h with h _; cases h
  rename_i hlen _ hab
  split at h
  · rename_i h0; injection h with h _; exact absurd h h0
  rename_i ho
  split at h
  · rename_i h0; injection h with h _; exact absurd h h0
  rename_i hp
  split at h
  · injection h with h _; cases h
  split at h
  · rename_i h0; injection h with h _; exact absurd h h0
  split at h
  · rename_i h0; injection h with h _; exact absurd h h0
  rename_i hq
  injection h with _ h
  subst h
  have ho' := Decidable.of_not_not ho
  have hp' := Decidable.of_not_not hp
  have hq' := Decidable.of_not_not hq
  refine ⟨fine_mk rfl hab ho' hp' hq' ?_ (by omega), rfl⟩
  have h1 := takeT_len ((s.take (s.length - 16)).drop (num4 ((takeT (s.drop (s.length - 16))).drop 4)))
  rw [List.length_drop, List.length_take] at h1
  exact Nat.le_trans h1 (by omega)
end Go.Proofs.YteejldddgogbkaaGreatDoor
