/- Texts for layer 9, put together: TableSpoiltTab, TableSpoilt2 -/
import Derived.Test.YteejldddgogbkaaDoorSp13
/- A built table of which one byte is another one. -/
set_option linter.unusedVariables false
set_option maxRecDepth 100000
namespace Go.Proofs.YteejldddgogbkaaDoor
open Go.RowKit

theorem ltB_nil (a : List UInt8) : ltB a [] = false := by cases a <;> rfl
theorem nil_ltB {a : List UInt8} (h : ltB [] a = false) : a = [] := by cases a with
  | nil => rfl
  | cons x a => simp [ltB] at h
theorem from_nil {C : List (List Ent)} (hr : rises (idxs 0 C)) : fromN [] (C.map keyE) - 1 = 0 := by
  cases C with
  | nil => rfl
  | cons c C =>
    obtain ⟨j, hj⟩ : ∃ j, j = fromN [] ((c :: C).map keyE) - 1 := ⟨_, rfl⟩
    rw [← hj]
    cases j with
    | zero => rfl
    | succ j =>
      obtain ⟨y, hy, e⟩ := from_at (k := []) (Y := (c :: C).map keyE) (j := j + 1) (by omega)
      have hy0 := nil_ltB e
      subst hy0
      rw [List.map_cons, List.getElem?_cons_succ] at hy
      rw [← idxs_keys C (0 + (blkB c).length)] at hy
      obtain ⟨x, hx, hxk⟩ := List.mem_map.1 (List.mem_of_getElem? hy)
      have := hr.1 x hx
      rw [hxk, ltB_nil] at this
      cases this
theorem spoilt_table {each per : Nat} {T : List Ent} {L : List UInt8} {p : Nat} (h1 : 1 ≤ each) (h2 : each ≤ 256) (h3 : 1 ≤ per) (h4 : per ≤ 32) (hl : T.length ≤ 3001) (hT : chkE T = 0) (h : Spoilt (tabB each per T) L p) :
    (openTab L).1 ≠ 0 ∨ (openTab L).1 = 0 ∧ (scanT (openTab L).2 []).1 ≠ 0 := by
  obtain ⟨hok, _⟩ := (chkE_ok T).1 hT
  have hsm := smallE_of hok
  have hr := (rises_of_okEs true [] hok).1
  obtain ⟨hfl, hcn⟩ := chunks_all (k := each) (by omega) T
  have htab : tabB each per T = blksB (chunks each T) ++ blkB (idxs 0 (chunks each T)) ++ crcd (filB per T) ++ crcd (footB (blksB (chunks each T)).length ((blksB (chunks each T)).length + (blkB (idxs 0 (chunks each T))).length) T.length) := rfl
  rw [htab] at h
  obtain ⟨C, hC⟩ : ∃ C, C = chunks each T := ⟨_, rfl⟩
  rw [← hC] at hfl hcn h
  have hcs : ∀ c ∈ C, smallE c ∧ 1 ≤ c.length ∧ c.length ≤ 65536 := fun c hc => ⟨fun x hx => hsm x (by rw [← hfl]; exact List.mem_flatten.2 ⟨c, hc, hx⟩), (hcn c hc).1, by have := (hcn c hc).2; omega⟩
  have hbl := blks_len C hcs
  rw [hfl] at hbl
  have hix := idxs_ok (C := C) (by rw [hfl]; exact hr) hcs (by omega) (by omega)
  have hop := opnS_blk hix
  have hpl := places_idxs (a := (blksB C).length) (by omega) C 0 (by omega)
  have hxs := idxs_small C 0 hcs (by omega)
  have hYl := blkB_len hxs (by rw [idxs_len]; omega)
  rw [idxs_len] at hYl
  have hxr := idxs_rises C 0 (by rw [hfl]; exact hr) fun c hc => (hcs c hc).2.1
  have hem : (idxs 0 C).isEmpty = T.isEmpty := by
    cases C with
    | nil => rw [← hfl]; rfl
    | cons c C =>
      have hc := hcs c (by simp)
      rw [← hfl]
      cases c with
      | nil => simp at hc
      | cons x c => rfl
  have hcount : ¬ ((idxs 0 C).isEmpty = true ∧ 0 < T.length ∨ (idxs 0 C).isEmpty = false ∧ T.length = 0) := by
    rw [hem]
    cases T with
    | nil => simp
    | cons x T => simp
  obtain ⟨R', E', rfl, hRl, hEl, hs⟩ := h.split
  clear h
  rcases hs with ⟨hs1, rfl⟩ | ⟨rfl, hs1⟩
  rotate_left
  · exact .inl (open_foot rfl hs1)
  obtain ⟨Q', V', rfl, hQl, hVl, hs⟩ := hs1.split
  clear hs1
  rcases hs with ⟨hs2, rfl⟩ | ⟨rfl, hs2⟩
  rotate_left
  · refine .inl ?_
    rw [open_parts (S := blksB C) (Y := blkB (idxs 0 C)) (by omega) (by omega), hop]
    simp only [hpl, crcd_spoilt hs2]
    rw [if_neg (by simp), if_neg (by simp), if_neg hcount, if_pos (by decide)]
    decide
  obtain ⟨S', Y', rfl, hSl, hYl2, hs⟩ := hs2.split
  clear hs2
  rcases hs with ⟨hs3, rfl⟩ | ⟨rfl, hs3⟩
  rotate_left
  · refine .inl ?_
    have he := opnS_spoilt hs3
    rw [← hYl2, open_parts (S := blksB C) (Y := Y') (by omega) (by omega), if_pos he]
    exact he
  · rw [← hSl, open_parts (S := S') (Y := blkB (idxs 0 C)) (by omega) (by omega), hop, hSl]
    simp only [hpl, (take_crcd (filB per T)).1]
    rw [if_neg (by simp), if_neg (by simp), if_neg hcount, if_neg (by simp)]
    by_cases ho : openE (takeT (crcd (filB per T))) ≠ 0
    · rw [if_pos ho]; exact .inl ho
    · rw [if_neg ho]
      refine .inr ⟨rfl, ?_⟩
      obtain ⟨i, q, c, B, hi, hsp, hB⟩ := blks_spoilt hs3
      unfold scanT
      simp only [idxs_keys, idxs_len]
      rw [from_nil hxr]
      have hlt := (List.getElem?_eq_some_iff.1 hi).1
      refine scanG_err _ 0 i (by omega) (by omega) ?_
      have e1 := offs_at C 0 i c hi
      have e2 := opnS_spoilt hsp
      unfold blockT
      simp only [List.getD_eq_getElem?_getD, e1, Option.getD_some, Nat.zero_add, List.append_assoc, hB]
      rw [if_pos e2]
      exact e2
end Go.Proofs.YteejldddgogbkaaDoor
/- A table with one byte turned tells no more entries than it was made of, ahead of the error. -/
set_option linter.unusedVariables false
namespace Go.Proofs.YteejldddgogbkaaDoor
open Go.RowKit

/-- A part of entries that may be packed may be packed. -/
theorem part_ok {C : List (List Ent)} {c : List Ent} (hr : okEs true [] C.flatten) (hm : c ∈ C) (hl : c.length ≤ 65536) : chkE c = 0 := by
  have hrs := (rises_of_okEs true [] hr).1
  have hsub : c.Sublist C.flatten := List.sublist_flatten_of_mem hm
  have hrc : rises c := by
    have : ∀ {D : List (List Ent)}, rises D.flatten → ∀ d ∈ D, rises d := by
      intro D
      induction D with
      | nil => intro _ d hd; cases hd
      | cons e D ih =>
        intro h d hd
        rw [List.flatten_cons] at h
        obtain ⟨a, b, _⟩ := rises_app h
        rcases List.mem_cons.1 hd with rfl | hd
        · exact a
        · exact ih b d hd
    exact this hrs c hm
  have hall : ∀ {f : Bool} {l : List UInt8} {T : List Ent}, okEs f l T → ∀ x ∈ T, x.key.length ≤ 65536 ∧ x.val.length ≤ 65536 ∧ (x.gone = true → x.val = []) := by
    intro f l T
    induction T generalizing f l with
    | nil => intro _ x hx; cases hx
    | cons y T ih =>
      intro h x hx
      rcases List.mem_cons.1 hx with rfl | hx
      · exact ⟨h.1.1, h.1.2.1, h.1.2.2.1⟩
      · exact ih h.2 x hx
  exact (chkE_ok c).2 ⟨okEs_of_rises true [] hrc (fun x hx => hall hr x (hsub.subset hx)) (fun hf => by cases hf), hl⟩
theorem blks_spoilt2 : ∀ {C : List (List Ent)} {S : List UInt8} {p : Nat}, Spoilt (blksB C) S p → ∃ (i q : Nat) (c : List Ent) (B : List UInt8), C[i]? = some c ∧ Spoilt (blkB c) B q ∧ (∀ R, ((S ++ R).drop (blksB (C.take i)).length).take (blkB c).length = B) ∧ ∀ j d, j < i → C[j]? = some d → ∀ R, ((S ++ R).drop (blksB (C.take j)).length).take (blkB d).length = blkB d
  | [], S, p, h => by have := h.2.1; simp [blksB] at this
  | c :: C, S, p, h => by
    have e : blksB (c :: C) = blkB c ++ blksB C := by simp [blksB]
    rw [e] at h
    obtain ⟨A, D, rfl, ha, hd, hs⟩ := h.split
    rcases hs with ⟨hs, rfl⟩ | ⟨rfl, hs⟩
    · refine ⟨0, p, c, A, rfl, hs, fun R => ?_, fun j d hj => absurd hj (by omega)⟩
      show ((A ++ blksB C ++ R).drop 0).take (blkB c).length = A
      rw [List.drop_zero, List.append_assoc, ← ha, List.take_left]
    · obtain ⟨i, q, d, B, h1, h2, h3, h4⟩ := blks_spoilt2 hs
      refine ⟨i + 1, q, d, B, by simpa using h1, h2, fun R => ?_, fun j d' hj hd' R => ?_⟩
      · have e2 : (blksB ((c :: C).take (i + 1))).length = (blkB c).length + (blksB (C.take i)).length := by simp [blksB]
        rw [e2, List.append_assoc, ← List.drop_drop, List.drop_left, h3 R]
      · cases j with
        | zero =>
          injection hd' with hd'
          subst hd'
          show ((blkB c ++ D ++ R).drop 0).take (blkB c).length = blkB c
          rw [List.drop_zero, List.append_assoc, List.take_left]
        | succ j =>
          have e2 : (blksB ((c :: C).take (j + 1))).length = (blkB c).length + (blksB (C.take j)).length := by simp [blksB]
          rw [e2, List.append_assoc, ← List.drop_drop, List.drop_left, h4 j d' (by omega) (by simpa using hd') R]
theorem scanG_short {t : Tab} {k : List UInt8} {C : List (List Ent)} {m : Nat} (hbad : (blockT t m).1 ≠ 0) (hgood : ∀ j d, j < m → C[j]? = some d → (blockT t j).2.length ≤ d.length) (hm : m < C.length) : ∀ (f i : Nat), i ≤ m → m < i + f → (scanG t k f i).2.length ≤ (C.drop i).flatten.length
  | 0, i, h1, h2 => by omega
  | f + 1, i, h1, h2 => by
    unfold scanG
    by_cases h : (blockT t i).1 ≠ 0
    · rw [if_pos h]; exact Nat.zero_le _
    · rw [if_neg h]
      have hij : i ≠ m := fun e => h (e ▸ hbad)
      have hil : i < C.length := by omega
      have hg := hgood i C[i] (by omega) (List.getElem?_eq_getElem hil)
      have ih := scanG_short hbad hgood hm f (i + 1) (by omega) (by omega) (k := k)
      rw [List.drop_eq_getElem_cons hil, List.flatten_cons, List.length_append, List.length_append]
      have hf : (fromE k (blockT t i).2).length ≤ (blockT t i).2.length := List.length_filter_le _ _
      omega
theorem spoilt_short {each per : Nat} {T : List Ent} {L : List UInt8} {p : Nat} (h1 : 1 ≤ each) (h2 : each ≤ 256) (h3 : 1 ≤ per) (h4 : per ≤ 32) (hl : T.length ≤ 3001) (hT : chkE T = 0) (h : Spoilt (tabB each per T) L p) :
    (openTab L).1 ≠ 0 ∨ (openTab L).1 = 0 ∧ (scanT (openTab L).2 []).1 ≠ 0 ∧ (scanT (openTab L).2 []).2.length ≤ T.length := by
  obtain ⟨hok, _⟩ := (chkE_ok T).1 hT
  have hsm := smallE_of hok
  have hr := (rises_of_okEs true [] hok).1
  obtain ⟨hfl, hcn⟩ := chunks_all (k := each) (by omega) T
  have htab : tabB each per T = blksB (chunks each T) ++ blkB (idxs 0 (chunks each T)) ++ crcd (filB per T) ++ crcd (footB (blksB (chunks each T)).length ((blksB (chunks each T)).length + (blkB (idxs 0 (chunks each T))).length) T.length) := rfl
  rw [htab] at h
  obtain ⟨C, hC⟩ : ∃ C, C = chunks each T := ⟨_, rfl⟩
  rw [← hC] at hfl hcn h
  have hcs : ∀ c ∈ C, smallE c ∧ 1 ≤ c.length ∧ c.length ≤ 65536 := fun c hc => ⟨fun x hx => hsm x (by rw [← hfl]; exact List.mem_flatten.2 ⟨c, hc, hx⟩), (hcn c hc).1, by have := (hcn c hc).2; omega⟩
  have hbl := blks_len C hcs
  rw [hfl] at hbl
  have hix := idxs_ok (C := C) (by rw [hfl]; exact hr) hcs (by omega) (by omega)
  have hop := opnS_blk hix
  have hpl := places_idxs (a := (blksB C).length) (by omega) C 0 (by omega)
  have hxs := idxs_small C 0 hcs (by omega)
  have hYl := blkB_len hxs (by rw [idxs_len]; omega)
  rw [idxs_len] at hYl
  have hxr := idxs_rises C 0 (by rw [hfl]; exact hr) fun c hc => (hcs c hc).2.1
  have hem : (idxs 0 C).isEmpty = T.isEmpty := by
    cases C with
    | nil => rw [← hfl]; rfl
    | cons c C =>
      have hc := hcs c (by simp)
      rw [← hfl]
      cases c with
      | nil => simp at hc
      | cons x c => rfl
  have hcount : ¬ ((idxs 0 C).isEmpty = true ∧ 0 < T.length ∨ (idxs 0 C).isEmpty = false ∧ T.length = 0) := by
    rw [hem]
    cases T with
    | nil => simp
    | cons x T => simp
  obtain ⟨R', E', rfl, hRl, hEl, hs⟩ := h.split
  clear h
  rcases hs with ⟨hs1, rfl⟩ | ⟨rfl, hs1⟩
  rotate_left
  · exact .inl (open_foot rfl hs1)
  obtain ⟨Q', V', rfl, hQl, hVl, hs⟩ := hs1.split
  clear hs1
  rcases hs with ⟨hs2, rfl⟩ | ⟨rfl, hs2⟩
  rotate_left
  · refine .inl ?_
    rw [open_parts (S := blksB C) (Y := blkB (idxs 0 C)) (by omega) (by omega), hop]
    simp only [hpl, crcd_spoilt hs2]
    rw [if_neg (by simp), if_neg (by simp), if_neg hcount, if_pos (by decide)]
    decide
  obtain ⟨S', Y', rfl, hSl, hYl2, hs⟩ := hs2.split
  clear hs2
  rcases hs with ⟨hs3, rfl⟩ | ⟨rfl, hs3⟩
  rotate_left
  · refine .inl ?_
    have he := opnS_spoilt hs3
    rw [← hYl2, open_parts (S := blksB C) (Y := Y') (by omega) (by omega), if_pos he]
    exact he
  · rw [← hSl, open_parts (S := S') (Y := blkB (idxs 0 C)) (by omega) (by omega), hop, hSl]
    simp only [hpl, (take_crcd (filB per T)).1]
    rw [if_neg (by simp), if_neg (by simp), if_neg hcount, if_neg (by simp)]
    by_cases ho : openE (takeT (crcd (filB per T))) ≠ 0
    · rw [if_pos ho]; exact .inl ho
    · rw [if_neg ho]
      refine .inr ⟨rfl, ?_⟩
      obtain ⟨i, q, c, B, hi, hsp, hB, hBef⟩ := blks_spoilt2 hs3
      unfold scanT
      simp only [idxs_keys, idxs_len]
      rw [from_nil hxr]
      have hlt := (List.getElem?_eq_some_iff.1 hi).1
      have e1 := offs_at C 0 i c hi
      have e2 := opnS_spoilt hsp
      have hbad : ∀ t : Tab, t.places = offs 0 C → (∃ R, t.bytes = S' ++ R) → (blockT t i).1 ≠ 0 := fun t h1 ⟨R, h2⟩ => by
        unfold blockT
        simp only [h1, h2, List.getD_eq_getElem?_getD, e1, Option.getD_some, Nat.zero_add, hB]
        rw [if_pos e2]
        exact e2
      have hgood : ∀ (t : Tab), t.places = offs 0 C → (∃ R, t.bytes = S' ++ R) → ∀ j d, j < i → C[j]? = some d → (blockT t j).2.length ≤ d.length := fun t h1 ⟨R, h2⟩ j d hj hd => by
        have e3 := offs_at C 0 j d hd
        have hch : chkE d = 0 := by
          have hdm : d ∈ C := List.mem_of_getElem? hd
          exact part_ok (by rw [hfl]; exact hok) hdm (by have := (hcs d hdm).2; omega)
        have h4 := opnS_blk hch
        unfold blockT
        simp only [h1, h2, List.getD_eq_getElem?_getD, e3, Option.getD_some, Nat.zero_add, hBef j d hj hd, h4]
        rw [if_neg (by decide)]
        split
        · exact Nat.zero_le _
        · exact Nat.le_refl _
      refine ⟨scanG_err _ 0 i (by omega) (by omega) (hbad _ rfl ⟨blkB (idxs 0 C) ++ crcd (filB per T) ++ crcd (footB (blksB C).length ((blksB C).length + (blkB (idxs 0 C)).length) T.length), by simp only [List.append_assoc]⟩), ?_⟩
      have h5 := scanG_short (k := []) (C := C) (m := i) (t := ⟨S' ++ blkB (idxs 0 C) ++ crcd (filB per T) ++ crcd (footB (blksB C).length ((blksB C).length + (blkB (idxs 0 C)).length) T.length), idxs 0 C, offs 0 C, openH (takeT (crcd (filB per T))), openT (takeT (crcd (filB per T))), T.length⟩) (hbad _ rfl ⟨blkB (idxs 0 C) ++ crcd (filB per T) ++ crcd (footB (blksB C).length ((blksB C).length + (blkB (idxs 0 C)).length) T.length), by simp only [List.append_assoc]⟩) (fun j d hj hd => hgood _ rfl ⟨blkB (idxs 0 C) ++ crcd (filB per T) ++ crcd (footB (blksB C).length ((blksB C).length + (blkB (idxs 0 C)).length) T.length), by simp only [List.append_assoc]⟩ j d hj hd) hlt (C.length - 0) 0 (by omega) (by omega)
      rw [List.drop_zero, hfl] at h5
      simpa [(take_crcd (filB per T)).2] using h5
end Go.Proofs.YteejldddgogbkaaDoor
