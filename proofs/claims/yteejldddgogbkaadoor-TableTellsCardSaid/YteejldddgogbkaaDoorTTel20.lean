/- Texts for layer 9, put together: TableIndex, TableFootIn, TableOpen, TableAwake -/
import Derived.Test.YteejldddgogbkaaDoorTTel19
import Derived.Test.YteejldddgogbkaaDoorTTel07
import Derived.Test.YteejldddgogbkaaDoorTTel14
import Derived.Test.YteejldddgogbkaaDoorTTel17
/- The index, read. -/
set_option linter.unusedVariables false
set_option maxRecDepth 100000
namespace Go.Proofs.YteejldddgogbkaaDoor
open Go.RowKit

/-- A row of pieces that is being filled. -/
def FillP (G n : Nat) (Q : List Pc) (w : World) : Prop :=
  ∃ cur, w.heap[G]? = some (.cells cur 107 (0, 0)) ∧ cur.size = n * 3 ∧ ∀ j x, Q[j]? = some x → cur[j * 3]? = some (.string (bs x.1)) ∧ cur[j * 3 + 1]? = some (.int .i64 (x.2.1 : Int)) ∧ cur[j * 3 + 2]? = some (.int .i64 (x.2.2 : Int))
theorem FillP.cells {G n : Nat} {Q : List Pc} {w : World} (h : FillP G n Q w) {k : Nat} (hk : k < n * 3) : (∃ v, w.cell? ⟨G, k, none⟩ = some v) ∧ w.frozen? ⟨G, k, none⟩ = false := by
  obtain ⟨cur, h1, h2, _⟩ := h
  refine ⟨⟨cur[k]'(by omega), ?_⟩, by simp [World.frozen?, h1]⟩
  simp only [World.cell?, h1]
  exact Array.getElem?_eq_getElem _
theorem FillP.put {G n : Nat} {Q : List Pc} {w : World} (h : FillP G n Q w) (hi : Q.length < n) (x : Pc) : FillP G n (Q ++ [x]) (((w.setCell ⟨G, Q.length * 3, none⟩ (.string (bs x.1))).setCell ⟨G, Q.length * 3 + 1, none⟩ (.int .i64 (x.2.1 : Int))).setCell ⟨G, Q.length * 3 + 2, none⟩ (.int .i64 (x.2.2 : Int))) := by
  obtain ⟨cur, h1, h2, h3⟩ := h
  have s1 := heap_set (o := Q.length * 3) h1 (.string (bs x.1))
  have s2 := heap_set (o := Q.length * 3 + 1) s1 (.int .i64 (x.2.1 : Int))
  have s3 := heap_set (o := Q.length * 3 + 2) s2 (.int .i64 (x.2.2 : Int))
  refine ⟨_, s3, by simp [h2], fun j y hy => ?_⟩
  simp only [Array.getElem?_setIfInBounds, Array.size_setIfInBounds, h2]
  by_cases hji : j = Q.length
  · subst hji
    rw [List.getElem?_append_right (Nat.le_refl _), Nat.sub_self] at hy
    injection hy with hy
    subst hy
    refine ⟨?_, ?_, ?_⟩
    · rw [if_neg (by omega), if_neg (by omega), if_pos rfl, if_pos (by omega)]
    · rw [if_neg (by omega), if_pos rfl, if_pos (by omega)]
    · rw [if_pos rfl, if_pos (by omega)]
  · have hjl : j < Q.length := by
      have := (List.getElem?_eq_some_iff.1 hy).1
      rw [List.length_append, List.length_singleton] at this
      omega
    rw [List.getElem?_append_left hjl] at hy
    obtain ⟨a, b, c⟩ := h3 j y hy
    refine ⟨?_, ?_, ?_⟩
    · rw [if_neg (by omega), if_neg (by omega), if_neg (by omega)]; exact a
    · rw [if_neg (by omega), if_neg (by omega), if_neg (by omega)]; exact b
    · rw [if_neg (by omega), if_neg (by omega), if_neg (by omega)]; exact c
theorem FillP.keep {G n : Nat} {Q : List Pc} {w w' : World} (h : FillP G n Q w) (k : Below w.heap.size w w') : FillP G n Q w' := by
  obtain ⟨cur, h1, h2⟩ := h
  exact ⟨cur, (k.block G (heap_lt h1)).trans h1, h2⟩
theorem FillP.full {G p : Nat} {Q : List Pc} {w : World} (h : FillP G Q.length Q w) (hp : G < p) : IsP w p (some ⟨G, 0, none⟩) Q.length Q := by
  obtain ⟨cur, h1, h2, h3⟩ := h
  refine ⟨rfl, G, 0, hp, .inr rfl, fun k hk => ?_⟩
  obtain ⟨a, b, c⟩ := h3 k _ (List.getElem?_eq_getElem hk)
  rw [Nat.zero_add]
  exact ⟨heap_lt h1, by simp only [World.cell?, h1]; exact a, by simp only [World.cell?, h1]; exact b, by simp only [World.cell?, h1]; exact c⟩
theorem infoP : (Tryd.prog.info? 107).map (fun i => (i.zero, i.size, i.bytes)) = some (some (.agg #[.string ByteArray.empty, .int .i64 0, .int .i64 0]), 3, 32) := by kernel_rfl
theorem step_abs {α : Type} (c1 c2 : Int) (p : Prop) [Decidable p] (R : Int × List α) : (if c1 ≠ 0 then (c1, []) else if c2 ≠ 0 then (c2, []) else if p then (3, []) else R) = if (if c1 ≠ 0 then c1 else if c2 ≠ 0 then c2 else if p then 3 else 0) ≠ 0 then ((if c1 ≠ 0 then c1 else if c2 ≠ 0 then c2 else if p then 3 else 0), []) else R := by
  by_cases h1 : c1 = 0 <;> by_cases h2 : c2 = 0 <;> by_cases h3 : p <;> simp [h1, h2, h3]
/-- The step of the places. -/
theorem places_step {a n : Nat} {x : Ent} {X : List Ent} : placesL a n (x :: X) = if pieceE x.val n a ≠ 0 then (pieceE x.val n a, []) else
    ((placesL a (n + (cn (x.val.drop (ck x.val))).toNat) X).1, if (placesL a (n + (cn (x.val.drop (ck x.val))).toNat) X).1 = 0 then (n, (cn (x.val.drop (ck x.val))).toNat) :: (placesL a (n + (cn (x.val.drop (ck x.val))).toNat) X).2 else []) := by
  unfold pieceE
  rw [placesL]
  exact step_abs _ _ _ _
/-- What reading the index tells. -/
def idxZ (X : List Ent) (a n : Nat) : Int :=
  if (placesL a 0 X).1 ≠ 0 then (placesL a 0 X).1 else if X.isEmpty = true ∧ 0 < n ∨ X.isEmpty = false ∧ n = 0 then 3 else 0
def pcsOf (X : List Ent) (P : List (Nat × Nat)) : List Pc := (X.map (·.key)).zip P
structure IdxPost (x : List UInt8) (a n : Nat) (w : World) (e : Ending) (w' : World) : Prop where
  out : ((opnS x).1 ≠ 0 ∧ e = .returned (.tuple #[.slice none 0 0, .int .i64 (opnS x).1])) ∨ ((opnS x).1 = 0 ∧ idxZ (opnS x).2 a n ≠ 0 ∧ e = .returned (.tuple #[.slice none 0 0, .int .i64 (idxZ (opnS x).2 a n)])) ∨
    ((opnS x).1 = 0 ∧ idxZ (opnS x).2 a n = 0 ∧ ∃ G, e = .returned (.tuple #[.slice (some ⟨G, 0, none⟩) (opnS x).2.length (opnS x).2.length, .int .i64 0]) ∧ FillP G (opnS x).2.length (pcsOf (opnS x).2 (placesL a 0 (opnS x).2).2) w')
  bel : Below w.heap.size w w'
/-- Where reading stands: i entries are gone through, the next block begins at n. -/
structure At9 (a : Nat) (X : List Ent) (i n : Nat) (Q : List (Nat × Nat)) : Prop where
  len : Q.length = i
  err : (placesL a 0 X).1 = (placesL a n (X.drop i)).1
  got : (placesL a n (X.drop i)).1 = 0 → (placesL a 0 X).2 = Q ++ (placesL a n (X.drop i)).2
  le : n ≤ a
theorem At9.start (a : Nat) (X : List Ent) : At9 a X 0 0 [] := ⟨rfl, rfl, fun _ => rfl, Nat.zero_le _⟩
theorem At9.bad {a i n : Nat} {X : List Ent} {Q : List (Nat × Nat)} {x : Ent} (h : At9 a X i n Q) (hx : X[i]? = some x) (hz : pieceE x.val n a ≠ 0) : (placesL a 0 X).1 = pieceE x.val n a := by
  have hi := (List.getElem?_eq_some_iff.1 hx)
  rw [h.err, List.drop_eq_getElem_cons hi.1, hi.2, places_step, if_pos hz]
theorem piece_le {v : List UInt8} {n a : Nat} (h : pieceE v n a = 0) : n + (cn (v.drop (ck v))).toNat ≤ a ∧ 0 ≤ cn (v.drop (ck v)) := by
  unfold pieceE at h
  split at h
  · rename_i h0; exact absurd h h0
  split at h
  · rename_i h0; exact absurd h h0
  split at h
  · cases h
  · rename_i h1 h2 h3
    have h2' : ce (v.drop (ck v)) = 0 := Decidable.of_not_not h2
    have hc := cn_of' h2'
    omega
theorem At9.next {a i n : Nat} {X : List Ent} {Q : List (Nat × Nat)} {x : Ent} (h : At9 a X i n Q) (hx : X[i]? = some x) (hz : pieceE x.val n a = 0) : At9 a X (i + 1) (n + (cn (x.val.drop (ck x.val))).toNat) (Q ++ [(n, (cn (x.val.drop (ck x.val))).toNat)]) := by
  have hi := (List.getElem?_eq_some_iff.1 hx)
  have hst := places_step (a := a) (n := n) (x := x) (X := X.drop (i + 1))
  rw [if_neg (fun e => e hz)] at hst
  have hd : X.drop i = x :: X.drop (i + 1) := by rw [List.drop_eq_getElem_cons hi.1, hi.2]
  have e1 : (placesL a n (X.drop i)).1 = (placesL a (n + (cn (x.val.drop (ck x.val))).toNat) (X.drop (i + 1))).1 := by rw [hd, hst]
  refine ⟨by rw [List.length_append, h.len]; rfl, h.err.trans e1, fun h0 => ?_, (piece_le hz).1⟩
  rw [h.got (e1.trans h0), hd, hst, if_pos h0, List.append_assoc]
  rfl
theorem At9.fin {a n : Nat} {X : List Ent} {Q : List (Nat × Nat)} (h : At9 a X X.length n Q) : (placesL a 0 X).1 = (if n = a then 0 else 3) ∧ (n = a → (placesL a 0 X).2 = Q) := by
  have h1 := h.err
  have h2 := h.got
  have hp : placesL a n [] = if n = a then (0, []) else (3, []) := by rw [placesL]
  rw [List.drop_length, hp] at h1 h2
  by_cases hn : n = a
  · rw [if_pos hn] at h1 h2
    rw [if_pos hn]
    exact ⟨h1, fun _ => by rw [h2 rfl, List.append_nil]⟩
  · rw [if_neg hn] at h1
    rw [if_neg hn]
    exact ⟨h1, fun e => absurd e hn⟩
theorem IdxPost.bad {s : List UInt8} {a n : Nat} {w w' : World} {z : Int} {X : List Ent} {o : Int × List Ent} (ho : o = opnS s) (h0 : o.1 = 0) (hX : X = o.2) (hz : idxZ X a n = z) (hz0 : z ≠ 0) (hb : Below w.heap.size w w') : IdxPost s a n w (.returned (.tuple #[.slice none 0 0, .int .i64 z])) w' := by
  subst ho hX hz
  exact ⟨.inr (.inl ⟨h0, hz0, rfl⟩), hb⟩
theorem IdxPost.good {s : List UInt8} {a n G m : Nat} {w w' : World} {X : List Ent} {o : Int × List Ent} (ho : o = opnS s) (h0 : o.1 = 0) (hX : X = o.2) (hm : m = X.length) (hz : idxZ X a n = 0) (hf : FillP G m (pcsOf X (placesL a 0 X).2) w') (hb : Below w.heap.size w w') : IdxPost s a n w (.returned (.tuple #[.slice (some ⟨G, 0, none⟩) m m, .int .i64 0])) w' := by
  subst ho hX hm
  exact ⟨.inr (.inr ⟨h0, hz, G, rfl, hf⟩), hb⟩
set_option maxHeartbeats 4000000 in
theorem table_readIndex (a b n F : Nat) (c : Array Value) (K : List (Nat × Obj)) (L : List UInt8) (w : World) (hs : Hid (Src F c K 0 L)) (hk : Hid (Keep K w)) (hab : a ≤ b) (hb : b ≤ L.length) (hl : L.length ≤ 100000000000) (hn : n < 4294967296) :
    Calls Tryd.prog 33 #[fv3 a b n, srcV F c] w (IdxPost ((L.take b).drop a) a n w) := by
  obtain ⟨Z, hZ⟩ : ∃ Z, Z = w.heap.size := ⟨_, rfl⟩
  obtain ⟨w1, hw1⟩ : ∃ w1, w1 = w.alloc (.cells #[.int .i64 (a : Int), .int .i64 (b : Int), .int .i64 (n : Int)] 59) := ⟨_, rfl⟩
  have K1 := Lib.hid (show Below Z w w1 by rw [hw1, hZ]; exact (Below.refl _ _).alloc (Nat.le_refl _) _)
  have C1 := Lib.hid (show C3 Z 59 (.int .i64 (a : Int)) (.int .i64 (b : Int)) (.int .i64 (n : Int)) w1 by rw [hw1, hZ]; exact heap_new w _)
  have hC := hs.out.calls w1 (hk.out.below (by have := K1.out; rw [hZ] at this; exact this)) a (b - a) (by omega)
  have eF := hs.out.enters
  unfold Enters at eF
  rw [if_pos rfl] at hC
  obtain ⟨s, hs'⟩ : ∃ s, s = (L.take b).drop a := ⟨_, rfl⟩
  have hse : (L.drop a).take (b - a) = s := by rw [hs', List.drop_take]
  rw [← hs']
  rw [hse] at hC
  have hsl : s.length ≤ 100000000000 := by rw [hs', List.length_drop, List.length_take]; omega
  have hop := fun W => block_Open s W hsl
  obtain ⟨o, ho⟩ : ∃ o, o = opnS s := ⟨_, rfl⟩
  have hfew : o.1 = 0 → o.2.length ≤ 65536 ∧ smallE o.2 := fun h0 => by
    rw [ho] at h0 ⊢
    have h1 := (chkE_ok _).1 (pack_open h0).1
    exact ⟨h1.2, smallE_of h1.1⟩
  have HO := Lib.hid ho
  have HOP := Lib.hid hop
  have HF := Lib.hid hfew
  have HW1 := Lib.hid hw1
  have HZ := Lib.hid hZ
  have hsub : (b : Int) - (a : Int) = ((b - a : Nat) : Int) := by omega
  have c0 := C1.out.c0
  have c1 := C1.out.c1
  have hab2 : IntKind.i64.wrap ((b : Int) - (a : Int)) = ((b - a : Nat) : Int) := by rw [IntWalk.i64_in _ (by omega), hsub]
  obtain ⟨ba, hba⟩ : ∃ ba, ba = b - a := ⟨_, rfl⟩
  rw [← hba] at hC hsub hab2
  unfold srcV fv3
  clear hw1 hZ hs' hse hop hfew ho hba
  by_cases h0 : o.1 = 0
  · obtain ⟨hm, hsm⟩ := HF.out h0
    have H0 := Lib.hid h0
    obtain ⟨X, hX⟩ : ∃ X, X = o.2 := ⟨_, rfl⟩
    rw [← hX] at hm hsm
    obtain ⟨m, hmm⟩ : ∃ m, m = X.length := ⟨_, rfl⟩
    rw [← hmm] at hm
    have HX := Lib.hid hX
    have HM := Lib.hid hmm
    have HSM := Lib.hid hsm
    clear h0 hX hmm hsm HF
    go_enter Tryd.func33, Tryd.ntmps33
    go_upto_region 1 with (fail)
    rw [← HZ.out, ← HW1.out]
    go_wp2_with fail
    refine hC.mono ?_
    rintro e w2 ⟨rfl, k2⟩
    have C2 := Lib.hid (C1.out.below k2)
    have K2 := Lib.hid (K1.out.trans (k2.mono (by have := K1.out.size; rw [← HZ.out] at this; exact this)))
    clear k2 hC eF c0 c1
    go_wp2_with fail
    refine (HOP.out w2).mono ?_
    rintro e w3 ⟨⟨xa, xc, he, hxc, hxe⟩, k3⟩
    rw [← HO.out, H0.out, ← HX.out, ← HM.out] at he
    rw [← HO.out, ← HX.out, ← HM.out] at hxc hxe
    subst he
    have C3' := Lib.hid (C2.out.below k3)
    have K3 := Lib.hid (K2.out.trans (k3.mono (by have := K2.out.size; rw [← HZ.out] at this; exact this)))
    have E3 := Lib.hid hxe
    clear k3 hxe
    obtain ⟨i0, hi, hz0, hz1, hz2⟩ := info_parts infoP
    go_wp2_with (at_make; refine wpList_make_full w3 rfl _ _ 73 rfl w3.heap.size 107 i0 _ 3 Tryd.underlying73 hi hz0 hz1 _ _ _ _ m rfl rfl rfl rfl ?b1 ?b2 ?b3 ?_)
    case b1 => rw [hz2]; omega
    case b2 => unfold maxLen; omega
    case b3 => exact Nat.le_refl _
    intro wm hown hgr
    have F0 := Lib.hid (show FillP w3.heap.size m [] wm by
      rcases hown.2 with ⟨h, _⟩ | ⟨g, c, cur, h, _, hg, _, _, hsz, _⟩
      · cases h
      · injection h with h hn hc
        injection h with h
        injection h with h
        subst h
        exact ⟨cur, hg, by omega, fun j x hj => by simp at hj⟩)
    have Bm := Lib.hid (show Below w3.heap.size w3 wm from (Below.refl _ _).grown hgr (Nat.le_refl _) (fun k hk => by cases hk))
    clear hown hgr hi hz0 hz1 hz2
    obtain ⟨G, hG⟩ : ∃ G, G = w3.heap.size := ⟨_, rfl⟩
    rw [← hG] at F0 ⊢
    have Cm := Lib.hid (C3'.out.below Bm.out)
    have Em := Lib.hid (E3.out.below Bm.out)
    have ZG := Lib.hid (show Z < G ∧ G < wm.heap.size from ⟨by rw [hG]; exact heap_lt C3'.out, by obtain ⟨cur, h, _⟩ := F0.out; exact heap_lt h⟩)
    have EG := Lib.hid (show ∀ w', Below G wm w' → IsE w' xa m X from fun w' hk => E3.out.below (by rw [← hG]; exact (show Below G w3 wm by rw [hG]; exact Bm.out).trans hk))
    have Km := Lib.hid (show Below Z w wm from K3.out.trans (Bm.out.mono (by rw [← hG]; exact Nat.le_of_lt ZG.out.1)))
    clear hG Bm
    go_wp2_with fail
    go_loopw [10, 41] (fun en iv wr => ∃ (i e : Nat) (Q : List (Nat × Nat)), i ≤ m ∧ iv = .int .i64 (i : Int) ∧ en = .int .i64 (e : Int) ∧ Hid (At9 a X i e Q) ∧ Hid (FillP G m ((X.map (·.key)).take i |>.zip Q) wr) ∧ Hid (Below G wm wr)) (fun en iv wr => m - (intOf iv).toNat)
    case atStart => exact ⟨0, 0, [], by omega, rfl, rfl, Lib.hid (At9.start a X), Lib.hid (by rw [List.take_zero]; exact F0.out), Lib.hid (Below.refl _ _)⟩
    case round =>
      obtain ⟨i, en, Q, hi, rfl, rfl, hA, hFl, hB⟩ := hrel
      have hce := Cm.out
      have cf : wr.cell? ⟨Z, 0, none⟩ = some (.int .i64 (a : Int)) := by rw [hB.out.cell (p := ⟨Z, 0, none⟩) ZG.out.1]; exact Cm.out.c0
      have hQl := Lib.hid (show (((X.map (·.key)).take i).zip Q).length = i by rw [List.length_zip, List.length_take, List.length_map, hA.out.len, ← HM.out]; omega)
      have hena := hA.out.le
      rcases Nat.lt_or_ge i m with hlt | hge
      · obtain ⟨b1, off1, x, rfl, hx, _, hcx⟩ := (EG.out wr hB.out).at hlt
        have d0 := hcx.c0
        have d1 := hcx.c1
        have d2 := hcx.c2
        have hxs := (HSM.out x (List.mem_of_getElem? hx)).2
        have hlt' : (i : Int) < (m : Int) := by omega
        have hltd : decide ((i : Int) < (m : Int)) = true := decide_eq_true hlt'
        obtain ⟨w4, hw4⟩ : ∃ w4, w4 = wr.alloc (.cells #[.string (bs x.key), .string (bs x.val), .bool x.gone] 38) := ⟨_, rfl⟩
        have A4 := Lib.hid (show Below wr.heap.size wr w4 by rw [hw4]; exact (Below.refl _ _).alloc (Nat.le_refl _) _)
        have F4 := Lib.hid (hFl.out.keep A4.out)
        have hGw := Lib.hid (show G ≤ wr.heap.size from Nat.le_trans (Nat.le_of_lt ZG.out.2) hB.out.size)
        have B4 := Lib.hid (hB.out.trans (A4.out.mono hGw.out))
        have C4 := Lib.hid (show C3 wr.heap.size 38 (.string (bs x.key)) (.string (bs x.val)) (.bool x.gone) w4 by rw [hw4]; exact heap_new wr _)
        have cf4 : w4.cell? ⟨Z, 0, none⟩ = some (.int .i64 (a : Int)) := by rw [A4.out.cell (p := ⟨Z, 0, none⟩) (by have := hGw.out; have := ZG.out.1; show Z < wr.heap.size; omega)]; exact cf
        have g0 := C4.out.c0
        have g1 := C4.out.c1
        have g2 := C4.out.c2
        have hpc := table_openPiece x en a w4 (by omega) hena (by omega)
        obtain ⟨z, hz⟩ : ∃ z, z = pieceE x.val en a := ⟨_, rfl⟩
        rw [← hz] at hpc
        have HPC := Lib.hid hpc
        have HXi := Lib.hid hx
        have HZz := Lib.hid hz
        have HW4 := Lib.hid hw4
        clear hw4 hpc hx hz hcx cf
        go_upto_region 12 with (fail)
        rw [← HW4.out]
        go_wp2_with fail
        refine HPC.out.mono ?_
        rintro e w5 ⟨rfl, k5⟩
        have F5 := Lib.hid (F4.out.keep k5)
        have B5 := Lib.hid (B4.out.trans (k5.mono (by have := A4.out.size; have := hGw.out; omega)))
        clear k5 cf4 g0 g1 g2 d0 d1 d2
        obtain ⟨⟨v0, f0⟩, z0⟩ := F5.out.cells (k := i * 3) (by omega)
        obtain ⟨⟨v1, f1⟩, z1⟩ := F5.out.cells (k := i * 3 + 1) (by omega)
        obtain ⟨⟨v2, f2⟩, z2⟩ := F5.out.cells (k := i * 3 + 2) (by omega)
        by_cases hz9 : z = 0
        · subst hz9
          rw [if_pos rfl]
          obtain ⟨sz, hsz⟩ : ∃ sz, sz = (cn (x.val.drop (ck x.val))).toNat := ⟨_, rfl⟩
          have hle := (piece_le HZz.out.symm).1
          rw [← hsz] at hle ⊢
          have hAn := Lib.hid (hA.out.next HXi.out HZz.out.symm)
          rw [← hsz] at hAn
          unfold pv3
          have F6 := Lib.hid (F5.out.put (by rw [hQl.out]; exact hlt) (x.key, en, sz))
          rw [hQl.out] at F6
          have hzip := Lib.hid (show ((X.map (·.key)).take i).zip Q ++ [(x.key, en, sz)] = ((X.map (·.key)).take (i + 1)).zip (Q ++ [(en, sz)]) by
            have h1 : (X.map (·.key)).take (i + 1) = (X.map (·.key)).take i ++ [x.key] := by rw [List.take_add_one, List.getElem?_map, HXi.out]; rfl
            rw [h1, List.zip_append (by rw [List.length_take, List.length_map, hA.out.len, ← HM.out]; omega)]
            rfl)
          obtain ⟨w6, hw6⟩ : ∃ w6, w6 = ((w5.setCell ⟨G, i * 3, none⟩ (.string (bs x.key))).setCell ⟨G, i * 3 + 1, none⟩ (.int .i64 (en : Int))).setCell ⟨G, i * 3 + 2, none⟩ (.int .i64 (sz : Int)) := ⟨_, rfl⟩
          have F6' := Lib.hid (show FillP G m (((X.map (·.key)).take (i + 1)).zip (Q ++ [(en, sz)])) w6 by rw [← hzip.out, hw6]; exact F6.out)
          have B6 := Lib.hid (show Below G wm w6 by rw [hw6]; exact ((B5.out.setCell (p := ⟨G, i * 3, none⟩) (Nat.le_refl _) _).setCell (p := ⟨G, i * 3 + 1, none⟩) (Nat.le_refl _) _).setCell (p := ⟨G, i * 3 + 2, none⟩) (Nat.le_refl _) _)
          have s6 : w6.cell? ⟨G, i * 3 + 2, none⟩ = some (.int .i64 (sz : Int)) := by
            obtain ⟨cur, h1, h2, h3⟩ := F6.out
            rw [← hw6] at h1
            have h4 := (h3 i (x.key, en, sz) (by rw [List.getElem?_append_right (by rw [hQl.out]; exact Nat.le_refl _), hQl.out, Nat.sub_self]; rfl)).2.2
            simp only [World.cell?, h1]
            exact h4
          have HW6 := Lib.hid hw6
          clear hw6 hsz F6 hzip
          go_upto_region 13 with (fail)
          rw [← HW6.out]
          clear f0 f1 f2 z0 z1 z2
          go_wp2_with fail
          go_roundw
          case rel => exact ⟨i + 1, en + sz, Q ++ [(en, sz)], by omega, by go_num, by go_num, hAn, F6', B6⟩
          case measure => simp [intOf]; omega
        · have hzz : (z == 0) = false := beq_eq_false_iff_ne.2 hz9
          have hbad := Lib.hid (hA.out.bad HXi.out (by rw [← HZz.out]; exact hz9))
          rw [if_neg hz9]
          unfold pv3
          have HZ9 := Lib.hid hz9
          clear hz9
          go_wp2_with fail
          go_ret2
          exact IdxPost.bad HO.out H0.out HX.out (by unfold idxZ; rw [if_pos (by rw [hbad.out, ← HZz.out]; exact HZ9.out), hbad.out, ← HZz.out]) HZ9.out (by
            have h1 := Km.out.trans (B5.out.mono (Nat.le_of_lt ZG.out.1))
            rw [← HZ.out]
            exact ((h1.setCell (p := ⟨G, i * 3, none⟩) (Nat.le_of_lt ZG.out.1) _).setCell (p := ⟨G, i * 3 + 1, none⟩) (Nat.le_of_lt ZG.out.1) _).setCell (p := ⟨G, i * 3 + 2, none⟩) (Nat.le_of_lt ZG.out.1) _)
      · obtain rfl : i = m := by omega
        have hAe := hA.out
        rw [HM.out] at hAe
        obtain ⟨hf1, hf2⟩ := hAe.fin
        have Kr := Lib.hid (show Below w.heap.size w wr by rw [← HZ.out]; exact Km.out.trans (hB.out.mono (Nat.le_of_lt ZG.out.1)))
        have cf2 : wr.cell? ⟨Z, 2, none⟩ = some (.int .i64 (n : Int)) := by rw [hB.out.cell (p := ⟨Z, 2, none⟩) ZG.out.1]; exact Cm.out.c2
        have hemp : X.isEmpty = decide (i = 0) := by rw [HM.out]; cases X <;> simp
        clear hAe
        by_cases hea : en = a
        · have hall := Lib.hid (hf2 hea)
          rw [if_pos hea] at hf1
          have hF1 := Lib.hid hf1
          have heb : ((en : Int) == (a : Int)) = true := by rw [hea]; exact beq_iff_eq.2 rfl
          have hei : (en : Int) = (a : Int) := by rw [hea]
          clear hf1 hf2 hea
          by_cases hi0 : i = 0
          · by_cases hn0 : n = 0
            · have hib : ((i : Int) == 0) = true := by rw [hi0]; rfl
              have hnb : ((n : Int) == 0) = true := by rw [hn0]; rfl
              have hii : (i : Int) = 0 := by omega
              have hnn : (n : Int) = 0 := by omega
              have hzz := Lib.hid (show idxZ X a n = 0 by unfold idxZ; rw [if_neg (by rw [hF1.out]; decide), hemp, if_neg (by simp [hi0, hn0])])
              clear hemp hi0 hn0
              go_wp2_with fail
              go_ret2
              exact IdxPost.good HO.out H0.out HX.out HM.out hzz.out (by have := hFl.out; rw [HM.out, ← List.length_map (f := (·.key)), List.take_length] at this; rw [hall.out, HM.out, ← List.length_map (f := (·.key))]; exact this) Kr.out
            · have hib : ((i : Int) == 0) = true := by rw [hi0]; rfl
              have hnb : ((n : Int) == 0) = false := beq_eq_false_iff_ne.2 (by omega)
              have hii : (i : Int) = 0 := by omega
              have hnn : ¬ (n : Int) = 0 := by omega
              have hzz := Lib.hid (show idxZ X a n = 3 by unfold idxZ; rw [if_neg (by rw [hF1.out]; decide), hemp, if_pos (by simp [hi0, hn0]; omega)])
              clear hemp hi0 hn0
              go_wp2_with fail
              go_ret2
              exact IdxPost.bad HO.out H0.out HX.out hzz.out (by decide) Kr.out
          · by_cases hn0 : n = 0
            · have hib : ((i : Int) == 0) = false := beq_eq_false_iff_ne.2 (by omega)
              have hnb : ((n : Int) == 0) = true := by rw [hn0]; rfl
              have hii : ¬ (i : Int) = 0 := by omega
              have hnn : (n : Int) = 0 := by omega
              have hzz := Lib.hid (show idxZ X a n = 3 by unfold idxZ; rw [if_neg (by rw [hF1.out]; decide), hemp, if_pos (by simp [hi0, hn0])])
              clear hemp hi0 hn0
              go_wp2_with fail
              go_ret2
              exact IdxPost.bad HO.out H0.out HX.out hzz.out (by decide) Kr.out
            · have hib : ((i : Int) == 0) = false := beq_eq_false_iff_ne.2 (by omega)
              have hnb : ((n : Int) == 0) = false := beq_eq_false_iff_ne.2 (by omega)
              have hii : ¬ (i : Int) = 0 := by omega
              have hnn : ¬ (n : Int) = 0 := by omega
              have hzz := Lib.hid (show idxZ X a n = 0 by unfold idxZ; rw [if_neg (by rw [hF1.out]; decide), hemp, if_neg (by simp [hi0, hn0])])
              clear hemp hi0 hn0
              go_wp2_with fail
              go_ret2
              exact IdxPost.good HO.out H0.out HX.out HM.out hzz.out (by have := hFl.out; rw [HM.out, ← List.length_map (f := (·.key)), List.take_length] at this; rw [hall.out, HM.out, ← List.length_map (f := (·.key))]; exact this) Kr.out
        · rw [if_neg hea] at hf1
          have hzz := Lib.hid (show idxZ X a n = 3 by unfold idxZ; rw [if_pos (by rw [hf1]; decide), hf1])
          have heb : ((en : Int) == (a : Int)) = false := beq_eq_false_iff_ne.2 (by omega)
          have hei : ¬ (en : Int) = (a : Int) := by omega
          clear hf1 hf2 hea hemp
          go_wp2_with fail
          go_ret2
          exact IdxPost.bad HO.out H0.out HX.out hzz.out (by decide) Kr.out
  · have hz0 : (o.1 == 0) = false := beq_eq_false_iff_ne.2 h0
    have H0 := Lib.hid h0
    obtain ⟨z, hz⟩ : ∃ z, z = o.1 := ⟨_, rfl⟩
    have HZ1 := Lib.hid hz
    rw [← hz] at hz0
    clear h0 hz HF
    go_enter Tryd.func33, Tryd.ntmps33
    go_upto_region 1 with (fail)
    rw [← HZ.out, ← HW1.out]
    go_wp2_with fail
    refine hC.mono ?_
    rintro e w2 ⟨rfl, k2⟩
    have K2 := Lib.hid (K1.out.trans (k2.mono (by have := K1.out.size; rw [← HZ.out] at this; exact this)))
    clear k2 hC eF c0 c1
    go_wp2_with fail
    refine (HOP.out w2).mono ?_
    rintro e w3 ⟨⟨xa, xc, he, hxc, hxe⟩, k3⟩
    rw [← HO.out, ← HZ1.out] at he
    subst he
    have K3 := Lib.hid (K2.out.trans (k3.mono (by have := K2.out.size; rw [← HZ.out] at this; exact this)))
    obtain ⟨ol, hol⟩ : ∃ ol, ol = o.2.length := ⟨_, rfl⟩
    rw [← hol]
    clear k3 hxe hxc hol
    go_wp2_with fail
    go_ret2
    exact ⟨.inl ⟨by rw [← HO.out]; exact H0.out, by rw [← HO.out, ← HZ1.out]; rfl⟩, by rw [← HZ.out]; exact K3.out⟩
end Go.Proofs.YteejldddgogbkaaDoor
/- The foot, read; a table's filter, read. -/
set_option linter.unusedVariables false
set_option maxRecDepth 100000
namespace Go.Proofs.YteejldddgogbkaaDoor
open Go.RowKit

set_option maxHeartbeats 4000000 in
theorem readFoot_yes (n F : Nat) (c : Array Value) (K : List (Nat × Obj)) (L : List UInt8) (w : World) (hs : Hid (Src F c K 0 L)) (hk : Hid (Keep K w)) (hn : n + 16 = L.length) (hl : L.length ≤ 100000000000) (hz : Hid (takeE (L.drop n) = 0)) :
    Calls Tryd.prog 32 #[.int .i64 (n : Int), srcV F c] w fun e w' => e = .returned (.tuple #[fv3 (num4 (takeT (L.drop n))) (num4 ((takeT (L.drop n)).drop 4)) (num4 ((takeT (L.drop n)).drop 8)), .int .i64 0]) ∧ Below w.heap.size w w' := by
  obtain ⟨w1, hw1⟩ : ∃ w1, w1 = w.alloc (.cells #[.int .i64 0, .int .i64 0, .int .i64 0] 59) := ⟨_, rfl⟩
  have K1 := Lib.hid (show Below w.heap.size w w1 by rw [hw1]; exact (Below.refl _ _).alloc (Nat.le_refl _) _)
  have C1 := Lib.hid (show C3 w.heap.size 59 (.int .i64 0) (.int .i64 0) (.int .i64 0) w1 by rw [hw1]; exact heap_new w _)
  have hC := hs.out.calls w1 (hk.out.below K1.out) n 16 (by omega)
  have eF := hs.out.enters
  have HW1 := Lib.hid hw1
  unfold Enters at eF
  unfold srcV fv3
  rw [if_pos rfl] at hC
  obtain ⟨s, hs'⟩ : ∃ s, s = (L.drop n).take 16 := ⟨_, rfl⟩
  have hse : s = L.drop n := by rw [hs']; exact List.take_of_length_le (by rw [List.length_drop]; omega)
  have hsl : s.length = 16 := by rw [hse, List.length_drop]; omega
  rw [← hs'] at hC
  have htk2 := fun W => crc_Take (bs s) W (by rw [bs_size, hsl]; omega)
  simp only [bs_list] at htk2
  have htk := hz.out
  rw [← hse] at htk ⊢
  rw [htk] at htk2
  obtain ⟨l, hlt⟩ : ∃ l, l = takeT s := ⟨_, rfl⟩
  have hl12 : l.length = 12 := by rw [hlt]; exact takeT_twelve hsl htk
  rw [← hlt] at htk2 ⊢
  have HT := Lib.hid htk2
  have z12 : (bs l).size = 12 := by rw [bs_size, hl12]
  have x1 : (bs l).extract 0 4 = bs (l.take 4) := (take_split (n := 4) (by omega)).1
  have x2 : (bs l).extract 4 8 = bs ((l.drop 4).take 4) := bs_eq (by rw [Lib.extract_data, bs_list])
  have x3 : (bs l).extract 8 12 = bs (l.drop 8) := by have := (take_split (s := bs l) (n := 8) (by omega)).2; rw [z12] at this; exact this
  have HN1 := Lib.hid (fun (W : World) (m : Seen W) => by have h := seen_of (table_number (l.take 4) · (by rw [List.length_take]; omega)) W m; rw [num4_take] at h; exact h)
  have HN2 := Lib.hid (fun (W : World) (m : Seen W) => by have h := seen_of (table_number ((l.drop 4).take 4) · (by rw [List.length_take, List.length_drop]; omega)) W m; rw [num4_take] at h; exact h)
  have HN3 := Lib.hid (fun (W : World) (m : Seen W) => seen_of (table_number (l.drop 8) · (by rw [List.length_drop]; omega)) W m)
  obtain ⟨A, hA⟩ : ∃ A, A = num4 l := ⟨_, rfl⟩
  obtain ⟨B, hB⟩ : ∃ B, B = num4 (l.drop 4) := ⟨_, rfl⟩
  obtain ⟨D, hD⟩ : ∃ D, D = num4 (l.drop 8) := ⟨_, rfl⟩
  rw [← hA] at HN1 ⊢
  rw [← hB] at HN2 ⊢
  rw [← hD] at HN3 ⊢
  clear hw1 hs' hse hsl htk htk2 hlt hl12 hA hB hD
  go_enter Tryd.func32, Tryd.ntmps32
  go_upto_region 1 with (fail)
  rw [← HW1.out]
  go_wp2_with fail
  refine hC.mono ?_
  rintro e w2 ⟨rfl, k2⟩
  have C2 := Lib.hid (C1.out.below k2)
  have K2 := Lib.hid (K1.out.trans (k2.mono K1.out.size))
  clear k2 hC eF
  go_wp2_with fail
  refine (HT.out w2).mono ?_
  rintro e w3 ⟨rfl, k3⟩
  have C3' := Lib.hid (C2.out.below k3)
  have K3 := Lib.hid (K2.out.trans (k3.mono K2.out.size))
  clear k3
  go_upto_region 11 with (fail)
  refine wp_region_seen_tail 10 (by kernel_rfl) (by kernel_rfl) ?_
  simp only [List.take_succ_cons, List.take_zero, List.drop_succ_cons, List.drop_zero]
  try go_frame
  repeat go_big_quiet_step (first | (go_at_call 54; first | (with_reducible exact HN1.out _ _) | (with_reducible exact HN2.out _ _) | (with_reducible exact HN3.out _ _)))
  refine wpQuiet_nil ?_
  rintro _ ⟨m1, rfl⟩
  have c4 := C3'.out.below m1.below
  have q0 := c4.c0
  have q1 := c4.c1
  have q2 := c4.c2
  have qf := c4.free
  have C4 := Lib.hid c4
  have K4 := Lib.hid (K3.out.trans (m1.below.mono K3.out.size))
  clear c4
  go_wp2_with fail
  refine bodyPost_ret (results_c3 rfl _ _ w.heap.size _ _ _ _ _ rfl rfl (C4.out.put _ _ _) Tryd.underlying59 rfl sizeFoot) rfl ?_
  exact ⟨rfl, below_put3' K4.out (Nat.le_refl _) _ _ _⟩
/-- What reading the filter leaves. -/
structure FilPost (x : List UInt8) (w : World) (e : Ending) (w' : World) : Prop where
  out : (takeE x ≠ 0 ∧ e = .returned (.tuple #[.pointer none, .int .i64 (takeE x)])) ∨ (takeE x = 0 ∧ openE (takeT x) ≠ 0 ∧ e = .returned (.tuple #[.pointer none, .int .i64 (openE (takeT x))])) ∨
    (takeE x = 0 ∧ openE (takeT x) = 0 ∧ ∃ b g, e = .returned (.tuple #[.pointer (some ⟨b, 0, none⟩), .int .i64 0]) ∧ Flt b g (openH (takeT x)) (openT (takeT x)) w')
  bel : Below w.heap.size w w'
set_option maxHeartbeats 2000000 in
theorem table_readFilter (n k F : Nat) (c : Array Value) (K : List (Nat × Obj)) (L : List UInt8) (w : World) (hs : Hid (Src F c K 0 L)) (hk : Hid (Keep K w)) (hn : n + k ≤ L.length) (hl : L.length ≤ 100000000000) :
    Calls Tryd.prog 34 #[.int .i64 (n : Int), .int .i64 (k : Int), srcV F c] w (FilPost ((L.drop n).take k) w) := by
  have hC := hs.out.calls w hk.out n k hn
  have eF := hs.out.enters
  unfold Enters at eF
  unfold srcV
  rw [if_pos rfl] at hC
  obtain ⟨s, hs'⟩ : ∃ s, s = (L.drop n).take k := ⟨_, rfl⟩
  have hsl : s.length ≤ 100000000000 := by rw [hs', List.length_take, List.length_drop]; omega
  rw [← hs'] at hC ⊢
  have htk2 := fun W => crc_Take (bs s) W (by rw [bs_size]; omega)
  simp only [bs_list] at htk2
  have hop := fun W => flt_Open (bs (takeT s)) W (by rw [bs_size]; have := takeT_len s; unfold maxLen; omega)
  simp only [bs_list] at hop
  have HOP := Lib.hid hop
  clear hs' hop
  by_cases h1 : takeE s = 0
  · have H1 := Lib.hid h1
    rw [h1] at htk2
    have HT := Lib.hid htk2
    clear h1 htk2
    go_enter Tryd.func34, Tryd.ntmps34
    go_wp2_with fail
    refine hC.mono ?_
    rintro e w2 ⟨rfl, k2⟩
    have K2 := Lib.hid k2
    clear k2 hC eF
    go_wp2_with fail
    refine (HT.out w2).mono ?_
    rintro e w3 ⟨rfl, k3⟩
    have K3 := Lib.hid (K2.out.trans (k3.mono K2.out.size))
    clear k3
    go_wp2_with fail
    refine (HOP.out w3).mono ?_
    rintro e w4 ⟨k4, ⟨hne, rfl⟩ | ⟨heq, b, g, _, _, rfl, hf⟩⟩
    · have K4 := Lib.hid (K3.out.trans (k4.mono K3.out.size))
      have HNE := Lib.hid hne
      clear k4 hne
      go_wp2_with fail
      go_ret2
      exact ⟨.inr (.inl ⟨H1.out, HNE.out, rfl⟩), K4.out⟩
    · have K4 := Lib.hid (K3.out.trans (k4.mono K3.out.size))
      have HEQ := Lib.hid heq
      have HF := Lib.hid hf
      clear k4 heq hf
      go_wp2_with fail
      go_ret2
      exact ⟨.inr (.inr ⟨H1.out, HEQ.out, b, g, rfl, HF.out⟩), K4.out⟩
  · have H1 := Lib.hid h1
    have hz0 : (takeE s == 0) = false := beq_eq_false_iff_ne.2 h1
    obtain ⟨z, hz⟩ : ∃ z, z = takeE s := ⟨_, rfl⟩
    rw [← hz] at htk2 hz0
    have HT := Lib.hid htk2
    have HZ := Lib.hid hz
    clear h1 htk2 hz
    go_enter Tryd.func34, Tryd.ntmps34
    go_wp2_with fail
    refine hC.mono ?_
    rintro e w2 ⟨rfl, k2⟩
    have K2 := Lib.hid k2
    clear k2 hC eF
    go_wp2_with fail
    refine (HT.out w2).mono ?_
    rintro e w3 ⟨rfl, k3⟩
    have K3 := Lib.hid (K2.out.trans (k3.mono K2.out.size))
    clear k3
    go_wp2_with fail
    go_ret2
    exact ⟨.inl ⟨H1.out, by rw [← HZ.out]; rfl⟩, K3.out⟩
end Go.Proofs.YteejldddgogbkaaDoor
/- The program's Open. -/
set_option linter.unusedVariables false
set_option maxRecDepth 100000
namespace Go.Proofs.YteejldddgogbkaaDoor
open Go.RowKit

structure TabPost (L : List UInt8) (F : Nat) (c : Array Value) (w : World) (e : Ending) (w' : World) : Prop where
  out : ((openTab L).1 ≠ 0 ∧ e = .returned (.tuple #[.pointer none, .int .i64 (openTab L).1])) ∨
    ((openTab L).1 = 0 ∧ ∃ p, w.heap.size ≤ p ∧ e = .returned (.tuple #[.pointer (some ⟨p, 0, none⟩), .int .i64 0]) ∧ TabM p (srcV F c) 0 (openTab L).2 w')
  bel : Below w.heap.size w w'
theorem TabPost.bad {L : List UInt8} {F : Nat} {c : Array Value} {w w' : World} {z : Int} (h : openTab L = (z, noTab)) (hz : z ≠ 0) (hb : Below w.heap.size w w') : TabPost L F c w (.returned (.tuple #[.pointer none, .int .i64 z])) w' :=
  ⟨.inl ⟨by rw [h]; exact hz, by rw [h]⟩, hb⟩
theorem fn_nil9 (F : Nat) (c : Array Value) (w : World) : (binOp .eql 34 (.func (.func F) #[] c) .nilFunc).run Tryd.prog w = .ok (.bool false) w := by kernel_rfl
set_option maxHeartbeats 2000000 in
theorem open_short (size : Int) (F : Nat) (c : Array Value) (w : World) (h0 : 0 ≤ size) (h : size < 16) :
    Calls Tryd.prog 11 #[.int .i64 size, srcV F c] w fun e w' => e = .returned (.tuple #[.pointer none, .int .i64 2]) ∧ Below w.heap.size w w' := by
  have hf := fn_nil9 F c
  unfold srcV
  go_enter Tryd.func11, Tryd.ntmps11
  go_wp2_with fail
  go_ret2
  exact ⟨rfl, Below.refl _ _⟩
set_option maxHeartbeats 2000000 in
theorem open_neg (size : Int) (v : Value) (w : World) (h0 : size < 0) :
    Calls Tryd.prog 11 #[.int .i64 size, v] w fun e w' => e = .returned (.tuple #[.pointer none, .int .i64 1]) ∧ Below w.heap.size w w' := by
  go_enter Tryd.func11, Tryd.ntmps11
  go_wp2_with fail
  go_ret2
  exact ⟨rfl, Below.refl _ _⟩
set_option maxHeartbeats 2000000 in
theorem open_none (size : Int) (w : World) :
    Calls Tryd.prog 11 #[.int .i64 size, .nilFunc] w fun e w' => e = .returned (.tuple #[.pointer none, .int .i64 1]) ∧ Below w.heap.size w w' := by
  by_cases h : size < 0
  · exact open_neg size _ w h
  · have hf : ∀ w : World, (binOp .eql 34 .nilFunc .nilFunc).run Tryd.prog w = .ok (.bool true) w := fun w => by kernel_rfl
    go_enter Tryd.func11, Tryd.ntmps11
    go_wp2_with fail
    go_ret2
    exact ⟨rfl, Below.refl _ _⟩
set_option maxHeartbeats 2000000 in
/-- A source that refuses the foot, or bytes that are no foot. -/
theorem open_nofoot (n F : Nat) (c : Array Value) (K : List (Nat × Obj)) (d z : Int) (L : List UInt8) (w : World) (hs : Hid (Src F c K d L)) (hk : Hid (Keep K w)) (hn : n + 16 = L.length) (hl : L.length ≤ 9223372036854775807) (hz : Hid (d ≠ 0 ∧ z = d ∨ d = 0 ∧ takeE (L.drop n) = z ∧ z ≠ 0)) (hz0 : Hid (z ≠ 0)) :
    Calls Tryd.prog 11 #[.int .i64 ((n : Int) + 16), srcV F c] w fun e w' => e = .returned (.tuple #[.pointer none, .int .i64 z]) ∧ Below w.heap.size w w' := by
  have hf := fn_nil9 F c
  have hzb : (z == 0) = false := beq_eq_false_iff_ne.2 hz0.out
  have HR := Lib.hid (readFoot_no n F c K d z L w hs hk hn hl hz)
  unfold srcV fv3 at HR
  unfold srcV
  clear hs hk hz
  go_enter Tryd.func11, Tryd.ntmps11
  have e16 : (n : Int) + 16 - 16 = (n : Int) := by omega
  go_wp2_with fail
  refine HR.out.mono ?_
  rintro e w1 ⟨rfl, k1⟩
  have K1 := Lib.hid k1
  clear k1
  go_wp2_with fail
  go_ret2
  exact ⟨rfl, K1.out.alloc K1.out.size _⟩
theorem open_abs {α : Type} (t1 : Int) (p : Prop) [Decidable p] (o1 p1 : Int) (q : Prop) [Decidable q] (R : Int × α) (N : α) :
    (if t1 ≠ 0 then (t1, N) else if p then (3, N) else if o1 ≠ 0 then (o1, N) else if p1 ≠ 0 then (p1, N) else if q then (3, N) else R) = (if t1 ≠ 0 then (t1, N) else if p then (3, N) else if o1 ≠ 0 then (o1, N) else if (if p1 ≠ 0 then p1 else if q then 3 else 0) ≠ 0 then ((if p1 ≠ 0 then p1 else if q then 3 else 0), N) else R) := by
  by_cases h1 : t1 = 0 <;> by_cases h2 : p <;> by_cases h3 : o1 = 0 <;> by_cases h4 : p1 = 0 <;> by_cases h5 : q <;> simp [h1, h2, h3, h4, h5]
/-- Open in plain words, behind the foot. -/
theorem openTab_at {L : List UInt8} (n : Nat) (hn : n + 16 = L.length) : openTab L =
    if takeE (L.drop n) ≠ 0 then (takeE (L.drop n), noTab) else
    if num4 ((takeT (L.drop n)).drop 4) < num4 (takeT (L.drop n)) ∨ n < num4 ((takeT (L.drop n)).drop 4) then (3, noTab) else
    if (opnS ((L.take (num4 ((takeT (L.drop n)).drop 4))).drop (num4 (takeT (L.drop n))))).1 ≠ 0 then ((opnS ((L.take (num4 ((takeT (L.drop n)).drop 4))).drop (num4 (takeT (L.drop n))))).1, noTab) else
    if idxZ (opnS ((L.take (num4 ((takeT (L.drop n)).drop 4))).drop (num4 (takeT (L.drop n))))).2 (num4 (takeT (L.drop n))) (num4 ((takeT (L.drop n)).drop 8)) ≠ 0 then (idxZ (opnS ((L.take (num4 ((takeT (L.drop n)).drop 4))).drop (num4 (takeT (L.drop n))))).2 (num4 (takeT (L.drop n))) (num4 ((takeT (L.drop n)).drop 8)), noTab) else
    if takeE ((L.take n).drop (num4 ((takeT (L.drop n)).drop 4))) ≠ 0 then (takeE ((L.take n).drop (num4 ((takeT (L.drop n)).drop 4))), noTab) else
    if openE (takeT ((L.take n).drop (num4 ((takeT (L.drop n)).drop 4)))) ≠ 0 then (openE (takeT ((L.take n).drop (num4 ((takeT (L.drop n)).drop 4)))), noTab) else
    (0, ⟨L, (opnS ((L.take (num4 ((takeT (L.drop n)).drop 4))).drop (num4 (takeT (L.drop n))))).2, (placesL (num4 (takeT (L.drop n))) 0 (opnS ((L.take (num4 ((takeT (L.drop n)).drop 4))).drop (num4 (takeT (L.drop n))))).2).2, openH (takeT ((L.take n).drop (num4 ((takeT (L.drop n)).drop 4)))), openT (takeT ((L.take n).drop (num4 ((takeT (L.drop n)).drop 4)))), num4 ((takeT (L.drop n)).drop 8)⟩) := by
  have e : L.length - 16 = n := by omega
  unfold openTab idxZ
  simp only [e]
  rw [if_neg (show ¬ L.length < 16 by omega)]
  exact open_abs _ _ _ _ _ _ _
set_option maxHeartbeats 4000000 in
theorem table_Open (F : Nat) (c : Array Value) (K : List (Nat × Obj)) (L : List UInt8) (w : World) (hs : Hid (Src F c K 0 L)) (hk : Hid (Keep K w)) (hl : L.length ≤ 100000000000) :
    Calls Tryd.prog 11 #[.int .i64 (L.length : Int), srcV F c] w (TabPost L F c w) := by
  by_cases h16 : L.length < 16
  · have ho : openTab L = (2, noTab) := by unfold openTab; rw [if_pos h16]
    refine (open_short (L.length : Int) F c w (by omega) (by omega)).mono ?_
    rintro e w' ⟨rfl, hb⟩
    exact TabPost.bad ho (by decide) hb
  obtain ⟨n, hn⟩ : ∃ n, n + 16 = L.length := ⟨L.length - 16, by omega⟩
  have hO := openTab_at n hn
  have hni : (L.length : Int) = (n : Int) + 16 := by omega
  rw [hni]
  by_cases h0 : takeE (L.drop n) = 0
  · have hrf := readFoot_yes n F c K L w hs hk hn hl (Lib.hid h0)
    rw [if_neg (fun h => h h0)] at hO
    obtain ⟨f, hfd⟩ : ∃ f, f = takeT (L.drop n) := ⟨_, rfl⟩
    rw [← hfd] at hO hrf
    obtain ⟨a, ha⟩ : ∃ a, a = num4 f := ⟨_, rfl⟩
    obtain ⟨b, hb⟩ : ∃ b, b = num4 (f.drop 4) := ⟨_, rfl⟩
    obtain ⟨m, hm⟩ : ∃ m, m = num4 (f.drop 8) := ⟨_, rfl⟩
    have ha32 : a < 4294967296 := by rw [ha]; exact num4_lt _
    have hb32 : b < 4294967296 := by rw [hb]; exact num4_lt _
    have hm32 : m < 4294967296 := by rw [hm]; exact num4_lt _
    rw [← ha, ← hb, ← hm] at hO hrf
    have HRF := Lib.hid hrf
    have hf := fn_nil9 F c
    clear h0 hrf hfd ha hb hm
    unfold fv3 srcV at HRF
    have e16 : (n : Int) + 16 - 16 = (n : Int) := by omega
    obtain ⟨X, hX⟩ : ∃ X : Nat → Prop, X = fun k => True := ⟨_, rfl⟩
    by_cases h1 : b < a ∨ n < b
    · rw [if_pos h1] at hO
      have HO := Lib.hid hO
      clear hO hX
      by_cases h2 : b < a
      · unfold srcV
        go_enter Tryd.func11, Tryd.ntmps11
        go_wp2_with fail
        refine HRF.out.mono ?_
        rintro e w1 ⟨rfl, k1⟩
        have K1 := Lib.hid k1
        clear k1
        go_wp2_with fail
        go_ret2
        exact TabPost.bad HO.out (by decide) (K1.out.alloc K1.out.size _)
      · have h3 : n < b := by omega
        unfold srcV
        go_enter Tryd.func11, Tryd.ntmps11
        go_wp2_with fail
        refine HRF.out.mono ?_
        rintro e w1 ⟨rfl, k1⟩
        have K1 := Lib.hid k1
        clear k1
        go_wp2_with fail
        go_ret2
        exact TabPost.bad HO.out (by decide) (K1.out.alloc K1.out.size _)
    · rw [if_neg h1] at hO
      obtain ⟨h2, h3⟩ : a ≤ b ∧ b ≤ n := by omega
      obtain ⟨s, hsd⟩ : ∃ s, s = (L.take b).drop a := ⟨_, rfl⟩
      obtain ⟨x, hxd⟩ : ∃ x, x = (L.take n).drop b := ⟨_, rfl⟩
      have hxe : (L.drop b).take (n - b) = x := by rw [hxd, List.drop_take]
      have hri := fun W (hkW : Keep K W) => table_readIndex a b m F c K L W hs (Lib.hid hkW) h2 (by omega) hl hm32
      have hrl := fun W (hkW : Keep K W) => table_readFilter b (n - b) F c K L W hs (Lib.hid hkW) (by omega) hl
      simp only [hxe] at hrl
      simp only [← hsd] at hri
      rw [← hsd, ← hxd] at hO
      have HRI := Lib.hid hri
      have HRL := Lib.hid hrl
      have HO := Lib.hid hO
      have hsub : IntKind.i64.wrap ((n : Int) - (b : Int)) = ((n - b : Nat) : Int) := by rw [IntWalk.i64_in _ (by omega)]; omega
      have hsub2 : (n : Int) - (b : Int) = ((n - b : Nat) : Int) := by omega
      unfold fv3 srcV at HRI
      unfold srcV at HRL
      clear hO h1 hsd hxd hxe hri hrl hX
      unfold srcV
      go_enter Tryd.func11, Tryd.ntmps11
      go_wp2_with fail
      refine HRF.out.mono ?_
      rintro e w1 ⟨rfl, k1⟩
      have K1 := Lib.hid k1
      obtain ⟨Z, hZ⟩ : ∃ Z, Z = w1.heap.size := ⟨_, rfl⟩
      obtain ⟨w2, hw2⟩ : ∃ w2, w2 = w1.alloc (.cells #[.int .i64 (a : Int), .int .i64 (b : Int), .int .i64 (m : Int)] 59) := ⟨_, rfl⟩
      have K2 := Lib.hid (show Below w.heap.size w w2 by rw [hw2]; exact K1.out.alloc K1.out.size _)
      have C2 := Lib.hid (show C3 Z 59 (.int .i64 (a : Int)) (.int .i64 (b : Int)) (.int .i64 (m : Int)) w2 by rw [hw2, hZ]; exact heap_new w1 _)
      have c0 := C2.out.c0
      have c1 := C2.out.c1
      have c2 := C2.out.c2
      have HW2 := Lib.hid hw2
      have HZ := Lib.hid hZ
      clear k1 hw2 hZ
      go_upto_region 7 with (fail)
      rw [← HZ.out, ← HW2.out]
      go_wp2_with fail
      refine (HRI.out w2 (hk.out.below K2.out)).mono ?_
      clear c0 c1 c2
      rintro e w3 ⟨hcase, k3⟩
      have K3 := Lib.hid (K2.out.trans (k3.mono K2.out.size))
      have C3' := Lib.hid (C2.out.below k3)
      have c1 := C3'.out.c1
      have c2 := C3'.out.c2
      clear k3
      rcases hcase with ⟨h4, rfl⟩ | ⟨h4, h5, rfl⟩ | ⟨h4, h5, G, rfl, hG⟩
      · have hO := HO.out
        rw [if_pos h4] at hO
        obtain ⟨z, hz⟩ : ∃ z, z = (opnS s).1 := ⟨_, rfl⟩
        rw [← hz] at hO h4 ⊢
        have hzb : (z == 0) = false := beq_eq_false_iff_ne.2 h4
        have HO2 := Lib.hid hO
        have H4 := Lib.hid h4
        clear hO h4 hz
        go_wp2_with fail
        go_ret2
        exact TabPost.bad HO2.out H4.out K3.out
      · have hO := HO.out
        rw [if_neg (fun h => h h4), if_pos h5] at hO
        obtain ⟨z, hz⟩ : ∃ z, z = idxZ (opnS s).2 a m := ⟨_, rfl⟩
        rw [← hz] at hO h5 ⊢
        have hzb : (z == 0) = false := beq_eq_false_iff_ne.2 h5
        have HO2 := Lib.hid hO
        have H4 := Lib.hid h5
        clear hO h4 h5 hz
        go_wp2_with fail
        go_ret2
        exact TabPost.bad HO2.out H4.out K3.out
      · have hO := HO.out
        rw [if_neg (fun h => h h4), if_neg (fun h => h h5)] at hO
        have HO2 := Lib.hid hO
        have HG := Lib.hid hG
        obtain ⟨Xl, hXl⟩ : ∃ Xl, Xl = (opnS s).2.length := ⟨_, rfl⟩
        rw [← hXl] at HG ⊢
        have HXl := Lib.hid hXl
        clear hO h4 h5 hG hXl
        go_wp2_with fail
        refine (HRL.out w3 (hk.out.below K3.out)).mono ?_
        rintro e w4 ⟨hcase, k4⟩
        have K4 := Lib.hid (K3.out.trans (k4.mono K3.out.size))
        have C4 := Lib.hid (C3'.out.below k4)
        have HG4 := Lib.hid (HG.out.keep k4)
        clear c1 c2 k4
        have c2 := C4.out.c2
        rcases hcase with ⟨h6, rfl⟩ | ⟨h6, h7, rfl⟩ | ⟨h6, h7, fb, fg, rfl, hfl⟩
        · have hO := HO2.out
          rw [if_pos h6] at hO
          obtain ⟨z, hz⟩ : ∃ z, z = takeE x := ⟨_, rfl⟩
          rw [← hz] at hO h6 ⊢
          have hzb : (z == 0) = false := beq_eq_false_iff_ne.2 h6
          have HO3 := Lib.hid hO
          have H6 := Lib.hid h6
          clear hO h6 hz
          go_wp2_with fail
          go_ret2
          exact TabPost.bad HO3.out H6.out K4.out
        · have hO := HO2.out
          rw [if_neg (fun h => h h6), if_pos h7] at hO
          obtain ⟨z, hz⟩ : ∃ z, z = openE (takeT x) := ⟨_, rfl⟩
          rw [← hz] at hO h7 ⊢
          have hzb : (z == 0) = false := beq_eq_false_iff_ne.2 h7
          have HO3 := Lib.hid hO
          have H6 := Lib.hid h7
          clear hO h6 h7 hz
          go_wp2_with fail
          go_ret2
          exact TabPost.bad HO3.out H6.out K4.out
        · have hO := HO2.out
          rw [if_neg (fun h => h h6), if_neg (fun h => h h7)] at hO
          have HO3 := Lib.hid hO
          have HFL := Lib.hid hfl
          clear hO h6 h7 hfl
          go_wp2_with fail
          go_ret2
          have hfine := (open_fine (s := L) (t := (openTab L).2) (by rw [HO3.out])).1
          refine ⟨.inr ⟨by rw [HO3.out], w4.heap.size, K4.out.size, rfl, ?_⟩, K4.out.alloc K4.out.size _⟩
          have kA := (Below.refl w4.heap.size w4).alloc (Nat.le_refl _) (.cells #[srcV F c, .slice (some ⟨G, 0, none⟩) Xl Xl, .pointer (some ⟨fb, 0, none⟩), .int .i64 (m : Int), .int .i64 0] 78)
          have hPl := piecesOf_len hfine
          rw [HO3.out] at hPl ⊢
          refine ⟨some ⟨G, 0, none⟩, Xl, fb, fg, ?_, ?_, ?_, HFL.out.lt, HFL.out.row.1⟩
          · rw [← HXl.out]; exact heap_new w4 _
          · have h8 := HG4.out
            have h9 : FillP G Xl (pcsOf (opnS s).2 (placesL a 0 (opnS s).2).2) w4 := h8
            have h10 : (pcsOf (opnS s).2 (placesL a 0 (opnS s).2).2).length = Xl := by rw [HXl.out]; exact hPl
            rw [← h10] at h9
            have h11 := h9.full (p := w4.heap.size) (by obtain ⟨cur, h, _⟩ := h9; exact heap_lt h)
            rw [h10] at h11
            rw [← HXl.out]
            exact h11.keep fun j hj hj2 => kA.block j hj2
          · exact HFL.out.below kA
  · have ho : openTab L = (takeE (L.drop n), noTab) := by rw [hO, if_pos h0]
    refine (open_nofoot n F c K 0 (takeE (L.drop n)) L w hs hk hn (by omega) (Lib.hid (.inr ⟨rfl, rfl, h0⟩)) (Lib.hid h0)).mono ?_
    rintro e w' ⟨rfl, hb⟩
    exact TabPost.bad ho h0 hb
end Go.Proofs.YteejldddgogbkaaDoor
/- The laws' own look: a table of three entries. -/
set_option linter.unusedVariables false
set_option maxRecDepth 100000
namespace Go.Proofs.YteejldddgogbkaaDoor
open Go.RowKit

def T3 : List Ent := [⟨[97], [49], false⟩, ⟨[98], [], true⟩, ⟨[99], [51], false⟩]
theorem t3_ok : chkE T3 = 0 := by kernel_rfl
theorem t3_build : buildE' 2 10 T3 = 0 := by kernel_rfl
theorem t3_small : smallE T3 := smallE_of ((chkE_ok T3).1 t3_ok).1
theorem t3_keys : (chunks 2 T3).map keyE = [[97], [99]] := by kernel_rfl
theorem t3_from : fromE [98] T3 = [⟨[98], [], true⟩, ⟨[99], [51], false⟩] := by kernel_rfl
theorem t3_find : T3.find? (isKey [98]) = some ⟨[98], [], true⟩ := by kernel_rfl
/-- What Open answers of a table that was built, over a source of its bytes. -/
theorem open_built {each : Nat} {T : List Ent} {t : Tab} {S : List UInt8} (hb : Built each T t S) (F : Nat) (c : Array Value) (K : List (Nat × Obj)) (w : World) (hs : Hid (Src F c K 0 S)) (hk : Hid (Keep K w)) :
    Calls Tryd.prog 11 #[.int .i64 (S.length : Int), srcV F c] w fun e w' => ∃ p, w.heap.size ≤ p ∧ e = .returned (.tuple #[.pointer (some ⟨p, 0, none⟩), .int .i64 0]) ∧ TabM p (srcV F c) 0 t w' ∧ Below w.heap.size w w' := by
  refine (table_Open F c K S w hs hk (by have := hb.len; omega)).mono ?_
  rintro e w' ⟨h, hB⟩
  rw [hb.opened] at h
  rcases h with ⟨h, _⟩ | ⟨_, p, h1, h2, h3⟩
  · exact absurd rfl h
  · exact ⟨p, h1, h2, h3, hB⟩
set_option maxHeartbeats 4000000 in
theorem law_awake09 (w : World) (hg : Hid (Glob w)) : Calls Tryd.prog 7 #[] w fun e w' => e = .returned (.bool true) ∧ Below w.heap.size w w' := by
  obtain ⟨w1, hw1⟩ : ∃ w1, w1 = w.alloc (.cells #[.string ⟨#[97]⟩, .string ⟨#[49]⟩, .bool false, .string ⟨#[98]⟩, .string ⟨#[]⟩, .bool true, .string ⟨#[99]⟩, .string ⟨#[51]⟩, .bool false] 38) := ⟨_, rfl⟩
  have K1 := Lib.hid (show Below w.heap.size w w1 by rw [hw1]; exact (Below.refl _ _).alloc (Nat.le_refl _) _)
  have E1 := Lib.hid (show IsE w1 (some ⟨w.heap.size, 0, none⟩) 3 T3 by
    have h : w1.heap[w.heap.size]? = some (.cells #[.string ⟨#[97]⟩, .string ⟨#[49]⟩, .bool false, .string ⟨#[98]⟩, .string ⟨#[]⟩, .bool true, .string ⟨#[99]⟩, .string ⟨#[51]⟩, .bool false] 38 (0, 0)) := by rw [hw1]; exact heap_new w _
    refine ⟨rfl, w.heap.size, 0, .inr rfl, fun k hk => ?_⟩
    have hk3 : k < 3 := hk
    match k, hk3 with
    | 0, _ => exact ⟨heap_lt h, by simp [World.cell?, h]; rfl, by simp [World.cell?, h]; rfl, by simp [World.cell?, h]; rfl⟩
    | 1, _ => exact ⟨heap_lt h, by simp [World.cell?, h]; rfl, by simp [World.cell?, h]; rfl, by simp [World.cell?, h]; rfl⟩
    | 2, _ => exact ⟨heap_lt h, by simp [World.cell?, h]; rfl, by simp [World.cell?, h]; rfl, by simp [World.cell?, h]; rfl⟩)
  have G1 := Lib.hid (hg.out.keep K1.out hg.out.1)
  have HBd := Lib.hid (table_Build (some ⟨w.heap.size, 0, none⟩) 3 3 T3 2 10 w1 E1 (by decide) (by decide) (Lib.hid t3_small) G1)
  rw [t3_build, if_pos rfl] at HBd
  obtain ⟨t, ht⟩ := built_tab (each := 2) (per := 10) (T := T3) (by decide) (by decide) (by decide) (by decide) (by decide) t3_ok
  obtain ⟨S, hS⟩ : ∃ S, S = tabB (Int.toNat 2) (Int.toNat 10) T3 := ⟨_, rfl⟩
  rw [show tabB 2 10 T3 = S from hS.symm] at ht
  rw [← hS] at HBd
  have HT := Lib.hid ht
  have HW1 := Lib.hid hw1
  obtain ⟨n, hn⟩ : ∃ n, n = S.length := ⟨_, rfl⟩
  have hz : (bs S).size = n := by rw [bs_size, hn]
  have HN := Lib.hid hn
  clear hw1 hS ht hn
  go_enter Tryd.func7, Tryd.ntmps7
  go_upto_region 2 with (fail)
  rw [← HW1.out]
  go_wp2_with fail
  refine HBd.out.mono ?_
  rintro e w2 ⟨rfl, k2⟩
  have K2 := Lib.hid (K1.out.trans (k2.mono K1.out.size))
  clear k2 HBd
  go_wp2_with fail
  refine (law_over (bs S) w2).mono ?_
  rintro e w3 ⟨rfl, hw3⟩
  have b3 : Below w2.heap.size w2 w3 := by rw [hw3]; exact (Below.refl _ _).alloc (Nat.le_refl _) _
  have K3 := Lib.hid (K2.out.trans (b3.mono K2.out.size))
  have Q3 := Lib.hid (show Keep (overK w2.heap.size S) w3 from fun q hq => by
    simp only [overK, List.mem_singleton] at hq
    subst hq
    rw [hw3]; exact heap_new w2 _)
  have hb2 := Lib.hid (show w2.heap.size < w3.heap.size by rw [hw3]; simp)
  have HSrc := Lib.hid (over_src w2.heap.size S (by have := HT.out.len; omega))
  have HOp := Lib.hid (open_built HT.out _ _ _ w3 HSrc Q3)
  rw [← HN.out] at HOp
  clear hw3 b3
  go_wp2_with fail
  refine HOp.out.mono ?_
  rintro e w4 ⟨p, hp4, rfl, hT4, k4⟩
  have K4 := Lib.hid (K3.out.trans (k4.mono K3.out.size))
  have T4 := Lib.hid hT4
  have Q4 := Lib.hid (Q3.out.below k4)
  have hp := Lib.hid (show w2.heap.size < p ∧ w.heap.size ≤ p by have := hb2.out; have := K3.out.size; omega)
  have G4 := Lib.hid (hg.out.keep K4.out hg.out.1)
  have HKp := Lib.hid (show ∀ q ∈ overK w2.heap.size S, q.1 ≠ p from fun q hq => by
    simp only [overK, List.mem_singleton] at hq
    subst hq
    have := hp.out
    show w2.heap.size ≠ p
    omega)
  have hSt := Lib.hid (show Src 35 #[.pointer (some ⟨w2.heap.size, 0, none⟩)] (overK w2.heap.size S) 0 t.bytes by rw [HT.out.bytes]; exact HSrc.out)
  have hlb := HT.out.len
  rw [← HT.out.bytes] at hlb
  have HGet := Lib.hid (table_Get p _ _ _ t 0 [98] w4 T4 (Lib.hid HT.out.fine) hSt Q4 HKp G4 (by decide) (by decide) (by omega) HT.out.bits (Lib.hid (by decide)))
  clear hp4 hT4 k4 hlb HOp
  go_wp2_with fail
  refine HGet.out.mono ?_
  rintro e w5 ⟨he5, hT5, hO5⟩
  obtain ⟨r, hr1, hr2, hr3⟩ := HT.out.get [98]
  rw [t3_find] at hr2 hr3
  have hr := hr2 rfl
  subst hr
  rw [hr3] at he5 hT5
  have he6 : e = .returned (.tuple #[.agg #[.string (bs [98]), .string (bs []), .bool true], .bool true, .int .i64 0]) := he5
  clear he5
  subst he6
  have T5 := Lib.hid (show TabM p _ 1 t w5 from hT5)
  have Q5 := Lib.hid (Q4.out.only hO5 fun q hq e => HKp.out q hq e)
  have B5 := Lib.hid (show Below w.heap.size w w5 from K4.out.trans (hO5.below (fun k _ e => by have e' : k = p := e; have := hp.out; omega) K4.out.size))
  clear hT5 hO5 hr1 hr2 hr3 HGet
  obtain ⟨w6, hw6⟩ : ∃ w6, w6 = w5.alloc (.cells #[.string (bs [98]), .string (bs []), .bool true] 38) := ⟨_, rfl⟩
  have K6 := Lib.hid (show Below w5.heap.size w5 w6 by rw [hw6]; exact (Below.refl _ _).alloc (Nat.le_refl _) _)
  have X6 := Lib.hid (show C3 w5.heap.size 38 (.string (bs [98])) (.string (bs [])) (.bool true) w6 by rw [hw6]; exact heap_new w5 _)
  have T6 := Lib.hid (T5.out.below K6.out)
  have Q6 := Lib.hid (Q5.out.below K6.out)
  have B6 := Lib.hid (B5.out.trans (K6.out.mono B5.out.size))
  have HW6 := Lib.hid hw6
  have hsc : scanU t 0 [98] = (0, [⟨[98], [], true⟩, ⟨[99], [51], false⟩]) := by rw [scanU_zero, HT.out.scan, t3_from]
  have hfb : readLo t [98] 1 0 = 3 ∧ readHi t [98] 1 0 = 3 := by
    have h2 : t.index.length = 2 := by
      rw [HT.out.index, idxs_len]
      have := congrArg List.length t3_keys
      rwa [List.length_map] at this
    have h1 : firstB t [98] = 0 := by
      unfold firstB
      rw [HT.out.index, idxs_keys, t3_keys]
      rfl
    unfold readLo readHi
    rw [h1, h2]
    exact ⟨rfl, rfl⟩
  have HAll := Lib.hid (all_tab p _ _ _ t 0 1 [98] w6 T6 (Lib.hid HT.out.fine) hSt Q6 HKp (by decide) (by decide) (by have := HT.out.len; rw [HT.out.bytes]; omega) (by rw [hsc]; decide))
  rw [hsc, hfb.1, hfb.2] at HAll
  have hcount : (t.count : Int) = 3 := by rw [HT.out.count]; rfl
  have HC := Lib.hid hcount
  clear hw6 hsc hfb hcount
  go_upto_region 7 with (fail)
  rw [← HW6.out]
  go_wp2_with fail
  refine HAll.out.mono ?_
  rintro e w7 ⟨⟨a7, cap7, rfl, _⟩, hE7, hO7⟩
  obtain ⟨n7, g1, g2, g3⟩ := hE7.ex
  obtain rfl : n7 = 3 := by omega
  have T7 := Lib.hid g3
  have B7 := Lib.hid (show Below w.heap.size w w7 from B6.out.trans (hO7.below (fun k _ e => by have e' : k = p := e; have := hp.out; omega) B6.out.size))
  have X7 := Lib.hid (show C3 w5.heap.size 38 (.string (bs [98])) (.string (bs [])) (.bool true) w7 from X6.out.table hO7 (by have := T5.out.lt; omega))
  have x2 := X7.out.c2
  have HCnt := Lib.hid (table_Count p _ 3 t w7 T7.out)
  have HRds := Lib.hid (table_Reads p _ 3 t w7 T7.out)
  rw [HC.out] at HCnt
  clear hE7 hO7 g1 g2 g3 HAll
  go_wp2_with fail
  refine HCnt.out.mono ?_
  rintro e w8 ⟨rfl, rfl⟩
  go_wp2_with fail
  refine HRds.out.mono ?_
  rintro e w8 ⟨rfl, rfl⟩
  go_wp2_with fail
  go_ret
  exact ⟨rfl, B7.out⟩
end Go.Proofs.YteejldddgogbkaaDoor
