/- Texts put together: TableGet, TableWalkPlain, TableWalk -/
import Derived.Test.YteejldddgogbkaaGreatDoorTOp20
import Derived.Test.YteejldddgogbkaaGreatDoorTOp14
/- The program's Get; how many entries there are, how many blocks were read. -/
set_option linter.unusedVariables false
set_option maxRecDepth 100000
namespace Go.Proofs.YteejldddgogbkaaGreatDoor
open Go.RowKit

theorem table_Count (p : Nat) (v : Value) (n : Int) (t : Tab) (w : World) (h : TabM p v n t w) : Calls Tryz.prog 19 #[.pointer (some ⟨p, 0, none⟩)] w fun e w' => e = .returned (.int .i64 (t.count : Int)) ∧ w = w' := by
  obtain ⟨a, cap, fb, fg, h1, _⟩ := h.ex
  have c3 : w.cell? ⟨p, 3, none⟩ = some (.int .i64 (t.count : Int)) := by simp [World.cell?, h1]
  clear h1
  go_enter Tryz.func19, Tryz.ntmps19
  go_wp2
  go_ret
  exact ⟨rfl, rfl⟩
theorem table_Count_nil (w : World) : Calls Tryz.prog 19 #[.pointer none] w fun e w' => e = .returned (.int .i64 0) ∧ w = w' := by
  go_enter Tryz.func19, Tryz.ntmps19
  go_wp2
  go_ret
  exact ⟨rfl, rfl⟩
theorem table_Reads (p : Nat) (v : Value) (n : Int) (t : Tab) (w : World) (h : TabM p v n t w) : Calls Tryz.prog 16 #[.pointer (some ⟨p, 0, none⟩)] w fun e w' => e = .returned (.int .i64 n) ∧ w = w' := by
  obtain ⟨a, cap, fb, fg, h1, _⟩ := h.ex
  have c3 : w.cell? ⟨p, 4, none⟩ = some (.int .i64 n) := by simp [World.cell?, h1]
  clear h1
  go_enter Tryz.func16, Tryz.ntmps16
  go_wp2
  go_ret
  exact ⟨rfl, rfl⟩
theorem table_Reads_nil (w : World) : Calls Tryz.prog 16 #[.pointer none] w fun e w' => e = .returned (.int .i64 0) ∧ w = w' := by
  go_enter Tryz.func16, Tryz.ntmps16
  go_wp2
  go_ret
  exact ⟨rfl, rfl⟩
theorem pieces_keys {t : Tab} (h : FineT t) : (piecesOf t).map (·.1) = t.index.map (·.key) := by
  unfold piecesOf
  rw [List.map_fst_zip]
  rw [List.length_map, h.pl]
  exact Nat.le_refl _
theorem pieces_rise {t : Tab} (h : FineT t) : risesK (piecesOf t) := fun i j x y hij hx hy => by
  have hl : (piecesOf t).length = t.index.length := piecesOf_len h
  have hi := (List.getElem?_eq_some_iff.1 hx).1
  have hj := (List.getElem?_eq_some_iff.1 hy).1
  rw [piecesOf_at h (by omega)] at hx hy
  injection hx with hx
  injection hy with hy
  rw [← hx, ← hy]
  have hi' : i < t.index.length := by omega
  have hj' : j < t.index.length := by omega
  have := rises_at h.idx i j _ _ hij (List.getElem?_eq_getElem hi') (List.getElem?_eq_getElem hj')
  simpa [List.getD_eq_getElem?_getD, hi', hj'] using this
/-- The entry that a search finds. -/
theorem find_at {T : List Ent} {k : List UInt8} (hT : rises T) {r : Nat} (h1 : r ≤ T.length) (h2 : ∀ x, 0 < r → T[r - 1]? = some x → ltB x.key k = true) (h3 : ∀ x, T[r]? = some x → ltB x.key k = false) :
    (∀ x, T[r]? = some x → x.key = k → T.find? (isKey k) = some x) ∧ ((∀ x, T[r]? = some x → x.key ≠ k) → T.find? (isKey k) = none) := by
  have hpl := find_place hT h1 h2 h3
  have hle : ∀ i x, T[i]? = some x → x.key = k → i = r := fun i x hx hk => by
    have h4 := place_iff k hT i x hx
    rw [hpl] at h4
    rw [hk, ltB_irrefl] at h4
    have hir : ¬ i < r := by intro h; rw [decide_eq_true h] at h4; cases h4
    by_cases e : i = r
    · exact e
    · have hil := (List.getElem?_eq_some_iff.1 hx).1
      obtain ⟨y, hy⟩ : ∃ y, T[r]? = some y := ⟨_, List.getElem?_eq_getElem (by omega)⟩
      have h5 := rises_at hT r i y x (by omega) hy hx
      rw [hk, h3 y hy] at h5
      cases h5
  refine ⟨fun x hx hk => ?_, fun h => ?_⟩
  · rw [List.find?_eq_some_iff_getElem]
    have hl := List.getElem?_eq_some_iff.1 hx
    refine ⟨by simp [isKey, hk], r, hl.1, hl.2, fun j hj => ?_⟩
    have hjT : j < T.length := by omega
    have : T[j].key ≠ k := fun e => by have := hle j T[j] (List.getElem?_eq_getElem hjT) e; omega
    simp [isKey, this]
  · rw [List.find?_eq_none]
    intro x hx
    obtain ⟨i, hi⟩ := List.mem_iff_getElem?.1 hx
    simp only [isKey, decide_eq_true_eq]
    intro e
    have := hle i x hi e
    subst this
    exact h x hi e
def noEnt' : Ent := ⟨[], [], false⟩
structure GetPost (p : Nat) (v : Value) (t : Tab) (n : Int) (k : List UInt8) (w : World) (e : Ending) (w' : World) : Prop where
  out : e = .returned (.tuple #[EV (getT t k).1, .bool (getT t k).2.1, .int .i64 (getT t k).2.2.1])
  tab : TabM p v (n + ((getT t k).2.2.2 : Int)) t w'
  only : Only (fun j => j = p) w w'
theorem GetPost.mk' {p : Nat} {v : Value} {t : Tab} {n : Int} {k : List UInt8} {w w' : World} {x : Ent} {b : Bool} {z : Int} {r : Nat} (h : getT t k = (x, b, z, r)) (ht : TabM p v (n + (r : Int)) t w') (ho : Only (fun j => j = p) w w') : GetPost p v t n k w (.returned (.tuple #[EV x, .bool b, .int .i64 z])) w' :=
  ⟨by rw [h], by rw [h]; exact ht, ho⟩
theorem only_put3 {S : Nat → Prop} {a w : World} {g : Nat} (h : Only S a w) (hB : a.heap.size ≤ g) (v0 v1 v2 : Value) : Only S a (((w.setCell ⟨g, 0, none⟩ v0).setCell ⟨g, 1, none⟩ v1).setCell ⟨g, 2, none⟩ v2) :=
  ((h.setCell (p := ⟨g, 0, none⟩) (.inr hB) v0).setCell (p := ⟨g, 1, none⟩) (.inr hB) v1).setCell (p := ⟨g, 2, none⟩) (.inr hB) v2
theorem TabM.put3 {p g : Nat} {v : Value} {n : Int} {t : Tab} {a w : World} (h : TabM p v n t w) (hB : a.heap.size ≤ g) (hp : p < a.heap.size) (v0 v1 v2 : Value) : TabM p v n t (((w.setCell ⟨g, 0, none⟩ v0).setCell ⟨g, 1, none⟩ v1).setCell ⟨g, 2, none⟩ v2) := by
  obtain ⟨aa, cap, fb, fg, h1, h2, h3, h4, h5⟩ := h.ex
  have k : ∀ j, j ≤ p → (((w.setCell ⟨g, 0, none⟩ v0).setCell ⟨g, 1, none⟩ v1).setCell ⟨g, 2, none⟩ v2).heap[j]? = w.heap[j]? := fun j hj => by
    rw [heap_set_other (by omega), heap_set_other (by omega), heap_set_other (by omega)]
  exact ⟨aa, cap, fb, fg, (k p (Nat.le_refl _)).trans h1, h2.keep fun j hj _ => k j (by omega), h3.blocks (k fb (by omega)) (k fg (by omega)), h4, h5⟩
theorem table_Get_nil (key : ByteArray) (w : World) : Calls Tryz.prog 14 #[.pointer none, .string key] w fun e w' => e = .returned (.tuple #[EV ⟨[], [], false⟩, .bool false, .int .i64 0]) ∧ Below w.heap.size w w' := by
  obtain ⟨w1, hw1⟩ : ∃ w1, w1 = w.alloc (.cells #[.string ⟨#[]⟩, .string ⟨#[]⟩, .bool false] 49) := ⟨_, rfl⟩
  have K1 := Lib.hid (show Below w.heap.size w w1 by rw [hw1]; exact (Below.refl _ _).alloc (Nat.le_refl _) _)
  have C1 := Lib.hid (show C3 w.heap.size 49 (.string ⟨#[]⟩) (.string ⟨#[]⟩) (.bool false) w1 by rw [hw1]; exact heap_new w _)
  have HW1 := Lib.hid hw1
  have q0 := C1.out.c0
  have q1 := C1.out.c1
  have q2 := C1.out.c2
  have qf := C1.out.free
  clear hw1
  go_enter Tryz.func14, Tryz.ntmps14
  go_upto_region 1 with (fail)
  rw [← HW1.out]
  go_wp2_with fail
  refine bodyPost_ret (results_c3b rfl _ _ w.heap.size _ _ _ _ _ _ rfl rfl rfl (C1.out.put _ _ _) Tryz.underlying49 rfl sizeEnt) rfl ?_
  exact ⟨rfl, below_put3' K1.out (Nat.le_refl _) _ _ _⟩
theorem opnS_rises (s : List UInt8) : rises (opnS s).2 := by
  by_cases h : (opnS s).1 = 0
  · exact (rises_of_okEs true [] ((chkE_ok _).1 (pack_open h).1).1).1
  · unfold opnS at h ⊢
    split
    · trivial
    · rename_i h1
      rw [if_neg h1] at h
      rw [opn_err h]
      trivial
theorem block_rises (t : Tab) (i : Nat) : rises (blockT t i).2 := by
  unfold blockT
  simp only
  split
  · trivial
  split
  · trivial
  · exact opnS_rises _
theorem block_few (t : Tab) (i : Nat) : (blockT t i).2.length ≤ 65536 := by
  unfold blockT
  simp only
  split
  · exact Nat.zero_le _
  split
  · exact Nat.zero_le _
  · exact opnS_few _
theorem block_err (t : Tab) (i : Nat) : (blockT t i).1 ≠ 0 → (blockT t i).2 = [] := by
  unfold blockT
  simp only
  split
  · exact fun _ => rfl
  split
  · exact fun _ => rfl
  · exact fun h => absurd rfl h
theorem C3.table {b p : Nat} {ty : TypeId} {v0 v1 v2 : Value} {w w' : World} (h : C3 b ty v0 v1 v2 w) (k : Only (fun j => j = p) w w') (hp : b ≠ p) : C3 b ty v0 v1 v2 w' := (k.block b (heap_lt h) hp).trans h
set_option maxHeartbeats 4000000 in
theorem table_Get (p F : Nat) (c : Array Value) (K : List (Nat × Obj)) (t : Tab) (n : Int) (key : List UInt8) (w : World) (hM : Hid (TabM p (srcV F c) n t w)) (hf : Hid (FineT t)) (hs : Hid (Src F c K 0 t.bytes)) (hk : Hid (Keep K w)) (hKp : Hid (∀ q ∈ K, q.1 ≠ p)) (hg : Hid (Glob w)) (hn1 : -1000000000000000000 ≤ n) (hn2 : n ≤ 1000000000000000000) (hl : t.bytes.length ≤ 100000000000) (hb8 : t.bits.length ≤ 100000000) (hkl : Hid (key.length ≤ 900000000000000)) :
    Calls Tryz.prog 14 #[.pointer (some ⟨p, 0, none⟩), .string (bs key)] w (GetPost p (srcV F c) t n key w) := by
  obtain ⟨w1, hw1⟩ : ∃ w1, w1 = w.alloc (.cells #[.string ⟨#[]⟩, .string ⟨#[]⟩, .bool false] 49) := ⟨_, rfl⟩
  have A1 : Below w.heap.size w w1 := by rw [hw1]; exact (Below.refl _ _).alloc (Nat.le_refl _) _
  have C1 := Lib.hid (show C3 w.heap.size 49 (.string ⟨#[]⟩) (.string ⟨#[]⟩) (.bool false) w1 by rw [hw1]; exact heap_new w _)
  have M1 := Lib.hid (hM.out.below A1)
  have K1 := Lib.hid (hk.out.below A1)
  have O1 := Lib.hid (show Only (fun j => j = p) w w1 from Only.of_below' A1 rfl)
  have G1 := Lib.hid (hg.out.keep A1 hg.out.1)
  have HP := Lib.hid (show p < w.heap.size from hM.out.lt)
  have hpn := Lib.hid (show w.heap.size ≠ p by have := HP.out; omega)
  obtain ⟨a, cap, fb, fg, h1, h2, h3, h4, h5⟩ := M1.out.ex
  have e2 : w1.cell? ⟨p, 2, none⟩ = some (.pointer (some ⟨fb, 0, none⟩)) := by simp [World.cell?, h1]
  have HHAS := Lib.hid (flt_has fb fg t.h t.bits.length (t.bits.length * 8) t.bits key w1 (Lib.hid h3) G1 (Lib.hid rfl) hb8 (Lib.hid rfl) (by have := hf.out.bits.1; omega) hf.out.h8 hkl)
  have hG : getT t key = if hasB t.h (t.bits.length * 8) (bitAt t.bits) key = false ∨ fromN key (t.index.map (·.key)) = 0 then (⟨[], [], false⟩, false, 0, 0) else
    match (blockT t (fromN key (t.index.map (·.key)) - 1)).2.find? (isKey key) with
    | some x => (x, true, 0, 1)
    | none => (⟨[], [], false⟩, false, (blockT t (fromN key (t.index.map (·.key)) - 1)).1, 1) := rfl
  have HBO := Lib.hid (fun (W : World) (hW : TabM p (srcV F c) n t W) => by
    obtain ⟨a, cap, fb, fg, h1, h2, _⟩ := hW.ex
    have := table_blockOf p p a t.index.length cap (piecesOf t) key W (Lib.hid (by simp [World.cell?, h1])) (Lib.hid h2) (Lib.hid (pieces_rise hf.out)) (by have := hf.out.few; omega)
    rw [pieces_keys hf.out] at this
    exact this)
  obtain ⟨r, hr⟩ : ∃ r, r = fromN key (t.index.map (·.key)) := ⟨_, rfl⟩
  have hrl : r ≤ t.index.length := by rw [hr]; have := fromN_le key (t.index.map (·.key)); rwa [List.length_map] at this
  have hrl2 : r ≤ 65536 := Nat.le_trans hrl hf.out.few
  rw [← hr] at hG HBO
  obtain ⟨hb, hhb⟩ : ∃ hb, hb = hasB t.h (t.bits.length * 8) (bitAt t.bits) key := ⟨_, rfl⟩
  rw [← hhb] at hG HHAS
  have HW1 := Lib.hid hw1
  clear hw1 A1 h1 h2 h3 h4 h5 hr hhb hM hk hg
  cases hb with
  | false =>
    rw [if_pos (.inl rfl)] at hG
    have HG := Lib.hid hG
    have M0 := Lib.hid (show (0 : Int) = ((0 : Nat) : Int) from rfl)
    clear hG
    go_enter Tryz.func14, Tryz.ntmps14
    go_upto_region 1 with (fail)
    rw [← HW1.out]
    go_wp2_with fail
    refine HHAS.out.mono ?_
    rintro e w2 ⟨rfl, k2⟩
    have M2 := Lib.hid (M1.out.below k2)
    have C2 := Lib.hid (C1.out.below k2)
    have K2 := Lib.hid (K1.out.below k2)
    have O2 := Lib.hid (O1.out.trans (Only.of_below' (S := fun j => j = p) k2 rfl))
    clear k2 HHAS e2
    have q0 := C2.out.c0
    have q1 := C2.out.c1
    have q2 := C2.out.c2
    have qf := C2.out.free
    have M2' := Lib.hid (show TabM p (srcV F c) (n + ((0 : Nat) : Int)) t w2 by have := M2.out; rwa [show n + ((0 : Nat) : Int) = n by omega])
    go_wp2_with fail
    refine bodyPost_ret (results_c3b rfl _ _ w.heap.size _ _ _ _ _ _ rfl rfl rfl (C2.out.put _ _ _) Tryz.underlying49 rfl sizeEnt) rfl ?_
    exact GetPost.mk' HG.out (M2'.out.put3 (a := w) (Nat.le_refl _) HP.out _ _ _) (only_put3 O2.out (Nat.le_refl _) _ _ _)
  | true =>
    by_cases h0 : r = 0
    · rw [if_pos (.inr h0)] at hG
      have HG := Lib.hid hG
      subst h0
      clear hG
      go_enter Tryz.func14, Tryz.ntmps14
      go_upto_region 1 with (fail)
      rw [← HW1.out]
      go_wp2_with fail
      refine HHAS.out.mono ?_
      rintro e w2 ⟨rfl, k2⟩
      have M2 := Lib.hid (M1.out.below k2)
      have C2 := Lib.hid (C1.out.below k2)
      have K2 := Lib.hid (K1.out.below k2)
      have O2 := Lib.hid (O1.out.trans (Only.of_below' (S := fun j => j = p) k2 rfl))
      clear k2 HHAS e2
      go_wp2_with fail
      refine (HBO.out w2 M2.out).mono ?_
      rintro e w3 ⟨rfl, k3⟩
      have M3 := Lib.hid (M2.out.below k3)
      have C3' := Lib.hid (C2.out.below k3)
      have O3 := Lib.hid (O2.out.trans (Only.of_below' (S := fun j => j = p) k3 rfl))
      have M3' := Lib.hid (show TabM p (srcV F c) (n + ((0 : Nat) : Int)) t w3 by have := M3.out; rwa [show n + ((0 : Nat) : Int) = n by omega])
      clear k3
      have q0 := C3'.out.c0
      have q1 := C3'.out.c1
      have q2 := C3'.out.c2
      have qf := C3'.out.free
      have hneg : (((0 : Nat) : Int) - 1) = -1 := rfl
      go_wp2_with fail
      refine bodyPost_ret (results_c3b rfl _ _ w.heap.size _ _ _ _ _ _ rfl rfl rfl (C3'.out.put _ _ _) Tryz.underlying49 rfl sizeEnt) rfl ?_
      exact GetPost.mk' HG.out (M3'.out.put3 (a := w) (Nat.le_refl _) HP.out _ _ _) (only_put3 O3.out (Nat.le_refl _) _ _ _)
    · rw [if_neg (by rintro (h | h); (cases h); (exact h0 h))] at hG
      obtain ⟨i, hi⟩ : ∃ i, r = i + 1 := ⟨r - 1, by omega⟩
      subst hi
      rw [Nat.add_sub_cancel] at hG
      have hi1 : (((i + 1 : Nat) : Int) - 1) = (i : Int) := by omega
      have HRB := Lib.hid (fun (W : World) (hW : TabM p (srcV F c) n t W) (hKW : Keep K W) => table_readBlock p F c K 0 t n i W (Lib.hid hW) hf hs (Lib.hid hKW) hKp (by omega) hn1 hn2 hl)
      obtain ⟨R, hR⟩ : ∃ R, R = blockD t 0 i := ⟨_, rfl⟩
      have hRT : blockT t i = R := by rw [hR]; rfl
      rw [hRT] at hG
      rw [← hR] at HRB
      have hRr := Lib.hid (show rises R.2 from by rw [← hRT]; exact block_rises t i)
      have hRf := Lib.hid (show R.2.length ≤ 65536 from by rw [← hRT]; exact block_few t i)
      have hRe := Lib.hid (show R.1 ≠ 0 → R.2 = [] from by rw [← hRT]; exact block_err t i)
      have HG := Lib.hid hG
      have hdec : ¬ ((i + 1 : Nat) : Int) - 1 < 0 := by omega
      clear hG hR hRT h0
      go_enter Tryz.func14, Tryz.ntmps14
      go_upto_region 1 with (fail)
      rw [← HW1.out]
      go_wp2_with fail
      refine HHAS.out.mono ?_
      rintro e w2 ⟨rfl, k2⟩
      have M2 := Lib.hid (M1.out.below k2)
      have C2 := Lib.hid (C1.out.below k2)
      have K2 := Lib.hid (K1.out.below k2)
      have O2 := Lib.hid (O1.out.trans (Only.of_below' (S := fun j => j = p) k2 rfl))
      clear k2 HHAS e2
      go_wp2_with fail
      refine (HBO.out w2 M2.out).mono ?_
      rw [hi1]
      rintro e w3 ⟨rfl, k3⟩
      have M3 := Lib.hid (M2.out.below k3)
      have K3 := Lib.hid (K2.out.below k3)
      have C3' := Lib.hid (C2.out.below k3)
      have O3 := Lib.hid (O2.out.trans (Only.of_below' (S := fun j => j = p) k3 rfl))
      have hi2 : i ≤ 65536 := by omega
      clear k3 hi1 hdec
      go_wp2_with fail
      refine (HRB.out w3 M3.out K3.out).mono ?_
      rintro e w4 ⟨⟨xa, xc, rfl, hxc, hxe⟩, hM4, hO4, _⟩
      have M4 := Lib.hid hM4
      have C4 := Lib.hid (C3'.out.table hO4 hpn.out)
      have O4 := Lib.hid (O3.out.trans hO4)
      have HXE := Lib.hid hxe
      clear hM4 hO4 hxc hxe
      obtain ⟨z, hz⟩ : ∃ z, z = R.1 := ⟨_, rfl⟩
      obtain ⟨T, hT⟩ : ∃ T, T = R.2 := ⟨_, rfl⟩
      rw [← hz, ← hT] at HG
      rw [← hz, ← hT] at hRe
      rw [← hT] at hRr hRf HXE
      rw [← hz, ← hT]
      obtain ⟨m, hm⟩ : ∃ m, m = T.length := ⟨_, rfl⟩
      rw [← hm] at hRf HXE ⊢
      have HMl := Lib.hid hm
      have hmf := hRf.out
      clear hz hT hm
      by_cases hz0 : z = 0
      · subst hz0
        go_wp2_with fail
        refine (block_Find xa m xc T key w4 HXE (by omega)).mono ?_
        rintro e w5 ⟨⟨r, rfl, hr1, hr2, hr3⟩, k5⟩
        have M5 := Lib.hid (M4.out.below k5)
        have C5 := Lib.hid (C4.out.below k5)
        have O5 := Lib.hid (O4.out.trans (Only.of_below' (S := fun j => j = p) k5 rfl))
        have X5 := Lib.hid (HXE.out.below k5)
        obtain ⟨f1, f2⟩ := find_at hRr.out hr1 hr2 hr3
        have F1 := Lib.hid f1
        have F2 := Lib.hid f2
        have hrm : r ≤ m := by rw [HMl.out]; exact hr1
        clear k5 hr1 hr2 hr3 f1 f2
        by_cases hrm2 : r = m
        · have HG2 := Lib.hid (show getT t key = (⟨[], [], false⟩, false, 0, 1) by
            rw [HG.out, F2.out (fun x hx => by have := (List.getElem?_eq_some_iff.1 hx).1; rw [← HMl.out] at this; omega)])
          have hrmi : (r : Int) = (m : Int) := by omega
          have hrmb : ((r : Int) == (m : Int)) = true := beq_iff_eq.2 hrmi
          clear hrm2 hrm
          have q0 := C5.out.c0
          have q1 := C5.out.c1
          have q2 := C5.out.c2
          have qf := C5.out.free
          go_wp2_with fail
          refine bodyPost_ret (results_c3b rfl _ _ w.heap.size _ _ _ _ _ _ rfl rfl rfl (C5.out.put _ _ _) Tryz.underlying49 rfl sizeEnt) rfl ?_
          exact GetPost.mk' HG2.out (M5.out.put3 (a := w) (Nat.le_refl _) HP.out _ _ _) (only_put3 O5.out (Nat.le_refl _) _ _ _)
        · obtain ⟨b2, off2, x, rfl, hx, _, hcx⟩ := X5.out.at (k := r) (by omega)
          have d0 := hcx.c0
          have d1 := hcx.c1
          have d2 := hcx.c2
          have hrmi : ¬ (r : Int) = (m : Int) := by omega
          have hrmb : ((r : Int) == (m : Int)) = false := beq_eq_false_iff_ne.2 hrmi
          have hrlt : (r : Int) < (m : Int) := by omega
          by_cases hkk : x.key = key
          · have HG2 := Lib.hid (show getT t key = (x, true, 0, 1) by rw [HG.out, F1.out x hx hkk])
            have hcm : ((bs x.key).toList == (bs key).toList) = true := (same_bytes _ _).2 hkk
            have hcp : (bs x.key).toList = (bs key).toList := by rw [hkk]
            clear hrm2 hrm hx hkk
            have q0 := C5.out.c0
            have q1 := C5.out.c1
            have q2 := C5.out.c2
            have qf := C5.out.free
            go_wp2_with fail
            refine bodyPost_ret (results_c3b rfl _ _ w.heap.size _ _ _ _ _ _ rfl rfl rfl (C5.out.put _ _ _) Tryz.underlying49 rfl sizeEnt) rfl ?_
            exact GetPost.mk' HG2.out (M5.out.put3 (a := w) (Nat.le_refl _) HP.out _ _ _) (only_put3 O5.out (Nat.le_refl _) _ _ _)
          · have HG2 := Lib.hid (show getT t key = (⟨[], [], false⟩, false, 0, 1) by
              rw [HG.out, F2.out (fun y hy => by rw [hx] at hy; injection hy with hy; rw [← hy]; exact hkk)])
            have hcm : ((bs x.key).toList == (bs key).toList) = false := by
              cases h : ((bs x.key).toList == (bs key).toList) with
              | false => rfl
              | true => exact absurd ((same_bytes _ _).1 h) hkk
            have hcp : ¬ (bs x.key).toList = (bs key).toList := fun h => by rw [h] at hcm; simp at hcm
            clear hrm2 hrm hx hkk
            have q0 := C5.out.c0
            have q1 := C5.out.c1
            have q2 := C5.out.c2
            have qf := C5.out.free
            go_wp2_with fail
            refine bodyPost_ret (results_c3b rfl _ _ w.heap.size _ _ _ _ _ _ rfl rfl rfl (C5.out.put _ _ _) Tryz.underlying49 rfl sizeEnt) rfl ?_
            exact GetPost.mk' HG2.out (M5.out.put3 (a := w) (Nat.le_refl _) HP.out _ _ _) (only_put3 O5.out (Nat.le_refl _) _ _ _)
      · have hTe := hRe.out hz0
        have hzb : (z == 0) = false := beq_eq_false_iff_ne.2 hz0
        have HG2 := Lib.hid (show getT t key = (⟨[], [], false⟩, false, z, 1) by rw [HG.out, hTe]; rfl)
        clear hTe hz0
        have q0 := C4.out.c0
        have q1 := C4.out.c1
        have q2 := C4.out.c2
        have qf := C4.out.free
        go_wp2_with fail
        refine bodyPost_ret (results_c3b rfl _ _ w.heap.size _ _ _ _ _ _ rfl rfl rfl (C4.out.put _ _ _) Tryz.underlying49 rfl sizeEnt) rfl ?_
        exact GetPost.mk' HG2.out (M4.out.put3 (a := w) (Nat.le_refl _) HP.out _ _ _) (only_put3 O4.out (Nat.le_refl _) _ _ _)
end Go.Proofs.YteejldddgogbkaaGreatDoor
/- What a walk tells, in plain words. -/
set_option linter.unusedVariables false
set_option maxRecDepth 100000
namespace Go.Proofs.YteejldddgogbkaaGreatDoor
open Go.RowKit

/-- f blocks from the i-th on, up to the first error; the source refuses with d. -/
def scanD (t : Tab) (d : Int) (k : List UInt8) : Nat → Nat → Int × List Ent
  | 0, _ => (0, [])
  | f + 1, i => if (blockD t d i).1 ≠ 0 then ((blockD t d i).1, []) else ((scanD t d k f (i + 1)).1, fromE k (blockD t d i).2 ++ (scanD t d k f (i + 1)).2)
theorem scanD_zero (t : Tab) (k : List UInt8) : ∀ f i, scanD t 0 k f i = scanG t k f i
  | 0, _ => rfl
  | f + 1, i => by
    unfold scanD scanG
    rw [scanD_zero t k f (i + 1)]
    rfl
/-- What a walk tells from where it stands: R is what is left of the block, z the error, i the block that is next. -/
def restW (t : Tab) (d : Int) (k : List UInt8) (R : List Ent) (z : Int) (i : Nat) : Int × List Ent :=
  if z ≠ 0 then (z, R) else ((scanD t d k (t.index.length - i) i).1, R ++ (scanD t d k (t.index.length - i) i).2)
theorem fromE_drop {k : List UInt8} {T : List Ent} (hT : rises T) {r : Nat} (h1 : r ≤ T.length) (h2 : ∀ x, 0 < r → T[r - 1]? = some x → ltB x.key k = true) (h3 : ∀ x, T[r]? = some x → ltB x.key k = false) : T.drop r = fromE k T := by
  have hpl := find_place hT h1 h2 h3
  have hA : fromE k (T.take r) = [] := by
    unfold fromE
    rw [List.filter_eq_nil_iff]
    intro x hx
    obtain ⟨i, hi⟩ := List.mem_iff_getElem?.1 hx
    have hir : i < r := by have := (List.getElem?_eq_some_iff.1 hi).1; rw [List.length_take] at this; omega
    rw [List.getElem?_take, if_pos hir] at hi
    have := place_iff k hT i x hi
    rw [hpl, decide_eq_true hir] at this
    rw [this]
    decide
  have hB : fromE k (T.drop r) = T.drop r := by
    unfold fromE
    rw [List.filter_eq_self]
    intro x hx
    obtain ⟨i, hi⟩ := List.mem_iff_getElem?.1 hx
    rw [List.getElem?_drop] at hi
    have := place_iff k hT (r + i) x hi
    rw [hpl, decide_eq_false (by omega)] at this
    rw [this]
    rfl
  conv => rhs; rw [← List.take_append_drop r T]
  rw [fromE_app, hA, hB, List.nil_append]
theorem blockD_err (t : Tab) (d : Int) (i : Nat) : (blockD t d i).1 ≠ 0 → (blockD t d i).2 = [] := by
  unfold blockD
  split
  · exact fun _ => rfl
  · exact block_err t i
theorem blockD_rises (t : Tab) (d : Int) (i : Nat) : rises (blockD t d i).2 := by
  unfold blockD
  split
  · trivial
  · exact block_rises t i
theorem blockD_few (t : Tab) (d : Int) (i : Nat) : (blockD t d i).2.length ≤ 65536 := by
  unfold blockD
  split
  · exact Nat.zero_le _
  · exact block_few t i
/-- One block more is read. -/
theorem rest_next {t : Tab} {d : Int} {k : List UInt8} {i : Nat} (hi : i < t.index.length) : restW t d k [] 0 i = restW t d k (if (blockD t d i).1 ≠ 0 then [] else fromE k (blockD t d i).2) (blockD t d i).1 (i + 1) := by
  obtain ⟨f, hf⟩ : ∃ f, t.index.length - i = f + 1 := ⟨t.index.length - i - 1, by omega⟩
  have hf2 : t.index.length - (i + 1) = f := by omega
  have hs : scanD t d k (f + 1) i = (if (blockD t d i).1 ≠ 0 then ((blockD t d i).1, []) else ((scanD t d k f (i + 1)).1, fromE k (blockD t d i).2 ++ (scanD t d k f (i + 1)).2)) := rfl
  unfold restW
  rw [if_neg (fun h => h rfl), hf, hf2, List.nil_append, hs]
  by_cases h : (blockD t d i).1 = 0 <;> simp [h]
theorem rest_end {t : Tab} {d : Int} {k : List UInt8} {i : Nat} (hi : t.index.length ≤ i) : restW t d k [] 0 i = (0, []) := by
  unfold restW
  rw [if_neg (fun h => h rfl), show t.index.length - i = 0 by omega]
  rfl
theorem rest_bad {t : Tab} {d : Int} {k : List UInt8} {i : Nat} {z : Int} (hz : z ≠ 0) : restW t d k [] z i = (z, []) := by unfold restW; rw [if_pos hz]
theorem rest_cons {t : Tab} {d : Int} {k : List UInt8} {i : Nat} {z Z : Int} {x : Ent} {R L : List Ent} (h : restW t d k (x :: R) z i = (Z, L)) : ∃ L1, L = x :: L1 ∧ restW t d k R z i = (Z, L1) := by
  unfold restW at h ⊢
  split at h
  · injection h with h1 h2
    rename_i hz
    rw [if_pos hz]
    exact ⟨R, h2.symm, by rw [h1]⟩
  · injection h with h1 h2
    rename_i hz
    rw [if_neg hz, h1]
    exact ⟨_, h2.symm, rfl⟩
end Go.Proofs.YteejldddgogbkaaGreatDoor
/- A walk in memory. -/
set_option linter.unusedVariables false
set_option maxRecDepth 100000
namespace Go.Proofs.YteejldddgogbkaaGreatDoor
open Go.RowKit

theorem sizeE3 : ∃ i, Tryz.prog.info? 49 = some i ∧ i.size = 3 := by
  obtain ⟨i, h, _, h2, _⟩ := info_parts infoE
  exact ⟨i, h, h2⟩
/-- What is left of a slice of entries behind the first g. -/
theorem slice_ents {a : Option Addr} {n cap g : Nat} (hg : g ≤ n) (hc : n ≤ cap) : ∃ a', (∀ W, (Instr.slice 22 (.slice a n cap) (some (.int .i64 (g : Int))) none none).run Tryz.prog W = .ok (.slice a' (n - g) (cap - g)) W) ∧ (∀ w T, IsE w a n T → IsE w a' (n - g) (T.drop g)) ∧ ∀ b off, g < n → a = some ⟨b, off, none⟩ → a' = some ⟨b, off + g * 3, none⟩ := by
  obtain ⟨i, hi, hs⟩ := sizeE3
  have h1 : (g : Int) ≤ (n : Int) := by omega
  have h2 : g ≤ cap := by omega
  refine ⟨if cap = g then a else a.map (·.add (g * 3)), fun W => ?_, fun w T h => ?_, fun b off hgn ha => by rw [if_neg (by omega), ha]; simp [addr_add]⟩
  · by_cases hcg : cap = g
    · subst hcg
      simp [Instr.slice, run_underlying Tryz.underlying22, Instr.sliceBounds, run_sliceBound, sizeOf, typeInfo, hi, h1, hg]
    · have hn : ¬ cap = g := hcg
      cases a <;> simp [Instr.slice, run_underlying Tryz.underlying22, Instr.sliceBounds, run_sliceBound, sizeOf, typeInfo, hi, hs, h1, hg, hn]
  · obtain ⟨e, b, off, ho, hr⟩ := h
    refine ⟨by rw [List.length_drop, e], b, off + g * 3, ?_, fun k hk => ?_⟩
    · rcases Nat.eq_or_lt_of_le hg with h0 | h0
      · left; omega
      · right
        rw [if_neg (by omega)]
        rcases ho with ho | ho
        · omega
        · rw [ho]
          simp [addr_add]
    · rw [List.length_drop] at hk
      have := hr (g + k) (by omega)
      rw [show off + g * 3 + k * 3 = off + (g + k) * 3 by omega, List.getElem_drop]
      exact this
/-- A block that holds no text holds no entry. -/
theorem IsE.beside {w w' : World} {q : Nat} {vs : Array Value} {ty : TypeId} {z : Nat × Nat} {a : Option Addr} {len : Nat} {T : List Ent} (h : IsE w a len T) (hq : w.heap[q]? = some (.cells vs ty z)) (hv : ∀ s, Value.string s ∉ vs.toList) (k : ∀ j, j < w.heap.size → j ≠ q → w'.heap[j]? = w.heap[j]?) : IsE w' a len T := by
  obtain ⟨e, b, off, ho, hr⟩ := h
  refine ⟨e, b, off, ho, fun i hi => ?_⟩
  have hc := hr i hi
  have hb : b ≠ q := fun e => by
    subst e
    have h0 := hc.c0
    simp only [World.cell?, hq] at h0
    have h0' : vs[off + i * 3]? = some (.string (bs T[i].key)) := by simpa using h0
    exact hv _ (by rw [Array.mem_toList_iff]; exact Array.mem_of_getElem? h0')
  have hs := k b (cell_block hc.c0) hb
  exact ⟨lt_of_same (cell_block hc.c0) hs, cell_same hc.c0 hs, cell_same hc.c1 hs, cell_same hc.c2 hs⟩
/-- A walk: what is left of the block, the error, the block that is next. -/
structure WalkM (lb fb nb tb kb p G : Nat) (key : List UInt8) (R : List Ent) (z : Int) (i : Nat) (W : World) : Prop where
  left : ∃ a cap, W.heap[lb]? = some (.cells #[.slice a R.length cap] 22 (0, 0)) ∧ R.length ≤ cap ∧ IsE W a R.length R
  fail : W.heap[fb]? = some (.cells #[.int .i64 z] 25 (0, 0))
  next : W.heap[nb]? = some (.cells #[.int .i64 (i : Int)] 3 (0, 0))
  tab : BxP tb p W
  kb : Bx kb key W
  row : ∀ a cap b off, W.heap[lb]? = some (.cells #[.slice a R.length cap] 22 (0, 0)) → a = some ⟨b, off, none⟩ → R ≠ [] → b ≠ G
theorem ne_tag {W : World} {a b : Nat} {va vb : Array Value} {ta tb : TypeId} {za zb : Nat × Nat} (h : W.heap[a]? = some (.cells va ta za)) (k : W.heap[b]? = some (.cells vb tb zb)) (ht : ta ≠ tb) : a ≠ b := fun e => by
  subst e
  rw [h] at k
  injection k with k
  injection k with _ k _
  exact ht k
namespace WalkM
variable {lb fb nb tb kb p G : Nat} {key : List UInt8} {R : List Ent} {z : Int} {i : Nat} {W W' : World}
theorem below (h : WalkM lb fb nb tb kb p G key R z i W) (k : Below W.heap.size W W') : WalkM lb fb nb tb kb p G key R z i W' := by
  obtain ⟨a, cap, h1, h2, h3⟩ := h.left
  exact ⟨⟨a, cap, (k.block _ (heap_lt h1)).trans h1, h2, h3.below k⟩, (k.block _ (heap_lt h.fail)).trans h.fail, (k.block _ (heap_lt h.next)).trans h.next, (k.block _ (heap_lt h.tab)).trans h.tab, (k.block _ (heap_lt h.kb)).trans h.kb, fun a' cap' b off e => h.row a' cap' b off (by rw [← k.block _ (heap_lt h1)]; exact e)⟩
/-- Where only the table's own block is written. -/
theorem table (h : WalkM lb fb nb tb kb p G key R z i W) {v : Value} {n : Int} {t : Tab} (hM : TabM p v n t W) (hv : ∀ s, v ≠ .string s) (k : Only (fun j => j = p) W W') : WalkM lb fb nb tb kb p G key R z i W' := by
  obtain ⟨a, cap, h1, h2, h3⟩ := h.left
  obtain ⟨a4, cap4, fb4, fg4, g1, _⟩ := hM.ex
  have n1 := ne_tag h1 g1 (by decide)
  have n2 := ne_tag h.fail g1 (by decide)
  have n3 := ne_tag h.next g1 (by decide)
  have n4 := ne_tag h.tab g1 (by decide)
  have n5 := ne_tag h.kb g1 (by decide)
  refine ⟨⟨a, cap, (k.block _ (heap_lt h1) n1).trans h1, h2, h3.beside g1 (fun s hs => ?_) fun j hj hne => k.block j hj hne⟩, (k.block _ (heap_lt h.fail) n2).trans h.fail, (k.block _ (heap_lt h.next) n3).trans h.next, (k.block _ (heap_lt h.tab) n4).trans h.tab, (k.block _ (heap_lt h.kb) n5).trans h.kb, fun a' cap' b off e => h.row a' cap' b off (by rw [← k.block _ (heap_lt h1) n1]; exact e)⟩
  simp at hs
  exact hv s hs.symm
theorem setLeft (h : WalkM lb fb nb tb kb p G key R z i W) {a : Option Addr} {cap : Nat} {R' : List Ent} (hc : R'.length ≤ cap) (hE : IsE W a R'.length R') (hG : ∀ b off, a = some ⟨b, off, none⟩ → R' ≠ [] → b ≠ G) : WalkM lb fb nb tb kb p G key R' z i (W.setCell ⟨lb, 0, none⟩ (.slice a R'.length cap)) := by
  obtain ⟨a0, cap0, h1, h2, h3⟩ := h.left
  have n2 := ne_tag h.fail h1 (by decide)
  have n3 := ne_tag h.next h1 (by decide)
  have n4 := ne_tag h.tab h1 (by decide)
  have n5 := ne_tag h.kb h1 (by decide)
  refine ⟨⟨a, cap, by rw [heap_set (o := 0) h1]; rfl, hc, hE.beside h1 (by simp) fun j _ hne => heap_set_other hne _⟩, (heap_set_other n2 _).trans h.fail, (heap_set_other n3 _).trans h.next, (heap_set_other n4 _).trans h.tab, (heap_set_other n5 _).trans h.kb, fun a' cap' b off e => ?_⟩
  rw [heap_set (o := 0) h1] at e
  injection e with e
  injection e with e _ _
  have hh := congrArg (fun v => v.toList) e
  simp at hh
  rw [← hh.1]
  exact hG b off
theorem setFail (h : WalkM lb fb nb tb kb p G key R z i W) (z' : Int) : WalkM lb fb nb tb kb p G key R z' i (W.setCell ⟨fb, 0, none⟩ (.int .i64 z')) := by
  obtain ⟨a0, cap0, h1, h2, h3⟩ := h.left
  have n2 := ne_tag h1 h.fail (by decide)
  have n3 := ne_tag h.next h.fail (by decide)
  have n4 := ne_tag h.tab h.fail (by decide)
  have n5 := ne_tag h.kb h.fail (by decide)
  refine ⟨⟨a0, cap0, (heap_set_other n2 _).trans h1, h2, h3.beside h.fail (by simp) fun j _ hne => heap_set_other hne _⟩, by rw [heap_set (o := 0) h.fail]; rfl, (heap_set_other n3 _).trans h.next, (heap_set_other n4 _).trans h.tab, (heap_set_other n5 _).trans h.kb, fun a' cap' b off e => h.row a' cap' b off (by rw [← heap_set_other n2]; exact e)⟩
theorem setNext (h : WalkM lb fb nb tb kb p G key R z i W) (j : Nat) : WalkM lb fb nb tb kb p G key R z j (W.setCell ⟨nb, 0, none⟩ (.int .i64 (j : Int))) := by
  obtain ⟨a0, cap0, h1, h2, h3⟩ := h.left
  have n2 := ne_tag h1 h.next (by decide)
  have n3 := ne_tag h.fail h.next (by decide)
  have n4 := ne_tag h.tab h.next (by decide)
  have n5 := ne_tag h.kb h.next (by decide)
  refine ⟨⟨a0, cap0, (heap_set_other n2 _).trans h1, h2, h3.beside h.next (by simp) fun j _ hne => heap_set_other hne _⟩, (heap_set_other n3 _).trans h.fail, by rw [heap_set (o := 0) h.next]; rfl, (heap_set_other n4 _).trans h.tab, (heap_set_other n5 _).trans h.kb, fun a' cap' b off e => h.row a' cap' b off (by rw [← heap_set_other n2]; exact e)⟩
end WalkM
/-- The table stays where a variable of another kind is written. -/
theorem TabM.other {p q : Nat} {v : Value} {n : Int} {t : Tab} {W W' : World} {vs : Array Value} {ty : TypeId} (h : TabM p v n t W) (hq : W.heap[q]? = some (.cells vs ty (0, 0))) (hp : p < q) (k : ∀ j, j < W.heap.size → j ≠ q → W'.heap[j]? = W.heap[j]?) : TabM p v n t W' := by
  obtain ⟨a, cap, fb, fg, h1, h2, h3, h4, h5⟩ := h.ex
  exact ⟨a, cap, fb, fg, (k p (heap_lt h1) (by omega)).trans h1, h2.keep fun j hj hj2 => k j hj2 (by omega), h3.blocks (k fb h3.lt (by omega)) (k fg h3.row.1 (by omega)), h4, h5⟩
/-- What is left of a slice lies in its block. -/
theorem slice_same {a a' : Option Addr} {n g G : Nat} {T : List Ent} {w : World} (h : ∀ b off, g < n → a = some ⟨b, off, none⟩ → a' = some ⟨b, off + g * 3, none⟩) (hE : IsE w a n T) (hG : ∀ b off, a = some ⟨b, off, none⟩ → T ≠ [] → b ≠ G) : ∀ b off, a' = some ⟨b, off, none⟩ → T.drop g ≠ [] → b ≠ G := fun b off ha hne => by
  have hg : g < n := by
    rcases Nat.lt_or_ge g n with h | h
    · exact h
    · exact absurd (List.drop_eq_nil_of_le (by rw [← hE.1]; exact h)) hne
  obtain ⟨b0, off0, x, h1, h2, _⟩ := hE.at hg
  have h3 := h b0 off0 hg h1
  rw [ha] at h3
  injection h3 with h3
  injection h3 with h3 _ _
  rw [h3]
  exact hG b0 off0 h1 (fun e => by rw [e] at h2; simp at h2)
end Go.Proofs.YteejldddgogbkaaGreatDoor
