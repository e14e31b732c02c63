/- A walk of a map (of int values): Walk, and what it answers. -/
import Derived.Test.YtbmihajbdobgbaaMemFromI
set_option linter.unusedVariables false
set_option maxRecDepth 100000
namespace Go.Proofs.Ytbmihajbdobgbaa.MI
open Go.RowKit

/-- The box c of a walk that has L before it; its nodes stand in v. -/
structure Wk (w : World) (B c : Nat) (v : Value) (L : List (List UInt8 × Int)) : Prop where
  box : w.heap[c]? = some (.cells #[v] 77 (0, 0))
  lo : B ≤ c
  ex : ∃ S, Stk w B v S ∧ (∀ s ∈ S, (In w.heap.size w s ∧ ris s.prs) ∧ ∃ b k x l r, s = .node b k x l r) ∧ tl S.reverse = L
theorem stk_keep {w w' : World} {B : Nat} {v : Value} {S : List (Tr Int)} (h : Stk w B v S) (hv : ∀ j, v.ownBlock = some j → w'.heap[j]? = w.heap[j]?) : Stk w' B v S := OffRow.kept h hv
theorem Wk.keep {w w' : World} {B c : Nat} {v : Value} {L : List (List UInt8 × Int)} (h : Wk w B c v L) (hc : w'.heap[c]? = w.heap[c]?) (hv : ∀ j, v.ownBlock = some j → w'.heap[j]? = w.heap[j]?) (k : Kn 64 w w') : Wk w' B c v L := by
  obtain ⟨S, h1, h2, h3⟩ := h.ex
  exact ⟨hc.trans h.box, h.lo, S, stk_keep h1 hv, fun s hs => ⟨⟨(h2 s hs).1.1.kn k, (h2 s hs).1.2⟩, (h2 s hs).2⟩, h3⟩
theorem Wk.own {w : World} {B c : Nat} {v : Value} {L : List (List UInt8 × Int)} (h : Wk w B c v L) {j : Nat} (hj : v.ownBlock = some j) : B ≤ j ∧ j < w.heap.size ∧ j ≠ c := by
  obtain ⟨S, h1, _, _⟩ := h.ex
  refine ⟨(h1.lt j hj).1, (h1.lt j hj).2, ?_⟩
  rintro rfl
  obtain ⟨cur, hc⟩ := h1.tag hj
  have := h.box
  rw [hc] at this
  injection this with this
  injection this with _ this
  revert this
  decide
theorem Wk.below {w w' : World} {B c : Nat} {v : Value} {L : List (List UInt8 × Int)} (h : Wk w B c v L) (k : Below w.heap.size w w') : Wk w' B c v L :=
  h.keep (k.block c (heap_lt h.box)) (fun j hj => k.block j (h.own hj).2.1) (Kn.of_below k)
/-- What a step of a walk leaves. -/
def NextPost (w : World) (B c : Nat) (v : Value) (L : List (List UInt8 × Int)) (e : Ending) (w' : World) : Prop :=
  Only (fun j => j = c ∨ v.ownBlock = some j) w w' ∧ Kn 64 w w' ∧
  ∃ v', (∀ j, v'.ownBlock = some j → v.ownBlock = some j ∨ w.heap.size ≤ j) ∧
  match L with
  | [] => e = .returned (.tuple #[.string ByteArray.empty, .int .i64 0, .bool false]) ∧ Wk w' B c v' []
  | (k, x) :: L' => e = .returned (.tuple #[.string (bs k), .int .i64 x, .bool true]) ∧ Wk w' B c v' L'
set_option maxHeartbeats 2000000 in
theorem next_end {w : World} {B c : Nat} {v : Value} (h : Hid (Wk w B c v [])) :
    Calls Try.prog 37 #[.pointer (some ⟨c, 0, none⟩)] w fun e w' => NextPost w B c v [] e w' := by
  obtain ⟨S, h1, h2, h3⟩ := h.out.ex
  have hS : S = [] := by
    have := tl_len (S := S.reverse) fun s hs => (h2 s (List.mem_reverse.1 hs)).2
    rw [h3] at this
    simpa using this
  subst hS
  obtain ⟨a, cap, rfl⟩ := h1.slice
  have c0 : w.cell? ⟨c, 0, none⟩ = some (.slice a 0 cap) := by simp [World.cell?, h.out.box]
  clear h1 h2 h3
  go_enter Try.func37, Try.ntmps37
  go_wp2_with fail
  refine bodyPost_ret (results_tmp3 rfl _ _ _) rfl ?_
  exact ⟨Only.refl _ _, Kn.refl _ _, _, fun _ h => .inl h, rfl, h.out⟩
set_option maxHeartbeats 2000000 in
theorem next_more {w : World} {B c : Nat} {v : Value} {k : List UInt8} {x : Int} {L : List (List UInt8 × Int)} (h : Hid (Wk w B c v ((k, x) :: L))) (hB : B ≤ w.heap.size) (hl : L.length ≤ 900000) :
    Calls Try.prog 37 #[.pointer (some ⟨c, 0, none⟩)] w fun e w' => NextPost w B c v ((k, x) :: L) e w' := by
  obtain ⟨S, h1, h2, h3⟩ := h.out.ex
  have hne : S ≠ [] := by rintro rfl; cases h3
  obtain ⟨S0, s, rfl⟩ : ∃ S0 s, S = S0 ++ [s] := ⟨S.dropLast, S.getLast hne, (List.dropLast_concat_getLast hne).symm⟩
  obtain ⟨⟨hI, hri⟩, b, k1, x1, l, r, rfl⟩ := h2 s (by simp)
  rw [List.reverse_append] at h3
  simp only [List.reverse_cons, List.reverse_nil, List.nil_append, List.cons_append, tl, List.cons.injEq, Prod.mk.injEq] at h3
  obtain ⟨⟨rfl, rfl⟩, h3⟩ := h3
  obtain ⟨n, hn⟩ : ∃ n, n = S0.length := ⟨_, rfl⟩
  obtain ⟨m, hm⟩ : ∃ m, m = n + 1 := ⟨_, rfl⟩
  have hlen : (S0 ++ [Tr.node b k1 x1 l r]).length = m := by rw [hm, hn]; simp
  unfold Stk at h1
  rw [hlen] at h1
  obtain ⟨g, off, cap, cur, rfl, hBg, hg, hcell⟩ := h1.form (by omega)
  have hle := OffRow.le h1
  have hown := Lib.hid (h.out.own (j := g) rfl)
  have HR := Lib.hid h1
  have HST := Lib.hid (show ∀ y, y.heap[g]? = w.heap[g]? → Stk y B (.slice (some ⟨g, off, none⟩) n cap) S0 from fun y hy => by
    have := (HR.out.kept (w' := y) (fun j hj => by injection hj with hj; subst hj; exact hy)).take (k := n) (by omega)
    unfold Stk
    rw [← hn]
    have e : ((S0 ++ [Tr.node b k1 x1 l r]).map Tr.ptr).take (n * 1) = S0.map Tr.ptr := by rw [List.map_append, List.take_left' (by simp [hn])]
    rw [e] at this
    exact this)
  obtain ⟨pr, hpr⟩ := r.ptr_is
  obtain ⟨i0, hi, hz0, hz1, hz2⟩ := info_parts infoP
  have hsl := slice_to (P := Try.prog) (n := m) Try.underlying77 hi (show n ≤ cap by omega) hle.2.2.2 hle.2.2.1
  have c0 : w.cell? ⟨c, 0, none⟩ = some (.slice (some ⟨g, off, none⟩) m cap) := by simp [World.cell?, h.out.box]
  have ce : w.cell? ⟨g, off + n, none⟩ = some (.pointer (some ⟨b, 0, none⟩)) := by
    rw [hcell n (by omega), List.map_append, List.getElem?_append_right (by simp [hn])]
    simp [hn, Tr.ptr]
  have n1 : ∀ q : Seen w, q.val.cell? ⟨b, 3, none⟩ = some (.pointer pr) := fun q => by rw [q.below.cell (p := ⟨b, 3, none⟩) hI.lt, ← hpr]; exact hI.c3
  have n2 : ∀ q : Seen w, q.val.cell? ⟨c, 0, none⟩ = some (.slice (some ⟨g, off, none⟩) m cap) := fun q => by rw [q.below.cell (p := ⟨c, 0, none⟩) (heap_lt h.out.box)]; exact c0
  have hm0 : ((m : Int) == 0) = false := by simp; omega
  have hm1 : (m : Int) - 1 = (n : Int) := by omega
  have hm2 : (n : Int) < (m : Int) := by omega
  have hm3 : m ≤ 1000000 := by
    have := tl_len (S := (S0 ++ [Tr.node b k1 x1 l r]).reverse) fun s hs => (h2 s (List.mem_reverse.1 hs)).2
    rw [List.reverse_append] at this
    simp only [List.reverse_cons, List.reverse_nil, List.nil_append, List.cons_append, tl, List.length_cons, List.length_append, List.length_reverse] at this
    rw [← h3] at hl
    simp only [List.length_append] at hl
    omega
  have HF := Lib.hid (show ∀ y, Below w.heap.size w y → Calls Try.prog 36 #[.pointer pr, .string ⟨#[]⟩, .slice (some ⟨g, off, none⟩) n cap] y fun e w' => FromPost [] r S0 (.slice (some ⟨g, off, none⟩) n cap) B y e w' from fun y K =>
    from_ (k := []) (Lib.hid (hI.right.seen K)) hpr (Lib.hid (HST.out y (K.block g hown.out.2.1))) (Nat.le_trans hB K.size) (by
      have a1 := r.ht_le
      have a2 := r.sz_prs
      have a3 := tl_len (S := S0.reverse) fun s hs => (h2 s (by simp [List.mem_reverse.1 hs])).2
      rw [← h3] at hl
      simp only [List.length_append, List.length_reverse] at hl a3
      omega))
  have H3 := Lib.hid h3
  have H2 := Lib.hid h2
  have HI := Lib.hid hI
  have HRI := Lib.hid hri
  have HPR := Lib.hid hpr
  have HB := Lib.hid hB
  clear h3 h2 hI hri hpr hB hne h1 hg hcell hle hi hz0 hz1 hz2 hlen hl hm hn hBg
  go_enter Try.func37, Try.ntmps37
  go_wp2_with fail
  refine wp_region_seen_tail 7 (by kernel_rfl) (by kernel_rfl) ?_
  simp only [List.take_succ_cons, List.take_zero, List.drop_succ_cons, List.drop_zero]
  repeat go_big_quiet_step (fail)
  refine wpQuiet_nil ?_
  rintro _ ⟨q1, rfl⟩
  have K1 := Lib.hid q1.below
  generalize q1.val = y1 at *
  clear n1 n2 hsl c0 ce
  go_wp2_with fail
  refine (HF.out _ K1.out).mono ?_
  rintro e y2 ⟨v2, rfl, hW⟩
  have hbox1 := Lib.hid ((K1.out.block c (heap_lt h.out.box)).trans h.out.box)
  have hbox2 := Lib.hid ((hW.only.block c (heap_lt hbox1.out) (fun e => hown.out.2.2 (by injection e))).trans hbox1.out)
  have d0 : y2.cell? ⟨c, 0, none⟩ = some (.slice (some ⟨g, off, none⟩) m cap) := by simp [World.cell?, hbox2.out]
  have f0 : y2.frozen? ⟨c, 0, none⟩ = false := by simp [World.frozen?, hbox2.out]
  have HW := Lib.hid hW
  obtain ⟨a2, cap2, hv2⟩ := hW.row.slice
  have HV2 := Lib.hid hv2
  rw [hv2]
  have K3 := Lib.hid (show Kn 64 w (y2.setCell ⟨c, 0, none⟩ (.slice a2 (S0 ++ path [] r).length cap2)) from ((Kn.of_below K1.out).trans hW.kn).set hbox2.out (by decide) _)
  have I3 := HI.out.kn K3.out
  have e0 := I3.c0
  have e1 := I3.c1
  obtain ⟨nn, hnn⟩ : ∃ nn, nn = (S0 ++ path [] r).length := ⟨_, rfl⟩
  rw [← hnn] at K3 HV2 e0 e1 ⊢
  clear hv2 I3 hnn hW
  go_wp2_with fail
  obtain ⟨y3, hy3⟩ : ∃ y3, y3 = y2.setCell ⟨c, 0, none⟩ (.slice a2 nn cap2) := ⟨_, rfl⟩
  rw [← hy3] at K3 e0 e1 ⊢
  have HY3 := Lib.hid hy3
  clear hy3
  go_quiet (fail)
  go_wp2_with fail
  refine bodyPost_ret (results_tmp3 rfl _ _ _) rfl ?_
  have Ky : Below y3.heap.size y3 (y3.drewN nq) := below_drewN (Below.refl _ _) _
  have KN : Kn 64 w (y3.drewN nq) := K3.out.below Ky
  have hv2 := HV2.out
  have ho : Only (fun j => j = c ∨ (Value.slice (some ⟨g, off, none⟩) m cap).ownBlock = some j) w y3 := by
    rw [HY3.out]
    refine Only.setCell ?_ (.inl (.inl rfl)) _
    exact (Only.of_below (S := fun j => j = c ∨ (Value.slice (some ⟨g, off, none⟩) m cap).ownBlock = some j) K1.out (fun k hk h => by omega)).andThen HW.out.only (fun j _ hj => .inr hj)
  refine ⟨ho.drewN nq, KN, v2, ?_, rfl, ?_⟩
  · intro j hj
    rcases HW.out.own j hj with e | e
    · exact .inl e
    · exact .inr (Nat.le_trans K1.out.size e)
  · refine Wk.below ?_ Ky
    refine ⟨?_, h.out.lo, S0 ++ path [] r, ?_, ?_, ?_⟩
    · rw [HY3.out, hv2]
      exact heap_set hbox2.out _
    · refine stk_keep HW.out.row fun j hj => ?_
      rw [HY3.out]
      refine heap_set_other (fun e => ?_) _
      subst e
      rcases HW.out.own j hj with e | e
      · exact hown.out.2.2 (by injection e)
      · have := heap_lt h.out.box
        have := K1.out.size
        omega
    · intro s hs
      rcases List.mem_append.1 hs with hs | hs
      · have := H2.out s (by simp [hs])
        exact ⟨⟨this.1.1.kn K3.out, this.1.2⟩, this.2⟩
      · have := path_mem hs (fun t => In w.heap.size w t ∧ ris t.prs) ⟨HI.out.right, (ris_mid HRI.out).2.1⟩ (fun b k0 x l r hp => ⟨⟨hp.1.left, (ris_mid hp.2).1⟩, hp.1.right, (ris_mid hp.2).2.1⟩)
        exact ⟨⟨this.1.1.kn K3.out, this.1.2⟩, this.2⟩
    · rw [List.reverse_append, tl_path (ris_mid HRI.out).2.1, fromP_nil, H3.out]
/-- A STEP OF A WALK. -/
theorem next {w : World} {B c : Nat} {v : Value} {L : List (List UInt8 × Int)} (h : Hid (Wk w B c v L)) (hB : B ≤ w.heap.size) (hl : L.length ≤ 900000) :
    Calls Try.prog 37 #[.pointer (some ⟨c, 0, none⟩)] w fun e w' => NextPost w B c v L e w' := by
  cases L with
  | nil => exact next_end h
  | cons y L =>
    obtain ⟨k, x⟩ := y
    exact next_more h hB (by simp at hl; omega)
/-- What a walk writes lies from B on. -/
theorem NextPost.belowB {w w' : World} {B c : Nat} {v : Value} {L : List (List UInt8 × Int)} {e : Ending} (h : NextPost w B c v L e w') (k : Wk w B c v L) (hB : B ≤ w.heap.size) : Below B w w' :=
  h.1.below (fun j _ hj => by
    rcases hj with rfl | hj
    · exact k.lo
    · exact (k.own hj).1) hB
set_option maxHeartbeats 2000000 in
theorem map_Walk {t : Tr Int} {u : Option Addr} {k : List UInt8} {w : World} (h : Hid (IsM w t)) (hu : t.ptr = .pointer u) (hl : t.sz ≤ 900000) : Calls Try.prog 26 #[.agg #[.pointer u], .string (bs k)] w fun e w' =>
    ∃ c v, e = .returned (.func (.func 37) #[] #[.pointer (some ⟨c, 0, none⟩)]) ∧ Wk w' w.heap.size c v (fromP k t.prs) ∧ Below w.heap.size w w' := by
  obtain ⟨w1, hw1⟩ : ∃ w1, w1 = w.alloc (.cells #[.pointer u] 27) := ⟨_, rfl⟩
  have K1 := Lib.hid (show Below w.heap.size w w1 by rw [hw1]; exact (Below.refl _ _).alloc (Nat.le_refl _) _)
  have C1 := Lib.hid (show w1.cell? ⟨w.heap.size, 0, none⟩ = some (.pointer u) by rw [hw1, World.cell?_alloc_mark]; rfl)
  have M1 := Lib.hid (h.out.seen K1.out)
  have HW := Lib.hid hw1
  have HU := Lib.hid hu
  have HF := Lib.hid (show Calls Try.prog 36 #[.pointer u, .string (bs k), .slice none 0 0] w1 fun e w' => FromPost k t [] (.slice none 0 0) w.heap.size w1 e w' from
    from_ (Lib.hid M1.out.tree) hu (Lib.hid (OffRow.nil _ _ _ _)) K1.out.size (by have := t.ht_le; simp; omega))
  clear hw1 hu hl
  go_enter Try.func26, Try.ntmps26
  go_upto_region 1 with (fail)
  rw [← HW.out]
  have c1 := C1.out
  go_wp2_with fail
  refine HF.out.mono ?_
  rintro e y2 ⟨v2, rfl, hW⟩
  obtain ⟨a2, cap2, hv2⟩ := hW.row.slice
  have HWN := Lib.hid hW
  have HV2 := Lib.hid hv2
  rw [hv2]
  obtain ⟨nn, hnn⟩ : ∃ nn, nn = ([] ++ path k t).length := ⟨_, rfl⟩
  rw [← hnn] at HV2 ⊢
  clear hv2 hnn hW c1
  go_wp2_with fail
  go_ret
  have K2 : Below w1.heap.size w1 y2 := HWN.out.only.below (B := w1.heap.size) (fun j _ hj => by cases hj) (Nat.le_refl _)
  have K3 : Below w.heap.size w (y2.alloc (.cells #[.slice a2 nn cap2] 77)) := (K1.out.trans (K2.mono K1.out.size)).alloc (Nat.le_trans K1.out.size K2.size) _
  have KN : Kn 64 w (y2.alloc (.cells #[.slice a2 nn cap2] 77)) := Kn.of_below K3
  refine ⟨y2.heap.size, v2, rfl, ⟨?_, Nat.le_trans K1.out.size K2.size, path k t, ?_, ?_, ?_⟩, K3⟩
  · rw [heap_new, HV2.out]
  · have := HWN.out.row
    rw [List.nil_append] at this
    exact OffRow.allocd this _
  · intro s hs
    have := path_mem hs (fun t => In w.heap.size w t ∧ ris t.prs) ⟨h.out.tree, h.out.ris⟩ (fun b k0 x l r hp => ⟨⟨hp.1.left, (ris_mid hp.2).1⟩, hp.1.right, (ris_mid hp.2).2.1⟩)
    exact ⟨⟨this.1.1.kn KN, this.1.2⟩, this.2⟩
  · have := tl_path (k := k) (R := []) h.out.ris
    simpa [tl] using this
end Go.Proofs.Ytbmihajbdobgbaa.MI
