/- A filter of the program's and one of the document's tell the same. -/
import Derived.Test.YtbiifdnicieamaaDoorBloomAwake
set_option linter.unusedVariables false
set_option maxRecDepth 100000
namespace Go.Proofs.YtbiifdnicieamaaDoor
open Go.RowKit

theorem hasB_congr {h N : Nat} {f g : Nat → Bool} (hN : 0 < N) (hfg : ∀ x, x < N → f x = g x) (k : List UInt8) : hasB h N f k = hasB h N g k := by
  unfold hasB
  rw [Bool.eq_iff_iff, List.all_eq_true, List.all_eq_true]
  exact ⟨fun h x hx => by rw [← hfg x (nos_lt hN hx)]; exact h x hx, fun h x hx => by rw [hfg x (nos_lt hN hx)]; exact h x hx⟩

set_option maxHeartbeats 4000000 in
theorem law_same (b gb h m N g cap : Nat) (f : Nat → Bool) (L : List UInt8) (a : Option Addr) (kb koff len cp : Nat) (T : List ByteArray) (w : World)
    (hf : Hid (Flt b gb h L w)) (hL : Hid (L = bytesOf f m)) (hr : Hid (RowB g f N w)) (hg : Hid (Glob w)) (hNm : Hid (N = m * 8)) (h1 : 1 ≤ h) (hh : h ≤ 8) (hm1 : 1 ≤ m) (hm : m ≤ 100000000)
    (hlen : Hid (len = T.length)) (hl : len ≤ 9223372036854775807) (hz : Hid (RowS kb koff T w)) (hab : Hid (len = 0 ∨ a = some ⟨kb, koff, none⟩)) (hs : Hid (∀ t ∈ T, t.size ≤ 100000)) :
    Calls Tryd.prog 12 #[.pointer (some ⟨b, 0, none⟩), fv h g N cap, .slice a len cp] w fun e w' => e = .returned (.bool true) ∧ Below w.heap.size w w' := by
  have hLm := Lib.hid (show m = L.length by rw [hL.out, bytesOf_len])
  have hbit := Lib.hid (show ∀ x, x < N → bitAt L x = f x from fun x hx => by rw [hL.out]; exact bitAt_bytesOf f m x (by rw [hNm.out] at hx; omega))
  have hones := Lib.hid (show ones (bitAt L) (8 * m) = ones f N by rw [show 8 * m = N by rw [hNm.out]; omega]; exact ones_congr hbit.out)
  obtain ⟨Z, hZ⟩ : ∃ Z, Z = w.heap.size := ⟨_, rfl⟩
  obtain ⟨w1, hw1⟩ : ∃ w1, w1 = w.alloc (.cells #[.int .i64 (h : Int), .slice (some ⟨g, 0, none⟩) N cap] 31) := ⟨_, rfl⟩
  have B1 := Lib.hid (show Below w.heap.size w w1 by rw [hw1]; exact (Below.refl _ _).alloc (Nat.le_refl _) _)
  have S1 := Lib.hid (show w1.heap.size = Z + 1 by rw [hw1, hZ]; simp)
  have c0 := Lib.hid (show w1.cell? ⟨Z, 0, none⟩ = some (.int .i64 (h : Int)) ∧ w1.cell? ⟨Z, 1, none⟩ = some (.slice (some ⟨g, 0, none⟩) N cap) by
    rw [hw1, hZ, World.cell?_alloc_mark, World.cell?_alloc_mark]; exact ⟨rfl, rfl⟩)
  have F1 := Lib.hid (hf.out.below B1.out)
  have R1 := Lib.hid (hr.out.below B1.out)
  have G1 := Lib.hid (hg.out.keep B1.out hg.out.1)
  have K1 := Lib.hid (hz.out.below B1.out)
  have HW1 := Lib.hid hw1
  have HZ := Lib.hid hZ
  clear hw1 hZ hf hr hg hz
  unfold fv
  go_enter Tryd.func12, Tryd.ntmps12
  go_upto_region 1 with (fail)
  change Code.wp _ _ _ _ (w.alloc (.cells #[.int .i64 (h : Int), .slice (some ⟨g, 0, none⟩) N cap] 31))
  rw [← HW1.out, ← HZ.out]
  go_wp2_with fail
  refine (flt_shape b gb h m L w1 F1 hLm hm).mono ?_
  rintro e w2 ⟨rfl, k2⟩
  rw [hones.out]
  have B2 := Lib.hid (B1.out.trans (k2.mono B1.out.size))
  have K2 := Lib.hid k2
  have F2 := Lib.hid (F1.out.below k2)
  have R2 := Lib.hid (R1.out.below k2)
  have G2 := Lib.hid (G1.out.keep k2 G1.out.1)
  have T2 := Lib.hid (K1.out.below k2)
  have hZ1 : Z < w1.heap.size := by rw [S1.out]; omega
  have d0 := Lib.hid (show w2.cell? ⟨Z, 0, none⟩ = some (.int .i64 (h : Int)) ∧ w2.cell? ⟨Z, 1, none⟩ = some (.slice (some ⟨g, 0, none⟩) N cap) by
    rw [k2.cell (p := ⟨Z, 0, none⟩) hZ1, k2.cell (p := ⟨Z, 1, none⟩) hZ1]; exact c0.out)
  clear k2 hZ1 F1 R1 G1 K1
  have n0 : ∀ n : Seen w2, n.val.cell? ⟨Z, 0, none⟩ = some (.int .i64 (h : Int)) := fun n => by rw [n.below.cell (cell_block d0.out.1)]; exact d0.out.1
  have n1 : ∀ n : Seen w2, n.val.cell? ⟨Z, 1, none⟩ = some (.slice (some ⟨g, 0, none⟩) N cap) := fun n => by rw [n.below.cell (cell_block d0.out.2)]; exact d0.out.2
  have hNm' := hNm.out
  have hmN : (m : Int) * 8 = (N : Int) := by rw [hNm']; omega
  obtain ⟨o, ho⟩ : ∃ o, o = ones f N := ⟨_, rfl⟩
  obtain ⟨P, hP⟩ : ∃ P, P = packF h L := ⟨_, rfl⟩
  have HON := Lib.hid (fun (n : Seen w2) => by
    have h := ref_ones h g N cap f n.val (Lib.hid (R2.out.below n.below)) (by omega)
    rw [← ho] at h
    unfold fv at h
    exact h.mono (R' := fun e w'' => e = .returned (.int .i64 (o : Int)) ∧ ∃ q : Seen w2, w'' = q.val) fun _ w'' ⟨h1, h2⟩ => ⟨h1, ⟨⟨w'', n.below.trans (h2.mono n.below.size)⟩, rfl⟩⟩)
  have HPK := Lib.hid (fun (n : Seen w2) => by
    have h := flt_pack b gb h m L n.val (Lib.hid (F2.out.seen n)) hLm hm hh
    rw [← hP] at h
    exact h.mono (R' := fun e w'' => e = .returned (.string (bs P)) ∧ ∃ q : Seen w2, w'' = q.val) fun _ w'' ⟨h1, h2⟩ => ⟨h1, ⟨⟨w'', n.below.trans (h2.mono n.below.size)⟩, rfl⟩⟩)
  have HRP := Lib.hid (fun (n : Seen w2) => by
    have h := ref_pack h g m cap f n.val (Lib.hid (by rw [← hNm']; exact R2.out.below n.below)) hm1 hm hh
    rw [← hL.out, ← hP, ← hNm'] at h
    unfold fv at h
    exact h.mono (R' := fun e w'' => e = .returned (.string (bs P)) ∧ ∃ q : Seen w2, w'' = q.val) fun _ w'' ⟨h1, h2⟩ => ⟨h1, ⟨⟨w'', n.below.trans (h2.mono n.below.size)⟩, rfl⟩⟩)
  rw [← ho]
  have HNm := Lib.hid hNm'
  rw [hmN]
  clear hNm' ho hP hmN hones
  go_wp2_with fail
  refine region_seen (by kernel_rfl) (by kernel_rfl) ?_
  repeat go_big_quiet_step (first | (go_at_call 21; with_reducible exact HON.out _) | (go_at_call 14; with_reducible exact HPK.out _) | (go_at_call 22; with_reducible exact HRP.out _))
  refine wpQuiet_nil ?_
  rintro _ ⟨m1, rfl⟩
  go_wp2_with fail
  clear HON HPK HRP n0 n1
  have H1 := Lib.hid (show Below w2.heap.size w2 m1.val from m1.below)
  go_loopw [10] (fun vi wr => ∃ k : Nat, k ≤ len ∧ vi = .int .i64 k ∧ Hid (Below w2.heap.size w2 wr)) (fun vi wr => len - (intOf vi).toNat)
  case atStart => exact ⟨0, by omega, rfl, H1⟩
  case round =>
    obtain ⟨k, hk, rfl, hB⟩ := hrel
    rcases Nat.lt_or_ge k len with hlt | hge
    · have hkT : k < T.length := by rw [← hlen.out]; exact hlt
      have ha : a = some ⟨kb, koff, none⟩ := by rcases hab.out with h | h; (omega); (exact h)
      obtain ⟨t, ht⟩ : ∃ t, t = T.getD k ByteArray.empty := ⟨_, rfl⟩
      have htk : t = T[k] := by rw [ht, List.getD_eq_getElem?_getD, List.getElem?_eq_getElem hkT]; rfl
      have hts : t.size ≤ 100000 := hs.out t (by rw [htk]; exact List.getElem_mem hkT)
      have hbt : t = bs t.data.toList := bs_eq rfl
      have hsz : t.data.toList.length ≤ 100000 := by rw [← Lib.size_eq]; exact hts
      have Tr := Lib.hid (T2.out.below hB.out)
      have nS : ∀ n : Seen wr, n.val.cell? ⟨kb, koff + k, none⟩ = some (.string t) := fun n => by rw [ht]; exact ((Tr.out.below n.below) k hkT).2
      have n1 : ∀ n : Seen wr, n.val.cell? ⟨Z, 1, none⟩ = some (.slice (some ⟨g, 0, none⟩) N cap) := fun n => by rw [(hB.out.trans (n.below.mono hB.out.size)).cell (cell_block d0.out.2)]; exact d0.out.2
      have n0 : ∀ n : Seen wr, n.val.cell? ⟨Z, 0, none⟩ = some (.int .i64 (h : Int)) := fun n => by rw [(hB.out.trans (n.below.mono hB.out.size)).cell (cell_block d0.out.1)]; exact d0.out.1
      obtain ⟨y, hy⟩ : ∃ y, y = hasB h N f t.data.toList := ⟨_, rfl⟩
      have hN0 : 0 < N := by rw [HNm.out]; omega
      have HAS := Lib.hid (fun (n : Seen wr) => by
        have kk := hB.out.trans (n.below.mono hB.out.size)
        have h := flt_has b gb h m N L t.data.toList n.val (Lib.hid (F2.out.below kk)) (Lib.hid (G2.out.keep kk G2.out.1)) hLm hm HNm hN0 hh (Lib.hid (by omega))
        rw [hasB_congr hN0 hbit.out, ← hy, ← hbt] at h
        exact h.mono (R' := fun e w'' => e = .returned (.bool y) ∧ ∃ q : Seen wr, w'' = q.val) fun _ w'' ⟨h1, h2⟩ => ⟨h1, ⟨⟨w'', n.below.trans (h2.mono n.below.size)⟩, rfl⟩⟩)
      have RHAS := Lib.hid (fun (n : Seen wr) => by
        have kk := hB.out.trans (n.below.mono hB.out.size)
        have h := ref_has h g N cap f t n.val (Lib.hid (R2.out.below kk)) h1 hh hN0 (by rw [HNm.out]; omega) (by omega)
        rw [← hy] at h
        unfold fv at h
        exact h.mono (R' := fun e w'' => e = .returned (.bool y) ∧ ∃ q : Seen wr, w'' = q.val) fun _ w'' ⟨h1, h2⟩ => ⟨h1, ⟨⟨w'', n.below.trans (h2.mono n.below.size)⟩, rfl⟩⟩)
      subst ha
      clear ht htk hbt hy
      cases y with
      | true =>
        go_wp2_with fail
        refine region_seen (by kernel_rfl) (by kernel_rfl) ?_
        repeat go_big_quiet_step (first | (go_at_call 15; with_reducible exact HAS.out _) | (go_at_call 23; with_reducible exact RHAS.out _))
        refine wpQuiet_nil ?_
        rintro _ ⟨m2, rfl⟩
        go_wp2_with fail
        go_roundw
        case rel => exact ⟨k + 1, by omega, by go_num, Lib.hid (hB.out.trans (m2.below.mono hB.out.size))⟩
        case measure => simp [intOf]; omega
      | false =>
        go_wp2_with fail
        refine region_seen (by kernel_rfl) (by kernel_rfl) ?_
        repeat go_big_quiet_step (first | (go_at_call 15; with_reducible exact HAS.out _) | (go_at_call 23; with_reducible exact RHAS.out _))
        refine wpQuiet_nil ?_
        rintro _ ⟨m2, rfl⟩
        go_wp2_with fail
        go_roundw
        case rel => exact ⟨k + 1, by omega, by go_num, Lib.hid (hB.out.trans (m2.below.mono hB.out.size))⟩
        case measure => simp [intOf]; omega
    · obtain rfl : k = len := by omega
      go_wp2_with fail
      go_ret
      exact ⟨rfl, B2.out.trans (hB.out.mono B2.out.size)⟩
end Go.Proofs.YtbiifdnicieamaaDoor
