/- Maps (of int values): High, Get, Without. -/
import Derived.Test.YtbmihajbdobgbaaMemOutI
import Derived.Test.YtbmihajbdobgbaaMemMapI
set_option linter.unusedVariables false
set_option maxRecDepth 100000
namespace Go.Proofs.Ytbmihajbdobgbaa.MI
open Go.RowKit

set_option maxHeartbeats 1000000 in
theorem map_High {t : Tr Int} {u : Option Addr} {w : World} (h : Hid (In w.heap.size w t)) (hu : t.ptr = .pointer u) : Calls Try.prog 15 #[.agg #[.pointer u]] w fun e w' => e = .returned (.int .i64 (t.ht : Int)) ∧ Below w.heap.size w w' := by
  have HK := Lib.hid (show ∀ y, Below w.heap.size w y → Calls Try.prog 28 #[.pointer u] y fun e w' => e = .returned (.int .i64 (t.ht : Int)) ∧ w' = y from fun y K => by rw [← hu]; exact high (h.out.seen K))
  clear hu
  go_enter Try.func15, Try.ntmps15
  have B0 := fun o => Lib.hid (show Below w.heap.size w (w.alloc o) from (Below.refl _ w).alloc (Nat.le_refl _) _)
  go_wp2_with (go_at_call 28; (with_reducible refine (HK.out _ (B0 _).out).mono ?_); rintro e y ⟨rfl, rfl⟩)
  go_ret
  exact ⟨rfl, (B0 _).out⟩

/-- What Get answers. -/
def getV : Option Int → Value
  | some x => .tuple #[.int .i64 x, .bool true]
  | none => .tuple #[.int .i64 0, .bool false]
set_option maxHeartbeats 1000000 in
theorem map_Get {t : Tr Int} {u : Option Addr} {k : List UInt8} {w : World} (h : Hid (IsM w t)) (hu : t.ptr = .pointer u) : Calls Try.prog 10 #[.agg #[.pointer u], .string (bs k)] w fun e w' => e = .returned (getV (getP k t.prs)) ∧ Below w.heap.size w w' := by
  obtain ⟨w1, hw1⟩ : ∃ w1, w1 = w.alloc (.cells #[.pointer u] 27) := ⟨_, rfl⟩
  have K1 := Lib.hid (show Below w.heap.size w w1 by rw [hw1]; exact (Below.refl _ _).alloc (Nat.le_refl _) _)
  have C1 := Lib.hid (show w1.cell? ⟨w.heap.size, 0, none⟩ = some (.pointer u) by rw [hw1, World.cell?_alloc_mark]; rfl)
  have M1 := Lib.hid (h.out.seen K1.out)
  have HW := Lib.hid hw1
  have HU := Lib.hid hu
  clear hw1 hu
  go_enter Try.func10, Try.ntmps10
  go_upto_region 1 with (fail)
  rw [← HW.out]
  have c1 := C1.out
  go_wp2_with fail
  clear c1
  go_loopw [6] (fun nv wr => ∃ v, nv = .pointer v ∧ (∃ s, Hid (s.ptr = .pointer v) ∧ Hid (IsM w1 s) ∧ Hid (getP k t.prs = getP k s.prs)) ∧ wr = w1) (fun nv wr => szAt nv wr)
  case atStart => exact ⟨u, rfl, ⟨t, HU, M1, Lib.hid rfl⟩, rfl⟩
  case round =>
    obtain ⟨v, rfl, ⟨s, hs, hI, hg⟩, rfl⟩ := hrel
    cases s with
    | nil =>
      have e1 := hs.out
      simp only [Tr.ptr, Value.pointer.injEq] at e1
      subst e1
      go_wp2_with fail
      refine bodyPost_ret (results_tmp2 rfl _ _ _) rfl ?_
      exact ⟨by rw [hg.out]; rfl, K1.out⟩
    | node b k0 x0 l r =>
      have e1 := hs.out
      simp only [Tr.ptr, Value.pointer.injEq] at e1
      subst e1
      have c0 := hI.out.tree.c0
      have z0 := Lib.hid (show szAt (.pointer (some ⟨b, 0, none⟩)) wr = (Tr.node b k0 x0 l r).sz from szAt_is hI.out.tree)
      have hm := Lib.hid (ris_mid hI.out.ris)
      obtain ⟨pl, hpl⟩ := l.ptr_is
      obtain ⟨pr, hpr⟩ := r.ptr_is
      have c1 := hI.out.tree.c1
      have c2 := hI.out.tree.c2
      have c3 := hI.out.tree.c3
      rw [hpl] at c2
      rw [hpr] at c3
      have HPL := Lib.hid hpl
      have HPR := Lib.hid hpr
      clear hpl hpr
      rcases ltB_total k k0 with hx | hx | hx
      · have HC := Lib.hid (show Calls Try.prog 24 #[.string (bs k), .string (bs k0)] wr fun e w' => e = .returned (.int .i64 (-1)) ∧ w' = wr by rw [← cmpL_lt hx]; exact cmp_Compare k k0 wr)
        have HX := Lib.hid hx
        clear hx
        go_wp2_with (go_at_call 24; (with_reducible refine HC.out.mono ?_); rintro e wr ⟨rfl, rfl⟩)
        go_roundw
        case rel => exact ⟨pl, rfl, ⟨l, HPL, Lib.hid ⟨hI.out.tree.left, hI.out.avl.2.1, hm.out.1⟩, Lib.hid (by rw [hg.out, Tr.prs, getP_left HX.out hm.out.2.2.2])⟩, trivial⟩
        case measure => rw [z0.out, ← HPL.out, szAt_is hI.out.tree.left]; simp only [Tr.sz]; omega
      · have HC := Lib.hid (show Calls Try.prog 24 #[.string (bs k), .string (bs k0)] wr fun e w' => e = .returned (.int .i64 0) ∧ w' = wr by rw [← cmpL_eq hx]; exact cmp_Compare k k0 wr)
        have HX := Lib.hid hx
        clear hx
        go_wp2_with (go_at_call 24; (with_reducible refine HC.out.mono ?_); rintro e wr ⟨rfl, rfl⟩)
        refine bodyPost_ret (results_tmp2 rfl _ _ _) rfl ?_
        exact ⟨by rw [hg.out, HX.out, Tr.prs, getP_here hm.out.2.2.1]; rfl, K1.out⟩
      · have HC := Lib.hid (show Calls Try.prog 24 #[.string (bs k), .string (bs k0)] wr fun e w' => e = .returned (.int .i64 1) ∧ w' = wr by rw [← cmpL_gt hx]; exact cmp_Compare k k0 wr)
        have HX := Lib.hid hx
        clear hx
        go_wp2_with (go_at_call 24; (with_reducible refine HC.out.mono ?_); rintro e wr ⟨rfl, rfl⟩)
        go_roundw
        case rel => exact ⟨pr, rfl, ⟨r, HPR, Lib.hid ⟨hI.out.tree.right, hI.out.avl.2.2, hm.out.2.1⟩, Lib.hid (by rw [hg.out, Tr.prs, getP_right HX.out hm.out.2.2.1])⟩, trivial⟩
        case measure => rw [z0.out, ← HPR.out, szAt_is hI.out.tree.right]; simp only [Tr.sz]; omega
/-- The walk of a key that isn't there, or is: Without. -/
theorem without_none {t : Tr Int} {k : List UInt8} (h : getP k t.prs = none) : delP k t.prs = t.prs := delP_none (getP_none.1 h)
theorem getP_mem {k : List UInt8} {x : Int} : ∀ {L : List (List UInt8 × Int)}, getP k L = some x → ∃ v ∈ L, v.1 = k
  | [], h => by cases h
  | y :: L, h => by
    simp only [getP] at h
    split at h
    · rename_i e
      exact ⟨y, by simp, e⟩
    · obtain ⟨v, hv, e⟩ := getP_mem h
      exact ⟨v, by simp [hv], e⟩
set_option maxHeartbeats 1000000 in
theorem map_Without {t : Tr Int} {u : Option Addr} {k : List UInt8} {w : World} (h : Hid (IsM w t)) (hu : t.ptr = .pointer u) (hs : t.sz ≤ 800000) : Calls Try.prog 17 #[.agg #[.pointer u], .string (bs k)] w fun e w' => MapPost (delP k t.prs) w e w' := by
  have HG := Lib.hid (show ∀ y, Below w.heap.size w y → Calls Try.prog 10 #[.agg #[.pointer u], .string (bs k)] y fun e w' => e = .returned (getV (getP k t.prs)) ∧ Below y.heap.size y w' from fun y K => map_Get (Lib.hid (h.out.seen K)) hu)
  have HP := Lib.hid (show ∀ y, (∃ v ∈ t.prs, v.1 = k) → Below w.heap.size w y → Calls Try.prog 29 #[.pointer u, .string (bs k)] y fun e w' => OutPost k t y e w' from fun y hv K => by rw [← hu]; exact without t k y (h.out.tree.seen K) h.out.avl h.out.ris hs hv)
  have HR := Lib.hid (delP_ris (k := k) h.out.ris)
  have HU := Lib.hid hu
  clear hu
  obtain ⟨w2, hw2⟩ : ∃ w2, w2 = (w.alloc (.cells #[.pointer u] 27)).alloc (.cells #[.pointer none] 27) := ⟨_, rfl⟩
  have K2 := Lib.hid (show Below w.heap.size w w2 by rw [hw2]; exact ((Below.refl _ w).alloc (Nat.le_refl _) _).alloc (by simp) _)
  have C2 := Lib.hid (show w2.cell? ⟨w.heap.size, 0, none⟩ = some (.pointer u) by
    rw [hw2, ((Below.refl (w.alloc (.cells #[.pointer u] 27)).heap.size _).alloc (Nat.le_refl _) _).cell (p := ⟨w.heap.size, 0, none⟩) (by simp), World.cell?_alloc_mark]
    rfl)
  have D2 := Lib.hid (show w2.heap[w.heap.size + 1]? = some (.cells #[.pointer none] 27 (0, 0)) by
    have := heap_new (w.alloc (.cells #[.pointer u] 27)) (.cells #[.pointer none] 27)
    rw [World.size_alloc] at this
    rw [hw2]
    exact this)
  have HW := Lib.hid hw2
  clear hw2
  go_enter Try.func17, Try.ntmps17
  go_upto_region 1 with (fail)
  rw [← HW.out]
  have c2 := C2.out
  obtain ⟨g, hg⟩ : ∃ g, g = getP k t.prs := ⟨_, rfl⟩
  rw [← hg] at HG
  have HGV := Lib.hid hg
  clear hg
  go_wp2_with fail
  refine (HG.out _ K2.out).mono ?_
  rintro e y ⟨rfl, BA⟩
  have c3 : y.cell? ⟨w.heap.size, 0, none⟩ = some (.pointer u) := by rw [BA.cell (cell_block c2)]; exact c2
  have D3 := Lib.hid ((BA.block (w.heap.size + 1) (heap_lt D2.out)).trans D2.out)
  have d0 : y.cell? ⟨w.heap.size + 1, 0, none⟩ = some (.pointer none) := by simp [World.cell?, D3.out]
  have f0 : y.frozen? ⟨w.heap.size + 1, 0, none⟩ = false := by simp [World.frozen?, D3.out]
  have K3 := Lib.hid (K2.out.trans (BA.mono K2.out.size))
  clear BA c2
  cases g with
  | none =>
    simp only [getV]
    go_wp2_with fail
    refine ret_map rfl (w.heap.size + 1) u rfl rfl (heap_set D3.out _) ⟨t, _, HU.out, rfl, ?_, ?_, (without_none HGV.out.symm).symm⟩
    · exact (h.out.seen K3.out).kn ((Kn.refl _ _).set D3.out (by decide) _)
    · exact K3.out.setCell (p := ⟨w.heap.size + 1, 0, none⟩) (Nat.le_succ _) _
  | some x =>
    simp only [getV]
    have hp := Lib.hid (HP.out y (getP_mem HGV.out.symm) K3.out)
    clear d0 f0
    go_wp2_with fail
    refine hp.out.mono ?_
    rintro e z ⟨t', v, e1, rfl, I1, BA, e2, e3, e4, e5⟩
    have D4 := Lib.hid ((BA.block (w.heap.size + 1) (heap_lt D3.out)).trans D3.out)
    have d0 : z.cell? ⟨w.heap.size + 1, 0, none⟩ = some (.pointer none) := by simp [World.cell?, D4.out]
    have f0 : z.frozen? ⟨w.heap.size + 1, 0, none⟩ = false := by simp [World.frozen?, D4.out]
    have PT := Lib.hid (And.intro e1 (And.intro I1 (And.intro e2 e3)))
    have BB := Lib.hid BA
    clear e1 I1 e2 e3 e4 e5 BA
    go_wp2_with fail
    refine ret_map rfl (w.heap.size + 1) v rfl rfl (heap_set D4.out _) ⟨t', _, PT.out.1, rfl, ?_, ?_, PT.out.2.2.1⟩
    · exact IsM.kn ⟨PT.out.2.1, PT.out.2.2.2, by rw [PT.out.2.2.1]; exact HR.out⟩ ((Kn.refl _ _).set D4.out (by decide) _)
    · exact (K3.out.trans (BB.out.mono K3.out.size)).setCell (p := ⟨w.heap.size + 1, 0, none⟩) (Nat.le_succ _) _
end Go.Proofs.Ytbmihajbdobgbaa.MI
