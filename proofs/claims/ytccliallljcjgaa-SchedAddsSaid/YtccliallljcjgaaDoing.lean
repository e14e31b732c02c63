/- What a task does in a step: the program's. -/
import Derived.Test.YtccliallljcjgaaCel
import Derived.Deep.CutRange
import Derived.Deep.CutBlock
set_option linter.unusedVariables false
namespace Go.Proofs.Ytccliallljcjgaa
open Go.RowKit

theorem wrap_64 (x : Int) : wrap64 x = IntKind.i64.wrap x := by rw [IntKind.wrap_i64]; unfold wrap64; rfl
/-- Who has the mutexes behind a step. -/
def freed (x : INS) (i : Nat) (H : List Int) : List Int := if 0 < x.free ∧ H.getD (x.free - 1) 0 = (i : Int) then H.set (x.free - 1) (-1) else H

theorem set_same {l : List Int} {i : Nat} : l.set i (l.getD i 0) = l := by
  apply List.ext_getElem?
  intro k
  rw [List.getElem?_set]
  split
  · next h =>
    subst h
    split
    · next h => rw [List.getD_eq_getElem?_getD, List.getElem?_eq_getElem h]; rfl
    · next h => rw [List.getElem?_eq_none (by omega)]
  · rfl
set_option maxHeartbeats 4000000 in
set_option maxRecDepth 100000 in
theorem law_do {w : World} {g : AtG} {n : Nat} {C X H K : List Int} (h : Cel w g n C X H K) (x : INS) (hx : x.Ok) (i : Nat) (hi : i < n) (hn : n ≤ 16) :
    Calls Try.prog 46 #[.pointer (some ⟨g.W, 0, none⟩), .agg x.vals, .int .i64 (i : Int)] w fun e w' => e = .returned (.tuple #[]) ∧
      Cel w' g n (C.set x.cell (doI x (C.getD x.cell 0) (X.getD x.cell 0) (K.getD i 0)).1) (X.set x.cell (doI x (C.getD x.cell 0) (X.getD x.cell 0) (K.getD i 0)).2.1) (freed x i H) (K.set i (doI x (C.getD x.cell 0) (X.getD x.cell 0) (K.getD i 0)).2.2) ∧ Only (CS g) w w' := by
  have hi' : (i : Int) < (n : Int) := by omega
  have hc4 := hx.c
  have hc4' : (x.cell : Int) < 4 := by omega
  have HX := Lib.hid hx
  have HS := Lib.hid (show ∀ m, CelX w g n w.heap.size x C X H K ((w.alloc (.cells x.vals 73)).drewN m) from fun m => ⟨(h.alloc _).drewN m, heap_new w _, ((Only.refl _ w).alloc _).drewN m⟩)
  have o0 := (h.alloc (.cells x.vals 73)).o0
  have rc := (h.alloc (.cells x.vals 73)).rc hc4
  have x1 : (w.alloc (.cells x.vals 73)).cell? ⟨w.heap.size, 1, none⟩ = some (.int .i64 (x.cell : Int)) := (HS.out 0).cell 1
  obtain ⟨r, hr⟩ : ∃ r, r = doI x (C.getD x.cell 0) (X.getD x.cell 0) (K.getD i 0) := ⟨_, rfl⟩
  rw [← hr]
  have HR := Lib.hid hr
  obtain ⟨H2, hh⟩ : ∃ H2, H2 = freed x i H := ⟨_, rfl⟩
  rw [← hh]
  have HH := Lib.hid hh
  clear h hx hr hh
  go_enter Try.func46, Try.ntmps46
  go_upto_region 1 with fail
  go_cut [6] from 7 (fun s6 wx => s6 = .pointer (some ⟨g.c x.cell, 0, none⟩) ∧ Hid (CelX w g n w.heap.size x C X H K wx))
  case first =>
    generalize w.alloc (.cells x.vals 73) = wa at *
    go_region
    all_goals (go_wp2_with fail; go_meet; exact ⟨rfl, Lib.hid (HS.out 1)⟩)
  case rest =>
  obtain ⟨rfl, hM⟩ := hcut
  clear o0 rc x1 HS
  obtain ⟨w1, hw1⟩ : ∃ w1, w1 = wc := ⟨_, rfl⟩
  subst hw1
  have x0 : w1.cell? ⟨w.heap.size, 0, none⟩ = some (.int .i64 x.kind) := hM.out.cell 0
  go_upto_block 0 with fail
  clear x0
  go_cut [] from 7 (fun wx => Hid (CelX w g n w.heap.size x (C.set x.cell r.1) (X.set x.cell r.2.1) H (K.set i r.2.2) wx))
  case first =>
    have hr := HR.out
    have M := hM.out
    have o2 := M.cel.o2
    have kn := M.cel.rk hi
    have fk := M.cel.fk i
    have cv := M.cel.c0 hc4
    have x2 : w1.cell? ⟨w.heap.size, 2, none⟩ = some (.int .i64 x.n) := M.cell 2
    have cs := M.cel.c1 hc4
    have f0 := M.cel.fc hc4 0
    have f1 := M.cel.fc hc4 1
    have HV := Lib.hid (show C.set x.cell (C.getD x.cell 0) = C from set_same)
    have HV2 := Lib.hid (show X.set x.cell (X.getD x.cell 0) = X from set_same)
    have HV3 := Lib.hid (show K.set i (K.getD i 0) = K from set_same)
    have HI := Lib.hid hi
    have HC := Lib.hid hc4
    have HM := Lib.hid M
    obtain ⟨z1, hz1⟩ : ∃ z, z = IntKind.i64.wrap (K.getD i 0 + x.n) := ⟨_, rfl⟩
    have e1 : IntKind.i64.wrap (K.getD i 0 + x.n) = z1 := hz1.symm
    have e1' : wrap64 (K.getD i 0 + x.n) = z1 := by rw [wrap_64]; exact e1
    obtain ⟨z2, hz2⟩ : ∃ z, z = IntKind.i64.wrap (X.getD x.cell 0 + 1) := ⟨_, rfl⟩
    have e2 : IntKind.i64.wrap (X.getD x.cell 0 + 1) = z2 := hz2.symm
    have e2' : wrap64 (X.getD x.cell 0 + 1) = z2 := by rw [wrap_64]; exact e2
    clear hM M hz1 hz2 hi hc4 hc4'
    by_cases k1 : x.kind = 1
    · have hrr : r = (C.getD x.cell 0, X.getD x.cell 0, C.getD x.cell 0) := by rw [hr]; simp [doI, k1]
      have MR : Hid (CelX w g n w.heap.size x (C.set x.cell r.1) (X.set x.cell r.2.1) H (K.set i r.2.2) ((w1.drewN 1).setCell ⟨g.K, i, none⟩ (.int .i64 (C.getD x.cell 0)))) := Lib.hid (by
        rw [hrr]
        simp only
        rw [HV.out, HV2.out]
        exact (HM.out.drewN 1).setK HI.out _)
      have hld := cell_Load (w := w1.drew) cv
      clear hr hrr e1 e1' e2 e2'
      generalize C.getD x.cell 0 = v at *
      generalize X.getD x.cell 0 = sv at *
      generalize K.getD i 0 = kv at *
      go_wp2_with fail
      refine wp_region_still_tail 8 (by kernel_rfl) (by kernel_rfl) ?_
      simp only [List.take_succ_cons, List.take_zero, List.drop_succ_cons, List.drop_zero]
      repeat still_step
      still_call (hld.mono fun _ _ ⟨a, b⟩ => ⟨a, b⟩)
      repeat still_step
      refine wpStill_nil ?_
      change wpList _ _ _ _ _ w1.drew
      go_wp2_with fail
      go_meet
      exact MR
    have b1 : (x.kind == 1) = false := by simpa using k1
    by_cases k2 : x.kind = 2
    · have hrr : r = (z1, z2, K.getD i 0) := by rw [hr]; unfold doI; rw [if_neg k1, if_pos k2]; unfold wrap; rw [e1, e2]
      have MR : Hid (CelX w g n w.heap.size x (C.set x.cell r.1) (X.set x.cell r.2.1) H (K.set i r.2.2) (((w1.drewN 1).setCell ⟨g.c x.cell, 0, none⟩ (.int .i64 z1)).setCell ⟨g.c x.cell, 1, none⟩ (.int .i64 z2))) := Lib.hid (by
        rw [hrr]
        simp only
        rw [HV3.out]
        exact (HM.out.drewN 1).setC HC.out z1 z2)
      have hst := cell_Store (w := w1.drewN 1) z1 cv cs f0 f1
      rw [e2'] at hst
      clear hr hrr e2 e2'
      generalize C.getD x.cell 0 = v at *
      generalize X.getD x.cell 0 = sv at *
      generalize K.getD i 0 = kv at *
      go_wp2_with fail
      refine wp_region_still_tail 11 (by kernel_rfl) (by kernel_rfl) ?_
      simp only [List.take_succ_cons, List.take_zero, List.drop_succ_cons, List.drop_zero]
      repeat still_step
      refine wpStill_nil ?_
      change wpList _ _ _ _ _ w1.drew
      go_wp2_with (go_at_call 28; refine hst.mono ?_; rintro e w' ⟨rfl, rfl⟩)
      go_meet
      exact MR
    have b2 : (x.kind == 2) = false := by simpa using k2
    by_cases k3 : x.kind = 3
    · by_cases hveq : C.getD x.cell 0 = K.getD i 0
      · have hrr : r = (z1, z2, 1) := by rw [hr]; unfold doI; rw [if_neg k1, if_neg k2, if_pos k3, if_pos hveq]; unfold wrap; rw [e1, e2]
        have MR : Hid (CelX w g n w.heap.size x (C.set x.cell r.1) (X.set x.cell r.2.1) H (K.set i r.2.2) ((((w1.drewN 1).setCell ⟨g.c x.cell, 0, none⟩ (.int .i64 z1)).setCell ⟨g.c x.cell, 1, none⟩ (.int .i64 z2)).setCell ⟨g.K, i, none⟩ (.int .i64 1))) := Lib.hid (by
          rw [hrr]
          exact ((HM.out.drewN 1).setC HC.out z1 z2).setK HI.out 1)
        rw [hveq] at cv
        have hst := cell_Swap_hit (w := w1.drewN 1) z1 cv cs f0 f1
        rw [e2'] at hst
        have P1 := Lib.hid ((HM.out.drewN 1).setC HC.out z1 z2)
        have o2' := P1.out.cel.o2
        have kn' := P1.out.cel.rk HI.out
        have fk' := P1.out.cel.fk i
        clear hr hrr e2 e2' hveq P1
        generalize C.getD x.cell 0 = v at *
        generalize X.getD x.cell 0 = sv at *
        generalize K.getD i 0 = kv at *
        go_wp2_with fail
        refine wp_region_still_tail 18 (by kernel_rfl) (by kernel_rfl) ?_
        simp only [List.take_succ_cons, List.take_zero, List.drop_succ_cons, List.drop_zero]
        repeat still_step
        refine wpStill_nil ?_
        change wpList _ _ _ _ _ w1.drew
        go_wp2_with (go_at_call 27; refine hst.mono ?_; rintro e w' ⟨rfl, rfl⟩)
        go_meet
        exact MR
      · have hrr : r = (C.getD x.cell 0, X.getD x.cell 0, 0) := by rw [hr]; unfold doI; rw [if_neg k1, if_neg k2, if_pos k3, if_neg hveq]
        have MR : Hid (CelX w g n w.heap.size x (C.set x.cell r.1) (X.set x.cell r.2.1) H (K.set i r.2.2) ((w1.drewN 1).setCell ⟨g.K, i, none⟩ (.int .i64 0))) := Lib.hid (by
          rw [hrr]
          simp only
          rw [HV.out, HV2.out]
          exact (HM.out.drewN 1).setK HI.out 0)
        have hst := cell_Swap_miss (w := w1.drewN 1) z1 cv hveq
        clear hr hrr e2 e2' hveq
        generalize C.getD x.cell 0 = v at *
        generalize X.getD x.cell 0 = sv at *
        generalize K.getD i 0 = kv at *
        go_wp2_with fail
        refine wp_region_still_tail 18 (by kernel_rfl) (by kernel_rfl) ?_
        simp only [List.take_succ_cons, List.take_zero, List.drop_succ_cons, List.drop_zero]
        repeat still_step
        refine wpStill_nil ?_
        change wpList _ _ _ _ _ w1.drew
        go_wp2_with (go_at_call 27; refine hst.mono ?_; rintro e w' ⟨rfl, rfl⟩)
        go_meet
        exact MR
    have b3 : (x.kind == 3) = false := by simpa using k3
    have hrr : r = (C.getD x.cell 0, X.getD x.cell 0, x.n) := by rw [hr]; unfold doI; rw [if_neg k1, if_neg k2, if_neg k3]
    have MR : Hid (CelX w g n w.heap.size x (C.set x.cell r.1) (X.set x.cell r.2.1) H (K.set i r.2.2) ((w1.drewN 1).setCell ⟨g.K, i, none⟩ (.int .i64 x.n))) := Lib.hid (by
      rw [hrr]
      simp only
      rw [HV.out, HV2.out]
      exact (HM.out.drewN 1).setK HI.out _)
    clear hr hrr k1 k2 k3 e1 e1' e2 e2'
    generalize C.getD x.cell 0 = v at *
    generalize X.getD x.cell 0 = sv at *
    generalize K.getD i 0 = kv at *
    go_wp2_with fail
    go_region
    all_goals (go_wp2_with fail; go_meet; exact MR)
  case rest =>
  clear hM
  obtain ⟨w2, hw2⟩ : ∃ w2, w2 = wc := ⟨_, rfl⟩
  subst hw2
  have M := hcut.out
  clear hcut
  have x4 : w2.cell? ⟨w.heap.size, 4, none⟩ = some (.int .i64 (x.free : Int)) := M.cell 4
  have hf5 := HX.out.f
  have hiN : (i : Int) ≠ -1 := by omega
  have hh := HH.out
  unfold freed at hh
  by_cases hf : 0 < x.free
  · obtain ⟨k, hk⟩ : ∃ k, x.free = k + 1 := ⟨x.free - 1, by omega⟩
    have hz : (x.free : Int) - 1 = (k : Int) := by omega
    have hzw : IntKind.i64.wrap (k : Int) = (k : Int) := by rw [IntKind.wrap_i64]; omega
    have hzw' : wrap64 (k : Int) = (k : Int) := by rw [wrap_64]; exact hzw
    have hk4 : k < 4 := by omega
    have hk4' : (k : Int) < 4 := by omega
    have hk0 : (0 : Int) ≤ (k : Int) := by omega
    have o1 := M.cel.o1
    have rm := M.cel.rm hk4
    have mv := M.cel.m0 hk4
    have fm := M.cel.fm hk4 0
    have hd : decide (0 < x.free) = true := by simpa using hf
    by_cases hv : H.getD k 0 = (i : Int)
    · rw [if_pos ⟨hf, by rw [show x.free - 1 = k from by omega]; exact hv⟩, show x.free - 1 = k from by omega] at hh
      have HM := (M.drewN 1).setM hk4 (-1)
      rw [← hh] at HM
      replace HM := Lib.hid HM
      rw [hv] at mv
      have hfr := mutex_Free_does (w := w2.drewN 1) mv fm hiN
      clear M hv hf hk hk4 hh
      go_wp2_with fail
      refine wp_region_still_tail 10 (by kernel_rfl) (by kernel_rfl) ?_
      simp only [List.take_succ_cons, List.take_zero, List.drop_succ_cons, List.drop_zero]
      repeat still_step
      refine wpStill_nil ?_
      change wpList _ _ _ _ _ w2.drew
      go_wp2_with (go_at_call 30; refine hfr.mono ?_; rintro e w' ⟨rfl, rfl⟩)
      go_end0
      exact ⟨rfl, HM.out.cel, HM.out.only⟩
    · rw [if_neg (fun e => hv (by rw [show x.free - 1 = k from by omega] at e; exact e.2))] at hh
      have HM := M.drewN 1
      rw [← hh] at HM
      replace HM := Lib.hid HM
      have hfr := mutex_Free_not (w := w2.drewN 1) mv (.inr hv)
      clear M hv hf hk hk4 hh
      go_wp2_with fail
      refine wp_region_still_tail 10 (by kernel_rfl) (by kernel_rfl) ?_
      simp only [List.take_succ_cons, List.take_zero, List.drop_succ_cons, List.drop_zero]
      repeat still_step
      refine wpStill_nil ?_
      change wpList _ _ _ _ _ w2.drew
      go_wp2_with (go_at_call 30; refine hfr.mono ?_; rintro e w' ⟨rfl, rfl⟩)
      go_end0
      exact ⟨rfl, HM.out.cel, HM.out.only⟩
  · have hf0 : x.free = 0 := by omega
    rw [if_neg (fun e => hf e.1)] at hh
    have HM := M
    rw [← hh] at HM
    replace HM := Lib.hid HM
    clear M hf hh
    go_wp2_with fail
    go_end0
    exact ⟨rfl, HM.out.cel, HM.out.only⟩
end Go.Proofs.Ytccliallljcjgaa
