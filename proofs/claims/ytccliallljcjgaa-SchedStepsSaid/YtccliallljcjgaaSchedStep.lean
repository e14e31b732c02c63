/- A task does its step: the document's answer. -/
import Derived.Test.YtccliallljcjgaaSchedMid
set_option linter.unusedVariables false
namespace Go.Proofs.Ytccliallljcjgaa
open Go.RowKit

set_option maxHeartbeats 4000000 in
set_option maxRecDepth 100000 in
theorem ref_Step {B : Nat} {S : Nat → Prop} {w : World} {q : At5} {p : PW} (h : Lay5 B S w q p) (i : Nat) (hi : i < p.ts.length) (hr : (p.ts.getD i default).at_ < (p.ts.getD i default).l.length) (hs : p.steps < 4611686018427387904) :
    Calls Try.prog 20 #[.pointer (some ⟨q.m, 0, none⟩), .int .i64 (i : Int)] w fun e w' => e = .returned (.tuple #[]) ∧ Lay5 B S w' q (p.step i) ∧ Only S w w' := by
  have h8 := h.few
  have hi' : (i : Int) < (p.ts.length : Int) := by omega
  have hk := h.tk i hi
  have ht0 : ∀ t, p.ts.getD i default = t → p.ts.getD i default = t := fun _ e => e
  generalize htt : p.ts.getD i default = t at hr hk
  have hok := hk.p.2.2.1
  obtain ⟨hp1, hp60, _, b, off, hb, ha, hrow⟩ := hk.p
  have hae : t.a = some ⟨b, off, none⟩ := ha.resolve_left (by omega)
  obtain ⟨r1, r2⟩ := hrow t.at_ hr
  have hx : t.l.getD t.at_ default = t.l[t.at_] := by rw [List.getD_eq_getElem?_getD, List.getElem?_eq_getElem hr]; rfl
  have xok := hok _ (List.getElem_mem hr)
  rw [← hx] at r2 xok
  generalize hxx : t.l.getD t.at_ default = x at r2 xok
  have m0 : w.cell? ⟨q.m, 0, none⟩ = some (.slice (some ⟨q.T, 0, none⟩) p.ts.length q.cap) := h.cell 0
  have e0 : w.cell? ⟨q.T, i * 4, none⟩ = some (.slice (some ⟨b, off, none⟩) t.l.length t.cap) := (h.tr.cell hi (j := 0) (by omega)).trans (by rw [htt, ← hae]; rfl)
  have e1 : w.cell? ⟨q.T, i * 4 + 1, none⟩ = some (.int .i64 (t.at_ : Int)) := (h.tr.cell hi (j := 1) (by omega)).trans (by rw [htt]; rfl)
  have x0 : w.cell? ⟨b, off + t.at_ * 5, none⟩ = some (.int .i64 x.kind) := r2 0 (by omega)
  have x1 : w.cell? ⟨b, off + t.at_ * 5 + 1, none⟩ = some (.int .i64 (x.cell : Int)) := r2 1 (by omega)
  have x2 : w.cell? ⟨b, off + t.at_ * 5 + 2, none⟩ = some (.int .i64 x.n) := r2 2 (by omega)
  have x3 : w.cell? ⟨b, off + t.at_ * 5 + 3, none⟩ = some (.int .i64 (x.mutex : Int)) := r2 3 (by omega)
  have x4 : w.cell? ⟨b, off + t.at_ * 5 + 4, none⟩ = some (.int .i64 (x.free : Int)) := r2 4 (by omega)
  have hA := (Below.refl w.heap.size w).alloc (Nat.le_refl _) (.cells #[.int .i64 0, .int .i64 0, .int .i64 0, .int .i64 0, .int .i64 0] 73)
  have hTs : q.T < w.heap.size := (by obtain ⟨cur, h1, _⟩ := h.tr; exact heap_lt h1)
  have e0' := (hA.cell (p := ⟨q.T, i * 4, none⟩) hTs).trans e0
  have e1' := (hA.cell (p := ⟨q.T, i * 4 + 1, none⟩) hTs).trans e1
  have x0' := (hA.cell (p := ⟨b, off + t.at_ * 5, none⟩) r1).trans x0
  have x1' := (hA.cell (p := ⟨b, off + t.at_ * 5 + 1, none⟩) r1).trans x1
  have x2' := (hA.cell (p := ⟨b, off + t.at_ * 5 + 2, none⟩) r1).trans x2
  have x3' := (hA.cell (p := ⟨b, off + t.at_ * 5 + 3, none⟩) r1).trans x3
  have x4' := (hA.cell (p := ⟨b, off + t.at_ * 5 + 4, none⟩) r1).trans x4
  have hrI : (t.at_ : Int) < ((t.l.length : Nat) : Int) := by omega
  have HS := Lib.hid (show ∀ n, Mid B S w q w.heap.size x p ((w.alloc (.cells x.vals 73)).drewN n) from fun n => ⟨(h.alloc _).drewN n, heap_new w _, (only_new _ S).drewN n⟩)
  have HK := Lib.hid hk
  have HX := Lib.hid xok
  have HTT := Lib.hid htt
  have HXX := Lib.hid hxx
  have HR := Lib.hid hr
  have HI := Lib.hid hi
  have HAE := Lib.hid hae
  clear hA h hk hok hp1 hp60 ha hrow r2 xok hx htt hxx ht0 hae hr
  go_enter Try.func20, Try.ntmps20
  go_upto_region 1 with fail
  go_cut [5] from 6 (fun s5 wx => s5 = .pointer (some ⟨w.heap.size, 0, none⟩) ∧ Hid (Mid B S w q w.heap.size x p wx))
  case first =>
    go_region
    all_goals (go_wp2_with fail; go_meet; exact ⟨rfl, Lib.hid (HS.out 1)⟩)
  case rest =>
  obtain ⟨rfl, hM⟩ := hcut
  clear m0 e0 e1 x0 x1 x2 x3 x4 e0' e1' x0' x1' x2' x3' x4' hTs hi' hrI HS
  obtain ⟨w1, hw1⟩ : ∃ w1, w1 = wc := ⟨_, rfl⟩
  subst hw1
  have M := hM.out
  have s0 := M.lay.s0
  have M1 := M.setSteps (p.steps + 1) (by omega)
  have k1 := M1.lay.tk i HI.out
  simp only at k1
  rw [HTT.out] at k1
  have M2 := M1.setTask i HI.out 1 (by omega) (.int .i64 ((t.at_ : Int) + 1)) { t with at_ := t.at_ + 1 } (by simp only; rw [HTT.out]; simp [TK.vals]) ⟨k1.p, by have := HR.out; simp only; omega, k1.lo, k1.hi⟩
  have c4 : w1.cell? ⟨q.m, 4, none⟩ = some (.int .i64 p.steps) := M.lay.cell 4
  have f4 := M.lay.free 4
  have e1 : w1.cell? ⟨q.T, i * 4 + 1, none⟩ = some (.int .i64 (t.at_ : Int)) := (M.lay.tr.cell HI.out (j := 1) (by omega)).trans (by rw [HTT.out]; rfl)
  have f1 := M.lay.tr.free (i * 4 + 1)
  have e1' : (w1.setCell ⟨q.m, 4, none⟩ (.int .i64 (p.steps + 1))).cell? ⟨q.T, i * 4 + 1, none⟩ = some (.int .i64 (t.at_ : Int)) := (M1.lay.tr.cell HI.out (j := 1) (by omega)).trans (by simp only; rw [HTT.out]; rfl)
  have f1' := M1.lay.tr.free (i * 4 + 1)
  have x3 := M2.cell 3
  have hat : (t.at_ : Int) ≤ 60 := by have := k1.p.2.1; have := k1.at_; omega
  have HM2 := Lib.hid M2
  clear M M1 M2 hM k1
  replace x3 : ((w1.setCell ⟨q.m, 4, none⟩ (.int .i64 (p.steps + 1))).setCell ⟨q.T, i * 4 + 1, none⟩ (.int .i64 ((t.at_ : Int) + 1))).cell? ⟨w.heap.size, 3, none⟩ = some (.int .i64 (x.mutex : Int)) := x3
  go_upto_region 4 with fail
  go_cut [40] from 6 (fun s40 wx => s40 = .bool (decide (0 < x.mutex)) ∧ Hid (Mid B S w q w.heap.size x ⟨p.ts.set i { t with at_ := t.at_ + 1 }, p.cells, p.sets, p.held, p.steps + 1⟩ wx))
  case first =>
    go_wp2_with fail
    go_meet
    exact ⟨rfl, HM2⟩
  case rest =>
  obtain ⟨rfl, hM⟩ := hcut
  clear c4 f4 e1 f1 e1' f1' x3 HM2 s0
  obtain ⟨w2, hw2⟩ : ∃ w2, w2 = wc := ⟨_, rfl⟩
  subst hw2
  have hm5 := HX.out.m
  go_upto_if 40 with fail
  obtain ⟨h1, hh1⟩ : ∃ h1, h1 = (if 0 < x.mutex then p.held.set (x.mutex - 1) (i : Int) else p.held) := ⟨_, rfl⟩
  have HH1 := Lib.hid hh1
  go_cut [] from 6 (fun wx => Hid (Mid B S w q w.heap.size x ⟨p.ts.set i { t with at_ := t.at_ + 1 }, p.cells, p.sets, h1, p.steps + 1⟩ wx))
  case first =>
    by_cases hm : 0 < x.mutex
    · obtain ⟨n, hn⟩ : ∃ n, x.mutex = n + 1 := ⟨x.mutex - 1, by omega⟩
      have M := hM.out.drewN 1
      have M1 := M.setHeld n (i : Int) (by omega)
      rw [if_pos hm, show x.mutex - 1 = n from by omega] at hh1
      have M1' : Hid (Mid B S w q w.heap.size x ⟨p.ts.set i { t with at_ := t.at_ + 1 }, p.cells, p.sets, h1, p.steps + 1⟩ ((w2.drewN 1).setCell ⟨q.H, n, none⟩ (.int .i64 (i : Int)))) := Lib.hid (by rw [hh1]; exact M1)
      have hd : decide (0 < x.mutex) = true := by simp; omega
      have hz : (x.mutex : Int) - 1 = (n : Int) := by omega
      have hn4 : (n : Int) < 4 := by omega
      have hn0 : (0 : Int) ≤ (n : Int) := by omega
      have c3 : w2.cell? ⟨q.m, 3, none⟩ = some (.slice (some ⟨q.H, 0, none⟩) 4 4) := hM.out.lay.cell 3
      have x3 : w2.cell? ⟨w.heap.size, 3, none⟩ = some (.int .i64 (x.mutex : Int)) := hM.out.cell 3
      have ch := hM.out.lay.h.cell n (by omega)
      have fh := hM.out.lay.h.free n
      clear hn hm hM M M1 hh1
      go_wp2_with fail
      go_region
      all_goals (go_wp2_with fail; go_meet; exact M1')
    · have hm0 : x.mutex = 0 := by omega
      rw [if_neg hm] at hh1
      rw [← hh1] at hM
      clear hm hh1
      go_wp2_with fail
      go_meet
      exact hM
  case rest =>
  clear hh1 hm5 hM
  obtain ⟨w3, hw3⟩ : ∃ w3, w3 = wc := ⟨_, rfl⟩
  subst hw3
  have x0 : w3.cell? ⟨w.heap.size, 0, none⟩ = some (.int .i64 x.kind) := hcut.out.cell 0
  have hM3 := hcut
  clear hcut
  go_upto_region 6 with fail
  go_cut [51] from 6 (fun s51 wx => s51 = .int .i64 x.kind ∧ Hid (Mid B S w q w.heap.size x ⟨p.ts.set i { t with at_ := t.at_ + 1 }, p.cells, p.sets, h1, p.steps + 1⟩ wx))
  case first =>
    go_wp2_with fail
    go_meet
    exact ⟨rfl, hM3⟩
  case rest =>
  clear x0 hM3
  obtain ⟨rfl, hM⟩ := hcut
  obtain ⟨w4, hw4⟩ : ∃ w4, w4 = wc := ⟨_, rfl⟩
  subst hw4
  go_upto_block 0 with fail
  obtain ⟨r, hr⟩ : ∃ r, r = doI x (p.cells.getD x.cell 0) (p.sets.getD x.cell 0) t.known := ⟨_, rfl⟩
  have HR3 := Lib.hid hr
  go_cut [] from 6 (fun wx => Hid (Mid B S w q w.heap.size x ⟨p.ts.set i { t with at_ := t.at_ + 1, known := r.2.2 }, p.cells.set x.cell r.1, p.sets.set x.cell r.2.1, h1, p.steps + 1⟩ wx))
  case first =>
    have hc4 := HX.out.c
    have hc4' : (x.cell : Int) < 4 := by omega
    have M := hM.out
    have hi2 : i < (p.ts.set i { t with at_ := t.at_ + 1 }).length := by simpa using HI.out
    have hg : (p.ts.set i { t with at_ := t.at_ + 1 }).getD i default = { t with at_ := t.at_ + 1 } := getD_set_same HI.out _ _
    have d0 : w4.cell? ⟨q.m, 0, none⟩ = some (.slice (some ⟨q.T, 0, none⟩) (p.ts.set i { t with at_ := t.at_ + 1 }).length q.cap) := M.lay.cell 0
    have d1 : w4.cell? ⟨q.m, 1, none⟩ = some (.slice (some ⟨q.C, 0, none⟩) 4 4) := M.lay.cell 1
    have d2 : w4.cell? ⟨q.m, 2, none⟩ = some (.slice (some ⟨q.X, 0, none⟩) 4 4) := M.lay.cell 2
    have x1 : w4.cell? ⟨w.heap.size, 1, none⟩ = some (.int .i64 (x.cell : Int)) := M.cell 1
    have x2 : w4.cell? ⟨w.heap.size, 2, none⟩ = some (.int .i64 x.n) := M.cell 2
    have cv : w4.cell? ⟨q.C, x.cell, none⟩ = some (.int .i64 (p.cells.getD x.cell 0)) := M.lay.c.cell x.cell hc4
    have cs : w4.cell? ⟨q.X, x.cell, none⟩ = some (.int .i64 (p.sets.getD x.cell 0)) := M.lay.x.cell x.cell hc4
    have fv := M.lay.c.free x.cell
    have fs := M.lay.x.free x.cell
    have e2 : w4.cell? ⟨q.T, i * 4 + 2, none⟩ = some (.int .i64 t.known) := (M.lay.tr.cell hi2 (j := 2) (by omega)).trans (by rw [hg]; rfl)
    have f2 := M.lay.tr.free (i * 4 + 2)
    have lv := M.lay.c.lo x.cell hc4
    have hv := Lib.hid (show ∀ z, (p.cells.getD x.cell 0) = z → p.cells.set x.cell z = p.cells from fun z e => by rw [← e]; exact set_same)
    have hsm := Lib.hid (show ∀ z, (p.sets.getD x.cell 0) = z → p.sets.set x.cell z = p.sets from fun z e => by rw [← e]; exact set_same)
    have hv' := hv.out _ rfl
    have hs' := hsm.out _ rfl
    have HV' := Lib.hid hv'
    have HS' := Lib.hid hs'
    clear hv' hs' hi2 hg hv hsm
    have MM := Lib.hid M
    clear M hM
    by_cases k1 : x.kind = 1
    · as_aux_lemma =>
      have hrr : r = (p.cells.getD x.cell 0, p.sets.getD x.cell 0, p.cells.getD x.cell 0) := by rw [hr]; simp [doI, k1]
      have MR : Hid (Mid B S w q w.heap.size x ⟨p.ts.set i { t with at_ := t.at_ + 1, known := r.2.2 }, p.cells.set x.cell r.1, p.sets.set x.cell r.2.1, h1, p.steps + 1⟩ ((w4.drewN 1).setCell ⟨q.T, i * 4 + 2, none⟩ (.int .i64 (p.cells.getD x.cell 0)))) := Lib.hid (by
        rw [hrr]
        simp only
        rw [HV'.out, HS'.out]
        exact Mid.known HI.out (MM.out.drewN 1) _ lv)
      clear hr hrr
      generalize p.cells.getD x.cell 0 = v at *
      generalize p.sets.getD x.cell 0 = sv at *
      go_wp2_with fail
      go_region
      all_goals (go_wp2_with fail; go_meet; exact MR)
    have b1 : (x.kind == 1) = false := by simpa using k1
    by_cases k2 : x.kind = 2
    · as_aux_lemma =>
      have hrr : r = (wrap (t.known + x.n), wrap (p.sets.getD x.cell 0 + 1), t.known) := by rw [hr]; simp [doI, k2]
      have l1 := wrap_in (t.known + x.n)
      have l2 := wrap_in (p.sets.getD x.cell 0 + 1)
      obtain ⟨z1, hz1⟩ : ∃ z, z = IntKind.i64.wrap (t.known + x.n) := ⟨_, rfl⟩
      obtain ⟨z2, hz2⟩ : ∃ z, z = IntKind.i64.wrap (p.sets.getD x.cell 0 + 1) := ⟨_, rfl⟩
      have hw1 : IntKind.i64.wrap (t.known + x.n) = z1 := hz1.symm
      have hw2 : IntKind.i64.wrap (p.sets.getD x.cell 0 + 1) = z2 := hz2.symm
      rw [hw1] at l1
      rw [hw2] at l2
      have M1 := MM.out.setCells x.cell z1 l1
      have M2 := M1.setSets x.cell z2 l2
      have MR : Hid (Mid B S w q w.heap.size x ⟨p.ts.set i { t with at_ := t.at_ + 1, known := r.2.2 }, p.cells.set x.cell r.1, p.sets.set x.cell r.2.1, h1, p.steps + 1⟩ (((w4.setCell ⟨q.C, x.cell, none⟩ (.int .i64 z1)).setCell ⟨q.X, x.cell, none⟩ (.int .i64 z2)).drewN 2)) := Lib.hid (by
        rw [hrr]
        simp only [wrap, hw1, hw2]
        exact M2.drewN 2)
      have c2 : (w4.setCell ⟨q.C, x.cell, none⟩ (.int .i64 z1)).cell? ⟨q.m, 2, none⟩ = some (.slice (some ⟨q.X, 0, none⟩) 4 4) := M1.lay.cell 2
      have y1 : (w4.setCell ⟨q.C, x.cell, none⟩ (.int .i64 z1)).cell? ⟨w.heap.size, 1, none⟩ = some (.int .i64 (x.cell : Int)) := M1.cell 1
      have ys : (w4.setCell ⟨q.C, x.cell, none⟩ (.int .i64 z1)).cell? ⟨q.X, x.cell, none⟩ = some (.int .i64 (p.sets.getD x.cell 0)) := M1.lay.x.cell x.cell hc4
      have fs' : (w4.setCell ⟨q.C, x.cell, none⟩ (.int .i64 z1)).frozen? ⟨q.X, x.cell, none⟩ = false := M1.lay.x.free x.cell
      clear hr hrr M1 M2 hz1 hz2 l1 l2
      generalize p.cells.getD x.cell 0 = v at *
      generalize p.sets.getD x.cell 0 = sv at *
      go_wp2_with fail
      go_region
      all_goals go_wp2_with fail
      all_goals go_region
      all_goals (go_wp2_with fail; go_meet; exact MR)
    have b2 : (x.kind == 2) = false := by simpa using k2
    by_cases k3 : x.kind = 3
    · by_cases hveq : p.cells.getD x.cell 0 = t.known
      · as_aux_lemma =>
        have hrr : r = (wrap (t.known + x.n), wrap (p.sets.getD x.cell 0 + 1), 1) := by rw [hr]; unfold doI; rw [if_neg k1, if_neg k2, if_pos k3, if_pos hveq]
        have hb : (p.cells.getD x.cell 0 == t.known) = true := by simpa using hveq
        have l1 := wrap_in (t.known + x.n)
        have l2 := wrap_in (p.sets.getD x.cell 0 + 1)
        obtain ⟨z1, hz1⟩ : ∃ z, z = IntKind.i64.wrap (t.known + x.n) := ⟨_, rfl⟩
        obtain ⟨z2, hz2⟩ : ∃ z, z = IntKind.i64.wrap (p.sets.getD x.cell 0 + 1) := ⟨_, rfl⟩
        have hw1 : IntKind.i64.wrap (t.known + x.n) = z1 := hz1.symm
        have hw2 : IntKind.i64.wrap (p.sets.getD x.cell 0 + 1) = z2 := hz2.symm
        rw [hw1] at l1
        rw [hw2] at l2
        clear hz1 hz2
        have MR : ∀ wx, Hid (Mid B S w q w.heap.size x ⟨p.ts.set i { t with at_ := t.at_ + 1, known := 1 }, p.cells.set x.cell z1, p.sets.set x.cell z2, h1, p.steps + 1⟩ wx) → Hid (Mid B S w q w.heap.size x ⟨p.ts.set i { t with at_ := t.at_ + 1, known := r.2.2 }, p.cells.set x.cell r.1, p.sets.set x.cell r.2.1, h1, p.steps + 1⟩ wx) := by
          intro wx hx
          rw [hrr]
          simp only [wrap, hw1, hw2]
          exact hx
        replace MR := Lib.hid MR
        have L1 := Lib.hid l1
        have L2 := Lib.hid l2
        clear hr hrr l1 l2
        go_upto_region 14 with fail
        go_cut [116] from 6 (fun s116 wx => s116 = .bool true ∧ Hid (Mid B S w q w.heap.size x ⟨p.ts.set i { t with at_ := t.at_ + 1 }, p.cells, p.sets, h1, p.steps + 1⟩ wx))
        case first =>
          generalize p.cells.getD x.cell 0 = v at *
          go_wp2_with fail
          go_region
          all_goals (go_wp2_with fail; go_meet; exact ⟨rfl, Lib.hid (MM.out.drewN 1)⟩)
        case rest =>
        obtain ⟨rfl, hM5⟩ := hcut
        clear d0 d1 d2 x1 x2 cv cs fv fs e2 f2 MM
        obtain ⟨w5, hw5⟩ : ∃ w5, w5 = wc := ⟨_, rfl⟩
        subst hw5
        have d1 : w5.cell? ⟨q.m, 1, none⟩ = some (.slice (some ⟨q.C, 0, none⟩) 4 4) := hM5.out.lay.cell 1
        have x1 : w5.cell? ⟨w.heap.size, 1, none⟩ = some (.int .i64 (x.cell : Int)) := hM5.out.cell 1
        have x2 : w5.cell? ⟨w.heap.size, 2, none⟩ = some (.int .i64 x.n) := hM5.out.cell 2
        have fv := hM5.out.lay.c.free x.cell
        have cv : w5.cell? ⟨q.C, x.cell, none⟩ = some (.int .i64 (p.cells.getD x.cell 0)) := hM5.out.lay.c.cell x.cell hc4
        have hi2 : i < (p.ts.set i { t with at_ := t.at_ + 1 }).length := by simpa using HI.out
        have hg : (p.ts.set i { t with at_ := t.at_ + 1 }).getD i default = { t with at_ := t.at_ + 1 } := getD_set_same HI.out _ _
        have e2 : w5.cell? ⟨q.T, i * 4 + 2, none⟩ = some (.int .i64 t.known) := (hM5.out.lay.tr.cell hi2 (j := 2) (by omega)).trans (by rw [hg]; rfl)
        clear hi2 hg
        go_upto_region 15 with fail
        go_cut [] from 6 (fun wx => Hid (Mid B S w q w.heap.size x ⟨p.ts.set i { t with at_ := t.at_ + 1 }, p.cells.set x.cell z1, p.sets, h1, p.steps + 1⟩ wx))
        case first =>
          generalize p.cells.getD x.cell 0 = v at *
          have M1 := Lib.hid ((hM5.out.drewN 1).setCells x.cell z1 L1.out)
          clear hM5
          go_wp2_with fail
          go_region
          all_goals (go_wp2_with fail; go_meet; exact M1)
        case rest =>
        clear d1 x1 x2 cv fv e2 hM5
        obtain ⟨w6, hw6⟩ : ∃ w6, w6 = wc := ⟨_, rfl⟩
        subst hw6
        have hM6 := hcut
        clear hcut
        have d2 : w6.cell? ⟨q.m, 2, none⟩ = some (.slice (some ⟨q.X, 0, none⟩) 4 4) := hM6.out.lay.cell 2
        have x1 : w6.cell? ⟨w.heap.size, 1, none⟩ = some (.int .i64 (x.cell : Int)) := hM6.out.cell 1
        have cs : w6.cell? ⟨q.X, x.cell, none⟩ = some (.int .i64 (p.sets.getD x.cell 0)) := hM6.out.lay.x.cell x.cell hc4
        have fs := hM6.out.lay.x.free x.cell
        go_upto_region 16 with fail
        go_cut [] from 6 (fun wx => Hid (Mid B S w q w.heap.size x ⟨p.ts.set i { t with at_ := t.at_ + 1 }, p.cells.set x.cell z1, p.sets.set x.cell z2, h1, p.steps + 1⟩ wx))
        case first =>
          generalize p.sets.getD x.cell 0 = sv at *
          have M1 := Lib.hid ((hM6.out.drewN 1).setSets x.cell z2 L2.out)
          clear hM6
          go_wp2_with fail
          go_region
          all_goals (go_wp2_with fail; go_meet; exact M1)
        case rest =>
        clear d2 x1 cs fs hM6
        obtain ⟨w7, hw7⟩ : ∃ w7, w7 = wc := ⟨_, rfl⟩
        subst hw7
        have hM7 := hcut
        clear hcut
        have hi2 : i < (p.ts.set i { t with at_ := t.at_ + 1 }).length := by simpa using HI.out
        have hg : (p.ts.set i { t with at_ := t.at_ + 1 }).getD i default = { t with at_ := t.at_ + 1 } := getD_set_same HI.out _ _
        have e2 : w7.cell? ⟨q.T, i * 4 + 2, none⟩ = some (.int .i64 t.known) := (hM7.out.lay.tr.cell hi2 (j := 2) (by omega)).trans (by rw [hg]; rfl)
        have f2 := hM7.out.lay.tr.free (i * 4 + 2)
        clear hi2 hg
        have M1 := MR.out _ (Lib.hid (Mid.known HI.out hM7.out 1 (by omega)))
        clear hM7
        go_wp2_with fail
        go_meet
        exact M1
      · as_aux_lemma =>
        have hrr : r = (p.cells.getD x.cell 0, p.sets.getD x.cell 0, 0) := by rw [hr]; unfold doI; rw [if_neg k1, if_neg k2, if_pos k3, if_neg hveq]
        have hb : (p.cells.getD x.cell 0 == t.known) = false := by simpa using hveq
        have MR : Hid (Mid B S w q w.heap.size x ⟨p.ts.set i { t with at_ := t.at_ + 1, known := r.2.2 }, p.cells.set x.cell r.1, p.sets.set x.cell r.2.1, h1, p.steps + 1⟩ ((w4.setCell ⟨q.T, i * 4 + 2, none⟩ (.int .i64 0)).drewN 1)) := Lib.hid (by
          rw [hrr]
          simp only
          rw [HV'.out, HS'.out]
          exact (Mid.known HI.out MM.out 0 (by omega)).drewN 1)
        clear hr hrr hveq
        generalize p.cells.getD x.cell 0 = v at *
        generalize p.sets.getD x.cell 0 = sv at *
        go_wp2_with fail
        go_region
        all_goals (go_wp2_with fail; go_meet; exact MR)
    as_aux_lemma =>
    have b3 : (x.kind == 3) = false := by simpa using k3
    have hrr : r = (p.cells.getD x.cell 0, p.sets.getD x.cell 0, x.n) := by rw [hr]; simp [doI, k1, k2, k3]
    have hnl := HX.out.lo
    have hnh := HX.out.hi
    have MR : Hid (Mid B S w q w.heap.size x ⟨p.ts.set i { t with at_ := t.at_ + 1, known := r.2.2 }, p.cells.set x.cell r.1, p.sets.set x.cell r.2.1, h1, p.steps + 1⟩ (w4.setCell ⟨q.T, i * 4 + 2, none⟩ (.int .i64 x.n))) := Lib.hid (by
      rw [hrr]
      simp only
      rw [HV'.out, HS'.out]
      exact Mid.known HI.out MM.out _ (by omega))
    clear hr hrr k1 k2 k3
    go_wp2_with fail
    go_meet
    exact MR
  case rest =>
  as_aux_lemma =>
  clear hM
  obtain ⟨w5, hw5⟩ : ∃ w5, w5 = wc := ⟨_, rfl⟩
  subst hw5
  obtain ⟨h2, hh2⟩ : ∃ h2, h2 = (if 0 < x.free ∧ h1.getD (x.free - 1) 0 = (i : Int) then h1.set (x.free - 1) (-1) else h1) := ⟨_, rfl⟩
  have hst : p.step i = ⟨p.ts.set i { t with at_ := t.at_ + 1, known := r.2.2 }, p.cells.set x.cell r.1, p.sets.set x.cell r.2.1, h2, p.steps + 1⟩ := by
    unfold PW.step
    simp only [HTT.out, HXX.out]
    rw [← HH1.out, ← HR3.out, ← hh2]
  have M := hcut.out
  have MM := hcut
  clear hcut
  have x4 : w5.cell? ⟨w.heap.size, 4, none⟩ = some (.int .i64 (x.free : Int)) := M.cell 4
  have hf5 := HX.out.f
  by_cases hf : 0 < x.free
  · obtain ⟨n, hn⟩ : ∃ n, x.free = n + 1 := ⟨x.free - 1, by omega⟩
    have hz : (x.free : Int) - 1 = (n : Int) := by omega
    have hn4 : (n : Int) < 4 := by omega
    have hn0 : (0 : Int) ≤ (n : Int) := by omega
    have d3 : w5.cell? ⟨q.m, 3, none⟩ = some (.slice (some ⟨q.H, 0, none⟩) 4 4) := M.lay.cell 3
    have ch : w5.cell? ⟨q.H, n, none⟩ = some (.int .i64 (h1.getD n 0)) := M.lay.h.cell n (by omega)
    have fh := M.lay.h.free n
    have hd : decide (0 < x.free) = true := by simpa using hf
    have M1 := fun k => (M.drewN k).setHeld n (-1) (by omega)
    by_cases hv : h1.getD n 0 = (i : Int)
    · have hb : (h1.getD n 0 == (i : Int)) = true := by simpa using hv
      rw [if_pos ⟨hf, by rw [show x.free - 1 = n from by omega]; exact hv⟩, show x.free - 1 = n from by omega] at hh2
      have HM := Lib.hid (show ∀ k, Mid B S w q w.heap.size x (p.step i) ((w5.drewN k).setCell ⟨q.H, n, none⟩ (.int .i64 (-1))) from fun k => by rw [hst, hh2]; exact M1 k)
      clear M M1 hv hf hn hr hst hh2
      generalize h1.getD n 0 = hv at *
      go_wp2_with fail
      go_quiet (fail)
      go_wp2_with fail
      go_region
      all_goals go_wp2_with fail
      all_goals go_end0
      all_goals exact ⟨rfl, (HM.out _).lay, (HM.out _).only⟩
    · have hb : (h1.getD n 0 == (i : Int)) = false := by simpa using hv
      rw [if_neg (fun e => hv (by rw [show x.free - 1 = n from by omega] at e; exact e.2))] at hh2
      have HM := Lib.hid (show ∀ k, Mid B S w q w.heap.size x (p.step i) (w5.drewN k) from fun k => by rw [hst, hh2]; exact M.drewN k)
      clear M M1 hv hf hn hr hst hh2
      generalize h1.getD n 0 = hv at *
      go_wp2_with fail
      go_quiet (fail)
      go_wp2_with fail
      go_end0
      exact ⟨rfl, (HM.out _).lay, (HM.out _).only⟩
  · have hf0 : x.free = 0 := by omega
    rw [if_neg (fun e => hf e.1)] at hh2
    have HM := Lib.hid (show ∀ k, Mid B S w q w.heap.size x (p.step i) (w5.drewN k) from fun k => by rw [hst, hh2]; exact M.drewN k)
    clear M hf hr hst hh2
    go_wp2_with fail
    go_quiet (fail)
    go_wp2_with fail
    go_end0
    exact ⟨rfl, (HM.out _).lay, (HM.out _).only⟩
end Go.Proofs.Ytccliallljcjgaa
