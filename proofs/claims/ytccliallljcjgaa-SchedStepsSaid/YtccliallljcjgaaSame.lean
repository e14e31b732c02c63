/- Whether the program's world stands as the document's: it does. -/
import Derived.Test.YtccliallljcjgaaRefPick
set_option linter.unusedVariables false
namespace Go.Proofs.Ytccliallljcjgaa
open Go.RowKit

/-- The document's world, handed over by value. -/
theorem Lay5.copy {B : Nat} {S : Nat → Prop} {w : World} {q : At5} {p : PW} (h : Lay5 B S w q p) : Lay5 B (fun j => S j ∨ j = w.heap.size) (w.alloc (.cells (q.cells p.ts.length p.steps) 31)) { q with m := w.heap.size } p := by
  have hA := h.alloc (.cells (q.cells p.ts.length p.steps) 31)
  have hB : B ≤ w.heap.size := by
    have h1 := h.low _ h.sm
    have h2 := heap_lt h.obj
    omega
  exact ⟨heap_new w _, hA.tr, hA.tk, hA.c, hA.x, hA.h, hA.few, hA.ne, hA.s0, .inr rfl, .inl hA.sT, .inl hA.sC, .inl hA.sX, .inl hA.sH, fun k hk => by
    rcases hk with hk | rfl
    · exact h.low k hk
    · exact hB⟩

theorem below_drewN {B : Nat} {a w : World} (h : Below B a w) (n : Nat) : Below B a (w.drewN n) := ⟨h.os, h.tape, h.output, h.size, h.block⟩
theorem ne_int (x : Int) : (x != x) = false := by simp
theorem ne_bool (x : Bool) : (x != x) = false := by simp

set_option maxHeartbeats 1000000 in
set_option maxRecDepth 100000 in
theorem law_same {B : Nat} {S : Nat → Prop} {w : World} {g : AtG} {q : At5} {p : PW} {ts : List (Option TS)} (hG : Go5 B w g p ts) (hL : Lay5 B S w q p) :
    Calls Try.prog 14 #[.pointer (some ⟨g.W, 0, none⟩), .agg (q.cells p.ts.length p.steps)] w fun e w' => e = .returned (.bool true) ∧ Below w.heap.size w w' := by
  have hBA : Below w.heap.size w (w.alloc (.cells (q.cells p.ts.length p.steps) 31)) := (Below.refl _ w).alloc (Nat.le_refl _) _
  have HG := Lib.hid (hG.below hBA)
  have HL := Lib.hid hL.copy
  have H8 := Lib.hid hL.few
  have HBA := Lib.hid hBA
  obtain ⟨N, hN⟩ : ∃ N, N = p.ts.length := ⟨_, rfl⟩
  have HN := Lib.hid hN
  obtain ⟨M, hM⟩ : ∃ M, M = w.heap.size := ⟨_, rfl⟩
  rw [← hM] at HL
  have HM := Lib.hid hM
  obtain ⟨wa, hwa⟩ : ∃ wa, wa = w.alloc (.cells (q.cells p.ts.length p.steps) 31) := ⟨_, rfl⟩
  rw [← hwa] at HG HL HBA
  have HWA := Lib.hid hwa
  clear hG hL hBA hM hN hwa
  go_enter Try.func14, Try.ntmps14
  go_upto_region 1 with fail
  go_cut [3, 4, 5] from 6 (fun s3 s4 s5 wx => s3 = .pointer (some ⟨M, 0, none⟩) ∧ s4 = .bool false ∧ s5 = .int .i64 0 ∧ Hid (Go5 B wx g p ts ∧ Lay5 B (fun j => S j ∨ j = M) wx { q with m := M } p ∧ Below w.heap.size w wx))
  case first =>
    go_wp2_with fail
    go_meet
    exact ⟨by rw [HM.out], rfl, rfl, Lib.hid (by have := HWA.out; rw [HN.out] at *; exact this ▸ ⟨HG.out, HL.out, HBA.out⟩)⟩
  case rest =>
  obtain ⟨rfl, rfl, rfl, hc⟩ := hcut
  obtain ⟨w1, hw1⟩ : ∃ w1, w1 = wc := ⟨_, rfl⟩
  subst hw1
  clear HG HL HBA HWA
  have HG := Lib.hid hc.out.1
  have HL := Lib.hid hc.out.2.1
  have HBA := Lib.hid hc.out.2.2
  clear hc
  go_wp2_with fail
  go_loopw [5] (fun is wr => ∃ k : Nat, k ≤ 4 ∧ is = .int .i64 (k : Int) ∧ Hid (Below w1.heap.size w1 wr)) (fun is wr => 4 - (intOf is).toNat)
  case atStart => exact ⟨0, by omega, rfl, Lib.hid (Below.refl _ _)⟩
  case round =>
    obtain ⟨k, hk, rfl, hb⟩ := hrel
    by_cases hlt : k < 4
    · have hlt' : (k : Int) < 4 := by omega
      have hk0 : (0 : Int) ≤ (k : Int) := by omega
      have G := HG.out.below hb.out
      have L := HL.out.below hb.out
      have o0 := G.cel.o0
      have o1 := G.cel.o1
      have rc := G.cel.rc hlt
      have rm := G.cel.rm hlt
      have hld := G.cel.c0 hlt
      have hst := G.cel.c1 hlt
      have hho := G.cel.m0 hlt
      have m1 : wr.cell? ⟨M, 1, none⟩ = some (.slice (some ⟨q.C, 0, none⟩) 4 4) := L.cell 1
      have m2 : wr.cell? ⟨M, 2, none⟩ = some (.slice (some ⟨q.X, 0, none⟩) 4 4) := L.cell 2
      have m3 : wr.cell? ⟨M, 3, none⟩ = some (.slice (some ⟨q.H, 0, none⟩) 4 4) := L.cell 3
      have d1 := L.c.cell k hlt
      have d2 := L.x.cell k hlt
      have d3 := L.h.cell k hlt
      simp only at d1 d2 d3
      have n1 := ne_int (p.cells.getD k 0)
      have n2 := ne_int (p.sets.getD k 0)
      have n3 := ne_int (p.held.getD k 0)
      generalize p.cells.getD k 0 = v1 at *
      generalize p.sets.getD k 0 = v2 at *
      generalize p.held.getD k 0 = v3 at *
      clear G L hlt
      go_wp2_with fail
      go_quiet (first | (go_at_call 25; exact Calls.quiet_of_same (cell_Load (w := wr.drewN _) hld)) | (go_at_call 32; exact Calls.quiet_of_same (cell_Sets (w := wr.drewN _) hst)) | (go_at_call 29; exact Calls.quiet_of_same (mutex_Holder (w := wr.drewN _) hho)))
      go_wp2_with fail
      go_roundw
      case rel => exact ⟨k + 1, by omega, by go_num, Lib.hid (below_drewN hb.out _)⟩
      case measure => simp [intOf]; omega
    · have HB := hb
      have L := HL.out.below hb.out
      clear hb
      obtain ⟨w2, hw2⟩ : ∃ w2, w2 = wr := ⟨_, rfl⟩
      subst hw2
      clear L
      go_wp2_with fail
      go_loopw [6] (fun is wr => ∃ i : Nat, i ≤ N ∧ is = .int .i64 (i : Int) ∧ Hid (Below w1.heap.size w1 wr)) (fun is wr => N - (intOf is).toNat)
      case atStart => exact ⟨0, by omega, rfl, HB⟩
      case round =>
        obtain ⟨i, hi, rfl, hb⟩ := hrel
        have G := HG.out.below hb.out
        have L := HL.out.below hb.out
        have m0 : wr.cell? ⟨M, 0, none⟩ = some (.slice (some ⟨q.T, 0, none⟩) p.ts.length q.cap) := L.cell 0
        rw [← HN.out] at m0
        by_cases hlt : i < N
        · have hlt' : (i : Int) < (N : Int) := by omega
          have hi0 : (0 : Int) ≤ (i : Int) := by omega
          have hi8 : i ≤ 8 := by have := H8.out; have := HN.out; omega
          have hip : i < p.ts.length := by rw [← HN.out]; exact hlt
          have GS : ∀ n : Seen wr, Go5 B n.val g p ts := fun n => G.below n.below
          have LS : ∀ n : Seen wr, Lay5 B (fun j => S j ∨ j = M) n.val { q with m := M } p := fun n => L.below n.below
          obtain ⟨y, hy⟩ : ∃ y, ts[i]? = some y := ⟨_, List.getElem?_eq_getElem (by rw [G.len]; exact hip)⟩
          obtain ⟨t, ht⟩ : ∃ t, p.ts[i]? = some t := ⟨_, List.getElem?_eq_getElem hip⟩
          have htd : p.ts.getD i default = t := getD_of ht _
          have hkd : (p.ts.map (·.known)).getD i 0 = t.known := getD_of (by rw [List.getElem?_map, ht]; rfl) _
          have o2 : ∀ n : Seen wr, n.val.cell? ⟨g.W, 2, none⟩ = some (.slice (some ⟨g.K, 0, none⟩) N g.kc) := fun n => by rw [HN.out]; exact (GS n).cel.o2
          have o3 : ∀ n : Seen wr, n.val.cell? ⟨g.W, 3, none⟩ = some (.pointer (some ⟨g.s, 0, none⟩)) := fun n => (GS n).cel.o3
          have rk : ∀ n : Seen wr, n.val.cell? ⟨g.K, i, none⟩ = some (.int .i64 t.known) := fun n => by rw [(GS n).cel.rk hip, hkd]
          have m0S : ∀ n : Seen wr, n.val.cell? ⟨M, 0, none⟩ = some (.slice (some ⟨q.T, 0, none⟩) N q.cap) := fun n => by rw [HN.out]; exact (LS n).cell 0
          have t0 : ∀ n : Seen wr, n.val.cell? ⟨q.T, i * 4, none⟩ = some (.slice t.a t.l.length t.cap) := fun n => ((LS n).tr.cell hip (j := 0) (by omega)).trans (by rw [htd]; rfl)
          have t1 : ∀ n : Seen wr, n.val.cell? ⟨q.T, i * 4 + 1, none⟩ = some (.int .i64 (t.at_ : Int)) := fun n => ((LS n).tr.cell hip (j := 1) (by omega)).trans (by rw [htd]; rfl)
          have t2 : ∀ n : Seen wr, n.val.cell? ⟨q.T, i * 4 + 2, none⟩ = some (.int .i64 t.known) := fun n => ((LS n).tr.cell hip (j := 2) (by omega)).trans (by rw [htd]; rfl)
          have t3 : ∀ n : Seen wr, n.val.cell? ⟨q.T, i * 4 + 3, none⟩ = some (.bool t.gone) := fun n => ((LS n).tr.cell hip (j := 3) (by omega)).trans (by rw [htd]; rfl)
          have hrd : ∀ n : Seen wr, Calls Try.prog 18 #[.pointer (some ⟨g.s, 0, none⟩), .int .i64 (i : Int)] n.val fun e w'' => e = .returned (.bool (p.ready i)) ∧ ∃ m : Seen wr, w'' = m.val := fun n => (sched_Ready (GS n).sch hy ((GS n).rdy i y hy)).mono fun _ _ ⟨a, b⟩ => ⟨a, n, b⟩
          have hal : ∀ n : Seen wr, Calls Try.prog 17 #[.pointer (some ⟨g.s, 0, none⟩), .int .i64 (i : Int)] n.val fun e w'' => e = .returned (.bool y.isSome) ∧ ∃ m : Seen wr, w'' = m.val := fun n => (sched_Alive (GS n).sch hy).mono fun _ _ ⟨a, b⟩ => ⟨a, n, b⟩
          have hrr : ∀ n : Seen wr, Calls Try.prog 19 #[.pointer (some ⟨M, 0, none⟩), .int .i64 (i : Int)] n.val fun e w'' => e = .returned (.bool (p.ready i)) ∧ ∃ m : Seen wr, w'' = m.val := fun n => (ref_Ready (LS n) i hip).mono fun _ w'' ⟨a, b⟩ => ⟨a, ⟨w'', n.below.trans (b.mono n.below.size)⟩, rfl⟩
          have n1 := ne_int t.known
          have n2 := ne_bool (p.ready i)
          have htk := G.tk i t y ht hy
          have HRD := Lib.hid hrd
          have HAL := Lib.hid hal
          have HRR := Lib.hid hrr
          have HLT := Lib.hid hlt
          have HBB := Lib.hid hb
          clear GS LS G L hy ht htd hkd hrd hal hrr hip hlt hb hi
          generalize p.ready i = r at *
          have HT : (t.gone = true ∧ y = none) ∨ (t.gone = false ∧ t.l.length ≤ t.at_ ∧ y = none) ∨ (t.gone = false ∧ t.at_ < t.l.length ∧ y.isSome = true) := by
            rcases htk with ⟨h1, h2⟩ | ⟨h0, x, hx, hc, _⟩
            · cases hg : t.gone with
              | true => exact .inl ⟨rfl, h2⟩
              | false => exact .inr (.inl ⟨rfl, h1.resolve_left (by rw [hg]; decide), h2⟩)
            · obtain ⟨_, _, _, _, _, _, _, _, _, _, _, h⟩ := hc
              exact .inr (.inr ⟨h0, h, by rw [hx]; rfl⟩)
          clear htk
          rcases HT with ⟨hg, hy⟩ | ⟨hg, hat, hy⟩ | ⟨hg, hat, hy⟩
          · rw [hg] at t3
            have hal : ∀ n : Seen wr, Calls Try.prog 17 #[.pointer (some ⟨g.s, 0, none⟩), .int .i64 (i : Int)] n.val fun e w'' => e = .returned (.bool false) ∧ ∃ m : Seen wr, w'' = m.val := fun n => by have := HAL.out n; rw [hy] at this; exact this
            clear hg hy
            go_wp2_with fail
            refine region_seen (by kernel_rfl) (by kernel_rfl) ?_
            repeat (go_big_quiet_step (first | (go_at_call 18; exact HRD.out _) | (go_at_call 17; exact hal _) | (go_at_call 19; exact HRR.out _)))
            refine wpQuiet_nil ?_
            rintro _ ⟨m, rfl⟩
            have HB2 := Lib.hid (HBB.out.trans (m.below.mono HBB.out.size))
            clear m0 o2 o3 rk m0S t0 t1 t2 t3 hal HBB
            generalize m.val = wm at *
            go_wp2_with fail
            go_roundw
            case rel => exact ⟨i + 1, HLT.out, by go_num, HB2⟩
            case measure => have := HLT.out; simp [intOf]; omega
          · rw [hg] at t3
            have hal : ∀ n : Seen wr, Calls Try.prog 17 #[.pointer (some ⟨g.s, 0, none⟩), .int .i64 (i : Int)] n.val fun e w'' => e = .returned (.bool false) ∧ ∃ m : Seen wr, w'' = m.val := fun n => by have := HAL.out n; rw [hy] at this; exact this
            have hat' : ¬ (t.at_ : Int) < ((t.l.length : Nat) : Int) := by omega
            clear hg hy hat
            go_wp2_with fail
            refine region_seen (by kernel_rfl) (by kernel_rfl) ?_
            repeat (go_big_quiet_step (first | (go_at_call 18; exact HRD.out _) | (go_at_call 17; exact hal _) | (go_at_call 19; exact HRR.out _)))
            refine wpQuiet_nil ?_
            rintro _ ⟨m, rfl⟩
            have HB2 := Lib.hid (HBB.out.trans (m.below.mono HBB.out.size))
            clear m0 o2 o3 rk m0S t0 t1 t2 t3 hal HBB
            generalize m.val = wm at *
            go_wp2_with fail
            go_roundw
            case rel => exact ⟨i + 1, HLT.out, by go_num, HB2⟩
            case measure => have := HLT.out; simp [intOf]; omega
          · rw [hg] at t3
            have hal : ∀ n : Seen wr, Calls Try.prog 17 #[.pointer (some ⟨g.s, 0, none⟩), .int .i64 (i : Int)] n.val fun e w'' => e = .returned (.bool true) ∧ ∃ m : Seen wr, w'' = m.val := fun n => by have := HAL.out n; rw [hy] at this; exact this
            have hat' : (t.at_ : Int) < ((t.l.length : Nat) : Int) := by omega
            clear hg hy hat
            go_wp2_with fail
            refine region_seen (by kernel_rfl) (by kernel_rfl) ?_
            repeat (go_big_quiet_step (first | (go_at_call 18; exact HRD.out _) | (go_at_call 17; exact hal _) | (go_at_call 19; exact HRR.out _)))
            refine wpQuiet_nil ?_
            rintro _ ⟨m, rfl⟩
            have HB2 := Lib.hid (HBB.out.trans (m.below.mono HBB.out.size))
            clear m0 o2 o3 rk m0S t0 t1 t2 t3 hal HBB
            generalize m.val = wm at *
            go_wp2_with fail
            go_roundw
            case rel => exact ⟨i + 1, HLT.out, by go_num, HB2⟩
            case measure => have := HLT.out; simp [intOf]; omega
        · have o3 := G.cel.o3
          have hst := G.sch
          have m4 : wr.cell? ⟨M, 4, none⟩ = some (.int .i64 p.steps) := L.cell 4
          have HE := Lib.hid (show ∀ n, Below w.heap.size w (wr.drewN n) from fun n => below_drewN (HBA.out.trans (hb.out.mono HBA.out.size)) n)
          have hee : (p.steps == p.steps) = true := by simp
          generalize p.steps = st at *
          clear G L
          go_wp2_with fail
          go_quiet (first | (go_at_call 39; exact Calls.quiet_of_same (sched_Steps (w := wr.drewN _) (hst.kept fun _ _ => rfl))))
          go_wp2_with fail
          go_ret
          exact ⟨rfl, HE.out _⟩
end Go.Proofs.Ytccliallljcjgaa
