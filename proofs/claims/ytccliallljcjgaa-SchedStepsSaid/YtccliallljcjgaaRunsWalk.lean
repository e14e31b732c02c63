/- Picks of programs' tasks: the law's walk. -/
import Derived.Test.YtccliallljcjgaaBoth
import Derived.Deep.RegionWith
set_option linter.unusedVariables false
namespace Go.Proofs.Ytccliallljcjgaa
open Go.RowKit

theorem only_drewN {S : Nat → Prop} {w w' : World} {n : Nat} (h : Only S (w.drewN n) w') : Only S w w' := ⟨h.os, h.tape, h.output, h.size, h.block⟩
/-- How the document's world reads. -/
theorem lay_cells {B : Nat} {S : Nat → Prop} {w : World} {q : At5} {p : PW} {N : Nat} (h : Lay5 B S w q p) (hN : p.ts.length = N) : w.cell? ⟨q.m, 0, none⟩ = some (.slice (some ⟨q.T, 0, none⟩) N q.cap) ∧ w.cell? ⟨q.m, 1, none⟩ = some (.slice (some ⟨q.C, 0, none⟩) 4 4) ∧
    w.cell? ⟨q.m, 2, none⟩ = some (.slice (some ⟨q.X, 0, none⟩) 4 4) ∧ w.cell? ⟨q.m, 3, none⟩ = some (.slice (some ⟨q.H, 0, none⟩) 4 4) ∧ w.cell? ⟨q.m, 4, none⟩ = some (.int .i64 p.steps) := by
  subst hN
  exact ⟨h.cell 0, h.cell 1, h.cell 2, h.cell 3, h.cell 4⟩
theorem same_cells {B : Nat} {S : Nat → Prop} {w : World} {g : AtG} {q : At5} {p : PW} {ts : List (Option TS)} {N W : Nat} (hG : Go5 B w g p ts) (hL : Lay5 B S w q p) (hN : p.ts.length = N) (hW : g.W = W) :
    Calls Try.prog 14 #[.pointer (some ⟨W, 0, none⟩), .agg #[.slice (some ⟨q.T, 0, none⟩) N q.cap, .slice (some ⟨q.C, 0, none⟩) 4 4, .slice (some ⟨q.X, 0, none⟩) 4 4, .slice (some ⟨q.H, 0, none⟩) 4 4, .int .i64 p.steps]] w fun e w' => e = .returned (.bool true) ∧ Below w.heap.size w w' := by
  subst hN
  subst hW
  exact law_same hG hL
set_option maxHeartbeats 1000000 in
set_option maxRecDepth 100000 in
theorem runs_walk {w : World} {a : Option Addr} {n cap : Nat} {R : List RP} (h : Raw w a n R) (hmax : n ≤ 9223372036854775807) (hin : ∀ (i : Nat) (q : RP), R[i]? = some q → q.l.length ≤ 9223372036854775807)
    {pa : Option Addr} {pn pc : Nat} {zs : List Int} (hp : Nums w pa pn zs) (hpn : pn ≤ 9223372036854775807) :
    Calls Try.prog 3 #[.slice a n cap, .slice pa pn pc] w fun e w' => e = .returned (.bool true) ∧ Below w.heap.size w w' := by
  have hri := law_right (cap := cap) h hmax hin
  have HP := Lib.hid hp
  clear h hin hp hmax
  go_enter Try.func3, Try.ntmps3
  go_wp2_with fail
  refine hri.mono ?_
  rintro e w1 ⟨a1, cap1, L, rfl, hL8, hPr, hb1⟩
  have B1 := Lib.hid hb1
  have HPR := Lib.hid hPr
  obtain ⟨N, hN⟩ : ∃ N, N = L.length := ⟨_, rfl⟩
  have HN := Lib.hid hN
  rw [← hN]
  have hN8 : N ≤ 8 := by rw [hN]; exact hL8
  clear hri hPr hb1 hL8
  by_cases h0 : N = 0
  · have hbn := begin_nil a1 cap1 w1
    rw [h0]
    clear hN
    go_wp2_with fail
    refine hbn.mono ?_
    rintro e w2 ⟨p, rfl, hb2⟩
    have B2 := Lib.hid (B1.out.trans (hb2.mono B1.out.size))
    clear hbn hb2
    go_wp2_with fail
    refine (law_awake _).mono ?_
    rintro e w3 ⟨rfl, hb3⟩
    have B3 := Lib.hid (B2.out.trans (hb3.mono B2.out.size))
    clear hb3
    go_wp2_with fail
    refine (law_awake _).mono ?_
    rintro e w4 ⟨rfl, hb4⟩
    have B4 := Lib.hid (B3.out.trans (hb4.mono B3.out.size))
    clear hb4
    go_wp2_with fail
    go_ret
    exact ⟨rfl, B4.out⟩
  · have hN1 : 1 ≤ N := by omega
    have PR := Lib.hid (HPR.out (by have := HN.out; omega))
    have hbg := begin_go (cap := cap1) PR.out (by have := HN.out; omega)
    rw [← hN] at hbg
    have hnb : ((N : Int) == 0) = false := by simp; omega
    clear hN
    go_wp2_with fail
    refine hbg.mono ?_
    rintro e w2 ⟨W, rfl, hG, hb2⟩
    have HG := Lib.hid hG
    have B2 := Lib.hid hb2
    clear hbg hG hb2
    go_wp2_with fail
    refine (law_awake _).mono ?_
    rintro e w3 ⟨rfl, hb3⟩
    have B3 := Lib.hid hb3
    have PR3 := Lib.hid (PR.out.below (B2.out.trans (hb3.mono B2.out.size)))
    have hS3 : w1.heap.size ≤ w3.heap.size := Nat.le_trans B2.out.size hb3.size
    have hnw := ref_New (cap := cap1) PR3.out hS3 (by have := HN.out; omega)
    rw [← HN.out] at hnw
    have HS3 := Lib.hid hS3
    clear hb3 hS3
    go_wp2_with fail
    refine hnw.mono ?_
    rintro e w4 ⟨q, rfl, hb4, hlow, hmk⟩
    have B4 := Lib.hid hb4
    have HLOW := Lib.hid hlow
    have HMK := Lib.hid hmk
    obtain ⟨m, hm⟩ : ∃ m, m = w4.heap.size := ⟨_, rfl⟩
    have HMM := Lib.hid hm
    clear hm
    have HNW := Lib.hid (heap_new w4 (.cells (q.cells N 0) 31))
    have HBN := Lib.hid ((Below.refl w4.heap.size w4).alloc (Nat.le_refl _) (.cells (q.cells N 0) 31))
    clear hnw hb4 hlow hmk
    unfold At5.cells at HNW HBN ⊢
    go_upto_region 6 with fail
    go_cut [7, 8] from 12 (fun s7 s8 wx => s7 = .pointer (some ⟨m, 0, none⟩) ∧ s8 = .int .i64 0 ∧ Hid (∃ g, g.W = W ∧ Both w1.heap.size w3.heap.size wx g { q with m := m } (PW.start L)) ∧ Hid (Below w.heap.size w wx))
    case first =>
      go_wp2_with fail
      go_meet
      refine ⟨by rw [HMM.out], rfl, Lib.hid ?_, Lib.hid ?_⟩
      · obtain ⟨g, ts, hW, G, hZ⟩ := HG.out
        have hl := HMK.out m _ (by rw [HMM.out]; exact Nat.le_refl _) HBN.out (by rw [HMM.out]; exact HNW.out)
        obtain ⟨g', e1, _, hB⟩ := both_mk (G.below B3.out) rfl hZ (B4.out.trans (HBN.out.mono B4.out.size)) hl (fun j hj => by
          obtain ⟨l1, l2, l3, l4⟩ := HLOW.out
          have := B4.out.size
          have := HMM.out
          rcases hj with rfl | rfl | rfl | rfl | rfl <;> (try simp only) <;> omega)
        exact ⟨g', e1.trans hW, hB⟩
      · have h23 := B2.out.trans (B3.out.mono B2.out.size)
        have h24 := h23.trans (B4.out.mono h23.size)
        exact (B1.out.trans (h24.mono B1.out.size)).trans (HBN.out.mono (Nat.le_trans B1.out.size h24.size))
    case rest =>
    obtain ⟨rfl, rfl, hgB, hbl⟩ := hcut
    obtain ⟨g, hW, hBoth⟩ := hgB.out
    obtain ⟨B, hB⟩ : ∃ B, B = w1.heap.size := ⟨_, rfl⟩
    obtain ⟨N3, hN3⟩ : ∃ N3, N3 = w3.heap.size := ⟨_, rfl⟩
    obtain ⟨Q, hQ⟩ : ∃ Q : At5, Q = { q with m := m } := ⟨_, rfl⟩
    have hQm : m = Q.m := by rw [hQ]
    rw [← hB, ← hN3, ← hQ] at hBoth
    have HW := Lib.hid hW
    have HBo := Lib.hid hBoth
    obtain ⟨w5, hw5⟩ : ∃ w5, w5 = wc := ⟨_, rfl⟩
    subst hw5
    have hBw : w.heap.size ≤ B := by rw [hB]; exact B1.out.size
    have HBW := Lib.hid hBw
    have HLN := Lib.hid (show (PW.start L).ts.length = N by rw [HN.out]; rfl)
    clear hgB HG B1 B2 B3 PR PR3 HS3 B4 HLOW HMK HMM HNW HBN hBoth hB hN3 hQ hW hBw
    subst hQm
    go_wp2_with fail
    go_loopw [8] (fun is wr => ∃ (i : Nat) (p : PW), i ≤ pn ∧ i ≤ 600 ∧ is = .int .i64 (i : Int) ∧ Hid (p.steps ≤ i ∧ p.ts.length = N ∧ Both B N3 wr g Q p) ∧ Hid (Below w.heap.size w wr)) (fun is wr => 600 - (intOf is).toNat)
    case atStart => exact ⟨0, PW.start L, Nat.zero_le _, by omega, rfl, Lib.hid ⟨by simp [PW.start], HLN.out, HBo.out⟩, hbl⟩
    case round =>
      obtain ⟨i, p, hi1, hi2, rfl, hst, hb⟩ := hrel
      obtain ⟨hs1, hs2, hBoth⟩ := hst.out
      obtain ⟨ts, G⟩ := hBoth.go
      by_cases hlt : i < pn ∧ i < 600
      · obtain ⟨hlt1, hlt2⟩ := hlt
        have hlt1' : (i : Int) < (pn : Int) := by omega
        have hlt2' : (i : Int) < 600 := by omega
        obtain ⟨hz1, pb, poff, hz2, hz3⟩ := HP.out
        have hpa := hz2.resolve_left (by omega)
        obtain ⟨hz4, hz5⟩ := hz3 i hlt1
        subst hpa
        have pz := (hb.out.cell (p := ⟨pb, poff + i, none⟩) hz4).trans hz5
        have HZ4 := Lib.hid hz4
        have HZ5 := Lib.hid hz5
        generalize zs.getD i 0 = z at *
        have o3 : wr.cell? ⟨W, 3, none⟩ = some (.pointer (some ⟨g.s, 0, none⟩)) := by rw [← HW.out]; exact G.cel.o3
        have hpk := go_Pick (G.below (below_drewN (Below.refl _ wr) 1)) z (by omega)
        have hps := pick_steps p z
        have HBB := Lib.hid hBoth
        have HST := Lib.hid (And.intro hs1 hs2)
        have HPS := Lib.hid hps
        have hr1 := hps.2.2
        obtain ⟨r, hr⟩ : ∃ r, r = p.pick z := ⟨_, rfl⟩
        rw [← hr] at hpk hr1
        have HRR := Lib.hid hr
        obtain ⟨X, hX⟩ : ∃ X, X = (if r.2 < 0 then 0 else r.2) := ⟨_, rfl⟩
        obtain ⟨Y, hY⟩ : ∃ Y, Y = decide (0 ≤ r.2) := ⟨_, rfl⟩
        rw [← hX, ← hY] at hpk
        have HX := Lib.hid hX
        have HY := Lib.hid hY
        clear hX hY
        have HLT1 := Lib.hid hlt1
        have HLT2 := Lib.hid hlt2
        clear hBoth hst hs1 hs2 G hz1 hz2 hz3 hz4 hz5 hps hr hlt1 hlt2 hi1 hi2
        go_wp2_with fail
        go_upto_region 9 with fail
        go_cut [9, 10] from 44 to 88 (fun s9 s10 wx => s9 = .int .i64 X ∧ s10 = .bool Y ∧ Hid ((∃ ts', Go5 B wx g r.1 ts') ∧ Only (GS g) wr wx))
        case first =>
          go_region_with (go_at_call 12; refine hpk.mono ?_; rintro e w6 ⟨rfl, hg6, ho6⟩)
          all_goals
            have HE := Lib.hid (And.intro hg6 (only_drewN ho6))
            clear hg6 ho6 hpk
            go_wp2_with fail
            go_meet
            exact ⟨rfl, rfl, HE⟩
        case rest =>
        obtain ⟨rfl, rfl, hc⟩ := hcut
        obtain ⟨w6, hw6⟩ : ∃ w6, w6 = wc := ⟨_, rfl⟩
        subst hw6
        have hL6 := HBB.out.go_turn hc.out.1 hc.out.2
        have hsl : ∀ j, SS5 Q j → j < w6.heap.size := fun j hj => Nat.lt_of_lt_of_le (HBB.out.ss_lt j hj) hc.out.2.size
        have hrp := ref_Pick hL6 hsl z (by have := HST.out.1; omega)
        rw [← HRR.out] at hrp
        have hbw6 := hb.out.trans (hc.out.2.below (B := w.heap.size) (fun j _ hj => by obtain ⟨ts, G⟩ := HBB.out.go; have := G.low j hj; have := HBW.out; omega) hb.out.size)
        have pz6 := (hbw6.cell (p := ⟨pb, poff + i, none⟩) HZ4.out).trans HZ5.out
        have HB6 := Lib.hid hbw6
        have HC := hc
        clear hL6 hsl hbw6 hpk o3 pz hc
        go_wp2_with fail
        refine hrp.mono ?_
        rintro e w7 ⟨rfl, hL7, ho7⟩
        have hB7 : Both B N3 w7 g Q r.1 := HBB.out.turn HC.out.1 HC.out.2 (by rw [HRR.out] at hL7 ⊢; exact hL7) ho7
        have HB7 := Lib.hid hB7
        have hbw7 := HB6.out.trans (ho7.below (B := w.heap.size) (fun j _ hj => by have := HBB.out.lay.low j hj; have := HBW.out; omega) HB6.out.size)
        have HBW7 := Lib.hid hbw7
        obtain ⟨ts7, G7⟩ := hB7.go
        have hN7 : r.1.ts.length = N := by rw [HRR.out, HPS.out.2.1]; exact HST.out.2
        have hsm := same_cells G7 hB7.lay hN7 HW.out
        obtain ⟨d0, d1, d2, d3, d4⟩ := lay_cells hB7.lay hN7
        have HN7 := Lib.hid hN7
        have hXr := HX.out
        have hYr := HY.out
        have hn1 := ne_int r.2
        clear hL7 ho7 hB7 hbw7 G7 hN7 hrp pz6
        by_cases h0r : 0 ≤ r.2
        · rw [if_neg (by omega)] at hXr
          rw [decide_eq_true h0r] at hYr
          subst hXr hYr
          go_wp2_with (go_at_call 14; refine hsm.mono ?_; rintro e w8 ⟨rfl, hb8⟩)
          have HE := Lib.hid (show r.1.steps ≤ ((i + 1 : Nat) : Int) ∧ r.1.ts.length = N ∧ Both B N3 w8 g Q r.1 from ⟨by rw [HRR.out]; have := HPS.out.1; have := HST.out.1; omega, HN7.out, HB7.out.kept hb8⟩)
          have HF := Lib.hid (HBW7.out.trans (hb8.mono HBW7.out.size))
          clear hb8
          go_roundw
          case rel => exact ⟨i + 1, r.1, HLT1.out, HLT2.out, by go_num, HE, HF⟩
          case measure => have := HLT2.out; simp [intOf]; omega
        · have hr2 : r.2 = -1 := by omega
          rw [if_pos (by omega)] at hXr
          rw [decide_eq_false h0r] at hYr
          subst hXr hYr
          have hm1 : (-1 : Int) < 0 := by decide
          rw [hr2]
          clear hn1 hm1
          go_wp2_with (go_at_call 14; refine hsm.mono ?_; rintro e w8 ⟨rfl, hb8⟩)
          have HE := Lib.hid (show r.1.steps ≤ ((i + 1 : Nat) : Int) ∧ r.1.ts.length = N ∧ Both B N3 w8 g Q r.1 from ⟨by rw [HRR.out]; have := HPS.out.1; have := HST.out.1; omega, HN7.out, HB7.out.kept hb8⟩)
          have HF := Lib.hid (HBW7.out.trans (hb8.mono HBW7.out.size))
          clear hb8
          go_roundw
          case rel => exact ⟨i + 1, r.1, HLT1.out, HLT2.out, by go_num, HE, HF⟩
          case measure => have := HLT2.out; simp [intOf]; omega
      · have hstop : ¬ ((i : Int) < (pn : Int)) ∨ ((i : Int) < (pn : Int) ∧ ¬ (i : Int) < 600) := by omega
        have hsm := same_cells G hBoth.lay hs2 HW.out
        obtain ⟨d0, d1, d2, d3, d4⟩ := lay_cells hBoth.lay hs2
        have HBW := Lib.hid hb.out
        clear hBoth hst hs1 hs2 G hlt hi1 hi2 hb
        rcases hstop with hs1 | ⟨hs1, hs2⟩
        all_goals
          go_wp2_with (go_at_call 14; refine hsm.mono ?_; rintro e w8 ⟨rfl, hb8⟩)
          go_ret
          exact ⟨rfl, HBW.out.trans (hb8.mono HBW.out.size)⟩
end Go.Proofs.Ytccliallljcjgaa
