/- Named tasks' steps: the law's walk. -/
import Derived.Test.YtccliallljcjgaaDrops
set_option linter.unusedVariables false
namespace Go.Proofs.Ytccliallljcjgaa
open Go.RowKit

/-- The world of plain words behind a drop, if there is one. -/
def dropP (p : PW) (N i : Nat) (drop z : Int) : PW := if (i : Int) = drop ∧ 0 ≤ z ∧ z < (N : Int) then p.goneAt z.toNat else p
set_option maxHeartbeats 1000000 in
set_option maxRecDepth 100000 in
theorem steps_walk {w : World} {a : Option Addr} {n cap : Nat} {R : List RP} (h : Raw w a n R) (hmax : n ≤ 9223372036854775807) (hin : ∀ (i : Nat) (q : RP), R[i]? = some q → q.l.length ≤ 9223372036854775807)
    {pa : Option Addr} {pn pc : Nat} {zs : List Int} (hp : Nums w pa pn zs) (hpn : pn ≤ 9223372036854775807) (drop : Int) :
    Calls Try.prog 4 #[.slice a n cap, .slice pa pn pc, .int .i64 drop] w fun e w' => e = .returned (.bool true) ∧ Below w.heap.size w w' := by
  have hri := law_right (cap := cap) h hmax hin
  have HP := Lib.hid hp
  clear h hin hp hmax
  go_enter Try.func4, Try.ntmps4
  go_wp2_with fail
  refine hri.mono ?_
  rintro e w1 ⟨a1, cap1, L, rfl, hL8, hPr, hb1⟩
  have B1 := Lib.hid hb1
  have HPR := Lib.hid hPr
  obtain ⟨N, hN⟩ : ∃ N, N = L.length := ⟨_, rfl⟩
  have HN := Lib.hid hN
  rw [← hN]
  have hN8 : N ≤ 8 := by rw [hN]; exact hL8
  clear hri hPr hb1 hL8
  by_cases h0 : N = 0
  · have hbn := begin_nil a1 cap1 w1
    rw [h0]
    clear hN
    go_wp2_with fail
    refine hbn.mono ?_
    rintro e w2 ⟨p, rfl, hb2⟩
    have B2 := Lib.hid (B1.out.trans (hb2.mono B1.out.size))
    clear hbn hb2
    go_wp2_with fail
    refine (law_awake _).mono ?_
    rintro e w3 ⟨rfl, hb3⟩
    have B3 := Lib.hid (B2.out.trans (hb3.mono B2.out.size))
    clear hb3
    go_wp2_with fail
    refine (law_awake _).mono ?_
    rintro e w4 ⟨rfl, hb4⟩
    have B4 := Lib.hid (B3.out.trans (hb4.mono B3.out.size))
    clear hb4
    go_wp2_with fail
    go_ret
    exact ⟨rfl, B4.out⟩
  · have hN1 : 1 ≤ N := by omega
    have PR := Lib.hid (HPR.out (by have := HN.out; omega))
    have hbg := begin_go (cap := cap1) PR.out (by have := HN.out; omega)
    rw [← hN] at hbg
    have hnb : ((N : Int) == 0) = false := by simp; omega
    clear hN
    go_wp2_with fail
    refine hbg.mono ?_
    rintro e w2 ⟨W, rfl, hG, hb2⟩
    have HG := Lib.hid hG
    have B2 := Lib.hid hb2
    clear hbg hG hb2
    go_wp2_with fail
    refine (law_awake _).mono ?_
    rintro e w3 ⟨rfl, hb3⟩
    have B3 := Lib.hid hb3
    have PR3 := Lib.hid (PR.out.below (B2.out.trans (hb3.mono B2.out.size)))
    have hS3 : w1.heap.size ≤ w3.heap.size := Nat.le_trans B2.out.size hb3.size
    have hnw := ref_New (cap := cap1) PR3.out hS3 (by have := HN.out; omega)
    rw [← HN.out] at hnw
    have HS3 := Lib.hid hS3
    clear hb3 hS3
    go_wp2_with fail
    refine hnw.mono ?_
    rintro e w4 ⟨q, rfl, hb4, hlow, hmk⟩
    have B4 := Lib.hid hb4
    have HLOW := Lib.hid hlow
    have HMK := Lib.hid hmk
    obtain ⟨m, hm⟩ : ∃ m, m = w4.heap.size := ⟨_, rfl⟩
    have HMM := Lib.hid hm
    clear hm
    have HNW := Lib.hid (heap_new w4 (.cells (q.cells N 0) 31))
    have HBN := Lib.hid ((Below.refl w4.heap.size w4).alloc (Nat.le_refl _) (.cells (q.cells N 0) 31))
    clear hnw hb4 hlow hmk
    unfold At5.cells at HNW HBN ⊢
    go_upto_region 6 with fail
    go_cut [9, 10] from 13 (fun s7 s8 wx => s7 = .pointer (some ⟨m, 0, none⟩) ∧ s8 = .int .i64 0 ∧ Hid (∃ g, g.W = W ∧ Both w1.heap.size w3.heap.size wx g { q with m := m } (PW.start L)) ∧ Hid (Below w.heap.size w wx))
    case first =>
      go_wp2_with fail
      go_meet
      refine ⟨by rw [HMM.out], rfl, Lib.hid ?_, Lib.hid ?_⟩
      · obtain ⟨g, ts, hW, G, hZ⟩ := HG.out
        have hl := HMK.out m _ (by rw [HMM.out]; exact Nat.le_refl _) HBN.out (by rw [HMM.out]; exact HNW.out)
        obtain ⟨g', e1, _, hB⟩ := both_mk (G.below B3.out) rfl hZ (B4.out.trans (HBN.out.mono B4.out.size)) hl (fun j hj => by
          obtain ⟨l1, l2, l3, l4⟩ := HLOW.out
          have := B4.out.size
          have := HMM.out
          rcases hj with rfl | rfl | rfl | rfl | rfl <;> (try simp only) <;> omega)
        exact ⟨g', e1.trans hW, hB⟩
      · have h23 := B2.out.trans (B3.out.mono B2.out.size)
        have h24 := h23.trans (B4.out.mono h23.size)
        exact (B1.out.trans (h24.mono B1.out.size)).trans (HBN.out.mono (Nat.le_trans B1.out.size h24.size))
    case rest =>
    obtain ⟨rfl, rfl, hgB, hbl⟩ := hcut
    obtain ⟨g, hW, hBoth⟩ := hgB.out
    obtain ⟨B, hB⟩ : ∃ B, B = w1.heap.size := ⟨_, rfl⟩
    obtain ⟨N3, hN3⟩ : ∃ N3, N3 = w3.heap.size := ⟨_, rfl⟩
    obtain ⟨Q, hQ⟩ : ∃ Q : At5, Q = { q with m := m } := ⟨_, rfl⟩
    have hQm : m = Q.m := by rw [hQ]
    rw [← hB, ← hN3, ← hQ] at hBoth
    have HW := Lib.hid hW
    have HBo := Lib.hid hBoth
    obtain ⟨w5, hw5⟩ : ∃ w5, w5 = wc := ⟨_, rfl⟩
    subst hw5
    have hBw : w.heap.size ≤ B := by rw [hB]; exact B1.out.size
    have HBW := Lib.hid hBw
    have HLN := Lib.hid (show (PW.start L).ts.length = N by rw [HN.out]; rfl)
    clear hgB HG B1 B2 B3 PR PR3 HS3 B4 HLOW HMK HMM HNW HBN hBoth hB hN3 hQ hW hBw
    subst hQm
    go_wp2_with fail
    go_loopw [10] (fun is wr => ∃ (i : Nat) (p : PW), i ≤ pn ∧ i ≤ 600 ∧ is = .int .i64 (i : Int) ∧ Hid (p.steps ≤ i ∧ p.ts.length = N ∧ Both B N3 wr g Q p) ∧ Hid (Below w.heap.size w wr)) (fun is wr => 600 - (intOf is).toNat)
    case atStart => exact ⟨0, PW.start L, Nat.zero_le _, by omega, rfl, Lib.hid ⟨by simp [PW.start], HLN.out, HBo.out⟩, hbl⟩
    case round =>
      obtain ⟨i, p, hi1, hi2, rfl, hst, hb⟩ := hrel
      by_cases hlt : i < pn ∧ i < 600
      · obtain ⟨hlt1, hlt2⟩ := hlt
        have hlt1' : (i : Int) < (pn : Int) := by omega
        have hlt2' : (i : Int) < 600 := by omega
        obtain ⟨hz1, pb, poff, hz2, hz3⟩ := HP.out
        have hpa := hz2.resolve_left (by omega)
        obtain ⟨hz4, hz5⟩ := hz3 i hlt1
        subst hpa
        have pz := (hb.out.cell (p := ⟨pb, poff + i, none⟩) hz4).trans hz5
        generalize zs.getD i 0 = z at *
        have HLT1 := Lib.hid hlt1
        have HLT2 := Lib.hid hlt2
        clear hz1 hz2 hz3 hz4 hz5 hlt1 hlt2 hi1 hi2
        -- the drop
        obtain ⟨p1, hp1⟩ : ∃ p1, p1 = dropP p N i drop z := ⟨_, rfl⟩
        have HP1 := Lib.hid hp1
        clear hp1
        go_upto_if 53 with fail
        go_cut [] from 53 to 144 (fun wx => Hid (p1.steps ≤ i ∧ p1.ts.length = N ∧ Both B N3 wx g Q p1) ∧ Hid (Below w.heap.size w wx))
        case first =>
          obtain ⟨hs1, hs2, hBoth⟩ := hst.out
          obtain ⟨ts, G⟩ := hBoth.go
          have hp1 := HP1.out
          unfold dropP at hp1
          by_cases hd : (i : Int) = drop
          · have o3 : wr.cell? ⟨W, 3, none⟩ = some (.pointer (some ⟨g.s, 0, none⟩)) := by rw [← HW.out]; exact G.cel.o3
            by_cases hin : 0 ≤ z ∧ z < (N : Int)
            · obtain ⟨k, rfl⟩ : ∃ k : Nat, z = (k : Int) := ⟨z.toNat, by omega⟩
              rw [if_pos ⟨hd, hin⟩, Int.toNat_natCast] at hp1
              have HP2 := Lib.hid hp1
              have hk : k < p.ts.length := by omega
              have hdr := go_Drop G k hk
              have hkN : (k : Int) < (N : Int) := by omega
              have hk0 : (0 : Int) ≤ (k : Int) := by omega
              have HB := Lib.hid hBoth
              have HK := Lib.hid hk
              have HS := Lib.hid (And.intro hs1 hs2)
              have hdb : ((i : Int) == drop) = true := beq_iff_eq.2 hd
              clear G hBoth hst hs1 hs2 hk hin hd hp1 HP1
              go_wp2_with fail
              refine hdr.mono ?_
              rintro e w6 ⟨rfl, hg6, ho6⟩
              have hL6 := HB.out.go_turn hg6 ho6
              have m0 : w6.cell? ⟨Q.m, 0, none⟩ = some (.slice (some ⟨Q.T, 0, none⟩) N Q.cap) := (lay_cells hL6 HS.out.2).1
              have e3 := hL6.tr.cell HK.out (j := 3) (by omega)
              have e3' : w6.cell? ⟨Q.T, k * 4 + 3, none⟩ = some (.bool (p.ts.getD k default).gone) := e3
              have f3 := hL6.tr.free (k * 4 + 3)
              have hL7 := lay_gone hL6 k HK.out
              have hO7 : Only (SS5 Q) w6 (w6.setCell ⟨Q.T, k * 4 + 3, none⟩ (.bool true)) := (Only.refl _ w6).setCell (p := ⟨Q.T, k * 4 + 3, none⟩) (.inl (.inr (.inl rfl))) _
              have hB7 := HB.out.turn hg6 ho6 hL7 hO7
              have HE := Lib.hid (show p1.steps ≤ i ∧ p1.ts.length = N ∧ Both B N3 (w6.setCell ⟨Q.T, k * 4 + 3, none⟩ (.bool true)) g Q p1 from by rw [HP2.out]; exact ⟨HS.out.1, by simp [PW.goneAt, HS.out.2], hB7⟩)
              have HF := Lib.hid ((hb.out.trans (ho6.below (B := w.heap.size) (fun j _ hj => by obtain ⟨ts, G⟩ := HB.out.go; have := G.low j hj; have := HBW.out; omega) hb.out.size)).setCell (p := ⟨Q.T, k * 4 + 3, none⟩) (by have := HB.out.lay.low Q.T (.inr (.inl rfl)); have := HBW.out; simp only; omega) (.bool true))
              generalize (p.ts.getD k default).gone = gn at *
              clear hL6 e3 hL7 hO7 hB7 hg6 ho6 hdr o3
              go_wp2_with fail
              go_meet
              exact ⟨HE, HF⟩
            · rw [if_neg (fun e => hin e.2)] at hp1
              have hdr := drop_out (Out.of G.sch.c0 (i := z) (by rw [G.len, hs2]; exact hin))
              have hz' : ¬ (0 : Int) ≤ z ∨ ((0 : Int) ≤ z ∧ ¬ z < (N : Int)) := by omega
              have hdb : ((i : Int) == drop) = true := beq_iff_eq.2 hd
              have HE := Lib.hid (show p1.steps ≤ i ∧ p1.ts.length = N ∧ Both B N3 wr g Q p1 from by rw [hp1]; exact hst.out)
              clear G hBoth hst hs1 hs2 hin hd hp1 HP1
              rcases hz' with hz' | ⟨hz', hz''⟩
              all_goals
                go_wp2_with (go_at_call 15; refine hdr.mono ?_; rintro e w6 ⟨rfl, rfl⟩)
                go_meet
                exact ⟨HE, hb⟩
          · rw [if_neg (fun e => hd e.1)] at hp1
            have hdb : ((i : Int) == drop) = false := beq_eq_false_iff_ne.2 hd
            have HE := Lib.hid (show p1.steps ≤ i ∧ p1.ts.length = N ∧ Both B N3 wr g Q p1 from by rw [hp1]; exact hst.out)
            clear G hBoth hst hs1 hs2 hd hp1 HP1
            go_wp2_with fail
            go_meet
            exact ⟨HE, hb⟩
        case rest =>
        obtain ⟨hc1, hc2⟩ := hcut
        obtain ⟨w6, hw6⟩ : ∃ w6, w6 = wc := ⟨_, rfl⟩
        subst hw6
        clear hst hb pz HP1
        obtain ⟨hs1, hs2, hBoth⟩ := hc1.out
        obtain ⟨ts, G⟩ := hBoth.go
        have o3 : w6.cell? ⟨W, 3, none⟩ = some (.pointer (some ⟨g.s, 0, none⟩)) := by rw [← HW.out]; exact G.cel.o3
        by_cases hin : 0 ≤ z ∧ z < (N : Int)
        · obtain ⟨k, rfl⟩ : ∃ k : Nat, z = (k : Int) := ⟨z.toNat, by omega⟩
          have hk : k < p1.ts.length := by omega
          have hkN : (k : Int) < (N : Int) := by omega
          have hk0 : (0 : Int) ≤ (k : Int) := by omega
          obtain ⟨t, ht⟩ : ∃ t, p1.ts[k]? = some t := ⟨_, List.getElem?_eq_getElem hk⟩
          have htd : p1.ts.getD k default = t := getD_of ht _
          obtain ⟨hn1, hn2⟩ := go_named G ht
          have LY := hBoth.lay
          have m0 : w6.cell? ⟨Q.m, 0, none⟩ = some (.slice (some ⟨Q.T, 0, none⟩) N Q.cap) := (lay_cells LY hs2).1
          have t0 : w6.cell? ⟨Q.T, k * 4, none⟩ = some (.slice t.a t.l.length t.cap) := (LY.tr.cell hk (j := 0) (by omega)).trans (by rw [htd]; rfl)
          have t1 : w6.cell? ⟨Q.T, k * 4 + 1, none⟩ = some (.int .i64 (t.at_ : Int)) := (LY.tr.cell hk (j := 1) (by omega)).trans (by rw [htd]; rfl)
          have t3 : w6.cell? ⟨Q.T, k * 4 + 3, none⟩ = some (.bool t.gone) := (LY.tr.cell hk (j := 3) (by omega)).trans (by rw [htd]; rfl)
          by_cases hdead : t.gone = true ∨ t.l.length ≤ t.at_
          · have hcall := hn1 hdead
            have hcs : t.gone = true ∨ (t.gone = false ∧ t.l.length ≤ t.at_) := by
              rcases hdead with h | h
              · exact .inl h
              · cases hg : t.gone with
                | true => exact .inl rfl
                | false => exact .inr ⟨rfl, h⟩
            have HBX := fun n => Lib.hid (hBoth.kept (below_drewN (Below.refl _ w6) n))
            have HBWX := fun n => Lib.hid (below_drewN hc2.out n)
            have HLX := Lib.hid (show p1.ts.length = N ∧ p1.steps ≤ ((i + 1 : Nat) : Int) from ⟨hs2, by omega⟩)
            clear hn1 hn2 hdead G LY hBoth hc1 hc2 hs1 hs2 ht htd hk hin
            rcases hcs with hg | ⟨hg, hat⟩
            · rw [hg] at t3
              clear hg
              go_wp2_with (go_at_call 16; refine hcall.mono ?_; rintro e w' ⟨rfl, rfl⟩)
              go_quiet (fail)
              replace HBX := HBX nq
              replace HBWX := HBWX nq
              clear m0 t0 t1 t3 o3 hcall
              generalize World.drewN _ nq = w7 at *
              obtain ⟨tsX, GX⟩ := HBX.out.go
              have hsm := same_cells GX HBX.out.lay HLX.out.1 HW.out
              obtain ⟨d0, d1, d2, d3, d4⟩ := lay_cells HBX.out.lay HLX.out.1
              clear GX
              go_wp2_with (go_at_call 14; refine hsm.mono ?_; rintro e w8 ⟨rfl, hb8⟩)
              have HE := Lib.hid (And.intro HLX.out.2 (And.intro HLX.out.1 (HBX.out.kept hb8)))
              have HF := Lib.hid (HBWX.out.trans (hb8.mono HBWX.out.size))
              clear hb8
              go_roundw
              case rel => exact ⟨i + 1, _, HLT1.out, HLT2.out, by go_num, HE, HF⟩
              case measure => have := HLT2.out; simp [intOf]; omega
            · rw [hg] at t3
              have hat' : ((t.l.length : Nat) : Int) ≤ (t.at_ : Int) := by omega
              have hatd : decide (((t.l.length : Nat) : Int) ≤ (t.at_ : Int)) = true := by simpa using hat'
              clear hg hat
              go_wp2_with (go_at_call 16; refine hcall.mono ?_; rintro e w' ⟨rfl, rfl⟩)
              go_quiet (fail)
              replace HBX := HBX nq
              replace HBWX := HBWX nq
              clear m0 t0 t1 t3 o3 hcall hatd hat'
              generalize World.drewN _ nq = w7 at *
              obtain ⟨tsX, GX⟩ := HBX.out.go
              have hsm := same_cells GX HBX.out.lay HLX.out.1 HW.out
              obtain ⟨d0, d1, d2, d3, d4⟩ := lay_cells HBX.out.lay HLX.out.1
              clear GX
              go_wp2_with (go_at_call 14; refine hsm.mono ?_; rintro e w8 ⟨rfl, hb8⟩)
              have HE := Lib.hid (And.intro HLX.out.2 (And.intro HLX.out.1 (HBX.out.kept hb8)))
              have HF := Lib.hid (HBWX.out.trans (hb8.mono HBWX.out.size))
              clear hb8
              go_roundw
              case rel => exact ⟨i + 1, _, HLT1.out, HLT2.out, by go_num, HE, HF⟩
              case measure => have := HLT2.out; simp [intOf]; omega
          · have hg : t.gone = false := by
              cases hg : t.gone with
              | true => exact absurd (.inl hg) hdead
              | false => rfl
            have hat : t.at_ < t.l.length := by
              have : ¬ t.l.length ≤ t.at_ := fun e => hdead (.inr e)
              omega
            have hat' : ¬ ((t.l.length : Nat) : Int) ≤ (t.at_ : Int) := by omega
            have hatd : decide (((t.l.length : Nat) : Int) ≤ (t.at_ : Int)) = false := decide_eq_false hat'
            have hatn : ¬ t.l.length ≤ t.at_ := by omega
            have hatm : decide (t.l.length ≤ t.at_) = false := decide_eq_false hatn
            have HK := Lib.hid hk
            rw [hg] at t3
            cases hrd : p1.ready k with
            | false =>
              have hcall := hn2 hg hat hrd
              have HB0 := fun n => Lib.hid (hBoth.kept (below_drewN (Below.refl _ w6) n))
              have HBW0 := fun n => Lib.hid (below_drewN hc2.out n)
              have HLX := Lib.hid (show p1.ts.length = N ∧ p1.steps ≤ ((i + 1 : Nat) : Int) from ⟨hs2, by omega⟩)
              have HRD := Lib.hid hrd
              clear hn1 hn2 hdead G LY hBoth hc1 hc2 hs1 hs2 ht htd hk hin hg hat hrd
              go_wp2_with (go_at_call 16; refine hcall.mono ?_; rintro e w' ⟨rfl, rfl⟩)
              go_quiet (fail)
              replace HB0 := HB0 nq
              replace HBW0 := HBW0 nq
              clear m0 t0 t1 t3 o3 hcall hatd hat'
              generalize World.drewN _ nq = w7 at *
              have hrr := ref_Ready HB0.out.lay k HK.out
              rw [HRD.out] at hrr
              go_wp2_with fail
              refine hrr.mono ?_
              rintro e w9 ⟨rfl, hb9⟩
              have HBX := Lib.hid (HB0.out.kept hb9)
              have HBWX := Lib.hid (HBW0.out.trans (hb9.mono HBW0.out.size))
              clear hb9 hrr HB0 HBW0
              obtain ⟨tsX, GX⟩ := HBX.out.go
              have hsm := same_cells GX HBX.out.lay HLX.out.1 HW.out
              obtain ⟨d0, d1, d2, d3, d4⟩ := lay_cells HBX.out.lay HLX.out.1
              clear GX
              go_wp2_with (go_at_call 14; refine hsm.mono ?_; rintro e w8 ⟨rfl, hb8⟩)
              have HE := Lib.hid (And.intro HLX.out.2 (And.intro HLX.out.1 (HBX.out.kept hb8)))
              have HF := Lib.hid (HBWX.out.trans (hb8.mono HBWX.out.size))
              clear hb8
              go_roundw
              case rel => exact ⟨i + 1, _, HLT1.out, HLT2.out, by go_num, HE, HF⟩
              case measure => have := HLT2.out; simp [intOf]; omega
            | true =>
              have hcall := go_Step G k hk hrd (by omega)
              have HB0 := Lib.hid hBoth
              have HS := Lib.hid (And.intro hs1 hs2)
              have HRD := Lib.hid hrd
              have HTD := Lib.hid htd
              have HG := Lib.hid hg
              clear hn1 hn2 hdead G LY hBoth hc1 hs1 hs2 ht htd hk hin hg hat hrd m0 t0 t1 t3
              go_wp2_with fail
              refine hcall.mono ?_
              rintro e w7 ⟨rfl, hg7, ho7⟩
              have LY := HB0.out.go_turn hg7 ho7
              have m0 : w7.cell? ⟨Q.m, 0, none⟩ = some (.slice (some ⟨Q.T, 0, none⟩) N Q.cap) := (lay_cells LY HS.out.2).1
              have t0 : w7.cell? ⟨Q.T, k * 4, none⟩ = some (.slice t.a t.l.length t.cap) := (LY.tr.cell HK.out (j := 0) (by omega)).trans (by rw [HTD.out]; rfl)
              have t1 : w7.cell? ⟨Q.T, k * 4 + 1, none⟩ = some (.int .i64 (t.at_ : Int)) := (LY.tr.cell HK.out (j := 1) (by omega)).trans (by rw [HTD.out]; rfl)
              have t3 : w7.cell? ⟨Q.T, k * 4 + 3, none⟩ = some (.bool false) := (LY.tr.cell HK.out (j := 3) (by omega)).trans (by rw [HTD.out]; simp [TK.vals, HG.out])
              have HT7 := Lib.hid (And.intro hg7 ho7)
              have HLY := fun n => Lib.hid (LY.drewN n)
              have HO8 := fun n => Lib.hid ((Only.refl (SS5 Q) w7).drewN n)
              have HBW7 := Lib.hid (hc2.out.trans (ho7.below (B := w.heap.size) (fun j _ hj => by obtain ⟨ts, G⟩ := HB0.out.go; have := G.low j hj; have := HBW.out; omega) hc2.out.size))
              clear hg7 ho7 LY hcall hc2
              go_wp2_with fail
              go_quiet (fail)
              replace HLY := HLY nq
              replace HO8 := HO8 nq
              clear m0 t0 t1 t3 o3 hatd hat'
              generalize World.drewN _ nq = w8 at *
              have hrr := ref_Ready HLY.out k HK.out
              rw [HRD.out] at hrr
              go_wp2_with fail
              refine hrr.mono ?_
              rintro e w9 ⟨rfl, hb9⟩
              have L9 := HLY.out.below hb9
              have hst9 := ref_Step L9 k HK.out (ready_has HRD.out) (by have := HS.out.1; omega)
              have HO9 := Lib.hid (HO8.out.trans (only_below hb9))
              clear hb9 hrr L9
              go_wp2_with fail
              refine hst9.mono ?_
              rintro e w10 ⟨rfl, hl10, ho10⟩
              have hO710 := HO9.out.trans ho10
              have HBX := Lib.hid (HB0.out.turn HT7.out.1 HT7.out.2 hl10 hO710)
              have HBWX := Lib.hid (HBW7.out.trans (hO710.below (B := w.heap.size) (fun j _ hj => by have := HB0.out.lay.low j hj; have := HBW.out; omega) HBW7.out.size))
              have HLX := Lib.hid (show (p1.step k).ts.length = N ∧ (p1.step k).steps ≤ ((i + 1 : Nat) : Int) from ⟨by rw [(step_steps p1 k).2]; exact HS.out.2, by rw [(step_steps p1 k).1]; have := HS.out.1; omega⟩)
              clear hl10 ho10 hO710 hst9
              obtain ⟨tsX, GX⟩ := HBX.out.go
              have hsm := same_cells GX HBX.out.lay HLX.out.1 HW.out
              obtain ⟨d0, d1, d2, d3, d4⟩ := lay_cells HBX.out.lay HLX.out.1
              clear GX
              go_wp2_with (go_at_call 14; refine hsm.mono ?_; rintro e w8 ⟨rfl, hb8⟩)
              have HE := Lib.hid (And.intro HLX.out.2 (And.intro HLX.out.1 (HBX.out.kept hb8)))
              have HF := Lib.hid (HBWX.out.trans (hb8.mono HBWX.out.size))
              clear hb8
              go_roundw
              case rel => exact ⟨i + 1, _, HLT1.out, HLT2.out, by go_num, HE, HF⟩
              case measure => have := HLT2.out; simp [intOf]; omega
        · have hout := Out.of G.sch.c0 (i := z) (by rw [G.len, hs2]; exact hin)
          have hst1 := step_out hout
          have hal := alive_out hout
          have hrd := ready_out hout
          have HBX := Lib.hid hBoth
          have HBWX := hc2
          have HLX := Lib.hid (show p1.ts.length = N ∧ p1.steps ≤ ((i + 1 : Nat) : Int) from ⟨hs2, by omega⟩)
          have hz' : z < 0 ∨ (¬ z < 0 ∧ ((N : Int) ≤ z)) := by omega
          clear hc1 hs1 hs2 hBoth G hin hout
          obtain ⟨tsX, GX⟩ := HBX.out.go
          have hsm := same_cells GX HBX.out.lay HLX.out.1 HW.out
          obtain ⟨d0, d1, d2, d3, d4⟩ := lay_cells HBX.out.lay HLX.out.1
          clear GX
          rcases hz' with hz' | ⟨hz', hz''⟩
          all_goals
            go_wp2_with (first | (go_at_call 16; refine hst1.mono ?_; rintro e w' ⟨rfl, rfl⟩) | (go_at_call 17; refine hal.mono ?_; rintro e w' ⟨rfl, rfl⟩) | (go_at_call 18; refine hrd.mono ?_; rintro e w' ⟨rfl, rfl⟩) | (go_at_call 14; refine hsm.mono ?_; rintro e w8 ⟨rfl, hb8⟩))
            have HE := Lib.hid (And.intro HLX.out.2 (And.intro HLX.out.1 (HBX.out.kept hb8)))
            have HF := Lib.hid (HBWX.out.trans (hb8.mono HBWX.out.size))
            clear hb8
            go_roundw
            case rel => exact ⟨i + 1, _, HLT1.out, HLT2.out, by go_num, HE, HF⟩
            case measure => have := HLT2.out; simp [intOf]; omega
      · have hstop : ¬ ((i : Int) < (pn : Int)) ∨ ((i : Int) < (pn : Int) ∧ ¬ (i : Int) < 600) := by omega
        have HBW2 := Lib.hid hb.out
        clear hst hlt hi1 hi2 hb
        rcases hstop with hs1 | ⟨hs1, hs2⟩
        all_goals
          go_wp2_with fail
          go_ret
          exact ⟨rfl, HBW2.out⟩
end Go.Proofs.Ytccliallljcjgaa
