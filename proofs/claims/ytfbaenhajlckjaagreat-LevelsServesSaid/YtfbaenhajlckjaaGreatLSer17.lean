/- Texts put together: LevWalk -/
import Derived.Test.YtfbaenhajlckjaaGreatLSer13
import Derived.Test.YtfbaenhajlckjaaGreatLSer14
import Derived.Test.YtfbaenhajlckjaaGreatLSer16
import Derived.Carry
import Derived.Deep.CutRange
import Derived.Lib.MinMax
/- LevelsServes, walked: tables come, and are merged as the plans say; the first that has a key has what was laid there last. -/
set_option linter.unusedVariables false
set_option maxRecDepth 100000
namespace Go.Proofs.YtfbaenhajlckjaaGreat
open Go.RowKit Go.Maps Go.WideShapes Go.ChangeMaps

set_option maxHeartbeats 40000000 in
theorem serves_walk {a qa : Option Addr} {len cap qn qc : Nat} {Gs : List Tn} {Q : List (List UInt8)} {fan : Int} {w : World} (h : Hid (InT w a len cap Gs)) (hf : 0 ≤ fan ∧ fan ≤ 255) (hq : Hid (InS w qa qn qc Q)) :
    Calls Tryz.prog 10 #[.slice a len cap, .int .u8 fan, .slice qa qn qc] w fun e w' => e = .returned (.bool true) ∧ Below w.heap.size w w' := by
  have hbig : len ≤ 9223372036854775807 := by have := h.out.big; unfold maxLen at this; omega
  have hqbig : qn ≤ 9223372036854775807 := by have := hq.out.big; unfold maxLen at this; omega
  have HL := Lib.hid h.out.len
  have HF := Lib.hid hf
  have hmm := @run_makeMap Tryz.prog
  clear hf
  go_enter Tryz.func10, Tryz.ntmps10
  go_wp2_with fail
  refine (law_awake14 w).mono ?_
  rintro e w1 ⟨rfl, k1⟩
  have K1 := Lib.hid k1
  clear k1
  by_cases hbad : 100 < len ∨ 50 < qn
  · rcases hbad with hb | hb
    · have hb' : (100 : Int) < (len : Int) := by omega
      clear hb
      go_wp2_with fail
      refine (law_awake14 w1).mono ?_
      rintro e w2 ⟨rfl, k2⟩
      have K2 := Lib.hid (K1.out.trans (k2.mono K1.out.size))
      clear k2
      go_wp2
      go_ret
      exact ⟨rfl, K2.out⟩
    · have hb' : (50 : Int) < (qn : Int) := by omega
      by_cases hc : 100 < len
      · have hc' : (100 : Int) < (len : Int) := by omega
        clear hb hc
        go_wp2_with fail
        refine (law_awake14 w1).mono ?_
        rintro e w2 ⟨rfl, k2⟩
        have K2 := Lib.hid (K1.out.trans (k2.mono K1.out.size))
        clear k2
        go_wp2
        go_ret
        exact ⟨rfl, K2.out⟩
      · have hc' : (len : Int) ≤ 100 := by omega
        clear hb hc
        go_wp2_with fail
        refine (law_awake14 w1).mono ?_
        rintro e w2 ⟨rfl, k2⟩
        have K2 := Lib.hid (K1.out.trans (k2.mono K1.out.size))
        clear k2
        go_wp2
        go_ret
        exact ⟨rfl, K2.out⟩
  have hlen : len ≤ 100 := by omega
  have hqn : qn ≤ 50 := by omega
  have hlen' : (len : Int) ≤ 100 := by omega
  have hqn' : (qn : Int) ≤ 50 := by omega
  clear hbad
  obtain ⟨w4, hw4⟩ : ∃ w4, ((w1.alloc (.cells #[.slice none 0 0, .slice none 0 0, .slice none 0 0, .int .i64 0] 29)).alloc (.map #[] 0)).alloc (.map #[] 0) = w4 := ⟨_, rfl⟩
  obtain ⟨G, hG⟩ : ∃ G, G = w1.heap.size := ⟨_, rfl⟩
  have HGW := Lib.hid (show w.heap.size ≤ G by rw [hG]; exact K1.out.size)
  have K4 := Lib.hid (show Below w.heap.size w w4 by rw [← hw4]; exact ((K1.out.alloc K1.out.size _).alloc (by have := K1.out.size; simp; omega) _).alloc (by have := K1.out.size; simp; omega) _)
  have L4 := Lib.hid (show LI w4 G (G + 1) (G + 2) Gs 0 (.slice none 0 0) (.slice none 0 0) (.slice none 0 0) St.zero (fun _ _ => none) (fun _ => none) (fun _ => none) from by
    refine ⟨?_, ⟨RdL.none' _ _, RdL.none' _ _, RdL.none' _ _⟩, ⟨St.Ok.zero, (fun f hf => by simp [St.files, St.zero] at hf), (fun t ht => by simp [St.zero] at ht), fun k => by simp [St.zero]⟩, rfl, rfl, rfl, by simp [St.zero], ?_, ?_, (fun t ht => by simp [St.zero] at ht), (fun t ht => by simp [St.zero] at ht), (fun j g hj => by omega), by omega, by omega⟩
    · rw [← hw4, hG]; exact (Below.heap_alloc _ _ _ (by simp; omega)).trans ((Below.heap_alloc _ _ _ (by simp)).trans (heap_new w1 _))
    · have h1 := MO.made (w1.alloc (.cells #[.slice none 0 0, .slice none 0 0, .slice none 0 0, .int .i64 0] 29))
      rw [show (w1.alloc (.cells #[.slice none 0 0, .slice none 0 0, .slice none 0 0, .int .i64 0] 29)).heap.size = G + 1 by rw [hG]; simp] at h1
      rw [← hw4]
      exact h1.kept (Below.heap_alloc _ _ _ (by simp [hG]))
    · have h1 := MS.made ((w1.alloc (.cells #[.slice none 0 0, .slice none 0 0, .slice none 0 0, .int .i64 0] 29)).alloc (.map #[] 0))
      rw [show ((w1.alloc (.cells #[.slice none 0 0, .slice none 0 0, .slice none 0 0, .int .i64 0] 29)).alloc (.map #[] 0)).heap.size = G + 2 by rw [hG]; simp] at h1
      rw [← hw4]
      exact h1)
  obtain ⟨hb, hhb⟩ : ∃ hb, hb = G + 1 := ⟨_, rfl⟩
  obtain ⟨lb, hlb⟩ : ∃ lb, lb = G + 2 := ⟨_, rfl⟩
  rw [← hhb, ← hlb] at L4
  have HW4 := Lib.hid hw4
  have HG := Lib.hid hG
  have HHB := Lib.hid hhb
  have HLB := Lib.hid (show hb + 1 = lb by omega)
  clear hw4 hG hhb hlb
  go_upto_region 6 with (fail)
  rw [HW4.out, ← HG.out, ← HHB.out, HLB.out]
  clear HW4 HG K1
  go_wp2_with fail
  go_loopw [10] (fun iv wr => ∃ i : Nat, i ≤ len ∧ iv = .int .i64 (i : Int) ∧ Hid (∃ tv sv lv s val last blk, LI wr G hb lb Gs i tv sv lv s val last blk) ∧ Hid (Below w.heap.size w wr)) (fun iv wr => len - (intOf iv).toNat)
  case atStart => exact ⟨0, Nat.zero_le _, rfl, Lib.hid ⟨_, _, _, _, _, _, _, L4.out⟩, K4⟩
  case round =>
    obtain ⟨i, hi, rfl, hX, hK⟩ := hrel
    obtain ⟨tv, sv, lv, s, val, last, blk, hLI⟩ := hX.out
    have HI := Lib.hid hLI
    clear hX hLI
    by_cases hlt : i < len
    · have hlt2 : (i : Int) < (len : Int) := by omega
      obtain ⟨tb, toff, g, rfl, hg, htb, hc, hin⟩ := h.out.at hlt
      obtain ⟨ga, gn, gc, gL⟩ := g
      simp only at hc hin
      have HGI := Lib.hid hg
      have HB := Lib.hid htb
      have HC := Lib.hid hc
      have HIN := Lib.hid hin
      have HGN := Lib.hid (show gn = gL.length from hin.len)
      obtain ⟨w0, hw0⟩ : ∃ w0, w0 = wr := ⟨_, rfl⟩
      rw [← hw0] at HI hK ⊢
      clear hg htb hc hin hw0 wr
      have c9 : w0.cell? ⟨tb, toff + i, none⟩ = some (.slice ga gn gc) := by rw [hK.out.cell (p := ⟨tb, toff + i, none⟩) HB.out]; exact HC.out
      by_cases hgn : 30 < gn
      · have hgn' : (30 : Int) < (gn : Int) := by omega
        go_wp2
        go_ret
        exact ⟨rfl, hK.out⟩
      have hgn' : (gn : Int) ≤ 30 := by omega
      obtain ⟨w2, hw2⟩ : ∃ w2, w0.alloc (.map #[] 0) = w2 := ⟨_, rfl⟩
      obtain ⟨hm, hhm⟩ : ∃ hm, hm = w0.heap.size := ⟨_, rfl⟩
      obtain ⟨w3, hw3⟩ : ∃ w3, w2.alloc (.cells #[.int .i64 1, .int .i64 ((i : Int) + 1), .int .i64 0, .int .i64 0, .string { data := #[] }, .string { data := #[] }] 47) = w3 := ⟨_, rfl⟩
      obtain ⟨xb, hxb⟩ : ∃ xb, xb = hm + 1 := ⟨_, rfl⟩
      have hx2 : w2.heap.size = xb := by rw [← hw2, hxb, hhm]; simp
      have k2 : Below w0.heap.size w0 w2 := by rw [← hw2]; exact (Below.refl _ _).alloc (Nat.le_refl _) _
      have k3 : Below w2.heap.size w2 w3 := by rw [← hw3]; exact (Below.refl _ _).alloc (Nat.le_refl _) _
      have k03 := k2.trans (k3.mono k2.size)
      have K3 := Lib.hid (hK.out.trans (k03.mono hK.out.size))
      have KP3 := Lib.hid ((Kp.refl lb w0).below k03)
      have M3 := Lib.hid ((show MS w2 hm 0 (fun _ => none) by rw [← hw2, hhm]; exact MS.made w0).below k3)
      have X3 := Lib.hid (show E6 xb ⟨1, (i : Int) + 1, 0, 0, [], []⟩ w3 by rw [← hw3, ← hx2]; exact heap_new w2 _)
      have HHM := Lib.hid (show w0.heap.size ≤ hm ∧ hm < xb by omega)
      have L3 := Lib.hid (HI.out.ml.below k03)
      have HG0 := Lib.hid (show lb < w0.heap.size from HI.out.ml.lt)
      have HW2 := Lib.hid hw2
      have HW3 := Lib.hid hw3
      have HH := Lib.hid hhm
      have HXB := Lib.hid hxb
      clear hw2 hhm hw3 hxb k2 k3 k03 hx2
      have hwi : IntKind.i64.wrap ((i : Int) + 1) = (i : Int) + 1 := IntWalk.i64_in _ (by omega)
      go_upto_region 14 with (fail)
      rw [HW2.out, ← HH.out, HW3.out, ← HXB.out]
      clear c9
      have c9 : w3.cell? ⟨tb, toff + i, none⟩ = some (.slice ga gn gc) := by rw [K3.out.cell (p := ⟨tb, toff + i, none⟩) HB.out]; exact HC.out
      go_upto_if 73 with (fail)
      go_cut [12, 14, 15, 16, 17, 18, 19, 20, 21, 22, 23, 24, 25] from 50 to 283 (fun s12 s14 s15 s16 s17 s18 s19 s20 s21 s22 s23 s24 s25 wx => Hid (RD w.heap.size w w0 lb hm xb i Gs s val s12 wx))
      case first =>
        rename_i hJc hKc
        by_cases hgp : 0 < gn
        · have hgp' : (0 : Int) < (gn : Int) := by omega
          exact serves_lay (w4 := w) hbig hqbig hmm hlen hqn hlen' hqn' HGW hi hlt hlt2 h HGI HB HC HIN HGN hK HI hgn hgn' K3 KP3 M3 X3 HHM L3 HG0 hwi c9 hJc hKc hgp hgp' (fun _ _ dd _ _ h => by cases dd <;> exact h) (by kernel_rfl)
        · have hgp' : (gn : Int) ≤ 0 := by omega
          rw [decide_eq_false hgp]
          have C3 := Lib.hid (HI.out.stk KP3.out)
          have V3 := Lib.hid (HI.out.rdk KP3.out)
          obtain ⟨ta, tc, rfl⟩ := RdL.slice V3.out.tabs
          obtain ⟨nt, hnt⟩ : ∃ n, n = s.tabs.length := ⟨_, rfl⟩
          have hnt9 : nt ≤ 100 := by have := HI.out.few; omega
          have HT3 := Lib.hid (show RdL (fun b => b ≠ G) w3 (.slice ta nt tc) nt (flat tcell s.tabs) by rw [hnt]; exact V3.out.tabs)
          rw [← hnt] at C3
          have HNT := Lib.hid hnt
          clear hnt V3
          obtain ⟨g0, g1, g2, g3⟩ := C3.out.c0
          go_wp2_with fail
          have HFN : 2 ≤ wrap64 (2 + wrap64 (fan.tmod 15)) ∧ wrap64 (2 + wrap64 (fan.tmod 15)) ≤ 16 := by
            have h1 := HF.out
            have h2 : fan.tmod 15 = fan % 15 := Int.tmod_eq_emod_of_nonneg h1.1
            rw [h2]; unfold wrap64; omega
          obtain ⟨f, hf⟩ : ∃ f, f = wrap64 (2 + wrap64 (fan.tmod 15)) := ⟨_, rfl⟩
          rw [← hf] at HFN ⊢
          have HFN := Lib.hid HFN
          clear hf
          have HPK := Lib.hid (lev_pick (fan := f) HT3 HNT (by omega) HFN.out (Lib.hid fun t ht => ⟨(HI.out.sr.ok.tab t ht).1, (HI.out.sr.ok.tab t ht).2.1⟩))
          refine HPK.out.mono ?_
          rintro e w5 ⟨hp, k5⟩
          have KP5 := Lib.hid (KP3.out.below k5)
          have K5 := Lib.hid (K3.out.trans (k5.mono K3.out.size))
          have X5 := Lib.hid (X3.out.below k5)
          have M5 := Lib.hid (M3.out.below k5)
          have L5 := Lib.hid (L3.out.below k5)
          clear g0 g1 g2 g3 HPK
          rcases hp with ⟨h0, he⟩ | ⟨hne, pa, pc, rfl, ho⟩
          · obtain rfl : e = .returned (.tuple #[.agg #[.slice none 0 0, .int .i64 0, .string { data := #[] }, .string { data := #[] }, .bool false], .bool false]) := he
            obtain ⟨w6, hw6⟩ : ∃ w6, w5.alloc (.cells #[.slice none 0 0, .int .i64 0, .string { data := #[] }, .string { data := #[] }, .bool false] 93) = w6 := ⟨_, rfl⟩
            have k6 : Below w5.heap.size w5 w6 := by rw [← hw6]; exact (Below.refl _ _).alloc (Nat.le_refl _) _
            have KP6 := Lib.hid (KP5.out.below k6)
            have K6 := Lib.hid (K5.out.trans (k6.mono K5.out.size))
            have L6 := Lib.hid ((L5.out.below k6).mono (show i * 30 ≤ (i + 1) * 30 by omega))
            have HW6 := Lib.hid hw6
            clear hw6 k6 k5 h0
            go_upto_region 23 with (fail)
            rw [HW6.out]
            clear c9
            go_wp2_with fail
            go_roundw
            case rel => exact ⟨i + 1, by omega, by go_num, Lib.hid ⟨_, _, _, _, _, _, _, HI.out.skip KP6.out L6.out HGI.out (show gn ≤ 30 by omega)⟩, K6⟩
            case measure => simp [intOf]; omega
          · have HPO := Lib.hid (plan_ok HI.out.sr.ok (by have := HFN.out; omega) hne)
            obtain ⟨P, hP⟩ : ∃ P, P = planL s.tabs (leaveL s.tabs f) := ⟨_, rfl⟩
            rw [← hP] at ho HPO ⊢
            obtain ⟨ins, out, low, high, bot⟩ := P
            simp only at ho HPO ⊢
            obtain ⟨np, hnp⟩ : ∃ n, n = ins.length := ⟨_, rfl⟩
            have hnp9 : np ≤ 100 := by
              have := nodup_len (rise_nodup HPO.out.rise) HPO.out.sub
              have := HNT.out
              omega
            rw [← hnp]
            have HNP := Lib.hid hnp
            obtain ⟨w6, hw6⟩ : ∃ w6, w5.alloc (.cells #[.slice pa np pc, .int .i64 out, .string (bs low), .string (bs high), .bool bot] 93) = w6 := ⟨_, rfl⟩
            obtain ⟨pb, hpb⟩ : ∃ pb, pb = w5.heap.size := ⟨_, rfl⟩
            have k6 : Below w5.heap.size w5 w6 := by rw [← hw6]; exact (Below.refl _ _).alloc (Nat.le_refl _) _
            have P6 := Lib.hid (show P5 pb (.slice pa np pc) out (bs low) (bs high) bot w6 by rw [← hw6, hpb]; exact heap_new w5 _)
            have I6 := Lib.hid (show RdL (fun b => w3.heap.size ≤ b) w6 (.slice pa np pc) np (flat icell (ins.map (·.file))) by
              have := OffRow.rdL ho
              rw [List.length_map, ← hnp] at this
              exact this.below k6)
            have KP6 := Lib.hid (KP5.out.below k6)
            have K6 := Lib.hid (K5.out.trans (k6.mono K5.out.size))
            have X6 := Lib.hid (X5.out.below k6)
            have M6 := Lib.hid ((M5.out.below k6).same (g' := hereK val ins 0) (fun k => by rw [hereK_zero]))
            have M6' := M6
            have L6 := Lib.hid ((L5.out.below k6).mono (show i * 30 ≤ (i + 1) * 30 by omega))
            have HPB := Lib.hid (show w3.heap.size ≤ pb ∧ xb < w3.heap.size by have := k5.size; have := heap_lt X3.out; omega)
            have HW6 := Lib.hid hw6
            have HP6 := Lib.hid hpb
            clear hw6 hpb k6 k5 hne hP hnp ho X5 M5 L5 KP5 K5 X3 M3 L3
            go_upto_region 24 with (fail)
            rw [HW6.out, ← HP6.out]
            clear c9 HW6 HP6 hgp hgp'
            go_wp2_with fail
            go_loopw [12, 18] (fun ev kv wr => ∃ k : Nat, k ≤ np ∧ kv = .int .i64 (k : Int) ∧ Hid (OffRow wr w6.heap.size 47 6 ev k (flat ecell ((ins.take k).map dropEd))) ∧ Hid (MS wr hm (k * 3000) (hereK val ins k)) ∧ Hid (Kp hm w6 wr) ∧ Hid (Below w.heap.size w wr)) (fun ev kv wr => np - (intOf kv).toNat)
            case atStart => exact ⟨0, Nat.zero_le _, rfl, Lib.hid (OffRow.nil _ _ _ _), Lib.hid (M6.out.mono (by omega)), Lib.hid (Kp.refl _ _), K6⟩
            case round =>
              clear M6
              obtain ⟨k, hk, rfl, hE, hM, hKP, hKK⟩ := hrel
              obtain ⟨ea, ec, rfl⟩ := OffRow.slice hE.out
              have PR := Lib.hid (show P5 pb (.slice pa np pc) out (bs low) (bs high) bot wr from (hKP.out.kept pb (heap_lt P6.out) (by have := HPB.out; have := HHM.out; omega)).trans P6.out)
              obtain ⟨r0, r1, r2, r3, r4⟩ := PR.out.c0
              by_cases hkl : k < np
              · have hkl2 : (k : Int) < (np : Int) := by omega
                exact serves_take hbig hqbig hmm hlen hqn hlen' hqn' hi hlt hlt2 h HB hK hgn hgn' HHM hwi hJc hKc HI hnt9 HPO hnp9 HNP P6 I6 KP6 K6 M6' HPB hk hM hKP hKK hE PR r0 r1 r2 r3 r4 hkl hkl2 (fun _ _ dd _ _ h => by cases dd <;> exact h) (by kernel_rfl)
              · have hgek : (np : Int) ≤ (k : Int) := by omega
                have hkn : k = np := by omega
                have HKN := Lib.hid hkn
                clear hkn
                have HXB := Lib.hid (show xb < w6.heap.size ∧ xb ≠ hm ∧ hm < xb ∧ pb ≠ xb ∧ pb < wr.heap.size by have := HPB.out; have := HHM.out; have := heap_lt P6.out; have := hKP.out.size; omega)
                have X7 := Lib.hid (X6.out.kept (hKP.out.kept xb HXB.out.1 HXB.out.2.1))
                have HEK := Lib.hid (show OffRow wr w6.heap.size 47 6 (.slice ea k ec) k (flat ecell (ins.map dropEd)) by
                  have := hE.out
                  rw [List.take_of_length_le (by have := HNP.out; have := HKN.out; omega)] at this
                  exact this)
                have HML := Lib.hid (show MS wr hm 400000 (fun x => ins.findSome? fun t => val t.file x) by
                  have h1 := hM.out.mono (show k * 3000 ≤ 400000 by omega)
                  have e : hereK val ins k = fun x => ins.findSome? fun t => val t.file x := by
                    rw [← hereK_all]
                    congr 1
                    have := HNP.out
                    have := HKN.out
                    omega
                  rw [e] at h1
                  exact h1)
                clear hE hM
                go_upto_region 39 with (fail)
                exact serves_edits hbig hqbig hmm hlen hqn hlen' hqn' hi hlt hlt2 h hK hgn hgn' HHM HG0 hwi hJc hKc HI hnt9 HPO hnp9 HNP KP6 L6 hk hKP hKK PR r0 r1 r2 r3 r4 hkl hgek HKN HXB X7 HEK HML (fun _ _ dd _ _ h => by cases dd <;> exact h) (by kernel_rfl)
      case rest =>
        clear X3 M3 L3 c9 KP3 K3
        obtain ⟨ea, en, ec, D, out, low, high, gH, last', hv, hen, hen9, hDf, hO, hX, hM, hLL, hKP, hKK, hPL, hKEY⟩ := hcut.out
        subst hv
        have HEN := Lib.hid hen
        have HDF := Lib.hid hDf
        have HO := Lib.hid hO
        have HX := Lib.hid hX
        have HM := Lib.hid hM
        have HLL := Lib.hid hLL
        have HKP := Lib.hid hKP
        have HKK := Lib.hid hKK
        have HPL := Lib.hid hPL
        have HKEY := Lib.hid hKEY
        clear hen hDf hO hX hM hLL hKP hKK hPL hKEY hcut
        obtain ⟨wa, hwa⟩ : ∃ wa, wa = wc := ⟨_, rfl⟩
        rw [← hwa] at HO HX HM HLL HKP HKK ⊢
        clear hwa wc
        obtain ⟨z, hz9, hlen⟩ := HM.out.size_le
        obtain ⟨cnt, hcnt⟩ : ∃ c, c = max 1 (z : Int) := ⟨_, rfl⟩
        have hmax : ∀ (w : World) (ts : Array TypeId) (t : TypeId), (Builtin.max_ ts t #[.int .i64 1, .int .i64 (z : Int)]).run Tryz.prog w = .ok (.int .i64 cnt) w := fun w ts t => by rw [hcnt]; exact Lib.run_max_ints ..
        have HCN := Lib.hid (show 1 ≤ cnt ∧ cnt ≤ 400000 by omega)
        have hlen' := hlen (3)
        clear hcnt hlen
        obtain ⟨d0, d1, d2, d3, d4, d5⟩ := HX.out.c0
        have df := HX.out.free
        obtain ⟨w1, hw1⟩ : ∃ w1, w1 = wa.setCell ⟨xb, 3, none⟩ (.int .i64 cnt) := ⟨_, rfl⟩
        have HXW := Lib.hid (show w0.heap.size ≤ xb ∧ w.heap.size ≤ xb by have := HHM.out; have := hK.out.size; omega)
        have X1 := Lib.hid (show E6 xb ⟨1, (i : Int) + 1, out, cnt, low, high⟩ w1 by rw [hw1]; exact HX.out.put3 cnt)
        have KP1 := Lib.hid (show Kp lb w0 w1 by rw [hw1]; exact HKP.out.set HXW.out.1 _)
        have K1 := Lib.hid (show Below w.heap.size w w1 by rw [hw1]; exact HKK.out.setCell (p := ⟨xb, 3, none⟩) HXW.out.2 _)
        have M1 := Lib.hid (show MS w1 hm 400000 gH by rw [hw1]; exact HM.out.kept (heap_set_other (by have := HHM.out; omega) _))
        have L1 := Lib.hid (show MS w1 lb ((i + 1) * 30) last' by rw [hw1]; exact HLL.out.kept (heap_set_other (by have := HHM.out; have := HG0.out; omega) _))
        have O1 := Lib.hid (show OffRow w1 (xb + 1) 47 6 (.slice ea en ec) en (flat ecell D) by
          rw [hw1]
          exact OffRow.kept HO.out fun j hj => heap_set_other (by have := (OffRow.lt HO.out j hj).1; omega) _)
        have HW1 := Lib.hid hw1
        go_upto_region 41 with (fail)
        rw [← HW1.out]
        clear d0 d1 d2 d3 d4 d5 df hmax hlen' hw1 HX HM HLL HKP HKK HO hz9
        rename_i hK8 hX KX hKr
        exact serves_rest hq hbig hqbig hmm hlen hqn hqn' HGW hi hlt hlt2 h HGI HI hgn hgn' HHM HG0 hwi hen9 HEN HDF HPL HKEY HCN HXW X1 KP1 K1 M1 L1 O1 HW1 (fun _ _ dd _ _ h => by cases dd <;> exact h) (by kernel_rfl) (by kernel_rfl) hKr hK8 (Lib.hid fun _ _ h => ⟨h.1, h.2⟩) (by kernel_rfl)
    · obtain rfl : i = len := by omega
      go_wp2
      go_ret
      exact ⟨rfl, hK.out⟩
end Go.Proofs.YtfbaenhajlckjaaGreat
