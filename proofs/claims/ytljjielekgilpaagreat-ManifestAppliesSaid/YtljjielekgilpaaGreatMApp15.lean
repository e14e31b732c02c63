/- Texts put together: ManOne1 -/
import Derived.Test.YtljjielekgilpaaGreatMApp14
/- The document's side: one edit (kind 1). -/
set_option linter.unusedVariables false
set_option maxRecDepth 100000
namespace Go.Proofs.YtljjielekgilpaaGreat
open Go.RowKit

set_option maxHeartbeats 16000000 in
theorem one_1 {T : Nat → Prop} {w : World} {tv sv lv : Value} {s : St} {x : Ed} (h : Hid (StV T w tv sv lv s)) (hs : Hid (s.small 400000000)) (hk : Hid (x.kind = 1)) :
    Calls Tryz.prog 39 #[.agg #[tv, sv, lv, .int .i64 s.next], .agg #[.int .i64 x.kind, .int .i64 x.file, .int .i64 x.lev, .int .i64 x.cnt, .string (bs x.low), .string (bs x.high)]] w (OnePost s x w) := by
  obtain ⟨ta, tc, rfl⟩ := RdL.slice h.out.tabs
  obtain ⟨sa, sc, rfl⟩ := RdL.slice h.out.stos
  obtain ⟨la, lc, rfl⟩ := RdL.slice h.out.logs
  have hsm := hs.out
  unfold St.small at hsm
  obtain ⟨nt, hnt⟩ : ∃ n, n = s.tabs.length := ⟨_, rfl⟩
  obtain ⟨ns, hns⟩ : ∃ n, n = s.stos.length := ⟨_, rfl⟩
  obtain ⟨nl, hnl⟩ : ∃ n, n = s.logs.length := ⟨_, rfl⟩
  obtain ⟨nx, hnx⟩ : ∃ n, n = s.next := ⟨_, rfl⟩
  have hn9 : nt ≤ 400000000 ∧ ns ≤ 400000000 ∧ nl ≤ 400000000 := by omega
  have HV0 := h
  have HT := Lib.hid h.out.tabs
  have HS := Lib.hid h.out.stos
  have HL := Lib.hid h.out.logs
  have HSUM := Lib.hid (show s.tabs.length + s.stos.length + s.logs.length ≤ 1000000000 by omega)
  rw [← hnt] at HT ⊢
  rw [← hns] at HS ⊢
  rw [← hnl] at HL ⊢
  rw [← hnx]
  have HN := Lib.hid (And.intro hnt (And.intro hns (And.intro hnl hnx)))
  obtain ⟨kd, hkd⟩ : ∃ k, k = x.kind := ⟨_, rfl⟩
  obtain ⟨B, hB⟩ : ∃ B, B = w.heap.size := ⟨_, rfl⟩
  have HB := Lib.hid hB
  obtain ⟨wa, hwa⟩ : ∃ wa, w.alloc (.cells #[.slice ta nt tc, .slice sa ns sc, .slice la nl lc, .int .i64 nx] 29) = wa := ⟨_, rfl⟩
  obtain ⟨wb, hwb⟩ : ∃ wb, wa.alloc (.cells #[.int .i64 x.kind, .int .i64 x.file, .int .i64 x.lev, .int .i64 x.cnt, .string (bs x.low), .string (bs x.high)] 44) = wb := ⟨_, rfl⟩
  obtain ⟨wc, hwc⟩ : ∃ wc, wb.alloc (.cells #[.slice none 0 0, .slice none 0 0, .slice none 0 0, .int .i64 0] 29) = wc := ⟨_, rfl⟩
  obtain ⟨w1, hw1⟩ : ∃ w1, wc.alloc (.cells #[.slice none 0 0, .slice none 0 0, .slice none 0 0, .int .i64 nx] 29) = w1 := ⟨_, rfl⟩
  have za : wa.heap.size = B + 1 := by rw [← hwa, hB]; simp
  have zb : wb.heap.size = B + 2 := by rw [← hwb, show B + 2 = B + 1 + 1 from rfl, ← za]; simp
  have zc : wc.heap.size = B + 3 := by rw [← hwc, show B + 3 = B + 2 + 1 from rfl, ← zb]; simp
  have ba : Below B w wa := by rw [← hwa, hB]; exact (Below.refl _ _).alloc (Nat.le_refl _) _
  have bb : Below wa.heap.size wa wb := by rw [← hwb]; exact (Below.refl _ _).alloc (Nat.le_refl _) _
  have bc : Below wb.heap.size wb wc := by rw [← hwc]; exact (Below.refl _ _).alloc (Nat.le_refl _) _
  have bd : Below wc.heap.size wc w1 := by rw [← hw1]; exact (Below.refl _ _).alloc (Nat.le_refl _) _
  have K1 := Lib.hid (show Below B w w1 from ((ba.trans (bb.mono (by omega))).trans (bc.mono (by omega))).trans (bd.mono (by omega)))
  have V1 := Lib.hid (show C4 B (.slice ta nt tc) (.slice sa ns sc) (.slice la nl lc) (.int .i64 nx) w1 ∧ EdAt (B + 1) x w1 ∧ C4 (B + 2) (.slice none 0 0) (.slice none 0 0) (.slice none 0 0) (.int .i64 0) w1 ∧ C4 (B + 3) (.slice none 0 0) (.slice none 0 0) (.slice none 0 0) (.int .i64 nx) w1 by
    have na := heap_new w (.cells #[.slice ta nt tc, .slice sa ns sc, .slice la nl lc, .int .i64 nx] 29)
    have nb := heap_new wa (.cells #[.int .i64 x.kind, .int .i64 x.file, .int .i64 x.lev, .int .i64 x.cnt, .string (bs x.low), .string (bs x.high)] 44)
    have nc := heap_new wb (.cells #[.slice none 0 0, .slice none 0 0, .slice none 0 0, .int .i64 0] 29)
    have nd := heap_new wc (.cells #[.slice none 0 0, .slice none 0 0, .slice none 0 0, .int .i64 nx] 29)
    rw [hwa, ← hB] at na
    rw [hwb, za] at nb
    rw [hwc, zb] at nc
    rw [hw1, zc] at nd
    exact ⟨(bd.block B (by omega)).trans ((bc.block B (by omega)).trans ((bb.block B (by omega)).trans na)), (bd.block (B + 1) (by omega)).trans ((bc.block (B + 1) (by omega)).trans nb), (bd.block (B + 2) (by omega)).trans nc, nd⟩)
  rw [← hwc, ← hwb, ← hwa] at hw1
  have HW1 := Lib.hid hw1
  have KD := Lib.hid hkd
  have HS1 := Lib.hid (show StV T w1 (.slice ta s.tabs.length tc) (.slice sa s.stos.length sc) (.slice la s.logs.length lc) s from h.out.below (HB.out ▸ K1.out))
  obtain ⟨s0, s1, s2, s3⟩ := V1.out.1.c0
  obtain ⟨e0, e1, e2, e3, e4, e5⟩ := V1.out.2.1.c
  rw [hk.out] at e0 hkd
  have hB1 := Lib.hid (show B + 3 < w1.heap.size from heap_lt V1.out.2.2.2)
  clear hw1 hB hnt hns hnl hnx hsm hwa hwb hwc za zb zc ba bb bc bd
  obtain ⟨iT, ti0, ti1, ti2, ti3⟩ := info_parts infoTb
  obtain ⟨iS, si0, si1, si2, si3⟩ := info_parts infoSo
  obtain ⟨iI, ii0, ii1, ii2, ii3⟩ := info_parts infoInt
  have HIT := Lib.hid (And.intro ti0 (And.intro ti1 (And.intro ti2 ti3)))
  have HIS := Lib.hid (And.intro si0 (And.intro si1 (And.intro si2 si3)))
  have HII := Lib.hid (And.intro ii0 (And.intro ii1 (And.intro ii2 ii3)))
  clear ti0 ti1 ti2 ti3 si0 si1 si2 si3 ii0 ii1 ii2 ii3
  obtain ⟨z, hz⟩ : ∃ z, z = oneE s x := ⟨_, rfl⟩
  have HZ := Lib.hid hz.symm
  clear hz
  have HC := Lib.hid (ref_there (f := x.file) HS1 HSUM)
  rw [← HN.out.1, ← HN.out.2.1, ← HN.out.2.2.1, ← HN.out.2.2.2] at HC
  obtain ⟨r, hr⟩ : ∃ r, r = decide (x.file ∈ s.files) := ⟨_, rfl⟩
  rw [← hr] at HC
  have HR := Lib.hid hr
  clear hr
  go_enter Tryz.func39, Tryz.ntmps39
  rw [hk.out] at HW1 ⊢
  go_upto_region 2 with (fail)
  rw [HW1.out, ← HB.out, show B + 1 + 1 = B + 2 from rfl, show B + 2 + 1 = B + 3 from rfl]
  by_cases hf : x.file < 1
  · have EZ := Lib.hid (show z = 1 by rw [← HZ.out]; unfold oneE; rw [if_pos hk.out]; rw [if_pos (.inr hf)])
    obtain ⟨r0, r1, r2, r3⟩ := V1.out.2.2.1.c0
    have rf := V1.out.2.2.1.free
    go_wp2
    refine bodyPost_ret (results_st2 rfl _ _ (B + 2) _ _ _ _ _ rfl rfl (V1.out.2.2.1.put _ _ _ _)) rfl ?_
    exact ⟨_, _, _, _, _, _, _, _, _, _, by rw [HZ.out, EZ.out]; rfl, fun hq => absurd (HZ.out.symm.trans hq) (by rw [EZ.out]; decide), by rw [← HB.out]; exact below_put4 K1.out (by omega) _ _ _ _⟩
  by_cases h1 : x.lev < 0
  · have EZ := Lib.hid (show z = 1 by rw [← HZ.out]; unfold oneE; rw [if_pos hk.out]; rw [if_pos (.inl (by unfold badTab; simp [h1]))])
    obtain ⟨r0, r1, r2, r3⟩ := V1.out.2.2.1.c0
    have rf := V1.out.2.2.1.free
    go_wp2
    refine bodyPost_ret (results_st2 rfl _ _ (B + 2) _ _ _ _ _ rfl rfl (V1.out.2.2.1.put _ _ _ _)) rfl ?_
    exact ⟨_, _, _, _, _, _, _, _, _, _, by rw [HZ.out, EZ.out]; rfl, fun hq => absurd (HZ.out.symm.trans hq) (by rw [EZ.out]; decide), by rw [← HB.out]; exact below_put4 K1.out (by omega) _ _ _ _⟩
  by_cases h2 : 5 < x.lev
  · have EZ := Lib.hid (show z = 1 by rw [← HZ.out]; unfold oneE; rw [if_pos hk.out]; rw [if_pos (.inl (by unfold badTab; simp [h2]))])
    obtain ⟨r0, r1, r2, r3⟩ := V1.out.2.2.1.c0
    have rf := V1.out.2.2.1.free
    go_wp2
    refine bodyPost_ret (results_st2 rfl _ _ (B + 2) _ _ _ _ _ rfl rfl (V1.out.2.2.1.put _ _ _ _)) rfl ?_
    exact ⟨_, _, _, _, _, _, _, _, _, _, by rw [HZ.out, EZ.out]; rfl, fun hq => absurd (HZ.out.symm.trans hq) (by rw [EZ.out]; decide), by rw [← HB.out]; exact below_put4 K1.out (by omega) _ _ _ _⟩
  by_cases h3 : x.cnt < 1
  · have EZ := Lib.hid (show z = 1 by rw [← HZ.out]; unfold oneE; rw [if_pos hk.out]; rw [if_pos (.inl (by unfold badTab; simp [h3]))])
    obtain ⟨r0, r1, r2, r3⟩ := V1.out.2.2.1.c0
    have rf := V1.out.2.2.1.free
    go_wp2
    refine bodyPost_ret (results_st2 rfl _ _ (B + 2) _ _ _ _ _ rfl rfl (V1.out.2.2.1.put _ _ _ _)) rfl ?_
    exact ⟨_, _, _, _, _, _, _, _, _, _, by rw [HZ.out, EZ.out]; rfl, fun hq => absurd (HZ.out.symm.trans hq) (by rw [EZ.out]; decide), by rw [← HB.out]; exact below_put4 K1.out (by omega) _ _ _ _⟩
  obtain ⟨p, q, g1, g2, g3⟩ := leq_texts x.low x.high
  by_cases h4 : ltB x.high x.low = true
  · have EZ := Lib.hid (show z = 1 by rw [← HZ.out]; unfold oneE; rw [if_pos hk.out]; rw [if_pos (.inl (by unfold badTab; simp [h4]))])
    rw [h4] at g3
    have hp : p = false := by cases p <;> simp at g3 ⊢
    have hq : q = false := by cases q <;> simp at g3 ⊢
    subst hp hq
    clear h4 g3
    obtain ⟨r0, r1, r2, r3⟩ := V1.out.2.2.1.c0
    have rf := V1.out.2.2.1.free
    go_wp2
    refine bodyPost_ret (results_st2 rfl _ _ (B + 2) _ _ _ _ _ rfl rfl (V1.out.2.2.1.put _ _ _ _)) rfl ?_
    exact ⟨_, _, _, _, _, _, _, _, _, _, by rw [HZ.out, EZ.out]; rfl, fun hq => absurd (HZ.out.symm.trans hq) (by rw [EZ.out]; decide), by rw [← HB.out]; exact below_put4 K1.out (by omega) _ _ _ _⟩
  have h4' : ltB x.high x.low = false := by simpa using h4
  rw [h4'] at g3
  have hpq : (!p && !q) = false := by cases p <;> cases q <;> simp at g3 ⊢
  have hpq' : ¬ (p = false ∧ q = false) := by cases p <;> cases q <;> simp at g3 ⊢
  have HBT := Lib.hid (show ¬ (badTab x = true ∨ x.file < 1) by
    rintro (hh | hh)
    · unfold badTab at hh
      rw [decide_eq_false h1, decide_eq_false h2, decide_eq_false h3, h4'] at hh
      cases hh
    · exact hf hh)
  clear h4 h4' g3
  go_wp2_with fail
  refine HC.out.mono ?_
  rintro e w2 ⟨rfl, k2⟩
  have V2 := Lib.hid (show C4 B (.slice ta nt tc) (.slice sa ns sc) (.slice la nl lc) (.int .i64 nx) w2 ∧ EdAt (B + 1) x w2 ∧ C4 (B + 2) (.slice none 0 0) (.slice none 0 0) (.slice none 0 0) (.int .i64 0) w2 ∧ C4 (B + 3) (.slice none 0 0) (.slice none 0 0) (.slice none 0 0) (.int .i64 nx) w2 from ⟨V1.out.1.below k2, (k2.block (B + 1) (heap_lt V1.out.2.1)).trans V1.out.2.1, V1.out.2.2.1.below k2, V1.out.2.2.2.below k2⟩)
  have K2 := Lib.hid (K1.out.trans (k2.mono (by have := hB1.out; omega)))
  clear k2 s0 s1 s2 s3 e0 e1 e2 e3 e4 e5 HC
  obtain ⟨s0, s1, s2, s3⟩ := V2.out.1.c0
  obtain ⟨e0, e1, e2, e3, e4, e5⟩ := V2.out.2.1.c
  rw [hk.out] at e0
  cases r with
  | true =>
    have hin : x.file ∈ s.files := by simpa using HR.out.symm
    have EZ := Lib.hid (show z = 10 by rw [← HZ.out]; unfold oneE; rw [if_pos hk.out]; rw [if_neg HBT.out, if_pos hin])
    obtain ⟨r0, r1, r2, r3⟩ := V2.out.2.2.1.c0
    have rf := V2.out.2.2.1.free
    go_wp2
    refine bodyPost_ret (results_st2 rfl _ _ (B + 2) _ _ _ _ _ rfl rfl (V2.out.2.2.1.put _ _ _ _)) rfl ?_
    exact ⟨_, _, _, _, _, _, _, _, _, _, by rw [HZ.out, EZ.out]; rfl, fun hq => absurd (HZ.out.symm.trans hq) (by rw [EZ.out]; decide), by rw [← HB.out]; exact below_put4 K2.out (by omega) _ _ _ _⟩
  | false =>
    have HNF := Lib.hid (show x.file ∉ s.files by simpa using HR.out.symm)
    go_upto_region 11 with (fail)
    obtain ⟨w3, hw3⟩ : ∃ w3, w2.alloc (.cells #[.int .i64 x.file, .int .i64 x.lev, .int .i64 x.cnt, .string (bs x.low), .string (bs x.high)] 86) = w3 := ⟨_, rfl⟩
    obtain ⟨tb, htb⟩ : ∃ tb, tb = w2.heap.size := ⟨_, rfl⟩
    rw [hw3, ← htb]
    have VV := Lib.hid (show OneV B tb w (.slice ta nt tc) (.slice sa ns sc) (.slice la nl lc) nx x (.slice none 0 0) (.slice none 0 0) (.slice none 0 0) w3 from by
      have k : Below w2.heap.size w2 w3 := by rw [← hw3]; exact (Below.refl _ _).alloc (Nat.le_refl _) _
      refine ⟨V2.out.1.below k, (k.block (B + 1) (heap_lt V2.out.2.1)).trans V2.out.2.1, V2.out.2.2.1.below k, V2.out.2.2.2.below k, by rw [← hw3, htb]; exact heap_new w2 _, K2.out.trans (k.mono (by have := heap_lt V2.out.1; omega)), by have := heap_lt V2.out.2.2.2; omega⟩)
    clear hw3 htb s0 s1 s2 s3 e0 e1 e2 e3 e4 e5
    clear hf h1 h2 h3 g1 g2 hpq hpq'
    obtain ⟨e0, e1, e2, e3, e4, e5⟩ := VV.out.ed.c
    rw [hk.out] at e0
    go_wp2_with fail
    clear e0 e1 e2 e3 e4 e5
    go_loopw [8, 10, 11] (fun fv pv iv wr => ∃ (i : Nat) (o0 : Value) (NN : Nat), i ≤ nt ∧ fv = .bool (true) ∧ pv = .bool (anyT x.tab (s.tabs.take i)) ∧ iv = .int .i64 (i : Int) ∧ Hid (OneV B tb w (.slice ta nt tc) (.slice sa ns sc) (.slice la nl lc) nx x o0 (.slice none 0 0) (.slice none 0 0) wr) ∧ Hid (NN = (midT x.tab (s.tabs.take i)).length) ∧ Hid (OffRow wr (tb + 1) 86 5 o0 NN (flat tcell (midT x.tab (s.tabs.take i)))) ∧ Hid (¬ (0 < x.lev ∧ (s.tabs.take i).any (meets x.tab) = true))) (fun fv pv iv wr => nt - (intOf iv).toNat)
    case atStart => exact ⟨0, _, 0, Nat.zero_le _, rfl, rfl, rfl, VV, Lib.hid (rfl), Lib.hid (OffRow.nil _ _ _ _), Lib.hid (by simp)⟩
    case round =>
      obtain ⟨i, o0, NN, hi, rfl, rfl, rfl, HV, HNN, HO, hME⟩ := hrel
      obtain ⟨LL, hLL⟩ : ∃ LL, LL = midT x.tab (s.tabs.take i) := ⟨_, rfl⟩
      rw [← hLL] at HNN HO
      have HLL := Lib.hid hLL
      have hN9 : NN ≤ 900000000 := by
        rw [HNN.out, hLL]
        have := midT_len x.tab (s.tabs.take i)
        rw [List.length_take] at this
        have := HN.out.1
        omega
      obtain ⟨a3, c3, rfl⟩ := OffRow.slice HO.out
      clear hLL
      obtain ⟨s0, s1, s2, s3⟩ := HV.out.st.c0
      obtain ⟨e0, e1, e2, e3, e4, e5⟩ := HV.out.ed.c
      rw [hk.out] at e0
      obtain ⟨p0, p1, p2, p3⟩ := HV.out.out.c0
      have pf := HV.out.out.free
      by_cases hlt : i < nt
      · have hlt' : (i : Int) < (nt : Int) := by omega
        obtain ⟨y, hy⟩ : ∃ y, s.tabs[i]? = some y := ⟨_, List.getElem?_eq_getElem (by have := HN.out.1; omega)⟩
        obtain ⟨yb, yo, rfl, _, hb2, hc⟩ := RdL.atT HT.out hy hlt
        have hcr : ∀ i' u, (tcell y)[i']? = some u → wr.cell? ⟨yb, yo + i * 5 + i', none⟩ = some u := fun i' u hu => by
          rw [← hc i' u hu]
          simp only [World.cell?, HV.out.kp.block yb (by rw [HB.out]; exact hb2)]
        have y0 : wr.cell? ⟨yb, yo + i * 5, none⟩ = _ := hcr 0 _ rfl
        have y1 := hcr 1 _ rfl
        have y2 := hcr 2 _ rfl
        have y3 := hcr 3 _ rfl
        have y4 := hcr 4 _ rfl
        have HTK := Lib.hid (show s.tabs.take (i + 1) = s.tabs.take i ++ [y] by rw [List.take_add_one, hy]; rfl)
        clear hc hcr hy
        obtain ⟨wu, hwu⟩ : ∃ wu, wr.alloc (.cells #[.int .i64 y.file, .int .i64 y.lev, .int .i64 y.cnt, .string (bs y.low), .string (bs y.high)] 86) = wu := ⟨_, rfl⟩
        obtain ⟨ub, hub⟩ : ∃ ub, ub = wr.heap.size := ⟨_, rfl⟩
        have KU := Lib.hid (show Below wr.heap.size wr wu by rw [← hwu]; exact (Below.refl _ _).alloc (Nat.le_refl _) _)
        have UA := Lib.hid (show wu.heap[ub]? = some (.cells #[.int .i64 y.file, .int .i64 y.lev, .int .i64 y.cnt, .string (bs y.low), .string (bs y.high)] 86 (0, 0)) by rw [← hwu, hub]; exact heap_new wr _)
        have HRB := Lib.hid (show ∀ j, (Value.slice a3 NN c3).ownBlock = some j → j < ub from fun j hj => by rw [hub]; exact (OffRow.lt HO.out j hj).2)
        have HUBT := Lib.hid (show tb < ub by rw [hub]; exact HV.out.lt)
        replace HV := Lib.hid (HV.out.below KU.out)
        replace HO := Lib.hid (off_below HO.out KU.out)
        have HWU := Lib.hid hwu
        have HUB := Lib.hid hub
        clear hwu hub
        go_upto_region 16 with (fail)
        rw [HWU.out, ← HUB.out]
        clear y0 y1 y2 y3 y4 HWU HUB
        clear s0 s1 s2 s3 e0 e1 e2 e3 e4 e5 p0 p1 p2 p3 pf
        obtain ⟨s0, s1, s2, s3⟩ := HV.out.st.c0
        obtain ⟨e0, e1, e2, e3, e4, e5⟩ := HV.out.ed.c
        rw [hk.out] at e0
        obtain ⟨p0, p1, p2, p3⟩ := HV.out.out.c0
        have pf := HV.out.out.free
        have u0 : wu.cell? ⟨ub, 0, none⟩ = some (.int .i64 y.file) := by simp only [World.cell?, UA.out]; rfl
        have u1 : wu.cell? ⟨ub, 1, none⟩ = some (.int .i64 y.lev) := by simp only [World.cell?, UA.out]; rfl
        have u2 : wu.cell? ⟨ub, 2, none⟩ = some (.int .i64 y.cnt) := by simp only [World.cell?, UA.out]; rfl
        have u3 : wu.cell? ⟨ub, 3, none⟩ = some (.string (bs y.low)) := by simp only [World.cell?, UA.out]; rfl
        have u4 : wu.cell? ⟨ub, 4, none⟩ = some (.string (bs y.high)) := by simp only [World.cell?, UA.out]; rfl
        have hb1 : Op.bytesLess (bs y.high).toList (bs x.low).toList = ltB y.high x.low := by rw [Lib.toList_data, Lib.toList_data, bs_list, bs_list, ltB_less]
        obtain ⟨pp, qq, j1, j2, j3⟩ := leq_texts y.low x.high
        obtain ⟨t0, t1, t2, t3, t4⟩ := HV.out.tt.c
        by_cases hm : 0 < x.lev ∧ meets x.tab y = true
        · have hmm := hm.2
          unfold meets at hmm
          simp only [Bool.and_eq_true, decide_eq_true_eq, Bool.not_eq_true'] at hmm
          have m1 : y.lev = x.lev := hmm.1.1
          have m2 : ltB y.high x.low = false := hmm.1.2
          have m3 : ltB x.high y.low = false := hmm.2
          rw [m2] at hb1
          rw [m3] at j3
          have hpq2 : (!pp && !qq) = false := by cases pp <;> cases qq <;> simp at j3 ⊢
          have hpq2' : ¬ (pp = false ∧ qq = false) := by cases pp <;> cases qq <;> simp at j3 ⊢
          clear j3
          have q1 : (y.lev == x.lev) = true := by simpa using m1
          have q2 : (0 : Int) < y.lev := by rw [m1]; exact hm.1
          have EZ := Lib.hid (show z = 11 by
            rw [← HZ.out]
            unfold oneE
            rw [if_pos hk.out, if_neg HBT.out, if_neg HNF.out, if_pos ⟨hm.1, by
              have hy : y ∈ s.tabs := by
                have : y ∈ s.tabs.take (i + 1) := by rw [HTK.out]; simp
                exact (List.take_subset _ _) this
              exact List.any_eq_true.2 ⟨y, hy, hm.2⟩⟩])
          clear hm hmm m1 m2 m3
          obtain ⟨r0, r1, r2, r3⟩ := HV.out.rs.c0
          have rf := HV.out.rs.free
          go_wp2
          refine bodyPost_ret (results_st2 rfl _ _ (B + 2) _ _ _ _ _ rfl rfl (HV.out.rs.put _ _ _ _)) rfl ?_
          exact ⟨_, _, _, _, _, _, _, _, _, _, by rw [HZ.out, EZ.out]; rfl, fun hq => absurd (HZ.out.symm.trans hq) (by rw [EZ.out]; decide), by rw [← HB.out]; exact below_put4 HV.out.kp (by omega) _ _ _ _⟩
        · have hME1 := Lib.hid (show ¬ (0 < x.lev ∧ (s.tabs.take (i + 1)).any (meets x.tab) = true) by
            rintro ⟨a1, a2⟩
            rw [HTK.out, List.any_append, Bool.or_eq_true] at a2
            rcases a2 with a2 | a2
            · exact hME.out ⟨a1, a2⟩
            · exact hm ⟨a1, by simpa using a2⟩)
          have hcase : (y.lev == x.lev) = false ∨ ((y.lev == x.lev) = true ∧ y.lev ≤ 0) ∨ ((y.lev == x.lev) = true ∧ 0 < y.lev ∧ ltB y.high x.low = true) ∨ ((y.lev == x.lev) = true ∧ 0 < y.lev ∧ ltB y.high x.low = false ∧ ltB x.high y.low = true) := by
            by_cases a1 : y.lev = x.lev
            · right
              have a1' : (y.lev == x.lev) = true := by simpa using a1
              by_cases a2 : 0 < y.lev
              · right
                cases a3 : ltB y.high x.low with
                | true => exact .inl ⟨a1', a2, rfl⟩
                | false =>
                  right
                  refine ⟨a1', a2, rfl, ?_⟩
                  cases a4 : ltB x.high y.low with
                  | true => rfl
                  | false =>
                    exfalso
                    refine hm ⟨by rw [← a1]; exact a2, ?_⟩
                    unfold meets
                    show (decide (y.lev = x.lev) && !ltB y.high x.low && !ltB x.high y.low) = true
                    rw [a3, a4, decide_eq_true a1]
                    rfl
              · exact .inl ⟨a1', by omega⟩
            · left; simpa using a1
          clear hm
          generalize hA : anyT x.tab (s.tabs.take i) = A
          have HA := Lib.hid hA
          clear hA
          obtain ⟨bl1, hbl1⟩ : ∃ q, q = ltB y.high x.low := ⟨_, rfl⟩
          obtain ⟨bl2, hbl2⟩ : ∃ q, q = ltB x.high y.low := ⟨_, rfl⟩
          rw [← hbl1] at hb1 hcase
          rw [← hbl2] at j3 hcase
          clear hbl1 hbl2
          have HCS := Lib.hid hcase
          clear hcase
          cases A with
          | true =>
            rcases HCS.out with q | ⟨q, q2⟩ | ⟨q, q2, q3⟩ | ⟨q, q2, q3, q4⟩
            case' inr.inr.inl => rw [q3] at hb1
            case' inr.inr.inr => rw [q3] at hb1; rw [q4] at j3; (have hp : pp = false := by cases pp <;> simp at j3 ⊢); (have hq : qq = false := by cases qq <;> simp at j3 ⊢); subst hp hq
            all_goals
              obtain ⟨w4, hw4⟩ : ∃ w4, w4 = wu.alloc (.cells #[.int .i64 y.file, .int .i64 y.lev, .int .i64 y.cnt, .string (bs y.low), .string (bs y.high)] 86) := ⟨_, rfl⟩
              obtain ⟨wp, hwp⟩ : ∃ wp, wp = wu := ⟨_, rfl⟩
              have K4 := Lib.hid (show Below wu.heap.size wu w4 by rw [hw4]; exact (Below.refl _ _).alloc (Nat.le_refl _) _)
              have O4 := Lib.hid (off_below HO.out K4.out)
              have HSR := Lib.hid (show Src Tryz.prog 5 25 (.slice (some ⟨wp.heap.size, 0, none⟩) 1 1) 1 (tcell y) w4 by
                have hb : w4.heap[wp.heap.size]? = some (.cells #[.int .i64 y.file, .int .i64 y.lev, .int .i64 y.cnt, .string (bs y.low), .string (bs y.high)] 86 (0, 0)) := by
                  rw [hw4, ← hwp]
                  exact heap_new wp _
                exact src_block (size := 5) (cs := #[.int .i64 y.file, .int .i64 y.lev, .int .i64 y.cnt, .string (bs y.low), .string (bs y.high)]) Tryz.underlying25 hb 1 1 rfl (tcell_one y))
              have HB4 := Lib.hid (show tb + 1 ≤ w4.heap.size by have := K4.out.size; have := HV.out.lt; omega)
              have HWP := Lib.hid (show wp.heap.size = wu.heap.size by rw [hwp])
              rw [HWP.out] at HSR
              rw [hw4] at O4 HSR HB4
              have HW4 := Lib.hid hw4
              clear hw4 hwp
              go_wp2_with (at_builtin; refine wpList_append_off rfl (.tmp 202) (.tmp 204) 25 rfl (tb + 1) 86 iT _ 5 56 Tryz.underlying25 HIT.out.1 HIT.out.2.1 HIT.out.2.2.1 HIT.out.2.2.2 rfl (.slice a3 NN c3) NN _ rfl O4.out (.slice (some ⟨wu.heap.size, 0, none⟩) 1 1) rfl 1 _ HSR.out ?q3 ?q4 HB4.out ?_)
              case q3 => unfold maxLen; omega
              case q4 => omega
              intro v7 w7 hr7 hg7 hat7
              rw [← HW4.out] at hg7
              have HG7 := Lib.hid hg7
              have O7 := Lib.hid (show OffRow w7 (tb + 1) 86 5 v7 (NN + 1) (flat tcell (LL ++ [y])) by
                rw [flat_append, flat_one]
                exact hr7)
              have V7 := Lib.hid (HV.out.grown K4.out hg7 (fun j hj => by have := (OffRow.lt HO.out j hj).1; omega))
              have V8 := Lib.hid (V7.out.set0 v7)
              have O8 := Lib.hid (off_set (i := 0) (b := B + 3) (u := v7) O7.out (by have := HV.out.lo; omega))
              obtain ⟨a7, cp7, hv7⟩ := OffRow.slice O7.out
              subst hv7
              obtain ⟨c0, c1, c2, c3⟩ := V7.out.out.c0
              have fz := V7.out.out.free 0
              clear hr7 hg7 hat7 O4 HSR
              clear hb1 j1 j2 j3 q t0 t1 t2 t3 t4 u0 u1 u2 u3 u4
              clear s0 s1 s2 s3 e0 e1 e2 e3 e4 e5 p0 p1 p2 p3 pf
              have HNX := Lib.hid (show LL ++ [y] = midT x.tab (s.tabs.take (i + 1)) by rw [HTK.out, HLL.out]; exact (midT_put HA.out).symm)
              have HLN := Lib.hid (show NN + 1 = (midT x.tab (s.tabs.take (i + 1))).length by rw [← HNX.out]; simp only [List.length_append, List.length_cons, List.length_nil]; rw [← HNN.out])
              have HPU := Lib.hid (show anyT x.tab (s.tabs.take (i + 1)) = true by rw [HTK.out, anyT_app, HA.out]; rfl)
              rw [HNX.out] at O8
              go_wp2_with fail
              clear c0 c1 c2 c3 fz
              go_roundw
              case rel => exact ⟨i + 1, _, NN + 1, hlt, rfl, by rw [HPU.out], by go_num, V8, HLN, O8, hME1⟩
              case measure => simp [intOf]; omega
          | false =>
            have HTL0 := Lib.hid (ref_before x.tab y wu)
            generalize hTL : tlt x.tab y = tl at HTL0
            have HTL := Lib.hid hTL
            clear hTL
            rcases HCS.out with q | ⟨q, q2⟩ | ⟨q, q2, q3⟩ | ⟨q, q2, q3, q4⟩
            case' inr.inr.inl => rw [q3] at hb1
            case' inr.inr.inr => rw [q3] at hb1; rw [q4] at j3; (have hp : pp = false := by cases pp <;> simp at j3 ⊢); (have hq : qq = false := by cases qq <;> simp at j3 ⊢); subst hp hq
            all_goals
              go_wp2_with fail
              refine HTL0.out.mono ?_
              rintro e wv ⟨rfl, kv⟩
              replace HV := Lib.hid (HV.out.below kv)
              replace HO := Lib.hid (off_below HO.out kv)
              replace UA := Lib.hid ((kv.block ub (heap_lt UA.out)).trans UA.out)
              have KV := Lib.hid kv
              clear kv hb1 j1 j2 j3 q t0 t1 t2 t3 t4 u0 u1 u2 u3 u4
              clear s0 s1 s2 s3 e0 e1 e2 e3 e4 e5 p0 p1 p2 p3 pf
              obtain ⟨s0, s1, s2, s3⟩ := HV.out.st.c0
              obtain ⟨e0, e1, e2, e3, e4, e5⟩ := HV.out.ed.c
              rw [hk.out] at e0
              obtain ⟨p0, p1, p2, p3⟩ := HV.out.out.c0
              have pf := HV.out.out.free
              obtain ⟨t0, t1, t2, t3, t4⟩ := HV.out.tt.c
              have u0 : wv.cell? ⟨ub, 0, none⟩ = some (.int .i64 y.file) := by simp only [World.cell?, UA.out]; rfl
              have u1 : wv.cell? ⟨ub, 1, none⟩ = some (.int .i64 y.lev) := by simp only [World.cell?, UA.out]; rfl
              have u2 : wv.cell? ⟨ub, 2, none⟩ = some (.int .i64 y.cnt) := by simp only [World.cell?, UA.out]; rfl
              have u3 : wv.cell? ⟨ub, 3, none⟩ = some (.string (bs y.low)) := by simp only [World.cell?, UA.out]; rfl
              have u4 : wv.cell? ⟨ub, 4, none⟩ = some (.string (bs y.high)) := by simp only [World.cell?, UA.out]; rfl
              cases tl with
              | true =>
                obtain ⟨w4, hw4⟩ : ∃ w4, w4 = wv.alloc (.cells #[.int .i64 x.file, .int .i64 x.lev, .int .i64 x.cnt, .string (bs x.low), .string (bs x.high)] 86) := ⟨_, rfl⟩
                obtain ⟨wp, hwp⟩ : ∃ wp, wp = wv := ⟨_, rfl⟩
                have K4 := Lib.hid (show Below wv.heap.size wv w4 by rw [hw4]; exact (Below.refl _ _).alloc (Nat.le_refl _) _)
                have O4 := Lib.hid (off_below HO.out K4.out)
                have HSR := Lib.hid (show Src Tryz.prog 5 25 (.slice (some ⟨wp.heap.size, 0, none⟩) 1 1) 1 (tcell x.tab) w4 by
                  have hb : w4.heap[wp.heap.size]? = some (.cells #[.int .i64 x.file, .int .i64 x.lev, .int .i64 x.cnt, .string (bs x.low), .string (bs x.high)] 86 (0, 0)) := by
                    rw [hw4, ← hwp]
                    exact heap_new wp _
                  exact src_block (size := 5) (cs := #[.int .i64 x.file, .int .i64 x.lev, .int .i64 x.cnt, .string (bs x.low), .string (bs x.high)]) Tryz.underlying25 hb 1 1 rfl (tcell_one x.tab))
                have HB4 := Lib.hid (show tb + 1 ≤ w4.heap.size by have := K4.out.size; have := HV.out.lt; omega)
                have HWP := Lib.hid (show wp.heap.size = wv.heap.size by rw [hwp])
                rw [HWP.out] at HSR
                rw [hw4] at O4 HSR HB4
                have HW4 := Lib.hid hw4
                clear hw4 hwp
                go_wp2_with (at_builtin; refine wpList_append_off rfl (.tmp 196) (.tmp 198) 25 rfl (tb + 1) 86 iT _ 5 56 Tryz.underlying25 HIT.out.1 HIT.out.2.1 HIT.out.2.2.1 HIT.out.2.2.2 rfl (.slice a3 NN c3) NN _ rfl O4.out (.slice (some ⟨wv.heap.size, 0, none⟩) 1 1) rfl 1 _ HSR.out ?q3 ?q4 HB4.out ?_)
                case q3 => unfold maxLen; omega
                case q4 => omega
                intro v7 w7 hr7 hg7 hat7
                rw [← HW4.out] at hg7
                have HG7 := Lib.hid hg7
                have O7 := Lib.hid (show OffRow w7 (tb + 1) 86 5 v7 (NN + 1) (flat tcell (LL ++ [x.tab])) by
                  rw [flat_append, flat_one]
                  exact hr7)
                have V7 := Lib.hid (HV.out.grown K4.out hg7 (fun j hj => by have := (OffRow.lt HO.out j hj).1; omega))
                have V8 := Lib.hid (V7.out.set0 v7)
                have O8 := Lib.hid (off_set (i := 0) (b := B + 3) (u := v7) O7.out (by have := HV.out.lo; omega))
                obtain ⟨a7, cp7, hv7⟩ := OffRow.slice O7.out
                subst hv7
                obtain ⟨c0, c1, c2, c3⟩ := V7.out.out.c0
                have fz := V7.out.out.free 0
                clear hr7 hg7 hat7 O4 HSR
                obtain ⟨w8, hw8⟩ : ∃ w8, w8 = w7.setCell ⟨B + 3, 0, none⟩ (.slice a7 (NN + 1) cp7) := ⟨_, rfl⟩
                rw [← hw8] at V8 O8
                have HW8 := Lib.hid hw8
                clear hw8
                have KW := Lib.hid (show w8.heap[ub]? = some (.cells #[.int .i64 y.file, .int .i64 y.lev, .int .i64 y.cnt, .string (bs y.low), .string (bs y.high)] 86 (0, 0)) by
                  rw [HW8.out, heap_set_other (by have := HUBT.out; have := HV.out.lo; omega)]
                  rw [HG7.out.block ub (by have := K4.out.size; have := heap_lt UA.out; omega) (fun e => by have := HRB.out ub e.symm; omega), K4.out.block ub (heap_lt UA.out)]
                  exact UA.out)
                go_upto_region 22 with (fail)
                rw [← HW8.out]
                clear c0 c1 c2 c3 fz HW8
                clear t0 t1 t2 t3 t4 u0 u1 u2 u3 u4
                clear s0 s1 s2 s3 e0 e1 e2 e3 e4 e5 p0 p1 p2 p3 pf
                replace HV := V8
                replace HO := O8
                replace UA := KW
                clear V8 O8 V7 O7 KW
                obtain ⟨s0, s1, s2, s3⟩ := HV.out.st.c0
                obtain ⟨e0, e1, e2, e3, e4, e5⟩ := HV.out.ed.c
                rw [hk.out] at e0
                obtain ⟨p0, p1, p2, p3⟩ := HV.out.out.c0
                have pf := HV.out.out.free
                have u0 : w8.cell? ⟨ub, 0, none⟩ = some (.int .i64 y.file) := by simp only [World.cell?, UA.out]; rfl
                have u1 : w8.cell? ⟨ub, 1, none⟩ = some (.int .i64 y.lev) := by simp only [World.cell?, UA.out]; rfl
                have u2 : w8.cell? ⟨ub, 2, none⟩ = some (.int .i64 y.cnt) := by simp only [World.cell?, UA.out]; rfl
                have u3 : w8.cell? ⟨ub, 3, none⟩ = some (.string (bs y.low)) := by simp only [World.cell?, UA.out]; rfl
                have u4 : w8.cell? ⟨ub, 4, none⟩ = some (.string (bs y.high)) := by simp only [World.cell?, UA.out]; rfl
                obtain ⟨w4b, hw4b⟩ : ∃ w4b, w4b = w8.alloc (.cells #[.int .i64 y.file, .int .i64 y.lev, .int .i64 y.cnt, .string (bs y.low), .string (bs y.high)] 86) := ⟨_, rfl⟩
                obtain ⟨wpb, hwpb⟩ : ∃ wpb, wpb = w8 := ⟨_, rfl⟩
                have K4b := Lib.hid (show Below w8.heap.size w8 w4b by rw [hw4b]; exact (Below.refl _ _).alloc (Nat.le_refl _) _)
                have O4b := Lib.hid (off_below HO.out K4b.out)
                have HSRb := Lib.hid (show Src Tryz.prog 5 25 (.slice (some ⟨wpb.heap.size, 0, none⟩) 1 1) 1 (tcell y) w4b by
                  have hb : w4b.heap[wpb.heap.size]? = some (.cells #[.int .i64 y.file, .int .i64 y.lev, .int .i64 y.cnt, .string (bs y.low), .string (bs y.high)] 86 (0, 0)) := by
                    rw [hw4b, ← hwpb]
                    exact heap_new wpb _
                  exact src_block (size := 5) (cs := #[.int .i64 y.file, .int .i64 y.lev, .int .i64 y.cnt, .string (bs y.low), .string (bs y.high)]) Tryz.underlying25 hb 1 1 rfl (tcell_one y))
                have HB4b := Lib.hid (show tb + 1 ≤ w4b.heap.size by have := K4b.out.size; have := HV.out.lt; omega)
                have HWPb := Lib.hid (show wpb.heap.size = w8.heap.size by rw [hwpb])
                rw [HWPb.out] at HSRb
                rw [hw4b] at O4b HSRb HB4b
                have HW4b := Lib.hid hw4b
                clear hw4b hwpb
                go_wp2_with (at_builtin; refine wpList_append_off rfl (.tmp 202) (.tmp 204) 25 rfl (tb + 1) 86 iT _ 5 56 Tryz.underlying25 HIT.out.1 HIT.out.2.1 HIT.out.2.2.1 HIT.out.2.2.2 rfl (.slice a7 (NN + 1) cp7) (NN + 1) _ rfl O4b.out (.slice (some ⟨w8.heap.size, 0, none⟩) 1 1) rfl 1 _ HSRb.out ?q3 ?q4 HB4b.out ?_)
                case q3 => unfold maxLen; omega
                case q4 => omega
                intro v7b w7b hr7b hg7b hat7b
                rw [← HW4b.out] at hg7b
                have HG7b := Lib.hid hg7b
                have O7b := Lib.hid (show OffRow w7b (tb + 1) 86 5 v7b ((NN + 1) + 1) (flat tcell ((LL ++ [x.tab]) ++ [y])) by
                  rw [flat_append, flat_one]
                  exact hr7b)
                have V7b := Lib.hid (HV.out.grown K4b.out hg7b (fun j hj => by have := (OffRow.lt HO.out j hj).1; omega))
                have V8b := Lib.hid (V7b.out.set0 v7b)
                have O8b := Lib.hid (off_set (i := 0) (b := B + 3) (u := v7b) O7b.out (by have := HV.out.lo; omega))
                obtain ⟨a7b, cp7b, hv7b⟩ := OffRow.slice O7b.out
                subst hv7b
                obtain ⟨c0b, c1b, c2b, c3b⟩ := V7b.out.out.c0
                have fzb := V7b.out.out.free 0
                clear hr7b hg7b hat7b O4b HSRb
                clear u0 u1 u2 u3 u4
                clear s0 s1 s2 s3 e0 e1 e2 e3 e4 e5 p0 p1 p2 p3 pf
                have HNX := Lib.hid (show LL ++ [x.tab] ++ [y] = midT x.tab (s.tabs.take (i + 1)) by rw [HTK.out, HLL.out]; exact (midT_here HA.out HTL.out).symm)
                have HLN := Lib.hid (show NN + 1 + 1 = (midT x.tab (s.tabs.take (i + 1))).length by rw [← HNX.out]; simp only [List.length_append, List.length_cons, List.length_nil]; rw [← HNN.out])
                have HPU := Lib.hid (show anyT x.tab (s.tabs.take (i + 1)) = true by rw [HTK.out, anyT_app, HA.out]; rw [HTL.out]; rfl)
                rw [HNX.out] at O8b
                go_wp2_with fail
                clear c0b c1b c2b c3b fzb
                go_roundw
                case rel => exact ⟨i + 1, _, NN + 1 + 1, hlt, rfl, by rw [HPU.out], by go_num, V8b, HLN, O8b, hME1⟩
                case measure => simp [intOf]; omega
              | false =>
                obtain ⟨w4, hw4⟩ : ∃ w4, w4 = wv.alloc (.cells #[.int .i64 y.file, .int .i64 y.lev, .int .i64 y.cnt, .string (bs y.low), .string (bs y.high)] 86) := ⟨_, rfl⟩
                obtain ⟨wp, hwp⟩ : ∃ wp, wp = wv := ⟨_, rfl⟩
                have K4 := Lib.hid (show Below wv.heap.size wv w4 by rw [hw4]; exact (Below.refl _ _).alloc (Nat.le_refl _) _)
                have O4 := Lib.hid (off_below HO.out K4.out)
                have HSR := Lib.hid (show Src Tryz.prog 5 25 (.slice (some ⟨wp.heap.size, 0, none⟩) 1 1) 1 (tcell y) w4 by
                  have hb : w4.heap[wp.heap.size]? = some (.cells #[.int .i64 y.file, .int .i64 y.lev, .int .i64 y.cnt, .string (bs y.low), .string (bs y.high)] 86 (0, 0)) := by
                    rw [hw4, ← hwp]
                    exact heap_new wp _
                  exact src_block (size := 5) (cs := #[.int .i64 y.file, .int .i64 y.lev, .int .i64 y.cnt, .string (bs y.low), .string (bs y.high)]) Tryz.underlying25 hb 1 1 rfl (tcell_one y))
                have HB4 := Lib.hid (show tb + 1 ≤ w4.heap.size by have := K4.out.size; have := HV.out.lt; omega)
                have HWP := Lib.hid (show wp.heap.size = wv.heap.size by rw [hwp])
                rw [HWP.out] at HSR
                rw [hw4] at O4 HSR HB4
                have HW4 := Lib.hid hw4
                clear hw4 hwp
                go_wp2_with (at_builtin; refine wpList_append_off rfl (.tmp 202) (.tmp 204) 25 rfl (tb + 1) 86 iT _ 5 56 Tryz.underlying25 HIT.out.1 HIT.out.2.1 HIT.out.2.2.1 HIT.out.2.2.2 rfl (.slice a3 NN c3) NN _ rfl O4.out (.slice (some ⟨wv.heap.size, 0, none⟩) 1 1) rfl 1 _ HSR.out ?q3 ?q4 HB4.out ?_)
                case q3 => unfold maxLen; omega
                case q4 => omega
                intro v7 w7 hr7 hg7 hat7
                rw [← HW4.out] at hg7
                have HG7 := Lib.hid hg7
                have O7 := Lib.hid (show OffRow w7 (tb + 1) 86 5 v7 (NN + 1) (flat tcell (LL ++ [y])) by
                  rw [flat_append, flat_one]
                  exact hr7)
                have V7 := Lib.hid (HV.out.grown K4.out hg7 (fun j hj => by have := (OffRow.lt HO.out j hj).1; omega))
                have V8 := Lib.hid (V7.out.set0 v7)
                have O8 := Lib.hid (off_set (i := 0) (b := B + 3) (u := v7) O7.out (by have := HV.out.lo; omega))
                obtain ⟨a7, cp7, hv7⟩ := OffRow.slice O7.out
                subst hv7
                obtain ⟨c0, c1, c2, c3⟩ := V7.out.out.c0
                have fz := V7.out.out.free 0
                clear hr7 hg7 hat7 O4 HSR
                clear t0 t1 t2 t3 t4 u0 u1 u2 u3 u4
                clear s0 s1 s2 s3 e0 e1 e2 e3 e4 e5 p0 p1 p2 p3 pf
                have HNX := Lib.hid (show LL ++ [y] = midT x.tab (s.tabs.take (i + 1)) by rw [HTK.out, HLL.out]; exact (midT_on HA.out HTL.out).symm)
                have HLN := Lib.hid (show NN + 1 = (midT x.tab (s.tabs.take (i + 1))).length by rw [← HNX.out]; simp only [List.length_append, List.length_cons, List.length_nil]; rw [← HNN.out])
                have HPU := Lib.hid (show anyT x.tab (s.tabs.take (i + 1)) = false by rw [HTK.out, anyT_app, HA.out]; rw [HTL.out]; rfl)
                rw [HNX.out] at O8
                go_wp2_with fail
                clear c0 c1 c2 c3 fz
                go_roundw
                case rel => exact ⟨i + 1, _, NN + 1, hlt, rfl, by rw [HPU.out], by go_num, V8, HLN, O8, hME1⟩
                case measure => simp [intOf]; omega
      · have hge : (nt : Int) ≤ (i : Int) := by omega
        have hin : s.tabs.take i = s.tabs := List.take_of_length_le (by have := HN.out.1; omega)
        obtain ⟨t0, t1, t2, t3, t4⟩ := HV.out.tt.c
        have HMA := Lib.hid (show ¬ (0 < x.lev ∧ s.tabs.any (meets x.tab) = true) by have := hME.out; rwa [hin] at this)
        have hLL2 : LL = midT x.tab s.tabs := by rw [HLL.out, hin]
        rw [hin]
        generalize hA : anyT x.tab s.tabs = A
        have HA := Lib.hid hA
        have HLL2 := Lib.hid hLL2
        clear hA hLL2 hin HLL
        cases A with
        | true =>
          have HO0 := Lib.hid (show OffRow wr (tb + 1) 86 5 (.slice a3 NN c3) (insT x.tab s.tabs).length (flat tcell (insT x.tab s.tabs)) by
            have e : insT x.tab s.tabs = LL := by rw [midT_end (t := x.tab) (P := s.tabs), if_pos HA.out, HLL2.out]
            rw [e, ← HNN.out]
            exact HO.out)
          obtain ⟨ov0, hov0⟩ : ∃ v : Value, v = .slice a3 NN c3 := ⟨_, rfl⟩
          rw [← hov0] at HO0 HV p0
          clear hov0 HO HNN hN9
          clear t0 t1 t2 t3 t4
          go_wp2_with fail
          clear s0 s1 s2 s3 e0 e1 e2 e3 e4 e5 p0 p1 p2 p3 pf
          clear hge hlt hi
          go_loopw [8, 10, 13] (fun fv pv iv wr => ∃ (i : Nat) (o1 : Value) (NN : Nat), i ≤ ns ∧ fv = .bool (true) ∧ pv = .bool (true) ∧ iv = .int .i64 (i : Int) ∧ Hid (OneV B tb w (.slice ta nt tc) (.slice sa ns sc) (.slice la nl lc) nx x ov0 o1 (.slice none 0 0) wr) ∧ Hid (NN = (s.stos.take i).length) ∧ Hid (OffRow wr (tb + 1) 88 2 o1 NN (flat socell (s.stos.take i))) ∧ Hid (OffRow wr (tb + 1) 86 5 ov0 (insT x.tab s.tabs).length (flat tcell (insT x.tab s.tabs)))) (fun fv pv iv wr => ns - (intOf iv).toNat)
          case atStart => exact ⟨0, _, 0, Nat.zero_le _, rfl, rfl, rfl, HV, Lib.hid rfl, Lib.hid (OffRow.nil _ _ _ _), HO0⟩
          clear HV HO0
          case round =>
            obtain ⟨i, o1, NN, hi, rfl, rfl, rfl, HV, HNN, HO, HO0⟩ := hrel
            obtain ⟨LL, hLL⟩ : ∃ LL, LL = s.stos.take i := ⟨_, rfl⟩
            rw [← hLL] at HNN HO
            have HLL := Lib.hid hLL
            have hN9 : NN ≤ 900000000 := by
              rw [HNN.out, hLL]
              skip
              rw [List.length_take] at ⊢
              have := HN.out.2.1
              omega
            obtain ⟨a3, c3, rfl⟩ := OffRow.slice HO.out
            clear hLL
            obtain ⟨s0, s1, s2, s3⟩ := HV.out.st.c0
            obtain ⟨e0, e1, e2, e3, e4, e5⟩ := HV.out.ed.c
            rw [hk.out] at e0
            obtain ⟨p0, p1, p2, p3⟩ := HV.out.out.c0
            have pf := HV.out.out.free
            by_cases hlt : i < ns
            · have hlt' : (i : Int) < (ns : Int) := by omega
              obtain ⟨y, hy⟩ : ∃ y, s.stos[i]? = some y := ⟨_, List.getElem?_eq_getElem (by have := HN.out.2.1; omega)⟩
              obtain ⟨yb, yo, rfl, _, hb2, hc⟩ := RdL.atS HS.out hy hlt
              have hcr : ∀ i' u, (socell y)[i']? = some u → wr.cell? ⟨yb, yo + i * 2 + i', none⟩ = some u := fun i' u hu => by
                rw [← hc i' u hu]
                simp only [World.cell?, HV.out.kp.block yb (by rw [HB.out]; exact hb2)]
              have y0 : wr.cell? ⟨yb, yo + i * 2, none⟩ = _ := hcr 0 _ rfl
              have y1 := hcr 1 _ rfl
              have HTK := Lib.hid (show s.stos.take (i + 1) = s.stos.take i ++ [y] by rw [List.take_add_one, hy]; rfl)
              clear hc hcr hy
              obtain ⟨wu, hwu⟩ : ∃ wu, wr.alloc (.cells #[.int .i64 y.file, .int .i64 y.tier] 88) = wu := ⟨_, rfl⟩
              obtain ⟨ub, hub⟩ : ∃ ub, ub = wr.heap.size := ⟨_, rfl⟩
              have KU := Lib.hid (show Below wr.heap.size wr wu by rw [← hwu]; exact (Below.refl _ _).alloc (Nat.le_refl _) _)
              have UA := Lib.hid (show wu.heap[ub]? = some (.cells #[.int .i64 y.file, .int .i64 y.tier] 88 (0, 0)) by rw [← hwu, hub]; exact heap_new wr _)
              have HRB := Lib.hid (show ∀ j, (Value.slice a3 NN c3).ownBlock = some j → j < ub from fun j hj => by rw [hub]; exact (OffRow.lt HO.out j hj).2)
              have HUBT := Lib.hid (show tb < ub by rw [hub]; exact HV.out.lt)
              replace HV := Lib.hid (HV.out.below KU.out)
              replace HO := Lib.hid (off_below HO.out KU.out)
              replace HO0 := Lib.hid (off_below HO0.out KU.out)
              have HWU := Lib.hid hwu
              have HUB := Lib.hid hub
              clear hwu hub
              go_upto_region 31 with (fail)
              rw [HWU.out, ← HUB.out]
              clear y0 y1 HWU HUB
              clear s0 s1 s2 s3 e0 e1 e2 e3 e4 e5 p0 p1 p2 p3 pf
              obtain ⟨s0, s1, s2, s3⟩ := HV.out.st.c0
              obtain ⟨e0, e1, e2, e3, e4, e5⟩ := HV.out.ed.c
              rw [hk.out] at e0
              obtain ⟨p0, p1, p2, p3⟩ := HV.out.out.c0
              have pf := HV.out.out.free
              have u0 : wu.cell? ⟨ub, 0, none⟩ = some (.int .i64 y.file) := by simp only [World.cell?, UA.out]; rfl
              have u1 : wu.cell? ⟨ub, 1, none⟩ = some (.int .i64 y.tier) := by simp only [World.cell?, UA.out]; rfl
              obtain ⟨w4, hw4⟩ : ∃ w4, w4 = wu.alloc (.cells #[.int .i64 y.file, .int .i64 y.tier] 88) := ⟨_, rfl⟩
              obtain ⟨wp, hwp⟩ : ∃ wp, wp = wu := ⟨_, rfl⟩
              have K4 := Lib.hid (show Below wu.heap.size wu w4 by rw [hw4]; exact (Below.refl _ _).alloc (Nat.le_refl _) _)
              have O4 := Lib.hid (off_below HO.out K4.out)
              have HSR := Lib.hid (show Src Tryz.prog 2 26 (.slice (some ⟨wp.heap.size, 0, none⟩) 1 1) 1 (socell y) w4 by
                have hb : w4.heap[wp.heap.size]? = some (.cells #[.int .i64 y.file, .int .i64 y.tier] 88 (0, 0)) := by
                  rw [hw4, ← hwp]
                  exact heap_new wp _
                exact src_block (size := 2) (cs := #[.int .i64 y.file, .int .i64 y.tier]) Tryz.underlying26 hb 1 1 rfl (socell_one y))
              have HB4 := Lib.hid (show tb + 1 ≤ w4.heap.size by have := K4.out.size; have := HV.out.lt; omega)
              have HWP := Lib.hid (show wp.heap.size = wu.heap.size by rw [hwp])
              rw [HWP.out] at HSR
              rw [hw4] at O4 HSR HB4
              have HW4 := Lib.hid hw4
              clear hw4 hwp
              go_wp2_with (at_builtin; refine wpList_append_off rfl (.tmp 260) (.tmp 262) 26 rfl (tb + 1) 88 iS _ 2 16 Tryz.underlying26 HIS.out.1 HIS.out.2.1 HIS.out.2.2.1 HIS.out.2.2.2 rfl (.slice a3 NN c3) NN _ rfl O4.out (.slice (some ⟨wu.heap.size, 0, none⟩) 1 1) rfl 1 _ HSR.out ?q3 ?q4 HB4.out ?_)
              case q3 => unfold maxLen; omega
              case q4 => omega
              intro v7 w7 hr7 hg7 hat7
              rw [← HW4.out] at hg7
              have HG7 := Lib.hid hg7
              have O7 := Lib.hid (show OffRow w7 (tb + 1) 88 2 v7 (NN + 1) (flat socell (LL ++ [y])) by
                rw [flat_append, flat_one]
                exact hr7)
              have V7 := Lib.hid (HV.out.grown K4.out hg7 (fun j hj => by have := (OffRow.lt HO.out j hj).1; omega))
              have HO07 := Lib.hid (off_other HO0.out HO.out (by decide) K4.out hg7)
              have V8 := Lib.hid (V7.out.set1 v7)
              have O8 := Lib.hid (off_set (i := 1) (b := B + 3) (u := v7) O7.out (by have := HV.out.lo; omega))
              have HO08 := Lib.hid (off_set (i := 1) (b := B + 3) (u := v7) HO07.out (by have := HV.out.lo; omega))
              obtain ⟨a7, cp7, hv7⟩ := OffRow.slice O7.out
              subst hv7
              obtain ⟨c0, c1, c2, c3⟩ := V7.out.out.c0
              have fz := V7.out.out.free 1
              clear hr7 hg7 hat7 O4 HSR
              have HNX := Lib.hid (show LL ++ [y] = s.stos.take (i + 1) by rw [HTK.out, HLL.out])
              have HLN := Lib.hid (show NN + 1 = (s.stos.take (i + 1)).length by rw [← HNX.out, List.length_append, ← HNN.out]; rfl)
              rw [HNX.out] at O8
              clear u0 u1
              clear s0 s1 s2 s3 e0 e1 e2 e3 e4 e5 p0 p1 p2 p3 pf
              go_wp2_with fail
              clear c0 c1 c2 c3 fz
              go_roundw
              case rel => exact ⟨i + 1, _, NN + 1, hlt, rfl, rfl, by go_num, V8, HLN, O8, HO08⟩
              case measure => simp [intOf]; omega
            · have hge : (ns : Int) ≤ (i : Int) := by omega
              have hin : s.stos.take i = s.stos := List.take_of_length_le (by have := HN.out.2.1; omega)
              have HO1 := Lib.hid (show OffRow wr (tb + 1) 88 2 (.slice a3 NN c3) (s.stos).length (flat socell (s.stos)) by
                have e2 : LL = s.stos := by rw [HLL.out, hin]
                rw [← e2, ← HNN.out]
                exact HO.out)
              obtain ⟨ov1, hov1⟩ : ∃ v : Value, v = .slice a3 NN c3 := ⟨_, rfl⟩
              rw [← hov1] at HO1 HV p1
              clear hov1 HO HNN hN9 hin
              go_wp2_with fail
              clear s0 s1 s2 s3 e0 e1 e2 e3 e4 e5 p0 p1 p2 p3 pf
              clear hge hlt hi
              go_loopw [8, 15] (fun fv iv wr => ∃ (i : Nat) (o2 : Value) (NN : Nat), i ≤ nl ∧ fv = .bool (true) ∧ iv = .int .i64 (i : Int) ∧ Hid (OneV B tb w (.slice ta nt tc) (.slice sa ns sc) (.slice la nl lc) nx x ov0 ov1 o2 wr) ∧ Hid (NN = (s.logs.take i).length) ∧ Hid (OffRow wr (tb + 1) 3 1 o2 NN (flat icell (s.logs.take i))) ∧ Hid (OffRow wr (tb + 1) 86 5 ov0 (insT x.tab s.tabs).length (flat tcell (insT x.tab s.tabs))) ∧ Hid (OffRow wr (tb + 1) 88 2 ov1 (s.stos).length (flat socell (s.stos)))) (fun fv iv wr => nl - (intOf iv).toNat)
              case atStart => exact ⟨0, _, 0, Nat.zero_le _, rfl, rfl, HV, Lib.hid rfl, Lib.hid (OffRow.nil _ _ _ _), HO0, HO1⟩
              clear HV HO0 HO1
              case round =>
                obtain ⟨i, o2, NN, hi, rfl, rfl, HV, HNN, HO, HO0, HO1⟩ := hrel
                obtain ⟨LL, hLL⟩ : ∃ LL, LL = s.logs.take i := ⟨_, rfl⟩
                rw [← hLL] at HNN HO
                have HLL := Lib.hid hLL
                have hN9 : NN ≤ 900000000 := by
                  rw [HNN.out, hLL]
                  skip
                  rw [List.length_take] at ⊢
                  have := HN.out.2.2.1
                  omega
                obtain ⟨a3, c3, rfl⟩ := OffRow.slice HO.out
                clear hLL
                obtain ⟨s0, s1, s2, s3⟩ := HV.out.st.c0
                obtain ⟨e0, e1, e2, e3, e4, e5⟩ := HV.out.ed.c
                rw [hk.out] at e0
                obtain ⟨p0, p1, p2, p3⟩ := HV.out.out.c0
                have pf := HV.out.out.free
                by_cases hlt : i < nl
                · have hlt' : (i : Int) < (nl : Int) := by omega
                  obtain ⟨y, hy⟩ : ∃ y, s.logs[i]? = some y := ⟨_, List.getElem?_eq_getElem (by have := HN.out.2.2.1; omega)⟩
                  obtain ⟨yb, yo, rfl, _, hb2, hc⟩ := RdL.atI HL.out hy hlt
                  have y0 : wr.cell? ⟨yb, yo + i, none⟩ = some (.int .i64 y) := by
                    have := hc 0 _ rfl
                    simp only [Nat.mul_one, Nat.add_zero] at this
                    rw [← this]
                    simp only [World.cell?, HV.out.kp.block yb (by rw [HB.out]; exact hb2)]
                  have HYB := Lib.hid (show yb < B from by rw [HB.out]; exact hb2)
                  have HTK := Lib.hid (show s.logs.take (i + 1) = s.logs.take i ++ [y] by rw [List.take_add_one, hy]; rfl)
                  clear hc hy
                  go_upto_region 42 with (fail)
                  go_quiet (fail)
                  go_upto_region 44 with (fail)
                  obtain ⟨wa, hwa⟩ : ∃ wa, wa = wr.drewN nq := ⟨_, rfl⟩
                  have KA := Lib.hid (show Below wr.heap.size wr wa.drew by rw [hwa]; exact (below_drewN (Below.refl _ _) _).drew)
                  rw [← hwa]
                  clear s0 s1 s2 s3 e0 e1 e2 e3 e4 e5 p0 p1 p2 p3 pf
                  clear hwa
                  refine wp_region_any (by kernel_rfl) ?_
                  change wpAny _ _ _ _ _ _ _ wa.drew
                  obtain ⟨wb, hwb⟩ : ∃ wb, wb = wa.drew := ⟨_, rfl⟩
                  rw [← hwb] at KA ⊢
                  clear hwb
                  replace HV := Lib.hid (HV.out.below KA.out)
                  replace HO := Lib.hid (off_below HO.out KA.out)
                  replace HO0 := Lib.hid (off_below HO0.out KA.out)
                  replace HO1 := Lib.hid (off_below HO1.out KA.out)
                  have HY0 := Lib.hid (show wb.cell? ⟨yb, yo + i, none⟩ = some (.int .i64 y) by rw [← y0]; simp only [World.cell?]; rw [KA.out.block yb (by have := HYB.out; have := HV.out.kp.size; have := HB.out; have := HV.out.lt; have := HV.out.lo; first | omega | exact cell_block y0)])
                  clear y0 KA
                  refine any_take (i := 0) (d := 297) (v := (.pointer (some ⟨B + 3, 2, none⟩))) rfl rfl (by kernel_rfl) (by kernel_rfl) (by kernel_rfl) (fun _ _ _ h => h) (Or.inl ⟨by rfl, ?_⟩) ?_
                  · intro w'; go_simp
                  try go_frame
                  refine any_take (i := 2) (d := 299) (v := (.pointer (some ⟨B, 2, none⟩))) rfl rfl (by kernel_rfl) (by kernel_rfl) (by kernel_rfl) (fun _ _ _ h => h) (Or.inl ⟨by rfl, ?_⟩) ?_
                  · intro w'; go_simp
                  try go_frame
                  refine any_take (i := 4) (d := 301) (v := (.int .i64 (i : Int))) rfl rfl (by kernel_rfl) (by kernel_rfl) (by kernel_rfl) (fun _ _ _ h => h) (Or.inl ⟨by rfl, ?_⟩) ?_
                  · intro w'; go_simp
                  try go_frame
                  refine wpAny_late (i := 1) (d := 298) (v := .slice a3 NN c3) (fun W => Below wb.heap.size wb W) (fun j => j == 8 || j == 9 || j == 10) rfl rfl (by kernel_rfl) (by kernel_rfl) (by kernel_rfl) (by kernel_rfl) (fun _ _ _ h => h) (Or.inl ⟨by rfl, ?_⟩) (Below.refl _ _) ?_
                  · intro w' hw'
                    obtain ⟨_, _, q2, _⟩ := (HV.out.below hw').out.c0
                    go_simp
                  try go_frame
                  refine wpAnyE_ready (rs := [3]) (by kernel_rfl) (by simp) (AllE.cons rfl (fun K hK => ?_) AllE.nil)
                  obtain ⟨_, _, q2, _⟩ := HV.out.st.c0
                  go_simp
                  refine hK.out _ _ (fun _ => Below.refl _ _) (fun _ => ?_)
                  clear hK K q2
                  try go_frame
                  refine wpAnyE_ready (rs := [5]) (by kernel_rfl) (by simp) (AllE.cons rfl (fun K hK => ?_) AllE.nil)
                  go_simp
                  refine hK.out _ _ (fun _ => Below.refl _ _) (fun _ => ?_)
                  clear hK K
                  try go_frame
                  refine wpAnyE_ready (rs := [6]) (by kernel_rfl) (by simp) (AllE.cons rfl (fun K hK => ?_) AllE.nil)
                  have y0 := HY0.out
                  go_simp
                  refine hK.out _ _ (fun _ => Below.refl _ _) (fun _ => ?_)
                  clear hK K y0
                  try go_frame
                  refine wpAnyE_ready (rs := [7]) (by kernel_rfl) (by simp) (AllE.cons rfl (fun K hK => ?_) AllE.nil)
                  go_simp
                  obtain ⟨w4, hw4⟩ : ∃ w4, w4 = wb.alloc (.cells #[.int .i64 y] 3) := ⟨_, rfl⟩
                  have K4 := Lib.hid (show Below wb.heap.size wb w4 by rw [hw4]; exact (Below.refl _ _).alloc (Nat.le_refl _) _)
                  have O4 := Lib.hid (off_below HO.out K4.out)
                  have HSR := Lib.hid (show Src Tryz.prog 1 27 (.slice (some ⟨wb.heap.size, 0, none⟩) 1 1) 1 (icell y) w4 by
                    have hb : w4.heap[wb.heap.size]? = some (.cells #[.int .i64 y] 3 (0, 0)) := by
                      rw [hw4]
                      exact heap_new wb _
                    exact src_block (size := 1) (cs := #[.int .i64 y]) Tryz.underlying27 hb 1 1 rfl (icell_one y))
                  have HB4 := Lib.hid (show tb + 1 ≤ w4.heap.size by have := K4.out.size; have := HV.out.lt; omega)
                  rw [← hw4]
                  refine hK.out _ _ (fun _ => K4.out) (fun _ => ?_)
                  clear hK K hw4
                  try go_frame
                  refine wpAnyE_ready (rs := [8]) (by kernel_rfl) (by simp) (AllE.cons rfl (fun K hK => ?_) AllE.nil)
                  rw [if_pos (by rfl)]
                  refine wp_append_off (.tmp 298) (.tmp 304) 27 rfl (tb + 1) 3 iI _ 1 8 Tryz.underlying27 HII.out.1 HII.out.2.1 HII.out.2.2.1 HII.out.2.2.2 rfl (.slice a3 NN c3) NN _ rfl O4.out (.slice (some ⟨wb.heap.size, 0, none⟩) 1 1) rfl 1 _ HSR.out ?q3 ?q4 HB4.out ?_
                  case q3 => unfold maxLen; omega
                  case q4 => omega
                  intro v7 w7 hr7 hg7 hat7
                  have O7 := Lib.hid (show OffRow w7 (tb + 1) 3 1 v7 (NN + 1) (flat icell (LL ++ [y])) by
                    rw [flat_append, flat_one]
                    exact hr7)
                  have V7 := Lib.hid (HV.out.grown K4.out hg7 (fun j hj => by have := (OffRow.lt HO.out j hj).1; omega))
                  have HO07 := Lib.hid (off_other HO0.out HO.out (by decide) K4.out hg7)
                  have HO17 := Lib.hid (off_other HO1.out HO.out (by decide) K4.out hg7)
                  have V8 := Lib.hid (V7.out.set2 v7)
                  have O8 := Lib.hid (off_set (i := 2) (b := B + 3) (u := v7) O7.out (by have := HV.out.lo; omega))
                  have HO08 := Lib.hid (off_set (i := 2) (b := B + 3) (u := v7) HO07.out (by have := HV.out.lo; omega))
                  have HO18 := Lib.hid (off_set (i := 2) (b := B + 3) (u := v7) HO17.out (by have := HV.out.lo; omega))
                  obtain ⟨a7, cp7, hv7⟩ := OffRow.slice O7.out
                  subst hv7
                  refine hK.out _ _ (fun h => absurd h (by decide)) (fun _ => ?_)
                  clear hK K hr7 hg7 hat7 O4 HSR
                  try go_frame
                  refine wpAnyE_ready (rs := [9]) (by kernel_rfl) (by simp) (AllE.cons rfl (fun K hK => ?_) AllE.nil)
                  go_simp
                  refine hK.out _ _ (fun h => absurd h (by decide)) (fun _ => ?_)
                  clear hK K
                  try go_frame
                  refine wpAnyE_ready (rs := [10]) (by kernel_rfl) (by simp) (AllE.cons rfl (fun K hK => ?_) AllE.nil)
                  obtain ⟨c0, c1, c2, c3'⟩ := V7.out.out.c0
                  have fz := V7.out.out.free 2
                  go_simp
                  refine hK.out _ _ (fun h => absurd h (by decide)) (fun _ => ?_)
                  clear hK K c0 c1 c2 c3' fz
                  try go_frame
                  refine wpAnyE_done (by kernel_rfl) ?_ _
                  have HNX := Lib.hid (show LL ++ [y] = s.logs.take (i + 1) by rw [HTK.out, HLL.out])
                  have HLN := Lib.hid (show NN + 1 = (s.logs.take (i + 1)).length by rw [← HNX.out, List.length_append, ← HNN.out]; rfl)
                  rw [HNX.out] at O8
                  go_wp2
                  go_roundw
                  case rel => exact ⟨i + 1, _, NN + 1, hlt, rfl, by go_num, V8, HLN, O8, HO08, HO18⟩
                  case measure => simp [intOf]; omega
                · have hge : (nl : Int) ≤ (i : Int) := by omega
                  have hin : s.logs.take i = s.logs := List.take_of_length_le (by have := HN.out.2.2.1; omega)
                  have HO2 := Lib.hid (show OffRow wr (tb + 1) 3 1 (.slice a3 NN c3) (s.logs).length (flat icell (s.logs)) by have := HO.out; rw [HNN.out, HLL.out, hin] at this; rw [HNN.out, HLL.out, hin]; exact this)
                  have HNL := Lib.hid (show NN = (s.logs).length by rw [HNN.out, HLL.out, hin])
                  clear hin
                  obtain ⟨oa0, oc0, hv0⟩ := OffRow.slice HO0.out
                  subst hv0
                  obtain ⟨oa1, oc1, hv1⟩ := OffRow.slice HO1.out
                  subst hv1
                  have EZ := Lib.hid (show z = 0 by rw [← HZ.out]; unfold oneE; rw [if_pos hk.out]; rw [if_neg HBT.out, if_neg HNF.out, if_neg HMA.out])
                  have ES := Lib.hid (show oneS s x = { s with tabs := insT x.tab s.tabs } by unfold oneS; rw [if_pos hk.out])
                  obtain ⟨r0, r1, r2, r3⟩ := HV.out.rs.c0
                  have rf := HV.out.rs.free
                  go_wp2
                  refine bodyPost_ret (results_st2 rfl _ _ (B + 2) _ _ _ _ _ rfl rfl (HV.out.rs.put _ _ _ _)) rfl ?_
                  refine ⟨_, _, _, _, _, _, _, _, _, _, by rw [HZ.out, EZ.out]; rfl, fun _ => ⟨by rw [ES.out, HN.out.2.2.2], ?_⟩, by rw [← HB.out]; exact below_put4 HV.out.kp (by omega) _ _ _ _⟩
                  rw [← HB.out, ES.out]
                  have hlo := HV.out.lo
                  refine ⟨?_, ?_, ?_⟩
                  · exact own_mono (off_set (off_set (off_set (off_set HO0.out (by omega)) (by omega)) (by omega)) (by omega)) (by omega)
                  · exact own_mono (off_set (off_set (off_set (off_set HO1.out (by omega)) (by omega)) (by omega)) (by omega)) (by omega)
                  · exact own_mono (off_set (off_set (off_set (off_set HO2.out (by omega)) (by omega)) (by omega)) (by omega)) (by omega)
        | false =>
          obtain ⟨w4, hw4⟩ : ∃ w4, w4 = wr.alloc (.cells #[.int .i64 x.file, .int .i64 x.lev, .int .i64 x.cnt, .string (bs x.low), .string (bs x.high)] 86) := ⟨_, rfl⟩
          obtain ⟨wp, hwp⟩ : ∃ wp, wp = wr := ⟨_, rfl⟩
          have K4 := Lib.hid (show Below wr.heap.size wr w4 by rw [hw4]; exact (Below.refl _ _).alloc (Nat.le_refl _) _)
          have O4 := Lib.hid (off_below HO.out K4.out)
          have HSR := Lib.hid (show Src Tryz.prog 5 25 (.slice (some ⟨wp.heap.size, 0, none⟩) 1 1) 1 (tcell x.tab) w4 by
            have hb : w4.heap[wp.heap.size]? = some (.cells #[.int .i64 x.file, .int .i64 x.lev, .int .i64 x.cnt, .string (bs x.low), .string (bs x.high)] 86 (0, 0)) := by
              rw [hw4, ← hwp]
              exact heap_new wp _
            exact src_block (size := 5) (cs := #[.int .i64 x.file, .int .i64 x.lev, .int .i64 x.cnt, .string (bs x.low), .string (bs x.high)]) Tryz.underlying25 hb 1 1 rfl (tcell_one x.tab))
          have HB4 := Lib.hid (show tb + 1 ≤ w4.heap.size by have := K4.out.size; have := HV.out.lt; omega)
          have HWP := Lib.hid (show wp.heap.size = wr.heap.size by rw [hwp])
          rw [HWP.out] at HSR
          rw [hw4] at O4 HSR HB4
          have HW4 := Lib.hid hw4
          clear hw4 hwp
          go_wp2_with (at_builtin; refine wpList_append_off rfl (.tmp 210) (.tmp 212) 25 rfl (tb + 1) 86 iT _ 5 56 Tryz.underlying25 HIT.out.1 HIT.out.2.1 HIT.out.2.2.1 HIT.out.2.2.2 rfl (.slice a3 NN c3) NN _ rfl O4.out (.slice (some ⟨wr.heap.size, 0, none⟩) 1 1) rfl 1 _ HSR.out ?q3 ?q4 HB4.out ?_)
          case q3 => unfold maxLen; omega
          case q4 => omega
          intro v7 w7 hr7 hg7 hat7
          rw [← HW4.out] at hg7
          have HG7 := Lib.hid hg7
          have O7 := Lib.hid (show OffRow w7 (tb + 1) 86 5 v7 (NN + 1) (flat tcell (LL ++ [x.tab])) by
            rw [flat_append, flat_one]
            exact hr7)
          have V7 := Lib.hid (HV.out.grown K4.out hg7 (fun j hj => by have := (OffRow.lt HO.out j hj).1; omega))
          have V8 := Lib.hid (V7.out.set0 v7)
          have O8 := Lib.hid (off_set (i := 0) (b := B + 3) (u := v7) O7.out (by have := HV.out.lo; omega))
          obtain ⟨a7, cp7, hv7⟩ := OffRow.slice O7.out
          subst hv7
          obtain ⟨c0, c1, c2, c3⟩ := V7.out.out.c0
          have fz := V7.out.out.free 0
          clear hr7 hg7 hat7 O4 HSR
          obtain ⟨w8, hw8⟩ : ∃ w8, w8 = w7.setCell ⟨B + 3, 0, none⟩ (.slice a7 (NN + 1) cp7) := ⟨_, rfl⟩
          rw [← hw8] at V8 O8
          have HW8 := Lib.hid hw8
          have HO0 := Lib.hid (show OffRow w8 (tb + 1) 86 5 (.slice a7 (NN + 1) cp7) (insT x.tab s.tabs).length (flat tcell (insT x.tab s.tabs)) by
            have e : insT x.tab s.tabs = LL ++ [x.tab] := by rw [midT_end (t := x.tab) (P := s.tabs), if_neg (by rw [HA.out]; simp), HLL2.out]
            rw [e, List.length_append, ← HNN.out]
            exact O8.out)
          clear hw8
          clear t0 t1 t2 t3 t4 s0 s1 s2 s3 e0 e1 e2 e3 e4 e5 p0 p1 p2 p3 pf
          go_upto_region 26 with (fail)
          rw [← HW8.out]
          clear c0 c1 c2 c3 fz HW8 hge hlt hi
          replace HV := V8
          obtain ⟨ov0, hov0⟩ : ∃ v : Value, v = .slice a7 (NN + 1) cp7 := ⟨_, rfl⟩
          rw [← hov0] at HO0 HV
          clear hov0 HO HNN hN9 V8 O8 V7 O7
          obtain ⟨e0, e1, e2, e3, e4, e5⟩ := HV.out.ed.c
          rw [hk.out] at e0
          go_wp2_with fail
          clear e0 e1 e2 e3 e4 e5
          go_loopw [8, 10, 13] (fun fv pv iv wr => ∃ (i : Nat) (o1 : Value) (NN : Nat), i ≤ ns ∧ fv = .bool (true) ∧ pv = .bool (true) ∧ iv = .int .i64 (i : Int) ∧ Hid (OneV B tb w (.slice ta nt tc) (.slice sa ns sc) (.slice la nl lc) nx x ov0 o1 (.slice none 0 0) wr) ∧ Hid (NN = (s.stos.take i).length) ∧ Hid (OffRow wr (tb + 1) 88 2 o1 NN (flat socell (s.stos.take i))) ∧ Hid (OffRow wr (tb + 1) 86 5 ov0 (insT x.tab s.tabs).length (flat tcell (insT x.tab s.tabs)))) (fun fv pv iv wr => ns - (intOf iv).toNat)
          case atStart => exact ⟨0, _, 0, Nat.zero_le _, rfl, rfl, rfl, HV, Lib.hid rfl, Lib.hid (OffRow.nil _ _ _ _), HO0⟩
          clear HV HO0
          case round =>
            obtain ⟨i, o1, NN, hi, rfl, rfl, rfl, HV, HNN, HO, HO0⟩ := hrel
            obtain ⟨LL, hLL⟩ : ∃ LL, LL = s.stos.take i := ⟨_, rfl⟩
            rw [← hLL] at HNN HO
            have HLL := Lib.hid hLL
            have hN9 : NN ≤ 900000000 := by
              rw [HNN.out, hLL]
              skip
              rw [List.length_take] at ⊢
              have := HN.out.2.1
              omega
            obtain ⟨a3, c3, rfl⟩ := OffRow.slice HO.out
            clear hLL
            obtain ⟨s0, s1, s2, s3⟩ := HV.out.st.c0
            obtain ⟨e0, e1, e2, e3, e4, e5⟩ := HV.out.ed.c
            rw [hk.out] at e0
            obtain ⟨p0, p1, p2, p3⟩ := HV.out.out.c0
            have pf := HV.out.out.free
            by_cases hlt : i < ns
            · have hlt' : (i : Int) < (ns : Int) := by omega
              obtain ⟨y, hy⟩ : ∃ y, s.stos[i]? = some y := ⟨_, List.getElem?_eq_getElem (by have := HN.out.2.1; omega)⟩
              obtain ⟨yb, yo, rfl, _, hb2, hc⟩ := RdL.atS HS.out hy hlt
              have hcr : ∀ i' u, (socell y)[i']? = some u → wr.cell? ⟨yb, yo + i * 2 + i', none⟩ = some u := fun i' u hu => by
                rw [← hc i' u hu]
                simp only [World.cell?, HV.out.kp.block yb (by rw [HB.out]; exact hb2)]
              have y0 : wr.cell? ⟨yb, yo + i * 2, none⟩ = _ := hcr 0 _ rfl
              have y1 := hcr 1 _ rfl
              have HTK := Lib.hid (show s.stos.take (i + 1) = s.stos.take i ++ [y] by rw [List.take_add_one, hy]; rfl)
              clear hc hcr hy
              obtain ⟨wu, hwu⟩ : ∃ wu, wr.alloc (.cells #[.int .i64 y.file, .int .i64 y.tier] 88) = wu := ⟨_, rfl⟩
              obtain ⟨ub, hub⟩ : ∃ ub, ub = wr.heap.size := ⟨_, rfl⟩
              have KU := Lib.hid (show Below wr.heap.size wr wu by rw [← hwu]; exact (Below.refl _ _).alloc (Nat.le_refl _) _)
              have UA := Lib.hid (show wu.heap[ub]? = some (.cells #[.int .i64 y.file, .int .i64 y.tier] 88 (0, 0)) by rw [← hwu, hub]; exact heap_new wr _)
              have HRB := Lib.hid (show ∀ j, (Value.slice a3 NN c3).ownBlock = some j → j < ub from fun j hj => by rw [hub]; exact (OffRow.lt HO.out j hj).2)
              have HUBT := Lib.hid (show tb < ub by rw [hub]; exact HV.out.lt)
              replace HV := Lib.hid (HV.out.below KU.out)
              replace HO := Lib.hid (off_below HO.out KU.out)
              replace HO0 := Lib.hid (off_below HO0.out KU.out)
              have HWU := Lib.hid hwu
              have HUB := Lib.hid hub
              clear hwu hub
              go_upto_region 31 with (fail)
              rw [HWU.out, ← HUB.out]
              clear y0 y1 HWU HUB
              clear s0 s1 s2 s3 e0 e1 e2 e3 e4 e5 p0 p1 p2 p3 pf
              obtain ⟨s0, s1, s2, s3⟩ := HV.out.st.c0
              obtain ⟨e0, e1, e2, e3, e4, e5⟩ := HV.out.ed.c
              rw [hk.out] at e0
              obtain ⟨p0, p1, p2, p3⟩ := HV.out.out.c0
              have pf := HV.out.out.free
              have u0 : wu.cell? ⟨ub, 0, none⟩ = some (.int .i64 y.file) := by simp only [World.cell?, UA.out]; rfl
              have u1 : wu.cell? ⟨ub, 1, none⟩ = some (.int .i64 y.tier) := by simp only [World.cell?, UA.out]; rfl
              obtain ⟨w4, hw4⟩ : ∃ w4, w4 = wu.alloc (.cells #[.int .i64 y.file, .int .i64 y.tier] 88) := ⟨_, rfl⟩
              obtain ⟨wp, hwp⟩ : ∃ wp, wp = wu := ⟨_, rfl⟩
              have K4 := Lib.hid (show Below wu.heap.size wu w4 by rw [hw4]; exact (Below.refl _ _).alloc (Nat.le_refl _) _)
              have O4 := Lib.hid (off_below HO.out K4.out)
              have HSR := Lib.hid (show Src Tryz.prog 2 26 (.slice (some ⟨wp.heap.size, 0, none⟩) 1 1) 1 (socell y) w4 by
                have hb : w4.heap[wp.heap.size]? = some (.cells #[.int .i64 y.file, .int .i64 y.tier] 88 (0, 0)) := by
                  rw [hw4, ← hwp]
                  exact heap_new wp _
                exact src_block (size := 2) (cs := #[.int .i64 y.file, .int .i64 y.tier]) Tryz.underlying26 hb 1 1 rfl (socell_one y))
              have HB4 := Lib.hid (show tb + 1 ≤ w4.heap.size by have := K4.out.size; have := HV.out.lt; omega)
              have HWP := Lib.hid (show wp.heap.size = wu.heap.size by rw [hwp])
              rw [HWP.out] at HSR
              rw [hw4] at O4 HSR HB4
              have HW4 := Lib.hid hw4
              clear hw4 hwp
              go_wp2_with (at_builtin; refine wpList_append_off rfl (.tmp 260) (.tmp 262) 26 rfl (tb + 1) 88 iS _ 2 16 Tryz.underlying26 HIS.out.1 HIS.out.2.1 HIS.out.2.2.1 HIS.out.2.2.2 rfl (.slice a3 NN c3) NN _ rfl O4.out (.slice (some ⟨wu.heap.size, 0, none⟩) 1 1) rfl 1 _ HSR.out ?q3 ?q4 HB4.out ?_)
              case q3 => unfold maxLen; omega
              case q4 => omega
              intro v7 w7 hr7 hg7 hat7
              rw [← HW4.out] at hg7
              have HG7 := Lib.hid hg7
              have O7 := Lib.hid (show OffRow w7 (tb + 1) 88 2 v7 (NN + 1) (flat socell (LL ++ [y])) by
                rw [flat_append, flat_one]
                exact hr7)
              have V7 := Lib.hid (HV.out.grown K4.out hg7 (fun j hj => by have := (OffRow.lt HO.out j hj).1; omega))
              have HO07 := Lib.hid (off_other HO0.out HO.out (by decide) K4.out hg7)
              have V8 := Lib.hid (V7.out.set1 v7)
              have O8 := Lib.hid (off_set (i := 1) (b := B + 3) (u := v7) O7.out (by have := HV.out.lo; omega))
              have HO08 := Lib.hid (off_set (i := 1) (b := B + 3) (u := v7) HO07.out (by have := HV.out.lo; omega))
              obtain ⟨a7, cp7, hv7⟩ := OffRow.slice O7.out
              subst hv7
              obtain ⟨c0, c1, c2, c3⟩ := V7.out.out.c0
              have fz := V7.out.out.free 1
              clear hr7 hg7 hat7 O4 HSR
              have HNX := Lib.hid (show LL ++ [y] = s.stos.take (i + 1) by rw [HTK.out, HLL.out])
              have HLN := Lib.hid (show NN + 1 = (s.stos.take (i + 1)).length by rw [← HNX.out, List.length_append, ← HNN.out]; rfl)
              rw [HNX.out] at O8
              clear u0 u1
              clear s0 s1 s2 s3 e0 e1 e2 e3 e4 e5 p0 p1 p2 p3 pf
              go_wp2_with fail
              clear c0 c1 c2 c3 fz
              go_roundw
              case rel => exact ⟨i + 1, _, NN + 1, hlt, rfl, rfl, by go_num, V8, HLN, O8, HO08⟩
              case measure => simp [intOf]; omega
            · have hge : (ns : Int) ≤ (i : Int) := by omega
              have hin : s.stos.take i = s.stos := List.take_of_length_le (by have := HN.out.2.1; omega)
              have HO1 := Lib.hid (show OffRow wr (tb + 1) 88 2 (.slice a3 NN c3) (s.stos).length (flat socell (s.stos)) by
                have e2 : LL = s.stos := by rw [HLL.out, hin]
                rw [← e2, ← HNN.out]
                exact HO.out)
              obtain ⟨ov1, hov1⟩ : ∃ v : Value, v = .slice a3 NN c3 := ⟨_, rfl⟩
              rw [← hov1] at HO1 HV p1
              clear hov1 HO HNN hN9 hin
              go_wp2_with fail
              clear s0 s1 s2 s3 e0 e1 e2 e3 e4 e5 p0 p1 p2 p3 pf
              clear hge hlt hi
              go_loopw [8, 15] (fun fv iv wr => ∃ (i : Nat) (o2 : Value) (NN : Nat), i ≤ nl ∧ fv = .bool (true) ∧ iv = .int .i64 (i : Int) ∧ Hid (OneV B tb w (.slice ta nt tc) (.slice sa ns sc) (.slice la nl lc) nx x ov0 ov1 o2 wr) ∧ Hid (NN = (s.logs.take i).length) ∧ Hid (OffRow wr (tb + 1) 3 1 o2 NN (flat icell (s.logs.take i))) ∧ Hid (OffRow wr (tb + 1) 86 5 ov0 (insT x.tab s.tabs).length (flat tcell (insT x.tab s.tabs))) ∧ Hid (OffRow wr (tb + 1) 88 2 ov1 (s.stos).length (flat socell (s.stos)))) (fun fv iv wr => nl - (intOf iv).toNat)
              case atStart => exact ⟨0, _, 0, Nat.zero_le _, rfl, rfl, HV, Lib.hid rfl, Lib.hid (OffRow.nil _ _ _ _), HO0, HO1⟩
              clear HV HO0 HO1
              case round =>
                obtain ⟨i, o2, NN, hi, rfl, rfl, HV, HNN, HO, HO0, HO1⟩ := hrel
                obtain ⟨LL, hLL⟩ : ∃ LL, LL = s.logs.take i := ⟨_, rfl⟩
                rw [← hLL] at HNN HO
                have HLL := Lib.hid hLL
                have hN9 : NN ≤ 900000000 := by
                  rw [HNN.out, hLL]
                  skip
                  rw [List.length_take] at ⊢
                  have := HN.out.2.2.1
                  omega
                obtain ⟨a3, c3, rfl⟩ := OffRow.slice HO.out
                clear hLL
                obtain ⟨s0, s1, s2, s3⟩ := HV.out.st.c0
                obtain ⟨e0, e1, e2, e3, e4, e5⟩ := HV.out.ed.c
                rw [hk.out] at e0
                obtain ⟨p0, p1, p2, p3⟩ := HV.out.out.c0
                have pf := HV.out.out.free
                by_cases hlt : i < nl
                · have hlt' : (i : Int) < (nl : Int) := by omega
                  obtain ⟨y, hy⟩ : ∃ y, s.logs[i]? = some y := ⟨_, List.getElem?_eq_getElem (by have := HN.out.2.2.1; omega)⟩
                  obtain ⟨yb, yo, rfl, _, hb2, hc⟩ := RdL.atI HL.out hy hlt
                  have y0 : wr.cell? ⟨yb, yo + i, none⟩ = some (.int .i64 y) := by
                    have := hc 0 _ rfl
                    simp only [Nat.mul_one, Nat.add_zero] at this
                    rw [← this]
                    simp only [World.cell?, HV.out.kp.block yb (by rw [HB.out]; exact hb2)]
                  have HYB := Lib.hid (show yb < B from by rw [HB.out]; exact hb2)
                  have HTK := Lib.hid (show s.logs.take (i + 1) = s.logs.take i ++ [y] by rw [List.take_add_one, hy]; rfl)
                  clear hc hy
                  go_upto_region 42 with (fail)
                  go_quiet (fail)
                  go_upto_region 44 with (fail)
                  obtain ⟨wa, hwa⟩ : ∃ wa, wa = wr.drewN nq := ⟨_, rfl⟩
                  have KA := Lib.hid (show Below wr.heap.size wr wa.drew by rw [hwa]; exact (below_drewN (Below.refl _ _) _).drew)
                  rw [← hwa]
                  clear s0 s1 s2 s3 e0 e1 e2 e3 e4 e5 p0 p1 p2 p3 pf
                  clear hwa
                  refine wp_region_any (by kernel_rfl) ?_
                  change wpAny _ _ _ _ _ _ _ wa.drew
                  obtain ⟨wb, hwb⟩ : ∃ wb, wb = wa.drew := ⟨_, rfl⟩
                  rw [← hwb] at KA ⊢
                  clear hwb
                  replace HV := Lib.hid (HV.out.below KA.out)
                  replace HO := Lib.hid (off_below HO.out KA.out)
                  replace HO0 := Lib.hid (off_below HO0.out KA.out)
                  replace HO1 := Lib.hid (off_below HO1.out KA.out)
                  have HY0 := Lib.hid (show wb.cell? ⟨yb, yo + i, none⟩ = some (.int .i64 y) by rw [← y0]; simp only [World.cell?]; rw [KA.out.block yb (by have := HYB.out; have := HV.out.kp.size; have := HB.out; have := HV.out.lt; have := HV.out.lo; first | omega | exact cell_block y0)])
                  clear y0 KA
                  refine any_take (i := 0) (d := 297) (v := (.pointer (some ⟨B + 3, 2, none⟩))) rfl rfl (by kernel_rfl) (by kernel_rfl) (by kernel_rfl) (fun _ _ _ h => h) (Or.inl ⟨by rfl, ?_⟩) ?_
                  · intro w'; go_simp
                  try go_frame
                  refine any_take (i := 2) (d := 299) (v := (.pointer (some ⟨B, 2, none⟩))) rfl rfl (by kernel_rfl) (by kernel_rfl) (by kernel_rfl) (fun _ _ _ h => h) (Or.inl ⟨by rfl, ?_⟩) ?_
                  · intro w'; go_simp
                  try go_frame
                  refine any_take (i := 4) (d := 301) (v := (.int .i64 (i : Int))) rfl rfl (by kernel_rfl) (by kernel_rfl) (by kernel_rfl) (fun _ _ _ h => h) (Or.inl ⟨by rfl, ?_⟩) ?_
                  · intro w'; go_simp
                  try go_frame
                  refine wpAny_late (i := 1) (d := 298) (v := .slice a3 NN c3) (fun W => Below wb.heap.size wb W) (fun j => j == 8 || j == 9 || j == 10) rfl rfl (by kernel_rfl) (by kernel_rfl) (by kernel_rfl) (by kernel_rfl) (fun _ _ _ h => h) (Or.inl ⟨by rfl, ?_⟩) (Below.refl _ _) ?_
                  · intro w' hw'
                    obtain ⟨_, _, q2, _⟩ := (HV.out.below hw').out.c0
                    go_simp
                  try go_frame
                  refine wpAnyE_ready (rs := [3]) (by kernel_rfl) (by simp) (AllE.cons rfl (fun K hK => ?_) AllE.nil)
                  obtain ⟨_, _, q2, _⟩ := HV.out.st.c0
                  go_simp
                  refine hK.out _ _ (fun _ => Below.refl _ _) (fun _ => ?_)
                  clear hK K q2
                  try go_frame
                  refine wpAnyE_ready (rs := [5]) (by kernel_rfl) (by simp) (AllE.cons rfl (fun K hK => ?_) AllE.nil)
                  go_simp
                  refine hK.out _ _ (fun _ => Below.refl _ _) (fun _ => ?_)
                  clear hK K
                  try go_frame
                  refine wpAnyE_ready (rs := [6]) (by kernel_rfl) (by simp) (AllE.cons rfl (fun K hK => ?_) AllE.nil)
                  have y0 := HY0.out
                  go_simp
                  refine hK.out _ _ (fun _ => Below.refl _ _) (fun _ => ?_)
                  clear hK K y0
                  try go_frame
                  refine wpAnyE_ready (rs := [7]) (by kernel_rfl) (by simp) (AllE.cons rfl (fun K hK => ?_) AllE.nil)
                  go_simp
                  obtain ⟨w4, hw4⟩ : ∃ w4, w4 = wb.alloc (.cells #[.int .i64 y] 3) := ⟨_, rfl⟩
                  have K4 := Lib.hid (show Below wb.heap.size wb w4 by rw [hw4]; exact (Below.refl _ _).alloc (Nat.le_refl _) _)
                  have O4 := Lib.hid (off_below HO.out K4.out)
                  have HSR := Lib.hid (show Src Tryz.prog 1 27 (.slice (some ⟨wb.heap.size, 0, none⟩) 1 1) 1 (icell y) w4 by
                    have hb : w4.heap[wb.heap.size]? = some (.cells #[.int .i64 y] 3 (0, 0)) := by
                      rw [hw4]
                      exact heap_new wb _
                    exact src_block (size := 1) (cs := #[.int .i64 y]) Tryz.underlying27 hb 1 1 rfl (icell_one y))
                  have HB4 := Lib.hid (show tb + 1 ≤ w4.heap.size by have := K4.out.size; have := HV.out.lt; omega)
                  rw [← hw4]
                  refine hK.out _ _ (fun _ => K4.out) (fun _ => ?_)
                  clear hK K hw4
                  try go_frame
                  refine wpAnyE_ready (rs := [8]) (by kernel_rfl) (by simp) (AllE.cons rfl (fun K hK => ?_) AllE.nil)
                  rw [if_pos (by rfl)]
                  refine wp_append_off (.tmp 298) (.tmp 304) 27 rfl (tb + 1) 3 iI _ 1 8 Tryz.underlying27 HII.out.1 HII.out.2.1 HII.out.2.2.1 HII.out.2.2.2 rfl (.slice a3 NN c3) NN _ rfl O4.out (.slice (some ⟨wb.heap.size, 0, none⟩) 1 1) rfl 1 _ HSR.out ?q3 ?q4 HB4.out ?_
                  case q3 => unfold maxLen; omega
                  case q4 => omega
                  intro v7 w7 hr7 hg7 hat7
                  have O7 := Lib.hid (show OffRow w7 (tb + 1) 3 1 v7 (NN + 1) (flat icell (LL ++ [y])) by
                    rw [flat_append, flat_one]
                    exact hr7)
                  have V7 := Lib.hid (HV.out.grown K4.out hg7 (fun j hj => by have := (OffRow.lt HO.out j hj).1; omega))
                  have HO07 := Lib.hid (off_other HO0.out HO.out (by decide) K4.out hg7)
                  have HO17 := Lib.hid (off_other HO1.out HO.out (by decide) K4.out hg7)
                  have V8 := Lib.hid (V7.out.set2 v7)
                  have O8 := Lib.hid (off_set (i := 2) (b := B + 3) (u := v7) O7.out (by have := HV.out.lo; omega))
                  have HO08 := Lib.hid (off_set (i := 2) (b := B + 3) (u := v7) HO07.out (by have := HV.out.lo; omega))
                  have HO18 := Lib.hid (off_set (i := 2) (b := B + 3) (u := v7) HO17.out (by have := HV.out.lo; omega))
                  obtain ⟨a7, cp7, hv7⟩ := OffRow.slice O7.out
                  subst hv7
                  refine hK.out _ _ (fun h => absurd h (by decide)) (fun _ => ?_)
                  clear hK K hr7 hg7 hat7 O4 HSR
                  try go_frame
                  refine wpAnyE_ready (rs := [9]) (by kernel_rfl) (by simp) (AllE.cons rfl (fun K hK => ?_) AllE.nil)
                  go_simp
                  refine hK.out _ _ (fun h => absurd h (by decide)) (fun _ => ?_)
                  clear hK K
                  try go_frame
                  refine wpAnyE_ready (rs := [10]) (by kernel_rfl) (by simp) (AllE.cons rfl (fun K hK => ?_) AllE.nil)
                  obtain ⟨c0, c1, c2, c3'⟩ := V7.out.out.c0
                  have fz := V7.out.out.free 2
                  go_simp
                  refine hK.out _ _ (fun h => absurd h (by decide)) (fun _ => ?_)
                  clear hK K c0 c1 c2 c3' fz
                  try go_frame
                  refine wpAnyE_done (by kernel_rfl) ?_ _
                  have HNX := Lib.hid (show LL ++ [y] = s.logs.take (i + 1) by rw [HTK.out, HLL.out])
                  have HLN := Lib.hid (show NN + 1 = (s.logs.take (i + 1)).length by rw [← HNX.out, List.length_append, ← HNN.out]; rfl)
                  rw [HNX.out] at O8
                  go_wp2
                  go_roundw
                  case rel => exact ⟨i + 1, _, NN + 1, hlt, rfl, by go_num, V8, HLN, O8, HO08, HO18⟩
                  case measure => simp [intOf]; omega
                · have hge : (nl : Int) ≤ (i : Int) := by omega
                  have hin : s.logs.take i = s.logs := List.take_of_length_le (by have := HN.out.2.2.1; omega)
                  have HO2 := Lib.hid (show OffRow wr (tb + 1) 3 1 (.slice a3 NN c3) (s.logs).length (flat icell (s.logs)) by have := HO.out; rw [HNN.out, HLL.out, hin] at this; rw [HNN.out, HLL.out, hin]; exact this)
                  have HNL := Lib.hid (show NN = (s.logs).length by rw [HNN.out, HLL.out, hin])
                  clear hin
                  obtain ⟨oa0, oc0, hv0⟩ := OffRow.slice HO0.out
                  subst hv0
                  obtain ⟨oa1, oc1, hv1⟩ := OffRow.slice HO1.out
                  subst hv1
                  have EZ := Lib.hid (show z = 0 by rw [← HZ.out]; unfold oneE; rw [if_pos hk.out]; rw [if_neg HBT.out, if_neg HNF.out, if_neg HMA.out])
                  have ES := Lib.hid (show oneS s x = { s with tabs := insT x.tab s.tabs } by unfold oneS; rw [if_pos hk.out])
                  obtain ⟨r0, r1, r2, r3⟩ := HV.out.rs.c0
                  have rf := HV.out.rs.free
                  go_wp2
                  refine bodyPost_ret (results_st2 rfl _ _ (B + 2) _ _ _ _ _ rfl rfl (HV.out.rs.put _ _ _ _)) rfl ?_
                  refine ⟨_, _, _, _, _, _, _, _, _, _, by rw [HZ.out, EZ.out]; rfl, fun _ => ⟨by rw [ES.out, HN.out.2.2.2], ?_⟩, by rw [← HB.out]; exact below_put4 HV.out.kp (by omega) _ _ _ _⟩
                  rw [← HB.out, ES.out]
                  have hlo := HV.out.lo
                  refine ⟨?_, ?_, ?_⟩
                  · exact own_mono (off_set (off_set (off_set (off_set HO0.out (by omega)) (by omega)) (by omega)) (by omega)) (by omega)
                  · exact own_mono (off_set (off_set (off_set (off_set HO1.out (by omega)) (by omega)) (by omega)) (by omega)) (by omega)
                  · exact own_mono (off_set (off_set (off_set (off_set HO2.out (by omega)) (by omega)) (by omega)) (by omega)) (by omega)
end Go.Proofs.YtljjielekgilpaaGreat
