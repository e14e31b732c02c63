/- Texts put together: ManOne6 -/
import Derived.Test.YtljjielekgilpaaGreatMApp14
/- The document's side: one edit (kind 6). -/
set_option linter.unusedVariables false
set_option maxRecDepth 100000
namespace Go.Proofs.YtljjielekgilpaaGreat
open Go.RowKit

set_option maxHeartbeats 16000000 in
theorem one_6 {T : Nat → Prop} {w : World} {tv sv lv : Value} {s : St} {x : Ed} (h : Hid (StV T w tv sv lv s)) (hs : Hid (s.small 400000000)) (hk : Hid (x.kind = 6)) :
    Calls Tryz.prog 39 #[.agg #[tv, sv, lv, .int .i64 s.next], .agg #[.int .i64 x.kind, .int .i64 x.file, .int .i64 x.lev, .int .i64 x.cnt, .string (bs x.low), .string (bs x.high)]] w (OnePost s x w) := by
  obtain ⟨ta, tc, rfl⟩ := RdL.slice h.out.tabs
  obtain ⟨sa, sc, rfl⟩ := RdL.slice h.out.stos
  obtain ⟨la, lc, rfl⟩ := RdL.slice h.out.logs
  have hsm := hs.out
  unfold St.small at hsm
  obtain ⟨nt, hnt⟩ : ∃ n, n = s.tabs.length := ⟨_, rfl⟩
  obtain ⟨ns, hns⟩ : ∃ n, n = s.stos.length := ⟨_, rfl⟩
  obtain ⟨nl, hnl⟩ : ∃ n, n = s.logs.length := ⟨_, rfl⟩
  obtain ⟨nx, hnx⟩ : ∃ n, n = s.next := ⟨_, rfl⟩
  have hn9 : nt ≤ 400000000 ∧ ns ≤ 400000000 ∧ nl ≤ 400000000 := by omega
  have HV0 := h
  have HT := Lib.hid h.out.tabs
  have HS := Lib.hid h.out.stos
  have HL := Lib.hid h.out.logs
  have HSUM := Lib.hid (show s.tabs.length + s.stos.length + s.logs.length ≤ 1000000000 by omega)
  rw [← hnt] at HT ⊢
  rw [← hns] at HS ⊢
  rw [← hnl] at HL ⊢
  rw [← hnx]
  have HN := Lib.hid (And.intro hnt (And.intro hns (And.intro hnl hnx)))
  obtain ⟨kd, hkd⟩ : ∃ k, k = x.kind := ⟨_, rfl⟩
  obtain ⟨B, hB⟩ : ∃ B, B = w.heap.size := ⟨_, rfl⟩
  have HB := Lib.hid hB
  obtain ⟨wa, hwa⟩ : ∃ wa, w.alloc (.cells #[.slice ta nt tc, .slice sa ns sc, .slice la nl lc, .int .i64 nx] 29) = wa := ⟨_, rfl⟩
  obtain ⟨wb, hwb⟩ : ∃ wb, wa.alloc (.cells #[.int .i64 x.kind, .int .i64 x.file, .int .i64 x.lev, .int .i64 x.cnt, .string (bs x.low), .string (bs x.high)] 44) = wb := ⟨_, rfl⟩
  obtain ⟨wc, hwc⟩ : ∃ wc, wb.alloc (.cells #[.slice none 0 0, .slice none 0 0, .slice none 0 0, .int .i64 0] 29) = wc := ⟨_, rfl⟩
  obtain ⟨w1, hw1⟩ : ∃ w1, wc.alloc (.cells #[.slice none 0 0, .slice none 0 0, .slice none 0 0, .int .i64 nx] 29) = w1 := ⟨_, rfl⟩
  have za : wa.heap.size = B + 1 := by rw [← hwa, hB]; simp
  have zb : wb.heap.size = B + 2 := by rw [← hwb, show B + 2 = B + 1 + 1 from rfl, ← za]; simp
  have zc : wc.heap.size = B + 3 := by rw [← hwc, show B + 3 = B + 2 + 1 from rfl, ← zb]; simp
  have ba : Below B w wa := by rw [← hwa, hB]; exact (Below.refl _ _).alloc (Nat.le_refl _) _
  have bb : Below wa.heap.size wa wb := by rw [← hwb]; exact (Below.refl _ _).alloc (Nat.le_refl _) _
  have bc : Below wb.heap.size wb wc := by rw [← hwc]; exact (Below.refl _ _).alloc (Nat.le_refl _) _
  have bd : Below wc.heap.size wc w1 := by rw [← hw1]; exact (Below.refl _ _).alloc (Nat.le_refl _) _
  have K1 := Lib.hid (show Below B w w1 from ((ba.trans (bb.mono (by omega))).trans (bc.mono (by omega))).trans (bd.mono (by omega)))
  have V1 := Lib.hid (show C4 B (.slice ta nt tc) (.slice sa ns sc) (.slice la nl lc) (.int .i64 nx) w1 ∧ EdAt (B + 1) x w1 ∧ C4 (B + 2) (.slice none 0 0) (.slice none 0 0) (.slice none 0 0) (.int .i64 0) w1 ∧ C4 (B + 3) (.slice none 0 0) (.slice none 0 0) (.slice none 0 0) (.int .i64 nx) w1 by
    have na := heap_new w (.cells #[.slice ta nt tc, .slice sa ns sc, .slice la nl lc, .int .i64 nx] 29)
    have nb := heap_new wa (.cells #[.int .i64 x.kind, .int .i64 x.file, .int .i64 x.lev, .int .i64 x.cnt, .string (bs x.low), .string (bs x.high)] 44)
    have nc := heap_new wb (.cells #[.slice none 0 0, .slice none 0 0, .slice none 0 0, .int .i64 0] 29)
    have nd := heap_new wc (.cells #[.slice none 0 0, .slice none 0 0, .slice none 0 0, .int .i64 nx] 29)
    rw [hwa, ← hB] at na
    rw [hwb, za] at nb
    rw [hwc, zb] at nc
    rw [hw1, zc] at nd
    exact ⟨(bd.block B (by omega)).trans ((bc.block B (by omega)).trans ((bb.block B (by omega)).trans na)), (bd.block (B + 1) (by omega)).trans ((bc.block (B + 1) (by omega)).trans nb), (bd.block (B + 2) (by omega)).trans nc, nd⟩)
  rw [← hwc, ← hwb, ← hwa] at hw1
  have HW1 := Lib.hid hw1
  have KD := Lib.hid hkd
  have HS1 := Lib.hid (show StV T w1 (.slice ta s.tabs.length tc) (.slice sa s.stos.length sc) (.slice la s.logs.length lc) s from h.out.below (HB.out ▸ K1.out))
  obtain ⟨s0, s1, s2, s3⟩ := V1.out.1.c0
  obtain ⟨e0, e1, e2, e3, e4, e5⟩ := V1.out.2.1.c
  rw [hk.out] at e0 hkd
  have hB1 := Lib.hid (show B + 3 < w1.heap.size from heap_lt V1.out.2.2.2)
  clear hw1 hB hnt hns hnl hnx hsm hwa hwb hwc za zb zc ba bb bc bd
  obtain ⟨iT, ti0, ti1, ti2, ti3⟩ := info_parts infoTb
  obtain ⟨iS, si0, si1, si2, si3⟩ := info_parts infoSo
  obtain ⟨iI, ii0, ii1, ii2, ii3⟩ := info_parts infoInt
  have HIT := Lib.hid (And.intro ti0 (And.intro ti1 (And.intro ti2 ti3)))
  have HIS := Lib.hid (And.intro si0 (And.intro si1 (And.intro si2 si3)))
  have HII := Lib.hid (And.intro ii0 (And.intro ii1 (And.intro ii2 ii3)))
  clear ti0 ti1 ti2 ti3 si0 si1 si2 si3 ii0 ii1 ii2 ii3
  obtain ⟨z, hz⟩ : ∃ z, z = oneE s x := ⟨_, rfl⟩
  have HZ := Lib.hid hz.symm
  clear hz
  go_enter Tryz.func39, Tryz.ntmps39
  rw [hk.out] at HW1 ⊢
  go_upto_region 2 with (fail)
  rw [HW1.out, ← HB.out, show B + 1 + 1 = B + 2 from rfl, show B + 2 + 1 = B + 3 from rfl]
  go_upto_region 11 with (fail)
  obtain ⟨w3, hw3⟩ : ∃ w3, w1.alloc (.cells #[.int .i64 x.file, .int .i64 x.lev, .int .i64 x.cnt, .string (bs x.low), .string (bs x.high)] 86) = w3 := ⟨_, rfl⟩
  obtain ⟨tb, htb⟩ : ∃ tb, tb = w1.heap.size := ⟨_, rfl⟩
  rw [hw3, ← htb]
  have VV := Lib.hid (show OneV B tb w (.slice ta nt tc) (.slice sa ns sc) (.slice la nl lc) nx x (.slice none 0 0) (.slice none 0 0) (.slice none 0 0) w3 from by
    have k : Below w1.heap.size w1 w3 := by rw [← hw3]; exact (Below.refl _ _).alloc (Nat.le_refl _) _
    refine ⟨V1.out.1.below k, (k.block (B + 1) (heap_lt V1.out.2.1)).trans V1.out.2.1, V1.out.2.2.1.below k, V1.out.2.2.2.below k, by rw [← hw3, htb]; exact heap_new w1 _, K1.out.trans (k.mono (by have := heap_lt V1.out.1; omega)), by have := heap_lt V1.out.2.2.2; omega⟩)
  clear hw3 htb s0 s1 s2 s3 e0 e1 e2 e3 e4 e5
  obtain ⟨e0, e1, e2, e3, e4, e5⟩ := VV.out.ed.c
  rw [hk.out] at e0
  go_wp2_with fail
  clear e0 e1 e2 e3 e4 e5
  go_loopw [8, 10, 11] (fun fv pv iv wr => ∃ (i : Nat) (o0 : Value) (NN : Nat), i ≤ nt ∧ fv = .bool (false) ∧ pv = .bool (true) ∧ iv = .int .i64 (i : Int) ∧ Hid (OneV B tb w (.slice ta nt tc) (.slice sa ns sc) (.slice la nl lc) nx x o0 (.slice none 0 0) (.slice none 0 0) wr) ∧ Hid (NN = (s.tabs.take i).length) ∧ Hid (OffRow wr (tb + 1) 86 5 o0 NN (flat tcell (s.tabs.take i)))) (fun fv pv iv wr => nt - (intOf iv).toNat)
  case atStart => exact ⟨0, _, 0, Nat.zero_le _, rfl, rfl, rfl, VV, Lib.hid (rfl), Lib.hid (OffRow.nil _ _ _ _)⟩
  case round =>
    obtain ⟨i, o0, NN, hi, rfl, rfl, rfl, HV, HNN, HO⟩ := hrel
    obtain ⟨LL, hLL⟩ : ∃ LL, LL = s.tabs.take i := ⟨_, rfl⟩
    rw [← hLL] at HNN HO
    have HLL := Lib.hid hLL
    have hN9 : NN ≤ 900000000 := by
      rw [HNN.out, hLL]
      skip
      rw [List.length_take] at ⊢
      have := HN.out.1
      omega
    obtain ⟨a3, c3, rfl⟩ := OffRow.slice HO.out
    clear hLL
    obtain ⟨s0, s1, s2, s3⟩ := HV.out.st.c0
    obtain ⟨e0, e1, e2, e3, e4, e5⟩ := HV.out.ed.c
    rw [hk.out] at e0
    obtain ⟨p0, p1, p2, p3⟩ := HV.out.out.c0
    have pf := HV.out.out.free
    by_cases hlt : i < nt
    · have hlt' : (i : Int) < (nt : Int) := by omega
      obtain ⟨y, hy⟩ : ∃ y, s.tabs[i]? = some y := ⟨_, List.getElem?_eq_getElem (by have := HN.out.1; omega)⟩
      obtain ⟨yb, yo, rfl, _, hb2, hc⟩ := RdL.atT HT.out hy hlt
      have hcr : ∀ i' u, (tcell y)[i']? = some u → wr.cell? ⟨yb, yo + i * 5 + i', none⟩ = some u := fun i' u hu => by
        rw [← hc i' u hu]
        simp only [World.cell?, HV.out.kp.block yb (by rw [HB.out]; exact hb2)]
      have y0 : wr.cell? ⟨yb, yo + i * 5, none⟩ = _ := hcr 0 _ rfl
      have y1 := hcr 1 _ rfl
      have y2 := hcr 2 _ rfl
      have y3 := hcr 3 _ rfl
      have y4 := hcr 4 _ rfl
      have HTK := Lib.hid (show s.tabs.take (i + 1) = s.tabs.take i ++ [y] by rw [List.take_add_one, hy]; rfl)
      clear hc hcr hy
      obtain ⟨wu, hwu⟩ : ∃ wu, wr.alloc (.cells #[.int .i64 y.file, .int .i64 y.lev, .int .i64 y.cnt, .string (bs y.low), .string (bs y.high)] 86) = wu := ⟨_, rfl⟩
      obtain ⟨ub, hub⟩ : ∃ ub, ub = wr.heap.size := ⟨_, rfl⟩
      have KU := Lib.hid (show Below wr.heap.size wr wu by rw [← hwu]; exact (Below.refl _ _).alloc (Nat.le_refl _) _)
      have UA := Lib.hid (show wu.heap[ub]? = some (.cells #[.int .i64 y.file, .int .i64 y.lev, .int .i64 y.cnt, .string (bs y.low), .string (bs y.high)] 86 (0, 0)) by rw [← hwu, hub]; exact heap_new wr _)
      have HRB := Lib.hid (show ∀ j, (Value.slice a3 NN c3).ownBlock = some j → j < ub from fun j hj => by rw [hub]; exact (OffRow.lt HO.out j hj).2)
      have HUBT := Lib.hid (show tb < ub by rw [hub]; exact HV.out.lt)
      replace HV := Lib.hid (HV.out.below KU.out)
      replace HO := Lib.hid (off_below HO.out KU.out)
      have HWU := Lib.hid hwu
      have HUB := Lib.hid hub
      clear hwu hub
      go_upto_region 16 with (fail)
      rw [HWU.out, ← HUB.out]
      clear y0 y1 y2 y3 y4 HWU HUB
      clear s0 s1 s2 s3 e0 e1 e2 e3 e4 e5 p0 p1 p2 p3 pf
      obtain ⟨s0, s1, s2, s3⟩ := HV.out.st.c0
      obtain ⟨e0, e1, e2, e3, e4, e5⟩ := HV.out.ed.c
      rw [hk.out] at e0
      obtain ⟨p0, p1, p2, p3⟩ := HV.out.out.c0
      have pf := HV.out.out.free
      have u0 : wu.cell? ⟨ub, 0, none⟩ = some (.int .i64 y.file) := by simp only [World.cell?, UA.out]; rfl
      have u1 : wu.cell? ⟨ub, 1, none⟩ = some (.int .i64 y.lev) := by simp only [World.cell?, UA.out]; rfl
      have u2 : wu.cell? ⟨ub, 2, none⟩ = some (.int .i64 y.cnt) := by simp only [World.cell?, UA.out]; rfl
      have u3 : wu.cell? ⟨ub, 3, none⟩ = some (.string (bs y.low)) := by simp only [World.cell?, UA.out]; rfl
      have u4 : wu.cell? ⟨ub, 4, none⟩ = some (.string (bs y.high)) := by simp only [World.cell?, UA.out]; rfl
      obtain ⟨w4, hw4⟩ : ∃ w4, w4 = wu.alloc (.cells #[.int .i64 y.file, .int .i64 y.lev, .int .i64 y.cnt, .string (bs y.low), .string (bs y.high)] 86) := ⟨_, rfl⟩
      obtain ⟨wp, hwp⟩ : ∃ wp, wp = wu := ⟨_, rfl⟩
      have K4 := Lib.hid (show Below wu.heap.size wu w4 by rw [hw4]; exact (Below.refl _ _).alloc (Nat.le_refl _) _)
      have O4 := Lib.hid (off_below HO.out K4.out)
      have HSR := Lib.hid (show Src Tryz.prog 5 25 (.slice (some ⟨wp.heap.size, 0, none⟩) 1 1) 1 (tcell y) w4 by
        have hb : w4.heap[wp.heap.size]? = some (.cells #[.int .i64 y.file, .int .i64 y.lev, .int .i64 y.cnt, .string (bs y.low), .string (bs y.high)] 86 (0, 0)) := by
          rw [hw4, ← hwp]
          exact heap_new wp _
        exact src_block (size := 5) (cs := #[.int .i64 y.file, .int .i64 y.lev, .int .i64 y.cnt, .string (bs y.low), .string (bs y.high)]) Tryz.underlying25 hb 1 1 rfl (tcell_one y))
      have HB4 := Lib.hid (show tb + 1 ≤ w4.heap.size by have := K4.out.size; have := HV.out.lt; omega)
      have HWP := Lib.hid (show wp.heap.size = wu.heap.size by rw [hwp])
      rw [HWP.out] at HSR
      rw [hw4] at O4 HSR HB4
      have HW4 := Lib.hid hw4
      clear hw4 hwp
      go_wp2_with (at_builtin; refine wpList_append_off rfl (.tmp 202) (.tmp 204) 25 rfl (tb + 1) 86 iT _ 5 56 Tryz.underlying25 HIT.out.1 HIT.out.2.1 HIT.out.2.2.1 HIT.out.2.2.2 rfl (.slice a3 NN c3) NN _ rfl O4.out (.slice (some ⟨wu.heap.size, 0, none⟩) 1 1) rfl 1 _ HSR.out ?q3 ?q4 HB4.out ?_)
      case q3 => unfold maxLen; omega
      case q4 => omega
      intro v7 w7 hr7 hg7 hat7
      rw [← HW4.out] at hg7
      have HG7 := Lib.hid hg7
      have O7 := Lib.hid (show OffRow w7 (tb + 1) 86 5 v7 (NN + 1) (flat tcell (LL ++ [y])) by
        rw [flat_append, flat_one]
        exact hr7)
      have V7 := Lib.hid (HV.out.grown K4.out hg7 (fun j hj => by have := (OffRow.lt HO.out j hj).1; omega))
      have V8 := Lib.hid (V7.out.set0 v7)
      have O8 := Lib.hid (off_set (i := 0) (b := B + 3) (u := v7) O7.out (by have := HV.out.lo; omega))
      obtain ⟨a7, cp7, hv7⟩ := OffRow.slice O7.out
      subst hv7
      obtain ⟨c0, c1, c2, c3⟩ := V7.out.out.c0
      have fz := V7.out.out.free 0
      clear hr7 hg7 hat7 O4 HSR
      have HNX := Lib.hid (show LL ++ [y] = s.tabs.take (i + 1) by rw [HTK.out, HLL.out])
      have HLN := Lib.hid (show NN + 1 = (s.tabs.take (i + 1)).length by rw [← HNX.out, List.length_append, ← HNN.out]; rfl)
      rw [HNX.out] at O8
      clear u0 u1 u2 u3 u4
      clear s0 s1 s2 s3 e0 e1 e2 e3 e4 e5 p0 p1 p2 p3 pf
      go_wp2_with fail
      clear c0 c1 c2 c3 fz
      go_roundw
      case rel => exact ⟨i + 1, _, NN + 1, hlt, rfl, rfl, by go_num, V8, HLN, O8⟩
      case measure => simp [intOf]; omega
    · have hge : (nt : Int) ≤ (i : Int) := by omega
      have hin : s.tabs.take i = s.tabs := List.take_of_length_le (by have := HN.out.1; omega)
      have HO0 := Lib.hid (show OffRow wr (tb + 1) 86 5 (.slice a3 NN c3) s.tabs.length (flat tcell s.tabs) by have := HO.out; rw [HNN.out, HLL.out, hin] at this; rw [HNN.out, HLL.out, hin]; exact this)
      obtain ⟨ov0, hov0⟩ : ∃ v : Value, v = .slice a3 NN c3 := ⟨_, rfl⟩
      rw [← hov0] at HO0 HV p0
      clear hov0 HO HNN hN9 hin
      go_wp2_with fail
      clear s0 s1 s2 s3 e0 e1 e2 e3 e4 e5 p0 p1 p2 p3 pf
      clear hge hlt hi
      go_loopw [8, 10, 13] (fun fv pv iv wr => ∃ (i : Nat) (o1 : Value) (NN : Nat), i ≤ ns ∧ fv = .bool (false) ∧ pv = .bool (true) ∧ iv = .int .i64 (i : Int) ∧ Hid (OneV B tb w (.slice ta nt tc) (.slice sa ns sc) (.slice la nl lc) nx x ov0 o1 (.slice none 0 0) wr) ∧ Hid (NN = (s.stos.take i).length) ∧ Hid (OffRow wr (tb + 1) 88 2 o1 NN (flat socell (s.stos.take i))) ∧ Hid (OffRow wr (tb + 1) 86 5 ov0 (s.tabs).length (flat tcell (s.tabs)))) (fun fv pv iv wr => ns - (intOf iv).toNat)
      case atStart => exact ⟨0, _, 0, Nat.zero_le _, rfl, rfl, rfl, HV, Lib.hid rfl, Lib.hid (OffRow.nil _ _ _ _), HO0⟩
      clear HV HO0
      case round =>
        obtain ⟨i, o1, NN, hi, rfl, rfl, rfl, HV, HNN, HO, HO0⟩ := hrel
        obtain ⟨LL, hLL⟩ : ∃ LL, LL = s.stos.take i := ⟨_, rfl⟩
        rw [← hLL] at HNN HO
        have HLL := Lib.hid hLL
        have hN9 : NN ≤ 900000000 := by
          rw [HNN.out, hLL]
          skip
          rw [List.length_take] at ⊢
          have := HN.out.2.1
          omega
        obtain ⟨a3, c3, rfl⟩ := OffRow.slice HO.out
        clear hLL
        obtain ⟨s0, s1, s2, s3⟩ := HV.out.st.c0
        obtain ⟨e0, e1, e2, e3, e4, e5⟩ := HV.out.ed.c
        rw [hk.out] at e0
        obtain ⟨p0, p1, p2, p3⟩ := HV.out.out.c0
        have pf := HV.out.out.free
        by_cases hlt : i < ns
        · have hlt' : (i : Int) < (ns : Int) := by omega
          obtain ⟨y, hy⟩ : ∃ y, s.stos[i]? = some y := ⟨_, List.getElem?_eq_getElem (by have := HN.out.2.1; omega)⟩
          obtain ⟨yb, yo, rfl, _, hb2, hc⟩ := RdL.atS HS.out hy hlt
          have hcr : ∀ i' u, (socell y)[i']? = some u → wr.cell? ⟨yb, yo + i * 2 + i', none⟩ = some u := fun i' u hu => by
            rw [← hc i' u hu]
            simp only [World.cell?, HV.out.kp.block yb (by rw [HB.out]; exact hb2)]
          have y0 : wr.cell? ⟨yb, yo + i * 2, none⟩ = _ := hcr 0 _ rfl
          have y1 := hcr 1 _ rfl
          have HTK := Lib.hid (show s.stos.take (i + 1) = s.stos.take i ++ [y] by rw [List.take_add_one, hy]; rfl)
          clear hc hcr hy
          obtain ⟨wu, hwu⟩ : ∃ wu, wr.alloc (.cells #[.int .i64 y.file, .int .i64 y.tier] 88) = wu := ⟨_, rfl⟩
          obtain ⟨ub, hub⟩ : ∃ ub, ub = wr.heap.size := ⟨_, rfl⟩
          have KU := Lib.hid (show Below wr.heap.size wr wu by rw [← hwu]; exact (Below.refl _ _).alloc (Nat.le_refl _) _)
          have UA := Lib.hid (show wu.heap[ub]? = some (.cells #[.int .i64 y.file, .int .i64 y.tier] 88 (0, 0)) by rw [← hwu, hub]; exact heap_new wr _)
          have HRB := Lib.hid (show ∀ j, (Value.slice a3 NN c3).ownBlock = some j → j < ub from fun j hj => by rw [hub]; exact (OffRow.lt HO.out j hj).2)
          have HUBT := Lib.hid (show tb < ub by rw [hub]; exact HV.out.lt)
          replace HV := Lib.hid (HV.out.below KU.out)
          replace HO := Lib.hid (off_below HO.out KU.out)
          replace HO0 := Lib.hid (off_below HO0.out KU.out)
          have HWU := Lib.hid hwu
          have HUB := Lib.hid hub
          clear hwu hub
          go_upto_region 31 with (fail)
          rw [HWU.out, ← HUB.out]
          clear y0 y1 HWU HUB
          clear s0 s1 s2 s3 e0 e1 e2 e3 e4 e5 p0 p1 p2 p3 pf
          obtain ⟨s0, s1, s2, s3⟩ := HV.out.st.c0
          obtain ⟨e0, e1, e2, e3, e4, e5⟩ := HV.out.ed.c
          rw [hk.out] at e0
          obtain ⟨p0, p1, p2, p3⟩ := HV.out.out.c0
          have pf := HV.out.out.free
          have u0 : wu.cell? ⟨ub, 0, none⟩ = some (.int .i64 y.file) := by simp only [World.cell?, UA.out]; rfl
          have u1 : wu.cell? ⟨ub, 1, none⟩ = some (.int .i64 y.tier) := by simp only [World.cell?, UA.out]; rfl
          obtain ⟨w4, hw4⟩ : ∃ w4, w4 = wu.alloc (.cells #[.int .i64 y.file, .int .i64 y.tier] 88) := ⟨_, rfl⟩
          obtain ⟨wp, hwp⟩ : ∃ wp, wp = wu := ⟨_, rfl⟩
          have K4 := Lib.hid (show Below wu.heap.size wu w4 by rw [hw4]; exact (Below.refl _ _).alloc (Nat.le_refl _) _)
          have O4 := Lib.hid (off_below HO.out K4.out)
          have HSR := Lib.hid (show Src Tryz.prog 2 26 (.slice (some ⟨wp.heap.size, 0, none⟩) 1 1) 1 (socell y) w4 by
            have hb : w4.heap[wp.heap.size]? = some (.cells #[.int .i64 y.file, .int .i64 y.tier] 88 (0, 0)) := by
              rw [hw4, ← hwp]
              exact heap_new wp _
            exact src_block (size := 2) (cs := #[.int .i64 y.file, .int .i64 y.tier]) Tryz.underlying26 hb 1 1 rfl (socell_one y))
          have HB4 := Lib.hid (show tb + 1 ≤ w4.heap.size by have := K4.out.size; have := HV.out.lt; omega)
          have HWP := Lib.hid (show wp.heap.size = wu.heap.size by rw [hwp])
          rw [HWP.out] at HSR
          rw [hw4] at O4 HSR HB4
          have HW4 := Lib.hid hw4
          clear hw4 hwp
          go_wp2_with (at_builtin; refine wpList_append_off rfl (.tmp 260) (.tmp 262) 26 rfl (tb + 1) 88 iS _ 2 16 Tryz.underlying26 HIS.out.1 HIS.out.2.1 HIS.out.2.2.1 HIS.out.2.2.2 rfl (.slice a3 NN c3) NN _ rfl O4.out (.slice (some ⟨wu.heap.size, 0, none⟩) 1 1) rfl 1 _ HSR.out ?q3 ?q4 HB4.out ?_)
          case q3 => unfold maxLen; omega
          case q4 => omega
          intro v7 w7 hr7 hg7 hat7
          rw [← HW4.out] at hg7
          have HG7 := Lib.hid hg7
          have O7 := Lib.hid (show OffRow w7 (tb + 1) 88 2 v7 (NN + 1) (flat socell (LL ++ [y])) by
            rw [flat_append, flat_one]
            exact hr7)
          have V7 := Lib.hid (HV.out.grown K4.out hg7 (fun j hj => by have := (OffRow.lt HO.out j hj).1; omega))
          have HO07 := Lib.hid (off_other HO0.out HO.out (by decide) K4.out hg7)
          have V8 := Lib.hid (V7.out.set1 v7)
          have O8 := Lib.hid (off_set (i := 1) (b := B + 3) (u := v7) O7.out (by have := HV.out.lo; omega))
          have HO08 := Lib.hid (off_set (i := 1) (b := B + 3) (u := v7) HO07.out (by have := HV.out.lo; omega))
          obtain ⟨a7, cp7, hv7⟩ := OffRow.slice O7.out
          subst hv7
          obtain ⟨c0, c1, c2, c3⟩ := V7.out.out.c0
          have fz := V7.out.out.free 1
          clear hr7 hg7 hat7 O4 HSR
          have HNX := Lib.hid (show LL ++ [y] = s.stos.take (i + 1) by rw [HTK.out, HLL.out])
          have HLN := Lib.hid (show NN + 1 = (s.stos.take (i + 1)).length by rw [← HNX.out, List.length_append, ← HNN.out]; rfl)
          rw [HNX.out] at O8
          clear u0 u1
          clear s0 s1 s2 s3 e0 e1 e2 e3 e4 e5 p0 p1 p2 p3 pf
          go_wp2_with fail
          clear c0 c1 c2 c3 fz
          go_roundw
          case rel => exact ⟨i + 1, _, NN + 1, hlt, rfl, rfl, by go_num, V8, HLN, O8, HO08⟩
          case measure => simp [intOf]; omega
        · have hge : (ns : Int) ≤ (i : Int) := by omega
          have hin : s.stos.take i = s.stos := List.take_of_length_le (by have := HN.out.2.1; omega)
          have HO1 := Lib.hid (show OffRow wr (tb + 1) 88 2 (.slice a3 NN c3) (s.stos).length (flat socell (s.stos)) by
            have e2 : LL = s.stos := by rw [HLL.out, hin]
            rw [← e2, ← HNN.out]
            exact HO.out)
          obtain ⟨ov1, hov1⟩ : ∃ v : Value, v = .slice a3 NN c3 := ⟨_, rfl⟩
          rw [← hov1] at HO1 HV p1
          clear hov1 HO HNN hN9 hin
          go_wp2_with fail
          clear s0 s1 s2 s3 e0 e1 e2 e3 e4 e5 p0 p1 p2 p3 pf
          clear hge hlt hi
          go_loopw [8, 15] (fun fv iv wr => ∃ (i : Nat) (o2 : Value) (NN : Nat), i ≤ nl ∧ fv = .bool (hasI x.file (s.logs.take i)) ∧ iv = .int .i64 (i : Int) ∧ Hid (OneV B tb w (.slice ta nt tc) (.slice sa ns sc) (.slice la nl lc) nx x ov0 ov1 o2 wr) ∧ Hid (NN = ((s.logs.take i).filter fun t => decide (t ≠ x.file)).length) ∧ Hid (OffRow wr (tb + 1) 3 1 o2 NN (flat icell ((s.logs.take i).filter fun t => decide (t ≠ x.file)))) ∧ Hid (OffRow wr (tb + 1) 86 5 ov0 (s.tabs).length (flat tcell (s.tabs))) ∧ Hid (OffRow wr (tb + 1) 88 2 ov1 (s.stos).length (flat socell (s.stos)))) (fun fv iv wr => nl - (intOf iv).toNat)
          case atStart => exact ⟨0, _, 0, Nat.zero_le _, rfl, rfl, HV, Lib.hid rfl, Lib.hid (OffRow.nil _ _ _ _), HO0, HO1⟩
          clear HV HO0 HO1
          case round =>
            obtain ⟨i, o2, NN, hi, rfl, rfl, HV, HNN, HO, HO0, HO1⟩ := hrel
            obtain ⟨LL, hLL⟩ : ∃ LL, LL = (s.logs.take i).filter fun t => decide (t ≠ x.file) := ⟨_, rfl⟩
            rw [← hLL] at HNN HO
            have HLL := Lib.hid hLL
            have hN9 : NN ≤ 900000000 := by
              rw [HNN.out, hLL]
              have := List.length_filter_le (fun t : Int => decide (t ≠ x.file)) (s.logs.take i)
              rw [List.length_take] at this
              have := HN.out.2.2.1
              omega
            obtain ⟨a3, c3, rfl⟩ := OffRow.slice HO.out
            clear hLL
            obtain ⟨s0, s1, s2, s3⟩ := HV.out.st.c0
            obtain ⟨e0, e1, e2, e3, e4, e5⟩ := HV.out.ed.c
            rw [hk.out] at e0
            obtain ⟨p0, p1, p2, p3⟩ := HV.out.out.c0
            have pf := HV.out.out.free
            by_cases hlt : i < nl
            · have hlt' : (i : Int) < (nl : Int) := by omega
              obtain ⟨y, hy⟩ : ∃ y, s.logs[i]? = some y := ⟨_, List.getElem?_eq_getElem (by have := HN.out.2.2.1; omega)⟩
              obtain ⟨yb, yo, rfl, _, hb2, hc⟩ := RdL.atI HL.out hy hlt
              have y0 : wr.cell? ⟨yb, yo + i, none⟩ = some (.int .i64 y) := by
                have := hc 0 _ rfl
                simp only [Nat.mul_one, Nat.add_zero] at this
                rw [← this]
                simp only [World.cell?, HV.out.kp.block yb (by rw [HB.out]; exact hb2)]
              have HYB := Lib.hid (show yb < B from by rw [HB.out]; exact hb2)
              have HTK := Lib.hid (show s.logs.take (i + 1) = s.logs.take i ++ [y] by rw [List.take_add_one, hy]; rfl)
              clear hc hy
              by_cases hyf : y = x.file
              · have HNX := Lib.hid (show (s.logs.take (i + 1)).filter (fun t => decide (t ≠ x.file)) = LL by rw [HTK.out, HLL.out]; exact del_hit (g := id) hyf)
                have HFD := Lib.hid (show hasI x.file (s.logs.take (i + 1)) = true by rw [HTK.out]; simp [hasI, hyf])
                have q : (y == x.file) = true := by simpa using hyf
                clear hyf
                go_upto_region 42 with (fail)
                go_quiet (fail)
                have VQ := Lib.hid (HV.out.below (below_drewN (Below.refl _ _) nq))
                have OQ := Lib.hid (off_below HO.out (below_drewN (Below.refl _ _) nq))
                have OQ0 := Lib.hid (off_below HO0.out (below_drewN (Below.refl _ _) nq))
                have OQ1 := Lib.hid (off_below HO1.out (below_drewN (Below.refl _ _) nq))
                go_wp2
                go_roundw
                case rel => exact ⟨i + 1, _, NN, hlt, by rw [HFD.out], by go_num, VQ, by rw [HNX.out]; exact HNN, by rw [HNX.out]; exact OQ, OQ0, OQ1⟩
                case measure => simp [intOf]; omega
              · have HDM := Lib.hid (show (s.logs.take i).filter (fun t => decide (t ≠ x.file)) ++ [y] = (s.logs.take i ++ [y]).filter (fun t => decide (t ≠ x.file)) from (del_miss (g := id) hyf).symm)
                have HFD := Lib.hid (show hasI x.file (s.logs.take (i + 1)) = hasI x.file (s.logs.take i) by rw [HTK.out]; simp [hasI, hyf])
                have q : (y == x.file) = false := by simpa using hyf
                clear hyf
                go_upto_region 42 with (fail)
                go_quiet (fail)
                go_upto_region 44 with (fail)
                obtain ⟨wa, hwa⟩ : ∃ wa, wa = wr.drewN nq := ⟨_, rfl⟩
                have KA := Lib.hid (show Below wr.heap.size wr wa.drew by rw [hwa]; exact (below_drewN (Below.refl _ _) _).drew)
                rw [← hwa]
                clear s0 s1 s2 s3 e0 e1 e2 e3 e4 e5 p0 p1 p2 p3 pf
                clear hwa
                refine wp_region_any (by kernel_rfl) ?_
                change wpAny _ _ _ _ _ _ _ wa.drew
                obtain ⟨wb, hwb⟩ : ∃ wb, wb = wa.drew := ⟨_, rfl⟩
                rw [← hwb] at KA ⊢
                clear hwb
                replace HV := Lib.hid (HV.out.below KA.out)
                replace HO := Lib.hid (off_below HO.out KA.out)
                replace HO0 := Lib.hid (off_below HO0.out KA.out)
                replace HO1 := Lib.hid (off_below HO1.out KA.out)
                have HY0 := Lib.hid (show wb.cell? ⟨yb, yo + i, none⟩ = some (.int .i64 y) by rw [← y0]; simp only [World.cell?]; rw [KA.out.block yb (by have := HYB.out; have := HV.out.kp.size; have := HB.out; have := HV.out.lt; have := HV.out.lo; first | omega | exact cell_block y0)])
                clear y0 KA
                refine any_take (i := 0) (d := 297) (v := (.pointer (some ⟨B + 3, 2, none⟩))) rfl rfl (by kernel_rfl) (by kernel_rfl) (by kernel_rfl) (fun _ _ _ h => h) (Or.inl ⟨by rfl, ?_⟩) ?_
                · intro w'; go_simp
                try go_frame
                refine any_take (i := 2) (d := 299) (v := (.pointer (some ⟨B, 2, none⟩))) rfl rfl (by kernel_rfl) (by kernel_rfl) (by kernel_rfl) (fun _ _ _ h => h) (Or.inl ⟨by rfl, ?_⟩) ?_
                · intro w'; go_simp
                try go_frame
                refine any_take (i := 4) (d := 301) (v := (.int .i64 (i : Int))) rfl rfl (by kernel_rfl) (by kernel_rfl) (by kernel_rfl) (fun _ _ _ h => h) (Or.inl ⟨by rfl, ?_⟩) ?_
                · intro w'; go_simp
                try go_frame
                refine wpAny_late (i := 1) (d := 298) (v := .slice a3 NN c3) (fun W => Below wb.heap.size wb W) (fun j => j == 8 || j == 9 || j == 10) rfl rfl (by kernel_rfl) (by kernel_rfl) (by kernel_rfl) (by kernel_rfl) (fun _ _ _ h => h) (Or.inl ⟨by rfl, ?_⟩) (Below.refl _ _) ?_
                · intro w' hw'
                  obtain ⟨_, _, q2, _⟩ := (HV.out.below hw').out.c0
                  go_simp
                try go_frame
                refine wpAnyE_ready (rs := [3]) (by kernel_rfl) (by simp) (AllE.cons rfl (fun K hK => ?_) AllE.nil)
                obtain ⟨_, _, q2, _⟩ := HV.out.st.c0
                go_simp
                refine hK.out _ _ (fun _ => Below.refl _ _) (fun _ => ?_)
                clear hK K q2
                try go_frame
                refine wpAnyE_ready (rs := [5]) (by kernel_rfl) (by simp) (AllE.cons rfl (fun K hK => ?_) AllE.nil)
                go_simp
                refine hK.out _ _ (fun _ => Below.refl _ _) (fun _ => ?_)
                clear hK K
                try go_frame
                refine wpAnyE_ready (rs := [6]) (by kernel_rfl) (by simp) (AllE.cons rfl (fun K hK => ?_) AllE.nil)
                have y0 := HY0.out
                go_simp
                refine hK.out _ _ (fun _ => Below.refl _ _) (fun _ => ?_)
                clear hK K y0
                try go_frame
                refine wpAnyE_ready (rs := [7]) (by kernel_rfl) (by simp) (AllE.cons rfl (fun K hK => ?_) AllE.nil)
                go_simp
                obtain ⟨w4, hw4⟩ : ∃ w4, w4 = wb.alloc (.cells #[.int .i64 y] 3) := ⟨_, rfl⟩
                have K4 := Lib.hid (show Below wb.heap.size wb w4 by rw [hw4]; exact (Below.refl _ _).alloc (Nat.le_refl _) _)
                have O4 := Lib.hid (off_below HO.out K4.out)
                have HSR := Lib.hid (show Src Tryz.prog 1 27 (.slice (some ⟨wb.heap.size, 0, none⟩) 1 1) 1 (icell y) w4 by
                  have hb : w4.heap[wb.heap.size]? = some (.cells #[.int .i64 y] 3 (0, 0)) := by
                    rw [hw4]
                    exact heap_new wb _
                  exact src_block (size := 1) (cs := #[.int .i64 y]) Tryz.underlying27 hb 1 1 rfl (icell_one y))
                have HB4 := Lib.hid (show tb + 1 ≤ w4.heap.size by have := K4.out.size; have := HV.out.lt; omega)
                rw [← hw4]
                refine hK.out _ _ (fun _ => K4.out) (fun _ => ?_)
                clear hK K hw4
                try go_frame
                refine wpAnyE_ready (rs := [8]) (by kernel_rfl) (by simp) (AllE.cons rfl (fun K hK => ?_) AllE.nil)
                rw [if_pos (by rfl)]
                refine wp_append_off (.tmp 298) (.tmp 304) 27 rfl (tb + 1) 3 iI _ 1 8 Tryz.underlying27 HII.out.1 HII.out.2.1 HII.out.2.2.1 HII.out.2.2.2 rfl (.slice a3 NN c3) NN _ rfl O4.out (.slice (some ⟨wb.heap.size, 0, none⟩) 1 1) rfl 1 _ HSR.out ?q3 ?q4 HB4.out ?_
                case q3 => unfold maxLen; omega
                case q4 => omega
                intro v7 w7 hr7 hg7 hat7
                have O7 := Lib.hid (show OffRow w7 (tb + 1) 3 1 v7 (NN + 1) (flat icell (LL ++ [y])) by
                  rw [flat_append, flat_one]
                  exact hr7)
                have V7 := Lib.hid (HV.out.grown K4.out hg7 (fun j hj => by have := (OffRow.lt HO.out j hj).1; omega))
                have HO07 := Lib.hid (off_other HO0.out HO.out (by decide) K4.out hg7)
                have HO17 := Lib.hid (off_other HO1.out HO.out (by decide) K4.out hg7)
                have V8 := Lib.hid (V7.out.set2 v7)
                have O8 := Lib.hid (off_set (i := 2) (b := B + 3) (u := v7) O7.out (by have := HV.out.lo; omega))
                have HO08 := Lib.hid (off_set (i := 2) (b := B + 3) (u := v7) HO07.out (by have := HV.out.lo; omega))
                have HO18 := Lib.hid (off_set (i := 2) (b := B + 3) (u := v7) HO17.out (by have := HV.out.lo; omega))
                obtain ⟨a7, cp7, hv7⟩ := OffRow.slice O7.out
                subst hv7
                refine hK.out _ _ (fun h => absurd h (by decide)) (fun _ => ?_)
                clear hK K hr7 hg7 hat7 O4 HSR
                try go_frame
                refine wpAnyE_ready (rs := [9]) (by kernel_rfl) (by simp) (AllE.cons rfl (fun K hK => ?_) AllE.nil)
                go_simp
                refine hK.out _ _ (fun h => absurd h (by decide)) (fun _ => ?_)
                clear hK K
                try go_frame
                refine wpAnyE_ready (rs := [10]) (by kernel_rfl) (by simp) (AllE.cons rfl (fun K hK => ?_) AllE.nil)
                obtain ⟨c0, c1, c2, c3'⟩ := V7.out.out.c0
                have fz := V7.out.out.free 2
                go_simp
                refine hK.out _ _ (fun h => absurd h (by decide)) (fun _ => ?_)
                clear hK K c0 c1 c2 c3' fz
                try go_frame
                refine wpAnyE_done (by kernel_rfl) ?_ _
                have HNX := Lib.hid (show LL ++ [y] = (s.logs.take (i + 1)).filter fun t => decide (t ≠ x.file) by rw [HTK.out, HLL.out]; exact HDM.out)
                have HLN := Lib.hid (show NN + 1 = ((s.logs.take (i + 1)).filter fun t => decide (t ≠ x.file)).length by rw [← HNX.out, List.length_append, ← HNN.out]; rfl)
                rw [HNX.out] at O8
                go_wp2
                go_roundw
                case rel => exact ⟨i + 1, _, NN + 1, hlt, by rw [HFD.out], by go_num, V8, HLN, O8, HO08, HO18⟩
                case measure => simp [intOf]; omega
            · have hge : (nl : Int) ≤ (i : Int) := by omega
              have hin : s.logs.take i = s.logs := List.take_of_length_le (by have := HN.out.2.2.1; omega)
              have HO2 := Lib.hid (show OffRow wr (tb + 1) 3 1 (.slice a3 NN c3) ((s.logs.filter fun t => decide (t ≠ x.file))).length (flat icell ((s.logs.filter fun t => decide (t ≠ x.file)))) by have := HO.out; rw [HNN.out, HLL.out, hin] at this; rw [HNN.out, HLL.out, hin]; exact this)
              have HNL := Lib.hid (show NN = ((s.logs.filter fun t => decide (t ≠ x.file))).length by rw [HNN.out, HLL.out, hin])
              obtain ⟨F, hF⟩ : ∃ F, F = hasI x.file s.logs := ⟨_, rfl⟩
              have HF := Lib.hid hF
              rw [hin, ← hF]
              clear hF
              clear hin
              obtain ⟨oa0, oc0, hv0⟩ := OffRow.slice HO0.out
              subst hv0
              obtain ⟨oa1, oc1, hv1⟩ := OffRow.slice HO1.out
              subst hv1
              have HMEM := Lib.hid (show x.file ∈ s.logs ↔ hasI x.file s.logs = true by simp [hasI])
              cases F with
              | true =>
                have EZ := Lib.hid (show z = 0 by rw [← HZ.out]; unfold oneE; rw [if_neg (by rw [hk.out]; decide)]; rw [if_neg (by rw [hk.out]; decide)]; rw [if_neg (by rw [hk.out]; decide)]; rw [if_neg (by rw [hk.out]; decide)]; rw [if_neg (by rw [hk.out]; decide)]; rw [if_pos hk.out]; rw [if_pos (HMEM.out.2 HF.out.symm)])
                have ES := Lib.hid (show oneS s x = { s with logs := s.logs.filter fun f => decide (f ≠ x.file) } by unfold oneS; rw [if_neg (by rw [hk.out]; decide)]; rw [if_neg (by rw [hk.out]; decide)]; rw [if_neg (by rw [hk.out]; decide)]; rw [if_neg (by rw [hk.out]; decide)]; rw [if_neg (by rw [hk.out]; decide)]; rw [if_pos hk.out])
                obtain ⟨r0, r1, r2, r3⟩ := HV.out.rs.c0
                have rf := HV.out.rs.free
                go_wp2
                refine bodyPost_ret (results_st2 rfl _ _ (B + 2) _ _ _ _ _ rfl rfl (HV.out.rs.put _ _ _ _)) rfl ?_
                refine ⟨_, _, _, _, _, _, _, _, _, _, by rw [HZ.out, EZ.out]; rfl, fun _ => ⟨by rw [ES.out, HN.out.2.2.2], ?_⟩, by rw [← HB.out]; exact below_put4 HV.out.kp (by omega) _ _ _ _⟩
                rw [← HB.out, ES.out]
                have hlo := HV.out.lo
                refine ⟨?_, ?_, ?_⟩
                · exact own_mono (off_set (off_set (off_set (off_set HO0.out (by omega)) (by omega)) (by omega)) (by omega)) (by omega)
                · exact own_mono (off_set (off_set (off_set (off_set HO1.out (by omega)) (by omega)) (by omega)) (by omega)) (by omega)
                · exact own_mono (off_set (off_set (off_set (off_set HO2.out (by omega)) (by omega)) (by omega)) (by omega)) (by omega)
              | false =>
                have EZ := Lib.hid (show z = 9 by rw [← HZ.out]; unfold oneE; rw [if_neg (by rw [hk.out]; decide)]; rw [if_neg (by rw [hk.out]; decide)]; rw [if_neg (by rw [hk.out]; decide)]; rw [if_neg (by rw [hk.out]; decide)]; rw [if_neg (by rw [hk.out]; decide)]; rw [if_pos hk.out]; rw [if_neg (fun hh => by have := HMEM.out.1 hh; rw [← HF.out] at this; cases this)])
                obtain ⟨r0, r1, r2, r3⟩ := HV.out.rs.c0
                have rf := HV.out.rs.free
                go_wp2
                refine bodyPost_ret (results_st2 rfl _ _ (B + 2) _ _ _ _ _ rfl rfl (HV.out.rs.put _ _ _ _)) rfl ?_
                exact ⟨_, _, _, _, _, _, _, _, _, _, by rw [HZ.out, EZ.out]; rfl, fun hq => absurd (HZ.out.symm.trans hq) (by rw [EZ.out]; decide), by rw [← HB.out]; exact below_put4 HV.out.kp (by omega) _ _ _ _⟩
end Go.Proofs.YtljjielekgilpaaGreat
