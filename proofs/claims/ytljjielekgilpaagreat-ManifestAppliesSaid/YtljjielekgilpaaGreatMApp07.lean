/- Texts put together: ManCloneI, ManFiles, ManCloneT, ManCloneS, ManCopyOf, ManSrtT, ManSrtS, ManDraftOf, ManAtE, ManRdX -/
import Derived.Test.YtljjielekgilpaaGreatMApp01
import Derived.Test.YtljjielekgilpaaGreatMApp05
import Derived.Test.YtljjielekgilpaaGreatMApp03
import Derived.Test.YtljjielekgilpaaGreatMApp02
import Derived.Test.YtljjielekgilpaaGreatMApp06
/- A list's copy. -/
set_option linter.unusedVariables false
set_option maxRecDepth 100000
namespace Go.Proofs.YtljjielekgilpaaGreat
open Go.RowKit
theorem clone_I {T : Nat → Prop} {v : Value} {L : List Int} {w : World} (h : RdL T w v L.length (flat icell L)) (hn : L.length ≤ 1000000000) :
    Calls Tryz.prog 40 #[v] w fun e w' => ∃ v', e = .returned v' ∧ OwnI w' w.heap.size v' L ∧ Below w.heap.size w w' := by
  obtain ⟨a, cap, rfl, hmx, h⟩ := h
  obtain ⟨i0, hi0, hz0, hz1, hz2⟩ := info_parts infoInt
  rcases h with ⟨rfl, h0, h1⟩ | ⟨b, off, rfl, ht, hb, hc⟩
  · refine (AnyE.slices_Clone_nil Tryz.cloneI L.length cap w).mono ?_
    rintro e w' ⟨rfl, rfl⟩
    refine ⟨_, rfl, ?_, Below.refl _ _⟩
    unfold OwnI
    rw [h0, h1]
    exact OffRow.nil _ _ _ _
  · refine (AnyE.slices_Clone Tryz.cloneI i0 _ 1 8 hi0 hz0 hz1 hz2 rfl (by omega) Tryz.sizeOf3 b off L.length cap (flat icell L) w (flat_len icell_len L) hmx (by omega) hc (flat_one' icell_one L)).mono ?_
    rintro e w' ⟨v', rfl, ho, _, k⟩
    exact ⟨v', rfl, OffRow.of_own ho, k⟩
end Go.Proofs.YtljjielekgilpaaGreat
/- The files of a state. -/
set_option linter.unusedVariables false
set_option maxRecDepth 100000
namespace Go.Proofs.YtljjielekgilpaaGreat
open Go.RowKit

/-- A state by value: its lists read. -/
structure StV (T : Nat → Prop) (w : World) (tv sv lv : Value) (s : St) : Prop where
  tabs : RdL T w tv s.tabs.length (flat tcell s.tabs)
  stos : RdL T w sv s.stos.length (flat socell s.stos)
  logs : RdL T w lv s.logs.length (flat icell s.logs)
theorem StV.below {T : Nat → Prop} {w w' : World} {tv sv lv : Value} {s : St} (h : StV T w tv sv lv s) (k : Below w.heap.size w w') : StV T w' tv sv lv s := ⟨h.tabs.below k, h.stos.below k, h.logs.below k⟩
theorem StV.mono {T T' : Nat → Prop} {w : World} {tv sv lv : Value} {s : St} (h : StV T w tv sv lv s) (hT : ∀ b, b < w.heap.size → T b → T' b) : StV T' w tv sv lv s := ⟨h.tabs.mono hT, h.stos.mono hT, h.logs.mono hT⟩
/-- One number more behind a list of the call's own. -/
theorem own_push {B : Nat} {w' : World} {v : Value} {L : List Int} {f : Int} (h : OffRow w' B 3 1 v (L.length + 1) (flat icell L ++ [.int .i64 f])) : OwnI w' B v (L ++ [f]) := by
  unfold OwnI
  rw [List.length_append, flat_append, flat_one]
  exact h
def filesOf (s : St) : List Int := sortI (s.logs ++ s.tabs.map (·.file) ++ s.stos.map (·.file))
set_option maxHeartbeats 4000000 in
theorem man_Files {T : Nat → Prop} {w : World} {tv sv lv : Value} {s : St} (h : Hid (StV T w tv sv lv s)) (hs : Hid (s.tabs.length + s.stos.length + s.logs.length ≤ 1000000000)) :
    Calls Tryz.prog 15 #[.agg #[tv, sv, lv, .int .i64 s.next]] w fun e w' => ∃ v', e = .returned v' ∧ RdL (fun b => w.heap.size ≤ b) w' v' (filesOf s).length (flat icell (filesOf s)) ∧ Below w.heap.size w w' := by
  obtain ⟨B, hB⟩ : ∃ B, B = w.heap.size := ⟨_, rfl⟩
  rw [← hB]
  have HB := Lib.hid hB
  obtain ⟨nt, hnt⟩ : ∃ n, n = s.tabs.length := ⟨_, rfl⟩
  obtain ⟨ns, hns⟩ : ∃ n, n = s.stos.length := ⟨_, rfl⟩
  obtain ⟨w1, hw1⟩ : ∃ w1, w.alloc (.cells #[tv, sv, lv, .int .i64 s.next] 29) = w1 := ⟨_, rfl⟩
  have K1 := Lib.hid (show Below B w w1 by rw [← hw1, hB]; exact (Below.refl _ _).alloc (Nat.le_refl _) _)
  have S1 := Lib.hid (h.out.below (HB.out ▸ K1.out))
  have X1 := Lib.hid (show w1.heap[B]? = some (.cells #[tv, sv, lv, .int .i64 s.next] 29 (0, 0)) by rw [← hw1, hB]; exact heap_new w _)
  have HW1 := Lib.hid hw1
  have c2 : w1.cell? ⟨B, 2, none⟩ = some lv := by simp [World.cell?, X1.out]
  obtain ⟨ta, tc, ht⟩ := RdL.slice S1.out.tabs
  obtain ⟨sa, sc, hsv⟩ := RdL.slice S1.out.stos
  obtain ⟨la, lc, hlv⟩ := RdL.slice S1.out.logs
  rw [← hnt] at ht
  rw [← hns] at hsv
  subst ht hsv hlv
  have HNT := Lib.hid hnt
  have HNS := Lib.hid hns
  have HC := Lib.hid (clone_I S1.out.logs (by have := hs.out; omega))
  obtain ⟨i0, hi0, hz0, hz1, hz2⟩ := info_parts infoInt
  have HI := Lib.hid (And.intro hi0 (And.intro hz0 (And.intro hz1 hz2)))
  have hnt9 : nt ≤ 1000000000 := by have := hs.out; omega
  have hns9 : ns ≤ 1000000000 := by have := hs.out; omega
  obtain ⟨FT, hFT⟩ : ∃ FT, FT = s.tabs.map (·.file) := ⟨_, rfl⟩
  obtain ⟨FS, hFS⟩ : ∃ FS, FS = s.stos.map (·.file) := ⟨_, rfl⟩
  have HFL := Lib.hid (show FT.length = s.tabs.length ∧ FS.length = s.stos.length by rw [hFT, hFS]; simp)
  have HFT := Lib.hid hFT
  have HFS := Lib.hid hFS
  clear hFT hFS
  clear hw1 hB hnt hns hi0 hz0 hz1 hz2
  go_enter Tryz.func15, Tryz.ntmps15
  go_upto_region 1 with (fail)
  rw [HW1.out, ← HB.out]
  go_wp2_with fail
  refine HC.out.mono ?_
  rintro e w2 ⟨v2, rfl, o2, k2⟩
  have O2 := Lib.hid (show OwnI w2 B v2 s.logs from by
    have := o2
    unfold OwnI at this ⊢
    rcases this with ⟨x, y | ⟨g, off, cap, cur, a1, a2, a3⟩⟩
    · exact ⟨x, .inl y⟩
    · exact ⟨x, .inr ⟨g, off, cap, cur, a1, Nat.le_trans (by have := K1.out.size; have := HB.out; omega) a2, a3⟩⟩)
  have K2 := Lib.hid (K1.out.trans (k2.mono (by have := K1.out.size; have := HB.out; omega)))
  have S2 := Lib.hid (S1.out.below k2)
  have X2 := Lib.hid ((k2.block B (heap_lt X1.out)).trans X1.out)
  have c0 : w2.cell? ⟨B, 0, none⟩ = some (.slice ta nt tc) := by simp [World.cell?, X2.out]
  have HTB := Lib.hid (show RdL T w (.slice ta nt tc) nt (flat tcell s.tabs) by have := h.out.tabs; rw [← HNT.out] at this; exact this)
  have HSB := Lib.hid (show RdL T w (.slice sa ns sc) ns (flat socell s.stos) by have := h.out.stos; rw [← HNS.out] at this; exact this)
  clear o2 k2 c2 S1 X1 K1
  go_wp2_with fail
  go_loopw [3, 14] (fun v iv wr => ∃ i : Nat, i ≤ nt ∧ iv = .int .i64 (i : Int) ∧ Hid (OwnI wr B v (s.logs ++ FT.take i)) ∧ Hid (wr.heap[B]? = some (.cells #[.slice ta nt tc, .slice sa ns sc, .slice la s.logs.length lc, .int .i64 s.next] 29 (0, 0)) ∧ Below B w wr)) (fun v iv wr => nt - (intOf iv).toNat)
  case atStart => exact ⟨0, Nat.zero_le _, rfl, Lib.hid (by simpa using O2.out), Lib.hid ⟨X2.out, K2.out⟩⟩
  case round =>
    obtain ⟨i, hi, rfl, hO, hK⟩ := hrel
    obtain ⟨N, hN⟩ : ∃ N, N = (s.logs ++ FT.take i).length := ⟨_, rfl⟩
    have hN9 : N ≤ 1000000000 := by
      rw [hN]
      simp only [List.length_append, List.length_take]
      have := hs.out; have := HNT.out; have := HNS.out; have := HFL.out
      omega
    have HNN := Lib.hid hN
    have HO := Lib.hid (show OffRow wr B 3 1 _ N (flat icell (s.logs ++ FT.take i)) by have := hO.out; unfold OwnI at this; rw [← hN] at this; exact this)
    obtain ⟨a3, c3, rfl⟩ := OffRow.slice HO.out
    clear hN hO
    by_cases hlt : i < nt
    · have hlt' : (i : Int) < (nt : Int) := by omega
      obtain ⟨y, hy⟩ : ∃ y, s.tabs[i]? = some y := ⟨_, List.getElem?_eq_getElem (by have := HNT.out; omega)⟩
      obtain ⟨b, off, rfl, ht, hb2, hc⟩ := RdL.atT HTB.out hy hlt
      have hcr : ∀ i' u, (tcell y)[i']? = some u → wr.cell? ⟨b, off + i * 5 + i', none⟩ = some u := fun i' u hu => by
        rw [← hc i' u hu]
        simp only [World.cell?, hK.out.2.block b (by rw [HB.out]; exact hb2)]
      have y0 : wr.cell? ⟨b, off + i * 5, none⟩ = _ := hcr 0 _ rfl
      have y1 := hcr 1 _ rfl
      have y2 := hcr 2 _ rfl
      have y3 := hcr 3 _ rfl
      have y4 := hcr 4 _ rfl
      have HNX := Lib.hid (show s.logs ++ FT.take (i + 1) = s.logs ++ FT.take i ++ [y.file] by
        have hF : FT[i]? = some y.file := by rw [HFT.out, List.getElem?_map, hy]; rfl
        rw [List.take_add_one, hF, List.append_assoc]
        rfl)
      clear hc hcr hy
      obtain ⟨w4, hw4⟩ : ∃ w4, w4 = (wr.alloc (.cells #[.int .i64 y.file, .int .i64 y.lev, .int .i64 y.cnt, .string (bs y.low), .string (bs y.high)] 86)).alloc (.cells #[.int .i64 y.file] 3) := ⟨_, rfl⟩
      have O4 := Lib.hid (show OffRow w4 B 3 1 (.slice a3 N c3) N (flat icell (s.logs ++ FT.take i)) by rw [hw4]; exact (HO.out.allocd _).allocd _)
      have K4 := Lib.hid (show Below wr.heap.size wr w4 by rw [hw4]; exact ((Below.refl _ _).alloc (Nat.le_refl _) _).alloc (by simp) _)
      have HSR := Lib.hid (show Src Tryz.prog 1 27 (.slice (some ⟨wr.heap.size + 1, 0, none⟩) 1 1) 1 [.int .i64 y.file] w4 by
        have hb : w4.heap[wr.heap.size + 1]? = some (.cells #[.int .i64 y.file] 3 (0, 0)) := by
          rw [hw4]
          have := heap_new (wr.alloc (.cells #[.int .i64 y.file, .int .i64 y.lev, .int .i64 y.cnt, .string (bs y.low), .string (bs y.high)] 86)) (.cells #[.int .i64 y.file] 3)
          simpa using this
        exact src_block (size := 1) (cs := #[.int .i64 y.file]) Tryz.underlying27 hb 1 1 rfl (by intro u hu; simp at hu; subst hu; rfl))
      have HB4 := Lib.hid (show B ≤ w4.heap.size by have := K4.out.size; have := hK.out.2.size; have := HB.out; omega)
      rw [hw4] at O4 HSR HB4
      have HW4 := Lib.hid hw4
      clear hw4
      go_wp2_with (at_builtin; refine wpList_append_off rfl (.tmp 18) (.tmp 21) 27 rfl B 3 i0 _ 1 8 Tryz.underlying27 HI.out.1 HI.out.2.1 HI.out.2.2.1 HI.out.2.2.2 rfl (.slice a3 N c3) N _ rfl O4.out (.slice (some ⟨wr.heap.size + 1, 0, none⟩) 1 1) rfl 1 _ HSR.out ?q3 ?q4 HB4.out ?_)
      case q3 => unfold maxLen; omega
      case q4 => omega
      intro v7 w7 hr7 hg7 hat7
      rw [← HW4.out] at hg7
      have O7 := Lib.hid (show OwnI w7 B v7 (s.logs ++ FT.take (i + 1)) by rw [HNX.out]; exact own_push (by rw [← HNN.out]; exact hr7))
      have K7 := Lib.hid ((hK.out.2.trans (K4.out.mono (by have := hK.out.2.size; have := HB.out; omega))).grown hg7 (by rw [HW4.out]; exact HB4.out) (fun j hj => (OffRow.lt HO.out j hj).1))
      have J7 := Lib.hid (
        (hg7.block B (Nat.lt_of_lt_of_le (heap_lt hK.out.1) K4.out.size) (fun e => by
          obtain ⟨cur, hc⟩ := OffRow.tag HO.out e.symm
          rw [hK.out.1] at hc
          simp at hc)).trans ((K4.out.block B (heap_lt hK.out.1)).trans hK.out.1))
      clear hr7 hg7 hat7 y0 O4 HSR
      go_wp2_with fail
      go_roundw
      case rel => exact ⟨i + 1, hlt, by go_num, O7, Lib.hid ⟨J7.out, K7.out⟩⟩
      case measure => simp [intOf]; omega
    · obtain rfl : i = nt := by omega
      obtain ⟨nq, hnq⟩ : ∃ nq, nq = i := ⟨_, rfl⟩
      subst hnq
      obtain ⟨PRE, hPRE⟩ : ∃ PRE, PRE = s.logs ++ FT := ⟨_, rfl⟩
      have HPRE := Lib.hid hPRE
      clear hPRE
      have HPL := Lib.hid (show PRE.length = s.logs.length + s.tabs.length by rw [HPRE.out, List.length_append, HFL.out.1])
      have O5 := Lib.hid (show OwnI wr B (.slice a3 N c3) (PRE ++ FS.take 0) by
        rw [HPRE.out]
        have := HO.out
        rw [List.take_of_length_le (show FT.length ≤ nq by have := HFL.out; have := HNT.out; omega)] at this HNN
        rw [List.take_zero, List.append_nil]
        unfold OwnI
        rw [← HNN.out]
        exact this)
      have c1 : wr.cell? ⟨B, 1, none⟩ = some (.slice sa ns sc) := by simp [World.cell?, hK.out.1]
      have HK5 := hK
      obtain ⟨wo, hwo⟩ : ∃ wo, wo = wr := ⟨_, rfl⟩
      subst hwo
      clear hK HO HNN
      go_wp2_with fail
      go_loopw [3, 27] (fun v iv wq => ∃ i : Nat, i ≤ ns ∧ iv = .int .i64 (i : Int) ∧ Hid (OwnI wq B v (PRE ++ FS.take i)) ∧ Hid (wq.heap[B]? = some (.cells #[.slice ta nq tc, .slice sa ns sc, .slice la s.logs.length lc, .int .i64 s.next] 29 (0, 0)) ∧ Below B w wq)) (fun v iv wq => ns - (intOf iv).toNat)
      case atStart => exact ⟨0, Nat.zero_le _, rfl, O5, HK5⟩
      case round =>
        obtain ⟨i, hi, rfl, hO, hK⟩ := hrel
        obtain ⟨N, hN⟩ : ∃ N, N = (PRE ++ FS.take i).length := ⟨_, rfl⟩
        have hN9 : N ≤ 1000000000 := by
          rw [hN]
          simp only [List.length_append, List.length_take]
          have := HPL.out; have := hs.out; have := HNT.out; have := HNS.out; have := HFL.out
          omega
        have HNN := Lib.hid hN
        have HO := Lib.hid (show OffRow wr B 3 1 _ N (flat icell (PRE ++ FS.take i)) by have := hO.out; unfold OwnI at this; rw [← hN] at this; exact this)
        obtain ⟨a3, c3, rfl⟩ := OffRow.slice HO.out
        clear hN hO
        by_cases hlt : i < ns
        · have hlt' : (i : Int) < (ns : Int) := by omega
          obtain ⟨y, hy⟩ : ∃ y, s.stos[i]? = some y := ⟨_, List.getElem?_eq_getElem (by have := HNS.out; omega)⟩
          obtain ⟨b, off, rfl, ht, hb2, hc⟩ := RdL.atS HSB.out hy hlt
          have hcr : ∀ i' u, (socell y)[i']? = some u → wr.cell? ⟨b, off + i * 2 + i', none⟩ = some u := fun i' u hu => by
            rw [← hc i' u hu]
            simp only [World.cell?, hK.out.2.block b (by rw [HB.out]; exact hb2)]
          have y0 : wr.cell? ⟨b, off + i * 2, none⟩ = _ := hcr 0 _ rfl
          have y1 := hcr 1 _ rfl
          have HNX := Lib.hid (show PRE ++ FS.take (i + 1) = PRE ++ FS.take i ++ [y.file] by
            have hF : FS[i]? = some y.file := by rw [HFS.out, List.getElem?_map, hy]; rfl
            rw [List.take_add_one, hF, List.append_assoc]
            rfl)
          clear hc hcr hy
          obtain ⟨w4, hw4⟩ : ∃ w4, w4 = (wr.alloc (.cells #[.int .i64 y.file, .int .i64 y.tier] 88)).alloc (.cells #[.int .i64 y.file] 3) := ⟨_, rfl⟩
          have O4 := Lib.hid (show OffRow w4 B 3 1 (.slice a3 N c3) N (flat icell (PRE ++ FS.take i)) by rw [hw4]; exact (HO.out.allocd _).allocd _)
          have K4 := Lib.hid (show Below wr.heap.size wr w4 by rw [hw4]; exact ((Below.refl _ _).alloc (Nat.le_refl _) _).alloc (by simp) _)
          have HSR := Lib.hid (show Src Tryz.prog 1 27 (.slice (some ⟨wr.heap.size + 1, 0, none⟩) 1 1) 1 [.int .i64 y.file] w4 by
            have hb : w4.heap[wr.heap.size + 1]? = some (.cells #[.int .i64 y.file] 3 (0, 0)) := by
              rw [hw4]
              have := heap_new (wr.alloc (.cells #[.int .i64 y.file, .int .i64 y.tier] 88)) (.cells #[.int .i64 y.file] 3)
              simpa using this
            exact src_block (size := 1) (cs := #[.int .i64 y.file]) Tryz.underlying27 hb 1 1 rfl (by intro u hu; simp at hu; subst hu; rfl))
          have HB4 := Lib.hid (show B ≤ w4.heap.size by have := K4.out.size; have := hK.out.2.size; have := HB.out; omega)
          rw [hw4] at O4 HSR HB4
          have HW4 := Lib.hid hw4
          clear hw4
          go_wp2_with (at_builtin; refine wpList_append_off rfl (.tmp 31) (.tmp 34) 27 rfl B 3 i0 _ 1 8 Tryz.underlying27 HI.out.1 HI.out.2.1 HI.out.2.2.1 HI.out.2.2.2 rfl (.slice a3 N c3) N _ rfl O4.out (.slice (some ⟨wr.heap.size + 1, 0, none⟩) 1 1) rfl 1 _ HSR.out ?q3 ?q4 HB4.out ?_)
          case q3 => unfold maxLen; omega
          case q4 => omega
          intro v7 w7 hr7 hg7 hat7
          rw [← HW4.out] at hg7
          have O7 := Lib.hid (show OwnI w7 B v7 (PRE ++ FS.take (i + 1)) by rw [HNX.out]; exact own_push (by rw [← HNN.out]; exact hr7))
          have K7 := Lib.hid ((hK.out.2.trans (K4.out.mono (by have := hK.out.2.size; have := HB.out; omega))).grown hg7 (by rw [HW4.out]; exact HB4.out) (fun j hj => (OffRow.lt HO.out j hj).1))
          have J7 := Lib.hid (
            (hg7.block B (Nat.lt_of_lt_of_le (heap_lt hK.out.1) K4.out.size) (fun e => by
              obtain ⟨cur, hc⟩ := OffRow.tag HO.out e.symm
              rw [hK.out.1] at hc
              simp at hc)).trans ((K4.out.block B (heap_lt hK.out.1)).trans hK.out.1))
          clear hr7 hg7 hat7 y0 O4 HSR
          go_wp2_with fail
          go_roundw
          case rel => exact ⟨i + 1, hlt, by go_num, O7, Lib.hid ⟨J7.out, K7.out⟩⟩
          case measure => simp [intOf]; omega
        · obtain rfl : i = ns := by omega
          have HFULL := Lib.hid (show PRE ++ FS.take i = s.logs ++ s.tabs.map (·.file) ++ s.stos.map (·.file) by
            rw [List.take_of_length_le (show FS.length ≤ i by have := HFL.out; have := HNS.out; omega), HPRE.out, HFT.out, HFS.out])
          have O6 := Lib.hid (show OwnI wr B (.slice a3 N c3) (PRE ++ FS.take i) by unfold OwnI; rw [← HNN.out]; exact HO.out)
          have HSO := Lib.hid (sort_I O6.out (by rw [← HNN.out]; exact hN9))
          have HLEN := Lib.hid (show (filesOf s).length = N by unfold filesOf sortI; rw [List.length_mergeSort, ← HFULL.out, ← HNN.out])
          clear HO O6
          go_wp2_with fail
          refine HSO.out.mono ?_
          rintro e w8 ⟨rfl, g8, r8⟩
          have R8 := Lib.hid (show RdL (fun b => B ≤ b) w8 (.slice a3 N c3) (filesOf s).length (flat icell (filesOf s)) by rw [HLEN.out]; unfold filesOf; rw [← HFULL.out]; rw [← HNN.out] at r8; exact r8)
          have K8 := Lib.hid (hK.out.2.grown g8 (by have := hK.out.2.size; have := HB.out; omega) (fun j hj => by
            have : RdL (fun b => B ≤ b) w8 (.slice a3 N c3) (filesOf s).length (flat icell (filesOf s)) := R8.out
            obtain ⟨a', c', e, _, h5⟩ := this
            injection e with e1 e2 e3
            subst e1
            rcases h5 with ⟨h6, _, _⟩ | ⟨b6, o6, h6, h7, _⟩
            · rw [h6] at hj; simp [Value.ownBlock] at hj
            · rw [h6] at hj; simp [Value.ownBlock] at hj; rw [← hj]; exact h7))
          clear g8 r8 HSO
          go_wp2
          go_ret
          exact ⟨_, rfl, R8.out, K8.out⟩
end Go.Proofs.YtljjielekgilpaaGreat
/- A list's copy. -/
set_option linter.unusedVariables false
set_option maxRecDepth 100000
namespace Go.Proofs.YtljjielekgilpaaGreat
open Go.RowKit
theorem clone_T {T : Nat → Prop} {v : Value} {L : List Tb} {w : World} (h : RdL T w v L.length (flat tcell L)) (hn : L.length ≤ 1000000000) :
    Calls Tryz.prog 112 #[v] w fun e w' => ∃ v', e = .returned v' ∧ OwnTb w' w.heap.size v' L ∧ Below w.heap.size w w' := by
  obtain ⟨a, cap, rfl, hmx, h⟩ := h
  obtain ⟨i0, hi0, hz0, hz1, hz2⟩ := info_parts infoTb
  rcases h with ⟨rfl, h0, h1⟩ | ⟨b, off, rfl, ht, hb, hc⟩
  · refine (AnyE.slices_Clone_nil Tryz.cloneT L.length cap w).mono ?_
    rintro e w' ⟨rfl, rfl⟩
    refine ⟨_, rfl, ?_, Below.refl _ _⟩
    unfold OwnTb
    rw [h0, h1]
    exact OffRow.nil _ _ _ _
  · refine (AnyE.slices_Clone Tryz.cloneT i0 _ 5 56 hi0 hz0 hz1 hz2 rfl (by omega) Tryz.sizeOf86 b off L.length cap (flat tcell L) w (flat_len tcell_len L) hmx (by omega) hc (flat_one' tcell_one L)).mono ?_
    rintro e w' ⟨v', rfl, ho, _, k⟩
    exact ⟨v', rfl, OffRow.of_own ho, k⟩
end Go.Proofs.YtljjielekgilpaaGreat
/- A list's copy. -/
set_option linter.unusedVariables false
set_option maxRecDepth 100000
namespace Go.Proofs.YtljjielekgilpaaGreat
open Go.RowKit
theorem clone_S {T : Nat → Prop} {v : Value} {L : List So} {w : World} (h : RdL T w v L.length (flat socell L)) (hn : L.length ≤ 1000000000) :
    Calls Tryz.prog 113 #[v] w fun e w' => ∃ v', e = .returned v' ∧ OwnSo w' w.heap.size v' L ∧ Below w.heap.size w w' := by
  obtain ⟨a, cap, rfl, hmx, h⟩ := h
  obtain ⟨i0, hi0, hz0, hz1, hz2⟩ := info_parts infoSo
  rcases h with ⟨rfl, h0, h1⟩ | ⟨b, off, rfl, ht, hb, hc⟩
  · refine (AnyE.slices_Clone_nil Tryz.cloneS L.length cap w).mono ?_
    rintro e w' ⟨rfl, rfl⟩
    refine ⟨_, rfl, ?_, Below.refl _ _⟩
    unfold OwnSo
    rw [h0, h1]
    exact OffRow.nil _ _ _ _
  · refine (AnyE.slices_Clone Tryz.cloneS i0 _ 2 16 hi0 hz0 hz1 hz2 rfl (by omega) Tryz.sizeOf88 b off L.length cap (flat socell L) w (flat_len socell_len L) hmx (by omega) hc (flat_one' socell_one L)).mono ?_
    rintro e w' ⟨v', rfl, ho, _, k⟩
    exact ⟨v', rfl, OffRow.of_own ho, k⟩
end Go.Proofs.YtljjielekgilpaaGreat
/- A state in memory of its own. -/
set_option linter.unusedVariables false
set_option maxRecDepth 100000
namespace Go.Proofs.YtljjielekgilpaaGreat
open Go.RowKit

/-- A variable of a state. -/
def C4 (b : Nat) (v0 v1 v2 v3 : Value) (w : World) : Prop := w.heap[b]? = some (.cells #[v0, v1, v2, v3] 29 (0, 0))
namespace C4
variable {b : Nat} {v0 v1 v2 v3 : Value} {w w' : World}
theorem c0 (h : C4 b v0 v1 v2 v3 w) : w.cell? ⟨b, 0, none⟩ = some v0 ∧ w.cell? ⟨b, 1, none⟩ = some v1 ∧ w.cell? ⟨b, 2, none⟩ = some v2 ∧ w.cell? ⟨b, 3, none⟩ = some v3 := by unfold C4 at h; simp [World.cell?, h]
theorem free (h : C4 b v0 v1 v2 v3 w) (j : Nat) : w.frozen? ⟨b, j, none⟩ = false := by unfold C4 at h; simp [World.frozen?, h]
theorem below (h : C4 b v0 v1 v2 v3 w) (k : Below w.heap.size w w') : C4 b v0 v1 v2 v3 w' := (k.block b (heap_lt h)).trans h
theorem put (h : C4 b v0 v1 v2 v3 w) (u0 u1 u2 u3 : Value) : C4 b u0 u1 u2 u3 ((((w.setCell ⟨b, 0, none⟩ u0).setCell ⟨b, 1, none⟩ u1).setCell ⟨b, 2, none⟩ u2).setCell ⟨b, 3, none⟩ u3) := by
  have h0 : C4 b u0 v1 v2 v3 (w.setCell ⟨b, 0, none⟩ u0) := heap_set (o := 0) h u0
  have h1 : C4 b u0 u1 v2 v3 ((w.setCell ⟨b, 0, none⟩ u0).setCell ⟨b, 1, none⟩ u1) := heap_set (o := 1) h0 u1
  have h2 : C4 b u0 u1 u2 v3 (((w.setCell ⟨b, 0, none⟩ u0).setCell ⟨b, 1, none⟩ u1).setCell ⟨b, 2, none⟩ u2) := heap_set (o := 2) h1 u2
  exact (show C4 b u0 u1 u2 u3 ((((w.setCell ⟨b, 0, none⟩ u0).setCell ⟨b, 1, none⟩ u1).setCell ⟨b, 2, none⟩ u2).setCell ⟨b, 3, none⟩ u3) from heap_set (o := 3) h2 u3)
theorem range (h : C4 b v0 v1 v2 v3 w) : w.rangeAt b 0 [v0, v1, v2, v3] := fun j v hj => by
  obtain ⟨e0, e1, e2, e3⟩ := h.c0
  match j, hj with
  | 0, hj => cases hj; exact e0
  | 1, hj => cases hj; exact e1
  | 2, hj => cases hj; exact e2
  | 3, hj => cases hj; exact e3
  | n + 4, hj => cases hj
end C4
theorem below_put4 {B g : Nat} {a w : World} (h : Below B a w) (hB : B ≤ g) (u0 u1 u2 u3 : Value) : Below B a ((((w.setCell ⟨g, 0, none⟩ u0).setCell ⟨g, 1, none⟩ u1).setCell ⟨g, 2, none⟩ u2).setCell ⟨g, 3, none⟩ u3) :=
  (((h.setCell (p := ⟨g, 0, none⟩) hB u0).setCell (p := ⟨g, 1, none⟩) hB u1).setCell (p := ⟨g, 2, none⟩) hB u2).setCell (p := ⟨g, 3, none⟩) hB u3
theorem results_cell_bool {fn : Func} {p u : Tmp} {ty : TypeId} (h : fn.results = #[.cell p ty, .tmp u]) (tmps : Array Value) (P : Program) (w : World) (b o : Nat) (cs : List Value) (d : TypeDesc) (x : Value) (hp : tmps.getD p undef = .pointer (some ⟨b, o, none⟩)) (hx : tmps.getD u undef = x) (hc : w.rangeAt b o cs)
    (hu : P.underlying ty = some d) (hd : d.isRow = true) (hi : (P.info? ty).map (·.size) = some cs.length) :
    (results fn tmps).run P w = .ok (.tuple #[.agg cs.toArray, x]) w := by
  have hl := run_loadVar_mid w b o ty cs d hc hu hd hi
  have hp' : tmps[p]?.getD undef = .pointer (some ⟨b, o, none⟩) := by simpa using hp
  have hx' : tmps[u]?.getD undef = x := by simpa using hx
  simp only [results, h]
  simp [Sem.run_bind, Result.andThen, hp', hx', asAddr, hl]
theorem sizeSt : (Tryz.prog.info? 29).map (·.size) = some 4 := by kernel_rfl
theorem results_st {fn : Func} {p : Tmp} (h : fn.results = #[.cell p 29]) (tmps : Array Value) (w : World) (b : Nat) (v0 v1 v2 v3 : Value) (hp : tmps.getD p undef = .pointer (some ⟨b, 0, none⟩)) (hc : C4 b v0 v1 v2 v3 w) :
    (results fn tmps).run Tryz.prog w = .ok (.agg #[v0, v1, v2, v3]) w :=
  results_cell1 h tmps Tryz.prog w b 0 [v0, v1, v2, v3] _ hp hc.range Tryz.underlying29 rfl sizeSt
theorem results_st2 {fn : Func} {p u : Tmp} (h : fn.results = #[.cell p 29, .tmp u]) (tmps : Array Value) (w : World) (b : Nat) (v0 v1 v2 v3 x : Value) (hp : tmps.getD p undef = .pointer (some ⟨b, 0, none⟩)) (hx : tmps.getD u undef = x) (hc : C4 b v0 v1 v2 v3 w) :
    (results fn tmps).run Tryz.prog w = .ok (.tuple #[.agg #[v0, v1, v2, v3], x]) w :=
  results_cell_bool h tmps Tryz.prog w b 0 [v0, v1, v2, v3] _ x hp hx hc.range Tryz.underlying29 rfl sizeSt
theorem own_mono {w : World} {B B' : Nat} {e : TypeId} {size n : Nat} {v : Value} {xs : List Value} (h : OffRow w B e size v n xs) (hB : B' ≤ B) : OffRow w B' e size v n xs := by
  obtain ⟨h1, h2 | ⟨g, off, cap, cur, h3, h4, h5⟩⟩ := h
  · exact ⟨h1, .inl h2⟩
  · exact ⟨h1, .inr ⟨g, off, cap, cur, h3, Nat.le_trans hB h4, h5⟩⟩
/-- A state whose lists are the call's own. -/
structure OwnSt (w : World) (B : Nat) (tv sv lv : Value) (s : St) : Prop where
  tabs : OwnTb w B tv s.tabs
  stos : OwnSo w B sv s.stos
  logs : OwnI w B lv s.logs
theorem OwnSt.below {w w' : World} {B : Nat} {tv sv lv : Value} {s : St} (h : OwnSt w B tv sv lv s) (k : ∀ j, j < w.heap.size → w'.heap[j]? = w.heap[j]?) : OwnSt w' B tv sv lv s :=
  ⟨OffRow.kept h.tabs fun j hj => k j (OffRow.lt h.tabs j hj).2, OffRow.kept h.stos fun j hj => k j (OffRow.lt h.stos j hj).2, OffRow.kept h.logs fun j hj => k j (OffRow.lt h.logs j hj).2⟩
theorem OwnSt.stv {w : World} {B : Nat} {tv sv lv : Value} {s : St} (h : OwnSt w B tv sv lv s) : StV (fun b => B ≤ b) w tv sv lv s := ⟨OffRow.rdL h.tabs, OffRow.rdL h.stos, OffRow.rdL h.logs⟩

set_option maxHeartbeats 4000000 in
theorem copy_of {T : Nat → Prop} {w : World} {tv sv lv : Value} {s : St} (h : Hid (StV T w tv sv lv s)) (hs : Hid (s.tabs.length + s.stos.length + s.logs.length ≤ 1000000000)) :
    Calls Tryz.prog 77 #[.agg #[tv, sv, lv, .int .i64 s.next]] w fun e w' => ∃ tv' sv' lv', e = .returned (.agg #[tv', sv', lv', .int .i64 s.next]) ∧ OwnSt w' w.heap.size tv' sv' lv' s ∧ Below w.heap.size w w' := by
  obtain ⟨xa, xc, rfl⟩ := RdL.slice h.out.tabs
  obtain ⟨ya, yc, rfl⟩ := RdL.slice h.out.stos
  obtain ⟨za, zc, rfl⟩ := RdL.slice h.out.logs
  obtain ⟨B, hB⟩ : ∃ B, B = w.heap.size := ⟨_, rfl⟩
  rw [← hB]
  have HB := Lib.hid hB
  obtain ⟨nx, hnx⟩ : ∃ n, n = s.next := ⟨_, rfl⟩
  rw [← hnx]
  obtain ⟨w1, hw1⟩ : ∃ w1, (w.alloc (.cells #[.slice xa s.tabs.length xc, .slice ya s.stos.length yc, .slice za s.logs.length zc, .int .i64 nx] 29)).alloc (.cells #[.slice none 0 0, .slice none 0 0, .slice none 0 0, .int .i64 0] 29) = w1 := ⟨_, rfl⟩
  have K1 := Lib.hid (show Below B w w1 by rw [← hw1, hB]; exact ((Below.refl _ _).alloc (Nat.le_refl _) _).alloc (by simp) _)
  have X1 := Lib.hid (show C4 B (.slice xa s.tabs.length xc) (.slice ya s.stos.length yc) (.slice za s.logs.length zc) (.int .i64 nx) w1 by rw [← hw1, hB]; exact (Below.heap_alloc _ _ _ (by simp)).trans (heap_new w _))
  have R1 := Lib.hid (show C4 (B + 1) (.slice none 0 0) (.slice none 0 0) (.slice none 0 0) (.int .i64 0) w1 by
    rw [← hw1, hB]
    have := heap_new (w.alloc (.cells #[.slice xa s.tabs.length xc, .slice ya s.stos.length yc, .slice za s.logs.length zc, .int .i64 nx] 29)) (.cells #[.slice none 0 0, .slice none 0 0, .slice none 0 0, .int .i64 0] 29)
    rw [show (w.alloc (.cells #[.slice xa s.tabs.length xc, .slice ya s.stos.length yc, .slice za s.logs.length zc, .int .i64 nx] 29)).heap.size = w.heap.size + 1 by simp] at this
    exact this)
  have S1 := Lib.hid (h.out.below (HB.out ▸ K1.out))
  have HW1 := Lib.hid hw1
  have HNX := Lib.hid hnx
  obtain ⟨a0, a1, a2, a3⟩ := X1.out.c0
  clear hw1 hB hnx
  have h1 : s.tabs.length ≤ 1000000000 ∧ s.stos.length ≤ 1000000000 ∧ s.logs.length ≤ 1000000000 := by have := hs.out; omega
  have HL := Lib.hid h1
  clear h1
  have C1 := Lib.hid (clone_T S1.out.tabs HL.out.1)
  go_enter Tryz.func77, Tryz.ntmps77
  go_upto_region 1 with (fail)
  rw [HW1.out, ← HB.out]
  have hB1 : B < w1.heap.size := heap_lt X1.out
  go_wp2_with fail
  refine C1.out.mono ?_
  rintro e w2 ⟨t', rfl, o2, k2⟩
  obtain ⟨ta, tc, rfl⟩ := OffRow.slice o2
  have X2 := Lib.hid (X1.out.below k2)
  have R2 := Lib.hid (R1.out.below k2)
  have K2 := Lib.hid (K1.out.trans (k2.mono (Nat.le_of_lt hB1)))
  have O2 := Lib.hid (show OwnTb w2 (B + 2) (.slice ta s.tabs.length tc) s.tabs from own_mono o2 (by have := heap_lt R1.out; omega))
  obtain ⟨nt, hnt⟩ : ∃ n, n = s.tabs.length := ⟨_, rfl⟩
  rw [← hnt] at O2
  rw [← hnt]
  have HNT := Lib.hid hnt
  obtain ⟨b0, b1, b2, b3⟩ := X2.out.c0
  have bf := X2.out.free 0
  obtain ⟨w3, hw3⟩ : ∃ w3, w3 = w2.setCell ⟨B, 0, none⟩ (.slice ta nt tc) := ⟨_, rfl⟩
  have X3 := Lib.hid (show C4 B (.slice ta nt tc) (.slice ya s.stos.length yc) (.slice za s.logs.length zc) (.int .i64 nx) w3 by rw [hw3]; exact heap_set (o := 0) X2.out _)
  have R3 := Lib.hid (show C4 (B + 1) (.slice none 0 0) (.slice none 0 0) (.slice none 0 0) (.int .i64 0) w3 by rw [hw3]; exact (heap_set_other (by omega) _).trans R2.out)
  have K3 := Lib.hid (show Below B w w3 by rw [hw3]; exact K2.out.setCell (p := ⟨B, 0, none⟩) (Nat.le_refl _) _)
  have O3 := Lib.hid (show OwnTb w3 (B + 2) (.slice ta nt tc) s.tabs by rw [hw3]; exact OffRow.kept O2.out fun j hj => heap_set_other (by have := (OffRow.lt O2.out j hj).1; omega) _)
  have HW3 := Lib.hid hw3
  have C3 := Lib.hid (clone_S (h.out.below (HB.out ▸ K3.out)).stos HL.out.2.1)
  obtain ⟨c0, c1, c2, c3⟩ := X3.out.c0
  have hB3 : B < w3.heap.size := heap_lt X3.out
  clear o2 k2 hnt hw3 a0 a1 a2 a3 C1
  go_upto_region 2 with (fail)
  rw [← HW3.out]
  clear b0 b1 b2 b3 bf
  go_wp2_with fail
  refine C3.out.mono ?_
  rintro e w4 ⟨t', rfl, o4, k4⟩
  obtain ⟨sa, sc, rfl⟩ := OffRow.slice o4
  have X4 := Lib.hid (X3.out.below k4)
  have R4 := Lib.hid (R3.out.below k4)
  have K4 := Lib.hid (K3.out.trans (k4.mono (Nat.le_of_lt hB3)))
  have T4 := Lib.hid (OffRow.kept O3.out (w' := w4) fun j hj => k4.block j (OffRow.lt O3.out j hj).2)
  have O4 := Lib.hid (show OwnSo w4 (B + 2) (.slice sa s.stos.length sc) s.stos from own_mono o4 (by have := heap_lt R3.out; omega))
  obtain ⟨ns, hns⟩ : ∃ n, n = s.stos.length := ⟨_, rfl⟩
  rw [← hns] at O4
  rw [← hns]
  have HNS := Lib.hid hns
  obtain ⟨d0, d1, d2, d3⟩ := X4.out.c0
  have df := X4.out.free 1
  obtain ⟨w5, hw5⟩ : ∃ w5, w5 = w4.setCell ⟨B, 1, none⟩ (.slice sa ns sc) := ⟨_, rfl⟩
  have X5 := Lib.hid (show C4 B (.slice ta nt tc) (.slice sa ns sc) (.slice za s.logs.length zc) (.int .i64 nx) w5 by rw [hw5]; exact heap_set (o := 1) X4.out _)
  have R5 := Lib.hid (show C4 (B + 1) (.slice none 0 0) (.slice none 0 0) (.slice none 0 0) (.int .i64 0) w5 by rw [hw5]; exact (heap_set_other (by omega) _).trans R4.out)
  have K5 := Lib.hid (show Below B w w5 by rw [hw5]; exact K4.out.setCell (p := ⟨B, 1, none⟩) (Nat.le_refl _) _)
  have O5 := Lib.hid (show OwnSo w5 (B + 2) (.slice sa ns sc) s.stos by rw [hw5]; exact OffRow.kept O4.out fun j hj => heap_set_other (by have := (OffRow.lt O4.out j hj).1; omega) _)
  have T5 := Lib.hid (show OwnTb w5 (B + 2) (.slice ta nt tc) s.tabs by rw [hw5]; exact OffRow.kept T4.out fun j hj => heap_set_other (by have := (OffRow.lt T4.out j hj).1; omega) _)
  have HW5 := Lib.hid hw5
  have C5 := Lib.hid (clone_I (h.out.below (HB.out ▸ K5.out)).logs HL.out.2.2)
  obtain ⟨e0, e1, e2, e3⟩ := X5.out.c0
  have hB5 : B < w5.heap.size := heap_lt X5.out
  clear o4 k4 hns hw5 c0 c1 c2 c3 C3 X3 R3 X2 R2 O2 O3
  go_upto_region 3 with (fail)
  rw [← HW5.out]
  clear d0 d1 d2 d3 df
  go_wp2_with fail
  refine C5.out.mono ?_
  rintro e w6 ⟨t', rfl, o6, k6⟩
  obtain ⟨la, lc, rfl⟩ := OffRow.slice o6
  have X6 := Lib.hid (X5.out.below k6)
  have R6 := Lib.hid (R5.out.below k6)
  have K6 := Lib.hid (K5.out.trans (k6.mono (Nat.le_of_lt hB5)))
  have T6 := Lib.hid (OffRow.kept T5.out (w' := w6) fun j hj => k6.block j (OffRow.lt T5.out j hj).2)
  have S6 := Lib.hid (OffRow.kept O5.out (w' := w6) fun j hj => k6.block j (OffRow.lt O5.out j hj).2)
  have O6 := Lib.hid (show OwnI w6 (B + 2) (.slice la s.logs.length lc) s.logs from own_mono o6 (by have := heap_lt R5.out; omega))
  obtain ⟨nl, hnl⟩ : ∃ n, n = s.logs.length := ⟨_, rfl⟩
  rw [← hnl] at O6
  rw [← hnl]
  obtain ⟨f0, f1, f2, f3⟩ := X6.out.c0
  have ff := X6.out.free 2
  obtain ⟨w7, hw7⟩ : ∃ w7, w7 = w6.setCell ⟨B, 2, none⟩ (.slice la nl lc) := ⟨_, rfl⟩
  have X7 := Lib.hid (show C4 B (.slice ta nt tc) (.slice sa ns sc) (.slice la nl lc) (.int .i64 nx) w7 by rw [hw7]; exact heap_set (o := 2) X6.out _)
  have R7 := Lib.hid (show C4 (B + 1) (.slice none 0 0) (.slice none 0 0) (.slice none 0 0) (.int .i64 0) w7 by rw [hw7]; exact (heap_set_other (by omega) _).trans R6.out)
  have K7 := Lib.hid (show Below B w w7 by rw [hw7]; exact K6.out.setCell (p := ⟨B, 2, none⟩) (Nat.le_refl _) _)
  have O7 := Lib.hid (show OwnI w7 (B + 2) (.slice la nl lc) s.logs by rw [hw7]; exact OffRow.kept O6.out fun j hj => heap_set_other (by have := (OffRow.lt O6.out j hj).1; omega) _)
  have S7 := Lib.hid (show OwnSo w7 (B + 2) (.slice sa ns sc) s.stos by rw [hw7]; exact OffRow.kept S6.out fun j hj => heap_set_other (by have := (OffRow.lt S6.out j hj).1; omega) _)
  have T7 := Lib.hid (show OwnTb w7 (B + 2) (.slice ta nt tc) s.tabs by rw [hw7]; exact OffRow.kept T6.out fun j hj => heap_set_other (by have := (OffRow.lt T6.out j hj).1; omega) _)
  have HW7 := Lib.hid hw7
  obtain ⟨g0, g1, g2, g3⟩ := X7.out.c0
  have gr := R7.out.free
  obtain ⟨r0, r1, r2, r3⟩ := R7.out.c0
  clear o6 k6 hnl hw7 e0 e1 e2 e3 C5 X5 R5 X6 R6 O5 T5 O6 S6 T6
  go_upto_region 4 with (fail)
  rw [← HW7.out]
  clear f0 f1 f2 f3 ff
  go_wp2
  have KE := Lib.hid (below_put4 K7.out (show B ≤ B + 1 by omega) (.slice ta nt tc) (.slice sa ns sc) (.slice la nl lc) (.int .i64 nx))
  have keep : ∀ {e : TypeId} {size n : Nat} {v : Value} {xs : List Value}, OffRow w7 (B + 2) e size v n xs → OffRow ((((w7.setCell ⟨B + 1, 0, none⟩ (.slice ta nt tc)).setCell ⟨B + 1, 1, none⟩ (.slice sa ns sc)).setCell ⟨B + 1, 2, none⟩ (.slice la nl lc)).setCell ⟨B + 1, 3, none⟩ (.int .i64 nx)) B e size v n xs := fun ho => own_mono (OffRow.kept ho fun j hj => by
    have := (OffRow.lt ho j hj).1
    rw [heap_set_other (by omega), heap_set_other (by omega), heap_set_other (by omega), heap_set_other (by omega)]) (by omega)
  refine bodyPost_ret (results_st rfl _ _ (B + 1) _ _ _ _ rfl (R7.out.put _ _ _ _)) rfl ?_
  exact ⟨_, _, _, rfl, ⟨keep T7.out, keep S7.out, keep O7.out⟩, KE.out⟩
end Go.Proofs.YtljjielekgilpaaGreat
/- Sorting what is sorted. -/
set_option linter.unusedVariables false
set_option maxRecDepth 100000
namespace Go.Proofs.YtljjielekgilpaaGreat
open Go.RowKit
open Go.Sort (grow SWO PermIn SortedIn HoldsK Holds putRow putRowK flatK)

set_option maxHeartbeats 1000000 in
theorem sort_T {B : Nat} {v : Value} {L : List Tb} {w : World} (h : OwnTb w B v L) (hr : L.Pairwise fun a b => decide (cfT a b < 0) = true) (hn : L.length ≤ 1000000000) :
    Calls Tryz.prog 78 #[v, .func (.func 79) #[] #[]] w fun e w' => e = .returned (.tuple #[]) ∧ Below w.heap.size w w' := by
  have eg : ∀ args w, (callFunc 79 args).run Tryz.prog w = .ok (.enter 79 args) w := enters_of Tryz.func79 (by kernel_rfl) rfl
  rcases h.2 with ⟨rfl, h0⟩ | ⟨g, off, cap, cur, rfl, hB, hg, h1, h2, h3, h4⟩
  · rw [h0] at *
    refine (AnyF.slices_SortFunc_none Tryz.sortT none 0 (.func (.func 79) #[] #[]) w).mono ?_
    rintro e w' ⟨rfl, rfl⟩
    exact ⟨rfl, Below.refl _ _⟩
  · have hH : HoldsK tcell 5 w g off L.toArray := by
      intro j hj
      have hj' : j < L.length * 5 := by simpa using hj
      refine ⟨?_, by simp [World.frozen?, hg]⟩
      have e := flatK_flat tcell_len (by omega) hj'
      have := h4 j hj'
      rw [e] at this
      simpa [World.cell?, hg] using this
    have hc := AnyQ.slices_SortFunc Tryz.sortT 5 Tryz.isAgg86 Tryz.sizeOf86 tcell tcell_len tcell_one cfT swoT 79 #[] g off cap L.toArray w eg (fun _ _ _ _ x y => table_order x y _) hH (heap_lt hg) (by simp; omega)
    rw [show L.toArray.size = L.length by simp] at hc
    refine hc.mono ?_
    rintro e w' ⟨rfl, d', n, os, hp, hs, rfl⟩
    have hsz : d'.size = L.length := by have := hp.1; simpa using this
    have hd : d'.toList = L := by
      refine sorted_same (lt := fun a b => decide (cfT a b < 0)) ?_ hr ?_ ?_
      · have := hp.2.2
        simpa [hsz, Array.extract_eq_self_of_le] using this
      · refine List.pairwise_iff_getElem.2 fun i j hi hj hij => ?_
        have := hs i j (Nat.zero_le _) hij (by have : j < d'.toList.length := hj; simpa [hsz] using this)
        have hi' : i < d'.size := by simpa using hi
        have hj' : j < d'.size := by simpa using hj
        simpa [getElem!_pos, hi', hj', ltOf] using this
      · intro a b hab
        cases hba : decide (cfT b a < 0) with
        | false => rfl
        | true =>
          have := swoT.trans a b a hab hba
          rw [swoT.irrefl] at this; cases this
    have hd2 : d' = L.toArray := by rw [← hd]
    rw [hd2, sort_world hH]
    exact ⟨rfl, below_grow (Below.refl _ w) (Nat.le_refl _) n os⟩
end Go.Proofs.YtljjielekgilpaaGreat
/- Sorting what is sorted. -/
set_option linter.unusedVariables false
set_option maxRecDepth 100000
namespace Go.Proofs.YtljjielekgilpaaGreat
open Go.RowKit
open Go.Sort (grow SWO PermIn SortedIn HoldsK Holds putRow putRowK flatK)

set_option maxHeartbeats 1000000 in
theorem sort_S {B : Nat} {v : Value} {L : List So} {w : World} (h : OwnSo w B v L) (hr : L.Pairwise fun a b => decide (cfS a b < 0) = true) (hn : L.length ≤ 1000000000) :
    Calls Tryz.prog 80 #[v, .func (.func 81) #[] #[]] w fun e w' => e = .returned (.tuple #[]) ∧ Below w.heap.size w w' := by
  have eg : ∀ args w, (callFunc 81 args).run Tryz.prog w = .ok (.enter 81 args) w := enters_of Tryz.func81 (by kernel_rfl) rfl
  rcases h.2 with ⟨rfl, h0⟩ | ⟨g, off, cap, cur, rfl, hB, hg, h1, h2, h3, h4⟩
  · rw [h0] at *
    refine (AnyF.slices_SortFunc_none Tryz.sortS none 0 (.func (.func 81) #[] #[]) w).mono ?_
    rintro e w' ⟨rfl, rfl⟩
    exact ⟨rfl, Below.refl _ _⟩
  · have hH : HoldsK socell 2 w g off L.toArray := by
      intro j hj
      have hj' : j < L.length * 2 := by simpa using hj
      refine ⟨?_, by simp [World.frozen?, hg]⟩
      have e := flatK_flat socell_len (by omega) hj'
      have := h4 j hj'
      rw [e] at this
      simpa [World.cell?, hg] using this
    have hc := AnyQ.slices_SortFunc Tryz.sortS 2 Tryz.isAgg88 Tryz.sizeOf88 socell socell_len socell_one cfS swoS 81 #[] g off cap L.toArray w eg (fun _ _ _ _ x y => store_order x y _) hH (heap_lt hg) (by simp; omega)
    rw [show L.toArray.size = L.length by simp] at hc
    refine hc.mono ?_
    rintro e w' ⟨rfl, d', n, os, hp, hs, rfl⟩
    have hsz : d'.size = L.length := by have := hp.1; simpa using this
    have hd : d'.toList = L := by
      refine sorted_same (lt := fun a b => decide (cfS a b < 0)) ?_ hr ?_ ?_
      · have := hp.2.2
        simpa [hsz, Array.extract_eq_self_of_le] using this
      · refine List.pairwise_iff_getElem.2 fun i j hi hj hij => ?_
        have := hs i j (Nat.zero_le _) hij (by have : j < d'.toList.length := hj; simpa [hsz] using this)
        have hi' : i < d'.size := by simpa using hi
        have hj' : j < d'.size := by simpa using hj
        simpa [getElem!_pos, hi', hj', ltOf] using this
      · intro a b hab
        cases hba : decide (cfS b a < 0) with
        | false => rfl
        | true =>
          have := swoS.trans a b a hab hba
          rw [swoS.irrefl] at this; cases this
    have hd2 : d' = L.toArray := by rw [← hd]
    rw [hd2, sort_world hH]
    exact ⟨rfl, below_grow (Below.refl _ w) (Nat.le_refl _) n os⟩
end Go.Proofs.YtljjielekgilpaaGreat
/- A draft of a state. -/
set_option linter.unusedVariables false
set_option maxRecDepth 100000
namespace Go.Proofs.YtljjielekgilpaaGreat
open Go.RowKit Go.Maps Go.WideShapes Go.ChangeMaps

theorem files_perm (s : St) : (filesOf s).Perm s.files := by
  unfold filesOf sortI
  refine (List.mergeSort_perm _ _).trans ?_
  unfold St.files
  rw [List.append_assoc]
  exact List.perm_append_comm
theorem sort_riseT {s : St} (h : s.Ok) : s.tabs.Pairwise fun a b => decide (cfT a b < 0) = true := h.rise.imp fun e => by rw [cfT_neg]; exact e
theorem sort_riseS {s : St} (h : s.Ok) : s.stos.Pairwise fun a b => decide (cfS a b < 0) = true := h.stos.imp fun e => by rw [cfS_neg]; simpa using e
def St.fit (s : St) : Prop := ∀ f ∈ s.files, f ≤ 9223372036854775807
theorem below_old {w w1 w2 : World} (h : Below w.heap.size w w1) (k : Below w1.heap.size w1 w2) : Below w.heap.size w w2 := h.trans (k.mono h.size)
theorem Dr0.below {B db mb : Nat} {w w' : World} {s : St} {F : List Int} {tv sv lv : Value} (h : Dr0 B w db s F tv sv lv mb) (k : Below w.heap.size w w') : Dr0 B w' db s F tv sv lv mb :=
  h.turn (h.set.kept (k.block mb (by obtain ⟨x, c, e⟩ := h.set.obj; exact heap_lt e))) fun j hj _ => k.block j hj

set_option maxHeartbeats 4000000 in
theorem draft_of {T : Nat → Prop} {w : World} {tv sv lv : Value} {s : St} (h : Hid (StV T w tv sv lv s)) (hok : Hid s.Ok) (hfit : Hid s.fit) (hs : Hid (s.tabs.length + s.stos.length + s.logs.length ≤ 1000000000)) :
    Calls Tryz.prog 37 #[.agg #[tv, sv, lv, .int .i64 s.next]] w fun e w' => ∃ db tv' sv' lv' mb, e = .returned (.pointer (some ⟨db, 0, none⟩)) ∧ Dr w.heap.size w' db s tv' sv' lv' mb ∧ Below w.heap.size w w' := by
  obtain ⟨xa, xc, rfl⟩ := RdL.slice h.out.tabs
  obtain ⟨ya, yc, rfl⟩ := RdL.slice h.out.stos
  obtain ⟨za, zc, rfl⟩ := RdL.slice h.out.logs
  obtain ⟨B, hB⟩ : ∃ B, B = w.heap.size := ⟨_, rfl⟩
  rw [← hB]
  have HB := Lib.hid hB
  obtain ⟨nx, hnx⟩ : ∃ n, n = s.next := ⟨_, rfl⟩
  obtain ⟨w1, hw1⟩ : ∃ w1, w.alloc (.cells #[.slice xa s.tabs.length xc, .slice ya s.stos.length yc, .slice za s.logs.length zc, .int .i64 s.next] 29) = w1 := ⟨_, rfl⟩
  have K1 := Lib.hid (show Below B w w1 by rw [← hw1, hB]; exact (Below.refl _ _).alloc (Nat.le_refl _) _)
  have X1 := Lib.hid (show C4 B (.slice xa s.tabs.length xc) (.slice ya s.stos.length yc) (.slice za s.logs.length zc) (.int .i64 s.next) w1 by rw [← hw1, hB]; exact heap_new w _)
  have S1 := Lib.hid (h.out.below (HB.out ▸ K1.out))
  have HW1 := Lib.hid hw1
  obtain ⟨a0, a1, a2, a3⟩ := X1.out.c0
  have hB1 : B < w1.heap.size := heap_lt X1.out
  have C1 := Lib.hid (copy_of S1 hs)
  clear hw1 hB hnx
  have hmm := @run_makeMap Tryz.prog
  go_enter Tryz.func37, Tryz.ntmps37
  go_upto_region 1 with (fail)
  rw [HW1.out, ← HB.out]
  go_wp2_with fail
  refine C1.out.mono ?_
  rintro e w2 ⟨tv', sv', lv', rfl, o2, k2⟩
  obtain ⟨ta, tc, rfl⟩ := OffRow.slice o2.tabs
  obtain ⟨sa, sc, rfl⟩ := OffRow.slice o2.stos
  obtain ⟨la, lc, rfl⟩ := OffRow.slice o2.logs
  have X2 := Lib.hid (X1.out.below k2)
  have K2 := Lib.hid (K1.out.trans (k2.mono (Nat.le_of_lt hB1)))
  have hB2 : B < w2.heap.size := heap_lt X2.out
  obtain ⟨w3, hw3⟩ : ∃ w3, w3 = (w2.alloc (.map #[] 0)).alloc (.cells #[.slice ta s.tabs.length tc, .slice sa s.stos.length sc, .slice la s.logs.length lc, .int .i64 s.next, .map (some w2.heap.size)] 83) := ⟨_, rfl⟩
  obtain ⟨mb, hmb⟩ : ∃ mb, mb = w2.heap.size := ⟨_, rfl⟩
  obtain ⟨db, hdb⟩ : ∃ db, db = w2.heap.size + 1 := ⟨_, rfl⟩
  have A3 := Lib.hid (show Below w2.heap.size w2 w3 by rw [hw3]; exact ((Below.refl _ _).alloc (Nat.le_refl _) _).alloc (by simp) _)
  have D3 := Lib.hid (show Dr0 B w3 db s [] (.slice ta s.tabs.length tc) (.slice sa s.stos.length sc) (.slice la s.logs.length lc) mb from by
    have O3 := o2.below (w' := w3) fun j hj => A3.out.block j hj
    refine ⟨?_, by omega, own_mono O3.tabs (by omega), own_mono O3.stos (by omega), own_mono O3.logs (by omega), ?_, by omega⟩
    · rw [hw3, hdb, hmb]
      have := heap_new (w2.alloc (.map #[] 0)) (.cells #[.slice ta s.tabs.length tc, .slice sa s.stos.length sc, .slice la s.logs.length lc, .int .i64 s.next, .map (some w2.heap.size)] 83)
      rw [show (w2.alloc (.map #[] 0)).heap.size = w2.heap.size + 1 by simp] at this
      exact this
    · refine SetM.kept (w := w2.alloc (.map #[] 0)) ⟨[], by rw [hmb]; exact World.ownsMap_made w2 Tryz.prog 3 unitElem, .refl _⟩ ?_
      rw [hw3]
      exact Below.heap_alloc _ _ mb (by rw [hmb]; simp))
  have K3 := Lib.hid (K2.out.trans (A3.out.mono (Nat.le_of_lt hB2)))
  have X3 := Lib.hid ((A3.out.block B hB2).trans X2.out)
  have hmd : Hid (mb < db) := Lib.hid (by omega)
  have HW3 := Lib.hid hw3
  have HDB := Lib.hid hdb
  have HMB := Lib.hid hmb
  have C3 := Lib.hid (man_Files (h.out.below (HB.out ▸ K3.out) |> Lib.hid) hs)
  obtain ⟨c0, c1, c2, c3⟩ := (show C4 B _ _ _ _ w3 from X3.out).c0
  have hB3 : B < w3.heap.size := heap_lt X3.out
  clear o2 k2 hw3 hdb hmb a0 a1 a2 a3 C1 X1 X2 S1
  go_upto_region 2 with (fail)
  rw [← HW3.out, ← HDB.out]
  clear hmm
  go_wp2_with fail
  refine C3.out.mono ?_
  rintro e w4 ⟨fv, rfl, r4, k4⟩
  obtain ⟨fa, fc, rfl⟩ := RdL.slice r4
  have D4 := Lib.hid (D3.out.below k4)
  have K4 := Lib.hid (K3.out.trans (k4.mono (Nat.le_of_lt hB3)))
  obtain ⟨n, hn⟩ : ∃ n, n = (filesOf s).length := ⟨_, rfl⟩
  rw [← hn] at r4 ⊢
  have HN := Lib.hid hn
  have R4 := Lib.hid r4
  have HX := Lib.hid (show ∀ j, w3.heap.size ≤ j → j ≠ mb from fun j hj e => by have := D3.out.set.obj; obtain ⟨x, c, hx⟩ := this; have := heap_lt hx; omega)
  have hn9 : n ≤ 1000000000 := by
    rw [hn, (files_perm s).length_eq]
    have := hs.out
    unfold St.files
    simp only [List.length_append, List.length_map]
    omega
  have hfl := Lib.hid (show ∀ i f, (filesOf s)[i]? = some f → (Lit.int .i64 f).wf = true from fun i f hf => by
    have hm : f ∈ s.files := (files_perm s).mem_iff.1 (List.mem_of_getElem? hf)
    exact wf_i64 (by have := hok.out.pos f hm; omega) (hfit.out f hm))
  clear r4 k4 hn c0 c1 c2 c3 C3
  go_wp2_with fail
  go_loopw [14] (fun iv wr => ∃ (i : Nat) (G : List Int), i ≤ n ∧ iv = .int .i64 (i : Int) ∧ Hid (G.Perm ((filesOf s).take i)) ∧ Hid (Dr0 B wr db s G (.slice ta s.tabs.length tc) (.slice sa s.stos.length sc) (.slice la s.logs.length lc) mb) ∧ Hid (Below B w wr) ∧ Hid (RdL (fun b => w3.heap.size ≤ b) wr (.slice fa n fc) n (flat icell (filesOf s)))) (fun iv wr => n - (intOf iv).toNat)
  case atStart => exact ⟨0, [], Nat.zero_le _, rfl, Lib.hid (by simp), D4, K4, R4⟩
  case round =>
    obtain ⟨i, G, hi, rfl, hG, hD, hK, hR⟩ := hrel
    by_cases hlt : i < n
    · have hlt' : (i : Int) < (n : Int) := by omega
      obtain ⟨f, hf⟩ : ∃ f, (filesOf s)[i]? = some f := ⟨_, List.getElem?_eq_getElem (by have := HN.out; omega)⟩
      obtain ⟨b, off, rfl, ht, hb2, hc⟩ := RdL.atI hR.out hf hlt
      have y0 : wr.cell? ⟨b, off + i * 1, none⟩ = _ := hc 0 _ rfl
      simp only [Nat.mul_one] at y0
      have d4 : wr.cell? ⟨db, 4, none⟩ = some (.map (some mb)) := by simp [World.cell?, hD.out.obj]
      obtain ⟨l, hl, hp⟩ := hD.out.set
      have HL := Lib.hid (And.intro hl hp)
      have HK := Lib.hid (show keyOf Tryz.prog 3 (.int .i64 f) = some (.int .i64 f) from keyOf_int_mk Tryz.underlying3 (hfl.out i f hf))
      have hGl : G.length < maxLen := by
        rw [hG.out.length_eq, List.length_take]
        unfold maxLen
        omega
      have HNO := Lib.hid (show ¬ f ∈ G from fun hm => by
        have h1 := hG.out.mem_iff.1 hm
        have hnd : (filesOf s).Nodup := (files_perm s).nodup_iff.2 hok.out.nod
        obtain ⟨j, hj, e⟩ := List.mem_iff_getElem.1 h1
        rw [List.length_take] at hj
        rw [List.getElem_take] at e
        obtain ⟨hi2, e2⟩ := List.getElem?_eq_some_iff.1 hf
        exact (List.pairwise_iff_getElem.1 hnd j i (by omega) hi2 (by omega)) (e.trans e2.symm))
      have HNX := Lib.hid (show (f :: G).Perm ((filesOf s).take (i + 1)) by
        rw [List.take_add_one, hf]
        exact ((hG.out.cons f).trans (List.perm_append_singleton f _).symm))
      clear hc hf hl hp
      go_wp2_with (at_mapUpdate; refine wpList_mapUpdate_own _ rfl _ _ _ 81 rfl 3 138 keyedI Tryz.underlying81 _ mb _ _ rfl HL.out.1 hGl _ _ _ rfl rfl HK.out _ [] unitElem_mk ?_)
      intro w6 hown hgrow
      have S6 := Lib.hid (set_put HL.out.2 HNO.out hown)
      have D6 := Lib.hid (hD.out.turn S6.out fun j hj hne => hgrow.block j hj (fun e => hne (by injection e)))
      have K6 := Lib.hid (hK.out.grown hgrow (by have := hK.out.size; have := HB.out; omega) (fun j hj => by injection hj with hj; rw [← hj]; exact hD.out.mlo))
      have R6 := Lib.hid (hR.out.only (S := fun j => j = mb) ((Only.refl (fun j => j = mb) wr).grown hgrow (fun j hj => .inl (by injection hj with hj; exact hj.symm))) (fun j _ hT e => HX.out j hT e))
      clear hown hgrow d4 y0
      go_wp2_with fail
      go_roundw
      case rel => exact ⟨i + 1, f :: G, hlt, by go_num, HNX, D6, K6, R6⟩
      case measure => simp [intOf]; omega
    · obtain rfl : i = n := by omega
      have D5 := Lib.hid (Dr.of0 hD.out (hG.out.trans (by rw [List.take_of_length_le (by have := HN.out; omega)]; exact files_perm s)))
      have d0 : wr.cell? ⟨db, 0, none⟩ = some (.slice ta s.tabs.length tc) := by simp [World.cell?, hD.out.obj]
      have CT := Lib.hid (sort_T D5.out.tabs (sort_riseT hok.out) (by have := hs.out; omega))
      have HBw := Lib.hid (show B ≤ wr.heap.size by have := hK.out.size; have := HB.out; omega)
      clear hG hD hR
      go_wp2_with fail
      refine CT.out.mono ?_
      rintro e w6 ⟨rfl, k6⟩
      have D6 := Lib.hid (D5.out.below k6)
      have K6 := Lib.hid (hK.out.trans (k6.mono HBw.out))
      have d1 : w6.cell? ⟨db, 1, none⟩ = some (.slice sa s.stos.length sc) := D6.out.cell 1
      have CS := Lib.hid (sort_S D6.out.stos (sort_riseS hok.out) (by have := hs.out; omega))
      clear k6 d0 CT
      go_wp2_with fail
      refine CS.out.mono ?_
      rintro e w7 ⟨rfl, k7⟩
      have D7 := Lib.hid (D6.out.below k7)
      have K7 := Lib.hid (K6.out.trans (k7.mono (by have := K6.out.size; have := HB.out; omega)))
      clear k7 d1 CS
      go_wp2
      go_ret
      exact ⟨db, _, _, _, mb, rfl, D7.out, K7.out⟩
end Go.Proofs.YtljjielekgilpaaGreat
/- An element of a list that reads. -/
set_option linter.unusedVariables false
set_option maxRecDepth 100000
namespace Go.Proofs.YtljjielekgilpaaGreat
open Go.RowKit

theorem RdL.atE {T : Nat → Prop} {w : World} {a : Option Addr} {n cap : Nat} {L : List Ed} (h : RdL T w (.slice a n cap) n (flat ecell L)) {m : Nat} {x : Ed} (hx : L[m]? = some x) (hm : m < n) :
    ∃ b off, a = some ⟨b, off, none⟩ ∧ T b ∧ b < w.heap.size ∧ ∀ i u, (ecell x)[i]? = some u → w.cell? ⟨b, off + m * 6 + i, none⟩ = some u := by
  obtain ⟨a', cap', e, _, h⟩ := h
  injection e with e1 e2 e3
  subst e1
  rcases h with ⟨_, h0, _⟩ | ⟨b, off, rfl, ht, hb, hc⟩
  · omega
  · refine ⟨b, off, rfl, ht, hb, fun i u hi => ?_⟩
    have hik : i < 6 := by rw [← ecell_len x]; exact (List.getElem?_eq_some_iff.1 hi).1
    have := flat_at ecell_len hx hik
    rw [hi] at this
    rw [Nat.add_assoc]
    exact hc _ _ this

end Go.Proofs.YtljjielekgilpaaGreat
/- A slice that reads, or that has nothing to be read (wherever it is said to lie). -/
set_option linter.unusedVariables false
set_option maxRecDepth 100000
namespace Go.Proofs.YtljjielekgilpaaGreat
open Go.RowKit

/-- A slice that reads as n elements' cells; where n is 0 it may be said to lie anywhere. -/
def RdX (T : Nat → Prop) (w : World) (v : Value) (n : Nat) (xs : List Value) : Prop := (∃ a cap, v = .slice a n cap) ∧ (n = 0 ∨ RdL T w v n xs)
namespace RdX
variable {T T' : Nat → Prop} {w w' : World} {v : Value} {n : Nat} {xs : List Value}
theorem below (h : RdX T w v n xs) (k : Below w.heap.size w w') : RdX T w' v n xs := ⟨h.1, h.2.imp id fun h => h.below k⟩
theorem mono (h : RdX T w v n xs) (hT : ∀ b, b < w.heap.size → T b → T' b) : RdX T' w v n xs := ⟨h.1, h.2.imp id fun h => h.mono hT⟩
end RdX
theorem RdL.x {T : Nat → Prop} {w : World} {v : Value} {n : Nat} {xs : List Value} (h : RdL T w v n xs) : RdX T w v n xs := ⟨h.slice, .inr h⟩
theorem RdX.atE {T : Nat → Prop} {w : World} {a : Option Addr} {n cap : Nat} {L : List Ed} (h : RdX T w (.slice a n cap) n (flat ecell L)) {m : Nat} {x : Ed} (hx : L[m]? = some x) (hm : m < n) :
    ∃ b off, a = some ⟨b, off, none⟩ ∧ T b ∧ b < w.heap.size ∧ ∀ i u, (ecell x)[i]? = some u → w.cell? ⟨b, off + m * 6 + i, none⟩ = some u := by
  rcases h.2 with h0 | h
  · omega
  · exact h.atE hx hm
end Go.Proofs.YtljjielekgilpaaGreat
