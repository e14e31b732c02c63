/- The law that From goes through the keys that Walk tells, and ends where it is left: the walk. -/
import Derived.Test.YtbmihajbdobgbaaMemRangesIn
import Derived.Deep.RegionHeld3
set_option linter.unusedVariables false
set_option maxRecDepth 100000
namespace Go.Proofs.Ytbmihajbdobgbaa.MS
open Go.RowKit
attribute [local go_sem] Oper.semAt_some

set_option maxHeartbeats 8000000 in
theorem ranges_walk (a : Option Addr) (len cap : Nat) (T : List ByteArray) (fr : List UInt8) (leave : Int) (w : World) (h : Hid (IsTexts w a len T)) (hbig : len ≤ 9223372036854775807) (hsz : Hid (∀ t ∈ T, t.size ≤ 140737488351232)) (hlv : -9223372036854775808 ≤ leave ∧ leave ≤ 9223372036854775807) :
    Calls Try.prog 6 #[.slice a len cap, .string (bs fr), .int .i64 leave] w fun e w' => e = .returned (.bool true) ∧ Below w.heap.size w w' := by
  obtain ⟨B, hB⟩ : ∃ B, B = w.heap.size := ⟨_, rfl⟩
  obtain ⟨w1, hw1⟩ : ∃ w1, w1 = w.alloc (.cells #[.string (bs fr)] 9) := ⟨_, rfl⟩
  obtain ⟨w2, hw2⟩ : ∃ w2, w2 = w1.alloc (.cells #[.int .i64 leave] 3) := ⟨_, rfl⟩
  obtain ⟨w3, hw3⟩ : ∃ w3, w3 = w2.alloc (.cells #[.bool false] 4) := ⟨_, rfl⟩
  have s1 : w1.heap.size = B + 1 := by rw [hw1, hB]; simp
  have s2 : w2.heap.size = B + 2 := by rw [hw2]; simp [s1]
  have s3 : w3.heap.size = B + 3 := by rw [hw3]; simp [s2]
  have k1 : Below w.heap.size w w1 := by rw [hw1]; exact (Below.refl _ _).alloc (Nat.le_refl _) _
  have k2 : Below w1.heap.size w1 w2 := by rw [hw2]; exact (Below.refl _ _).alloc (Nat.le_refl _) _
  have k3 : Below w2.heap.size w2 w3 := by rw [hw3]; exact (Below.refl _ _).alloc (Nat.le_refl _) _
  have K3 := Lib.hid (show Below B w w3 by rw [hB]; exact (k1.trans (k2.mono k1.size)).trans (k3.mono (Nat.le_trans k1.size k2.size)))
  have F3 := Lib.hid (((show Vr B (.string (bs fr)) 9 w1 by rw [hw1, hB]; exact heap_new w _).below k2).below k3)
  have L3 := Lib.hid ((show Vr (B + 1) (.int .i64 leave) 3 w2 by rw [hw2, ← s1]; exact heap_new w1 _).below k3)
  have R3 := Lib.hid (show Vr (B + 2) (.bool false) 4 w3 by rw [hw3, ← s2]; exact heap_new w2 _)
  have HW := Lib.hid (show w3 = ((w.alloc (.cells #[.string (bs fr)] 9)).alloc (.cells #[.int .i64 leave] 3)).alloc (.cells #[.bool false] 4) by rw [hw3, hw2, hw1])
  have HB := Lib.hid hB
  have S3 := Lib.hid s3
  have HAW := Lib.hid (MI.law_awake w3)
  rw [← hB]
  clear hB hw1 hw2 hw3 s1 s2 s3 k1 k2 k3
  refine (callsIn_wide (n := 5)).1 ?_
  refine callsIn_of_wp_marks Try.func6 rfl trivial ?_ rfl
  simp only [Try.ntmps6, List.size_toArray, List.length_cons, List.length_nil, Nat.reduceAdd, Nat.reduceSub, Array.replicate_succ, Array.replicate_zero, List.push_toArray, List.append_toArray, List.nil_append, List.cons_append]
  refine (wpIn_wide (n := 5)).2 ?_
  go_upto_region 1 with (fail)
  rw [← HW.out, ← HB.out]
  go_wp2_with fail
  refine HAW.out.mono ?_
  rintro en w4 ⟨rfl, k4⟩
  have K4 := Lib.hid (K3.out.trans (k4.mono (by have := S3.out; omega)))
  have F4 := Lib.hid (F3.out.below k4)
  have L4 := Lib.hid (L3.out.below k4)
  have R4 := Lib.hid (R3.out.below k4)
  have S4 := Lib.hid (show B + 3 ≤ w4.heap.size by have := k4.size; have := S3.out; omega)
  clear k4
  rcases Nat.lt_or_ge 300 len with hlen | hlen
  · have h1 : (300 : Int) < (len : Int) := by omega
    have HAW4 := Lib.hid (MI.law_awake w4)
    go_wp2_with fail
    refine HAW4.out.mono ?_
    rintro en w5 ⟨rfl, k5⟩
    have R5 := Lib.hid (R4.out.below k5)
    have K5 := Lib.hid (K4.out.trans (k5.mono (by have := S4.out; omega)))
    have z0 := R5.out.cell
    have zf := R5.out.free
    clear k5
    go_wp2_with fail
    have hz := (R5.out.put (.bool true)).cell
    refine ⟨.bool true, ?_, rfl, K5.out.setCell (p := ⟨B + 2, 0, none⟩) (by simp) _⟩
    simp [results, Try.f6, go_sem, hz]
  · have h1 : (len : Int) ≤ 300 := by omega
    obtain ⟨bm, hbm⟩ : ∃ bm, bm = w4.heap.size := ⟨_, rfl⟩
    obtain ⟨w5, hw5⟩ : ∃ w5, w5 = w4.alloc (.cells #[.pointer none] 49) := ⟨_, rfl⟩
    have k5 : Below w4.heap.size w4 w5 := by rw [hw5]; exact (Below.refl _ _).alloc (Nat.le_refl _) _
    have RL5 := Lib.hid (show RgL w fr leave B bm .nil none 0 w5 from ⟨F4.out.below k5, L4.out.below k5, R4.out.below k5, by rw [hw5, hbm]; exact heap_new w4 _, IsM.nil _, rfl, K4.out.trans (k5.mono (by have := S4.out; omega)), Nat.le_refl _, fun y hy => (by cases hy), fun y hy => (by cases hy), by rw [hbm]; exact S4.out⟩)
    have HW5 := Lib.hid hw5
    have HBM := Lib.hid hbm
    clear hw5 hbm k5
    go_upto_region 4 with (fail)
    rw [← HW5.out, ← HBM.out]
    go_wp2_with fail
    go_loopw [8] (fun iv wr => ∃ i : Nat, i ≤ len ∧ iv = .int .i64 (i : Int) ∧ ∃ t u, Hid (RgL w fr leave B bm t u i wr)) (fun iv wr => len - (intOf iv).toNat)
    case atStart => exact ⟨0, Nat.zero_le _, rfl, .nil, none, RL5⟩
    case round =>
      obtain ⟨i, hi, rfl, t, u, RL⟩ := hrel
      have HTS := Lib.hid (show t.sz ≤ 300 by have := RL.out.few; have := t.sz_prs; omega)
      rcases Nat.lt_or_ge i len with hlt | hge
      · obtain ⟨b, off, s, rfl, hbl, hT, d0⟩ := texts_at (texts_below h.out (by rw [← HB.out]; exact RL.out.bel)) hlt
        have hlt2 : (i : Int) < (len : Int) := by omega
        have hss := hsz.out _ (List.mem_of_getElem? hT)
        obtain ⟨q, hq⟩ : ∃ q, q = s.length := ⟨_, rfl⟩
        have hq2 : (bs s).size = q := by rw [bs_size, hq]
        rw [hq2] at hss
        have hbm2 : b < B := by
          obtain ⟨b', off', s', e1, hb', _⟩ := texts_at h.out hlt
          simp only [Option.some.injEq, Addr.mk.injEq] at e1
          rw [HB.out]; omega
        have HQ := Lib.hid (And.intro hq (And.intro hT (And.intro hbl hbm2)))
        clear hq hT hbl hbm2
        by_cases hq3 : q ≤ 10000
        · have hq4 : (q : Int) ≤ 10000 := by omega
          have c0 := RL.out.m.cell
          have f0 := RL.out.m.free
          have HP := Lib.hid (fun y (K : Below wr.heap.size wr y) => show Calls Try.prog 18 #[.agg #[.pointer u], .string (bs s), .string (bs s ++ ⟨#[33]⟩)] y fun e w' => MapPost (putP s (bang s) t.prs) y e w' from map_Put (k := s) (x := bang s) (Lib.hid (RL.out.map.seen K)) RL.out.ptr (by have := HTS.out; omega))
          have n0 : ∀ z : Seen wr, z.val.cell? ⟨bm, 0, none⟩ = some (.pointer u) := fun z => (RL.out.m.below z.below).cell
          have n1 : ∀ z : Seen wr, z.val.cell? ⟨b, off + i, none⟩ = some (.string (bs s)) := fun z => by rw [z.below.cell (p := ⟨b, off + i, none⟩) HQ.out.2.2.1]; exact d0
          go_wp2_with fail
          refine wp_region_seen_tail 10 (by kernel_rfl) (by kernel_rfl) ?_
          simp only [List.take_succ_cons, List.take_zero, List.drop_succ_cons, List.drop_zero]
          repeat go_big_quiet_step (fail)
          refine wpQuiet_nil ?_
          rintro _ ⟨z1, rfl⟩
          have Q1 := Lib.hid z1.below
          generalize z1.val = y1 at *
          clear n0 n1 c0 f0
          go_wp2_with fail
          refine (HP.out _ Q1.out).mono ?_
          rintro e y2 ⟨t', u', e1, rfl, M, Bl, L'⟩
          have Q2 := Lib.hid (Q1.out.trans (Bl.mono Q1.out.size))
          have c2 := (RL.out.m.below Q2.out).cell
          have f2 := (RL.out.m.below Q2.out).free
          have RL2 := Lib.hid (RL.out.put Q2.out e1 M L' (by rw [← HQ.out.1]; exact hq3))
          clear e1 M Bl L'
          go_wp2_with fail
          go_roundw
          case rel => exact ⟨i + 1, by omega, by go_num, t', u', RL2⟩
          case measure => simp [intOf]; omega
        · have hq4 : (10000 : Int) < (q : Int) := by omega
          have z0 := RL.out.r.cell
          have zf := RL.out.r.free
          go_wp2_with fail
          have hz := (RL.out.r.put (.bool true)).cell
          refine ⟨.bool true, ?_, rfl, RL.out.bel.setCell (p := ⟨B + 2, 0, none⟩) (by simp) _⟩
          simp [results, Try.f6, go_sem, hz]
      · obtain rfl : i = len := by omega
        have HL0 := Lib.hid (show (fromP fr t.prs).length ≤ t.sz by have h1 : (fromP fr t.prs).length ≤ t.prs.length := List.length_filter_le _ _; have := t.sz_prs; omega)
        have HWK := Lib.hid (map_Walk (k := fr) (Lib.hid RL.out.map) RL.out.ptr (by have := HTS.out; omega))
        have c0 := RL.out.m.cell
        have c1 := RL.out.f.cell
        go_wp2_with fail
        refine HWK.out.mono ?_
        rintro e w6 ⟨c, v, rfl, hWk, k6⟩
        have RL6 := Lib.hid (RL.out.below k6)
        obtain ⟨L, hL⟩ : ∃ L, L = fromP fr t.prs := ⟨_, rfl⟩
        rw [← hL] at hWk HL0
        have HL := Lib.hid hL
        obtain ⟨zx, hzx⟩ : ∃ zx, zx = w6.heap.size := ⟨_, rfl⟩
        obtain ⟨w7, hw7⟩ : ∃ w7, w7 = w6.alloc (.cells #[.func (.func 32) #[] #[.pointer (some ⟨c, 0, none⟩)]] 51) := ⟨_, rfl⟩
        obtain ⟨w8, hw8⟩ : ∃ w8, w8 = w7.alloc (.cells #[.int .i64 0] 3) := ⟨_, rfl⟩
        obtain ⟨w9, hw9⟩ : ∃ w9, w9 = w8.alloc (.cells #[.string ⟨#[]⟩] 9) := ⟨_, rfl⟩
        obtain ⟨w11, hw11⟩ : ∃ w11, w11 = (w9.alloc (.cells #[.pointer u] 49)).alloc (.cells #[.string (bs fr)] 9) := ⟨_, rfl⟩
        have s7 : w7.heap.size = zx + 1 := by rw [hw7, hzx]; simp
        have s8 : w8.heap.size = zx + 2 := by rw [hw8]; simp [s7]
        have s9 : w9.heap.size = zx + 3 := by rw [hw9]; simp [s8]
        have s11 : w11.heap.size = zx + 5 := by rw [hw11]; simp [s9]
        have b7 : Below w6.heap.size w6 w7 := by rw [hw7]; exact (Below.refl _ _).alloc (Nat.le_refl _) _
        have b8 : Below w7.heap.size w7 w8 := by rw [hw8]; exact (Below.refl _ _).alloc (Nat.le_refl _) _
        have b9 : Below w8.heap.size w8 w9 := by rw [hw9]; exact (Below.refl _ _).alloc (Nat.le_refl _) _
        have b11 : Below w9.heap.size w9 w11 := by rw [hw11]; exact ((Below.refl _ _).alloc (Nat.le_refl _) _).alloc (by simp) _
        have b711 : Below w7.heap.size w7 w11 := (b8.trans (b9.mono b8.size)).trans (b11.mono (Nat.le_trans b8.size b9.size))
        have b611 : Below w6.heap.size w6 w11 := b7.trans (b711.mono b7.size)
        have RL11 := Lib.hid (RL6.out.below b611)
        have WK11 := Lib.hid (hWk.below b611)
        have X11 := Lib.hid ((show Vr zx (.func (.func 32) #[] #[.pointer (some ⟨c, 0, none⟩)]) 51 w7 by rw [hw7, hzx]; exact heap_new w6 _).below b711)
        have N11 := Lib.hid (((show Vr (zx + 1) (.int .i64 0) 3 w8 by rw [hw8, ← s7]; exact heap_new w7 _).below b9).below b11)
        have A11 := Lib.hid ((show Vr (zx + 1 + 1) (.string ⟨#[]⟩) 9 w9 by rw [hw9, ← s8]; exact heap_new w8 _).below b11)
        have MT11 := Lib.hid (show Vr (zx + 3) (.pointer u) 49 w11 by
          rw [hw11, ← s9]
          exact (Below.heap_alloc _ _ _ (by simp)).trans (heap_new w9 _))
        have KT11 := Lib.hid (show Vr (zx + 3 + 1) (.string (bs fr)) 9 w11 by
          have h := heap_new (w9.alloc (.cells #[.pointer u] 49)) (.cells #[.string (bs fr)] 9)
          rw [show (w9.alloc (.cells #[.pointer u] 49)).heap.size = zx + 3 + 1 by simp [s9]] at h
          rw [hw11]; exact h)
        have RL9 := Lib.hid (RL6.out.below (b7.trans ((b8.trans (b9.mono b8.size)).mono b7.size)))
        have HFR := Lib.hid (from_run u fr w9)
        have HW9 := Lib.hid (show w9 = ((w6.alloc (.cells #[.func (.func 32) #[] #[.pointer (some ⟨c, 0, none⟩)]] 51)).alloc (.cells #[.int .i64 0] 3)).alloc (.cells #[.string ⟨#[]⟩] 9) by rw [hw9, hw8, hw7])
        have HW11 := Lib.hid hw11
        have HZX := Lib.hid hzx
        have S11 := Lib.hid s11
        have S9 := Lib.hid s9
        have HBMX := Lib.hid (show bm < zx by have := RL6.out.m.lt; omega)
        have HCX := Lib.hid (show c < zx by have := heap_lt hWk.box; omega)
        clear hL hzx hw7 hw8 hw9 hw11 s7 s8 s9 s11 b7 b8 b9 b11 b711 b611 hWk k6 c0 c1
        go_upto_region 13 with (fail)
        rw [← HW9.out, ← HZX.out]
        have c0 := RL9.out.m.cell
        have c1 := RL9.out.f.cell
        go_wp2_with fail
        refine HFR.out.mono ?_
        rintro en wz ⟨rfl, hwz⟩
        rw [← HW11.out] at hwz
        obtain rfl : w11 = wz := hwz.symm
        rw [S9.out]
        clear c0 c1
        go_wp2_with fail
        have HSTP := Lib.hid (from_stops (5 - 1) w11.heap.size (zx + 3) (zx + 3 + 1) t u fr (by have := HTS.out; omega))
        rw [← HL.out] at HSTP
        have HC11 := Lib.hid (show FromC w11.heap.size (zx + 3) (zx + 3 + 1) t u fr w11 from ⟨MT11.out, KT11.out, RL11.out.map.tree, RL11.out.map.avl, RL11.out.map.ris, RL11.out.ptr⟩)
        have HRV0 := Lib.hid (show RgV w fr leave B bm zx (zx + 1) c u 0 [] w11 from ⟨RL11.out.f, RL11.out.l, RL11.out.r, RL11.out.m, X11.out, N11.out, A11.out, RL11.out.bel, by have := RL11.out.lo; have := HBMX.out; omega⟩)
        have HBW := Lib.hid (show B ≤ wr.heap.size from by have := RL.out.f.lt; omega)
        obtain ⟨Bw, hBw⟩ : ∃ Bw, Bw = wr.heap.size := ⟨_, rfl⟩
        rw [← hBw] at WK11 HBW
        clear hBw
        have FIN := Lib.hid (show ∀ (D : Nat) (W : World), w11.heap.size ≤ D → Vr (B + 2) (.bool true) 4 W → Below B w W → W.heap[D]? = some (.deferred (some [])) → ∀ (t : Act), t.defers = [{ target := .collected D, args := #[] }] → t.tmps[6]? = some (.pointer (some ⟨B + 1 + 1, 0, none⟩)) →
            bodyPostM Fence.wide 5 Try.prog Try.f6 (fun en w' => en = .returned (.bool true) ∧ Below B w w') .ret t W from fun D W hD hz hb hK t ht ht4 => by
          obtain ⟨tm, td⟩ := t
          subst ht
          simp only at ht4
          have hDB : B + 2 < D := by have := S11.out; have := RL11.out.lo; have := HBMX.out; omega
          have hc5 := cell_kept hz.cell (grownBy_putObj' _ D (.deferred none)) (fun r e => by cases e; exact ⟨_, hK, rfl⟩)
          have ht5 : tm[6]? = some (.pointer (some ⟨B + 2, 0, none⟩)) := ht4
          refine ⟨by simp, .inl ⟨_, _, rfl, run_takeDeferred hK, ?_⟩⟩
          refine ⟨.bool true, ?_, rfl, hb.grown (grownBy_putObj' _ D (.deferred none)) (by have := hz.lt; omega) (fun k e => by cases e; omega)⟩
          simp [results, Try.f6, go_sem, ht5, hc5])
        refine (wpIn_wide (n := 5)).1 ?_
        refine wpIn_rangeFunc_sepF (α := PS) (n := 5) (by omega) (gf := 33) (lb := #[.pointer (some ⟨zx + 3, 0, none⟩), .pointer (some ⟨zx + 3 + 1, 0, none⟩)]) rfl (enters_of Try.func33 (by kernel_rfl) rfl)
          kn_trans kn_putObj (fun A o => (Kn.refl _ A).alloc o) HSTP.out
          (fun A C hA hAC => ⟨(hAC.block _ (heap_lt hA.tb) (fun g => by have := S11.out; omega)).trans hA.tb, (hAC.block _ (heap_lt hA.kb) (fun g => by have := S11.out; omega)).trans hA.kb, hA.tree.below (hAC.below (fun j _ hj => hj) (by have := heap_lt hA.kb; have := S11.out; omega)), hA.avl, hA.ris, hA.ptr⟩) (fun x => rfl)
          (fun pre S W => pre = L.take pre.length ∧ pre.length ≤ L.length ∧ RgI w fr leave B bm zx (zx + 1) c Bw u L pre.length S W ∧ (0 < pre.length → (pre.length : Int) ≠ leave) ∧ IsM W t) (fun pre W => Vr (B + 2) (.bool true) 4 W ∧ Below B w W) (RgS B (zx + 1) c v)
          (fun k hk => by
            have h1 := S11.out
            have h2 := HBMX.out
            have h3 := HCX.out
            have h4 := RL11.out.lo
            rcases hk with h | h | h | h | h
            · omega
            · omega
            · omega
            · omega
            · have := (WK11.out.own h).2.1; omega)
          (fun pre S A C Sx hA hAC hkp hS => ⟨hA.1, hA.2.1, hA.2.2.1.only hAC hkp hS (by have := S11.out; omega), hA.2.2.2.1, hA.2.2.2.2.kn hkp⟩) (fun pre A C hA hAC => ⟨hA.1.only hAC (fun g => by have := S11.out; have := RL11.out.lo; have := HBMX.out; omega), hA.2.trans (hAC.below (fun j _ hj => by have := S11.out; have := RL11.out.lo; have := HBMX.out; omega) (by have := hA.1.lt; omega))⟩)
          ⟨rfl, Nat.zero_le _, ⟨HRV0.out, v, WK11.out, rfl⟩, fun h => by simp at h, RL11.out.map⟩ HC11.out
          (fun t x => (t.setIfInBounds 12 (.string (bs x.1))).setIfInBounds 13 (.string x.2)) ?assign ?body ?done ?stop
        case assign =>
          intro lp x W K hK
          simp only [encK]
          gi_wp2
          simp [encK] at hK
          exact hK
        case body =>
          rintro lp pre S x W ⟨hpre, hpl, hI, hne, hmap⟩ hx
          have HMP := Lib.hid hmap
          clear hmap
          obtain ⟨k, hk⟩ : ∃ k, k = pre.length := ⟨_, rfl⟩
          rw [← hk] at hpre hpl hI hne hx
          have hk1 : k < L.length := (List.getElem?_eq_some_iff.1 hx).1
          have hkt : pre ++ [x] = L.take (k + 1) := by rw [List.take_add_one, hx, hpre]; rfl
          have hpl2 : (pre ++ [x]).length = k + 1 := by rw [List.length_append, ← hk]; rfl
          obtain ⟨xk, xv⟩ := x
          have hd : L.drop k = (xk, xv) :: L.drop (k + 1) := by
            rw [List.drop_eq_getElem_cons hk1]
            rw [List.getElem?_eq_getElem hk1] at hx
            injection hx with hx
            rw [hx]
          obtain ⟨hV, vw, hwk, rfl⟩ := hI
          rw [hd] at hwk
          have HNX := Lib.hid (next (Lib.hid hwk) (by have := hwk.lo; have := heap_lt hwk.box; omega) (by have h1 := congrArg List.length hd; rw [List.length_drop] at h1; have := HL0.out; have := HTS.out; omega))
          have hlk := lastK_succ hx
          obtain ⟨t1, t2, t3⟩ := tell_facts HL.out RL.out.map.ris RL.out.bang hx
          simp only at t1 t2 t3 hlk
          subst t1
          have x0 := hV.x.cell
          have HV := Lib.hid hV
          have HWK2 := Lib.hid hwk
          have HKT := Lib.hid (And.intro hkt (And.intro hpl2 (And.intro hk1 hlk)))
          have HT3 := Lib.hid t3
          have hfr : Op.bytesLess (bs xk).toList (bs fr).toList = false := by rw [Lib.toList_data, Lib.toList_data, bs_list, bs_list, ltB_less]; exact t2
          have hxs : (bs xk).size ≤ 10000 := by
            rw [bs_size]
            refine RL.out.small (xk, bang xk) ?_
            have hm : (xk, bang xk) ∈ fromP fr t.prs := by rw [← HL.out]; exact List.mem_of_getElem? hx
            exact (List.mem_filter.1 hm).1
          have hkk : k ≤ 300 := by have := HL0.out; have := HTS.out; omega
          clear hV hwk hd hkt hpl2 hx hpre hne hk hpl t2 t3 hk1 hlk
          simp only [encK]
          gi_wp2
          refine ⟨trivial, (CallsIn.inRound lp (callsIn_wide.2 HNX.out)).mono ?_⟩
          rintro e W3 ⟨hO, hK, v', hv', hm⟩
          obtain ⟨rfl, hwk'⟩ := hm
          have V3 := Lib.hid (HV.out.next HWK2.out HBW.out hO)
          have V5 := Lib.hid (V3.out.sets ((k : Int) + 1) xk)
          have HOK := Lib.hid (And.intro hO (And.intro hK (And.intro hv' hwk')))
          have n0 := V3.out.n.cell
          have l0 := V3.out.la.cell
          have lf := V3.out.la.free
          have f0 := V3.out.f.cell
          have g0 := (V3.out.n.set (c := zx + 1 + 1) (o := 0) (by omega) (.string (bs xk))).cell
          have g1 := (V3.out.n.set (c := zx + 1 + 1) (o := 0) (by omega) (.string (bs xk))).free
          have q0 := V5.out.n.cell
          have q1 := V5.out.l.cell
          have r0 := V5.out.r.cell
          have r1 := V5.out.r.free
          clear hO hK hv' hwk' x0
          rcases Nat.eq_zero_or_pos k with h0 | h0
          · have hk0a : decide (0 < k) = false := by simp; omega
            have hk0b : decide ((0 : Int) < (k : Int)) = false := by simp; omega
            clear h0
            by_cases hle : (k : Int) + 1 = leave
            · have hle3 : ((k : Int) + 1 == leave) = true := by simpa using hle
              clear hle
              gi_wp2
              refine ⟨?_, ?_, ?_⟩
              · exact (((HOK.out.1.mono fun j _ hj => by rcases hj with h | h; exact .inr (.inr (.inr (.inl h))); exact .inr (.inr (.inr (.inr h)))).setCell (p := ⟨zx + 1 + 1, 0, none⟩) (.inl (.inr (.inr (.inl rfl)))) _).setCell (p := ⟨zx + 1, 0, none⟩) (.inl (.inr (.inl rfl))) _).setCell (p := ⟨B + 2, 0, none⟩) (.inl (.inl rfl)) _
              · exact V5.out.r.put _
              · exact V5.out.bel.setCell (p := ⟨B + 2, 0, none⟩) (by simp) _
            · have hle3 : ((k : Int) + 1 == leave) = false := by simpa using hle
              have HLE := Lib.hid hle
              clear hle
              gi_wp2
              have KN5 := (HOK.out.2.1.set V3.out.la (by decide) (.string (bs xk))).set (V3.out.n.set (c := zx + 1 + 1) (o := 0) (by omega) (.string (bs xk))) (by decide) (o := 0) (.int .i64 ((k : Int) + 1))
              refine ⟨?_, KN5, RgS B (zx + 1) c v', fun j hj => ?_, ?_, ?_, ?_, ?_, HMP.out.kn KN5⟩
              · exact ((HOK.out.1.mono fun j _ hj => by rcases hj with h | h; exact .inr (.inr (.inr (.inl h))); exact .inr (.inr (.inr (.inr h)))).setCell (p := ⟨zx + 1 + 1, 0, none⟩) (.inl (.inr (.inr (.inl rfl)))) _).setCell (p := ⟨zx + 1, 0, none⟩) (.inl (.inr (.inl rfl))) _
              · have hb := HOK.out.2.2.2
                refine ⟨?_, ?_⟩
                · rcases hj with h | h | h | h | h
                  · exact .inl (.inl h)
                  · exact .inl (.inr (.inl h))
                  · exact .inl (.inr (.inr (.inl h)))
                  · exact .inl (.inr (.inr (.inr (.inl h))))
                  · rcases HOK.out.2.2.1 j h with h | h
                    · exact .inl (.inr (.inr (.inr (.inr h))))
                    · exact .inr h
                · have hsz5 : ((W3.setCell ⟨zx + 1 + 1, 0, none⟩ (.string (bs xk))).setCell ⟨zx + 1, 0, none⟩ (.int .i64 ((k : Int) + 1))).heap.size = W3.heap.size := by simp
                  rw [hsz5]
                  rcases hj with h | h | h | h | h
                  · rw [h]; exact V3.out.r.lt
                  · rw [h]; exact V3.out.n.lt
                  · rw [h]; exact V3.out.la.lt
                  · rw [h]; exact heap_lt hb.box
                  · exact (hb.own h).2.1
              · rw [HKT.out.2.1]; exact HKT.out.1
              · rw [HKT.out.2.1]; exact HKT.out.2.2.1
              · rw [HKT.out.2.1]
                refine ⟨?_, v', ?_, rfl⟩
                · rw [HKT.out.2.2.2, show ((k + 1 : Nat) : Int) = (k : Int) + 1 by omega]; exact V5.out
                · exact wk_set (wk_set HOK.out.2.2.2 V3.out.la (by decide) (by decide) (by decide)) (V3.out.n.set (by omega) _) (by decide) (by decide) (by decide)
              · rw [HKT.out.2.1]
                intro _
                rw [show ((k + 1 : Nat) : Int) = (k : Int) + 1 by omega]
                exact HLE.out
          · have hk0a : decide (0 < k) = true := by simp; omega
            have hk0b : decide ((0 : Int) < (k : Int)) = true := by simp; omega
            have hll : ltB (lastK L k) xk = true := by
              rcases HT3.out with h | h
              · omega
              · exact h
            have hl1 : Op.bytesLess (bs xk).toList (bs (lastK L k)).toList = false := by rw [Lib.toList_data, Lib.toList_data, bs_list, bs_list, ltB_less]; exact ltB_asymm hll
            have hl2 : Op.bytesLess (bs (lastK L k)).toList (bs xk).toList = true := by rw [Lib.toList_data, Lib.toList_data, bs_list, bs_list, ltB_less]; exact hll
            have hl3 : ((bs xk).toList == (bs (lastK L k)).toList) = false := by rw [Lib.toList_data, Lib.toList_data, bs_list, bs_list]; simpa using (ltB_ne hll).symm
            clear h0 hll
            by_cases hle : (k : Int) + 1 = leave
            · have hle3 : ((k : Int) + 1 == leave) = true := by simpa using hle
              clear hle
              gi_wp2
              refine ⟨?_, ?_, ?_⟩
              · exact (((HOK.out.1.mono fun j _ hj => by rcases hj with h | h; exact .inr (.inr (.inr (.inl h))); exact .inr (.inr (.inr (.inr h)))).setCell (p := ⟨zx + 1 + 1, 0, none⟩) (.inl (.inr (.inr (.inl rfl)))) _).setCell (p := ⟨zx + 1, 0, none⟩) (.inl (.inr (.inl rfl))) _).setCell (p := ⟨B + 2, 0, none⟩) (.inl (.inl rfl)) _
              · exact V5.out.r.put _
              · exact V5.out.bel.setCell (p := ⟨B + 2, 0, none⟩) (by simp) _
            · have hle3 : ((k : Int) + 1 == leave) = false := by simpa using hle
              have HLE := Lib.hid hle
              clear hle
              gi_wp2
              have KN5 := (HOK.out.2.1.set V3.out.la (by decide) (.string (bs xk))).set (V3.out.n.set (c := zx + 1 + 1) (o := 0) (by omega) (.string (bs xk))) (by decide) (o := 0) (.int .i64 ((k : Int) + 1))
              refine ⟨?_, KN5, RgS B (zx + 1) c v', fun j hj => ?_, ?_, ?_, ?_, ?_, HMP.out.kn KN5⟩
              · exact ((HOK.out.1.mono fun j _ hj => by rcases hj with h | h; exact .inr (.inr (.inr (.inl h))); exact .inr (.inr (.inr (.inr h)))).setCell (p := ⟨zx + 1 + 1, 0, none⟩) (.inl (.inr (.inr (.inl rfl)))) _).setCell (p := ⟨zx + 1, 0, none⟩) (.inl (.inr (.inl rfl))) _
              · have hb := HOK.out.2.2.2
                refine ⟨?_, ?_⟩
                · rcases hj with h | h | h | h | h
                  · exact .inl (.inl h)
                  · exact .inl (.inr (.inl h))
                  · exact .inl (.inr (.inr (.inl h)))
                  · exact .inl (.inr (.inr (.inr (.inl h))))
                  · rcases HOK.out.2.2.1 j h with h | h
                    · exact .inl (.inr (.inr (.inr (.inr h))))
                    · exact .inr h
                · have hsz5 : ((W3.setCell ⟨zx + 1 + 1, 0, none⟩ (.string (bs xk))).setCell ⟨zx + 1, 0, none⟩ (.int .i64 ((k : Int) + 1))).heap.size = W3.heap.size := by simp
                  rw [hsz5]
                  rcases hj with h | h | h | h | h
                  · rw [h]; exact V3.out.r.lt
                  · rw [h]; exact V3.out.n.lt
                  · rw [h]; exact V3.out.la.lt
                  · rw [h]; exact heap_lt hb.box
                  · exact (hb.own h).2.1
              · rw [HKT.out.2.1]; exact HKT.out.1
              · rw [HKT.out.2.1]; exact HKT.out.2.2.1
              · rw [HKT.out.2.1]
                refine ⟨?_, v', ?_, rfl⟩
                · rw [HKT.out.2.2.2, show ((k + 1 : Nat) : Int) = (k : Int) + 1 by omega]; exact V5.out
                · exact wk_set (wk_set HOK.out.2.2.2 V3.out.la (by decide) (by decide) (by decide)) (V3.out.n.set (by omega) _) (by decide) (by decide) (by decide)
              · rw [HKT.out.2.1]
                intro _
                rw [show ((k + 1 : Nat) : Int) = (k : Int) + 1 by omega]
                exact HLE.out
        case done =>
          rintro D S W hD ⟨-, -, ⟨hV, vw, hwk, rfl⟩, -, hmap⟩ hK hSD
          rw [List.drop_length] at hwk
          have x0 := hV.x.cell
          have HNX := Lib.hid (next (Lib.hid hwk) (by have := hwk.lo; have := heap_lt hwk.box; omega) (by simp))
          have HV := Lib.hid hV
          have HWK2 := Lib.hid hwk
          have HMP := Lib.hid hmap
          have HKD := Lib.hid hK
          have HSD := Lib.hid hSD
          have HD := Lib.hid hD
          clear hV hwk hmap hSD hD hK
          gi_wp2
          go_wp2_with fail
          refine HNX.out.mono ?_
          rintro e W3 ⟨hO, hK3, v', hv', hm⟩
          obtain ⟨rfl, hwk'⟩ := hm
          have V3 := Lib.hid (HV.out.next HWK2.out HBW.out hO)
          have M3 := Lib.hid (HMP.out.kn hK3)
          have D3 := Lib.hid ((hO.block D (heap_lt HKD.out) (fun g => by
            rcases g with g | g
            · exact HSD.out _ (.inr (.inr (.inr (.inl g)))) rfl
            · exact HSD.out _ (.inr (.inr (.inr (.inr g)))) rfl)).trans HKD.out)
          obtain ⟨ln, hln⟩ : ∃ ln, ln = L.length := ⟨_, rfl⟩
          obtain ⟨sz, hszt⟩ : ∃ sz, sz = t.sz := ⟨_, rfl⟩
          have hle : (ln : Int) ≤ (sz : Int) := by have := HL0.out; omega
          have hle2 : decide (sz < ln) = false := by simp; omega
          have HLN := fun z : Seen W3 => Lib.hid (show Calls Try.prog 21 #[.agg #[.pointer u]] z.val fun e w' => e = .returned (.int .i64 (sz : Int)) ∧ ∃ m : Seen W3, w' = m.val from by
            rw [hszt]
            exact (map_Len (Lib.hid (M3.out.seen z.below).tree) RL.out.ptr).mono fun e w' ⟨h1, h2⟩ => ⟨h1, ⟨w', z.below.trans (h2.mono z.below.size)⟩, rfl⟩)
          have n0 : ∀ z : Seen W3, z.val.cell? ⟨zx + 1, 0, none⟩ = some (.int .i64 (ln : Int)) := fun z => by rw [hln]; exact (V3.out.n.below z.below).cell
          have n1 : ∀ z : Seen W3, z.val.cell? ⟨bm, 0, none⟩ = some (.pointer u) := fun z => (V3.out.m.below z.below).cell
          clear hln hszt hO hK3 hv' hwk' x0
          go_wp2_with fail
          refine wp_region_seen_tail 8 (by kernel_rfl) (by kernel_rfl) ?_
          simp only [List.take_succ_cons, List.take_zero, List.drop_succ_cons, List.drop_zero]
          repeat go_big_quiet_step (first | (go_at_call 21; with_reducible exact (HLN _).out))
          refine wpQuiet_nil ?_
          rintro _ ⟨z1, rfl⟩
          have Z1 := Lib.hid z1.below
          have RZ := Lib.hid (V3.out.r.below z1.below)
          have r0 := RZ.out.cell
          have rf := RZ.out.free
          generalize z1.val = W4 at *
          clear n0 n1 HLN
          go_wp2_with fail
          refine FIN.out D _ HD.out (RZ.out.put _) ?_ ?_ _ rfl rfl
          · exact (V3.out.bel.trans (Z1.out.mono (by have := V3.out.f.lt; omega))).setCell (p := ⟨B + 2, 0, none⟩) (by simp) _
          · exact (heap_set_other (by have := HD.out; have := S11.out; have := RL11.out.lo; have := HBMX.out; omega) _).trans ((Z1.out.block D (heap_lt D3.out)).trans D3.out)
        case stop =>
          rintro D pre W hD ⟨hr, hb⟩ hK
          gi_wp2
          exact FIN.out D W hD hr hb hK _ rfl rfl
end Go.Proofs.Ytbmihajbdobgbaa.MS
