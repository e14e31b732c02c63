/- Texts put together: WalBack, WalOpen, WalStepClear, WalStepArm, WalStepAdd -/
import Derived.Test.YtkelcmncjhnbgaaWPl10
import Derived.Deep.RegionHeld3
import Derived.Deep.Slices
import Derived.Deep.Fields
import Derived.ChangeSame
import Derived.SizedLaws
import Derived.Deep.RegionLaw
/- The power goes and comes back: what is read of the log then, and the next log. -/
set_option linter.unusedVariables false
set_option maxRecDepth 100000
namespace Go.Proofs.Ytkelcmncjhnbgaa
open Go.RowKit

theorem txv_form {w : World} {v : Value} {T : List (List UInt8)} (h : TxV w v T) {n : Nat} (hn : T.length = n) : ∃ a cap, v = .slice a n cap := by
  obtain ⟨a, cap, rfl, _⟩ := h
  exact ⟨a, cap, by rw [hn]⟩
set_option maxHeartbeats 8000000 in
theorem law_back {B xb lb d K N : Nat} {p : PS} {n : Int} {w : World} (h : Hid (Mem B w xb lb d p)) (hp : Hid (p.Ok K N)) (hK : K ≤ 250) (hN : N ≤ 80000) (hn : -9223372036854775808 ≤ n ∧ n ≤ 9223372036854775807) :
    Calls Try.prog 20 #[.pointer (some ⟨xb, 0, none⟩), .int .i64 n] w fun e w' => StepPost B w xb (K + 1) N e w' := by
  obtain ⟨hBw, O, v1, v2, v3, hR, hL, hC3⟩ := h.out
  have HB := Lib.hid hBw
  obtain ⟨f, m, s4, hf, hspl, hsm, hml, hmk, hdn4, hok⟩ := back_cases hp.out h.out.fit (by omega) (by omega) n
  have hlo := Lib.hid hp.out.lo
  have hhi := Lib.hid hp.out.hi
  have hwf := Lib.hid (show (Lit.int .i64 p.file).wf = true from wf_of (by have := hlo.out; omega) (by have := hhi.out; omega))
  have hwf1 := Lib.hid (show (Lit.int .i64 (p.file + 1)).wf = true from wf_of (by have := hlo.out; omega) (by have := hhi.out; omega))
  obtain ⟨s3, hs3⟩ : ∃ s3, s3 = p.s.back [(p.file, n)] := ⟨_, rfl⟩
  rw [← hs3] at hf hmk
  have hdn3 : s3.down = false := by rw [hs3]; rfl
  have hst3 : s3.steps ≤ 1000 := by rw [hs3]; have := hp.out.steps; show p.s.steps ≤ 1000; omega
  obtain ⟨file, hfile⟩ : ∃ file, file = p.file := ⟨_, rfl⟩
  obtain ⟨L0, hL0⟩ : ∃ L0, L0 = p.writ ++ p.may := ⟨_, rfl⟩
  rw [← hL0] at hspl hml
  rw [← hfile] at hf hmk hok hwf hwf1 hR hL hs3 hlo hhi
  -- what Back leaves
  have HBK := Lib.hid (show ∀ W : World, Below w.heap.size w W → W.heap[w.heap.size]? = some (.cells #[.int .i64 file, .int .i64 n] 87 (0, 0)) →
      Calls Try.prog 43 #[.pointer (some ⟨d, 0, none⟩), .slice (some ⟨w.heap.size, 0, none⟩) 1 1] W fun e w' => e = .returned (.tuple #[]) ∧ (w'.cell? ⟨xb, 0, none⟩ = some (.pointer (some ⟨d, 0, none⟩)) ∧ w'.cell? ⟨xb, 2, none⟩ = some (.int .i64 file)) ∧
        (∃ O', MemR B w' xb lb d file O' v1 v2 v3 p.wait p.writ p.may p.sure ∧ Lg O' w' lb d s3 file (framesL p.wait) p.wait.length p.writ.length p.sure) ∧ Below B w w' from fun W kW hW => by
    obtain ⟨S, fv, g1, g2, g3, g4, g5, g6, g7⟩ := hL.below kW
    have hRW := hR.below kW hBw
    have hks : IsKeeps W (some ⟨w.heap.size, 0, none⟩) 1 [(file, n)] := by
      refine ⟨rfl, by omega, w.heap.size, 0, .inr rfl, ?_⟩
      intro k hk
      obtain rfl : k = 0 := by simpa using hk
      exact ⟨heap_lt hW, by simp [World.cell?, hW], by simp [World.cell?, hW], hwf.out, wf_of hn.1 hn.2⟩
    refine (disk_Back g1 _ 1 1 _ hks).mono fun e w' ⟨e1, e2, e3⟩ => ⟨e1, ?_⟩
    obtain ⟨l2, o2⟩ := Lg.did g2 g3 g4 g5 g6 g7 (Below.refl _ W) e2 e3
    have r2 := hRW.called (O' := fun k => New O W k ∧ k < w'.heap.size) o2 (fun j hj => hj) (Nat.le_trans hBw kW.size)
    refine ⟨⟨by simp [World.cell?, r2.obj, xcells], by simp [World.cell?, r2.obj, xcells]⟩, ⟨_, r2, by rw [hs3]; exact l2.tight⟩, (kW.mono hBw).trans (o2.below (fun k _ hk => (hRW.tight k hk).1) (Nat.le_trans hBw kW.size))⟩)
  have x0 : w.cell? ⟨xb, 0, none⟩ = some (.pointer (some ⟨d, 0, none⟩)) := by simp [World.cell?, hR.obj, xcells]
  have x2 : w.cell? ⟨xb, 2, none⟩ = some (.int .i64 file) := by simp [World.cell?, hR.obj, xcells]
  have HF := Lib.hid hf
  have HSPL := Lib.hid hspl
  have HSM := Lib.hid hsm
  have HML := Lib.hid hml
  have HMK := Lib.hid hmk
  have HOK := Lib.hid hok
  have HL0 := Lib.hid hL0
  have HDN3 := Lib.hid hdn3
  have HFILE := Lib.hid hfile
  clear hfile hR hL hC3 hs3 hf hspl hsm hml hmk hok hL0 hdn3 hBw hn
  go_enter Try.func20, Try.ntmps20
  go_upto_region 1 with (fail)
  go_region_held3 (fun w' => w'.cell? ⟨xb, 0, none⟩ = some (.pointer (some ⟨d, 0, none⟩)) ∧ w'.cell? ⟨xb, 2, none⟩ = some (.int .i64 file)) (first | exact ⟨x0, x2⟩ | exact ⟨y0, y2⟩ | go_keep) (first | (go_at_call 43; refine (HBK.out _ ((Below.refl _ w).alloc (Nat.le_refl _) _).drew (heap_new w _)).mono ?_; rintro e w2 ⟨rfl, ⟨y0, y2⟩, ⟨O2, r2, l2⟩, k2⟩))
  have R2 := Lib.hid r2
  have L2 := Lib.hid l2
  have K2 := Lib.hid k2
  clear r2 l2 k2 HBK x0 x2
  -- what Replay tells
  obtain ⟨T0, hT0⟩ : ∃ T0, T0 = L0.take m := ⟨_, rfl⟩
  have HT0 := Lib.hid hT0
  have HRP := Lib.hid (show ∀ W : World, Below w2.heap.size w2 W → Calls Try.prog 23 #[.pointer (some ⟨d, 0, none⟩), .int .i64 file] W fun e w' => ∃ v wh, e = .returned (.tuple #[v, .bool wh, .int .i64 0]) ∧ (w'.cell? ⟨xb, 0, none⟩ = some (.pointer (some ⟨d, 0, none⟩)) ∧ w'.cell? ⟨xb, 2, none⟩ = some (.int .i64 file)) ∧ TxV w' v T0 ∧ Below w2.heap.size w2 w' from fun W kW => by
    obtain ⟨S, hD⟩ := (L2.out.below kW).disk
    refine (wal_Replay (Lib.hid hD) hwf.out HDN3.out HF.out).mono fun e w' ⟨v, e1, e2, e3⟩ => ?_
    have r5 := R2.out.below (kW.trans (e3.mono kW.size)) (Nat.le_trans HB.out K2.out.size)
    have tt := e2.txs
    rw [HSPL.out, ← hT0] at tt
    exact ⟨v, _, e1, ⟨by simp [World.cell?, r5.obj, xcells], by simp [World.cell?, r5.obj, xcells]⟩, tt, kW.trans (e3.mono kW.size)⟩)
  clear hT0
  go_upto_region 2 with (fail)
  go_region_held3 (fun w' => w'.cell? ⟨xb, 0, none⟩ = some (.pointer (some ⟨d, 0, none⟩)) ∧ w'.cell? ⟨xb, 2, none⟩ = some (.int .i64 file)) (first | exact ⟨y0, y2⟩ | exact ⟨z0, z2⟩ | go_keep) (first | (go_at_call 23; refine (HRP.out _ (Below.refl _ w2).drew).mono ?_; rintro e w3 ⟨vr, wh, rfl, ⟨z0, z2⟩, t3, k3⟩))
  have R3 := Lib.hid (R2.out.below k3 (Nat.le_trans HB.out K2.out.size))
  have L3 := Lib.hid (L2.out.below k3)
  have K3 := Lib.hid (K2.out.trans (k3.mono (Nat.le_trans HB.out K2.out.size)))
  have T3 := Lib.hid t3
  clear t3 k3 HRP R2 L2 K2 y0 y2 HF HSPL
  obtain ⟨i0, hi, hz0, hz1, hz2⟩ := info_parts infoStr
  obtain ⟨zw, hzw⟩ : ∃ zw, zw = p.writ.length := ⟨_, rfl⟩
  obtain ⟨zm, hzm⟩ : ∃ zm, zm = p.may.length := ⟨_, rfl⟩
  have hzw2 : zw ≤ 1000 ∧ zm ≤ 1000 := by have := hp.out.lens; omega
  have x4 : w3.cell? ⟨xb, 4, none⟩ = some v2 := by simp [World.cell?, R3.out.obj, xcells]
  have x5 : w3.cell? ⟨xb, 5, none⟩ = some v3 := by simp [World.cell?, R3.out.obj, xcells]
  have hBs := Lib.hid (show B ≤ w3.heap.size from Nat.le_trans HB.out K3.out.size)
  have HK := Lib.hid (show Below w3.heap.size w3 (w3.alloc (.cells #[] 9)).drew from ((Below.refl _ w3).alloc (Nat.le_refl _) _).drew)
  have HOE := Lib.hid (show OffRow (w3.alloc (.cells #[] 9)).drew w3.heap.size 9 1 (.slice (some ⟨w3.heap.size, 0, none⟩) 0 0) 0 [] from ⟨rfl, .inr ⟨w3.heap.size, 0, 0, #[], rfl, Nat.le_refl _, heap_new w3 _, Nat.le_refl _, Nat.zero_le _, by simp, fun j hj => absurd hj (by omega)⟩⟩)
  have HS2 := Lib.hid (fun (W : World) (kW : Below w3.heap.size w3 W) => show Src Try.prog 1 22 v2 zw (scells p.writ) W from by rw [hzw]; exact src_own (R3.out.o2.kept fun j hj => kW.block j (OffRow.lt R3.out.o2 j hj).2))
  have HS3 := Lib.hid (fun (W : World) (kW : Below w3.heap.size w3 W) => show Src Try.prog 1 22 v3 zm (scells p.may) W from by rw [hzm]; exact src_own (R3.out.o3.kept fun j hj => kW.block j (OffRow.lt R3.out.o3 j hj).2))
  have HX := Lib.hid (fun (W : World) (kW : Below w3.heap.size w3 W) => show W.cell? ⟨xb, 4, none⟩ = some v2 ∧ W.cell? ⟨xb, 5, none⟩ = some v3 from ⟨by rw [kW.cell (p := ⟨xb, 4, none⟩) (heap_lt R3.out.obj)]; exact x4, by rw [kW.cell (p := ⟨xb, 5, none⟩) (heap_lt R3.out.obj)]; exact x5⟩)
  have HZ := Lib.hid (And.intro hzw hzm)
  have HI := Lib.hid (And.intro hi (And.intro hz0 (And.intro hz1 hz2)))
  clear hzw hzm
  go_upto_region 3 with (fail)
  go_region_held3 (fun w' => w'.cell? ⟨xb, 4, none⟩ = some v2 ∧ w'.cell? ⟨xb, 5, none⟩ = some v3) (first | exact ⟨x4, x5⟩ | exact HX.out _ HK.out | exact HX.out _ KA5 | exact HX.out _ KA6 | go_keep) (first | (refine step_append_off rfl (.tmp 36) (.tmp 40) 22 rfl w3.heap.size 9 i0 _ 1 16 Try.underlying22 hi hz0 hz1 hz2 rfl (.slice (some ⟨w3.heap.size, 0, none⟩) 0 0) 0 [] (by simp [Act.eval, Act.put]) HOE.out v2 (by simp [Act.eval, Act.put]) zw (scells p.writ) (HS2.out _ HK.out) (by unfold maxLen; omega) (by omega) HK.out.size ?_; intro v5 w5 hr5 hg5 hat5; simp only [Nat.zero_add, List.nil_append] at hr5; have KA5 := HK.out.grown hg5 HK.out.size (fun j hj => (OffRow.lt HOE.out j hj).1); obtain ⟨a5, c5, rfl⟩ := OffRow.slice hr5; clear hg5 hat5) | (refine step_append_off rfl (.tmp 41) (.tmp 45) 22 rfl w3.heap.size 9 i0 _ 1 16 Try.underlying22 hi hz0 hz1 hz2 rfl (.slice a5 zw c5) zw (scells p.writ) (by simp [Act.eval, Act.put]) hr5 v3 (by simp [Act.eval, Act.put]) zm (scells p.may) (HS3.out _ KA5) (by unfold maxLen; omega) (by omega) KA5.size ?_; intro v6 w6 hr6 hg6 hat6; have KA6 := KA5.grown hg6 KA5.size (fun j hj => (OffRow.lt hr5 j hj).1); obtain ⟨a6, c6, rfl⟩ := OffRow.slice hr6; clear hg6 hat6))
  have T6 := Lib.hid (T3.out.below KA6)
  have A6 := Lib.hid (show OwnT w6 w3.heap.size (.slice a6 (zw + zm) c6) L0 from by
    unfold OwnT
    rw [HL0.out, List.length_append, show scells (p.writ ++ p.may) = scells p.writ ++ scells p.may by simp [scells], ← HZ.out.1, ← HZ.out.2]
    exact hr6)
  have R6 := Lib.hid (R3.out.below KA6 hBs.out)
  have L6 := Lib.hid (L3.out.below KA6)
  have K6 := Lib.hid (K3.out.trans (KA6.mono hBs.out))
  have hml6 : m ≤ zw + zm := by have := HML.out; rw [HL0.out, List.length_append] at this; have := HZ.out; omega
  have hlT : T0.length = m := by rw [HT0.out, List.length_take]; have := HML.out; omega
  obtain ⟨ar, cr, rfl⟩ := txv_form T6.out hlT
  have hcap6 : zw + zm ≤ c6 := OffRow.cap_ge hr6
  have x6 : w6.cell? ⟨xb, 6, none⟩ = some (.int .i64 (p.sure : Int)) := by simp [World.cell?, R6.out.obj, xcells]
  have B6 := Lib.hid (show TxV w6 (.slice a6 m c6) T0 from by rw [HT0.out]; exact A6.out.txs.take HML.out)
  obtain ⟨za, hza⟩ : ∃ za, za = zw + zm := ⟨_, rfl⟩
  rw [← hza] at hml6 hcap6 ⊢
  have hm1 : (p.sure : Int) ≤ (m : Int) := by have := HSM.out; omega
  have hm2 : (m : Int) ≤ (za : Int) := by omega
  have hm3 : (m : Int) ≤ (c6 : Int) := by omega
  have hm4 : m ≤ 10000 := by omega
  have HLT := Lib.hid hlT
  clear hr5 hr6 KA5 KA6 HOE HS2 HS3 HX HK x4 x5 z0 z2 R3 L3 K3 T3 hBs hza hi hz0 hz1 hz2 hlT A6
  go_wp2_with fail
  refine (ref_Same T6.out B6.out (by rw [HLT.out]; omega)).mono ?_
  rintro e w7 ⟨rfl, k7⟩
  have R7 := Lib.hid (R6.out.below k7 (Nat.le_trans HB.out K6.out.size))
  have L7 := Lib.hid (L6.out.below k7)
  have K7 := Lib.hid (K6.out.trans (k7.mono (Nat.le_trans HB.out K6.out.size)))
  have y2 : w7.cell? ⟨xb, 2, none⟩ = some (.int .i64 file) := by simp [World.cell?, R7.out.obj, xcells]
  have f2 : w7.frozen? ⟨xb, 2, none⟩ = false := by simp [World.frozen?, R7.out.obj]
  have k8 := (Only.refl (fun k => k = xb) w7).setCell (p := ⟨xb, 2, none⟩) (.inl rfl) (.int .i64 (file + 1))
  have HO8 := Lib.hid (show (w7.setCell ⟨xb, 2, none⟩ (.int .i64 (file + 1))).heap[xb]? = some (.cells (xcells d lb (file + 1) v1 v2 v3 p.sure) 49 (0, 0)) from heap_set R7.out.obj _)
  have HD8 := Lib.hid (show ∃ S, Disk S (w7.setCell ⟨xb, 2, none⟩ (.int .i64 (file + 1))) d s3 ∧ (∀ k, S k → B ≤ k ∧ k < (w7.setCell ⟨xb, 2, none⟩ (.int .i64 (file + 1))).heap.size) ∧ ¬ S xb from by
    obtain ⟨S, fv, g1, g2, _⟩ := L7.out
    exact ⟨S, g1.only k8 (fun j _ hs e => R7.out.xno (e ▸ g2 j hs)), fun k hk => ⟨(R7.out.tight k (g2 k hk)).1, Nat.lt_of_lt_of_le (R7.out.tight k (g2 k hk)).2 k8.size⟩, fun x => R7.out.xno (g2 xb x)⟩)
  have K8 := Lib.hid (show Below B w (w7.setCell ⟨xb, 2, none⟩ (.int .i64 (file + 1))) from K7.out.trans (k8.below (fun k _ hk => hk ▸ R7.out.xlo) (Nat.le_trans HB.out K7.out.size)))
  have hxlo := Lib.hid R7.out.xlo
  have hfl : 1 ≤ file ∧ file ≤ 1000 := by have := hlo.out; have := hhi.out; omega
  clear k7 k8 R6 L6 K6 T6 B6 x6
  go_upto_region 7 with (fail)
  generalize w7.setCell ⟨xb, 2, none⟩ (.int .i64 (file + 1)) = w8 at *
  clear R7 L7 K7 y2 f2
  obtain ⟨file1, hfile1⟩ : ∃ file1, file1 = file + 1 := ⟨_, rfl⟩
  rw [← hfile1] at HO8 HMK HOK hwf1
  have HF1 := Lib.hid hfile1
  clear hfile1
  have x0 : w8.cell? ⟨xb, 0, none⟩ = some (.pointer (some ⟨d, 0, none⟩)) := by simp [World.cell?, HO8.out, xcells]
  have x2 : w8.cell? ⟨xb, 2, none⟩ = some (.int .i64 file1) := by simp [World.cell?, HO8.out, xcells]
  have HBG := Lib.hid (show ∀ W : World, Below w8.heap.size w8 W → Calls Try.prog 18 #[.pointer (some ⟨d, 0, none⟩), .int .i64 0, .int .i64 file1] W fun e w' => ∃ lb', e = .returned (.tuple #[.pointer (some ⟨lb', 0, none⟩), .int .i64 0]) ∧ (w'.cell? ⟨xb, 0, none⟩ = some (.pointer (some ⟨d, 0, none⟩)) ∧ w'.cell? ⟨xb, 2, none⟩ = some (.int .i64 file1)) ∧
      w'.heap[xb]? = some (.cells (xcells d lb file1 v1 v2 v3 p.sure) 49 (0, 0)) ∧ (∃ O', (∀ k, O' k → B ≤ k ∧ k < w'.heap.size) ∧ ¬ O' xb ∧ Lg O' w' lb' d s4 file1 [] 0 0 0) ∧ Below B w w' from fun W kW => by
    obtain ⟨S, g1, g2, g3⟩ := HD8.out
    refine (wal_Begin (Lib.hid (g1.below kW)) hwf1.out (by omega) HMK).mono fun e w' hpost => ?_
    rcases hpost with ⟨hz, _⟩ | ⟨_, lb', hlb, e1, l9, o9⟩
    · exact absurd rfl hz
    · have hxb8 : xb < w8.heap.size := heap_lt HO8.out
      have hx9 : w'.heap[xb]? = some (.cells (xcells d lb file1 v1 v2 v3 p.sure) 49 (0, 0)) := ((o9.block xb (Nat.lt_of_lt_of_le hxb8 kW.size) g3).trans (kW.block xb hxb8)).trans HO8.out
      have hBW : B ≤ w8.heap.size := Nat.le_trans HB.out K8.out.size
      refine ⟨lb', e1, ⟨by simp [World.cell?, hx9, xcells], by simp [World.cell?, hx9, xcells]⟩, hx9, ⟨fun k => New S W k ∧ k < w'.heap.size, fun k hk => ⟨?_, hk.2⟩, fun x => ?_, l9.tight⟩, (K8.out.trans (kW.mono hBW)).trans (o9.below (fun k _ hk => (g2 k hk).1) (Nat.le_trans hBW kW.size))⟩
      · rcases hk.1 with y | y
        · exact (g2 k y).1
        · exact Nat.le_trans hBW (Nat.le_trans kW.size y)
      · rcases x.1 with y | y
        · exact g3 y
        · have := kW.size; omega)
  go_region_held3 (fun w' => w'.cell? ⟨xb, 0, none⟩ = some (.pointer (some ⟨d, 0, none⟩)) ∧ w'.cell? ⟨xb, 2, none⟩ = some (.int .i64 file1)) (first | exact ⟨x0, x2⟩ | exact ⟨z0, z2⟩ | go_keep) (first | (go_at_call 18; refine (HBG.out _ (Below.refl _ w8).drew).mono ?_; rintro e w9 ⟨lb', rfl, ⟨z0, z2⟩, hx9, ⟨O9, t9, n9, l9⟩, k9⟩))
  have HX9 := Lib.hid hx9
  have T9 := Lib.hid t9
  have N9 := Lib.hid n9
  have L9 := Lib.hid l9
  have K9 := Lib.hid k9
  clear hx9 t9 n9 l9 k9 HBG x0 x2 HO8 HD8 K8
  have n0 : ∀ q : Seen w9, q.val.cell? ⟨xb, 0, none⟩ = some (.pointer (some ⟨d, 0, none⟩)) := fun q => by rw [q.below.cell (p := ⟨xb, 0, none⟩) (heap_lt HX9.out)]; exact z0
  have n2 : ∀ q : Seen w9, q.val.cell? ⟨xb, 2, none⟩ = some (.int .i64 file1) := fun q => by rw [q.below.cell (p := ⟨xb, 2, none⟩) (heap_lt HX9.out)]; exact z2
  clear z0 z2
  go_upto_region 8 with (fail)
  refine wp_region_seen_tail 12 (by kernel_rfl) (by kernel_rfl) ?_
  simp only [List.take_succ_cons, List.take_zero, List.drop_succ_cons, List.drop_zero]
  repeat go_big_quiet_step (fail)
  refine wpQuiet_nil ?_
  rintro _ ⟨m9, rfl⟩
  have HX10 := Lib.hid ((m9.below.block xb (heap_lt HX9.out)).trans HX9.out)
  have L10 := Lib.hid (L9.out.below m9.below)
  have T10 := Lib.hid (fun k hk => (⟨(T9.out k hk).1, Nat.lt_of_lt_of_le (T9.out k hk).2 m9.below.size⟩ : B ≤ k ∧ k < m9.val.heap.size))
  have K10 := Lib.hid (K9.out.trans (m9.below.mono (Nat.le_trans HB.out K9.out.size)))
  generalize m9.val = w10 at *
  clear n0 n2 HX9 L9 T9 K9
  have q0 : w10.cell? ⟨xb, 0, none⟩ = some (.pointer (some ⟨d, 0, none⟩)) := by simp [World.cell?, HX10.out, xcells]
  have q1 : w10.cell? ⟨xb, 1, none⟩ = some (.pointer (some ⟨lb, 0, none⟩)) := by simp [World.cell?, HX10.out, xcells]
  have qf : ∀ j, w10.frozen? ⟨xb, j, none⟩ = false := fun j => by simp [World.frozen?, HX10.out]
  have q2 : w10.cell? ⟨xb, 2, none⟩ = some (.int .i64 file1) := by simp [World.cell?, HX10.out, xcells]
  have q3 : w10.cell? ⟨xb, 3, none⟩ = some v1 := by simp [World.cell?, HX10.out, xcells]
  have q4 : w10.cell? ⟨xb, 4, none⟩ = some v2 := by simp [World.cell?, HX10.out, xcells]
  have q5 : w10.cell? ⟨xb, 5, none⟩ = some v3 := by simp [World.cell?, HX10.out, xcells]
  have q6 : w10.cell? ⟨xb, 6, none⟩ = some (.int .i64 (p.sure : Int)) := by simp [World.cell?, HX10.out, xcells]
  obtain ⟨w11, hw11⟩ : ∃ w11, w11 = ((((((w10.setCell ⟨xb, 0, none⟩ (.pointer (some ⟨d, 0, none⟩))).setCell ⟨xb, 1, none⟩ (.pointer (some ⟨lb', 0, none⟩))).setCell ⟨xb, 2, none⟩ (.int .i64 file1)).setCell ⟨xb, 3, none⟩ (.slice none 0 0)).setCell ⟨xb, 4, none⟩ (.slice none 0 0)).setCell ⟨xb, 5, none⟩ (.slice none 0 0)).setCell ⟨xb, 6, none⟩ (.int .i64 0) := ⟨_, rfl⟩
  have hx11 : w11.heap[xb]? = some (.cells (xcells d lb' file1 (.slice none 0 0) (.slice none 0 0) (.slice none 0 0) 0) 49 (0, 0)) := by
    rw [hw11]
    exact heap_set (heap_set (heap_set (heap_set (heap_set (heap_set (heap_set HX10.out _) _) _) _) _) _) _
  have k11 : Only (fun k => k = xb) w10 w11 := by
    rw [hw11]
    exact (((((((Only.refl (fun k => k = xb) w10).setCell (p := ⟨xb, 0, none⟩) (.inl rfl) _).setCell (p := ⟨xb, 1, none⟩) (.inl rfl) _).setCell (p := ⟨xb, 2, none⟩) (.inl rfl) _).setCell (p := ⟨xb, 3, none⟩) (.inl rfl) _).setCell (p := ⟨xb, 4, none⟩) (.inl rfl) _).setCell (p := ⟨xb, 5, none⟩) (.inl rfl) _).setCell (p := ⟨xb, 6, none⟩) (.inl rfl) _
  have HW11 := Lib.hid hw11
  have L11 := Lib.hid (L10.out.only k11 (fun j _ hj e => N9.out (e ▸ hj)))
  have K11 := Lib.hid (K10.out.trans (k11.below (fun k _ hk => hk ▸ hxlo.out) (Nat.le_trans HB.out K10.out.size)))
  have R11 := Lib.hid (show MemR B w11 xb lb' d file1 O9 (.slice none 0 0) (.slice none 0 0) (.slice none 0 0) [] [] [] 0 from
    ⟨fun j hj => ⟨(T10.out j hj).1, Nat.lt_of_lt_of_le (T10.out j hj).2 k11.size⟩, hx11, hxlo.out, N9.out, OffRow.nil _ _ _ _, (fun g hg => by simp [Value.ownBlock] at hg), OffRow.nil _ _ _ _, (fun g hg => by simp [Value.ownBlock] at hg), OffRow.nil _ _ _ _, (fun g hg => by simp [Value.ownBlock] at hg), (fun g hg => by simp [Value.ownBlock] at hg), (fun g hg => by simp [Value.ownBlock] at hg)⟩)
  clear hw11 hx11 k11
  go_upto_region 9 with (fail)
  rw [← HW11.out]
  clear HW11 HX10 L10 T10 K10 N9 q0 q1 q2 q3 q4 q5 q6 qf
  have HFL := fun q : Seen w11 => Lib.hid (show Calls Try.prog 32 #[.pointer (some ⟨lb', 0, none⟩)] q.val fun e w' => e = .returned (.int .i64 file1) ∧ ∃ m : Seen w11, w' = m.val from (log_File (Lib.hid (L11.out.below q.below))).mono fun e w' ⟨h1, h2⟩ => ⟨h1, q, h2.symm⟩)
  have m2 : ∀ q : Seen w11, q.val.cell? ⟨xb, 2, none⟩ = some (.int .i64 file1) := fun q => by rw [q.below.cell (p := ⟨xb, 2, none⟩) (heap_lt R11.out.obj)]; simp [World.cell?, R11.out.obj, xcells]
  go_simp
  refine region_seen (by kernel_rfl) (by kernel_rfl) ?_
  repeat go_big_quiet_step (first | (go_at_call 32; with_reducible exact (HFL _).out))
  refine wpQuiet_nil ?_
  rintro _ ⟨z1, rfl⟩
  have HM := Lib.hid (show Mem B z1.val xb lb' d ⟨s4, file1, [], [], [], 0⟩ from ⟨Nat.le_trans HB.out (Nat.le_trans K11.out.size z1.below.size), _, _, _, _, R11.out.below z1.below (Nat.le_trans HB.out K11.out.size), L11.out.below z1.below, fun _ => rfl⟩)
  have K12 := Lib.hid (K11.out.trans (z1.below.mono (Nat.le_trans HB.out K11.out.size)))
  generalize z1.val = w12 at *
  clear m2 HFL
  go_wp2_with fail
  go_ret
  exact ⟨lb', d, _, rfl, HM.out, HOK.out, K12.out⟩
end Go.Proofs.Ytkelcmncjhnbgaa
/- Scripts of calls that come in. -/
set_option linter.unusedVariables false
set_option maxRecDepth 100000
namespace Go.Proofs.Ytkelcmncjhnbgaa
open Go.ChangeShapes Go.WideShapes Go.Deep
open Go.RowKit (Below)

/-- A call. -/
structure OpM where
  kind : Int
  n : Int
  key : List UInt8
def OpM.vals (o : OpM) : List Value := [.int .i64 o.kind, .int .i64 o.n, .string (bs o.key)]
/-- A number of 64 bits. -/
def i64R (z : Int) : Prop := -9223372036854775808 ≤ z ∧ z ≤ 9223372036854775807
/-- What is known of a slice of calls. -/
structure InO (w : World) (a : Option Addr) (len cap : Nat) (T : List OpM) : Prop where
  lenT : len = T.length
  is : ∃ b off, (len = 0 ∨ a = some ⟨b, off, none⟩) ∧ ∀ k (hk : k < T.length), b < w.heap.size ∧ w.cell? ⟨b, off + k * 3, none⟩ = some (.int .i64 T[k].kind) ∧ w.cell? ⟨b, off + k * 3 + 1, none⟩ = some (.int .i64 T[k].n) ∧ w.cell? ⟨b, off + k * 3 + 2, none⟩ = some (.string (bs T[k].key))
  big : len ≤ 9223372036854775807
  fit : ∀ o ∈ T, i64R o.kind ∧ i64R o.n ∧ o.key.length ≤ 9223372036854775807
theorem InO.below {w w' : World} {a : Option Addr} {len cap : Nat} {T : List OpM} (h : InO w a len cap T) (k : Below w.heap.size w w') : InO w' a len cap T := by
  obtain ⟨b, off, h1, h2⟩ := h.is
  refine ⟨h.lenT, ⟨b, off, h1, fun i hi => ?_⟩, h.big, h.fit⟩
  obtain ⟨h3, h4, h5, h6⟩ := h2 i hi
  exact ⟨Nat.lt_of_lt_of_le h3 k.size, by rw [k.cell (p := ⟨b, off + i * 3, none⟩) h3]; exact h4, by rw [k.cell (p := ⟨b, off + i * 3 + 1, none⟩) h3]; exact h5, by rw [k.cell (p := ⟨b, off + i * 3 + 2, none⟩) h3]; exact h6⟩
theorem InO.at {w : World} {a : Option Addr} {len cap : Nat} {T : List OpM} (h : InO w a len cap T) {i : Nat} (hi : i < len) : ∃ b off o, a = some ⟨b, off, none⟩ ∧ T[i]? = some o ∧ b < w.heap.size ∧ w.cell? ⟨b, off + i * 3, none⟩ = some (.int .i64 o.kind) ∧ w.cell? ⟨b, off + i * 3 + 1, none⟩ = some (.int .i64 o.n) ∧ w.cell? ⟨b, off + i * 3 + 2, none⟩ = some (.string (bs o.key)) := by
  obtain ⟨b, off, h1, h2⟩ := h.is
  have hl : i < T.length := by rw [← h.lenT]; exact hi
  obtain ⟨h3, h4, h5, h6⟩ := h2 i hl
  exact ⟨b, off, T[i], by rcases h1 with e | e; (omega); (exact e), List.getElem?_eq_getElem hl, h3, h4, h5, h6⟩
section
variable {H : Type} {enc : TypeId × Value → H} {w : World} {base : Nat} {spare : Nat → Bool} {held : Bool}
/-- A struct of one-cell fields, field by field. -/
theorem fields_read {P : Program} {t : TypeId} {fs : Array Field} {fuel : Nat} {cs : List Value} {x : DataW H × List MemPlace} (hs : P.underlying t = some (.struct fs)) (hone : oneCellFields P fs = true) (hC : P.cellsOf t = fs.size)
    (h : DataW.trod enc P w base spare held fuel t cs = some x) : cs.length = fs.size ∧ ∃ n, ∀ (j : Nat) (f : Field), fs[j]? = some f → ∃ v y, cs[j]? = some v ∧ DataW.trod enc P w base spare held n f.type [v] = some y := by
  obtain ⟨xs, n, _, _, hlen, hxl, hg⟩ := DataW.trod_struct hs h
  refine ⟨hlen.trans hC, n, fun j f hj => ?_⟩
  obtain ⟨ho, hk⟩ := hone_of hone j f hj
  have hjs : j < fs.size := (Array.getElem?_eq_some_iff.1 hj).1
  have hjc : j < cs.length := by omega
  have hjx : j < xs.length := by omega
  have h1 := hg j f hj
  rw [ho, hk, List.getElem?_eq_getElem hjx] at h1
  have h2 : (cs.drop j).take 1 = [cs[j]] := by rw [List.drop_eq_getElem_cons hjc]; rfl
  rw [h2] at h1
  exact ⟨cs[j], xs[j], List.getElem?_eq_getElem hjc, h1⟩
theorem oneO : ∃ fs, Try.prog.underlying 38 = some (.struct fs) ∧ oneCellFields Try.prog fs = true ∧ Try.prog.cellsOf 38 = fs.size ∧ fs.size = 3 ∧ (fs[0]?.map (·.type)) = some 3 ∧ (fs[1]?.map (·.type)) = some 3 ∧ (fs[2]?.map (·.type)) = some 9 :=
  ⟨_, Try.underlying38, by kernel_rfl, by kernel_rfl, by kernel_rfl, by kernel_rfl, by kernel_rfl, by kernel_rfl⟩
theorem map_some {α β : Type} {o : Option α} {f : α → β} {b : β} (h : o.map f = some b) : ∃ a, o = some a ∧ f a = b := by
  cases o with
  | none => cases h
  | some a => exact ⟨a, rfl, by injection h⟩
theorem string_field {n : Nat} {v : Value} {y : DataW H × List MemPlace} {t : TypeId} (ht : t = 9) (h : DataW.trod enc Try.prog w base spare held n t [v] = some y) : ∃ l : List UInt8, v = .string (bs l) ∧ l.length ≤ 9223372036854775807 := by
  subst ht
  obtain ⟨tx, hv, _, htx⟩ := DataW.trod_string Try.underlying9 h
  injection hv with hv _
  refine ⟨tx.data.toList, by rw [hv, bs_eq (s := tx) rfl]; rfl, ?_⟩
  have : tx.data.toList.length = tx.size := by rw [← Lib.size_eq]
  rw [this]
  unfold maxLen at htx
  omega
theorem int_field {n : Nat} {v : Value} {y : DataW H × List MemPlace} {t : TypeId} (ht : t = 3) (h : DataW.trod enc Try.prog w base spare held n t [v] = some y) : ∃ z, v = .int .i64 z ∧ i64R z := by
  subst ht
  obtain ⟨z, h1, _, h2⟩ := DataW.trod_int Try.underlying3 h
  exact ⟨z, by injection h1, by simp [Lit.wf, IntKind.min, IntKind.max, IntKind.signed, IntKind.bits] at h2; exact ⟨by omega, by omega⟩⟩
theorem op_read {fuel : Nat} {cs : List Value} {x : DataW H × List MemPlace} (h : DataW.trod enc Try.prog w base spare held fuel 38 cs = some x) : ∃ o : OpM, cs = o.vals ∧ i64R o.kind ∧ i64R o.n ∧ o.key.length ≤ 9223372036854775807 := by
  obtain ⟨fs, hs, hone, hC, h3, t0, t1, t2⟩ := oneO
  obtain ⟨hlen, n, hf⟩ := fields_read hs hone hC h
  obtain ⟨f0, e0, g0⟩ := map_some t0
  obtain ⟨f1, e1, g1⟩ := map_some t1
  obtain ⟨f2, e2, g2⟩ := map_some t2
  obtain ⟨v0, y0, c0, r0⟩ := hf 0 f0 e0
  obtain ⟨v1, y1, c1, r1⟩ := hf 1 f1 e1
  obtain ⟨v2, y2, c2, r2⟩ := hf 2 f2 e2
  obtain ⟨k, rfl, hk⟩ := int_field g0 r0
  obtain ⟨z, rfl, hz⟩ := int_field g1 r1
  obtain ⟨u, rfl, hu⟩ := string_field g2 r2
  refine ⟨⟨k, z, u⟩, ?_, hk, hz, hu⟩
  match cs, hlen.trans h3 with
  | [x0, x1, x2], _ =>
    simp at c0 c1 c2
    subst c0 c1 c2
    rfl
/-- A slice of calls. -/
theorem ops_read {fuel : Nat} {cs : List Value} {x : DataW H × List MemPlace} (h : DataW.trod enc Try.prog w base spare held fuel 36 cs = some x) : ∃ a len cap T, cs = [.slice a len cap] ∧ InO w a len cap T := by
  rcases open_slice Try.underlying36 h with ⟨hcs, _⟩ | ⟨a, len, cap, m, n, D, Pl, hcs, _, hl, hm, hmm, _, hi⟩
  · exact ⟨none, 0, 0, [], hcs, rfl, ⟨0, 0, .inl rfl, fun k hk => absurd hk (by simp)⟩, by omega, fun x hx => by cases hx⟩
  · refine ⟨some a, len, cap, ?_⟩
    have hlm : len ≤ m := by rw [hmm]; split <;> omega
    obtain ⟨fs, _, _, hC, h3, _⟩ := oneO
    haveI : Inhabited OpM := ⟨⟨0, 0, []⟩⟩
    have hcell : ∀ i, i < len → ∃ e : OpM, (∀ j, j < 3 → w.cell? ((a.add (i * 3)).add j) = e.vals[j]?) ∧ i64R e.kind ∧ i64R e.n ∧ e.key.length ≤ 9223372036854775807 := by
      intro i hil
      obtain ⟨cs', hc, ht⟩ := hi i (by omega)
      rw [hC, h3] at hc
      obtain ⟨_, hcl, hat⟩ := World.cells?_some hc
      obtain ⟨e, rfl, he⟩ := op_read ht
      exact ⟨e, fun j hj => hat j hj, he⟩
    obtain ⟨V, hV⟩ := choose_lt (α := OpM) hcell
    refine ⟨(List.range len).map V, hcs, by simp, ?_, by unfold maxLen at hm; omega, fun e he => ?_⟩
    · by_cases h0 : len = 0
      · subst h0
        exact ⟨0, 0, .inl rfl, fun k hk => absurd hk (by simp)⟩
      · obtain ⟨c0, _⟩ := hV 0 (by omega)
        have c00 := c0 0 (by omega)
        have ha : ∃ b off, a = ⟨b, off, none⟩ := by
          obtain ⟨b, off, spot⟩ := a
          have := World.cell?_spot (v := .int .i64 (V 0).kind) c00
          have hs : spot = none := by simpa [Addr.add] using this
          subst hs
          exact ⟨b, off, rfl⟩
        obtain ⟨b, off, rfl⟩ := ha
        refine ⟨b, off, .inr rfl, fun k hk => ?_⟩
        have hk' : k < len := by simpa using hk
        obtain ⟨h1, _⟩ := hV k hk'
        have hg : ((List.range len).map V)[k] = V k := by simp
        rw [hg]
        have q0 := h1 0 (by omega)
        have q1 := h1 1 (by omega)
        have q2 := h1 2 (by omega)
        rw [addr_add, addr_add] at q0 q1 q2
        exact ⟨cell_block (v := .int .i64 (V k).kind) q0, q0, q1, q2⟩
    · obtain ⟨i, hi, rfl⟩ := List.mem_map.1 he
      exact (hV i (by simpa using hi)).2
end
theorem open_ops {H : Type} {enc : TypeId × Value → H} {W : World} {d : DataW H} {p : List MemPlace} {a : Option Addr} {len cap : Nat} (h : DataW.Trod enc Try.prog W 0 (fun _ => true) true 36 (.slice a len cap) d p) : ∃ T, InO W a len cap T := by
  obtain ⟨fuel, hf⟩ := h
  obtain ⟨a', len', cap', T, hcs, hi⟩ := ops_read hf
  simp [Value.cells] at hcs
  obtain ⟨rfl, rfl, rfl⟩ := hcs
  exact ⟨T, hi⟩
theorem bytesOp : Try.prog.bytesOf 38 = 32 := by kernel_rfl
/-- A script that comes in has no more calls than the row's own reach allows. -/
theorem open_opz {H : Type} {enc : TypeId × Value → H} {W : World} {d : DataW H} {p : List MemPlace} {a : Option Addr} {len cap : Nat} (h : DataW.Trod enc Try.prog W 0 (fun _ => true) true 36 (.slice a len cap) d p)
    (hz : ∀ n ∈ d.weights Try.prog 36, n ≤ reachBytes) : ∃ T, InO W a len cap T ∧ len ≤ 4398046510976 := by
  obtain ⟨T, hT⟩ := open_ops h
  refine ⟨T, hT, ?_⟩
  obtain ⟨fuel, hf⟩ := h
  rcases open_slice Try.underlying36 hf with ⟨hcs, _⟩ | ⟨a', len', cap', m, n, D, Pl, hcs, _, hl, hm, hmm, hx, _⟩
  · simp [Value.cells] at hcs
    omega
  · simp [Value.cells] at hcs
    obtain ⟨rfl, rfl, rfl⟩ := hcs
    injection hx with hx _
    subst hx
    have h1 : (((List.range len).map D).length + ((List.range (m - len)).map fun j => D (len + j)).length) * Try.prog.bytesOf 38 ∈ DataW.weights Try.prog 36 (DataW.slice ((List.range len).map D) ((List.range (m - len)).map fun j => D (len + j))) := by
      simp only [DataW.weights, Try.underlying36, List.mem_cons]
      exact .inl trivial
    have h2 := hz _ h1
    rw [bytesOp, List.length_map, List.length_range] at h2
    unfold reachBytes at h2
    omega
end Go.Proofs.Ytkelcmncjhnbgaa
/- A step that clears what waits. -/
set_option linter.unusedVariables false
set_option maxRecDepth 100000
namespace Go.Proofs.Ytkelcmncjhnbgaa
open Go.RowKit

set_option maxHeartbeats 4000000 in
theorem step_clear {B xb lb d K N : Nat} {p : PS} {n : Int} {t : List UInt8} {w : World} (h : Hid (Mem B w xb lb d p)) (hp : Hid (p.Ok K N)) (hK : K ≤ 200) (ht : t.length ≤ 30000) :
    Calls Try.prog 19 #[.pointer (some ⟨xb, 0, none⟩), .agg #[.int .i64 4, .int .i64 n, .string (bs t)]] w fun e w' => StepPost B w xb (K + 1) (N + (t.length + 15)) e w' := by
  obtain ⟨hBw, O, v1, v2, v3, hR, hL, hC3⟩ := h.out
  have HB := Lib.hid hBw
  have hb0 := op_boxed w 4 n t
  obtain ⟨w1, hw1⟩ : ∃ w1, w1 = w.alloc (.cells #[.int .i64 4, .int .i64 n, .string (bs t)] 38) := ⟨_, rfl⟩
  rw [← hw1] at hb0
  obtain ⟨bo, hbo⟩ : ∃ bo, bo = w.heap.size := ⟨_, rfl⟩
  rw [← hbo] at hb0
  have k1 : Below w.heap.size w w1 := by rw [hw1]; exact (Below.refl _ _).alloc (Nat.le_refl _) _
  have HBO := Lib.hid (And.intro hb0 (show ¬ O bo from fun x => by have := (hR.tight bo x).2; omega))
  have R1 := Lib.hid (hR.below k1 hBw)
  have L1 := Lib.hid (hL.below k1)
  have K1 := Lib.hid (k1.mono hBw)
  have C3 := Lib.hid hC3
  have b0 : w1.cell? ⟨bo, 0, none⟩ = some (.int .i64 4) := by simp [World.cell?, hb0]
  clear hR hL k1 hC3 hBw hb0
  go_enter Try.func19, Try.ntmps19
  go_upto_region 1 with (fail)
  rw [← hw1, ← hbo]
  clear hw1 hbo
  have x1 : w1.cell? ⟨xb, 1, none⟩ = some (.pointer (some ⟨lb, 0, none⟩)) := by simp [World.cell?, R1.out.obj, xcells]
  go_wp2_with fail
  refine (log_Clear L1).mono ?_
  rintro e w2 ⟨rfl, l2, o2⟩
  have R2 := Lib.hid (R1.out.called (O' := O) o2 (fun j hj => ⟨.inl hj, Nat.lt_of_lt_of_le (R1.out.tight j hj).2 o2.size⟩) (Nat.le_trans HB.out K1.out.size))
  obtain ⟨r3, k3⟩ := R2.out.store (i := 3) (u := .slice none 0 0) (v1' := .slice none 0 0) (v2' := v2) (v3' := v3) (su' := p.sure) (wait' := []) (writ' := p.writ) (may' := p.may) rfl (OffRow.nil _ _ _ _) (fun g hg => by simp [Value.ownBlock] at hg) R2.out.o2 R2.out.n2 R2.out.o3 R2.out.n3 (fun g hg => by simp [Value.ownBlock] at hg) (fun g _ hg => by simp [Value.ownBlock] at hg)
  have R3 := Lib.hid r3
  have L3 := Lib.hid (show Lg O _ lb d p.s p.file (framesL []) ([] : List (List UInt8)).length p.writ.length p.sure from l2.only k3 (fun j _ hj e => R2.out.xno (e ▸ hj)))
  have K3 := Lib.hid (show Below B w _ from (K1.out.trans (o2.below (fun k _ hk => (R1.out.tight k hk).1) (Nat.le_trans HB.out K1.out.size))).trans (k3.below (fun k _ hk => hk ▸ R2.out.xlo) (Nat.le_trans HB.out (Nat.le_trans K1.out.size o2.size))))
  have x3 : w2.cell? ⟨xb, 3, none⟩ = some v1 := by simp [World.cell?, R2.out.obj, xcells]
  have f3 : w2.frozen? ⟨xb, 3, none⟩ = false := by simp [World.frozen?, R2.out.obj]
  have y0 : w2.cell? ⟨bo, 0, none⟩ = some (.int .i64 4) := by rw [o2.cell (p := ⟨bo, 0, none⟩) (heap_lt HBO.out.1) HBO.out.2]; exact b0
  clear l2 o2 r3 k3 x1
  obtain ⟨a0, c0, rfl⟩ := OffRow.slice R2.out.o1
  clear R2
  go_upto_region 34 with (fail)
  generalize w2.setCell ⟨xb, 3, none⟩ (.slice none 0 0) = w3 at *
  obtain ⟨z1, hz1⟩ : ∃ z1, z1 = ([] : List (List UInt8)).length := ⟨_, rfl⟩
  obtain ⟨z2, hz2⟩ : ∃ z2, z2 = p.writ.length := ⟨_, rfl⟩
  have hx := R3.out.obj
  obtain ⟨a1, c1, hv1⟩ := OffRow.slice R3.out.o1
  obtain ⟨a2, c2, hv2⟩ := OffRow.slice R3.out.o2
  rw [← hz1] at hv1
  rw [← hz2] at hv2
  have LC := log_Counts L3
  rw [← hz1, ← hz2] at LC
  have hx1 : w3.cell? ⟨xb, 1, none⟩ = some (.pointer (some ⟨lb, 0, none⟩)) := by simp [World.cell?, hx, xcells]
  have hx3 : ∀ m, (w3.drewN m).cell? ⟨xb, 3, none⟩ = some (.slice a1 z1 c1) := fun m => by rw [← hv1]; show w3.cell? ⟨xb, 3, none⟩ = _; simp [World.cell?, hx, xcells]
  have hx4 : ∀ m, (w3.drewN m).cell? ⟨xb, 4, none⟩ = some (.slice a2 z2 c2) := fun m => by rw [← hv2]; show w3.cell? ⟨xb, 4, none⟩ = _; simp [World.cell?, hx, xcells]
  have hx6 : ∀ m, (w3.drewN m).cell? ⟨xb, 6, none⟩ = some (.int .i64 ((p.sure : Nat) : Int)) := fun m => by show w3.cell? ⟨xb, 6, none⟩ = _; simp [World.cell?, hx, xcells]
  clear hx hv1 hv2 hz1 hz2
  go_wp2_with fail
  refine LC.mono ?_
  rintro e w9 ⟨rfl, m9, rfl⟩
  have hy3 := hx3 m9
  have hy4 := hx4 m9
  have hy6 := hx6 m9
  clear hx3 hx4 hx6
  have HM := Lib.hid (show Mem B (w3.drewN m9) xb lb d { p with wait := [] } from ⟨Nat.le_trans HB.out K3.out.size, _, _, _, _, R3.out.below (below_drewN (Below.refl _ _) m9) (Nat.le_trans HB.out K3.out.size), L3.out.below (below_drewN (Below.refl _ _) m9), C3.out⟩)
  have HK9 := Lib.hid (below_drewN K3.out m9)
  generalize w3.drewN m9 = w9 at *
  go_wp2_with fail
  go_ret
  exact ⟨lb, d, _, rfl, HM.out, (hp.out.clear).more _, HK9.out⟩
end Go.Proofs.Ytkelcmncjhnbgaa
/- A step that arms the disk. -/
set_option linter.unusedVariables false
set_option maxRecDepth 100000
namespace Go.Proofs.Ytkelcmncjhnbgaa
open Go.RowKit

/-- The log behind its disk's Arm. -/
theorem log_Arm {O : Nat → Prop} {w : World} {lb d wt wr su : Nat} {s : DS} {file : Int} {F : List UInt8} (h : Hid (Lg O w lb d s file F wt wr su)) (n : Int) (hn : n ≤ 9223372036854775807) : Calls Try.prog 42 #[.pointer (some ⟨d, 0, none⟩), .int .i64 n] w fun e w' => e = .returned (.tuple #[]) ∧ Lg O w' lb d (s.arm n) file F wt wr su ∧ Only O w w' := by
  obtain ⟨S, fv, h1, h2, h3, h4, h5, h6, h7⟩ := h.out
  obtain ⟨hF, mb, es, hl, he⟩ := h1
  refine (lay_Arm hl n).mono fun e w' ⟨g1, g2, g3⟩ => ⟨g1, ⟨S, fv, ⟨⟨hF.r0, hF.r1, hF.u0, hF.u1, hF.nod, hF.file, hF.root, ?_, ?_⟩, mb, es, g2, he⟩, h2, h3, h4, OffRow.kept h5 (fun j hj => g3.block j (OffRow.lt h5 j hj).2 fun e => (h6 j hj).2 (e ▸ hl.sd)), h6, (g3.block lb (heap_lt h7) fun e => h4 (e ▸ hl.sd)).trans h7⟩, g3.mono fun k _ e => e ▸ h2 d hl.sd⟩
  · show -1 ≤ max n (-1)
    omega
  · show max n (-1) ≤ 9223372036854775807
    omega
set_option maxHeartbeats 4000000 in
theorem step_arm {B xb lb d K N : Nat} {p : PS} {n : Int} {t : List UInt8} {w : World} (h : Hid (Mem B w xb lb d p)) (hp : Hid (p.Ok K N)) (hK : K ≤ 200) (ht : t.length ≤ 30000) (hn : n ≤ 9223372036854775807) :
    Calls Try.prog 19 #[.pointer (some ⟨xb, 0, none⟩), .agg #[.int .i64 5, .int .i64 n, .string (bs t)]] w fun e w' => StepPost B w xb (K + 1) (N + (t.length + 15)) e w' := by
  obtain ⟨hBw, O, v1, v2, v3, hR, hL, hC3⟩ := h.out
  have HB := Lib.hid hBw
  have hb0 := op_boxed w 5 n t
  obtain ⟨w1, hw1⟩ : ∃ w1, w1 = w.alloc (.cells #[.int .i64 5, .int .i64 n, .string (bs t)] 38) := ⟨_, rfl⟩
  rw [← hw1] at hb0
  obtain ⟨bo, hbo⟩ : ∃ bo, bo = w.heap.size := ⟨_, rfl⟩
  rw [← hbo] at hb0
  have k1 : Below w.heap.size w w1 := by rw [hw1]; exact (Below.refl _ _).alloc (Nat.le_refl _) _
  have HBO := Lib.hid (And.intro hb0 (show ¬ O bo from fun x => by have := (hR.tight bo x).2; omega))
  have R1 := Lib.hid (hR.below k1 hBw)
  have L1 := Lib.hid (hL.below k1)
  have K1 := Lib.hid (k1.mono hBw)
  have C3 := Lib.hid hC3
  have b0 : w1.cell? ⟨bo, 0, none⟩ = some (.int .i64 5) := by simp [World.cell?, hb0]
  clear hR hL k1 hC3 hBw hb0
  go_enter Try.func19, Try.ntmps19
  go_upto_region 1 with (fail)
  rw [← hw1, ← hbo]
  clear hw1 hbo
  have HX := R1.out.obj
  have n0 : ∀ q : Seen w1, q.val.cell? ⟨xb, 0, none⟩ = some (.pointer (some ⟨d, 0, none⟩)) := fun q => by rw [q.below.cell (p := ⟨xb, 0, none⟩) (heap_lt HX)]; simp [World.cell?, HX, xcells]
  have n1 : ∀ q : Seen w1, q.val.cell? ⟨bo, 1, none⟩ = some (.int .i64 n) := fun q => by rw [q.below.cell (p := ⟨bo, 1, none⟩) (heap_lt HBO.out.1)]; simp [World.cell?, HBO.out.1]
  clear HX
  go_wp2_with fail
  refine wp_region_seen_tail 6 (by kernel_rfl) (by kernel_rfl) ?_
  simp only [List.take_succ_cons, List.take_zero, List.drop_succ_cons, List.drop_zero]
  repeat go_big_quiet_step (fail)
  refine wpQuiet_nil ?_
  rintro _ ⟨m1, rfl⟩
  have R2 := Lib.hid (R1.out.below m1.below (Nat.le_trans HB.out K1.out.size))
  have L2 := Lib.hid (L1.out.below m1.below)
  have K2 := Lib.hid (K1.out.trans (m1.below.mono (Nat.le_trans HB.out K1.out.size)))
  have y0 : m1.val.cell? ⟨bo, 0, none⟩ = some (.int .i64 5) := by rw [m1.below.cell (p := ⟨bo, 0, none⟩) (heap_lt HBO.out.1)]; exact b0
  have HBO2 := Lib.hid (show bo < m1.val.heap.size from Nat.lt_of_lt_of_le (heap_lt HBO.out.1) m1.below.size)
  generalize m1.val = w2 at *
  clear n0 n1 R1 L1 K1 b0
  go_wp2_with fail
  refine (log_Arm L2 n hn).mono ?_
  rintro e w3 ⟨rfl, l3, o3⟩
  have R3 := Lib.hid (R2.out.called (O' := O) o3 (fun j hj => ⟨.inl hj, Nat.lt_of_lt_of_le (R2.out.tight j hj).2 o3.size⟩) (Nat.le_trans HB.out K2.out.size))
  have L3 := Lib.hid l3
  have K3 := Lib.hid (show Below B w w3 from K2.out.trans (o3.below (fun k _ hk => (R2.out.tight k hk).1) (Nat.le_trans HB.out K2.out.size)))
  have z0 : w3.cell? ⟨bo, 0, none⟩ = some (.int .i64 5) := by rw [o3.cell (p := ⟨bo, 0, none⟩) HBO2.out HBO.out.2]; exact y0
  clear l3 o3 R2 L2 K2 y0
  obtain ⟨z1, hz1⟩ : ∃ z1, z1 = p.wait.length := ⟨_, rfl⟩
  obtain ⟨z2, hz2⟩ : ∃ z2, z2 = p.writ.length := ⟨_, rfl⟩
  have hx := R3.out.obj
  obtain ⟨a1, c1, hv1⟩ := OffRow.slice R3.out.o1
  obtain ⟨a2, c2, hv2⟩ := OffRow.slice R3.out.o2
  rw [← hz1] at hv1
  rw [← hz2] at hv2
  have LC := log_Counts L3
  rw [← hz1, ← hz2] at LC
  have hx1 : w3.cell? ⟨xb, 1, none⟩ = some (.pointer (some ⟨lb, 0, none⟩)) := by simp [World.cell?, hx, xcells]
  have hx3 : ∀ m, (w3.drewN m).cell? ⟨xb, 3, none⟩ = some (.slice a1 z1 c1) := fun m => by rw [← hv1]; show w3.cell? ⟨xb, 3, none⟩ = _; simp [World.cell?, hx, xcells]
  have hx4 : ∀ m, (w3.drewN m).cell? ⟨xb, 4, none⟩ = some (.slice a2 z2 c2) := fun m => by rw [← hv2]; show w3.cell? ⟨xb, 4, none⟩ = _; simp [World.cell?, hx, xcells]
  have hx6 : ∀ m, (w3.drewN m).cell? ⟨xb, 6, none⟩ = some (.int .i64 ((p.sure : Nat) : Int)) := fun m => by show w3.cell? ⟨xb, 6, none⟩ = _; simp [World.cell?, hx, xcells]
  clear hx hv1 hv2 hz1 hz2
  go_wp2_with fail
  refine LC.mono ?_
  rintro e w9 ⟨rfl, m9, rfl⟩
  have hy3 := hx3 m9
  have hy4 := hx4 m9
  have hy6 := hx6 m9
  clear hx3 hx4 hx6
  have HM := Lib.hid (show Mem B (w3.drewN m9) xb lb d { p with s := p.s.arm n } from ⟨Nat.le_trans HB.out K3.out.size, _, _, _, _, R3.out.below (below_drewN (Below.refl _ _) m9) (Nat.le_trans HB.out K3.out.size), L3.out.below (below_drewN (Below.refl _ _) m9), C3.out⟩)
  have HK9 := Lib.hid (below_drewN K3.out m9)
  generalize w3.drewN m9 = w9 at *
  go_wp2_with fail
  go_ret
  exact ⟨lb, d, _, rfl, HM.out, (hp.out.arm n).more _, HK9.out⟩
end Go.Proofs.Ytkelcmncjhnbgaa
/- A step that adds a record. -/
set_option linter.unusedVariables false
set_option maxRecDepth 100000
namespace Go.Proofs.Ytkelcmncjhnbgaa
open Go.RowKit

set_option maxHeartbeats 4000000 in
theorem step_add {B xb lb d K N : Nat} {p : PS} {n : Int} {t : List UInt8} {w : World} (h : Hid (Mem B w xb lb d p)) (hp : Hid (p.Ok K N)) (hK : K ≤ 200) (ht : t.length ≤ 30000) :
    Calls Try.prog 19 #[.pointer (some ⟨xb, 0, none⟩), .agg #[.int .i64 1, .int .i64 n, .string (bs t)]] w fun e w' => StepPost B w xb (K + 1) (N + (t.length + 15)) e w' := by
  obtain ⟨hBw, O, v1, v2, v3, hR, hL, hC3⟩ := h.out
  have HB := Lib.hid hBw
  have hb0 := op_boxed w 1 n t
  obtain ⟨w1, hw1⟩ : ∃ w1, w1 = w.alloc (.cells #[.int .i64 1, .int .i64 n, .string (bs t)] 38) := ⟨_, rfl⟩
  rw [← hw1] at hb0
  obtain ⟨bo, hbo⟩ : ∃ bo, bo = w.heap.size := ⟨_, rfl⟩
  rw [← hbo] at hb0
  have k1 : Below w.heap.size w w1 := by rw [hw1]; exact (Below.refl _ _).alloc (Nat.le_refl _) _
  have HBO := Lib.hid (And.intro hb0 (show ¬ O bo from fun x => by have := (hR.tight bo x).2; omega))
  have R1 := Lib.hid (hR.below k1 hBw)
  have L1 := Lib.hid (hL.below k1)
  have K1 := Lib.hid (k1.mono hBw)
  have C3 := Lib.hid hC3
  have b0 : w1.cell? ⟨bo, 0, none⟩ = some (.int .i64 1) := by simp [World.cell?, hb0]
  clear hR hL k1 hC3 hBw hb0
  go_enter Try.func19, Try.ntmps19
  go_upto_region 1 with (fail)
  rw [← hw1, ← hbo]
  clear hw1 hbo
  have HX := R1.out.obj
  have n0 : ∀ q : Seen w1, q.val.cell? ⟨xb, 1, none⟩ = some (.pointer (some ⟨lb, 0, none⟩)) := fun q => by rw [q.below.cell (p := ⟨xb, 1, none⟩) (heap_lt HX)]; simp [World.cell?, HX, xcells]
  have n1 : ∀ q : Seen w1, q.val.cell? ⟨bo, 2, none⟩ = some (.string (bs t)) := fun q => by rw [q.below.cell (p := ⟨bo, 2, none⟩) (heap_lt HBO.out.1)]; simp [World.cell?, HBO.out.1]
  obtain ⟨tq, htq⟩ : ∃ tq, tq = t.length := ⟨_, rfl⟩
  have htz : (bs t).size = tq := by rw [bs_size, htq]
  have htq2 : tq ≤ 30000 := by omega
  clear HX
  go_wp2_with fail
  refine wp_region_seen_tail 6 (by kernel_rfl) (by kernel_rfl) ?_
  simp only [List.take_succ_cons, List.take_zero, List.drop_succ_cons, List.drop_zero]
  repeat go_big_quiet_step (fail)
  refine wpQuiet_nil ?_
  rintro _ ⟨m1, rfl⟩
  have R2 := Lib.hid (R1.out.below m1.below (Nat.le_trans HB.out K1.out.size))
  have L2 := Lib.hid (L1.out.below m1.below)
  have K2 := Lib.hid (K1.out.trans (m1.below.mono (Nat.le_trans HB.out K1.out.size)))
  have y0 : m1.val.cell? ⟨bo, 0, none⟩ = some (.int .i64 1) := by rw [m1.below.cell (p := ⟨bo, 0, none⟩) (heap_lt HBO.out.1)]; exact b0
  have HBO2 := Lib.hid (show bo < m1.val.heap.size ∧ m1.val.cell? ⟨bo, 2, none⟩ = some (.string (bs t)) from ⟨Nat.lt_of_lt_of_le (heap_lt HBO.out.1) m1.below.size, n1 m1⟩)
  have HOB2 := Lib.hid ((m1.below.block bo (heap_lt HBO.out.1)).trans HBO.out.1)
  generalize m1.val = w2 at *
  clear n0 n1 R1 L1 K1 b0
  have HLW := Lib.hid (hp.out.waits (by omega))
  have HLN := Lib.hid hp.out.lens
  go_wp2_with fail
  refine (log_Add L2 (by omega) (by have := HLW.out; omega) (by have := HLN.out; omega)).mono ?_
  rintro e w3 ⟨rfl, l3, o3⟩
  have R3 := Lib.hid (R2.out.called (O' := fun k => New O w2 k ∧ k < w3.heap.size) o3 (fun j hj => hj) (Nat.le_trans HB.out K2.out.size))
  have L3 := Lib.hid l3.tight
  have K3 := Lib.hid (show Below B w w3 from K2.out.trans (o3.below (fun k _ hk => (R2.out.tight k hk).1) (Nat.le_trans HB.out K2.out.size)))
  have z0 : w3.cell? ⟨bo, 0, none⟩ = some (.int .i64 1) := by rw [o3.cell (p := ⟨bo, 0, none⟩) HBO2.out.1 HBO.out.2]; exact y0
  have z2 : w3.cell? ⟨bo, 2, none⟩ = some (.string (bs t)) := by rw [o3.cell (p := ⟨bo, 2, none⟩) HBO2.out.1 HBO.out.2]; exact HBO2.out.2
  have HOB3 := Lib.hid ((o3.block bo HBO2.out.1 HBO.out.2).trans HOB2.out)
  have hbo3 := Lib.hid (show bo < w3.heap.size from Nat.lt_of_lt_of_le HBO2.out.1 o3.size)
  have x3 : w3.cell? ⟨xb, 3, none⟩ = some v1 := by simp [World.cell?, R3.out.obj, xcells]
  clear l3 o3 R2 L2 K2 y0 HBO2
  obtain ⟨i0, hi, hz0, hz1, hz2⟩ := info_parts infoStr
  obtain ⟨zl, hzl⟩ : ∃ zl, zl = p.wait.length := ⟨_, rfl⟩
  have hzl2 : zl ≤ 1000 := by have := HLN.out.1; omega
  have HO := Lib.hid (show OffRow w3 B 9 1 v1 zl (scells p.wait) from by rw [hzl]; exact R3.out.o1)
  have HSRC := Lib.hid (show Src Try.prog 1 22 (.slice (some ⟨w3.heap.size, 0, none⟩) 1 1) 1 [.string (bs t)] (w3.alloc (.cells #[.string (bs t)] 9)).drew from src_block (size := 1) (cs := #[.string (bs t)]) (w := (w3.alloc (.cells #[.string (bs t)] 9)).drew) Try.underlying22 (heap_new w3 _) 1 1 rfl (by intro u hu; simp at hu; subst hu; rfl))
  have HK := Lib.hid (show Below w3.heap.size w3 (w3.alloc (.cells #[.string (bs t)] 9)).drew from ((Below.refl _ w3).alloc (Nat.le_refl _) _).drew)
  have HPUSH := Lib.hid (fun (w5 : World) (v1' : Value) (hr : OffRow w5 B 9 1 v1' (zl + 1) (scells p.wait ++ [.string (bs t)])) (hg : (w3.alloc (.cells #[.string (bs t)] 9)).drew.grownBy w5 v1.ownBlock) (hk : OffRow w5 B 9 1 v1 zl (scells p.wait) ∧ ((∃ a cap, v1 = .slice a zl cap ∧ v1' = .slice a (zl + 1) cap) ∨ v1'.ownBlock = some (w3.alloc (.cells #[.string (bs t)] 9)).drew.heap.size)) =>
    R3.out.push (t := t) HK.out (by rw [← hzl]; exact hr) hg (by rw [← hzl]; exact hk))
  have HZL := Lib.hid hzl
  have HBC := Lib.hid (fun (w5 : World) (hg : (w3.alloc (.cells #[.string (bs t)] 9)).drew.grownBy w5 v1.ownBlock) => show w5.cell? ⟨bo, 2, none⟩ = some (.string (bs t)) from by
    have k5 := Only.of_grown HK.out hg
    rw [k5.cell (p := ⟨bo, 2, none⟩) hbo3.out fun e => by
      obtain ⟨cur, hc⟩ := OffRow.tag R3.out.o1 e
      rw [HOB3.out] at hc
      injection hc with hc
      injection hc with _ hc
      revert hc
      decide]
    exact z2)
  have hBs := Lib.hid (show B ≤ (w3.alloc (.cells #[.string (bs t)] 9)).drew.heap.size from Nat.le_trans HB.out (Nat.le_trans K3.out.size HK.out.size))
  obtain ⟨va, vc, hv1⟩ := OffRow.slice HO.out
  have HV1 := Lib.hid hv1
  have x3a : (w3.alloc (.cells #[.string (bs t)] 9)).cell? ⟨xb, 3, none⟩ = some v1 := by rw [((Below.refl _ w3).alloc (Nat.le_refl _) (.cells #[.string (bs t)] 9)).cell (p := ⟨xb, 3, none⟩) (heap_lt R3.out.obj)]; exact x3
  clear hzl htq hv1
  go_upto_region 7 with (fail)
  go_region_law (refine step_append_offK rfl (.tmp 45) (.tmp 48) 22 rfl B 9 i0 _ 1 16 Try.underlying22 hi hz0 hz1 hz2 rfl v1 zl _ (by simp [Act.eval, Act.put]) (OffRow.kept HO.out (fun j hj => HK.out.block j (OffRow.lt HO.out j hj).2)) (.slice (some ⟨w3.heap.size, 0, none⟩) 1 1) (by simp [Act.eval, Act.put]) 1 [.string (bs t)] HSRC.out (by unfold maxLen; omega) (by omega) hBs.out ?_; intro v7 w7 hr7 hg7 hat7; obtain ⟨a7, c7, rfl⟩ := OffRow.slice hr7; obtain ⟨p1, p2, p3, p4⟩ := HPUSH.out w7 _ hr7 hg7 hat7; have p5 := HBC.out w7 hg7; clear hr7 hg7 hat7)
  all_goals
    have R8 := Lib.hid p1
    have L8 := Lib.hid (show Lg (fun k => New O w2 k ∧ k < w3.heap.size) _ lb d p.s p.file (framesL (p.wait ++ [t])) (p.wait ++ [t]).length p.writ.length p.sure from by
      rw [framesL_append, framesL_one, List.length_append]
      exact L3.out.only p2 (fun j _ hj e => by
        rcases e with e | e
        · exact R3.out.xno (e ▸ hj)
        · exact R3.out.n1 j e hj))
    have K8 := Lib.hid (show Below B w _ from K3.out.trans (p2.below (fun k _ hk => by
      rcases hk with hk | hk
      · rw [hk]; exact R3.out.xlo
      · exact (OffRow.lt R3.out.o1 k hk).1) (Nat.le_trans HB.out K3.out.size)))
    clear p1 p2 p3 p4 p5 HPUSH HBC HSRC HK HO x3 x3a z0 z2 R3 L3 K3
    go_upto_region 34 with (fail)
    generalize w7.setCell ⟨xb, 3, none⟩ (.slice a7 (zl + 1) c7) = w8 at *
    obtain ⟨z1, hz1⟩ : ∃ z1, z1 = (p.wait ++ [t]).length := ⟨_, rfl⟩
    obtain ⟨z2, hz2⟩ : ∃ z2, z2 = p.writ.length := ⟨_, rfl⟩
    have hx := R8.out.obj
    obtain ⟨a1, c1, hv1⟩ := OffRow.slice R8.out.o1
    obtain ⟨a2, c2, hv2⟩ := OffRow.slice R8.out.o2
    rw [← hz1] at hv1
    rw [← hz2] at hv2
    have LC := log_Counts L8
    rw [← hz1, ← hz2] at LC
    have hx1 : w8.cell? ⟨xb, 1, none⟩ = some (.pointer (some ⟨lb, 0, none⟩)) := by simp [World.cell?, hx, xcells]
    have hx3 : ∀ m, (w8.drewN m).cell? ⟨xb, 3, none⟩ = some (.slice a1 z1 c1) := fun m => by rw [← hv1]; show w8.cell? ⟨xb, 3, none⟩ = _; simp [World.cell?, hx, xcells]
    have hx4 : ∀ m, (w8.drewN m).cell? ⟨xb, 4, none⟩ = some (.slice a2 z2 c2) := fun m => by rw [← hv2]; show w8.cell? ⟨xb, 4, none⟩ = _; simp [World.cell?, hx, xcells]
    have hx6 : ∀ m, (w8.drewN m).cell? ⟨xb, 6, none⟩ = some (.int .i64 ((p.sure : Nat) : Int)) := fun m => by show w8.cell? ⟨xb, 6, none⟩ = _; simp [World.cell?, hx, xcells]
    try simp only [← hz2] at hx6
    clear hx hv1 hv2 hz1 hz2
    go_wp2_with fail
    refine LC.mono ?_
    rintro e w9 ⟨rfl, m9, rfl⟩
    have hy3 := hx3 m9
    have hy4 := hx4 m9
    have hy6 := hx6 m9
    clear hx3 hx4 hx6
    have HM := Lib.hid (show Mem B (w8.drewN m9) xb lb d { p with wait := p.wait ++ [t] } from ⟨Nat.le_trans HB.out K8.out.size, _, _, _, _, R8.out.below (below_drewN (Below.refl _ _) m9) (Nat.le_trans HB.out K8.out.size), L8.out.below (below_drewN (Below.refl _ _) m9), C3.out⟩)
    have HK9 := Lib.hid (below_drewN K8.out m9)
    generalize w8.drewN m9 = w9 at *
    go_wp2_with fail
    go_ret
    exact ⟨lb, d, _, rfl, HM.out, hp.out.add ht, HK9.out⟩
end Go.Proofs.Ytkelcmncjhnbgaa
