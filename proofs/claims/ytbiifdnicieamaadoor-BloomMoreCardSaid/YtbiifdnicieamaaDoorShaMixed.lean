/- The state behind one more block, as the program reckons it. -/
import Derived.Test.YtbiifdnicieamaaDoorShaSpread
set_option linter.unusedVariables false
set_option maxRecDepth 100000
namespace Go.Proofs.YtbiifdnicieamaaDoor
open Go.RowKit

/-- The round numbers stand in the program's variable. -/
def Glob (w : World) : Prop := 0 < w.heap.size ∧ ∀ j, j < 64 → w.cell? ⟨0, j, none⟩ = some (.int .u32 ((numbers.getD j 0 : Nat) : Int))
theorem Glob.keep {B : Nat} {w w' : World} (h : Glob w) (k : Below B w w') (hb : 0 < B) : Glob w' :=
  ⟨Nat.lt_of_lt_of_le h.1 k.size, fun j hj => by rw [k.cell hb]; exact h.2 j hj⟩

theorem row32_put {b : Nat} {l m : List Nat} {w : World} (h : Row32 b l w) (hm : m.length = l.length) : Row32 b m (w.setCells b 0 (words32 m).toList) := by
  have hth : w.there b 0 (words32 m).toList.length := by simpa [words32, hm] using there32 h
  have hr := World.rangeAt_setCells_same w b 0 (words32 m).toList hth
  refine ⟨Nat.lt_of_lt_of_le h.1 (below_setCells (Nat.le_refl _) (words32 m).toList 0 (Below.refl b w)).size, fun j hj => ⟨?_, ?_⟩⟩
  · have := hr j (.int .u32 ((m.getD j 0 : Nat) : Int)) (by simp [words32, hj, List.getD_eq_getElem?_getD])
    rwa [Nat.zero_add] at this
  · rw [World.frozen?_setCells]
    exact (h.2 j (by omega)).2
theorem row32_putOther {b b' : Nat} {l : List Nat} {w : World} (h : Row32 b l w) (hne : b' ≠ b) : ∀ (vs : List Value) (o : Nat), Row32 b l (w.setCells b' o vs) := by
  intro vs
  induction vs generalizing w with
  | nil => intro o; exact h
  | cons v vs ih => intro o; exact ih (h.other (a := ⟨b', o, none⟩) hne v) (o + 1)
theorem not32 (e : Nat) (h : e < 4294967296) : bits BinOp.xor IntKind.u32 IntKind.u32.max (e : Int) = ((4294967295 - e : Nat) : Int) := by
  have hx : 4294967295 ^^^ e = 4294967295 - e := by
    apply Nat.eq_of_testBit_eq
    intro i
    have h1 := Nat.testBit_two_pow_sub_succ (n := 32) (x := e) (by simpa using h) i
    have h2 := Nat.testBit_two_pow_sub_one 32 i
    rw [show 2 ^ 32 - (e + 1) = 4294967295 - e by omega] at h1
    rw [show (2 : Nat) ^ 32 - 1 = 4294967295 by decide] at h2
    rw [Nat.testBit_xor, h1, h2]
    by_cases hi : i < 32
    · simp [hi]
    · have : e.testBit i = false := Nat.testBit_lt_two_pow (Nat.lt_of_lt_of_le h (Nat.pow_le_pow_right (n := 2) (by decide) (show 32 ≤ i by omega)))
      simp [hi, this]
  rw [show IntKind.u32.max = ((4294967295 : Nat) : Int) by decide, u32_xor_nat _ _ (by omega) h, hx]
theorem not32' (e : Nat) (h : e < 4294967296) : bits BinOp.xor IntKind.u32 (if IntKind.u32.signed then -1 else IntKind.u32.max) (e : Int) = ((4294967295 - e : Nat) : Int) := not32 e h
theorem arr44 : Tryd.prog.underlying 88 = some (.array 8 72) := by kernel_rfl
theorem notAgg37 (w : World) : (isAgg 72).run Tryd.prog w = .ok false w := by kernel_rfl
theorem size37 (w : World) : (Go.sizeOf 72).run Tryd.prog w = .ok 1 w := by kernel_rfl
theorem eight_at (r : Eight) (i : Nat) (h : i < 8) : (#[Value.int .u32 (r.a : Int), .int .u32 (r.b : Int), .int .u32 (r.c : Int), .int .u32 (r.d : Int), .int .u32 (r.e : Int), .int .u32 (r.f : Int), .int .u32 (r.g : Int), .int .u32 (r.h : Int)])[i]? = some (.int .u32 ((r.list.getD i 0 : Nat) : Int)) := by
  have h1 : i = 0 ∨ i = 1 ∨ i = 2 ∨ i = 3 ∨ i = 4 ∨ i = 5 ∨ i = 6 ∨ i = 7 := by omega
  rcases h1 with rfl | rfl | rfl | rfl | rfl | rfl | rfl | rfl <;> rfl

/-- The state, the result's place, the words of the rounds. -/
structure Mx (H M : Nat) (st W : List Nat) (w : World) : Prop where
  s : Row32 H st w
  r : Row32 (H + 1 + 1) (List.replicate 8 0) w
  m : Row32 M W w
  g : Glob w
theorem Mx.drawn {H M : Nat} {st W : List Nat} {w : World} (h : Mx H M st W w) (n : Nat) : Mx H M st W (w.drewN n) :=
  ⟨⟨h.s.1, h.s.2⟩, ⟨h.r.1, h.r.2⟩, ⟨h.m.1, h.m.2⟩, ⟨h.g.1, h.g.2⟩⟩

set_option maxHeartbeats 4000000 in
set_option maxRecDepth 100000 in
theorem sha_mixed (s0 : Eight) (L : List UInt8) (w : World) (hs0 : Hid s0.ok) (hl : Hid (L.length = 64)) (hg : Hid (Glob w)) :
    Calls Tryd.prog 52 #[.agg (words32 s0.list), .agg (keyA L)] w fun e w' => e = .returned (.agg (words32 (plus s0 (rnds (sched L 0 64) s0 64)).list)) ∧ Below w.heap.size w w' := by
  obtain ⟨H, hH⟩ : ∃ H, H = w.heap.size := ⟨_, rfl⟩
  obtain ⟨W2, hW2⟩ : ∃ W2, W2 = ((w.alloc (.cells (words32 s0.list) 89)).alloc (.cells (keyA L) 90)).alloc (.cells (Array.replicate 8 (.int .u32 0)) 89) := ⟨_, rfl⟩
  have b1 : Below (H + 1) (w.alloc (.cells (words32 s0.list) 89)) W2 := by rw [hW2]; exact ((Below.refl _ _).alloc (by rw [hH]; simp) _).alloc (by rw [hH]; simp) _
  have b2 : Below (H + 1 + 1) ((w.alloc (.cells (words32 s0.list) 89)).alloc (.cells (keyA L) 90)) W2 := by rw [hW2]; exact (Below.refl _ _).alloc (by rw [hH]; simp) _
  have HST := Lib.hid (show Row32 H s0.list W2 by
    have h := row32_new w s0.list 89
    rw [← hH] at h
    exact h.keep b1 (by omega))
  have HBX := Lib.hid (show W2.rangeAt (H + 1) 0 (keyA L).toList by
    have h := keyA_range (w.alloc (.cells (words32 s0.list) 89)) L 90
    rw [show (w.alloc (.cells (words32 s0.list) 89)).heap.size = H + 1 by rw [hH]; simp] at h
    exact rangeAt_below h b2 (by omega))
  have HR := Lib.hid (show Row32 (H + 1 + 1) (List.replicate 8 0) W2 by
    have h := row32_zero ((w.alloc (.cells (words32 s0.list) 89)).alloc (.cells (keyA L) 90)) 8 89
    rw [show ((w.alloc (.cells (words32 s0.list) 89)).alloc (.cells (keyA L) 90)).heap.size = H + 1 + 1 by rw [hH]; simp] at h
    rw [hW2]
    exact h)
  have HB := Lib.hid (show Below H w W2 by rw [hW2, hH]; exact (((Below.refl _ _).alloc (Nat.le_refl _) _).alloc (by simp) _).alloc (by simp; omega) _)
  have HSZ := Lib.hid (show W2.heap.size = H + 3 by rw [hW2, hH]; simp)
  have HW2 := Lib.hid hW2
  have HH := Lib.hid hH
  clear b1 b2 hW2 hH
  go_enter Tryd.func52, Tryd.ntmps52
  go_upto_region 1 with (fail)
  change Code.wp _ _ _ _ (((w.alloc (.cells (words32 s0.list) 89)).alloc (.cells (keyA L) 90)).alloc (.cells (Array.replicate 8 (.int .u32 0)) 89))
  rw [← HW2.out, ← HH.out]
  go_wp2_with (first | (refine wpList_load_mid rfl 90 (.tmp 3) rfl (H + 1) 0 rfl (keyA L).toList _ HBX.out Tryd.underlying90 rfl (by simpa [keyA_size, hl.out] using info46) ?_))
  refine (sha_spread L W2 hl).mono ?_
  rintro e w1 ⟨rfl, k1⟩
  have K1 := Lib.hid k1
  clear k1
  have HST1 := Lib.hid (HST.out.keep K1.out (by rw [HSZ.out]; omega))
  have HR1 := Lib.hid (HR.out.keep K1.out (by rw [HSZ.out]; omega))
  have HG1 := Lib.hid ((hg.out.keep HB.out (by rw [HH.out]; exact hg.out.1)).keep K1.out (by rw [HSZ.out]; omega))
  have HB1 := Lib.hid (HB.out.trans (K1.out.mono (by rw [HSZ.out]; omega)))
  obtain ⟨M, hM⟩ : ∃ M, M = w1.heap.size := ⟨_, rfl⟩
  have HM3 := Lib.hid (show H + 3 ≤ M by rw [hM, ← HSZ.out]; exact K1.out.size)
  obtain ⟨W3, hW3⟩ : ∃ W3, W3 = w1.alloc (.cells (Array.replicate 64 (.int .u32 0)) 107) := ⟨_, rfl⟩
  have k3 : Below M w1 W3 := by rw [hW3, hM]; exact (Below.refl _ _).alloc (Nat.le_refl _) _
  have HM0 := Lib.hid (show Row32 M (List.replicate 64 0) W3 by rw [hM, hW3]; exact row32_zero w1 64 107)
  have hslen := sched_len L 0 64
  have HSL := Lib.hid (sched_lt L 0 64)
  obtain ⟨S, hS⟩ : ∃ S, S = sched L 0 64 := ⟨_, rfl⟩
  rw [← hS] at hslen HSL
  rw [← hS]
  have HS := Lib.hid hS
  have HTH := Lib.hid (show (w1.alloc (.cells (Array.replicate 64 (.int .u32 0)) 107)).there w1.heap.size 0 (words32 S).size by
    rw [← hW3, ← hM]
    rw [words32_size, hslen]; simpa using there32 HM0.out)
  have HIS := Lib.hid (show (Tryd.prog.info? 107).map (·.size) = some (words32 S).size by rw [words32_size, hslen]; exact info56)
  have HON := Lib.hid (words32_one S)
  have HX := Lib.hid (show Mx H M s0.list S (W3.setCells M 0 (words32 S).toList) from
    ⟨row32_putOther (HST1.out.keep k3 (by have := HM3.out; omega)) (by have := HM3.out; omega) _ _, row32_putOther (HR1.out.keep k3 (by have := HM3.out; omega)) (by have := HM3.out; omega) _ _, row32_put HM0.out (by simp [hslen]), (HG1.out.keep k3 (by have := HM3.out; omega)).keep (below_setCells (Nat.le_refl _) _ 0 (Below.refl M W3)) (by have := HM3.out; omega)⟩)
  have HBX3 := Lib.hid (show Below H w (W3.setCells M 0 (words32 S).toList) from below_setCells (by have := HM3.out; omega) _ 0 (HB1.out.trans (k3.mono (by have := HM3.out; omega))))
  have HSLN := Lib.hid hslen
  have HM := Lib.hid hM
  have HW3 := Lib.hid hW3
  clear hS k3 hslen hM hW3
  go_upto_region 2 with (first | (refine wpList_store_mid rfl 107 (.tmp 5) (.tmp 20) rfl w1.heap.size 0 (words32 S) rfl rfl HTH.out HIS.out HON.out ?_))
  change Code.wp _ _ _ _ ((w1.alloc (.cells (Array.replicate 64 (.int .u32 0)) 107)).setCells w1.heap.size 0 (words32 S).toList)
  rw [← HM.out, ← HW3.out]
  generalize W3.setCells M 0 (words32 S).toList = w0 at *
  obtain ⟨c0, c1, c2, c3, c4, c5, c6, c7⟩ := row_eight HX.out.s
  go_wp2_with fail
  go_quiet (fail)
  go_wp2_with fail
  go_quiet (fail)
  go_wp2_with fail
  generalize hwx : (w0.drewN _).drewN _ = wx
  have HXx := Lib.hid (show Mx H M s0.list S wx by rw [← hwx]; exact (HX.out.drawn _).drawn _)
  have HBx := Lib.hid (show Below H w wx by rw [← hwx]; exact below_drewN (below_drewN HBX3.out _) _)
  clear hwx c0 c1 c2 c3 c4 c5 c6 c7
  go_loopw [6, 7, 8, 9, 10, 11, 12, 13, 37] (fun va vb vc vd ve vf vg vh vi wi => ∃ i qa qb qc qd qe qf qg qh : Nat, i ≤ 64 ∧ vi = .int .i64 i ∧ va = .int .u32 qa ∧ vb = .int .u32 qb ∧ vc = .int .u32 qc ∧ vd = .int .u32 qd ∧ ve = .int .u32 qe ∧ vf = .int .u32 qf ∧ vg = .int .u32 qg ∧ vh = .int .u32 qh ∧ Hid (rnds S s0 i = ⟨qa, qb, qc, qd, qe, qf, qg, qh⟩) ∧ Hid (∃ m, wi = wx.drewN m)) (fun va vb vc vd ve vf vg vh vi wi => 64 - (intOf vi).toNat)
  case atStart => exact ⟨0, s0.a, s0.b, s0.c, s0.d, s0.e, s0.f, s0.g, s0.h, by omega, rfl, rfl, rfl, rfl, rfl, rfl, rfl, rfl, rfl, Lib.hid rfl, Lib.hid ⟨0, rfl⟩⟩
  case round =>
    obtain ⟨i, qa, qb, qc, qd, qe, qf, qg, qh, hi64, rfl, rfl, rfl, rfl, rfl, rfl, rfl, rfl, rfl, hq, hdr⟩ := hrel
    have XR := Lib.hid (show Mx H M s0.list S wr by obtain ⟨m, hm⟩ := hdr.out; rw [hm]; exact HXx.out.drawn m)
    have hok := rnds_ok (w := S) hs0.out i
    rw [hq.out] at hok
    obtain ⟨la, lb, lc, ld, le, lf, lg, lh⟩ := hok
    rcases Nat.lt_or_ge i 64 with hi6 | hi6
    · have ck := XR.out.g.2 i hi6
      have cw := (XR.out.m.2 i (by rw [HSLN.out]; exact hi6)).1
      have lk := getD_lt numbers_lt i
      have lw := getD_lt HSL.out i
      have HNX := Lib.hid (show rnds S s0 (i + 1) = rnd (numbers.getD i 0) (S.getD i 0) ⟨qa, qb, qc, qd, qe, qf, qg, qh⟩ by rw [rnds, hq.out])
      obtain ⟨kk, hkk⟩ : ∃ x, x = numbers.getD i 0 := ⟨_, rfl⟩
      obtain ⟨ww, hww⟩ : ∃ x, x = S.getD i 0 := ⟨_, rfl⟩
      rw [← hkk] at ck lk HNX
      rw [← hww] at cw lw HNX
      clear hkk hww
      have hbg := bg_facts qe 6 11 25 le
      have b1 := hbg.1
      have b2 : bits BinOp.xor IntKind.u32 ((rotN 6 qe ^^^ rotN 11 qe : Nat) : Int) ((rotN 25 qe : Nat) : Int) = ((bg1 qe : Nat) : Int) := hbg.2
      obtain ⟨a1, a2, a3⟩ := ch_facts qe qf qg le lf lg
      have a4 := not32 qe le
      have a5 := not32' qe le
      have lch := chW_lt (e := qe) lf lg
      have lbg := bg1_lt le
      have HXO := Lib.hid (show xOf kk ww ⟨qa, qb, qc, qd, qe, qf, qg, qh⟩ = ((((qh + bg1 qe) % 4294967296 + chW qe qf qg) % 4294967296 + kk) % 4294967296 + ww) % 4294967296 from rfl)
      clear hbg
      generalize bg1 qe = G1 at *
      generalize chW qe qf qg = H1 at *
      have s1 := wrap_sum qh G1
      have s2 := wrap_sum ((qh + G1) % 4294967296) H1
      have s3 := wrap_sum (((qh + G1) % 4294967296 + H1) % 4294967296) kk
      have s4 := wrap_sum ((((qh + G1) % 4294967296 + H1) % 4294967296 + kk) % 4294967296) ww
      have lX := mod32 ((((qh + G1) % 4294967296 + H1) % 4294967296 + kk) % 4294967296 + ww)
      have hXO := HXO.out
      generalize (qh + G1) % 4294967296 = A1 at *
      generalize (A1 + H1) % 4294967296 = A2 at *
      generalize (A2 + kk) % 4294967296 = A3 at *
      obtain ⟨X, hX⟩ : ∃ X, X = (A3 + ww) % 4294967296 := ⟨_, rfl⟩
      rw [← hX] at s4 lX hXO
      have HXX := Lib.hid hXO
      clear HXO hXO hX
      go_wp2_with fail
      go_quiet (first | (go_at_call 62; exact quiet_right qe _ _ le (by decide) (by decide) _))
      generalize hwy : wr.drewN nq = wy
      have hdy := Lib.hid (show ∃ m, wy = wx.drewN m by obtain ⟨m, hm⟩ := hdr.out; exact ⟨m + nq, by rw [← hwy, hm, World.drewN_drewN]⟩)
      clear s1 s2 s3 s4 a1 a2 a3 a4 a5 b1 b2 ck cw hwy
      go_wp2_with fail
      refine (sha_right qa 2 wy la (by decide) (by decide)).mono ?_
      rintro e' w9 ⟨rfl, rfl⟩
      go_wp2_with fail
      refine (sha_right qa 13 wy la (by decide) (by decide)).mono ?_
      rintro e' w9 ⟨rfl, rfl⟩
      have hbg := bg_facts qa 2 13 22 la
      have b1 := hbg.1
      have b2 : bits BinOp.xor IntKind.u32 ((rotN 2 qa ^^^ rotN 13 qa : Nat) : Int) ((rotN 22 qa : Nat) : Int) = ((bg0 qa : Nat) : Int) := hbg.2
      clear hbg
      go_wp2_with fail
      refine (sha_right qa 22 wy la (by decide) (by decide)).mono ?_
      rintro e' w9 ⟨rfl, rfl⟩
      obtain ⟨m1, m2, m3, m4, m5⟩ := mj_facts qa qb qc la lb lc
      have lbg0 := bg0_lt la
      have lmj := mjW_lt (a := qa) lb lc
      have HYO := Lib.hid (show yOf ⟨qa, qb, qc, qd, qe, qf, qg, qh⟩ = (bg0 qa + mjW qa qb qc) % 4294967296 from rfl)
      generalize bg0 qa = G0 at *
      generalize mjW qa qb qc = J0 at *
      go_wp2_with fail
      go_roundw
      case rel => exact ⟨i + 1, (X + (G0 + J0) % 4294967296) % 4294967296, qa, qb, qc, (qd + X) % 4294967296, qe, qf, qg, by omega, by go_num, by go_num, rfl, rfl, rfl, by go_num, rfl, rfl, rfl, Lib.hid (by rw [HNX.out]; unfold rnd; rw [HXX.out, HYO.out]), hdy⟩
      case measure => simp [intOf]; omega
    · obtain rfl : i = 64 := by omega
      rw [show ((64 : Nat) : Int) = 64 from rfl]
      go_wp2_with fail
      have hfin := hq.out
      obtain ⟨r, hr⟩ : ∃ r : Eight, r = ⟨qa, qb, qc, qd, qe, qf, qg, qh⟩ := ⟨_, rfl⟩
      have HQ := Lib.hid (show rnds S s0 64 = r by rw [hr]; exact hfin)
      have ix := Lib.hid (fun (j : Nat) (hj : j < 8) => run_index_arr 88 72 8 #[Value.int .u32 (qa : Int), .int .u32 (qb : Int), .int .u32 (qc : Int), .int .u32 (qd : Int), .int .u32 (qe : Int), .int .u32 (qf : Int), .int .u32 (qg : Int), .int .u32 (qh : Int)] j (.int .u32 ((r.list.getD j 0 : Nat) : Int)) arr44 notAgg37 size37 hj (by rw [hr]; exact eight_at ⟨qa, qb, qc, qd, qe, qf, qg, qh⟩ j hj))
      have HBr := Lib.hid (show Below H w wr by obtain ⟨m, hm⟩ := hdr.out; rw [hm]; exact below_drewN HBx.out m)
      clear hfin hr la lb lc ld le lf lg lh
      go_loopw [109] (fun vi wi => ∃ j : Nat, j ≤ 8 ∧ vi = .int .i64 j ∧ Row32 H (mixL s0 r j) wi ∧ Row32 (H + 1 + 1) (List.replicate 8 0) wi ∧ Below H w wi) (fun vi wi => 8 - (intOf vi).toNat)
      case atStart => exact ⟨0, by omega, rfl, XR.out.s, XR.out.r, HBr.out⟩
      case round =>
        obtain ⟨j, hj8, rfl, h1, h2, h3⟩ := hrel
        have R1 := Lib.hid h1
        have R2 := Lib.hid h2
        have B3 := Lib.hid h3
        clear h1 h2 h3
        rcases Nat.lt_or_ge j 8 with hj | hj
        · have ixj := ix.out j hj
          have d1 := (R1.out.2 j (by rw [mix_len _ _ _ hj8]; exact hj)).1
          have d2 := (R1.out.2 j (by rw [mix_len _ _ _ hj8]; exact hj)).2
          rw [mix_at s0 r j hj] at d1
          have HMX := Lib.hid (mix_next s0 r j hj)
          obtain ⟨y1, hy1⟩ : ∃ y, y = s0.list.getD j 0 := ⟨_, rfl⟩
          obtain ⟨y2, hy2⟩ : ∃ y, y = r.list.getD j 0 := ⟨_, rfl⟩
          rw [← hy1] at d1 HMX
          rw [← hy2] at ixj HMX
          have sm := wrap_sum y1 y2
          clear hy1 hy2
          obtain ⟨Y, hY⟩ : ∃ Y, Y = (y1 + y2) % 4294967296 := ⟨_, rfl⟩
          rw [← hY] at sm HMX
          have R1S := Lib.hid (R1.out.set (i := j) (by rw [mix_len _ _ _ hj8]; exact hj) Y)
          rw [HMX.out] at R1S
          have R2S := Lib.hid (R2.out.other (a := ⟨H, j, none⟩) (by show H ≠ H + 1 + 1; omega) (.int .u32 (Y : Int)))
          have B3S := Lib.hid (B3.out.setCell (p := ⟨H, j, none⟩) (Nat.le_refl _) (.int .u32 (Y : Int)))
          clear hY HMX
          go_wp2_with fail
          generalize wr.setCell ⟨H, j, none⟩ (.int .u32 (Y : Int)) = wz at *
          go_wp2_with fail
          go_roundw
          case rel => exact ⟨j + 1, by omega, by go_num, R1S.out, R2S.out, B3S.out⟩
          case measure => simp [intOf]; omega
        · obtain rfl : j = 8 := by omega
          have hend : mixL s0 r 8 = (plus s0 r).list := by unfold mixL; rfl
          rw [hend] at R1
          have hlen : (plus s0 r).list.length = 8 := rfl
          have HI := Lib.hid (show (Tryd.prog.info? 89).map (·.size) = some (words32 (plus s0 r).list).toList.length by simpa [words32, hlen] using info45)
          have HIS := Lib.hid (show (Tryd.prog.info? 89).map (·.size) = some (words32 (plus s0 r).list).size by rw [words32_size, hlen]; exact info45)
          have HRG := Lib.hid (range32 R1.out)
          have HTE := Lib.hid (show wr.there (H + 1 + 1) 0 (words32 (plus s0 r).list).size by rw [words32_size, hlen]; simpa using there32 R2.out)
          have HNE := Lib.hid (words32_one (plus s0 r).list)
          obtain ⟨cs, hcs⟩ : ∃ cs, cs = words32 (plus s0 r).list := ⟨_, rfl⟩
          rw [← hcs] at HI HIS HRG HTE HNE
          have HCS := Lib.hid hcs
          clear hcs hend hlen
          go_wp2_with (first | (refine wpList_load_mid rfl 89 (.tmp 2) rfl H 0 rfl cs.toList _ HRG.out Tryd.underlying89 rfl HI.out ?_) | (refine wpList_store_mid rfl 89 (.tmp 4) (.tmp 120) rfl (H + 1 + 1) 0 cs rfl rfl HTE.out HIS.out HNE.out ?_))
          refine bodyPost_ret (v := .agg cs) (results_arr rfl _ _ _ (H + 1 + 1) cs _ rfl HTE.out Tryd.underlying89 rfl HI.out) rfl ⟨by rw [HCS.out, ← HS.out, HQ.out], ?_⟩
          rw [← HH.out]
          exact below_setCells (by omega) _ 0 B3.out
end Go.Proofs.YtbiifdnicieamaaDoor
