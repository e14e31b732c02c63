/- Texts for layer 9, put together: ShaMixed, ShaLayPlain, ShaLay -/
import Derived.Test.YteejldddgogbkaaDoorTSca08
import Derived.Laws.IdiomCopy
import Derived.Lib.SlBuf
/- The state behind one more block, as the program reckons it. -/
set_option linter.unusedVariables false
set_option maxRecDepth 100000
namespace Go.Proofs.YteejldddgogbkaaDoor
open Go.RowKit

/-- The round numbers stand in the program's variable. -/
def Glob (w : World) : Prop := 0 < w.heap.size ∧ ∀ j, j < 64 → w.cell? ⟨0, j, none⟩ = some (.int .u32 ((numbers.getD j 0 : Nat) : Int))
theorem Glob.keep {B : Nat} {w w' : World} (h : Glob w) (k : Below B w w') (hb : 0 < B) : Glob w' :=
  ⟨Nat.lt_of_lt_of_le h.1 k.size, fun j hj => by rw [k.cell hb]; exact h.2 j hj⟩

theorem row32_put {b : Nat} {l m : List Nat} {w : World} (h : Row32 b l w) (hm : m.length = l.length) : Row32 b m (w.setCells b 0 (words32 m).toList) := by
  have hth : w.there b 0 (words32 m).toList.length := by simpa [words32, hm] using there32 h
  have hr := World.rangeAt_setCells_same w b 0 (words32 m).toList hth
  refine ⟨Nat.lt_of_lt_of_le h.1 (below_setCells (Nat.le_refl _) (words32 m).toList 0 (Below.refl b w)).size, fun j hj => ⟨?_, ?_⟩⟩
  · have := hr j (.int .u32 ((m.getD j 0 : Nat) : Int)) (by simp [words32, hj, List.getD_eq_getElem?_getD])
    rwa [Nat.zero_add] at this
  · rw [World.frozen?_setCells]
    exact (h.2 j (by omega)).2
theorem row32_putOther {b b' : Nat} {l : List Nat} {w : World} (h : Row32 b l w) (hne : b' ≠ b) : ∀ (vs : List Value) (o : Nat), Row32 b l (w.setCells b' o vs) := by
  intro vs
  induction vs generalizing w with
  | nil => intro o; exact h
  | cons v vs ih => intro o; exact ih (h.other (a := ⟨b', o, none⟩) hne v) (o + 1)
theorem not32 (e : Nat) (h : e < 4294967296) : bits BinOp.xor IntKind.u32 IntKind.u32.max (e : Int) = ((4294967295 - e : Nat) : Int) := by
  have hx : 4294967295 ^^^ e = 4294967295 - e := by
    apply Nat.eq_of_testBit_eq
    intro i
    have h1 := Nat.testBit_two_pow_sub_succ (n := 32) (x := e) (by simpa using h) i
    have h2 := Nat.testBit_two_pow_sub_one 32 i
    rw [show 2 ^ 32 - (e + 1) = 4294967295 - e by omega] at h1
    rw [show (2 : Nat) ^ 32 - 1 = 4294967295 by decide] at h2
    rw [Nat.testBit_xor, h1, h2]
    by_cases hi : i < 32
    · simp [hi]
    · have : e.testBit i = false := Nat.testBit_lt_two_pow (Nat.lt_of_lt_of_le h (Nat.pow_le_pow_right (n := 2) (by decide) (show 32 ≤ i by omega)))
      simp [hi, this]
  rw [show IntKind.u32.max = ((4294967295 : Nat) : Int) by decide, u32_xor_nat _ _ (by omega) h, hx]
theorem not32' (e : Nat) (h : e < 4294967296) : bits BinOp.xor IntKind.u32 (if IntKind.u32.signed then -1 else IntKind.u32.max) (e : Int) = ((4294967295 - e : Nat) : Int) := not32 e h
theorem arr44 : Tryd.prog.underlying 140 = some (.array 8 122) := by kernel_rfl
theorem notAgg37 (w : World) : (isAgg 122).run Tryd.prog w = .ok false w := by kernel_rfl
theorem size37 (w : World) : (Go.sizeOf 122).run Tryd.prog w = .ok 1 w := by kernel_rfl
theorem eight_at (r : Eight) (i : Nat) (h : i < 8) : (#[Value.int .u32 (r.a : Int), .int .u32 (r.b : Int), .int .u32 (r.c : Int), .int .u32 (r.d : Int), .int .u32 (r.e : Int), .int .u32 (r.f : Int), .int .u32 (r.g : Int), .int .u32 (r.h : Int)])[i]? = some (.int .u32 ((r.list.getD i 0 : Nat) : Int)) := by
  have h1 : i = 0 ∨ i = 1 ∨ i = 2 ∨ i = 3 ∨ i = 4 ∨ i = 5 ∨ i = 6 ∨ i = 7 := by omega
  rcases h1 with rfl | rfl | rfl | rfl | rfl | rfl | rfl | rfl <;> rfl

/-- The state, the result's place, the words of the rounds. -/
structure Mx (H M : Nat) (st W : List Nat) (w : World) : Prop where
  s : Row32 H st w
  r : Row32 (H + 1 + 1) (List.replicate 8 0) w
  m : Row32 M W w
  g : Glob w
theorem Mx.drawn {H M : Nat} {st W : List Nat} {w : World} (h : Mx H M st W w) (n : Nat) : Mx H M st W (w.drewN n) :=
  ⟨⟨h.s.1, h.s.2⟩, ⟨h.r.1, h.r.2⟩, ⟨h.m.1, h.m.2⟩, ⟨h.g.1, h.g.2⟩⟩

set_option maxHeartbeats 4000000 in
set_option maxRecDepth 100000 in
theorem sha_mixed (s0 : Eight) (L : List UInt8) (w : World) (hs0 : Hid s0.ok) (hl : Hid (L.length = 64)) (hg : Hid (Glob w)) :
    Calls Tryd.prog 83 #[.agg (words32 s0.list), .agg (keyA L)] w fun e w' => e = .returned (.agg (words32 (plus s0 (rnds (sched L 0 64) s0 64)).list)) ∧ Below w.heap.size w w' := by
  obtain ⟨H, hH⟩ : ∃ H, H = w.heap.size := ⟨_, rfl⟩
  obtain ⟨W2, hW2⟩ : ∃ W2, W2 = ((w.alloc (.cells (words32 s0.list) 141)).alloc (.cells (keyA L) 142)).alloc (.cells (Array.replicate 8 (.int .u32 0)) 141) := ⟨_, rfl⟩
  have b1 : Below (H + 1) (w.alloc (.cells (words32 s0.list) 141)) W2 := by rw [hW2]; exact ((Below.refl _ _).alloc (by rw [hH]; simp) _).alloc (by rw [hH]; simp) _
  have b2 : Below (H + 1 + 1) ((w.alloc (.cells (words32 s0.list) 141)).alloc (.cells (keyA L) 142)) W2 := by rw [hW2]; exact (Below.refl _ _).alloc (by rw [hH]; simp) _
  have HST := Lib.hid (show Row32 H s0.list W2 by
    have h := row32_new w s0.list 141
    rw [← hH] at h
    exact h.keep b1 (by omega))
  have HBX := Lib.hid (show W2.rangeAt (H + 1) 0 (keyA L).toList by
    have h := keyA_range (w.alloc (.cells (words32 s0.list) 141)) L 142
    rw [show (w.alloc (.cells (words32 s0.list) 141)).heap.size = H + 1 by rw [hH]; simp] at h
    exact rangeAt_below h b2 (by omega))
  have HR := Lib.hid (show Row32 (H + 1 + 1) (List.replicate 8 0) W2 by
    have h := row32_zero ((w.alloc (.cells (words32 s0.list) 141)).alloc (.cells (keyA L) 142)) 8 141
    rw [show ((w.alloc (.cells (words32 s0.list) 141)).alloc (.cells (keyA L) 142)).heap.size = H + 1 + 1 by rw [hH]; simp] at h
    rw [hW2]
    exact h)
  have HB := Lib.hid (show Below H w W2 by rw [hW2, hH]; exact (((Below.refl _ _).alloc (Nat.le_refl _) _).alloc (by simp) _).alloc (by simp; omega) _)
  have HSZ := Lib.hid (show W2.heap.size = H + 3 by rw [hW2, hH]; simp)
  have HW2 := Lib.hid hW2
  have HH := Lib.hid hH
  clear b1 b2 hW2 hH
  go_enter Tryd.func83, Tryd.ntmps83
  go_upto_region 1 with (fail)
  change Code.wp _ _ _ _ (((w.alloc (.cells (words32 s0.list) 141)).alloc (.cells (keyA L) 142)).alloc (.cells (Array.replicate 8 (.int .u32 0)) 141))
  rw [← HW2.out, ← HH.out]
  go_wp2_with (first | (refine wpList_load_mid rfl 142 (.tmp 3) rfl (H + 1) 0 rfl (keyA L).toList _ HBX.out Tryd.underlying142 rfl (by simpa [keyA_size, hl.out] using info46) ?_))
  refine (sha_spread L W2 hl).mono ?_
  rintro e w1 ⟨rfl, k1⟩
  have K1 := Lib.hid k1
  clear k1
  have HST1 := Lib.hid (HST.out.keep K1.out (by rw [HSZ.out]; omega))
  have HR1 := Lib.hid (HR.out.keep K1.out (by rw [HSZ.out]; omega))
  have HG1 := Lib.hid ((hg.out.keep HB.out (by rw [HH.out]; exact hg.out.1)).keep K1.out (by rw [HSZ.out]; omega))
  have HB1 := Lib.hid (HB.out.trans (K1.out.mono (by rw [HSZ.out]; omega)))
  obtain ⟨M, hM⟩ : ∃ M, M = w1.heap.size := ⟨_, rfl⟩
  have HM3 := Lib.hid (show H + 3 ≤ M by rw [hM, ← HSZ.out]; exact K1.out.size)
  obtain ⟨W3, hW3⟩ : ∃ W3, W3 = w1.alloc (.cells (Array.replicate 64 (.int .u32 0)) 158) := ⟨_, rfl⟩
  have k3 : Below M w1 W3 := by rw [hW3, hM]; exact (Below.refl _ _).alloc (Nat.le_refl _) _
  have HM0 := Lib.hid (show Row32 M (List.replicate 64 0) W3 by rw [hM, hW3]; exact row32_zero w1 64 158)
  have hslen := sched_len L 0 64
  have HSL := Lib.hid (sched_lt L 0 64)
  obtain ⟨S, hS⟩ : ∃ S, S = sched L 0 64 := ⟨_, rfl⟩
  rw [← hS] at hslen HSL
  rw [← hS]
  have HS := Lib.hid hS
  have HTH := Lib.hid (show (w1.alloc (.cells (Array.replicate 64 (.int .u32 0)) 158)).there w1.heap.size 0 (words32 S).size by
    rw [← hW3, ← hM]
    rw [words32_size, hslen]; simpa using there32 HM0.out)
  have HIS := Lib.hid (show (Tryd.prog.info? 158).map (·.size) = some (words32 S).size by rw [words32_size, hslen]; exact info56)
  have HON := Lib.hid (words32_one S)
  have HX := Lib.hid (show Mx H M s0.list S (W3.setCells M 0 (words32 S).toList) from
    ⟨row32_putOther (HST1.out.keep k3 (by have := HM3.out; omega)) (by have := HM3.out; omega) _ _, row32_putOther (HR1.out.keep k3 (by have := HM3.out; omega)) (by have := HM3.out; omega) _ _, row32_put HM0.out (by simp [hslen]), (HG1.out.keep k3 (by have := HM3.out; omega)).keep (below_setCells (Nat.le_refl _) _ 0 (Below.refl M W3)) (by have := HM3.out; omega)⟩)
  have HBX3 := Lib.hid (show Below H w (W3.setCells M 0 (words32 S).toList) from below_setCells (by have := HM3.out; omega) _ 0 (HB1.out.trans (k3.mono (by have := HM3.out; omega))))
  have HSLN := Lib.hid hslen
  have HM := Lib.hid hM
  have HW3 := Lib.hid hW3
  clear hS k3 hslen hM hW3
  go_upto_region 2 with (first | (refine wpList_store_mid rfl 158 (.tmp 5) (.tmp 20) rfl w1.heap.size 0 (words32 S) rfl rfl HTH.out HIS.out HON.out ?_))
  change Code.wp _ _ _ _ ((w1.alloc (.cells (Array.replicate 64 (.int .u32 0)) 158)).setCells w1.heap.size 0 (words32 S).toList)
  rw [← HM.out, ← HW3.out]
  generalize W3.setCells M 0 (words32 S).toList = w0 at *
  obtain ⟨c0, c1, c2, c3, c4, c5, c6, c7⟩ := row_eight HX.out.s
  go_wp2_with fail
  go_quiet (fail)
  go_wp2_with fail
  go_quiet (fail)
  go_wp2_with fail
  generalize hwx : (w0.drewN _).drewN _ = wx
  have HXx := Lib.hid (show Mx H M s0.list S wx by rw [← hwx]; exact (HX.out.drawn _).drawn _)
  have HBx := Lib.hid (show Below H w wx by rw [← hwx]; exact below_drewN (below_drewN HBX3.out _) _)
  clear hwx c0 c1 c2 c3 c4 c5 c6 c7
  go_loopw [6, 7, 8, 9, 10, 11, 12, 13, 37] (fun va vb vc vd ve vf vg vh vi wi => ∃ i qa qb qc qd qe qf qg qh : Nat, i ≤ 64 ∧ vi = .int .i64 i ∧ va = .int .u32 qa ∧ vb = .int .u32 qb ∧ vc = .int .u32 qc ∧ vd = .int .u32 qd ∧ ve = .int .u32 qe ∧ vf = .int .u32 qf ∧ vg = .int .u32 qg ∧ vh = .int .u32 qh ∧ Hid (rnds S s0 i = ⟨qa, qb, qc, qd, qe, qf, qg, qh⟩) ∧ Hid (∃ m, wi = wx.drewN m)) (fun va vb vc vd ve vf vg vh vi wi => 64 - (intOf vi).toNat)
  case atStart => exact ⟨0, s0.a, s0.b, s0.c, s0.d, s0.e, s0.f, s0.g, s0.h, by omega, rfl, rfl, rfl, rfl, rfl, rfl, rfl, rfl, rfl, Lib.hid rfl, Lib.hid ⟨0, rfl⟩⟩
  case round =>
    obtain ⟨i, qa, qb, qc, qd, qe, qf, qg, qh, hi64, rfl, rfl, rfl, rfl, rfl, rfl, rfl, rfl, rfl, hq, hdr⟩ := hrel
    have XR := Lib.hid (show Mx H M s0.list S wr by obtain ⟨m, hm⟩ := hdr.out; rw [hm]; exact HXx.out.drawn m)
    have hok := rnds_ok (w := S) hs0.out i
    rw [hq.out] at hok
    obtain ⟨la, lb, lc, ld, le, lf, lg, lh⟩ := hok
    rcases Nat.lt_or_ge i 64 with hi6 | hi6
    · have ck := XR.out.g.2 i hi6
      have cw := (XR.out.m.2 i (by rw [HSLN.out]; exact hi6)).1
      have lk := getD_lt numbers_lt i
      have lw := getD_lt HSL.out i
      have HNX := Lib.hid (show rnds S s0 (i + 1) = rnd (numbers.getD i 0) (S.getD i 0) ⟨qa, qb, qc, qd, qe, qf, qg, qh⟩ by rw [rnds, hq.out])
      obtain ⟨kk, hkk⟩ : ∃ x, x = numbers.getD i 0 := ⟨_, rfl⟩
      obtain ⟨ww, hww⟩ : ∃ x, x = S.getD i 0 := ⟨_, rfl⟩
      rw [← hkk] at ck lk HNX
      rw [← hww] at cw lw HNX
      clear hkk hww
      have hbg := bg_facts qe 6 11 25 le
      have b1 := hbg.1
      have b2 : bits BinOp.xor IntKind.u32 ((rotN 6 qe ^^^ rotN 11 qe : Nat) : Int) ((rotN 25 qe : Nat) : Int) = ((bg1 qe : Nat) : Int) := hbg.2
      obtain ⟨a1, a2, a3⟩ := ch_facts qe qf qg le lf lg
      have a4 := not32 qe le
      have a5 := not32' qe le
      have lch := chW_lt (e := qe) lf lg
      have lbg := bg1_lt le
      have HXO := Lib.hid (show xOf kk ww ⟨qa, qb, qc, qd, qe, qf, qg, qh⟩ = ((((qh + bg1 qe) % 4294967296 + chW qe qf qg) % 4294967296 + kk) % 4294967296 + ww) % 4294967296 from rfl)
      clear hbg
      generalize bg1 qe = G1 at *
      generalize chW qe qf qg = H1 at *
      have s1 := wrap_sum qh G1
      have s2 := wrap_sum ((qh + G1) % 4294967296) H1
      have s3 := wrap_sum (((qh + G1) % 4294967296 + H1) % 4294967296) kk
      have s4 := wrap_sum ((((qh + G1) % 4294967296 + H1) % 4294967296 + kk) % 4294967296) ww
      have lX := mod32 ((((qh + G1) % 4294967296 + H1) % 4294967296 + kk) % 4294967296 + ww)
      have hXO := HXO.out
      generalize (qh + G1) % 4294967296 = A1 at *
      generalize (A1 + H1) % 4294967296 = A2 at *
      generalize (A2 + kk) % 4294967296 = A3 at *
      obtain ⟨X, hX⟩ : ∃ X, X = (A3 + ww) % 4294967296 := ⟨_, rfl⟩
      rw [← hX] at s4 lX hXO
      have HXX := Lib.hid hXO
      clear HXO hXO hX
      go_wp2_with fail
      go_quiet (first | (go_at_call 95; exact quiet_right qe _ _ le (by decide) (by decide) _))
      generalize hwy : wr.drewN nq = wy
      have hdy := Lib.hid (show ∃ m, wy = wx.drewN m by obtain ⟨m, hm⟩ := hdr.out; exact ⟨m + nq, by rw [← hwy, hm, World.drewN_drewN]⟩)
      clear s1 s2 s3 s4 a1 a2 a3 a4 a5 b1 b2 ck cw hwy
      go_wp2_with fail
      refine (sha_right qa 2 wy la (by decide) (by decide)).mono ?_
      rintro e' w9 ⟨rfl, rfl⟩
      go_wp2_with fail
      refine (sha_right qa 13 wy la (by decide) (by decide)).mono ?_
      rintro e' w9 ⟨rfl, rfl⟩
      have hbg := bg_facts qa 2 13 22 la
      have b1 := hbg.1
      have b2 : bits BinOp.xor IntKind.u32 ((rotN 2 qa ^^^ rotN 13 qa : Nat) : Int) ((rotN 22 qa : Nat) : Int) = ((bg0 qa : Nat) : Int) := hbg.2
      clear hbg
      go_wp2_with fail
      refine (sha_right qa 22 wy la (by decide) (by decide)).mono ?_
      rintro e' w9 ⟨rfl, rfl⟩
      obtain ⟨m1, m2, m3, m4, m5⟩ := mj_facts qa qb qc la lb lc
      have lbg0 := bg0_lt la
      have lmj := mjW_lt (a := qa) lb lc
      have HYO := Lib.hid (show yOf ⟨qa, qb, qc, qd, qe, qf, qg, qh⟩ = (bg0 qa + mjW qa qb qc) % 4294967296 from rfl)
      generalize bg0 qa = G0 at *
      generalize mjW qa qb qc = J0 at *
      go_wp2_with fail
      go_roundw
      case rel => exact ⟨i + 1, (X + (G0 + J0) % 4294967296) % 4294967296, qa, qb, qc, (qd + X) % 4294967296, qe, qf, qg, by omega, by go_num, by go_num, rfl, rfl, rfl, by go_num, rfl, rfl, rfl, Lib.hid (by rw [HNX.out]; unfold rnd; rw [HXX.out, HYO.out]), hdy⟩
      case measure => simp [intOf]; omega
    · obtain rfl : i = 64 := by omega
      rw [show ((64 : Nat) : Int) = 64 from rfl]
      go_wp2_with fail
      have hfin := hq.out
      obtain ⟨r, hr⟩ : ∃ r : Eight, r = ⟨qa, qb, qc, qd, qe, qf, qg, qh⟩ := ⟨_, rfl⟩
      have HQ := Lib.hid (show rnds S s0 64 = r by rw [hr]; exact hfin)
      have ix := Lib.hid (fun (j : Nat) (hj : j < 8) => run_index_arr 140 122 8 #[Value.int .u32 (qa : Int), .int .u32 (qb : Int), .int .u32 (qc : Int), .int .u32 (qd : Int), .int .u32 (qe : Int), .int .u32 (qf : Int), .int .u32 (qg : Int), .int .u32 (qh : Int)] j (.int .u32 ((r.list.getD j 0 : Nat) : Int)) arr44 notAgg37 size37 hj (by rw [hr]; exact eight_at ⟨qa, qb, qc, qd, qe, qf, qg, qh⟩ j hj))
      have HBr := Lib.hid (show Below H w wr by obtain ⟨m, hm⟩ := hdr.out; rw [hm]; exact below_drewN HBx.out m)
      clear hfin hr la lb lc ld le lf lg lh
      go_loopw [109] (fun vi wi => ∃ j : Nat, j ≤ 8 ∧ vi = .int .i64 j ∧ Row32 H (mixL s0 r j) wi ∧ Row32 (H + 1 + 1) (List.replicate 8 0) wi ∧ Below H w wi) (fun vi wi => 8 - (intOf vi).toNat)
      case atStart => exact ⟨0, by omega, rfl, XR.out.s, XR.out.r, HBr.out⟩
      case round =>
        obtain ⟨j, hj8, rfl, h1, h2, h3⟩ := hrel
        have R1 := Lib.hid h1
        have R2 := Lib.hid h2
        have B3 := Lib.hid h3
        clear h1 h2 h3
        rcases Nat.lt_or_ge j 8 with hj | hj
        · have ixj := ix.out j hj
          have d1 := (R1.out.2 j (by rw [mix_len _ _ _ hj8]; exact hj)).1
          have d2 := (R1.out.2 j (by rw [mix_len _ _ _ hj8]; exact hj)).2
          rw [mix_at s0 r j hj] at d1
          have HMX := Lib.hid (mix_next s0 r j hj)
          obtain ⟨y1, hy1⟩ : ∃ y, y = s0.list.getD j 0 := ⟨_, rfl⟩
          obtain ⟨y2, hy2⟩ : ∃ y, y = r.list.getD j 0 := ⟨_, rfl⟩
          rw [← hy1] at d1 HMX
          rw [← hy2] at ixj HMX
          have sm := wrap_sum y1 y2
          clear hy1 hy2
          obtain ⟨Y, hY⟩ : ∃ Y, Y = (y1 + y2) % 4294967296 := ⟨_, rfl⟩
          rw [← hY] at sm HMX
          have R1S := Lib.hid (R1.out.set (i := j) (by rw [mix_len _ _ _ hj8]; exact hj) Y)
          rw [HMX.out] at R1S
          have R2S := Lib.hid (R2.out.other (a := ⟨H, j, none⟩) (by show H ≠ H + 1 + 1; omega) (.int .u32 (Y : Int)))
          have B3S := Lib.hid (B3.out.setCell (p := ⟨H, j, none⟩) (Nat.le_refl _) (.int .u32 (Y : Int)))
          clear hY HMX
          go_wp2_with fail
          generalize wr.setCell ⟨H, j, none⟩ (.int .u32 (Y : Int)) = wz at *
          go_wp2_with fail
          go_roundw
          case rel => exact ⟨j + 1, by omega, by go_num, R1S.out, R2S.out, B3S.out⟩
          case measure => simp [intOf]; omega
        · obtain rfl : j = 8 := by omega
          have hend : mixL s0 r 8 = (plus s0 r).list := by unfold mixL; rfl
          rw [hend] at R1
          have hlen : (plus s0 r).list.length = 8 := rfl
          have HI := Lib.hid (show (Tryd.prog.info? 141).map (·.size) = some (words32 (plus s0 r).list).toList.length by simpa [words32, hlen] using info45)
          have HIS := Lib.hid (show (Tryd.prog.info? 141).map (·.size) = some (words32 (plus s0 r).list).size by rw [words32_size, hlen]; exact info45)
          have HRG := Lib.hid (range32 R1.out)
          have HTE := Lib.hid (show wr.there (H + 1 + 1) 0 (words32 (plus s0 r).list).size by rw [words32_size, hlen]; simpa using there32 R2.out)
          have HNE := Lib.hid (words32_one (plus s0 r).list)
          obtain ⟨cs, hcs⟩ : ∃ cs, cs = words32 (plus s0 r).list := ⟨_, rfl⟩
          rw [← hcs] at HI HIS HRG HTE HNE
          have HCS := Lib.hid hcs
          clear hcs hend hlen
          go_wp2_with (first | (refine wpList_load_mid rfl 141 (.tmp 2) rfl H 0 rfl cs.toList _ HRG.out Tryd.underlying141 rfl HI.out ?_) | (refine wpList_store_mid rfl 141 (.tmp 4) (.tmp 120) rfl (H + 1 + 1) 0 cs rfl rfl HTE.out HIS.out HNE.out ?_))
          refine bodyPost_ret (v := .agg cs) (results_arr rfl _ _ _ (H + 1 + 1) cs _ rfl HTE.out Tryd.underlying141 rfl HI.out) rfl ⟨by rw [HCS.out, ← HS.out, HQ.out], ?_⟩
          rw [← HH.out]
          exact below_setCells (by omega) _ 0 B3.out
end Go.Proofs.YteejldddgogbkaaDoor
/- Plain mathematics: a text laid into blocks piece by piece; the end of a text. -/
set_option linter.unusedVariables false
set_option maxRecDepth 100000
namespace Go.Proofs.YteejldddgogbkaaDoor

theorem byteAt_append (l m : List UInt8) (i : Nat) (h : i < l.length) : byteAt (l ++ m) i = byteAt l i := by
  unfold byteAt
  rw [List.getD_eq_getElem?_getD, List.getD_eq_getElem?_getD, List.getElem?_append_left h]
theorem sched_same (p q : List UInt8) (o : Nat) (h : ∀ j, j < 64 → byteAt p (o + j) = byteAt q j) : ∀ i, i ≤ 64 → sched p o i = sched q 0 i := by
  intro i
  induction i with
  | zero => intro _; rfl
  | succ i ih =>
    intro hi
    simp only [sched]
    rw [ih (by omega)]
    by_cases h16 : i < 16
    · rw [if_pos h16, if_pos h16]
      unfold wordAt
      have e0 := h (4 * i) (by omega)
      have e1 := h (4 * i + 1) (by omega)
      have e2 := h (4 * i + 2) (by omega)
      have e3 := h (4 * i + 3) (by omega)
      rw [Nat.zero_add, e0, show o + 4 * i + 1 = o + (4 * i + 1) by omega, e1, show o + 4 * i + 2 = o + (4 * i + 2) by omega, e2, show o + 4 * i + 3 = o + (4 * i + 3) by omega, e3]
    · rw [if_neg h16, if_neg h16]
theorem sched_app (l m : List UInt8) (o : Nat) (h : o + 64 ≤ l.length) : ∀ i, i ≤ 64 → sched (l ++ m) o i = sched l o i := by
  intro i
  induction i with
  | zero => intro _; rfl
  | succ i ih =>
    intro hi
    simp only [sched]
    rw [ih (by omega)]
    by_cases h16 : i < 16
    · rw [if_pos h16, if_pos h16]
      unfold wordAt
      rw [byteAt_append l m _ (by omega), byteAt_append l m _ (by omega), byteAt_append l m _ (by omega), byteAt_append l m _ (by omega)]
    · rw [if_neg h16, if_neg h16]
theorem blks_app (l m : List UInt8) : ∀ n, 64 * n ≤ l.length → blks (l ++ m) n = blks l n := by
  intro n
  induction n with
  | zero => intro _; rfl
  | succ n ih =>
    intro h
    simp only [blks, blk]
    rw [ih (by omega), sched_app l m (64 * n) (by omega) 64 (by omega)]

/-- A block's bytes stand for what is laid but not mixed yet. -/
def Tail (L B : List UInt8) : Prop := B.length = 64 ∧ B.take (L.length % 64) = L.drop (64 * (L.length / 64))
/-- The block behind a piece. -/
def laidB (B : List UInt8) (r : Nat) (x : List UInt8) : List UInt8 := B.take r ++ x ++ B.drop (r + x.length)
theorem laidB_len {B : List UInt8} {r : Nat} {x : List UInt8} (hB : B.length = 64) (h : r + x.length ≤ 64) : (laidB B r x).length = 64 := by
  unfold laidB
  rw [List.length_append, List.length_append, List.length_take, List.length_drop, hB]
  omega
theorem laidB_take {B : List UInt8} {r : Nat} {x : List UInt8} (hB : B.length = 64) (h : r + x.length ≤ 64) : (laidB B r x).take (r + x.length) = B.take r ++ x := by
  unfold laidB
  rw [List.take_left' (by rw [List.length_append, List.length_take, hB]; omega)]
theorem laidB_at {B : List UInt8} {r : Nat} {x : List UInt8} (hB : B.length = 64) (h : r + x.length ≤ 64) (j : Nat) : byteAt (laidB B r x) j = if r ≤ j ∧ j < r + x.length then byteAt x (j - r) else byteAt B j := by
  unfold laidB byteAt
  have h1 : (B.take r).length = r := by rw [List.length_take, hB]; omega
  simp only [List.getD_eq_getElem?_getD]
  by_cases hj : j < r
  · rw [if_neg (by omega), List.append_assoc, List.getElem?_append_left (by omega), List.getElem?_take, if_pos hj]
  · by_cases hj2 : j < r + x.length
    · rw [if_pos ⟨by omega, hj2⟩, List.getElem?_append_left (by rw [List.length_append]; omega), List.getElem?_append_right (by omega), h1]
    · rw [if_neg (by omega), List.getElem?_append_right (by rw [List.length_append]; omega), List.length_append, h1, List.getElem?_drop]
      rw [show r + x.length + (j - (r + x.length)) = j by omega]
theorem tail_less {L B x : List UInt8} (hT : Tail L B) (h : L.length % 64 + x.length < 64) : Tail (L ++ x) (laidB B (L.length % 64) x) ∧ blks (L ++ x) ((L ++ x).length / 64) = blks L (L.length / 64) := by
  obtain ⟨hB, hT⟩ := hT
  have e1 : (L ++ x).length % 64 = L.length % 64 + x.length := by rw [List.length_append]; omega
  have e2 : (L ++ x).length / 64 = L.length / 64 := by rw [List.length_append]; omega
  refine ⟨⟨laidB_len hB (by omega), ?_⟩, ?_⟩
  · rw [e1, e2, laidB_take hB (by omega), hT, List.drop_append_of_le_length (by omega)]
  · rw [e2, blks_app _ _ _ (by omega)]
theorem tail_full {L B x : List UInt8} (hT : Tail L B) (h : L.length % 64 + x.length = 64) : Tail (L ++ x) (laidB B (L.length % 64) x) ∧ blks (L ++ x) ((L ++ x).length / 64) = plus (blks L (L.length / 64)) (rnds (sched (laidB B (L.length % 64) x) 0 64) (blks L (L.length / 64)) 64) := by
  obtain ⟨hB, hT⟩ := hT
  have hlen : (L ++ x).length = 64 * (L.length / 64) + 64 := by rw [List.length_append]; omega
  have e1 : (L ++ x).length % 64 = 0 := by omega
  have e2 : (L ++ x).length / 64 = L.length / 64 + 1 := by omega
  have hl : laidB B (L.length % 64) x = (L ++ x).drop (64 * (L.length / 64)) := by
    rw [List.drop_append_of_le_length (by omega), ← hT, ← laidB_take hB (by omega), h, List.take_of_length_le (by rw [laidB_len hB (by omega)]; exact Nat.le_refl _)]
  refine ⟨⟨laidB_len hB (by omega), ?_⟩, ?_⟩
  · rw [e1, e2, List.take_zero, List.drop_of_length_le (by omega)]
  · rw [e2]
    simp only [blks, blk]
    rw [blks_app L x _ (by omega)]
    rw [sched_same (L ++ x) (laidB B (L.length % 64) x) _ (fun j hj => ?_) 64 (by omega)]
    rw [hl]
    unfold byteAt
    rw [List.getD_eq_getElem?_getD, List.getD_eq_getElem?_getD, List.getElem?_drop]

/-- What stands behind so many bytes. -/
def endOf (n : Nat) : List UInt8 := [128] ++ List.replicate (zerosOf n) 0 ++ len8 (8 * n)
theorem padded_end (l : List UInt8) : padded l = l ++ endOf l.length := by
  unfold padded endOf
  simp [List.append_assoc]
theorem endOf_len (n : Nat) : (endOf n).length ≤ 72 := by
  unfold endOf zerosOf len8
  simp only [List.length_append, List.length_replicate, List.length_cons, List.length_nil]
  omega
/-- The number of bits, moved up by bytes. -/
theorem moved_byte (M j : Nat) (h : j < 8) : (M * 256 ^ j % 18446744073709551616) / 72057594037927936 = M / 256 ^ (7 - j) % 256 := by
  have e1 : (18446744073709551616 : Nat) = 256 ^ (8 - j) * 256 ^ j := by rw [← Nat.pow_add, show 8 - j + j = 8 by omega]
  have e2 : (72057594037927936 : Nat) = 256 ^ j * 256 ^ (7 - j) := by rw [← Nat.pow_add, show j + (7 - j) = 7 by omega]
  have e3 : 256 ^ (8 - j) = 256 ^ (7 - j) * 256 := by rw [← Nat.pow_succ, show (7 - j).succ = 8 - j by omega]
  rw [e1, Nat.mul_mod_mul_right, e2, ← Nat.div_div_eq_div_mul, Nat.mul_div_cancel _ (Nat.pow_pos (by decide)), e3, Nat.mod_mul_right_div_self]
theorem moved_next (M j : Nat) : (M * 256 ^ j % 18446744073709551616) * 256 % 18446744073709551616 = M * 256 ^ (j + 1) % 18446744073709551616 := by
  rw [Nat.mod_mul_mod, Nat.pow_succ, Nat.mul_assoc]

/-- Texts, one behind the other. -/
def joined (T : List ByteArray) : List UInt8 := T.flatMap fun s => s.data.toList
theorem joined_next (T : List ByteArray) (k : Nat) (h : k < T.length) : joined (T.take (k + 1)) = joined (T.take k) ++ (T.getD k ByteArray.empty).data.toList := by
  unfold joined
  rw [List.take_add_one, List.getElem?_eq_getElem h, List.flatMap_append, List.getD_eq_getElem?_getD, List.getElem?_eq_getElem h]
  simp
theorem digestE_all (l : List UInt8) : digestE l = blks (l ++ endOf l.length) ((l ++ endOf l.length).length / 64) := by
  unfold digestE
  rw [padded_end]
end Go.Proofs.YteejldddgogbkaaDoor
/- The closure that lays bytes into blocks. -/
set_option linter.unusedVariables false
set_option maxRecDepth 100000
namespace Go.Proofs.YteejldddgogbkaaDoor
open Go.RowKit

/-- In block b stand these bytes. -/
def Row8 (b : Nat) (l : List UInt8) (w : World) : Prop := b < w.heap.size ∧ ∀ j, j < l.length → w.cell? ⟨b, j, none⟩ = some (.int .u8 ((byteAt l j : Nat) : Int)) ∧ w.frozen? ⟨b, j, none⟩ = false
theorem row8_new (w : World) (l : List UInt8) (t : TypeId) : Row8 w.heap.size l (w.alloc (.cells (keyA l) t)) := by
  refine ⟨by show w.heap.size < (w.heap.push _).size; simp, fun j hj => ⟨?_, ?_⟩⟩
  · rw [World.cell?_alloc_mark]
    simp [keyA, byteAt, hj, List.getD_eq_getElem?_getD]
  · rw [World.frozen?_alloc_mark]
    simp
theorem row8_zero (w : World) (n : Nat) (t : TypeId) : Row8 w.heap.size (List.replicate n 0) (w.alloc (.cells (Array.replicate n (.int .u8 0)) t)) := by
  have h := row8_new w (List.replicate n 0) t
  have e : keyA (List.replicate n 0) = Array.replicate n (.int .u8 0) := by
    unfold keyA
    rw [List.map_replicate]
    rfl
  rwa [e] at h
theorem Row8.keep {b B : Nat} {l : List UInt8} {w w' : World} (h : Row8 b l w) (k : Below B w w') (hb : b < B) : Row8 b l w' := by
  refine ⟨Nat.lt_of_lt_of_le h.1 k.size, fun j hj => ?_⟩
  rw [k.cell hb, YteejldddgogbkaaDoor.Below.frozen k hb]
  exact h.2 j hj
theorem Row8.other {b : Nat} {l : List UInt8} {w : World} (h : Row8 b l w) {a : Addr} (ha : a.block ≠ b) (v : Value) : Row8 b l (w.setCell a v) := by
  refine ⟨by simpa using h.1, fun j hj => ?_⟩
  refine ⟨?_, by rw [World.frozen?_setCell]; exact (h.2 j hj).2⟩
  rw [World.cell?_setCell_other w _ _ _ (fun e => ha (by rw [e]))]
  exact (h.2 j hj).1
theorem Row8.putOther {b b' : Nat} {l : List UInt8} {w : World} (h : Row8 b l w) (hne : b' ≠ b) : ∀ (vs : List Value) (o : Nat), Row8 b l (w.setCells b' o vs) := by
  intro vs
  induction vs generalizing w with
  | nil => intro o; exact h
  | cons v vs ih => intro o; exact ih (h.other (a := ⟨b', o, none⟩) hne v) (o + 1)
theorem range8 {b : Nat} {l : List UInt8} {w : World} (h : Row8 b l w) : w.rangeAt b 0 (keyA l).toList := by
  intro j v hj
  have hlt : j < l.length := by
    have := (List.getElem?_eq_some_iff.1 hj).1
    simpa [keyA] using this
  rw [Nat.zero_add, (h.2 j hlt).1, byteAt_get l j hlt]
  simp [keyA] at hj
  obtain ⟨x, hx, rfl⟩ := hj
  have : l[j]'hlt = x := by
    rw [List.getElem?_eq_getElem hlt] at hx
    exact Option.some.inj hx
  rw [this]
theorem there8 {b : Nat} {l : List UInt8} {w : World} (h : Row8 b l w) : w.there b 0 l.length := fun j hj => by
  rw [Nat.zero_add, (h.2 j hj).1]
  exact ⟨rfl, (h.2 j hj).2⟩
def cells8 (x : List UInt8) : List Value := x.map fun b => Value.int .u8 (b.toNat : Int)
theorem cells8_len (x : List UInt8) : (cells8 x).length = x.length := by simp [cells8]
theorem Row8.put {b : Nat} {B : List UInt8} {w : World} (h : Row8 b B w) (hB : B.length = 64) {r : Nat} {x : List UInt8} (hx : r + x.length ≤ 64) : Row8 b (laidB B r x) (w.setCells b r (cells8 x)) := by
  refine ⟨Nat.lt_of_lt_of_le h.1 (below_setCells (Nat.le_refl _) _ _ (Below.refl b w)).size, fun j hj => ⟨?_, by rw [World.frozen?_setCells]; exact (h.2 j (by rw [laidB_len hB hx] at hj; omega)).2⟩⟩
  rw [laidB_len hB hx] at hj
  have h64 : ∀ i, i < 64 → (w.cell? ⟨b, i, none⟩).isSome = true := fun i hi => by rw [(h.2 i (by omega)).1]; rfl
  rw [laidB_at hB hx]
  by_cases hi : r ≤ j ∧ j < r + x.length
  · rw [if_pos hi]
    have hth : w.there b r (cells8 x).length := fun i hi' => by
      rw [cells8_len] at hi'
      exact ⟨h64 _ (by omega), (h.2 (r + i) (by omega)).2⟩
    have := World.rangeAt_setCells_same w b r (cells8 x) hth (j - r) (.int .u8 ((byteAt x (j - r) : Nat) : Int)) (by
      rw [byteAt_get x (j - r) (by omega)]
      unfold cells8
      rw [List.getElem?_map, List.getElem?_eq_getElem (show j - r < x.length by omega)]
      rfl)
    rwa [show r + (j - r) = j by omega] at this
  · rw [if_neg hi, World.cell?_setCells_out _ _ _ _ _ (fun _ _ => by show j < r ∨ r + (cells8 x).length ≤ j; rw [cells8_len]; omega)]
    exact (h.2 j (by omega)).1

/-- 'copy(d, s)' from a string into bytes that are there: as many as fit. -/
theorem run_copy_str (w : World) (dT sT ty elem : TypeId) (b o dLen dCap : Nat) (t : ByteArray)
    (hu : Tryd.prog.underlying dT = some (.slice elem)) (hz : ∀ w, (Go.sizeOf elem).run Tryd.prog w = .ok 1 w) (n : Nat) (hn : n = min t.size dLen)
    (hc : ∀ j, j < n → (w.cell? ⟨b, o + j, none⟩).isSome = true) (hf : ∀ j, j < n → w.frozen? ⟨b, o + j, none⟩ = false) :
    (Builtin.copy_ #[dT, sT] ty #[.slice (some ⟨b, o, none⟩) dLen dCap, .string t]).run Tryd.prog w = .ok (.int .i64 (n : Int)) (w.setCells b o (cells8 (t.data.toList.take n))) := by
  have hmin : Nat.min t.size dLen = n := hn.symm
  have hl0 : t.data.toList.length = t.size := by rw [← Lib.size_eq]
  have hl : (cells8 (t.data.toList.take n)).length = n := by rw [cells8_len, List.length_take, hl0]; omega
  have hst := run_storeCells_cells (P := Tryd.prog) b o (cells8 (t.data.toList.take n)) 0 w (by rw [hl]; simpa using hc) (by rw [hl]; simpa using hf) (by
    intro v hv
    obtain ⟨x, _, rfl⟩ := List.mem_map.1 hv
    rfl)
  have htk : List.take n (List.map (fun b : UInt8 => Value.int IntKind.u8 (b.toNat : Int)) t.data.toList) = cells8 (t.data.toList.take n) := by unfold cells8; rw [List.map_take]
  simp [Builtin.copy_, run_underlying hu, Builtin.lenOf, Builtin.firstCells, hz, hmin]
  rw [htk, hst]
  rfl

theorem len46 : Tryd.prog.arrayLen 142 = 64 := by kernel_rfl
theorem elem46 : Tryd.prog.elem 142 = 5 := by kernel_rfl
/-- An array from a place on. -/
theorem run_slice64 (B r m : Nat) (i : Int) (k : IntKind) (hi : i = (r : Int)) (hr : r < 64) (hm : m = 64 - r) (w : World) : (Instr.sliceAt 142 (.pointer (some ⟨B, 0, none⟩)) (some (.int k i)) none none).run Tryd.prog w = .ok (.slice (some ⟨B, r, none⟩) m m) w := by
  subst hi
  rw [run_sliceAt_array_l w 142 ⟨B, 0, none⟩ (by rw [len46, elem46]; exact arr46) k _ (by omega) (by rw [len46]; omega), elem46, size5]
  simp only [Result.andThen, slicedAt, len46, Int.toNat_natCast, Nat.mul_one]
  rw [if_neg (by omega), addr_add, Nat.zero_add, hm]

def strLen : Value → Nat
  | .string x => x.size
  | _ => 0
/-- What is laid: the block, the count, the state. -/
structure Laid (R T B : Nat) (L : List UInt8) (w : World) : Prop where
  row : ∃ l, Tail L l ∧ Row8 B l w
  num : w.cell? ⟨T, 0, none⟩ = some (.int .u64 ((L.length : Nat) : Int)) ∧ w.frozen? ⟨T, 0, none⟩ = false
  st : Row32 R (blks L (L.length / 64)).list w
  g : Glob w

set_option maxHeartbeats 2000000 in
set_option maxRecDepth 100000 in
theorem sha_lay (K R T B : Nat) (L : List UInt8) (s : ByteArray) (w : World) (hL : L.length + s.size ≤ 1000000000000000) (h : Hid (Laid R T B L w)) (hK : Hid (0 < K ∧ K ≤ R ∧ K ≤ T ∧ K ≤ B ∧ R ≠ T ∧ R ≠ B ∧ T ≠ B)) :
    Calls Tryd.prog 82 #[.string s, .pointer (some ⟨B, 0, none⟩), .pointer (some ⟨T, 0, none⟩), .pointer (some ⟨R, 0, none⟩)] w fun e w' => e = .returned (.tuple #[]) ∧ Laid R T B (L ++ s.data.toList) w' ∧ Below K w w' := by
  have hl0 : s.data.toList.length = s.size := by rw [← Lib.size_eq]
  have HL0 := Lib.hid hl0
  have HLL := Lib.hid hL
  clear hl0 hL
  go_enter Tryd.func82, Tryd.ntmps82
  go_wp2_with fail
  go_loopw [0] (fun v wr => ∃ k : Nat, k ≤ s.size ∧ v = .string (bs (s.data.toList.drop k)) ∧ Laid R T B (L ++ s.data.toList.take k) wr ∧ Below K w wr) (fun v wr => strLen v)
  case atStart => exact ⟨0, by omega, by rw [List.drop_zero, ← bs_eq rfl], by simpa using h.out, Below.refl _ _⟩
  case round =>
    obtain ⟨k, hk, rfl, hla, hbw⟩ := hrel
    have HLA := Lib.hid hla
    have HBW := Lib.hid hbw
    clear hla hbw
    have hdl : (s.data.toList.drop k).length = s.size - k := by rw [List.length_drop, HL0.out]
    by_cases hks : k < s.size
    · obtain ⟨LL, hLL⟩ : ∃ LL, LL = L ++ s.data.toList.take k := ⟨_, rfl⟩
      have hN : LL.length = L.length + k := by rw [hLL, List.length_append, List.length_take, HL0.out]; omega
      rw [← hLL] at HLA
      obtain ⟨⟨l, hT, hR8⟩, ⟨n1, n2⟩, hst, hg⟩ := HLA.out
      obtain ⟨d, hd⟩ : ∃ d, d = bs (s.data.toList.drop k) := ⟨_, rfl⟩
      have hds : d.size = s.size - k := by rw [hd, bs_size, hdl]
      have hdb : d.data.toList = s.data.toList.drop k := by rw [hd, bs_list]
      have hne : d.toList.isEmpty = false := by
        rw [Lib.toList_data, hdb]
        cases hx : s.data.toList.drop k with
        | nil => rw [hx] at hdl; simp at hdl; omega
        | cons _ _ => rfl
      have hne2 : (d.toList == []) = false := by
        rw [Lib.toList_data, hdb]
        cases hx : s.data.toList.drop k with
        | nil => rw [hx] at hdl; simp at hdl; omega
        | cons _ _ => rfl
      rw [← hd]
      obtain ⟨N, hNN⟩ : ∃ N, N = LL.length := ⟨_, rfl⟩
      rw [← hNN] at n1
      obtain ⟨r, hr⟩ : ∃ r, r = N % 64 := ⟨_, rfl⟩
      have hr' : (N : Int) % 64 = (r : Int) := by omega
      have hsl := run_slice64 B r (64 - r) ((N : Int) % 64) .u64 hr' (by omega) rfl
      obtain ⟨m, hm⟩ : ∃ m, m = 64 - r := ⟨_, rfl⟩
      rw [← hm] at hsl
      obtain ⟨n, hn⟩ : ∃ n, n = min d.size m := ⟨_, rfl⟩
      have HR8 := Lib.hid hR8
      have HT := Lib.hid hT
      have HST := Lib.hid hst
      have HG := Lib.hid hg
      have hcp := run_copy_str wr 45 9 3 5 B r m m d Tryd.underlying45 size5 n hn (fun j hj => by rw [(HR8.out.2 (r + j) (by rw [HT.out.1]; omega)).1]; rfl) (fun j hj => (HR8.out.2 (r + j) (by rw [HT.out.1]; omega)).2)
      have HNL := Lib.hid hNN
      have HNK := Lib.hid (show N = L.length + k by omega)
      have HLK := Lib.hid hLL
      have HDK := Lib.hid hdb
      have HDS := Lib.hid hds
      have HN := Lib.hid hn
      have HRN := Lib.hid hr
      have HMR := Lib.hid hm
      have lN : N ≤ 1000000000000000 := by have := HLL.out; omega
      clear hR8 hT hst hg hLL hd hNN hN hdb hds hn hr hm hdl
      have HRI := Lib.hid hr'
      clear hr'
      obtain ⟨x, hx⟩ : ∃ x, x = d.data.toList.take n := ⟨_, rfl⟩
      have hxl : x.length = n := by rw [hx, List.length_take, ← Lib.size_eq]; have := HN.out; omega
      have hrx : r + x.length ≤ 64 := by rw [hxl]; have := HN.out; have := HMR.out; have := HRN.out; omega
      have hn64 : n ≤ 64 := by omega
      have hnd : (n : Int) ≤ (d.size : Int) := by have := HN.out; omega
      have hn0 : 0 < n := by have := HN.out; have := HDS.out; have := HMR.out; have := HRN.out; omega
      rw [← hx] at hcp
      obtain ⟨W1, hW1⟩ : ∃ W1, W1 = wr.setCells B r (cells8 x) := ⟨_, rfl⟩
      obtain ⟨kR, kT, kB1, k1, k2, k3, k4⟩ : 0 < K ∧ K ≤ R ∧ K ≤ T ∧ K ≤ B ∧ R ≠ T ∧ R ≠ B ∧ T ≠ B := hK.out
      have A8 := Lib.hid (show Row8 B (laidB l r x) W1 by rw [hW1]; exact HR8.out.put HT.out.1 hrx)
      have AST := Lib.hid (show Row32 R (blks LL (LL.length / 64)).list W1 by rw [hW1]; exact row32_putOther HST.out (fun e => k3 e.symm) _ _)
      have ABW := Lib.hid (show Below K w W1 by rw [hW1]; exact below_setCells k1 _ _ HBW.out)
      have AG := Lib.hid (show Glob W1 by rw [hW1]; exact HG.out.keep (below_setCells k1 (cells8 x) r (Below.refl K wr)) kR)
      have a1 : W1.cell? ⟨T, 0, none⟩ = some (.int .u64 (N : Int)) := by rw [hW1, World.cell?_setCells_out _ _ _ _ _ (fun e _ => absurd e k4)]; exact n1
      have a2 : W1.frozen? ⟨T, 0, none⟩ = false := by rw [hW1, World.frozen?_setCells]; exact n2
      have HXX := Lib.hid hx
      have HXL := Lib.hid hxl
      have HRX := Lib.hid hrx
      obtain ⟨d', hd'⟩ : ∃ d', d' = d.extract n d.size := ⟨_, rfl⟩
      have hex : d.extract n d.size = d' := hd'.symm
      have HD' := Lib.hid (show d' = bs (s.data.toList.drop (k + n)) by
        rw [hd', (take_split (s := d) (n := n) (by omega)).2, HDK.out, List.drop_drop])
      have HD'S := Lib.hid (show d'.size < d.size by rw [HD'.out, bs_size, List.length_drop, HDS.out, HL0.out]; omega)
      obtain ⟨N', hN'⟩ : ∃ N', N' = N + n := ⟨_, rfl⟩
      have hsum : (N : Int) + (n : Int) = (N' : Int) := by omega
      have HNN' := Lib.hid hN'
      have HLX := Lib.hid (show LL ++ x = L ++ s.data.toList.take (k + n) by rw [HLK.out, HXX.out, HDK.out, List.append_assoc, List.take_add])
      have HHW := Lib.hid hW1
      clear hx hxl hrx hd' hN' n2 kR kT kB1 k1 k2 k3 k4
      go_upto_region 2 with (with_reducible refine Lib.wpList_copy_run _ rfl (.tmp 10) (.tmp 11) 45 9 rfl (.slice (some ⟨B, r, none⟩) m m) (.string d) rfl rfl hcp ?_)
      rw [← HHW.out]
      clear hcp hsl hW1 n1
      obtain ⟨W2, hW2⟩ : ∃ W2, W2 = W1.setCell ⟨T, 0, none⟩ (.int .u64 (N' : Int)) := ⟨_, rfl⟩
      obtain ⟨kR, kT, kB1, k1, k2, k3, k4⟩ : 0 < K ∧ K ≤ R ∧ K ≤ T ∧ K ≤ B ∧ R ≠ T ∧ R ≠ B ∧ T ≠ B := hK.out
      have B8 := Lib.hid (show Row8 B (laidB l r x) W2 by rw [hW2]; exact A8.out.other k4 _)
      have BST := Lib.hid (show Row32 R (blks LL (LL.length / 64)).list W2 by rw [hW2]; exact AST.out.other (fun e => k2 e.symm) _)
      have BBW := Lib.hid (show Below K w W2 by rw [hW2]; exact ABW.out.setCell (p := ⟨T, 0, none⟩) kB1 _)
      have BG := Lib.hid (show Glob W2 by rw [hW2]; exact AG.out.keep ((Below.refl K W1).setCell (p := ⟨T, 0, none⟩) kB1 _) kR)
      have bn1 := Lib.hid (show W2.cell? ⟨T, 0, none⟩ = some (.int .u64 (N' : Int)) by rw [hW2]; exact World.cell?_setCell_same W1 _ _ a1)
      have bn2 := Lib.hid (show W2.frozen? ⟨T, 0, none⟩ = false by rw [hW2, World.frozen?_setCell]; exact a2)
      have HW2 := Lib.hid hW2
      have hlx : (LL ++ x).length = N' := by rw [List.length_append, HXL.out, HNN'.out, HNL.out]
      have HLXN := Lib.hid hlx
      have hrl : LL.length % 64 = r := by rw [← HNL.out, HRN.out]
      have HRL := Lib.hid hrl
      clear hW2 kR kT kB1 k1 k2 k3 k4 hlx hrl
      by_cases hfull : N' % 64 = 0
      · have hfb : ((N' : Int) % 64 == 0) = true := beq_iff_eq.2 (by omega)
        have htf := tail_full (L := LL) (B := l) (x := x) HT.out (by rw [HRL.out, HXL.out]; have := HNN'.out; have := HRN.out; have := HN.out; have := HMR.out; omega)
        rw [HRL.out, HLXN.out] at htf
        have HTF := Lib.hid htf
        have HOK := Lib.hid (blks_ok LL (LL.length / 64))
        clear htf hfull
        obtain ⟨s0, hs0⟩ : ∃ s0, s0 = blks LL (LL.length / 64) := ⟨_, rfl⟩
        rw [← hs0] at BST HTF HOK
        have HS0 := Lib.hid hs0
        clear hs0
        obtain ⟨l2, hl2⟩ : ∃ l2, l2 = laidB l r x := ⟨_, rfl⟩
        rw [← hl2] at B8 HTF
        clear hl2
        have hlen2 : l2.length = 64 := HTF.out.1.1
        have HL2 := Lib.hid hlen2
        have H45 := Lib.hid (show (Tryd.prog.info? 141).map (·.size) = some (words32 s0.list).toList.length by simpa [words32, show s0.list.length = 8 from rfl] using info45)
        have H46 := Lib.hid (show (Tryd.prog.info? 142).map (·.size) = some (keyA l2).toList.length by simpa [keyA, hlen2] using info46)
        have HRA := Lib.hid (range32 BST.out)
        have HRB := Lib.hid (range8 B8.out)
        clear hlen2
        go_upto_region 5 with (fail)
        rw [← HW2.out]
        go_wp2_with (first | (refine wpList_load_mid rfl 141 (.tmp 3) rfl R 0 rfl (words32 s0.list).toList _ HRA.out Tryd.underlying141 rfl H45.out ?_) | (refine wpList_load_mid rfl 142 (.tmp 1) rfl B 0 rfl (keyA l2).toList _ HRB.out Tryd.underlying142 rfl H46.out ?_))
        refine (sha_mixed s0 l2 W2 HOK HL2 BG).mono ?_
        rintro e w3 ⟨rfl, k3⟩
        obtain ⟨s1, hs1⟩ : ∃ s1, s1 = plus s0 (rnds (sched l2 0 64) s0 64) := ⟨_, rfl⟩
        have hblk := HTF.out.2
        rw [← hs1] at hblk
        rw [← hs1]
        have HBLK := Lib.hid hblk
        obtain ⟨kR, kT, kB1, k1, k2, k4, k5⟩ : 0 < K ∧ K ≤ R ∧ K ≤ T ∧ K ≤ B ∧ R ≠ T ∧ R ≠ B ∧ T ≠ B := hK.out
        have hR := BST.out.1
        have hB := B8.out.1
        have hT := (World.block_lt_of_cell? W2 ⟨T, 0, none⟩ bn1.out)
        have C8 := Lib.hid (B8.out.keep k3 hB)
        have CST := Lib.hid (BST.out.keep k3 hR)
        have CG := Lib.hid (BG.out.keep k3 (by omega))
        have CBW := Lib.hid (show Below K w w3 from BBW.out.trans (k3.mono (by omega)))
        have cn1 := Lib.hid (show w3.cell? ⟨T, 0, none⟩ = some (.int .u64 (N' : Int)) by rw [k3.cell hT]; exact bn1.out)
        have cn2 := Lib.hid (show w3.frozen? ⟨T, 0, none⟩ = false by rw [YteejldddgogbkaaDoor.Below.frozen k3 hT]; exact bn2.out)
        have DTH := Lib.hid (show w3.there R 0 (words32 s1.list).size by rw [words32_size]; exact (there32 CST.out : w3.there R 0 8))
        have D8 := Lib.hid (C8.out.putOther k4 (words32 s1.list).toList 0)
        have DST := Lib.hid (row32_put (m := s1.list) CST.out rfl)
        have DG := Lib.hid (CG.out.keep (below_setCells kT (words32 s1.list).toList 0 (Below.refl K w3)) kR)
        have DBW := Lib.hid (below_setCells kT (words32 s1.list).toList 0 CBW.out)
        have dn1 := Lib.hid (show (w3.setCells R 0 (words32 s1.list).toList).cell? ⟨T, 0, none⟩ = some (.int .u64 (N' : Int)) by rw [World.cell?_setCells_out _ _ _ _ _ (fun e _ => absurd e.symm k2)]; exact cn1.out)
        have dn2 := Lib.hid (show (w3.setCells R 0 (words32 s1.list).toList).frozen? ⟨T, 0, none⟩ = false by rw [World.frozen?_setCells]; exact cn2.out)
        have H45b := Lib.hid (show (Tryd.prog.info? 141).map (·.size) = some (words32 s1.list).size by simpa [words32, show s1.list.length = 8 from rfl] using info45)
        have HON := Lib.hid (words32_one s1.list)
        have hkn : k + n ≤ s.size := by have := HDS.out; omega
        obtain ⟨cs, hcs⟩ : ∃ cs, cs = words32 s1.list := ⟨_, rfl⟩
        rw [← hcs] at DTH D8 DST DG DBW dn1 dn2 H45b HON
        rw [← hcs]
        clear hcs hs1 hblk kR kT kB1 k1 k2 k4 k5 hR hB hT k3 HRA HRB H45 H46
        go_wp2_with (first | (refine wpList_store_mid rfl 141 (.tmp 3) (.tmp 25) rfl R 0 cs rfl rfl DTH.out H45b.out HON.out ?_))
        go_frame
        go_roundw
        case rel => exact ⟨k + n, hkn, by rw [HD'.out], ⟨⟨_, by rw [← HLX.out]; exact HTF.out.1, D8.out⟩, by rw [← HLX.out, HLXN.out]; exact ⟨dn1.out, dn2.out⟩, by rw [← HLX.out, HLXN.out, HBLK.out]; exact DST.out, DG.out⟩, DBW.out⟩
        case measure => simpa [strLen] using HD'S.out
      · have hfb : ((N' : Int) % 64 == 0) = false := beq_eq_false_iff_ne.2 (by omega)
        have htl := tail_less (L := LL) (B := l) (x := x) HT.out (by rw [HRL.out, HXL.out]; have := HNN'.out; have := HRN.out; have := HN.out; have := HMR.out; omega)
        rw [HRL.out, HLXN.out] at htl
        have HTL := Lib.hid htl
        have hkn : k + n ≤ s.size := by have := HDS.out; omega
        clear htl hfull
        go_wp2_with fail
        rw [← HW2.out]
        go_roundw
        case rel => exact ⟨k + n, hkn, by rw [HD'.out], ⟨⟨_, by rw [← HLX.out]; exact HTL.out.1, B8.out⟩, by rw [← HLX.out, HLXN.out]; exact ⟨bn1.out, bn2.out⟩, by rw [← HLX.out, HLXN.out, HTL.out.2]; exact BST.out, BG.out⟩, BBW.out⟩
        case measure => simpa [strLen] using HD'S.out
    · obtain rfl : k = s.size := by omega
      have hnil : s.data.toList.drop s.size = [] := by rw [← HL0.out, List.drop_length]
      rw [hnil]
      have hall : s.data.toList.take s.size = s.data.toList := List.take_of_length_le (by rw [HL0.out]; exact Nat.le_refl _)
      rw [hall] at HLA
      clear hnil hall hdl
      have e1 : (bs []).toList = [] := by rw [Lib.toList_data, bs_list]
      have e2 : (bs []).toList.isEmpty = true := by rw [e1]; rfl
      go_wp2_with fail
      go_end0
      exact ⟨rfl, HLA.out, HBW.out⟩
end Go.Proofs.YteejldddgogbkaaDoor
