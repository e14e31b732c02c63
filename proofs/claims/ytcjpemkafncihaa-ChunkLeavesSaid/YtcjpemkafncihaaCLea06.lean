/- Texts put together: ChunkBoundsWalk, ChunkNo, ChunkLeavesWalk -/
import Derived.Test.YtcjpemkafncihaaCLea05
/- ChunkBounds, walked: each chunk but the last has from Least to Most bytes, and together they are all. -/
set_option linter.unusedVariables false
set_option maxRecDepth 100000
namespace Go.Proofs.Ytcjpemkafncihaa
open Go.RowKit
attribute [local go_sem] Oper.semAt_some

/-- A box of one value. -/
def Vr (b : Nat) (v : Value) (t : TypeId) (w : World) : Prop := w.heap[b]? = some (.cells #[v] t (0, 0))
theorem Vr.cell {b : Nat} {v : Value} {t : TypeId} {w : World} (h : Vr b v t w) : w.cell? ⟨b, 0, none⟩ = some v := by unfold Vr at h; simp [World.cell?, h]
theorem Vr.free {b : Nat} {v : Value} {t : TypeId} {w : World} (h : Vr b v t w) : w.frozen? ⟨b, 0, none⟩ = false := by unfold Vr at h; simp [World.frozen?, h]
theorem Vr.lt {b : Nat} {v : Value} {t : TypeId} {w : World} (h : Vr b v t w) : b < w.heap.size := heap_lt h
theorem Vr.below {b : Nat} {v : Value} {t : TypeId} {w w' : World} (h : Vr b v t w) (k : Below w.heap.size w w') : Vr b v t w' := (k.block b h.lt).trans h
theorem Vr.only {S : Nat → Prop} {b : Nat} {v : Value} {t : TypeId} {w w' : World} (h : Vr b v t w) (k : Only S w w') (hb : ¬ S b) : Vr b v t w' := (k.block b h.lt hb).trans h
theorem Vr.put {b : Nat} {v : Value} {t : TypeId} {w : World} (h : Vr b v t w) (u : Value) : Vr b u t (w.setCell ⟨b, 0, none⟩ u) := by
  have := heap_set (o := 0) h u
  exact this
theorem Vr.set {b c o : Nat} {v : Value} {t : TypeId} {w : World} (h : Vr b v t w) (hc : b ≠ c) (u : Value) : Vr b v t (w.setCell ⟨c, o, none⟩ u) := (heap_set_other hc u).trans h
theorem Vr.new (w : World) (v : Value) (t : TypeId) : Vr w.heap.size v t (w.alloc (.cells #[v] t)) := heap_new w _
/-- What the law's loop keeps. -/
structure BI (w : World) (B gb l : Nat) (c' : Conf) (dv : Value) (Y pr : List (Nat × List UInt8)) (S : Nat → Prop) (W' : World) : Prop where
  hS : ∀ k, S k ↔ k = gb ∨ k = gb + 1 ∨ k = gb + 1 + 1
  hpr : pr = Y.take pr.length
  hc : W'.heap[B]? = some (.cells c'.cells 23 (0, 0))
  hd : Vr (B + 1) dv 24 W'
  hr : Vr (B + 1 + 1) (.bool false) 4 W'
  hn : Vr gb (.int .i64 (pr.length : Int)) 3 W'
  hb : Vr (gb + 1) (.int .i64 (lensN pr : Int)) 3 W'
  he : Vr (gb + 1 + 1) (.bool (shortL l pr)) 4 W'
  hbel : Below B w W'
theorem BI.keep {w : World} {B gb l : Nat} {c' : Conf} {dv : Value} {Y pr : List (Nat × List UInt8)} {S Sx : Nat → Prop} {A A' : World} (h : BI w B gb l c' dv Y pr S A) (k : Only Sx A A') (hx : ∀ k, Sx k → gb + 3 ≤ k) (hg : B + 3 ≤ gb) : BI w B gb l c' dv Y pr S A' :=
  ⟨h.hS, h.hpr, (k.block B (heap_lt h.hc) fun e => by have := hx _ e; omega).trans h.hc, h.hd.only k fun e => by have := hx _ e; omega, h.hr.only k fun e => by have := hx _ e; omega,
    h.hn.only k fun e => by have := hx _ e; omega, h.hb.only k fun e => by have := hx _ e; omega, h.he.only k fun e => by have := hx _ e; omega,
    h.hbel.trans (k.below (fun j _ hj => by have := hx j hj; omega) (by have := h.hd.lt; omega))⟩
set_option maxHeartbeats 16000000 in
theorem bounds_walk {c : Conf} {v : Value} {D : List UInt8} {w : World} (h : Hid (BsV (fun b => b < w.heap.size) w v D)) (hbig : D.length ≤ 9223372036854775807) :
    Calls Try.prog 5 #[.agg c.cells, v] w fun e w' => e = .returned (.bool true) ∧ Below w.heap.size w w' := by
  obtain ⟨va, vc, rfl⟩ := h.out.slice
  obtain ⟨B, hB⟩ : ∃ B, B = w.heap.size := ⟨_, rfl⟩
  rw [← hB]
  have HB := Lib.hid hB
  obtain ⟨n, hn⟩ : ∃ n, n = D.length := ⟨_, rfl⟩
  have HN := Lib.hid hn
  rw [← hn] at hbig ⊢
  have HD := Lib.hid (fun (W : World) (k : Below B w W) => h.out.below (HB.out ▸ k))
  rw [← hn] at HD
  clear hn h
  obtain ⟨w1, hw1⟩ : ∃ w1, ((w.alloc (.cells c.cells 23)).alloc (.cells #[.slice va n vc] 24)).alloc (.cells #[.bool false] 4) = w1 := ⟨_, rfl⟩
  have hs1 : (w.alloc (.cells c.cells 23)).heap.size = B + 1 := by rw [hB]; simp
  have hs2 : ((w.alloc (.cells c.cells 23)).alloc (.cells #[.slice va n vc] 24)).heap.size = B + 2 := by rw [hB]; simp
  have k1 : Below B w (w.alloc (.cells c.cells 23)) := by rw [hB]; exact (Below.refl _ _).alloc (Nat.le_refl _) _
  have k2 := k1.alloc (by rw [hs1]; omega) (.cells #[.slice va n vc] 24)
  have k3 := k2.alloc (by rw [hs2]; omega) (.cells #[.bool false] 4)
  have X1 := Lib.hid (show w1.heap[B]? = some (.cells c.cells 23 (0, 0)) by
    rw [← hw1, Below.heap_alloc _ _ _ (by rw [hs2]; omega), Below.heap_alloc _ _ _ (by rw [hs1]; omega), hB]
    exact heap_new w _)
  have V1 := Lib.hid (show Vr (B + 1) (.slice va n vc) 24 w1 by
    unfold Vr
    rw [← hw1, Below.heap_alloc _ _ _ (by rw [hs2]; omega), ← hs1]
    exact heap_new _ _)
  have R1 := Lib.hid (show Vr (B + 1 + 1) (.bool false) 4 w1 by
    unfold Vr
    rw [← hw1, ← hs2]
    exact heap_new _ _)
  have K1 := Lib.hid (show Below B w w1 by rw [← hw1]; exact k3)
  have HW1 := Lib.hid hw1
  clear hw1 hB hs1 hs2 k1 k2 k3
  have q3 := V1.out.cell
  refine (callsIn_wide (n := 5)).1 ?_
  refine callsIn_of_wp_marks Try.func5 rfl trivial ?_ rfl
  simp only [Try.ntmps5, List.size_toArray, List.length_cons, List.length_nil, Nat.reduceAdd, Nat.reduceSub, Array.replicate_succ, Array.replicate_zero, List.push_toArray, List.append_toArray, List.nil_append, List.cons_append]
  refine (wpIn_wide (n := 5)).2 ?_
  go_upto_region 1 with (fail)
  rw [HW1.out, ← HB.out]
  go_wp2_with fail
  refine (law_awake16 w1).mono ?_
  rintro e w2 ⟨rfl, k2⟩
  have hz1 : B + 3 ≤ w1.heap.size := by have := R1.out.lt; omega
  have K2 := Lib.hid (K1.out.trans (k2.mono (by omega)))
  have X2 := Lib.hid ((k2.block B (heap_lt X1.out)).trans X1.out)
  have V2 := Lib.hid (V1.out.below k2)
  have R2 := Lib.hid (R1.out.below k2)
  clear k2 hz1 q3
  have q3 := V2.out.cell
  by_cases hlong : 30000 < n
  · have q1 : decide ((30000 : Int) < (n : Int)) = true := by rw [decide_eq_true_eq]; omega
    have q2 : decide (30000 < n) = true := by rw [decide_eq_true_eq]; omega
    clear hlong
    go_wp2_with fail
    refine (law_awake16 w2).mono ?_
    rintro e w3 ⟨rfl, k3⟩
    have hz2 : B + 3 ≤ w2.heap.size := by have := R2.out.lt; omega
    have K3 := Lib.hid (K2.out.trans (k3.mono (by omega)))
    have R3 := Lib.hid (R2.out.below k3)
    clear k3 hz2 q3
    have r1 := R3.out.cell
    have r2 := R3.out.free
    have K4 := Lib.hid (K3.out.setCell (p := ⟨B + 1 + 1, 0, none⟩) (by show B ≤ B + 1 + 1; omega) (.bool true))
    have r3 := (R3.out.put (.bool true)).cell
    go_wp2_with fail
    refine ⟨.bool true, ?_, rfl, K4.out⟩
    simp [results, Try.f5, go_sem, r3]
  · have q1 : decide ((30000 : Int) < (n : Int)) = false := by rw [decide_eq_false_iff_not]; omega
    have q2 : decide (30000 < n) = false := by rw [decide_eq_false_iff_not]; omega
    have hn3 : n ≤ 30000 := by omega
    clear hlong
    obtain ⟨p0, p1, p2, p3, p4, p5, p6, p7, p8, p9, p10, p11⟩ := conf_c X2.out
    go_wp2_with fail
    have HRI := Lib.hid (law_right c w2)
    unfold Conf.cells at HRI
    refine HRI.out.mono ?_
    rintro e w3 ⟨c', l, m, M, rfl, h3, k3⟩
    have hz2 : B + 3 ≤ w2.heap.size := by have := R2.out.lt; omega
    have H3 := Lib.hid h3
    have K3 := Lib.hid (K2.out.trans (k3.mono (by omega)))
    have X3 := Lib.hid ((k3.block B (heap_lt X2.out)).trans X2.out)
    have V3 := Lib.hid (V2.out.below k3)
    have R3 := Lib.hid (R2.out.below k3)
    clear h3 k3 hz2 q3 p0 p1 p2 p3 p4 p5 p6 p7 p8 p9 p10 p11 HRI
    obtain ⟨p0, p1, p2, p3, p4, p5, p6, p7, p8, p9, p10, p11⟩ := conf_c X3.out
    have qf : ∀ j, w3.frozen? ⟨B, j, none⟩ = false := fun j => by simp [World.frozen?, X3.out]
    obtain ⟨w4, hw4⟩ : ∃ w4, w4 = ((((((((((((w3.setCell ⟨B, 0, none⟩ (.int .i64 (c'.f 0))).setCell ⟨B, 1, none⟩ (.int .i64 (c'.f 1))).setCell ⟨B, 2, none⟩ (.int .i64 (c'.f 2))).setCell ⟨B, 3, none⟩ (.int .i64 (c'.f 3))).setCell ⟨B, 4, none⟩ (.int .i64 (c'.f 4))).setCell ⟨B, 5, none⟩ (.int .i64 (c'.f 5))).setCell ⟨B, 6, none⟩ (.int .i64 (c'.f 6))).setCell ⟨B, 7, none⟩ (.int .i64 (c'.f 7))).setCell ⟨B, 8, none⟩ (.int .i64 (c'.f 8))).setCell ⟨B, 9, none⟩ (.int .i64 (c'.f 9))).setCell ⟨B, 10, none⟩ (.int .i64 (c'.f 10))).setCell ⟨B, 11, none⟩ (.int .i64 (c'.f 11))) := ⟨_, rfl⟩
    have X4 := Lib.hid (show w4.heap[B]? = some (.cells c'.cells 23 (0, 0)) by rw [hw4]; exact put12 _ _ _ _ _ _ _ _ _ _ _ _ X3.out)
    have K4 := Lib.hid (show Below B w w4 by rw [hw4]; exact ((((((((((((K3.out.setCell (p := ⟨B, 0, none⟩) (Nat.le_refl _) (.int .i64 (c'.f 0))).setCell (p := ⟨B, 1, none⟩) (Nat.le_refl _) (.int .i64 (c'.f 1))).setCell (p := ⟨B, 2, none⟩) (Nat.le_refl _) (.int .i64 (c'.f 2))).setCell (p := ⟨B, 3, none⟩) (Nat.le_refl _) (.int .i64 (c'.f 3))).setCell (p := ⟨B, 4, none⟩) (Nat.le_refl _) (.int .i64 (c'.f 4))).setCell (p := ⟨B, 5, none⟩) (Nat.le_refl _) (.int .i64 (c'.f 5))).setCell (p := ⟨B, 6, none⟩) (Nat.le_refl _) (.int .i64 (c'.f 6))).setCell (p := ⟨B, 7, none⟩) (Nat.le_refl _) (.int .i64 (c'.f 7))).setCell (p := ⟨B, 8, none⟩) (Nat.le_refl _) (.int .i64 (c'.f 8))).setCell (p := ⟨B, 9, none⟩) (Nat.le_refl _) (.int .i64 (c'.f 9))).setCell (p := ⟨B, 10, none⟩) (Nat.le_refl _) (.int .i64 (c'.f 10))).setCell (p := ⟨B, 11, none⟩) (Nat.le_refl _) (.int .i64 (c'.f 11))))
    have V4 := Lib.hid (show Vr (B + 1) (.slice va n vc) 24 w4 by rw [hw4]; exact ((((((((((((V3.out.set (c := B) (o := 0) (by omega) (.int .i64 (c'.f 0))).set (c := B) (o := 1) (by omega) (.int .i64 (c'.f 1))).set (c := B) (o := 2) (by omega) (.int .i64 (c'.f 2))).set (c := B) (o := 3) (by omega) (.int .i64 (c'.f 3))).set (c := B) (o := 4) (by omega) (.int .i64 (c'.f 4))).set (c := B) (o := 5) (by omega) (.int .i64 (c'.f 5))).set (c := B) (o := 6) (by omega) (.int .i64 (c'.f 6))).set (c := B) (o := 7) (by omega) (.int .i64 (c'.f 7))).set (c := B) (o := 8) (by omega) (.int .i64 (c'.f 8))).set (c := B) (o := 9) (by omega) (.int .i64 (c'.f 9))).set (c := B) (o := 10) (by omega) (.int .i64 (c'.f 10))).set (c := B) (o := 11) (by omega) (.int .i64 (c'.f 11))))
    have R4 := Lib.hid (show Vr (B + 1 + 1) (.bool false) 4 w4 by rw [hw4]; exact ((((((((((((R3.out.set (c := B) (o := 0) (by omega) (.int .i64 (c'.f 0))).set (c := B) (o := 1) (by omega) (.int .i64 (c'.f 1))).set (c := B) (o := 2) (by omega) (.int .i64 (c'.f 2))).set (c := B) (o := 3) (by omega) (.int .i64 (c'.f 3))).set (c := B) (o := 4) (by omega) (.int .i64 (c'.f 4))).set (c := B) (o := 5) (by omega) (.int .i64 (c'.f 5))).set (c := B) (o := 6) (by omega) (.int .i64 (c'.f 6))).set (c := B) (o := 7) (by omega) (.int .i64 (c'.f 7))).set (c := B) (o := 8) (by omega) (.int .i64 (c'.f 8))).set (c := B) (o := 9) (by omega) (.int .i64 (c'.f 9))).set (c := B) (o := 10) (by omega) (.int .i64 (c'.f 10))).set (c := B) (o := 11) (by omega) (.int .i64 (c'.f 11))))
    have HW4 := Lib.hid hw4
    clear hw4
    obtain ⟨gb, hgb⟩ : ∃ gb, gb = w4.heap.size := ⟨_, rfl⟩
    obtain ⟨w5, hw5⟩ : ∃ w5, ((w4.alloc (.cells #[.int .i64 0] 3)).alloc (.cells #[.int .i64 0] 3)).alloc (.cells #[.bool false] 4) = w5 := ⟨_, rfl⟩
    have hg3 : B + 3 ≤ gb := by have := R4.out.lt; omega
    have hs1 : (w4.alloc (.cells #[.int .i64 0] 3)).heap.size = gb + 1 := by rw [hgb]; simp
    have hs2 : ((w4.alloc (.cells #[.int .i64 0] 3)).alloc (.cells #[.int .i64 0] 3)).heap.size = gb + 2 := by rw [hgb]; simp
    have hs3 : w5.heap.size = gb + 3 := by rw [← hw5, hgb]; simp
    have k1 : Below gb w4 (w4.alloc (.cells #[.int .i64 0] 3)) := by rw [hgb]; exact (Below.refl _ _).alloc (Nat.le_refl _) _
    have k2 := k1.alloc (by rw [hs1]; omega) (.cells #[.int .i64 0] 3)
    have k3 := k2.alloc (by rw [hs2]; omega) (.cells #[.bool false] 4)
    rw [hw5] at k3
    have HI5 := Lib.hid (show BI w B gb l c' (.slice va n vc) (prs D 0 (enA ⟨l, m, M⟩ [] D 0 D.length)) [] (fun k => k = gb ∨ k = gb + 1 ∨ k = gb + 1 + 1) w5 by
      refine ⟨fun k => Iff.rfl, rfl, (k3.block B (by omega)).trans X4.out, V4.out.below (hgb ▸ k3), R4.out.below (hgb ▸ k3), ?_, ?_, ?_, K4.out.trans (k3.mono (by omega))⟩
      · unfold Vr
        rw [← hw5, Below.heap_alloc _ _ _ (by rw [hs2]; omega), Below.heap_alloc _ _ _ (by rw [hs1]; omega), hgb]
        exact heap_new w4 _
      · unfold Vr
        rw [← hw5, Below.heap_alloc _ _ _ (by rw [hs2]; omega), ← hs1]
        exact heap_new _ _
      · unfold Vr
        rw [← hw5, ← hs2]
        exact heap_new _ _)
    have HW5 := Lib.hid hw5
    have HGB := Lib.hid hgb
    have HBG := Lib.hid hg3
    have HZ5 := Lib.hid hs3
    clear hw5 hgb hg3 hs1 hs2 hs3 k1 k2 k3
    simp only [Conf.cells]
    go_upto_region 4 with (fail)
    rw [← HW4.out]
    clear p0 p1 p2 p3 p4 p5 p6 p7 p8 p9 p10 p11 qf
    go_upto_region 7 with (fail)
    rw [HW5.out, ← HGB.out]
    have HP5 := Lib.hid (chk_Parts (c := c') (HD.out w5 HI5.out.hbel) (by rw [← HN.out]; omega))
    obtain ⟨p0, p1, p2, p3, p4, p5, p6, p7, p8, p9, p10, p11⟩ := conf_c HI5.out.hc
    have q3 := HI5.out.hd.cell
    unfold Conf.cells at HP5
    go_wp2_with fail
    refine HP5.out.mono ?_
    rintro e w6 ⟨cb, xb, v', rfl, hP6, hcb, hxb, hv6, k6⟩
    have HI6 := Lib.hid (HI5.out.keep (Only.of_below (S := fun k => gb + 3 ≤ k) k6 (fun k h1 h2 => by have := HZ5.out; omega)) (fun k hk => hk) HBG.out)
    have P6 := Lib.hid hP6
    have HF6 := Lib.hid (show ∀ k, PFs cb xb v' k → gb + 3 ≤ k from fun k hk => by
      have := HZ5.out
      rcases hk with rfl | rfl | hk
      · omega
      · omega
      · have := hv6 k hk; omega)
    have HZ6 := Lib.hid (show gb + 3 ≤ w6.heap.size by have := k6.size; have := HZ5.out; omega)
    clear q3 p0 p1 p2 p3 p4 p5 p6 p7 p8 p9 p10 p11 hP6 hcb hxb hv6 k6 HP5
    go_wp2_with fail
    have HST := Lib.hid (parts_stops 4 cb xb H3 v' D (by rw [← HN.out]; omega))
    obtain ⟨Y, hY⟩ : ∃ Y, Y = prs D 0 (enA ⟨l, m, M⟩ [] D 0 D.length) := ⟨_, rfl⟩
    rw [← hY] at HST HI6
    have HPF := Lib.hid (prs_facts l m M D H3.out.l1 H3.out.M1 hY)
    have HYL := Lib.hid (show Y.length ≤ 1000001 by
      have h1 := cut_prs ⟨l, m, M⟩ D
      have h2 := cutF_len ⟨l, m, M⟩ D [] 0
      rw [← h1, List.length_map, ← hY, ← HN.out] at h2
      omega)
    clear hY HI5
    refine (wpIn_wide (n := 5)).1 ?_
    refine wpIn_rangeFunc_sh (α := Nat × List UInt8) (n := 5) (by omega) (gf := 24) (lb := #[.pointer (some ⟨cb, 0, none⟩), .pointer (some ⟨xb, 0, none⟩)]) rfl (enters_of Try.func24 (by kernel_rfl) rfl)
      (Kp := KpT) (fun _ _ _ _ _ => trivial) (fun _ _ _ _ _ => trivial) (fun _ _ => trivial) HST.out (fun k hk => P6.out.all k hk)
      (fun k A C hA hAC => hA.keep hAC (fun i hi hp => by have := P6.out.all i hp; omega)) (fun A C _ _ => trivial)
      (fun x args A hR => by obtain ⟨u, rfl, _⟩ := hR; rfl) (fun x args A l r r' hR hl => by obtain ⟨u, h1, h2⟩ := hR; exact ⟨u, h1, h2.putLoop hl⟩)
      (fun pr S A => BI w B gb l c' (.slice va n vc) Y pr S A) (fun _ _ _ => False) (fun k => k = gb ∨ k = gb + 1 ∨ k = gb + 1 + 1)
      (fun k hk => ⟨by have := HZ6.out; omega, fun hp => by have := HF6.out k hp; omega⟩)
      (fun pr S A C Sx hA hAC _ hSx => hA.keep hAC (fun k hk => by
        rcases (hSx k hk).1 with hp | hp
        · exact HF6.out k hp
        · have := HZ6.out; omega) HBG.out)
      (fun cc pr A C hA _ => hA.elim)
      HI6.out P6.out
      (fun t args => (t.setIfInBounds 8 (args.getD 0 undef)).setIfInBounds 9 (args.getD 1 undef)) ?assign ?body ?done ?stop
    case assign =>
      intro lq x args W' K hR hK
      obtain ⟨u, rfl, _⟩ := hR
      gi_wp2
      simp at hK
      exact hK
    case body =>
      rintro lq pr S x args W' hI hnF hES hx ⟨u, rfl, hu⟩ hsz
      obtain ⟨ua, uc, rfl⟩ := hu.slice
      have hx2 := hx
      obtain ⟨g1, g2, g3, g4, g5, g6⟩ := HPF.out.1 _ _ hx2
      rw [← hI.hpr] at g1 g2
      obtain ⟨pv, hsl, hpv⟩ := (HD.out W' hI.hbel).part (lo := x.1) (hi := x.1 + x.2.length) (by omega) g5
      rw [g6] at hpv
      have hpl : pr.length < Y.length := (List.getElem?_eq_some_iff.1 hx).1
      have hprx := hI.hpr
      have HI1 := Lib.hid hI
      have HES := Lib.hid hES
      have HNF := Lib.hid hnF
      have HPX := Lib.hid (show pr ++ [x] = Y.take (pr ++ [x]).length by rw [List.length_append, List.length_singleton, List.take_add_one, hx, ← hprx]; rfl)
      have HLS := Lib.hid (lensN_snoc pr x)
      have HSS := Lib.hid (shortL_snoc l pr x)
      have c0 : ∀ s : Seen W', s.val.cell? ⟨gb + 1, 0, none⟩ = some (.int .i64 (x.1 : Int)) := fun s => by rw [(hI.hb.below s.below).cell, g1]
      have c1 : ∀ s : Seen W', s.val.cell? ⟨gb + 1 + 1, 0, none⟩ = some (.bool false) := fun s => by rw [(hI.he.below s.below).cell, g2]
      have c2 : ∀ s : Seen W', s.val.cell? ⟨B, 10, none⟩ = some (.int .i64 (M : Int)) := fun s => by rw [(conf_c ((s.below.block B (heap_lt hI.hc)).trans hI.hc)).2.2.2.2.2.2.2.2.2.2.1, H3.out.e10]
      have c3 : ∀ s : Seen W', s.val.cell? ⟨B + 1, 0, none⟩ = some (.slice va n vc) := fun s => (hI.hd.below s.below).cell
      have cv : ∀ s : Seen W', (convert 24 9 (.slice ua x.2.length uc)).run Try.prog s.val = .ok (.string (bs x.2)) s.val := fun s => (hu.below s.below).str
      have cw : ∀ s : Seen W', (convert 24 9 pv).run Try.prog s.val = .ok (.string (bs x.2)) s.val := fun s => (hpv.below s.below).str
      have G1 := Lib.hid g1
      obtain ⟨t, ht⟩ : ∃ t, t = bs x.2 := ⟨_, rfl⟩
      rw [← ht] at cv cw
      obtain ⟨a, ha⟩ : ∃ a, a = x.1 := ⟨_, rfl⟩
      obtain ⟨z, hz⟩ : ∃ z, z = x.2.length := ⟨_, rfl⟩
      obtain ⟨k, hk⟩ : ∃ k, k = pr.length := ⟨_, rfl⟩
      rw [← hz] at hsl cv HLS HSS g3 g4 g5 ⊢
      rw [← ha] at hsl c0 g5 G1 ⊢
      rw [Int.natCast_add] at hsl
      rw [← hk] at hpl
      have HK := Lib.hid hk
      have HSZ := Lib.hid (show gb + 3 ≤ W'.heap.size by have := HZ6.out; omega)
      have HAB := Lib.hid (show a + z ≤ n by have := HN.out; omega)
      have hab := HAB.out
      have hk1 : k ≤ 1000001 := by have := HYL.out; omega
      have e1 : decide ((z : Int) < 1) = false := by rw [decide_eq_false_iff_not]; omega
      have e2 : decide (z < 1) = false := by rw [decide_eq_false_iff_not]; omega
      have e3 : decide ((M : Int) < (z : Int)) = false := by rw [decide_eq_false_iff_not]; omega
      have e4 : decide (M < z) = false := by rw [decide_eq_false_iff_not]; omega
      clear hI hES hnF hx hsz hx2 hu hpv hpl hprx ht ha hz hk g1 g2 g3 g4 g5 g6
      gi_wp2
      refine wpIn_round_seen_tail 30 (by kernel_rfl) (by kernel_rfl) (by kernel_rfl) ?_
      simp only [List.take_succ_cons, List.take_zero, List.drop_succ_cons, List.drop_zero]
      repeat go_big_quiet_step (fail)
      refine wpQuiet_nil ?_
      rintro _ ⟨ms, rfl⟩
      have K7 := Lib.hid ms.below
      have HI7 := Lib.hid (HI1.out.keep (Only.of_below (S := fun k => gb + 3 ≤ k) ms.below (fun k h1 h2 => by have := HSZ.out; omega)) (fun k hk => hk) HBG.out)
      generalize ms.val = w7 at *
      clear c0 c1 c2 c3 cv cw hsl hab HI1
      have hn7 := HI7.out.hn
      rw [← HK.out] at hn7
      have hb7 := HI7.out.hb
      rw [← G1.out] at hb7
      have d0 : w7.cell? ⟨B, 8, none⟩ = some (.int .i64 (l : Int)) := by rw [(conf_c HI7.out.hc).2.2.2.2.2.2.2.2.1, H3.out.e8]
      have d1 : w7.frozen? ⟨gb + 1 + 1, 0, none⟩ = false := HI7.out.he.free
      have d2 : w7.cell? ⟨gb + 1 + 1, 0, none⟩ = some (.bool (shortL l pr)) := HI7.out.he.cell
      have d3 : ∀ v, (w7.setCell ⟨gb + 1 + 1, 0, none⟩ v).frozen? ⟨gb + 1, 0, none⟩ = false := fun v => (hb7.set (by omega) v).free
      have d6 : ∀ v, (w7.setCell ⟨gb + 1 + 1, 0, none⟩ v).cell? ⟨gb + 1, 0, none⟩ = some (.int .i64 (a : Int)) := fun v => (hb7.set (by omega) v).cell
      have d4 : ∀ v v', ((w7.setCell ⟨gb + 1 + 1, 0, none⟩ v).setCell ⟨gb + 1, 0, none⟩ v').frozen? ⟨gb, 0, none⟩ = false := fun v v' => ((hn7.set (c := gb + 1 + 1) (by omega) v).set (by omega) v').free
      have d5 : ∀ v v', ((w7.setCell ⟨gb + 1 + 1, 0, none⟩ v).setCell ⟨gb + 1, 0, none⟩ v').cell? ⟨gb, 0, none⟩ = some (.int .i64 (k : Int)) := fun v v' => ((hn7.set (c := gb + 1 + 1) (by omega) v).set (by omega) v').cell
      have hab := HAB.out
      gi_wp2_with fail
      clear d0 d1 d2 d3 d4 d5 d6 e1 e2 e3 e4
      have HON := Lib.hid (show Only S W' (((w7.setCell ⟨gb + 1 + 1, 0, none⟩ (.bool (decide (z < l)))).setCell ⟨gb + 1, 0, none⟩ (.int .i64 ((a : Int) + (z : Int)))).setCell ⟨gb, 0, none⟩ (.int .i64 ((k : Int) + 1))) from
        (((Only.of_below (S := S) K7.out (fun j h1 h2 => (show False by omega).elim)).setCell (p := ⟨gb + 1 + 1, 0, none⟩) (.inl ((HI7.out.hS _).2 (.inr (.inr rfl)))) _).setCell (p := ⟨gb + 1, 0, none⟩) (.inl ((HI7.out.hS _).2 (.inr (.inl rfl)))) _).setCell (p := ⟨gb, 0, none⟩) (.inl ((HI7.out.hS _).2 (.inl rfl))) _)
      have hbg := HBG.out
      have hsz := HSZ.out
      refine ⟨HON.out.mono fun j _ hj => .inl hj, HES.out.keep HON.out HNF.out, S, fun j hj => ⟨.inl hj, ?_⟩, HI7.out.hS, HPX.out, ?_, ?_, ?_, ?_, ?_, ?_, ?_⟩
      · have h1 := HON.out.size
        have h2 := (HI7.out.hS j).1 hj
        omega
      · exact (heap_set_other (by omega) _).trans ((heap_set_other (by omega) _).trans ((heap_set_other (by omega) _).trans HI7.out.hc))
      · exact ((HI7.out.hd.set (by omega) _).set (by omega) _).set (by omega) _
      · exact ((HI7.out.hr.set (by omega) _).set (by omega) _).set (by omega) _
      · have h := ((hn7.set (c := gb + 1 + 1) (o := 0) (by omega) (.bool (decide (z < l)))).set (c := gb + 1) (o := 0) (by omega) (.int .i64 ((a : Int) + (z : Int)))).put (.int .i64 ((k : Int) + 1))
        rw [List.length_append, List.length_singleton, ← HK.out]
        exact h
      · have h := ((hb7.set (c := gb + 1 + 1) (o := 0) (by omega) (.bool (decide (z < l)))).put (.int .i64 ((a : Int) + (z : Int)))).set (c := gb) (o := 0) (by omega) (.int .i64 ((k : Int) + 1))
        rw [HLS.out, ← G1.out]
        exact h
      · have h := ((HI7.out.he.put (.bool (decide (z < l)))).set (c := gb + 1) (o := 0) (by omega) (.int .i64 ((a : Int) + (z : Int)))).set (c := gb) (o := 0) (by omega) (.int .i64 ((k : Int) + 1))
        rw [HSS.out]
        exact h
      · exact ((HI7.out.hbel.setCell (p := ⟨gb + 1 + 1, 0, none⟩) (by show B ≤ gb + 1 + 1; omega) _).setCell (p := ⟨gb + 1, 0, none⟩) (by show B ≤ gb + 1; omega) _).setCell (p := ⟨gb, 0, none⟩) (by show B ≤ gb; omega) _
    case done =>
      rintro Dm S V hDm hI _ hK hsd
      have HI1 := Lib.hid hI
      have HK := Lib.hid hK
      have HDM := Lib.hid hDm
      have hb1 := hI.hb
      rw [HPF.out.2.1, ← HN.out] at hb1
      obtain ⟨yl, hyl⟩ : ∃ yl, yl = Y.length := ⟨_, rfl⟩
      have hn1 := hI.hn
      rw [← hyl] at hn1
      have hz : yl = 0 ↔ n = 0 := by
        have h := HPF.out.2.2
        rw [hyl, HN.out, List.length_eq_zero_iff, List.length_eq_zero_iff]
        exact h
      have d0 := hb1.cell
      have d1 := hn1.cell
      have d2 := hI.hd.cell
      have d3 := hI.hr.cell
      have d4 := hI.hr.free
      have he1 : ((yl : Int) == 0) = ((n : Int) == 0) := by
        rw [Bool.eq_iff_iff, beq_iff_eq, beq_iff_eq]
        omega
      have hr8 := Lib.hid (show Vr (B + 1 + 1) (.bool true) 4 ((V.setCell ⟨B + 1 + 1, 0, none⟩ (.bool true)).putObj Dm (.deferred none)) from (World.putObj_heap_other (by have := HBG.out; have := HZ6.out; omega)).trans (hI.hr.put (.bool true)))
      have hk8 := Lib.hid (show (V.setCell ⟨B + 1 + 1, 0, none⟩ (.bool true)).heap[Dm]? = some (.deferred (some [])) from (heap_set_other (by have := HBG.out; have := HZ6.out; omega) _).trans hK)
      have hb8 := Lib.hid (show Below B w (V.setCell ⟨B + 1 + 1, 0, none⟩ (.bool true)) from hI.hbel.setCell (p := ⟨B + 1 + 1, 0, none⟩) (by show B ≤ B + 1 + 1; omega) _)
      clear hI hK hDm hyl
      go_wp2_with fail
      have r1 := hr8.out.cell
      refine ⟨by simp, .inl ⟨_, _, rfl, run_takeDeferred hk8.out, ?_⟩⟩
      refine ⟨.bool true, ?_, rfl, ?_⟩
      · simp [results, Try.f5, go_sem, r1]
      · exact hb8.out.grown (grownBy_putObj' _ Dm (.deferred none)) (by have := heap_lt hk8.out; have := HBG.out; have := HZ6.out; have := HDM.out; omega) (fun k e => by cases e; have := HDM.out; have := HZ6.out; have := HBG.out; omega)
    case stop =>
      rintro Dm cc pr V hDm hA hK
      exact hA.elim
end Go.Proofs.Ytcjpemkafncihaa
/- A conf that may not be: New, Parts; a nil cutter. -/
set_option linter.unusedVariables false
set_option maxRecDepth 100000
namespace Go.Proofs.Ytcjpemkafncihaa
open Go.RowKit
attribute [local go_sem] Oper.semAt_some

set_option maxHeartbeats 4000000 in
theorem chk_New_no {c : Conf} (hc : c.ok = false) (w : World) : Calls Try.prog 15 #[.agg c.cells] w fun e w' => e = .returned (.tuple #[.pointer none, .int .i64 1]) ∧ Below w.heap.size w w' := by
  obtain ⟨B, hB⟩ : ∃ B, B = w.heap.size := ⟨_, rfl⟩
  rw [← hB]
  have HB := Lib.hid hB
  have HCH := Lib.hid (fun W => chk_Check c W)
  rw [hc] at HCH
  obtain ⟨w1, hw1⟩ : ∃ w1, w.alloc (.cells c.cells 23) = w1 := ⟨_, rfl⟩
  have K1 := Lib.hid (show Below B w w1 by rw [← hw1, hB]; exact (Below.refl _ _).alloc (Nat.le_refl _) _)
  have X1 := Lib.hid (show w1.heap[B]? = some (.cells c.cells 23 (0, 0)) by rw [← hw1, hB]; exact heap_new w _)
  have HW1 := Lib.hid hw1
  clear hw1 hB
  obtain ⟨q0, q1, q2, q3, q4, q5, q6, q7, q8, q9, q10, q11⟩ := conf_c X1.out
  go_enter Try.func15, Try.ntmps15
  go_upto_region 1 with (fail)
  rw [HW1.out, ← HB.out]
  go_wp2_with fail
  refine (HCH.out w1).mono ?_
  rintro e w2 ⟨rfl, k2⟩
  have K2 := Lib.hid (K1.out.trans (k2.mono (Nat.le_of_lt (heap_lt X1.out))))
  clear k2 q0 q1 q2 q3 q4 q5 q6 q7 q8 q9 q10 q11
  simp only [cond_false]
  go_wp2
  go_ret2
  exact ⟨rfl, K2.out⟩
set_option maxHeartbeats 4000000 in
theorem parts_no {cb xb : Nat} {c : Conf} (hc : c.ok = false) {v : Value} {D : List UInt8} (lp : Nat) {W : World} (hC : Hid (PartB cb xb c v D W)) :
    Calls Try.prog 24 #[.func (.yield lp) #[] #[], .pointer (some ⟨cb, 0, none⟩), .pointer (some ⟨xb, 0, none⟩)] W fun en W' => (∃ v, en = .returned v) ∧ Below W.heap.size W W' := by
  obtain ⟨tb, htb⟩ : ∃ tb, tb = W.heap.size := ⟨_, rfl⟩
  rw [← htb]
  have HTB := Lib.hid htb
  obtain ⟨w1, hw1⟩ : ∃ w1, W.alloc (.cells #[.func (.yield lp) #[] #[]] 62) = w1 := ⟨_, rfl⟩
  have T1 := Lib.hid (show w1.heap[tb]? = some (.cells #[.func (.yield lp) #[] #[]] 62 (0, 0)) by rw [← hw1, htb]; exact heap_new W _)
  have K1 := Lib.hid (show Below tb W w1 by rw [← hw1, htb]; exact (Below.refl _ _).alloc (Nat.le_refl _) _)
  have P1 := Lib.hid (hC.out.below (htb ▸ K1.out))
  have HW1 := Lib.hid hw1
  clear hw1 htb
  obtain ⟨q0, q1, q2, q3, q4, q5, q6, q7, q8, q9, q10, q11, qx⟩ := P1.out.c
  have HN := Lib.hid (chk_New_no hc w1)
  unfold Conf.cells at HN
  refine (callsIn_wide (n := 5)).1 ?_
  refine callsIn_of_wp_marks Try.func24 rfl trivial ?_ rfl
  simp only [Try.ntmps24, List.size_toArray, List.length_cons, List.length_nil, Nat.reduceAdd, Nat.reduceSub, Array.replicate_succ, Array.replicate_zero, List.push_toArray, List.append_toArray, List.nil_append, List.cons_append]
  refine (wpIn_wide (n := 5)).2 ?_
  go_upto_region 1 with (fail)
  rw [HW1.out, ← HTB.out]
  go_wp2_with fail
  refine HN.out.mono ?_
  rintro e w2 ⟨rfl, k2⟩
  have K2 := Lib.hid (K1.out.trans (k2.mono (Nat.le_of_lt (heap_lt T1.out))))
  clear k2 q0 q1 q2 q3 q4 q5 q6 q7 q8 q9 q10 q11 qx
  go_wp2_with fail
  refine ⟨.tuple #[], ?_, ⟨_, rfl⟩, K2.out⟩
  simp [results, Try.f24, go_sem]
theorem parts_stops_no (n cb xb : Nat) {c : Conf} (hc : c.ok = false) (v : Value) (D : List UInt8) :
    ShStops (PFs cb xb v) KpT (fun _ W => PartB cb xb c v D W) (fun _ => True) n Try.prog 24 #[.pointer (some ⟨cb, 0, none⟩), .pointer (some ⟨xb, 0, none⟩)] encP [] :=
  fun lp J Jx W S0 hJ hY hJx h0 hS0 hC => callsIn_wide.2 ((parts_no hc lp (Lib.hid hC)).mono fun e W' h => ⟨h.1, .inl ⟨S0, hJ [] S0 W W' (fun k => W.heap.size ≤ k) h0 (Only.of_below h.2 (fun k h1 h2 => h2)) trivial (fun k hk => ⟨.inr hk, fun hs => by have := (hS0 k hs).1; omega⟩), trivial⟩⟩)
set_option maxHeartbeats 1000000 in
theorem add_nil (va : Option Addr) (n vc : Nat) (w : World) : Calls Try.prog 16 #[.pointer none, .slice va n vc] w fun e w' => e = .returned (.slice none 0 0) ∧ Below w.heap.size w w' := by
  go_enter Try.func16, Try.ntmps16
  go_wp2
  go_ret
  exact ⟨rfl, ((Below.refl _ _).alloc (Nat.le_refl _) _).alloc (by simp) _⟩
set_option maxHeartbeats 1000000 in
theorem end_nil (w : World) : Calls Try.prog 17 #[.pointer none] w fun e w' => e = .returned (.slice none 0 0) ∧ Below w.heap.size w w' := by
  go_enter Try.func17, Try.ntmps17
  go_wp2
  go_ret
  exact ⟨rfl, Below.refl _ _⟩
end Go.Proofs.Ytcjpemkafncihaa
/- ChunkLeaves, walked: Parts ends where it is left; of a conf that may not be there is nothing; nor of a nil cutter. -/
set_option linter.unusedVariables false
set_option maxRecDepth 100000
namespace Go.Proofs.Ytcjpemkafncihaa
open Go.RowKit
attribute [local go_sem] Oper.semAt_some

/-- What stays, and how many were counted. -/
structure LF (w : World) (B gb : Nat) (c : Conf) (lv nn : Nat) (W' : World) : Prop where
  hc : W'.heap[B]? = some (.cells c.cells 23 (0, 0))
  hl : Vr (B + 1) (.int .u8 (lv : Int)) 5 W'
  hr : Vr (B + 1 + 1) (.bool false) 4 W'
  hn : Vr gb (.int .i64 (nn : Int)) 3 W'
  hbel : Below B w W'
theorem LF.keep {w : World} {B gb : Nat} {c : Conf} {lv nn : Nat} {Sx : Nat → Prop} {A A' : World} (h : LF w B gb c lv nn A) (k : Only Sx A A') (hx : ∀ k, Sx k → gb + 1 ≤ k) (hg : B + 3 ≤ gb) : LF w B gb c lv nn A' :=
  ⟨(k.block B (heap_lt h.hc) fun e => by have := hx _ e; omega).trans h.hc, h.hl.only k fun e => by have := hx _ e; omega, h.hr.only k fun e => by have := hx _ e; omega,
    h.hn.only k fun e => by have := hx _ e; omega, h.hbel.trans (k.below (fun j _ hj => by have := hx j hj; omega) (by have := h.hl.lt; omega))⟩
theorem LF.below {w : World} {B gb : Nat} {c : Conf} {lv nn : Nat} {A A' : World} (h : LF w B gb c lv nn A) (k : Below A.heap.size A A') (hg : B + 3 ≤ gb) : LF w B gb c lv nn A' :=
  ⟨(k.block B (heap_lt h.hc)).trans h.hc, h.hl.below k, h.hr.below k, h.hn.below k, h.hbel.trans (k.mono (by have := h.hl.lt; omega))⟩
theorem both {P : Program} {Q : Exit → Act → World → Prop} {a : Act} {w : World} {code : Code} (F : Nat → World → Prop)
    (R : (∀ D V, F D V → Q .normal { a with defers := { target := .collected D, args := #[] } :: a.defers } V) → code.wp P Q a w)
    (h : ∀ D V, F D V → Q .normal { a with defers := { target := .collected D, args := #[] } :: a.defers } V) : code.wp P Q a w := R h
theorem parts_any (n cb xb : Nat) (c : Conf) (v : Value) (D : List UInt8) (hD : D.length ≤ 1000000) : ∃ Y, ShStops (PFs cb xb v) KpT (fun _ W => PartB cb xb c v D W) (fun _ => True) n Try.prog 24 #[.pointer (some ⟨cb, 0, none⟩), .pointer (some ⟨xb, 0, none⟩)] encP Y ∧
    (∀ (k : Nat) x, Y[k]? = some x → 1 ≤ x.2.length) ∧ Y.length ≤ 1000001 ∧ ((c.ok = false ∧ Y = []) ∨ c.ok = true ∧ ∃ l m M, c.Nat3 l m M ∧ Y.length = (cutF ⟨l, m, M⟩ [] 0 D).length) := by
  cases hc : c.ok with
  | false => exact ⟨[], parts_stops_no n cb xb hc v D, fun k x h => by simp at h, by simp, .inl ⟨rfl, rfl⟩⟩
  | true =>
    obtain ⟨l, m, M, h3⟩ := Conf.nat3 hc
    have h1 := cut_prs ⟨l, m, M⟩ D
    have h2 := cutF_len ⟨l, m, M⟩ D [] 0
    refine ⟨_, parts_stops n cb xb (Lib.hid h3) v D hD, fun k x h => ((prs_facts l m M D h3.l1 h3.M1 rfl).1 k x h).2.2.1, ?_, .inr ⟨rfl, l, m, M, h3, ?_⟩⟩
    · rw [← h1, List.length_map] at h2
      omega
    · rw [← h1, List.length_map]
set_option maxHeartbeats 16000000 in
theorem leaves_walk {c : Conf} {v : Value} {D : List UInt8} {lv : Nat} {w : World} (h : Hid (BsV (fun b => b < w.heap.size) w v D)) (hbig : D.length ≤ 9223372036854775807) (hlv : lv ≤ 255) :
    Calls Try.prog 7 #[.agg c.cells, v, .int .u8 (lv : Int)] w fun e w' => e = .returned (.bool true) ∧ Below w.heap.size w w' := by
  obtain ⟨va, vc, rfl⟩ := h.out.slice
  obtain ⟨B, hB⟩ : ∃ B, B = w.heap.size := ⟨_, rfl⟩
  rw [← hB]
  have HB := Lib.hid hB
  obtain ⟨n, hn⟩ : ∃ n, n = D.length := ⟨_, rfl⟩
  have HN := Lib.hid hn
  rw [← hn] at hbig ⊢
  have HD := Lib.hid (fun (W : World) (k : Below B w W) => h.out.below (HB.out ▸ k))
  rw [← hn] at HD
  clear hn h
  obtain ⟨w1, hw1⟩ : ∃ w1, ((w.alloc (.cells c.cells 23)).alloc (.cells #[.int .u8 (lv : Int)] 5)).alloc (.cells #[.bool false] 4) = w1 := ⟨_, rfl⟩
  have hs1 : (w.alloc (.cells c.cells 23)).heap.size = B + 1 := by rw [hB]; simp
  have hs2 : ((w.alloc (.cells c.cells 23)).alloc (.cells #[.int .u8 (lv : Int)] 5)).heap.size = B + 2 := by rw [hB]; simp
  have k1 : Below B w (w.alloc (.cells c.cells 23)) := by rw [hB]; exact (Below.refl _ _).alloc (Nat.le_refl _) _
  have k2 := k1.alloc (by rw [hs1]; omega) (.cells #[.int .u8 (lv : Int)] 5)
  have k3 := k2.alloc (by rw [hs2]; omega) (.cells #[.bool false] 4)
  have X1 := Lib.hid (show w1.heap[B]? = some (.cells c.cells 23 (0, 0)) by
    rw [← hw1, Below.heap_alloc _ _ _ (by rw [hs2]; omega), Below.heap_alloc _ _ _ (by rw [hs1]; omega), hB]
    exact heap_new w _)
  have V1 := Lib.hid (show Vr (B + 1) (.int .u8 (lv : Int)) 5 w1 by
    unfold Vr
    rw [← hw1, Below.heap_alloc _ _ _ (by rw [hs2]; omega), ← hs1]
    exact heap_new _ _)
  have R1 := Lib.hid (show Vr (B + 1 + 1) (.bool false) 4 w1 by
    unfold Vr
    rw [← hw1, ← hs2]
    exact heap_new _ _)
  have K1 := Lib.hid (show Below B w w1 by rw [← hw1]; exact k3)
  have HW1 := Lib.hid hw1
  clear hw1 hB hs1 hs2 k1 k2 k3
  obtain ⟨p0, p1, p2, p3, p4, p5, p6, p7, p8, p9, p10, p11⟩ := conf_c X1.out
  refine (callsIn_wide (n := 5)).1 ?_
  refine callsIn_of_wp_marks Try.func7 rfl trivial ?_ rfl
  simp only [Try.ntmps7, List.size_toArray, List.length_cons, List.length_nil, Nat.reduceAdd, Nat.reduceSub, Array.replicate_succ, Array.replicate_zero, List.push_toArray, List.append_toArray, List.nil_append, List.cons_append]
  refine (wpIn_wide (n := 5)).2 ?_
  go_upto_region 1 with (fail)
  rw [HW1.out, ← HB.out]
  go_wp2_with fail
  refine (law_awake16 w1).mono ?_
  rintro e w2 ⟨rfl, k2⟩
  have hz1 : B + 3 ≤ w1.heap.size := by have := R1.out.lt; omega
  have K2 := Lib.hid (K1.out.trans (k2.mono (by omega)))
  have X2 := Lib.hid ((k2.block B (heap_lt X1.out)).trans X1.out)
  have V2 := Lib.hid (V1.out.below k2)
  have R2 := Lib.hid (R1.out.below k2)
  clear k2 hz1 p0 p1 p2 p3 p4 p5 p6 p7 p8 p9 p10 p11
  by_cases hlong : 30000 < n
  · have q1 : decide ((30000 : Int) < (n : Int)) = true := by rw [decide_eq_true_eq]; omega
    have q2 : decide (30000 < n) = true := by rw [decide_eq_true_eq]; omega
    clear hlong
    go_wp2_with fail
    refine (law_awake16 w2).mono ?_
    rintro e w3 ⟨rfl, k3⟩
    have hz2 : B + 3 ≤ w2.heap.size := by have := R2.out.lt; omega
    have K3 := Lib.hid (K2.out.trans (k3.mono (by omega)))
    have R3 := Lib.hid (R2.out.below k3)
    clear k3 hz2
    have r1 := R3.out.cell
    have r2 := R3.out.free
    have K4 := Lib.hid (K3.out.setCell (p := ⟨B + 1 + 1, 0, none⟩) (by show B ≤ B + 1 + 1; omega) (.bool true))
    have r3 := (R3.out.put (.bool true)).cell
    go_wp2_with fail
    refine ⟨.bool true, ?_, rfl, K4.out⟩
    simp [results, Try.f7, go_sem, r3]
  · have q1 : decide ((30000 : Int) < (n : Int)) = false := by rw [decide_eq_false_iff_not]; omega
    have q2 : decide (30000 < n) = false := by rw [decide_eq_false_iff_not]; omega
    have hn3 : n ≤ 30000 := by omega
    clear hlong
    obtain ⟨gb, hgb⟩ : ∃ gb, gb = w2.heap.size := ⟨_, rfl⟩
    obtain ⟨w5, hw5⟩ : ∃ w5, w2.alloc (.cells #[.int .i64 0] 3) = w5 := ⟨_, rfl⟩
    have hg3 : B + 3 ≤ gb := by have := R2.out.lt; omega
    have hs3 : w5.heap.size = gb + 1 := by rw [← hw5, hgb]; simp
    have k3 : Below gb w2 w5 := by rw [← hw5, hgb]; exact (Below.refl _ _).alloc (Nat.le_refl _) _
    have HI5 := Lib.hid (show LF w B gb c lv 0 w5 from ⟨(k3.block B (by omega)).trans X2.out, V2.out.below (hgb ▸ k3), R2.out.below (hgb ▸ k3), by rw [hgb, ← hw5]; exact Vr.new w2 _ _, K2.out.trans (k3.mono (by omega))⟩)
    have HW5 := Lib.hid hw5
    have HGB := Lib.hid hgb
    have HBG := Lib.hid hg3
    have HZ5 := Lib.hid hs3
    clear hw5 hgb hg3 hs3 k3
    go_upto_region 4 with (fail)
    rw [HW5.out, ← HGB.out]
    have HP5 := Lib.hid (chk_Parts (c := c) (HD.out w5 HI5.out.hbel) (by rw [← HN.out]; omega))
    obtain ⟨p0, p1, p2, p3, p4, p5, p6, p7, p8, p9, p10, p11⟩ := conf_c HI5.out.hc
    unfold Conf.cells at HP5
    go_wp2_with fail
    refine HP5.out.mono ?_
    rintro e w6 ⟨cb, xb, v', rfl, hP6, hcb, hxb, hv6, k6⟩
    have HI6 := Lib.hid (HI5.out.below k6 HBG.out)
    have P6 := Lib.hid hP6
    have HF6 := Lib.hid (show ∀ k, PFs cb xb v' k → gb + 1 ≤ k from fun k hk => by
      have := HZ5.out
      rcases hk with rfl | rfl | hk
      · omega
      · omega
      · have := hv6 k hk; omega)
    have HZ6 := Lib.hid (show gb + 1 ≤ w6.heap.size by have := k6.size; have := HZ5.out; omega)
    clear p0 p1 p2 p3 p4 p5 p6 p7 p8 p9 p10 p11 hP6 hcb hxb hv6 k6 HP5 HI5
    go_wp2_with fail
    obtain ⟨Y, hST, hYE, hYL, hYW⟩ := parts_any 4 cb xb c v' D (by rw [← HN.out]; omega)
    have HST := Lib.hid hST
    have HYE := Lib.hid hYE
    have HYL := Lib.hid hYL
    have HYW := Lib.hid hYW
    clear hST hYE hYL hYW
    refine both (fun Dm V => w6.heap.size ≤ Dm ∧ V.heap[Dm]? = some (.deferred (some [])) ∧ LF w B gb c lv (min (1 + lv) Y.length) V) (fun hf => ?_) ?_
    · have HFF := Lib.hid hf
      clear hf
      refine (wpIn_wide (n := 5)).1 ?_
      refine wpIn_rangeFunc_sh (α := Nat × List UInt8) (n := 5) (by omega) (gf := 24) (lb := #[.pointer (some ⟨cb, 0, none⟩), .pointer (some ⟨xb, 0, none⟩)]) rfl (enters_of Try.func24 (by kernel_rfl) rfl)
        (Kp := KpT) (fun _ _ _ _ _ => trivial) (fun _ _ _ _ _ => trivial) (fun _ _ => trivial) HST.out (fun k hk => P6.out.all k hk)
        (fun k A C hA hAC => hA.keep hAC (fun i hi hp => by have := P6.out.all i hp; omega)) (fun A C _ _ => trivial)
        (fun x args A hR => by obtain ⟨u, rfl, _⟩ := hR; rfl) (fun x args A l r r' hR hl => by obtain ⟨u, h1, h2⟩ := hR; exact ⟨u, h1, h2.putLoop hl⟩)
        (fun pr S A => (∀ k, S k ↔ k = gb) ∧ pr.length ≤ lv ∧ LF w B gb c lv pr.length A) (fun cc pr A => cc = .exit 0 ∧ pr.length = 1 + lv ∧ pr.length ≤ Y.length ∧ LF w B gb c lv pr.length A) (fun k => k = gb)
        (fun k hk => ⟨by have := HZ6.out; omega, fun hp => by have := HF6.out k hp; omega⟩)
        (fun pr S A C Sx hA hAC _ hSx => ⟨hA.1, hA.2.1, hA.2.2.keep hAC (fun k hk => by
          rcases (hSx k hk).1 with hp | hp
          · exact HF6.out k hp
          · have := HZ6.out; omega) HBG.out⟩)
        (fun cc pr A C hA hAC => ⟨hA.1, hA.2.1, hA.2.2.1, hA.2.2.2.keep hAC (fun k hk => by have := HZ6.out; omega) HBG.out⟩)
        ⟨fun k => Iff.rfl, Nat.zero_le _, HI6.out⟩ P6.out
        (fun t args => t.setIfInBounds 9 (args.getD 1 undef)) ?assign ?body ?done ?stop
      case assign =>
        intro lq x args W' K hR hK
        obtain ⟨u, rfl, _⟩ := hR
        gi_wp2
        simp at hK
        exact hK
      case body =>
        rintro lq pr S x args W' ⟨hS, hpl, hI⟩ hnF hES hx ⟨u, rfl, hu⟩ hsz
        obtain ⟨ua, uc, rfl⟩ := hu.slice
        have hz1 := HYE.out _ _ hx
        have hpY := (List.getElem?_eq_some_iff.1 hx).1
        have hk1 := HYL.out
        have HI1 := Lib.hid hI
        have HS := Lib.hid hS
        have HES := Lib.hid hES
        have HNF := Lib.hid hnF
        obtain ⟨z, hz⟩ : ∃ z, z = x.2.length := ⟨_, rfl⟩
        obtain ⟨k, hk⟩ : ∃ k, k = pr.length := ⟨_, rfl⟩
        rw [← hk] at hpl hpY hI
        rw [← hz] at hz1 ⊢
        have HK := Lib.hid hk
        have HPY := Lib.hid hpY
        have HSZ := Lib.hid (show gb + 1 ≤ W'.heap.size by have := HZ6.out; omega)
        have e1 : ((z : Int) == 0) = false := by rw [beq_eq_false_iff_ne]; omega
        have e2 : (z == 0) = false := by rw [beq_eq_false_iff_ne]; omega
        have e3 : decide ((1 : Int) + (lv : Int) < (k : Int) + 1) = false := by rw [decide_eq_false_iff_not]; omega
        have c0 := hI.hn.cell
        have c1 := hI.hn.free
        have hbg := HBG.out
        have hn2 := hI.hn.put (.int .i64 ((k : Int) + 1))
        have c2 := hn2.cell
        have c3 := hI.hl.cell
        have HF2 := Lib.hid (show LF w B gb c lv (k + 1) (W'.setCell ⟨gb, 0, none⟩ (.int .i64 ((k : Int) + 1))) from
          ⟨(heap_set_other (by omega) _).trans hI.hc, hI.hl.set (by omega) _, hI.hr.set (by omega) _, hn2, hI.hbel.setCell (p := ⟨gb, 0, none⟩) (by show B ≤ gb; omega) _⟩)
        have HON := Lib.hid (show Only S W' (W'.setCell ⟨gb, 0, none⟩ (.int .i64 ((k : Int) + 1))) from (Only.refl S W').setCell (p := ⟨gb, 0, none⟩) (.inl ((hS gb).2 rfl)) _)
        clear hI hES hnF hx hsz hu hS hz hpY hn2 HI1 hk
        have HPS := Lib.hid (show (pr ++ [x]).length = k + 1 by rw [List.length_append, List.length_singleton, HK.out])
        by_cases hkl : k = lv
        · have e4 : ((k : Int) + 1 == 1 + (lv : Int)) = true := by rw [beq_iff_eq]; omega
          have HKL := Lib.hid hkl
          clear hkl
          gi_wp2_with fail
          refine ⟨HON.out.mono fun j _ hj => .inl hj, HES.out.keep HON.out HNF.out, rfl, by rw [HPS.out]; have := HKL.out; omega, by rw [HPS.out]; have := HPY.out; omega, by rw [HPS.out]; exact HF2.out⟩
        · have e4 : ((k : Int) + 1 == 1 + (lv : Int)) = false := by rw [beq_eq_false_iff_ne]; omega
          have HKL := Lib.hid hkl
          clear hkl
          gi_wp2_with fail
          refine ⟨HON.out.mono fun j _ hj => .inl hj, HES.out.keep HON.out HNF.out, S, fun j hj => ⟨.inl hj, ?_⟩, HS.out, by rw [HPS.out]; have := HKL.out; omega, by rw [HPS.out]; exact HF2.out⟩
          have h1 := HON.out.size
          have h2 := (HS.out j).1 hj
          have h3 := HSZ.out
          omega
      case done =>
        rintro Dm S V hDm ⟨hS, hpl, hI⟩ _ hK hsd
        exact HFF.out Dm V ⟨hDm, hK, by rw [Nat.min_eq_right (by omega)]; exact hI⟩
      case stop =>
        rintro Dm cc pr V hDm ⟨rfl, h1, h2, hI⟩ hK
        rw [h1] at hI h2
        refine wpIn_exit ?_
        exact HFF.out Dm V ⟨hDm, hK, by rw [Nat.min_eq_left h2]; exact hI⟩
    · rintro Dm V ⟨hDm, hK, hI⟩
      have HI1 := Lib.hid hI
      have HDM := Lib.hid hDm
      have HDK := Lib.hid hK
      clear hI hDm hK
      have HR0 := Lib.hid (fun W => ref_Check c W)
      obtain ⟨p0, p1, p2, p3, p4, p5, p6, p7, p8, p9, p10, p11⟩ := conf_c HI1.out.hc
      rcases HYW.out with ⟨hno, hY0⟩ | ⟨hok, l, m, M, h3, hYn⟩
      · have HN := Lib.hid (chk_New_no hno V)
        have HR := HR0
        rw [hno] at HR
        unfold Conf.cells at HN HR
        rw [hY0] at HI1
        clear HR0
        go_wp2_with fail
        refine HN.out.mono ?_
        rintro e w7 ⟨rfl, k7⟩
        have HI7 := Lib.hid (HI1.out.below k7 HBG.out)
        have DK7 := Lib.hid ((k7.block Dm (heap_lt HDK.out)).trans HDK.out)
        clear k7
        clear p0 p1 p2 p3 p4 p5 p6 p7 p8 p9 p10 p11
        obtain ⟨p0, p1, p2, p3, p4, p5, p6, p7, p8, p9, p10, p11⟩ := conf_c HI7.out.hc
        go_wp2_with fail
        refine (HR.out w7).mono ?_
        rintro e w8 ⟨rfl, k8⟩
        have HI8 := Lib.hid (HI7.out.below k8 HBG.out)
        have DK8 := Lib.hid ((k8.block Dm (heap_lt DK7.out)).trans DK7.out)
        clear k8
        clear p0 p1 p2 p3 p4 p5 p6 p7 p8 p9 p10 p11
        obtain ⟨p0, p1, p2, p3, p4, p5, p6, p7, p8, p9, p10, p11⟩ := conf_c HI8.out.hc
        have d0 := HI8.out.hn.cell
        go_wp2_with fail
        refine (HR.out _).mono ?_
        rintro e z1 ⟨rfl, k⟩
        have HJ1 := Lib.hid (HI8.out.below k HBG.out)
        have DJ1 := Lib.hid ((k.block Dm (heap_lt DK8.out)).trans DK8.out)
        clear k d0
        clear p0 p1 p2 p3 p4 p5 p6 p7 p8 p9 p10 p11
        go_wp2_with fail
        refine (add_nil va n vc z1).mono ?_
        rintro e z2 ⟨rfl, k⟩
        have HJ2 := Lib.hid (HJ1.out.below k HBG.out)
        have DJ2 := Lib.hid ((k.block Dm (heap_lt DJ1.out)).trans DJ1.out)
        clear k
        go_wp2_with fail
        refine (end_nil z2).mono ?_
        rintro e z3 ⟨rfl, k⟩
        have HJ3 := Lib.hid (HJ2.out.below k HBG.out)
        have DJ3 := Lib.hid ((k.block Dm (heap_lt DJ2.out)).trans DJ2.out)
        clear k
        have d1 := HJ3.out.hr.cell
        have d2 := HJ3.out.hr.free
        have hr8 := Lib.hid (show Vr (B + 1 + 1) (.bool true) 4 ((z3.setCell ⟨B + 1 + 1, 0, none⟩ (.bool true)).putObj Dm (.deferred none)) from (World.putObj_heap_other (by have := HBG.out; have := HZ6.out; have := HDM.out; omega)).trans (HJ3.out.hr.put (.bool true)))
        have hk8 := Lib.hid (show (z3.setCell ⟨B + 1 + 1, 0, none⟩ (.bool true)).heap[Dm]? = some (.deferred (some [])) from (heap_set_other (by have := HBG.out; have := HZ6.out; have := HDM.out; omega) _).trans DJ3.out)
        have hb8 := Lib.hid (show Below B w (z3.setCell ⟨B + 1 + 1, 0, none⟩ (.bool true)) from HJ3.out.hbel.setCell (p := ⟨B + 1 + 1, 0, none⟩) (by show B ≤ B + 1 + 1; omega) _)
        go_wp2_with fail
        have r1 := hr8.out.cell
        refine ⟨by simp, .inl ⟨_, _, rfl, run_takeDeferred hk8.out, ?_⟩⟩
        refine ⟨.bool true, ?_, rfl, ?_⟩
        · simp [results, Try.f7, go_sem, r1]
        · exact hb8.out.grown (grownBy_putObj' _ Dm (.deferred none)) (by have := heap_lt hk8.out; have := HBG.out; have := HZ6.out; have := HDM.out; omega) (fun k e => by cases e; have := HDM.out; have := HZ6.out; have := HBG.out; omega)
      · have HNO := Lib.hid (chk_New h3 V)
        have HR := HR0
        rw [hok] at HR
        unfold Conf.cells at HNO HR
        clear HR0
        have H3 := Lib.hid h3
        have HYN := Lib.hid hYn
        clear hYn h3
        go_wp2_with fail
        refine HNO.out.mono ?_
        rintro e w7 ⟨kb, rfl, hkb, -, k7⟩
        have HI7 := Lib.hid (HI1.out.below k7 HBG.out)
        have DK7 := Lib.hid ((k7.block Dm (heap_lt HDK.out)).trans HDK.out)
        clear k7
        clear p0 p1 p2 p3 p4 p5 p6 p7 p8 p9 p10 p11
        obtain ⟨p0, p1, p2, p3, p4, p5, p6, p7, p8, p9, p10, p11⟩ := conf_c HI7.out.hc
        go_wp2_with fail
        refine (HR.out w7).mono ?_
        rintro e w8 ⟨rfl, k8⟩
        have HI8 := Lib.hid (HI7.out.below k8 HBG.out)
        have DK8 := Lib.hid ((k8.block Dm (heap_lt DK7.out)).trans DK7.out)
        clear k8
        clear p0 p1 p2 p3 p4 p5 p6 p7 p8 p9 p10 p11
        obtain ⟨CL, hCL⟩ : ∃ CL, CL = (cutF ⟨l, m, M⟩ [] 0 D).length := ⟨_, rfl⟩
        have hcl : CL ≤ 1000001 := by have := HYL.out; have := HYN.out; omega
        have HCL := Lib.hid hCL
        rw [HYN.out, ← hCL] at HI8
        clear hCL
        go_upto_region 14 with (fail)
        have wv1 : IntKind.i64.wrap (lv : Int) = (lv : Int) := by simp [IntKind.wrap, IntKind.signed, IntKind.bits]; omega
        have wv2 : IntKind.i64.wrap (1 + (lv : Int)) = 1 + (lv : Int) := by simp [IntKind.wrap, IntKind.signed, IntKind.bits]; omega
        refine (wpIn_wide (n := 5)).1 (wpIn_onlyN ((wpIn_wide (n := 5)).2 ?_))
        refine wp_region_kept (fun W => Below w8.heap.size w8 W) (by kernel_rfl) ?_
        change wpAnyE _ _ _ _ _ _ _ _ _ w8.drew
        have hS : Below w8.heap.size w8 w8.drew := (Below.refl _ _).drew
        generalize w8.drew = x1 at *
        refine kept_take (i := 0) (d := 51) (v := (.int .u8 (lv : Int))) rfl rfl (by kernel_rfl) (by kernel_rfl) (by kernel_rfl) (fun _ _ _ h => h) (Or.inl ⟨by rfl, ?_⟩) hS ?_
        · intro w' hw'
          have c0 := (HI8.out.below hw' HBG.out).hl.cell
          go_simp
        try go_frame
        refine kept_take (i := 1) (d := 52) (v := (.int .i64 (lv : Int))) rfl rfl (by kernel_rfl) (by kernel_rfl) (by kernel_rfl) (fun _ _ _ h => h) (Or.inl ⟨by rfl, ?_⟩) hS ?_
        · intro w' hw'
          go_simp
        try go_frame
        refine kept_take (i := 2) (d := 53) (v := (.int .i64 (1 + (lv : Int)))) rfl rfl (by kernel_rfl) (by kernel_rfl) (by kernel_rfl) (fun _ _ _ h => h) (Or.inl ⟨by rfl, ?_⟩) hS ?_
        · intro w' hw'
          go_simp
        try go_frame
        refine kept_take (i := 3) (d := 54) (v := (.agg #[.int .i64 (c.f 0), .int .i64 (c.f 1), .int .i64 (c.f 2), .int .i64 (c.f 3), .int .i64 (c.f 4), .int .i64 (c.f 5), .int .i64 (c.f 6), .int .i64 (c.f 7), .int .i64 (c.f 8), .int .i64 (c.f 9), .int .i64 (c.f 10), .int .i64 (c.f 11)])) rfl rfl (by kernel_rfl) (by kernel_rfl) (by kernel_rfl) (fun _ _ _ h => h) (Or.inl ⟨by rfl, ?_⟩) hS ?_
        · intro w' hw'
          obtain ⟨p0, p1, p2, p3, p4, p5, p6, p7, p8, p9, p10, p11⟩ := conf_c (HI8.out.below hw' HBG.out).hc
          go_simp
        try go_frame
        refine kept_take (i := 4) (d := 55) (v := (.slice va n vc)) rfl rfl (by kernel_rfl) (by kernel_rfl) (by kernel_rfl) (fun _ _ _ h => h) (Or.inl ⟨by rfl, ?_⟩) hS ?_
        · intro w' hw'
          go_simp
        try go_frame
        refine kept_take (i := 5) (d := 56) (v := (.string (bs D))) rfl rfl (by kernel_rfl) (by kernel_rfl) (by kernel_rfl) (fun _ _ _ h => h) (Or.inl ⟨by rfl, ?_⟩) hS ?_
        · intro w' hw'
          have cv := (HD.out w' (HI8.out.below hw' HBG.out).hbel).str
          go_simp
        try go_frame
        have HRC := Lib.hid (ref_Cut H3.out (L := D) x1 (by rw [← HN.out]; omega))
        unfold Conf.cells at HRC
        refine wpAnyE_ready (rs := [6]) (by kernel_rfl) (by simp) (AllE.cons rfl (fun K hK0 => ?_) AllE.nil)
        go_simp
        refine Calls.mono HRC.out ?_
        rintro e x5 ⟨xv, rfl, hN, k5⟩
        have hS2 : Below w8.heap.size w8 x5 := hS.trans (k5.mono hS.size)
        have Nx := Lib.hid hN.ns
        obtain ⟨xa, xc, rfl⟩ := Nx.out.slice
        rw [← HCL.out]
        refine hK0.out _ _ (fun _ => hS2) (fun _ => ?_)
        clear hK0 K hS hN k5 HRC Nx
        have hS := hS2
        clear hS2
        try go_frame
        refine kept_take (i := 7) (d := 58) (v := (.int .i64 (CL : Int))) rfl rfl (by kernel_rfl) (by kernel_rfl) (by kernel_rfl) (fun _ _ _ h => h) (Or.inl ⟨by rfl, ?_⟩) hS ?_
        · intro w' hw'
          go_simp
        try go_frame
        refine kept_take (i := 8) (d := 59) (v := (.int .i64 ((min (1 + lv) CL : Nat) : Int))) rfl rfl (by kernel_rfl) (by kernel_rfl) (by kernel_rfl) (fun _ _ _ h => h) (Or.inl ⟨by rfl, ?_⟩) hS ?_
        · intro w' hw'
          go_simp
          split <;> omega
        try go_frame
        refine kept_take (i := 9) (d := 13) (v := (.int .i64 ((min (1 + lv) CL : Nat) : Int))) rfl rfl (by kernel_rfl) (by kernel_rfl) (by kernel_rfl) (fun _ _ _ h => h) (Or.inl ⟨by rfl, ?_⟩) hS ?_
        · intro w' hw'
          go_simp
        try go_frame
        refine wpAnyE_done (by kernel_rfl) ?_ _
        simp only [onlyN]
        have HI9 := Lib.hid (HI8.out.below hS HBG.out)
        have DK9 := Lib.hid ((hS.block Dm (heap_lt DK8.out)).trans DK8.out)
        clear hS
        obtain ⟨p0, p1, p2, p3, p4, p5, p6, p7, p8, p9, p10, p11⟩ := conf_c HI9.out.hc
        have d0 := HI9.out.hn.cell
        go_wp2_with fail
        refine (HR.out _).mono ?_
        rintro e z1 ⟨rfl, k⟩
        have HJ1 := Lib.hid (HI9.out.below k HBG.out)
        have DJ1 := Lib.hid ((k.block Dm (heap_lt DK9.out)).trans DK9.out)
        clear k d0
        clear p0 p1 p2 p3 p4 p5 p6 p7 p8 p9 p10 p11
        go_wp2_with fail
        refine (add_nil va n vc z1).mono ?_
        rintro e z2 ⟨rfl, k⟩
        have HJ2 := Lib.hid (HJ1.out.below k HBG.out)
        have DJ2 := Lib.hid ((k.block Dm (heap_lt DJ1.out)).trans DJ1.out)
        clear k
        go_wp2_with fail
        refine (end_nil z2).mono ?_
        rintro e z3 ⟨rfl, k⟩
        have HJ3 := Lib.hid (HJ2.out.below k HBG.out)
        have DJ3 := Lib.hid ((k.block Dm (heap_lt DJ2.out)).trans DJ2.out)
        clear k
        have d1 := HJ3.out.hr.cell
        have d2 := HJ3.out.hr.free
        have hr8 := Lib.hid (show Vr (B + 1 + 1) (.bool true) 4 ((z3.setCell ⟨B + 1 + 1, 0, none⟩ (.bool true)).putObj Dm (.deferred none)) from (World.putObj_heap_other (by have := HBG.out; have := HZ6.out; have := HDM.out; omega)).trans (HJ3.out.hr.put (.bool true)))
        have hk8 := Lib.hid (show (z3.setCell ⟨B + 1 + 1, 0, none⟩ (.bool true)).heap[Dm]? = some (.deferred (some [])) from (heap_set_other (by have := HBG.out; have := HZ6.out; have := HDM.out; omega) _).trans DJ3.out)
        have hb8 := Lib.hid (show Below B w (z3.setCell ⟨B + 1 + 1, 0, none⟩ (.bool true)) from HJ3.out.hbel.setCell (p := ⟨B + 1 + 1, 0, none⟩) (by show B ≤ B + 1 + 1; omega) _)
        go_wp2_with fail
        have r1 := hr8.out.cell
        refine ⟨by simp, .inl ⟨_, _, rfl, run_takeDeferred hk8.out, ?_⟩⟩
        refine ⟨.bool true, ?_, rfl, ?_⟩
        · simp [results, Try.f7, go_sem, r1]
        · exact hb8.out.grown (grownBy_putObj' _ Dm (.deferred none)) (by have := heap_lt hk8.out; have := HBG.out; have := HZ6.out; have := HDM.out; omega) (fun k e => by cases e; have := HDM.out; have := HZ6.out; have := HBG.out; omega)
end Go.Proofs.Ytcjpemkafncihaa
