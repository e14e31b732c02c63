/- Texts put together: ChunkBoundsWalk, ChunkOpen -/
import Derived.Test.YtcjpemkafncihaaCBou05
import Derived.Test.YtcjpemkafncihaaCBou01
import Derived.Deep.Slices
import Derived.Deep.Fields
import Derived.ChangeSame
import Derived.SizedLaws
/- ChunkBounds, walked: each chunk but the last has from Least to Most bytes, and together they are all. -/
set_option linter.unusedVariables false
set_option maxRecDepth 100000
namespace Go.Proofs.Ytcjpemkafncihaa
open Go.RowKit
attribute [local go_sem] Oper.semAt_some

/-- A box of one value. -/
def Vr (b : Nat) (v : Value) (t : TypeId) (w : World) : Prop := w.heap[b]? = some (.cells #[v] t (0, 0))
theorem Vr.cell {b : Nat} {v : Value} {t : TypeId} {w : World} (h : Vr b v t w) : w.cell? ⟨b, 0, none⟩ = some v := by unfold Vr at h; simp [World.cell?, h]
theorem Vr.free {b : Nat} {v : Value} {t : TypeId} {w : World} (h : Vr b v t w) : w.frozen? ⟨b, 0, none⟩ = false := by unfold Vr at h; simp [World.frozen?, h]
theorem Vr.lt {b : Nat} {v : Value} {t : TypeId} {w : World} (h : Vr b v t w) : b < w.heap.size := heap_lt h
theorem Vr.below {b : Nat} {v : Value} {t : TypeId} {w w' : World} (h : Vr b v t w) (k : Below w.heap.size w w') : Vr b v t w' := (k.block b h.lt).trans h
theorem Vr.only {S : Nat → Prop} {b : Nat} {v : Value} {t : TypeId} {w w' : World} (h : Vr b v t w) (k : Only S w w') (hb : ¬ S b) : Vr b v t w' := (k.block b h.lt hb).trans h
theorem Vr.put {b : Nat} {v : Value} {t : TypeId} {w : World} (h : Vr b v t w) (u : Value) : Vr b u t (w.setCell ⟨b, 0, none⟩ u) := by
  have := heap_set (o := 0) h u
  exact this
theorem Vr.set {b c o : Nat} {v : Value} {t : TypeId} {w : World} (h : Vr b v t w) (hc : b ≠ c) (u : Value) : Vr b v t (w.setCell ⟨c, o, none⟩ u) := (heap_set_other hc u).trans h
theorem Vr.new (w : World) (v : Value) (t : TypeId) : Vr w.heap.size v t (w.alloc (.cells #[v] t)) := heap_new w _
/-- What the law's loop keeps. -/
structure BI (w : World) (B gb l : Nat) (c' : Conf) (dv : Value) (Y pr : List (Nat × List UInt8)) (S : Nat → Prop) (W' : World) : Prop where
  hS : ∀ k, S k ↔ k = gb ∨ k = gb + 1 ∨ k = gb + 1 + 1
  hpr : pr = Y.take pr.length
  hc : W'.heap[B]? = some (.cells c'.cells 23 (0, 0))
  hd : Vr (B + 1) dv 24 W'
  hr : Vr (B + 1 + 1) (.bool false) 4 W'
  hn : Vr gb (.int .i64 (pr.length : Int)) 3 W'
  hb : Vr (gb + 1) (.int .i64 (lensN pr : Int)) 3 W'
  he : Vr (gb + 1 + 1) (.bool (shortL l pr)) 4 W'
  hbel : Below B w W'
theorem BI.keep {w : World} {B gb l : Nat} {c' : Conf} {dv : Value} {Y pr : List (Nat × List UInt8)} {S Sx : Nat → Prop} {A A' : World} (h : BI w B gb l c' dv Y pr S A) (k : Only Sx A A') (hx : ∀ k, Sx k → gb + 3 ≤ k) (hg : B + 3 ≤ gb) : BI w B gb l c' dv Y pr S A' :=
  ⟨h.hS, h.hpr, (k.block B (heap_lt h.hc) fun e => by have := hx _ e; omega).trans h.hc, h.hd.only k fun e => by have := hx _ e; omega, h.hr.only k fun e => by have := hx _ e; omega,
    h.hn.only k fun e => by have := hx _ e; omega, h.hb.only k fun e => by have := hx _ e; omega, h.he.only k fun e => by have := hx _ e; omega,
    h.hbel.trans (k.below (fun j _ hj => by have := hx j hj; omega) (by have := h.hd.lt; omega))⟩
set_option maxHeartbeats 16000000 in
theorem bounds_walk {c : Conf} {v : Value} {D : List UInt8} {w : World} (h : Hid (BsV (fun b => b < w.heap.size) w v D)) (hbig : D.length ≤ 9223372036854775807) :
    Calls Try.prog 5 #[.agg c.cells, v] w fun e w' => e = .returned (.bool true) ∧ Below w.heap.size w w' := by
  obtain ⟨va, vc, rfl⟩ := h.out.slice
  obtain ⟨B, hB⟩ : ∃ B, B = w.heap.size := ⟨_, rfl⟩
  rw [← hB]
  have HB := Lib.hid hB
  obtain ⟨n, hn⟩ : ∃ n, n = D.length := ⟨_, rfl⟩
  have HN := Lib.hid hn
  rw [← hn] at hbig ⊢
  have HD := Lib.hid (fun (W : World) (k : Below B w W) => h.out.below (HB.out ▸ k))
  rw [← hn] at HD
  clear hn h
  obtain ⟨w1, hw1⟩ : ∃ w1, ((w.alloc (.cells c.cells 23)).alloc (.cells #[.slice va n vc] 24)).alloc (.cells #[.bool false] 4) = w1 := ⟨_, rfl⟩
  have hs1 : (w.alloc (.cells c.cells 23)).heap.size = B + 1 := by rw [hB]; simp
  have hs2 : ((w.alloc (.cells c.cells 23)).alloc (.cells #[.slice va n vc] 24)).heap.size = B + 2 := by rw [hB]; simp
  have k1 : Below B w (w.alloc (.cells c.cells 23)) := by rw [hB]; exact (Below.refl _ _).alloc (Nat.le_refl _) _
  have k2 := k1.alloc (by rw [hs1]; omega) (.cells #[.slice va n vc] 24)
  have k3 := k2.alloc (by rw [hs2]; omega) (.cells #[.bool false] 4)
  have X1 := Lib.hid (show w1.heap[B]? = some (.cells c.cells 23 (0, 0)) by
    rw [← hw1, Below.heap_alloc _ _ _ (by rw [hs2]; omega), Below.heap_alloc _ _ _ (by rw [hs1]; omega), hB]
    exact heap_new w _)
  have V1 := Lib.hid (show Vr (B + 1) (.slice va n vc) 24 w1 by
    unfold Vr
    rw [← hw1, Below.heap_alloc _ _ _ (by rw [hs2]; omega), ← hs1]
    exact heap_new _ _)
  have R1 := Lib.hid (show Vr (B + 1 + 1) (.bool false) 4 w1 by
    unfold Vr
    rw [← hw1, ← hs2]
    exact heap_new _ _)
  have K1 := Lib.hid (show Below B w w1 by rw [← hw1]; exact k3)
  have HW1 := Lib.hid hw1
  clear hw1 hB hs1 hs2 k1 k2 k3
  have q3 := V1.out.cell
  refine (callsIn_wide (n := 5)).1 ?_
  refine callsIn_of_wp_marks Try.func5 rfl trivial ?_ rfl
  simp only [Try.ntmps5, List.size_toArray, List.length_cons, List.length_nil, Nat.reduceAdd, Nat.reduceSub, Array.replicate_succ, Array.replicate_zero, List.push_toArray, List.append_toArray, List.nil_append, List.cons_append]
  refine (wpIn_wide (n := 5)).2 ?_
  go_upto_region 1 with (fail)
  rw [HW1.out, ← HB.out]
  go_wp2_with fail
  refine (law_awake16 w1).mono ?_
  rintro e w2 ⟨rfl, k2⟩
  have hz1 : B + 3 ≤ w1.heap.size := by have := R1.out.lt; omega
  have K2 := Lib.hid (K1.out.trans (k2.mono (by omega)))
  have X2 := Lib.hid ((k2.block B (heap_lt X1.out)).trans X1.out)
  have V2 := Lib.hid (V1.out.below k2)
  have R2 := Lib.hid (R1.out.below k2)
  clear k2 hz1 q3
  have q3 := V2.out.cell
  by_cases hlong : 30000 < n
  · have q1 : decide ((30000 : Int) < (n : Int)) = true := by rw [decide_eq_true_eq]; omega
    have q2 : decide (30000 < n) = true := by rw [decide_eq_true_eq]; omega
    clear hlong
    go_wp2_with fail
    refine (law_awake16 w2).mono ?_
    rintro e w3 ⟨rfl, k3⟩
    have hz2 : B + 3 ≤ w2.heap.size := by have := R2.out.lt; omega
    have K3 := Lib.hid (K2.out.trans (k3.mono (by omega)))
    have R3 := Lib.hid (R2.out.below k3)
    clear k3 hz2 q3
    have r1 := R3.out.cell
    have r2 := R3.out.free
    have K4 := Lib.hid (K3.out.setCell (p := ⟨B + 1 + 1, 0, none⟩) (by show B ≤ B + 1 + 1; omega) (.bool true))
    have r3 := (R3.out.put (.bool true)).cell
    go_wp2_with fail
    refine ⟨.bool true, ?_, rfl, K4.out⟩
    simp [results, Try.f5, go_sem, r3]
  · have q1 : decide ((30000 : Int) < (n : Int)) = false := by rw [decide_eq_false_iff_not]; omega
    have q2 : decide (30000 < n) = false := by rw [decide_eq_false_iff_not]; omega
    have hn3 : n ≤ 30000 := by omega
    clear hlong
    obtain ⟨p0, p1, p2, p3, p4, p5, p6, p7, p8, p9, p10, p11⟩ := conf_c X2.out
    go_wp2_with fail
    have HRI := Lib.hid (law_right c w2)
    unfold Conf.cells at HRI
    refine HRI.out.mono ?_
    rintro e w3 ⟨c', l, m, M, rfl, h3, k3⟩
    have hz2 : B + 3 ≤ w2.heap.size := by have := R2.out.lt; omega
    have H3 := Lib.hid h3
    have K3 := Lib.hid (K2.out.trans (k3.mono (by omega)))
    have X3 := Lib.hid ((k3.block B (heap_lt X2.out)).trans X2.out)
    have V3 := Lib.hid (V2.out.below k3)
    have R3 := Lib.hid (R2.out.below k3)
    clear h3 k3 hz2 q3 p0 p1 p2 p3 p4 p5 p6 p7 p8 p9 p10 p11 HRI
    obtain ⟨p0, p1, p2, p3, p4, p5, p6, p7, p8, p9, p10, p11⟩ := conf_c X3.out
    have qf : ∀ j, w3.frozen? ⟨B, j, none⟩ = false := fun j => by simp [World.frozen?, X3.out]
    obtain ⟨w4, hw4⟩ : ∃ w4, w4 = ((((((((((((w3.setCell ⟨B, 0, none⟩ (.int .i64 (c'.f 0))).setCell ⟨B, 1, none⟩ (.int .i64 (c'.f 1))).setCell ⟨B, 2, none⟩ (.int .i64 (c'.f 2))).setCell ⟨B, 3, none⟩ (.int .i64 (c'.f 3))).setCell ⟨B, 4, none⟩ (.int .i64 (c'.f 4))).setCell ⟨B, 5, none⟩ (.int .i64 (c'.f 5))).setCell ⟨B, 6, none⟩ (.int .i64 (c'.f 6))).setCell ⟨B, 7, none⟩ (.int .i64 (c'.f 7))).setCell ⟨B, 8, none⟩ (.int .i64 (c'.f 8))).setCell ⟨B, 9, none⟩ (.int .i64 (c'.f 9))).setCell ⟨B, 10, none⟩ (.int .i64 (c'.f 10))).setCell ⟨B, 11, none⟩ (.int .i64 (c'.f 11))) := ⟨_, rfl⟩
    have X4 := Lib.hid (show w4.heap[B]? = some (.cells c'.cells 23 (0, 0)) by rw [hw4]; exact put12 _ _ _ _ _ _ _ _ _ _ _ _ X3.out)
    have K4 := Lib.hid (show Below B w w4 by rw [hw4]; exact ((((((((((((K3.out.setCell (p := ⟨B, 0, none⟩) (Nat.le_refl _) (.int .i64 (c'.f 0))).setCell (p := ⟨B, 1, none⟩) (Nat.le_refl _) (.int .i64 (c'.f 1))).setCell (p := ⟨B, 2, none⟩) (Nat.le_refl _) (.int .i64 (c'.f 2))).setCell (p := ⟨B, 3, none⟩) (Nat.le_refl _) (.int .i64 (c'.f 3))).setCell (p := ⟨B, 4, none⟩) (Nat.le_refl _) (.int .i64 (c'.f 4))).setCell (p := ⟨B, 5, none⟩) (Nat.le_refl _) (.int .i64 (c'.f 5))).setCell (p := ⟨B, 6, none⟩) (Nat.le_refl _) (.int .i64 (c'.f 6))).setCell (p := ⟨B, 7, none⟩) (Nat.le_refl _) (.int .i64 (c'.f 7))).setCell (p := ⟨B, 8, none⟩) (Nat.le_refl _) (.int .i64 (c'.f 8))).setCell (p := ⟨B, 9, none⟩) (Nat.le_refl _) (.int .i64 (c'.f 9))).setCell (p := ⟨B, 10, none⟩) (Nat.le_refl _) (.int .i64 (c'.f 10))).setCell (p := ⟨B, 11, none⟩) (Nat.le_refl _) (.int .i64 (c'.f 11))))
    have V4 := Lib.hid (show Vr (B + 1) (.slice va n vc) 24 w4 by rw [hw4]; exact ((((((((((((V3.out.set (c := B) (o := 0) (by omega) (.int .i64 (c'.f 0))).set (c := B) (o := 1) (by omega) (.int .i64 (c'.f 1))).set (c := B) (o := 2) (by omega) (.int .i64 (c'.f 2))).set (c := B) (o := 3) (by omega) (.int .i64 (c'.f 3))).set (c := B) (o := 4) (by omega) (.int .i64 (c'.f 4))).set (c := B) (o := 5) (by omega) (.int .i64 (c'.f 5))).set (c := B) (o := 6) (by omega) (.int .i64 (c'.f 6))).set (c := B) (o := 7) (by omega) (.int .i64 (c'.f 7))).set (c := B) (o := 8) (by omega) (.int .i64 (c'.f 8))).set (c := B) (o := 9) (by omega) (.int .i64 (c'.f 9))).set (c := B) (o := 10) (by omega) (.int .i64 (c'.f 10))).set (c := B) (o := 11) (by omega) (.int .i64 (c'.f 11))))
    have R4 := Lib.hid (show Vr (B + 1 + 1) (.bool false) 4 w4 by rw [hw4]; exact ((((((((((((R3.out.set (c := B) (o := 0) (by omega) (.int .i64 (c'.f 0))).set (c := B) (o := 1) (by omega) (.int .i64 (c'.f 1))).set (c := B) (o := 2) (by omega) (.int .i64 (c'.f 2))).set (c := B) (o := 3) (by omega) (.int .i64 (c'.f 3))).set (c := B) (o := 4) (by omega) (.int .i64 (c'.f 4))).set (c := B) (o := 5) (by omega) (.int .i64 (c'.f 5))).set (c := B) (o := 6) (by omega) (.int .i64 (c'.f 6))).set (c := B) (o := 7) (by omega) (.int .i64 (c'.f 7))).set (c := B) (o := 8) (by omega) (.int .i64 (c'.f 8))).set (c := B) (o := 9) (by omega) (.int .i64 (c'.f 9))).set (c := B) (o := 10) (by omega) (.int .i64 (c'.f 10))).set (c := B) (o := 11) (by omega) (.int .i64 (c'.f 11))))
    have HW4 := Lib.hid hw4
    clear hw4
    obtain ⟨gb, hgb⟩ : ∃ gb, gb = w4.heap.size := ⟨_, rfl⟩
    obtain ⟨w5, hw5⟩ : ∃ w5, ((w4.alloc (.cells #[.int .i64 0] 3)).alloc (.cells #[.int .i64 0] 3)).alloc (.cells #[.bool false] 4) = w5 := ⟨_, rfl⟩
    have hg3 : B + 3 ≤ gb := by have := R4.out.lt; omega
    have hs1 : (w4.alloc (.cells #[.int .i64 0] 3)).heap.size = gb + 1 := by rw [hgb]; simp
    have hs2 : ((w4.alloc (.cells #[.int .i64 0] 3)).alloc (.cells #[.int .i64 0] 3)).heap.size = gb + 2 := by rw [hgb]; simp
    have hs3 : w5.heap.size = gb + 3 := by rw [← hw5, hgb]; simp
    have k1 : Below gb w4 (w4.alloc (.cells #[.int .i64 0] 3)) := by rw [hgb]; exact (Below.refl _ _).alloc (Nat.le_refl _) _
    have k2 := k1.alloc (by rw [hs1]; omega) (.cells #[.int .i64 0] 3)
    have k3 := k2.alloc (by rw [hs2]; omega) (.cells #[.bool false] 4)
    rw [hw5] at k3
    have HI5 := Lib.hid (show BI w B gb l c' (.slice va n vc) (prs D 0 (enA ⟨l, m, M⟩ [] D 0 D.length)) [] (fun k => k = gb ∨ k = gb + 1 ∨ k = gb + 1 + 1) w5 by
      refine ⟨fun k => Iff.rfl, rfl, (k3.block B (by omega)).trans X4.out, V4.out.below (hgb ▸ k3), R4.out.below (hgb ▸ k3), ?_, ?_, ?_, K4.out.trans (k3.mono (by omega))⟩
      · unfold Vr
        rw [← hw5, Below.heap_alloc _ _ _ (by rw [hs2]; omega), Below.heap_alloc _ _ _ (by rw [hs1]; omega), hgb]
        exact heap_new w4 _
      · unfold Vr
        rw [← hw5, Below.heap_alloc _ _ _ (by rw [hs2]; omega), ← hs1]
        exact heap_new _ _
      · unfold Vr
        rw [← hw5, ← hs2]
        exact heap_new _ _)
    have HW5 := Lib.hid hw5
    have HGB := Lib.hid hgb
    have HBG := Lib.hid hg3
    have HZ5 := Lib.hid hs3
    clear hw5 hgb hg3 hs1 hs2 hs3 k1 k2 k3
    simp only [Conf.cells]
    go_upto_region 4 with (fail)
    rw [← HW4.out]
    clear p0 p1 p2 p3 p4 p5 p6 p7 p8 p9 p10 p11 qf
    go_upto_region 7 with (fail)
    rw [HW5.out, ← HGB.out]
    have HP5 := Lib.hid (chk_Parts (c := c') (HD.out w5 HI5.out.hbel) (by rw [← HN.out]; omega))
    obtain ⟨p0, p1, p2, p3, p4, p5, p6, p7, p8, p9, p10, p11⟩ := conf_c HI5.out.hc
    have q3 := HI5.out.hd.cell
    unfold Conf.cells at HP5
    go_wp2_with fail
    refine HP5.out.mono ?_
    rintro e w6 ⟨cb, xb, v', rfl, hP6, hcb, hxb, hv6, k6⟩
    have HI6 := Lib.hid (HI5.out.keep (Only.of_below (S := fun k => gb + 3 ≤ k) k6 (fun k h1 h2 => by have := HZ5.out; omega)) (fun k hk => hk) HBG.out)
    have P6 := Lib.hid hP6
    have HF6 := Lib.hid (show ∀ k, PFs cb xb v' k → gb + 3 ≤ k from fun k hk => by
      have := HZ5.out
      rcases hk with rfl | rfl | hk
      · omega
      · omega
      · have := hv6 k hk; omega)
    have HZ6 := Lib.hid (show gb + 3 ≤ w6.heap.size by have := k6.size; have := HZ5.out; omega)
    clear q3 p0 p1 p2 p3 p4 p5 p6 p7 p8 p9 p10 p11 hP6 hcb hxb hv6 k6 HP5
    go_wp2_with fail
    have HST := Lib.hid (parts_stops 4 cb xb H3 v' D (by rw [← HN.out]; omega))
    obtain ⟨Y, hY⟩ : ∃ Y, Y = prs D 0 (enA ⟨l, m, M⟩ [] D 0 D.length) := ⟨_, rfl⟩
    rw [← hY] at HST HI6
    have HPF := Lib.hid (prs_facts l m M D H3.out.l1 H3.out.M1 hY)
    have HYL := Lib.hid (show Y.length ≤ 1000001 by
      have h1 := cut_prs ⟨l, m, M⟩ D
      have h2 := cutF_len ⟨l, m, M⟩ D [] 0
      rw [← h1, List.length_map, ← hY, ← HN.out] at h2
      omega)
    clear hY HI5
    refine (wpIn_wide (n := 5)).1 ?_
    refine wpIn_rangeFunc_sh (α := Nat × List UInt8) (n := 5) (by omega) (gf := 24) (lb := #[.pointer (some ⟨cb, 0, none⟩), .pointer (some ⟨xb, 0, none⟩)]) rfl (enters_of Try.func24 (by kernel_rfl) rfl)
      (Kp := KpT) (fun _ _ _ _ _ => trivial) (fun _ _ _ _ _ => trivial) (fun _ _ => trivial) HST.out (fun k hk => P6.out.all k hk)
      (fun k A C hA hAC => hA.keep hAC (fun i hi hp => by have := P6.out.all i hp; omega)) (fun A C _ _ => trivial)
      (fun x args A hR => by obtain ⟨u, rfl, _⟩ := hR; rfl) (fun x args A l r r' hR hl => by obtain ⟨u, h1, h2⟩ := hR; exact ⟨u, h1, h2.putLoop hl⟩)
      (fun pr S A => BI w B gb l c' (.slice va n vc) Y pr S A) (fun _ _ _ => False) (fun k => k = gb ∨ k = gb + 1 ∨ k = gb + 1 + 1)
      (fun k hk => ⟨by have := HZ6.out; omega, fun hp => by have := HF6.out k hp; omega⟩)
      (fun pr S A C Sx hA hAC _ hSx => hA.keep hAC (fun k hk => by
        rcases (hSx k hk).1 with hp | hp
        · exact HF6.out k hp
        · have := HZ6.out; omega) HBG.out)
      (fun cc pr A C hA _ => hA.elim)
      HI6.out P6.out
      (fun t args => (t.setIfInBounds 8 (args.getD 0 undef)).setIfInBounds 9 (args.getD 1 undef)) ?assign ?body ?done ?stop
    case assign =>
      intro lq x args W' K hR hK
      obtain ⟨u, rfl, _⟩ := hR
      gi_wp2
      simp at hK
      exact hK
    case body =>
      rintro lq pr S x args W' hI hnF hES hx ⟨u, rfl, hu⟩ hsz
      obtain ⟨ua, uc, rfl⟩ := hu.slice
      have hx2 := hx
      obtain ⟨g1, g2, g3, g4, g5, g6⟩ := HPF.out.1 _ _ hx2
      rw [← hI.hpr] at g1 g2
      obtain ⟨pv, hsl, hpv⟩ := (HD.out W' hI.hbel).part (lo := x.1) (hi := x.1 + x.2.length) (by omega) g5
      rw [g6] at hpv
      have hpl : pr.length < Y.length := (List.getElem?_eq_some_iff.1 hx).1
      have hprx := hI.hpr
      have HI1 := Lib.hid hI
      have HES := Lib.hid hES
      have HNF := Lib.hid hnF
      have HPX := Lib.hid (show pr ++ [x] = Y.take (pr ++ [x]).length by rw [List.length_append, List.length_singleton, List.take_add_one, hx, ← hprx]; rfl)
      have HLS := Lib.hid (lensN_snoc pr x)
      have HSS := Lib.hid (shortL_snoc l pr x)
      have c0 : ∀ s : Seen W', s.val.cell? ⟨gb + 1, 0, none⟩ = some (.int .i64 (x.1 : Int)) := fun s => by rw [(hI.hb.below s.below).cell, g1]
      have c1 : ∀ s : Seen W', s.val.cell? ⟨gb + 1 + 1, 0, none⟩ = some (.bool false) := fun s => by rw [(hI.he.below s.below).cell, g2]
      have c2 : ∀ s : Seen W', s.val.cell? ⟨B, 10, none⟩ = some (.int .i64 (M : Int)) := fun s => by rw [(conf_c ((s.below.block B (heap_lt hI.hc)).trans hI.hc)).2.2.2.2.2.2.2.2.2.2.1, H3.out.e10]
      have c3 : ∀ s : Seen W', s.val.cell? ⟨B + 1, 0, none⟩ = some (.slice va n vc) := fun s => (hI.hd.below s.below).cell
      have cv : ∀ s : Seen W', (convert 24 9 (.slice ua x.2.length uc)).run Try.prog s.val = .ok (.string (bs x.2)) s.val := fun s => (hu.below s.below).str
      have cw : ∀ s : Seen W', (convert 24 9 pv).run Try.prog s.val = .ok (.string (bs x.2)) s.val := fun s => (hpv.below s.below).str
      have G1 := Lib.hid g1
      obtain ⟨t, ht⟩ : ∃ t, t = bs x.2 := ⟨_, rfl⟩
      rw [← ht] at cv cw
      obtain ⟨a, ha⟩ : ∃ a, a = x.1 := ⟨_, rfl⟩
      obtain ⟨z, hz⟩ : ∃ z, z = x.2.length := ⟨_, rfl⟩
      obtain ⟨k, hk⟩ : ∃ k, k = pr.length := ⟨_, rfl⟩
      rw [← hz] at hsl cv HLS HSS g3 g4 g5 ⊢
      rw [← ha] at hsl c0 g5 G1 ⊢
      rw [Int.natCast_add] at hsl
      rw [← hk] at hpl
      have HK := Lib.hid hk
      have HSZ := Lib.hid (show gb + 3 ≤ W'.heap.size by have := HZ6.out; omega)
      have HAB := Lib.hid (show a + z ≤ n by have := HN.out; omega)
      have hab := HAB.out
      have hk1 : k ≤ 1000001 := by have := HYL.out; omega
      have e1 : decide ((z : Int) < 1) = false := by rw [decide_eq_false_iff_not]; omega
      have e2 : decide (z < 1) = false := by rw [decide_eq_false_iff_not]; omega
      have e3 : decide ((M : Int) < (z : Int)) = false := by rw [decide_eq_false_iff_not]; omega
      have e4 : decide (M < z) = false := by rw [decide_eq_false_iff_not]; omega
      clear hI hES hnF hx hsz hx2 hu hpv hpl hprx ht ha hz hk g1 g2 g3 g4 g5 g6
      gi_wp2
      refine wpIn_round_seen_tail 30 (by kernel_rfl) (by kernel_rfl) (by kernel_rfl) ?_
      simp only [List.take_succ_cons, List.take_zero, List.drop_succ_cons, List.drop_zero]
      repeat go_big_quiet_step (fail)
      refine wpQuiet_nil ?_
      rintro _ ⟨ms, rfl⟩
      have K7 := Lib.hid ms.below
      have HI7 := Lib.hid (HI1.out.keep (Only.of_below (S := fun k => gb + 3 ≤ k) ms.below (fun k h1 h2 => by have := HSZ.out; omega)) (fun k hk => hk) HBG.out)
      generalize ms.val = w7 at *
      clear c0 c1 c2 c3 cv cw hsl hab HI1
      have hn7 := HI7.out.hn
      rw [← HK.out] at hn7
      have hb7 := HI7.out.hb
      rw [← G1.out] at hb7
      have d0 : w7.cell? ⟨B, 8, none⟩ = some (.int .i64 (l : Int)) := by rw [(conf_c HI7.out.hc).2.2.2.2.2.2.2.2.1, H3.out.e8]
      have d1 : w7.frozen? ⟨gb + 1 + 1, 0, none⟩ = false := HI7.out.he.free
      have d2 : w7.cell? ⟨gb + 1 + 1, 0, none⟩ = some (.bool (shortL l pr)) := HI7.out.he.cell
      have d3 : ∀ v, (w7.setCell ⟨gb + 1 + 1, 0, none⟩ v).frozen? ⟨gb + 1, 0, none⟩ = false := fun v => (hb7.set (by omega) v).free
      have d6 : ∀ v, (w7.setCell ⟨gb + 1 + 1, 0, none⟩ v).cell? ⟨gb + 1, 0, none⟩ = some (.int .i64 (a : Int)) := fun v => (hb7.set (by omega) v).cell
      have d4 : ∀ v v', ((w7.setCell ⟨gb + 1 + 1, 0, none⟩ v).setCell ⟨gb + 1, 0, none⟩ v').frozen? ⟨gb, 0, none⟩ = false := fun v v' => ((hn7.set (c := gb + 1 + 1) (by omega) v).set (by omega) v').free
      have d5 : ∀ v v', ((w7.setCell ⟨gb + 1 + 1, 0, none⟩ v).setCell ⟨gb + 1, 0, none⟩ v').cell? ⟨gb, 0, none⟩ = some (.int .i64 (k : Int)) := fun v v' => ((hn7.set (c := gb + 1 + 1) (by omega) v).set (by omega) v').cell
      have hab := HAB.out
      gi_wp2_with fail
      clear d0 d1 d2 d3 d4 d5 d6 e1 e2 e3 e4
      have HON := Lib.hid (show Only S W' (((w7.setCell ⟨gb + 1 + 1, 0, none⟩ (.bool (decide (z < l)))).setCell ⟨gb + 1, 0, none⟩ (.int .i64 ((a : Int) + (z : Int)))).setCell ⟨gb, 0, none⟩ (.int .i64 ((k : Int) + 1))) from
        (((Only.of_below (S := S) K7.out (fun j h1 h2 => (show False by omega).elim)).setCell (p := ⟨gb + 1 + 1, 0, none⟩) (.inl ((HI7.out.hS _).2 (.inr (.inr rfl)))) _).setCell (p := ⟨gb + 1, 0, none⟩) (.inl ((HI7.out.hS _).2 (.inr (.inl rfl)))) _).setCell (p := ⟨gb, 0, none⟩) (.inl ((HI7.out.hS _).2 (.inl rfl))) _)
      have hbg := HBG.out
      have hsz := HSZ.out
      refine ⟨HON.out.mono fun j _ hj => .inl hj, HES.out.keep HON.out HNF.out, S, fun j hj => ⟨.inl hj, ?_⟩, HI7.out.hS, HPX.out, ?_, ?_, ?_, ?_, ?_, ?_, ?_⟩
      · have h1 := HON.out.size
        have h2 := (HI7.out.hS j).1 hj
        omega
      · exact (heap_set_other (by omega) _).trans ((heap_set_other (by omega) _).trans ((heap_set_other (by omega) _).trans HI7.out.hc))
      · exact ((HI7.out.hd.set (by omega) _).set (by omega) _).set (by omega) _
      · exact ((HI7.out.hr.set (by omega) _).set (by omega) _).set (by omega) _
      · have h := ((hn7.set (c := gb + 1 + 1) (o := 0) (by omega) (.bool (decide (z < l)))).set (c := gb + 1) (o := 0) (by omega) (.int .i64 ((a : Int) + (z : Int)))).put (.int .i64 ((k : Int) + 1))
        rw [List.length_append, List.length_singleton, ← HK.out]
        exact h
      · have h := ((hb7.set (c := gb + 1 + 1) (o := 0) (by omega) (.bool (decide (z < l)))).put (.int .i64 ((a : Int) + (z : Int)))).set (c := gb) (o := 0) (by omega) (.int .i64 ((k : Int) + 1))
        rw [HLS.out, ← G1.out]
        exact h
      · have h := ((HI7.out.he.put (.bool (decide (z < l)))).set (c := gb + 1) (o := 0) (by omega) (.int .i64 ((a : Int) + (z : Int)))).set (c := gb) (o := 0) (by omega) (.int .i64 ((k : Int) + 1))
        rw [HSS.out]
        exact h
      · exact ((HI7.out.hbel.setCell (p := ⟨gb + 1 + 1, 0, none⟩) (by show B ≤ gb + 1 + 1; omega) _).setCell (p := ⟨gb + 1, 0, none⟩) (by show B ≤ gb + 1; omega) _).setCell (p := ⟨gb, 0, none⟩) (by show B ≤ gb; omega) _
    case done =>
      rintro Dm S V hDm hI _ hK hsd
      have HI1 := Lib.hid hI
      have HK := Lib.hid hK
      have HDM := Lib.hid hDm
      have hb1 := hI.hb
      rw [HPF.out.2.1, ← HN.out] at hb1
      obtain ⟨yl, hyl⟩ : ∃ yl, yl = Y.length := ⟨_, rfl⟩
      have hn1 := hI.hn
      rw [← hyl] at hn1
      have hz : yl = 0 ↔ n = 0 := by
        have h := HPF.out.2.2
        rw [hyl, HN.out, List.length_eq_zero_iff, List.length_eq_zero_iff]
        exact h
      have d0 := hb1.cell
      have d1 := hn1.cell
      have d2 := hI.hd.cell
      have d3 := hI.hr.cell
      have d4 := hI.hr.free
      have he1 : ((yl : Int) == 0) = ((n : Int) == 0) := by
        rw [Bool.eq_iff_iff, beq_iff_eq, beq_iff_eq]
        omega
      have hr8 := Lib.hid (show Vr (B + 1 + 1) (.bool true) 4 ((V.setCell ⟨B + 1 + 1, 0, none⟩ (.bool true)).putObj Dm (.deferred none)) from (World.putObj_heap_other (by have := HBG.out; have := HZ6.out; omega)).trans (hI.hr.put (.bool true)))
      have hk8 := Lib.hid (show (V.setCell ⟨B + 1 + 1, 0, none⟩ (.bool true)).heap[Dm]? = some (.deferred (some [])) from (heap_set_other (by have := HBG.out; have := HZ6.out; omega) _).trans hK)
      have hb8 := Lib.hid (show Below B w (V.setCell ⟨B + 1 + 1, 0, none⟩ (.bool true)) from hI.hbel.setCell (p := ⟨B + 1 + 1, 0, none⟩) (by show B ≤ B + 1 + 1; omega) _)
      clear hI hK hDm hyl
      go_wp2_with fail
      have r1 := hr8.out.cell
      refine ⟨by simp, .inl ⟨_, _, rfl, run_takeDeferred hk8.out, ?_⟩⟩
      refine ⟨.bool true, ?_, rfl, ?_⟩
      · simp [results, Try.f5, go_sem, r1]
      · exact hb8.out.grown (grownBy_putObj' _ Dm (.deferred none)) (by have := heap_lt hk8.out; have := HBG.out; have := HZ6.out; have := HDM.out; omega) (fun k e => by cases e; have := HDM.out; have := HZ6.out; have := HBG.out; omega)
    case stop =>
      rintro Dm cc pr V hDm hA hK
      exact hA.elim
end Go.Proofs.Ytcjpemkafncihaa
/- A conf, and bytes, that come in. -/
set_option linter.unusedVariables false
set_option maxRecDepth 100000
namespace Go.Proofs.Ytcjpemkafncihaa
open Go.ChangeShapes Go.WideShapes Go.Deep
open Go.RowKit (Below)

/-- A number of 64 bits. -/
def i64R (z : Int) : Prop := -9223372036854775808 ≤ z ∧ z ≤ 9223372036854775807
section
variable {H : Type} {enc : TypeId × Value → H} {w : World} {base : Nat} {spare : Nat → Bool} {held : Bool}
/-- A struct of one-cell fields, field by field. -/
theorem fields_read {P : Program} {t : TypeId} {fs : Array Field} {fuel : Nat} {cs : List Value} {x : DataW H × List MemPlace} (hs : P.underlying t = some (.struct fs)) (hone : oneCellFields P fs = true) (hC : P.cellsOf t = fs.size)
    (h : DataW.trod enc P w base spare held fuel t cs = some x) : cs.length = fs.size ∧ ∃ n, ∀ (j : Nat) (f : Field), fs[j]? = some f → ∃ v y, cs[j]? = some v ∧ DataW.trod enc P w base spare held n f.type [v] = some y := by
  obtain ⟨xs, n, _, _, hlen, hxl, hg⟩ := DataW.trod_struct hs h
  refine ⟨hlen.trans hC, n, fun j f hj => ?_⟩
  obtain ⟨ho, hk⟩ := hone_of hone j f hj
  have hjs : j < fs.size := (Array.getElem?_eq_some_iff.1 hj).1
  have hjc : j < cs.length := by omega
  have hjx : j < xs.length := by omega
  have h1 := hg j f hj
  rw [ho, hk, List.getElem?_eq_getElem hjx] at h1
  have h2 : (cs.drop j).take 1 = [cs[j]] := by rw [List.drop_eq_getElem_cons hjc]; rfl
  rw [h2] at h1
  exact ⟨cs[j], xs[j], List.getElem?_eq_getElem hjc, h1⟩
theorem map_some {α β : Type} {o : Option α} {f : α → β} {b : β} (h : o.map f = some b) : ∃ a, o = some a ∧ f a = b := by
  cases o with
  | none => cases h
  | some a => exact ⟨a, rfl, by injection h⟩
theorem int_field {n : Nat} {v : Value} {y : DataW H × List MemPlace} {t : TypeId} (ht : t = 3) (h : DataW.trod enc Try.prog w base spare held n t [v] = some y) : ∃ z, v = .int .i64 z ∧ i64R z := by
  subst ht
  obtain ⟨z, h1, _, h2⟩ := DataW.trod_int Try.underlying3 h
  exact ⟨z, by injection h1, by simp [Lit.wf, IntKind.min, IntKind.max, IntKind.signed, IntKind.bits] at h2; exact ⟨by omega, by omega⟩⟩
theorem oneC : ∃ fs, Try.prog.underlying 23 = some (.struct fs) ∧ oneCellFields Try.prog fs = true ∧ Try.prog.cellsOf 23 = fs.size ∧ fs.size = 12 ∧ ∀ j, j < 12 → (fs[j]?.map (·.type)) = some 3 :=
  ⟨_, Try.underlying23, by kernel_rfl, by kernel_rfl, by kernel_rfl, fun j hj => by
    have : j = 0 ∨ j = 1 ∨ j = 2 ∨ j = 3 ∨ j = 4 ∨ j = 5 ∨ j = 6 ∨ j = 7 ∨ j = 8 ∨ j = 9 ∨ j = 10 ∨ j = 11 := by omega
    rcases this with rfl | rfl | rfl | rfl | rfl | rfl | rfl | rfl | rfl | rfl | rfl | rfl <;> rfl⟩
/-- A conf that comes in. -/
theorem conf_read {fuel : Nat} {cs : List Value} {x : DataW H × List MemPlace} (h : DataW.trod enc Try.prog w base spare held fuel 23 cs = some x) : ∃ c : Conf, cs = c.cells.toList := by
  obtain ⟨fs, hs, hone, hC, h12, ht⟩ := oneC
  obtain ⟨hlen, n, hf⟩ := fields_read hs hone hC h
  have hv : ∀ j, j < 12 → ∃ z : Int, cs[j]? = some (.int .i64 z) ∧ i64R z := fun j hj => by
    obtain ⟨f, e, g⟩ := map_some (ht j hj)
    obtain ⟨v, y, c, r⟩ := hf j f e
    obtain ⟨z, rfl, hz⟩ := int_field g r
    exact ⟨z, c, hz⟩
  obtain ⟨V, hV⟩ := choose_lt (α := Int) hv
  have hfit : ∀ i, -9223372036854775808 ≤ (if i < 12 then V i else 0) ∧ (if i < 12 then V i else 0) ≤ 9223372036854775807 := fun i => by
    by_cases hi : i < 12
    · have := (hV i hi).2
      simp only [hi, if_true]
      exact this
    · simp only [hi, if_false]
      omega
  refine ⟨⟨fun i => if i < 12 then V i else 0, hfit⟩, ?_⟩
  · apply List.ext_getElem?
    intro j
    by_cases hj : j < 12
    · rw [(hV j hj).1]
      have : j = 0 ∨ j = 1 ∨ j = 2 ∨ j = 3 ∨ j = 4 ∨ j = 5 ∨ j = 6 ∨ j = 7 ∨ j = 8 ∨ j = 9 ∨ j = 10 ∨ j = 11 := by omega
      rcases this with rfl | rfl | rfl | rfl | rfl | rfl | rfl | rfl | rfl | rfl | rfl | rfl <;> rfl
    · rw [List.getElem?_eq_none (by omega), List.getElem?_eq_none (by simp [Conf.cells]; omega)]
theorem byte_read {fuel : Nat} {cs : List Value} {x : DataW H × List MemPlace} (h : DataW.trod enc Try.prog w base spare held fuel 5 cs = some x) : ∃ b : UInt8, cs = [byteV b] := by
  obtain ⟨z, h1, _, h2⟩ := DataW.trod_int Try.underlying5 h
  simp [Lit.wf, IntKind.min, IntKind.max, IntKind.signed, IntKind.bits] at h2
  refine ⟨UInt8.ofNat z.toNat, ?_⟩
  rw [h1]
  unfold byteV
  rw [ofNat_toNat]
  congr 2
  omega
/-- Bytes that come in. -/
theorem bytes_read {fuel : Nat} {cs : List Value} {x : DataW H × List MemPlace} (h : DataW.trod enc Try.prog w base spare held fuel 24 cs = some x) : ∃ v D, cs = [v] ∧ BsV (fun b => b < w.heap.size) w v D ∧ D.length ≤ 9223372036854775807 := by
  rcases open_slice Try.underlying24 h with ⟨hcs, _⟩ | ⟨a, len, cap, m, n, D, Pl, hcs, _, hl, hm, hmm, _, hi⟩
  · exact ⟨_, [], hcs, .inl ⟨rfl, rfl⟩, by simp⟩
  · have hlm : len ≤ m := by rw [hmm]; split <;> omega
    have hC : Try.prog.cellsOf 5 = 1 := by kernel_rfl
    have hcell : ∀ i, i < len → ∃ b : UInt8, w.cell? (a.add i) = some (byteV b) := by
      intro i hil
      obtain ⟨cs', hc, ht⟩ := hi i (by omega)
      rw [hC, Nat.mul_one] at hc
      obtain ⟨_, hcl, hat⟩ := World.cells?_some hc
      obtain ⟨b, rfl⟩ := byte_read ht
      have := hat 0 (by omega)
      refine ⟨b, ?_⟩
      simpa [Addr.add] using this
    obtain ⟨V, hV⟩ := choose_lt (α := UInt8) hcell
    refine ⟨_, (List.range len).map V, hcs, .inr ⟨a, cap, by simp, by simpa using hl, ?_⟩, by simp; unfold maxLen at hm; omega⟩
    by_cases h0 : len = 0
    · left; subst h0; rfl
    · right
      have c00 := hV 0 (by omega)
      have ha : ∃ b off, a = ⟨b, off, none⟩ := by
        obtain ⟨b, off, spot⟩ := a
        have := World.cell?_spot (v := byteV (V 0)) c00
        have hs : spot = none := by simpa [Addr.add] using this
        subst hs
        exact ⟨b, off, rfl⟩
      obtain ⟨b, off, rfl⟩ := ha
      have hb : b < w.heap.size := cell_block (v := byteV (V 0)) (by simpa [Addr.add] using c00)
      refine ⟨b, off, rfl, hb, hb, fun k hk => ?_⟩
      have hk' : k < len := by simpa using hk
      have q := hV k hk'
      rw [addr_add] at q
      rw [q]
      simp [hk']
end
theorem open_conf {H : Type} {enc : TypeId × Value → H} {W : World} {d : DataW H} {p : List MemPlace} {cs : Array Value} (h : DataW.Trod enc Try.prog W 0 (fun _ => true) true 23 (.agg cs) d p) : ∃ c : Conf, cs = c.cells := by
  obtain ⟨n, hn⟩ := h
  obtain ⟨c, hc⟩ := conf_read hn
  exact ⟨c, by rw [← Array.toList_inj]; simpa [Value.cells] using hc⟩
theorem open_bts {H : Type} {enc : TypeId × Value → H} {W : World} {d : DataW H} {p : List MemPlace} {a : Option Addr} {len cap : Nat} (h : DataW.Trod enc Try.prog W 0 (fun _ => true) true 24 (.slice a len cap) d p) : ∃ D, BsV (fun b => b < W.heap.size) W (.slice a len cap) D ∧ D.length ≤ 9223372036854775807 := by
  obtain ⟨n, hn⟩ := h
  obtain ⟨v, D, e, h1, h2⟩ := bytes_read hn
  have : v = .slice a len cap := by simpa [Value.cells] using e.symm
  subst this
  exact ⟨D, h1, h2⟩
theorem bytesU8 : Try.prog.bytesOf 5 = 1 := by kernel_rfl
/-- Bytes that come in are no more than the row's own reach allows. -/
theorem open_btz {H : Type} {enc : TypeId × Value → H} {W : World} {d : DataW H} {p : List MemPlace} {a : Option Addr} {len cap : Nat} (h : DataW.Trod enc Try.prog W 0 (fun _ => true) true 24 (.slice a len cap) d p)
    (hz : ∀ n ∈ d.weights Try.prog 24, n ≤ reachBytes) : ∃ D, BsV (fun b => b < W.heap.size) W (.slice a len cap) D ∧ D.length ≤ 140737488351232 := by
  obtain ⟨D, h1, -⟩ := open_bts h
  refine ⟨D, h1, ?_⟩
  have hD : D.length = len := by
    obtain ⟨a', c', e⟩ := h1.slice
    injection e with _ e _
    exact e.symm
  rw [hD]
  obtain ⟨fuel, hf⟩ := h
  rcases open_slice Try.underlying24 hf with ⟨hcs, _⟩ | ⟨a', len', cap', m, n, D', Pl, hcs, _, hl, hm, hmm, hx, _⟩
  · simp [Value.cells] at hcs
    omega
  · simp [Value.cells] at hcs
    obtain ⟨rfl, rfl, rfl⟩ := hcs
    injection hx with hx _
    subst hx
    have h1 : (((List.range len).map D').length + ((List.range (m - len)).map fun j => D' (len + j)).length) * Try.prog.bytesOf 5 ∈ DataW.weights Try.prog 24 (DataW.slice ((List.range len).map D') ((List.range (m - len)).map fun j => D' (len + j))) := by
      simp only [DataW.weights, Try.underlying24, List.mem_cons]
      exact .inl trivial
    have h2 := hz _ h1
    rw [bytesU8, List.length_map, List.length_range] at h2
    unfold reachBytes at h2
    omega
end Go.Proofs.Ytcjpemkafncihaa
