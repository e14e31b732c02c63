/- Texts put together: ChunkMeetsWalk, ChunkOpen -/
import Derived.Test.YtcjpemkafncihaaCMee05
import Derived.Test.YtcjpemkafncihaaCMee01
import Derived.Deep.Slices
import Derived.Deep.Fields
import Derived.ChangeSame
import Derived.SizedLaws
/- ChunkMeets, walked: texts that end alike have the same chunks from the first place on at which both have an end of a chunk. -/
set_option linter.unusedVariables false
set_option maxRecDepth 100000
namespace Go.Proofs.Ytcjpemkafncihaa
open Go.RowKit

set_option maxHeartbeats 16000000 in
theorem meets_walk {c : Conf} {va vb vt : Value} {A Bs T : List UInt8} {w : World} (ha : Hid (BsV (fun b => b < w.heap.size) w va A)) (hb : Hid (BsV (fun b => b < w.heap.size) w vb Bs)) (ht : Hid (BsV (fun b => b < w.heap.size) w vt T)) (hA : A.length ≤ 140737488351232) (hBs : Bs.length ≤ 140737488351232) (hT : T.length ≤ 140737488351232) :
    Calls Try.prog 6 #[.agg c.cells, va, vb, vt] w fun e w' => e = .returned (.bool true) ∧ Below w.heap.size w w' := by
  obtain ⟨aa, ac, rfl⟩ := ha.out.slice
  obtain ⟨ba, bc, rfl⟩ := hb.out.slice
  obtain ⟨ta, tc, rfl⟩ := ht.out.slice
  obtain ⟨B, hB⟩ : ∃ B, B = w.heap.size := ⟨_, rfl⟩
  rw [← hB]
  have HB := Lib.hid hB
  obtain ⟨w1, hw1⟩ : ∃ w1, w.alloc (.cells c.cells 23) = w1 := ⟨_, rfl⟩
  have K1 := Lib.hid (show Below B w w1 by rw [← hw1, hB]; exact (Below.refl _ _).alloc (Nat.le_refl _) _)
  have X1 := Lib.hid (show w1.heap[B]? = some (.cells c.cells 23 (0, 0)) by rw [← hw1, hB]; exact heap_new w _)
  have HW1 := Lib.hid hw1
  clear hw1 hB
  obtain ⟨la, hla⟩ : ∃ n, n = A.length := ⟨_, rfl⟩
  obtain ⟨lb, hlb⟩ : ∃ n, n = Bs.length := ⟨_, rfl⟩
  obtain ⟨lt, hlt⟩ : ∃ n, n = T.length := ⟨_, rfl⟩
  have HLA := Lib.hid hla
  have HLB := Lib.hid hlb
  have HLT := Lib.hid hlt
  rw [← hla] at hA
  rw [← hlb] at hBs
  rw [← hlt] at hT
  have HA := Lib.hid (fun (W : World) (k : Below B w W) => ha.out.below (HB.out ▸ k))
  have HBb := Lib.hid (fun (W : World) (k : Below B w W) => hb.out.below (HB.out ▸ k))
  have HT := Lib.hid (fun (W : World) (k : Below B w W) => ht.out.below (HB.out ▸ k))
  rw [← hla] at HA ⊢
  rw [← hlb] at HBb ⊢
  rw [← hlt] at HT ⊢
  clear hla hlb hlt ha hb ht
  obtain ⟨i0, hi0, hz0, hz1, hz2⟩ := info_parts infoByte
  have HI := Lib.hid (And.intro hi0 (And.intro hz0 (And.intro hz1 hz2)))
  clear hi0 hz0 hz1 hz2
  go_enter Try.func6, Try.ntmps6
  go_upto_region 1 with (fail)
  rw [HW1.out, ← HB.out]
  go_wp2_with fail
  refine (law_awake16 w1).mono ?_
  rintro e w2 ⟨rfl, k2⟩
  have K2 := Lib.hid (K1.out.trans (k2.mono (Nat.le_of_lt (heap_lt X1.out))))
  have X2 := Lib.hid ((k2.block B (heap_lt X1.out)).trans X1.out)
  clear k2
  by_cases hlong : 30000 < la + lb + lt
  · have q1 : decide ((30000 : Int) < (la : Int) + (lb : Int) + (lt : Int)) = true := by rw [decide_eq_true_eq]; omega
    have q2 : decide (30000 < la + lb + lt) = true := by rw [decide_eq_true_eq]; omega
    clear hlong
    go_wp2_with fail
    refine (law_awake16 w2).mono ?_
    rintro e w3 ⟨rfl, k3⟩
    have K3 := Lib.hid (K2.out.trans (k3.mono (Nat.le_of_lt (heap_lt X2.out))))
    clear k3
    go_wp2
    go_ret
    exact ⟨rfl, K3.out⟩
  · have q1 : decide ((30000 : Int) < (la : Int) + (lb : Int) + (lt : Int)) = false := by rw [decide_eq_false_iff_not]; omega
    have q2 : decide (30000 < la + lb + lt) = false := by rw [decide_eq_false_iff_not]; omega
    have hall : la + lb + lt ≤ 30000 := by omega
    clear hlong
    obtain ⟨q0, q1', q2', q3, q4, q5, q6, q7, q8, q9, q10, q11⟩ := conf_c X2.out
    go_wp2_with fail
    have HRI := Lib.hid (law_right c w2)
    unfold Conf.cells at HRI
    refine HRI.out.mono ?_
    rintro e w3 ⟨c', l, m, M, rfl, h3, k3⟩
    have H3 := Lib.hid h3
    have K3 := Lib.hid (K2.out.trans (k3.mono (Nat.le_of_lt (heap_lt X2.out))))
    have X3 := Lib.hid ((k3.block B (heap_lt X2.out)).trans X2.out)
    clear h3 k3 q0 q1' q2' q3 q4 q5 q6 q7 q8 q9 q10 q11 HRI
    obtain ⟨q0, q1', q2', q3, q4, q5, q6, q7, q8, q9, q10, q11⟩ := conf_c X3.out
    have qf : ∀ j, w3.frozen? ⟨B, j, none⟩ = false := fun j => by simp [World.frozen?, X3.out]
    obtain ⟨w4, hw4⟩ : ∃ w4, w4 = ((((((((((((w3.setCell ⟨B, 0, none⟩ (.int .i64 (c'.f 0))).setCell ⟨B, 1, none⟩ (.int .i64 (c'.f 1))).setCell ⟨B, 2, none⟩ (.int .i64 (c'.f 2))).setCell ⟨B, 3, none⟩ (.int .i64 (c'.f 3))).setCell ⟨B, 4, none⟩ (.int .i64 (c'.f 4))).setCell ⟨B, 5, none⟩ (.int .i64 (c'.f 5))).setCell ⟨B, 6, none⟩ (.int .i64 (c'.f 6))).setCell ⟨B, 7, none⟩ (.int .i64 (c'.f 7))).setCell ⟨B, 8, none⟩ (.int .i64 (c'.f 8))).setCell ⟨B, 9, none⟩ (.int .i64 (c'.f 9))).setCell ⟨B, 10, none⟩ (.int .i64 (c'.f 10))).setCell ⟨B, 11, none⟩ (.int .i64 (c'.f 11))) := ⟨_, rfl⟩
    have X4 := Lib.hid (show w4.heap[B]? = some (.cells c'.cells 23 (0, 0)) by rw [hw4]; exact put12 _ _ _ _ _ _ _ _ _ _ _ _ X3.out)
    have K4 := Lib.hid (show Below B w w4 by rw [hw4]; exact ((((((((((((K3.out.setCell (p := ⟨B, 0, none⟩) (Nat.le_refl _) (.int .i64 (c'.f 0))).setCell (p := ⟨B, 1, none⟩) (Nat.le_refl _) (.int .i64 (c'.f 1))).setCell (p := ⟨B, 2, none⟩) (Nat.le_refl _) (.int .i64 (c'.f 2))).setCell (p := ⟨B, 3, none⟩) (Nat.le_refl _) (.int .i64 (c'.f 3))).setCell (p := ⟨B, 4, none⟩) (Nat.le_refl _) (.int .i64 (c'.f 4))).setCell (p := ⟨B, 5, none⟩) (Nat.le_refl _) (.int .i64 (c'.f 5))).setCell (p := ⟨B, 6, none⟩) (Nat.le_refl _) (.int .i64 (c'.f 6))).setCell (p := ⟨B, 7, none⟩) (Nat.le_refl _) (.int .i64 (c'.f 7))).setCell (p := ⟨B, 8, none⟩) (Nat.le_refl _) (.int .i64 (c'.f 8))).setCell (p := ⟨B, 9, none⟩) (Nat.le_refl _) (.int .i64 (c'.f 9))).setCell (p := ⟨B, 10, none⟩) (Nat.le_refl _) (.int .i64 (c'.f 10))).setCell (p := ⟨B, 11, none⟩) (Nat.le_refl _) (.int .i64 (c'.f 11))))
    have HW4 := Lib.hid hw4
    clear hw4
    simp only [Conf.cells]
    go_upto_region 4 with (fail)
    rw [← HW4.out]
    clear q0 q1' q2' q3 q4 q5 q6 q7 q8 q9 q10 q11 qf
    refine wp_region_kept (fun W => Below w4.heap.size w4 W) (by kernel_rfl) ?_
    change wpAnyE _ _ _ _ _ _ _ _ _ w4.drew
    have hS : Below w4.heap.size w4 w4.drew := (Below.refl _ _).drew
    generalize w4.drew = x1 at *
    refine kept_take (i := 0) (d := 34) (v := (.agg #[.int .i64 (c'.f 0), .int .i64 (c'.f 1), .int .i64 (c'.f 2), .int .i64 (c'.f 3), .int .i64 (c'.f 4), .int .i64 (c'.f 5), .int .i64 (c'.f 6), .int .i64 (c'.f 7), .int .i64 (c'.f 8), .int .i64 (c'.f 9), .int .i64 (c'.f 10), .int .i64 (c'.f 11)])) rfl rfl (by kernel_rfl) (by kernel_rfl) (by kernel_rfl) (fun _ _ _ h => h) (Or.inl ⟨by rfl, ?_⟩) hS ?_
    · intro w' hw'
      obtain ⟨q0, q1, q2, q3, q4, q5, q6, q7, q8, q9, q10, q11⟩ := conf_c ((hw'.block B (heap_lt X4.out)).trans X4.out)
      go_simp
    try go_frame
    refine kept_take (i := 2) (d := 36) (v := (.slice aa la ac)) rfl rfl (by kernel_rfl) (by kernel_rfl) (by kernel_rfl) (fun _ _ _ h => h) (Or.inl ⟨by rfl, ?_⟩) hS ?_
    · intro w' hw'
      go_simp
    try go_frame
    refine kept_take (i := 4) (d := 38) (v := (.slice ta lt tc)) rfl rfl (by kernel_rfl) (by kernel_rfl) (by kernel_rfl) (fun _ _ _ h => h) (Or.inl ⟨by rfl, ?_⟩) hS ?_
    · intro w' hw'
      go_simp
    try go_frame
    refine wpAnyE_ready (rs := [1]) (by kernel_rfl) (by simp) (AllE.cons rfl (fun K hK0 => ?_) AllE.nil)
    go_simp
    have hS2 : Below w4.heap.size w4 (x1.alloc (.cells #[] 5)) := hS.alloc hS.size _
    have HE2 := Lib.hid (off_empty x1 (B := B + 1) (by have := hS.size; have := heap_lt X4.out; omega) 5 1)
    obtain ⟨xb, hxb⟩ : ∃ x, x = x1.heap.size := ⟨_, rfl⟩
    rw [← hxb] at HE2 ⊢
    have HxB := Lib.hid (show B + 1 ≤ xb ∧ w4.heap.size ≤ xb by have := hS.size; have := heap_lt X4.out; omega)
    refine hK0.out _ _ (fun _ => hS2) (fun _ => ?_)
    clear hK0 K hS hxb
    have hS := hS2
    clear hS2
    generalize x1.alloc (.cells #[] 5) = x2 at *
    try go_frame
    refine wpAnyE_ready (rs := [3]) (by kernel_rfl) (by simp) (AllE.cons rfl (fun K hK0 => ?_) AllE.nil)
    rw [if_pos (by rfl)]
    have hsrc := (HA.out _ (K4.out.trans (hS.mono (by have := heap_lt X4.out; omega)))).src
    rw [← HLA.out] at hsrc
    have hsz2 := hS.size
    have hxl := heap_lt X4.out
    refine wp_append_off (.tmp 35) (.tmp 36) 24 rfl (B + 1) 5 i0 _ 1 1 Try.underlying24 HI.out.1 HI.out.2.1 HI.out.2.2.1 HI.out.2.2.2 rfl (.slice (some ⟨xb, 0, none⟩) 0 0) 0 [] rfl HE2.out (.slice aa la ac) rfl la (A.map byteV) hsrc (by unfold maxLen; omega) (by omega) (by omega) ?_
    intro xv3 x3 hr3 hg3 hat3
    have hr3' : OffRow x3 (B + 1) 5 1 xv3 la (A.map byteV) := by simpa using hr3
    have hS2 : Below w4.heap.size w4 x3 := hS.grown hg3 hS.size (fun k hk => by simp [Value.ownBlock] at hk; have := HxB.out; omega)
    have hv3 : ∀ k, xv3.ownBlock = some k → w4.heap.size ≤ k := fun k hk => by
      rcases hat3 with h | h
      · rw [h] at hk; simp [Value.ownBlock] at hk; have := HxB.out; omega
      · rw [h] at hk; injection hk with hk; omega
    obtain ⟨ra, rc, rfl⟩ := OffRow.slice hr3'
    have HR3 := Lib.hid hr3'
    have HV3 := Lib.hid hv3
    refine hK0.out _ _ (fun _ => hS2) (fun _ => ?_)
    clear hK0 K hS hsrc hsz2 hxl hr3 hg3 hat3 hr3' hv3 HE2
    have hS := hS2
    clear hS2
    try go_frame
    refine wpAnyE_ready (rs := [5]) (by kernel_rfl) (by simp) (AllE.cons rfl (fun K hK0 => ?_) AllE.nil)
    rw [if_pos (by rfl)]
    have hsrc := (HT.out _ (K4.out.trans (hS.mono (by have := heap_lt X4.out; omega)))).src
    rw [← HLT.out] at hsrc
    have hsz2 := hS.size
    have hxl := heap_lt X4.out
    refine wp_append_off (.tmp 37) (.tmp 38) 24 rfl (B + 1) 5 i0 _ 1 1 Try.underlying24 HI.out.1 HI.out.2.1 HI.out.2.2.1 HI.out.2.2.2 rfl (.slice ra la rc) la (A.map byteV) rfl HR3.out (.slice ta lt tc) rfl lt (T.map byteV) hsrc (by unfold maxLen; omega) (by omega) (by omega) ?_
    intro xv4 x4 hr4 hg4 hat4
    rw [← List.map_append] at hr4
    have hS2 : Below w4.heap.size w4 x4 := hS.grown hg4 hS.size (fun k hk => HV3.out k hk)
    have hlen : (A ++ T).length = la + lt := by rw [List.length_append, ← HLA.out, ← HLT.out]
    have HBV := Lib.hid (show BsV (fun b => B + 1 ≤ b) x4 xv4 (A ++ T) from BsV.of_own (by rw [hlen]; exact hr4))
    have HCT := Lib.hid (chk_Cut (c := c') H3 HBV (by rw [hlen]; omega))
    unfold Conf.cells at HCT
    obtain ⟨sa, sc, rfl⟩ := OffRow.slice hr4
    refine hK0.out _ _ (fun _ => hS2) (fun _ => ?_)
    clear hK0 K hS hsrc hsz2 hxl hr4 hg4 hat4 hlen HR3 HV3
    have hS := hS2
    clear hS2
    try go_frame
    refine wpAnyE_ready (rs := [6]) (by kernel_rfl) (by simp) (AllE.cons rfl (fun K hK0 => ?_) AllE.nil)
    go_simp
    refine Calls.mono HCT.out ?_
    rintro e x5 ⟨xv, rfl, hN, k5⟩
    have hS2 : Below w4.heap.size w4 x5 := hS.trans (k5.mono hS.size)
    have Nx := Lib.hid hN.ns
    obtain ⟨xa, xc, rfl⟩ := Nx.out.slice
    refine hK0.out _ _ (fun _ => hS2) (fun _ => ?_)
    clear hK0 K hS hN k5 HCT HBV
    have hS := hS2
    clear hS2
    try go_frame
    refine kept_take (i := 7) (d := 33) (v := (.tuple #[.slice xa (cutF ⟨l, m, M⟩ [] 0 (A ++ T)).length xc, .int .i64 0])) rfl rfl (by kernel_rfl) (by kernel_rfl) (by kernel_rfl) (fun _ _ _ h => h) (Or.inl ⟨by rfl, ?_⟩) hS ?_
    · intro w' hw'
      go_simp
    try go_frame
    refine kept_take (i := 8) (d := 41) (v := (.slice xa (cutF ⟨l, m, M⟩ [] 0 (A ++ T)).length xc)) rfl rfl (by kernel_rfl) (by kernel_rfl) (by kernel_rfl) (fun _ _ _ h => h) (Or.inl ⟨by rfl, ?_⟩) hS ?_
    · intro w' hw'
      go_simp
    try go_frame
    refine kept_take (i := 9) (d := 42) (v := (.int .i64 0)) rfl rfl (by kernel_rfl) (by kernel_rfl) (by kernel_rfl) (fun _ _ _ h => h) (Or.inl ⟨by rfl, ?_⟩) hS ?_
    · intro w' hw'
      go_simp
    try go_frame
    refine kept_take (i := 10) (d := 9) (v := (.slice xa (cutF ⟨l, m, M⟩ [] 0 (A ++ T)).length xc)) rfl rfl (by kernel_rfl) (by kernel_rfl) (by kernel_rfl) (fun _ _ _ h => h) (Or.inl ⟨by rfl, ?_⟩) hS ?_
    · intro w' hw'
      go_simp
    try go_frame
    refine kept_take (i := 11) (d := 10) (v := (.int .i64 0)) rfl rfl (by kernel_rfl) (by kernel_rfl) (by kernel_rfl) (fun _ _ _ h => h) (Or.inl ⟨by rfl, ?_⟩) hS ?_
    · intro w' hw'
      go_simp
    try go_frame
    refine wpAnyE_done (by kernel_rfl) ?_ _
    have Kx := Lib.hid (K4.out.trans (hS.mono (by have := heap_lt X4.out; omega)))
    have Xx := Lib.hid ((hS.block B (heap_lt X4.out)).trans X4.out)
    have Wx := Lib.hid hS
    clear hS
    go_upto_region 5 with (fail)
    refine wp_region_kept (fun W => Below x5.heap.size x5 W) (by kernel_rfl) ?_
    change wpAnyE _ _ _ _ _ _ _ _ _ x5.drew
    have hS : Below x5.heap.size x5 x5.drew := (Below.refl _ _).drew
    generalize x5.drew = y1 at *
    refine kept_take (i := 0) (d := 44) (v := (.agg #[.int .i64 (c'.f 0), .int .i64 (c'.f 1), .int .i64 (c'.f 2), .int .i64 (c'.f 3), .int .i64 (c'.f 4), .int .i64 (c'.f 5), .int .i64 (c'.f 6), .int .i64 (c'.f 7), .int .i64 (c'.f 8), .int .i64 (c'.f 9), .int .i64 (c'.f 10), .int .i64 (c'.f 11)])) rfl rfl (by kernel_rfl) (by kernel_rfl) (by kernel_rfl) (fun _ _ _ h => h) (Or.inl ⟨by rfl, ?_⟩) hS ?_
    · intro w' hw'
      obtain ⟨q0, q1, q2, q3, q4, q5, q6, q7, q8, q9, q10, q11⟩ := conf_c ((hw'.block B (heap_lt Xx.out)).trans Xx.out)
      go_simp
    try go_frame
    refine kept_take (i := 2) (d := 46) (v := (.slice ba lb bc)) rfl rfl (by kernel_rfl) (by kernel_rfl) (by kernel_rfl) (fun _ _ _ h => h) (Or.inl ⟨by rfl, ?_⟩) hS ?_
    · intro w' hw'
      go_simp
    try go_frame
    refine kept_take (i := 4) (d := 48) (v := (.slice ta lt tc)) rfl rfl (by kernel_rfl) (by kernel_rfl) (by kernel_rfl) (fun _ _ _ h => h) (Or.inl ⟨by rfl, ?_⟩) hS ?_
    · intro w' hw'
      go_simp
    try go_frame
    refine wpAnyE_ready (rs := [1]) (by kernel_rfl) (by simp) (AllE.cons rfl (fun K hK0 => ?_) AllE.nil)
    go_simp
    have hS2 : Below x5.heap.size x5 (y1.alloc (.cells #[] 5)) := hS.alloc hS.size _
    have HE2 := Lib.hid (off_empty y1 (B := B + 1) (by have := hS.size; have := heap_lt Xx.out; omega) 5 1)
    obtain ⟨yb, hyb⟩ : ∃ x, x = y1.heap.size := ⟨_, rfl⟩
    rw [← hyb] at HE2 ⊢
    have HyB := Lib.hid (show B + 1 ≤ yb ∧ x5.heap.size ≤ yb by have := hS.size; have := heap_lt Xx.out; omega)
    refine hK0.out _ _ (fun _ => hS2) (fun _ => ?_)
    clear hK0 K hS hyb
    have hS := hS2
    clear hS2
    generalize y1.alloc (.cells #[] 5) = y2 at *
    try go_frame
    refine wpAnyE_ready (rs := [3]) (by kernel_rfl) (by simp) (AllE.cons rfl (fun K hK0 => ?_) AllE.nil)
    rw [if_pos (by rfl)]
    have hsrc := (HBb.out _ (Kx.out.trans (hS.mono (by have := heap_lt Xx.out; omega)))).src
    rw [← HLB.out] at hsrc
    have hsz2 := hS.size
    have hxl := heap_lt Xx.out
    refine wp_append_off (.tmp 45) (.tmp 46) 24 rfl (B + 1) 5 i0 _ 1 1 Try.underlying24 HI.out.1 HI.out.2.1 HI.out.2.2.1 HI.out.2.2.2 rfl (.slice (some ⟨yb, 0, none⟩) 0 0) 0 [] rfl HE2.out (.slice ba lb bc) rfl lb (Bs.map byteV) hsrc (by unfold maxLen; omega) (by omega) (by omega) ?_
    intro yv3 y3 hr3 hg3 hat3
    have hr3' : OffRow y3 (B + 1) 5 1 yv3 lb (Bs.map byteV) := by simpa using hr3
    have hS2 : Below x5.heap.size x5 y3 := hS.grown hg3 hS.size (fun k hk => by simp [Value.ownBlock] at hk; have := HyB.out; omega)
    have hv3 : ∀ k, yv3.ownBlock = some k → x5.heap.size ≤ k := fun k hk => by
      rcases hat3 with h | h
      · rw [h] at hk; simp [Value.ownBlock] at hk; have := HyB.out; omega
      · rw [h] at hk; injection hk with hk; omega
    obtain ⟨ra, rc, rfl⟩ := OffRow.slice hr3'
    have HR3 := Lib.hid hr3'
    have HV3 := Lib.hid hv3
    refine hK0.out _ _ (fun _ => hS2) (fun _ => ?_)
    clear hK0 K hS hsrc hsz2 hxl hr3 hg3 hat3 hr3' hv3 HE2
    have hS := hS2
    clear hS2
    try go_frame
    refine wpAnyE_ready (rs := [5]) (by kernel_rfl) (by simp) (AllE.cons rfl (fun K hK0 => ?_) AllE.nil)
    rw [if_pos (by rfl)]
    have hsrc := (HT.out _ (Kx.out.trans (hS.mono (by have := heap_lt Xx.out; omega)))).src
    rw [← HLT.out] at hsrc
    have hsz2 := hS.size
    have hxl := heap_lt Xx.out
    refine wp_append_off (.tmp 47) (.tmp 48) 24 rfl (B + 1) 5 i0 _ 1 1 Try.underlying24 HI.out.1 HI.out.2.1 HI.out.2.2.1 HI.out.2.2.2 rfl (.slice ra lb rc) lb (Bs.map byteV) rfl HR3.out (.slice ta lt tc) rfl lt (T.map byteV) hsrc (by unfold maxLen; omega) (by omega) (by omega) ?_
    intro yv4 y4 hr4 hg4 hat4
    rw [← List.map_append] at hr4
    have hS2 : Below x5.heap.size x5 y4 := hS.grown hg4 hS.size (fun k hk => HV3.out k hk)
    have hlen : (Bs ++ T).length = lb + lt := by rw [List.length_append, ← HLB.out, ← HLT.out]
    have HBV := Lib.hid (show BsV (fun b => B + 1 ≤ b) y4 yv4 (Bs ++ T) from BsV.of_own (by rw [hlen]; exact hr4))
    have HCT := Lib.hid (chk_Cut (c := c') H3 HBV (by rw [hlen]; omega))
    unfold Conf.cells at HCT
    obtain ⟨sa, sc, rfl⟩ := OffRow.slice hr4
    refine hK0.out _ _ (fun _ => hS2) (fun _ => ?_)
    clear hK0 K hS hsrc hsz2 hxl hr4 hg4 hat4 hlen HR3 HV3
    have hS := hS2
    clear hS2
    try go_frame
    refine wpAnyE_ready (rs := [6]) (by kernel_rfl) (by simp) (AllE.cons rfl (fun K hK0 => ?_) AllE.nil)
    go_simp
    refine Calls.mono HCT.out ?_
    rintro e y5 ⟨yv, rfl, hN, k5⟩
    have hS2 : Below x5.heap.size x5 y5 := hS.trans (k5.mono hS.size)
    have Ny := Lib.hid hN.ns
    obtain ⟨ya, yc, rfl⟩ := Ny.out.slice
    refine hK0.out _ _ (fun _ => hS2) (fun _ => ?_)
    clear hK0 K hS hN k5 HCT HBV
    have hS := hS2
    clear hS2
    try go_frame
    refine kept_take (i := 7) (d := 43) (v := (.tuple #[.slice ya (cutF ⟨l, m, M⟩ [] 0 (Bs ++ T)).length yc, .int .i64 0])) rfl rfl (by kernel_rfl) (by kernel_rfl) (by kernel_rfl) (fun _ _ _ h => h) (Or.inl ⟨by rfl, ?_⟩) hS ?_
    · intro w' hw'
      go_simp
    try go_frame
    refine kept_take (i := 8) (d := 51) (v := (.slice ya (cutF ⟨l, m, M⟩ [] 0 (Bs ++ T)).length yc)) rfl rfl (by kernel_rfl) (by kernel_rfl) (by kernel_rfl) (fun _ _ _ h => h) (Or.inl ⟨by rfl, ?_⟩) hS ?_
    · intro w' hw'
      go_simp
    try go_frame
    refine kept_take (i := 9) (d := 52) (v := (.int .i64 0)) rfl rfl (by kernel_rfl) (by kernel_rfl) (by kernel_rfl) (fun _ _ _ h => h) (Or.inl ⟨by rfl, ?_⟩) hS ?_
    · intro w' hw'
      go_simp
    try go_frame
    refine kept_take (i := 10) (d := 11) (v := (.slice ya (cutF ⟨l, m, M⟩ [] 0 (Bs ++ T)).length yc)) rfl rfl (by kernel_rfl) (by kernel_rfl) (by kernel_rfl) (fun _ _ _ h => h) (Or.inl ⟨by rfl, ?_⟩) hS ?_
    · intro w' hw'
      go_simp
    try go_frame
    refine kept_take (i := 11) (d := 12) (v := (.int .i64 0)) rfl rfl (by kernel_rfl) (by kernel_rfl) (by kernel_rfl) (fun _ _ _ h => h) (Or.inl ⟨by rfl, ?_⟩) hS ?_
    · intro w' hw'
      go_simp
    try go_frame
    refine wpAnyE_done (by kernel_rfl) ?_ _
    have Ky := Lib.hid (Kx.out.trans (hS.mono (by have := heap_lt Xx.out; omega)))
    have Xy := Lib.hid ((hS.block B (heap_lt Xx.out)).trans Xx.out)
    have Wy := Lib.hid hS
    clear hS
    have Nx2 := Lib.hid (Nx.out.below Wy.out)
    have HXL := Lib.hid (show ∀ (Z : List UInt8), Z.length ≤ 1000000 → (cutF ⟨l, m, M⟩ [] 0 Z).length ≤ 1000000 ∧ ∀ i, sumN ((cutF ⟨l, m, M⟩ [] 0 Z).take i) ≤ 1000000 from fun Z hZ => by
      have h1 := cutF_len ⟨l, m, M⟩ Z [] 0
      have hsum : ∀ i, sumN ((cutF ⟨l, m, M⟩ [] 0 Z).take (i + 1)) ≤ 1000000 := fun i => by
        by_cases hi : i < (cutF ⟨l, m, M⟩ [] 0 Z).length
        · obtain ⟨s, s1, s2, -⟩ := cut_drop ⟨l, m, M⟩ Z [] 0 i hi
          rw [← s1]; omega
        · rw [List.take_of_length_le (by omega)]
          by_cases h0 : 0 < (cutF ⟨l, m, M⟩ [] 0 Z).length
          · obtain ⟨s, s1, s2, -⟩ := cut_drop ⟨l, m, M⟩ Z [] 0 ((cutF ⟨l, m, M⟩ [] 0 Z).length - 1) (by omega)
            rw [List.take_of_length_le (by omega)] at s1
            rw [← s1]; omega
          · rw [List.eq_nil_of_length_eq_zero (by omega : (cutF ⟨l, m, M⟩ [] 0 Z).length = 0)]
            simp [sumN]
      refine ⟨by omega, fun i => ?_⟩
      cases i with
      | zero => simp [sumN]
      | succ i => exact hsum i)
    have hAT : (A ++ T).length ≤ 1000000 := by rw [List.length_append, ← HLA.out, ← HLT.out]; omega
    have hBT : (Bs ++ T).length ≤ 1000000 := by rw [List.length_append, ← HLB.out, ← HLT.out]; omega
    obtain ⟨KA, hKA⟩ : ∃ L, L = cutF ⟨l, m, M⟩ [] 0 (A ++ T) := ⟨_, rfl⟩
    obtain ⟨KB, hKB⟩ : ∃ L, L = cutF ⟨l, m, M⟩ [] 0 (Bs ++ T) := ⟨_, rfl⟩
    have HKA := Lib.hid hKA
    have HKB := Lib.hid hKB
    have HXA := Lib.hid (HXL.out _ hAT)
    have HXB := Lib.hid (HXL.out _ hBT)
    rw [← hKA] at Nx2 HXA ⊢
    rw [← hKB] at Ny HXB ⊢
    clear hKA hKB hAT hBT HXL
    have HEA := Lib.hid (law_ends Nx2 (fr := la) (by omega) (Lib.hid HXA.out.2) HXA.out.1)
    go_wp2_with fail
    refine HEA.out.mono ?_
    rintro e z1 ⟨xov, rfl, ox, kz1⟩
    have Kz1 := Lib.hid (Ky.out.trans (kz1.mono (by have := heap_lt Xy.out; omega)))
    have Ny1 := Lib.hid (Ny.out.below kz1)
    have OX1 := Lib.hid ox
    have HZ1 := Lib.hid (show B ≤ y5.heap.size by have := heap_lt Xy.out; omega)
    have HEB := Lib.hid (law_ends Ny1 (fr := lb) (by omega) (Lib.hid HXB.out.2) HXB.out.1)
    clear ox HEA
    obtain ⟨xoa, xoc, rfl⟩ := OffRow.slice OX1.out
    go_wp2_with fail
    refine HEB.out.mono ?_
    rintro e z2 ⟨yov, rfl, oy, kz2⟩
    have Kz2 := Lib.hid (Kz1.out.trans (kz2.mono (by have := kz1.size; have := HZ1.out; omega)))
    have OX2 := Lib.hid (OffRow.below OX1.out kz2)
    have OY2 := Lib.hid oy
    have HZ2 := Lib.hid (show B ≤ z2.heap.size by have := kz1.size; have := kz2.size; have := HZ1.out; omega)
    obtain ⟨yoa, yoc, rfl⟩ := OffRow.slice OY2.out
    clear oy kz1 kz2 HEB OX1
    obtain ⟨E, hE⟩ : ∃ E, E = endsI (-(la : Int)) KA := ⟨_, rfl⟩
    obtain ⟨G, hG⟩ : ∃ G, G = endsI (-(lb : Int)) KB := ⟨_, rfl⟩
    rw [← hE] at OX2 ⊢
    rw [← hG] at OY2 ⊢
    obtain ⟨en, hen⟩ : ∃ n, n = E.length := ⟨_, rfl⟩
    obtain ⟨gn, hgn⟩ : ∃ n, n = G.length := ⟨_, rfl⟩
    have HEN := Lib.hid hen
    have HGN := Lib.hid hgn
    have hen1 : en ≤ 1000000 := by rw [hen, hE, endsI_len]; exact HXA.out.1
    have hgn1 : gn ≤ 1000000 := by rw [hgn, hG, endsI_len]; exact HXB.out.1
    have OE := Lib.hid (show OffRow z2 y5.heap.size 3 1 (.slice xoa en xoc) en (icells E) from by have := OX2.out; rw [← hen] at this; exact this)
    have OG := Lib.hid (show OffRow z2 z1.heap.size 3 1 (.slice yoa gn yoc) gn (icells G) from by have := OY2.out; unfold OwnI at this; rw [← hgn] at this; exact this)
    have HM := Lib.hid (show ∀ i j z, E[i]? = some z → G[j]? = some z → 15 ≤ z → E.drop i = G.drop j from fun i j z h1 h2 h3 => by
      have hh := meets ⟨l, m, M⟩ A Bs T i j z
      rw [← HLA.out, ← HLB.out, ← HKA.out, ← HKB.out, ← hE, ← hG] at hh
      exact hh h1 h2 h3)
    have hEb : ∀ i z, E[i]? = some z → -9223372036854775808 ≤ z ∧ z ≤ 9223372036854775807 := fun i z hi => by
      have hil := (List.getElem?_eq_some_iff.1 hi).1
      rw [hE, endsI_len] at hil
      have hd := endsI_drop (-(la : Int)) KA i hil
      rw [← hE] at hd
      have hz : z = -(la : Int) + (sumN (KA.take (i + 1)) : Int) := by
        rw [← Nat.add_zero i, ← List.getElem?_drop, hd] at hi
        simpa using hi.symm
      have := HXA.out.2 (i + 1)
      omega
    have HEb := Lib.hid hEb
    rw [← hen, ← hgn]
    clear hE hG hen hgn OX2 OY2 hEb HXA HXB
    go_wp2_with fail
    go_loopw [15] (fun iv wr => ∃ i : Nat, i ≤ en ∧ iv = .int .i64 (i : Int) ∧ Hid (Below z2.heap.size z2 wr)) (fun iv wr => en - (intOf iv).toNat)
    case atStart => exact ⟨0, Nat.zero_le _, rfl, Lib.hid (Below.refl _ _)⟩
    case round =>
      obtain ⟨i, hi, rfl, hK⟩ := hrel
      by_cases hlt : i < en
      · have hlt2 : (i : Int) < (en : Int) := by omega
        obtain ⟨x, hx⟩ : ∃ x, E[i]? = some x := ⟨_, List.getElem?_eq_getElem (by have := HEN.out; omega)⟩
        have hxb := HEb.out i x hx
        have HX := Lib.hid hx
        clear hx
        go_wp2_with fail
        go_loopw [16] (fun jv wq => ∃ j : Nat, j ≤ gn ∧ jv = .int .i64 (j : Int) ∧ Hid (Below z2.heap.size z2 wq)) (fun jv wq => gn - (intOf jv).toNat)
        case atStart => exact ⟨0, Nat.zero_le _, rfl, hK⟩
        case round =>
          obtain ⟨j, hj, rfl, hQ⟩ := hrel
          by_cases hjt : j < gn
          · have hjt2 : (j : Int) < (gn : Int) := by omega
            obtain ⟨y, hy⟩ : ∃ y, G[j]? = some y := ⟨_, List.getElem?_eq_getElem (by have := HGN.out; omega)⟩
            obtain ⟨b0, off0, rfl, _, c0⟩ := OwnI.at (OffRow.below OE.out hQ.out) HX.out HEN.out
            obtain ⟨b1, off1, rfl, _, c1⟩ := OwnI.at (OffRow.below OG.out hQ.out) hy HGN.out
            have HY := Lib.hid hy
            clear hy
            by_cases hxy : x = y
            · subst hxy
              have qE : (x == x) = true := by simp
              by_cases h15 : 15 ≤ x
              · have q15 : decide ((15 : Int) ≤ x) = true := by simpa using h15
                have HD := Lib.hid (HM.out i j x HX.out HY.out h15)
                clear h15
                go_wp2_with fail
                go_quiet (fail)
                have HQ2 := Lib.hid (below_drewN hQ.out nq)
                generalize wr.drewN nq = wq2 at *
                clear c0 c1
                obtain ⟨j0, hj0, hjz0, hjz1, hjz2⟩ := info_parts infoInt
                obtain ⟨ea, hsl1, ho1, -⟩ := slice_off Try.underlying26 hj0 hjz1 (OffRow.below OE.out HQ2.out) (g := i) (by omega)
                obtain ⟨ga, hsl2, ho2, -⟩ := slice_off Try.underlying26 hj0 hjz1 (OffRow.below OG.out HQ2.out) (g := j) (by omega)
                obtain ⟨vv, hvv⟩ : ∃ vv, vv = Value.slice ga (gn - j) (yoc - j) := ⟨_, rfl⟩
                rw [← hvv] at hsl2 ho2
                have e1 : (icells E).drop (i * 1) = icells (E.drop i) := by rw [Nat.mul_one]; simp [icells]
                have e2 : (icells G).drop (j * 1) = icells (E.drop i) := by rw [Nat.mul_one, HD.out]; simp [icells]
                have e3 : gn - j = en - i := by
                  have := congrArg List.length HD.out
                  rw [List.length_drop, List.length_drop] at this
                  have := HEN.out
                  have := HGN.out
                  omega
                rw [e1] at ho1
                rw [e2, e3] at ho2
                have G0 := Lib.hid (fun s : Seen wq2 => (same_own (w := s.val) (Lib.hid (OffRow.below ho1 s.below)) (Lib.hid (OffRow.below ho2 s.below)) (Lib.hid (show en - i = (E.drop i).length by rw [List.length_drop]; have := HEN.out; omega)) (by omega)).mono (R' := fun e w'' => e = .returned (.bool true) ∧ ∃ m : Seen wq2, w'' = m.val) fun e w'' ⟨h1, h2⟩ => ⟨h1, ⟨w'', s.below.trans (h2.mono s.below.size)⟩, rfl⟩)
                clear hvv e1 e2 e3 ho1 ho2
                go_upto_region 17 with (fail)
                refine region_seen (by kernel_rfl) (by kernel_rfl) ?_
                repeat go_big_quiet_step (first | (go_at_call 12; with_reducible exact G0.out _))
                refine wpQuiet_nil ?_
                rintro _ ⟨ms, rfl⟩
                have K7 := Lib.hid (HQ2.out.trans (ms.below.mono HQ2.out.size))
                generalize ms.val = w7 at *
                go_wp2
                go_ret
                exact ⟨rfl, Kz2.out.trans (K7.out.mono HZ2.out)⟩
              · have q15 : decide ((15 : Int) ≤ x) = false := by simpa using h15
                clear h15
                go_wp2_with fail
                go_quiet (fail)
                have HQ2 := Lib.hid (below_drewN hQ.out nq)
                generalize wr.drewN nq = wq2 at *
                clear c0 c1
                go_wp2
                go_roundw
                case rel => exact ⟨j + 1, hjt, by go_num, HQ2⟩
                case measure => simp [intOf]; omega
            · have qE : (x == y) = false := by simpa using hxy
              clear hxy
              go_wp2_with fail
              go_quiet (fail)
              have HQ2 := Lib.hid (below_drewN hQ.out nq)
              generalize wr.drewN nq = wq2 at *
              clear c0 c1
              go_wp2
              go_roundw
              case rel => exact ⟨j + 1, hjt, by go_num, HQ2⟩
              case measure => simp [intOf]; omega
          · go_wp2_with fail
            go_roundw
            case rel => exact ⟨i + 1, hlt, by go_num, hQ⟩
            case measure => simp [intOf]; omega
      · go_wp2_with fail
        go_ret
        exact ⟨rfl, Kz2.out.trans (hK.out.mono HZ2.out)⟩
end Go.Proofs.Ytcjpemkafncihaa
/- A conf, and bytes, that come in. -/
set_option linter.unusedVariables false
set_option maxRecDepth 100000
namespace Go.Proofs.Ytcjpemkafncihaa
open Go.ChangeShapes Go.WideShapes Go.Deep
open Go.RowKit (Below)

/-- A number of 64 bits. -/
def i64R (z : Int) : Prop := -9223372036854775808 ≤ z ∧ z ≤ 9223372036854775807
section
variable {H : Type} {enc : TypeId × Value → H} {w : World} {base : Nat} {spare : Nat → Bool} {held : Bool}
/-- A struct of one-cell fields, field by field. -/
theorem fields_read {P : Program} {t : TypeId} {fs : Array Field} {fuel : Nat} {cs : List Value} {x : DataW H × List MemPlace} (hs : P.underlying t = some (.struct fs)) (hone : oneCellFields P fs = true) (hC : P.cellsOf t = fs.size)
    (h : DataW.trod enc P w base spare held fuel t cs = some x) : cs.length = fs.size ∧ ∃ n, ∀ (j : Nat) (f : Field), fs[j]? = some f → ∃ v y, cs[j]? = some v ∧ DataW.trod enc P w base spare held n f.type [v] = some y := by
  obtain ⟨xs, n, _, _, hlen, hxl, hg⟩ := DataW.trod_struct hs h
  refine ⟨hlen.trans hC, n, fun j f hj => ?_⟩
  obtain ⟨ho, hk⟩ := hone_of hone j f hj
  have hjs : j < fs.size := (Array.getElem?_eq_some_iff.1 hj).1
  have hjc : j < cs.length := by omega
  have hjx : j < xs.length := by omega
  have h1 := hg j f hj
  rw [ho, hk, List.getElem?_eq_getElem hjx] at h1
  have h2 : (cs.drop j).take 1 = [cs[j]] := by rw [List.drop_eq_getElem_cons hjc]; rfl
  rw [h2] at h1
  exact ⟨cs[j], xs[j], List.getElem?_eq_getElem hjc, h1⟩
theorem map_some {α β : Type} {o : Option α} {f : α → β} {b : β} (h : o.map f = some b) : ∃ a, o = some a ∧ f a = b := by
  cases o with
  | none => cases h
  | some a => exact ⟨a, rfl, by injection h⟩
theorem int_field {n : Nat} {v : Value} {y : DataW H × List MemPlace} {t : TypeId} (ht : t = 3) (h : DataW.trod enc Try.prog w base spare held n t [v] = some y) : ∃ z, v = .int .i64 z ∧ i64R z := by
  subst ht
  obtain ⟨z, h1, _, h2⟩ := DataW.trod_int Try.underlying3 h
  exact ⟨z, by injection h1, by simp [Lit.wf, IntKind.min, IntKind.max, IntKind.signed, IntKind.bits] at h2; exact ⟨by omega, by omega⟩⟩
theorem oneC : ∃ fs, Try.prog.underlying 23 = some (.struct fs) ∧ oneCellFields Try.prog fs = true ∧ Try.prog.cellsOf 23 = fs.size ∧ fs.size = 12 ∧ ∀ j, j < 12 → (fs[j]?.map (·.type)) = some 3 :=
  ⟨_, Try.underlying23, by kernel_rfl, by kernel_rfl, by kernel_rfl, fun j hj => by
    have : j = 0 ∨ j = 1 ∨ j = 2 ∨ j = 3 ∨ j = 4 ∨ j = 5 ∨ j = 6 ∨ j = 7 ∨ j = 8 ∨ j = 9 ∨ j = 10 ∨ j = 11 := by omega
    rcases this with rfl | rfl | rfl | rfl | rfl | rfl | rfl | rfl | rfl | rfl | rfl | rfl <;> rfl⟩
/-- A conf that comes in. -/
theorem conf_read {fuel : Nat} {cs : List Value} {x : DataW H × List MemPlace} (h : DataW.trod enc Try.prog w base spare held fuel 23 cs = some x) : ∃ c : Conf, cs = c.cells.toList := by
  obtain ⟨fs, hs, hone, hC, h12, ht⟩ := oneC
  obtain ⟨hlen, n, hf⟩ := fields_read hs hone hC h
  have hv : ∀ j, j < 12 → ∃ z : Int, cs[j]? = some (.int .i64 z) ∧ i64R z := fun j hj => by
    obtain ⟨f, e, g⟩ := map_some (ht j hj)
    obtain ⟨v, y, c, r⟩ := hf j f e
    obtain ⟨z, rfl, hz⟩ := int_field g r
    exact ⟨z, c, hz⟩
  obtain ⟨V, hV⟩ := choose_lt (α := Int) hv
  have hfit : ∀ i, -9223372036854775808 ≤ (if i < 12 then V i else 0) ∧ (if i < 12 then V i else 0) ≤ 9223372036854775807 := fun i => by
    by_cases hi : i < 12
    · have := (hV i hi).2
      simp only [hi, if_true]
      exact this
    · simp only [hi, if_false]
      omega
  refine ⟨⟨fun i => if i < 12 then V i else 0, hfit⟩, ?_⟩
  · apply List.ext_getElem?
    intro j
    by_cases hj : j < 12
    · rw [(hV j hj).1]
      have : j = 0 ∨ j = 1 ∨ j = 2 ∨ j = 3 ∨ j = 4 ∨ j = 5 ∨ j = 6 ∨ j = 7 ∨ j = 8 ∨ j = 9 ∨ j = 10 ∨ j = 11 := by omega
      rcases this with rfl | rfl | rfl | rfl | rfl | rfl | rfl | rfl | rfl | rfl | rfl | rfl <;> rfl
    · rw [List.getElem?_eq_none (by omega), List.getElem?_eq_none (by simp [Conf.cells]; omega)]
theorem byte_read {fuel : Nat} {cs : List Value} {x : DataW H × List MemPlace} (h : DataW.trod enc Try.prog w base spare held fuel 5 cs = some x) : ∃ b : UInt8, cs = [byteV b] := by
  obtain ⟨z, h1, _, h2⟩ := DataW.trod_int Try.underlying5 h
  simp [Lit.wf, IntKind.min, IntKind.max, IntKind.signed, IntKind.bits] at h2
  refine ⟨UInt8.ofNat z.toNat, ?_⟩
  rw [h1]
  unfold byteV
  rw [ofNat_toNat]
  congr 2
  omega
/-- Bytes that come in. -/
theorem bytes_read {fuel : Nat} {cs : List Value} {x : DataW H × List MemPlace} (h : DataW.trod enc Try.prog w base spare held fuel 24 cs = some x) : ∃ v D, cs = [v] ∧ BsV (fun b => b < w.heap.size) w v D ∧ D.length ≤ 9223372036854775807 := by
  rcases open_slice Try.underlying24 h with ⟨hcs, _⟩ | ⟨a, len, cap, m, n, D, Pl, hcs, _, hl, hm, hmm, _, hi⟩
  · exact ⟨_, [], hcs, .inl ⟨rfl, rfl⟩, by simp⟩
  · have hlm : len ≤ m := by rw [hmm]; split <;> omega
    have hC : Try.prog.cellsOf 5 = 1 := by kernel_rfl
    have hcell : ∀ i, i < len → ∃ b : UInt8, w.cell? (a.add i) = some (byteV b) := by
      intro i hil
      obtain ⟨cs', hc, ht⟩ := hi i (by omega)
      rw [hC, Nat.mul_one] at hc
      obtain ⟨_, hcl, hat⟩ := World.cells?_some hc
      obtain ⟨b, rfl⟩ := byte_read ht
      have := hat 0 (by omega)
      refine ⟨b, ?_⟩
      simpa [Addr.add] using this
    obtain ⟨V, hV⟩ := choose_lt (α := UInt8) hcell
    refine ⟨_, (List.range len).map V, hcs, .inr ⟨a, cap, by simp, by simpa using hl, ?_⟩, by simp; unfold maxLen at hm; omega⟩
    by_cases h0 : len = 0
    · left; subst h0; rfl
    · right
      have c00 := hV 0 (by omega)
      have ha : ∃ b off, a = ⟨b, off, none⟩ := by
        obtain ⟨b, off, spot⟩ := a
        have := World.cell?_spot (v := byteV (V 0)) c00
        have hs : spot = none := by simpa [Addr.add] using this
        subst hs
        exact ⟨b, off, rfl⟩
      obtain ⟨b, off, rfl⟩ := ha
      have hb : b < w.heap.size := cell_block (v := byteV (V 0)) (by simpa [Addr.add] using c00)
      refine ⟨b, off, rfl, hb, hb, fun k hk => ?_⟩
      have hk' : k < len := by simpa using hk
      have q := hV k hk'
      rw [addr_add] at q
      rw [q]
      simp [hk']
end
theorem open_conf {H : Type} {enc : TypeId × Value → H} {W : World} {d : DataW H} {p : List MemPlace} {cs : Array Value} (h : DataW.Trod enc Try.prog W 0 (fun _ => true) true 23 (.agg cs) d p) : ∃ c : Conf, cs = c.cells := by
  obtain ⟨n, hn⟩ := h
  obtain ⟨c, hc⟩ := conf_read hn
  exact ⟨c, by rw [← Array.toList_inj]; simpa [Value.cells] using hc⟩
theorem open_bts {H : Type} {enc : TypeId × Value → H} {W : World} {d : DataW H} {p : List MemPlace} {a : Option Addr} {len cap : Nat} (h : DataW.Trod enc Try.prog W 0 (fun _ => true) true 24 (.slice a len cap) d p) : ∃ D, BsV (fun b => b < W.heap.size) W (.slice a len cap) D ∧ D.length ≤ 9223372036854775807 := by
  obtain ⟨n, hn⟩ := h
  obtain ⟨v, D, e, h1, h2⟩ := bytes_read hn
  have : v = .slice a len cap := by simpa [Value.cells] using e.symm
  subst this
  exact ⟨D, h1, h2⟩
theorem bytesU8 : Try.prog.bytesOf 5 = 1 := by kernel_rfl
/-- Bytes that come in are no more than the row's own reach allows. -/
theorem open_btz {H : Type} {enc : TypeId × Value → H} {W : World} {d : DataW H} {p : List MemPlace} {a : Option Addr} {len cap : Nat} (h : DataW.Trod enc Try.prog W 0 (fun _ => true) true 24 (.slice a len cap) d p)
    (hz : ∀ n ∈ d.weights Try.prog 24, n ≤ reachBytes) : ∃ D, BsV (fun b => b < W.heap.size) W (.slice a len cap) D ∧ D.length ≤ 140737488351232 := by
  obtain ⟨D, h1, -⟩ := open_bts h
  refine ⟨D, h1, ?_⟩
  have hD : D.length = len := by
    obtain ⟨a', c', e⟩ := h1.slice
    injection e with _ e _
    exact e.symm
  rw [hD]
  obtain ⟨fuel, hf⟩ := h
  rcases open_slice Try.underlying24 hf with ⟨hcs, _⟩ | ⟨a', len', cap', m, n, D', Pl, hcs, _, hl, hm, hmm, hx, _⟩
  · simp [Value.cells] at hcs
    omega
  · simp [Value.cells] at hcs
    obtain ⟨rfl, rfl, rfl⟩ := hcs
    injection hx with hx _
    subst hx
    have h1 : (((List.range len).map D').length + ((List.range (m - len)).map fun j => D' (len + j)).length) * Try.prog.bytesOf 5 ∈ DataW.weights Try.prog 24 (DataW.slice ((List.range len).map D') ((List.range (m - len)).map fun j => D' (len + j))) := by
      simp only [DataW.weights, Try.underlying24, List.mem_cons]
      exact .inl trivial
    have h2 := hz _ h1
    rw [bytesU8, List.length_map, List.length_range] at h2
    unfold reachBytes at h2
    omega
end Go.Proofs.Ytcjpemkafncihaa
