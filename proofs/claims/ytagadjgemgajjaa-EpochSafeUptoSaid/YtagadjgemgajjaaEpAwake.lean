/- The document's example. -/
import Derived.Test.YtagadjgemgajjaaEpFree
set_option linter.unusedVariables false
namespace Go.Proofs.Ytagadjgemgajjaa
open Go.RowKit

theorem Turned.bel {tb tr : TypeId} {B : Nat} {w w' : World} {q q' : AtB} {s0 s : EB} (h : Turned tb tr B w q s w' q') (h0 : Bk tb tr B w q s0) (hB : B ≤ w.heap.size) : Below B w w' :=
  h.only.below (fun k _ hs => (h0.low k hs).1) hB
/-- A slice of one that was just laid. -/
theorem vals_one (w : World) (v : Value) (ty : TypeId) : IsVals (w.alloc (.cells #[v] ty)) (some ⟨w.heap.size, 0, none⟩) 1 [v] := by
  refine ⟨rfl, w.heap.size, 0, .inr rfl, fun k u hu => ?_⟩
  match k, hu with
  | 0, hu =>
    simp at hu
    subst hu
    refine ⟨by simp, ?_⟩
    simp only [World.cell?, heap_new]
    rfl
def exA : ByteArray := ⟨#[97]⟩
def exB : ByteArray := ⟨#[98]⟩
set_option maxHeartbeats 4000000 in
set_option maxRecDepth 100000 in
theorem law_awake (w : World) : Calls Try.prog 9 #[] w fun e w' => e = .returned (.bool true) ∧ Below w.heap.size w w' := by
  have hN := book_New 2 (by omega) (by omega) w
  go_enter Try.func9, Try.ntmps9
  go_wp2_with fail
  refine hN.mono ?_
  rintro e w1 ⟨rfl, k1, b1⟩
  have B1 := Lib.hid b1
  obtain ⟨b, hb⟩ : ∃ b, b = w.heap.size + 1 := ⟨_, rfl⟩
  have k1 : Bk 58 62 w.heap.size w1 ⟨b, w.heap.size, .slice none 0 0⟩ ⟨1, [0, 0], []⟩ := by rw [hb]; exact k1
  rw [← hb]
  have hNow := book_Now k1
  have hEn := book_Enter k1 0 1 (by decide)
  rw [show (EB.enter ⟨1, [0, 0], []⟩ 0 1) = (⟨1, [1, 0], []⟩, 0) from rfl] at hEn
  have K1 := Lib.hid k1
  clear b1 k1 hN hb
  go_wp2_with (go_at_call 19; refine hNow.mono ?_; rintro e w' ⟨rfl, rfl⟩)
  refine hEn.mono ?_
  rintro e w2 ⟨rfl, t2⟩
  have B2 := Lib.hid (B1.out.trans (t2.bel K1.out B1.out.size))
  have K2 := Lib.hid t2.bk
  have hA := vals_one w2 (.string exA) 9
  have hs : ¬ (⟨b, w.heap.size, .slice none 0 0⟩ : AtB).S w2.heap.size := fun e => by have := (t2.bk.low _ e).2; omega
  have hRe := book_Retire (K2.out.alloc (.cells #[.string exA] 9)) (by decide) (by decide) 1 hA (fun v hv => ⟨exA, by simpa using hv⟩) (fun b' off _ e => by injection e with e; injection e with e1 _ _; rw [← e1]; exact hs) (by simp) (by have := B2.out.size; simp; omega)
  rw [show (EB.retire ⟨1, [1, 0], []⟩ [.string exA]) = ⟨2, [1, 0], [(.string exA, 1)]⟩ from rfl] at hRe
  have hK2 := Lib.hid (K2.out.alloc (.cells #[.string exA] 9))
  have hB2 := Lib.hid (B2.out.alloc B2.out.size (.cells #[.string exA] 9))
  unfold exA at hRe
  simp only at hRe
  clear t2 hA hs hEn hNow
  go_wp2_with fail
  refine hRe.mono ?_
  rintro e w3 ⟨rfl, q3, t3⟩
  have B3 := Lib.hid (hB2.out.trans (t3.bel hK2.out (by have := B2.out.size; simp; omega)))
  have hFr := book_Free t3.bk (by decide) (fun p hp => ⟨exA, by simp at hp; subst hp; rfl⟩) (by simp) (B3.out.size)
  have K3 := Lib.hid t3.bk
  have e3 := t3.b
  simp only at e3
  rw [e3] at hFr
  clear t3 hRe
  go_wp2_with fail
  refine hFr.mono ?_
  rintro e w4 ⟨⟨a4, c4, rfl, _⟩, q4, t4, _⟩
  have t4 : Turned 58 62 w.heap.size w3 q3 ⟨2, [1, 0], [(.string exA, 1)]⟩ w4 q4 := t4
  have B4 := Lib.hid (B3.out.trans (t4.bel K3.out B3.out.size))
  have hEn := book_Enter t4.bk 1 2 (by decide)
  rw [show (EB.enter ⟨2, [1, 0], [(.string exA, 1)]⟩ 1 2) = (⟨2, [1, 2], [(.string exA, 1)]⟩, 0) from rfl] at hEn
  have e4 := t4.b.trans e3
  rw [e4] at hEn
  have K4 := Lib.hid t4.bk
  change Calls _ _ _ _ _ at hEn
  clear t4 hFr
  go_wp2_with fail
  refine hEn.mono ?_
  rintro e w5 ⟨rfl, t5⟩
  have B5 := Lib.hid (B4.out.trans (t5.bel K4.out B4.out.size))
  have hLe := book_Leave t5.bk 0 (by decide)
  rw [show (EB.leave ⟨2, [1, 2], [(.string exA, 1)]⟩ 0) = (⟨2, [0, 2], [(.string exA, 1)]⟩, 0) from rfl, e4] at hLe
  have K5 := Lib.hid t5.bk
  clear t5 hEn
  go_wp2_with fail
  refine hLe.mono ?_
  rintro e w6 ⟨rfl, t6⟩
  have B6 := Lib.hid (B5.out.trans (t6.bel K5.out B5.out.size))
  have hFr := book_Free t6.bk (by decide) (fun p hp => ⟨exA, by simp at hp; subst hp; rfl⟩) (by simp) (B6.out.size)
  rw [e4] at hFr
  have K6 := Lib.hid t6.bk
  clear t6 hLe
  go_wp2_with fail
  refine hFr.mono ?_
  rintro e w7 ⟨⟨a7, c7, rfl, l7⟩, q7, t7, s7⟩
  have t7 : Turned 58 62 w.heap.size w6 q4 ⟨2, [0, 2], []⟩ w7 q7 := t7
  have l7 : OffRow w7 w6.heap.size 9 1 (.slice a7 1 c7) 1 [.string exA] := l7
  have B7 := Lib.hid (B6.out.trans (t7.bel K6.out B6.out.size))
  have e7 := t7.b.trans e4
  have hlen : w6.heap.size ≤ w7.heap.size := t7.only.size
  obtain ⟨g, off, cp, cur, hv, hg0, hg1, hg2⟩ := l7.form (by decide)
  injection hv with hv _ hcp
  subst hv hcp
  have hgS : ¬ q7.S g := fun e => by have := (K6.out.low _ (s7 g e)).2; omega
  have r7 : w7.cell? ⟨g, off, none⟩ = some (.string exA) := hg2 0 (by omega)
  have hgl := heap_lt hg1
  have hA := vals_one w7 (.string exB) 9
  have hs : ¬ q7.S w7.heap.size := fun e => by have := (t7.bk.low _ e).2; omega
  have hRe := book_Retire (t7.bk.alloc (.cells #[.string exB] 9)) (by decide) (by decide) 1 hA (fun v hv => ⟨exB, by simpa using hv⟩) (fun b' off _ e => by injection e with e; injection e with e1 _ _; rw [← e1]; exact hs) (by simp) (by have := B7.out.size; simp; omega)
  rw [show (EB.retire ⟨2, [0, 2], []⟩ [.string exB]) = ⟨3, [0, 2], [(.string exB, 2)]⟩ from rfl, e7] at hRe
  have hK7 := Lib.hid (t7.bk.alloc (.cells #[.string exB] 9))
  have hB7 := Lib.hid (B7.out.alloc B7.out.size (.cells #[.string exB] 9))
  have hr7 : (w7.alloc (.cells #[.string exB] 9)).cell? ⟨g, off, none⟩ = some (.string exA) := by
    rw [((Below.refl _ w7).alloc (Nat.le_refl _) (.cells #[.string exB] 9)).cell (p := ⟨g, off, none⟩) hgl]; exact r7
  have HR7 := Lib.hid hr7
  have HGS := Lib.hid hgS
  unfold exB at hRe
  clear t7 hA hs hFr l7 s7 hg0 hg1 hg2 r7 hr7 hgS hlen
  go_wp2_with fail
  refine hRe.mono ?_
  rintro e w8 ⟨rfl, q8, t8⟩
  have r8 : w8.cell? ⟨g, off, none⟩ = some (.string exA) := by
    have := t8.only.block g (by simp; omega) HGS.out
    rw [← HR7.out]
    simp [World.cell?, this]
    rfl
  have B8 := Lib.hid (hB7.out.trans (t8.bel hK7.out (by have := B7.out.size; simp; omega)))
  have hFr := book_Free t8.bk (by decide) (fun p hp => ⟨exB, by simp at hp; subst hp; rfl⟩) (by simp) (B8.out.size)
  have K8 := Lib.hid t8.bk
  have e8 := t8.b.trans e7
  rw [e8] at hFr
  clear t8 hRe
  unfold exA at r8
  go_wp2_with fail
  refine hFr.mono ?_
  rintro e w9 ⟨⟨a9, c9, rfl, _⟩, q9, t9, _⟩
  have t9 : Turned 58 62 w.heap.size w8 q8 ⟨3, [0, 2], [(.string exB, 2)]⟩ w9 q9 := t9
  have B9 := Lib.hid (B8.out.trans (t9.bel K8.out B8.out.size))
  have e9 := t9.b.trans e8
  have hHe := book_Held t9.bk
  have hRd := book_Readers t9.bk (by decide)
  rw [e9] at hHe hRd
  clear t9 hFr r8
  go_wp2_with (first | (go_at_call 20; refine hHe.mono ?_; rintro e w' ⟨rfl, rfl⟩) | (go_at_call 21; refine hRd.mono ?_; rintro e w' ⟨rfl, rfl⟩))
  go_ret
  exact ⟨rfl, B9.out⟩
end Go.Proofs.Ytagadjgemgajjaa
