/- The document's example; behind it there is memory. -/
import Derived.Test.YtbjokbnmfbfkjaaMergeAwake
set_option linter.unusedVariables false
set_option maxRecDepth 100000
namespace Go.Proofs.Ytbjokbnmfbfkjaa
open Go.RowKit

set_option maxHeartbeats 4000000 in
theorem law_awake_pos (w : World) : Calls Try.prog 8 #[] w fun en w' => en = .returned (.bool true) ∧ Below w.heap.size w w' ∧ 0 < w'.heap.size := by
  have HO1 := Lib.hid (over_run (some ⟨w.heap.size, 0, none⟩) 2 2 aw1 (w.alloc (.cells #[.string ⟨#[97]⟩, .string ⟨#[49]⟩, .bool false, .string ⟨#[99]⟩, .string ⟨#[49]⟩, .bool false] 32)) (Lib.hid (isE_two w ⟨[97], [49], false⟩ ⟨[99], [49], false⟩)) (by omega))
  have KA := Lib.hid (show Below w.heap.size w (w.alloc (.cells #[.string ⟨#[97]⟩, .string ⟨#[49]⟩, .bool false, .string ⟨#[99]⟩, .string ⟨#[49]⟩, .bool false] 32)) from (Below.refl _ _).alloc (Nat.le_refl _) _)
  go_enter Try.func8, Try.ntmps8
  go_wp2_with fail
  refine HO1.out.mono ?_
  rintro en w2 ⟨c1, hG⟩
  obtain ⟨p1, hp1⟩ := hG.ptr
  obtain ⟨e1, -, e3, e4, e5⟩ := hG
  rw [hp1] at e1
  subst e1
  rw [aw_told1] at e3
  have K2 := Lib.hid (KA.out.trans (e5.mono KA.out.size))
  have I2 := Lib.hid e3
  have F1 := Lib.hid (show ∀ k, c1.F k → w.heap.size ≤ k from fun k hk => Nat.le_trans KA.out.size ((e4 k hk).resolve_left fun h => h))
  have HP1 := Lib.hid hp1
  clear e3 e4 e5 hp1 HO1
  have HO2 := Lib.hid (over_run (some ⟨w2.heap.size, 0, none⟩) 2 2 aw2 (w2.alloc (.cells #[.string ⟨#[97]⟩, .string ⟨#[50]⟩, .bool false, .string ⟨#[98]⟩, .string ⟨#[]⟩, .bool true] 32)) (Lib.hid (isE_two w2 ⟨[97], [50], false⟩ ⟨[98], [], true⟩)) (by omega))
  have KB := Lib.hid (show Below w2.heap.size w2 (w2.alloc (.cells #[.string ⟨#[97]⟩, .string ⟨#[50]⟩, .bool false, .string ⟨#[98]⟩, .string ⟨#[]⟩, .bool true] 32)) from (Below.refl _ _).alloc (Nat.le_refl _) _)
  go_wp2_with fail
  refine HO2.out.mono ?_
  rintro en w3 ⟨c2, hG⟩
  obtain ⟨p2, hp2⟩ := hG.ptr
  obtain ⟨e1, -, e3, e4, e5⟩ := hG
  rw [hp2] at e1
  subst e1
  rw [aw_told2] at e3
  have K3 := Lib.hid (KB.out.trans (e5.mono KB.out.size))
  have D3 := Lib.hid (show Curs w.heap.size [c1, c2] [(aw1, 0), (aw2, 0)] w3 from
    ((Curs.nil w.heap.size w).snoc (Nat.le_refl _) K2.out ⟨p1, HP1.out⟩ I2.out F1.out).snoc K2.out.size K3.out ⟨p2, hp2⟩ e3 fun k hk => Nat.le_trans KB.out.size ((e4 k hk).resolve_left fun h => h))
  have HP2 := Lib.hid hp2
  clear e3 e4 e5 hp2 HO2
  obtain ⟨w4, hw4⟩ : ∃ w4, w4 = w3.alloc (.cells #[.pointer p1, .pointer p2] 29) := ⟨_, rfl⟩
  have K4 : Below w3.heap.size w3 w4 := by rw [hw4]; exact (Below.refl _ _).alloc (Nat.le_refl _) _
  have D4 := D3.out.below K4
  have hh4 : w4.heap[w3.heap.size]? = some (.cells #[.pointer p1, .pointer p2] 29 (0, 0)) := by rw [hw4]; exact heap_new w3 _
  have HC4 : IsC w4 w3.heap.size (some ⟨w3.heap.size, 0, none⟩) 2 [c1, c2] := by
    refine ⟨rfl, heap_lt hh4, 0, .inr rfl, fun k c hc => ?_⟩
    match k, hc with
    | 0, hc => injection hc with hc; subst hc; rw [HP1.out]; simp [World.cell?, hh4]
    | 1, hc => injection hc with hc; subst hc; rw [HP2.out]; simp [World.cell?, hh4]
    | k + 2, hc => cases hc
  have HM := Lib.hid (show Calls Try.prog 18 #[.slice (some ⟨w3.heap.size, 0, none⟩) 2 2] (w3.alloc (.cells #[.pointer p1, .pointer p2] 29)) (GotC w4 (FAll [c1, c2]) (mergeP [(aw1, 0), (aw2, 0)]).1 (mergeP [(aw1, 0), (aw2, 0)]).2) by
    rw [← hw4]; exact merge_Merge _ 2 2 w3.heap.size [c1, c2] _ w4 D4.ptr HC4 (by omega) D4.apart D4.has)
  have K40 := Lib.hid (show Below w.heap.size w w4 from (K2.out.trans ((K3.out.trans (K4.mono K3.out.size)).mono K2.out.size)))
  have hlow := Lib.hid D4.low
  clear hw4 K4 D4 hh4 HC4
  go_wp2_with fail
  refine HM.out.mono ?_
  rintro en w5 ⟨c5, hG⟩
  obtain ⟨p5, hp5⟩ := hG.ptr
  obtain ⟨e1, -, e3, e4, e5⟩ := hG
  rw [hp5] at e1
  subst e1
  have HL := Lib.hid (merge_Live c5 ⟨p5, hp5⟩ e3)
  rw [hp5] at HL
  have F5 := Lib.hid (show ∀ k, c5.F k → w.heap.size ≤ k from fun k hk => (e4 k hk).elim (hlow.out k) fun h => Nat.le_trans K40.out.size h)
  have K5 := Lib.hid (K40.out.trans (e5.mono K40.out.size))
  clear e3 e4 e5 hp5 HM
  go_wp2_with fail
  refine HL.out.mono ?_
  rintro en w6 ⟨c6, hG⟩
  obtain ⟨p6, hp6⟩ := hG.ptr
  obtain ⟨e1, -, e3, e4, e5⟩ := hG
  rw [hp6] at e1
  subst e1
  rw [aw_live.1, aw_live.2] at e3
  have F6 := Lib.hid (show ∀ k, c6.F k → w.heap.size ≤ k from fun k hk => (e4 k hk).elim (F5.out k) fun h => Nat.le_trans K5.out.size h)
  have K6 := Lib.hid (K5.out.trans (e5.mono K5.out.size))
  obtain ⟨w7, hw7⟩ : ∃ w7, w7 = w6.alloc (.cells #[.string ⟨#[97]⟩, .string ⟨#[49]⟩, .bool false, .string ⟨#[99]⟩, .string ⟨#[49]⟩, .bool false] 32) := ⟨_, rfl⟩
  have K7 : Below w6.heap.size w6 w7 := by rw [hw7]; exact (Below.refl _ _).alloc (Nat.le_refl _) _
  have I7 := c6.ok.below e3 K7
  have E7 : IsE w7 (some ⟨w6.heap.size, 0, none⟩) 2 aw1 := by rw [hw7]; exact isE_two w6 ⟨[97], [49], false⟩ ⟨[99], [49], false⟩
  have hF6 : ∀ k, c6.F k → k < w6.heap.size := fun k h => Nat.lt_of_lt_of_le (c6.ok.low k h) (c6.ok.size _ _ _ _ e3)
  have HI := Lib.hid (show Calls Try.prog 12 #[.pointer p6, .agg #[.slice (some ⟨w6.heap.size, 0, none⟩) 2 2, .int .i64 0]] (w6.alloc (.cells #[.string ⟨#[97]⟩, .string ⟨#[49]⟩, .bool false, .string ⟨#[99]⟩, .string ⟨#[49]⟩, .bool false] 32)) (fun en w' => en = .returned (.bool true) ∧ Only c6.F w7 w') by
    rw [← hw7, ← hp6]
    refine law_is c6 ⟨p6, hp6⟩ _ 2 2 aw1 0 false w7 (Lib.hid I7) (Lib.hid fun w' k => ?_) (by omega)
    obtain ⟨h1, b, off, h2, h3⟩ := E7
    have h2' := h2.resolve_left (by omega)
    injection h2' with h2'
    injection h2' with hb ho
    subst hb ho
    refine ⟨h1, _, _, .inr rfl, fun j hj => ?_⟩
    obtain ⟨q1, q2, q3, q4⟩ := h3 j hj
    have hk := k.block _ q1 fun h => Nat.lt_irrefl _ (hF6 _ h)
    exact ⟨Nat.lt_of_lt_of_le q1 k.size, cell_same q2 hk, cell_same q3 hk, cell_same q4 hk⟩)
  have K70 := Lib.hid (K6.out.trans (K7.mono K6.out.size))
  have hp7 := Lib.hid (show 0 < w7.heap.size by rw [hw7]; simp)
  clear e3 e4 e5 hp6 HL hw7 K7 I7 E7 hF6
  go_wp2_with fail
  refine HI.out.mono ?_
  rintro en w8 ⟨rfl, k8⟩
  have hp8 := Lib.hid (Nat.lt_of_lt_of_le hp7.out k8.size)
  have K8 := Lib.hid (K70.out.trans (k8.below (fun k _ hk => F6.out k hk) K70.out.size))
  clear k8
  go_wp2_with fail
  go_ret
  exact ⟨rfl, K8.out, hp8.out⟩
end Go.Proofs.Ytbjokbnmfbfkjaa
