/- Those that add: the step that reads the cell. -/
import Derived.Test.YtccliallljcjgaaNext
set_option linter.unusedVariables false
namespace Go.Proofs.Ytccliallljcjgaa
open Go.RowKit

set_option maxHeartbeats 4000000 in
set_option maxRecDepth 100000 in
theorem adds_load {w : World} {cb c sn st : Nat} {v u s : Int} {G : Nat} {caps : Array Value} (hcb : w.heap[cb]? = some (.cells #[.pointer (some ⟨c, 0, none⟩)] 54 (0, 0))) (hc : w.heap[c]? = some (.cells #[.int .i64 v, .int .i64 s] 86 (0, 0)))
    (hsn : w.heap[sn]? = some (.cells #[.int .i64 u] 3 (0, 0))) (hst : w.heap[st]? = some (.cells #[.func (.func G) #[] caps] 58 (0, 0))) (i : Int) :
    Calls Try.prog 24 #[.int .i64 i, .pointer (some ⟨cb, 0, none⟩), .pointer (some ⟨sn, 0, none⟩), .pointer (some ⟨st, 0, none⟩)] w fun e w' => e = .returned (.agg #[.func (.func G) #[] caps, .pointer none]) ∧ w'.heap[sn]? = some (.cells #[.int .i64 v] 3 (0, 0)) ∧ Only (fun j => j = sn) w w' := by
  obtain ⟨w1, hw1⟩ : ∃ w1, w1 = w.alloc (.cells #[.nilFunc, .pointer none] 60) := ⟨_, rfl⟩
  obtain ⟨f, hf⟩ : ∃ f, f = Value.func (.func G) #[] caps := ⟨_, rfl⟩
  rw [← hf] at hst ⊢
  have hB : Below w.heap.size w w1 := by rw [hw1]; exact (Below.refl _ _).alloc (Nat.le_refl _) _
  have b1 := (hB.block _ (heap_lt hcb)).trans hcb
  have b2 := (hB.block _ (heap_lt hc)).trans hc
  have b3 := (hB.block _ (heap_lt hsn)).trans hsn
  have b4 := (hB.block _ (heap_lt hst)).trans hst
  have b5 : w1.heap[w.heap.size]? = some (.cells #[.nilFunc, .pointer none] 60 (0, 0)) := by rw [hw1]; exact heap_new w _
  have lsn := heap_lt hsn
  have lst := heap_lt hst
  have hO : Only (fun j => j = sn) w w1 := Only.of_below hB (fun k h1 h2 => absurd h2 (by omega))
  have hne : sn ≠ w.heap.size := by omega
  have hne2 : st ≠ sn := by
    intro h
    rw [h, b3] at b4
    injection b4 with b4
    injection b4 with b4 b6
    exact absurd b6 (by decide)
  have LD := Lib.hid (cell_Load (w := w1) (c := c) (v := v) (by simp [World.cell?, b2]))
  have c1 : w1.cell? ⟨cb, 0, none⟩ = some (.pointer (some ⟨c, 0, none⟩)) := by simp [World.cell?, b1]
  have c3 : w1.cell? ⟨sn, 0, none⟩ = some (.int .i64 u) := by simp [World.cell?, b3]
  have f3 : w1.frozen? ⟨sn, 0, none⟩ = false := by simp [World.frozen?, b3]
  have c4 : w1.cell? ⟨st, 0, none⟩ = some f := by simp [World.cell?, b4]
  have c5 : w1.cell? ⟨w.heap.size, 0, none⟩ = some .nilFunc := by simp [World.cell?, b5]
  have c6 : w1.cell? ⟨w.heap.size, 1, none⟩ = some (.pointer none) := by simp [World.cell?, b5]
  have f5 : w1.frozen? ⟨w.heap.size, 0, none⟩ = false := by simp [World.frozen?, b5]
  have f6 : w1.frozen? ⟨w.heap.size, 1, none⟩ = false := by simp [World.frozen?, b5]
  have s1 := heap_set (o := 0) b3 (.int .i64 v)
  have E := Lib.hid (show ((((w1.setCell ⟨sn, 0, none⟩ (.int .i64 v)).setCell ⟨w.heap.size, 0, none⟩ f).setCell ⟨w.heap.size, 1, none⟩ (.pointer none)).heap[sn]? = some (.cells #[.int .i64 v] 3 (0, 0)) ∧
      Only (fun j => j = sn) w (((w1.setCell ⟨sn, 0, none⟩ (.int .i64 v)).setCell ⟨w.heap.size, 0, none⟩ f).setCell ⟨w.heap.size, 1, none⟩ (.pointer none))) from
    ⟨by rw [heap_set_other hne, heap_set_other hne, s1]; rfl, ((hO.setCell (p := ⟨sn, 0, none⟩) (.inl rfl) _).setCell (p := ⟨w.heap.size, 0, none⟩) (.inr (Nat.le_refl _)) _).setCell (p := ⟨w.heap.size, 1, none⟩) (.inr (Nat.le_refl _)) _⟩)
  have HH := Lib.hid (heap_set (o := 1) (heap_set (o := 0) ((heap_set_other (w := w1) (b := sn) (o := 0) (Ne.symm hne) (.int .i64 v)).trans b5) f) (.pointer none))
  have HW := Lib.hid hw1
  clear hB b1 b2 b3 b4 b5 hO s1 hcb hc hsn hst hw1
  go_enter Try.func24, Try.ntmps24
  go_upto_region 1 with fail
  rw [← HW.out]
  subst hf
  go_wp2_with (go_at_call 25; refine LD.out.mono ?_; rintro e w' ⟨rfl, rfl⟩)
  refine bodyPost_ret (v := .agg #[_, .pointer none]) (results_cell_row rfl _ _ w.heap.size 60 _ (0, 0) _ rfl HH.out Try.underlying60 rfl info60) rfl ?_
  exact ⟨rfl, E.out.1, E.out.2⟩
end Go.Proofs.Ytccliallljcjgaa
