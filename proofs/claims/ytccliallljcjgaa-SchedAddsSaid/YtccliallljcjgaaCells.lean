/- The program's cells and mutexes: what each call answers and leaves. -/
import Derived.Test.YtccliallljcjgaaOnly
import Derived.Defers
import Derived.Recover
import Derived.Laws.Pointers
import Derived.Laws.Unary
import Derived.Laws.NewBlocks
set_option linter.unusedVariables false
namespace Go.Proofs.Ytccliallljcjgaa
open Go.RowKit

/-- A deferred closure that recovers, of a function that returns. -/
theorem same_idle (w : World) : CallsD Try.prog 47 #[] .returning w fun e u' w' => e = .returned (.tuple #[]) ∧ u' = .returning ∧ w' = w := by
  refine callsD_of_wpS Try.func47 rfl fun c₀ cs hu => ?_
  apply wpS_region
  simp [wpOpsS, go_sem, recoverD, hu, Try.ntmps47, Exit.thenS, bodyPostS, results, Try.results47]
  cases c₀
  simp_all
theorem same_int (a b : Int) (w : World) : Calls Try.prog 43 #[.int .i64 a, .int .i64 b] w fun e w' => e = .returned (.bool (a == b)) ∧ w' = w := by
  go_enter_defers Try.func43, Try.ntmps43
  go_wp2
  refine leaves_cons (f := 47) (args := #[]) (by simp) (by simp [go_sem]) ?_
  refine (same_idle w).mono ?_
  rintro e u' w'' ⟨rfl, rfl, rfl⟩
  exact ⟨_, results_tmp rfl _ _ _, rfl, rfl⟩
theorem same_idle_s (w : World) : CallsD Try.prog 48 #[] .returning w fun e u' w' => e = .returned (.tuple #[]) ∧ u' = .returning ∧ w' = w := by
  refine callsD_of_wpS Try.func48 rfl fun c₀ cs hu => ?_
  apply wpS_region
  simp [wpOpsS, go_sem, recoverD, hu, Try.ntmps48, Exit.thenS, bodyPostS, results, Try.results48]
  cases c₀
  simp_all
theorem same_str (a b : List UInt8) (w : World) : Calls Try.prog 44 #[.string (bs a), .string (bs b)] w fun e w' => e = .returned (.bool (decide (a = b))) ∧ w' = w := by
  have hab : ((bs a).toList == (bs b).toList) = decide (a = b) := by
    have := same_bytes a b
    by_cases h : a = b
    · rw [this.2 h]; simp [h]
    · rw [decide_eq_false h]; exact Bool.eq_false_iff.2 fun e => h (this.1 e)
  go_enter_defers Try.func44, Try.ntmps44
  go_wp2
  refine leaves_cons (f := 48) (args := #[]) (by simp) (by simp [go_sem]) ?_
  refine (same_idle_s w).mono ?_
  rintro e u' w'' ⟨rfl, rfl, rfl⟩
  exact ⟨_, results_tmp rfl _ _ _, rfl, rfl⟩

theorem cell_New (v : Int) (w : World) : Calls Try.prog 22 #[.int .i64 v] w fun e w' => e = .returned (.pointer (some ⟨w.heap.size, 0, none⟩)) ∧ w' = w.alloc (.cells #[.int .i64 v, .int .i64 0] 86) := by
  go_enter Try.func22, Try.ntmps22
  go_wp2
  go_ret
  exact ⟨rfl, rfl⟩
theorem mutex_New (w : World) : Calls Try.prog 23 #[] w fun e w' => e = .returned (.pointer (some ⟨w.heap.size, 0, none⟩)) ∧ w' = w.alloc (.cells #[.int .i64 (-1)] 83) := by
  go_enter Try.func23, Try.ntmps23
  go_wp2
  go_ret
  exact ⟨rfl, rfl⟩
theorem cell_Load {w : World} {c : Nat} {v : Int} (h : w.cell? ⟨c, 0, none⟩ = some (.int .i64 v)) : Calls Try.prog 25 #[.pointer (some ⟨c, 0, none⟩)] w fun e w' => e = .returned (.int .i64 v) ∧ w' = w := by
  go_enter Try.func25, Try.ntmps25
  go_wp2
  go_ret
  exact ⟨rfl, rfl⟩
theorem cell_Load_nil (w : World) : Calls Try.prog 25 #[.pointer none] w fun e w' => e = .returned (.int .i64 0) ∧ Below w.heap.size w w' := by
  have hB := Lib.hid ((Below.refl w.heap.size w).alloc (Nat.le_refl _) (.cells #[.int .i64 0] 3))
  go_enter Try.func25, Try.ntmps25
  go_wp2
  go_ret
  exact ⟨rfl, hB.out⟩
theorem cell_Sets {w : World} {c : Nat} {v : Int} (h : w.cell? ⟨c, 1, none⟩ = some (.int .i64 v)) : Calls Try.prog 32 #[.pointer (some ⟨c, 0, none⟩)] w fun e w' => e = .returned (.int .i64 v) ∧ w' = w := by
  go_enter Try.func32, Try.ntmps32
  go_wp2
  go_ret
  exact ⟨rfl, rfl⟩
theorem cell_Sets_nil (w : World) : Calls Try.prog 32 #[.pointer none] w fun e w' => e = .returned (.int .i64 0) ∧ w' = w := by
  go_enter Try.func32, Try.ntmps32
  go_wp2
  go_ret
  exact ⟨rfl, rfl⟩
theorem cell_Store {w : World} {c : Nat} {v s : Int} (u : Int) (h : w.cell? ⟨c, 0, none⟩ = some (.int .i64 v)) (k : w.cell? ⟨c, 1, none⟩ = some (.int .i64 s)) (f0 : w.frozen? ⟨c, 0, none⟩ = false) (f1 : w.frozen? ⟨c, 1, none⟩ = false) :
    Calls Try.prog 28 #[.pointer (some ⟨c, 0, none⟩), .int .i64 u] w fun e w' => e = .returned (.tuple #[]) ∧ w' = (w.setCell ⟨c, 0, none⟩ (.int .i64 u)).setCell ⟨c, 1, none⟩ (.int .i64 (wrap64 (s + 1))) := by
  go_enter Try.func28, Try.ntmps28
  go_wp2
  go_end0
  exact ⟨rfl, rfl⟩
theorem cell_Store_nil (u : Int) (w : World) : Calls Try.prog 28 #[.pointer none, .int .i64 u] w fun e w' => e = .returned (.tuple #[]) ∧ w' = w := by
  go_enter Try.func28, Try.ntmps28
  go_wp2
  go_end0
  exact ⟨rfl, rfl⟩
theorem cell_Swap_nil (a u : Int) (w : World) : Calls Try.prog 27 #[.pointer none, .int .i64 a, .int .i64 u] w fun e w' => e = .returned (.bool false) ∧ w' = w := by
  go_enter Try.func27, Try.ntmps27
  go_wp2
  go_ret
  exact ⟨rfl, rfl⟩
theorem cell_Swap_miss {w : World} {c : Nat} {v a : Int} (u : Int) (h : w.cell? ⟨c, 0, none⟩ = some (.int .i64 v)) (hne : v ≠ a) : Calls Try.prog 27 #[.pointer (some ⟨c, 0, none⟩), .int .i64 a, .int .i64 u] w fun e w' => e = .returned (.bool false) ∧ w' = w := by
  have hb : (v == a) = false := by simpa using hne
  have hs := same_int v a w
  rw [hb] at hs
  clear hne hb
  go_enter Try.func27, Try.ntmps27
  go_wp2_with (go_at_call 43; refine hs.mono ?_; rintro e w' ⟨rfl, rfl⟩)
  go_ret
  exact ⟨rfl, rfl⟩
theorem cell_Swap_hit {w : World} {c : Nat} {v s : Int} (u : Int) (h : w.cell? ⟨c, 0, none⟩ = some (.int .i64 v)) (k : w.cell? ⟨c, 1, none⟩ = some (.int .i64 s)) (f0 : w.frozen? ⟨c, 0, none⟩ = false) (f1 : w.frozen? ⟨c, 1, none⟩ = false) :
    Calls Try.prog 27 #[.pointer (some ⟨c, 0, none⟩), .int .i64 v, .int .i64 u] w fun e w' => e = .returned (.bool true) ∧ w' = (w.setCell ⟨c, 0, none⟩ (.int .i64 u)).setCell ⟨c, 1, none⟩ (.int .i64 (wrap64 (s + 1))) := by
  have hs := same_int v v w
  rw [show (v == v) = true by simp] at hs
  have hst := cell_Store u h k f0 f1
  clear k f0 f1
  go_enter Try.func27, Try.ntmps27
  go_wp2_with (first | (go_at_call 43; refine hs.mono ?_; rintro e w' ⟨rfl, rfl⟩) | (go_at_call 28; refine hst.mono ?_; rintro e w' ⟨rfl, rfl⟩))
  go_ret
  exact ⟨rfl, rfl⟩
theorem mutex_Holder {w : World} {m : Addr} {v : Int} (h : w.cell? m = some (.int .i64 v)) : Calls Try.prog 29 #[.pointer (some m)] w fun e w' => e = .returned (.int .i64 v) ∧ w' = w := by
  go_enter Try.func29, Try.ntmps29
  go_wp2
  go_ret
  exact ⟨rfl, rfl⟩
theorem mutex_Holder_nil (w : World) : Calls Try.prog 29 #[.pointer none] w fun e w' => e = .returned (.int .i64 (-1)) ∧ w' = w := by
  go_enter Try.func29, Try.ntmps29
  go_wp2
  go_ret
  exact ⟨rfl, rfl⟩
theorem mutex_Free_nil (i : Int) (w : World) : Calls Try.prog 30 #[.pointer none, .int .i64 i] w fun e w' => e = .returned (.int .i64 11) ∧ w' = w := by
  go_enter Try.func30, Try.ntmps30
  go_wp2_with (go_at_call 29; refine (mutex_Holder_nil w).mono ?_; rintro e w' ⟨rfl, rfl⟩)
  go_ret
  exact ⟨rfl, rfl⟩
theorem mutex_Free_not {w : World} {m : Nat} {v i : Int} (h : w.cell? ⟨m, 0, none⟩ = some (.int .i64 v)) (hv : v = -1 ∨ v ≠ i) : Calls Try.prog 30 #[.pointer (some ⟨m, 0, none⟩), .int .i64 i] w fun e w' => e = .returned (.int .i64 11) ∧ w' = w := by
  have hh := mutex_Holder h
  by_cases h1 : v = -1
  · have hb : (v == -1) = true := by simpa using h1
    clear hv h1
    go_enter Try.func30, Try.ntmps30
    go_wp2_with (go_at_call 29; refine hh.mono ?_; rintro e w' ⟨rfl, rfl⟩)
    go_ret
    exact ⟨rfl, rfl⟩
  · have hb : (v == -1) = false := by simpa using h1
    have hc : (v != i) = true := by simpa using hv.resolve_left h1
    clear hv h1
    go_enter Try.func30, Try.ntmps30
    go_wp2_with (go_at_call 29; refine hh.mono ?_; rintro e w' ⟨rfl, rfl⟩)
    go_ret
    exact ⟨rfl, rfl⟩
theorem mutex_Free_does {w : World} {m : Nat} {i : Int} (h : w.cell? ⟨m, 0, none⟩ = some (.int .i64 i)) (f : w.frozen? ⟨m, 0, none⟩ = false) (hi : i ≠ -1) : Calls Try.prog 30 #[.pointer (some ⟨m, 0, none⟩), .int .i64 i] w fun e w' => e = .returned (.int .i64 0) ∧ w' = w.setCell ⟨m, 0, none⟩ (.int .i64 (-1)) := by
  have hh := mutex_Holder h
  have hb : (i == -1) = false := by simpa using hi
  have hc : (i != i) = false := by simp
  clear hi
  go_enter Try.func30, Try.ntmps30
  go_wp2_with (go_at_call 29; refine hh.mono ?_; rintro e w' ⟨rfl, rfl⟩)
  go_ret
  exact ⟨rfl, rfl⟩
end Go.Proofs.Ytccliallljcjgaa
