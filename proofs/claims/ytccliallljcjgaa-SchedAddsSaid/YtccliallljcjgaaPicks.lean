/- The scheduler: a task put, dropped; its step; a pick. -/
import Derived.Test.YtccliallljcjgaaTurns
import Derived.RegionTactic
import Derived.StillTailTactics
import Derived.Laws.MakeOwn
set_option linter.unusedVariables false
namespace Go.Proofs.Ytccliallljcjgaa
open Go.RowKit

theorem fn_nil (F : Nat) (c : Array Value) (w : World) : Sem.run Try.prog (binOp .eql 58 (.func (.func F) #[] c) .nilFunc) w = .ok (.bool false) w := by
  kernel_rfl
theorem nil_nil (w : World) : Sem.run Try.prog (binOp .eql 58 .nilFunc .nilFunc) w = .ok (.bool true) w := by
  kernel_rfl
theorem info78 : (Try.prog.info? 78).map (fun i => (i.zero, i.size, i.bytes)) = some (some (.pointer none), 1, 8) := by kernel_rfl
theorem step_none {w : World} {s t : Nat} {ts : List (Option TS)} {steps : Int} (h : Sch w s t ts steps) {i : Nat} (hx : ts[i]? = some none) :
    Calls Try.prog 16 #[.pointer (some ⟨s, 0, none⟩), .int .i64 (i : Int)] w fun e w' => e = .returned (.int .i64 9) ∧ w' = w := by
  have hin := sched_in h (lt_of_get hx)
  have hal : Calls Try.prog 17 #[.pointer (some ⟨s, 0, none⟩), .int .i64 (i : Int)] w fun e w' => e = .returned (.bool false) ∧ w' = w := sched_Alive h hx
  clear h hx
  go_enter Try.func16, Try.ntmps16
  go_wp2_with (first | (go_at_call 42; refine hin.mono ?_; rintro e w' ⟨rfl, rfl⟩) | (go_at_call 17; refine hal.mono ?_; rintro e w' ⟨rfl, rfl⟩))
  go_ret
  exact ⟨rfl, rfl⟩
theorem step_waits {w : World} {s t : Nat} {ts : List (Option TS)} {steps : Int} (h : Sch w s t ts steps) {i : Nat} {x : TS} (hx : ts[i]? = some (some x)) (hr : Rdy w (some x) false) :
    Calls Try.prog 16 #[.pointer (some ⟨s, 0, none⟩), .int .i64 (i : Int)] w fun e w' => e = .returned (.int .i64 11) ∧ w' = w := by
  have hin := sched_in h (lt_of_get hx)
  have hal : Calls Try.prog 17 #[.pointer (some ⟨s, 0, none⟩), .int .i64 (i : Int)] w fun e w' => e = .returned (.bool true) ∧ w' = w := sched_Alive h hx
  have hrd := sched_Ready h hx hr
  clear h hx hr
  go_enter Try.func16, Try.ntmps16
  go_wp2_with (first | (go_at_call 42; refine hin.mono ?_; rintro e w' ⟨rfl, rfl⟩) | (go_at_call 17; refine hal.mono ?_; rintro e w' ⟨rfl, rfl⟩) | (go_at_call 18; refine hrd.mono ?_; rintro e w' ⟨rfl, rfl⟩))
  go_ret
  exact ⟨rfl, rfl⟩
theorem sched_Drop {w : World} {s t : Nat} {ts : List (Option TS)} {steps : Int} (h : Sch w s t ts steps) {i : Nat} (hi : i < ts.length) :
    Calls Try.prog 15 #[.pointer (some ⟨s, 0, none⟩), .int .i64 (i : Int)] w fun e w' => e = .returned (.tuple #[]) ∧ w' = w.setCell ⟨t, i, none⟩ (.pointer none) := by
  have hin := sched_in h hi
  have c0 := h.c0
  have fT := h.fT i
  have cT := h.cT (List.getElem?_eq_getElem hi)
  have hi' : (i : Int) < ((ts.length : Nat) : Int) := by omega
  generalize ptrT ts[i] = v at cT
  clear h hi
  go_enter Try.func15, Try.ntmps15
  go_wp2_with (go_at_call 42; refine hin.mono ?_; rintro e w' ⟨rfl, rfl⟩)
  go_end0
  exact ⟨rfl, rfl⟩
/-- A function that is there. -/
def IsFn (f : Value) : Prop := ∃ F c, f = .func (.func F) #[] c
theorem put_taken {w : World} {s t : Nat} {ts : List (Option TS)} {steps : Int} (h : Sch w s t ts steps) {i : Nat} {x : TS} (hx : ts[i]? = some (some x)) {f m : Value} (hf : IsFn f) :
    Calls Try.prog 31 #[.pointer (some ⟨s, 0, none⟩), .int .i64 (i : Int), .agg #[f, m]] w fun e w' => e = .returned (.int .i64 11) ∧ Below w.heap.size w w' := by
  obtain ⟨F, c, rfl⟩ := hf
  have hB := (Below.refl w.heap.size w).alloc (Nat.le_refl _) (.cells #[.func (.func F) #[] c, m] 60)
  have h' := h.below hB
  have hin := sched_in h' (lt_of_get hx)
  have hal : Calls Try.prog 17 #[.pointer (some ⟨s, 0, none⟩), .int .i64 (i : Int)] _ fun e w' => e = .returned (.bool true) ∧ w' = _ := sched_Alive h' hx
  have HB := Lib.hid hB
  clear h h' hx hB
  have hfn := fn_nil F c
  go_enter Try.func31, Try.ntmps31
  go_wp2_with (first | (go_at_call 42; refine hin.mono ?_; rintro e w' ⟨rfl, rfl⟩) | (go_at_call 17; refine hal.mono ?_; rintro e w' ⟨rfl, rfl⟩))
  go_ret
  exact ⟨rfl, HB.out⟩
theorem put_nil {w : World} {s t : Nat} {ts : List (Option TS)} {steps : Int} (h : Sch w s t ts steps) {i : Nat} (hi : i < ts.length) (m : Value) :
    Calls Try.prog 31 #[.pointer (some ⟨s, 0, none⟩), .int .i64 (i : Int), .agg #[.nilFunc, m]] w fun e w' => e = .returned (.int .i64 1) ∧ Below w.heap.size w w' := by
  have hB := (Below.refl w.heap.size w).alloc (Nat.le_refl _) (.cells #[.nilFunc, m] 60)
  have hin := sched_in (h.below hB) hi
  have HB := Lib.hid hB
  clear h hi hB
  have hfn := nil_nil
  go_enter Try.func31, Try.ntmps31
  go_wp2_with (first | (go_at_call 42; refine hin.mono ?_; rintro e w' ⟨rfl, rfl⟩))
  go_ret
  exact ⟨rfl, HB.out⟩
theorem sched_Put {w : World} {s t : Nat} {ts : List (Option TS)} {steps : Int} (h : Sch w s t ts steps) {i : Nat} (hx : ts[i]? = some none) {f : Value} (m : Option Addr) (hf : IsFn f) :
    Calls Try.prog 31 #[.pointer (some ⟨s, 0, none⟩), .int .i64 (i : Int), .agg #[f, .pointer m]] w fun e w' => e = .returned (.int .i64 0) ∧
      Sch w' s t (ts.set i (some ⟨w.heap.size, f, m⟩)) steps ∧ Only (fun j => j = t) w w' ∧ w.heap.size < w'.heap.size := by
  have hi := lt_of_get hx
  have hB := (Below.refl w.heap.size w).alloc (Nat.le_refl _) (.cells #[f, .pointer m] 60)
  have h' := h.below hB
  have hS := h'.setSlot hi (some ⟨w.heap.size, f, m⟩) (fun z hz => by
    injection hz with hz
    subst hz
    refine ⟨heap_new w _, fun j x hj hx => ?_⟩
    have := h.lt (.inr (.inr ⟨j, x, hx, rfl⟩))
    simp only
    omega)
  have hO : Only (fun j => j = t) w ((w.alloc (.cells #[f, .pointer m] 60)).setCell ⟨t, i, none⟩ (ptrT (some ⟨w.heap.size, f, m⟩))) := ((Only.refl (fun j => j = t) w).alloc _).setCell (S := fun j => j = t) (p := ⟨t, i, none⟩) (.inl rfl) _
  have hL : w.heap.size < ((w.alloc (.cells #[f, .pointer m] 60)).setCell ⟨t, i, none⟩ (ptrT (some ⟨w.heap.size, f, m⟩))).heap.size := by simp [World.setCell]
  obtain ⟨F, c, rfl⟩ := hf
  have hin := sched_in h' hi
  have hal : Calls Try.prog 17 #[.pointer (some ⟨s, 0, none⟩), .int .i64 (i : Int)] _ fun e w' => e = .returned (.bool false) ∧ w' = _ := sched_Alive h' hx
  have c0 := h'.c0
  have cT := h'.cT hx
  have fT := h'.fT i
  have hi' : (i : Int) < ((ts.length : Nat) : Int) := by omega
  have HS := Lib.hid hS
  have HO := Lib.hid hO
  have HL := Lib.hid hL
  clear h h' hx hi hB hS hO hL
  have hfn := fn_nil F c
  go_enter Try.func31, Try.ntmps31
  go_wp2_with (first | (go_at_call 42; refine hin.mono ?_; rintro e w' ⟨rfl, rfl⟩) | (go_at_call 17; refine hal.mono ?_; rintro e w' ⟨rfl, rfl⟩))
  go_ret
  exact ⟨rfl, HS.out, HO.out, HL.out⟩
theorem sched_New_not (n : Int) (hn : n < 1 ∨ 16 < n) (w : World) : Calls Try.prog 21 #[.int .i64 n] w fun e w' => e = .returned (.tuple #[.pointer none, .int .i64 1]) ∧ w' = w := by
  by_cases h : n < 1
  · go_enter Try.func21, Try.ntmps21
    go_wp2
    go_ret2
    exact ⟨rfl, rfl⟩
  · have h16 : 16 < n := by omega
    go_enter Try.func21, Try.ntmps21
    go_wp2
    go_ret2
    exact ⟨rfl, rfl⟩
theorem sched_New (n : Nat) (h1 : 1 ≤ n) (h2 : n ≤ 16) (w : World) : Calls Try.prog 21 #[.int .i64 (n : Int)] w fun e w' => e = .returned (.tuple #[.pointer (some ⟨w.heap.size + 1, 0, none⟩), .int .i64 0]) ∧
    Sch w' (w.heap.size + 1) w.heap.size (List.replicate n none) 0 ∧ Below w.heap.size w w' := by
  have a1 : ¬ (n : Int) < 1 := by omega
  have a2 : ¬ (16 : Int) < (n : Int) := by omega
  have hB := ((Below.refl w.heap.size w).alloc (Nat.le_refl _) (.cells (Array.replicate n (Value.pointer none)) 78)).alloc (by simp) (.cells #[.slice (some ⟨w.heap.size, 0, none⟩) n n, .int .i64 0] 81)
  have hS : Sch ((w.alloc (.cells (Array.replicate n (Value.pointer none)) 78)).alloc (.cells #[.slice (some ⟨w.heap.size, 0, none⟩) n n, .int .i64 0] 81)) (w.heap.size + 1) w.heap.size (List.replicate n none) 0 := by
    have e1 : (w.alloc (.cells (Array.replicate n (Value.pointer none)) 78)).heap.size = w.heap.size + 1 := by simp
    refine ⟨?_, ?_, fun i x hx => ?_, fun i j x y hx => ?_, by simpa using h2⟩
    · rw [← e1]
      rw [heap_new]
      simp
    · rw [Below.heap_alloc _ _ _ (by omega), heap_new]
      congr 2
      apply Array.ext'
      simp [ptrT]
    · rw [List.getElem?_replicate] at hx
      split at hx <;> simp at hx
    · rw [List.getElem?_replicate] at hx
      split at hx <;> simp at hx
  have HS := Lib.hid hS
  have HB := Lib.hid hB
  clear hB hS
  obtain ⟨i0, hi, hz0, hz1, hz2⟩ := info_parts info78
  have hmk : ∀ w, (Instr.makeSlice 79 (.int .i64 (n : Int)) (.int .i64 (n : Int))).run Try.prog w = .ok (.slice (some ⟨w.heap.size, 0, none⟩) n n) (w.alloc (.cells (Array.replicate n (Value.pointer none)) 78)) := by
    intro w
    rw [run_make w 79 78 i0 (.pointer none) Try.underlying79 hi hz0 .i64 .i64 n n (by omega) (by omega) (by rw [hz2]; omega) (by omega)]
    rw [hz1, Int.toNat_natCast, Nat.mul_one]
    have : madeCells (Value.pointer none).cells n = Array.replicate n (Value.pointer none) := by
      apply Array.ext
      · simp [madeCells]
      · intro i h1 h2
        simp [madeCells, Value.cells, Nat.mod_one]
    rw [this]
  clear hi hz0 hz1 hz2
  go_enter Try.func21, Try.ntmps21
  go_wp2
  go_ret2
  exact ⟨rfl, HS.out, HB.out⟩
end Go.Proofs.Ytccliallljcjgaa
