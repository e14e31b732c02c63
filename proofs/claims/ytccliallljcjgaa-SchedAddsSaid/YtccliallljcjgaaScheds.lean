/- The program's scheduler in memory, and what each call on it answers and leaves, whatever its tasks do. -/
import Derived.Test.YtccliallljcjgaaCells
import Derived.Shelf.Abstract
import Derived.OwnWalk
import Derived.LoopTactic
import Derived.Laws.AppendOwn
set_option linter.unusedVariables false
namespace Go.Proofs.Ytccliallljcjgaa
open Go.RowKit

/-- A task in a slot: its block, the function that is its next step, the mutex that it waits for. -/
structure TS where
  k : Nat
  f : Value
  m : Option Addr
def ptrT : Option TS → Value
  | none => .pointer none
  | some x => .pointer (some ⟨x.k, 0, none⟩)
def TS.vals (x : TS) : Array Value := #[x.f, .pointer x.m]
/-- A scheduler: its block, its slots' row, its tasks' blocks. -/
structure Sch (w : World) (s t : Nat) (ts : List (Option TS)) (steps : Int) : Prop where
  obj : w.heap[s]? = some (.cells #[.slice (some ⟨t, 0, none⟩) ts.length ts.length, .int .i64 steps] 81 (0, 0))
  row : w.heap[t]? = some (.cells (ts.map ptrT).toArray 78 (0, 0))
  task : ∀ (i : Nat) x, ts[i]? = some (some x) → w.heap[x.k]? = some (.cells x.vals 60 (0, 0))
  sep : ∀ (i j : Nat) x y, ts[i]? = some (some x) → ts[j]? = some (some y) → x.k = y.k → i = j
  few : ts.length ≤ 16

theorem set_at_same {α : Type} {l : List α} {i : Nat} {a : α} (h : l[i]? = some a) : l.set i a = l := by
  apply List.ext_getElem?
  intro k
  rw [List.getElem?_set]
  split
  · next e =>
    subst e
    rw [if_pos (List.getElem?_eq_some_iff.1 h).1, h]
  · rfl
namespace Sch
variable {w w' : World} {s t : Nat} {ts : List (Option TS)} {steps : Int}
theorem c0 (h : Sch w s t ts steps) : w.cell? ⟨s, 0, none⟩ = some (.slice (some ⟨t, 0, none⟩) ts.length ts.length) := by simp [World.cell?, h.obj]
theorem c1 (h : Sch w s t ts steps) : w.cell? ⟨s, 1, none⟩ = some (.int .i64 steps) := by simp [World.cell?, h.obj]
theorem f1 (h : Sch w s t ts steps) (o : Nat) : w.frozen? ⟨s, o, none⟩ = false := by simp [World.frozen?, h.obj]
theorem cT (h : Sch w s t ts steps) {i : Nat} {x : Option TS} (hx : ts[i]? = some x) : w.cell? ⟨t, i, none⟩ = some (ptrT x) := by simp [World.cell?, h.row, hx]
theorem fT (h : Sch w s t ts steps) (o : Nat) : w.frozen? ⟨t, o, none⟩ = false := by simp [World.frozen?, h.row]
theorem k0 (h : Sch w s t ts steps) {i : Nat} {x : TS} (hx : ts[i]? = some (some x)) : w.cell? ⟨x.k, 0, none⟩ = some x.f := by simp [World.cell?, h.task i x hx, TS.vals]
theorem k1 (h : Sch w s t ts steps) {i : Nat} {x : TS} (hx : ts[i]? = some (some x)) : w.cell? ⟨x.k, 1, none⟩ = some (.pointer x.m) := by simp [World.cell?, h.task i x hx, TS.vals]
theorem fk (h : Sch w s t ts steps) {i : Nat} {x : TS} (hx : ts[i]? = some (some x)) (o : Nat) : w.frozen? ⟨x.k, o, none⟩ = false := by simp [World.frozen?, h.task i x hx]
theorem s_ne_t (h : Sch w s t ts steps) : s ≠ t := by
  intro e
  have h1 := h.obj
  rw [e, h.row] at h1
  simp at h1
theorem k_ne (h : Sch w s t ts steps) {i : Nat} {x : TS} (hx : ts[i]? = some (some x)) : x.k ≠ s ∧ x.k ≠ t := by
  have h1 := h.task i x hx
  refine ⟨?_, ?_⟩ <;> intro e <;> rw [e] at h1
  · rw [h.obj] at h1; simp at h1
  · rw [h.row] at h1; simp at h1
theorem kept (h : Sch w s t ts steps) (k : ∀ j, (j = s ∨ j = t ∨ ∃ (i : Nat) (x : TS), ts[i]? = some (some x) ∧ j = x.k) → w'.heap[j]? = w.heap[j]?) : Sch w' s t ts steps :=
  ⟨(k s (.inl rfl)).trans h.obj, (k t (.inr (.inl rfl))).trans h.row, fun i x hx => (k x.k (.inr (.inr ⟨i, x, hx, rfl⟩))).trans (h.task i x hx), h.sep, h.few⟩
theorem lt (h : Sch w s t ts steps) {j : Nat} (hj : j = s ∨ j = t ∨ ∃ (i : Nat) (x : TS), ts[i]? = some (some x) ∧ j = x.k) : j < w.heap.size := by
  rcases hj with rfl | rfl | ⟨i, x, hx, rfl⟩
  · exact heap_lt h.obj
  · exact heap_lt h.row
  · exact heap_lt (h.task i x hx)
theorem setNext (h : Sch w s t ts steps) {i : Nat} {x : TS} (hx : ts[i]? = some (some x)) (f : Value) (m : Option Addr) : Sch ((w.setCell ⟨x.k, 0, none⟩ f).setCell ⟨x.k, 1, none⟩ (.pointer m)) s t (ts.set i (some ⟨x.k, f, m⟩)) steps := by
  have hi : i < ts.length := (List.getElem?_eq_some_iff.1 hx).1
  have hk := h.k_ne hx
  have h1 := heap_set (w := w) (o := 0) (h.task i x hx) f
  have h2 := heap_set (o := 1) h1 (.pointer m)
  have hks := Ne.symm hk.1
  have hkt := Ne.symm hk.2
  refine ⟨?_, ?_, fun j y hy => ?_, fun j n y z hy hz e => ?_, by simpa using h.few⟩
  · rw [heap_set_other hks, heap_set_other hks, h.obj]; simp
  · rw [heap_set_other hkt, heap_set_other hkt, h.row]
    congr 2
    rw [List.map_set]
    have : (ts.map ptrT)[i]? = some (ptrT (some ⟨x.k, f, m⟩)) := by simp [hx, ptrT]
    rw [set_at_same this]
  · rw [List.getElem?_set] at hy
    by_cases hj : i = j
    · rw [if_pos hj, if_pos (by omega)] at hy
      injection hy with hy
      injection hy with hy
      subst hy
      exact h2
    · rw [if_neg hj] at hy
      have hne : y.k ≠ x.k := fun e => hj (h.sep i j x y hx hy e.symm)
      rw [heap_set_other hne, heap_set_other hne]
      exact h.task j y hy
  · have hb : ∀ (j : Nat) (y : TS), (ts.set i (some ⟨x.k, f, m⟩))[j]? = some (some y) → ∃ y', ts[j]? = some (some y') ∧ y'.k = y.k := by
      intro j y hy
      rw [List.getElem?_set] at hy
      by_cases hj : i = j
      · rw [if_pos hj, if_pos (by omega)] at hy
        injection hy with hy
        injection hy with hy
        subst hy
        exact ⟨x, hj ▸ hx, rfl⟩
      · rw [if_neg hj] at hy
        exact ⟨y, hy, rfl⟩
    obtain ⟨y', hy', ey⟩ := hb j y hy
    obtain ⟨z', hz', ez⟩ := hb n z hz
    exact h.sep j n y' z' hy' hz' (by rw [ey, ez]; exact e)
theorem setSteps (h : Sch w s t ts steps) (n : Int) : Sch (w.setCell ⟨s, 1, none⟩ (.int .i64 n)) s t ts n :=
  ⟨by rw [heap_set h.obj]; rfl, by rw [heap_set_other (Ne.symm h.s_ne_t)]; exact h.row, fun i x hx => by rw [heap_set_other (h.k_ne hx).1]; exact h.task i x hx, h.sep, h.few⟩
theorem setSlot (h : Sch w s t ts steps) {i : Nat} (hi : i < ts.length) (y : Option TS) (hy : ∀ z, y = some z → w.heap[z.k]? = some (.cells z.vals 60 (0, 0)) ∧ ∀ (j : Nat) x, j ≠ i → ts[j]? = some (some x) → x.k ≠ z.k) :
    Sch (w.setCell ⟨t, i, none⟩ (ptrT y)) s t (ts.set i y) steps := by
  have hst := h.s_ne_t
  refine ⟨?_, ?_, fun j x hx => ?_, fun j n a b ha hb e => ?_, by simpa using h.few⟩
  · rw [heap_set_other hst, h.obj]; simp
  · rw [heap_set h.row]
    congr 2
    apply Array.ext'
    simp [List.map_set]
  · have hb : x.k ≠ t ∧ w.heap[x.k]? = some (.cells x.vals 60 (0, 0)) := by
      rw [List.getElem?_set] at hx
      by_cases hj : i = j
      · rw [if_pos hj, if_pos (by omega)] at hx
        injection hx with hx
        have h1 := (hy x hx).1
        refine ⟨fun e => ?_, h1⟩
        rw [e, h.row] at h1
        simp at h1
      · rw [if_neg hj] at hx
        exact ⟨(h.k_ne hx).2, h.task j x hx⟩
    rw [heap_set_other hb.1]
    exact hb.2
  · rw [List.getElem?_set] at ha hb
    by_cases hj : i = j
    · by_cases hn : i = n
      · omega
      · rw [if_pos hj, if_pos (by omega)] at ha
        rw [if_neg hn] at hb
        injection ha with ha
        exact absurd e.symm ((hy a ha).2 n b (Ne.symm hn) hb)
    · rw [if_neg hj] at ha
      by_cases hn : i = n
      · rw [if_pos hn, if_pos (by omega)] at hb
        injection hb with hb
        exact absurd e ((hy b hb).2 j a (Ne.symm hj) ha)
      · rw [if_neg hn] at hb
        exact h.sep j n a b ha hb e
theorem below (h : Sch w s t ts steps) (k : Below w.heap.size w w') : Sch w' s t ts steps := h.kept fun j hj => k.block j (h.lt hj)
end Sch

theorem sched_isSlot {w : World} {s : Nat} {a : Option Addr} {n c : Nat} (h0 : w.cell? ⟨s, 0, none⟩ = some (.slice a n c)) (i : Int) :
    Calls Try.prog 42 #[.pointer (some ⟨s, 0, none⟩), .int .i64 i] w fun e w' => e = .returned (.bool (decide (0 ≤ i ∧ i < n))) ∧ w' = w := by
  by_cases h1 : 0 ≤ i
  · by_cases h2 : i < n
    · rw [decide_eq_true (⟨h1, h2⟩ : 0 ≤ i ∧ i < n)]
      go_enter Try.func42, Try.ntmps42
      go_wp2
      go_ret
      exact ⟨rfl, rfl⟩
    · rw [decide_eq_false (fun e : 0 ≤ i ∧ i < n => h2 e.2)]
      go_enter Try.func42, Try.ntmps42
      go_wp2
      go_ret
      exact ⟨rfl, rfl⟩
  · rw [decide_eq_false (fun e : 0 ≤ i ∧ i < n => h1 e.1)]
    go_enter Try.func42, Try.ntmps42
    go_wp2
    go_ret
    exact ⟨rfl, rfl⟩
theorem sched_isSlot_nil (i : Int) (w : World) : Calls Try.prog 42 #[.pointer none, .int .i64 i] w fun e w' => e = .returned (.bool false) ∧ w' = w := by
  go_enter Try.func42, Try.ntmps42
  go_wp2
  go_ret
  exact ⟨rfl, rfl⟩
/-- A slot that is not there. -/
def Out (w : World) (s : Option Addr) (i : Int) : Prop := Calls Try.prog 42 #[.pointer s, .int .i64 i] w fun e w' => e = .returned (.bool false) ∧ w' = w
theorem Out.nil (w : World) (i : Int) : Out w none i := sched_isSlot_nil i w
theorem Out.of {w : World} {s : Nat} {a : Option Addr} {n c : Nat} (h0 : w.cell? ⟨s, 0, none⟩ = some (.slice a n c)) {i : Int} (h : ¬ (0 ≤ i ∧ i < n)) : Out w (some ⟨s, 0, none⟩) i := by
  have := sched_isSlot h0 i
  rw [decide_eq_false h] at this
  exact this
theorem alive_out {w : World} {s : Option Addr} {i : Int} (h : Out w s i) : Calls Try.prog 17 #[.pointer s, .int .i64 i] w fun e w' => e = .returned (.bool false) ∧ w' = w := by
  unfold Out at h
  go_enter Try.func17, Try.ntmps17
  go_wp2_with (go_at_call 42; refine h.mono ?_; rintro e w' ⟨rfl, rfl⟩)
  go_ret
  exact ⟨rfl, rfl⟩
theorem ready_out {w : World} {s : Option Addr} {i : Int} (h : Out w s i) : Calls Try.prog 18 #[.pointer s, .int .i64 i] w fun e w' => e = .returned (.bool false) ∧ w' = w := by
  have ha := alive_out h
  go_enter Try.func18, Try.ntmps18
  go_wp2_with (go_at_call 17; refine ha.mono ?_; rintro e w' ⟨rfl, rfl⟩)
  go_ret
  exact ⟨rfl, rfl⟩
theorem step_out {w : World} {s : Option Addr} {i : Int} (h : Out w s i) : Calls Try.prog 16 #[.pointer s, .int .i64 i] w fun e w' => e = .returned (.int .i64 1) ∧ w' = w := by
  unfold Out at h
  go_enter Try.func16, Try.ntmps16
  go_wp2_with (go_at_call 42; refine h.mono ?_; rintro e w' ⟨rfl, rfl⟩)
  go_ret
  exact ⟨rfl, rfl⟩
theorem drop_out {w : World} {s : Option Addr} {i : Int} (h : Out w s i) : Calls Try.prog 15 #[.pointer s, .int .i64 i] w fun e w' => e = .returned (.tuple #[]) ∧ w' = w := by
  unfold Out at h
  go_enter Try.func15, Try.ntmps15
  go_wp2_with (go_at_call 42; refine h.mono ?_; rintro e w' ⟨rfl, rfl⟩)
  go_end0
  exact ⟨rfl, rfl⟩
theorem put_out {w : World} {s : Option Addr} {i : Int} (f m : Value) (h : ∀ o, Out (w.alloc o) s i) : Calls Try.prog 31 #[.pointer s, .int .i64 i, .agg #[f, m]] w fun e w' => e = .returned (.int .i64 1) ∧ Below w.heap.size w w' := by
  have hh := h (.cells #[f, m] 60)
  have hB := Lib.hid ((Below.refl w.heap.size w).alloc (Nat.le_refl _) (.cells #[f, m] 60))
  unfold Out at hh
  clear h
  go_enter Try.func31, Try.ntmps31
  go_wp2_with (go_at_call 42; refine hh.mono ?_; rintro e w' ⟨rfl, rfl⟩)
  go_ret
  exact ⟨rfl, hB.out⟩
theorem steps_nil (w : World) : Calls Try.prog 39 #[.pointer none] w fun e w' => e = .returned (.int .i64 0) ∧ w' = w := by
  go_enter Try.func39, Try.ntmps39
  go_wp2
  go_ret
  exact ⟨rfl, rfl⟩
theorem ready_nil (w : World) : Calls Try.prog 41 #[.pointer none] w fun e w' => e = .returned (.slice none 0 0) ∧ w' = w := by
  have h := sched_isSlot_nil 0 w
  go_enter Try.func41, Try.ntmps41
  go_wp2_with fail
  go_loopw [3, 4] (fun v i wr => v = .slice none 0 0 ∧ i = .int .i64 0 ∧ wr = w) (fun _ _ _ => 0)
  case atStart => exact ⟨rfl, rfl, rfl⟩
  case round =>
    obtain ⟨rfl, rfl, rfl⟩ := hrel
    go_wp2_with (go_at_call 42; refine h.mono ?_; rintro e w' ⟨rfl, rfl⟩)
    go_ret
    exact ⟨rfl, rfl⟩
theorem pick_nil (n : Int) (w : World) : Calls Try.prog 12 #[.pointer none, .int .i64 n] w fun e w' => e = .returned (.tuple #[.int .i64 0, .bool false]) ∧ w' = w := by
  have h := ready_nil w
  go_enter Try.func12, Try.ntmps12
  go_wp2_with (go_at_call 41; refine h.mono ?_; rintro e w' ⟨rfl, rfl⟩)
  go_ret2
  exact ⟨rfl, rfl⟩
theorem sched_Steps {w : World} {s t : Nat} {ts : List (Option TS)} {steps : Int} (h : Sch w s t ts steps) : Calls Try.prog 39 #[.pointer (some ⟨s, 0, none⟩)] w fun e w' => e = .returned (.int .i64 steps) ∧ w' = w := by
  have c1 := h.c1
  clear h
  go_enter Try.func39, Try.ntmps39
  go_wp2
  go_ret
  exact ⟨rfl, rfl⟩
/-- A slot that is there. -/
theorem sched_in {w : World} {s t : Nat} {ts : List (Option TS)} {steps : Int} (h : Sch w s t ts steps) {i : Nat} (hi : i < ts.length) :
    Calls Try.prog 42 #[.pointer (some ⟨s, 0, none⟩), .int .i64 (i : Int)] w fun e w' => e = .returned (.bool true) ∧ w' = w := by
  have := sched_isSlot h.c0 (i : Int)
  rw [decide_eq_true (⟨by omega, by omega⟩ : 0 ≤ (i : Int) ∧ (i : Int) < (ts.length : Int))] at this
  exact this
theorem lt_of_get {α : Type} {l : List α} {i : Nat} {x : α} (h : l[i]? = some x) : i < l.length := (List.getElem?_eq_some_iff.1 h).1
theorem sched_Alive {w : World} {s t : Nat} {ts : List (Option TS)} {steps : Int} (h : Sch w s t ts steps) {i : Nat} {x : Option TS} (hx : ts[i]? = some x) :
    Calls Try.prog 17 #[.pointer (some ⟨s, 0, none⟩), .int .i64 (i : Int)] w fun e w' => e = .returned (.bool x.isSome) ∧ w' = w := by
  have hi := lt_of_get hx
  have hin := sched_in h hi
  have c0 := h.c0
  have cT := h.cT hx
  have hi' : (i : Int) < ((ts.length : Nat) : Int) := by omega
  clear h hx hi
  cases x with
  | none =>
    replace cT : w.cell? ⟨t, i, none⟩ = some (.pointer none) := cT
    go_enter Try.func17, Try.ntmps17
    go_wp2_with (go_at_call 42; refine hin.mono ?_; rintro e w' ⟨rfl, rfl⟩)
    go_ret
    exact ⟨rfl, rfl⟩
  | some x =>
    replace cT : w.cell? ⟨t, i, none⟩ = some (.pointer (some ⟨x.k, 0, none⟩)) := cT
    go_enter Try.func17, Try.ntmps17
    go_wp2_with (go_at_call 42; refine hin.mono ?_; rintro e w' ⟨rfl, rfl⟩)
    go_ret
    exact ⟨rfl, rfl⟩
/-- Whether what is in a slot may do its next step. -/
def Rdy (w : World) : Option TS → Bool → Prop
  | none, r => r = false
  | some x, r => (x.m = none ∧ r = true) ∨ ∃ a h, x.m = some a ∧ w.cell? a = some (.int .i64 h) ∧ r = (h == -1)
theorem sched_Ready {w : World} {s t : Nat} {ts : List (Option TS)} {steps : Int} (h : Sch w s t ts steps) {i : Nat} {x : Option TS} (hx : ts[i]? = some x) {r : Bool} (hr : Rdy w x r) :
    Calls Try.prog 18 #[.pointer (some ⟨s, 0, none⟩), .int .i64 (i : Int)] w fun e w' => e = .returned (.bool r) ∧ w' = w := by
  have hi := lt_of_get hx
  have hal := sched_Alive h hx
  have c0 := h.c0
  have cT := h.cT hx
  have hi' : (i : Int) < ((ts.length : Nat) : Int) := by omega
  cases x with
  | none =>
    have hr' : r = false := hr
    subst hr'
    clear h hx hi hr
    go_enter Try.func18, Try.ntmps18
    go_wp2_with (go_at_call 17; refine hal.mono ?_; rintro e w' ⟨rfl, rfl⟩)
    go_ret
    exact ⟨rfl, rfl⟩
  | some x =>
    have k1 := h.k1 hx
    replace cT : w.cell? ⟨t, i, none⟩ = some (.pointer (some ⟨x.k, 0, none⟩)) := cT
    replace hal : Calls Try.prog 17 #[.pointer (some ⟨s, 0, none⟩), .int .i64 (i : Int)] w fun e w' => e = .returned (.bool true) ∧ w' = w := hal
    clear h hx hi
    rcases hr with ⟨hm, rfl⟩ | ⟨a, hv, hm, hc, rfl⟩
    · rw [hm] at k1
      have hh := mutex_Holder_nil w
      clear hm
      go_enter Try.func18, Try.ntmps18
      go_wp2_with (first | (go_at_call 17; refine hal.mono ?_; rintro e w' ⟨rfl, rfl⟩) | (go_at_call 29; refine hh.mono ?_; rintro e w' ⟨rfl, rfl⟩))
      go_ret
      exact ⟨rfl, rfl⟩
    · rw [hm] at k1
      have hh := mutex_Holder hc
      clear hm hc
      go_enter Try.func18, Try.ntmps18
      go_wp2_with (first | (go_at_call 17; refine hal.mono ?_; rintro e w' ⟨rfl, rfl⟩) | (go_at_call 29; refine hh.mono ?_; rintro e w' ⟨rfl, rfl⟩))
      go_ret
      exact ⟨rfl, rfl⟩
end Go.Proofs.Ytccliallljcjgaa
