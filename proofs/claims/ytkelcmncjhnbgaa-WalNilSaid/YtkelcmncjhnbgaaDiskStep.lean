/- A change that is counted; a file that is made sure; a new disk; when the power goes. -/
import Derived.Test.YtkelcmncjhnbgaaDiskSmall
set_option linter.unusedVariables false
set_option maxRecDepth 100000
namespace Go.Proofs.Ytkelcmncjhnbgaa
open Go.RowKit Go.Maps

def DC.tick (c : DC) : DC := { c with left := if c.left < 0 then c.left else c.left - 1, steps := c.steps + 1 }
def DC.off (c : DC) : DC := { c with down := true }
/-- The disk's block alone was written. -/
theorem only_setD {w : World} {d i : Nat} (u : Value) : Only (fun k => k = d) w (w.setCell ⟨d, i, none⟩ u) := Only.setCell (S := fun k => k = d) (Only.refl _ w) (p := ⟨d, i, none⟩) (.inl rfl) u

theorem lay_change_off {S : Nat → Prop} {w : World} {d mb : Nat} {es : List DE} {c : DC} (h : Lay S w d mb es c) (hl : c.left = 0) :
    Calls Try.prog 47 #[.pointer (some ⟨d, 0, none⟩)] w fun e w' => e = .returned (.int .i64 8) ∧ Lay S w' d mb es c.off ∧ Only (fun k => k = d) w w' := by
  have c7 : w.cell? ⟨d, 7, none⟩ = some (.int .i64 0) := by rw [h.cell 7, ← hl]; rfl
  have c8 : w.cell? ⟨d, 8, none⟩ = some (.bool c.down) := h.cell 8
  have f8 := h.free 8
  have H := Lib.hid (h.setD 8 (.bool true) c.off rfl)
  clear h hl
  go_enter Try.func47, Try.ntmps47
  go_wp2
  go_ret
  exact ⟨rfl, H.out, only_setD _⟩
theorem lay_change_on {S : Nat → Prop} {w : World} {d mb : Nat} {es : List DE} {c : DC} (h : Lay S w d mb es c) (hl : c.left ≠ 0) (h1 : -1 ≤ c.left) (h2 : c.left ≤ 9223372036854775807) (s1 : 0 ≤ c.steps) (s2 : c.steps < 4611686018427387904) :
    Calls Try.prog 47 #[.pointer (some ⟨d, 0, none⟩)] w fun e w' => e = .returned (.int .i64 0) ∧ Lay S w' d mb es c.tick ∧ Only (fun k => k = d) w w' := by
  have c7 : w.cell? ⟨d, 7, none⟩ = some (.int .i64 c.left) := h.cell 7
  have c6 : w.cell? ⟨d, 6, none⟩ = some (.int .i64 c.steps) := h.cell 6
  have f7 := h.free 7
  have f6 := h.free 6
  have k0 : (c.left == 0) = false := by simpa using hl
  rcases (show c.left < 0 ∨ 0 < c.left by omega) with hn | hp
  · have H := Lib.hid (h.setD 6 (.int .i64 (c.steps + 1)) c.tick (by simp [DC.cells, DC.tick, hn]))
    have k1 : decide (0 < c.left) = false := by simp; omega
    clear h hl
    go_enter Try.func47, Try.ntmps47
    go_wp2
    go_ret
    exact ⟨rfl, H.out, only_setD _⟩
  · have H := Lib.hid ((h.setD 7 (.int .i64 (c.left - 1)) { c with left := c.left - 1 } rfl).setD 6 (.int .i64 (c.steps + 1)) c.tick (by simp [DC.cells, DC.tick, show ¬ c.left < 0 by omega]))
    have k1 : decide (0 < c.left) = true := by simpa using hp
    clear h hl
    go_enter Try.func47, Try.ntmps47
    go_wp2
    go_ret
    exact ⟨rfl, H.out, (only_setD _).trans (only_setD _)⟩

theorem disk_Arm_nil (n : Int) (w : World) : Calls Try.prog 42 #[.pointer none, .int .i64 n] w fun e w' => e = .returned (.tuple #[]) ∧ w = w' := by
  go_enter Try.func42, Try.ntmps42
  go_wp2
  go_end0
  exact ⟨rfl, rfl⟩
theorem lay_Arm {S : Nat → Prop} {w : World} {d mb : Nat} {es : List DE} {c : DC} (h : Lay S w d mb es c) (n : Int) :
    Calls Try.prog 42 #[.pointer (some ⟨d, 0, none⟩), .int .i64 n] w fun e w' => e = .returned (.tuple #[]) ∧ Lay S w' d mb es { c with left := max n (-1) } ∧ Only (fun k => k = d) w w' := by
  have c7 : w.cell? ⟨d, 7, none⟩ = some (.int .i64 c.left) := h.cell 7
  have f7 := h.free 7
  have H := Lib.hid (h.setD 7 (.int .i64 (max n (-1))) { c with left := max n (-1) } rfl)
  clear h
  go_enter Try.func42, Try.ntmps42
  go_wp2
  go_end0
  exact ⟨rfl, H.out, only_setD _⟩

theorem lay_new (w : World) (a b : Int) : Lay (fun k => w.heap.size ≤ k) ((w.alloc (.map #[] 0)).alloc (.cells #[.int .i64 a, .int .i64 b, .int .i64 0, .int .i64 0, .map (some w.heap.size), .int .i64 0, .int .i64 0, .int .i64 (-1), .bool false] 81)) (w.heap.size + 1) w.heap.size [] ⟨a, b, 0, 0, 0, 0, -1, false⟩ := by
  refine ⟨?_, ⟨[], (World.ownsMap_made w Try.prog 3 ptrR).alloc _, List.Perm.refl _⟩, by simp, by simp, by simp, by simp, Nat.le_refl _, by simp, by simp⟩
  have := heap_new (w.alloc (.map #[] 0)) (.cells #[.int .i64 a, .int .i64 b, .int .i64 0, .int .i64 0, .map (some w.heap.size), .int .i64 0, .int .i64 0, .int .i64 (-1), .bool false] 81)
  rw [show (w.alloc (.map #[] 0)).heap.size = w.heap.size + 1 by simp] at this
  exact this
theorem disk_New_no (a b : Int) (w : World) (h : a < 0 ∨ b < 0 ∨ 1048576 < a ∨ 1048576 < b) : Calls Try.prog 17 #[.int .i64 a, .int .i64 b] w fun e w' => e = .returned (.tuple #[.pointer none, .int .i64 1]) ∧ w = w' := by
  by_cases h0 : min a b < 0
  · go_enter Try.func17, Try.ntmps17
    go_wp2
    go_ret2
    exact ⟨rfl, rfl⟩
  · have h1 : 0 ≤ min a b := by omega
    have h2 : 1048576 < max a b := by omega
    clear h
    go_enter Try.func17, Try.ntmps17
    go_wp2
    go_ret2
    exact ⟨rfl, rfl⟩
theorem disk_New (a b : Nat) (w : World) (ha : a ≤ 1048576) (hb : b ≤ 1048576) :
    Calls Try.prog 17 #[.int .i64 (a : Int), .int .i64 (b : Int)] w fun e w' => ∃ d mb : Nat, e = .returned (.tuple #[.pointer (some ⟨d, 0, none⟩), .int .i64 0]) ∧ Lay (fun k => w.heap.size ≤ k) w' d mb [] ⟨a, b, 0, 0, 0, 0, -1, false⟩ ∧ Below w.heap.size w w' := by
  have hmm := @run_makeMap Try.prog
  have h0 : 0 ≤ min (a : Int) (b : Int) := by omega
  have h1 : max (a : Int) (b : Int) ≤ 1048576 := by omega
  go_enter Try.func17, Try.ntmps17
  go_wp2
  go_ret2
  refine ⟨w.heap.size + 1, w.heap.size, ?_, ?_, ?_⟩
  · simp
  · exact lay_new w a b
  · exact ((Below.refl _ _).alloc (Nat.le_refl _) _).alloc (by simp) _
end Go.Proofs.Ytkelcmncjhnbgaa
