/- The small functions of package disk. -/
import Derived.Test.YtkelcmncjhnbgaaDiskLay
import Derived.StillTailTactics
import Derived.RegionTactic
import Derived.Lib.MinMax
set_option linter.unusedVariables false
set_option maxRecDepth 100000
namespace Go.Proofs.Ytkelcmncjhnbgaa
open Go.RowKit Go.Maps

theorem disk_blocks (n : Nat) (hn : n ≤ 4611686018427387904) (w : World) : Calls Try.prog 46 #[.int .i64 (n : Int)] w fun e w' => e = .returned (.int .i64 (blk n : Int)) ∧ w = w' := by
  have h0 : (0 : Int) ≤ n := by omega
  have hb : ((blk n : Nat) : Int) = 1 + ((n : Int) + 64 - 1) / 64 := by unfold blk; omega
  have HB := Lib.hid hb
  clear hb
  go_enter Try.func46, Try.ntmps46
  go_wp2
  go_ret
  exact ⟨ret1 HB.out, rfl⟩

def tierB (t : Int) : Bool := decide (t = 0 ∨ t = 1)
theorem ret_bool {a b : Bool} (h : b = a) : Ending.returned (.bool a) = Ending.returned (.bool b) := by rw [h]
theorem disk_isTier (t : Int) (w : World) : Calls Try.prog 44 #[.int .i64 t] w fun e w' => e = .returned (.bool (tierB t)) ∧ w = w' := by
  by_cases h0 : t = 0
  · subst h0
    go_enter Try.func44, Try.ntmps44
    go_wp2
    go_ret
    exact ⟨rfl, rfl⟩
  · by_cases h1 : t = 1
    · subst h1
      go_enter Try.func44, Try.ntmps44
      go_wp2
      go_ret
      exact ⟨rfl, rfl⟩
    · have hb : tierB t = false := by simp [tierB, h0, h1]
      have HB := Lib.hid hb
      clear hb
      go_enter Try.func44, Try.ntmps44
      go_wp2
      go_ret
      exact ⟨ret_bool (by rw [HB.out]; simp [h0, h1]), rfl⟩

theorem disk_Down_nil (w : World) : Calls Try.prog 41 #[.pointer none] w fun e w' => e = .returned (.bool true) ∧ w = w' := by
  go_enter Try.func41, Try.ntmps41
  go_wp2
  go_ret
  exact ⟨rfl, rfl⟩
theorem lay_Down {S : Nat → Prop} {w : World} {d mb : Nat} {es : List DE} {c : DC} (h : Lay S w d mb es c) : Calls Try.prog 41 #[.pointer (some ⟨d, 0, none⟩)] w fun e w' => e = .returned (.bool c.down) ∧ w = w' := by
  have c8 : w.cell? ⟨d, 8, none⟩ = some (.bool c.down) := h.cell 8
  clear h
  go_enter Try.func41, Try.ntmps41
  go_wp2
  go_ret
  exact ⟨rfl, rfl⟩
theorem disk_Steps_nil (w : World) : Calls Try.prog 40 #[.pointer none] w fun e w' => e = .returned (.int .i64 0) ∧ w = w' := by
  go_enter Try.func40, Try.ntmps40
  go_wp2
  go_ret
  exact ⟨rfl, rfl⟩
theorem lay_Steps {S : Nat → Prop} {w : World} {d mb : Nat} {es : List DE} {c : DC} (h : Lay S w d mb es c) : Calls Try.prog 40 #[.pointer (some ⟨d, 0, none⟩)] w fun e w' => e = .returned (.int .i64 c.steps) ∧ w = w' := by
  have c6 : w.cell? ⟨d, 6, none⟩ = some (.int .i64 c.steps) := h.cell 6
  clear h
  go_enter Try.func40, Try.ntmps40
  go_wp2
  go_ret
  exact ⟨rfl, rfl⟩
/-- What is told of a tier: 0, if it is none. -/
def tierI (t a b : Int) : Int := if t = 0 then a else if t = 1 then b else 0
/-- Blocks that no file takes. -/
theorem lay_free {S : Nat → Prop} {w : World} {d mb : Nat} {es : List DE} {c : DC} (h : Lay S w d mb es c) (t : Int) (ht : t = 0 ∨ t = 1)
    (b0 : 0 ≤ c.r0 ∧ c.r0 ≤ 1048576 ∧ 0 ≤ c.u0 ∧ c.u0 ≤ 1048576) (b1 : 0 ≤ c.r1 ∧ c.r1 ≤ 1048576 ∧ 0 ≤ c.u1 ∧ c.u1 ≤ 1048576) :
    Calls Try.prog 45 #[.pointer (some ⟨d, 0, none⟩), .int .i64 t] w fun e w' => e = .returned (.int .i64 (tierI t (c.r0 - c.u0) (c.r1 - c.u1))) ∧ ∃ n, w' = w.drewN n := by
  have c0 : w.cell? ⟨d, 0, none⟩ = some (.int .i64 c.r0) := h.cell 0
  have c1 : w.cell? ⟨d, 1, none⟩ = some (.int .i64 c.r1) := h.cell 1
  have c2 : w.cell? ⟨d, 2, none⟩ = some (.int .i64 c.u0) := h.cell 2
  have c3 : w.cell? ⟨d, 3, none⟩ = some (.int .i64 c.u1) := h.cell 3
  clear h
  obtain ⟨g1, g2, g3, g4⟩ := b0
  obtain ⟨k1, k2, k3, k4⟩ := b1
  have z0 : IntKind.i64.wrap (c.r0 - c.u0) = c.r0 - c.u0 := IntWalk.i64_in _ (by omega)
  have z1 : IntKind.i64.wrap (c.r1 - c.u1) = c.r1 - c.u1 := IntWalk.i64_in _ (by omega)
  rcases ht with rfl | rfl
  · go_enter Try.func45, Try.ntmps45
    go_wp2
    go_quiet (fail)
    go_wp2
    go_ret
    exact ⟨rfl, _, rfl⟩
  · go_enter Try.func45, Try.ntmps45
    go_wp2
    go_quiet (fail)
    go_wp2
    go_ret
    exact ⟨rfl, _, rfl⟩

/-- A file, by its number. -/
theorem lay_find_down {S : Nat → Prop} {w : World} {d mb : Nat} {es : List DE} {c : DC} (h : Lay S w d mb es c) (n : Int) (hd : c.down = true) :
    Calls Try.prog 48 #[.pointer (some ⟨d, 0, none⟩), .int .i64 n] w fun e w' => e = .returned (.tuple #[.pointer none, .int .i64 8]) ∧ w = w' := by
  have hD := lay_Down h
  rw [hd] at hD
  clear h hd
  go_enter Try.func48, Try.ntmps48
  go_wp2_with (go_at_call 41; refine hD.mono ?_; rintro e w' ⟨rfl, rfl⟩)
  go_ret2
  exact ⟨rfl, rfl⟩
theorem lay_find_none {S : Nat → Prop} {w : World} {d mb : Nat} {es : List DE} {c : DC} (h : Lay S w d mb es c) (n : Int) (hw : (Lit.int .i64 n).wf = true) (hd : c.down = false) (hf : findE n es = none) :
    Calls Try.prog 48 #[.pointer (some ⟨d, 0, none⟩), .int .i64 n] w fun e w' => e = .returned (.tuple #[.pointer none, .int .i64 9]) ∧ w = w' := by
  have hD := lay_Down h
  rw [hd] at hD
  have c4 : w.cell? ⟨d, 4, none⟩ = some (.map (some mb)) := h.cell 4
  have hl := h.map.look h.nod hw
  rw [hf] at hl
  unfold ptrE at hl
  clear h hd hf hw
  go_enter Try.func48, Try.ntmps48
  go_wp2_with (go_at_call 41; refine hD.mono ?_; rintro e w' ⟨rfl, rfl⟩)
  go_ret2
  exact ⟨rfl, rfl⟩
theorem lay_find_some {S : Nat → Prop} {w : World} {d mb : Nat} {es : List DE} {c : DC} (h : Lay S w d mb es c) (n : Int) (hw : (Lit.int .i64 n).wf = true) (hd : c.down = false) (e0 : DE) (hf : findE n es = some e0) :
    Calls Try.prog 48 #[.pointer (some ⟨d, 0, none⟩), .int .i64 n] w fun e w' => e = .returned (.tuple #[.pointer (some ⟨e0.fb, 0, none⟩), .int .i64 0]) ∧ w = w' := by
  have hD := lay_Down h
  rw [hd] at hD
  have c4 : w.cell? ⟨d, 4, none⟩ = some (.map (some mb)) := h.cell 4
  have hl := h.map.look h.nod hw
  rw [hf] at hl
  unfold ptrE at hl
  simp only at hl
  clear h hd hf hw
  go_enter Try.func48, Try.ntmps48
  go_wp2_with (go_at_call 41; refine hD.mono ?_; rintro e w' ⟨rfl, rfl⟩)
  go_ret2
  exact ⟨rfl, rfl⟩
theorem disk_find_nil (n : Int) (w : World) : Calls Try.prog 48 #[.pointer none, .int .i64 n] w fun e w' => e = .returned (.tuple #[.pointer none, .int .i64 8]) ∧ w = w' := by
  go_enter Try.func48, Try.ntmps48
  go_wp2_with (go_at_call 41; refine (disk_Down_nil _).mono ?_; rintro e w' ⟨rfl, rfl⟩)
  go_ret2
  exact ⟨rfl, rfl⟩
end Go.Proofs.Ytkelcmncjhnbgaa
