/- Texts put together: DiskSmall, DiskStep, DiskFile, DiskIs, DiskDrop, DiskOut -/
import Derived.Test.YtfbaenhajlckjaaGreatMWho05
import Derived.StillTailTactics
import Derived.RegionTactic
import Derived.Lib.MinMax
import Derived.Laws.BytesArg
/- The small functions of package disk. -/
set_option linter.unusedVariables false
set_option maxRecDepth 100000
namespace Go.Proofs.YtfbaenhajlckjaaGreat
open Go.RowKit Go.Maps

theorem disk_blocks (n : Nat) (hn : n ≤ 4611686018427387904) (w : World) : Calls Tryz.prog 74 #[.int .i64 (n : Int)] w fun e w' => e = .returned (.int .i64 (blk n : Int)) ∧ w = w' := by
  have h0 : (0 : Int) ≤ n := by omega
  have hb : ((blk n : Nat) : Int) = 1 + ((n : Int) + 64 - 1) / 64 := by unfold blk; omega
  have HB := Lib.hid hb
  clear hb
  go_enter Tryz.func74, Tryz.ntmps74
  go_wp2
  go_ret
  exact ⟨ret1 HB.out, rfl⟩

def tierB (t : Int) : Bool := decide (t = 0 ∨ t = 1)
theorem ret_bool {a b : Bool} (h : b = a) : Ending.returned (.bool a) = Ending.returned (.bool b) := by rw [h]
theorem disk_isTier (t : Int) (w : World) : Calls Tryz.prog 72 #[.int .i64 t] w fun e w' => e = .returned (.bool (tierB t)) ∧ w = w' := by
  by_cases h0 : t = 0
  · subst h0
    go_enter Tryz.func72, Tryz.ntmps72
    go_wp2
    go_ret
    exact ⟨rfl, rfl⟩
  · by_cases h1 : t = 1
    · subst h1
      go_enter Tryz.func72, Tryz.ntmps72
      go_wp2
      go_ret
      exact ⟨rfl, rfl⟩
    · have hb : tierB t = false := by simp [tierB, h0, h1]
      have HB := Lib.hid hb
      clear hb
      go_enter Tryz.func72, Tryz.ntmps72
      go_wp2
      go_ret
      exact ⟨ret_bool (by rw [HB.out]; simp [h0, h1]), rfl⟩

theorem disk_Down_nil (w : World) : Calls Tryz.prog 71 #[.pointer none] w fun e w' => e = .returned (.bool true) ∧ w = w' := by
  go_enter Tryz.func71, Tryz.ntmps71
  go_wp2
  go_ret
  exact ⟨rfl, rfl⟩
theorem lay_Down {S : Nat → Prop} {w : World} {d mb : Nat} {es : List DE} {c : DC} (h : Lay S w d mb es c) : Calls Tryz.prog 71 #[.pointer (some ⟨d, 0, none⟩)] w fun e w' => e = .returned (.bool c.down) ∧ w = w' := by
  have c8 : w.cell? ⟨d, 8, none⟩ = some (.bool c.down) := h.cell 8
  clear h
  go_enter Tryz.func71, Tryz.ntmps71
  go_wp2
  go_ret
  exact ⟨rfl, rfl⟩
theorem disk_Root_nil (w : World) : Calls Tryz.prog 70 #[.pointer none] w fun e w' => e = .returned (.int .i64 0) ∧ w = w' := by
  go_enter Tryz.func70, Tryz.ntmps70
  go_wp2
  go_ret
  exact ⟨rfl, rfl⟩
theorem lay_Root {S : Nat → Prop} {w : World} {d mb : Nat} {es : List DE} {c : DC} (h : Lay S w d mb es c) : Calls Tryz.prog 70 #[.pointer (some ⟨d, 0, none⟩)] w fun e w' => e = .returned (.int .i64 c.root) ∧ w = w' := by
  have c5 : w.cell? ⟨d, 5, none⟩ = some (.int .i64 c.root) := h.cell 5
  clear h
  go_enter Tryz.func70, Tryz.ntmps70
  go_wp2
  go_ret
  exact ⟨rfl, rfl⟩
/-- What is told of a tier: 0, if it is none. -/
def tierI (t a b : Int) : Int := if t = 0 then a else if t = 1 then b else 0
/-- Blocks that no file takes. -/
theorem lay_free {S : Nat → Prop} {w : World} {d mb : Nat} {es : List DE} {c : DC} (h : Lay S w d mb es c) (t : Int) (ht : t = 0 ∨ t = 1)
    (b0 : 0 ≤ c.r0 ∧ c.r0 ≤ 1048576 ∧ 0 ≤ c.u0 ∧ c.u0 ≤ 1048576) (b1 : 0 ≤ c.r1 ∧ c.r1 ≤ 1048576 ∧ 0 ≤ c.u1 ∧ c.u1 ≤ 1048576) :
    Calls Tryz.prog 73 #[.pointer (some ⟨d, 0, none⟩), .int .i64 t] w fun e w' => e = .returned (.int .i64 (tierI t (c.r0 - c.u0) (c.r1 - c.u1))) ∧ ∃ n, w' = w.drewN n := by
  have c0 : w.cell? ⟨d, 0, none⟩ = some (.int .i64 c.r0) := h.cell 0
  have c1 : w.cell? ⟨d, 1, none⟩ = some (.int .i64 c.r1) := h.cell 1
  have c2 : w.cell? ⟨d, 2, none⟩ = some (.int .i64 c.u0) := h.cell 2
  have c3 : w.cell? ⟨d, 3, none⟩ = some (.int .i64 c.u1) := h.cell 3
  clear h
  obtain ⟨g1, g2, g3, g4⟩ := b0
  obtain ⟨k1, k2, k3, k4⟩ := b1
  have z0 : IntKind.i64.wrap (c.r0 - c.u0) = c.r0 - c.u0 := IntWalk.i64_in _ (by omega)
  have z1 : IntKind.i64.wrap (c.r1 - c.u1) = c.r1 - c.u1 := IntWalk.i64_in _ (by omega)
  rcases ht with rfl | rfl
  · go_enter Tryz.func73, Tryz.ntmps73
    go_wp2
    go_quiet (fail)
    go_wp2
    go_ret
    exact ⟨rfl, _, rfl⟩
  · go_enter Tryz.func73, Tryz.ntmps73
    go_wp2
    go_quiet (fail)
    go_wp2
    go_ret
    exact ⟨rfl, _, rfl⟩

/-- A file, by its number. -/
theorem lay_find_down {S : Nat → Prop} {w : World} {d mb : Nat} {es : List DE} {c : DC} (h : Lay S w d mb es c) (n : Int) (hd : c.down = true) :
    Calls Tryz.prog 76 #[.pointer (some ⟨d, 0, none⟩), .int .i64 n] w fun e w' => e = .returned (.tuple #[.pointer none, .int .i64 8]) ∧ w = w' := by
  have hD := lay_Down h
  rw [hd] at hD
  clear h hd
  go_enter Tryz.func76, Tryz.ntmps76
  go_wp2_with (go_at_call 71; refine hD.mono ?_; rintro e w' ⟨rfl, rfl⟩)
  go_ret2
  exact ⟨rfl, rfl⟩
theorem lay_find_none {S : Nat → Prop} {w : World} {d mb : Nat} {es : List DE} {c : DC} (h : Lay S w d mb es c) (n : Int) (hw : (Lit.int .i64 n).wf = true) (hd : c.down = false) (hf : findE n es = none) :
    Calls Tryz.prog 76 #[.pointer (some ⟨d, 0, none⟩), .int .i64 n] w fun e w' => e = .returned (.tuple #[.pointer none, .int .i64 9]) ∧ w = w' := by
  have hD := lay_Down h
  rw [hd] at hD
  have c4 : w.cell? ⟨d, 4, none⟩ = some (.map (some mb)) := h.cell 4
  have hl := h.map.look h.nod hw
  rw [hf] at hl
  unfold ptrE at hl
  clear h hd hf hw
  go_enter Tryz.func76, Tryz.ntmps76
  go_wp2_with (go_at_call 71; refine hD.mono ?_; rintro e w' ⟨rfl, rfl⟩)
  go_ret2
  exact ⟨rfl, rfl⟩
theorem lay_find_some {S : Nat → Prop} {w : World} {d mb : Nat} {es : List DE} {c : DC} (h : Lay S w d mb es c) (n : Int) (hw : (Lit.int .i64 n).wf = true) (hd : c.down = false) (e0 : DE) (hf : findE n es = some e0) :
    Calls Tryz.prog 76 #[.pointer (some ⟨d, 0, none⟩), .int .i64 n] w fun e w' => e = .returned (.tuple #[.pointer (some ⟨e0.fb, 0, none⟩), .int .i64 0]) ∧ w = w' := by
  have hD := lay_Down h
  rw [hd] at hD
  have c4 : w.cell? ⟨d, 4, none⟩ = some (.map (some mb)) := h.cell 4
  have hl := h.map.look h.nod hw
  rw [hf] at hl
  unfold ptrE at hl
  simp only at hl
  clear h hd hf hw
  go_enter Tryz.func76, Tryz.ntmps76
  go_wp2_with (go_at_call 71; refine hD.mono ?_; rintro e w' ⟨rfl, rfl⟩)
  go_ret2
  exact ⟨rfl, rfl⟩
theorem disk_find_nil (n : Int) (w : World) : Calls Tryz.prog 76 #[.pointer none, .int .i64 n] w fun e w' => e = .returned (.tuple #[.pointer none, .int .i64 8]) ∧ w = w' := by
  go_enter Tryz.func76, Tryz.ntmps76
  go_wp2_with (go_at_call 71; refine (disk_Down_nil _).mono ?_; rintro e w' ⟨rfl, rfl⟩)
  go_ret2
  exact ⟨rfl, rfl⟩
end Go.Proofs.YtfbaenhajlckjaaGreat
/- A change that is counted; a file that is made sure; a new disk; when the power goes. -/
set_option linter.unusedVariables false
set_option maxRecDepth 100000
namespace Go.Proofs.YtfbaenhajlckjaaGreat
open Go.RowKit Go.Maps

def DC.tick (c : DC) : DC := { c with left := if c.left < 0 then c.left else c.left - 1, steps := c.steps + 1 }
def DC.off (c : DC) : DC := { c with down := true }
/-- The disk's block alone was written. -/
theorem only_setD {w : World} {d i : Nat} (u : Value) : Only (fun k => k = d) w (w.setCell ⟨d, i, none⟩ u) := Only.setCell (S := fun k => k = d) (Only.refl _ w) (p := ⟨d, i, none⟩) (.inl rfl) u

theorem lay_change_off {S : Nat → Prop} {w : World} {d mb : Nat} {es : List DE} {c : DC} (h : Lay S w d mb es c) (hl : c.left = 0) :
    Calls Tryz.prog 75 #[.pointer (some ⟨d, 0, none⟩)] w fun e w' => e = .returned (.int .i64 8) ∧ Lay S w' d mb es c.off ∧ Only (fun k => k = d) w w' := by
  have c7 : w.cell? ⟨d, 7, none⟩ = some (.int .i64 0) := by rw [h.cell 7, ← hl]; rfl
  have c8 : w.cell? ⟨d, 8, none⟩ = some (.bool c.down) := h.cell 8
  have f8 := h.free 8
  have H := Lib.hid (h.setD 8 (.bool true) c.off rfl)
  clear h hl
  go_enter Tryz.func75, Tryz.ntmps75
  go_wp2
  go_ret
  exact ⟨rfl, H.out, only_setD _⟩
theorem lay_change_on {S : Nat → Prop} {w : World} {d mb : Nat} {es : List DE} {c : DC} (h : Lay S w d mb es c) (hl : c.left ≠ 0) (h1 : -1 ≤ c.left) (h2 : c.left ≤ 9223372036854775807) (s1 : 0 ≤ c.steps) (s2 : c.steps < 4611686018427387904) :
    Calls Tryz.prog 75 #[.pointer (some ⟨d, 0, none⟩)] w fun e w' => e = .returned (.int .i64 0) ∧ Lay S w' d mb es c.tick ∧ Only (fun k => k = d) w w' := by
  have c7 : w.cell? ⟨d, 7, none⟩ = some (.int .i64 c.left) := h.cell 7
  have c6 : w.cell? ⟨d, 6, none⟩ = some (.int .i64 c.steps) := h.cell 6
  have f7 := h.free 7
  have f6 := h.free 6
  have k0 : (c.left == 0) = false := by simpa using hl
  rcases (show c.left < 0 ∨ 0 < c.left by omega) with hn | hp
  · have H := Lib.hid (h.setD 6 (.int .i64 (c.steps + 1)) c.tick (by simp [DC.cells, DC.tick, hn]))
    have k1 : decide (0 < c.left) = false := by simp; omega
    clear h hl
    go_enter Tryz.func75, Tryz.ntmps75
    go_wp2
    go_ret
    exact ⟨rfl, H.out, only_setD _⟩
  · have H := Lib.hid ((h.setD 7 (.int .i64 (c.left - 1)) { c with left := c.left - 1 } rfl).setD 6 (.int .i64 (c.steps + 1)) c.tick (by simp [DC.cells, DC.tick, show ¬ c.left < 0 by omega]))
    have k1 : decide (0 < c.left) = true := by simpa using hp
    clear h hl
    go_enter Tryz.func75, Tryz.ntmps75
    go_wp2
    go_ret
    exact ⟨rfl, H.out, (only_setD _).trans (only_setD _)⟩

theorem disk_Arm_nil (n : Int) (w : World) : Calls Tryz.prog 80 #[.pointer none, .int .i64 n] w fun e w' => e = .returned (.tuple #[]) ∧ w = w' := by
  go_enter Tryz.func80, Tryz.ntmps80
  go_wp2
  go_end0
  exact ⟨rfl, rfl⟩
theorem lay_Arm {S : Nat → Prop} {w : World} {d mb : Nat} {es : List DE} {c : DC} (h : Lay S w d mb es c) (n : Int) :
    Calls Tryz.prog 80 #[.pointer (some ⟨d, 0, none⟩), .int .i64 n] w fun e w' => e = .returned (.tuple #[]) ∧ Lay S w' d mb es { c with left := max n (-1) } ∧ Only (fun k => k = d) w w' := by
  have c7 : w.cell? ⟨d, 7, none⟩ = some (.int .i64 c.left) := h.cell 7
  have f7 := h.free 7
  have H := Lib.hid (h.setD 7 (.int .i64 (max n (-1))) { c with left := max n (-1) } rfl)
  clear h
  go_enter Tryz.func80, Tryz.ntmps80
  go_wp2
  go_end0
  exact ⟨rfl, H.out, only_setD _⟩

theorem lay_new (w : World) (a b : Int) : Lay (fun k => w.heap.size ≤ k) ((w.alloc (.map #[] 0)).alloc (.cells #[.int .i64 a, .int .i64 b, .int .i64 0, .int .i64 0, .map (some w.heap.size), .int .i64 0, .int .i64 0, .int .i64 (-1), .bool false] 129)) (w.heap.size + 1) w.heap.size [] ⟨a, b, 0, 0, 0, 0, -1, false⟩ := by
  refine ⟨?_, ⟨[], (World.ownsMap_made w Tryz.prog 3 ptrR).alloc _, List.Perm.refl _⟩, by simp, by simp, by simp, by simp, Nat.le_refl _, by simp, by simp⟩
  have := heap_new (w.alloc (.map #[] 0)) (.cells #[.int .i64 a, .int .i64 b, .int .i64 0, .int .i64 0, .map (some w.heap.size), .int .i64 0, .int .i64 0, .int .i64 (-1), .bool false] 129)
  rw [show (w.alloc (.map #[] 0)).heap.size = w.heap.size + 1 by simp] at this
  exact this
theorem disk_New_no (a b : Int) (w : World) (h : a < 0 ∨ b < 0 ∨ 1048576 < a ∨ 1048576 < b) : Calls Tryz.prog 27 #[.int .i64 a, .int .i64 b] w fun e w' => e = .returned (.tuple #[.pointer none, .int .i64 1]) ∧ w = w' := by
  by_cases h0 : min a b < 0
  · go_enter Tryz.func27, Tryz.ntmps27
    go_wp2
    go_ret2
    exact ⟨rfl, rfl⟩
  · have h1 : 0 ≤ min a b := by omega
    have h2 : 1048576 < max a b := by omega
    clear h
    go_enter Tryz.func27, Tryz.ntmps27
    go_wp2
    go_ret2
    exact ⟨rfl, rfl⟩
theorem disk_New (a b : Nat) (w : World) (ha : a ≤ 1048576) (hb : b ≤ 1048576) :
    Calls Tryz.prog 27 #[.int .i64 (a : Int), .int .i64 (b : Int)] w fun e w' => ∃ d mb : Nat, e = .returned (.tuple #[.pointer (some ⟨d, 0, none⟩), .int .i64 0]) ∧ Lay (fun k => w.heap.size ≤ k) w' d mb [] ⟨a, b, 0, 0, 0, 0, -1, false⟩ ∧ Below w.heap.size w w' := by
  have hmm := @run_makeMap Tryz.prog
  have h0 : 0 ≤ min (a : Int) (b : Int) := by omega
  have h1 : max (a : Int) (b : Int) ≤ 1048576 := by omega
  go_enter Tryz.func27, Tryz.ntmps27
  go_wp2
  go_ret2
  refine ⟨w.heap.size + 1, w.heap.size, ?_, ?_, ?_⟩
  · simp
  · exact lay_new w a b
  · exact ((Below.refl _ _).alloc (Nat.le_refl _) _).alloc (by simp) _
end Go.Proofs.YtfbaenhajlckjaaGreat
/- A file made sure; how many bytes it has; bytes read. -/
set_option linter.unusedVariables false
set_option maxRecDepth 100000
namespace Go.Proofs.YtfbaenhajlckjaaGreat
open Go.RowKit Go.Maps

/-- A slice of bytes has a length. -/
theorem row_slice {w : World} {v : Value} {n : Nat} {xs : List Value} (h : w.ownsRow 0 5 1 v n xs) : ∃ a cap, v = .slice a n cap ∧ n ≤ cap := by
  rcases h.2 with ⟨rfl, rfl⟩ | ⟨g, cap, cur, rfl, _, _, hc, _⟩
  · exact ⟨none, 0, rfl, Nat.le_refl _⟩
  · exact ⟨_, cap, rfl, hc⟩

theorem lay_settle {S : Nat → Prop} {w : World} {d mb : Nat} {es : List DE} {c : DC} (h : Lay S w d mb es c) (e0 : DE) (n : Int) (hf : findE n es = some e0) :
    Calls Tryz.prog 77 #[.pointer (some ⟨e0.fb, 0, none⟩)] w fun e w' => e = .returned (.tuple #[]) ∧ Lay S w' d mb (updE n { e0 with f := syncF e0.f } es) c ∧ Only (fun k => k = e0.fb) w w' := by
  obtain ⟨hm, hn⟩ := findE_mem hf
  obtain ⟨a, cap, hv, hc⟩ := row_slice (h.file e0 hm).2
  have g1 : w.cell? ⟨e0.fb, 1, none⟩ = some (.slice a e0.f.data.length cap) := by rw [h.fcell hm 1, ← hv]; rfl
  have g2 : w.cell? ⟨e0.fb, 2, none⟩ = some (.bool e0.f.sure) := h.fcell hm 2
  have g3 : w.cell? ⟨e0.fb, 3, none⟩ = some (.int .i64 (e0.f.sb : Int)) := h.fcell hm 3
  have f2 := h.ffree hm 2
  have f3 := h.ffree hm 3
  have hO : Only (fun k => k = e0.fb) w ((w.setCell ⟨e0.fb, 2, none⟩ (.bool true)).setCell ⟨e0.fb, 3, none⟩ (.int .i64 (e0.f.data.length : Int))) := (only_setD _).trans (only_setD _)
  have H := Lib.hid (Lay.turn (S' := S) (e' := { e0 with f := syncF e0.f }) h hf hn rfl (fun k hk h1 _ => hO.block k hk h1) ⟨by
      have := heap_set (o := 3) (heap_set (o := 2) (h.file e0 hm).1 (.bool true)) (.int .i64 (e0.f.data.length : Int))
      exact this, ownsRow_same (h.file e0 hm).2 fun g hg => by
        rw [heap_set_other ((h.ne_row hm hg).2.2 e0 hm), heap_set_other ((h.ne_row hm hg).2.2 e0 hm)]⟩ (fun g hg => .inl hg) (fun k hk => hk) (fun g hg => h.sr e0 hm g hg))
  have HO := Lib.hid hO
  clear h hv hf hn hm hO
  go_enter Tryz.func77, Tryz.ntmps77
  go_wp2
  go_end0
  exact ⟨rfl, H.out, HO.out⟩

theorem lay_Size_down {S : Nat → Prop} {w : World} {d mb : Nat} {es : List DE} {c : DC} (h : Lay S w d mb es c) (n : Int) (hd : c.down = true) :
    Calls Tryz.prog 39 #[.pointer (some ⟨d, 0, none⟩), .int .i64 n] w fun e w' => e = .returned (.tuple #[.int .i64 0, .int .i64 0, .int .i64 8]) ∧ ∃ m, w' = w.drewN m := by
  have hF := lay_find_down h n hd
  clear h hd
  go_enter Tryz.func39, Tryz.ntmps39
  go_wp2_with (go_at_call 76; refine hF.mono ?_; rintro e w' ⟨rfl, rfl⟩)
  go_ret3
  exact ⟨rfl, 0, rfl⟩
theorem disk_Size_nil (n : Int) (w : World) :
    Calls Tryz.prog 39 #[.pointer none, .int .i64 n] w fun e w' => e = .returned (.tuple #[.int .i64 0, .int .i64 0, .int .i64 8]) ∧ w = w' := by
  have hF := disk_find_nil n w
  go_enter Tryz.func39, Tryz.ntmps39
  go_wp2_with (go_at_call 76; refine hF.mono ?_; rintro e w' ⟨rfl, rfl⟩)
  go_ret3
  exact ⟨rfl, rfl⟩
theorem lay_Size_none {S : Nat → Prop} {w : World} {d mb : Nat} {es : List DE} {c : DC} (h : Lay S w d mb es c) (n : Int) (hw : (Lit.int .i64 n).wf = true) (hd : c.down = false) (hf : findE n es = none) :
    Calls Tryz.prog 39 #[.pointer (some ⟨d, 0, none⟩), .int .i64 n] w fun e w' => e = .returned (.tuple #[.int .i64 0, .int .i64 0, .int .i64 9]) ∧ ∃ m, w' = w.drewN m := by
  have hF := lay_find_none h n hw hd hf
  clear h hd hf
  go_enter Tryz.func39, Tryz.ntmps39
  go_wp2_with (go_at_call 76; refine hF.mono ?_; rintro e w' ⟨rfl, rfl⟩)
  go_ret3
  exact ⟨rfl, 0, rfl⟩
theorem lay_Size_some {S : Nat → Prop} {w : World} {d mb : Nat} {es : List DE} {c : DC} (h : Lay S w d mb es c) (n : Int) (hw : (Lit.int .i64 n).wf = true) (hd : c.down = false) (e0 : DE) (hf : findE n es = some e0) :
    Calls Tryz.prog 39 #[.pointer (some ⟨d, 0, none⟩), .int .i64 n] w fun e w' => e = .returned (.tuple #[.int .i64 (e0.f.data.length : Int), .int .i64 e0.f.t, .int .i64 0]) ∧ ∃ m, w' = w.drewN m := by
  have hF := lay_find_some h n hw hd e0 hf
  obtain ⟨hm, hn⟩ := findE_mem hf
  obtain ⟨a, cap, hv, hc⟩ := row_slice (h.file e0 hm).2
  have g1 : w.cell? ⟨e0.fb, 1, none⟩ = some (.slice a e0.f.data.length cap) := by rw [h.fcell hm 1, ← hv]; rfl
  have g0 : w.cell? ⟨e0.fb, 0, none⟩ = some (.int .i64 e0.f.t) := h.fcell hm 0
  clear h hd hf hn hm hv
  go_enter Tryz.func39, Tryz.ntmps39
  go_wp2_with (go_at_call 76; refine hF.mono ?_; rintro e w' ⟨rfl, rfl⟩)
  go_quiet (fail)
  go_wp2
  go_ret3
  exact ⟨rfl, _, rfl⟩

/-! Read -/
theorem bytes_are (l : List UInt8) : strOfNums (l.map fun b => (b.toNat : Int)) = bs l := by
  unfold strOfNums bs
  congr 2
  rw [List.map_map]
  conv => rhs; rw [← List.map_id l]
  apply List.map_congr_left
  intro x _
  simp
/-- Bytes of a row, as a string. -/
theorem conv_row {w : World} {v : Value} {n : Nat} {l : List UInt8} (h : w.ownsRow 0 5 1 v n (l.map byteV)) (i m : Nat) (hi : i + m ≤ n) {g : Addr} {cap cap' : Nat} (hv : v = .slice (some g) n cap) :
    (convert 136 9 (.slice (some (g.add i)) m cap')).run Tryz.prog w = .ok (.string (bs ((l.drop i).take m))) w := by
  rcases h.2 with ⟨rfl, h0⟩ | ⟨g', cap'', cur, hv', _, hg, hle, hmx, hsz, htk⟩
  · cases hv
  · rw [hv] at hv'
    injection hv' with h1 h2 h3
    injection h1 with h1
    subst h1
    have hlen : l.length = n := by have := h.1; simpa using this
    rw [addr_add]
    have := run_convert_bytes_arg (P := Tryz.prog) w 136 5 Tryz.underlying136 Tryz.underlying5 g' (0 + i) m cap' (((l.drop i).take m).map fun b => (b.toNat : Int)) (by rw [List.length_map, List.length_take, List.length_drop]; omega) (fun j hj => by
      simp only [World.cell?, hg]
      have h5 : (l.map byteV)[i + j]? = cur.toList[i + j]? := by
        rw [← htk, Nat.mul_one, List.getElem?_take, if_pos (show i + j < n by omega)]
      have h6 : cur[0 + i + j]? = some (byteV (l[i + j]'(by omega))) := by
        rw [show 0 + i + j = i + j by omega]
        have := h5.symm
        rw [List.getElem?_map, List.getElem?_eq_getElem (show i + j < l.length by omega)] at this
        simpa using this
      rw [h6]
      simp [byteV, List.getD_eq_getElem?_getD, List.getElem?_take, hj, List.getElem?_drop, List.getElem?_eq_getElem (show i + j < l.length by omega)]) 9 Tryz.underlying9
    rw [this, bytes_are]
theorem lay_Read_down {S : Nat → Prop} {w : World} {d mb : Nat} {es : List DE} {c : DC} (h : Lay S w d mb es c) (n i m : Int) (hd : c.down = true) :
    Calls Tryz.prog 121 #[.pointer (some ⟨d, 0, none⟩), .int .i64 n, .int .i64 i, .int .i64 m] w fun e w' => e = .returned (.tuple #[.string (bs []), .int .i64 8]) ∧ w = w' := by
  have hF := lay_find_down h n hd
  clear h hd
  go_enter Tryz.func121, Tryz.ntmps121
  go_wp2_with (go_at_call 76; refine hF.mono ?_; rintro e w' ⟨rfl, rfl⟩)
  go_ret2
  exact ⟨rfl, rfl⟩
theorem disk_Read_nil (n i m : Int) (w : World) :
    Calls Tryz.prog 121 #[.pointer none, .int .i64 n, .int .i64 i, .int .i64 m] w fun e w' => e = .returned (.tuple #[.string (bs []), .int .i64 8]) ∧ w = w' := by
  have hF := disk_find_nil n w
  go_enter Tryz.func121, Tryz.ntmps121
  go_wp2_with (go_at_call 76; refine hF.mono ?_; rintro e w' ⟨rfl, rfl⟩)
  go_ret2
  exact ⟨rfl, rfl⟩
theorem lay_Read_none {S : Nat → Prop} {w : World} {d mb : Nat} {es : List DE} {c : DC} (h : Lay S w d mb es c) (n i m : Int) (hw : (Lit.int .i64 n).wf = true) (hd : c.down = false) (hf : findE n es = none) :
    Calls Tryz.prog 121 #[.pointer (some ⟨d, 0, none⟩), .int .i64 n, .int .i64 i, .int .i64 m] w fun e w' => e = .returned (.tuple #[.string (bs []), .int .i64 9]) ∧ w = w' := by
  have hF := lay_find_none h n hw hd hf
  clear h hd hf
  go_enter Tryz.func121, Tryz.ntmps121
  go_wp2_with (go_at_call 76; refine hF.mono ?_; rintro e w' ⟨rfl, rfl⟩)
  go_ret2
  exact ⟨rfl, rfl⟩
theorem lay_Read_no {S : Nat → Prop} {w : World} {d mb : Nat} {es : List DE} {c : DC} (h : Lay S w d mb es c) (n i m : Int) (hw : (Lit.int .i64 n).wf = true) (hd : c.down = false) (e0 : DE) (hf : findE n es = some e0) (hl : e0.f.data.length ≤ 4611686018427387904)
    (hi : i ≤ 9223372036854775807) (hno : i < 0 ∨ m < 0 ∨ (e0.f.data.length : Int) - i < m) :
    Calls Tryz.prog 121 #[.pointer (some ⟨d, 0, none⟩), .int .i64 n, .int .i64 i, .int .i64 m] w fun e w' => e = .returned (.tuple #[.string (bs []), .int .i64 1]) ∧ w = w' := by
  have hF := lay_find_some h n hw hd e0 hf
  obtain ⟨hm, hn⟩ := findE_mem hf
  obtain ⟨a, cap, hv, hc⟩ := row_slice (h.file e0 hm).2
  have g1 : w.cell? ⟨e0.fb, 1, none⟩ = some (.slice a e0.f.data.length cap) := by rw [h.fcell hm 1, ← hv]; rfl
  clear h hd hf hn hm hv
  by_cases h0 : i < 0
  · go_enter Tryz.func121, Tryz.ntmps121
    go_wp2_with (go_at_call 76; refine hF.mono ?_; rintro e w' ⟨rfl, rfl⟩)
    go_ret2
    exact ⟨rfl, rfl⟩
  · by_cases h1 : m < 0
    · have h0' : 0 ≤ i := by omega
      go_enter Tryz.func121, Tryz.ntmps121
      go_wp2_with (go_at_call 76; refine hF.mono ?_; rintro e w' ⟨rfl, rfl⟩)
      go_ret2
      exact ⟨rfl, rfl⟩
    · have h0' : 0 ≤ i := by omega
      have h1' : 0 ≤ m := by omega
      have h2' : (e0.f.data.length : Int) - i < m := by omega
      clear hno h0 h1
      go_enter Tryz.func121, Tryz.ntmps121
      go_wp2_with (go_at_call 76; refine hF.mono ?_; rintro e w' ⟨rfl, rfl⟩)
      go_ret2
      exact ⟨rfl, rfl⟩
set_option maxRecDepth 100000 in
theorem lay_Read {S : Nat → Prop} {w : World} {d mb : Nat} {es : List DE} {c : DC} (h : Lay S w d mb es c) (n : Int) (i m : Nat) (hw : (Lit.int .i64 n).wf = true) (hd : c.down = false) (e0 : DE) (hf : findE n es = some e0) (hl : e0.f.data.length ≤ 4611686018427387904)
    (hi : i + m ≤ e0.f.data.length) :
    Calls Tryz.prog 121 #[.pointer (some ⟨d, 0, none⟩), .int .i64 n, .int .i64 (i : Int), .int .i64 (m : Int)] w fun e w' => e = .returned (.tuple #[.string (bs ((e0.f.data.drop i).take m)), .int .i64 0]) ∧ w = w' := by
  have hF := lay_find_some h n hw hd e0 hf
  obtain ⟨hm, hn⟩ := findE_mem hf
  have hrow := (h.file e0 hm).2
  have g1 : w.cell? ⟨e0.fb, 1, none⟩ = some e0.v := h.fcell hm 1
  have i0 : (0 : Int) ≤ i := by omega
  have m0 : (0 : Int) ≤ m := by omega
  have hno : (m : Int) ≤ (e0.f.data.length : Int) - i := by omega
  have hdata : e0.f.data.length = e0.f.data.length := rfl
  rcases hrow.2 with ⟨hv, h0⟩ | ⟨g, cap, cur, hv, _, hg, hle, hmx, _⟩
  · rw [hv] at g1
    have hi0 : i = 0 := by omega
    have hm0 : m = 0 := by omega
    subst hi0 hm0
    have hcv : ∀ W : World, (convert 136 9 (.slice none 0 0)).run Tryz.prog W = .ok (.string (bs [])) W := fun W => run_convert_bytes_nil (P := Tryz.prog) W 136 5 Tryz.underlying136 Tryz.underlying5 0 0 9 Tryz.underlying9
    have HE := Lib.hid (show bs ((e0.f.data.drop 0).take 0) = bs [] by simp)
    rw [h0] at hno
    clear hdata h hd hf hn hm hv hrow h0 hi i0 m0
    go_enter Tryz.func121, Tryz.ntmps121
    go_wp2_with (go_at_call 76; refine hF.mono ?_; rintro e w' ⟨rfl, rfl⟩)
    go_ret2
    exact ⟨ret2s HE.out rfl, rfl⟩
  · have hcv := conv_row hrow i m hi (cap' := cap - i) hv
    rw [addr_add, Nat.zero_add] at hcv
    rw [hv] at g1
    have hcap : cap ≤ 9223372036854775807 := by unfold maxLen at hmx; omega
    by_cases hic : i < cap
    · have hic' : (i : Int) < cap := by omega
      clear hdata h hd hf hn hm hv hrow hg hic
      go_enter Tryz.func121, Tryz.ntmps121
      go_wp2_with (go_at_call 76; refine hF.mono ?_; rintro e w' ⟨rfl, rfl⟩)
      go_ret2
      exact ⟨rfl, rfl⟩
    · have hm0 : m = 0 := by omega
      have hi0 : i = cap := by omega
      subst hm0 hi0
      have hcv2 := conv_row hrow 0 0 (by omega) (cap' := 0) hv
      rw [addr_add, Nat.zero_add] at hcv2
      clear hdata h hd hf hn hm hv hrow hg hic hcv
      go_enter Tryz.func121, Tryz.ntmps121
      go_wp2_with (go_at_call 76; refine hF.mono ?_; rintro e w' ⟨rfl, rfl⟩)
      go_ret2
      exact ⟨ret2s (by simp) rfl, rfl⟩
end Go.Proofs.YtfbaenhajlckjaaGreat
/- A disk in memory that is as the plain one: what its calls do. -/
set_option linter.unusedVariables false
set_option maxRecDepth 100000
namespace Go.Proofs.YtfbaenhajlckjaaGreat
open Go.RowKit Go.Maps

def DS.dc (s : DS) : DC := ⟨s.r0, s.r1, usedL 0 s.fs, usedL 1 s.fs, s.root, s.steps, s.left, s.down⟩
/-- In block d there is a disk that is as s; its blocks are of S. -/
def Disk (S : Nat → Prop) (w : World) (d : Nat) (s : DS) : Prop := s.Fit ∧ ∃ mb es, Lay S w d mb es s.dc ∧ es.map (·.f) = s.fs
def New (S : Nat → Prop) (w : World) : Nat → Prop := fun k => S k ∨ w.heap.size ≤ k
/-- What a call leaves: an answer, the disk, and all that isn't of it as it was. -/
def Did (S : Nat → Prop) (d : Nat) (r : DS × Int) (w : World) (e : Ending) (w' : World) : Prop := e = .returned (.int .i64 r.2) ∧ Disk (New S w) w' d r.1 ∧ Only S w w'

theorem Disk.mono {S S' : Nat → Prop} {w : World} {d : Nat} {s : DS} (h : Disk S w d s) (hS : ∀ k, k < w.heap.size → S k → S' k) : Disk S' w d s := by
  obtain ⟨hF, mb, es, h, he⟩ := h
  exact ⟨hF, mb, es, h.mono hS, he⟩
theorem Disk.tight {S : Nat → Prop} {w : World} {d : Nat} {s : DS} (h : Disk S w d s) : Disk (fun k => S k ∧ k < w.heap.size) w d s := h.mono fun k hk hs => ⟨hs, hk⟩
theorem Disk.only {S T : Nat → Prop} {w w' : World} {d : Nat} {s : DS} (h : Disk S w d s) (k : Only T w w') (hT : ∀ j, j < w.heap.size → S j → ¬ T j) : Disk S w' d s := by
  obtain ⟨hF, mb, es, h, he⟩ := h
  exact ⟨hF, mb, es, h.only k hT, he⟩
theorem Disk.below {S : Nat → Prop} {w w' : World} {d : Nat} {s : DS} (h : Disk S w d s) (k : Below w.heap.size w w') : Disk S w' d s :=
  h.only (Only.of_below (S := fun _ => False) k fun j hj hB => absurd hj (by omega)) fun _ _ _ x => x
theorem Disk.drewN {S : Nat → Prop} {w : World} {d : Nat} {s : DS} (h : Disk S w d s) (n : Nat) : Disk S (w.drewN n) d s := by
  obtain ⟨hF, mb, es, h, he⟩ := h
  exact ⟨hF, mb, es, h.drewN n, he⟩
theorem Disk.lt {S : Nat → Prop} {w : World} {d : Nat} {s : DS} (h : Disk S w d s) : d < w.heap.size ∧ S d := by
  obtain ⟨hF, mb, es, h, he⟩ := h
  exact ⟨heap_lt h.obj, h.sd⟩
theorem New.old {S : Nat → Prop} {w : World} : ∀ k, S k → New S w k := fun _ h => .inl h
theorem Lay.new {S : Nat → Prop} {w w' : World} {d mb : Nat} {es : List DE} {c : DC} (h : Lay S w d mb es c) : Lay (New S w') w d mb es c := h.mono fun _ _ x => .inl x

/-- The file of a number: in memory where the plain disk has one. -/
theorem find_some {es : List DE} {fs : List DF} (he : es.map (·.f) = fs) {n : Int} {f : DF} (h : findL n fs = some f) : ∃ e, findE n es = some e ∧ e.f = f := by
  rw [← he, findE_L] at h
  cases hx : findE n es with
  | none => rw [hx] at h; cases h
  | some e => rw [hx] at h; exact ⟨e, rfl, by injection h⟩
theorem find_none {es : List DE} {fs : List DF} (he : es.map (·.f) = fs) {n : Int} (h : findL n fs = none) : findE n es = none := by
  rw [← he, findE_L] at h
  cases hx : findE n es with
  | none => rfl
  | some e => rw [hx] at h; cases h

/-! ### the plain disks stay fit -/
namespace DS.Fit
variable {s : DS}
theorem off (h : s.Fit) : s.off.Fit := ⟨h.r0, h.r1, h.u0, h.u1, h.nod, h.file, h.root, h.l0, h.l1⟩
theorem tick (h : s.Fit) (hl : s.left ≠ 0) : s.tick.Fit :=
  ⟨h.r0, h.r1, h.u0, h.u1, h.nod, h.file, h.root, by have := h.l0; unfold DS.tick; simp only; split <;> omega, by have := h.l1; unfold DS.tick; simp only; split <;> omega⟩
/-- One file turned. -/
theorem upd (h : s.Fit) {n : Int} {f : DF} (g : DF → DF) (hf : findL n s.fs = some f) (hn : ∀ x, (g x).n = x.n) (ht : ∀ x, (g x).t = x.t) (hg : ∀ x ∈ s.fs, x.n = n → (g x).sb ≤ (g x).data.length ∧ ((g x).sure = false → (g x).sb = 0)) (hr : ∀ x, x.sure = true → (g x).sure = true)
    (hu : s.used f.t + (blk (g f).data.length) ≤ s.room f.t + blk f.data.length) : ({ s with fs := updL n g s.fs } : DS).Fit := by
  have huse := fun t => used_upd t n g ht h.nod hf
  have hft := (h.file f (findL_mem hf).1).1
  refine ⟨h.r0, h.r1, ?_, ?_, ?_, ?_, ?_, h.l0, h.l1⟩
  · have := huse 0
    have h0 := h.u0
    simp only at this ⊢
    unfold DS.used DS.room at hu
    rcases hft with e | e <;> simp [e] at this hu <;> omega
  · have := huse 1
    have h0 := h.u1
    simp only at this ⊢
    unfold DS.used DS.room at hu
    rcases hft with e | e <;> simp [e] at this hu <;> omega
  · show ((updL n g s.fs).map (·.n)).Nodup
    rw [upd_map_n n g hn]
    exact h.nod
  · intro x hx
    rcases upd_mem hx with ⟨y, hy, hyn, rfl⟩ | ⟨hy, _⟩
    · obtain ⟨a, b, c, d⟩ := h.file y hy
      obtain ⟨e1, e2⟩ := hg y hy hyn
      exact ⟨by rw [ht]; exact a, e1, e2, by rw [hn]; exact d⟩
    · exact h.file x hy
  · rcases h.root with e | ⟨y, hy, hyn, hys⟩
    · exact .inl e
    · refine .inr ⟨_, mem_upd hy, ?_, ?_⟩
      · split
        · rw [hn]; exact hyn
        · exact hyn
      · split
        · exact hr y hys
        · exact hys
end DS.Fit

theorem disk_Sync_nil (n : Int) (w : World) : Calls Tryz.prog 31 #[.pointer none, .int .i64 n] w fun e w' => e = .returned (.int .i64 8) ∧ w = w' := by
  have hF := disk_find_nil n w
  go_enter Tryz.func31, Tryz.ntmps31
  go_wp2_with (go_at_call 76; refine hF.mono ?_; rintro e w' ⟨rfl, rfl⟩)
  go_ret
  exact ⟨rfl, rfl⟩
theorem disk_Sync {S : Nat → Prop} {w : World} {d : Nat} {s : DS} (h : Disk S w d s) (n : Int) (hw : (Lit.int .i64 n).wf = true) (hs : s.steps < 4611686018427387904) :
    Calls Tryz.prog 31 #[.pointer (some ⟨d, 0, none⟩), .int .i64 n] w (Did S d (s.sync n) w) := by
  obtain ⟨hF, mb, es, h, he⟩ := h
  cases hd : s.down with
  | true =>
    have hr : s.sync n = (s, 8) := by unfold DS.sync; rw [if_pos hd]
    have hf := lay_find_down h n hd
    have HR := Lib.hid (show Did S d (s.sync n) w (.returned (.int .i64 8)) w by rw [hr]; exact ⟨rfl, ⟨hF, mb, es, h.new, he⟩, Only.refl _ _⟩)
    clear hr h he hd hF
    go_enter Tryz.func31, Tryz.ntmps31
    go_wp2_with (go_at_call 76; refine hf.mono ?_; rintro e w' ⟨rfl, rfl⟩)
    go_ret
    exact HR.out
  | false =>
    cases hx : findL n s.fs with
    | none =>
      have hr : s.sync n = (s, 9) := by unfold DS.sync; rw [if_neg (by rw [hd]; simp), hx]
      have hf := lay_find_none h n hw hd (find_none he hx)
      have HR := Lib.hid (show Did S d (s.sync n) w (.returned (.int .i64 9)) w by rw [hr]; exact ⟨rfl, ⟨hF, mb, es, h.new, he⟩, Only.refl _ _⟩)
      clear hr h he hd hx hF
      go_enter Tryz.func31, Tryz.ntmps31
      go_wp2_with (go_at_call 76; refine hf.mono ?_; rintro e w' ⟨rfl, rfl⟩)
      go_ret
      exact HR.out
    | some f =>
      obtain ⟨e0, hfe, hef⟩ := find_some he hx
      have hf := lay_find_some h n hw hd e0 hfe
      by_cases hl : s.left = 0
      · have hr : s.sync n = (s.off, 8) := by unfold DS.sync; rw [if_neg (by rw [hd]; simp), hx]; simp only; rw [if_pos hl]
        have hc := lay_change_off h hl
        have HR := Lib.hid (show ∀ w', Lay S w' d mb es s.dc.off → Only (fun k => k = d) w w' → Did S d (s.sync n) w (.returned (.int .i64 8)) w' from fun w' h1 o1 => by
          rw [hr]; exact ⟨rfl, ⟨hF.off, mb, es, h1.new, he⟩, o1.mono fun k _ hk => by rw [hk]; exact h.sd⟩)
        clear hr h he hd hx hF hl hfe
        go_enter Tryz.func31, Tryz.ntmps31
        go_wp2_with (first | (go_at_call 76; refine hf.mono ?_; rintro e w' ⟨rfl, rfl⟩) | (go_at_call 75; refine hc.mono ?_; rintro e w1 ⟨rfl, h1, o1⟩))
        go_ret
        exact HR.out _ h1 o1
      · have hr : s.sync n = ({ s.tick with fs := updL n syncF s.fs }, 0) := by unfold DS.sync; rw [if_neg (by rw [hd]; simp), hx]; simp only; rw [if_neg hl]
        have hc := lay_change_on h hl hF.l0 hF.l1 (show (0 : Int) ≤ (s.steps : Int) by omega) (show (s.steps : Int) < 4611686018427387904 by omega)
        have hFit : ({ s.tick with fs := updL n syncF s.fs } : DS).Fit := (hF.tick hl).upd syncF (f := f) hx (fun _ => rfl) (fun _ => rfl) (fun x _ _ => ⟨Nat.le_refl _, fun y => by cases y⟩) (fun _ _ => rfl) (by
          have : s.used f.t ≤ s.room f.t := by
            unfold DS.used DS.room
            rcases (hF.file f (findL_mem hx).1).1 with e | e <;> rw [e]
            · exact hF.u0
            · exact hF.u1
          exact Nat.add_le_add_right this _)
        have hUse : ∀ t, usedL t (updL n syncF s.fs) = usedL t s.fs := fun t => by
          have := used_upd t n syncF (fun _ => rfl) hF.nod hx
          exact Nat.add_right_cancel this
        have HR := Lib.hid (show ∀ w1 w2, Only (fun k => k = d) w w1 → Lay S w2 d mb (updE n { e0 with f := syncF e0.f } es) s.dc.tick → Only (fun k => k = e0.fb) w1 w2 → Did S d (s.sync n) w (.returned (.int .i64 0)) w2 from fun w1 w2 o1 h2 o2 => by
          rw [hr]
          refine ⟨rfl, ⟨hFit, mb, updE n { e0 with f := syncF e0.f } es, ?_, ?_⟩, (o1.mono fun k _ hk => by rw [hk]; exact h.sd).andThen o2 fun k _ hk => by rw [hk]; exact h.sf e0 (findE_mem hfe).1⟩
          · have : DS.dc { s.tick with fs := updL n syncF s.fs } = s.dc.tick := by
              unfold DS.dc DC.tick DS.tick
              simp only [hUse]
              simp
            rw [this]
            exact h2.new
          · rw [updE_f (g := syncF) h.nod hfe rfl, he])
        have HE := Lib.hid hfe
        clear hr h he hd hx hF hl hfe hFit hUse
        go_enter Tryz.func31, Tryz.ntmps31
        go_wp2_with (first | (go_at_call 76; refine hf.mono ?_; rintro e w' ⟨rfl, rfl⟩) | (go_at_call 75; refine hc.mono ?_; rintro e w1 ⟨rfl, h1, o1⟩) | (go_at_call 77; refine (lay_settle h1 e0 n HE.out).mono ?_; rintro e w2 ⟨rfl, h2, o2⟩))
        go_ret
        exact HR.out _ _ o1 h2 o2
end Go.Proofs.YtfbaenhajlckjaaGreat
/- The root; a file taken away. -/
set_option linter.unusedVariables false
set_option maxRecDepth 100000
namespace Go.Proofs.YtfbaenhajlckjaaGreat
open Go.RowKit Go.Maps

theorem disk_Point_nil (n : Int) (w : World) : Calls Tryz.prog 32 #[.pointer none, .int .i64 n] w fun e w' => e = .returned (.int .i64 8) ∧ w = w' := by
  have hF := disk_find_nil n w
  go_enter Tryz.func32, Tryz.ntmps32
  go_wp2_with (go_at_call 76; refine hF.mono ?_; rintro e w' ⟨rfl, rfl⟩)
  go_ret
  exact ⟨rfl, rfl⟩
theorem Only.drewl {S : Nat → Prop} {a b : World} {m : Nat} (h : Only S (a.drewN m) b) : Only S a b := ⟨h.os, h.tape, h.output, h.size, h.block⟩
theorem disk_Point {S : Nat → Prop} {w : World} {d : Nat} {s : DS} (h : Disk S w d s) (n : Int) (hw : (Lit.int .i64 n).wf = true) (hs : s.steps < 4611686018427387904) :
    Calls Tryz.prog 32 #[.pointer (some ⟨d, 0, none⟩), .int .i64 n] w (Did S d (s.point n) w) := by
  obtain ⟨hF, mb, es, h, he⟩ := h
  cases hd : s.down with
  | true =>
    have hr : s.point n = (s, 8) := by unfold DS.point; rw [if_pos hd]
    have hf := lay_find_down h n hd
    have HR := Lib.hid (show Did S d (s.point n) w (.returned (.int .i64 8)) w by rw [hr]; exact ⟨rfl, ⟨hF, mb, es, h.new, he⟩, Only.refl _ _⟩)
    clear hr h he hd hF
    go_enter Tryz.func32, Tryz.ntmps32
    go_wp2_with (go_at_call 76; refine hf.mono ?_; rintro e w' ⟨rfl, rfl⟩)
    go_ret
    exact HR.out
  | false =>
    cases hx : findL n s.fs with
    | none =>
      have hr : s.point n = (s, 9) := by unfold DS.point; rw [if_neg (by rw [hd]; simp), hx]
      have hf := lay_find_none h n hw hd (find_none he hx)
      have HR := Lib.hid (show Did S d (s.point n) w (.returned (.int .i64 9)) w by rw [hr]; exact ⟨rfl, ⟨hF, mb, es, h.new, he⟩, Only.refl _ _⟩)
      clear hr h he hd hx hF
      go_enter Tryz.func32, Tryz.ntmps32
      go_wp2_with (go_at_call 76; refine hf.mono ?_; rintro e w' ⟨rfl, rfl⟩)
      go_ret
      exact HR.out
    | some f =>
      obtain ⟨e0, hfe, hef⟩ := find_some he hx
      obtain ⟨hm, hn⟩ := findE_mem hfe
      have hf := lay_find_some h n hw hd e0 hfe
      obtain ⟨a, cap, hv, hc⟩ := row_slice (h.file e0 hm).2
      have g1 : w.cell? ⟨e0.fb, 1, none⟩ = some (.slice a f.data.length cap) := by rw [h.fcell hm 1, ← hef, ← hv]; rfl
      have g2 : w.cell? ⟨e0.fb, 2, none⟩ = some (.bool f.sure) := by rw [h.fcell hm 2, ← hef]; rfl
      have g3 : w.cell? ⟨e0.fb, 3, none⟩ = some (.int .i64 (f.sb : Int)) := by rw [h.fcell hm 3, ← hef]; rfl
      cases hsu : f.sure with
      | false =>
        have hr : s.point n = (s, 11) := by unfold DS.point; rw [if_neg (by rw [hd]; simp), hx]; simp only; rw [if_pos (.inl hsu)]
        rw [hsu] at g2
        have HR := Lib.hid (show ∀ m, Did S d (s.point n) w (.returned (.int .i64 11)) (w.drewN m) from fun m => by rw [hr]; exact ⟨rfl, ⟨hF, mb, es, (h.drewN m).new, he⟩, (Only.refl _ _).drewN m⟩)
        clear hr h he hd hx hF hfe hef hm hn hv hsu
        go_enter Tryz.func32, Tryz.ntmps32
        go_wp2_with (go_at_call 76; refine hf.mono ?_; rintro e w' ⟨rfl, rfl⟩)
        go_quiet (fail)
        go_wp2
        go_ret
        exact HR.out _
      | true =>
        by_cases hlt : f.sb < f.data.length
        · have hr : s.point n = (s, 11) := by unfold DS.point; rw [if_neg (by rw [hd]; simp), hx]; simp only; rw [if_pos (.inr hlt)]
          rw [hsu] at g2
          have hlt' : decide (f.sb < f.data.length) = true := by simpa using hlt
          have HR := Lib.hid (show ∀ m, Did S d (s.point n) w (.returned (.int .i64 11)) (w.drewN m) from fun m => by rw [hr]; exact ⟨rfl, ⟨hF, mb, es, (h.drewN m).new, he⟩, (Only.refl _ _).drewN m⟩)
          clear hr h he hd hx hF hfe hef hm hn hv hsu
          go_enter Tryz.func32, Tryz.ntmps32
          go_wp2_with (go_at_call 76; refine hf.mono ?_; rintro e w' ⟨rfl, rfl⟩)
          go_quiet (fail)
          go_wp2
          go_ret
          exact HR.out _
        · have hlt' : decide (f.sb < f.data.length) = false := by simpa using hlt
          rw [hsu] at g2
          have hnot : ¬ (f.sure = false ∨ f.sb < f.data.length) := by simp [hsu]; omega
          by_cases hl : s.left = 0
          · have hr : s.point n = (s.off, 8) := by unfold DS.point; rw [if_neg (by rw [hd]; simp), hx]; simp only; rw [if_neg hnot, if_pos hl]
            have hc := fun m => lay_change_off (h.drewN m) hl
            have HR := Lib.hid (show ∀ m w', Lay S w' d mb es s.dc.off → Only (fun k => k = d) (w.drewN m) w' → Did S d (s.point n) w (.returned (.int .i64 8)) w' from fun m w' h1 o1 => by
              rw [hr]; exact ⟨rfl, ⟨hF.off, mb, es, h1.new, he⟩, o1.drewl.mono fun k _ hk => by rw [hk]; exact h.sd⟩)
            clear hr h he hd hx hF hl hfe hef hm hn hv hsu hlt hnot
            go_enter Tryz.func32, Tryz.ntmps32
            go_wp2_with (go_at_call 76; refine hf.mono ?_; rintro e w' ⟨rfl, rfl⟩)
            go_quiet (fail)
            go_wp2_with (go_at_call 75; refine (hc _).mono ?_; rintro e w1 ⟨rfl, h1, o1⟩)
            go_ret
            exact HR.out _ _ h1 o1
          · have hr : s.point n = ({ s.tick with root := n }, 0) := by unfold DS.point; rw [if_neg (by rw [hd]; simp), hx]; simp only; rw [if_neg hnot, if_neg hl]
            have hc := fun m => lay_change_on (h.drewN m) hl hF.l0 hF.l1 (show (0 : Int) ≤ (s.steps : Int) by omega) (show (s.steps : Int) < 4611686018427387904 by omega)
            have hFit : ({ s.tick with root := n } : DS).Fit := ⟨hF.r0, hF.r1, hF.u0, hF.u1, hF.nod, hF.file, .inr ⟨f, (findL_mem hx).1, (findL_mem hx).2, hsu⟩, (hF.tick hl).l0, (hF.tick hl).l1⟩
            have HR := Lib.hid (show ∀ m w1, Lay S w1 d mb es s.dc.tick → Only (fun k => k = d) (w.drewN m) w1 → Did S d (s.point n) w (.returned (.int .i64 0)) (w1.setCell ⟨d, 5, none⟩ (.int .i64 n)) from fun m w1 h1 o1 => by
              rw [hr]
              refine ⟨rfl, ⟨hFit, mb, es, ?_, he⟩, (o1.drewl.trans (only_setD _)).mono fun k _ hk => by rw [hk]; exact h.sd⟩
              refine (h1.setD 5 (.int .i64 n) (DS.dc { s.tick with root := n }) ?_).new
              unfold DS.dc DC.tick DS.tick DC.cells
              simp)
            clear hr h he hd hx hF hl hfe hef hm hn hv hsu hlt hnot hFit
            go_enter Tryz.func32, Tryz.ntmps32
            go_wp2_with (go_at_call 76; refine hf.mono ?_; rintro e w' ⟨rfl, rfl⟩)
            go_quiet (fail)
            go_wp2_with (go_at_call 75; refine (hc _).mono ?_; rintro e w1 ⟨rfl, h1, o1⟩; have c5 := h1.cell 5; have f5 := h1.free 5; simp only [DC.cells] at c5; have H1 := Lib.hid h1; clear h1)
            go_ret
            exact HR.out _ _ H1.out o1
end Go.Proofs.YtfbaenhajlckjaaGreat
/- A file taken away. -/
set_option linter.unusedVariables false
set_option maxRecDepth 100000
namespace Go.Proofs.YtfbaenhajlckjaaGreat
open Go.RowKit Go.Maps

theorem delE_mem {n : Int} {x : DE} {es : List DE} (h : x ∈ delE n es) : x ∈ es ∧ x.f.n ≠ n := by
  unfold delE at h
  obtain ⟨h1, h2⟩ := List.mem_filter.1 h
  exact ⟨h1, by simpa using h2⟩
theorem Lay.del {S : Nat → Prop} {w w' : World} {d mb : Nat} {es : List DE} {c : DC} (h : Lay S w d mb es c) (n : Int) (hm : FileMap w' mb (delE n es)) (hk : ∀ k, k < w.heap.size → k ≠ mb → w'.heap[k]? = w.heap[k]?) : Lay S w' d mb (delE n es) c := by
  refine ⟨(hk d (heap_lt h.obj) h.ne_map.symm).trans h.obj, hm, fun e he => ?_, ?_, fun e he e' he' => h.sep e (delE_mem he).1 e' (delE_mem he').1, h.sd, h.sm, fun e he => h.sf e (delE_mem he).1, fun e he => h.sr e (delE_mem he).1⟩
  · have he := (delE_mem he).1
    refine (h.file e he).kept (hk _ (heap_lt (h.file e he).1) (h.ne_file he).2) fun g hg => hk g ?_ (h.ne_row he hg).2.1
    obtain ⟨cur, hc⟩ := ownsRow_row (h.file e he).2 hg
    exact heap_lt hc
  · exact h.nod.sublist (List.filter_sublist.map _)
theorem turned_other {w w' : World} {b : Nat} (h : w.mapTurned w' b) (k : Nat) (hk : k ≠ b) : w'.heap[k]? = w.heap[k]? := by
  obtain ⟨x, c, x', c', hb, rfl⟩ := h
  exact Go.ChangeMaps.heap_setBlock_other hb _ hk
/-- What the tiers' counts come to. -/
def DC.use (c : DC) (t x : Int) : DC := { c with u0 := if t = 0 then x else c.u0, u1 := if t = 0 then c.u1 else x }
theorem Lay.setU {S : Nat → Prop} {w : World} {d mb : Nat} {es : List DE} {c : DC} (h : Lay S w d mb es c) (x : Int) :
    Lay S (w.setCell ⟨d, 2, none⟩ (.int .i64 x)) d mb es (c.use 0 x) ∧ Lay S (w.setCell ⟨d, 3, none⟩ (.int .i64 x)) d mb es (c.use 1 x) :=
  ⟨h.setD 2 _ _ rfl, h.setD 3 _ _ rfl⟩
theorem tier_cases {s : DS} (hF : s.Fit) {f : DF} {n : Int} (h : findL n s.fs = some f) : f.t = 0 ∨ f.t = 1 := (hF.file f (findL_mem h).1).1
theorem len_bound {s : DS} (hF : s.Fit) {f : DF} {n : Int} (h : findL n s.fs = some f) : f.data.length ≤ 67108864 ∧ blk f.data.length ≤ 1048576 := by
  have h1 := blk_le f.data.length
  have hm := (findL_mem h).1
  rcases tier_cases hF h with e | e
  · have := used_ge hm e; have := hF.u0; have := hF.r0; omega
  · have := used_ge hm e; have := hF.u1; have := hF.r1; omega
/-- The file is gone. -/
theorem DS.Fit.del {s : DS} (h : s.Fit) {n : Int} {f : DF} (hf : findL n s.fs = some f) (hr : n ≠ s.root) : ({ s with fs := delL n s.fs } : DS).Fit := by
  have huse := fun t => used_del t n h.nod hf
  refine ⟨h.r0, h.r1, ?_, ?_, ?_, ?_, ?_, h.l0, h.l1⟩
  · have := huse 0; have := h.u0; simp only at *; omega
  · have := huse 1; have := h.u1; simp only at *; omega
  · exact h.nod.sublist (List.filter_sublist.map _)
  · exact fun x hx => h.file x (List.mem_filter.1 hx).1
  · rcases h.root with e | ⟨y, hy, hyn, hys⟩
    · exact .inl e
    · exact .inr ⟨y, List.mem_filter.2 ⟨hy, by simp; rw [hyn]; exact Ne.symm hr⟩, hyn, hys⟩

end Go.Proofs.YtfbaenhajlckjaaGreat
