/- A cell of texts: the law's walk. -/
import Derived.Test.YtccliallljcjgaaAwake
import Derived.Deep.CutRange
import Derived.Deep.RegionWith
import Derived.Deep.RegionHeld3
set_option linter.unusedVariables false
namespace Go.Proofs.Ytccliallljcjgaa
open Go.RowKit

theorem ne_intB (x : Int) : (x != x) = false := by simp
def eqS (a b : ByteArray) : Bool := a.toList == b.toList
theorem same_strB (a b : ByteArray) (w : World) : Calls Try.prog 44 #[.string a, .string b] w fun e w' => e = .returned (.bool (a.toList == b.toList)) ∧ w' = w := by
  go_enter_defers Try.func44, Try.ntmps44
  go_wp2
  refine leaves_cons (f := 48) (args := #[]) (by simp) (by simp [go_sem]) ?_
  refine (same_idle_s w).mono ?_
  rintro e u' w'' ⟨rfl, rfl, rfl⟩
  exact ⟨_, results_tmp rfl _ _ _, rfl, rfl⟩
/-- A cell of texts in memory. -/
def CellS (c : Nat) (v : ByteArray) (s : Int) (w : World) : Prop := w.heap[c]? = some (.cells #[.string v, .int .i64 s] 89 (0, 0))
theorem CellS.c0 {c : Nat} {v : ByteArray} {s : Int} {w : World} (h : CellS c v s w) : w.cell? ⟨c, 0, none⟩ = some (.string v) := by unfold CellS at h; simp [World.cell?, h]
theorem CellS.c1 {c : Nat} {v : ByteArray} {s : Int} {w : World} (h : CellS c v s w) : w.cell? ⟨c, 1, none⟩ = some (.int .i64 s) := by unfold CellS at h; simp [World.cell?, h]
theorem CellS.fr {c : Nat} {v : ByteArray} {s : Int} {w : World} (h : CellS c v s w) (o : Nat) : w.frozen? ⟨c, o, none⟩ = false := by unfold CellS at h; simp [World.frozen?, h]
theorem CellS.below {c : Nat} {v : ByteArray} {s : Int} {w w' : World} (h : CellS c v s w) (k : Below w.heap.size w w') : CellS c v s w' := (k.block c (heap_lt h)).trans h
theorem CellS.set {c : Nat} {v : ByteArray} {s : Int} {w : World} (h : CellS c v s w) (u : ByteArray) (z : Int) : CellS c u z ((w.setCell ⟨c, 0, none⟩ (.string u)).setCell ⟨c, 1, none⟩ (.int .i64 z)) := by
  unfold CellS at h ⊢
  rw [heap_set (heap_set h _)]
  rfl
theorem cellS_New (v : ByteArray) (w : World) : Calls Try.prog 33 #[.string v] w fun e w' => e = .returned (.pointer (some ⟨w.heap.size, 0, none⟩)) ∧ w' = w.alloc (.cells #[.string v, .int .i64 0] 89) := by
  go_enter Try.func33, Try.ntmps33
  go_wp2
  go_ret
  exact ⟨rfl, rfl⟩
theorem cellS_Store {w : World} {c : Nat} {v : ByteArray} {s : Int} (h : CellS c v s w) (u : ByteArray) (hs : 0 ≤ s ∧ s < 9223372036854775807) : Calls Try.prog 34 #[.pointer (some ⟨c, 0, none⟩), .string u] w fun e w' => e = .returned (.tuple #[]) ∧ w' = (w.setCell ⟨c, 0, none⟩ (.string u)).setCell ⟨c, 1, none⟩ (.int .i64 (s + 1)) := by
  have c0 := h.c0
  have c1 := h.c1
  have f0 := h.fr 0
  have f1 := h.fr 1
  have e1 : wrap64 (s + 1) = s + 1 := by rw [wrap_64, IntKind.wrap_i64]; omega
  have e2 : IntKind.i64.wrap (s + 1) = s + 1 := by rw [IntKind.wrap_i64]; omega
  clear h hs
  go_enter Try.func34, Try.ntmps34
  go_wp2
  go_end0
  exact ⟨rfl, rfl⟩
theorem cellS_Load {w : World} {c : Nat} {v : ByteArray} {s : Int} (h : CellS c v s w) : Calls Try.prog 36 #[.pointer (some ⟨c, 0, none⟩)] w fun e w' => e = .returned (.string v) ∧ w' = w := by
  have c0 := h.c0
  clear h
  go_enter Try.func36, Try.ntmps36
  go_wp2
  go_ret
  exact ⟨rfl, rfl⟩
theorem cellS_Sets {w : World} {c : Nat} {v : ByteArray} {s : Int} (h : CellS c v s w) : Calls Try.prog 37 #[.pointer (some ⟨c, 0, none⟩)] w fun e w' => e = .returned (.int .i64 s) ∧ w' = w := by
  have c1 := h.c1
  clear h
  go_enter Try.func37, Try.ntmps37
  go_wp2
  go_ret
  exact ⟨rfl, rfl⟩
theorem cellS_miss {w : World} {c : Nat} {v : ByteArray} {s : Int} (h : CellS c v s w) (a u : ByteArray) (hne : (v.toList == a.toList) = false) : Calls Try.prog 35 #[.pointer (some ⟨c, 0, none⟩), .string a, .string u] w fun e w' => e = .returned (.bool false) ∧ w' = w := by
  have c0 := h.c0
  have hs := same_strB v a w
  rw [hne] at hs
  clear h hne
  go_enter Try.func35, Try.ntmps35
  go_wp2_with (go_at_call 44; refine hs.mono ?_; rintro e w' ⟨rfl, rfl⟩)
  go_ret
  exact ⟨rfl, rfl⟩
theorem cellS_hit {w : World} {c : Nat} {v : ByteArray} {s : Int} (h : CellS c v s w) (a u : ByteArray) (heq : (v.toList == a.toList) = true) (hz : 0 ≤ s ∧ s < 9223372036854775807) : Calls Try.prog 35 #[.pointer (some ⟨c, 0, none⟩), .string a, .string u] w fun e w' => e = .returned (.bool true) ∧ w' = (w.setCell ⟨c, 0, none⟩ (.string u)).setCell ⟨c, 1, none⟩ (.int .i64 (s + 1)) := by
  have c0 := h.c0
  have hst := cellS_Store h u hz
  have hs := same_strB v a w
  rw [heq] at hs
  clear h heq hz
  go_enter Try.func35, Try.ntmps35
  go_wp2_with (first | (go_at_call 44; refine hs.mono ?_; rintro e w' ⟨rfl, rfl⟩) | (go_at_call 34; refine hst.mono ?_; rintro e w' ⟨rfl, rfl⟩))
  go_ret
  exact ⟨rfl, rfl⟩

set_option maxHeartbeats 1500000 in
set_option maxRecDepth 100000 in
theorem cells_walk (first : ByteArray) {a : Option Addr} {n cap : Nat} {T : List ByteArray} {w : World} (h : IsTexts w a n T) (hn : n ≤ 9223372036854775807) : Calls Try.prog 6 #[.string first, .slice a n cap] w fun e w' => e = .returned (.bool true) ∧ Below w.heap.size w w' := by
  have HT := Lib.hid h
  have HC0 := Lib.hid (show CellS w.heap.size first 0 (w.alloc (.cells #[.string first, .int .i64 0] 89)) from heap_new w _)
  have HB0 := Lib.hid ((Below.refl w.heap.size w).alloc (Nat.le_refl _) (.cells #[.string first, .int .i64 0] 89))
  obtain ⟨c, hc⟩ : ∃ c, c = w.heap.size := ⟨_, rfl⟩
  have HC := Lib.hid hc
  clear h hc
  go_enter Try.func6, Try.ntmps6
  go_wp2_with (go_at_call 33; refine (cellS_New _ _).mono ?_; rintro e w' ⟨rfl, rfl⟩)
  rw [← HC.out] at HC0 ⊢
  go_loopw [6, 7, 8] (fun nows ss is wr => ∃ (i : Nat) (now : ByteArray) (s : Int), (i = 0 ∨ i + 1 ≤ n) ∧ nows = .string now ∧ ss = .int .i64 s ∧ is = .int .i64 (i : Int) ∧ 0 ≤ s ∧ s ≤ i ∧ Hid (CellS c now s wr) ∧ Hid (Below w.heap.size w wr)) (fun nows ss is wr => n - (intOf is).toNat)
  case atStart => exact ⟨0, first, 0, .inl rfl, rfl, rfl, rfl, by omega, by omega, HC0, HB0⟩
  case round =>
    obtain ⟨i, now, s, hi, rfl, rfl, rfl, hs0, hs1, hcs, hb⟩ := hrel
    by_cases hlt : i + 1 < n
    · obtain ⟨hTl, b, off, hab, hrow⟩ := HT.out
      have hae := hab.resolve_left (by omega)
      subst hae
      have r0 := hrow i (by omega)
      have r1 := hrow (i + 1) (by omega)
      have l0 := (hb.out.cell (p := ⟨b, off + i, none⟩) r0.1).trans r0.2
      have l1 := (hb.out.cell (p := ⟨b, off + (i + 1), none⟩) r1.1).trans r1.2
      generalize T.getD i ByteArray.empty = x at r0 r1 l0 l1
      generalize T.getD (i + 1) ByteArray.empty = y at r0 r1 l0 l1
      have hlt' : (i : Int) + 1 < (n : Int) := by omega
      have hw1 : wrap64 ((i : Int) + 1) = (i : Int) + 1 := by rw [wrap_64, IntKind.wrap_i64]; omega
      have hw2 : IntKind.i64.wrap ((i : Int) + 1) = (i : Int) + 1 := by rw [IntKind.wrap_i64]; omega
      have hj0 : (0 : Int) ≤ (i : Int) + 1 := by omega
      have hjn : ((i : Int) + 1).toNat = i + 1 := by omega
      have hi' : (i : Int) < (n : Int) := by omega
      have c0 := hcs.out.c0
      clear hTl hab hrow
      have HLT := Lib.hid hlt
      have HS := Lib.hid (And.intro hs0 hs1)
      have hs3 : s < 9223372036854775807 := by omega
      have hbc : b ≠ c := by
        intro e
        have := HC.out
        have := r0.1
        omega
      have hsB := fun (u : ByteArray) (z : Int) => (hb.out.setCell (p := ⟨c, 0, none⟩) (by rw [HC.out]; exact Nat.le_refl _) (.string u)).setCell (p := ⟨c, 1, none⟩) (by rw [HC.out]; exact Nat.le_refl _) (.int .i64 z)
      have HSB := Lib.hid hsB
      have HR0 := Lib.hid r0
      have HR1 := Lib.hid r1
      clear r0 r1 hi
      cases he : x.toList.isEmpty with
      | true =>
        have hst := cellS_Store hcs.out y ⟨hs0, hs3⟩
        have l1' := ((hsB y (s + 1)).cell (p := ⟨b, off + (i + 1), none⟩) HR1.out.1).trans HR1.out.2
        have HE1 := Lib.hid (hcs.out.set y (s + 1))
        have HE2 := Lib.hid (hsB y (s + 1))
        have ws1 : wrap64 (s + 1) = s + 1 := by rw [wrap_64, IntKind.wrap_i64]; omega
        have ws2 : IntKind.i64.wrap (s + 1) = s + 1 := by rw [IntKind.wrap_i64]; omega
        clear hcs hb hsB
        go_wp2_with (go_at_call 34; refine hst.mono ?_; rintro e w' ⟨rfl, rfl⟩)
        go_roundw
        case rel => exact ⟨i + 1, y, s + 1, .inr HLT.out, rfl, rfl, by go_num, by omega, by have := HS.out.2; omega, HE1, HE2⟩
        case measure => have := HLT.out; simp [intOf]; omega
      | false =>
        have hcd : CellS c now s (wr.drewN 1) := hcs.out
        have HBD := Lib.hid (show Below w.heap.size w (wr.drewN 1) from ⟨hb.out.os, hb.out.tape, hb.out.output, hb.out.size, hb.out.block⟩)
        have hsD := fun (u : ByteArray) (z : Int) => (HBD.out.setCell (p := ⟨c, 0, none⟩) (by rw [HC.out]; exact Nat.le_refl _) (.string u)).setCell (p := ⟨c, 1, none⟩) (by rw [HC.out]; exact Nat.le_refl _) (.int .i64 z)
        go_upto_region 11 with fail
        by_cases hE : (now.toList == x.toList) = true
        · have hst := cellS_hit hcd x y hE ⟨hs0, hs3⟩
          have l0' := ((hsD y (s + 1)).cell (p := ⟨b, off + i, none⟩) HR0.out.1).trans HR0.out.2
          have HE1 := Lib.hid (hcd.set y (s + 1))
          have HE2 := Lib.hid (hsD y (s + 1))
          have HEE := Lib.hid hE
          have l1' := ((hsD y (s + 1)).cell (p := ⟨b, off + (i + 1), none⟩) HR1.out.1).trans HR1.out.2
          have hst' : Calls Try.prog 35 #[.pointer (some ⟨c, 0, none⟩), .string x, .string y] wr.drew fun e w' => e = .returned (.bool true) ∧ (w'.cell? ⟨b, off + i, none⟩ = some (.string x) ∧ w'.cell? ⟨b, off + (i + 1), none⟩ = some (.string y)) ∧ CellS c y (s + 1) w' ∧ Below w.heap.size w w' := hst.mono fun e w' ⟨h1, h2⟩ => by
            subst h2
            exact ⟨h1, ⟨l0', l1'⟩, HE1.out, HE2.out⟩
          have hS1 : wr.drew.cell? ⟨b, off + i, none⟩ = some (.string x) ∧ wr.drew.cell? ⟨b, off + (i + 1), none⟩ = some (.string y) := ⟨l0, l1⟩
          clear hcs hb hsB hsD hcd c0 hst l0' l1'
          go_cut [55] from 24 to 78 (fun s55 wx => s55 = .bool false ∧ Hid (CellS c y (s + 1) wx) ∧ Hid (Below w.heap.size w wx))
          case first =>
            go_region_held3 (fun w' => w'.cell? ⟨b, off + i, none⟩ = some (.string x) ∧ w'.cell? ⟨b, off + (i + 1), none⟩ = some (.string y)) (first | exact hS1 | exact hS2) (first | (go_at_call 35; refine hst'.mono ?_; rintro e w5 ⟨rfl, hS2, hC2, hB2⟩))
            go_wp2_with fail
            go_meet
            exact ⟨rfl, Lib.hid hC2, Lib.hid hB2⟩
          case rest =>
          obtain ⟨rfl, h1, h2⟩ := hcut
          obtain ⟨w6, hw6⟩ : ∃ w6, w6 = wc := ⟨_, rfl⟩
          subst hw6
          have m0 := (h2.out.cell (p := ⟨b, off + i, none⟩) HR0.out.1).trans HR0.out.2
          have m1 := (h2.out.cell (p := ⟨b, off + (i + 1), none⟩) HR1.out.1).trans HR1.out.2
          have hE := HEE.out
          have hld := cellS_Load h1.out
          have hse := cellS_Sets h1.out
          have ws1 : wrap64 (s + 1) = s + 1 := by rw [wrap_64, IntKind.wrap_i64]; omega
          have ws2 : IntKind.i64.wrap (s + 1) = s + 1 := by rw [IntKind.wrap_i64]; omega
          have hn1 := ne_intB (s + 1)
          have hn2 : (y.toList != y.toList) = false := by simp
          clear hst' hS1 l0 l1 HE1 HE2
          go_wp2_with (first | (go_at_call 36; refine hld.mono ?_; rintro e w' ⟨rfl, rfl⟩) | (go_at_call 37; refine hse.mono ?_; rintro e w' ⟨rfl, rfl⟩))
          go_roundw
          case rel => exact ⟨i + 1, y, s + 1, .inr HLT.out, rfl, rfl, by go_num, by omega, by have := HS.out.2; omega, h1, h2⟩
          case measure => have := HLT.out; simp [intOf]; omega
        · have hE' : (now.toList == x.toList) = false := by simpa using hE
          have hst := cellS_miss hcd x y hE'
          have HE1 := Lib.hid hcd
          have HEE := Lib.hid hE'
          have hst' : Calls Try.prog 35 #[.pointer (some ⟨c, 0, none⟩), .string x, .string y] wr.drew fun e w' => e = .returned (.bool false) ∧ (w'.cell? ⟨b, off + i, none⟩ = some (.string x) ∧ w'.cell? ⟨b, off + (i + 1), none⟩ = some (.string y)) ∧ CellS c now s w' ∧ Below w.heap.size w w' := hst.mono fun e w' ⟨h1, h2⟩ => by
            subst h2
            exact ⟨h1, ⟨l0, l1⟩, HE1.out, HBD.out⟩
          have hS1 : wr.drew.cell? ⟨b, off + i, none⟩ = some (.string x) ∧ wr.drew.cell? ⟨b, off + (i + 1), none⟩ = some (.string y) := ⟨l0, l1⟩
          clear hcs hb hsB hsD hcd c0 hE hst
          go_cut [55] from 24 to 78 (fun s55 wx => s55 = .bool false ∧ Hid (CellS c now s wx) ∧ Hid (Below w.heap.size w wx))
          case first =>
            go_region_held3 (fun w' => w'.cell? ⟨b, off + i, none⟩ = some (.string x) ∧ w'.cell? ⟨b, off + (i + 1), none⟩ = some (.string y)) (first | exact hS1 | exact hS2) (first | (go_at_call 35; refine hst'.mono ?_; rintro e w5 ⟨rfl, hS2, hC2, hB2⟩))
            go_wp2_with fail
            go_meet
            exact ⟨rfl, Lib.hid hC2, Lib.hid hB2⟩
          case rest =>
          obtain ⟨rfl, h1, h2⟩ := hcut
          obtain ⟨w6, hw6⟩ : ∃ w6, w6 = wc := ⟨_, rfl⟩
          subst hw6
          have m0 := (h2.out.cell (p := ⟨b, off + i, none⟩) HR0.out.1).trans HR0.out.2
          have hE2 := HEE.out
          have hld := cellS_Load h1.out
          have hse := cellS_Sets h1.out
          have hn1 := ne_intB s
          have hn2 : (now.toList != now.toList) = false := by simp
          clear hst' hS1 l0 l1 HE1 HBD
          go_wp2_with (first | (go_at_call 36; refine hld.mono ?_; rintro e w' ⟨rfl, rfl⟩) | (go_at_call 37; refine hse.mono ?_; rintro e w' ⟨rfl, rfl⟩))
          go_roundw
          case rel => exact ⟨i + 1, now, s, .inr HLT.out, rfl, rfl, by go_num, by omega, by have := HS.out.2; omega, h1, h2⟩
          case measure => have := HLT.out; simp [intOf]; omega
    · have hstop : ¬ ((i : Int) + 1 < (n : Int)) := by omega
      have hbig : (i : Int) + 1 ≤ 9223372036854775807 := by omega
      have HCS := hcs
      have HBB := hb
      have hn2 : (now.toList == now.toList) = true := by simp
      clear hi hlt hcs hb
      go_wp2_with fail
      refine (law_awake _).mono ?_
      rintro e w2 ⟨rfl, hb2⟩
      have hld := cellS_Load (HCS.out.below hb2)
      have HF := Lib.hid (HBB.out.trans (hb2.mono HBB.out.size))
      clear hb2
      go_wp2_with (go_at_call 36; refine hld.mono ?_; rintro e w' ⟨rfl, rfl⟩)
      go_ret
      exact ⟨rfl, HF.out⟩
end Go.Proofs.Ytccliallljcjgaa
