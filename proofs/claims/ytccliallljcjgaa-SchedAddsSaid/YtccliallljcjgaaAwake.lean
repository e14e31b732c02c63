/- The law's own example: two tasks add to a cell. -/
import Derived.Test.YtccliallljcjgaaRight
set_option linter.unusedVariables false
namespace Go.Proofs.Ytccliallljcjgaa
open Go.RowKit

def addL : List INS := [⟨1, 0, 0, 1, 0⟩, ⟨2, 0, 1, 0, 1⟩]
def addT (N : Nat) : TK := ⟨some ⟨N, 0, none⟩, 2, addL, 0, 0, false⟩
/-- Where the example stands. -/
def ps (N : Nat) : Nat → PW
  | 0 => PW.start [addT N, addT N]
  | k + 1 => ((ps N k).pick k).1
theorem ps_picks (N k : Nat) (h : k < 4) : 0 ≤ ((ps N k).pick k).2 ∧ (ps N k).steps = k := by
  have : k = 0 ∨ k = 1 ∨ k = 2 ∨ k = 3 := by omega
  rcases this with rfl | rfl | rfl | rfl
  · have h1 : ((ps N 0).pick ((0 : Nat) : Int)).2 = 0 := by kernel_rfl
    have h2 : (ps N 0).steps = 0 := by kernel_rfl
    rw [h1, h2]
    exact ⟨by decide, rfl⟩
  · have h1 : ((ps N 1).pick ((1 : Nat) : Int)).2 = 0 := by kernel_rfl
    have h2 : (ps N 1).steps = 1 := by kernel_rfl
    rw [h1, h2]
    exact ⟨by decide, rfl⟩
  · have h1 : ((ps N 2).pick ((2 : Nat) : Int)).2 = 1 := by kernel_rfl
    have h2 : (ps N 2).steps = 2 := by kernel_rfl
    rw [h1, h2]
    exact ⟨by decide, rfl⟩
  · have h1 : ((ps N 3).pick ((3 : Nat) : Int)).2 = 1 := by kernel_rfl
    have h2 : (ps N 3).steps = 3 := by kernel_rfl
    rw [h1, h2]
    exact ⟨by decide, rfl⟩
theorem ps_end (N : Nat) : (ps N 4).pick 0 = (ps N 4, -1) ∧ (ps N 4).cells.getD 0 0 = 2 ∧ (ps N 4).sets.getD 0 0 = 2 ∧ (ps N 4).steps = 4 := by
  refine ⟨?_, ?_, ?_, ?_⟩
  · kernel_rfl
  · kernel_rfl
  · kernel_rfl
  · kernel_rfl
theorem go_Pick_no {B : Nat} {w : World} {g : AtG} {p p' : PW} {ts : List (Option TS)} (h : Go5 B w g p ts) (n : Int) (hs : p.steps < 4611686018427387904) (hp : p.pick n = (p', -1)) :
    Calls Try.prog 12 #[.pointer (some ⟨g.s, 0, none⟩), .int .i64 n] w fun e w' => e = .returned (.tuple #[.int .i64 0, .bool false]) ∧ (∃ ts', Go5 B w' g p' ts') ∧ Only (GS g) w w' := by
  have := go_Pick h n hs
  rw [hp] at this
  exact this
def addA : Array Value := #[.int .i64 1, .int .i64 0, .int .i64 0, .int .i64 1, .int .i64 0, .int .i64 2, .int .i64 0, .int .i64 1, .int .i64 0, .int .i64 1]
theorem add_progs (w : World) : Progs ((w.alloc (.cells addA 73)).alloc (.cells #[.slice (some ⟨w.heap.size, 0, none⟩) 2 2, .slice (some ⟨w.heap.size, 0, none⟩) 2 2] 44)) ((w.alloc (.cells addA 73)).alloc (.cells #[.slice (some ⟨w.heap.size, 0, none⟩) 2 2, .slice (some ⟨w.heap.size, 0, none⟩) 2 2] 44)).heap.size (some ⟨w.heap.size + 1, 0, none⟩) 2 [addT w.heap.size, addT w.heap.size] := by
  have e1 : (w.alloc (.cells addA 73)).heap.size = w.heap.size + 1 := by simp
  have h0 : ((w.alloc (.cells addA 73)).alloc (.cells #[.slice (some ⟨w.heap.size, 0, none⟩) 2 2, .slice (some ⟨w.heap.size, 0, none⟩) 2 2] 44)).heap[w.heap.size]? = some (.cells addA 73 (0, 0)) := heap_new2 w _ _
  have h1 : ((w.alloc (.cells addA 73)).alloc (.cells #[.slice (some ⟨w.heap.size, 0, none⟩) 2 2, .slice (some ⟨w.heap.size, 0, none⟩) 2 2] 44)).heap[w.heap.size + 1]? = some (.cells #[.slice (some ⟨w.heap.size, 0, none⟩) 2 2, .slice (some ⟨w.heap.size, 0, none⟩) 2 2] 44 (0, 0)) := by
    rw [← e1]; exact heap_new _ _
  generalize ((w.alloc (.cells addA 73)).alloc (.cells #[.slice (some ⟨w.heap.size, 0, none⟩) 2 2, .slice (some ⟨w.heap.size, 0, none⟩) 2 2] 44)) = w2 at *
  have hq : ∀ (i : Nat) (q : TK), ([addT w.heap.size, addT w.heap.size] : List TK)[i]? = some q → (i = 0 ∨ i = 1) ∧ q = addT w.heap.size := by
    intro i q h
    have : i < 2 := lt_of_get h
    have : i = 0 ∨ i = 1 := by omega
    rcases this with rfl | rfl
    · simp at h; exact ⟨.inl rfl, h.symm⟩
    · simp at h; exact ⟨.inr rfl, h.symm⟩
  refine ⟨rfl, by omega, ⟨w.heap.size + 1, 0, .inr rfl, heap_lt h1, fun i q h => ?_⟩, fun i q h => ?_⟩
  · obtain ⟨hi, rfl⟩ := hq i q h
    refine ⟨heap_lt h1, ?_⟩
    rcases hi with rfl | rfl
    · simp [World.cell?, h1, addT, addL]
    · simp [World.cell?, h1, addT, addL]
  · obtain ⟨hi, rfl⟩ := hq i q h
    refine ⟨⟨rfl, by simp [addT, addL], ?_, w.heap.size, 0, heap_lt h0, .inr rfl, fun k hk => ⟨heap_lt h0, fun j hj => ?_⟩⟩, rfl, rfl, by simp [addT, addL]⟩
    · intro x hx
      simp [addT, addL] at hx
      rcases hx with rfl | rfl
      · exact ⟨by decide, by decide, by decide, by decide, by decide, by decide⟩
      · exact ⟨by decide, by decide, by decide, by decide, by decide, by decide⟩
    · have hk2 : k = 0 ∨ k = 1 := by simp [addT, addL] at hk; omega
      have hj5 : j = 0 ∨ j = 1 ∨ j = 2 ∨ j = 3 ∨ j = 4 := by omega
      simp only [World.cell?, h0]
      rcases hk2 with rfl | rfl <;> rcases hj5 with rfl | rfl | rfl | rfl | rfl <;> rfl

set_option maxHeartbeats 1000000 in
set_option maxRecDepth 100000 in
theorem law_awake (w : World) : Calls Try.prog 10 #[] w fun e w' => e = .returned (.bool true) ∧ Below w.heap.size w w' := by
  have hP := add_progs w
  have hA : Below w.heap.size w ((w.alloc (.cells addA 73)).alloc (.cells #[.slice (some ⟨w.heap.size, 0, none⟩) 2 2, .slice (some ⟨w.heap.size, 0, none⟩) 2 2] 44)) := ((Below.refl _ w).alloc (Nat.le_refl _) _).alloc (by simp) _
  have hB := fun cap => begin_go (cap := cap) hP (by omega)
  unfold addA at hP hA hB
  have HA := Lib.hid hA
  have HPS := Lib.hid (ps_picks w.heap.size)
  obtain ⟨e1, e2, e3, e4⟩ := ps_end w.heap.size
  have HE := Lib.hid (And.intro e1 (And.intro e2 (And.intro e3 e4)))
  have HB2 := Lib.hid hB
  clear hP hA hB e1 e2 e3 e4
  go_enter Try.func10, Try.ntmps10
  go_wp2_with fail
  refine (HB2.out _).mono ?_
  rintro e w1 ⟨W, rfl, ⟨g, ts, hW, hG, _⟩, hb⟩
  generalize hw2 : ((w.alloc _).alloc _) = w2 at *
  have HB1 := Lib.hid (HA.out.trans (hb.mono HA.out.size))
  have HBS := Lib.hid HA.out.size
  have HW := Lib.hid hW
  have HG := Lib.hid (show Go5 w2.heap.size w1 g (ps w.heap.size 0) ts from hG)
  have HGE := Lib.hid (⟨ts, HG.out⟩ : ∃ ts, Go5 w2.heap.size w1 g (ps w.heap.size 0) ts)
  clear hG hb hW HG HA HB2 hw2
  go_wp2_with fail
  go_loopw [4] (fun is wr => ∃ k : Nat, k ≤ 4 ∧ is = .int .i64 (k : Int) ∧ Hid (∃ ts, Go5 w2.heap.size wr g (ps w.heap.size k) ts) ∧ Hid (Below w.heap.size w wr)) (fun is wr => 4 - (intOf is).toNat)
  case atStart => exact ⟨0, by omega, rfl, HGE, HB1⟩
  case round =>
    obtain ⟨k, hk, rfl, hg, hb⟩ := hrel
    obtain ⟨ts1, G⟩ := hg.out
    have o3 : wr.cell? ⟨W, 3, none⟩ = some (.pointer (some ⟨g.s, 0, none⟩)) := by rw [← HW.out]; exact G.cel.o3
    by_cases hlt : k < 4
    · obtain ⟨hp, hst⟩ := HPS.out k hlt
      have hpk := go_Pick G (k : Int) (by rw [hst]; omega)
      rw [decide_eq_true hp] at hpk
      have hlt' : (k : Int) < 4 := by omega
      have HBX := Lib.hid (show ∀ w', Only (GS g) wr w' → Below w.heap.size w w' from fun w' ho => hb.out.trans ((ho.below (B := w2.heap.size) (fun j _ hj => G.low j hj) G.size).mono HBS.out))
      clear G hp hst
      go_wp2_with fail
      refine hpk.mono ?_
      rintro e w3 ⟨rfl, hg3, ho3⟩
      have HG3 := Lib.hid (show ∃ ts, Go5 w2.heap.size w3 g (ps w.heap.size (k + 1)) ts from hg3)
      have HB3 := Lib.hid (HBX.out w3 ho3)
      clear hg3 ho3 hpk o3
      go_wp2_with fail
      go_roundw
      case rel => exact ⟨k + 1, hlt, by go_num, HG3, HB3⟩
      case measure => simp [intOf]; omega
    · obtain rfl : k = 4 := by omega
      obtain ⟨e1, e2, e3, e4⟩ := HE.out
      have hpk' := go_Pick_no G 0 (by rw [e4]; omega) e1
      have HBX := Lib.hid (show ∀ w', Only (GS g) wr w' → Below w.heap.size w w' from fun w' ho => hb.out.trans ((ho.below (B := w2.heap.size) (fun j _ hj => G.low j hj) G.size).mono HBS.out))
      clear G
      have HE' := HE
      go_wp2_with fail
      refine hpk'.mono ?_
      rintro e w3 ⟨rfl, ⟨ts3, G3⟩, ho3⟩
      have HB3 := Lib.hid (HBX.out w3 ho3)
      obtain ⟨e1, e2, e3, e4⟩ := HE'.out
      have p0 : w3.cell? ⟨W, 0, none⟩ = some (.slice (some ⟨g.CR, 0, none⟩) 4 g.cc) := by rw [← HW.out]; exact G3.cel.o0
      have p3 : w3.cell? ⟨W, 3, none⟩ = some (.pointer (some ⟨g.s, 0, none⟩)) := by rw [← HW.out]; exact G3.cel.o3
      have rc := G3.cel.rc (i := 0) (by omega)
      have c0 := G3.cel.c0 (i := 0) (by omega)
      rw [e2] at c0
      have c1 := G3.cel.c1 (i := 0) (by omega)
      rw [e3] at c1
      have hld := cell_Load c0
      have hse := cell_Sets c1
      have hst := sched_Steps G3.sch
      rw [e4] at hst
      clear G3 ho3 hpk' o3 e1 e2 e3 e4 c0 c1
      go_wp2_with (first | (go_at_call 25; refine hld.mono ?_; rintro e w' ⟨rfl, rfl⟩) | (go_at_call 32; refine hse.mono ?_; rintro e w' ⟨rfl, rfl⟩) | (go_at_call 39; refine hst.mono ?_; rintro e w' ⟨rfl, rfl⟩))
      go_ret
      exact ⟨rfl, HB3.out⟩
end Go.Proofs.Ytccliallljcjgaa
