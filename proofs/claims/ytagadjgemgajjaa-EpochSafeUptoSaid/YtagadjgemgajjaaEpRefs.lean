/- The document's book: New, Retire, seen, Free. -/
import Derived.Test.YtagadjgemgajjaaEpRef
set_option linter.unusedVariables false
namespace Go.Proofs.Ytagadjgemgajjaa
open Go.RowKit

set_option maxHeartbeats 1000000 in
theorem ref_New_not (n : Int) (hn : n < 1 ∨ 16 < n) (w : World) : Calls Try.prog 8 #[.int .i64 n] w fun e w' => e = .returned (.tuple #[.agg #[.int .i64 0, .slice none 0 0, .slice none 0 0, .slice none 0 0], .int .i64 1]) ∧ Below w.heap.size w w' := by
  by_cases h : n < 1
  · have h' : n ≤ 0 := by omega
    go_enter Try.func8, Try.ntmps8
    go_wp2
    exact bodyPost_ret (v := .tuple #[.agg #[.int .i64 0, .slice none 0 0, .slice none 0 0, .slice none 0 0], .int .i64 1]) (by simp [results, Try.results8, go_sem]) rfl ⟨rfl, (Below.refl _ _).alloc (Nat.le_refl _) _⟩
  · have h16 : 17 ≤ n := by omega
    have h1 : ¬ n ≤ 0 := by omega
    go_enter Try.func8, Try.ntmps8
    go_wp2
    exact bodyPost_ret (v := .tuple #[.agg #[.int .i64 0, .slice none 0 0, .slice none 0 0, .slice none 0 0], .int .i64 1]) (by simp [results, Try.results8, go_sem]) rfl ⟨rfl, (Below.refl _ _).alloc (Nat.le_refl _) _⟩
set_option maxHeartbeats 1000000 in
theorem ref_New (n : Nat) (h1 : 1 ≤ n) (h2 : n ≤ 16) (w : World) : Calls Try.prog 8 #[.int .i64 (n : Int)] w fun e w' => e = .returned (.tuple #[.agg #[.int .i64 1, .slice (some ⟨w.heap.size + 1, 0, none⟩) n n, .slice none 0 0, .slice none 0 0], .int .i64 0]) ∧
    w'.heap[w.heap.size + 1]? = some (.cells ((newB n).came.map intV).toArray 3 (0, 0)) ∧ Below w.heap.size w w' := by
  have a1 : ¬ (n : Int) ≤ 0 := by omega
  have a2 : ¬ (17 : Int) ≤ (n : Int) := by omega
  obtain ⟨i0, hi, hz0, hz1, hz2⟩ := info_parts info3
  have hmk : ∀ w, (Instr.makeSlice 27 (.int .i64 (n : Int)) (.int .i64 (n : Int))).run Try.prog w = .ok (.slice (some ⟨w.heap.size, 0, none⟩) n n) (w.alloc (.cells ((newB n).came.map intV).toArray 3)) := by
    intro w
    rw [run_make w 27 3 i0 (.int .i64 0) Try.underlying27 hi hz0 .i64 .i64 n n (by omega) (by omega) (by rw [hz2]; omega) (by omega)]
    rw [hz1, Int.toNat_natCast, Nat.mul_one]
    have : madeCells (Value.int .i64 0).cells n = ((newB n).came.map intV).toArray := by
      apply Array.ext
      · simp [madeCells, newB]
      · intro i h1 h2
        simp [madeCells, Value.cells, Nat.mod_one, newB, intV]
    rw [this]
  obtain ⟨cs, hcs⟩ : ∃ cs, cs = ((newB n).came.map intV).toArray := ⟨_, rfl⟩
  rw [← hcs] at hmk ⊢
  clear hi hz0 hz1 hz2 hcs
  go_enter Try.func8, Try.ntmps8
  go_wp2
  refine bodyPost_ret (v := .tuple #[.agg #[.int .i64 1, .slice (some ⟨w.heap.size + 1, 0, none⟩) n n, .slice none 0 0, .slice none 0 0], .int .i64 0]) (by simp [results, Try.results8, go_sem]) rfl ⟨rfl, ?_, ?_⟩
  · have := heap_new (w.alloc (.cells #[.int .i64 1, .slice (some ⟨w.heap.size + 1, 0, none⟩) n n, .slice none 0 0, .slice none 0 0] 30)) (.cells cs 3)
    simpa using this
  · exact ((Below.refl _ w).alloc (Nat.le_refl _) _).alloc (by simp) _
set_option maxHeartbeats 1000000 in
theorem ref_seen {B : Nat} {w : World} {r : AtR} {s : EB} (h : Rk B w r s.rb) (t : Int) (hl : s.came.length ≤ 16) : Calls Try.prog 33 #[.pointer (some ⟨r.m, 0, none⟩), .int .i64 t] w fun e w' => e = .returned (.bool (s.seen t)) ∧ w = w' := by
  have c0 : w.cell? ⟨r.m, 0, none⟩ = some (.int .i64 s.now) := h.c0
  have c1 : w.cell? ⟨r.m, 1, none⟩ = some (.slice (some ⟨r.c, 0, none⟩) s.came.length s.came.length) := h.c1
  have hcc := Lib.hid (fun (i : Nat) (x : Int) (hx : s.came[i]? = some x) => h.cc hx)
  clear h
  by_cases h1 : s.now ≤ t
  · have e : s.seen t = true := by unfold EB.seen; rw [decide_eq_true h1]; rfl
    rw [e]
    clear e
    go_enter Try.func33, Try.ntmps33
    go_wp2
    go_ret
    exact ⟨rfl, rfl⟩
  · obtain ⟨b, hb⟩ : ∃ b, s.seen t = b := ⟨_, rfl⟩
    have HSE := Lib.hid hb
    rw [hb]
    have HE := Lib.hid (show s.seen t = s.came.any fun x => decide (0 < x ∧ x ≤ t) by unfold EB.seen; rw [decide_eq_false h1]; rfl)
    clear hb
    have h1' : t < s.now := by omega
    go_enter Try.func33, Try.ntmps33
    go_wp2_with fail
    go_loop [5] (fun i => ∃ k : Nat, k ≤ s.came.length ∧ i = .int .i64 (k : Int) ∧ ∀ j, j < k → ∀ x, s.came[j]? = some x → ¬ (0 < x ∧ x ≤ t)) (fun i => s.came.length - (intOf i).toNat)
    case atStart => exact ⟨0, Nat.zero_le _, rfl, fun j hj => absurd hj (Nat.not_lt_zero _)⟩
    case round =>
      obtain ⟨k, hk, rfl, hno⟩ := hrel
      have HNO := Lib.hid hno
      clear hno
      by_cases hlt : k < s.came.length
      · obtain ⟨x, hx⟩ : ∃ x, s.came[k]? = some x := ⟨_, List.getElem?_eq_getElem hlt⟩
        have cc := hcc.out k x hx
        have hlt' : (k : Int) < (s.came.length : Int) := by omega
        have HX := Lib.hid hx
        clear hx
        by_cases h0 : 0 < x
        · by_cases h2 : x ≤ t
          · have HB := Lib.hid (show b = true by
              rw [← HSE.out, HE.out, List.any_eq_true]
              exact ⟨x, List.mem_of_getElem? HX.out, decide_eq_true ⟨h0, h2⟩⟩)
            go_wp2
            go_ret
            exact ⟨by rw [HB.out]; rfl, rfl⟩
          · go_wp2
            go_round
            case rel => exact ⟨k + 1, by omega, by go_num, fun j hj y hy => by
              by_cases hjk : j < k
              · exact HNO.out j hjk y hy
              · obtain rfl : j = k := by omega
                rw [HX.out] at hy
                injection hy with hy
                omega⟩
            case measure => simp [intOf]; omega
        · go_wp2
          go_round
          case rel => exact ⟨k + 1, by omega, by go_num, fun j hj y hy => by
              by_cases hjk : j < k
              · exact HNO.out j hjk y hy
              · obtain rfl : j = k := by omega
                rw [HX.out] at hy
                injection hy with hy
                omega⟩
          case measure => simp [intOf]; omega
      · have HB := Lib.hid (show b = false by
          rw [← HSE.out, HE.out, List.any_eq_false]
          intro x hx
          obtain ⟨j, hj, hjx⟩ := List.mem_iff_getElem.1 hx
          have := HNO.out j (by omega) x (by rw [List.getElem?_eq_getElem hj, hjx])
          simpa using this)
        go_wp2
        go_ret
        exact ⟨by rw [HB.out]; rfl, rfl⟩
end Go.Proofs.Ytagadjgemgajjaa
