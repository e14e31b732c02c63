/- The scheduler: who is ready, a task's step, a pick, a task put and dropped. -/
import Derived.Test.YtccliallljcjgaaScheds
import Derived.Maps.AppendAt
import Derived.Sort.WalkA
set_option linter.unusedVariables false
namespace Go.Proofs.Ytccliallljcjgaa
open Go.RowKit

theorem info3 : (Try.prog.info? 3).map (fun i => (i.zero, i.size, i.bytes)) = some (some (.int .i64 0), 1, 8) := by kernel_rfl
def natI (i : Nat) : Value := .int .i64 (i : Int)
/-- Those that are ready, in order. -/
def readyL (r : Nat → Bool) (n : Nat) : List Nat := (List.range n).filter r
theorem readyL_next (r : Nat → Bool) (n : Nat) : readyL r (n + 1) = if r n = true then readyL r n ++ [n] else readyL r n := by
  unfold readyL
  rw [List.range_succ, List.filter_append]
  by_cases h : r n = true
  · simp [h]
  · simp [h]
theorem readyL_len (r : Nat → Bool) (n : Nat) : (readyL r n).length ≤ n := by
  have := List.length_filter_le r (List.range n)
  rw [List.length_range] at this
  exact this
theorem readyL_lt {r : Nat → Bool} {n i : Nat} (h : i ∈ readyL r n) : i < n ∧ r i = true := by
  have := List.mem_filter.1 h
  exact ⟨List.mem_range.1 this.1, this.2⟩
theorem addr_lt {w : World} {a : Addr} {v : Value} (h : w.cell? a = some v) : a.block < w.heap.size := by
  rcases Nat.lt_or_ge a.block w.heap.size with h' | h'
  · exact h'
  · simp [World.cell?, Array.getElem?_eq_none h'] at h
theorem Rdy.below {w w' : World} {x : Option TS} {r : Bool} (h : Rdy w x r) (k : Below w.heap.size w w') : Rdy w' x r := by
  cases x with
  | none => exact h
  | some x =>
    rcases h with h | ⟨a, hv, hm, hc, hr⟩
    · exact .inl h
    · exact .inr ⟨a, hv, hm, (k.cell (addr_lt hc)).trans hc, hr⟩
/-- A row of numbers that a call has made. -/
def OwnN (B : Nat) (v : Value) (l : List Nat) (w : World) : Prop := w.ownsRow B 3 1 v l.length (l.map natI)

set_option maxHeartbeats 2000000 in
set_option maxRecDepth 100000 in
theorem sched_ready {w : World} {s t : Nat} {ts : List (Option TS)} {steps : Int} (h : Sch w s t ts steps) (r : Nat → Bool) (hr : ∀ (i : Nat) x, ts[i]? = some x → Rdy w x (r i)) :
    Calls Try.prog 41 #[.pointer (some ⟨s, 0, none⟩)] w fun e w' => ∃ v, e = .returned v ∧ OwnN w.heap.size v (readyL r ts.length) w' ∧ Below w.heap.size w w' := by
  obtain ⟨i0, hi, hz0, hz1, hz2⟩ := info_parts info3
  have HS := Lib.hid h
  have HR := Lib.hid hr
  have H16 := Lib.hid h.few
  obtain ⟨n, hn⟩ : ∃ n, n = ts.length := ⟨_, rfl⟩
  have HN := Lib.hid hn
  rw [← hn]
  clear h hr hn
  go_enter Try.func41, Try.ntmps41
  go_wp2_with fail
  go_loopw [3, 4] (fun v is wr => ∃ j, j ≤ n ∧ is = .int .i64 (j : Int) ∧ OwnN w.heap.size v (readyL r j) wr ∧ Below w.heap.size w wr) (fun v is wr => n - (intOf is).toNat)
  case atStart => exact ⟨0, Nat.zero_le _, rfl, World.ownsRow_nil _ _ _ _, Below.refl _ _⟩
  case round =>
    obtain ⟨j, hj, rfl, hown, hbw⟩ := hrel
    have HO := Lib.hid hown
    have HB := Lib.hid hbw
    have SR := HS.out.below hbw
    have hj16 : j ≤ 16 := by have := H16.out; have := HN.out; omega
    have HRL := Lib.hid (readyL_len r j)
    have HNX := Lib.hid (readyL_next r j)
    clear hown hbw
    by_cases hlt : j < n
    · have hlt' : j < ts.length := by rw [← HN.out]; exact hlt
      have hin := sched_in SR hlt'
      have hrd := sched_Ready SR (List.getElem?_eq_getElem hlt') ((HR.out j _ (List.getElem?_eq_getElem hlt')).below HB.out)
      clear SR hlt'
      cases hrj : r j with
      | false =>
        rw [hrj] at hrd
        have HRJ := Lib.hid hrj
        clear hrj
        go_wp2_with (first | (go_at_call 42; refine hin.mono ?_; rintro e w' ⟨rfl, rfl⟩) | (go_at_call 18; refine hrd.mono ?_; rintro e w' ⟨rfl, rfl⟩))
        go_roundw
        case rel => exact ⟨j + 1, by omega, by go_num, by rw [HNX.out, if_neg (by rw [HRJ.out]; decide)]; exact HO.out, HB.out⟩
        case measure => simp [intOf]; omega
      | true =>
        rw [hrj] at hrd
        have HRJ := Lib.hid hrj
        clear hrj
        go_wp2_with (first | (go_at_call 42; refine hin.mono ?_; rintro e w' ⟨rfl, rfl⟩) | (go_at_call 18; refine hrd.mono ?_; rintro e w' ⟨rfl, rfl⟩) | (at_builtin; refine wpList_append_own _ rfl _ _ 23 rfl w.heap.size 3 i0 (.int .i64 0) 1 8 Try.underlying23 hi hz0 hz1 hz2 rfl (by decide) _ _ _ rfl (HO.out.alloc _) ⟨w'.heap.size, 0, none⟩ 1 1 [.int .i64 (j : Int)] rfl rfl ?c1 ?c2 ?c3 ?c4 ?c5 ?_))
        case c1 => exact cell_one_new _ _ _
        case c2 => intro u hu; simp at hu; subst hu; rfl
        case c3 => unfold maxLen; have := HRL.out; omega
        case c4 => have := HRL.out; omega
        case c5 => have := HB.out.size; simp; omega
        intro v' w3 hown' hgrow _
        have HO3 := Lib.hid hown'
        have HB3 := Lib.hid (show Below w.heap.size w w3 from (HB.out.alloc HB.out.size _).grown hgrow (by have := HB.out.size; simp; omega) (fun q hq => (HO.out.lt q hq).1))
        clear hown' hgrow
        go_wp2_with fail
        go_roundw
        case rel => exact ⟨j + 1, by omega, by go_num, by rw [HNX.out, if_pos HRJ.out]; unfold OwnN; rw [List.length_append, List.map_append]; exact HO3.out, HB3.out⟩
        case measure => simp [intOf]; omega
    · obtain rfl : j = n := by omega
      have hout := Out.of SR.c0 (i := (j : Int)) (by rw [← HN.out]; omega)
      unfold Out at hout
      clear SR
      go_wp2_with (go_at_call 42; refine hout.mono ?_; rintro e w' ⟨rfl, rfl⟩)
      go_ret
      exact ⟨_, rfl, HO.out, HB.out⟩
end Go.Proofs.Ytccliallljcjgaa
