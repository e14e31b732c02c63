/- SchedAdds: picks, with tasks that add. -/
import Derived.Test.YtccliallljcjgaaAddsPick
set_option linter.unusedVariables false
namespace Go.Proofs.Ytccliallljcjgaa
open Go.RowKit

/-- Who is ready, by slots. -/
def rA (sw : Bool) (h : Int) (ts : List AT) (i : Nat) : Bool := match ts[i]? with
  | some x => AInv.rdy sw h x
  | none => false
section
variable {B : Nat} {w : World} {g : AG} {s t : Nat} {sw : Bool} {want v h : Int} {ts : List AT} {tsS : List (Option TS)} {steps : Int}
theorem AW.below {w' : World} (A : AW B w g s t sw want v h ts tsS steps) (k : Below w.heap.size w w') : AW B w' g s t sw want v h ts tsS steps :=
  ⟨A.inv, A.mem.below k, A.sch.below k, A.len, A.slot, A.lo, A.lk⟩
theorem aw_rdy (A : AW B w g s t sw want v h ts tsS steps) : ∀ (i : Nat) y, tsS[i]? = some y → Rdy w y (rA sw h ts i) := by
  intro i y hy
  have hi : i < ts.length := by rw [← A.len]; exact (List.getElem?_eq_some_iff.1 hy).1
  have hx : ts[i]? = some ts[i] := List.getElem?_eq_getElem hi
  unfold rA
  rw [hx]
  simp only
  generalize ts[i] = x at hx
  rcases A.slot i x y hx hy with ⟨h0, rfl⟩ | ⟨hl, k, rfl⟩
  · simp [Rdy, AInv.rdy, h0]
  · have hcm : w.cell? ⟨g.m, 0, none⟩ = some (.int .i64 h) := by simp [World.cell?, A.mem.m]
    by_cases hb : (x.set || sw) = true
    · refine .inl ⟨by simp [hb], ?_⟩
      simp at hb
      rcases hb with e | e <;> simp [AInv.rdy, hl, e]
    · refine .inr ⟨⟨g.m, 0, none⟩, h, by simp [hb], hcm, ?_⟩
      simp at hb
      simp [AInv.rdy, hl, hb.1, hb.2]
      rw [Bool.eq_iff_iff]
      simp
theorem aw_pick_none (A : AW B w g s t sw want v h ts tsS steps) (n : Int) (hl : readyL (rA sw h ts) ts.length = []) :
    (Calls Try.prog 12 #[.pointer (some ⟨s, 0, none⟩), .int .i64 n] w fun e w' => e = .returned (.tuple #[.int .i64 0, .bool false]) ∧ Below w.heap.size w w') ∧ v = want ∧ h = -1 := by
  refine ⟨pick_none A.sch (rA sw h ts) (aw_rdy A) n (by rw [A.len]; exact hl), A.inv.none_left fun x hx => ?_⟩
  obtain ⟨i, hi, rfl⟩ := List.mem_iff_getElem.1 hx
  have hno : i ∉ readyL (rA sw h ts) ts.length := by rw [hl]; simp
  have h1 : rA sw h ts i = AInv.rdy sw h ts[i] := by unfold rA; rw [List.getElem?_eq_getElem hi]
  cases hr : AInv.rdy sw h ts[i] with
  | false => rfl
  | true =>
    exfalso
    refine hno ?_
    unfold readyL
    rw [List.mem_filter]
    exact ⟨by simpa using hi, by rw [h1]; exact hr⟩
theorem aw_pick_some (A : AW B w g s t sw want v h ts tsS steps) (hB : B ≤ w.heap.size) (n : Int) (hl : readyL (rA sw h ts) ts.length ≠ []) :
    ∃ i : Nat, Calls Try.prog 12 #[.pointer (some ⟨s, 0, none⟩), .int .i64 n] w fun e w' => e = .returned (.tuple #[.int .i64 (i : Int), .bool true]) ∧ ∃ w1, Below w.heap.size w w1 ∧ Picked B g s t sw want ts.length (cntA v ts) w1 w' := by
  have hlen : 0 < (readyL (rA sw h ts) ts.length).length := List.length_pos_iff.2 hl
  obtain ⟨i, hi⟩ : ∃ i, (readyL (rA sw h ts) ts.length).getD (placeN n (readyL (rA sw h ts) ts.length).length) 0 = i := ⟨_, rfl⟩
  have hpl : placeN n (readyL (rA sw h ts) ts.length).length < (readyL (rA sw h ts) ts.length).length := by
    unfold placeN
    have := Int.emod_lt_of_pos n (show (0 : Int) < ((readyL (rA sw h ts) ts.length).length : Int) by omega)
    have := Int.emod_nonneg n (show ((readyL (rA sw h ts) ts.length).length : Int) ≠ 0 by omega)
    omega
  have hmem : i ∈ readyL (rA sw h ts) ts.length := by
    rw [← hi, List.getD_eq_getElem?_getD, List.getElem?_eq_getElem hpl]
    exact List.getElem_mem hpl
  obtain ⟨hit, hir⟩ := readyL_lt hmem
  have hx : ts[i]? = some ts[i] := List.getElem?_eq_getElem hit
  have hr : AInv.rdy sw h ts[i] = true := by unfold rA at hir; rw [hx] at hir; exact hir
  refine ⟨i, pick_does A.sch (rA sw h ts) (aw_rdy A) n (by rw [A.len]; exact hlen) i (by rw [A.len]; exact hi) (Picked B g s t sw want ts.length (cntA v ts)) fun w1 hb => ?_⟩
  refine (aw_step (A.below hb) (Nat.le_trans hB hb.size) hx hr).mono ?_
  rintro e w' ⟨rfl, hP, k, hO, nk, y, hy, hyk⟩
  refine ⟨rfl, hP, fun b h1 h2 => hO.block b h2 ?_⟩
  rintro ((e | e | e | e) | e | e | e)
  · have := heap_lt A.mem.c; omega
  · have := heap_lt A.mem.m; omega
  · have := heap_lt (A.mem.lf i _ hx); omega
  · have := heap_lt (A.mem.sn i _ hx); omega
  · have := heap_lt A.sch.obj; omega
  · have := heap_lt A.sch.row; omega
  · have := heap_lt (A.sch.task nk y hy); omega
end
end Go.Proofs.Ytccliallljcjgaa
