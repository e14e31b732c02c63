/- Whether a task may do its next step: the document's answer. -/
import Derived.Test.YtccliallljcjgaaSchedLay
import Derived.StillTailTactics
import Derived.RegionTactic
set_option linter.unusedVariables false
namespace Go.Proofs.Ytccliallljcjgaa
open Go.RowKit

theorem ret_bool {a b : Bool} (h : b = a) : Ending.returned (.bool a) = Ending.returned (.bool b) := by rw [h]
theorem only_new {w : World} (o : Obj) (S : Nat → Prop) : Only S w (w.alloc o) := (Only.refl S w).alloc o

set_option maxHeartbeats 1600000 in
set_option maxRecDepth 100000 in
theorem ref_Ready {B : Nat} {S : Nat → Prop} {w : World} {q : At5} {p : PW} (h : Lay5 B S w q p) (i : Nat) (hi : i < p.ts.length) :
    Calls Try.prog 19 #[.pointer (some ⟨q.m, 0, none⟩), .int .i64 (i : Int)] w fun e w' => e = .returned (.bool (p.ready i)) ∧ Below w.heap.size w w' := by
  have h8 := h.few
  have hi' : (i : Int) < (p.ts.length : Int) := by omega
  have m0 : w.cell? ⟨q.m, 0, none⟩ = some (.slice (some ⟨q.T, 0, none⟩) p.ts.length q.cap) := h.cell 0
  have m3 : w.cell? ⟨q.m, 3, none⟩ = some (.slice (some ⟨q.H, 0, none⟩) 4 4) := h.cell 3
  have hk := h.tk i hi
  have e0 : w.cell? ⟨q.T, i * 4, none⟩ = (p.ts.getD i default).vals[0]? := h.tr.cell hi (j := 0) (by omega)
  have e1 : w.cell? ⟨q.T, i * 4 + 1, none⟩ = (p.ts.getD i default).vals[1]? := h.tr.cell hi (j := 1) (by omega)
  have e2 : w.cell? ⟨q.T, i * 4 + 2, none⟩ = (p.ts.getD i default).vals[2]? := h.tr.cell hi (j := 2) (by omega)
  have e3 : w.cell? ⟨q.T, i * 4 + 3, none⟩ = (p.ts.getD i default).vals[3]? := h.tr.cell hi (j := 3) (by omega)
  have HF := Lib.hid h.h
  unfold PW.ready
  generalize p.ts.getD i default = t at *
  obtain ⟨a, cap, l, at_, known, gone⟩ := t
  obtain ⟨⟨_, h60, hok, b, off, hb, ha, hr⟩, hat, _, _⟩ := hk
  replace e0 : w.cell? ⟨q.T, i * 4, none⟩ = some (.slice a l.length cap) := e0
  replace e1 : w.cell? ⟨q.T, i * 4 + 1, none⟩ = some (.int .i64 (at_ : Int)) := e1
  replace e2 : w.cell? ⟨q.T, i * 4 + 2, none⟩ = some (.int .i64 known) := e2
  replace e3 : w.cell? ⟨q.T, i * 4 + 3, none⟩ = some (.bool gone) := e3
  simp only at h60 hok ha hr hat ⊢
  have HB := Lib.hid ((Below.refl w.heap.size w).alloc (Nat.le_refl _) (.cells #[.slice a l.length cap, .int .i64 (at_ : Int), .int .i64 known, .bool gone] 46))
  have hA := h.alloc (.cells #[.slice a l.length cap, .int .i64 (at_ : Int), .int .i64 known, .bool gone] 46)
  have M3 := Lib.hid (hA.cell 3)
  have HFA := Lib.hid hA.h
  clear hA
  cases gone with
  | true =>
    clear h hr ha hok
    simp only [true_or, if_true]
    go_enter Try.func19, Try.ntmps19
    go_wp2
    go_ret
    exact ⟨rfl, HB.out⟩
  | false =>
    by_cases hend : l.length ≤ at_
    · have he : ((l.length : Nat) : Int) ≤ (at_ : Int) := by omega
      have hd : decide (((l.length : Nat) : Int) ≤ (at_ : Int)) = true := by simpa using he
      rw [if_pos (.inr hend)]
      clear h hr ha hok
      go_enter Try.func19, Try.ntmps19
      go_wp2
      go_ret
      exact ⟨rfl, HB.out⟩
    · have hlt : at_ < l.length := by omega
      have hd : decide (((l.length : Nat) : Int) ≤ (at_ : Int)) = false := by simp; omega
      have hlt' : (at_ : Int) < ((l.length : Nat) : Int) := by omega
      rw [if_neg (by simp; omega)]
      have hae : a = some ⟨b, off, none⟩ := ha.resolve_left (by omega)
      subst hae
      obtain ⟨r1, r2⟩ := hr at_ hlt
      have hx : l.getD at_ default = l[at_] := by rw [List.getD_eq_getElem?_getD, List.getElem?_eq_getElem hlt]; rfl
      have xok := hok _ (List.getElem_mem hlt)
      rw [hx]
      have r3 := r2 3 (by omega)
      clear r2 hx
      generalize l[at_] = x at *
      replace r3 : w.cell? ⟨b, off + at_ * 5 + 3, none⟩ = some (.int .i64 (x.mutex : Int)) := r3
      have xm := xok.m
      generalize x.mutex = mu at *
      clear xok hok h hr hlt hend hi
      by_cases hm : mu = 0
      · subst hm
        rw [if_pos rfl]
        go_enter Try.func19, Try.ntmps19
        go_wp2
        go_ret
        exact ⟨rfl, HB.out⟩
      · obtain ⟨n, rfl⟩ : ∃ n, mu = n + 1 := ⟨mu - 1, by omega⟩
        rw [if_neg hm]
        have c := HFA.out.cell n (by omega)
        have m3' : (w.alloc (.cells #[.slice (some ⟨b, off, none⟩) l.length cap, .int .i64 (at_ : Int), .int .i64 known, .bool false] 46)).cell? ⟨q.m, 3, none⟩ = some (.slice (some ⟨q.H, 0, none⟩) 4 4) := M3.out
        obtain ⟨z, hz1⟩ : ∃ z : Int, z = ((n + 1 : Nat) : Int) := ⟨_, rfl⟩
        rw [← hz1] at r3
        have hz : (z == 0) = false := by simp; omega
        have hn : z - 1 = (n : Int) := by omega
        have hn4 : (n : Int) < 4 := by omega
        have hn0 : (0 : Int) ≤ (n : Int) := by omega
        simp only [Nat.add_sub_cancel]
        generalize p.held.getD n 0 = hv at *
        clear hz1 hm
        go_enter Try.func19, Try.ntmps19
        go_wp2
        go_ret
        exact ⟨rfl, HB.out⟩
end Go.Proofs.Ytccliallljcjgaa
