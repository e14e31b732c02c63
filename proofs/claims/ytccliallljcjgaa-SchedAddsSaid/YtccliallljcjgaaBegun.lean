/- The program's world is begun: as a whole. -/
import Derived.Test.YtccliallljcjgaaBegRun
set_option linter.unusedVariables false
namespace Go.Proofs.Ytccliallljcjgaa
open Go.RowKit

theorem Lp.whole {B : Nat} {w0 w : World} {W s : Nat} {L : List TK} {n : Nat} {g : AtG} {vk : Value} {ts : List (Option TS)} (h : Lp B w0 W s L n w g vk ts) (hn : n = L.length) (h1 : 1 ≤ n) (hk : ∀ (i : Nat) (q : TK), L[i]? = some q → q.known = 0) :
    ∃ g', g'.W = W ∧ g'.s = s ∧ Go5 B w g' (PW.start L) ts ∧ ∀ j, g'.Z j → j = g'.K := by
  obtain ⟨K, kc, cur, hv, hBK, hK, hjc, hcel⟩ := h.beg.cel (by omega) (fun k => ∃ (i : Nat) (x : TS), ts[i]? = some (some x) ∧ k = x.k) (fun _ => fun q => vk.ownBlock = some q)
  have hown : vk.ownBlock = some K := by rw [hv]; rfl
  have hrep : L.map (·.known) = List.replicate L.length 0 := by
    apply List.ext_getElem
    · simp
    · intro i h1 h2
      simp only [List.length_map] at h1
      rw [List.getElem_map, List.getElem_replicate]
      exact hk i _ (List.getElem?_eq_getElem h1)
  refine ⟨{ g with K := K, kc := kc, KS := fun k => ∃ (i : Nat) (x : TS), ts[i]? = some (some x) ∧ k = x.k, Z := fun q => vk.ownBlock = some q }, h.hW, h.hs, ⟨?_, h.sch, h.done.len, fun i q y hq hy => ?_, ?_, ?_, fun i x hx => ⟨i, x, hx, rfl⟩, fun j hj => ?_, hown, by simp [PW.start], ?_⟩, fun j hj => ?_⟩
  · show Cel w _ L.length [0, 0, 0, 0] [0, 0, 0, 0] [-1, -1, -1, -1] (L.map (·.known))
    rw [hrep, ← hn]
    exact hcel
  · refine (h.done.done i q y (by rw [hn]; exact lt_of_get hq) hq hy).turn rfl rfl (Nat.le_refl _) (fun _ _ _ => rfl) (fun p v hp hz => ?_)
    rw [h.hZ] at hz
    exact hz
  · intro z hz
    simp [PW.start] at hz
    omega
  · intro j hj
    rcases hj with (rfl | ⟨i, hi, rfl⟩ | ⟨i, hi, rfl⟩) | rfl | rfl | ⟨i, x, hx, rfl⟩
    · exact hBK
    · exact (h.lowC i hi).1
    · exact (h.lowC i hi).2
    · exact h.lowS.1
    · exact h.lowS.2
    · exact h.lowK i x hx
  · obtain ⟨c, hc, _⟩ := own_tagN h.beg.own hj
    exact heap_lt hc
  · rintro j ⟨i, x, hx, rfl⟩
    exact h.sch.lt (.inr (.inr ⟨i, x, hx, rfl⟩))
  · simp only at hj ⊢
    rw [hown] at hj
    injection hj with hj
    exact hj.symm
/-- The world is begun. -/
theorem begin_go {w : World} {a : Option Addr} {n cap : Nat} {L : List TK} (h : Progs w w.heap.size a n L) (h1 : 1 ≤ n) : Calls Try.prog 9 #[.slice a n cap] w fun e w' => ∃ W, e = .returned (.tuple #[.pointer (some ⟨W, 0, none⟩), .bool true]) ∧
    (∃ g ts, g.W = W ∧ Go5 w.heap.size w' g (PW.start L) ts ∧ ∀ j, g.Z j → j = g.K) ∧ Below w.heap.size w w' := by
  refine (law_begin h h1).mono ?_
  rintro e w' ⟨W, g, vk, ts, rfl, hL⟩
  obtain ⟨g', e1, e2, hG, hZ⟩ := hL.whole h.len h1 (fun i q hq => (h.each i q hq).2.2.1)
  exact ⟨W, rfl, ⟨g', ts, e1, hG, hZ⟩, hL.below⟩
end Go.Proofs.Ytccliallljcjgaa
