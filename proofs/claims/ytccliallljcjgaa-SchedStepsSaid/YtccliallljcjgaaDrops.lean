/- A task is taken away; a named task's step: the program's world and the document's. -/
import Derived.Test.YtccliallljcjgaaRunsWalk
set_option linter.unusedVariables false
namespace Go.Proofs.Ytccliallljcjgaa
open Go.RowKit

/-- A task is taken away. -/
def PW.goneAt (p : PW) (k : Nat) : PW := { p with ts := p.ts.set k { (p.ts.getD k default) with gone := true } }
theorem map_known_gone (l : List TK) (k : Nat) : (l.set k { (l.getD k default) with gone := true }).map (·.known) = l.map (·.known) := by
  apply List.ext_getElem?
  intro i
  rw [List.getElem?_map, List.getElem?_map, List.getElem?_set]
  split
  · next e =>
    subst e
    split
    · next h => rw [List.getD_eq_getElem?_getD, List.getElem?_eq_getElem h]; rfl
    · next h => rw [List.getElem?_eq_none (by omega)]
  · rfl
theorem go_Drop {B : Nat} {w : World} {g : AtG} {p : PW} {ts : List (Option TS)} (h : Go5 B w g p ts) (k : Nat) (hk : k < p.ts.length) :
    Calls Try.prog 15 #[.pointer (some ⟨g.s, 0, none⟩), .int .i64 (k : Int)] w fun e w' => e = .returned (.tuple #[]) ∧ (∃ ts', Go5 B w' g (p.goneAt k) ts') ∧ Only (GS g) w w' := by
  have hkt : k < ts.length := by rw [h.len]; exact hk
  refine (sched_Drop h.sch hkt).mono ?_
  rintro e w' ⟨rfl, rfl⟩
  have hO : Only (GS g) w (w.setCell ⟨g.t, k, none⟩ (.pointer none)) := (Only.refl _ w).setCell (p := ⟨g.t, k, none⟩) (.inl (.inr (.inr (.inl rfl)))) _
  have hS := h.sch.setSlot hkt none (fun z hz => by cases hz)
  have hsame : ∀ j, j < w.heap.size → (Fix w g j ∨ j < B) → (w.setCell ⟨g.t, k, none⟩ (.pointer none)).heap[j]? = w.heap[j]? := by
    intro j hj hf
    refine heap_set_other ?_ _
    rcases hf with hf | hf
    · exact fix_tag hf h.sch.row (by decide)
    · have := h.low g.t (.inr (.inr (.inl rfl)))
      omega
  refine ⟨rfl, ⟨ts.set k none, ?_⟩, hO⟩
  refine ⟨?_, hS, by simp [PW.goneAt, h.len], fun i q y hq hy => ?_, h.hl, h.low, fun i x hx => ?_, fun j hj => by simpa [World.setCell] using h.z j hj, h.zk, h.s0, fun j hj => by simpa [World.setCell] using h.kl j hj⟩
  · simp only [PW.goneAt, List.length_set, map_known_gone]
    exact h.cel.kept fun j hj => heap_set_other (h.cel.own_ne hj h.sch.row (by decide)) _
  · simp only [PW.goneAt] at hq
    rw [List.getElem?_set] at hq hy
    by_cases e : k = i
    · rw [if_pos e, if_pos (by omega)] at hq
      rw [if_pos e, if_pos (by omega)] at hy
      injection hq with hq
      injection hy with hy
      subst hq hy
      exact .inl ⟨.inl rfl, rfl⟩
    · rw [if_neg e] at hq hy
      exact (h.tk i q y hq hy).kept (by simp [World.setCell]) hsame
  · rw [List.getElem?_set] at hx
    by_cases e : k = i
    · rw [if_pos e] at hx
      split at hx
      · injection hx with hx
        cases hx
      · cases hx
    · rw [if_neg e] at hx
      exact h.ks i x hx
theorem lay_gone {B : Nat} {S : Nat → Prop} {w : World} {q : At5} {p : PW} (h : Lay5 B S w q p) (k : Nat) (hk : k < p.ts.length) : Lay5 B S (w.setCell ⟨q.T, k * 4 + 3, none⟩ (.bool true)) q (p.goneAt k) := by
  have hok := h.tk k hk
  exact h.setTask k hk 3 (by omega) (.bool true) { (p.ts.getD k default) with gone := true } (by simp [TK.vals]) ⟨hok.p, hok.at_, hok.lo, hok.hi⟩
theorem Go5.none_of {B : Nat} {w : World} {g : AtG} {p : PW} {ts : List (Option TS)} (h : Go5 B w g p ts) {k : Nat} {t : TK} (ht : p.ts[k]? = some t) (hg : t.gone = true ∨ t.l.length ≤ t.at_) : ts[k]? = some none := by
  obtain ⟨y, hy⟩ : ∃ y, ts[k]? = some y := ⟨_, List.getElem?_eq_getElem (by rw [h.len]; exact lt_of_get ht)⟩
  rcases h.tk k t y ht hy with ⟨_, rfl⟩ | ⟨h0, x, rfl, hc, _⟩
  · exact hy
  · obtain ⟨_, _, _, _, _, _, _, _, _, _, _, h7⟩ := hc
    rcases hg with hg | hg
    · rw [h0] at hg; cases hg
    · omega
theorem Go5.some_of {B : Nat} {w : World} {g : AtG} {p : PW} {ts : List (Option TS)} (h : Go5 B w g p ts) {k : Nat} {t : TK} (ht : p.ts[k]? = some t) (hg : t.gone = false) (hl : t.at_ < t.l.length) : ∃ x, ts[k]? = some (some x) := by
  obtain ⟨y, hy⟩ : ∃ y, ts[k]? = some y := ⟨_, List.getElem?_eq_getElem (by rw [h.len]; exact lt_of_get ht)⟩
  rcases h.tk k t y ht hy with ⟨h1, _⟩ | ⟨h0, x, rfl, _⟩
  · rcases h1 with h1 | h1
    · rw [hg] at h1; cases h1
    · omega
  · exact ⟨x, hy⟩
theorem step_steps (p : PW) (k : Nat) : (p.step k).steps = p.steps + 1 ∧ (p.step k).ts.length = p.ts.length := ⟨rfl, by simp [PW.step]⟩
/-- What a step answers, told by the task. -/
theorem go_named {B : Nat} {w : World} {g : AtG} {p : PW} {ts : List (Option TS)} (h : Go5 B w g p ts) {k : Nat} {t : TK} (ht : p.ts[k]? = some t) :
    ((t.gone = true ∨ t.l.length ≤ t.at_) → Calls Try.prog 16 #[.pointer (some ⟨g.s, 0, none⟩), .int .i64 (k : Int)] w fun e w' => e = .returned (.int .i64 9) ∧ w' = w) ∧
    (t.gone = false → t.at_ < t.l.length → p.ready k = false → Calls Try.prog 16 #[.pointer (some ⟨g.s, 0, none⟩), .int .i64 (k : Int)] w fun e w' => e = .returned (.int .i64 11) ∧ w' = w) := by
  refine ⟨fun hg => step_none h.sch (h.none_of ht hg), fun h1 h2 h3 => ?_⟩
  obtain ⟨x, hx⟩ := h.some_of ht h1 h2
  have hr := h.rdy k _ hx
  rw [h3] at hr
  exact step_waits h.sch hx hr
theorem not_ready {p : PW} {k : Nat} {t : TK} (ht : p.ts[k]? = some t) (hg : t.gone = true ∨ t.l.length ≤ t.at_) : p.ready k = false := by
  unfold PW.ready
  simp only [getD_of ht, if_pos hg]
end Go.Proofs.Ytccliallljcjgaa
