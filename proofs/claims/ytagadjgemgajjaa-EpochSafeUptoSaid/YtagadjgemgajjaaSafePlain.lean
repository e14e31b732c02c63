/- EpochSafe in plain words: who came when, by the script's steps. -/
import Derived.Test.YtagadjgemgajjaaEpPlain
set_option linter.unusedVariables false
namespace Go.Proofs.Ytagadjgemgajjaa
open Go.RowKit

/-- ent: the step at which who reads in a slot came (-1: nobody); told: the step at which what waits was retired; i: how many steps were done. -/
structure Safe (s : EB) (ent told : List Int) (i : Nat) : Prop where
  ok : s.Ok
  l8 : s.came.length = 8
  e8 : ent.length = 8
  tl : told.length = s.wait.length
  str : ∀ p ∈ s.wait, ∃ t, p.1 = Value.string t
  who : ∀ k, k < 8 → (s.came.getD k 0 = 0 ↔ ent.getD k 0 < 0)
  el : ∀ k, k < 8 → -1 ≤ ent.getD k 0 ∧ ent.getD k 0 < (i : Int)
  tlt : ∀ (j : Nat) (x : Int), told[j]? = some x → 0 ≤ x ∧ x < (i : Int)
  key : ∀ (k j : Nat) (x : Int) (p : Value × Int), k < 8 → told[j]? = some x → s.wait[j]? = some p → 0 ≤ ent.getD k 0 → ent.getD k 0 < x → s.came.getD k 0 ≤ p.2
  nowb : s.now ≤ i + 1
  few : s.wait.length ≤ 1048576 * i
theorem getD_set_eq {l : List Int} {k : Nat} (h : k < l.length) (x : Int) : (l.set k x).getD k 0 = x := by
  rw [List.getD_eq_getElem?_getD]; simp [h]
theorem getD_set_ne {l : List Int} {k n : Nat} (h : n ≠ k) (x : Int) : (l.set k x).getD n 0 = l.getD n 0 := by
  rw [List.getD_eq_getElem?_getD, List.getD_eq_getElem?_getD, List.getElem?_set_ne (Ne.symm h)]
theorem set_getD {l : List Int} {k : Nat} (h : k < l.length) : l.set k (l.getD k 0) = l := by
  apply List.ext_getElem?
  intro n
  by_cases e : n = k
  · subst e
    rw [List.getElem?_set_self h, List.getD_eq_getElem?_getD, List.getElem?_eq_getElem h]
    rfl
  · rw [List.getElem?_set_ne (Ne.symm e)]
namespace Safe
variable {s : EB} {ent told : List Int} {i : Nat}
theorem next (h : Safe s ent told i) : Safe s ent told (i + 1) :=
  ⟨h.ok, h.l8, h.e8, h.tl, h.str, h.who, fun k hk => by have := h.el k hk; omega, fun j x hx => by have := h.tlt j x hx; omega, h.key, by have := h.nowb; omega, by have := h.few; omega⟩
theorem enter_no (h : Safe s ent told i) {k : Nat} (hk : k < 8) {t : Int} (h1 : 1 ≤ t) (h2 : t ≤ s.now) (he : 0 ≤ ent.getD k 0) : s.enter k t = (s, 11) := by
  have hc : ¬ s.came.getD k 0 = 0 := fun e => by have := (h.who k hk).1 e; omega
  have hl := h.l8
  unfold EB.enter
  rw [if_pos ⟨by omega, by omega, h1, h2⟩, Int.toNat_natCast, if_neg hc]
theorem enter_yes (h : Safe s ent told i) {k : Nat} (hk : k < 8) {t : Int} (h1 : 1 ≤ t) (h2 : t ≤ s.now) (he : ent.getD k 0 < 0) : s.enter k t = ({ s with came := s.came.set k t }, 0) ∧ Safe { s with came := s.came.set k t } (ent.set k i) told (i + 1) := by
  have hc : s.came.getD k 0 = 0 := (h.who k hk).2 he
  have hl := h.l8
  have e : s.enter k t = ({ s with came := s.came.set k t }, 0) := by
    unfold EB.enter
    rw [if_pos ⟨by omega, by omega, h1, h2⟩, Int.toNat_natCast, if_pos hc]
  have hkl : k < s.came.length := by omega
  have hke : k < ent.length := by have := h.e8; omega
  refine ⟨e, ⟨by have := h.ok.enter k t; rw [e] at this; exact this, by simpa using h.l8, by simpa using h.e8, h.tl, h.str, fun n hn => ?_, fun n hn => ?_, fun j x hx => by have := h.tlt j x hx; omega, fun n j x p hn hx hp h3 h4 => ?_, by have := h.nowb; simp only; omega, by have := h.few; simp only; omega⟩⟩
  · by_cases hnk : n = k
    · subst hnk
      simp only
      rw [getD_set_eq hkl, getD_set_eq hke]
      omega
    · simp only
      rw [getD_set_ne hnk, getD_set_ne hnk]
      exact h.who n hn
  · by_cases hnk : n = k
    · subst hnk
      rw [getD_set_eq hke]
      omega
    · rw [getD_set_ne hnk]
      have := h.el n hn
      omega
  · by_cases hnk : n = k
    · subst hnk
      rw [getD_set_eq hke] at h4
      have := (h.tlt j x hx).2
      omega
    · simp only
      rw [getD_set_ne hnk] at h3 h4 ⊢
      exact h.key n j x p hn hx hp h3 h4
theorem leave_no (h : Safe s ent told i) {k : Nat} (hk : k < 8) (he : ent.getD k 0 < 0) : s.leave k = (s, 11) ∧ Safe s (ent.set k (-1)) told (i + 1) := by
  have hc : s.came.getD k 0 = 0 := (h.who k hk).2 he
  have hl := h.l8
  have h1 : ent.getD k 0 = -1 := by have := (h.el k hk).1; omega
  refine ⟨?_, ?_⟩
  · unfold EB.leave
    rw [if_pos ⟨by omega, by omega⟩, Int.toNat_natCast, if_pos hc]
  · rw [← h1, set_getD (by have := h.e8; omega)]
    exact h.next
theorem leave_yes (h : Safe s ent told i) {k : Nat} (hk : k < 8) (he : 0 ≤ ent.getD k 0) : s.leave k = ({ s with came := s.came.set k 0 }, 0) ∧ Safe { s with came := s.came.set k 0 } (ent.set k (-1)) told (i + 1) := by
  have hc : ¬ s.came.getD k 0 = 0 := fun e => by have := (h.who k hk).1 e; omega
  have hl := h.l8
  have e : s.leave k = ({ s with came := s.came.set k 0 }, 0) := by
    unfold EB.leave
    rw [if_pos ⟨by omega, by omega⟩, Int.toNat_natCast, if_neg hc]
  have hkl : k < s.came.length := by omega
  have hke : k < ent.length := by have := h.e8; omega
  refine ⟨e, ⟨by have := h.ok.leave k; rw [e] at this; exact this, by simpa using h.l8, by simpa using h.e8, h.tl, h.str, fun n hn => ?_, fun n hn => ?_, fun j x hx => by have := h.tlt j x hx; omega, fun n j x p hn hx hp h3 h4 => ?_, by have := h.nowb; simp only; omega, by have := h.few; simp only; omega⟩⟩
  · by_cases hnk : n = k
    · subst hnk
      simp only
      rw [getD_set_eq hkl, getD_set_eq hke]
      omega
    · simp only
      rw [getD_set_ne hnk, getD_set_ne hnk]
      exact h.who n hn
  · by_cases hnk : n = k
    · subst hnk
      rw [getD_set_eq hke]
      omega
    · rw [getD_set_ne hnk]
      have := h.el n hn
      omega
  · by_cases hnk : n = k
    · subst hnk
      rw [getD_set_eq hke] at h3
      omega
    · simp only
      rw [getD_set_ne hnk] at h3 h4 ⊢
      exact h.key n j x p hn hx hp h3 h4
theorem retire (h : Safe s ent told i) {l : List Value} (h1 : ∀ v ∈ l, ∃ t, v = Value.string t) (h2 : l.length ≤ 1048576) (h3 : i ≤ 400) : Safe (s.retire l) ent (told ++ List.replicate l.length (i : Int)) (i + 1) := by
  have hn := h.nowb
  have hf := h.few
  refine ⟨h.ok.retire (fun v hv => by obtain ⟨t, rfl⟩ := h1 v hv; rfl) (by omega) (by omega), h.l8, h.e8, ?_, fun p hp => ?_, h.who, fun k hk => by have := h.el k hk; omega, fun j x hx => ?_, fun k j x p hk hx hp h4 h5 => ?_, by show s.now + 1 ≤ _; omega, ?_⟩
  · show (told ++ _).length = (s.wait ++ EB.stamp l s.now).length
    rw [List.length_append, List.length_append, EB.stamp_len, h.tl, List.length_replicate]
  · rcases List.mem_append.1 hp with hp | hp
    · exact h.str p hp
    · obtain ⟨v, hv, rfl⟩ := List.mem_map.1 hp
      exact h1 v hv
  · rw [List.getElem?_append] at hx
    split at hx
    · have := h.tlt j x hx
      omega
    · rw [List.getElem?_replicate] at hx
      split at hx
      · injection hx with hx
        omega
      · cases hx
  · have hp' : (s.wait ++ EB.stamp l s.now)[j]? = some p := hp
    rw [List.getElem?_append] at hx hp'
    by_cases hj : j < told.length
    · rw [if_pos hj] at hx
      rw [if_pos (by rw [← h.tl]; exact hj)] at hp'
      exact h.key k j x p hk hx hp' h4 h5
    · rw [if_neg (by rw [← h.tl]; exact hj)] at hp'
      obtain ⟨v, hv, hvp⟩ := List.mem_map.1 (List.mem_of_getElem? hp')
      rw [← hvp]
      show s.came.getD k 0 ≤ s.now
      have hk8 : k < s.came.length := by rw [h.l8]; exact hk
      rw [List.getD_eq_getElem?_getD, List.getElem?_eq_getElem hk8]
      exact (h.ok.cm _ (List.getElem_mem hk8)).2
  · show (s.wait ++ EB.stamp l s.now).length ≤ _
    rw [List.length_append, EB.stamp_len]
    omega
theorem lim_came : ∀ (c : List Int) (m : Int) (x : Int), x ∈ c → x ≠ 0 → EB.lim m c ≤ x
  | [], _, _, h, _ => by cases h
  | y :: r, m, x, h, h0 => by
    unfold EB.lim
    rcases List.mem_cons.1 h with rfl | h
    · rw [if_neg h0]
      have := EB.lim_le r (min m x)
      omega
    · exact lim_came r _ x h h0
theorem free (h : Safe s ent told i) : Safe s.free.1 ent (told.drop (EB.gone s.limit s.wait)) (i + 1) ∧ ∀ (j : Nat) (x : Int), j < EB.gone s.limit s.wait → told[j]? = some x → ∀ k, k < 8 → ¬ (0 ≤ ent.getD k 0 ∧ ent.getD k 0 < x) := by
  obtain ⟨g, hg⟩ : ∃ g, g = EB.gone s.limit s.wait := ⟨_, rfl⟩
  have hgl := EB.gone_le s.limit s.wait
  refine ⟨⟨h.ok.free, h.l8, h.e8, ?_, fun p hp => h.str p (List.mem_of_mem_drop hp), h.who, fun k hk => by have := h.el k hk; omega, fun j x hx => ?_, fun k j x p hk hx hp h4 h5 => ?_, by show s.now ≤ _; have := h.nowb; omega, ?_⟩, fun j x hj hx k hk hc => ?_⟩
  · show (told.drop _).length = (s.wait.drop _).length
    rw [List.length_drop, List.length_drop, h.tl]
  · rw [List.getElem?_drop] at hx
    have := h.tlt _ x hx
    omega
  · have hp' : (s.wait.drop (EB.gone s.limit s.wait))[j]? = some p := hp
    rw [List.getElem?_drop] at hx hp'
    exact h.key k _ x p hk hx hp' h4 h5
  · show (s.wait.drop _).length ≤ _
    rw [List.length_drop]
    have := h.few
    omega
  · obtain ⟨p, hp, hpl⟩ := EB.gone_lt hj
    have h1 := h.key k j x p hk hx hp hc.1 hc.2
    have hk8 : k < s.came.length := by rw [h.l8]; exact hk
    have hne : s.came.getD k 0 ≠ 0 := fun e => by have := (h.who k hk).1 e; omega
    have hmem : s.came.getD k 0 ∈ s.came := by
      rw [List.getD_eq_getElem?_getD, List.getElem?_eq_getElem hk8]
      exact List.getElem_mem hk8
    have := lim_came s.came s.now _ hmem hne
    unfold EB.limit at hpl
    omega
end Safe
end Go.Proofs.Ytagadjgemgajjaa
