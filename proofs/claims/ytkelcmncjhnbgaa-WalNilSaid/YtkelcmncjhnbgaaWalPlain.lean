/- Logs in plain words: frames, and the records that any bytes bear. -/
import Derived.Test.YtkelcmncjhnbgaaCrcPuts
import Derived.Test.YtkelcmncjhnbgaaSixRefs
set_option linter.unusedVariables false
set_option maxRecDepth 100000
namespace Go.Proofs.Ytkelcmncjhnbgaa

theorem cn_of' {l : List UInt8} (h : ce l = 0) : re l = 0 ∧ cn l = rn l ∧ ck l = rk l ∧ 0 ≤ rn l := by
  rcases cd_cases l with ⟨_, _, _, h1, _, h2, h3, h4⟩ | ⟨h1, _⟩
  · exact ⟨h2, h3, h4, by omega⟩
  · omega
/-- A count, and what is behind it. -/
theorem cd_whole {n : Nat} (h : n ≤ 9223372036854775807) (t : List UInt8) : ce (whole (n : Int) ++ t) = 0 ∧ cn (whole (n : Int) ++ t) = n ∧ ck (whole (n : Int) ++ t) = (whole (n : Int)).length := by
  have r := rd_whole (n := (n : Int)) (by omega) (by omega) t
  simp only [ce, cn, ck, r.1, r.2.1, r.2.2]
  simp
  constructor <;> intro <;> omega
/-- A text, and what is behind it. -/
theorem td_text {s : List UInt8} (h : s.length ≤ 9223372036854775807) (t : List UInt8) : te (text s ++ t) = 0 ∧ ts (text s ++ t) = s ∧ tk (text s ++ t) = (text s).length := by
  have c := cd_whole (n := s.length) h (s ++ t)
  have e : text s ++ t = whole (s.length : Int) ++ (s ++ t) := by unfold text; rw [List.append_assoc]
  have hd : (text s ++ t).drop (whole (s.length : Int)).length = s ++ t := by rw [e, List.drop_left]
  rw [← e] at c
  have hws : ws (s ++ t) (s.length : Int) = s ∧ wk (s ++ t) (s.length : Int) = s.length ∧ we (s ++ t) (s.length : Int) = 0 := by
    unfold ws wk we
    rw [if_neg (by simp; omega), if_neg (by simp; omega), if_neg (by omega), if_neg (by simp; omega)]
    simp
  have hte : te (text s ++ t) = 0 := by unfold te; rw [if_neg (by omega), c.2.2, c.2.1, hd]; exact hws.2.2
  refine ⟨hte, by unfold ts; rw [if_neg (by omega), c.2.2, c.2.1, hd]; exact hws.1, ?_⟩
  unfold tk
  rw [if_neg (by omega), c.2.2, c.2.1, hd, hws.2.1, text, List.length_append]
/-- A text that is read, back. -/
theorem td_back {l : List UInt8} (h : te l = 0) : text (ts l) ++ l.drop (tk l) = l ∧ tk l = (text (ts l)).length := by
  rcases td_cases l with ⟨_, b1, b2, b3, b4, b5, b6⟩ | ⟨b1, _⟩
  · have hd := cn_of' b1
    obtain ⟨c1, c2⟩ := rd_back hd.1
    have hlen : (ts l).length = (cn l).toNat := by rw [b6, List.length_take, List.length_drop]; omega
    have hw : whole ((ts l).length : Int) = whole (rn l) := by rw [hlen, show (((cn l).toNat : Nat) : Int) = rn l by omega]
    have hk : tk l = (text (ts l)).length := by rw [text, List.length_append, hw, hlen, b5, hd.2.2.1, c2]
    refine ⟨?_, hk⟩
    rw [text, hw, List.append_assoc]
    have : ts l ++ l.drop (tk l) = l.drop (rk l) := by
      rw [b6, b5, ← List.drop_drop, hd.2.2.1]
      exact List.take_append_drop ..
    rw [this, c1]
  · omega

/-- A record's frame; the frames of records, one behind the other. -/
def frameL (r : List UInt8) : List UInt8 := text r ++ four (sumL (text r))
def framesL : List (List UInt8) → List UInt8
  | [] => []
  | r :: L => frameL r ++ framesL L
theorem framesL_append : ∀ L M : List (List UInt8), framesL (L ++ M) = framesL L ++ framesL M
  | [], M => rfl
  | r :: L, M => by show frameL r ++ framesL (L ++ M) = _; rw [framesL_append L M, ← List.append_assoc]; rfl
theorem framesL_one (r : List UInt8) : framesL [r] = frameL r := List.append_nil _
theorem frameL_len (r : List UInt8) : (frameL r).length = (text r).length + 4 := by rw [frameL, List.length_append, four_len]
theorem frameL_pos (r : List UInt8) : 4 ≤ (frameL r).length := by rw [frameL_len]; omega
theorem text_le {r : List UInt8} (h : r.length ≤ 9223372036854775807) : (text r).length ≤ r.length + 11 := by
  have := (whole_len (n := (r.length : Int)) (by omega) (by omega)).1
  rw [text, List.length_append]
  omega
theorem frameL_le {r : List UInt8} (h : r.length ≤ 9223372036854775807) : (frameL r).length ≤ r.length + 15 := by
  have := text_le h
  rw [frameL_len]
  omega


/-- The record of the whole frame that bytes begin with, and how many bytes the frame has. -/
def firstL (l : List UInt8) : Option (List UInt8 × Nat) :=
  if te l = 0 ∧ (ts l).length ≤ 1048576 ∧ tk l + 4 ≤ l.length ∧ okT (l.take (tk l + 4)) then some (ts l, tk l + 4) else none
theorem first_yes {l : List UInt8} (h1 : te l = 0) (h2 : (ts l).length ≤ 1048576) (h3 : tk l + 4 ≤ l.length) (h4 : okT (l.take (tk l + 4))) : firstL l = some (ts l, tk l + 4) := by unfold firstL; rw [if_pos ⟨h1, h2, h3, h4⟩]
theorem first_no {l : List UInt8} (h : ¬ (te l = 0 ∧ (ts l).length ≤ 1048576 ∧ tk l + 4 ≤ l.length ∧ okT (l.take (tk l + 4)))) : firstL l = none := by unfold firstL; rw [if_neg h]
theorem first_some {l : List UInt8} {r : List UInt8} {k : Nat} (h : firstL l = some (r, k)) : te l = 0 ∧ r.length ≤ 1048576 ∧ tk l + 4 ≤ l.length ∧ okT (l.take (tk l + 4)) ∧ r = ts l ∧ k = tk l + 4 := by
  unfold firstL at h
  split at h
  · rename_i hc
    cases h
    exact ⟨hc.1, hc.2.1, hc.2.2.1, hc.2.2.2, rfl, rfl⟩
  · cases h
theorem frame_first {r : List UInt8} (h : r.length ≤ 1048576) (t : List UInt8) : firstL (frameL r ++ t) = some (r, (frameL r).length) := by
  have e : frameL r ++ t = text r ++ (four (sumL (text r)) ++ t) := by rw [frameL, List.append_assoc]
  obtain ⟨a1, a2, a3⟩ := td_text (s := r) (by omega) (four (sumL (text r)) ++ t)
  rw [← e] at a1 a2 a3
  have hk : tk (frameL r ++ t) + 4 = (frameL r).length := by rw [a3, frameL_len]
  have hok : okT ((frameL r ++ t).take (tk (frameL r ++ t) + 4)) := by
    rw [hk, List.take_left]
    unfold okT
    rw [frameL_len, Nat.add_sub_cancel, frameL, List.drop_left, List.take_left]
  rw [first_yes a1 (by rw [a2]; exact h) (by rw [hk, List.length_append]; omega) hok, hk, a2]
theorem first_back {l r : List UInt8} {k : Nat} (h : firstL l = some (r, k)) : r.length ≤ 1048576 ∧ frameL r ++ l.drop k = l ∧ k = (frameL r).length := by
  obtain ⟨h1, h2, h3, h4, rfl, rfl⟩ := first_some h
  obtain ⟨b1, b2⟩ := td_back h1
  have hlen : (l.take (tk l + 4)).length = tk l + 4 := by rw [List.length_take]; omega
  unfold okT at h4
  rw [hlen, Nat.add_sub_cancel, List.take_take, Nat.min_eq_left (by omega)] at h4
  have htk : l.take (tk l) = text (ts l) := by
    have := congrArg (List.take (tk l)) b1
    rw [← this]
    conv => lhs; rw [b2]
    rw [List.take_left]
  have hfr : l.take (tk l + 4) = frameL (ts l) := by
    rw [← List.take_append_drop (tk l) (l.take (tk l + 4)), h4, List.take_take, Nat.min_eq_left (by omega), htk]
    rfl
  refine ⟨h2, ?_, ?_⟩
  · rw [← hfr, List.take_append_drop]
  · rw [frameL_len, ← b2]
theorem first_lt {l r : List UInt8} {k : Nat} (h : firstL l = some (r, k)) : 0 < k ∧ k ≤ l.length := by
  obtain ⟨h1, h2, h3, h4, rfl, rfl⟩ := first_some h
  omega

/-- The records that bytes begin with, and how many bytes their frames have. -/
def splitL (l : List UInt8) : List (List UInt8) × Nat :=
  match h : firstL l with
  | none => ([], 0)
  | some (r, k) => (r :: (splitL (l.drop k)).1, k + (splitL (l.drop k)).2)
termination_by l.length
decreasing_by
  all_goals
    have := first_lt h
    rw [List.length_drop]
    omega
theorem split_none {l : List UInt8} (h : firstL l = none) : splitL l = ([], 0) := by
  rw [splitL]
  split
  · rfl
  · rename_i h'; rw [h] at h'; cases h'
theorem split_some {l r : List UInt8} {k : Nat} (h : firstL l = some (r, k)) : splitL l = (r :: (splitL (l.drop k)).1, k + (splitL (l.drop k)).2) := by
  rw [splitL]
  split
  · rename_i h'; rw [h] at h'; cases h'
  · rename_i r' k' h'; rw [h] at h'; cases h'; rfl
theorem split_frames : ∀ (L : List (List UInt8)) (t : List UInt8), (∀ r ∈ L, r.length ≤ 1048576) → splitL (framesL L ++ t) = (L ++ (splitL t).1, (framesL L).length + (splitL t).2)
  | [], t, _ => by simp [framesL]
  | r :: L, t, h => by
    have ih := split_frames L t (fun x hx => h x (List.mem_cons_of_mem _ hx))
    have e : framesL (r :: L) ++ t = frameL r ++ (framesL L ++ t) := List.append_assoc ..
    rw [e, split_some (frame_first (h r (List.mem_cons_self ..)) _), List.drop_left, ih]
    show _ = (r :: (L ++ (splitL t).1), (frameL r ++ framesL L).length + (splitL t).2)
    rw [List.length_append, Nat.add_assoc]
theorem split_back (n : Nat) : ∀ l : List UInt8, l.length ≤ n → framesL (splitL l).1 ++ l.drop (splitL l).2 = l ∧ (splitL l).2 = (framesL (splitL l).1).length ∧ ∀ r ∈ (splitL l).1, r.length ≤ 1048576 := by
  induction n with
  | zero =>
    intro l hl
    have h0 : firstL l = none := by
      rcases hf : firstL l with _ | ⟨r, k⟩
      · rfl
      · have := first_lt hf; omega
    rw [split_none h0]
    exact ⟨rfl, rfl, fun r hr => by cases hr⟩
  | succ n ih =>
    intro l hl
    rcases hf : firstL l with _ | ⟨r, k⟩
    · rw [split_none hf]; exact ⟨rfl, rfl, fun r hr => by cases hr⟩
    · have hlt := first_lt hf
      obtain ⟨h1, h2, h3⟩ := first_back hf
      obtain ⟨i1, i2, i3⟩ := ih (l.drop k) (by rw [List.length_drop]; omega)
      rw [split_some hf]
      refine ⟨?_, ?_, ?_⟩
      · show (frameL r ++ framesL (splitL (l.drop k)).1) ++ l.drop (k + (splitL (l.drop k)).2) = l
        rw [← List.drop_drop, List.append_assoc, i1, h2]
      · show k + (splitL (l.drop k)).2 = (frameL r ++ framesL (splitL (l.drop k)).1).length
        rw [List.length_append, ← i2, ← h3]
      · intro x hx
        rcases List.mem_cons.1 hx with rfl | hx
        · exact h1
        · exact i3 x hx
theorem split_le (l : List UInt8) : (splitL l).2 ≤ l.length := by
  obtain ⟨h1, h2, _⟩ := split_back l.length l (Nat.le_refl _)
  have := congrArg List.length h1
  rw [List.length_append] at this
  omega

/-- How many of the records have their frames wholly among the first k bytes. -/
def wholeN : List (List UInt8) → Nat → Nat
  | [], _ => 0
  | r :: L, k => if (frameL r).length ≤ k then wholeN L (k - (frameL r).length) + 1 else 0
theorem whole_le : ∀ (L : List (List UInt8)) (k : Nat), wholeN L k ≤ L.length
  | [], _ => Nat.le_refl _
  | r :: L, k => by
    unfold wholeN
    split
    · have := whole_le L (k - (frameL r).length); simp; omega
    · simp
theorem whole_iff : ∀ (L : List (List UInt8)) (k j : Nat), j ≤ L.length → (j ≤ wholeN L k ↔ (framesL (L.take j)).length ≤ k)
  | [], k, j, h => by have : j = 0 := Nat.le_zero.1 h; subst this; simp [framesL]
  | r :: L, k, 0, h => by simp [framesL]
  | r :: L, k, j + 1, h => by
    have ih := whole_iff L (k - (frameL r).length) j (by simpa using h)
    have e : (framesL ((r :: L).take (j + 1))).length = (frameL r).length + (framesL (L.take j)).length := by
      show (frameL r ++ framesL (L.take j)).length = _
      rw [List.length_append]
    rw [e]
    unfold wholeN
    split
    · constructor
      · intro hh; have := ih.1 (by omega); omega
      · intro hh; have := ih.2 (by omega); omega
    · constructor
      · intro hh; omega
      · intro hh; omega
theorem whole_in (L : List (List UInt8)) (k : Nat) : (framesL (L.take (wholeN L k))).length ≤ k := (whole_iff L k _ (whole_le L k)).1 (Nat.le_refl _)
theorem whole_is {L : List (List UInt8)} {k j : Nat} (hj : j ≤ L.length) (h1 : (framesL (L.take j)).length ≤ k) (h2 : j < L.length → k < (framesL (L.take (j + 1))).length) : wholeN L k = j := by
  have a := (whole_iff L k j hj).2 h1
  rcases Nat.lt_or_ge j (wholeN L k) with h | h
  · have hl := whole_le L k
    have := (whole_iff L k (j + 1) (by omega)).1 h
    have := h2 (by omega)
    omega
  · omega
theorem first_part {r p q : List UInt8} (hr : r.length ≤ 1048576) (h : frameL r = p ++ q) (hq : q ≠ []) : firstL p = none := by
  rcases hf : firstL p with _ | ⟨r', k⟩
  · rfl
  · obtain ⟨b1, b2, b3⟩ := first_back hf
    have hlt := first_lt hf
    have e : frameL r ++ [] = frameL r' ++ (p.drop k ++ q) := by rw [List.append_nil, h, ← List.append_assoc, b2]
    have f1 := frame_first hr []
    rw [e, frame_first b1] at f1
    cases f1
    have hl := congrArg List.length h
    rw [List.length_append] at hl
    have : 0 < q.length := List.length_pos_iff.2 hq
    omega
/-- What frames bear that are cut off. -/
theorem split_cut : ∀ (L : List (List UInt8)) (k : Nat), (∀ r ∈ L, r.length ≤ 1048576) → splitL ((framesL L).take k) = (L.take (wholeN L k), (framesL (L.take (wholeN L k))).length)
  | [], k, _ => by
    have h0 : firstL (([] : List UInt8).take k) = none := by
      rcases hf : firstL (([] : List UInt8).take k) with _ | ⟨r, j⟩
      · rfl
      · have := first_lt hf
        simp at this
        omega
    show splitL (([] : List UInt8).take k) = _
    rw [split_none h0]
    simp [wholeN, framesL]
  | r :: L, k, h => by
    have hr := h r (List.mem_cons_self ..)
    unfold wholeN
    split
    · rename_i hk
      have ih := split_cut L (k - (frameL r).length) (fun x hx => h x (List.mem_cons_of_mem _ hx))
      have e : (framesL (r :: L)).take k = frameL r ++ (framesL L).take (k - (frameL r).length) := by
        show (frameL r ++ framesL L).take k = _
        rw [List.take_append, List.take_of_length_le hk]
      rw [e, split_some (frame_first hr _), List.drop_left, ih]
      show _ = (r :: L.take _, (frameL r ++ framesL (L.take _)).length)
      rw [List.length_append]
    · rename_i hk
      have e : (framesL (r :: L)).take k = (frameL r).take k := by
        show (frameL r ++ framesL L).take k = _
        rw [List.take_append_of_le_length (by omega)]
      rw [e, split_none (first_part hr (List.take_append_drop k (frameL r)).symm (by intro hh; have := congrArg List.length hh; simp at this; omega))]
      simp [framesL]
theorem take_eq_split {l m : List UInt8} {k j : Nat} (h : l.take k = m.take k) (hj : j ≤ k) : l.take j = m.take j := by
  have := congrArg (List.take j) h
  rwa [List.take_take, List.take_take, Nat.min_eq_left hj] at this
/-- Bytes that begin as frames do, up to a place, bear the whole ones ahead of it. -/
theorem split_turned {L : List (List UInt8)} {b : List UInt8} {k : Nat} (hL : ∀ r ∈ L, r.length ≤ 1048576) (h : b.take k = (framesL L).take k) : ∃ M, (splitL b).1 = L.take (wholeN L k) ++ M := by
  have hin := whole_in L k
  have e : b = framesL (L.take (wholeN L k)) ++ b.drop (framesL (L.take (wholeN L k))).length := by
    have h2 := take_eq_split h hin
    have e2 : framesL L = framesL (L.take (wholeN L k)) ++ framesL (L.drop (wholeN L k)) := by rw [← framesL_append, List.take_append_drop]
    have e3 : (framesL L).take (framesL (L.take (wholeN L k))).length = framesL (L.take (wholeN L k)) := by
      conv => lhs; arg 2; rw [e2]
      rw [List.take_left]
    rw [e3] at h2
    conv => lhs; rw [← List.take_append_drop (framesL (L.take (wholeN L k))).length b, h2]
  rw [e, split_frames _ _ (fun r hr => hL r (List.mem_of_mem_take hr))]
  exact ⟨_, rfl⟩
end Go.Proofs.Ytkelcmncjhnbgaa
