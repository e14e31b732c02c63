/- Lists of numbers and texts, written one behind the other and gone over again. -/
import Derived.Test.YtnadgcbiichmhaaCommon
import Derived.Test.YtnadgcbiichmhaaBulk
set_option linter.unusedVariables false
namespace Go.Proofs.Ytnadgcbiichmhaa
open Go.RowKit

def ww (L : List Int) : List UInt8 := L.flatMap whole
def tt (T : List ByteArray) : List UInt8 := T.flatMap fun s => text s.data.toList

theorem take_next {α : Type} (L : List α) (d : α) (k : Nat) (h : k < L.length) : L.take (k + 1) = L.take k ++ [L.getD k d] := by
  rw [List.take_succ_eq_append_getElem h, List.getD_eq_getElem?_getD, List.getElem?_eq_getElem h]
  rfl
theorem drop_next {α : Type} (L : List α) (d : α) (k : Nat) (h : k < L.length) : L.drop k = L.getD k d :: L.drop (k + 1) := by
  rw [List.drop_eq_getElem_cons h, List.getD_eq_getElem?_getD, List.getElem?_eq_getElem h]
  rfl
theorem ww_next (L : List Int) (k : Nat) (h : k < L.length) : ww (L.take (k + 1)) = ww (L.take k) ++ whole (L.getD k 0) := by
  unfold ww
  rw [take_next L 0 k h]
  simp
theorem tt_next (T : List ByteArray) (k : Nat) (h : k < T.length) : tt (T.take (k + 1)) = tt (T.take k) ++ text (T.getD k ByteArray.empty).data.toList := by
  unfold tt
  rw [take_next T ByteArray.empty k h]
  simp
theorem ww_drop (L : List Int) (k : Nat) (h : k < L.length) : ww (L.drop k) = whole (L.getD k 0) ++ ww (L.drop (k + 1)) := by
  unfold ww
  rw [drop_next L 0 k h, List.flatMap_cons]
theorem tt_drop (T : List ByteArray) (k : Nat) (h : k < T.length) : tt (T.drop k) = text (T.getD k ByteArray.empty).data.toList ++ tt (T.drop (k + 1)) := by
  unfold tt
  rw [drop_next T ByteArray.empty k h, List.flatMap_cons]

/-- Numbers that fit. -/
def Fit (L : List Int) : Prop := ∀ n ∈ L, -9223372036854775808 ≤ n ∧ n ≤ 9223372036854775807

theorem ww_len (L : List Int) (h : Fit L) : (ww L).length ≤ 11 * L.length := by
  induction L with
  | nil => simp [ww]
  | cons n r ih =>
    have h1 := (whole_len (h n (by simp)).1 (h n (by simp)).2).1
    have h2 := ih (fun m hm => h m (by simp [hm]))
    have e : ww (n :: r) = whole n ++ ww r := by simp [ww]
    rw [e, List.length_append, List.length_cons]
    omega
theorem tt_len (T : List ByteArray) (h : total T ≤ 1048576) : (tt T).length ≤ 11 * T.length + total T := by
  induction T with
  | nil => simp [tt]
  | cons s r ih =>
    simp only [total] at h
    have h1 := (whole_len (n := (s.size : Int)) (by omega) (by omega)).1
    have h2 := ih (by omega)
    have e : tt (s :: r) = text s.data.toList ++ tt r := by simp [tt]
    have e2 : (text s.data.toList).length = (whole (s.size : Int)).length + s.size := by unfold text; rw [List.length_append, ← Lib.size_eq]
    rw [e, List.length_append, e2, List.length_cons]
    simp only [total]
    omega
theorem total_take (T : List ByteArray) (k : Nat) : total (T.take k) ≤ total T := by
  induction T generalizing k with
  | nil => simp
  | cons s r ih =>
    cases k with
    | zero => simp [total]
    | succ k => simp only [List.take_succ_cons, total]; have := ih k; omega
theorem total_drop (T : List ByteArray) (k : Nat) : total (T.drop k) ≤ total T := by
  induction T generalizing k with
  | nil => simp
  | cons s r ih =>
    cases k with
    | zero => simp
    | succ k => simp only [List.drop_succ_cons, total]; have := ih k; omega
theorem total_get (T : List ByteArray) (k : Nat) : (T.getD k ByteArray.empty).size ≤ total T := by
  induction T generalizing k with
  | nil => simp [total]
  | cons s r ih =>
    cases k with
    | zero => simp [total]
    | succ k => simp only [List.getD_cons_succ, total]; have := ih k; omega
theorem fit_get {L : List Int} (h : Fit L) (k : Nat) (hk : k < L.length) : -9223372036854775808 ≤ L.getD k 0 ∧ L.getD k 0 ≤ 9223372036854775807 := by
  rw [List.getD_eq_getElem?_getD, List.getElem?_eq_getElem hk]
  exact h _ (List.getElem_mem hk)
theorem fit_take {L : List Int} (h : Fit L) (k : Nat) : Fit (L.take k) := fun n hn => h n (List.mem_of_mem_take hn)

/-- A text that was written is gone over as it was. -/
theorem td_text (s t : List UInt8) (h : s.length ≤ 1048576) : ts (text s ++ t) = s ∧ tk (text s ++ t) = (text s).length ∧ te (text s ++ t) = 0 := by
  obtain ⟨h1, h2, h3⟩ := rd_whole (n := (s.length : Int)) (by omega) (by omega) (s ++ t)
  have e : text s ++ t = whole (s.length : Int) ++ (s ++ t) := by unfold text; rw [List.append_assoc]
  rw [e]
  generalize hl : whole (s.length : Int) ++ (s ++ t) = l at *
  have c0 : ce l = 0 := by unfold ce; rw [if_neg (by omega), h3]
  have c1 : cn l = s.length := by unfold cn; rw [if_neg (by omega), h1]
  have c2 : ck l = (whole (s.length : Int)).length := by unfold ck; rw [if_neg (by omega), h2]
  have hd : l.drop (ck l) = s ++ t := by rw [c2, ← hl, List.drop_left]
  have hw : we (l.drop (ck l)) (cn l) = 0 := by unfold we; rw [hd, c1, if_neg (by omega), if_neg (by rw [List.length_append]; omega)]
  have t0 : te l = 0 := by unfold te; rw [if_neg (by rw [c0]; simp), hw]
  refine ⟨?_, ?_, t0⟩
  · unfold ts ws
    rw [if_neg (by rw [c0]; simp), hd, c1, if_neg (by rw [List.length_append]; omega)]
    simp
  · unfold tk wk
    rw [if_neg (by rw [t0]; simp), hd, c1, if_neg (by rw [List.length_append]; omega), c2]
    unfold text
    simp

theorem read_whole (r : Nat) (n : Int) (t : List UInt8) (w : World) (h : Rt r (bs (whole n ++ t)) w) (h1 : -9223372036854775808 ≤ n) (h2 : n ≤ 9223372036854775807) (hs : (whole n ++ t).length ≤ 1000000000) :
    Calls Try.prog 22 #[.pointer (some ⟨r, 0, none⟩)] w (Rd r (bs t) (.int .i64 n) (.int .i64 0) w) := by
  have hc := six_ReadWhole r (bs (whole n ++ t)) w h (by rw [bs_size]; unfold maxLen; omega)
  obtain ⟨e1, e2, e3⟩ := rd_whole h1 h2 t
  rw [bs_list, e1, e2, e3] at hc
  have e : (bs (whole n ++ t)).extract (whole n).length (bs (whole n ++ t)).size = bs t := bs_eq (by rw [extract_rest, bs_list, List.drop_left])
  rw [e] at hc
  exact hc
theorem read_text (r : Nat) (u : ByteArray) (t : List UInt8) (w : World) (h : Rt r (bs (text u.data.toList ++ t)) w) (hu : u.size ≤ 1048576) (hs : (text u.data.toList ++ t).length ≤ 1000000000) :
    Calls Try.prog 23 #[.pointer (some ⟨r, 0, none⟩)] w (Rd r (bs t) (.string u) (.int .i64 0) w) := by
  have hc := six_ReadText r (bs (text u.data.toList ++ t)) w h (by rw [bs_size]; unfold maxLen; omega)
  obtain ⟨e1, e2, e3⟩ := td_text u.data.toList t (by rw [← Lib.size_eq]; exact hu)
  rw [bs_list, e1, e2, e3, ← bs_eq (s := u) rfl] at hc
  have e : (bs (text u.data.toList ++ t)).extract (text u.data.toList).length (bs (text u.data.toList ++ t)).size = bs t := bs_eq (by rw [extract_rest, bs_list, List.drop_left])
  rw [e] at hc
  exact hc

end Go.Proofs.Ytnadgcbiichmhaa
