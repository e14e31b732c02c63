/- Cursors, one more and one more; cursors over rows. -/
import Derived.Test.YtbjokbnmfbfkjaaMergeRows
set_option linter.unusedVariables false
set_option maxRecDepth 100000
namespace Go.Proofs.Ytbjokbnmfbfkjaa
open Go.RowKit

/-- Cursors that share no block, all of them new, and what is left of them. -/
structure Curs (B : Nat) (cs : List Cu) (ss : List (List Ent × Int)) (w : World) : Prop where
  apart : Apart cs
  low : ∀ j, FAll cs j → B ≤ j
  has : Have cs ss 0 false w
  ptr : ∀ c ∈ cs, ∃ a, c.v = .pointer a
theorem Curs.nil (B : Nat) (w : World) : Curs B [] [] w where
  apart := fun i j c d h => by simp at h
  low := fun j ⟨c, h, _⟩ => by simp at h
  has := ⟨rfl, fun i c s h => by simp at h⟩
  ptr := fun c h => by simp at h
theorem Curs.only {B : Nat} {cs : List Cu} {ss : List (List Ent × Int)} {w w' : World} {S : Nat → Prop} (h : Curs B cs ss w) (k : Only S w w') (hS : ∀ j, FAll cs j → ¬ S j) : Curs B cs ss w' := ⟨h.apart, h.low, h.has.only k hS, h.ptr⟩
theorem Curs.below {B : Nat} {cs : List Cu} {ss : List (List Ent × Int)} {w w' : World} (h : Curs B cs ss w) (k : Below w.heap.size w w') : Curs B cs ss w' := h.only (S := fun _ => False) (Only.of_below' k rfl) fun _ _ h => h
theorem Curs.lt {B : Nat} {cs : List Cu} {ss : List (List Ent × Int)} {w : World} (h : Curs B cs ss w) : ∀ j, FAll cs j → j < w.heap.size := fall_lt h.has
theorem get_snoc {α : Type} {l : List α} {x y : α} {i : Nat} (h : (l ++ [x])[i]? = some y) : l[i]? = some y ∨ (i = l.length ∧ y = x) := by
  rcases Nat.lt_or_ge i l.length with h1 | h1
  · rw [List.getElem?_append_left h1] at h; exact .inl h
  · rw [List.getElem?_append_right h1] at h
    have : i - l.length = 0 := by
      have := (List.getElem?_eq_some_iff.1 h).1
      simp at this
      omega
    rw [this] at h
    injection h with h
    exact .inr ⟨by omega, h.symm⟩
theorem Curs.snoc {B : Nat} {cs : List Cu} {ss : List (List Ent × Int)} {w w' : World} {c : Cu} {l : List Ent} {e : Int} (h : Curs B cs ss w) (hB : B ≤ w.heap.size) (k : Below w.heap.size w w') (hp : ∃ a, c.v = .pointer a) (hI : c.I l e false w') (hF : ∀ k, c.F k → w.heap.size ≤ k) : Curs B (cs ++ [c]) (ss ++ [(l, e)]) w' where
  apart := fun i j x y hx hy hij m hm hm' => by
    have hlt := h.lt
    rcases get_snoc hx with hx1 | ⟨rfl, rfl⟩ <;> rcases get_snoc hy with hy1 | ⟨rfl, rfl⟩
    · exact h.apart i j x y hx1 hy1 hij m hm hm'
    · have := hlt m ⟨x, List.mem_of_getElem? hx1, hm⟩
      have := hF m hm'
      omega
    · have := hlt m ⟨y, List.mem_of_getElem? hy1, hm'⟩
      have := hF m hm
      omega
    · exact hij rfl
  low := fun j ⟨x, hx, hj⟩ => by
    rcases List.mem_append.1 hx with hx | hx
    · exact h.low j ⟨x, hx, hj⟩
    · rw [List.mem_singleton.1 hx] at hj
      exact Nat.le_trans hB (hF j hj)
  has := by
    have h' := (h.below k).has
    refine ⟨by simp [h'.1], fun i x s hx hs => ?_⟩
    rcases get_snoc hx with hx | ⟨rfl, rfl⟩
    · have hi := (List.getElem?_eq_some_iff.1 hx).1
      rw [List.getElem?_append_left (by rw [h'.1]; exact hi)] at hs
      exact h'.2 i x s hx hs
    · rw [← h'.1, List.getElem?_append_right (Nat.le_refl _), Nat.sub_self] at hs
      injection hs with hs
      subst hs
      exact hI
  ptr := fun x hx => by
    rcases List.mem_append.1 hx with hx | hx
    · exact h.ptr x hx
    · rw [List.mem_singleton.1 hx]; exact hp
theorem fall_snoc {cs : List Cu} {c : Cu} {j : Nat} (h : FAll (cs ++ [c]) j) : FAll cs j ∨ c.F j := by
  obtain ⟨x, hx, hj⟩ := h
  rcases List.mem_append.1 hx with hx | hx
  · exact .inl ⟨x, hx, hj⟩
  · rw [List.mem_singleton.1 hx] at hj; exact .inr hj
theorem OwnC.below {w w' : World} {B : Nat} {v : Value} {cs : List Cu} (h : OwnC w B v cs) (k : Below w.heap.size w w') : OwnC w' B v cs := OffRow.kept h fun j hj => k.block j (OffRow.lt h j hj).2
theorem OwnC.only {w w' : World} {B : Nat} {v : Value} {cs : List Cu} {S : Nat → Prop} (h : OwnC w B v cs) (k : Only S w w') (hS : ∀ j, v.ownBlock = some j → ¬ S j) : OwnC w' B v cs := OffRow.kept h fun j hj => k.block j (OffRow.lt h j hj).2 (hS j hj)
/-- Cursors in a row of the call's own. -/
def CursAt (B : Nat) (v : Value) (cs : List Cu) (ss : List (List Ent × Int)) (w : World) : Prop := OwnC w B v cs ∧ Curs B cs ss w ∧ ∀ j, v.ownBlock = some j → ¬ FAll cs j
theorem CursAt.nil (B : Nat) (w : World) : CursAt B (.slice none 0 0) [] [] w := ⟨OwnC.nil _ _, Curs.nil _ _, fun j h => by cases h⟩
set_option maxHeartbeats 4000000 in
theorem law_overs (a : Option Addr) (n cap : Nat) (Rs : List Rw) (w : World) (h : Hid (IsRows w a n Rs)) (hn : n ≤ 1000) (hl : Hid (∀ r ∈ Rs, r.len ≤ 1000000)) :
    Calls Try.prog 17 #[.slice a n cap] w fun en w' => (∃ v cs, en = .returned v ∧ CursAt w.heap.size v cs (Rs.map Rw.told) w') ∧ Below w.heap.size w w' := by
  obtain ⟨i0, hi, hz0, hz1, hz2⟩ := info_parts infoC
  have HI := Lib.hid (And.intro hi (And.intro hz0 (And.intro hz1 hz2)))
  obtain ⟨B, hB⟩ : ∃ B, B = w.heap.size := ⟨_, rfl⟩
  rw [← hB]
  have HBW := Lib.hid hB
  clear hB hi hz0 hz1 hz2
  go_enter Try.func17, Try.ntmps17
  go_wp2_with fail
  go_loopw [3, 4] (fun v iv wr => ∃ (k : Nat) (cs : List Cu), k ≤ n ∧ cs.length = k ∧ iv = .int .i64 k ∧ Hid (CursAt B v cs ((Rs.take k).map Rw.told) wr) ∧ Hid (Below B w wr)) (fun v iv wr => n - (intOf iv).toNat)
  case atStart => exact ⟨0, [], Nat.zero_le _, rfl, rfl, Lib.hid (CursAt.nil _ _), Lib.hid (Below.refl _ _)⟩
  case round =>
    obtain ⟨k, cs, hk, hcs, rfl, hC, hBl⟩ := hrel
    obtain ⟨a3, cap3, rfl⟩ := hC.out.1.slice
    rw [hcs] at hC ⊢
    have HCS := Lib.hid hcs
    have hBr := Lib.hid (show B ≤ wr.heap.size by have := hBl.out.size; rw [HBW.out]; exact this)
    clear hcs
    rcases Nat.lt_or_ge k n with hlt | hge
    · obtain ⟨b, off, r, rfl, hr, -, hc0, hc1, hE, -, -⟩ := (h.out.below (by rw [← HBW.out]; exact hBl.out)).get hlt
      have HO := Lib.hid (law_over r.a r.len r.cap r.T r.e wr (Lib.hid hE) (hl.out r (List.mem_of_getElem? hr)))
      have HR := Lib.hid (show (Rs.take (k + 1)).map Rw.told = (Rs.take k).map Rw.told ++ [r.told] by rw [List.take_add_one, hr]; simp)
      clear hr hE
      go_wp2_with fail
      refine HO.out.mono ?_
      rintro en w2 ⟨c, hG⟩
      obtain ⟨pv, hpv⟩ := hG.ptr
      obtain ⟨e1, -, e3, e4, e5⟩ := hG
      rw [hpv] at e1
      subst e1
      have hF : ∀ j, c.F j → wr.heap.size ≤ j := fun j hj => (e4 j hj).resolve_left (fun h => h)
      have D2 := Lib.hid (hC.out.2.1.snoc hBr.out e5 ⟨pv, hpv⟩ e3 hF)
      have O2 := Lib.hid (hC.out.1.below e5)
      have K2 := Lib.hid e5
      have HF := Lib.hid hF
      have HPV := Lib.hid hpv
      clear e3 e4 e5 hF hpv hc0 hc1
      obtain ⟨hi, hz0, hz1, hz2⟩ := HI.out
      go_wp2_with (at_builtin; refine wpList_append_off rfl (.tmp 11) (.tmp 17) 39 rfl B 29 i0 _ 1 8 Try.underlying39 hi hz0 hz1 hz2 rfl (.slice a3 k cap3) k (cs.map (·.v)) rfl ?c1 (.slice (some ⟨w2.heap.size, 0, none⟩) 1 1) rfl 1 [.pointer pv] ?c2 ?c3 ?c4 ?c5 ?_)
      case c1 => have := O2.out; unfold OwnC at this; rw [HCS.out] at this; exact OffRow.allocd this _
      case c2 => exact src_block (size := 1) (cs := #[.pointer pv]) Try.underlying39 (heap_new _ _) 1 1 rfl (by intro u hu; simp at hu; subst hu; rfl)
      case c3 => unfold maxLen; omega
      case c4 => omega
      case c5 => have := K2.out.size; have := hBr.out; simp; omega
      intro v7 w7 hr7 hg7 hat7
      have O7 := Lib.hid (show OwnC w7 B v7 (cs ++ [c]) by
        unfold OwnC
        rw [List.length_append, HCS.out, List.map_append]
        simp only [List.map_cons, List.map_nil, HPV.out]
        exact hr7)
      have hown := Lib.hid (fun j hj => (OffRow.lt hC.out.1 j hj).2 : ∀ j, (Value.slice a3 k cap3).ownBlock = some j → j < wr.heap.size)
      have hnot := Lib.hid (show ∀ j, (Value.slice a3 k cap3).ownBlock = some j → ¬ FAll (cs ++ [c]) j from fun j hj h => by
        rcases fall_snoc h with h | h
        · exact hC.out.2.2 j hj h
        · have := hown.out j hj
          have := HF.out j h
          omega)
      have g7 : Only (fun j => (Value.slice a3 k cap3).ownBlock = some j) w2 w7 := ((Only.refl _ w2).alloc _).grown hg7 fun j hj => .inl hj
      have D7 := Lib.hid (D2.out.only g7 fun j hj h => hnot.out j h hj)
      have hnot7 := Lib.hid (show ∀ j, v7.ownBlock = some j → ¬ FAll (cs ++ [c]) j from fun j hj h => by
        rcases hat7 with e | e
        · exact hnot.out j (e.symm.trans hj) h
        · rw [e] at hj
          injection hj with hj
          have := D2.out.lt j h
          have : (w2.alloc (.cells #[.pointer pv] 29)).heap.size = w2.heap.size + 1 := by simp
          omega)
      have K7 := Lib.hid (show Below B w w7 from hBl.out.trans (((K2.out.mono hBr.out).alloc (by have := K2.out.size; have := hBr.out; omega) _).grown hg7 (by have := K2.out.size; have := hBr.out; simp; omega) (fun j hj => (OffRow.lt hC.out.1 j hj).1)))
      clear hr7 hg7 hat7 g7 hi hz0 hz1 hz2
      go_wp2_with fail
      go_roundw
      case rel => exact ⟨k + 1, cs ++ [c], by omega, by rw [List.length_append, HCS.out]; rfl, by go_num, Lib.hid (by rw [HR.out]; exact ⟨O7.out, D7.out, hnot7.out⟩), K7⟩
      case measure => simp [intOf]; omega
    · obtain rfl : k = n := by omega
      have HT := Lib.hid (show Rs.take k = Rs from List.take_of_length_le (by rw [h.out.len]; exact Nat.le_refl _))
      go_wp2_with fail
      go_ret
      rw [HT.out] at hC
      exact ⟨⟨_, cs, rfl, hC.out⟩, hBl.out⟩
end Go.Proofs.Ytbjokbnmfbfkjaa
