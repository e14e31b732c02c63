/- The program's Live as two functions: what a cursor tells, without what is gone. -/
import Derived.Test.YtbjokbnmfbfkjaaMergeSrc
set_option linter.unusedVariables false
set_option maxRecDepth 100000
namespace Go.Proofs.Ytbjokbnmfbfkjaa
open Go.RowKit

theorem has_least {P : Nat → Prop} (h : ∃ n, P n) : ∃ n, P n ∧ ∀ k, P k → n ≤ k := by
  obtain ⟨n, hn⟩ := h
  induction n using Nat.strongRecOn with
  | _ n ih =>
    by_cases hk : ∃ k, k < n ∧ P k
    · obtain ⟨k, h1, h2⟩ := hk
      exact ih k h1 h2
    · exact ⟨n, hn, fun k hp => by
        rcases Nat.lt_or_ge k n with h | h
        · exact absurd ⟨k, h, hp⟩ hk
        · exact h⟩
noncomputable def leastOf (P : Nat → Prop) : Nat := @dite _ (∃ n, P n) (Classical.propDecidable _) (fun h => Classical.choose (has_least h)) (fun _ => 0)
theorem leastOf_spec {P : Nat → Prop} (h : ∃ n, P n) : P (leastOf P) ∧ ∀ k, P k → leastOf P ≤ k := by
  unfold leastOf
  rw [dif_pos h]
  exact Classical.choose_spec (has_least h)
/-- A variable that holds a cursor. -/
def BxP (q : Nat) (v : Value) (w : World) : Prop := w.heap[q]? = some (.cells #[v] 29 (0, 0))
theorem BxP.cell {q : Nat} {v : Value} {w : World} (h : BxP q v w) : w.cell? ⟨q, 0, none⟩ = some v := by unfold BxP at h; simp [World.cell?, h]
def LiveI (q n : Nat) (c : Cu) (l : List Ent) (e : Int) (b : Bool) (w : World) : Prop :=
  n ≤ w.heap.size ∧ BxP q c.v w ∧ ∃ m, c.I m e b w ∧ liveL m = l ∧ (b = true → ∀ x, m.head? = some x → x.gone = false)
def FLive (q : Nat) (c : Cu) (k : Nat) : Prop := c.F k ∨ k = q
theorem liveL_stop {x : Ent} {t : List Ent} (h : x.gone = false) : liveL (x :: t) = x :: liveL t := by simp [liveL, h]
theorem liveL_skip {x : Ent} {t : List Ent} (h : x.gone = true) : liveL (x :: t) = liveL t := by simp [liveL, h]
theorem live_head {m l : List Ent} (h : liveL m = l) (hg : ∀ x, m.head? = some x → x.gone = false) : (m = [] ∧ l = []) ∨ ∃ x t, m = x :: t ∧ l = x :: liveL t ∧ x.gone = false := by
  cases m with
  | nil => exact .inl ⟨rfl, h.symm⟩
  | cons x t => exact .inr ⟨x, t, rfl, by rw [← h, liveL_stop (hg x rfl)], hg x rfl⟩
/-- How a round of Live begins. -/
def LiveF (y : Nat) (c : Cu) (l : List Ent) (e : Int) (S : Nat → Prop) (w0 : World) (fv ev : Value) (w : World) (k : Nat) : Prop :=
  ∃ m, m.length = k ∧ c.I m e true w ∧ liveL m = l ∧ Only S w0 w ∧
    ((m = [] ∧ fv = .bool false ∧ ev = .int .i64 e ∧ C3 y 32 (.string ⟨#[]⟩) (.string ⟨#[]⟩) (.bool false) w) ∨
      (∃ x t, m = x :: t ∧ fv = .bool true ∧ ev = .int .i64 0 ∧ C3 y 32 (.string (bs x.key)) (.string (bs x.val)) (.bool x.gone) w))
section
variable {q n : Nat} {c : Cu}
set_option maxHeartbeats 4000000 in
theorem live_look (hq : Hid (¬ c.F q)) (hqn : q < n) (l : List Ent) (e : Int) (b : Bool) (w : World) (hI : Hid (LiveI q n c l e b w)) :
    Calls Try.prog 28 #[.pointer (some ⟨q, 0, none⟩)] w fun en w' => Ans l e en ∧ LiveI q n c l e true w' ∧ Only c.F w w' := by
  obtain ⟨h1, h2, m0, h3, h4, -⟩ := hI.out
  obtain ⟨w1, hw1⟩ : ∃ w1, w1 = w.alloc (.cells #[.string ⟨#[]⟩, .string ⟨#[]⟩, .bool false] 32) := ⟨_, rfl⟩
  have K1 := Lib.hid (show Below w.heap.size w w1 by rw [hw1]; exact (Below.refl _ _).alloc (Nat.le_refl _) _)
  have R1 := Lib.hid (show C3 w.heap.size 32 (.string ⟨#[]⟩) (.string ⟨#[]⟩) (.bool false) w1 by rw [hw1]; exact heap_new w _)
  have B1 := Lib.hid (show BxP q c.v w1 from (K1.out.block q (heap_lt h2)).trans h2)
  have I1 := Lib.hid (c.ok.below h3 K1.out)
  have HW1 := Lib.hid hw1
  have HP := Lib.hid (c.ok.peek _ _ _ _ I1.out)
  have hFz := Lib.hid (show ∀ k, c.F k → k < w.heap.size from fun k h => Nat.lt_of_lt_of_le (c.ok.low _ h) (c.ok.size _ _ _ _ h3))
  have hqz := Lib.hid (show q < w.heap.size from heap_lt h2)
  have HN := Lib.hid h1
  have H4 := Lib.hid h4
  have HB := Lib.hid h2
  have x0 := B1.out.cell
  clear hw1 h1 h2 h3 h4
  go_enter Try.func28, Try.ntmps28
  go_upto_region 1 with (fail)
  rw [← HW1.out]
  go_wp2_with fail
  refine HP.out.mono ?_
  rintro en w2 ⟨hA, hI2, k2⟩
  have o2 := Lib.hid (show Only c.F w w2 from (Only.of_below' K1.out rfl).trans k2)
  have hz2 := Lib.hid (show w.heap.size < w2.heap.size from Nat.lt_of_lt_of_le (heap_lt R1.out) k2.size)
  have R2 := Lib.hid (R1.out.only k2 fun h => Nat.lt_irrefl _ (hFz.out _ h))
  have I2 := Lib.hid hI2
  clear hI2 k2 x0
  cases hA with
  | ends =>
    obtain ⟨w3, hw3⟩ : ∃ w3, w3 = w2.alloc (.cells #[.string ⟨#[]⟩, .string ⟨#[]⟩, .bool false] 32) := ⟨_, rfl⟩
    have K3 := Lib.hid (show Below w2.heap.size w2 w3 by rw [hw3]; exact (Below.refl _ _).alloc (Nat.le_refl _) _)
    have HF := Lib.hid (show LiveF w2.heap.size c l e c.F w (.bool false) (.int .i64 e) w3 0 from ⟨_, rfl, c.ok.below I2.out K3.out, H4.out, o2.out.trans (Only.of_below' K3.out rfl), .inl ⟨rfl, rfl, rfl, by rw [hw3]; exact heap_new w2 _⟩⟩)
    have R3 := Lib.hid (R2.out.below K3.out)
    have HW3 := Lib.hid hw3
    clear hw3
    go_upto_region 2 with (fail)
    rw [← HW3.out]
    go_loopw [5, 6] (fun fv ev wr => Hid (∃ k, LiveF w2.heap.size c l e c.F w fv ev wr k) ∧ Hid (C3 w.heap.size 32 (.string ⟨#[]⟩) (.string ⟨#[]⟩) (.bool false) wr)) (fun fv ev wr => leastOf (LiveF w2.heap.size c l e c.F w fv ev wr))
    case atStart => exact ⟨Lib.hid ⟨_, HF.out⟩, R3⟩
    case round =>
      rename_i fv1 ev1 wr
      obtain ⟨hF1, hR1⟩ := hrel
      obtain ⟨⟨m, hmk, hIm, hLm, hOm, hcase⟩, hmin⟩ := leastOf_spec hF1.out
      have Hmk := Lib.hid hmk
      have HIm := Lib.hid hIm
      have HLm := Lib.hid hLm
      have HOm := Lib.hid hOm
      have HBm := Lib.hid (show BxP q c.v wr from (hOm.block q (heap_lt HB.out) hq.out).trans HB.out)
      have q0 := HBm.out.cell
      have d0 := hR1.out.c0
      have d1 := hR1.out.c1
      have d2 := hR1.out.c2
      have df := hR1.out.free
      clear hmk hIm hLm hOm hmin
      rcases hcase with ⟨hm, rfl, rfl, hy⟩ | ⟨x, t, hm, rfl, rfl, hy⟩
      · subst hm
        have y0 := hy.c0
        have y1 := hy.c1
        have y2 := hy.c2
        have hl := Lib.hid (show l = [] from HLm.out.symm)
        clear hy
        go_wp2_with fail
        refine bodyPost_ret (results_c3b rfl _ _ w.heap.size _ _ _ _ _ _ rfl rfl rfl (hR1.out.put _ _ _) Try.underlying32 rfl sizeEnt) rfl ?_
        have o := put3_only wr w.heap.size (.string ⟨#[]⟩) (.string ⟨#[]⟩) (.bool false)
        rw [hl.out]
        exact ⟨Ans.ends _, ⟨Nat.le_trans HN.out (Nat.le_trans HOm.out.size o.size), (o.block q (heap_lt HBm.out) (fun h => by have := hqz.out; omega)).trans HBm.out, [], c.ok.only HIm.out o fun j hj h => by (have := hFz.out _ hj; omega), rfl, fun _ x hx => by cases hx⟩, only_put3 HOm.out (Nat.le_refl _) _ _ _⟩
      · have HY3 := Lib.hid hy
        have y0 := hy.c0
        have y1 := hy.c1
        have y2 := hy.c2
        have yf := hy.free
        subst hm
        clear hy
        cases hg : x.gone with
        | false =>
          have hl := Lib.hid (show l = x :: liveL t by rw [← HLm.out, liveL_stop hg])
          have Hg := Lib.hid hg
          rw [hg] at y2
          clear hg
          go_wp2_with fail
          refine bodyPost_ret (results_c3b rfl _ _ w.heap.size _ _ _ _ _ _ rfl rfl rfl (hR1.out.put _ _ _) Try.underlying32 rfl sizeEnt) rfl ?_
          have o := put3_only wr w.heap.size (.string (bs x.key)) (.string (bs x.val)) (.bool false)
          rw [hl.out]
          refine ⟨?_, ⟨Nat.le_trans HN.out (Nat.le_trans HOm.out.size o.size), (o.block q (heap_lt HBm.out) (fun h => by have := hqz.out; omega)).trans HBm.out, x :: t, c.ok.only HIm.out o fun j hj h => by (have := hFz.out _ hj; omega), liveL_stop Hg.out, fun _ z hz => by injection hz with hz; rw [← hz]; exact Hg.out⟩, only_put3 HOm.out (Nat.le_refl _) _ _ _⟩
          have := Ans.next x (liveL t) e
          rw [Hg.out] at this
          exact this
        | true =>
          have hl := Lib.hid (show liveL t = l by rw [← HLm.out, liveL_skip hg])
          have HPA := Lib.hid (c.ok.pass (x :: t) e wr x.key HIm.out (may_head x t e))
          rw [hg] at y2
          clear hg
          go_wp2_with fail
          refine HPA.out.mono ?_
          rintro en w5 ⟨rfl, hI5, k5⟩
          rw [passL_head] at hI5
          have I5 := Lib.hid (show c.I t e false w5 from hI5)
          have HP5 := Lib.hid (c.ok.peek _ _ _ _ I5.out)
          have K5 := Lib.hid k5
          have B5 := Lib.hid (show BxP q c.v w5 from (k5.block q (heap_lt HBm.out) hq.out).trans HBm.out)
          have q0 := B5.out.cell
          clear hI5 k5 y0 y1 y2 yf
          go_wp2_with fail
          refine HP5.out.mono ?_
          rintro en w6 ⟨hA6, hI6, k6⟩
          have I6 := Lib.hid hI6
          have K6 := Lib.hid (K5.out.trans k6)
          have Y6 := Lib.hid (HY3.out.only K6.out fun h => by have := hFz.out _ h; have := hz2.out; omega)
          have R6 := Lib.hid (hR1.out.only K6.out fun h => Nat.lt_irrefl _ (hFz.out _ h))
          have y0 := Y6.out.c0
          have y1 := Y6.out.c1
          have y2 := Y6.out.c2
          have yf := Y6.out.free
          clear hI6 k6
          cases hA6 with
          | ends =>
            have HF6 := Lib.hid (show LiveF w2.heap.size c l e c.F w (.bool false) (.int .i64 e) (((w6.setCell ⟨w2.heap.size, 0, none⟩ (.string ⟨#[]⟩)).setCell ⟨w2.heap.size, 1, none⟩ (.string ⟨#[]⟩)).setCell ⟨w2.heap.size, 2, none⟩ (.bool false)) 0 from
              ⟨_, rfl, c.ok.only I6.out (put3_only _ _ _ _ _) fun j hj h => by (have := hFz.out _ hj; have := hz2.out; omega), hl.out, only_put3 (HOm.out.trans K6.out) (Nat.le_of_lt hz2.out) _ _ _, .inl ⟨rfl, rfl, rfl, Y6.out.put _ _ _⟩⟩)
            have R7 := Lib.hid (R6.out.only (put3_only w6 w2.heap.size (.string ⟨#[]⟩) (.string ⟨#[]⟩) (.bool false)) fun h => by have := hz2.out; omega)
            go_wp2_with fail
            go_roundw
            case rel => exact ⟨Lib.hid ⟨_, HF6.out⟩, R7⟩
            case measure =>
              have h1 := (leastOf_spec ⟨_, HF6.out⟩).2 _ HF6.out
              have h2 := Hmk.out
              simp only [List.length_cons] at h2
              omega
          | next x2 t2 =>
            have HF6 := Lib.hid (show LiveF w2.heap.size c l e c.F w (.bool true) (.int .i64 0) (((w6.setCell ⟨w2.heap.size, 0, none⟩ (.string (bs x2.key))).setCell ⟨w2.heap.size, 1, none⟩ (.string (bs x2.val))).setCell ⟨w2.heap.size, 2, none⟩ (.bool x2.gone)) (t2.length + 1) from
              ⟨x2 :: t2, rfl, c.ok.only I6.out (put3_only _ _ _ _ _) fun j hj h => by (have := hFz.out _ hj; have := hz2.out; omega), hl.out, only_put3 (HOm.out.trans K6.out) (Nat.le_of_lt hz2.out) _ _ _, .inr ⟨x2, t2, rfl, rfl, rfl, Y6.out.put _ _ _⟩⟩)
            have R7 := Lib.hid (R6.out.only (put3_only w6 w2.heap.size (.string (bs x2.key)) (.string (bs x2.val)) (.bool x2.gone)) fun h => by have := hz2.out; omega)
            go_wp2_with fail
            go_roundw
            case rel => exact ⟨Lib.hid ⟨_, HF6.out⟩, R7⟩
            case measure =>
              have h1 := (leastOf_spec ⟨_, HF6.out⟩).2 _ HF6.out
              have h2 := Hmk.out
              simp only [List.length_cons] at h2
              omega
  | next x t =>
    obtain ⟨w3, hw3⟩ : ∃ w3, w3 = w2.alloc (.cells #[.string (bs x.key), .string (bs x.val), .bool x.gone] 32) := ⟨_, rfl⟩
    have K3 := Lib.hid (show Below w2.heap.size w2 w3 by rw [hw3]; exact (Below.refl _ _).alloc (Nat.le_refl _) _)
    have HF := Lib.hid (show LiveF w2.heap.size c l e c.F w (.bool true) (.int .i64 0) w3 (t.length + 1) from ⟨_, rfl, c.ok.below I2.out K3.out, H4.out, o2.out.trans (Only.of_below' K3.out rfl), .inr ⟨x, t, rfl, rfl, rfl, by rw [hw3]; exact heap_new w2 _⟩⟩)
    have R3 := Lib.hid (R2.out.below K3.out)
    have HW3 := Lib.hid hw3
    clear hw3
    go_upto_region 2 with (fail)
    rw [← HW3.out]
    go_loopw [5, 6] (fun fv ev wr => Hid (∃ k, LiveF w2.heap.size c l e c.F w fv ev wr k) ∧ Hid (C3 w.heap.size 32 (.string ⟨#[]⟩) (.string ⟨#[]⟩) (.bool false) wr)) (fun fv ev wr => leastOf (LiveF w2.heap.size c l e c.F w fv ev wr))
    case atStart => exact ⟨Lib.hid ⟨_, HF.out⟩, R3⟩
    case round =>
      rename_i fv1 ev1 wr
      obtain ⟨hF1, hR1⟩ := hrel
      obtain ⟨⟨m, hmk, hIm, hLm, hOm, hcase⟩, hmin⟩ := leastOf_spec hF1.out
      have Hmk := Lib.hid hmk
      have HIm := Lib.hid hIm
      have HLm := Lib.hid hLm
      have HOm := Lib.hid hOm
      have HBm := Lib.hid (show BxP q c.v wr from (hOm.block q (heap_lt HB.out) hq.out).trans HB.out)
      have q0 := HBm.out.cell
      have d0 := hR1.out.c0
      have d1 := hR1.out.c1
      have d2 := hR1.out.c2
      have df := hR1.out.free
      clear hmk hIm hLm hOm hmin
      rcases hcase with ⟨hm, rfl, rfl, hy⟩ | ⟨x, t, hm, rfl, rfl, hy⟩
      · subst hm
        have y0 := hy.c0
        have y1 := hy.c1
        have y2 := hy.c2
        have hl := Lib.hid (show l = [] from HLm.out.symm)
        clear hy
        go_wp2_with fail
        refine bodyPost_ret (results_c3b rfl _ _ w.heap.size _ _ _ _ _ _ rfl rfl rfl (hR1.out.put _ _ _) Try.underlying32 rfl sizeEnt) rfl ?_
        have o := put3_only wr w.heap.size (.string ⟨#[]⟩) (.string ⟨#[]⟩) (.bool false)
        rw [hl.out]
        exact ⟨Ans.ends _, ⟨Nat.le_trans HN.out (Nat.le_trans HOm.out.size o.size), (o.block q (heap_lt HBm.out) (fun h => by have := hqz.out; omega)).trans HBm.out, [], c.ok.only HIm.out o fun j hj h => by (have := hFz.out _ hj; omega), rfl, fun _ x hx => by cases hx⟩, only_put3 HOm.out (Nat.le_refl _) _ _ _⟩
      · have HY3 := Lib.hid hy
        have y0 := hy.c0
        have y1 := hy.c1
        have y2 := hy.c2
        have yf := hy.free
        subst hm
        clear hy
        cases hg : x.gone with
        | false =>
          have hl := Lib.hid (show l = x :: liveL t by rw [← HLm.out, liveL_stop hg])
          have Hg := Lib.hid hg
          rw [hg] at y2
          clear hg
          go_wp2_with fail
          refine bodyPost_ret (results_c3b rfl _ _ w.heap.size _ _ _ _ _ _ rfl rfl rfl (hR1.out.put _ _ _) Try.underlying32 rfl sizeEnt) rfl ?_
          have o := put3_only wr w.heap.size (.string (bs x.key)) (.string (bs x.val)) (.bool false)
          rw [hl.out]
          refine ⟨?_, ⟨Nat.le_trans HN.out (Nat.le_trans HOm.out.size o.size), (o.block q (heap_lt HBm.out) (fun h => by have := hqz.out; omega)).trans HBm.out, x :: t, c.ok.only HIm.out o fun j hj h => by (have := hFz.out _ hj; omega), liveL_stop Hg.out, fun _ z hz => by injection hz with hz; rw [← hz]; exact Hg.out⟩, only_put3 HOm.out (Nat.le_refl _) _ _ _⟩
          have := Ans.next x (liveL t) e
          rw [Hg.out] at this
          exact this
        | true =>
          have hl := Lib.hid (show liveL t = l by rw [← HLm.out, liveL_skip hg])
          have HPA := Lib.hid (c.ok.pass (x :: t) e wr x.key HIm.out (may_head x t e))
          rw [hg] at y2
          clear hg
          go_wp2_with fail
          refine HPA.out.mono ?_
          rintro en w5 ⟨rfl, hI5, k5⟩
          rw [passL_head] at hI5
          have I5 := Lib.hid (show c.I t e false w5 from hI5)
          have HP5 := Lib.hid (c.ok.peek _ _ _ _ I5.out)
          have K5 := Lib.hid k5
          have B5 := Lib.hid (show BxP q c.v w5 from (k5.block q (heap_lt HBm.out) hq.out).trans HBm.out)
          have q0 := B5.out.cell
          clear hI5 k5 y0 y1 y2 yf
          go_wp2_with fail
          refine HP5.out.mono ?_
          rintro en w6 ⟨hA6, hI6, k6⟩
          have I6 := Lib.hid hI6
          have K6 := Lib.hid (K5.out.trans k6)
          have Y6 := Lib.hid (HY3.out.only K6.out fun h => by have := hFz.out _ h; have := hz2.out; omega)
          have R6 := Lib.hid (hR1.out.only K6.out fun h => Nat.lt_irrefl _ (hFz.out _ h))
          have y0 := Y6.out.c0
          have y1 := Y6.out.c1
          have y2 := Y6.out.c2
          have yf := Y6.out.free
          clear hI6 k6
          cases hA6 with
          | ends =>
            have HF6 := Lib.hid (show LiveF w2.heap.size c l e c.F w (.bool false) (.int .i64 e) (((w6.setCell ⟨w2.heap.size, 0, none⟩ (.string ⟨#[]⟩)).setCell ⟨w2.heap.size, 1, none⟩ (.string ⟨#[]⟩)).setCell ⟨w2.heap.size, 2, none⟩ (.bool false)) 0 from
              ⟨_, rfl, c.ok.only I6.out (put3_only _ _ _ _ _) fun j hj h => by (have := hFz.out _ hj; have := hz2.out; omega), hl.out, only_put3 (HOm.out.trans K6.out) (Nat.le_of_lt hz2.out) _ _ _, .inl ⟨rfl, rfl, rfl, Y6.out.put _ _ _⟩⟩)
            have R7 := Lib.hid (R6.out.only (put3_only w6 w2.heap.size (.string ⟨#[]⟩) (.string ⟨#[]⟩) (.bool false)) fun h => by have := hz2.out; omega)
            go_wp2_with fail
            go_roundw
            case rel => exact ⟨Lib.hid ⟨_, HF6.out⟩, R7⟩
            case measure =>
              have h1 := (leastOf_spec ⟨_, HF6.out⟩).2 _ HF6.out
              have h2 := Hmk.out
              simp only [List.length_cons] at h2
              omega
          | next x2 t2 =>
            have HF6 := Lib.hid (show LiveF w2.heap.size c l e c.F w (.bool true) (.int .i64 0) (((w6.setCell ⟨w2.heap.size, 0, none⟩ (.string (bs x2.key))).setCell ⟨w2.heap.size, 1, none⟩ (.string (bs x2.val))).setCell ⟨w2.heap.size, 2, none⟩ (.bool x2.gone)) (t2.length + 1) from
              ⟨x2 :: t2, rfl, c.ok.only I6.out (put3_only _ _ _ _ _) fun j hj h => by (have := hFz.out _ hj; have := hz2.out; omega), hl.out, only_put3 (HOm.out.trans K6.out) (Nat.le_of_lt hz2.out) _ _ _, .inr ⟨x2, t2, rfl, rfl, rfl, Y6.out.put _ _ _⟩⟩)
            have R7 := Lib.hid (R6.out.only (put3_only w6 w2.heap.size (.string (bs x2.key)) (.string (bs x2.val)) (.bool x2.gone)) fun h => by have := hz2.out; omega)
            go_wp2_with fail
            go_roundw
            case rel => exact ⟨Lib.hid ⟨_, HF6.out⟩, R7⟩
            case measure =>
              have h1 := (leastOf_spec ⟨_, HF6.out⟩).2 _ HF6.out
              have h2 := Hmk.out
              simp only [List.length_cons] at h2
              omega
/-- What Live passes over its cursor passes over. -/
theorem live_drop (hqF : ¬ c.F q) (l : List Ent) (e : Int) (w : World) (key : List UInt8) (h : LiveI q n c l e true w) (hM : May key l e) :
    Calls Try.prog 30 #[c.v, .string (bs key)] w fun en w' => en = .returned (.tuple #[]) ∧ LiveI q n c (passL key l) e l.isEmpty w' ∧ Only c.F w w' := by
  obtain ⟨h1, h2, m, h3, h4, h5⟩ := h
  rcases live_head h4 (h5 rfl) with ⟨rfl, rfl⟩ | ⟨x, t, rfl, rfl, hg⟩
  · exact (c.ok.pass [] e w key h3 hM).mono fun en w' ⟨a, b, d⟩ => ⟨a, ⟨Nat.le_trans h1 d.size, (d.block q (heap_lt h2) hqF).trans h2, [], b, rfl, fun _ x hx => by cases hx⟩, d⟩
  · refine (c.ok.pass (x :: t) e w key h3 ⟨fun h => absurd h (by simp), fun y hy => hM.2 y hy⟩).mono fun en w' ⟨a, b, d⟩ => ⟨a, ⟨Nat.le_trans h1 d.size, (d.block q (heap_lt h2) hqF).trans h2, passL key (x :: t), b, ?_, fun h => by cases h⟩, d⟩
    by_cases hk : x.key = key
    · simp [passL, hk]
    · simp [passL, hk, liveL_stop hg]
/-- A cursor without what is gone is two such functions. -/
theorem src_live (hqF : ¬ c.F q) (hqn : q < n) (hn : c.n ≤ n) :
    Src 28 #[] #[.pointer (some ⟨q, 0, none⟩)] 30 #[c.v] #[] n (FLive q c) (LiveI q n c) where
  enter1 := fun args w => by kernel_rfl
  enter2 := fun args w => by kernel_rfl
  low := fun k hk => by
    rcases hk with h | rfl
    · exact Nat.lt_of_lt_of_le (c.ok.low k h) hn
    · exact hqn
  size := fun l e b w h => h.1
  keep := fun l e b w w' ⟨h1, h2, m, h3, h4, h5⟩ hs k => ⟨Nat.le_trans h1 hs, (k q (.inr rfl)).trans h2, m, c.ok.keep _ _ _ _ _ h3 hs (fun j hj => k j (.inl hj)), h4, h5⟩
  weak := fun l e w hl ⟨h1, h2, m, h3, h4, h5⟩ => ⟨h1, h2, m, c.ok.weak _ _ _ h3, h4, fun h => by cases h⟩
  look := fun l e b w h _ => (live_look (Lib.hid hqF) hqn l e b w (Lib.hid h)).mono fun en w' ⟨a, b, d⟩ => ⟨a, b, d.mono fun _ _ h => .inl h⟩
  drop := fun l e w key h hM => (live_drop hqF l e w key h hM).mono fun en w' ⟨a, b, d⟩ => ⟨a, b, d.mono fun _ _ h => .inl h⟩
end
end Go.Proofs.Ytbjokbnmfbfkjaa
