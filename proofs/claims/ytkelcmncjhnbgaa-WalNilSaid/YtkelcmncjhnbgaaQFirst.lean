/- A region that draws its order, whose first operation may come at any time (the slice that is appended to, looked at first), then quiet ones, then a chain. -/
import Derived.Test.YtkelcmncjhnbgaaQTail
set_option linter.unusedVariables false
set_option maxRecDepth 100000
namespace Go.Proofs.Ytkelcmncjhnbgaa
open Go.RowKit

section
variable {F : Fence} {n : Nat} {P : Program} {ops : Array Oper} {md : Region.Mode} {C : World → Prop}

/-! ### Where the first operation is awaited by the last ones alone ('l = append(l, f(x))': the slice is looked at first) -/
def HeadInv1 (md : Region.Mode) (ops : Array Oper) (m : Nat) (listed : Array Bool) : Prop := HeadInv md ops m listed ∧ listed.getD 0 false = true
theorem HeadInv1.set {m i : Nat} {listed : Array Bool} (inv : HeadInv1 md ops m listed) (hi : i ∈ Region.ready md ops listed) (him : i < m) : HeadInv1 md ops m (listed.setIfInBounds i true) :=
  ⟨inv.1.set hi him, getD_set_true inv.2⟩
def sink1B (md : Region.Mode) (ops : Array Oper) (m : Nat) : Bool :=
  (List.range m).all fun i => decide (i = 0) || (List.range (m + 1)).any fun j => decide (i < j) && Region.waitsFor md ops j i
theorem ready_waits {listed : Array Bool} {t i : Nat} (hr : t ∈ Region.ready md ops listed) (hw : Region.waitsFor md ops t i = true) : listed.getD i false = true := by
  obtain ⟨_, ot, hot, hall⟩ := mem_ready.1 hr
  obtain ⟨o, ho, e, he, hb, rfl⟩ := Region.waitsFor_spec hw
  obtain rfl := Option.some.inj (ho.symm.trans hot)
  exact hall e he hb
theorem tail_waits1 {m : Nat} {listed : Array Bool} (hs : sink1B md ops m = true) (hc : Region.chainB md ops m = true) (hn : m < ops.size) (inv : HeadInv1 md ops m listed) :
    ∀ (d i : Nat), m - i = d → i < m → listed.getD i true = false → ∀ t, m ≤ t → t ∉ Region.ready md ops listed := by
  intro d i _ hi hun t ht hr
  have htlt : t < ops.size := by obtain ⟨_, _, hot, _⟩ := mem_ready.1 hr; exact (Array.getElem?_eq_some_iff.1 hot).1
  rcases Nat.lt_or_ge m t with hmt | hmt
  · have h1 := List.all_eq_true.1 hc t (List.mem_range.2 htlt)
    simp only [Bool.or_eq_true, decide_eq_true_eq] at h1
    have h2 := ready_waits hr (h1.resolve_left (by omega))
    rw [getD_both (inv.1.tail (t - 1) (by omega) (by omega))] at h2
    cases h2
  · obtain rfl : t = m := by omega
    -- whoever waits for one that hasn't come hasn't come: up to t, which has all that it waits for
    have up : ∀ k i, t - i ≤ k → i < t → listed.getD i true = false → False := by
      intro k
      induction k with
      | zero => intro i h1 h2; omega
      | succ k ih =>
        intro i hk hi hun
        have h1 := List.all_eq_true.1 hs i (List.mem_range.2 hi)
        simp only [Bool.or_eq_true, decide_eq_true_eq, List.any_eq_true, Bool.and_eq_true, List.mem_range] at h1
        rcases h1 with rfl | ⟨j, hj, hij, hw⟩
        · have := inv.2; rw [getD_both hun] at this; cases this
        · by_cases hjt : j = t
          · subst hjt
            have := ready_waits hr hw
            rw [getD_both hun] at this
            cases this
          · cases hl : listed.getD j false with
            | true =>
              obtain ⟨o, ho, e, he, hb, hon⟩ := Region.waitsFor_spec hw
              have := inv.1.closed j o ho hl e he hb
              rw [hon, getD_both hun] at this
              cases this
            | false => exact ih j (by omega) (by omega) (getD_in (by rw [inv.1.size]; omega) hl)
    exact up (t - i) i (Nat.le_refl _) hi hun
theorem wpAnyLP1_first {m i : Nat} {oi : Oper} {v : Value} {L : Array Bool → Act → Prop} (hi : ops[i]? = some oi) (hsel : ∀ (j : Nat) (o : Oper) cs b, ops[j]? = some o → o.op ≠ .select cs b)
    (hs : sink1B md ops m = true) (hc : Region.chainB md ops m = true) (hn : m < ops.size) (hin : i < m)
    (hdone : ∀ listed a, L listed a → ∀ j ∈ Region.ready md ops listed, m ≤ j) :
    ∀ (f : Nat) (listed : Array Bool) (a : Act), HeadInv1 md ops m listed →
      (∀ j oj, ops[j]? = some oj → j ≠ i → listed.getD j true = false → (∀ e ∈ oj.after, Region.binds md e = true → e.on ≠ i) → oi.apart ops oj = true) →
      i ∈ Region.ready md ops listed → YieldsIn P ops C oi v a →
      wpAnyLP P md ops C m L f (listed.setIfInBounds i true) (a.put oi.dst v) → wpAnyLP P md ops C m L (f + 1) listed a := by
  intro f
  induction f with
  | zero =>
    intro listed a inv _ hr hy H
    have hun := (mem_ready.1 hr).1
    refine ⟨fun h => (by rw [h] at hr; cases hr), fun j hj => ?_⟩
    have hjn : j < m := by
      rcases Nat.lt_or_ge j m with h | h
      · exact h
      · exact absurd hj (tail_waits1 hs hc hn inv _ i rfl hin hun j h)
    refine ⟨hjn, ?_⟩
    by_cases hji : j = i
    · subst hji; exact hy.qOp hi H
    · have := hdone _ _ H j (ready_mono hj hji)
      omega
  | succ f ih =>
    intro listed a inv hfree hr hy H
    have hun := (mem_ready.1 hr).1
    refine ⟨fun h => (by rw [h] at hr; cases hr), fun j hj => ?_⟩
    have hjn : j < m := by
      rcases Nat.lt_or_ge j m with h | h
      · exact h
      · exact absurd hj (tail_waits1 hs hc hn inv _ i rfl hin hun j h)
    refine ⟨hjn, ?_⟩
    by_cases hji : j = i
    · subst hji; exact hy.qOp hi H
    · have h1 := (H.2 j (ready_mono hj hji)).2
      obtain ⟨hjun, oj, hoj, hall⟩ := mem_ready.1 hj
      have hnot : ∀ e ∈ oj.after, Region.binds md e = true → e.on ≠ i := fun e he hb heq => by
        have h1 := hall e he hb
        rw [heq, getD_both hun] at h1
        cases h1
      have h2 := qOp_put hoj (hfree j oj hoj hji hjun hnot) (fun cs b => hsel i oi cs b hi) (fun cs b => hsel j oj cs b hoj) hy h1
      have hfree' : ∀ k ok, ops[k]? = some ok → k ≠ i → (listed.setIfInBounds j true).getD k true = false →
          (∀ e ∈ ok.after, Region.binds md e = true → e.on ≠ i) → oi.apart ops ok = true := fun k ok hk hki hun hno => by
        refine hfree k ok hk hki ?_ hno
        by_cases hjk : j = k
        · subst hjk; exact hjun
        · rw [getD_set_ne true hjk] at hun; exact hun
      refine qOp_mono (fun a' h3 => ih (listed.setIfInBounds j true) a' (inv.set hj hjn) hfree' (ready_mono hr (Ne.symm hji)) h3.1 ?_) h2
      rw [Array.setIfInBounds_comm _ _ hji]
      exact h3.2

theorem wpAnyLP1_lex {m g : Nat} {Lq : Act → Prop} (hsel : Region.noSelect ops = true) (hs : sink1B md ops m = true) (hc : Region.chainB md ops m = true) (hn : m < ops.size) :
    ∀ (l : List Oper) (k : Nat) (listed : Array Bool) (a : Act), (∀ j, j < l.length → l[j]? = ops[k + j]?) → k + l.length = m → HeadInv1 md ops m listed →
    Region.lexHead md ops g l.length k listed = true → wpQuiet P ops C Lq l a →
    wpAnyLP P md ops C m (fun listed' a' => Region.seqB md ops g m listed' = true ∧ Lq a') l.length listed a
  | [], k, listed, a, _, hk, _, hB, h => by
    have : k = m := by simpa using hk
    subst this
    exact ⟨by simpa [Region.lexHead] using hB, h⟩
  | o :: l, k, listed, a, hl, hk, inv, hB, h => by
    have h0 : ops[k]? = some o := by simpa using (hl 0 (by simp)).symm
    simp only [List.length_cons, Region.lexHead, Bool.and_eq_true] at hB
    obtain ⟨⟨hr, hf⟩, hB'⟩ := hB
    have hkn : k < m := by simp only [List.length_cons] at hk; omega
    have hr' : k ∈ Region.ready md ops listed := by simpa using hr
    have hst : qOp P ops C k (wpQuiet P ops C Lq l) a := by unfold qOp; simp only [h0]; exact h
    obtain ⟨v, hy, hK⟩ := yieldsIn_of_qOp h0 hst
    exact wpAnyLP1_first h0 (Region.noSelect_spec hsel) hs hc hn hkn (fun listed' a' hL => seqB_ready hL.1) l.length listed a inv (Region.free_spec h0 hf) hr' hy
      (wpAnyLP1_lex hsel hs hc hn l (k + 1) _ _ (fun j hj => by have := hl (j + 1) (by simp; omega); simpa [Nat.add_assoc, Nat.add_comm 1 j] using this) (by simp only [List.length_cons] at hk; omega) (inv.set hr' hkn) hB' hK)


def first1B (md : Region.Mode) (ops : Array Oper) (m : Nat) : Bool :=
  Region.noSelect ops && decide (0 < m) && decide (m < ops.size) && Region.free md ops (Array.replicate ops.size false) 0 && (Region.ready md ops (Array.replicate ops.size false)).contains 0 && sink1B md ops m && Region.chainB md ops m &&
    Region.lexHead md ops (ops.size - m) (m - 1) 1 ((Array.replicate ops.size false).setIfInBounds 0 true) && (match ops[0]? with | some o => o.after.isEmpty | none => false)
/-- ONE OPERATION THAT MAY COME AT ANY TIME, THEN QUIET ONES, THEN A CHAIN. -/
theorem wp_region_first_tail {id : Nat} {Q : Exit → Act → World → Prop} {a : Act} {w : World} {o : Oper} {l : List Oper} (m : Nat) (v : Value) (hm : P.follows .mixedOrders = true) (hB : first1B .any (o :: l).toArray m = true)
    (hy : Yields P (o :: l).toArray o v a) (hQ : ∀ c a w, Q (.panic c) (a.put o.dst v) w → Q (.panic c) a w)
    (h : wpQuiet P (o :: l).toArray (fun w' => ∃ n : Seen w, w' = n.val) (fun a' => ∀ w', (∃ n : Seen w, w' = n.val) → wpList P (o :: l).toArray Q (l.drop (m - 1)) a' w') (l.take (m - 1)) (a.put o.dst v)) : (Code.region id (o :: l).toArray true).wp P Q a w := by
  simp only [first1B, Bool.and_eq_true, decide_eq_true_eq] at hB
  obtain ⟨⟨⟨⟨⟨⟨⟨⟨hsel, hm0⟩, hn⟩, hfr⟩, hrd⟩, hs⟩, hc⟩, hlex⟩, haft⟩ := hB
  have hsz : (o :: l).toArray.size = l.length + 1 := by simp
  have hlm : (l.take (m - 1)).length = m - 1 := by simp; simp at hn; omega
  have hdl : (l.drop (m - 1)).length = (o :: l).toArray.size - m := by simp; omega
  have h0 : (o :: l).toArray[0]? = some o := by simp
  have hrd' : 0 ∈ Region.ready .any (o :: l).toArray (Array.replicate (o :: l).toArray.size false) := by simpa using hrd
  have inv0 : HeadInv .any (o :: l).toArray m (Array.replicate (o :: l).toArray.size false) :=
    ⟨by simp, fun j oj _ hl => (by rw [getD_replicate_false] at hl; cases hl), fun t _ ht => getD_in (by simpa using ht) (getD_replicate_false _ _)⟩
  have inv1 : HeadInv1 .any (o :: l).toArray m ((Array.replicate (o :: l).toArray.size false).setIfInBounds 0 true) := ⟨inv0.set hrd' hm0, by simp⟩
  have H := wpAnyLP1_lex (md := .any) (g := (o :: l).toArray.size - m) hsel hs hc hn (l.take (m - 1)) 1 _ (a.put o.dst v) (fun j hj => by
    have hj' : j < m - 1 := by rw [hlm] at hj; exact hj
    simp [hj', Nat.add_comm 1 j]) (by rw [hlm]; omega) inv1 (by rw [hlm]; exact hlex) h
  refine wp_region_any hm ?_
  rw [show (o :: l).toArray.size = l.length + 1 from hsz]
  refine wpAny_take h0 hsel (by rw [← hsz]; exact hfr) (by rw [← hsz]; exact hrd) hQ hy ?_
  have := wpAny_of_headQ (C := fun w' => ∃ n : Seen w, w' = n.val) (Q' := Q) (g := (o :: l).toArray.size - m) (fun listed a' w' hC' hL => by
    have := wpAny_of_seq (md := .any) (Q' := Q) (l.drop (m - 1)) m listed a' w' (fun j => by
      simp only [List.getElem?_drop, List.getElem?_toArray]
      rw [show m + j = (m - 1 + j) + 1 by omega, List.getElem?_cons_succ]) (by rw [hdl]; exact hL.1) (hL.2 w' hC')
    rw [hdl] at this
    exact this) _ _ _ { w with drawn := w.drawn + 1 } ⟨⟨w.drew, (Below.refl _ _).drew⟩, rfl⟩ H
  rw [hlm, show m - 1 + ((o :: l).toArray.size - m) = l.length by rw [hsz] at hn ⊢; omega] at this
  rw [← hsz]
  exact this
end
end Go.Proofs.Ytkelcmncjhnbgaa
