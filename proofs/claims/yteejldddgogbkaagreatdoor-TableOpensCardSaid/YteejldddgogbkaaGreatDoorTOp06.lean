/- Texts put together: QTail, BlockTaker, BlockTakes -/
import Derived.Test.YteejldddgogbkaaGreatDoorTOp00
import Derived.StillTail
import Derived.Sort.QuietThIn
import Derived.TacticsIn
import Derived.RangeFuncCalls
import Derived.Test.YteejldddgogbkaaGreatDoorTOp05
/- A region that draws its order, whose first m operations read or call quietly (each world of a class comes to the same), and whose rest is a chain behind them: one walk, whatever order is drawn; within a fence and without. -/
set_option linter.unusedVariables false
set_option maxRecDepth 100000
namespace Go.Proofs.YteejldddgogbkaaGreatDoor
open Go.RowKit

section
variable {F : Fence} {n : Nat} {P : Program} {ops : Array Oper} {md : Region.Mode} {C : World → Prop}

def wpAnyLQ (F : Fence) (n : Nat) (P : Program) (md : Region.Mode) (ops : Array Oper) (C : World → Prop) (m : Nat) (L : Array Bool → Act → Prop) : Nat → Array Bool → Act → Prop
  | 0, listed, a => L listed a
  | f + 1, listed, a =>
    Region.ready md ops listed ≠ [] ∧ ∀ i ∈ Region.ready md ops listed, i < m ∧ qOpIn F n P ops C i (wpAnyLQ F n P md ops C m L f (listed.setIfInBounds i true)) a

/-- Nowhere a 'defer': then an operation is run in a round as anywhere. -/
def noDefer (l : List Oper) : Bool := l.all fun o => match o.op with
  | .defer _ => false
  | _ => true
theorem noDefer_sem {l : List Oper} (h : noDefer l = true) (F : Fence) (i : Nat) (o : Oper) (ho : l.toArray[i]? = some o) (ρ : Operand → Value) : Oper.semAt F.round ρ o = execOp ρ o := by
  cases hr : F.round with
  | none => rw [Oper.semAt_none]
  | some r =>
    refine Oper.semAt_some r ρ o fun c hc => ?_
    have := List.all_eq_true.1 h o (List.mem_of_getElem? (by simpa using ho))
    rw [hc] at this
    cases this
theorem operIn_of_quiet {o : Oper} {a : Act} {K : Act → Prop} {K' : Act → World → Prop} {Q' : Exit → Act → World → Prop} {w : World} (hse : ∀ ρ, Oper.semAt F.round ρ o = execOp ρ o) (hw : C w) (h : ∀ a w', C w' → K a → K' a w')
    (ha : o.askedIn F P a C) (hh : o.quietIn F n P a C K) : o.wpIn F n P a w K' Q' := by
  obtain ⟨v, h1, h2⟩ := hh
  have h3 := h1 w hw
  unfold Oper.quietAtIn at h3
  unfold Oper.wpIn
  refine ⟨ha w hw, ?_⟩
  rw [hse]
  generalize (execOp a.eval o).run P w = r at *
  cases r with
  | ok x w' =>
    cases x <;> simp only [Oper.quietUponIn] at h3 <;> simp only [Oper.uponIn]
    case value u =>
      obtain ⟨e1, e2⟩ := h3
      rw [e1, e2]
      exact h _ _ hw h2
    case skip =>
      obtain ⟨e1, e2⟩ := h3
      rw [e1, ← e2]
      exact h _ _ hw h2
    case enter f args =>
      obtain ⟨e1, hd, hc⟩ := h3
      rw [e1]
      exact ⟨hd, hc.mono fun e w'' ⟨he, hw''⟩ => by subst he; exact h _ _ hw'' h2⟩
  | halt x w' => simp only [Oper.quietUponIn] at h3
theorem opIn_of_quiet {i : Nat} {a : Act} {K : Act → Prop} {K' : Act → World → Prop} {Q' : Exit → Act → World → Prop} {w : World} (hse : ∀ o, ops[i]? = some o → ∀ ρ, Oper.semAt F.round ρ o = execOp ρ o) (hC : C w) (h : ∀ a w', C w' → K a → K' a w')
    (hh : qOpIn F n P ops C i K a) : wpOpIn F n P ops Q' i K' a w := by
  unfold qOpIn at hh
  unfold wpOpIn
  split
  · rename_i ho; simp only [ho] at hh; exact h _ _ hC hh
  · rename_i o ho
    simp only [ho] at hh
    obtain ⟨ha, hh⟩ := hh
    split
    · rename_i hw; simp only [hw, if_true] at hh; exact operIn_of_quiet (hse o ho) hC h ha hh
    · rename_i hw; simp only [hw] at hh; exact ⟨ha w hC, h _ _ hC hh⟩

theorem wpAnyIn_of_headQ (hro : ∀ (i : Nat) (o : Oper), ops[i]? = some o → ∀ ρ, Oper.semAt F.round ρ o = execOp ρ o) {m g : Nat} {L : Array Bool → Act → Prop} {Q' : Exit → Act → World → Prop} (hL : ∀ listed a w, C w → L listed a → wpAnyIn F n P md ops Q' g listed a w) :
    ∀ (f : Nat) (listed : Array Bool) (a : Act) (w : World), C w → wpAnyLQ F n P md ops C m L f listed a → wpAnyIn F n P md ops Q' (f + g) listed a w
  | 0, listed, a, w, hC, h => by rw [Nat.zero_add]; exact hL _ _ _ hC h
  | f + 1, listed, a, w, hC, h => by
    rw [show f + 1 + g = (f + g) + 1 by omega]
    exact ⟨fun h0 => absurd h0 h.1, fun i hi => opIn_of_quiet (hro i) hC (fun a' w' hw' h' => wpAnyIn_of_headQ hro hL f _ a' w' hw' h') (h.2 i hi).2⟩

theorem wpAnyLQ_first {m i : Nat} {oi : Oper} {v : Value} {L : Array Bool → Act → Prop} (hi : ops[i]? = some oi) (hsel : ∀ (j : Nat) (o : Oper) cs b, ops[j]? = some o → o.op ≠ .select cs b)
    (hs : Region.sinkB md ops m = true) (hc : Region.chainB md ops m = true) (hn : m < ops.size) (hin : i < m)
    (hdone : ∀ listed a, L listed a → ∀ j ∈ Region.ready md ops listed, m ≤ j) :
    ∀ (f : Nat) (listed : Array Bool) (a : Act), HeadInv md ops m listed →
      (∀ j oj, ops[j]? = some oj → j ≠ i → listed.getD j true = false → (∀ e ∈ oj.after, Region.binds md e = true → e.on ≠ i) → oi.apart ops oj = true) →
      i ∈ Region.ready md ops listed → YieldsQuiet F n P ops C oi v a →
      wpAnyLQ F n P md ops C m L f (listed.setIfInBounds i true) (a.put oi.dst v) → wpAnyLQ F n P md ops C m L (f + 1) listed a := by
  intro f
  induction f with
  | zero =>
    intro listed a inv _ hr hy H
    have hun := (mem_ready.1 hr).1
    refine ⟨fun h => (by rw [h] at hr; cases hr), fun j hj => ?_⟩
    have hjn : j < m := by
      rcases Nat.lt_or_ge j m with h | h
      · exact h
      · exact absurd hj (tail_waits hs hc hn inv _ i rfl hin hun j h)
    refine ⟨hjn, ?_⟩
    by_cases hji : j = i
    · subst hji; exact hy.qOpIn hi H
    · have := hdone _ _ H j (ready_mono hj hji)
      omega
  | succ f ih =>
    intro listed a inv hfree hr hy H
    have hun := (mem_ready.1 hr).1
    refine ⟨fun h => (by rw [h] at hr; cases hr), fun j hj => ?_⟩
    have hjn : j < m := by
      rcases Nat.lt_or_ge j m with h | h
      · exact h
      · exact absurd hj (tail_waits hs hc hn inv _ i rfl hin hun j h)
    refine ⟨hjn, ?_⟩
    by_cases hji : j = i
    · subst hji; exact hy.qOpIn hi H
    · have h1 := (H.2 j (ready_mono hj hji)).2
      obtain ⟨hjun, oj, hoj, hall⟩ := mem_ready.1 hj
      have hnot : ∀ e ∈ oj.after, Region.binds md e = true → e.on ≠ i := fun e he hb heq => by
        have h1 := hall e he hb
        rw [heq, getD_both hun] at h1
        cases h1
      have h2 := qOpIn_put hoj (hfree j oj hoj hji hjun hnot) (fun cs b => hsel i oi cs b hi) (fun cs b => hsel j oj cs b hoj) hy h1
      have hfree' : ∀ k ok, ops[k]? = some ok → k ≠ i → (listed.setIfInBounds j true).getD k true = false →
          (∀ e ∈ ok.after, Region.binds md e = true → e.on ≠ i) → oi.apart ops ok = true := fun k ok hk hki hun hno => by
        refine hfree k ok hk hki ?_ hno
        by_cases hjk : j = k
        · subst hjk; exact hjun
        · rw [getD_set_ne true hjk] at hun; exact hun
      refine qOpIn_mono (fun a' h3 => ih (listed.setIfInBounds j true) a' (inv.set hj hjn) hfree' (ready_mono hr (Ne.symm hji)) h3.1 ?_) h2
      rw [Array.setIfInBounds_comm _ _ hji]
      exact h3.2

theorem wpAnyIn_of_seq {Q' : Exit → Act → World → Prop} : ∀ (l : List Oper) (k : Nat) (listed : Array Bool) (a : Act) (w : World), (∀ j, l[j]? = ops[k + j]?) →
    Region.seqB md ops l.length k listed = true → wpListIn F n P ops Q' l a w → wpAnyIn F n P md ops Q' l.length listed a w
  | [], _, _, _, _, _, hB, h => ⟨by simpa [Region.seqB] using hB, h⟩
  | o :: l, k, listed, a, w, hl, hB, h => by
    have h0 : ops[k]? = some o := by simpa using (hl 0).symm
    simp only [List.length_cons, Region.seqB, Bool.and_eq_true, decide_eq_true_eq] at hB
    refine ⟨fun h1 => (by rw [hB.1] at h1; cases h1), fun i hi => ?_⟩
    rw [hB.1] at hi
    have hik : i = k := by simpa using hi
    subst hik
    have hw : wpOpIn F n P ops Q' i (wpListIn F n P ops Q' l) a w := by unfold wpOpIn; simp only [h0]; exact h
    exact wpOpIn_mono (fun a' w' h' => wpAnyIn_of_seq l (i + 1) _ a' w' (fun j => by have := hl (j + 1); simpa [Nat.add_assoc, Nat.add_comm 1 j] using this) hB.2 h') hw

theorem wpAnyLQ_lex {m g : Nat} {Lq : Act → Prop} (hsel : Region.noSelect ops = true) (hs : Region.sinkB md ops m = true) (hc : Region.chainB md ops m = true) (hn : m < ops.size) :
    ∀ (l : List Oper) (k : Nat) (listed : Array Bool) (a : Act), (∀ j, j < l.length → l[j]? = ops[k + j]?) → k + l.length = m → HeadInv md ops m listed →
    Region.lexHead md ops g l.length k listed = true → wpQuietIn F n P ops C Lq l a →
    wpAnyLQ F n P md ops C m (fun listed' a' => Region.seqB md ops g m listed' = true ∧ Lq a') l.length listed a
  | [], k, listed, a, _, hk, _, hB, h => by
    have : k = m := by simpa using hk
    subst this
    exact ⟨by simpa [Region.lexHead] using hB, h⟩
  | o :: l, k, listed, a, hl, hk, inv, hB, h => by
    have h0 : ops[k]? = some o := by simpa using (hl 0 (by simp)).symm
    simp only [List.length_cons, Region.lexHead, Bool.and_eq_true] at hB
    obtain ⟨⟨hr, hf⟩, hB'⟩ := hB
    have hkn : k < m := by simp only [List.length_cons] at hk; omega
    have hr' : k ∈ Region.ready md ops listed := by simpa using hr
    have hst : qOpIn F n P ops C k (wpQuietIn F n P ops C Lq l) a := by unfold qOpIn; simp only [h0]; exact h
    obtain ⟨v, hy, hK⟩ := yieldsQuiet_of_qOpIn h0 hst
    exact wpAnyLQ_first h0 (Region.noSelect_spec hsel) hs hc hn hkn (fun listed' a' hL => seqB_ready hL.1) l.length listed a inv (Region.free_spec h0 hf) hr' hy
      (wpAnyLQ_lex hsel hs hc hn l (k + 1) _ _ (fun j hj => by have := hl (j + 1) (by simp; omega); simpa [Nat.add_assoc, Nat.add_comm 1 j] using this) (by simp only [List.length_cons] at hk; omega) (inv.set hr' hkn) hB' hK)

/-- THE FIRST m OPERATIONS QUIET, THE REST A CHAIN BEHIND THEM, WITHIN A FENCE. -/
theorem wpIn_region_quiet_tail {id : Nat} {Q : Exit → Act → World → Prop} {a : Act} {w : World} {l : List Oper} (m : Nat) (hro : ∀ (i : Nat) (o : Oper), l.toArray[i]? = some o → ∀ ρ, Oper.semAt F.round ρ o = execOp ρ o) (hm : P.follows .mixedOrders = true) (hB : Region.lexTailB .any l.toArray m = true) (hC : C { w with drawn := w.drawn + 1 })
    (h : wpQuietIn F n P l.toArray C (fun a' => ∀ w', C w' → wpListIn F n P l.toArray Q (l.drop m) a' w') (l.take m) a) : (Code.region id l.toArray true).wpIn F n P Q a w := by
  simp only [Region.lexTailB, Bool.and_eq_true, decide_eq_true_eq] at hB
  obtain ⟨⟨⟨⟨hsel, hn⟩, hs⟩, hc⟩, hlex⟩ := hB
  have hn' : m < l.length := by simpa using hn
  have htl : (l.take m).length = m := by simp; omega
  have hdl : (l.drop m).length = l.toArray.size - m := by simp
  have inv0 : HeadInv .any l.toArray m (Array.replicate l.toArray.size false) :=
    ⟨by simp, fun j oj _ hl => (by rw [getD_replicate_false] at hl; cases hl), fun t _ ht => getD_in (by simpa using ht) (getD_replicate_false _ _)⟩
  have H := wpAnyLQ_lex (md := .any) (g := l.toArray.size - m) hsel hs hc hn (l.take m) 0 _ a (fun j hj => by
    have hj' : j < m := by rw [htl] at hj; exact hj
    simp [hj']) (by simpa using htl) inv0 (by rw [htl]; exact hlex) h
  refine wpIn_region_any hm ?_
  have := wpAnyIn_of_headQ (Q' := Q) (g := l.toArray.size - m) hro (fun listed a' w' hC' hL => by
    have := wpAnyIn_of_seq (md := .any) (Q' := Q) (l.drop m) m listed a' w' (fun j => by simp [List.getElem?_drop]) (by rw [hdl]; exact hL.1) (hL.2 w' hC')
    rw [hdl] at this
    exact this) _ _ _ _ hC H
  rw [htl, show m + (l.toArray.size - m) = l.toArray.size by omega] at this
  exact this

/-! ### At the wide fence the plain steps serve -/
structure Wide (F : Fence) : Prop where
  fn : ∀ f, F.fn f
  depth : F.depth.isSome = true → False
  calls : ∀ {n : Nat} {P : Program} {f : FuncId} {args : Array Value} {w : World} {R : Ending → World → Prop}, Calls P f args w R → CallsIn F n P f args w R
theorem wide_wide : Wide Fence.wide := ⟨fun _ => trivial, fun h => by simp [Fence.wide] at h, fun h => callsIn_wide.2 h⟩
theorem wide_round (r : Nat) : Wide (Fence.wide.inRound r) := ⟨fun _ => trivial, fun h => by simp [Fence.wide] at h, fun h => CallsIn.inRound r (callsIn_wide.2 h)⟩
theorem quietIn_wide (hF : Wide F) {o : Oper} {a : Act} {K K' : Act → Prop} (h : ∀ a, K a → K' a) (hh : o.quiet P a C K) : o.quietIn F n P a C K' := by
  obtain ⟨v, h1, h2⟩ := hh
  refine ⟨v, fun w hw => ?_, h _ h2⟩
  have h3 := h1 w hw
  unfold Oper.quietAt at h3
  unfold Oper.quietAtIn
  generalize (execOp a.eval o).run P w = r at *
  cases r with
  | ok x w' =>
    cases x <;> simp only [Oper.quietUpon, Oper.quietUponIn] at h3 ⊢
    case value u => exact h3
    case skip => exact h3
    case enter f args => exact ⟨h3.1, fun h => (hF.depth h).elim, hF.calls h3.2⟩
  | halt x w' => simp only [Oper.quietUpon] at h3
theorem wpQuietIn_wide (hF : Wide F) {Q : Act → Prop} : ∀ (l : List Oper) (a : Act), wpQuiet P ops C Q l a → wpQuietIn F n P ops C Q l a
  | [], a, h => h
  | o :: l, a, h => by
    refine ⟨fun _ _ f _ => hF.fn f, ?_⟩
    unfold wpQuiet at h
    split
    · rename_i hw; simp only [hw, if_true] at h; exact quietIn_wide hF (fun a' h' => wpQuietIn_wide hF l a' h') h
    · rename_i hw; simp only [hw] at h; exact wpQuietIn_wide hF l _ h
/-- A QUIET HEAD WITH A CHAIN BEHIND IT, whose last part may call what the walk hands on (a round): the head by the plain steps. -/
theorem wpIn_region_seen_tail {id : Nat} {Q : Exit → Act → World → Prop} {a : Act} {w : World} {l : List Oper} (m : Nat) (hm : P.follows .mixedOrders = true) (hB : Region.lexTailB .any l.toArray m = true)
    (h : wpQuiet P l.toArray (fun w' => ∃ n : Seen w, w' = n.val) (fun a' => ∀ w', (∃ n : Seen w, w' = n.val) → wpListIn Fence.wide n P l.toArray Q (l.drop m) a' w') (l.take m) a) : (Code.region id l.toArray true).wpIn Fence.wide n P Q a w :=
  wpIn_region_quiet_tail (C := fun w' => ∃ n : Seen w, w' = n.val) m (fun _ _ _ _ => Oper.semAt_none ..) hm hB ⟨⟨w.drew, (Below.refl _ _).drew⟩, rfl⟩ (wpQuietIn_wide wide_wide _ _ h)
/-- The same in a round. -/
theorem wpIn_round_seen_tail {r id : Nat} {Q : Exit → Act → World → Prop} {a : Act} {w : World} {l : List Oper} (m : Nat) (hm : P.follows .mixedOrders = true) (hB : Region.lexTailB .any l.toArray m = true) (hd : noDefer l = true)
    (h : wpQuiet P l.toArray (fun w' => ∃ n : Seen w, w' = n.val) (fun a' => ∀ w', (∃ n : Seen w, w' = n.val) → wpListIn (Fence.wide.inRound r) n P l.toArray Q (l.drop m) a' w') (l.take m) a) : (Code.region id l.toArray true).wpIn (Fence.wide.inRound r) n P Q a w :=
  wpIn_region_quiet_tail (C := fun w' => ∃ n : Seen w, w' = n.val) m (noDefer_sem hd _) hm hB ⟨⟨w.drew, (Below.refl _ _).drew⟩, rfl⟩ (wpQuietIn_wide (wide_round r) _ _ h)

/-! ### The same, no fence in sight (by program) -/
def wpAnyLP (P : Program) (md : Region.Mode) (ops : Array Oper) (C : World → Prop) (m : Nat) (L : Array Bool → Act → Prop) : Nat → Array Bool → Act → Prop
  | 0, listed, a => L listed a
  | f + 1, listed, a =>
    Region.ready md ops listed ≠ [] ∧ ∀ i ∈ Region.ready md ops listed, i < m ∧ qOp P ops C i (wpAnyLP P md ops C m L f (listed.setIfInBounds i true)) a

theorem wpAny_of_headQ {m g : Nat} {L : Array Bool → Act → Prop} {Q' : Exit → Act → World → Prop} (hL : ∀ listed a w, C w → L listed a → wpAny P md ops Q' g listed a w) :
    ∀ (f : Nat) (listed : Array Bool) (a : Act) (w : World), C w → wpAnyLP P md ops C m L f listed a → wpAny P md ops Q' (f + g) listed a w
  | 0, listed, a, w, hC, h => by rw [Nat.zero_add]; exact hL _ _ _ hC h
  | f + 1, listed, a, w, hC, h => by
    rw [show f + 1 + g = (f + g) + 1 by omega]
    exact ⟨fun h0 => absurd h0 h.1, fun i hi => wpOp_of_qOp hC (fun a' w' hw' h' => wpAny_of_headQ hL f _ a' w' hw' h') (h.2 i hi).2⟩

theorem wpAnyLP_first {m i : Nat} {oi : Oper} {v : Value} {L : Array Bool → Act → Prop} (hi : ops[i]? = some oi) (hsel : ∀ (j : Nat) (o : Oper) cs b, ops[j]? = some o → o.op ≠ .select cs b)
    (hs : Region.sinkB md ops m = true) (hc : Region.chainB md ops m = true) (hn : m < ops.size) (hin : i < m)
    (hdone : ∀ listed a, L listed a → ∀ j ∈ Region.ready md ops listed, m ≤ j) :
    ∀ (f : Nat) (listed : Array Bool) (a : Act), HeadInv md ops m listed →
      (∀ j oj, ops[j]? = some oj → j ≠ i → listed.getD j true = false → (∀ e ∈ oj.after, Region.binds md e = true → e.on ≠ i) → oi.apart ops oj = true) →
      i ∈ Region.ready md ops listed → YieldsIn P ops C oi v a →
      wpAnyLP P md ops C m L f (listed.setIfInBounds i true) (a.put oi.dst v) → wpAnyLP P md ops C m L (f + 1) listed a := by
  intro f
  induction f with
  | zero =>
    intro listed a inv _ hr hy H
    have hun := (mem_ready.1 hr).1
    refine ⟨fun h => (by rw [h] at hr; cases hr), fun j hj => ?_⟩
    have hjn : j < m := by
      rcases Nat.lt_or_ge j m with h | h
      · exact h
      · exact absurd hj (tail_waits hs hc hn inv _ i rfl hin hun j h)
    refine ⟨hjn, ?_⟩
    by_cases hji : j = i
    · subst hji; exact hy.qOp hi H
    · have := hdone _ _ H j (ready_mono hj hji)
      omega
  | succ f ih =>
    intro listed a inv hfree hr hy H
    have hun := (mem_ready.1 hr).1
    refine ⟨fun h => (by rw [h] at hr; cases hr), fun j hj => ?_⟩
    have hjn : j < m := by
      rcases Nat.lt_or_ge j m with h | h
      · exact h
      · exact absurd hj (tail_waits hs hc hn inv _ i rfl hin hun j h)
    refine ⟨hjn, ?_⟩
    by_cases hji : j = i
    · subst hji; exact hy.qOp hi H
    · have h1 := (H.2 j (ready_mono hj hji)).2
      obtain ⟨hjun, oj, hoj, hall⟩ := mem_ready.1 hj
      have hnot : ∀ e ∈ oj.after, Region.binds md e = true → e.on ≠ i := fun e he hb heq => by
        have h1 := hall e he hb
        rw [heq, getD_both hun] at h1
        cases h1
      have h2 := qOp_put hoj (hfree j oj hoj hji hjun hnot) (fun cs b => hsel i oi cs b hi) (fun cs b => hsel j oj cs b hoj) hy h1
      have hfree' : ∀ k ok, ops[k]? = some ok → k ≠ i → (listed.setIfInBounds j true).getD k true = false →
          (∀ e ∈ ok.after, Region.binds md e = true → e.on ≠ i) → oi.apart ops ok = true := fun k ok hk hki hun hno => by
        refine hfree k ok hk hki ?_ hno
        by_cases hjk : j = k
        · subst hjk; exact hjun
        · rw [getD_set_ne true hjk] at hun; exact hun
      refine qOp_mono (fun a' h3 => ih (listed.setIfInBounds j true) a' (inv.set hj hjn) hfree' (ready_mono hr (Ne.symm hji)) h3.1 ?_) h2
      rw [Array.setIfInBounds_comm _ _ hji]
      exact h3.2

theorem wpAnyLP_lex {m g : Nat} {Lq : Act → Prop} (hsel : Region.noSelect ops = true) (hs : Region.sinkB md ops m = true) (hc : Region.chainB md ops m = true) (hn : m < ops.size) :
    ∀ (l : List Oper) (k : Nat) (listed : Array Bool) (a : Act), (∀ j, j < l.length → l[j]? = ops[k + j]?) → k + l.length = m → HeadInv md ops m listed →
    Region.lexHead md ops g l.length k listed = true → wpQuiet P ops C Lq l a →
    wpAnyLP P md ops C m (fun listed' a' => Region.seqB md ops g m listed' = true ∧ Lq a') l.length listed a
  | [], k, listed, a, _, hk, _, hB, h => by
    have : k = m := by simpa using hk
    subst this
    exact ⟨by simpa [Region.lexHead] using hB, h⟩
  | o :: l, k, listed, a, hl, hk, inv, hB, h => by
    have h0 : ops[k]? = some o := by simpa using (hl 0 (by simp)).symm
    simp only [List.length_cons, Region.lexHead, Bool.and_eq_true] at hB
    obtain ⟨⟨hr, hf⟩, hB'⟩ := hB
    have hkn : k < m := by simp only [List.length_cons] at hk; omega
    have hr' : k ∈ Region.ready md ops listed := by simpa using hr
    have hst : qOp P ops C k (wpQuiet P ops C Lq l) a := by unfold qOp; simp only [h0]; exact h
    obtain ⟨v, hy, hK⟩ := yieldsIn_of_qOp h0 hst
    exact wpAnyLP_first h0 (Region.noSelect_spec hsel) hs hc hn hkn (fun listed' a' hL => seqB_ready hL.1) l.length listed a inv (Region.free_spec h0 hf) hr' hy
      (wpAnyLP_lex hsel hs hc hn l (k + 1) _ _ (fun j hj => by have := hl (j + 1) (by simp; omega); simpa [Nat.add_assoc, Nat.add_comm 1 j] using this) (by simp only [List.length_cons] at hk; omega) (inv.set hr' hkn) hB' hK)

/-- THE FIRST m OPERATIONS QUIET, THE REST A CHAIN BEHIND THEM, NO FENCE IN SIGHT. -/
theorem wp_region_quiet_tail {id : Nat} {Q : Exit → Act → World → Prop} {a : Act} {w : World} {l : List Oper} (m : Nat) (hm : P.follows .mixedOrders = true) (hB : Region.lexTailB .any l.toArray m = true) (hC : C { w with drawn := w.drawn + 1 })
    (h : wpQuiet P l.toArray C (fun a' => ∀ w', C w' → wpList P l.toArray Q (l.drop m) a' w') (l.take m) a) : (Code.region id l.toArray true).wp P Q a w := by
  simp only [Region.lexTailB, Bool.and_eq_true, decide_eq_true_eq] at hB
  obtain ⟨⟨⟨⟨hsel, hn⟩, hs⟩, hc⟩, hlex⟩ := hB
  have hn' : m < l.length := by simpa using hn
  have htl : (l.take m).length = m := by simp; omega
  have hdl : (l.drop m).length = l.toArray.size - m := by simp
  have inv0 : HeadInv .any l.toArray m (Array.replicate l.toArray.size false) :=
    ⟨by simp, fun j oj _ hl => (by rw [getD_replicate_false] at hl; cases hl), fun t _ ht => getD_in (by simpa using ht) (getD_replicate_false _ _)⟩
  have H := wpAnyLP_lex (md := .any) (g := l.toArray.size - m) hsel hs hc hn (l.take m) 0 _ a (fun j hj => by
    have hj' : j < m := by rw [htl] at hj; exact hj
    simp [hj']) (by simpa using htl) inv0 (by rw [htl]; exact hlex) h
  refine wp_region_any hm ?_
  have := wpAny_of_headQ (Q' := Q) (g := l.toArray.size - m) (fun listed a' w' hC' hL => by
    have := wpAny_of_seq (md := .any) (Q' := Q) (l.drop m) m listed a' w' (fun j => by simp [List.getElem?_drop]) (by rw [hdl]; exact hL.1) (hL.2 w' hC')
    rw [hdl] at this
    exact this) _ _ _ _ hC H
  rw [htl, show m + (l.toArray.size - m) = l.toArray.size by omega] at this
  exact this

theorem wp_region_seen_tail {id : Nat} {Q : Exit → Act → World → Prop} {a : Act} {w : World} {l : List Oper} (m : Nat) (hm : P.follows .mixedOrders = true) (hB : Region.lexTailB .any l.toArray m = true)
    (h : wpQuiet P l.toArray (fun w' => ∃ n : Seen w, w' = n.val) (fun a' => ∀ w', (∃ n : Seen w, w' = n.val) → wpList P l.toArray Q (l.drop m) a' w') (l.take m) a) : (Code.region id l.toArray true).wp P Q a w :=
  wp_region_quiet_tail (C := fun w' => ∃ n : Seen w, w' = n.val) m hm hB ⟨⟨w.drew, (Below.refl _ _).drew⟩, rfl⟩ h
end
end Go.Proofs.YteejldddgogbkaaGreatDoor
/- The closure that goes over one entry after the other. -/
set_option linter.unusedVariables false
set_option maxRecDepth 100000
set_option maxRecDepth 100000
namespace Go.Proofs.YteejldddgogbkaaGreatDoor
open Go.RowKit

/-- An entry read, in parts. -/
theorem rdE_parts (first : Bool) (last l : List UInt8) :
    (kE last l ≠ 0 ∧ (rdE first last l).1 = kE last l) ∨
    (kE last l = 0 ∧ ∃ (k : Nat) (rest l2 : List UInt8), k = (cn l).toNat ∧ rest = ts (l.drop (ck l)) ∧ l2 = (l.drop (ck l)).drop (tk (l.drop (ck l))) ∧ k ≤ last.length ∧ sharedL last (last.take k ++ rest) = k ∧ k + rest.length ≤ 65536 ∧
      ((vE l2 ≠ 0 ∧ (rdE first last l).1 = vE l2) ∨
       (vE l2 = 0 ∧ ((first = false ∧ ltB last (last.take k ++ rest) = false ∧ (rdE first last l).1 = 3) ∨
          (¬ (first = false ∧ ltB last (last.take k ++ rest) = false) ∧ ∃ n, rdE first last l = (0, ⟨last.take k ++ rest, (l2.drop (ck l2)).take ((cn l2).toNat - 1), (cn l2).toNat == 0⟩, n) ∧ l.drop n = (l2.drop (ck l2)).drop ((cn l2).toNat - 1)))))) := by
  obtain ⟨l1, hl1⟩ : ∃ l1, l1 = l.drop (ck l) := ⟨_, rfl⟩
  obtain ⟨l2, hl2⟩ : ∃ l2, l2 = l1.drop (tk l1) := ⟨_, rfl⟩
  obtain ⟨l3, hl3⟩ : ∃ l3, l3 = l2.drop (ck l2) := ⟨_, rfl⟩
  obtain ⟨k, hk⟩ : ∃ k, k = (cn l).toNat := ⟨_, rfl⟩
  obtain ⟨v, hv⟩ : ∃ v, v = (cn l2).toNat := ⟨_, rfl⟩
  have hK : kE last l = if ce l ≠ 0 then ce l else if te l1 ≠ 0 then te l1 else if last.length < k ∨ sharedL last (last.take k ++ ts l1) ≠ k then 3 else if 65536 < k + (ts l1).length then 6 else 0 := by unfold kE; rw [← hl1, ← hk]
  have hR : rdE first last l = (if ce l ≠ 0 then (ce l, ⟨[], [], false⟩, 0) else if te l1 ≠ 0 then (te l1, ⟨[], [], false⟩, 0) else if last.length < k ∨ sharedL last (last.take k ++ ts l1) ≠ k then (3, ⟨[], [], false⟩, 0) else if 65536 < k + (ts l1).length then (6, ⟨[], [], false⟩, 0)
      else if ce l2 ≠ 0 then (ce l2, ⟨[], [], false⟩, 0) else if 65537 < v then (6, ⟨[], [], false⟩, 0) else if l3.length + 1 < v then (2, ⟨[], [], false⟩, 0) else if first = false ∧ ltB last (last.take k ++ ts l1) = false then (3, ⟨[], [], false⟩, 0)
      else (0, ⟨last.take k ++ ts l1, l3.take (v - 1), v == 0⟩, ck l + tk l1 + ck l2 + (v - 1))) := by
    unfold rdE
    simp only [← hl1, ← hk]
    simp only [← hl2]
    simp only [← hl3, ← hv]
  have hV : vE l2 = if ce l2 ≠ 0 then ce l2 else if 65537 < v then 6 else if l3.length + 1 < v then 2 else 0 := by unfold vE; rw [← hl3, ← hv]
  by_cases g1 : ce l ≠ 0
  · exact .inl (by rw [hK, hR, if_pos g1, if_pos g1]; exact ⟨g1, rfl⟩)
  by_cases g2 : te l1 ≠ 0
  · exact .inl (by rw [hK, hR, if_neg g1, if_neg g1, if_pos g2, if_pos g2]; exact ⟨g2, rfl⟩)
  by_cases g3 : last.length < k ∨ sharedL last (last.take k ++ ts l1) ≠ k
  · exact .inl (by rw [hK, hR, if_neg g1, if_neg g1, if_neg g2, if_neg g2, if_pos g3, if_pos g3]; exact ⟨by decide, rfl⟩)
  by_cases g4 : 65536 < k + (ts l1).length
  · exact .inl (by rw [hK, hR, if_neg g1, if_neg g1, if_neg g2, if_neg g2, if_neg g3, if_neg g3, if_pos g4, if_pos g4]; exact ⟨by decide, rfl⟩)
  rw [if_neg g1, if_neg g2, if_neg g3, if_neg g4] at hK hR
  refine .inr ⟨hK, k, ts l1, l2, hk, by rw [hl1], by rw [hl2, hl1], by omega, Decidable.of_not_not fun e => g3 (.inr e), by omega, ?_⟩
  by_cases g5 : ce l2 ≠ 0
  · exact .inl (by rw [hV, hR, if_pos g5, if_pos g5]; exact ⟨g5, rfl⟩)
  by_cases g6 : 65537 < v
  · exact .inl (by rw [hV, hR, if_neg g5, if_neg g5, if_pos g6, if_pos g6]; exact ⟨by decide, rfl⟩)
  by_cases g7 : l3.length + 1 < v
  · exact .inl (by rw [hV, hR, if_neg g5, if_neg g5, if_neg g6, if_neg g6, if_pos g7, if_pos g7]; exact ⟨by decide, rfl⟩)
  rw [if_neg g5, if_neg g6, if_neg g7] at hV hR
  refine .inr ⟨hV, ?_⟩
  by_cases g8 : first = false ∧ ltB last (last.take k ++ ts l1) = false
  · exact .inl ⟨g8.1, g8.2, by rw [hR, if_pos g8]⟩
  · refine .inr ⟨g8, ck l + tk l1 + ck l2 + (v - 1), by rw [hR, if_neg g8, ← hl3, ← hv], ?_⟩
    rw [← hl3, ← hv, hl3, hl2, hl1, List.drop_drop, List.drop_drop, List.drop_drop]
    congr 1
    omega
/-- What the closure remembers: the key ahead, and whether there is one. -/
structure Ahd (B c1 c2 : Nat) (first : Bool) (last : List UInt8) (w : World) : Prop where
  row : ∃ v, w.heap[c1]? = some (.cells #[v] 62 (0, 0)) ∧ OffRow w B 5 1 v last.length (last.map fun b => Value.int .u8 b.toNat)
  flag : w.heap[c2]? = some (.cells #[.bool first] 4 (0, 0))
  b1 : B ≤ c1
  b2 : B ≤ c2
/-- All below B is kept, and all rows of what is told. -/
structure Tb (B : Nat) (w w' : World) : Prop where
  bel : Below B w w'
  keep : ∀ (k : Nat) (cs : Array Value) (z : Nat × Nat), w.heap[k]? = some (.cells cs 157 z) → w'.heap[k]? = some (.cells cs 157 z)
theorem Tb.trans {B : Nat} {a b c : World} (h : Tb B a b) (k : Tb B b c) : Tb B a c := ⟨h.bel.trans k.bel, fun i cs z hi => k.keep i cs z (h.keep i cs z hi)⟩
theorem Tb.of_below {B : Nat} {w w' : World} (h : Below w.heap.size w w') (hB : B ≤ w.heap.size) : Tb B w w' := ⟨h.mono hB, fun k cs z hk => (h.block k (heap_lt hk)).trans hk⟩
theorem Tb.of_read {B r : Nat} {s : ByteArray} {w w' : World} (h : Only (fun k => k = r) w w') (hr : Rt r s w) (hB : B ≤ r) : Tb B w w' :=
  ⟨h.below (fun k _ e => by omega) (by have := hr.lt; omega), fun k cs z hk => (h.block k (heap_lt hk) (fun e => by subst e; unfold Rt at hr; rw [hr] at hk; injection hk with hk; injection hk with _ hk; cases hk)).trans hk⟩
/-- What is remembered is kept where other kinds of blocks are written. -/
theorem Ahd.keep {B c1 c2 : Nat} {first : Bool} {last : List UInt8} {w w' : World} (h : Ahd B c1 c2 first last w) (k : ∀ (j : Nat) (cs : Array Value) (t : TypeId) (z : Nat × Nat), w.heap[j]? = some (.cells cs t z) → (t = 62 ∨ t = 4 ∨ t = 5) → w'.heap[j]? = some (.cells cs t z)) : Ahd B c1 c2 first last w' := by
  obtain ⟨v, h1, h2⟩ := h.row
  refine ⟨⟨v, k _ _ _ _ h1 (.inl rfl), ?_⟩, k _ _ _ _ h.flag (.inr (.inl rfl)), h.b1, h.b2⟩
  refine h2.kept fun j hj => ?_
  obtain ⟨cur, hc⟩ := h2.tag hj
  rw [hc]
  exact k _ _ _ _ hc (.inr (.inr rfl))
theorem Ahd.below {B c1 c2 : Nat} {first : Bool} {last : List UInt8} {w w' : World} (h : Ahd B c1 c2 first last w) (k : Below w.heap.size w w') : Ahd B c1 c2 first last w' := h.keep fun j cs t z hj _ => (k.block j (heap_lt hj)).trans hj
theorem Ahd.read {B c1 c2 r : Nat} {first : Bool} {last : List UInt8} {s : ByteArray} {w w' : World} (h : Ahd B c1 c2 first last w) (hr : Rt r s w) (k : Only (fun k => k = r) w w') : Ahd B c1 c2 first last w' :=
  h.keep fun j cs t z hj ht => (k.block j (heap_lt hj) (fun e => by
    subst e
    unfold Rt at hr
    rw [hr] at hj
    injection hj with hj
    injection hj with _ hj
    subst hj
    rcases ht with h | h | h <;> cases h)).trans hj
theorem Ahd.by {B c1 c2 : Nat} {first : Bool} {last : List UInt8} {w : World} (h : Ahd B c1 c2 first last w) : ∃ v, w.cell? ⟨c1, 0, none⟩ = some v ∧ IsBy w v last := by
  obtain ⟨v, h1, h2⟩ := h.row
  exact ⟨v, by simp [World.cell?, h1], h2.by⟩
/-- What the closure leaves. -/
structure TakerPost (B r c1 c2 : Nat) (first : Bool) (last l : List UInt8) (w : World) (e : Ending) (w' : World) : Prop where
  out : ∃ t s, e = .returned (.tuple #[Tld.V t, .int .i64 (rdE first last l).1]) ∧ Rt r (bs s) w' ∧ ((rdE first last l).1 = 0 → t = tldOf last (rdE first last l).2.1 ∧ s = l.drop (rdE first last l).2.2 ∧ Ahd B c1 c2 false (rdE first last l).2.1.key w')
  tb : Tb B w w'
end Go.Proofs.YteejldddgogbkaaGreatDoor
/- The closure that goes over one entry after the other: what it does. -/
set_option linter.unusedVariables false
set_option maxRecDepth 100000
set_option maxRecDepth 100000
namespace Go.Proofs.YteejldddgogbkaaGreatDoor
open Go.RowKit

theorem Rt.ne_told {r c : Nat} {s : ByteArray} {t : Tld} {w : World} (h : Rt r s w) (k : BxT c t w) : c ≠ r := by
  rintro rfl
  unfold Rt at h
  unfold BxT at k
  rw [h] at k
  injection k with k
  injection k with _ k
  cases k
theorem Tb.put4 {B : Nat} {a w : World} {c : Nat} (h : Tb B a w) (hB : B ≤ a.heap.size) (hc : a.heap.size ≤ c) (v0 v1 v2 v3 : Value) : Tb B a ((((w.setCell ⟨c, 0, none⟩ v0).setCell ⟨c, 1, none⟩ v1).setCell ⟨c, 2, none⟩ v2).setCell ⟨c, 3, none⟩ v3) :=
  ⟨(((h.bel.setCell (p := ⟨c, 0, none⟩) (by show B ≤ c; omega) v0).setCell (p := ⟨c, 1, none⟩) (by show B ≤ c; omega) v1).setCell (p := ⟨c, 2, none⟩) (by show B ≤ c; omega) v2).setCell (p := ⟨c, 3, none⟩) (by show B ≤ c; omega) v3,
    fun k cs z hk => by
      have hne : k ≠ c := by have := heap_lt hk; omega
      rw [heap_set_other hne, heap_set_other hne, heap_set_other hne, heap_set_other hne]
      exact h.keep k cs z hk⟩
theorem taker_no {B r c1 c2 Z : Nat} {first : Bool} {last l : List UInt8} {w w1 : World} {s : List UInt8} {z : Int} {t0 : Tld} (hk : (rdE first last l).1 = z) (hz : z ≠ 0) (hr : Rt r (bs s) w1) (ho : Tb B w w1) (hb : BxT Z t0 w1) (hZ : Z = w.heap.size) (hrZ : r < w.heap.size) (hB : B ≤ w.heap.size) :
    TakerPost B r c1 c2 first last l w (.returned (.tuple #[noTld.V, .int .i64 z])) ((((w1.setCell ⟨Z, 0, none⟩ (.int .i64 ((0 : Nat) : Int))).setCell ⟨Z, 1, none⟩ (.string (bs []))).setCell ⟨Z, 2, none⟩ (.string (bs []))).setCell ⟨Z, 3, none⟩ (.bool false)) :=
  ⟨⟨noTld, s, by rw [hk], hr.put4 (by omega) _ _ _ _, fun h => absurd (hk.symm.trans h) hz⟩, ho.put4 hB (by omega) _ _ _ _⟩

theorem Tb.put2 {B : Nat} {a w : World} {c : Nat} (h : Tb B a w) (hB : B ≤ a.heap.size) (hc : a.heap.size ≤ c) (v0 v1 : Value) : Tb B a ((w.setCell ⟨c, 2, none⟩ v0).setCell ⟨c, 3, none⟩ v1) :=
  ⟨(h.bel.setCell (p := ⟨c, 2, none⟩) (by show B ≤ c; omega) v0).setCell (p := ⟨c, 3, none⟩) (by show B ≤ c; omega) v1,
    fun k cs z hk => by
      have hne : k ≠ c := by have := heap_lt hk; omega
      rw [heap_set_other hne, heap_set_other hne]
      exact h.keep k cs z hk⟩
theorem BxT.put2 {c : Nat} {t : Tld} {w : World} (h : BxT c t w) (u : List UInt8) (g : Bool) : BxT c ⟨t.sh, t.rest, u, g⟩ ((w.setCell ⟨c, 2, none⟩ (.string (bs u))).setCell ⟨c, 3, none⟩ (.bool g)) := by
  have h1 := heap_set (o := 2) h (.string (bs u))
  exact heap_set (o := 3) h1 (.bool g)
theorem Ahd.put2 {B c1 c2 c : Nat} {first : Bool} {last : List UInt8} {t : Tld} {w : World} (h : Ahd B c1 c2 first last w) (hc : BxT c t w) (v0 v1 : Value) : Ahd B c1 c2 first last ((w.setCell ⟨c, 2, none⟩ v0).setCell ⟨c, 3, none⟩ v1) :=
  h.keep fun j cs ty z hj ht => by
    have hne : j ≠ c := by
      rintro rfl
      unfold BxT at hc
      rw [hc] at hj
      injection hj with hj
      injection hj with _ hj
      subst hj
      rcases ht with h | h | h <;> cases h
    rw [heap_set_other hne, heap_set_other hne]
    exact hj
/-- Bytes appended: what is of another kind is kept. -/
theorem grown_other {w w' : World} {B n : Nat} {v : Value} {xs : List Value} (hO : OffRow w B 5 1 v n xs) (hg : w.grownBy w' v.ownBlock) {j : Nat} {cs : Array Value} {t : TypeId} {z : Nat × Nat} (hj : w.heap[j]? = some (.cells cs t z)) (ht : t ≠ 5) : w'.heap[j]? = some (.cells cs t z) := by
  rw [hg.block j (heap_lt hj) fun e => ?_, hj]
  obtain ⟨cur, hc⟩ := hO.tag e.symm
  rw [hc] at hj
  injection hj with hj
  injection hj with _ hj
  exact ht hj.symm
theorem tag_ne {w : World} {a b : Nat} {cs ds : Array Value} {t u : TypeId} {y z : Nat × Nat} (ha : w.heap[a]? = some (.cells cs t y)) (hb : w.heap[b]? = some (.cells ds u z)) (h : t ≠ u) : a ≠ b := by
  rintro rfl
  rw [ha] at hb
  injection hb with hb
  injection hb with _ hb
  exact h hb
/-- What the closure remembers, when it has gone over an entry. -/
theorem Ahd.next {B c1 c2 : Nat} {first : Bool} {last key : List UInt8} {w w' : World} {a : Option Addr} {n cap k : Nat} {v' : Value} (h : Ahd B c1 c2 first last w) (hc : w.heap[c1]? = some (.cells #[.slice a n cap] 62 (0, 0))) (hO : OffRow w B 5 1 (.slice a k cap) k (((last.map fun b => Value.int .u8 b.toNat)).take (k * 1)))
    (hg : w.grownBy w' (Value.slice a k cap).ownBlock) (hr : OffRow w' B 5 1 v' key.length (key.map fun b => Value.int .u8 b.toNat)) :
    Ahd B c1 c2 false key ((w'.setCell ⟨c1, 0, none⟩ v').setCell ⟨c2, 0, none⟩ (.bool false)) := by
  have g1 := grown_other hO hg hc (by decide)
  have g2 := grown_other hO hg h.flag (by decide)
  have n12 : c2 ≠ c1 := tag_ne g2 g1 (by decide)
  have s1 := heap_set (o := 0) g1 v'
  refine ⟨⟨v', (heap_set_other n12.symm _).trans s1, hr.kept fun j hj => ?_⟩, ?_, h.b1, h.b2⟩
  · obtain ⟨cur, ht⟩ := hr.tag hj
    rw [heap_set_other (tag_ne ht g2 (by decide)), heap_set_other (tag_ne ht g1 (by decide))]
  · exact heap_set (o := 0) ((heap_set_other n12 _).trans g2) (.bool false)
set_option maxHeartbeats 4000000 in
theorem take_entry (B r c1 c2 : Nat) (first : Bool) (last l : List UInt8) (w : World) (h : Rt r (bs l) w) (hBr : B ≤ r) (ha : Ahd B c1 c2 first last w) (hl : l.length ≤ 100000000000) (hlast : last.length ≤ 65536) :
    Calls Tryz.prog 113 #[.pointer (some ⟨r, 0, none⟩), .pointer (some ⟨c1, 0, none⟩), .pointer (some ⟨c2, 0, none⟩)] w (TakerPost B r c1 c2 first last l w) := by
  have hrw := h.lt
  have hBw : B ≤ w.heap.size := by omega
  obtain ⟨w0, hw0⟩ : ∃ w0, w.alloc (.cells #[.int .i64 0, .string ⟨#[]⟩, .string ⟨#[]⟩, .bool false] 157) = w0 := ⟨_, rfl⟩
  have A := Lib.hid (show Rt r (bs l) w0 ∧ Tb B w w0 ∧ Ahd B c1 c2 first last w0 ∧ BxT w.heap.size noTld w0 ∧ w.heap.size ≤ w0.heap.size from by
    have hb : Below w.heap.size w w0 := by rw [← hw0]; exact (Below.refl _ _).alloc (Nat.le_refl _) _
    exact ⟨(hb.block r h.lt).trans h, Tb.of_below hb hBw, ha.below hb, by rw [← hw0]; exact heap_new w _, hb.size⟩)
  have HL := Lib.hid (And.intro hrw (And.intro hBw hBr))
  obtain ⟨v, hcv, hv⟩ := A.out.2.2.1.by
  have HV := Lib.hid hv
  have hkey := Lib.hid (take_key r last l v w0 A.out.1 HV hl hlast)
  clear h ha hv hrw hBw hBr
  rcases rdE_parts first last l with ⟨hk, hrd⟩ | ⟨hk, k, rest, l2, hkn, hrest, hl2, hkl, hsh, h65, hrd⟩
  · have hb : (kE last l == 0) = false := beq_eq_false_iff_ne.2 hk
    have HK := Lib.hid hk
    have HRD := Lib.hid hrd
    clear hk hrd
    go_enter Tryz.func113, Tryz.ntmps113
    go_wp2_with fail
    refine hkey.out.mono ?_
    rintro e w1 ⟨⟨t, s, rfl, hr1, _⟩, o1⟩
    generalize kE last l = z at *
    obtain ⟨w2, hw2⟩ : ∃ w2, w1.alloc (.cells #[.int .i64 (t.sh : Int), .string (bs t.rest), .string (bs t.val), .bool t.gone] 157) = w2 := ⟨_, rfl⟩
    have T1 := A.out.2.2.2.1.keep o1 (A.out.1.ne_told A.out.2.2.2.1)
    have B2 : Below w1.heap.size w1 w2 := by rw [← hw2]; exact (Below.refl _ _).alloc (Nat.le_refl _) _
    have T2 := T1.below B2
    have R2 := Lib.hid (show Rt r (bs s) w2 from (B2.block r hr1.lt).trans hr1)
    have K2 := Lib.hid ((A.out.2.1.trans (Tb.of_read o1 A.out.1 HL.out.2.2)).trans (Tb.of_below B2 (by have := hr1.lt; have := HL.out; omega)))
    have q0 := T2.c0
    have q1 := T2.c1
    have q2 := T2.c2
    have q3 := T2.c3
    have qf := T2.free
    have T3 := Lib.hid T2
    have HW2 := Lib.hid hw2
    clear T1 T2 B2 hr1 o1 hw2
    unfold Tld.V
    go_upto_region 2 with (fail)
    rw [HW2.out]
    go_wp2_with fail
    refine bodyPost_ret (results_told rfl _ _ w.heap.size noTld _ rfl rfl (T3.out.put noTld)) rfl ?_
    exact taker_no HRD.out HK.out R2.out K2.out T3.out rfl HL.out.1 HL.out.2.1
  · have hk64 : k ≤ 65536 := by omega
    have hl2l : l2.length ≤ 100000000000 := by rw [hl2, List.length_drop, List.length_drop]; omega
    have HKP := Lib.hid (show ∀ t s, (kE last l = 0 → t = (⟨(cn l).toNat, ts (l.drop (ck l)), [], false⟩ : Tld) ∧ s = (l.drop (ck l)).drop (tk (l.drop (ck l)))) → t = ⟨k, rest, [], false⟩ ∧ s = l2 from fun t s h => by
      obtain ⟨a, b⟩ := h hk
      exact ⟨by rw [a, hkn, hrest], by rw [b, hl2]⟩)
    have HK := Lib.hid hk
    have HSH := Lib.hid hsh
    have HRD := Lib.hid hrd
    clear hkn hrest hl2 hk hsh hrd
    go_enter Tryz.func113, Tryz.ntmps113
    go_wp2_with fail
    refine hkey.out.mono ?_
    rintro e w1 ⟨⟨t, s, rfl, hr1, hts⟩, o1⟩
    obtain ⟨rfl, rfl⟩ := HKP.out t s hts
    rw [HK.out]
    have hb1 := hr1.lt
    obtain ⟨w2, hw2⟩ : ∃ w2, w1.alloc (.cells #[.int .i64 (k : Int), .string (bs rest), .string (bs []), .bool false] 157) = w2 := ⟨_, rfl⟩
    have T1 := A.out.2.2.2.1.keep o1 (A.out.1.ne_told A.out.2.2.2.1)
    have B2 : Below w1.heap.size w1 w2 := by rw [← hw2]; exact (Below.refl _ _).alloc (Nat.le_refl _) _
    have K1 := A.out.2.1.trans (Tb.of_read o1 A.out.1 HL.out.2.2)
    have P2 := Lib.hid (show Rt r (bs s) w2 ∧ Tb B w w2 ∧ Ahd B c1 c2 first last w2 ∧ BxT w.heap.size noTld w2 ∧ BxT w1.heap.size ⟨k, rest, [], false⟩ w2 from
      ⟨(B2.block r hr1.lt).trans hr1, K1.trans (Tb.of_below B2 (by have := HL.out; omega)), (A.out.2.2.1.read A.out.1 o1).below B2, T1.below B2, by rw [← hw2]; exact heap_new w1 _⟩)
    have Z1 := Lib.hid (show w.heap.size < w1.heap.size from Nat.lt_of_lt_of_le (heap_lt A.out.2.2.2.1) o1.size)
    have HW2 := Lib.hid hw2
    clear T1 B2 K1 hr1 o1 hw2 hts hkey hcv HV hb1
    unfold Tld.V
    go_upto_region 2 with (fail)
    rw [HW2.out]
    clear HW2
    go_wp2_with fail
    refine (take_val r s w2 P2.out.1 hl2l).mono ?_
    rintro e w3 ⟨⟨val, g, s2, rfl, hr3, hvs⟩, o3⟩
    obtain ⟨z1, hz1⟩ : ∃ z1, z1 = w1.heap.size := ⟨_, rfl⟩
    rw [← hz1] at P2 Z1 ⊢
    have HVS := Lib.hid hvs
    have T3 := P2.out.2.2.2.2.keep o3 (P2.out.1.ne_told P2.out.2.2.2.2)
    have T0 := P2.out.2.2.2.1.keep o3 (P2.out.1.ne_told P2.out.2.2.2.1)
    obtain ⟨w4, hw4⟩ : ∃ w4, (w3.setCell ⟨z1, 2, none⟩ (.string (bs val))).setCell ⟨z1, 3, none⟩ (.bool g) = w4 := ⟨_, rfl⟩
    have q0 := T3.c2
    have q1 := T3.c3
    have qf := T3.free
    have P4 := Lib.hid (show Rt r (bs s2) w4 ∧ Tb B w w4 ∧ Ahd B c1 c2 first last w4 ∧ BxT w.heap.size noTld w4 ∧ BxT z1 ⟨k, rest, val, g⟩ w4 by
      rw [← hw4]
      have hne : w.heap.size ≠ z1 := by have := Z1.out; omega
      have hner : r ≠ z1 := by have := Z1.out; have := HL.out; omega
      refine ⟨?_, (P2.out.2.1.trans (Tb.of_read o3 P2.out.1 HL.out.2.2)).put2 HL.out.2.1 (by have := Z1.out; omega) _ _, (P2.out.2.2.1.read P2.out.1 o3).put2 T3 _ _, ?_, T3.put2 val g⟩
      · unfold Rt at hr3 ⊢
        rw [heap_set_other hner, heap_set_other hner, hr3]
      · unfold BxT at T0 ⊢
        rw [heap_set_other hne, heap_set_other hne, T0])
    have HW4 := Lib.hid hw4
    clear hw4 T0 T3 hz1 P2 o3 hr3 hvs
    rcases HRD.out with ⟨hv, hrd⟩ | ⟨hv, hrd⟩
    · have hb : (vE s == 0) = false := beq_eq_false_iff_ne.2 hv
      have HVE := Lib.hid hv
      have HRD2 := Lib.hid hrd
      clear hv hrd
      generalize vE s = z at *
      go_upto_region 5 with (fail)
      rw [HW4.out]
      clear q0 q1 qf HW4
      have q0 := P4.out.2.2.2.1.c0
      have q1 := P4.out.2.2.2.1.c1
      have q2 := P4.out.2.2.2.1.c2
      have q3 := P4.out.2.2.2.1.c3
      have qf := P4.out.2.2.2.1.free
      go_wp2_with fail
      refine bodyPost_ret (results_told rfl _ _ w.heap.size noTld _ rfl rfl (P4.out.2.2.2.1.put noTld)) rfl ?_
      exact taker_no HRD2.out HVE.out P4.out.1 P4.out.2.1 P4.out.2.2.2.1 rfl HL.out.1 HL.out.2.1
    · rw [hv]
      have HVS2 := Lib.hid (HVS.out hv)
      clear hv HVS
      go_upto_region 5 with (fail)
      rw [HW4.out]
      clear q0 q1 qf HW4
      obtain ⟨v4, hc4, hO4⟩ := P4.out.2.2.1.row
      obtain ⟨a4, cap4, rfl⟩ := hO4.slice
      have cf1 : w4.frozen? ⟨c1, 0, none⟩ = false := by simp [World.frozen?, hc4]
      have cc1 : w4.cell? ⟨c1, 0, none⟩ = some (.slice a4 last.length cap4) := by simp [World.cell?, hc4]
      have hfl := P4.out.2.2.1.flag
      have cc2 : w4.cell? ⟨c2, 0, none⟩ = some (.bool first) := by simp [World.cell?, hfl]
      have HO4 := Lib.hid hO4
      have HC4 := Lib.hid hc4
      have g0 := P4.out.2.2.2.2.c0
      have g1 := P4.out.2.2.2.2.c1
      have g2 := P4.out.2.2.2.2.c2
      have g3 := P4.out.2.2.2.2.c3
      have HAB := Lib.hid (told_above k rest val last g _ w4 (Lib.hid hO4.by) hkl (by omega) (by omega) HSH)
      clear hO4 hc4 hfl HRD
      rcases hrd with ⟨hf, hlt, hrd⟩ | ⟨hnot, n, hrd, hdn⟩
      · subst hf
        rw [hlt] at HAB
        have HRD2 := Lib.hid hrd
        clear hlt hrd cf1
        go_wp2_with fail
        refine HAB.out.mono ?_
        rintro e w5 ⟨rfl, k5⟩
        have T5 := Lib.hid (P4.out.2.2.2.1.below k5)
        have P5 := Lib.hid (show Rt r (bs s2) w5 ∧ Tb B w w5 from ⟨(k5.block r P4.out.1.lt).trans P4.out.1, P4.out.2.1.trans (Tb.of_below k5 (by have := P4.out.1.lt; have := HL.out; omega))⟩)
        clear k5 cc1 cc2 g0 g1 g2 g3
        have q0 := T5.out.c0
        have q1 := T5.out.c1
        have q2 := T5.out.c2
        have q3 := T5.out.c3
        have qf := T5.out.free
        go_wp2_with fail
        refine bodyPost_ret (results_told rfl _ _ w.heap.size noTld _ rfl rfl (T5.out.put noTld)) rfl ?_
        exact taker_no HRD2.out (by decide) P5.out.1 P5.out.2 T5.out rfl HL.out.1 HL.out.2.1
      · have HN := Lib.hid hdn
        have HRD2 := Lib.hid hrd
        clear hdn hrd
        obtain ⟨i0, hi, hz0, hz1, hz2⟩ := info_parts info5
        obtain ⟨le1, le2, le3, le4⟩ := HO4.out.le
        have hsl := slice_to (P := Tryz.prog) (n := last.length) Tryz.underlying62 hi (show k ≤ cap4 by omega) le4 le3
        have HSL := Lib.hid hsl
        have HI := Lib.hid (And.intro hi (And.intro hz0 (And.intro hz1 hz2)))
        clear hsl hi hz0 hz1 hz2 cf1 le1 le2 le3 le4
        rcases Bool.eq_false_or_eq_true first with hfirst | hfirst
        rw [hfirst] at cc2
        clear hfirst HAB hnot
        go_wp2_with fail
        clear cc1 cc2 g0 g1 g2 g3
        rotate_left
        have hlt : ltB last (last.take k ++ rest) = true := by
          cases hq : ltB last (last.take k ++ rest) with
          | true => rfl
          | false => exact absurd ⟨hfirst, hq⟩ hnot
        rw [hfirst] at cc2
        rw [hlt] at HAB
        clear hfirst hnot hlt
        go_wp2_with fail
        refine HAB.out.mono ?_
        rintro e w5 ⟨rfl, k5⟩
        have P5 := Lib.hid (show Rt r (bs s2) w5 ∧ Tb B w w5 ∧ Ahd B c1 c2 first last w5 ∧ BxT w.heap.size noTld w5 ∧ BxT z1 ⟨k, rest, val, g⟩ w5 from
          ⟨(k5.block r P4.out.1.lt).trans P4.out.1, P4.out.2.1.trans (Tb.of_below k5 (by have := P4.out.1.lt; have := HL.out; omega)), P4.out.2.2.1.below k5, P4.out.2.2.2.1.below k5, P4.out.2.2.2.2.below k5⟩)
        have HC5 := Lib.hid ((k5.block c1 (heap_lt HC4.out)).trans HC4.out)
        have HO5 := Lib.hid (HO4.out.kept fun j hj => k5.block j (HO4.out.lt j hj).2)
        clear k5 cc1 cc2 g0 g1 g2 g3 P4 HC4 HO4 HAB
        have P4 := P5
        have HC4 := HC5
        have HO4 := HO5
        clear P5 HC5 HO5
        generalize w5 = w4 at *
        go_wp2_with fail
        all_goals
          have hsl := HSL.out
          obtain ⟨hi, hz0, hz1, hz2⟩ := HI.out
          have n1 : ∀ n : Seen w4, n.val.cell? ⟨c1, 0, none⟩ = some (.slice a4 last.length cap4) := fun n => by rw [n.below.cell (p := ⟨c1, 0, none⟩) (heap_lt HC4.out)]; simp [World.cell?, HC4.out]
          have n2 : ∀ n : Seen w4, n.val.cell? ⟨z1, 0, none⟩ = some (.int .i64 (k : Int)) := fun n => by rw [n.below.cell (p := ⟨z1, 0, none⟩) (heap_lt P4.out.2.2.2.2)]; exact P4.out.2.2.2.2.c0
          have n3 : ∀ n : Seen w4, n.val.cell? ⟨z1, 1, none⟩ = some (.string (bs rest)) := fun n => by rw [n.below.cell (p := ⟨z1, 1, none⟩) (heap_lt P4.out.2.2.2.2)]; exact P4.out.2.2.2.2.c1
          refine wp_region_seen_tail 6 (by kernel_rfl) (by kernel_rfl) ?_
          simp only [List.take_succ_cons, List.take_zero, List.drop_succ_cons, List.drop_zero]
          repeat go_big_quiet_step (fail)
          refine wpQuiet_nil ?_
          rintro _ ⟨m1, rfl⟩
          have P5 := Lib.hid (show Rt r (bs s2) m1.val ∧ Tb B w m1.val ∧ Ahd B c1 c2 first last m1.val ∧ BxT w.heap.size noTld m1.val ∧ BxT z1 ⟨k, rest, val, g⟩ m1.val from
            ⟨(m1.below.block r P4.out.1.lt).trans P4.out.1, P4.out.2.1.trans (Tb.of_below m1.below (by have := P4.out.1.lt; have := HL.out; omega)), P4.out.2.2.1.below m1.below, P4.out.2.2.2.1.below m1.below, P4.out.2.2.2.2.below m1.below⟩)
          have HC5 := Lib.hid ((m1.below.block c1 (heap_lt HC4.out)).trans HC4.out)
          have HO5 := Lib.hid ((HO4.out.kept fun j hj => m1.below.block j (HO4.out.lt j hj).2).take hkl)
          clear n1 n2 n3 P4 HC4 HO4 hsl
          generalize m1.val = w5 at *
          refine (wpList_append_offS rfl (.tmp 42) (.tmp 44) 62 9 rfl B 5 i0 _ 1 1 Tryz.underlying62 hi hz0 hz1 hz2 rfl (.slice a4 k cap4) k _ rfl HO5.out (.string (bs rest)) rfl (bs rest).size _ (Src.ofString _ Tryz.underlying9 (bs rest)) ?c3 ?c4 ?c5 ?_)
          case c3 => rw [bs_size]; unfold maxLen; omega
          case c4 => rw [bs_size]; omega
          case c5 => have := P5.out.1.lt; have := HL.out; omega
          intro v' w6 hr6 hg6 _
          have hkey : (last.take k ++ rest).length = k + (bs rest).size := by rw [List.length_append, List.length_take, bs_size]; omega
          have hmap : ((last.take k ++ rest).map fun b => Value.int .u8 b.toNat) = ((last.map fun b => Value.int .u8 b.toNat).take (k * 1)) ++ byteCells (bs rest) := by
            rw [List.map_append, Nat.mul_one, List.map_take]; rfl
          rw [← hkey, ← hmap] at hr6
          obtain ⟨key, hk0⟩ : ∃ key, key = last.take k ++ rest := ⟨_, rfl⟩
          rw [← hk0] at hr6
          have HA := Lib.hid (P5.out.2.2.1.next HC5.out HO5.out hg6 hr6)
          obtain ⟨nk, hnk⟩ : ∃ nk, nk = key.length := ⟨_, rfl⟩
          rw [← hnk] at hr6
          have gc1 := grown_other HO5.out hg6 HC5.out (by decide)
          have gc2 := grown_other HO5.out hg6 P5.out.2.2.1.flag (by decide)
          have n21 : c2 ≠ c1 := tag_ne gc2 gc1 (by decide)
          have e1 : w6.cell? ⟨c1, 0, none⟩ = some (.slice a4 last.length cap4) := by simp [World.cell?, gc1]
          have e1f : w6.frozen? ⟨c1, 0, none⟩ = false := by simp [World.frozen?, gc1]
          have gc3 : ∀ u, (w6.setCell ⟨c1, 0, none⟩ u).heap[c2]? = some (.cells #[.bool first] 4 (0, 0)) := fun u => (heap_set_other n21 u).trans gc2
          have e2 : ∀ u, (w6.setCell ⟨c1, 0, none⟩ u).cell? ⟨c2, 0, none⟩ = some (.bool first) := fun u => by simp [World.cell?, gc3 u]
          have e2f : ∀ u, (w6.setCell ⟨c1, 0, none⟩ u).frozen? ⟨c2, 0, none⟩ = false := fun u => by simp [World.frozen?, gc3 u]
          obtain ⟨a6, cap6, rfl⟩ := hr6.slice
          obtain ⟨w7, hw7⟩ : ∃ w7, (w6.setCell ⟨c1, 0, none⟩ (.slice a6 nk cap6)).setCell ⟨c2, 0, none⟩ (.bool false) = w7 := ⟨_, rfl⟩
          have P7 := Lib.hid (show Rt r (bs s2) w7 ∧ Tb B w w7 ∧ Ahd B c1 c2 false key w7 ∧ BxT w.heap.size noTld w7 ∧ BxT z1 ⟨k, rest, val, g⟩ w7 by
            have keep : ∀ (j : Nat) (cs : Array Value) (t : TypeId) (z : Nat × Nat), w5.heap[j]? = some (.cells cs t z) → t ≠ 5 → t ≠ 62 → t ≠ 4 → w7.heap[j]? = some (.cells cs t z) := fun j cs t z hj h1 h2 h3 => by
              have h6 := grown_other HO5.out hg6 hj h1
              rw [← hw7, heap_set_other (tag_ne h6 gc2 h3), heap_set_other (tag_ne h6 gc1 h2), h6]
            refine ⟨keep _ _ _ _ P5.out.1 (by decide) (by decide) (by decide), ?_, ?_, keep _ _ _ _ P5.out.2.2.2.1 (by decide) (by decide) (by decide), keep _ _ _ _ P5.out.2.2.2.2 (by decide) (by decide) (by decide)⟩
            · refine P5.out.2.1.trans ⟨?_, fun j cs z hj => keep _ _ _ _ hj (by decide) (by decide) (by decide)⟩
              rw [← hw7]
              exact (((Below.refl B w5).grown hg6 (by have := P5.out.1.lt; have := HL.out; omega) fun j hj => (HO5.out.lt j hj).1).setCell (p := ⟨c1, 0, none⟩) P5.out.2.2.1.b1 _).setCell (p := ⟨c2, 0, none⟩) P5.out.2.2.1.b2 _
            · rw [← hw7]; exact HA.out)
          have HW7 := Lib.hid hw7
          have HK0 := Lib.hid hk0
          clear HA hr6 hg6 hmap hkey hk0 hnk gc1 gc2 gc3 n21 hw7 P5 HC5 HO5
          go_upto_region 10 with (fail)
          rw [HW7.out]
          clear HW7 e1 e1f e2 e2f
          have q0 := P7.out.2.2.2.1.c0
          have q1 := P7.out.2.2.2.1.c1
          have q2 := P7.out.2.2.2.1.c2
          have q3 := P7.out.2.2.2.1.c3
          have qf := P7.out.2.2.2.1.free
          have g0 := P7.out.2.2.2.2.c0
          have g1 := P7.out.2.2.2.2.c1
          have g2 := P7.out.2.2.2.2.c2
          have g3 := P7.out.2.2.2.2.c3
          go_wp2_with fail
          refine bodyPost_ret (results_told rfl _ _ w.heap.size ⟨k, rest, val, g⟩ _ rfl rfl (P7.out.2.2.2.1.put ⟨k, rest, val, g⟩)) rfl ?_
          obtain ⟨hv1, hv2, hv3⟩ := HVS2.out
          have hx : rdE first last l = (0, ⟨key, val, g⟩, n) := by rw [HRD2.out, HK0.out, hv1, hv2]
          have hshx : sharedL last key = k := by rw [HK0.out]; exact HSH.out
          have hdrop : key.drop k = rest := by
            rw [HK0.out]
            have := List.drop_left (l₁ := last.take k) (l₂ := rest)
            rwa [List.length_take, Nat.min_eq_left hkl] at this
          have hne := HL.out
          refine ⟨⟨⟨k, rest, val, g⟩, s2, by rw [hx]; rfl, P7.out.1.put4 (by omega) _ _ _ _, fun _ => ?_⟩, P7.out.2.1.put4 HL.out.2.1 (Nat.le_refl _) _ _ _ _⟩
          rw [hx]
          refine ⟨by simp only [tldOf, hshx, hdrop], by simp only; rw [HN.out, hv3], ?_⟩
          exact P7.out.2.2.1.keep fun j cs ty z hj ht => by
            have hj2 := tag_ne hj P7.out.2.2.2.1 (by rcases ht with h | h | h <;> subst h <;> decide)
            rw [heap_set_other hj2, heap_set_other hj2, heap_set_other hj2, heap_set_other hj2, hj]
end Go.Proofs.YteejldddgogbkaaGreatDoor
