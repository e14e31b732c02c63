/- Texts put together: QTail, BoxRefPack, BoxBuild -/
import Derived.Test.YtlpknhiagdhkcaaBSp00
import Derived.StillTail
import Derived.Sort.QuietThIn
import Derived.TacticsIn
import Derived.RangeFuncCalls
import Derived.Test.YtlpknhiagdhkcaaBSp04
/- A region that draws its order, whose first m operations read or call quietly (each world of a class comes to the same), and whose rest is a chain behind them: one walk, whatever order is drawn; within a fence and without. -/
set_option linter.unusedVariables false
set_option maxRecDepth 100000
namespace Go.Proofs.Ytlpknhiagdhkcaa
open Go.RowKit

section
variable {F : Fence} {n : Nat} {P : Program} {ops : Array Oper} {md : Region.Mode} {C : World → Prop}

def wpAnyLQ (F : Fence) (n : Nat) (P : Program) (md : Region.Mode) (ops : Array Oper) (C : World → Prop) (m : Nat) (L : Array Bool → Act → Prop) : Nat → Array Bool → Act → Prop
  | 0, listed, a => L listed a
  | f + 1, listed, a =>
    Region.ready md ops listed ≠ [] ∧ ∀ i ∈ Region.ready md ops listed, i < m ∧ qOpIn F n P ops C i (wpAnyLQ F n P md ops C m L f (listed.setIfInBounds i true)) a

/-- Nowhere a 'defer': then an operation is run in a round as anywhere. -/
def noDefer (l : List Oper) : Bool := l.all fun o => match o.op with
  | .defer _ => false
  | _ => true
theorem noDefer_sem {l : List Oper} (h : noDefer l = true) (F : Fence) (i : Nat) (o : Oper) (ho : l.toArray[i]? = some o) (ρ : Operand → Value) : Oper.semAt F.round ρ o = execOp ρ o := by
  cases hr : F.round with
  | none => rw [Oper.semAt_none]
  | some r =>
    refine Oper.semAt_some r ρ o fun c hc => ?_
    have := List.all_eq_true.1 h o (List.mem_of_getElem? (by simpa using ho))
    rw [hc] at this
    cases this
theorem operIn_of_quiet {o : Oper} {a : Act} {K : Act → Prop} {K' : Act → World → Prop} {Q' : Exit → Act → World → Prop} {w : World} (hse : ∀ ρ, Oper.semAt F.round ρ o = execOp ρ o) (hw : C w) (h : ∀ a w', C w' → K a → K' a w')
    (ha : o.askedIn F P a C) (hh : o.quietIn F n P a C K) : o.wpIn F n P a w K' Q' := by
  obtain ⟨v, h1, h2⟩ := hh
  have h3 := h1 w hw
  unfold Oper.quietAtIn at h3
  unfold Oper.wpIn
  refine ⟨ha w hw, ?_⟩
  rw [hse]
  generalize (execOp a.eval o).run P w = r at *
  cases r with
  | ok x w' =>
    cases x <;> simp only [Oper.quietUponIn] at h3 <;> simp only [Oper.uponIn]
    case value u =>
      obtain ⟨e1, e2⟩ := h3
      rw [e1, e2]
      exact h _ _ hw h2
    case skip =>
      obtain ⟨e1, e2⟩ := h3
      rw [e1, ← e2]
      exact h _ _ hw h2
    case enter f args =>
      obtain ⟨e1, hd, hc⟩ := h3
      rw [e1]
      exact ⟨hd, hc.mono fun e w'' ⟨he, hw''⟩ => by subst he; exact h _ _ hw'' h2⟩
  | halt x w' => simp only [Oper.quietUponIn] at h3
theorem opIn_of_quiet {i : Nat} {a : Act} {K : Act → Prop} {K' : Act → World → Prop} {Q' : Exit → Act → World → Prop} {w : World} (hse : ∀ o, ops[i]? = some o → ∀ ρ, Oper.semAt F.round ρ o = execOp ρ o) (hC : C w) (h : ∀ a w', C w' → K a → K' a w')
    (hh : qOpIn F n P ops C i K a) : wpOpIn F n P ops Q' i K' a w := by
  unfold qOpIn at hh
  unfold wpOpIn
  split
  · rename_i ho; simp only [ho] at hh; exact h _ _ hC hh
  · rename_i o ho
    simp only [ho] at hh
    obtain ⟨ha, hh⟩ := hh
    split
    · rename_i hw; simp only [hw, if_true] at hh; exact operIn_of_quiet (hse o ho) hC h ha hh
    · rename_i hw; simp only [hw] at hh; exact ⟨ha w hC, h _ _ hC hh⟩

theorem wpAnyIn_of_headQ (hro : ∀ (i : Nat) (o : Oper), ops[i]? = some o → ∀ ρ, Oper.semAt F.round ρ o = execOp ρ o) {m g : Nat} {L : Array Bool → Act → Prop} {Q' : Exit → Act → World → Prop} (hL : ∀ listed a w, C w → L listed a → wpAnyIn F n P md ops Q' g listed a w) :
    ∀ (f : Nat) (listed : Array Bool) (a : Act) (w : World), C w → wpAnyLQ F n P md ops C m L f listed a → wpAnyIn F n P md ops Q' (f + g) listed a w
  | 0, listed, a, w, hC, h => by rw [Nat.zero_add]; exact hL _ _ _ hC h
  | f + 1, listed, a, w, hC, h => by
    rw [show f + 1 + g = (f + g) + 1 by omega]
    exact ⟨fun h0 => absurd h0 h.1, fun i hi => opIn_of_quiet (hro i) hC (fun a' w' hw' h' => wpAnyIn_of_headQ hro hL f _ a' w' hw' h') (h.2 i hi).2⟩

theorem wpAnyLQ_first {m i : Nat} {oi : Oper} {v : Value} {L : Array Bool → Act → Prop} (hi : ops[i]? = some oi) (hsel : ∀ (j : Nat) (o : Oper) cs b, ops[j]? = some o → o.op ≠ .select cs b)
    (hs : Region.sinkB md ops m = true) (hc : Region.chainB md ops m = true) (hn : m < ops.size) (hin : i < m)
    (hdone : ∀ listed a, L listed a → ∀ j ∈ Region.ready md ops listed, m ≤ j) :
    ∀ (f : Nat) (listed : Array Bool) (a : Act), HeadInv md ops m listed →
      (∀ j oj, ops[j]? = some oj → j ≠ i → listed.getD j true = false → (∀ e ∈ oj.after, Region.binds md e = true → e.on ≠ i) → oi.apart ops oj = true) →
      i ∈ Region.ready md ops listed → YieldsQuiet F n P ops C oi v a →
      wpAnyLQ F n P md ops C m L f (listed.setIfInBounds i true) (a.put oi.dst v) → wpAnyLQ F n P md ops C m L (f + 1) listed a := by
  intro f
  induction f with
  | zero =>
    intro listed a inv _ hr hy H
    have hun := (mem_ready.1 hr).1
    refine ⟨fun h => (by rw [h] at hr; cases hr), fun j hj => ?_⟩
    have hjn : j < m := by
      rcases Nat.lt_or_ge j m with h | h
      · exact h
      · exact absurd hj (tail_waits hs hc hn inv _ i rfl hin hun j h)
    refine ⟨hjn, ?_⟩
    by_cases hji : j = i
    · subst hji; exact hy.qOpIn hi H
    · have := hdone _ _ H j (ready_mono hj hji)
      omega
  | succ f ih =>
    intro listed a inv hfree hr hy H
    have hun := (mem_ready.1 hr).1
    refine ⟨fun h => (by rw [h] at hr; cases hr), fun j hj => ?_⟩
    have hjn : j < m := by
      rcases Nat.lt_or_ge j m with h | h
      · exact h
      · exact absurd hj (tail_waits hs hc hn inv _ i rfl hin hun j h)
    refine ⟨hjn, ?_⟩
    by_cases hji : j = i
    · subst hji; exact hy.qOpIn hi H
    · have h1 := (H.2 j (ready_mono hj hji)).2
      obtain ⟨hjun, oj, hoj, hall⟩ := mem_ready.1 hj
      have hnot : ∀ e ∈ oj.after, Region.binds md e = true → e.on ≠ i := fun e he hb heq => by
        have h1 := hall e he hb
        rw [heq, getD_both hun] at h1
        cases h1
      have h2 := qOpIn_put hoj (hfree j oj hoj hji hjun hnot) (fun cs b => hsel i oi cs b hi) (fun cs b => hsel j oj cs b hoj) hy h1
      have hfree' : ∀ k ok, ops[k]? = some ok → k ≠ i → (listed.setIfInBounds j true).getD k true = false →
          (∀ e ∈ ok.after, Region.binds md e = true → e.on ≠ i) → oi.apart ops ok = true := fun k ok hk hki hun hno => by
        refine hfree k ok hk hki ?_ hno
        by_cases hjk : j = k
        · subst hjk; exact hjun
        · rw [getD_set_ne true hjk] at hun; exact hun
      refine qOpIn_mono (fun a' h3 => ih (listed.setIfInBounds j true) a' (inv.set hj hjn) hfree' (ready_mono hr (Ne.symm hji)) h3.1 ?_) h2
      rw [Array.setIfInBounds_comm _ _ hji]
      exact h3.2

theorem wpAnyIn_of_seq {Q' : Exit → Act → World → Prop} : ∀ (l : List Oper) (k : Nat) (listed : Array Bool) (a : Act) (w : World), (∀ j, l[j]? = ops[k + j]?) →
    Region.seqB md ops l.length k listed = true → wpListIn F n P ops Q' l a w → wpAnyIn F n P md ops Q' l.length listed a w
  | [], _, _, _, _, _, hB, h => ⟨by simpa [Region.seqB] using hB, h⟩
  | o :: l, k, listed, a, w, hl, hB, h => by
    have h0 : ops[k]? = some o := by simpa using (hl 0).symm
    simp only [List.length_cons, Region.seqB, Bool.and_eq_true, decide_eq_true_eq] at hB
    refine ⟨fun h1 => (by rw [hB.1] at h1; cases h1), fun i hi => ?_⟩
    rw [hB.1] at hi
    have hik : i = k := by simpa using hi
    subst hik
    have hw : wpOpIn F n P ops Q' i (wpListIn F n P ops Q' l) a w := by unfold wpOpIn; simp only [h0]; exact h
    exact wpOpIn_mono (fun a' w' h' => wpAnyIn_of_seq l (i + 1) _ a' w' (fun j => by have := hl (j + 1); simpa [Nat.add_assoc, Nat.add_comm 1 j] using this) hB.2 h') hw

theorem wpAnyLQ_lex {m g : Nat} {Lq : Act → Prop} (hsel : Region.noSelect ops = true) (hs : Region.sinkB md ops m = true) (hc : Region.chainB md ops m = true) (hn : m < ops.size) :
    ∀ (l : List Oper) (k : Nat) (listed : Array Bool) (a : Act), (∀ j, j < l.length → l[j]? = ops[k + j]?) → k + l.length = m → HeadInv md ops m listed →
    Region.lexHead md ops g l.length k listed = true → wpQuietIn F n P ops C Lq l a →
    wpAnyLQ F n P md ops C m (fun listed' a' => Region.seqB md ops g m listed' = true ∧ Lq a') l.length listed a
  | [], k, listed, a, _, hk, _, hB, h => by
    have : k = m := by simpa using hk
    subst this
    exact ⟨by simpa [Region.lexHead] using hB, h⟩
  | o :: l, k, listed, a, hl, hk, inv, hB, h => by
    have h0 : ops[k]? = some o := by simpa using (hl 0 (by simp)).symm
    simp only [List.length_cons, Region.lexHead, Bool.and_eq_true] at hB
    obtain ⟨⟨hr, hf⟩, hB'⟩ := hB
    have hkn : k < m := by simp only [List.length_cons] at hk; omega
    have hr' : k ∈ Region.ready md ops listed := by simpa using hr
    have hst : qOpIn F n P ops C k (wpQuietIn F n P ops C Lq l) a := by unfold qOpIn; simp only [h0]; exact h
    obtain ⟨v, hy, hK⟩ := yieldsQuiet_of_qOpIn h0 hst
    exact wpAnyLQ_first h0 (Region.noSelect_spec hsel) hs hc hn hkn (fun listed' a' hL => seqB_ready hL.1) l.length listed a inv (Region.free_spec h0 hf) hr' hy
      (wpAnyLQ_lex hsel hs hc hn l (k + 1) _ _ (fun j hj => by have := hl (j + 1) (by simp; omega); simpa [Nat.add_assoc, Nat.add_comm 1 j] using this) (by simp only [List.length_cons] at hk; omega) (inv.set hr' hkn) hB' hK)

/-- THE FIRST m OPERATIONS QUIET, THE REST A CHAIN BEHIND THEM, WITHIN A FENCE. -/
theorem wpIn_region_quiet_tail {id : Nat} {Q : Exit → Act → World → Prop} {a : Act} {w : World} {l : List Oper} (m : Nat) (hro : ∀ (i : Nat) (o : Oper), l.toArray[i]? = some o → ∀ ρ, Oper.semAt F.round ρ o = execOp ρ o) (hm : P.follows .mixedOrders = true) (hB : Region.lexTailB .any l.toArray m = true) (hC : C { w with drawn := w.drawn + 1 })
    (h : wpQuietIn F n P l.toArray C (fun a' => ∀ w', C w' → wpListIn F n P l.toArray Q (l.drop m) a' w') (l.take m) a) : (Code.region id l.toArray true).wpIn F n P Q a w := by
  simp only [Region.lexTailB, Bool.and_eq_true, decide_eq_true_eq] at hB
  obtain ⟨⟨⟨⟨hsel, hn⟩, hs⟩, hc⟩, hlex⟩ := hB
  have hn' : m < l.length := by simpa using hn
  have htl : (l.take m).length = m := by simp; omega
  have hdl : (l.drop m).length = l.toArray.size - m := by simp
  have inv0 : HeadInv .any l.toArray m (Array.replicate l.toArray.size false) :=
    ⟨by simp, fun j oj _ hl => (by rw [getD_replicate_false] at hl; cases hl), fun t _ ht => getD_in (by simpa using ht) (getD_replicate_false _ _)⟩
  have H := wpAnyLQ_lex (md := .any) (g := l.toArray.size - m) hsel hs hc hn (l.take m) 0 _ a (fun j hj => by
    have hj' : j < m := by rw [htl] at hj; exact hj
    simp [hj']) (by simpa using htl) inv0 (by rw [htl]; exact hlex) h
  refine wpIn_region_any hm ?_
  have := wpAnyIn_of_headQ (Q' := Q) (g := l.toArray.size - m) hro (fun listed a' w' hC' hL => by
    have := wpAnyIn_of_seq (md := .any) (Q' := Q) (l.drop m) m listed a' w' (fun j => by simp [List.getElem?_drop]) (by rw [hdl]; exact hL.1) (hL.2 w' hC')
    rw [hdl] at this
    exact this) _ _ _ _ hC H
  rw [htl, show m + (l.toArray.size - m) = l.toArray.size by omega] at this
  exact this

/-! ### At the wide fence the plain steps serve -/
structure Wide (F : Fence) : Prop where
  fn : ∀ f, F.fn f
  depth : F.depth.isSome = true → False
  calls : ∀ {n : Nat} {P : Program} {f : FuncId} {args : Array Value} {w : World} {R : Ending → World → Prop}, Calls P f args w R → CallsIn F n P f args w R
theorem wide_wide : Wide Fence.wide := ⟨fun _ => trivial, fun h => by simp [Fence.wide] at h, fun h => callsIn_wide.2 h⟩
theorem wide_round (r : Nat) : Wide (Fence.wide.inRound r) := ⟨fun _ => trivial, fun h => by simp [Fence.wide] at h, fun h => CallsIn.inRound r (callsIn_wide.2 h)⟩
theorem quietIn_wide (hF : Wide F) {o : Oper} {a : Act} {K K' : Act → Prop} (h : ∀ a, K a → K' a) (hh : o.quiet P a C K) : o.quietIn F n P a C K' := by
  obtain ⟨v, h1, h2⟩ := hh
  refine ⟨v, fun w hw => ?_, h _ h2⟩
  have h3 := h1 w hw
  unfold Oper.quietAt at h3
  unfold Oper.quietAtIn
  generalize (execOp a.eval o).run P w = r at *
  cases r with
  | ok x w' =>
    cases x <;> simp only [Oper.quietUpon, Oper.quietUponIn] at h3 ⊢
    case value u => exact h3
    case skip => exact h3
    case enter f args => exact ⟨h3.1, fun h => (hF.depth h).elim, hF.calls h3.2⟩
  | halt x w' => simp only [Oper.quietUpon] at h3
theorem wpQuietIn_wide (hF : Wide F) {Q : Act → Prop} : ∀ (l : List Oper) (a : Act), wpQuiet P ops C Q l a → wpQuietIn F n P ops C Q l a
  | [], a, h => h
  | o :: l, a, h => by
    refine ⟨fun _ _ f _ => hF.fn f, ?_⟩
    unfold wpQuiet at h
    split
    · rename_i hw; simp only [hw, if_true] at h; exact quietIn_wide hF (fun a' h' => wpQuietIn_wide hF l a' h') h
    · rename_i hw; simp only [hw] at h; exact wpQuietIn_wide hF l _ h
/-- A QUIET HEAD WITH A CHAIN BEHIND IT, whose last part may call what the walk hands on (a round): the head by the plain steps. -/
theorem wpIn_region_seen_tail {id : Nat} {Q : Exit → Act → World → Prop} {a : Act} {w : World} {l : List Oper} (m : Nat) (hm : P.follows .mixedOrders = true) (hB : Region.lexTailB .any l.toArray m = true)
    (h : wpQuiet P l.toArray (fun w' => ∃ n : Seen w, w' = n.val) (fun a' => ∀ w', (∃ n : Seen w, w' = n.val) → wpListIn Fence.wide n P l.toArray Q (l.drop m) a' w') (l.take m) a) : (Code.region id l.toArray true).wpIn Fence.wide n P Q a w :=
  wpIn_region_quiet_tail (C := fun w' => ∃ n : Seen w, w' = n.val) m (fun _ _ _ _ => Oper.semAt_none ..) hm hB ⟨⟨w.drew, (Below.refl _ _).drew⟩, rfl⟩ (wpQuietIn_wide wide_wide _ _ h)
/-- The same in a round. -/
theorem wpIn_round_seen_tail {r id : Nat} {Q : Exit → Act → World → Prop} {a : Act} {w : World} {l : List Oper} (m : Nat) (hm : P.follows .mixedOrders = true) (hB : Region.lexTailB .any l.toArray m = true) (hd : noDefer l = true)
    (h : wpQuiet P l.toArray (fun w' => ∃ n : Seen w, w' = n.val) (fun a' => ∀ w', (∃ n : Seen w, w' = n.val) → wpListIn (Fence.wide.inRound r) n P l.toArray Q (l.drop m) a' w') (l.take m) a) : (Code.region id l.toArray true).wpIn (Fence.wide.inRound r) n P Q a w :=
  wpIn_region_quiet_tail (C := fun w' => ∃ n : Seen w, w' = n.val) m (noDefer_sem hd _) hm hB ⟨⟨w.drew, (Below.refl _ _).drew⟩, rfl⟩ (wpQuietIn_wide (wide_round r) _ _ h)

/-! ### The same, no fence in sight (by program) -/
def wpAnyLP (P : Program) (md : Region.Mode) (ops : Array Oper) (C : World → Prop) (m : Nat) (L : Array Bool → Act → Prop) : Nat → Array Bool → Act → Prop
  | 0, listed, a => L listed a
  | f + 1, listed, a =>
    Region.ready md ops listed ≠ [] ∧ ∀ i ∈ Region.ready md ops listed, i < m ∧ qOp P ops C i (wpAnyLP P md ops C m L f (listed.setIfInBounds i true)) a

theorem wpAny_of_headQ {m g : Nat} {L : Array Bool → Act → Prop} {Q' : Exit → Act → World → Prop} (hL : ∀ listed a w, C w → L listed a → wpAny P md ops Q' g listed a w) :
    ∀ (f : Nat) (listed : Array Bool) (a : Act) (w : World), C w → wpAnyLP P md ops C m L f listed a → wpAny P md ops Q' (f + g) listed a w
  | 0, listed, a, w, hC, h => by rw [Nat.zero_add]; exact hL _ _ _ hC h
  | f + 1, listed, a, w, hC, h => by
    rw [show f + 1 + g = (f + g) + 1 by omega]
    exact ⟨fun h0 => absurd h0 h.1, fun i hi => wpOp_of_qOp hC (fun a' w' hw' h' => wpAny_of_headQ hL f _ a' w' hw' h') (h.2 i hi).2⟩

theorem wpAnyLP_first {m i : Nat} {oi : Oper} {v : Value} {L : Array Bool → Act → Prop} (hi : ops[i]? = some oi) (hsel : ∀ (j : Nat) (o : Oper) cs b, ops[j]? = some o → o.op ≠ .select cs b)
    (hs : Region.sinkB md ops m = true) (hc : Region.chainB md ops m = true) (hn : m < ops.size) (hin : i < m)
    (hdone : ∀ listed a, L listed a → ∀ j ∈ Region.ready md ops listed, m ≤ j) :
    ∀ (f : Nat) (listed : Array Bool) (a : Act), HeadInv md ops m listed →
      (∀ j oj, ops[j]? = some oj → j ≠ i → listed.getD j true = false → (∀ e ∈ oj.after, Region.binds md e = true → e.on ≠ i) → oi.apart ops oj = true) →
      i ∈ Region.ready md ops listed → YieldsIn P ops C oi v a →
      wpAnyLP P md ops C m L f (listed.setIfInBounds i true) (a.put oi.dst v) → wpAnyLP P md ops C m L (f + 1) listed a := by
  intro f
  induction f with
  | zero =>
    intro listed a inv _ hr hy H
    have hun := (mem_ready.1 hr).1
    refine ⟨fun h => (by rw [h] at hr; cases hr), fun j hj => ?_⟩
    have hjn : j < m := by
      rcases Nat.lt_or_ge j m with h | h
      · exact h
      · exact absurd hj (tail_waits hs hc hn inv _ i rfl hin hun j h)
    refine ⟨hjn, ?_⟩
    by_cases hji : j = i
    · subst hji; exact hy.qOp hi H
    · have := hdone _ _ H j (ready_mono hj hji)
      omega
  | succ f ih =>
    intro listed a inv hfree hr hy H
    have hun := (mem_ready.1 hr).1
    refine ⟨fun h => (by rw [h] at hr; cases hr), fun j hj => ?_⟩
    have hjn : j < m := by
      rcases Nat.lt_or_ge j m with h | h
      · exact h
      · exact absurd hj (tail_waits hs hc hn inv _ i rfl hin hun j h)
    refine ⟨hjn, ?_⟩
    by_cases hji : j = i
    · subst hji; exact hy.qOp hi H
    · have h1 := (H.2 j (ready_mono hj hji)).2
      obtain ⟨hjun, oj, hoj, hall⟩ := mem_ready.1 hj
      have hnot : ∀ e ∈ oj.after, Region.binds md e = true → e.on ≠ i := fun e he hb heq => by
        have h1 := hall e he hb
        rw [heq, getD_both hun] at h1
        cases h1
      have h2 := qOp_put hoj (hfree j oj hoj hji hjun hnot) (fun cs b => hsel i oi cs b hi) (fun cs b => hsel j oj cs b hoj) hy h1
      have hfree' : ∀ k ok, ops[k]? = some ok → k ≠ i → (listed.setIfInBounds j true).getD k true = false →
          (∀ e ∈ ok.after, Region.binds md e = true → e.on ≠ i) → oi.apart ops ok = true := fun k ok hk hki hun hno => by
        refine hfree k ok hk hki ?_ hno
        by_cases hjk : j = k
        · subst hjk; exact hjun
        · rw [getD_set_ne true hjk] at hun; exact hun
      refine qOp_mono (fun a' h3 => ih (listed.setIfInBounds j true) a' (inv.set hj hjn) hfree' (ready_mono hr (Ne.symm hji)) h3.1 ?_) h2
      rw [Array.setIfInBounds_comm _ _ hji]
      exact h3.2

theorem wpAnyLP_lex {m g : Nat} {Lq : Act → Prop} (hsel : Region.noSelect ops = true) (hs : Region.sinkB md ops m = true) (hc : Region.chainB md ops m = true) (hn : m < ops.size) :
    ∀ (l : List Oper) (k : Nat) (listed : Array Bool) (a : Act), (∀ j, j < l.length → l[j]? = ops[k + j]?) → k + l.length = m → HeadInv md ops m listed →
    Region.lexHead md ops g l.length k listed = true → wpQuiet P ops C Lq l a →
    wpAnyLP P md ops C m (fun listed' a' => Region.seqB md ops g m listed' = true ∧ Lq a') l.length listed a
  | [], k, listed, a, _, hk, _, hB, h => by
    have : k = m := by simpa using hk
    subst this
    exact ⟨by simpa [Region.lexHead] using hB, h⟩
  | o :: l, k, listed, a, hl, hk, inv, hB, h => by
    have h0 : ops[k]? = some o := by simpa using (hl 0 (by simp)).symm
    simp only [List.length_cons, Region.lexHead, Bool.and_eq_true] at hB
    obtain ⟨⟨hr, hf⟩, hB'⟩ := hB
    have hkn : k < m := by simp only [List.length_cons] at hk; omega
    have hr' : k ∈ Region.ready md ops listed := by simpa using hr
    have hst : qOp P ops C k (wpQuiet P ops C Lq l) a := by unfold qOp; simp only [h0]; exact h
    obtain ⟨v, hy, hK⟩ := yieldsIn_of_qOp h0 hst
    exact wpAnyLP_first h0 (Region.noSelect_spec hsel) hs hc hn hkn (fun listed' a' hL => seqB_ready hL.1) l.length listed a inv (Region.free_spec h0 hf) hr' hy
      (wpAnyLP_lex hsel hs hc hn l (k + 1) _ _ (fun j hj => by have := hl (j + 1) (by simp; omega); simpa [Nat.add_assoc, Nat.add_comm 1 j] using this) (by simp only [List.length_cons] at hk; omega) (inv.set hr' hkn) hB' hK)

/-- THE FIRST m OPERATIONS QUIET, THE REST A CHAIN BEHIND THEM, NO FENCE IN SIGHT. -/
theorem wp_region_quiet_tail {id : Nat} {Q : Exit → Act → World → Prop} {a : Act} {w : World} {l : List Oper} (m : Nat) (hm : P.follows .mixedOrders = true) (hB : Region.lexTailB .any l.toArray m = true) (hC : C { w with drawn := w.drawn + 1 })
    (h : wpQuiet P l.toArray C (fun a' => ∀ w', C w' → wpList P l.toArray Q (l.drop m) a' w') (l.take m) a) : (Code.region id l.toArray true).wp P Q a w := by
  simp only [Region.lexTailB, Bool.and_eq_true, decide_eq_true_eq] at hB
  obtain ⟨⟨⟨⟨hsel, hn⟩, hs⟩, hc⟩, hlex⟩ := hB
  have hn' : m < l.length := by simpa using hn
  have htl : (l.take m).length = m := by simp; omega
  have hdl : (l.drop m).length = l.toArray.size - m := by simp
  have inv0 : HeadInv .any l.toArray m (Array.replicate l.toArray.size false) :=
    ⟨by simp, fun j oj _ hl => (by rw [getD_replicate_false] at hl; cases hl), fun t _ ht => getD_in (by simpa using ht) (getD_replicate_false _ _)⟩
  have H := wpAnyLP_lex (md := .any) (g := l.toArray.size - m) hsel hs hc hn (l.take m) 0 _ a (fun j hj => by
    have hj' : j < m := by rw [htl] at hj; exact hj
    simp [hj']) (by simpa using htl) inv0 (by rw [htl]; exact hlex) h
  refine wp_region_any hm ?_
  have := wpAny_of_headQ (Q' := Q) (g := l.toArray.size - m) (fun listed a' w' hC' hL => by
    have := wpAny_of_seq (md := .any) (Q' := Q) (l.drop m) m listed a' w' (fun j => by simp [List.getElem?_drop]) (by rw [hdl]; exact hL.1) (hL.2 w' hC')
    rw [hdl] at this
    exact this) _ _ _ _ hC H
  rw [htl, show m + (l.toArray.size - m) = l.toArray.size by omega] at this
  exact this

theorem wp_region_seen_tail {id : Nat} {Q : Exit → Act → World → Prop} {a : Act} {w : World} {l : List Oper} (m : Nat) (hm : P.follows .mixedOrders = true) (hB : Region.lexTailB .any l.toArray m = true)
    (h : wpQuiet P l.toArray (fun w' => ∃ n : Seen w, w' = n.val) (fun a' => ∀ w', (∃ n : Seen w, w' = n.val) → wpList P l.toArray Q (l.drop m) a' w') (l.take m) a) : (Code.region id l.toArray true).wp P Q a w :=
  wp_region_quiet_tail (C := fun w' => ∃ n : Seen w, w' = n.val) m hm hB ⟨⟨w.drew, (Below.refl _ _).drew⟩, rfl⟩ h
end
end Go.Proofs.Ytlpknhiagdhkcaa
/- The document packs a record. -/
set_option linter.unusedVariables false
set_option maxRecDepth 100000
namespace Go.Proofs.Ytlpknhiagdhkcaa
open Go.RowKit

set_option maxHeartbeats 8000000 in
theorem ref_Pack (r : RecB) (w : World) (hr : r.Ok) (hb : r.body.length ≤ 1000000000000) :
    Calls Try.prog 12 #[.agg (recA r)] w fun e w' => e = .returned (.tuple #[.string (bs (packT r)), .int .i64 (packE r)]) ∧ Below w.heap.size w w' := by
  obtain ⟨B, hB⟩ : ∃ B, B = w.heap.size := ⟨_, rfl⟩
  obtain ⟨w1, hw1⟩ : ∃ w1, w1 = w.alloc (.cells (recA r) 25) := ⟨_, rfl⟩
  have K1 := Lib.hid (show Below w.heap.size w w1 by rw [hw1]; exact (Below.refl _ w).alloc (Nat.le_refl _) _)
  have N1 := Lib.hid (show RecIn B 25 r w1 by rw [hw1, hB]; exact RecIn.new w _ _)
  have c65 := N1.out.body hr
  have c64 := N1.out.patch hr
  have HB := Lib.hid hB
  have HW := Lib.hid hw1
  have hsz : (bs r.body).size = r.body.length := bs_size _
  have HHR := Lib.hid hr
  clear hB hw1 hr
  by_cases h1 : 8192 < r.body.length
  · have hE := Lib.hid (show packE r = 6 by unfold packE; rw [if_pos h1])
    have h1' : (8192 : Int) < ((bs r.body).size : Int) := by rw [hsz]; omega
    clear h1 hsz
    go_enter Try.func12, Try.ntmps12
    go_upto_region 1 with (fail)
    rw [← HB.out, ← HW.out]
    go_wp2
    go_ret2
    exact ⟨by rw [hE.out, packT_no (by rw [hE.out]; decide)]; rfl, K1.out⟩
  · have h1' : ¬ (8192 : Int) < ((bs r.body).size : Int) := by rw [hsz]; omega
    have H1 := Lib.hid h1
    clear h1 hsz
    have HLK := Lib.hid (show w1.rangeAt B 32 (kcs r.base).toArray.toList from N1.out.rbase HHR.out)
    have IK := Lib.hid (show (Try.prog.info? 23).map (·.size) = some (kcs r.base).toArray.toList.length from info_keyL HHR.out.base)
    have hnq := fun W => neq_keys r.base zero32 HHR.out.base zero32_len W
    rw [zero32_lit] at hnq
    obtain ⟨p, hp⟩ : ∃ p, p = r.patch := ⟨_, rfl⟩
    rw [← hp] at c64
    have HP := Lib.hid hp
    clear hp
    have hs1 := slice_key B 0 w1
    have hc1 := N1.out.strKey HHR.out
    cases p
    · by_cases h2 : r.base = zero32
      · have hnb : (!(r.base == zero32)) = false := by simp [h2]
        rw [hnb] at hnq
        have H2 := Lib.hid h2
        have HM := Lib.hid (show midR r = whole 0 by unfold midR; rw [if_neg (by rw [← HP.out]; decide)])
        clear h2
        go_enter Try.func12, Try.ntmps12
        go_upto_region 1 with (fail)
        rw [← HB.out, ← HW.out]
        go_wp2_with (first | (refine wpList_load_arr rfl 23 (.tmp 13) rfl B 32 rfl (kcs r.base).toArray _ HLK.out Try.underlying23 rfl IK.out ?_) | fail)
        clear hnq hnb hs1 hc1
        refine (ref_Whole 0 w1 (by omega) (by omega)).mono ?_
        rintro e w5 ⟨rfl, k5⟩
        have K5 := Lib.hid (K1.out.trans (k5.mono K1.out.size))
        have N5 := Lib.hid (N1.out.below k5 N1.out.lt)
        have hcat := bs_cat r.key (bs (whole 0))
        have hsum : ((bs r.key).size : Int) + ((bs (whole 0)).size : Int) ≤ 9223372036854775807 := by rw [bs_size, bs_size, HHR.out.key, whole0]; decide
        rw [bs_list, ← HM.out] at hcat
        rw [← HM.out] at hsum ⊢
        clear k5
        have c5 := N5.out.body HHR.out
        go_wp2_with fail
        refine (ref_Text (bs r.body) w5 (by rw [bs_size]; omega)).mono ?_
        rintro e w6 ⟨rfl, k6⟩
        have K6 := Lib.hid (K5.out.trans (k6.mono K5.out.size))
        have HML := Lib.hid (show (r.key ++ midR r).length ≤ 65 by rw [HM.out]; simp [HHR.out.key, HHR.out.base, whole1, whole0])
        have HTL := Lib.hid (text_le (r := r.body) (by omega))
        have hcat' := bs_cat (r.key ++ midR r) (bs (text r.body))
        rw [bs_list, List.append_assoc, show r.key ++ (midR r ++ text r.body) = partsR r from rfl] at hcat'
        have hsum' : ((bs (r.key ++ midR r)).size : Int) + ((bs (text r.body)).size : Int) ≤ 9223372036854775807 := by rw [bs_size, bs_size]; have := HML.out; have := HTL.out; omega
        rw [bs_list]
        clear k6
        go_wp2_with fail
        refine (ref_Put (bs (partsR r)) w6 (by rw [bs_size]; exact Nat.le_trans (partsR_le HHR.out (by omega)) (by omega))).mono ?_
        rintro e w7 ⟨rfl, k7⟩
        have K7 := Lib.hid (K6.out.trans (k7.mono K6.out.size))
        clear k7
        rw [bs_list]
        go_wp2
        go_ret2
        have hE : packE r = 0 := packE_of (by have := H1.out; omega) (fun _ => H2.out)
        exact ⟨by rw [hE, packT_ok hE]; rfl, K7.out⟩
      · have hnb : (!(r.base == zero32)) = true := by simp [h2]
        rw [hnb] at hnq
        have hE := Lib.hid (show packE r = 1 by unfold packE; rw [if_neg H1.out, if_pos ⟨HP.out.symm, h2⟩])
        clear h2
        go_enter Try.func12, Try.ntmps12
        go_upto_region 1 with (fail)
        rw [← HB.out, ← HW.out]
        go_wp2_with (first | (refine wpList_load_arr rfl 23 (.tmp 13) rfl B 32 rfl (kcs r.base).toArray _ HLK.out Try.underlying23 rfl IK.out ?_) | fail)
        go_ret2
        exact ⟨by rw [hE.out, packT_no (by rw [hE.out]; decide)]; rfl, K1.out⟩
    · have HM := Lib.hid (show midR r = whole 1 ++ r.base by unfold midR; rw [if_pos HP.out.symm])
      clear hnq
      go_enter Try.func12, Try.ntmps12
      go_upto_region 1 with (fail)
      rw [← HB.out, ← HW.out]
      go_wp2_with fail
      have HX := Lib.hid N1.out.lt
      have n1 : ∀ n : Seen w1, (Instr.sliceAt 23 (.pointer (some ⟨B, 32, none⟩)) none none none).run Try.prog n.val = .ok (.slice (some ⟨B, 32, none⟩) 32 32) n.val := fun n => slice_key B 32 n.val
      have n2 : ∀ n : Seen w1, (convert 76 9 (.slice (some ⟨B, 32, none⟩) 32 32)).run Try.prog n.val = .ok (.string (bs r.base)) n.val := fun n => (N1.out.below n.below HX.out).strBase HHR.out
      have G0 := Lib.hid (seen_of (fun W => ref_Whole 1 W (by omega) (by omega)) w1)
      have hcat1 := bs_cat r.key (bs (whole 1))
      rw [bs_list] at hcat1
      have hcat2 := bs_cat (r.key ++ whole 1) (bs r.base)
      rw [bs_list, List.append_assoc, ← HM.out] at hcat2
      have hsum1 : ((bs r.key).size : Int) + ((bs (whole 1)).size : Int) ≤ 9223372036854775807 := by rw [bs_size, bs_size, HHR.out.key, whole1]; decide
      have hsum2 : ((bs (r.key ++ whole 1)).size : Int) + ((bs r.base).size : Int) ≤ 9223372036854775807 := by rw [bs_size, bs_size, List.length_append, HHR.out.key, HHR.out.base, whole1]; decide
      clear hs1 hc1
      refine region_seen (by kernel_rfl) (by kernel_rfl) ?_
      repeat go_big_quiet_step (first | (go_at_call 37; with_reducible exact G0.out _))
      refine wpQuiet_nil ?_
      rintro _ ⟨m1, rfl⟩
      have K5 := Lib.hid (K1.out.trans (m1.below.mono K1.out.size))
      have N5 := Lib.hid (N1.out.below m1.below HX.out)
      generalize m1.val = w5 at *
      clear n1 n2 G0 hcat1 hcat2 hsum1 hsum2
      have c5 := N5.out.body HHR.out
      go_wp2_with fail
      refine (ref_Text (bs r.body) w5 (by rw [bs_size]; omega)).mono ?_
      rintro e w6 ⟨rfl, k6⟩
      have K6 := Lib.hid (K5.out.trans (k6.mono K5.out.size))
      have HML := Lib.hid (show (r.key ++ midR r).length ≤ 65 by rw [HM.out]; simp [HHR.out.key, HHR.out.base, whole1, whole0])
      have HTL := Lib.hid (text_le (r := r.body) (by omega))
      have hcat' := bs_cat (r.key ++ midR r) (bs (text r.body))
      rw [bs_list, List.append_assoc, show r.key ++ (midR r ++ text r.body) = partsR r from rfl] at hcat'
      have hsum' : ((bs (r.key ++ midR r)).size : Int) + ((bs (text r.body)).size : Int) ≤ 9223372036854775807 := by rw [bs_size, bs_size]; have := HML.out; have := HTL.out; omega
      rw [bs_list]
      clear k6
      go_wp2_with fail
      refine (ref_Put (bs (partsR r)) w6 (by rw [bs_size]; exact Nat.le_trans (partsR_le HHR.out (by omega)) (by omega))).mono ?_
      rintro e w7 ⟨rfl, k7⟩
      have K7 := Lib.hid (K6.out.trans (k7.mono K6.out.size))
      clear k7
      rw [bs_list]
      go_wp2
      go_ret2
      have hE : packE r = 0 := packE_of (by have := H1.out; omega) (fun x => by rw [← HP.out] at x; cases x)
      exact ⟨by rw [hE, packT_ok hE]; rfl, K7.out⟩
end Go.Proofs.Ytlpknhiagdhkcaa
/- The document goes over a record. -/
set_option linter.unusedVariables false
set_option maxRecDepth 100000
namespace Go.Proofs.Ytlpknhiagdhkcaa
open Go.RowKit

theorem results_cell3 {fn : Func} {p u v : Tmp} {ty : TypeId} (h : fn.results = #[.cell p ty, .tmp u, .tmp v]) (tmps : Array Value) (P : Program) (w : World) (b o : Nat) (cs : List Value) (d : TypeDesc) (x y : Value) (hp : tmps.getD p undef = .pointer (some ⟨b, o, none⟩)) (hx : tmps.getD u undef = x) (hy : tmps.getD v undef = y) (hc : w.rangeAt b o cs)
    (hu : P.underlying ty = some d) (hd : d.isRow = true) (hi : (P.info? ty).map (·.size) = some cs.length) :
    (results fn tmps).run P w = .ok (.tuple #[.agg cs.toArray, x, y]) w := by
  have hl := run_loadVar_mid w b o ty cs d hc hu hd hi
  have hp' : tmps[p]?.getD undef = .pointer (some ⟨b, o, none⟩) := by simpa using hp
  have hx' : tmps[u]?.getD undef = x := by simpa using hx
  have hy' : tmps[v]?.getD undef = y := by simpa using hy
  simp only [results, h]
  simp [Sem.run_bind, Result.andThen, hp', hx', hy', asAddr, hl]
theorem info_refL {r : RecB} (h : r.Ok) : (Try.prog.info? 25).map (·.size) = some (recC r).length := by rw [recC_len h]; exact info_ref
theorem zeroA_ref : recA RecB.zero = Try.zeroCells25 := by kernel_rfl
theorem rdR_no {l : List UInt8} (h : rdE l ≠ 0) : rdR l = RecB.zero ∧ rdK l = 0 := ⟨by unfold rdR; rw [if_neg h], by unfold rdK; rw [if_neg h]⟩

/-! ### Records put together -/
theorem fold_set : ∀ (vs : List Value) (k off : Nat) (C : List Value), off + k + vs.length ≤ C.length →
    (vs.zipIdx k).foldl (fun (cs : Array Value) (x : Value × Nat) => cs.setIfInBounds (off + x.2) x.1) C.toArray = (C.take (off + k) ++ (vs ++ C.drop (off + k + vs.length))).toArray
  | [], k, off, C, _ => by simp
  | v :: r, k, off, C, hl => by
    have hl' : off + (k + 1) + r.length ≤ (C.set (off + k) v).length := by simp at hl ⊢; omega
    have := fold_set r (k + 1) off (C.set (off + k) v) hl'
    rw [List.zipIdx_cons, List.foldl_cons]
    rw [show C.toArray.setIfInBounds (off + k) v = (C.set (off + k) v).toArray by simp, this]
    have hk : off + k < C.length := by simp at hl; omega
    have e1 : (C.set (off + k) v).take (off + (k + 1)) = C.take (off + k) ++ [v] := by
      rw [show off + (k + 1) = (off + k) + 1 by omega, List.take_set, List.take_add_one, List.set_append_right _ _ (by simp; omega), List.getElem?_eq_getElem hk]
      simp [Nat.min_eq_left (show off + k ≤ C.length by omega)]
    have e2 : (C.set (off + k) v).drop (off + (k + 1) + r.length) = C.drop (off + k + (v :: r).length) := by
      rw [List.drop_set, if_pos (by omega)]
      congr 1; simp; omega
    rw [e1, e2, List.append_assoc]; rfl
theorem fill_agg (place : Nat → Option (Nat × Nat)) (C vs : List Value) (i off : Nat) (rest : List (Nat × Value)) (hp : place i = some (off, vs.length)) (hl : off + vs.length ≤ C.length) :
    Instr.fill place C.toArray ((i, .agg vs.toArray) :: rest) = Instr.fill place (C.take off ++ (vs ++ C.drop (off + vs.length))).toArray rest := by
  have hsz : (Value.agg vs.toArray).cells.size = vs.length := by simp [Value.cells]
  have hf := fold_set vs 0 off C (by omega)
  rw [Nat.add_zero] at hf
  conv => lhs; unfold Instr.fill
  simp only [hp, hsz]
  rw [if_neg (by simp; omega)]
  rw [show (Value.agg vs.toArray).cells = vs.toArray from rfl, ← Array.foldl_toList, Array.toList_zipIdx]
  exact congrArg (fun c => Instr.fill place c rest) hf
theorem fill_one (place : Nat → Option (Nat × Nat)) (C : List Value) (v : Value) (i off : Nat) (rest : List (Nat × Value)) (hv : v.cells = #[v]) (hp : place i = some (off, 1)) (hl : off + 1 ≤ C.length) :
    Instr.fill place C.toArray ((i, v) :: rest) = Instr.fill place (C.take off ++ ([v] ++ C.drop (off + 1))).toArray rest := by
  have hf := fold_set [v] 0 off C (by simpa using hl)
  rw [Nat.add_zero] at hf
  conv => lhs; unfold Instr.fill
  simp only [hp, hv]
  rw [if_neg (by simp; omega)]
  rw [← Array.foldl_toList, Array.toList_zipIdx]
  exact congrArg (fun c => Instr.fill place c rest) hf
theorem built_ref (parts : List (Nat × Value)) : Try.prog.built 25 parts = Instr.fill ((#[(0, 32), (32, 32), (64, 1), (65, 1)] : Array (Nat × Nat))[·]?) (recA RecB.zero) parts := by kernel_rfl
theorem built_rec (parts : List (Nat × Value)) : Try.prog.built 30 parts = Instr.fill ((#[(0, 32), (32, 32), (64, 1), (65, 1)] : Array (Nat × Nat))[·]?) (recA RecB.zero) parts := by kernel_rfl
theorem build_key {k : List UInt8} (hk : k.length = 32) (w : World) : (Instr.build 25 #[(0, .agg (kcs k).toArray)]).run Try.prog w = .ok (.agg (recA { RecB.zero with key := k })) w := by
  refine run_build w _ _ _ ?_
  rw [built_ref]
  unfold recA
  rw [fill_agg _ (recC RecB.zero) (kcs k) 0 0 [] (by rw [kcs_len, hk]; rfl) (by rw [kcs_len, hk, recC_len RecB.zero_ok]; omega), kcs_len, hk, List.take_zero, List.nil_append, Nat.zero_add, rec_rest RecB.zero_ok]
  rfl
theorem build_all {r : RecB} (hr : r.Ok) (w : World) : (Instr.build 30 #[(0, .agg (kcs r.key).toArray), (1, .agg (kcs r.base).toArray), (2, .bool r.patch), (3, .string (bs r.body))]).run Try.prog w = .ok (.agg (recA r)) w := by
  refine run_build w _ _ _ ?_
  rw [built_rec]
  have z0 : (recC RecB.zero).length = 66 := recC_len RecB.zero_ok
  have k1 : (kcs r.key).length = 32 := by rw [kcs_len, hr.key]
  have k2 : (kcs r.base).length = 32 := by rw [kcs_len, hr.base]
  unfold recA
  rw [fill_agg _ (recC RecB.zero) (kcs r.key) 0 0 _ (by rw [k1]; rfl) (by omega), k1, List.take_zero, List.nil_append, Nat.zero_add, rec_rest RecB.zero_ok]
  rw [fill_agg _ _ (kcs r.base) 1 32 _ (by rw [k2]; rfl) (by simp [k1, k2, kcs_len, zero32_len, RecB.zero]), k2, List.take_left' k1, show 32 + 32 = 64 from rfl]
  rw [show (kcs r.key ++ (kcs RecB.zero.base ++ [Value.bool RecB.zero.patch, Value.string (bs RecB.zero.body)])).drop 64 = [Value.bool false, Value.string (bs [])] by
    rw [← List.append_assoc, List.drop_left' (by simp [k1, kcs_len, zero32_len, RecB.zero])]; rfl]
  rw [fill_one _ _ (.bool r.patch) 2 64 _ rfl rfl (by simp [k1, k2])]
  rw [show (kcs r.key ++ (kcs r.base ++ [Value.bool false, Value.string (bs [])])).take 64 = kcs r.key ++ kcs r.base by rw [← List.append_assoc, List.take_left' (by simp [k1, k2])],
    show (kcs r.key ++ (kcs r.base ++ [Value.bool false, Value.string (bs [])])).drop (64 + 1) = [Value.string (bs [])] by rw [← List.append_assoc, ← List.drop_drop, List.drop_left' (by simp [k1, k2])]; rfl]
  rw [fill_one _ _ (.string (bs r.body)) 3 65 _ rfl rfl (by simp [k1, k2])]
  rw [show (kcs r.key ++ kcs r.base ++ ([Value.bool r.patch] ++ [Value.string (bs [])])).take 65 = kcs r.key ++ kcs r.base ++ [Value.bool r.patch] by rw [← List.append_assoc, List.take_left' (by simp [k1, k2])],
    List.drop_of_length_le (by simp [k1, k2])]
  show some _ = some _
  congr 2
  unfold recC
  simp
theorem wp_build_is {P : Program} {o : Oper} {a : Act} {w : World} {K : Act → World → Prop} {Q : Exit → Act → World → Prop} (t : TypeId) (parts : List (Nat × Operand)) (ho : o.op = .build t parts.toArray)
    (vs : List (Nat × Value)) (hv : parts.map (fun p => (p.1, a.eval p.2)) = vs) (cells : Array Value) (hr : ∀ W, (Instr.build t vs.toArray).run P W = .ok (.agg cells) W)
    (h : K (a.put o.dst (.agg cells)) w) : o.wp P a w K Q := by
  have hv' : (parts.toArray.map fun (x : Nat × Operand) => match x with | (i, x) => (i, a.eval x)) = vs.toArray := by
    rw [List.map_toArray, ← hv]
  unfold Oper.wp execOp
  simp only [ho, Sem.run_bind]
  rw [hv', hr w]
  exact h
theorem wpList_build_is {P : Program} {ops : Array Oper} {rest : List Oper} {o : Oper} {a : Act} {w : World} {Q : Exit → Act → World → Prop} (hg : o.guard = none) (t : TypeId) (parts : List (Nat × Operand)) (ho : o.op = .build t parts.toArray)
    (vs : List (Nat × Value)) (hv : parts.map (fun p => (p.1, a.eval p.2)) = vs) (cells : Array Value) (hr : ∀ W, (Instr.build t vs.toArray).run P W = .ok (.agg cells) W)
    (h : wpList P ops Q rest (a.put o.dst (.agg cells)) w) : wpList P ops Q (o :: rest) a w :=
  wpList_plain hg fun _ hK => wp_build_is t parts ho vs hv cells hr (hK _ _ h)
end Go.Proofs.Ytlpknhiagdhkcaa
