/- Texts put together: QTail, WalSplit, WalLaw, WalFramesWalk, WalNum, ByteOrder -/
import Derived.Test.YtfbaenhajlckjaaGreatMWho00
import Derived.StillTail
import Derived.Sort.QuietThIn
import Derived.TacticsIn
import Derived.RangeFuncCalls
import Derived.Test.YtfbaenhajlckjaaGreatMWho03
/- A region that draws its order, whose first m operations read or call quietly (each world of a class comes to the same), and whose rest is a chain behind them: one walk, whatever order is drawn; within a fence and without. -/
set_option linter.unusedVariables false
set_option maxRecDepth 100000
namespace Go.Proofs.YtfbaenhajlckjaaGreat
open Go.RowKit

section
variable {F : Fence} {n : Nat} {P : Program} {ops : Array Oper} {md : Region.Mode} {C : World → Prop}

def wpAnyLQ (F : Fence) (n : Nat) (P : Program) (md : Region.Mode) (ops : Array Oper) (C : World → Prop) (m : Nat) (L : Array Bool → Act → Prop) : Nat → Array Bool → Act → Prop
  | 0, listed, a => L listed a
  | f + 1, listed, a =>
    Region.ready md ops listed ≠ [] ∧ ∀ i ∈ Region.ready md ops listed, i < m ∧ qOpIn F n P ops C i (wpAnyLQ F n P md ops C m L f (listed.setIfInBounds i true)) a

/-- Nowhere a 'defer': then an operation is run in a round as anywhere. -/
def noDefer (l : List Oper) : Bool := l.all fun o => match o.op with
  | .defer _ => false
  | _ => true
theorem noDefer_sem {l : List Oper} (h : noDefer l = true) (F : Fence) (i : Nat) (o : Oper) (ho : l.toArray[i]? = some o) (ρ : Operand → Value) : Oper.semAt F.round ρ o = execOp ρ o := by
  cases hr : F.round with
  | none => rw [Oper.semAt_none]
  | some r =>
    refine Oper.semAt_some r ρ o fun c hc => ?_
    have := List.all_eq_true.1 h o (List.mem_of_getElem? (by simpa using ho))
    rw [hc] at this
    cases this
theorem operIn_of_quiet {o : Oper} {a : Act} {K : Act → Prop} {K' : Act → World → Prop} {Q' : Exit → Act → World → Prop} {w : World} (hse : ∀ ρ, Oper.semAt F.round ρ o = execOp ρ o) (hw : C w) (h : ∀ a w', C w' → K a → K' a w')
    (ha : o.askedIn F P a C) (hh : o.quietIn F n P a C K) : o.wpIn F n P a w K' Q' := by
  obtain ⟨v, h1, h2⟩ := hh
  have h3 := h1 w hw
  unfold Oper.quietAtIn at h3
  unfold Oper.wpIn
  refine ⟨ha w hw, ?_⟩
  rw [hse]
  generalize (execOp a.eval o).run P w = r at *
  cases r with
  | ok x w' =>
    cases x <;> simp only [Oper.quietUponIn] at h3 <;> simp only [Oper.uponIn]
    case value u =>
      obtain ⟨e1, e2⟩ := h3
      rw [e1, e2]
      exact h _ _ hw h2
    case skip =>
      obtain ⟨e1, e2⟩ := h3
      rw [e1, ← e2]
      exact h _ _ hw h2
    case enter f args =>
      obtain ⟨e1, hd, hc⟩ := h3
      rw [e1]
      exact ⟨hd, hc.mono fun e w'' ⟨he, hw''⟩ => by subst he; exact h _ _ hw'' h2⟩
  | halt x w' => simp only [Oper.quietUponIn] at h3
theorem opIn_of_quiet {i : Nat} {a : Act} {K : Act → Prop} {K' : Act → World → Prop} {Q' : Exit → Act → World → Prop} {w : World} (hse : ∀ o, ops[i]? = some o → ∀ ρ, Oper.semAt F.round ρ o = execOp ρ o) (hC : C w) (h : ∀ a w', C w' → K a → K' a w')
    (hh : qOpIn F n P ops C i K a) : wpOpIn F n P ops Q' i K' a w := by
  unfold qOpIn at hh
  unfold wpOpIn
  split
  · rename_i ho; simp only [ho] at hh; exact h _ _ hC hh
  · rename_i o ho
    simp only [ho] at hh
    obtain ⟨ha, hh⟩ := hh
    split
    · rename_i hw; simp only [hw, if_true] at hh; exact operIn_of_quiet (hse o ho) hC h ha hh
    · rename_i hw; simp only [hw] at hh; exact ⟨ha w hC, h _ _ hC hh⟩

theorem wpAnyIn_of_headQ (hro : ∀ (i : Nat) (o : Oper), ops[i]? = some o → ∀ ρ, Oper.semAt F.round ρ o = execOp ρ o) {m g : Nat} {L : Array Bool → Act → Prop} {Q' : Exit → Act → World → Prop} (hL : ∀ listed a w, C w → L listed a → wpAnyIn F n P md ops Q' g listed a w) :
    ∀ (f : Nat) (listed : Array Bool) (a : Act) (w : World), C w → wpAnyLQ F n P md ops C m L f listed a → wpAnyIn F n P md ops Q' (f + g) listed a w
  | 0, listed, a, w, hC, h => by rw [Nat.zero_add]; exact hL _ _ _ hC h
  | f + 1, listed, a, w, hC, h => by
    rw [show f + 1 + g = (f + g) + 1 by omega]
    exact ⟨fun h0 => absurd h0 h.1, fun i hi => opIn_of_quiet (hro i) hC (fun a' w' hw' h' => wpAnyIn_of_headQ hro hL f _ a' w' hw' h') (h.2 i hi).2⟩

theorem wpAnyLQ_first {m i : Nat} {oi : Oper} {v : Value} {L : Array Bool → Act → Prop} (hi : ops[i]? = some oi) (hsel : ∀ (j : Nat) (o : Oper) cs b, ops[j]? = some o → o.op ≠ .select cs b)
    (hs : Region.sinkB md ops m = true) (hc : Region.chainB md ops m = true) (hn : m < ops.size) (hin : i < m)
    (hdone : ∀ listed a, L listed a → ∀ j ∈ Region.ready md ops listed, m ≤ j) :
    ∀ (f : Nat) (listed : Array Bool) (a : Act), HeadInv md ops m listed →
      (∀ j oj, ops[j]? = some oj → j ≠ i → listed.getD j true = false → (∀ e ∈ oj.after, Region.binds md e = true → e.on ≠ i) → oi.apart ops oj = true) →
      i ∈ Region.ready md ops listed → YieldsQuiet F n P ops C oi v a →
      wpAnyLQ F n P md ops C m L f (listed.setIfInBounds i true) (a.put oi.dst v) → wpAnyLQ F n P md ops C m L (f + 1) listed a := by
  intro f
  induction f with
  | zero =>
    intro listed a inv _ hr hy H
    have hun := (mem_ready.1 hr).1
    refine ⟨fun h => (by rw [h] at hr; cases hr), fun j hj => ?_⟩
    have hjn : j < m := by
      rcases Nat.lt_or_ge j m with h | h
      · exact h
      · exact absurd hj (tail_waits hs hc hn inv _ i rfl hin hun j h)
    refine ⟨hjn, ?_⟩
    by_cases hji : j = i
    · subst hji; exact hy.qOpIn hi H
    · have := hdone _ _ H j (ready_mono hj hji)
      omega
  | succ f ih =>
    intro listed a inv hfree hr hy H
    have hun := (mem_ready.1 hr).1
    refine ⟨fun h => (by rw [h] at hr; cases hr), fun j hj => ?_⟩
    have hjn : j < m := by
      rcases Nat.lt_or_ge j m with h | h
      · exact h
      · exact absurd hj (tail_waits hs hc hn inv _ i rfl hin hun j h)
    refine ⟨hjn, ?_⟩
    by_cases hji : j = i
    · subst hji; exact hy.qOpIn hi H
    · have h1 := (H.2 j (ready_mono hj hji)).2
      obtain ⟨hjun, oj, hoj, hall⟩ := mem_ready.1 hj
      have hnot : ∀ e ∈ oj.after, Region.binds md e = true → e.on ≠ i := fun e he hb heq => by
        have h1 := hall e he hb
        rw [heq, getD_both hun] at h1
        cases h1
      have h2 := qOpIn_put hoj (hfree j oj hoj hji hjun hnot) (fun cs b => hsel i oi cs b hi) (fun cs b => hsel j oj cs b hoj) hy h1
      have hfree' : ∀ k ok, ops[k]? = some ok → k ≠ i → (listed.setIfInBounds j true).getD k true = false →
          (∀ e ∈ ok.after, Region.binds md e = true → e.on ≠ i) → oi.apart ops ok = true := fun k ok hk hki hun hno => by
        refine hfree k ok hk hki ?_ hno
        by_cases hjk : j = k
        · subst hjk; exact hjun
        · rw [getD_set_ne true hjk] at hun; exact hun
      refine qOpIn_mono (fun a' h3 => ih (listed.setIfInBounds j true) a' (inv.set hj hjn) hfree' (ready_mono hr (Ne.symm hji)) h3.1 ?_) h2
      rw [Array.setIfInBounds_comm _ _ hji]
      exact h3.2

theorem wpAnyIn_of_seq {Q' : Exit → Act → World → Prop} : ∀ (l : List Oper) (k : Nat) (listed : Array Bool) (a : Act) (w : World), (∀ j, l[j]? = ops[k + j]?) →
    Region.seqB md ops l.length k listed = true → wpListIn F n P ops Q' l a w → wpAnyIn F n P md ops Q' l.length listed a w
  | [], _, _, _, _, _, hB, h => ⟨by simpa [Region.seqB] using hB, h⟩
  | o :: l, k, listed, a, w, hl, hB, h => by
    have h0 : ops[k]? = some o := by simpa using (hl 0).symm
    simp only [List.length_cons, Region.seqB, Bool.and_eq_true, decide_eq_true_eq] at hB
    refine ⟨fun h1 => (by rw [hB.1] at h1; cases h1), fun i hi => ?_⟩
    rw [hB.1] at hi
    have hik : i = k := by simpa using hi
    subst hik
    have hw : wpOpIn F n P ops Q' i (wpListIn F n P ops Q' l) a w := by unfold wpOpIn; simp only [h0]; exact h
    exact wpOpIn_mono (fun a' w' h' => wpAnyIn_of_seq l (i + 1) _ a' w' (fun j => by have := hl (j + 1); simpa [Nat.add_assoc, Nat.add_comm 1 j] using this) hB.2 h') hw

theorem wpAnyLQ_lex {m g : Nat} {Lq : Act → Prop} (hsel : Region.noSelect ops = true) (hs : Region.sinkB md ops m = true) (hc : Region.chainB md ops m = true) (hn : m < ops.size) :
    ∀ (l : List Oper) (k : Nat) (listed : Array Bool) (a : Act), (∀ j, j < l.length → l[j]? = ops[k + j]?) → k + l.length = m → HeadInv md ops m listed →
    Region.lexHead md ops g l.length k listed = true → wpQuietIn F n P ops C Lq l a →
    wpAnyLQ F n P md ops C m (fun listed' a' => Region.seqB md ops g m listed' = true ∧ Lq a') l.length listed a
  | [], k, listed, a, _, hk, _, hB, h => by
    have : k = m := by simpa using hk
    subst this
    exact ⟨by simpa [Region.lexHead] using hB, h⟩
  | o :: l, k, listed, a, hl, hk, inv, hB, h => by
    have h0 : ops[k]? = some o := by simpa using (hl 0 (by simp)).symm
    simp only [List.length_cons, Region.lexHead, Bool.and_eq_true] at hB
    obtain ⟨⟨hr, hf⟩, hB'⟩ := hB
    have hkn : k < m := by simp only [List.length_cons] at hk; omega
    have hr' : k ∈ Region.ready md ops listed := by simpa using hr
    have hst : qOpIn F n P ops C k (wpQuietIn F n P ops C Lq l) a := by unfold qOpIn; simp only [h0]; exact h
    obtain ⟨v, hy, hK⟩ := yieldsQuiet_of_qOpIn h0 hst
    exact wpAnyLQ_first h0 (Region.noSelect_spec hsel) hs hc hn hkn (fun listed' a' hL => seqB_ready hL.1) l.length listed a inv (Region.free_spec h0 hf) hr' hy
      (wpAnyLQ_lex hsel hs hc hn l (k + 1) _ _ (fun j hj => by have := hl (j + 1) (by simp; omega); simpa [Nat.add_assoc, Nat.add_comm 1 j] using this) (by simp only [List.length_cons] at hk; omega) (inv.set hr' hkn) hB' hK)

/-- THE FIRST m OPERATIONS QUIET, THE REST A CHAIN BEHIND THEM, WITHIN A FENCE. -/
theorem wpIn_region_quiet_tail {id : Nat} {Q : Exit → Act → World → Prop} {a : Act} {w : World} {l : List Oper} (m : Nat) (hro : ∀ (i : Nat) (o : Oper), l.toArray[i]? = some o → ∀ ρ, Oper.semAt F.round ρ o = execOp ρ o) (hm : P.follows .mixedOrders = true) (hB : Region.lexTailB .any l.toArray m = true) (hC : C { w with drawn := w.drawn + 1 })
    (h : wpQuietIn F n P l.toArray C (fun a' => ∀ w', C w' → wpListIn F n P l.toArray Q (l.drop m) a' w') (l.take m) a) : (Code.region id l.toArray true).wpIn F n P Q a w := by
  simp only [Region.lexTailB, Bool.and_eq_true, decide_eq_true_eq] at hB
  obtain ⟨⟨⟨⟨hsel, hn⟩, hs⟩, hc⟩, hlex⟩ := hB
  have hn' : m < l.length := by simpa using hn
  have htl : (l.take m).length = m := by simp; omega
  have hdl : (l.drop m).length = l.toArray.size - m := by simp
  have inv0 : HeadInv .any l.toArray m (Array.replicate l.toArray.size false) :=
    ⟨by simp, fun j oj _ hl => (by rw [getD_replicate_false] at hl; cases hl), fun t _ ht => getD_in (by simpa using ht) (getD_replicate_false _ _)⟩
  have H := wpAnyLQ_lex (md := .any) (g := l.toArray.size - m) hsel hs hc hn (l.take m) 0 _ a (fun j hj => by
    have hj' : j < m := by rw [htl] at hj; exact hj
    simp [hj']) (by simpa using htl) inv0 (by rw [htl]; exact hlex) h
  refine wpIn_region_any hm ?_
  have := wpAnyIn_of_headQ (Q' := Q) (g := l.toArray.size - m) hro (fun listed a' w' hC' hL => by
    have := wpAnyIn_of_seq (md := .any) (Q' := Q) (l.drop m) m listed a' w' (fun j => by simp [List.getElem?_drop]) (by rw [hdl]; exact hL.1) (hL.2 w' hC')
    rw [hdl] at this
    exact this) _ _ _ _ hC H
  rw [htl, show m + (l.toArray.size - m) = l.toArray.size by omega] at this
  exact this

/-! ### At the wide fence the plain steps serve -/
structure Wide (F : Fence) : Prop where
  fn : ∀ f, F.fn f
  depth : F.depth.isSome = true → False
  calls : ∀ {n : Nat} {P : Program} {f : FuncId} {args : Array Value} {w : World} {R : Ending → World → Prop}, Calls P f args w R → CallsIn F n P f args w R
theorem wide_wide : Wide Fence.wide := ⟨fun _ => trivial, fun h => by simp [Fence.wide] at h, fun h => callsIn_wide.2 h⟩
theorem wide_round (r : Nat) : Wide (Fence.wide.inRound r) := ⟨fun _ => trivial, fun h => by simp [Fence.wide] at h, fun h => CallsIn.inRound r (callsIn_wide.2 h)⟩
theorem quietIn_wide (hF : Wide F) {o : Oper} {a : Act} {K K' : Act → Prop} (h : ∀ a, K a → K' a) (hh : o.quiet P a C K) : o.quietIn F n P a C K' := by
  obtain ⟨v, h1, h2⟩ := hh
  refine ⟨v, fun w hw => ?_, h _ h2⟩
  have h3 := h1 w hw
  unfold Oper.quietAt at h3
  unfold Oper.quietAtIn
  generalize (execOp a.eval o).run P w = r at *
  cases r with
  | ok x w' =>
    cases x <;> simp only [Oper.quietUpon, Oper.quietUponIn] at h3 ⊢
    case value u => exact h3
    case skip => exact h3
    case enter f args => exact ⟨h3.1, fun h => (hF.depth h).elim, hF.calls h3.2⟩
  | halt x w' => simp only [Oper.quietUpon] at h3
theorem wpQuietIn_wide (hF : Wide F) {Q : Act → Prop} : ∀ (l : List Oper) (a : Act), wpQuiet P ops C Q l a → wpQuietIn F n P ops C Q l a
  | [], a, h => h
  | o :: l, a, h => by
    refine ⟨fun _ _ f _ => hF.fn f, ?_⟩
    unfold wpQuiet at h
    split
    · rename_i hw; simp only [hw, if_true] at h; exact quietIn_wide hF (fun a' h' => wpQuietIn_wide hF l a' h') h
    · rename_i hw; simp only [hw] at h; exact wpQuietIn_wide hF l _ h
/-- A QUIET HEAD WITH A CHAIN BEHIND IT, whose last part may call what the walk hands on (a round): the head by the plain steps. -/
theorem wpIn_region_seen_tail {id : Nat} {Q : Exit → Act → World → Prop} {a : Act} {w : World} {l : List Oper} (m : Nat) (hm : P.follows .mixedOrders = true) (hB : Region.lexTailB .any l.toArray m = true)
    (h : wpQuiet P l.toArray (fun w' => ∃ n : Seen w, w' = n.val) (fun a' => ∀ w', (∃ n : Seen w, w' = n.val) → wpListIn Fence.wide n P l.toArray Q (l.drop m) a' w') (l.take m) a) : (Code.region id l.toArray true).wpIn Fence.wide n P Q a w :=
  wpIn_region_quiet_tail (C := fun w' => ∃ n : Seen w, w' = n.val) m (fun _ _ _ _ => Oper.semAt_none ..) hm hB ⟨⟨w.drew, (Below.refl _ _).drew⟩, rfl⟩ (wpQuietIn_wide wide_wide _ _ h)
/-- The same in a round. -/
theorem wpIn_round_seen_tail {r id : Nat} {Q : Exit → Act → World → Prop} {a : Act} {w : World} {l : List Oper} (m : Nat) (hm : P.follows .mixedOrders = true) (hB : Region.lexTailB .any l.toArray m = true) (hd : noDefer l = true)
    (h : wpQuiet P l.toArray (fun w' => ∃ n : Seen w, w' = n.val) (fun a' => ∀ w', (∃ n : Seen w, w' = n.val) → wpListIn (Fence.wide.inRound r) n P l.toArray Q (l.drop m) a' w') (l.take m) a) : (Code.region id l.toArray true).wpIn (Fence.wide.inRound r) n P Q a w :=
  wpIn_region_quiet_tail (C := fun w' => ∃ n : Seen w, w' = n.val) m (noDefer_sem hd _) hm hB ⟨⟨w.drew, (Below.refl _ _).drew⟩, rfl⟩ (wpQuietIn_wide (wide_round r) _ _ h)

/-! ### The same, no fence in sight (by program) -/
def wpAnyLP (P : Program) (md : Region.Mode) (ops : Array Oper) (C : World → Prop) (m : Nat) (L : Array Bool → Act → Prop) : Nat → Array Bool → Act → Prop
  | 0, listed, a => L listed a
  | f + 1, listed, a =>
    Region.ready md ops listed ≠ [] ∧ ∀ i ∈ Region.ready md ops listed, i < m ∧ qOp P ops C i (wpAnyLP P md ops C m L f (listed.setIfInBounds i true)) a

theorem wpAny_of_headQ {m g : Nat} {L : Array Bool → Act → Prop} {Q' : Exit → Act → World → Prop} (hL : ∀ listed a w, C w → L listed a → wpAny P md ops Q' g listed a w) :
    ∀ (f : Nat) (listed : Array Bool) (a : Act) (w : World), C w → wpAnyLP P md ops C m L f listed a → wpAny P md ops Q' (f + g) listed a w
  | 0, listed, a, w, hC, h => by rw [Nat.zero_add]; exact hL _ _ _ hC h
  | f + 1, listed, a, w, hC, h => by
    rw [show f + 1 + g = (f + g) + 1 by omega]
    exact ⟨fun h0 => absurd h0 h.1, fun i hi => wpOp_of_qOp hC (fun a' w' hw' h' => wpAny_of_headQ hL f _ a' w' hw' h') (h.2 i hi).2⟩

theorem wpAnyLP_first {m i : Nat} {oi : Oper} {v : Value} {L : Array Bool → Act → Prop} (hi : ops[i]? = some oi) (hsel : ∀ (j : Nat) (o : Oper) cs b, ops[j]? = some o → o.op ≠ .select cs b)
    (hs : Region.sinkB md ops m = true) (hc : Region.chainB md ops m = true) (hn : m < ops.size) (hin : i < m)
    (hdone : ∀ listed a, L listed a → ∀ j ∈ Region.ready md ops listed, m ≤ j) :
    ∀ (f : Nat) (listed : Array Bool) (a : Act), HeadInv md ops m listed →
      (∀ j oj, ops[j]? = some oj → j ≠ i → listed.getD j true = false → (∀ e ∈ oj.after, Region.binds md e = true → e.on ≠ i) → oi.apart ops oj = true) →
      i ∈ Region.ready md ops listed → YieldsIn P ops C oi v a →
      wpAnyLP P md ops C m L f (listed.setIfInBounds i true) (a.put oi.dst v) → wpAnyLP P md ops C m L (f + 1) listed a := by
  intro f
  induction f with
  | zero =>
    intro listed a inv _ hr hy H
    have hun := (mem_ready.1 hr).1
    refine ⟨fun h => (by rw [h] at hr; cases hr), fun j hj => ?_⟩
    have hjn : j < m := by
      rcases Nat.lt_or_ge j m with h | h
      · exact h
      · exact absurd hj (tail_waits hs hc hn inv _ i rfl hin hun j h)
    refine ⟨hjn, ?_⟩
    by_cases hji : j = i
    · subst hji; exact hy.qOp hi H
    · have := hdone _ _ H j (ready_mono hj hji)
      omega
  | succ f ih =>
    intro listed a inv hfree hr hy H
    have hun := (mem_ready.1 hr).1
    refine ⟨fun h => (by rw [h] at hr; cases hr), fun j hj => ?_⟩
    have hjn : j < m := by
      rcases Nat.lt_or_ge j m with h | h
      · exact h
      · exact absurd hj (tail_waits hs hc hn inv _ i rfl hin hun j h)
    refine ⟨hjn, ?_⟩
    by_cases hji : j = i
    · subst hji; exact hy.qOp hi H
    · have h1 := (H.2 j (ready_mono hj hji)).2
      obtain ⟨hjun, oj, hoj, hall⟩ := mem_ready.1 hj
      have hnot : ∀ e ∈ oj.after, Region.binds md e = true → e.on ≠ i := fun e he hb heq => by
        have h1 := hall e he hb
        rw [heq, getD_both hun] at h1
        cases h1
      have h2 := qOp_put hoj (hfree j oj hoj hji hjun hnot) (fun cs b => hsel i oi cs b hi) (fun cs b => hsel j oj cs b hoj) hy h1
      have hfree' : ∀ k ok, ops[k]? = some ok → k ≠ i → (listed.setIfInBounds j true).getD k true = false →
          (∀ e ∈ ok.after, Region.binds md e = true → e.on ≠ i) → oi.apart ops ok = true := fun k ok hk hki hun hno => by
        refine hfree k ok hk hki ?_ hno
        by_cases hjk : j = k
        · subst hjk; exact hjun
        · rw [getD_set_ne true hjk] at hun; exact hun
      refine qOp_mono (fun a' h3 => ih (listed.setIfInBounds j true) a' (inv.set hj hjn) hfree' (ready_mono hr (Ne.symm hji)) h3.1 ?_) h2
      rw [Array.setIfInBounds_comm _ _ hji]
      exact h3.2

theorem wpAnyLP_lex {m g : Nat} {Lq : Act → Prop} (hsel : Region.noSelect ops = true) (hs : Region.sinkB md ops m = true) (hc : Region.chainB md ops m = true) (hn : m < ops.size) :
    ∀ (l : List Oper) (k : Nat) (listed : Array Bool) (a : Act), (∀ j, j < l.length → l[j]? = ops[k + j]?) → k + l.length = m → HeadInv md ops m listed →
    Region.lexHead md ops g l.length k listed = true → wpQuiet P ops C Lq l a →
    wpAnyLP P md ops C m (fun listed' a' => Region.seqB md ops g m listed' = true ∧ Lq a') l.length listed a
  | [], k, listed, a, _, hk, _, hB, h => by
    have : k = m := by simpa using hk
    subst this
    exact ⟨by simpa [Region.lexHead] using hB, h⟩
  | o :: l, k, listed, a, hl, hk, inv, hB, h => by
    have h0 : ops[k]? = some o := by simpa using (hl 0 (by simp)).symm
    simp only [List.length_cons, Region.lexHead, Bool.and_eq_true] at hB
    obtain ⟨⟨hr, hf⟩, hB'⟩ := hB
    have hkn : k < m := by simp only [List.length_cons] at hk; omega
    have hr' : k ∈ Region.ready md ops listed := by simpa using hr
    have hst : qOp P ops C k (wpQuiet P ops C Lq l) a := by unfold qOp; simp only [h0]; exact h
    obtain ⟨v, hy, hK⟩ := yieldsIn_of_qOp h0 hst
    exact wpAnyLP_first h0 (Region.noSelect_spec hsel) hs hc hn hkn (fun listed' a' hL => seqB_ready hL.1) l.length listed a inv (Region.free_spec h0 hf) hr' hy
      (wpAnyLP_lex hsel hs hc hn l (k + 1) _ _ (fun j hj => by have := hl (j + 1) (by simp; omega); simpa [Nat.add_assoc, Nat.add_comm 1 j] using this) (by simp only [List.length_cons] at hk; omega) (inv.set hr' hkn) hB' hK)

/-- THE FIRST m OPERATIONS QUIET, THE REST A CHAIN BEHIND THEM, NO FENCE IN SIGHT. -/
theorem wp_region_quiet_tail {id : Nat} {Q : Exit → Act → World → Prop} {a : Act} {w : World} {l : List Oper} (m : Nat) (hm : P.follows .mixedOrders = true) (hB : Region.lexTailB .any l.toArray m = true) (hC : C { w with drawn := w.drawn + 1 })
    (h : wpQuiet P l.toArray C (fun a' => ∀ w', C w' → wpList P l.toArray Q (l.drop m) a' w') (l.take m) a) : (Code.region id l.toArray true).wp P Q a w := by
  simp only [Region.lexTailB, Bool.and_eq_true, decide_eq_true_eq] at hB
  obtain ⟨⟨⟨⟨hsel, hn⟩, hs⟩, hc⟩, hlex⟩ := hB
  have hn' : m < l.length := by simpa using hn
  have htl : (l.take m).length = m := by simp; omega
  have hdl : (l.drop m).length = l.toArray.size - m := by simp
  have inv0 : HeadInv .any l.toArray m (Array.replicate l.toArray.size false) :=
    ⟨by simp, fun j oj _ hl => (by rw [getD_replicate_false] at hl; cases hl), fun t _ ht => getD_in (by simpa using ht) (getD_replicate_false _ _)⟩
  have H := wpAnyLP_lex (md := .any) (g := l.toArray.size - m) hsel hs hc hn (l.take m) 0 _ a (fun j hj => by
    have hj' : j < m := by rw [htl] at hj; exact hj
    simp [hj']) (by simpa using htl) inv0 (by rw [htl]; exact hlex) h
  refine wp_region_any hm ?_
  have := wpAny_of_headQ (Q' := Q) (g := l.toArray.size - m) (fun listed a' w' hC' hL => by
    have := wpAny_of_seq (md := .any) (Q' := Q) (l.drop m) m listed a' w' (fun j => by simp [List.getElem?_drop]) (by rw [hdl]; exact hL.1) (hL.2 w' hC')
    rw [hdl] at this
    exact this) _ _ _ _ hC H
  rw [htl, show m + (l.toArray.size - m) = l.toArray.size by omega] at this
  exact this

theorem wp_region_seen_tail {id : Nat} {Q : Exit → Act → World → Prop} {a : Act} {w : World} {l : List Oper} (m : Nat) (hm : P.follows .mixedOrders = true) (hB : Region.lexTailB .any l.toArray m = true)
    (h : wpQuiet P l.toArray (fun w' => ∃ n : Seen w, w' = n.val) (fun a' => ∀ w', (∃ n : Seen w, w' = n.val) → wpList P l.toArray Q (l.drop m) a' w') (l.take m) a) : (Code.region id l.toArray true).wp P Q a w :=
  wp_region_quiet_tail (C := fun w' => ∃ n : Seen w, w' = n.val) m hm hB ⟨⟨w.drew, (Below.refl _ _).drew⟩, rfl⟩ h
end
end Go.Proofs.YtfbaenhajlckjaaGreat
/- Rows of texts; Split and Frames, the program's and the document's; whether two rows are the same. -/
set_option linter.unusedVariables false
set_option maxRecDepth 100000
set_option maxRecDepth 100000
namespace Go.Proofs.YtfbaenhajlckjaaGreat
open Go.RowKit

theorem info_parts {t : TypeId} {z : Value} {s b : Nat} (h : (Tryz.prog.info? t).map (fun i => (i.zero, i.size, i.bytes)) = some (some z, s, b)) : ∃ i, Tryz.prog.info? t = some i ∧ i.zero = some z ∧ i.size = s ∧ i.bytes = b := by
  cases hi : Tryz.prog.info? t with
  | none => rw [hi] at h; cases h
  | some i =>
    rw [hi] at h
    simp only [Option.map_some, Option.some.injEq, Prod.mk.injEq] at h
    exact ⟨i, rfl, h.1, h.2.1, h.2.2⟩
theorem infoStr : (Tryz.prog.info? 9).map (fun i => (i.zero, i.size, i.bytes)) = some (some (.string ⟨#[]⟩), 1, 16) := by kernel_rfl
theorem OffRow.allocd {w : World} {B n size : Nat} {e : TypeId} {v : Value} {xs : List Value} (h : OffRow w B e size v n xs) (o : Obj) : OffRow (w.alloc o) B e size v n xs := h.kept fun j hj => Below.heap_alloc w o j (h.lt j hj).2

/-- A row of texts of the call's own. -/
def scells (T : List (List UInt8)) : List Value := T.map fun t => .string (bs t)
theorem scells_snoc (T : List (List UInt8)) (t : List UInt8) : scells (T ++ [t]) = scells T ++ [.string (bs t)] := by simp [scells]
def OwnT (w : World) (B : Nat) (v : Value) (T : List (List UInt8)) : Prop := OffRow w B 9 1 v T.length (scells T)
/-- A slice of texts. -/
def TxV (w : World) (v : Value) (T : List (List UInt8)) : Prop := ∃ a cap, v = .slice a T.length cap ∧ ∃ b off, (T.length = 0 ∨ a = some ⟨b, off, none⟩) ∧ ∀ k (hk : k < T.length), b < w.heap.size ∧ w.cell? ⟨b, off + k, none⟩ = some (.string (bs T[k]))
theorem TxV.below {w w' : World} {v : Value} {T : List (List UInt8)} (h : TxV w v T) (k : Below w.heap.size w w') : TxV w' v T := by
  obtain ⟨a, cap, rfl, b, off, h1, h2⟩ := h
  refine ⟨a, cap, rfl, b, off, h1, fun j hj => ?_⟩
  obtain ⟨h3, h4⟩ := h2 j hj
  exact ⟨Nat.lt_of_lt_of_le h3 k.size, by rw [k.cell (p := ⟨b, off + j, none⟩) h3]; exact h4⟩
theorem TxV.at {w : World} {a : Option Addr} {n cap : Nat} {T : List (List UInt8)} (h : TxV w (.slice a n cap) T) {i : Nat} {t : List UInt8} (hi : T[i]? = some t) : ∃ b off, a = some ⟨b, off, none⟩ ∧ b < w.heap.size ∧ w.cell? ⟨b, off + i, none⟩ = some (.string (bs t)) := by
  obtain ⟨hl, ht⟩ := List.getElem?_eq_some_iff.1 hi
  obtain ⟨a', cap', e, b, off, h1, h2⟩ := h
  simp only [Value.slice.injEq] at e
  obtain ⟨rfl, rfl, rfl⟩ := e
  obtain ⟨h3, h4⟩ := h2 i hl
  rw [ht] at h4
  exact ⟨b, off, by rcases h1 with h1 | h1; (omega); (exact h1), h3, h4⟩
theorem TxV.len {w : World} {a : Option Addr} {n cap : Nat} {T : List (List UInt8)} (h : TxV w (.slice a n cap) T) : n = T.length := by
  obtain ⟨a', cap', e, _⟩ := h
  simp only [Value.slice.injEq] at e
  exact e.2.1
theorem OwnT.txs {w : World} {B : Nat} {v : Value} {T : List (List UInt8)} (h : OwnT w B v T) : TxV w v T := by
  unfold OwnT at h
  rcases Nat.eq_zero_or_pos T.length with h0 | h0
  · obtain ⟨a, cap, rfl⟩ := OffRow.slice h
    exact ⟨a, cap, rfl, 0, 0, .inl h0, fun k hk => absurd hk (by omega)⟩
  · obtain ⟨g, off, cap, cur, rfl, hB, hg, hc⟩ := OffRow.form h h0
    refine ⟨_, cap, rfl, g, off, .inr rfl, fun k hk => ⟨heap_lt hg, ?_⟩⟩
    rw [hc k (by omega)]
    simp [scells, hk]

/-- What Split answers. -/
def SplitPost (l : List UInt8) (w : World) (e : Ending) (w' : World) : Prop := ∃ v, e = .returned (.tuple #[v, .int .i64 ((splitL l).2 : Int)]) ∧ OwnT w' w.heap.size v (splitL l).1 ∧ Below w.heap.size w w'
theorem split_ret {l : List UInt8} {w w' : World} {v : Value} {T : List (List UInt8)} {k : Nat} (h : splitL l = (T, k)) (o : OwnT w' w.heap.size v T) (b : Below w.heap.size w w') : SplitPost l w (.returned (.tuple #[v, .int .i64 (k : Int)])) w' := ⟨v, by rw [h], by rw [h]; exact o, b⟩
theorem split_end {l rest : List UInt8} {T : List (List UInt8)} {k : Nat} (h : splitL l = (T ++ (splitL rest).1, k + (splitL rest).2)) (hf : firstL rest = none) : splitL l = (T, k) := by rw [h, split_none hf]; simp
theorem split_more {l : List UInt8} {T : List (List UInt8)} {k n : Nat} {t : List UInt8} (h : splitL l = (T ++ (splitL (l.drop k)).1, k + (splitL (l.drop k)).2)) (hf : firstL (l.drop k) = some (t, n)) : splitL l = ((T ++ [t]) ++ (splitL (l.drop (k + n))).1, (k + n) + (splitL (l.drop (k + n))).2) := by
  rw [h, split_some hf, List.drop_drop]
  simp [Nat.add_assoc]

set_option maxHeartbeats 4000000 in
theorem wal_Split (l : List UInt8) (w : World) (hl : l.length ≤ 1000000000) : Calls Tryz.prog 122 #[.string (bs l)] w fun e w' => SplitPost l w e w' := by
  have hz : (bs l).size = l.length := bs_size l
  obtain ⟨B, hB⟩ : ∃ B, B = w.heap.size := ⟨_, rfl⟩
  have HB := Lib.hid hB
  obtain ⟨i0, hi, hz0, hz1, hz2⟩ := info_parts infoStr
  have HI := Lib.hid (And.intro hi (And.intro hz0 (And.intro hz1 hz2)))
  have HL := Lib.hid hl
  clear hi hz0 hz1 hz2 hB
  go_enter Tryz.func122, Tryz.ntmps122
  go_wp2_with fail
  go_loopw [4, 5] (fun rv kv wr => ∃ (k : Nat) (T : List (List UInt8)), k ≤ l.length ∧ kv = .int .i64 (k : Int) ∧ Hid (Below B w wr ∧ OwnT wr B rv T) ∧ Hid (4 * T.length ≤ k) ∧ Hid (splitL l = (T ++ (splitL (l.drop k)).1, k + (splitL (l.drop k)).2))) (fun rv kv wr => l.length - (intOf kv).toNat)
  case atStart => exact ⟨0, [], Nat.zero_le _, rfl, Lib.hid ⟨Below.refl _ _, OffRow.nil _ _ _ _⟩, Lib.hid (by simp), Lib.hid (by simp)⟩
  case round =>
    obtain ⟨k, T, hk, rfl, hR, hn4, hS⟩ := hrel
    have hn := Lib.hid (show T.length ≤ 1000000000 by have := hn4.out; omega)
    obtain ⟨a1, cap1, rfl⟩ := OffRow.slice hR.out.2
    obtain ⟨rest, hrest⟩ : ∃ rest, rest = l.drop k := ⟨_, rfl⟩
    have hex : (bs l).extract k l.length = bs rest := by rw [hrest, ← bs_from l k hk, hz]
    have hrl : rest.length ≤ 1000000000 := by rw [hrest, List.length_drop]; omega
    have hk2 : (k : Int) ≤ (l.length : Int) := by omega
    have HR := Lib.hid hrest
    clear hrest
    rcases hf : firstL rest with _ | ⟨t, n⟩
    · have HF := Lib.hid (firstV_none hf)
      have HE := Lib.hid (show splitL l = (T, k) from split_end (rest := rest) (by rw [HR.out]; exact hS.out) hf)
      clear hf
      go_wp2_with fail
      refine (wal_first rest wr hrl).mono ?_
      rintro e w1 ⟨rfl, k1⟩
      have K1 := Lib.hid (hR.out.1.trans (k1.mono (by have := hR.out.1.size; have := HB.out; omega)))
      have O1 := Lib.hid (show OwnT w1 B (.slice a1 T.length cap1) T from OffRow.kept hR.out.2 fun j hj => k1.block j (OffRow.lt hR.out.2 j hj).2)
      rw [HF.out]
      clear k1
      go_wp2
      go_ret2
      exact split_ret HE.out (by rw [← HB.out]; exact O1.out) (by rw [← HB.out]; exact K1.out)
    · have HF := Lib.hid (firstV_some hf)
      have HE := Lib.hid (split_more hS.out (by rw [← HR.out]; exact hf))
      have hlt := first_lt hf
      have hkn : k + n ≤ l.length := by rw [HR.out, List.length_drop] at hlt; omega
      have h4 : 4 ≤ n := by have := (first_back hf).2.2; have := frameL_pos t; omega
      clear hf hlt
      go_wp2_with fail
      refine (wal_first rest wr hrl).mono ?_
      rintro e w1 ⟨rfl, k1⟩
      have K1 := Lib.hid (hR.out.1.trans (k1.mono (by have := hR.out.1.size; have := HB.out; omega)))
      have O1 := Lib.hid (show OffRow w1 B 9 1 (.slice a1 T.length cap1) T.length (scells T) from OffRow.kept hR.out.2 fun j hj => k1.block j (OffRow.lt hR.out.2 j hj).2)
      rw [HF.out]
      clear k1
      obtain ⟨hi, hz0, hz1, hz2⟩ := HI.out
      go_wp2_with (at_builtin; refine wpList_append_off rfl (.tmp 21) (.tmp 23) 52 rfl B 9 i0 _ 1 16 Tryz.underlying52 hi hz0 hz1 hz2 rfl (.slice a1 T.length cap1) T.length (scells T) rfl ?c1 (.slice (some ⟨w1.heap.size, 0, none⟩) 1 1) rfl 1 [.string (bs t)] ?c2 ?c3 ?c4 ?c5 ?_)
      case c1 => exact O1.out.allocd _
      case c2 => exact src_block (size := 1) (cs := #[.string (bs t)]) Tryz.underlying52 (heap_new _ _) 1 1 rfl (by intro u hu; simp at hu; subst hu; rfl)
      case c3 => have := hn.out; unfold maxLen; omega
      case c4 => have := hn.out; omega
      case c5 => have := K1.out.size; have := HB.out; simp; omega
      intro v7 w7 hr7 hg7 hat7
      have O7 := Lib.hid (show OwnT w7 B v7 (T ++ [t]) from by unfold OwnT; rw [List.length_append, scells_snoc]; exact hr7)
      have K7 := Lib.hid ((K1.out.alloc (by have := K1.out.size; have := HB.out; omega) _).grown hg7 (by have := K1.out.size; have := HB.out; simp; omega) (fun j hj => ((O1.out.allocd (.cells #[.string (bs t)] 9)).lt j hj).1))
      clear hr7 hg7 hat7 hi hz0 hz1 hz2
      go_wp2_with fail
      go_roundw
      case rel => exact ⟨k + n, T ++ [t], hkn, by go_num, Lib.hid ⟨K7.out, O7.out⟩, Lib.hid (by have := hn4.out; simp; omega), HE⟩
      case measure => simp [intOf]; omega

set_option maxHeartbeats 4000000 in
theorem ref_Split (l : List UInt8) (w : World) (hl : l.length ≤ 1000000000) : Calls Tryz.prog 78 #[.string (bs l)] w fun e w' => SplitPost l w e w' := by
  have hz : (bs l).size = l.length := bs_size l
  obtain ⟨B, hB⟩ : ∃ B, B = w.heap.size := ⟨_, rfl⟩
  have HB := Lib.hid hB
  obtain ⟨i0, hi, hz0, hz1, hz2⟩ := info_parts infoStr
  have HI := Lib.hid (And.intro hi (And.intro hz0 (And.intro hz1 hz2)))
  have HL := Lib.hid hl
  clear hi hz0 hz1 hz2 hB
  go_enter Tryz.func78, Tryz.ntmps78
  go_wp2_with fail
  go_loopw [4, 5] (fun rv kv wr => ∃ (k : Nat) (T : List (List UInt8)), k ≤ l.length ∧ kv = .int .i64 (k : Int) ∧ Hid (Below B w wr ∧ OwnT wr B rv T) ∧ Hid (4 * T.length ≤ k) ∧ Hid (splitL l = (T ++ (splitL (l.drop k)).1, k + (splitL (l.drop k)).2))) (fun rv kv wr => l.length - (intOf kv).toNat)
  case atStart => exact ⟨0, [], Nat.zero_le _, rfl, Lib.hid ⟨Below.refl _ _, OffRow.nil _ _ _ _⟩, Lib.hid (by simp), Lib.hid (by simp)⟩
  case round =>
    obtain ⟨k, T, hk, rfl, hR, hn4, hS⟩ := hrel
    have hn := Lib.hid (show T.length ≤ 1000000000 by have := hn4.out; omega)
    obtain ⟨a1, cap1, rfl⟩ := OffRow.slice hR.out.2
    obtain ⟨rest, hrest⟩ : ∃ rest, rest = l.drop k := ⟨_, rfl⟩
    have hex : (bs l).extract k l.length = bs rest := by rw [hrest, ← bs_from l k hk, hz]
    obtain ⟨rl, hrl⟩ : ∃ rl, rl = rest.length := ⟨_, rfl⟩
    have hrz : (bs rest).size = rl := by rw [bs_size, hrl]
    have hkr : k + rl = l.length := by rw [hrl, hrest, List.length_drop]; omega
    have hk2 : (k : Int) ≤ (l.length : Int) := by omega
    have HR := Lib.hid hrest
    have hT := fun wr => ref_ReadText (bs rest) wr (by rw [hrz]; unfold maxLen; omega)
    rw [bs_list] at hT
    clear hrest
    rcases td_cases rest with ⟨b1, b2, b3, b4, b5, b6, b7⟩ | ⟨b1 | b1, b2, b3⟩
    · obtain ⟨t, ht⟩ : ∃ t, t = ts rest := ⟨_, rfl⟩
      obtain ⟨n, hn'⟩ : ∃ n, n = tk rest := ⟨_, rfl⟩
      obtain ⟨q, hq⟩ : ∃ q, q = t.length := ⟨_, rfl⟩
      have htz : (bs t).size = q := by rw [bs_size, hq]
      have hql : q ≤ rl := by rw [hq, ht, b7, List.length_take, List.length_drop]; omega
      have hnr : n ≤ rl := by rw [hn', b6, hrl]; exact b4
      obtain ⟨m, hm⟩ : ∃ m, m + n = rl := ⟨rl - n, by omega⟩
      rw [b1, ← ht, ← hn'] at hT
      have HT := Lib.hid (And.intro b1 (And.intro ht (And.intro hn' (And.intro hq hrl))))
      clear b1 b2 b3 b4 b5 b6 b7 ht hn' hq hrl
      have hsub1 : ((l.length : Int) - (k : Int)) = ((rl : Nat) : Int) := by omega
      have hsub2 : ((rl : Int) - (n : Int)) = ((m : Nat) : Int) := by omega
      by_cases hbig : q ≤ 1048576
      · have hbig' : (q : Int) ≤ 1048576 := by omega
        by_cases h4 : 4 ≤ m
        · have h4' : (4 : Int) ≤ (m : Int) := by omega
          obtain ⟨cut, hcut⟩ : ∃ cut, cut = rest.take (n + 4) := ⟨_, rfl⟩
          have hex2 : (bs rest).extract 0 (n + 4) = bs cut := by rw [hcut]; exact bs_upto rest (n + 4) (by rw [← HT.out.2.2.2.2]; omega)
          have hcl : cut.length = n + 4 := by rw [hcut, List.length_take, ← HT.out.2.2.2.2]; omega
          have hcs : (bs cut).size ≤ 140737488355328 := by rw [bs_size]; omega
          have hnl' : ((n : Int) + 4) ≤ (rl : Int) := by omega
          by_cases hok : okT cut
          · have hE := Lib.hid (show takeE cut = 0 by rw [take_err cut (by omega), if_pos hok])
            have hf : firstL rest = some (t, n + 4) := by
              have := first_yes HT.out.1 (by rw [← HT.out.2.1, ← HT.out.2.2.2.1]; exact hbig) (by rw [← HT.out.2.2.1, ← HT.out.2.2.2.2]; omega) (by rw [← HT.out.2.2.1, ← hcut]; exact hok)
              rw [this, ← HT.out.2.1, ← HT.out.2.2.1]
            have HE := Lib.hid (split_more hS.out (by rw [← HR.out]; exact hf))
            clear hf hok HT hcut
            go_wp2_with fail
            refine (hT wr).mono ?_
            rintro e w1 ⟨rfl, rfl⟩
            go_wp2_with fail
            refine (ref_Take (bs cut) wr hcs).mono ?_
            rintro e w1 ⟨rfl, k1⟩
            have K1 := Lib.hid (hR.out.1.trans (k1.mono (by have := hR.out.1.size; have := HB.out; omega)))
            have O1 := Lib.hid (show OffRow w1 B 9 1 (.slice a1 T.length cap1) T.length (scells T) from OffRow.kept hR.out.2 fun j hj => k1.block j (OffRow.lt hR.out.2 j hj).2)
            rw [bs_list, hE.out]
            clear k1
            obtain ⟨hi, hz0, hz1, hz2⟩ := HI.out
            go_wp2_with (at_builtin; refine wpList_append_off rfl (.tmp 51) (.tmp 53) 52 rfl B 9 i0 _ 1 16 Tryz.underlying52 hi hz0 hz1 hz2 rfl (.slice a1 T.length cap1) T.length (scells T) rfl ?c1 (.slice (some ⟨w1.heap.size, 0, none⟩) 1 1) rfl 1 [.string (bs t)] ?c2 ?c3 ?c4 ?c5 ?_)
            case c1 => exact O1.out.allocd _
            case c2 => exact src_block (size := 1) (cs := #[.string (bs t)]) Tryz.underlying52 (heap_new _ _) 1 1 rfl (by intro u hu; simp at hu; subst hu; rfl)
            case c3 => have := hn.out; unfold maxLen; omega
            case c4 => have := hn.out; omega
            case c5 => have := K1.out.size; have := HB.out; simp; omega
            intro v7 w7 hr7 hg7 hat7
            have O7 := Lib.hid (show OwnT w7 B v7 (T ++ [t]) from by unfold OwnT; rw [List.length_append, scells_snoc]; exact hr7)
            have K7 := Lib.hid ((K1.out.alloc (by have := K1.out.size; have := HB.out; omega) _).grown hg7 (by have := K1.out.size; have := HB.out; simp; omega) (fun j hj => ((O1.out.allocd (.cells #[.string (bs t)] 9)).lt j hj).1))
            clear hr7 hg7 hat7 hi hz0 hz1 hz2
            go_wp2_with fail
            go_roundw
            case rel => exact ⟨k + (n + 4), T ++ [t], by omega, by go_num, Lib.hid ⟨K7.out, O7.out⟩, Lib.hid (by have := hn4.out; simp; omega), HE⟩
            case measure => simp [intOf]; omega
          · have hE := Lib.hid (show takeE cut = 4 by rw [take_err cut (by omega), if_neg hok])
            have HE := Lib.hid (show splitL l = (T, k) from split_end (rest := rest) (by rw [HR.out]; exact hS.out) (first_no (by
              intro hh
              have := hh.2.2.2
              rw [← HT.out.2.2.1, ← hcut] at this
              exact hok this)))
            clear hok HT hcut
            go_wp2_with fail
            refine (hT wr).mono ?_
            rintro e w1 ⟨rfl, rfl⟩
            go_wp2_with fail
            refine (ref_Take (bs cut) wr hcs).mono ?_
            rintro e w1 ⟨rfl, k1⟩
            have K1 := Lib.hid (hR.out.1.trans (k1.mono (by have := hR.out.1.size; have := HB.out; omega)))
            have O1 := Lib.hid (show OwnT w1 B (.slice a1 T.length cap1) T from OffRow.kept hR.out.2 fun j hj => k1.block j (OffRow.lt hR.out.2 j hj).2)
            rw [bs_list, hE.out]
            clear k1
            go_wp2
            go_ret2
            exact split_ret HE.out (by rw [← HB.out]; exact O1.out) (by rw [← HB.out]; exact K1.out)
        · have h4' : (m : Int) < 4 := by omega
          have HE := Lib.hid (show splitL l = (T, k) from split_end (rest := rest) (by rw [HR.out]; exact hS.out) (first_no (by
            intro hh
            have := hh.2.2.1
            rw [← HT.out.2.2.1, ← HT.out.2.2.2.2] at this
            omega)))
          clear HT
          go_wp2_with fail
          refine (hT wr).mono ?_
          rintro e w1 ⟨rfl, rfl⟩
          go_wp2
          go_ret2
          exact split_ret HE.out (by rw [← HB.out]; exact hR.out.2) (by rw [← HB.out]; exact hR.out.1)
      · have hbig' : (1048576 : Int) < (q : Int) := by omega
        have HE := Lib.hid (show splitL l = (T, k) from split_end (rest := rest) (by rw [HR.out]; exact hS.out) (first_no (by
          intro hh
          have := hh.2.1
          rw [← HT.out.2.1, ← HT.out.2.2.2.1] at this
          omega)))
        clear HT
        go_wp2_with fail
        refine (hT wr).mono ?_
        rintro e w1 ⟨rfl, rfl⟩
        go_wp2
        go_ret2
        exact split_ret HE.out (by rw [← HB.out]; exact hR.out.2) (by rw [← HB.out]; exact hR.out.1)
    · rw [b1] at hT
      have HE := Lib.hid (show splitL l = (T, k) from split_end (rest := rest) (by rw [HR.out]; exact hS.out) (first_no (by omega)))
      clear b1 b2 b3
      go_wp2_with fail
      refine (hT wr).mono ?_
      rintro e w1 ⟨rfl, rfl⟩
      go_wp2
      go_ret2
      exact split_ret HE.out (by rw [← HB.out]; exact hR.out.2) (by rw [← HB.out]; exact hR.out.1)
    · rw [b1] at hT
      have HE := Lib.hid (show splitL l = (T, k) from split_end (rest := rest) (by rw [HR.out]; exact hS.out) (first_no (by omega)))
      clear b1 b2 b3
      go_wp2_with fail
      refine (hT wr).mono ?_
      rintro e w1 ⟨rfl, rfl⟩
      go_wp2
      go_ret2
      exact split_ret HE.out (by rw [← HB.out]; exact hR.out.2) (by rw [← HB.out]; exact hR.out.1)

theorem frame_ge (r : List UInt8) : r.length ≤ (frameL r).length := by rw [frameL_len, text, List.length_append]; omega
theorem frames_mem {T : List (List UInt8)} {t : List UInt8} (h : t ∈ T) : t.length ≤ (framesL T).length := by
  induction T with
  | nil => cases h
  | cons r T ih =>
    show _ ≤ (frameL r ++ framesL T).length
    rw [List.length_append]
    rcases List.mem_cons.1 h with rfl | h
    · have := frame_ge t; omega
    · have := ih h; omega
theorem frames_snoc {T : List (List UInt8)} {i : Nat} {t : List UInt8} (h : T[i]? = some t) : framesL (T.take (i + 1)) = framesL (T.take i) ++ frameL t := by
  rw [List.take_add_one, h]
  show framesL (T.take i ++ [t]) = _
  rw [framesL_append, framesL_one]
theorem frames_take (T : List (List UInt8)) (i : Nat) : (framesL (T.take i)).length ≤ (framesL T).length := by
  conv => rhs; rw [← List.take_append_drop i T, framesL_append, List.length_append]
  omega
set_option maxHeartbeats 1000000 in
theorem ref_Frames {a : Option Addr} {len cap : Nat} {T : List (List UInt8)} {w : World} (h : Hid (TxV w (.slice a len cap) T)) (hb : Hid ((framesL T).length ≤ 1000000000)) (hl : len ≤ 1000000000) :
    Calls Tryz.prog 26 #[.slice a len cap] w fun e w' => e = .returned (.string (bs (framesL T))) ∧ Below w.heap.size w w' := by
  have HL := Lib.hid h.out.len
  go_enter Tryz.func26, Tryz.ntmps26
  go_wp2_with fail
  go_loopw [3, 4] (fun sv iv wr => ∃ i : Nat, i ≤ len ∧ iv = .int .i64 (i : Int) ∧ sv = .string (bs (framesL (T.take i))) ∧ Hid (Below w.heap.size w wr)) (fun sv iv wr => len - (intOf iv).toNat)
  case atStart => exact ⟨0, Nat.zero_le _, rfl, rfl, Lib.hid (Below.refl _ _)⟩
  case round =>
    obtain ⟨i, hi, rfl, rfl, hK⟩ := hrel
    rcases Nat.lt_or_ge i len with hlt | hge
    · obtain ⟨t, ht⟩ : ∃ t, T[i]? = some t := ⟨_, List.getElem?_eq_getElem (by have := HL.out; omega)⟩
      obtain ⟨b, off, rfl, hbl, hc⟩ := (h.out.below hK.out).at ht
      have hlt2 : (i : Int) < (len : Int) := by omega
      have htl : t.length ≤ 1000000000 := Nat.le_trans (frames_mem (List.mem_of_getElem? ht)) hb.out
      have hcat : bs (framesL (T.take i)) ++ bs (frameL t) = bs (framesL (T.take (i + 1))) := by rw [frames_snoc ht, bs_cat, bs_list]
      have hsz : ((bs (framesL (T.take i))).size : Int) + ((bs (frameL t)).size : Int) ≤ 9223372036854775807 := by
        have := frames_take T i
        have := frameL_le (r := t) (by omega)
        have := hb.out
        rw [bs_size, bs_size]
        omega
      clear ht
      go_wp2_with fail
      refine (ref_Frame t wr htl).mono ?_
      rintro e w1 ⟨rfl, k1⟩
      have K1 := Lib.hid (hK.out.trans (k1.mono hK.out.size))
      clear k1
      go_wp2_with fail
      go_roundw
      case rel => exact ⟨i + 1, by omega, by go_num, rfl, K1⟩
      case measure => simp [intOf]; omega
    · obtain rfl : i = len := by omega
      have HE := Lib.hid (show T.take i = T by rw [HL.out]; exact List.take_length)
      rw [HE.out]
      go_wp2
      go_ret
      exact ⟨rfl, hK.out⟩
end Go.Proofs.YtfbaenhajlckjaaGreat
/- The law's own look: whether texts are few, the document's example. -/
set_option linter.unusedVariables false
set_option maxRecDepth 100000
set_option maxRecDepth 100000
namespace Go.Proofs.YtfbaenhajlckjaaGreat
open Go.RowKit

/-- All bytes of texts. -/
def totalT : List (List UInt8) → Nat
  | [] => 0
  | t :: T => t.length + totalT T
theorem totalT_append : ∀ A B : List (List UInt8), totalT (A ++ B) = totalT A + totalT B
  | [], B => by simp [totalT]
  | t :: A, B => by show t.length + totalT (A ++ B) = t.length + totalT A + totalT B; rw [totalT_append A B]; omega
theorem total_snoc {T : List (List UInt8)} {i : Nat} {t : List UInt8} (h : T[i]? = some t) : totalT (T.take (i + 1)) = totalT (T.take i) + t.length := by
  rw [List.take_add_one, h]
  show totalT (T.take i ++ [t]) = _
  rw [totalT_append]
  rfl
theorem total_mem {T : List (List UInt8)} {t : List UInt8} (h : t ∈ T) : t.length ≤ totalT T := by
  induction T with
  | nil => cases h
  | cons r T ih =>
    show _ ≤ r.length + totalT T
    rcases List.mem_cons.1 h with rfl | h
    · omega
    · have := ih h; omega
/-- So few texts, with so few bytes. -/
structure FewT (T : List (List UInt8)) : Prop where
  len : T.length ≤ 200
  all : totalT T ≤ 30000
theorem FewT.mem {T : List (List UInt8)} (h : FewT T) {t : List UInt8} (ht : t ∈ T) : t.length ≤ 30000 := by
  have := total_mem ht
  have := h.all
  omega
theorem frames_len : ∀ T : List (List UInt8), (∀ t ∈ T, t.length ≤ 9223372036854775807) → (framesL T).length ≤ totalT T + 15 * T.length
  | [], _ => by simp [framesL]
  | t :: T, h => by
    have h1 := frameL_le (r := t) (h t (List.mem_cons_self ..))
    have h2 := frames_len T (fun x hx => h x (List.mem_cons_of_mem _ hx))
    show (frameL t ++ framesL T).length ≤ t.length + totalT T + 15 * (T.length + 1)
    rw [List.length_append]
    omega
theorem FewT.frames {T : List (List UInt8)} (h : FewT T) : (framesL T).length ≤ 33000 := by
  have := frames_len T (fun t ht => by have := h.mem ht; omega)
  have := h.len
  have := h.all
  omega
theorem FewT.split {T : List (List UInt8)} (h : FewT T) : ∀ t ∈ T, t.length ≤ 1048576 := fun t ht => by have := h.mem ht; omega
theorem TxV.fit {w : World} {a : Option Addr} {len cap : Nat} {T : List (List UInt8)} (h : TxV w (.slice a len cap) T) : len = T.length := h.len

def FewPost (T : List (List UInt8)) (w : World) (e : Ending) (w' : World) : Prop := ∃ b, e = .returned (.bool b) ∧ (b = true → FewT T) ∧ w = w'
theorem split_ab : splitL (frameL [97, 98] ++ [66, 97]) = ([[97, 98]], 7) := by
  have h0 : firstL [66, 97] = none := first_no (by
    intro h
    have := h.2.2.1
    simp at this)
  have h7 : (frameL [97, 98]).length = 7 := by rw [frameL_len, text_ab]; rfl
  rw [split_some (frame_first (by decide) _), List.drop_left, split_none h0, h7]
  rfl
end Go.Proofs.YtfbaenhajlckjaaGreat
/- WalFrames, walked: records have the document's frames, and any bytes bear the records that it says. -/
set_option linter.unusedVariables false
set_option maxRecDepth 100000
set_option maxRecDepth 100000
namespace Go.Proofs.YtfbaenhajlckjaaGreat
open Go.RowKit

/-- Texts that came in. -/
theorem txv_in {w : World} {a : Option Addr} {len cap : Nat} {T : List ByteArray} (h : IsTexts w a len T) : TxV w (.slice a len cap) (T.map fun t => t.data.toList) := by
  obtain ⟨h1, b, off, h2, h3⟩ := h
  refine ⟨a, cap, by rw [List.length_map, h1], b, off, ?_, fun k hk => ?_⟩
  · rw [List.length_map, ← h1]; exact h2
  · rw [List.length_map] at hk
    obtain ⟨h4, h5⟩ := h3 k hk
    refine ⟨h4, ?_⟩
    rw [h5, List.getElem_map, List.getD_eq_getElem?_getD, List.getElem?_eq_getElem hk]
    simp only [Option.getD_some]
    rw [bs_eq (s := T[k]) rfl]
    rfl
theorem in_small {T : List ByteArray} (h : ∀ t ∈ T, t.size ≤ 140737488351232) : ∀ t ∈ (T.map fun t => t.data.toList), t.length ≤ 9223372036854775807 := by
  intro t ht
  obtain ⟨u, hu, rfl⟩ := List.mem_map.1 ht
  have := h u hu
  rw [← Lib.size_eq]
  omega

end Go.Proofs.YtfbaenhajlckjaaGreat
/- Rows of numbers, bytes of a row, the beginning of a slice of texts: what the law of frames that are cut off wants. -/
set_option linter.unusedVariables false
set_option maxRecDepth 100000
set_option maxRecDepth 100000
namespace Go.Proofs.YtfbaenhajlckjaaGreat
open Go.RowKit

theorem infoInt : (Tryz.prog.info? 3).map (fun i => (i.zero, i.size, i.bytes)) = some (some (.int .i64 0), 1, 8) := by kernel_rfl
/-- A row of numbers of the call's own; a slice of numbers. -/
def ncells (L : List Nat) : List Value := L.map fun (n : Nat) => Value.int .i64 (n : Int)
theorem ncells_snoc (L : List Nat) (n : Nat) : ncells (L ++ [n]) = ncells L ++ [.int .i64 (n : Int)] := by simp [ncells]
def OwnN (w : World) (B : Nat) (v : Value) (L : List Nat) : Prop := OffRow w B 3 1 v L.length (ncells L)
def NsV (w : World) (v : Value) (L : List Nat) : Prop := ∃ a cap, v = .slice a L.length cap ∧ ∃ b off, (L.length = 0 ∨ a = some ⟨b, off, none⟩) ∧ ∀ k (hk : k < L.length), b < w.heap.size ∧ w.cell? ⟨b, off + k, none⟩ = some (.int .i64 (L[k] : Int))
theorem NsV.below {w w' : World} {v : Value} {L : List Nat} (h : NsV w v L) (k : Below w.heap.size w w') : NsV w' v L := by
  obtain ⟨a, cap, rfl, b, off, h1, h2⟩ := h
  refine ⟨a, cap, rfl, b, off, h1, fun j hj => ?_⟩
  obtain ⟨h3, h4⟩ := h2 j hj
  exact ⟨Nat.lt_of_lt_of_le h3 k.size, by rw [k.cell (p := ⟨b, off + j, none⟩) h3]; exact h4⟩
theorem NsV.at {w : World} {a : Option Addr} {n cap : Nat} {L : List Nat} (h : NsV w (.slice a n cap) L) {i t : Nat} (hi : L[i]? = some t) : ∃ b off, a = some ⟨b, off, none⟩ ∧ b < w.heap.size ∧ w.cell? ⟨b, off + i, none⟩ = some (.int .i64 (t : Int)) := by
  obtain ⟨hl, ht⟩ := List.getElem?_eq_some_iff.1 hi
  obtain ⟨a', cap', e, b, off, h1, h2⟩ := h
  simp only [Value.slice.injEq] at e
  obtain ⟨rfl, rfl, rfl⟩ := e
  obtain ⟨h3, h4⟩ := h2 i hl
  rw [ht] at h4
  exact ⟨b, off, by rcases h1 with h1 | h1; (omega); (exact h1), h3, h4⟩
theorem NsV.len {w : World} {a : Option Addr} {n cap : Nat} {L : List Nat} (h : NsV w (.slice a n cap) L) : n = L.length := by
  obtain ⟨a', cap', e, _⟩ := h
  simp only [Value.slice.injEq] at e
  exact e.2.1
theorem OwnN.ns {w : World} {B : Nat} {v : Value} {L : List Nat} (h : OwnN w B v L) : NsV w v L := by
  unfold OwnN at h
  rcases Nat.eq_zero_or_pos L.length with h0 | h0
  · obtain ⟨a, cap, rfl⟩ := OffRow.slice h
    exact ⟨a, cap, rfl, 0, 0, .inl h0, fun k hk => absurd hk (by omega)⟩
  · obtain ⟨g, off, cap, cur, rfl, hB, hg, hc⟩ := OffRow.form h h0
    refine ⟨_, cap, rfl, g, off, .inr rfl, fun k hk => ⟨heap_lt hg, ?_⟩⟩
    rw [hc k (by omega)]
    simp [ncells, hk]
theorem TxV.take {w : World} {a : Option Addr} {n cap : Nat} {T : List (List UInt8)} (h : TxV w (.slice a n cap) T) {j : Nat} (hj : j ≤ T.length) : TxV w (.slice a j cap) (T.take j) := by
  have hl : (T.take j).length = j := by rw [List.length_take]; omega
  obtain ⟨a', cap', e, b, off, h1, h2⟩ := h
  simp only [Value.slice.injEq] at e
  obtain ⟨rfl, rfl, rfl⟩ := e
  refine ⟨a, cap, by rw [hl], b, off, ?_, fun k hk => ?_⟩
  · rw [hl]
    rcases h1 with h1 | h1
    · exact .inl (by omega)
    · exact .inr h1
  · rw [hl] at hk
    obtain ⟨h3, h4⟩ := h2 k (by omega)
    exact ⟨h3, by rw [h4, List.getElem_take]⟩
theorem OffRow.cap_ge {w : World} {B n size cap : Nat} {e : TypeId} {a : Option Addr} {xs : List Value} (h : OffRow w B e size (.slice a n cap) n xs) : n ≤ cap := by
  rcases h.2 with ⟨h0, h1⟩ | ⟨g, off, cap', cur, h0, _, _, h1, _⟩
  · omega
  · injection h0 with _ _ h0
    omega

/-- Where each frame ends. -/
def endsN (T : List (List UInt8)) (i : Nat) : List Nat := (List.range i).map fun j => (framesL (T.take (j + 1))).length
theorem endsN_len (T : List (List UInt8)) (i : Nat) : (endsN T i).length = i := by simp [endsN]
theorem endsN_snoc (T : List (List UInt8)) (i : Nat) : endsN T (i + 1) = endsN T i ++ [(framesL (T.take (i + 1))).length] := by simp [endsN, List.range_succ]
theorem endsN_at (T : List (List UInt8)) {i j : Nat} (h : j < i) : (endsN T i)[j]? = some (framesL (T.take (j + 1))).length := by simp [endsN, h]

/-- In block B stand these bytes. -/
def Bytes8 (B : Nat) (L : List UInt8) (w : World) : Prop := ∀ j, j < L.length → w.cell? ⟨B, j, none⟩ = some (.int .u8 ((L.getD j 0).toNat : Int)) ∧ w.frozen? ⟨B, j, none⟩ = false
theorem bytes_new (w : World) (s : ByteArray) (cap : Nat) (t : TypeId) : Bytes8 w.heap.size s.data.toList (w.drew.alloc (.cells (bytesRow s cap) t ((bytesRow s cap).size, (bytesRow s cap).size + 1))) := by
  intro j hj
  have hs : j < s.data.size := by simpa using hj
  have hlen : j < (bytesRow s cap).size := by
    have h := (Array.getElem?_eq_some_iff.1 (bytesRow_at s cap j hs)).1
    exact h
  refine ⟨?_, ?_⟩
  · have h := World.cell?_alloc_mark w.drew (bytesRow s cap) t ((bytesRow s cap).size, (bytesRow s cap).size + 1) j
    refine h.trans ?_
    rw [bytesRow_at s cap j hs, List.getD_eq_getElem?_getD, List.getElem?_eq_getElem hj]
    rfl
  · have h := World.frozen?_alloc_mark w.drew (bytesRow s cap) t (bytesRow s cap).size ((bytesRow s cap).size + 1) j
    refine h.trans ?_
    rw [decide_eq_false (by omega), Bool.false_and]
theorem conv_out (w : World) (P : List UInt8) (n : Nat) (hP : P.length = n) : ∃ (w2 : World) (cap : Nat), (convert 9 136 (.string (bs P))).run Tryz.prog w = .ok (.slice (some ⟨w.heap.size, 0, none⟩) n cap) w2 ∧ Bytes8 w.heap.size P w2 ∧ Below w.heap.size w w2 := by
  have h := run_bytes_of_string (P := Tryz.prog) w 9 136 5 (bs P) Tryz.underlying9 Tryz.underlying136 Tryz.underlying5
  rw [bs_size, hP] at h
  exact ⟨_, _, h, bytes_new w (bs P) _ 5, ((Below.refl _ _).drew).alloc (Nat.le_refl _) _⟩
theorem conv_back (w : World) (B : Nat) (L : List UInt8) (n cap : Nat) (hn : n = L.length) (h : Bytes8 B L w) : (convert 136 9 (.slice (some ⟨B, 0, none⟩) n cap)).run Tryz.prog w = .ok (.string (bs L)) w := by
  subst hn
  refine run_convert_bytes_back (P := Tryz.prog) _ 136 9 5 ⟨B, 0, none⟩ cap L Tryz.underlying136 Tryz.underlying5 Tryz.underlying9 ?_
  intro j hj
  rw [addr_add, Nat.zero_add, (h j hj).1, List.getD_eq_getElem?_getD, List.getElem?_eq_getElem hj, Option.getD_some]
theorem Bytes8.set {B : Nat} {L : List UInt8} {w : World} (h : Bytes8 B L w) {i : Nat} (hi : i < L.length) (c : UInt8) : Bytes8 B (L.set i c) (w.setCell ⟨B, i, none⟩ (.int .u8 (c.toNat : Int))) := by
  intro j hj
  rw [List.length_set] at hj
  refine ⟨?_, by rw [World.frozen?_setCell]; exact (h j hj).2⟩
  by_cases hji : j = i
  · subst hji
    rw [World.cell?_setCell_same w _ _ (h _ hj).1, List.getD_eq_getElem?_getD, List.getElem?_set_self hj]
    rfl
  · rw [World.cell?_setCell_other w _ _ _ (fun e => hji (by injection e with _ e2; exact e2.symm)), (h j hj).1, List.getD_eq_getElem?_getD, List.getD_eq_getElem?_getD, List.getElem?_set_ne (by omega)]
end Go.Proofs.YtfbaenhajlckjaaGreat
/- The order of texts. -/
set_option linter.unusedVariables false
set_option maxRecDepth 100000
namespace Go.Proofs.YtfbaenhajlckjaaGreat

/-- The order of texts. -/
def ltB : List UInt8 → List UInt8 → Bool
  | [], [] => false
  | [], _ :: _ => true
  | _ :: _, [] => false
  | x :: a, y :: b => if x = y then ltB a b else decide (x.toNat < y.toNat)

theorem ltB_less : ∀ a b : List UInt8, Op.bytesLess a b = ltB a b
  | [], [] => rfl
  | [], _ :: _ => rfl
  | _ :: _, [] => rfl
  | x :: a, y :: b => by
    have := ltB_less a b
    simp only [Op.bytesLess, ltB]
    by_cases h : x = y
    · subst h
      simp [this]
    · have h2 : x.toNat ≠ y.toNat := fun e => h (UInt8.toNat.inj e)
      simp [h, UInt8.lt_iff_toNat_lt]
theorem ltB_irrefl : ∀ a : List UInt8, ltB a a = false
  | [] => rfl
  | x :: a => by simp [ltB, ltB_irrefl a]
theorem ltB_total : ∀ a b : List UInt8, ltB a b = true ∨ a = b ∨ ltB b a = true
  | [], [] => .inr (.inl rfl)
  | [], _ :: _ => .inl rfl
  | _ :: _, [] => .inr (.inr rfl)
  | x :: a, y :: b => by
    by_cases h : x = y
    · subst h
      rcases ltB_total a b with e | e | e
      · exact .inl (by simp [ltB, e])
      · exact .inr (.inl (by rw [e]))
      · exact .inr (.inr (by simp [ltB, e]))
    · have h2 : x.toNat ≠ y.toNat := fun e => h (UInt8.toNat.inj e)
      rcases Nat.lt_or_ge x.toNat y.toNat with e | e
      · exact .inl (by simp [ltB, h, e])
      · exact .inr (.inr (by simp [ltB, Ne.symm h]; omega))
theorem ltB_trans : ∀ {a b c : List UInt8}, ltB a b = true → ltB b c = true → ltB a c = true
  | [], [], _, h, _ => by cases h
  | [], _ :: _, [], _, h => by cases h
  | [], _ :: _, _ :: _, _, _ => rfl
  | _ :: _, [], _, h, _ => by cases h
  | _ :: _, _ :: _, [], _, h => by cases h
  | x :: a, y :: b, z :: c, h1, h2 => by
    simp only [ltB] at h1 h2 ⊢
    by_cases e1 : x = y
    · subst e1
      rw [if_pos rfl] at h1
      by_cases e2 : x = z
      · subst e2
        rw [if_pos rfl] at h2 ⊢
        exact ltB_trans h1 h2
      · rw [if_neg e2] at h2 ⊢
        exact h2
    · rw [if_neg e1] at h1
      by_cases e2 : y = z
      · subst e2
        rw [if_neg e1]
        exact h1
      · rw [if_neg e2] at h2
        have a1 := of_decide_eq_true h1
        have a2 := of_decide_eq_true h2
        rw [if_neg (by rintro rfl; omega)]
        exact decide_eq_true (by omega)
theorem ltB_asymm {a b : List UInt8} (h : ltB a b = true) : ltB b a = false := by
  cases e : ltB b a with
  | false => rfl
  | true => have := ltB_trans h e; rw [ltB_irrefl] at this; cases this
theorem ltB_ne {a b : List UInt8} (h : ltB a b = true) : a ≠ b := by
  rintro rfl
  rw [ltB_irrefl] at h
  cases h
end Go.Proofs.YtfbaenhajlckjaaGreat
