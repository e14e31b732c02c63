/- Texts put together: QFirst, ManBase, ByteOrder, ManPlain, ManRow, ManDraft -/
import Derived.Test.YtljjielekgilpaaGreatMApp00
import Derived.Deep.Cut
import Derived.Deep.RegionWith
import Derived.Laws.BitsAllLaws
import Derived.Laws.BytesArg
import Derived.Laws.Externs
import Derived.Lib.AppendStr
import Derived.Lib.FrozenHead2
import Derived.Lib.Hide
import Derived.Lib.MinMax
import Derived.Lib.OthersKept
import Derived.Lib.Slices
import Derived.Lib.Strings
import Derived.Lib.UnsafeStr
import Derived.Lib.Walk
import Derived.Maps.OwnSet
import Derived.Maps.RangeWalk
import Derived.Outline
import Derived.OwnWalk
import Derived.RegionTactic
import Derived.StillTailTactics
import Derived.WalkKit
import Derived.WalkLawsBesides
import Derived.WalkSpells
/- A region that draws its order, whose first operation may come at any time (the slice that is appended to, looked at first), then quiet ones, then a chain. -/
set_option linter.unusedVariables false
set_option maxRecDepth 100000
namespace Go.Proofs.YtljjielekgilpaaGreat
open Go.RowKit

section
variable {F : Fence} {n : Nat} {P : Program} {ops : Array Oper} {md : Region.Mode} {C : World → Prop}

/-! ### Where the first operation is awaited by the last ones alone ('l = append(l, f(x))': the slice is looked at first) -/
def HeadInv1 (md : Region.Mode) (ops : Array Oper) (m : Nat) (listed : Array Bool) : Prop := HeadInv md ops m listed ∧ listed.getD 0 false = true
theorem HeadInv1.set {m i : Nat} {listed : Array Bool} (inv : HeadInv1 md ops m listed) (hi : i ∈ Region.ready md ops listed) (him : i < m) : HeadInv1 md ops m (listed.setIfInBounds i true) :=
  ⟨inv.1.set hi him, getD_set_true inv.2⟩
def sink1B (md : Region.Mode) (ops : Array Oper) (m : Nat) : Bool :=
  (List.range m).all fun i => decide (i = 0) || (List.range (m + 1)).any fun j => decide (i < j) && Region.waitsFor md ops j i
theorem ready_waits {listed : Array Bool} {t i : Nat} (hr : t ∈ Region.ready md ops listed) (hw : Region.waitsFor md ops t i = true) : listed.getD i false = true := by
  obtain ⟨_, ot, hot, hall⟩ := mem_ready.1 hr
  obtain ⟨o, ho, e, he, hb, rfl⟩ := Region.waitsFor_spec hw
  obtain rfl := Option.some.inj (ho.symm.trans hot)
  exact hall e he hb
theorem tail_waits1 {m : Nat} {listed : Array Bool} (hs : sink1B md ops m = true) (hc : Region.chainB md ops m = true) (hn : m < ops.size) (inv : HeadInv1 md ops m listed) :
    ∀ (d i : Nat), m - i = d → i < m → listed.getD i true = false → ∀ t, m ≤ t → t ∉ Region.ready md ops listed := by
  intro d i _ hi hun t ht hr
  have htlt : t < ops.size := by obtain ⟨_, _, hot, _⟩ := mem_ready.1 hr; exact (Array.getElem?_eq_some_iff.1 hot).1
  rcases Nat.lt_or_ge m t with hmt | hmt
  · have h1 := List.all_eq_true.1 hc t (List.mem_range.2 htlt)
    simp only [Bool.or_eq_true, decide_eq_true_eq] at h1
    have h2 := ready_waits hr (h1.resolve_left (by omega))
    rw [getD_both (inv.1.tail (t - 1) (by omega) (by omega))] at h2
    cases h2
  · obtain rfl : t = m := by omega
    -- whoever waits for one that hasn't come hasn't come: up to t, which has all that it waits for
    have up : ∀ k i, t - i ≤ k → i < t → listed.getD i true = false → False := by
      intro k
      induction k with
      | zero => intro i h1 h2; omega
      | succ k ih =>
        intro i hk hi hun
        have h1 := List.all_eq_true.1 hs i (List.mem_range.2 hi)
        simp only [Bool.or_eq_true, decide_eq_true_eq, List.any_eq_true, Bool.and_eq_true, List.mem_range] at h1
        rcases h1 with rfl | ⟨j, hj, hij, hw⟩
        · have := inv.2; rw [getD_both hun] at this; cases this
        · by_cases hjt : j = t
          · subst hjt
            have := ready_waits hr hw
            rw [getD_both hun] at this
            cases this
          · cases hl : listed.getD j false with
            | true =>
              obtain ⟨o, ho, e, he, hb, hon⟩ := Region.waitsFor_spec hw
              have := inv.1.closed j o ho hl e he hb
              rw [hon, getD_both hun] at this
              cases this
            | false => exact ih j (by omega) (by omega) (getD_in (by rw [inv.1.size]; omega) hl)
    exact up (t - i) i (Nat.le_refl _) hi hun
theorem wpAnyLP1_first {m i : Nat} {oi : Oper} {v : Value} {L : Array Bool → Act → Prop} (hi : ops[i]? = some oi) (hsel : ∀ (j : Nat) (o : Oper) cs b, ops[j]? = some o → o.op ≠ .select cs b)
    (hs : sink1B md ops m = true) (hc : Region.chainB md ops m = true) (hn : m < ops.size) (hin : i < m)
    (hdone : ∀ listed a, L listed a → ∀ j ∈ Region.ready md ops listed, m ≤ j) :
    ∀ (f : Nat) (listed : Array Bool) (a : Act), HeadInv1 md ops m listed →
      (∀ j oj, ops[j]? = some oj → j ≠ i → listed.getD j true = false → (∀ e ∈ oj.after, Region.binds md e = true → e.on ≠ i) → oi.apart ops oj = true) →
      i ∈ Region.ready md ops listed → YieldsIn P ops C oi v a →
      wpAnyLP P md ops C m L f (listed.setIfInBounds i true) (a.put oi.dst v) → wpAnyLP P md ops C m L (f + 1) listed a := by
  intro f
  induction f with
  | zero =>
    intro listed a inv _ hr hy H
    have hun := (mem_ready.1 hr).1
    refine ⟨fun h => (by rw [h] at hr; cases hr), fun j hj => ?_⟩
    have hjn : j < m := by
      rcases Nat.lt_or_ge j m with h | h
      · exact h
      · exact absurd hj (tail_waits1 hs hc hn inv _ i rfl hin hun j h)
    refine ⟨hjn, ?_⟩
    by_cases hji : j = i
    · subst hji; exact hy.qOp hi H
    · have := hdone _ _ H j (ready_mono hj hji)
      omega
  | succ f ih =>
    intro listed a inv hfree hr hy H
    have hun := (mem_ready.1 hr).1
    refine ⟨fun h => (by rw [h] at hr; cases hr), fun j hj => ?_⟩
    have hjn : j < m := by
      rcases Nat.lt_or_ge j m with h | h
      · exact h
      · exact absurd hj (tail_waits1 hs hc hn inv _ i rfl hin hun j h)
    refine ⟨hjn, ?_⟩
    by_cases hji : j = i
    · subst hji; exact hy.qOp hi H
    · have h1 := (H.2 j (ready_mono hj hji)).2
      obtain ⟨hjun, oj, hoj, hall⟩ := mem_ready.1 hj
      have hnot : ∀ e ∈ oj.after, Region.binds md e = true → e.on ≠ i := fun e he hb heq => by
        have h1 := hall e he hb
        rw [heq, getD_both hun] at h1
        cases h1
      have h2 := qOp_put hoj (hfree j oj hoj hji hjun hnot) (fun cs b => hsel i oi cs b hi) (fun cs b => hsel j oj cs b hoj) hy h1
      have hfree' : ∀ k ok, ops[k]? = some ok → k ≠ i → (listed.setIfInBounds j true).getD k true = false →
          (∀ e ∈ ok.after, Region.binds md e = true → e.on ≠ i) → oi.apart ops ok = true := fun k ok hk hki hun hno => by
        refine hfree k ok hk hki ?_ hno
        by_cases hjk : j = k
        · subst hjk; exact hjun
        · rw [getD_set_ne true hjk] at hun; exact hun
      refine qOp_mono (fun a' h3 => ih (listed.setIfInBounds j true) a' (inv.set hj hjn) hfree' (ready_mono hr (Ne.symm hji)) h3.1 ?_) h2
      rw [Array.setIfInBounds_comm _ _ hji]
      exact h3.2

theorem wpAnyLP1_lex {m g : Nat} {Lq : Act → Prop} (hsel : Region.noSelect ops = true) (hs : sink1B md ops m = true) (hc : Region.chainB md ops m = true) (hn : m < ops.size) :
    ∀ (l : List Oper) (k : Nat) (listed : Array Bool) (a : Act), (∀ j, j < l.length → l[j]? = ops[k + j]?) → k + l.length = m → HeadInv1 md ops m listed →
    Region.lexHead md ops g l.length k listed = true → wpQuiet P ops C Lq l a →
    wpAnyLP P md ops C m (fun listed' a' => Region.seqB md ops g m listed' = true ∧ Lq a') l.length listed a
  | [], k, listed, a, _, hk, _, hB, h => by
    have : k = m := by simpa using hk
    subst this
    exact ⟨by simpa [Region.lexHead] using hB, h⟩
  | o :: l, k, listed, a, hl, hk, inv, hB, h => by
    have h0 : ops[k]? = some o := by simpa using (hl 0 (by simp)).symm
    simp only [List.length_cons, Region.lexHead, Bool.and_eq_true] at hB
    obtain ⟨⟨hr, hf⟩, hB'⟩ := hB
    have hkn : k < m := by simp only [List.length_cons] at hk; omega
    have hr' : k ∈ Region.ready md ops listed := by simpa using hr
    have hst : qOp P ops C k (wpQuiet P ops C Lq l) a := by unfold qOp; simp only [h0]; exact h
    obtain ⟨v, hy, hK⟩ := yieldsIn_of_qOp h0 hst
    exact wpAnyLP1_first h0 (Region.noSelect_spec hsel) hs hc hn hkn (fun listed' a' hL => seqB_ready hL.1) l.length listed a inv (Region.free_spec h0 hf) hr' hy
      (wpAnyLP1_lex hsel hs hc hn l (k + 1) _ _ (fun j hj => by have := hl (j + 1) (by simp; omega); simpa [Nat.add_assoc, Nat.add_comm 1 j] using this) (by simp only [List.length_cons] at hk; omega) (inv.set hr' hkn) hB' hK)


def first1B (md : Region.Mode) (ops : Array Oper) (m : Nat) : Bool :=
  Region.noSelect ops && decide (0 < m) && decide (m < ops.size) && Region.free md ops (Array.replicate ops.size false) 0 && (Region.ready md ops (Array.replicate ops.size false)).contains 0 && sink1B md ops m && Region.chainB md ops m &&
    Region.lexHead md ops (ops.size - m) (m - 1) 1 ((Array.replicate ops.size false).setIfInBounds 0 true) && (match ops[0]? with | some o => o.after.isEmpty | none => false)
/-- ONE OPERATION THAT MAY COME AT ANY TIME, THEN QUIET ONES, THEN A CHAIN. -/
theorem wp_region_first_tail {id : Nat} {Q : Exit → Act → World → Prop} {a : Act} {w : World} {o : Oper} {l : List Oper} (m : Nat) (v : Value) (hm : P.follows .mixedOrders = true) (hB : first1B .any (o :: l).toArray m = true)
    (hy : Yields P (o :: l).toArray o v a) (hQ : ∀ c a w, Q (.panic c) (a.put o.dst v) w → Q (.panic c) a w)
    (h : wpQuiet P (o :: l).toArray (fun w' => ∃ n : Seen w, w' = n.val) (fun a' => ∀ w', (∃ n : Seen w, w' = n.val) → wpList P (o :: l).toArray Q (l.drop (m - 1)) a' w') (l.take (m - 1)) (a.put o.dst v)) : (Code.region id (o :: l).toArray true).wp P Q a w := by
  simp only [first1B, Bool.and_eq_true, decide_eq_true_eq] at hB
  obtain ⟨⟨⟨⟨⟨⟨⟨⟨hsel, hm0⟩, hn⟩, hfr⟩, hrd⟩, hs⟩, hc⟩, hlex⟩, haft⟩ := hB
  have hsz : (o :: l).toArray.size = l.length + 1 := by simp
  have hlm : (l.take (m - 1)).length = m - 1 := by simp; simp at hn; omega
  have hdl : (l.drop (m - 1)).length = (o :: l).toArray.size - m := by simp; omega
  have h0 : (o :: l).toArray[0]? = some o := by simp
  have hrd' : 0 ∈ Region.ready .any (o :: l).toArray (Array.replicate (o :: l).toArray.size false) := by simpa using hrd
  have inv0 : HeadInv .any (o :: l).toArray m (Array.replicate (o :: l).toArray.size false) :=
    ⟨by simp, fun j oj _ hl => (by rw [getD_replicate_false] at hl; cases hl), fun t _ ht => getD_in (by simpa using ht) (getD_replicate_false _ _)⟩
  have inv1 : HeadInv1 .any (o :: l).toArray m ((Array.replicate (o :: l).toArray.size false).setIfInBounds 0 true) := ⟨inv0.set hrd' hm0, by simp⟩
  have H := wpAnyLP1_lex (md := .any) (g := (o :: l).toArray.size - m) hsel hs hc hn (l.take (m - 1)) 1 _ (a.put o.dst v) (fun j hj => by
    have hj' : j < m - 1 := by rw [hlm] at hj; exact hj
    simp [hj', Nat.add_comm 1 j]) (by rw [hlm]; omega) inv1 (by rw [hlm]; exact hlex) h
  refine wp_region_any hm ?_
  rw [show (o :: l).toArray.size = l.length + 1 from hsz]
  refine wpAny_take h0 hsel (by rw [← hsz]; exact hfr) (by rw [← hsz]; exact hrd) hQ hy ?_
  have := wpAny_of_headQ (C := fun w' => ∃ n : Seen w, w' = n.val) (Q' := Q) (g := (o :: l).toArray.size - m) (fun listed a' w' hC' hL => by
    have := wpAny_of_seq (md := .any) (Q' := Q) (l.drop (m - 1)) m listed a' w' (fun j => by
      simp only [List.getElem?_drop, List.getElem?_toArray]
      rw [show m + j = (m - 1 + j) + 1 by omega, List.getElem?_cons_succ]) (by rw [hdl]; exact hL.1) (hL.2 w' hC')
    rw [hdl] at this
    exact this) _ _ _ { w with drawn := w.drawn + 1 } ⟨⟨w.drew, (Below.refl _ _).drew⟩, rfl⟩ H
  rw [hlm, show m - 1 + ((o :: l).toArray.size - m) = l.length by rw [hsz] at hn ⊢; omega] at this
  rw [← hsz]
  exact this
end
end Go.Proofs.YtljjielekgilpaaGreat
/- What rows are known by. -/
set_option linter.unusedVariables false
set_option maxRecDepth 100000
namespace Go.Proofs.YtljjielekgilpaaGreat
open Go.RowKit
theorem info_parts {t : TypeId} {z : Value} {s b : Nat} (h : (Tryz.prog.info? t).map (fun i => (i.zero, i.size, i.bytes)) = some (some z, s, b)) : ∃ i, Tryz.prog.info? t = some i ∧ i.zero = some z ∧ i.size = s ∧ i.bytes = b := by
  cases hi : Tryz.prog.info? t with
  | none => rw [hi] at h; cases h
  | some i =>
    rw [hi] at h
    simp only [Option.map_some, Option.some.injEq, Prod.mk.injEq] at h
    exact ⟨i, rfl, h.1, h.2.1, h.2.2⟩
theorem OffRow.allocd {w : World} {B n size : Nat} {e : TypeId} {v : Value} {xs : List Value} (h : OffRow w B e size v n xs) (o : Obj) : OffRow (w.alloc o) B e size v n xs := h.kept fun j hj => Below.heap_alloc w o j (h.lt j hj).2

theorem infoInt : (Tryz.prog.info? 3).map (fun i => (i.zero, i.size, i.bytes)) = some (some (.int .i64 0), 1, 8) := by kernel_rfl
theorem OffRow.cap_ge {w : World} {B n size cap : Nat} {e : TypeId} {a : Option Addr} {xs : List Value} (h : OffRow w B e size (.slice a n cap) n xs) : n ≤ cap := by
  rcases h.2 with ⟨h0, h1⟩ | ⟨g, off, cap', cur, h0, _, _, h1, _⟩
  · omega
  · injection h0 with _ _ h0
    omega

end Go.Proofs.YtljjielekgilpaaGreat
/- The order of texts. -/
set_option linter.unusedVariables false
set_option maxRecDepth 100000
namespace Go.Proofs.YtljjielekgilpaaGreat

/-- The order of texts. -/
def ltB : List UInt8 → List UInt8 → Bool
  | [], [] => false
  | [], _ :: _ => true
  | _ :: _, [] => false
  | x :: a, y :: b => if x = y then ltB a b else decide (x.toNat < y.toNat)

theorem ltB_less : ∀ a b : List UInt8, Op.bytesLess a b = ltB a b
  | [], [] => rfl
  | [], _ :: _ => rfl
  | _ :: _, [] => rfl
  | x :: a, y :: b => by
    have := ltB_less a b
    simp only [Op.bytesLess, ltB]
    by_cases h : x = y
    · subst h
      simp [this]
    · have h2 : x.toNat ≠ y.toNat := fun e => h (UInt8.toNat.inj e)
      simp [h, UInt8.lt_iff_toNat_lt]
theorem ltB_irrefl : ∀ a : List UInt8, ltB a a = false
  | [] => rfl
  | x :: a => by simp [ltB, ltB_irrefl a]
theorem ltB_total : ∀ a b : List UInt8, ltB a b = true ∨ a = b ∨ ltB b a = true
  | [], [] => .inr (.inl rfl)
  | [], _ :: _ => .inl rfl
  | _ :: _, [] => .inr (.inr rfl)
  | x :: a, y :: b => by
    by_cases h : x = y
    · subst h
      rcases ltB_total a b with e | e | e
      · exact .inl (by simp [ltB, e])
      · exact .inr (.inl (by rw [e]))
      · exact .inr (.inr (by simp [ltB, e]))
    · have h2 : x.toNat ≠ y.toNat := fun e => h (UInt8.toNat.inj e)
      rcases Nat.lt_or_ge x.toNat y.toNat with e | e
      · exact .inl (by simp [ltB, h, e])
      · exact .inr (.inr (by simp [ltB, Ne.symm h]; omega))
theorem ltB_trans : ∀ {a b c : List UInt8}, ltB a b = true → ltB b c = true → ltB a c = true
  | [], [], _, h, _ => by cases h
  | [], _ :: _, [], _, h => by cases h
  | [], _ :: _, _ :: _, _, _ => rfl
  | _ :: _, [], _, h, _ => by cases h
  | _ :: _, _ :: _, [], _, h => by cases h
  | x :: a, y :: b, z :: c, h1, h2 => by
    simp only [ltB] at h1 h2 ⊢
    by_cases e1 : x = y
    · subst e1
      rw [if_pos rfl] at h1
      by_cases e2 : x = z
      · subst e2
        rw [if_pos rfl] at h2 ⊢
        exact ltB_trans h1 h2
      · rw [if_neg e2] at h2 ⊢
        exact h2
    · rw [if_neg e1] at h1
      by_cases e2 : y = z
      · subst e2
        rw [if_neg e1]
        exact h1
      · rw [if_neg e2] at h2
        have a1 := of_decide_eq_true h1
        have a2 := of_decide_eq_true h2
        rw [if_neg (by rintro rfl; omega)]
        exact decide_eq_true (by omega)
theorem ltB_asymm {a b : List UInt8} (h : ltB a b = true) : ltB b a = false := by
  cases e : ltB b a with
  | false => rfl
  | true => have := ltB_trans h e; rw [ltB_irrefl] at this; cases this
theorem ltB_ne {a b : List UInt8} (h : ltB a b = true) : a ≠ b := by
  rintro rfl
  rw [ltB_irrefl] at h
  cases h
end Go.Proofs.YtljjielekgilpaaGreat
/- States, edits, and what becomes of a state: in plain words. -/
set_option linter.unusedVariables false
set_option maxRecDepth 100000
namespace Go.Proofs.YtljjielekgilpaaGreat

/-- A table, a store, an edit, a state. -/
structure Tb where
  file : Int
  lev : Int
  cnt : Int
  low : List UInt8
  high : List UInt8
structure So where
  file : Int
  tier : Int
structure Ed where
  kind : Int
  file : Int
  lev : Int
  cnt : Int
  low : List UInt8
  high : List UInt8
structure St where
  tabs : List Tb
  stos : List So
  logs : List Int
  next : Int
instance : Inhabited Tb := ⟨⟨0, 0, 0, [], []⟩⟩
instance : Inhabited So := ⟨⟨0, 0⟩⟩
def St.zero : St := ⟨[], [], [], 0⟩
def Ed.tab (x : Ed) : Tb := ⟨x.file, x.lev, x.cnt, x.low, x.high⟩
def Ed.sto (x : Ed) : So := ⟨x.file, x.lev⟩
theorem Ed.ext' {a b : Ed} (h1 : a.kind = b.kind) (h2 : a.file = b.file) (h3 : a.lev = b.lev) (h4 : a.cnt = b.cnt) (h5 : a.low = b.low) (h6 : a.high = b.high) : a = b := by cases a; cases b; simp_all

/-! ### the order of tables -/
def tlt (a b : Tb) : Bool := if a.lev = b.lev then (if a.lev = 0 then decide (b.file < a.file) else ltB a.low b.low) else decide (a.lev < b.lev)
theorem tlt_lev {a b : Tb} (h : tlt a b = true) : a.lev ≤ b.lev := by
  unfold tlt at h; split at h
  · omega
  · simp at h; omega
theorem tlt_irrefl (a : Tb) : tlt a a = false := by unfold tlt; simp [ltB_irrefl]
theorem tlt_trans {a b c : Tb} (h1 : tlt a b = true) (h2 : tlt b c = true) : tlt a c = true := by
  have l1 := tlt_lev h1; have l2 := tlt_lev h2
  unfold tlt at *
  by_cases e1 : a.lev = b.lev
  · by_cases e2 : b.lev = c.lev
    · rw [if_pos e1] at h1; rw [if_pos e2] at h2; rw [if_pos (e1.trans e2)]
      by_cases z : a.lev = 0
      · rw [if_pos z] at h1 ⊢; rw [if_pos (e1 ▸ z)] at h2; simp at *; omega
      · rw [if_neg z] at h1 ⊢; rw [if_neg (e1 ▸ z)] at h2; exact ltB_trans h1 h2
    · rw [if_neg (by omega)]; simp; omega
  · rw [if_neg (by omega)]; simp; omega
theorem ltB_ntrans {a b c : List UInt8} (h1 : ltB a b = false) (h2 : ltB b c = false) : ltB a c = false := by
  cases h : ltB a c with
  | false => rfl
  | true =>
    rcases ltB_total b c with x | x | x
    · rw [x] at h2; cases h2
    · subst x; rw [h] at h1; cases h1
    · have := ltB_trans h x; rw [h1] at this; cases this
theorem ltB_le_lt {a b c : List UInt8} (h1 : ltB b a = false) (h2 : ltB b c = true) : ltB a c = true := by
  cases h : ltB a c with
  | true => rfl
  | false => have := ltB_ntrans h1 h; rw [h2] at this; cases this
theorem ltB_lt_le {a b c : List UInt8} (h1 : ltB a b = true) (h2 : ltB c b = false) : ltB a c = true := by
  cases h : ltB a c with
  | true => rfl
  | false => have := ltB_ntrans h h2; rw [h1] at this; cases this
theorem tlt_ntrans {a b c : Tb} (h1 : tlt a b = false) (h2 : tlt b c = false) : tlt a c = false := by
  unfold tlt at *
  by_cases e1 : a.lev = b.lev
  · by_cases e2 : b.lev = c.lev
    · rw [if_pos e1] at h1; rw [if_pos e2] at h2; rw [if_pos (e1.trans e2)]
      by_cases z : a.lev = 0
      · rw [if_pos z] at h1 ⊢; rw [if_pos (e1 ▸ z)] at h2; simp at *; omega
      · rw [if_neg z] at h1 ⊢; rw [if_neg (e1 ▸ z)] at h2; exact ltB_ntrans h1 h2
    · rw [if_neg e2] at h2; rw [if_neg (by omega)]; simp at *; omega
  · rw [if_neg e1] at h1
    by_cases e2 : b.lev = c.lev
    · rw [if_neg (by omega)]; simp at *; omega
    · rw [if_neg e2] at h2
      simp at h1 h2
      rw [if_neg (by omega)]; simp; omega
theorem tlt_asymm {a b : Tb} (h : tlt a b = true) : tlt b a = false := by
  cases e : tlt b a with
  | false => rfl
  | true => have := tlt_trans h e; rw [tlt_irrefl] at this; cases this

/-! ### an element put into its place -/
def insT (t : Tb) : List Tb → List Tb
  | [] => [t]
  | u :: L => if tlt t u then t :: u :: L else u :: insT t L
def insS (t : So) : List So → List So
  | [] => [t]
  | u :: L => if t.file < u.file then t :: u :: L else u :: insS t L
/-- The place of the first that isn't ahead. -/
def lbT (t : Tb) (L : List Tb) : Nat := L.findIdx fun u => !tlt u t
def lbS (t : So) (L : List So) : Nat := L.findIdx fun u => !decide (u.file < t.file)
theorem lbT_cons (t u : Tb) (L : List Tb) : lbT t (u :: L) = if tlt u t then lbT t L + 1 else 0 := by
  unfold lbT; rw [List.findIdx_cons]; cases tlt u t <;> simp
theorem lbS_cons (t u : So) (L : List So) : lbS t (u :: L) = if u.file < t.file then lbS t L + 1 else 0 := by
  unfold lbS; rw [List.findIdx_cons]; by_cases h : u.file < t.file <;> simp [h]
theorem lbT_le (t : Tb) (L : List Tb) : lbT t L ≤ L.length := List.findIdx_le_length
theorem lbS_le (t : So) (L : List So) : lbS t L ≤ L.length := List.findIdx_le_length
theorem insT_lb (t : Tb) : ∀ L : List Tb, (∀ u ∈ L, tlt u t = true ∨ tlt t u = true) → insT t L = L.take (lbT t L) ++ t :: L.drop (lbT t L)
  | [], _ => rfl
  | u :: L, h => by
    rw [lbT_cons]
    rcases h u (List.mem_cons_self ..) with x | x
    · rw [if_pos x]
      unfold insT
      rw [if_neg (by rw [tlt_asymm x]; simp), insT_lb t L fun v hv => h v (List.mem_cons_of_mem _ hv)]
      rfl
    · rw [if_neg (by rw [tlt_asymm x]; simp)]
      unfold insT
      rw [if_pos x]
      rfl
theorem insS_lb (t : So) : ∀ L : List So, (∀ u ∈ L, u.file ≠ t.file) → insS t L = L.take (lbS t L) ++ t :: L.drop (lbS t L)
  | [], _ => rfl
  | u :: L, h => by
    rw [lbS_cons]
    have hu := h u (List.mem_cons_self ..)
    by_cases x : u.file < t.file
    · rw [if_pos x]
      unfold insS
      rw [if_neg (by omega), insS_lb t L fun v hv => h v (List.mem_cons_of_mem _ hv)]
      rfl
    · rw [if_neg x]
      unfold insS
      rw [if_pos (by omega)]
      rfl
theorem mem_insT {t v : Tb} : ∀ {L : List Tb}, v ∈ insT t L ↔ v = t ∨ v ∈ L
  | [] => by simp [insT]
  | u :: L => by
    unfold insT
    split
    · simp
    · rw [List.mem_cons, mem_insT, List.mem_cons]; constructor <;> (rintro (h | h | h) <;> simp [h])
theorem mem_insS {t v : So} : ∀ {L : List So}, v ∈ insS t L ↔ v = t ∨ v ∈ L
  | [] => by simp [insS]
  | u :: L => by
    unfold insS
    split
    · simp
    · rw [List.mem_cons, mem_insS, List.mem_cons]; constructor <;> (rintro (h | h | h) <;> simp [h])
theorem insT_perm (t : Tb) : ∀ L : List Tb, (insT t L).Perm (t :: L)
  | [] => .refl _
  | u :: L => by
    unfold insT
    split
    · exact .refl _
    · exact ((insT_perm t L).cons u).trans (.swap ..)
theorem insS_perm (t : So) : ∀ L : List So, (insS t L).Perm (t :: L)
  | [] => .refl _
  | u :: L => by
    unfold insS
    split
    · exact .refl _
    · exact ((insS_perm t L).cons u).trans (.swap ..)
theorem insT_pair {R : Tb → Tb → Prop} {t : Tb} : ∀ {L : List Tb}, L.Pairwise R → (∀ u ∈ L, tlt t u = true → R t u) → (∀ u ∈ L, tlt t u = false → R u t) → (L.Pairwise fun a b => tlt a b = true) → (insT t L).Pairwise R
  | [], _, _, _, _ => by simp [insT]
  | u :: L, h, h1, h2, hs => by
    unfold insT
    rw [List.pairwise_cons] at h hs
    split
    · rename_i htu
      refine List.pairwise_cons.2 ⟨fun v hv => ?_, List.pairwise_cons.2 h⟩
      rcases List.mem_cons.1 hv with rfl | hv
      · exact h1 _ (List.mem_cons_self ..) htu
      · exact h1 _ (List.mem_cons_of_mem _ hv) (tlt_trans htu (hs.1 v hv))
    · rename_i htu
      refine List.pairwise_cons.2 ⟨fun v hv => ?_, insT_pair h.2 (fun v hv => h1 v (List.mem_cons_of_mem _ hv)) (fun v hv => h2 v (List.mem_cons_of_mem _ hv)) hs.2⟩
      rcases mem_insT.1 hv with rfl | hv
      · exact h2 _ (List.mem_cons_self ..) (by simpa using htu)
      · exact h.1 v hv
theorem insS_pair {t : So} : ∀ {L : List So}, (L.Pairwise fun a b => a.file < b.file) → (∀ u ∈ L, u.file ≠ t.file) → (insS t L).Pairwise fun a b => a.file < b.file
  | [], _, _ => by simp [insS]
  | u :: L, h, h1 => by
    unfold insS
    rw [List.pairwise_cons] at h
    have hu := h1 u (List.mem_cons_self ..)
    split
    · rename_i htu
      refine List.pairwise_cons.2 ⟨fun v hv => ?_, List.pairwise_cons.2 h⟩
      rcases List.mem_cons.1 hv with rfl | hv
      · exact htu
      · have := h.1 v hv; omega
    · rename_i htu
      refine List.pairwise_cons.2 ⟨fun v hv => ?_, insS_pair h.2 fun v hv => h1 v (List.mem_cons_of_mem _ hv)⟩
      rcases mem_insS.1 hv with rfl | hv
      · omega
      · exact h.1 v hv

/-! ### one edit -/
def St.files (s : St) : List Int := s.tabs.map (·.file) ++ s.stos.map (·.file) ++ s.logs
/-- Two tables of one level above 0 that may have a key in common. -/
def meets (t u : Tb) : Bool := decide (u.lev = t.lev) && !ltB u.high t.low && !ltB t.high u.low
def badTab (x : Ed) : Bool := decide (x.lev < 0) || decide (5 < x.lev) || decide (x.cnt < 1) || ltB x.high x.low
/-- The error of an edit; 0: none. -/
def oneE (s : St) (x : Ed) : Int :=
  if x.kind = 1 then
    if badTab x = true ∨ x.file < 1 then 1 else if x.file ∈ s.files then 10 else if 0 < x.lev ∧ s.tabs.any (meets x.tab) = true then 11 else 0
  else if x.kind = 2 then if x.file ∈ s.tabs.map (·.file) then 0 else 9
  else if x.kind = 3 then if x.file < 1 ∨ ¬ (x.lev = 0 ∨ x.lev = 1) then 1 else if x.file ∈ s.files then 10 else 0
  else if x.kind = 4 then if x.file ∈ s.stos.map (·.file) then 0 else 9
  else if x.kind = 5 then if x.file < 1 then 1 else if x.file ∈ s.files then 10 else 0
  else if x.kind = 6 then if x.file ∈ s.logs then 0 else 9
  else if x.kind = 7 then if x.file < 1 ∨ x.file < s.next then 1 else 0
  else 1
/-- The state behind an edit that has no error. -/
def oneS (s : St) (x : Ed) : St :=
  if x.kind = 1 then { s with tabs := insT x.tab s.tabs }
  else if x.kind = 2 then { s with tabs := s.tabs.filter fun t => decide (t.file ≠ x.file) }
  else if x.kind = 3 then { s with stos := insS x.sto s.stos }
  else if x.kind = 4 then { s with stos := s.stos.filter fun t => decide (t.file ≠ x.file) }
  else if x.kind = 5 then { s with logs := s.logs ++ [x.file] }
  else if x.kind = 6 then { s with logs := s.logs.filter fun f => decide (f ≠ x.file) }
  else { s with next := x.file }
/-- The edits one behind the other: the error of the first that has one, else the state. -/
def app : St → List Ed → Int × St
  | s, [] => (0, s)
  | s, x :: L => if oneE s x = 0 then app (oneS s x) L else (oneE s x, St.zero)
theorem app_zero : ∀ (L : List Ed) (s : St), (app s L).1 ≠ 0 → (app s L).2 = St.zero
  | [], s, h => absurd rfl h
  | x :: L, s, h => by
    unfold app at h ⊢
    split
    · rename_i h0; rw [if_pos h0] at h; exact app_zero L _ h
    · rfl
theorem app_cons_ok {s : St} {x : Ed} {L : List Ed} (h : oneE s x = 0) : app s (x :: L) = app (oneS s x) L := by rw [app, if_pos h]
theorem app_cons_no {s : St} {x : Ed} {L : List Ed} (h : ¬ oneE s x = 0) : app s (x :: L) = (oneE s x, St.zero) := by rw [app, if_neg h]
theorem app_append : ∀ (L M : List Ed) (s : St), (app s L).1 = 0 → app s (L ++ M) = app (app s L).2 M
  | [], M, s, _ => rfl
  | x :: L, M, s, h => by
    by_cases h0 : oneE s x = 0
    · rw [app_cons_ok h0] at h ⊢
      rw [List.cons_append, app_cons_ok h0]
      exact app_append L M _ h
    · rw [app_cons_no h0] at h; exact absurd h h0

/-- A state that may be. -/
structure St.Ok (s : St) : Prop where
  rise : s.tabs.Pairwise fun a b => tlt a b = true
  apart : s.tabs.Pairwise fun a b => a.lev = b.lev → 0 < a.lev → ltB a.high b.low = true
  tab : ∀ t ∈ s.tabs, 0 ≤ t.lev ∧ t.lev ≤ 5 ∧ 1 ≤ t.cnt ∧ ltB t.high t.low = false
  stos : s.stos.Pairwise fun a b => a.file < b.file
  tier : ∀ t ∈ s.stos, t.tier = 0 ∨ t.tier = 1
  nod : s.files.Nodup
  pos : ∀ f ∈ s.files, 1 ≤ f
  next : 0 ≤ s.next
theorem St.Ok.zero : St.zero.Ok := ⟨List.Pairwise.nil, List.Pairwise.nil, (fun t h => absurd h (by simp [St.zero])), List.Pairwise.nil, (fun t h => absurd h (by simp [St.zero])), List.Pairwise.nil, (fun t h => absurd h (by simp [St.zero, St.files])), Int.le_refl _⟩
theorem mem_files {s : St} {f : Int} : f ∈ s.files ↔ f ∈ s.tabs.map (·.file) ∨ f ∈ s.stos.map (·.file) ∨ f ∈ s.logs := by
  unfold St.files; simp [List.mem_append, or_assoc]
theorem badTab_no {x : Ed} (h : ¬ (badTab x = true ∨ x.file < 1)) : 0 ≤ x.lev ∧ x.lev ≤ 5 ∧ 1 ≤ x.cnt ∧ ltB x.high x.low = false ∧ 1 ≤ x.file := by
  unfold badTab at h
  simp only [not_or, Bool.or_eq_true, decide_eq_true_eq] at h
  obtain ⟨⟨⟨⟨h1, h2⟩, h3⟩, h4⟩, h5⟩ := h
  exact ⟨by omega, by omega, by omega, by simpa using h4, by omega⟩
/-- A table that meets no other has no equal. -/
theorem no_tie {s : St} {x : Ed} (ht : ltB x.high x.low = false) (hf : ¬ x.file ∈ s.files) (hm : ¬ (0 < x.lev ∧ s.tabs.any (meets x.tab) = true)) (h0 : 0 ≤ x.lev) (hs : ∀ t ∈ s.tabs, ltB t.high t.low = false) : ∀ u ∈ s.tabs, tlt u x.tab = true ∨ tlt x.tab u = true := by
  intro u hu
  unfold tlt
  by_cases e : u.lev = x.tab.lev
  · rw [if_pos e, if_pos e.symm]
    by_cases z : u.lev = 0
    · rw [if_pos z, if_pos (e ▸ z)]
      have : u.file ≠ x.file := fun y => hf (mem_files.2 (.inl (List.mem_map.2 ⟨u, hu, y⟩)))
      simp only [decide_eq_true_eq]
      show x.file < u.file ∨ u.file < x.file
      omega
    · rw [if_neg z, if_neg (e ▸ z)]
      rcases ltB_total u.low x.tab.low with a | a | a
      · exact .inl a
      · exfalso
        refine hm ⟨by have : x.tab.lev = x.lev := rfl; omega, List.any_eq_true.2 ⟨u, hu, ?_⟩⟩
        unfold meets
        have h1 := hs u hu
        have h2 : ltB x.tab.high x.tab.low = false := ht
        rw [a] at h1
        rw [decide_eq_true e, h1, a, h2]
        rfl
      · exact .inr a
  · rw [if_neg e, if_neg (Ne.symm e)]
    simp only [decide_eq_true_eq]
    omega
theorem nodup_insert {α : Type} {f : α → Int} {A A' : List α} {t : α} {B C : List Int} (hp : A'.Perm (t :: A)) (h : (A.map f ++ B ++ C).Nodup) (ht : ¬ f t ∈ A.map f ++ B ++ C) : (A'.map f ++ B ++ C).Nodup := by
  have : (A'.map f ++ B ++ C).Perm (f t :: (A.map f ++ B ++ C)) := by
    have := ((hp.map f).append_right B).append_right C
    simpa using this
  rw [this.nodup_iff]
  exact List.nodup_cons.2 ⟨ht, h⟩
theorem oneS_ok {s : St} {x : Ed} (h : s.Ok) (he : oneE s x = 0) : (oneS s x).Ok := by
  unfold oneE at he
  unfold oneS
  by_cases k1 : x.kind = 1
  · rw [if_pos k1] at he; rw [if_pos k1]
    split at he
    · cases he
    rename_i hb
    split at he
    · cases he
    rename_i hf
    split at he
    · cases he
    rename_i hm
    obtain ⟨b1, b2, b3, b4, b5⟩ := badTab_no hb
    have ht := no_tie b4 hf hm b1 (fun t ht => (h.tab t ht).2.2.2)
    have hap : ∀ u ∈ s.tabs, u.lev = x.lev → 0 < x.lev → ltB u.high x.low = true ∨ ltB x.high u.low = true := by
      intro u hu e z
      rcases hh : ltB u.high x.low with _ | _
      · rcases hh2 : ltB x.high u.low with _ | _
        · exfalso
          refine hm ⟨z, List.any_eq_true.2 ⟨u, hu, ?_⟩⟩
          unfold meets
          show (decide (u.lev = x.lev) && !ltB u.high x.low && !ltB x.high u.low) = true
          rw [hh, hh2, decide_eq_true e]; rfl
        · exact .inr rfl
      · exact .inl rfl
    refine ⟨?_, ?_, ?_, h.stos, h.tier, ?_, ?_, h.next⟩
    · refine insT_pair h.rise (fun u hu x => x) (fun u hu e => ?_) h.rise
      rcases ht u hu with a | a
      · exact a
      · rw [a] at e; cases e
    · refine insT_pair h.apart (fun u hu a e z => ?_) (fun u hu a e z => ?_) h.rise
      · have e' : u.lev = x.lev := e.symm
        have z' : 0 < x.lev := z
        rcases hap u hu e' z' with b | b
        · exfalso
          unfold tlt at a
          rw [if_pos e, if_neg (by show ¬ x.lev = 0; omega)] at a
          have c1 : ltB x.low u.low = true := a
          have := ltB_trans b c1
          rw [(h.tab u hu).2.2.2] at this
          cases this
        · exact b
      · have e' : u.lev = x.lev := e
        rcases hap u hu e' (e' ▸ z) with b | b
        · exact b
        · exfalso
          rcases ht u hu with c | c
          · unfold tlt at c
            rw [if_pos e, if_neg (by show ¬ u.lev = 0; omega)] at c
            have c1 : ltB u.low x.low = true := c
            have := ltB_trans b c1
            rw [b4] at this; cases this
          · rw [c] at a; cases a
    · intro t hm
      rcases mem_insT.1 hm with rfl | hm
      · exact ⟨b1, b2, b3, b4⟩
      · exact h.tab t hm
    · exact nodup_insert (f := Tb.file) (insT_perm x.tab s.tabs) h.nod hf
    · intro f hfm
      rcases mem_files.1 hfm with a | a | a
      · obtain ⟨t, ht, rfl⟩ := List.mem_map.1 a
        rcases mem_insT.1 ht with rfl | ht
        · exact b5
        · exact h.pos _ (mem_files.2 (.inl (List.mem_map.2 ⟨t, ht, rfl⟩)))
      · exact h.pos _ (mem_files.2 (.inr (.inl a)))
      · exact h.pos _ (mem_files.2 (.inr (.inr a)))
  rw [if_neg k1] at he; rw [if_neg k1]
  by_cases k2 : x.kind = 2
  · rw [if_pos k2]
    have hsub : (s.tabs.filter fun t => decide (t.file ≠ x.file)).Sublist s.tabs := List.filter_sublist
    have hfs : ({ s with tabs := s.tabs.filter fun t => decide (t.file ≠ x.file) } : St).files.Sublist s.files := (((hsub.map _).append (.refl _)).append (.refl _))
    exact ⟨h.rise.sublist hsub, h.apart.sublist hsub, fun t ht => h.tab t (hsub.subset ht), h.stos, h.tier, h.nod.sublist hfs, fun f hf => h.pos f (hfs.subset hf), h.next⟩
  rw [if_neg k2] at he; rw [if_neg k2]
  by_cases k3 : x.kind = 3
  · rw [if_pos k3] at he; rw [if_pos k3]
    split at he
    · cases he
    rename_i hb
    split at he
    · cases he
    rename_i hf
    have hn : ∀ u ∈ s.stos, u.file ≠ x.sto.file := fun u hu e => hf (mem_files.2 (.inr (.inl (List.mem_map.2 ⟨u, hu, e⟩))))
    refine ⟨h.rise, h.apart, h.tab, insS_pair h.stos hn, ?_, ?_, ?_, h.next⟩
    · intro t hm
      rcases mem_insS.1 hm with rfl | hm
      · show x.lev = 0 ∨ x.lev = 1
        omega
      · exact h.tier t hm
    · have hp : (s.tabs.map (·.file) ++ (insS x.sto s.stos).map (·.file) ++ s.logs).Perm ((insS x.sto s.stos).map (·.file) ++ s.tabs.map (·.file) ++ s.logs) := (List.perm_append_comm).append_right _
      have hq : (s.tabs.map (·.file) ++ s.stos.map (·.file) ++ s.logs).Perm (s.stos.map (·.file) ++ s.tabs.map (·.file) ++ s.logs) := (List.perm_append_comm).append_right _
      show (s.tabs.map (·.file) ++ (insS x.sto s.stos).map (·.file) ++ s.logs).Nodup
      rw [hp.nodup_iff]
      exact nodup_insert (f := So.file) (insS_perm x.sto s.stos) (hq.nodup_iff.1 h.nod) (fun hm => hf (hq.mem_iff.2 hm))
    · intro f hfm
      rcases mem_files.1 hfm with a | a | a
      · exact h.pos _ (mem_files.2 (.inl a))
      · obtain ⟨t, ht, rfl⟩ := List.mem_map.1 a
        rcases mem_insS.1 ht with rfl | ht
        · show 1 ≤ x.file
          omega
        · exact h.pos _ (mem_files.2 (.inr (.inl (List.mem_map.2 ⟨t, ht, rfl⟩))))
      · exact h.pos _ (mem_files.2 (.inr (.inr a)))
  rw [if_neg k3] at he; rw [if_neg k3]
  by_cases k4 : x.kind = 4
  · rw [if_pos k4]
    have hsub : (s.stos.filter fun t => decide (t.file ≠ x.file)).Sublist s.stos := List.filter_sublist
    have hfs : ({ s with stos := s.stos.filter fun t => decide (t.file ≠ x.file) } : St).files.Sublist s.files := (((List.Sublist.refl _).append (hsub.map _)).append (.refl _))
    exact ⟨h.rise, h.apart, h.tab, h.stos.sublist hsub, fun t ht => h.tier t (hsub.subset ht), h.nod.sublist hfs, fun f hf => h.pos f (hfs.subset hf), h.next⟩
  rw [if_neg k4] at he; rw [if_neg k4]
  by_cases k5 : x.kind = 5
  · rw [if_pos k5] at he; rw [if_pos k5]
    split at he
    · cases he
    rename_i hb
    split at he
    · cases he
    rename_i hf
    refine ⟨h.rise, h.apart, h.tab, h.stos, h.tier, ?_, ?_, h.next⟩
    · show (s.tabs.map (·.file) ++ s.stos.map (·.file) ++ (s.logs ++ [x.file])).Nodup
      rw [← List.append_assoc]
      have : (s.files ++ [x.file]).Perm (x.file :: s.files) := List.perm_append_comm
      show (s.files ++ [x.file]).Nodup
      rw [this.nodup_iff]
      exact List.nodup_cons.2 ⟨hf, h.nod⟩
    · intro f hfm
      have : f ∈ s.files ∨ f = x.file := by
        rcases mem_files.1 hfm with a | a | a
        · exact .inl (mem_files.2 (.inl a))
        · exact .inl (mem_files.2 (.inr (.inl a)))
        · rcases List.mem_append.1 a with a | a
          · exact .inl (mem_files.2 (.inr (.inr a)))
          · exact .inr (by simpa using a)
      rcases this with a | a
      · exact h.pos f a
      · omega
  rw [if_neg k5] at he; rw [if_neg k5]
  by_cases k6 : x.kind = 6
  · rw [if_pos k6]
    have hsub : (s.logs.filter fun f => decide (f ≠ x.file)).Sublist s.logs := List.filter_sublist
    have hfs : ({ s with logs := s.logs.filter fun f => decide (f ≠ x.file) } : St).files.Sublist s.files := ((List.Sublist.refl _).append hsub)
    exact ⟨h.rise, h.apart, h.tab, h.stos, h.tier, h.nod.sublist hfs, fun f hf => h.pos f (hfs.subset hf), h.next⟩
  rw [if_neg k6] at he; rw [if_neg k6]
  by_cases k7 : x.kind = 7
  · rw [if_pos k7] at he
    split at he
    · cases he
    exact ⟨h.rise, h.apart, h.tab, h.stos, h.tier, h.nod, h.pos, by show 0 ≤ x.file; omega⟩
  · rw [if_neg k7] at he; cases he
theorem app_ok : ∀ (L : List Ed) {s : St}, s.Ok → (app s L).2.Ok
  | [], s, h => h
  | x :: L, s, h => by
    by_cases h0 : oneE s x = 0
    · rw [app_cons_ok h0]; exact app_ok L (oneS_ok h h0)
    · rw [app_cons_no h0]; exact St.Ok.zero
end Go.Proofs.YtljjielekgilpaaGreat
/- Rows of tables, of stores, of numbers in memory. -/
set_option linter.unusedVariables false
set_option maxRecDepth 100000
namespace Go.Proofs.YtljjielekgilpaaGreat
open Go.RowKit

def tcell (t : Tb) : List Value := [.int .i64 t.file, .int .i64 t.lev, .int .i64 t.cnt, .string (bs t.low), .string (bs t.high)]
def socell (t : So) : List Value := [.int .i64 t.file, .int .i64 t.tier]
def ecell (x : Ed) : List Value := [.int .i64 x.kind, .int .i64 x.file, .int .i64 x.lev, .int .i64 x.cnt, .string (bs x.low), .string (bs x.high)]
def icell (n : Int) : List Value := [.int .i64 n]
def flat {α : Type} (enc : α → List Value) (L : List α) : List Value := L.flatMap enc
section
variable {α : Type} {enc : α → List Value} {k : Nat}
theorem flat_len (hk : ∀ x, (enc x).length = k) : ∀ L : List α, (flat enc L).length = L.length * k
  | [] => by simp [flat]
  | x :: L => by
    have := flat_len hk L
    unfold flat at this ⊢
    rw [List.flatMap_cons, List.length_append, this, hk, List.length_cons, Nat.add_mul, Nat.one_mul, Nat.add_comm]
theorem flat_append (L M : List α) : flat enc (L ++ M) = flat enc L ++ flat enc M := List.flatMap_append ..
theorem flat_cons (x : α) (L : List α) : flat enc (x :: L) = enc x ++ flat enc L := List.flatMap_cons ..
theorem flat_one (x : α) : flat enc [x] = enc x := by simp [flat]
theorem flat_at (hk : ∀ x, (enc x).length = k) : ∀ {L : List α} {j : Nat} {x : α}, L[j]? = some x → ∀ {i : Nat}, i < k → (flat enc L)[j * k + i]? = (enc x)[i]?
  | y :: L, 0, x, h, i, hi => by
    obtain rfl : y = x := by simpa using h
    rw [flat_cons, Nat.zero_mul, Nat.zero_add, List.getElem?_append_left (by rw [hk]; exact hi)]
  | y :: L, j + 1, x, h, i, hi => by
    have h' : L[j]? = some x := by simpa using h
    rw [flat_cons, List.getElem?_append_right (by rw [hk, Nat.add_mul]; omega), hk, ← flat_at hk h' hi]
    congr 1
    rw [Nat.add_mul]
    omega
theorem flat_split (hk : ∀ x, (enc x).length = k) (L : List α) (j : Nat) (hj : j ≤ L.length) : (flat enc L).take (j * k) = flat enc (L.take j) ∧ (flat enc L).drop (j * k) = flat enc (L.drop j) := by
  have e : flat enc L = flat enc (L.take j) ++ flat enc (L.drop j) := by rw [← flat_append, List.take_append_drop]
  have hl : (flat enc (L.take j)).length = j * k := by rw [flat_len hk, List.length_take, Nat.min_eq_left hj]
  rw [e, ← hl]
  exact ⟨List.take_left .., List.drop_left ..⟩
end
theorem tcell_len (t : Tb) : (tcell t).length = 5 := rfl
theorem socell_len (t : So) : (socell t).length = 2 := rfl
theorem ecell_len (t : Ed) : (ecell t).length = 6 := rfl
theorem icell_len (t : Int) : (icell t).length = 1 := rfl
theorem tcell_one (t : Tb) : ∀ v ∈ tcell t, v.oneCell' = true := by intro v hv; simp [tcell] at hv; rcases hv with rfl | rfl | rfl | rfl | rfl <;> rfl
theorem socell_one (t : So) : ∀ v ∈ socell t, v.oneCell' = true := by intro v hv; simp [socell] at hv; rcases hv with rfl | rfl <;> rfl
theorem ecell_one (t : Ed) : ∀ v ∈ ecell t, v.oneCell' = true := by intro v hv; simp [ecell] at hv; rcases hv with rfl | rfl | rfl | rfl | rfl | rfl <;> rfl
theorem icell_one (t : Int) : ∀ v ∈ icell t, v.oneCell' = true := by intro v hv; simp [icell] at hv; rcases hv with rfl; rfl
theorem flat_one' {α : Type} {enc : α → List Value} (h : ∀ x, ∀ v ∈ enc x, v.oneCell' = true) (L : List α) : ∀ v ∈ flat enc L, v.oneCell' = true := by
  intro v hv
  obtain ⟨x, _, hx⟩ := List.mem_flatMap.1 hv
  exact h x v hx

/-- A slice that reads as n elements' cells, in a block with T. -/
def RdL (T : Nat → Prop) (w : World) (v : Value) (n : Nat) (xs : List Value) : Prop :=
  ∃ a cap, v = .slice a n cap ∧ n ≤ maxLen ∧ ((a = none ∧ n = 0 ∧ xs = []) ∨ ∃ b off, a = some ⟨b, off, none⟩ ∧ T b ∧ b < w.heap.size ∧ ∀ j u, xs[j]? = some u → w.cell? ⟨b, off + j, none⟩ = some u)
namespace RdL
variable {T T' S : Nat → Prop} {w w' : World} {v : Value} {n : Nat} {xs : List Value}
theorem only (h : RdL T w v n xs) (k : Only S w w') (hT : ∀ j, j < w.heap.size → T j → ¬ S j) : RdL T w' v n xs := by
  obtain ⟨a, cap, rfl, hn, h⟩ := h
  refine ⟨a, cap, rfl, hn, ?_⟩
  rcases h with h | ⟨b, off, rfl, ht, hb, hc⟩
  · exact .inl h
  · exact .inr ⟨b, off, rfl, ht, Nat.lt_of_lt_of_le hb k.size, fun j u hj => by rw [← hc j u hj]; simp only [World.cell?, k.block b hb (hT b hb ht)]⟩
theorem below (h : RdL T w v n xs) (k : Below w.heap.size w w') : RdL T w' v n xs :=
  h.only (S := fun _ => False) ⟨k.os, k.tape, k.output, k.size, fun j hj _ => k.block j hj⟩ (fun _ _ _ x => x)
theorem mono (h : RdL T w v n xs) (hT : ∀ b, b < w.heap.size → T b → T' b) : RdL T' w v n xs := by
  obtain ⟨a, cap, rfl, hn, h⟩ := h
  refine ⟨a, cap, rfl, hn, ?_⟩
  rcases h with h | ⟨b, off, rfl, ht, hb, hc⟩
  · exact .inl h
  · exact .inr ⟨b, off, rfl, hT b hb ht, hb, hc⟩
theorem slice (h : RdL T w v n xs) : ∃ a cap, v = .slice a n cap := by obtain ⟨a, cap, e, _⟩ := h; exact ⟨a, cap, e⟩
theorem none' (w : World) (T : Nat → Prop) : RdL T w (.slice none 0 0) 0 [] := ⟨none, 0, rfl, Nat.zero_le _, .inl ⟨rfl, rfl, rfl⟩⟩
end RdL
theorem OffRow.rdL {w : World} {B : Nat} {e : TypeId} {size : Nat} {v : Value} {n : Nat} {xs : List Value} (h : OffRow w B e size v n xs) : RdL (fun b => B ≤ b) w v n xs := by
  have hn := h.cap_le
  rcases h with ⟨hl, ⟨rfl, rfl⟩ | ⟨g, off, cap, cur, rfl, hB, hg, h1, h2, h3, h4⟩⟩
  · exact ⟨none, 0, rfl, hn, .inl ⟨rfl, rfl, List.eq_nil_of_length_eq_zero (by simpa using hl)⟩⟩
  · refine ⟨_, cap, rfl, hn, .inr ⟨g, off, rfl, hB, heap_lt hg, fun j u hj => ?_⟩⟩
    have hj' : j < n * size := by rw [← hl]; exact (List.getElem?_eq_some_iff.1 hj).1
    rw [← hj, ← h4 j hj']
    simp [World.cell?, hg]
/-- Rows of the call's own. -/
def OwnTb (w : World) (B : Nat) (v : Value) (L : List Tb) : Prop := OffRow w B 86 5 v L.length (flat tcell L)
def OwnSo (w : World) (B : Nat) (v : Value) (L : List So) : Prop := OffRow w B 88 2 v L.length (flat socell L)
def OwnI (w : World) (B : Nat) (v : Value) (L : List Int) : Prop := OffRow w B 3 1 v L.length (flat icell L)
theorem infoTb : (Tryz.prog.info? 86).map (fun i => (i.zero, i.size, i.bytes)) = some (some (.agg #[.int .i64 0, .int .i64 0, .int .i64 0, .string ⟨#[]⟩, .string ⟨#[]⟩]), 5, 56) := by kernel_rfl
theorem infoSo : (Tryz.prog.info? 88).map (fun i => (i.zero, i.size, i.bytes)) = some (some (.agg #[.int .i64 0, .int .i64 0]), 2, 16) := by kernel_rfl
theorem infoEd : (Tryz.prog.info? 44).map (fun i => (i.zero, i.size, i.bytes)) = some (some (.agg #[.int .i64 0, .int .i64 0, .int .i64 0, .int .i64 0, .string ⟨#[]⟩, .string ⟨#[]⟩]), 6, 64) := by kernel_rfl
end Go.Proofs.YtljjielekgilpaaGreat
/- A draft in memory: its lists, and the set of its files. -/
set_option linter.unusedVariables false
set_option maxRecDepth 100000
namespace Go.Proofs.YtljjielekgilpaaGreat
open Go.RowKit Go.Maps Go.WideShapes Go.ChangeMaps

def fent (f : Int) : Lit × DataW Unit := (.int .i64 f, .agg [])
theorem keyedI : Keyed Tryz.prog 3 := int_keyed Tryz.underlying3
theorem zeroU (w : World) : (zeroValue 138).run Tryz.prog w = .ok (.agg #[]) w := by kernel_rfl
theorem wf_i64 {f : Int} (h1 : -9223372036854775808 ≤ f) (h2 : f ≤ 9223372036854775807) : (Lit.int .i64 f).wf = true := by
  have a : IntKind.i64.min = -9223372036854775808 := rfl
  have b : IntKind.i64.max = 9223372036854775807 := rfl
  simp [Lit.wf, a, b, h1, h2]
def SetM (w : World) (mb : Nat) (F : List Int) : Prop := ∃ l, w.ownsMap Tryz.prog 3 (unitElem (H := Unit)) mb F.length (.map l) ∧ l.Perm (F.map fent)
theorem SetM.obj {w : World} {mb : Nat} {F : List Int} (h : SetM w mb F) : ∃ x c, w.heap[mb]? = some (.map x c) := by
  obtain ⟨l, ⟨x, c, hb, _⟩, _⟩ := h
  exact ⟨x, c, hb⟩
theorem SetM.kept {w w' : World} {mb : Nat} {F : List Int} (h : SetM w mb F) (hk : w'.heap[mb]? = w.heap[mb]?) : SetM w' mb F := by
  obtain ⟨l, ⟨x, c, hb, r⟩, hp⟩ := h
  exact ⟨l, ⟨x, c, hk.trans hb, r⟩, hp⟩
theorem SetM.perm {w : World} {mb : Nat} {F F' : List Int} (h : SetM w mb F) (hp : F.Perm F') : SetM w mb F' := by
  obtain ⟨l, hl, hq⟩ := h
  exact ⟨l, by rw [← hp.length_eq]; exact hl, hq.trans (hp.map _)⟩
theorem key_same (a b : Int) : (Lit.int .i64 a).sameKey (.int .i64 b) = decide (a = b) := by
  by_cases h : a = b
  · subst h
    rw [WideAt.sameKey_self (by simp [WideAt.IsKeyLit]), decide_eq_true rfl]
  · rw [decide_eq_false h]
    exact sameKey_ne fun e => h (by injection e)
theorem set_has {l : List (Lit × DataW Unit)} {F : List Int} (hp : l.Perm (F.map fent)) (f : Int) : Maps.has (DataW.map l) (.int .i64 f) = decide (f ∈ F) := by
  rw [Bool.eq_iff_iff]
  simp only [Maps.has, List.any_eq_true, decide_eq_true_eq]
  constructor
  · rintro ⟨p, hpl, hs⟩
    obtain ⟨g, hg, rfl⟩ := List.mem_map.1 (hp.mem_iff.1 hpl)
    rw [show (fent g).1 = Lit.int .i64 g from rfl, key_same] at hs
    have : g = f := by simpa using hs
    rw [← this]; exact hg
  · intro hf
    exact ⟨fent f, hp.mem_iff.2 (List.mem_map.2 ⟨f, hf, rfl⟩), by rw [show (fent f).1 = Lit.int .i64 f from rfl, key_same]; simp⟩
theorem set_put {w : World} {mb : Nat} {F : List Int} {f : Int} {l : List (Lit × DataW Unit)} (hp : l.Perm (F.map fent)) (hno : ¬ f ∈ F)
    (h : w.ownsMap Tryz.prog 3 (unitElem (H := Unit)) mb (F.length + 1) ((DataW.map l).put (.int .i64 f) (.agg []))) : SetM w mb (f :: F) := by
  refine ⟨DataW.insert (.int .i64 f, .agg []) (l.filter fun p => !p.1.sameKey (.int .i64 f)), h, ?_⟩
  have hfl : (l.filter fun p => !p.1.sameKey (.int .i64 f)) = l := List.filter_eq_self.2 fun p hpl => by
    obtain ⟨x, hx, rfl⟩ := List.mem_map.1 (hp.mem_iff.1 hpl)
    have : x ≠ f := fun e => hno (e ▸ hx)
    rw [show (fent x).1 = Lit.int .i64 x from rfl, key_same, decide_eq_false this]
    rfl
  rw [hfl]
  refine (insert_perm _ _).trans ?_
  rw [List.map_cons]
  exact List.Perm.cons _ hp
theorem set_tight {w : World} {mb n : Nat} {l : List (Lit × DataW Unit)} (h : w.ownsMap Tryz.prog 3 (unitElem (H := Unit)) mb n (.map l)) : w.ownsMap Tryz.prog 3 (unitElem (H := Unit)) mb l.length (.map l) := by
  obtain ⟨es, clock, hb, F, hs, hD⟩ := h
  injection hD with hD
  refine ⟨es, clock, hb, F, ?_, by rw [hD]⟩
  rw [hD, length_sorted]
  simp
theorem set_del {w : World} {mb m : Nat} {F : List Int} {f : Int} {l : List (Lit × DataW Unit)} (hp : l.Perm (F.map fent))
    (h : w.ownsMap Tryz.prog 3 (unitElem (H := Unit)) mb m ((DataW.map l).del (.int .i64 f))) : SetM w mb (F.filter fun g => decide (g ≠ f)) := by
  have h' : w.ownsMap Tryz.prog 3 (unitElem (H := Unit)) mb m (.map (l.filter fun p => !p.1.sameKey (.int .i64 f))) := h
  have hpp : (l.filter fun p => !p.1.sameKey (.int .i64 f)).Perm ((F.filter fun g => decide (g ≠ f)).map fent) := by
    refine (hp.filter _).trans ?_
    rw [List.filter_map]
    have : ((fun p : Lit × DataW Unit => !p.1.sameKey (.int .i64 f)) ∘ fent) = fun g => decide (g ≠ f) := by
      funext g
      show (!(Lit.int .i64 g).sameKey (.int .i64 f)) = _
      rw [key_same]
      simp
    rw [this]
  have := set_tight h'
  rw [hpp.length_eq, List.length_map] at this
  exact ⟨_, this, hpp⟩
theorem turned_other' {w w' : World} {b : Nat} (h : w.mapTurned w' b) (k : Nat) (hk : k ≠ b) : w'.heap[k]? = w.heap[k]? := by
  obtain ⟨es, clock, es', clock', hb, rfl⟩ := h
  exact heap_setBlock_other hb _ hk
theorem turned_meta {w w' : World} {b : Nat} (h : w.mapTurned w' b) : w.grownBy w' (some b) := by
  obtain ⟨es, clock, es', clock', hb, rfl⟩ := h
  exact ⟨rfl, rfl, rfl, by simp [setBlock], fun k _ hk => heap_setBlock_other hb _ (fun e => hk (by rw [e]))⟩

/-- A draft in memory, all of it from block B on. -/
structure Dr (B : Nat) (w : World) (db : Nat) (s : St) (tv sv lv : Value) (mb : Nat) : Prop where
  obj : w.heap[db]? = some (.cells #[tv, sv, lv, .int .i64 s.next, .map (some mb)] 83 (0, 0))
  lo : B ≤ db
  tabs : OwnTb w B tv s.tabs
  stos : OwnSo w B sv s.stos
  logs : OwnI w B lv s.logs
  set : SetM w mb s.files
  mlo : B ≤ mb
namespace Dr
variable {B db mb : Nat} {w w' : World} {s : St} {tv sv lv : Value}
theorem lt (h : Dr B w db s tv sv lv mb) : db < w.heap.size := heap_lt h.obj
theorem ltm (h : Dr B w db s tv sv lv mb) : mb < w.heap.size := by obtain ⟨x, c, e⟩ := h.set.obj; exact heap_lt e
theorem nmb (h : Dr B w db s tv sv lv mb) : mb ≠ db := by
  rintro rfl
  obtain ⟨x, c, e⟩ := h.set.obj
  rw [h.obj] at e; cases e
theorem nt (h : Dr B w db s tv sv lv mb) {g : Nat} (hg : tv.ownBlock = some g) : g ≠ db ∧ g ≠ mb ∧ sv.ownBlock ≠ some g ∧ lv.ownBlock ≠ some g := by
  obtain ⟨cur, hc⟩ := OffRow.tag h.tabs hg
  refine ⟨?_, ?_, fun e => ?_, fun e => ?_⟩
  · rintro rfl; rw [h.obj] at hc; simp at hc
  · rintro rfl; obtain ⟨x, c, e⟩ := h.set.obj; rw [hc] at e; cases e
  · obtain ⟨c2, h2⟩ := OffRow.tag h.stos e; rw [hc] at h2; simp at h2
  · obtain ⟨c2, h2⟩ := OffRow.tag h.logs e; rw [hc] at h2; simp at h2
theorem ns (h : Dr B w db s tv sv lv mb) {g : Nat} (hg : sv.ownBlock = some g) : g ≠ db ∧ g ≠ mb ∧ tv.ownBlock ≠ some g ∧ lv.ownBlock ≠ some g := by
  obtain ⟨cur, hc⟩ := OffRow.tag h.stos hg
  refine ⟨?_, ?_, fun e => ?_, fun e => ?_⟩
  · rintro rfl; rw [h.obj] at hc; simp at hc
  · rintro rfl; obtain ⟨x, c, e⟩ := h.set.obj; rw [hc] at e; cases e
  · obtain ⟨c2, h2⟩ := OffRow.tag h.tabs e; rw [hc] at h2; simp at h2
  · obtain ⟨c2, h2⟩ := OffRow.tag h.logs e; rw [hc] at h2; simp at h2
theorem nl (h : Dr B w db s tv sv lv mb) {g : Nat} (hg : lv.ownBlock = some g) : g ≠ db ∧ g ≠ mb ∧ tv.ownBlock ≠ some g ∧ sv.ownBlock ≠ some g := by
  obtain ⟨cur, hc⟩ := OffRow.tag h.logs hg
  refine ⟨?_, ?_, fun e => ?_, fun e => ?_⟩
  · rintro rfl; rw [h.obj] at hc; simp at hc
  · rintro rfl; obtain ⟨x, c, e⟩ := h.set.obj; rw [hc] at e; cases e
  · obtain ⟨c2, h2⟩ := OffRow.tag h.tabs e; rw [hc] at h2; simp at h2
  · obtain ⟨c2, h2⟩ := OffRow.tag h.stos e; rw [hc] at h2; simp at h2
/-- A draft stays while other blocks are written. -/
theorem kept (h : Dr B w db s tv sv lv mb) (k : ∀ j, j < w.heap.size → w'.heap[j]? = w.heap[j]?) : Dr B w' db s tv sv lv mb :=
  ⟨(k _ h.lt).trans h.obj, h.lo, OffRow.kept h.tabs fun j hj => k j (OffRow.lt h.tabs j hj).2, OffRow.kept h.stos fun j hj => k j (OffRow.lt h.stos j hj).2, OffRow.kept h.logs fun j hj => k j (OffRow.lt h.logs j hj).2, h.set.kept (k _ h.ltm), h.mlo⟩
theorem below (h : Dr B w db s tv sv lv mb) (k : Below w.heap.size w w') : Dr B w' db s tv sv lv mb := h.kept fun j hj => k.block j hj
theorem cell (h : Dr B w db s tv sv lv mb) (i : Nat) : w.cell? ⟨db, i, none⟩ = #[tv, sv, lv, .int .i64 s.next, Value.map (some mb)][i]? := by simp [World.cell?, h.obj]
theorem free (h : Dr B w db s tv sv lv mb) (i : Nat) : w.frozen? ⟨db, i, none⟩ = false := by simp [World.frozen?, h.obj]
/-- New tables. -/
theorem putT (h : Dr B w db s tv sv lv mb) {tv' : Value} {T' : List Tb} (ho : OwnTb w' B tv' T') (k : ∀ j, j < w.heap.size → tv.ownBlock ≠ some j → w'.heap[j]? = w.heap[j]?) (hn : ∀ g, tv'.ownBlock = some g → g ≠ db) :
    (w'.setCell ⟨db, 0, none⟩ tv').heap[db]? = some (.cells #[tv', sv, lv, .int .i64 s.next, .map (some mb)] 83 (0, 0)) ∧ OwnTb (w'.setCell ⟨db, 0, none⟩ tv') B tv' T' ∧ OwnSo (w'.setCell ⟨db, 0, none⟩ tv') B sv s.stos ∧ OwnI (w'.setCell ⟨db, 0, none⟩ tv') B lv s.logs ∧ SetM (w'.setCell ⟨db, 0, none⟩ tv') mb s.files := by
  have e1 : w'.heap[db]? = _ := (k db h.lt (fun e => (h.nt e).1 rfl)).trans h.obj
  refine ⟨by rw [heap_set e1]; simp, OffRow.kept ho fun j hj => heap_set_other (hn j hj) _, ?_, ?_, ?_⟩
  · exact OffRow.kept h.stos fun j hj => (heap_set_other (h.ns hj).1 _).trans (k j (OffRow.lt h.stos j hj).2 (h.ns hj).2.2.1)
  · exact OffRow.kept h.logs fun j hj => (heap_set_other (h.nl hj).1 _).trans (k j (OffRow.lt h.logs j hj).2 (h.nl hj).2.2.1)
  · exact h.set.kept ((heap_set_other h.nmb _).trans (k mb h.ltm (fun e => (h.nt e).2.1 rfl)))
theorem putS (h : Dr B w db s tv sv lv mb) {sv' : Value} {S' : List So} (ho : OwnSo w' B sv' S') (k : ∀ j, j < w.heap.size → sv.ownBlock ≠ some j → w'.heap[j]? = w.heap[j]?) (hn : ∀ g, sv'.ownBlock = some g → g ≠ db) :
    (w'.setCell ⟨db, 1, none⟩ sv').heap[db]? = some (.cells #[tv, sv', lv, .int .i64 s.next, .map (some mb)] 83 (0, 0)) ∧ OwnTb (w'.setCell ⟨db, 1, none⟩ sv') B tv s.tabs ∧ OwnSo (w'.setCell ⟨db, 1, none⟩ sv') B sv' S' ∧ OwnI (w'.setCell ⟨db, 1, none⟩ sv') B lv s.logs ∧ SetM (w'.setCell ⟨db, 1, none⟩ sv') mb s.files := by
  have e1 : w'.heap[db]? = _ := (k db h.lt (fun e => (h.ns e).1 rfl)).trans h.obj
  refine ⟨by rw [heap_set e1]; simp, ?_, OffRow.kept ho fun j hj => heap_set_other (hn j hj) _, ?_, ?_⟩
  · exact OffRow.kept h.tabs fun j hj => (heap_set_other (h.nt hj).1 _).trans (k j (OffRow.lt h.tabs j hj).2 (h.nt hj).2.2.1)
  · exact OffRow.kept h.logs fun j hj => (heap_set_other (h.nl hj).1 _).trans (k j (OffRow.lt h.logs j hj).2 (h.nl hj).2.2.2)
  · exact h.set.kept ((heap_set_other h.nmb _).trans (k mb h.ltm (fun e => (h.ns e).2.1 rfl)))
theorem putL (h : Dr B w db s tv sv lv mb) {lv' : Value} {L' : List Int} (ho : OwnI w' B lv' L') (k : ∀ j, j < w.heap.size → lv.ownBlock ≠ some j → w'.heap[j]? = w.heap[j]?) (hn : ∀ g, lv'.ownBlock = some g → g ≠ db) :
    (w'.setCell ⟨db, 2, none⟩ lv').heap[db]? = some (.cells #[tv, sv, lv', .int .i64 s.next, .map (some mb)] 83 (0, 0)) ∧ OwnTb (w'.setCell ⟨db, 2, none⟩ lv') B tv s.tabs ∧ OwnSo (w'.setCell ⟨db, 2, none⟩ lv') B sv s.stos ∧ OwnI (w'.setCell ⟨db, 2, none⟩ lv') B lv' L' ∧ SetM (w'.setCell ⟨db, 2, none⟩ lv') mb s.files := by
  have e1 : w'.heap[db]? = _ := (k db h.lt (fun e => (h.nl e).1 rfl)).trans h.obj
  refine ⟨by rw [heap_set e1]; simp, ?_, ?_, OffRow.kept ho fun j hj => heap_set_other (hn j hj) _, ?_⟩
  · exact OffRow.kept h.tabs fun j hj => (heap_set_other (h.nt hj).1 _).trans (k j (OffRow.lt h.tabs j hj).2 (h.nt hj).2.2.2)
  · exact OffRow.kept h.stos fun j hj => (heap_set_other (h.ns hj).1 _).trans (k j (OffRow.lt h.stos j hj).2 (h.ns hj).2.2.2)
  · exact h.set.kept ((heap_set_other h.nmb _).trans (k mb h.ltm (fun e => (h.nl e).2.1 rfl)))
end Dr
/-- Lists and a set that stand beside a draft's block: all that a draft is but the set's own files. -/
structure Dr0 (B : Nat) (w : World) (db : Nat) (s : St) (F : List Int) (tv sv lv : Value) (mb : Nat) : Prop where
  obj : w.heap[db]? = some (.cells #[tv, sv, lv, .int .i64 s.next, .map (some mb)] 83 (0, 0))
  lo : B ≤ db
  tabs : OwnTb w B tv s.tabs
  stos : OwnSo w B sv s.stos
  logs : OwnI w B lv s.logs
  set : SetM w mb F
  mlo : B ≤ mb
/-- The set turned. -/
theorem Dr0.turn {B db mb : Nat} {w w' : World} {s : St} {F F' : List Int} {tv sv lv : Value} (h : Dr0 B w db s F tv sv lv mb) (hs : SetM w' mb F') (k : ∀ j, j < w.heap.size → j ≠ mb → w'.heap[j]? = w.heap[j]?) : Dr0 B w' db s F' tv sv lv mb := by
  obtain ⟨x, c, hx⟩ := h.set.obj
  have n1 : db ≠ mb := by rintro rfl; rw [h.obj] at hx; cases hx
  have nt : ∀ g, tv.ownBlock = some g → g ≠ mb := fun g hg e => by obtain ⟨c, hc⟩ := OffRow.tag h.tabs hg; rw [e, hx] at hc; cases hc
  have ns : ∀ g, sv.ownBlock = some g → g ≠ mb := fun g hg e => by obtain ⟨c, hc⟩ := OffRow.tag h.stos hg; rw [e, hx] at hc; cases hc
  have nl : ∀ g, lv.ownBlock = some g → g ≠ mb := fun g hg e => by obtain ⟨c, hc⟩ := OffRow.tag h.logs hg; rw [e, hx] at hc; cases hc
  exact ⟨(k db (heap_lt h.obj) n1).trans h.obj, h.lo, OffRow.kept h.tabs fun j hj => k j (OffRow.lt h.tabs j hj).2 (nt j hj), OffRow.kept h.stos fun j hj => k j (OffRow.lt h.stos j hj).2 (ns j hj), OffRow.kept h.logs fun j hj => k j (OffRow.lt h.logs j hj).2 (nl j hj), hs, h.mlo⟩
theorem Dr.of0 {B db mb : Nat} {w : World} {s : St} {F : List Int} {tv sv lv : Value} (h : Dr0 B w db s F tv sv lv mb) (hp : F.Perm s.files) : Dr B w db s tv sv lv mb := ⟨h.obj, h.lo, h.tabs, h.stos, h.logs, h.set.perm hp, h.mlo⟩
theorem Dr.to0 {B db mb : Nat} {w : World} {s : St} {tv sv lv : Value} (h : Dr B w db s tv sv lv mb) : Dr0 B w db s s.files tv sv lv mb := ⟨h.obj, h.lo, h.tabs, h.stos, h.logs, h.set, h.mlo⟩
end Go.Proofs.YtljjielekgilpaaGreat
