/- Texts put together: Range, Region, QHeld, QLate, QTake, ChunkRow, ChunkChk -/
import Derived.Test.YtcjpemkafncihaaCLea00
import Derived.RangeFuncNested
import Derived.RangeFuncBound
import Derived.RangeFuncCalls
import Derived.RangeFuncLeaves
import Derived.Shelf.Abstract
import Derived.Shelf.RegionOpen
import Derived.WalkKit
import Derived.OwnWalkIn
import Derived.TacticsInMore
import Derived.LoopNIn
import Derived.LoopIn
import Derived.Laws.Rows
import Derived.Deep.MidRow
import Derived.Deep.RegionHeld3
import Derived.OrdersHeld
import Derived.Deep.RegionHeld
import Derived.Deep.Cut
/- Ranges over functions: a round keeps all blocks of cells but one; marks among the deferred calls of a function that holds such a loop within another loop. -/
set_option linter.unusedVariables false
set_option maxRecDepth 100000
namespace Go.Proofs.Ytcjpemkafncihaa
open Go.RowKit

/-- A box that was just laid; what lay before it. -/
theorem box_new (W : World) (v : Value) (t : TypeId) : (W.alloc (.cells #[v] t)).cell? ⟨W.heap.size, 0, none⟩ = some v := by
  rw [World.cell?_alloc_mark]; simp
theorem box_free (W : World) (v : Value) (t : TypeId) : (W.alloc (.cells #[v] t)).frozen? ⟨W.heap.size, 0, none⟩ = false := by
  rw [World.frozen?_alloc_mark]; simp
theorem cell_on {W : World} {a : Addr} {v : Value} (o : Obj) (h : W.cell? a = some v) : (W.alloc o).cell? a = some v := cell_kept h (World.grownBy_alloc W o none) (fun r e => by cases e)
theorem free_on {W : World} {a : Addr} {v : Value} (o : Obj) (h : W.cell? a = some v) (hf : W.frozen? a = false) : (W.alloc o).frozen? a = false := (frozen_kept h (World.grownBy_alloc W o none) (fun r e => by cases e)).trans hf

/-- All blocks of cells but X's are kept. -/
structure KeepsCells (X : Nat) (W W' : World) : Prop where
  os : W'.os = W.os
  tape : W'.tape = W.tape
  output : W'.output = W.output
  size : W.heap.size ≤ W'.heap.size
  cells : ∀ (k : Nat) (o : Obj), k ≠ X → W.heap[k]? = some o → o.isCells = true → W'.heap[k]? = some o
namespace KeepsCells
variable {X : Nat} {A B C : World}
theorem refl (X : Nat) (W : World) : KeepsCells X W W := ⟨rfl, rfl, rfl, Nat.le_refl _, fun _ _ _ h _ => h⟩
theorem trans (h : KeepsCells X A B) (k : KeepsCells X B C) : KeepsCells X A C :=
  ⟨k.os.trans h.os, k.tape.trans h.tape, k.output.trans h.output, Nat.le_trans h.size k.size, fun j o hj ho hc => k.cells j o hj (h.cells j o hj ho hc) hc⟩
theorem of_below (h : Below A.heap.size A B) : KeepsCells X A B :=
  ⟨h.os, h.tape, h.output, h.size, fun j o _ ho _ => (h.block j (Array.getElem?_eq_some_iff.1 ho).1).trans ho⟩
theorem setCell (W : World) (o : Nat) (v : Value) : KeepsCells X W (W.setCell ⟨X, o, none⟩ v) :=
  ⟨rfl, rfl, rfl, by simp, fun j o' hj ho _ => (Below.heap_setCell W ⟨X, o, none⟩ v j hj).trans ho⟩
theorem grown {row : Option Nat} (h : KeepsCells X A B) (hg : B.grownBy C row) (hr : ∀ r, row = some r → ∃ o : Obj, B.heap[r]? = some o ∧ o.isCells = false) : KeepsCells X A C :=
  ⟨hg.os.trans h.os, hg.tape.trans h.tape, hg.output.trans h.output, Nat.le_trans h.size hg.size, fun j o hj ho hc => by
    have hb := h.cells j o hj ho hc
    refine (hg.block j (Array.getElem?_eq_some_iff.1 hb).1 (fun e => ?_)).trans hb
    obtain ⟨o', h1, h2⟩ := hr j e.symm
    rw [hb] at h1
    obtain rfl := Option.some.inj h1
    rw [hc] at h2
    cases h2⟩
theorem putObj (W : World) (l : Nat) (o o' : Obj) (h : W.heap[l]? = some o) (ho : o.isCells = false) : KeepsCells X W (W.putObj l o') :=
  (KeepsCells.refl X W).grown (grownBy_putObj' W l o') (fun r e => by cases e; exact ⟨o, h, ho⟩)
/-- What is there of a block of cells. -/
theorem block (h : KeepsCells X A B) {b : Nat} (hb : b ≠ X) {p : Nat} {v : Value} (hc : A.cell? ⟨b, p, none⟩ = some v) : B.heap[b]? = A.heap[b]? := by
  unfold World.cell? at hc
  cases ho : A.heap[b]? with
  | none => simp [ho] at hc
  | some o =>
    cases o with
    | cells c t f => exact h.cells b _ hb ho rfl
    | _ => simp [ho] at hc
theorem cell (h : KeepsCells X A B) {b p : Nat} (hb : b ≠ X) {v : Value} (hc : A.cell? ⟨b, p, none⟩ = some v) : B.cell? ⟨b, p, none⟩ = some v := by
  rw [← hc]
  unfold World.cell?
  rw [h.block hb hc]
theorem frozen (h : KeepsCells X A B) {b p q : Nat} (hb : b ≠ X) {v : Value} (hc : A.cell? ⟨b, p, none⟩ = some v) : B.frozen? ⟨b, q, none⟩ = A.frozen? ⟨b, q, none⟩ := by
  unfold World.frozen?
  rw [h.block hb hc]
end KeepsCells
theorem keeps_own {α : Type} (B X : Nat) (W : World) : OwnFrom B (fun (_ : α) W' => KeepsCells X W W') := fun s A C row hs hg hr => hs.grown hg (fun r e => (hr r e).2)

theorem only_own {α : Type} {S : Nat → Prop} {B : Nat} {W : World} (hB : W.heap.size ≤ B) : OwnFrom B (fun (_ : α) W' => Only S W W') := fun s A C row hs hg hr => hs.grown hg (fun j e => .inr (Nat.le_trans hB (hr j e).1))
theorem Only.keepsCells {X : Nat} {A B : World} (h : Only (fun k => k = X) A B) : KeepsCells X A B :=
  ⟨h.os, h.tape, h.output, h.size, fun j o hj ho _ => (h.block j (Array.getElem?_eq_some_iff.1 ho).1 hj).trans ho⟩

/-- Behind each loop over a function there is a mark: none of them holds a call. -/
def Marks : List Deferred → World → Prop
  | [], _ => True
  | d :: ds, w => (∃ r, d.target = .collected r ∧ w.heap[r]? = some (.deferred (some [])) ∧ ∀ d' ∈ ds, d'.target ≠ .collected r) ∧ Marks ds w
/-- Where the marks lie from B on. -/
def MarksFrom (B : Nat) (ds : List Deferred) : Prop := ∀ d ∈ ds, ∀ r, d.target = .collected r → B ≤ r
theorem Marks.keep : ∀ {ds : List Deferred} {w w' : World}, Marks ds w → (∀ d ∈ ds, ∀ r, d.target = .collected r → w'.heap[r]? = w.heap[r]?) → Marks ds w'
  | [], _, _, _, _ => trivial
  | d :: ds, w, w', h, k => by
    obtain ⟨⟨r, h1, h2, h3⟩, h4⟩ := h
    exact ⟨⟨r, h1, by rw [k d (by simp) r h1, h2], h3⟩, Marks.keep h4 (fun d' hd r hr => k d' (by simp [hd]) r hr)⟩
theorem marks_lt : ∀ {ds : List Deferred} {w : World} {d : Deferred} {r : Nat}, Marks ds w → d ∈ ds → d.target = .collected r → r < w.heap.size
  | [], _, _, _, _, h, _ => by cases h
  | d :: ds, w, d', r, h, hd, hr => by
    obtain ⟨⟨r', h1, h2, h3⟩, h4⟩ := h
    rcases List.mem_cons.1 hd with rfl | hd
    · rw [h1] at hr
      cases hr
      exact (Array.getElem?_eq_some_iff.1 h2).1
    · exact marks_lt h4 hd hr
/-- The function's return with such marks. -/
theorem leaves_marks {F : Fence} {n : Nat} {P : Program} {fn : Func} {tmps : Array Value} {R : Ending → World → Prop} {B : Nat} :
    ∀ (ds : List Deferred) (w : World), Marks ds w → MarksFrom B ds → B ≤ w.heap.size → (∀ w', Below B w w' → (∀ (k : Nat) (o : Obj), w.heap[k]? = some o → o.isCells = true → w'.heap[k]? = some o) → LeavesIn F n P fn tmps R [] .returning w') → LeavesInM F n P fn tmps R ds .returning w
  | [], w, _, _, hB, h => h w (Below.refl _ _) (fun _ _ h _ => h)
  | d :: ds, w, hm, hf, hB, h => by
    obtain ⟨⟨r, h1, h2, h3⟩, h4⟩ := hm
    have hlt : r < w.heap.size := (Array.getElem?_eq_some_iff.1 h2).1
    refine ⟨by simp, .inl ⟨r, _, h1, run_takeDeferred h2, ?_⟩⟩
    have hk : ∀ j, j ≠ r → (w.putObj r (.deferred none)).heap[j]? = w.heap[j]? := fun j hj => World.putObj_heap_other hj
    have hb : Below B w (w.putObj r (.deferred none)) := (Below.refl B w).grown (grownBy_putObj' w r (.deferred none)) hB (fun k e => by cases e; exact hf d (by simp) r h1)
    refine leaves_marks ds _ (Marks.keep h4 fun d' hd' r' hr' => hk r' (fun e => h3 d' hd' (by rw [hr', e]))) (fun d' hd' => hf d' (by simp [hd'])) (Nat.le_trans hB hb.size) (fun w' kb kc => h w' (hb.trans kb) (fun k o hko hoc => kc k o ?_ hoc))
    rw [hk k (fun e => by subst e; rw [h2] at hko; cases hko; cases hoc)]
    exact hko
end Go.Proofs.Ytcjpemkafncihaa
/- Arrays by value, whole loads and stores, regions that draw their order: what all layers share. -/
set_option linter.unusedVariables false
set_option maxRecDepth 100000
namespace Go.Proofs.Ytcjpemkafncihaa
open Go.RowKit

theorem Below.frozen {B : Nat} {w w' : World} (k : Below B w w') {b : Nat} (hb : b < B) (j : Nat) : w'.frozen? ⟨b, j, none⟩ = w.frozen? ⟨b, j, none⟩ := by
  unfold World.frozen?
  rw [k.block b hb]
theorem below_setCells {B b : Nat} {a : World} (hB : B ≤ b) : ∀ (vs : List Value) (o : Nat) {w : World}, Below B a w → Below B a (w.setCells b o vs)
  | [], _, _, h => h
  | v :: vs, o, _, h => below_setCells hB vs (o + 1) (h.setCell (p := ⟨b, o, none⟩) hB v)
theorem results_cell1 {fn : Func} {p : Tmp} {ty : TypeId} (h : fn.results = #[.cell p ty]) (tmps : Array Value) (P : Program) (w : World) (b o : Nat) (cs : List Value) (d : TypeDesc) (hp : tmps.getD p undef = .pointer (some ⟨b, o, none⟩)) (hc : w.rangeAt b o cs)
    (hu : P.underlying ty = some d) (hd : d.isRow = true) (hi : (P.info? ty).map (·.size) = some cs.length) :
    (results fn tmps).run P w = .ok (.agg cs.toArray) w := by
  have hl := run_loadVar_mid w b o ty cs d hc hu hd hi
  have hp' : tmps[p]?.getD undef = .pointer (some ⟨b, o, none⟩) := by simpa using hp
  simp only [results, h]
  simp [Sem.run_bind, Result.andThen, hp', asAddr, hl]
/-- An array by value, at a place within it. -/
theorem run_index_arr (t e : TypeId) (n : Nat) (cs : Array Value) (i : Nat) (v : Value) (hu : Try.prog.underlying t = some (.array n e)) (ha : ∀ w, (isAgg e).run Try.prog w = .ok false w) (hs : ∀ w, (Go.sizeOf e).run Try.prog w = .ok 1 w) (hi : i < n) (hc : cs[i]? = some v) (w : World) :
    (Instr.index t (.agg cs) (.int .i64 (i : Int))).run Try.prog w = .ok v w := by
  have h1 : (0 : Int) ≤ (i : Int) ∧ (i : Int) < (n : Int) := by omega
  simp [Instr.index, run_underlying hu, asIntOf, h1, part, ha, hs, hc, go_sem]
  omega
theorem rangeAt_below {b o B : Nat} {cs : List Value} {w w' : World} (h : w.rangeAt b o cs) (k : Below B w w') (hb : b < B) : w'.rangeAt b o cs := by
  intro j v hj
  rw [k.cell hb]
  exact h j v hj

theorem results_arr {fn : Func} {p : Tmp} {ty : TypeId} (h : fn.results = #[.cell p ty]) (tmps : Array Value) (P : Program) (w : World) (b : Nat) (cs : Array Value) (d : TypeDesc) (hp : tmps.getD p undef = .pointer (some ⟨b, 0, none⟩)) (hc : w.there b 0 cs.size)
    (hu : P.underlying ty = some d) (hd : d.isRow = true) (hi : (P.info? ty).map (·.size) = some cs.toList.length) :
    (results fn tmps).run P (w.setCells b 0 cs.toList) = .ok (.agg cs) (w.setCells b 0 cs.toList) := by
  have := results_cell1 h tmps P (w.setCells b 0 cs.toList) b 0 cs.toList d hp (World.rangeAt_setCells_same w b 0 _ (by simpa using hc)) hu hd hi
  simpa using this

theorem seen_of {P : Program} {F : FuncId} {args : Array Value} {r : Value} (h : ∀ w, Calls P F args w fun e w' => e = .returned r ∧ Below w.heap.size w w') (W : World) (n : Seen W) : Calls P F args n.val fun e w'' => e = .returned r ∧ ∃ m : Seen W, w'' = m.val :=
  (h n.val).mono fun _ w'' ⟨h1, h2⟩ => ⟨h1, ⟨⟨w'', n.below.trans (h2.mono n.below.size)⟩, rfl⟩⟩
theorem held_of {P : Program} {F : FuncId} {args : Array Value} {r : Value} (h : ∀ w, Calls P F args w fun e w' => e = .returned r ∧ Below w.heap.size w w') (W w : World) (k : Below W.heap.size W w) : Calls P F args w fun e w'' => e = .returned r ∧ Below W.heap.size W w'' :=
  (h w).mono fun _ w'' ⟨h1, h2⟩ => ⟨h1, k.trans (h2.mono k.size)⟩
/-- A whole array that is loaded in a region that writes nothing that was there. -/
theorem quiet_load_mid {P : Program} {o : Oper} {a : Act} {C : World → Prop} {K : Act → Prop} (ty : TypeId) (x : Operand) (ho : o.op = .load ty x) (b off : Nat) (hx : a.eval x = .pointer (some ⟨b, off, none⟩)) (cs : List Value) (d : TypeDesc) (hS : ∀ w, C w → w.rangeAt b off cs)
    (hu : P.underlying ty = some d) (hd : d.isRow = true) (hi : (P.info? ty).map (·.size) = some cs.length) (hk : K (a.put o.dst (.agg cs.toArray))) : o.quiet P a C K :=
  ⟨_, fun w hw => by
    unfold Oper.quietAt execOp
    simp only [ho, hx, Instr.loadAt, Instr.sureAddr, Sem.run_bind, Sem.run_pure, Result.andThen_ok, run_loadVar_mid w b off ty cs d (hS w hw) hu hd hi]
    exact ⟨rfl, rfl⟩, hk⟩
theorem quiet_load_arr {P : Program} {o : Oper} {a : Act} {C : World → Prop} {K : Act → Prop} (ty : TypeId) (x : Operand) (ho : o.op = .load ty x) (b off : Nat) (hx : a.eval x = .pointer (some ⟨b, off, none⟩)) (cs : Array Value) (d : TypeDesc) (hS : ∀ w, C w → w.rangeAt b off cs.toList)
    (hu : P.underlying ty = some d) (hd : d.isRow = true) (hi : (P.info? ty).map (·.size) = some cs.toList.length) (hk : K (a.put o.dst (.agg cs))) : o.quiet P a C K :=
  quiet_load_mid ty x ho b off hx cs.toList d hS hu hd hi (by simpa using hk)
theorem seen_range {W W' : World} {b : Nat} {cs : List Value} (h : ∀ m, Below W.heap.size W m → m.rangeAt b 0 cs) (k : Below W.heap.size W W') : ∀ w, (∃ n : Seen W', w = n.val) → w.rangeAt b 0 cs := by
  rintro _ ⟨n, rfl⟩
  exact h n.val (k.trans (n.below.mono k.size))
/-- A whole array that is loaded behind a guard. -/
theorem wpList_load_arr {P : Program} {ops : Array Oper} {rest : List Oper} {op : Oper} {a : Act} {w : World} {Q : Exit → Act → World → Prop} (hw : Region.wanted op (yielded ops a.tmps) = true) (ty : TypeId) (x : Operand) (ho : op.op = .load ty x)
    (b o : Nat) (hx : a.eval x = .pointer (some ⟨b, o, none⟩)) (cs : Array Value) (d : TypeDesc) (hc : w.rangeAt b o cs.toList)
    (hu : P.underlying ty = some d) (hd : d.isRow = true) (hi : (P.info? ty).map (·.size) = some cs.toList.length)
    (h : wpList P ops Q rest (a.put op.dst (.agg cs)) w) : wpList P ops Q (op :: rest) a w :=
  wpList_step fun _ hK => by
    rw [if_pos hw]
    exact wp_load_mid ty x ho b o hx cs.toList d hc hu hd hi (hK _ _ (by simpa using h))
/-- A region that draws its order, gone through by hand: an operation that may come first, its slot named. -/
theorem held_take {P : Program} {md : Region.Mode} {ops : Array Oper} {Q : Exit → Act → World → Prop} {S : World → Prop} {fuel : Nat} {listed : Array Bool} {a : Act} {w : World} (i d : Nat) {oi : Oper} {v : Value} (hi : ops[i]? = some oi) (hd : oi.dst = some d)
    (hs : Region.noSelect ops = true) (hf : Region.free md ops listed i = true) (hr : (Region.ready md ops listed).contains i = true)
    (hQ : ∀ c a w, Q (.panic c) (a.put oi.dst v) w → Q (.panic c) a w) (hy : YieldsIf P ops S oi v a) (hS : S w)
    (h : wpAnyH P md ops Q S fuel (listed.setIfInBounds i true) (a.put (some d) v) w) : wpAnyH P md ops Q S (fuel + 1) listed a w :=
  wpAnyH_take hi hs hf hr hQ hy hS (by rw [hd]; exact h)
theorem seen_at {W : World} {b : Nat} {cs : List Value} (h : W.rangeAt b 0 cs) (hb : b < W.heap.size) : ∀ w, (∃ n : Seen W, w = n.val) → w.rangeAt b 0 cs := by
  rintro _ ⟨n, rfl⟩
  exact rangeAt_below h n.below hb
end Go.Proofs.Ytcjpemkafncihaa
/- A region that draws its order within a round, gone through by hand. -/
set_option linter.unusedVariables false
set_option maxRecDepth 100000
namespace Go.Proofs.Ytcjpemkafncihaa
open Go.RowKit

section
variable {P : Program} {ops : Array Oper} {md : Region.Mode} {Q : Exit → Act → World → Prop}
theorem rowsIn_round {r n : Nat} {row : String} {args : Array Value} {w : World} {R : Value → World → Prop} (h : Rows P row args w R) : RowsIn (Fence.wide.inRound r) n P row args w R :=
  fun c cs _ => let ⟨v, w', q, s⟩ := h c cs; ⟨v, w', q, stepsIn_wide.2 s⟩
theorem operIn_of_wp {r n : Nat} {o : Oper} {a : Act} {w : World} {K K' : Act → World → Prop} (hse : ∀ ρ, Oper.semAt (Fence.wide.inRound r).round ρ o = execOp ρ o) (hL : ¬ LetsOut Q) (hK : ∀ a w, K a w → K' a w) (h : o.wp P a w K Q) : o.wpIn (Fence.wide.inRound r) n P a w K' Q := by
  unfold Oper.wp at h
  unfold Oper.wpIn
  refine ⟨fun _ _ => trivial, ?_⟩
  rw [hse]
  generalize (execOp a.eval o).run P w = x at *
  cases x with
  | ok x w' =>
    cases x <;> simp only [Oper.upon] at h <;> simp only [Oper.uponIn]
    case value u => exact hK _ _ h
    case skip => exact hK _ _ h
    case defer d => exact hK _ _ h
    case enter f args =>
      refine ⟨fun e => by simp [Fence.wide] at e, (wide_round r).calls (Calls.mono h fun e w'' he => ?_)⟩
      cases e with
      | returned v => exact hK _ _ he
      | panicked c => exact he
      | outgrown => exact he
    case row row args => exact ⟨fun e => by simp [Fence.wide] at e, rowsIn_round (Rows.mono h fun v w'' he => hK _ _ he)⟩
  | halt x w' =>
    cases x <;> simp only [Oper.upon] at h <;> simp only [Oper.uponIn]
    case panic v => exact h
theorem opIn_of_wp {r n i : Nat} {a : Act} {w : World} {K K' : Act → World → Prop} (hse : ∀ o, ops[i]? = some o → ∀ ρ, Oper.semAt (Fence.wide.inRound r).round ρ o = execOp ρ o) (hL : ¬ LetsOut Q) (hK : ∀ a w, K a w → K' a w) (h : wpOp P ops Q i K a w) : wpOpIn (Fence.wide.inRound r) n P ops Q i K' a w := by
  unfold wpOp at h
  unfold wpOpIn
  split
  · rename_i ho; simp only [ho] at h; exact hK _ _ h
  · rename_i o ho
    simp only [ho] at h
    split
    · rename_i hw
      simp only [hw, if_true] at h
      rcases h with h | h
      · exact operIn_of_wp (hse o ho) hL hK h
      · exact absurd h.2 hL
    · rename_i hw
      simp only [hw] at h
      exact ⟨fun _ _ => trivial, hK _ _ h⟩
theorem anyIn_of_wp {r n : Nat} (hse : ∀ (i : Nat) (o : Oper), ops[i]? = some o → ∀ ρ, Oper.semAt (Fence.wide.inRound r).round ρ o = execOp ρ o) (hL : ¬ LetsOut Q) : ∀ (fuel : Nat) (listed : Array Bool) (a : Act) (w : World), wpAny P md ops Q fuel listed a w → wpAnyIn (Fence.wide.inRound r) n P md ops Q fuel listed a w
  | 0, _, _, _, h => h
  | fuel + 1, _, _, _, h => ⟨h.1, fun i hi => opIn_of_wp (hse i) hL (fun _ _ h' => anyIn_of_wp hse hL fuel _ _ _ h') (h.2 i hi)⟩
/-- A region within a round, by hand. -/
theorem wpIn_round_held {r n id : Nat} {a : Act} {w : World} {l : List Oper} (S : World → Prop) (hm : P.follows .mixedOrders = true) (hd : noDefer l = true) (hL : ¬ LetsOut Q)
    (h : wpAnyH P .any l.toArray Q S l.toArray.size (Array.replicate l.toArray.size false) a { w with drawn := w.drawn + 1 }) : (Code.region id l.toArray true).wpIn (Fence.wide.inRound r) n P Q a w :=
  wpIn_region_any hm (anyIn_of_wp (noDefer_sem hd _) hL _ _ _ _ (wpAny_of_held _ _ _ _ h))
end
end Go.Proofs.Ytcjpemkafncihaa
/- A region that draws its order: a load that only the last operations await, taken first, where what is written is written by those alone. -/
set_option linter.unusedVariables false
set_option maxRecDepth 100000
namespace Go.Proofs.Ytcjpemkafncihaa
open Go.RowKit

section
variable {P : Program} {ops : Array Oper} {Q : Exit → Act → World → Prop} {md : Region.Mode} {S : World → Prop} {E : Nat → Bool}
/-- Whatever order is picked from here on, and S holds behind every operation that isn't one of E. -/
def wpAnyE (P : Program) (md : Region.Mode) (ops : Array Oper) (Q : Exit → Act → World → Prop) (S : World → Prop) (E : Nat → Bool) : Nat → Array Bool → Act → World → Prop
  | 0, listed, a, w => Region.ready md ops listed = [] ∧ Q .normal a w
  | fuel + 1, listed, a, w =>
    (Region.ready md ops listed = [] → Q .normal a w) ∧
    ∀ i ∈ Region.ready md ops listed, wpOp P ops Q i (fun a' w' => (E i = false → S w') ∧ wpAnyE P md ops Q S E fuel (listed.setIfInBounds i true) a' w') a w
theorem wpAny_of_E : ∀ (fuel : Nat) (listed : Array Bool) (a : Act) (w : World), wpAnyE P md ops Q S E fuel listed a w → wpAny P md ops Q fuel listed a w
  | 0, _, _, _, h => h
  | fuel + 1, _, _, _, h => ⟨h.1, fun i hi => wpOp_mono (fun a' w' h' => wpAny_of_E fuel _ a' w' h'.2) (h.2 i hi)⟩
theorem wpAnyE_first {i : Nat} {oi : Oper} {v : Value} (hi : ops[i]? = some oi) (hsel : ∀ (j : Nat) (o : Oper) cs b, ops[j]? = some o → o.op ≠ .select cs b)
    (hE : ∀ j oj, ops[j]? = some oj → E j = true → ∃ e ∈ oj.after, Region.binds md e = true ∧ e.on = i)
    (hQ : ∀ c a w, Q (.panic c) (a.put oi.dst v) w → Q (.panic c) a w) :
    ∀ (fuel : Nat) (listed : Array Bool) (a : Act) (w : World),
      (∀ j oj, ops[j]? = some oj → j ≠ i → listed.getD j true = false → (∀ e ∈ oj.after, Region.binds md e = true → e.on ≠ i) → oi.apart ops oj = true) →
      i ∈ Region.ready md ops listed → YieldsIf P ops S oi v a → S w →
      wpAnyE P md ops Q S E fuel (listed.setIfInBounds i true) (a.put oi.dst v) w → wpAny P md ops Q (fuel + 1) listed a w := by
  intro fuel
  induction fuel with
  | zero =>
    intro listed a w _ hr hy hS H
    refine ⟨fun h => (by rw [h] at hr; cases hr), fun j hj => ?_⟩
    by_cases hji : j = i
    · subst hji; exact hy.wpOp hi hS H
    · have := ready_mono hj hji
      rw [H.1] at this
      cases this
  | succ fuel ih =>
    intro listed a w hfree hr hy hS H
    refine ⟨fun h => (by rw [h] at hr; cases hr), fun j hj => ?_⟩
    by_cases hji : j = i
    · subst hji; exact hy.wpOp hi hS (wpAny_of_E _ _ _ _ H)
    · have h1 := H.2 j (ready_mono hj hji)
      obtain ⟨hjun, oj, hoj, hall⟩ := mem_ready.1 hj
      have hnot : ∀ e ∈ oj.after, Region.binds md e = true → e.on ≠ i := fun e he hb heq => by
        have h1 := hall e he hb
        have h0 := (mem_ready.1 hr).1
        rw [heq] at h1
        rcases Nat.lt_or_ge i listed.size with h' | h'
        · simp [h'] at h0 h1; rw [h0] at h1; cases h1
        · simp [Array.getElem?_eq_none h'] at h1
      have hEj : E j = false := by
        cases hc : E j with
        | false => rfl
        | true =>
          obtain ⟨e, he, hb, hon⟩ := hE j oj hoj hc
          exact absurd hon (hnot e he hb)
      have h2 := wpOp_putIf hoj (hfree j oj hoj hji hjun hnot) (fun cs b => hsel i oi cs b hi) (fun cs b => hsel j oj cs b hoj) hQ hy h1
      have hfree' : ∀ k ok, ops[k]? = some ok → k ≠ i → (listed.setIfInBounds j true).getD k true = false →
          (∀ e ∈ ok.after, Region.binds md e = true → e.on ≠ i) → oi.apart ops ok = true := fun k ok hk hki hun hno => by
        refine hfree k ok hk hki ?_ hno
        by_cases hjk : j = k
        · subst hjk; exact hjun
        · rw [getD_set_ne true hjk] at hun; exact hun
      refine wpOp_mono (fun a' w' h3 => ih (listed.setIfInBounds j true) a' w' hfree' (ready_mono hr (Ne.symm hji)) h3.1 (h3.2.1 hEj) ?_) h2
      rw [Array.setIfInBounds_comm _ _ hji]
      exact h3.2.2
def lateB (md : Region.Mode) (ops : Array Oper) (E : Nat → Bool) (i : Nat) : Bool :=
  (List.range ops.size).all fun j => !E j || (match ops[j]? with | some o => o.after.any fun e => Region.binds md e && e.on == i | none => false)
theorem late_spec {i : Nat} (h : lateB md ops E i = true) : ∀ j oj, ops[j]? = some oj → E j = true → ∃ e ∈ oj.after, Region.binds md e = true ∧ e.on = i := fun j oj hj hE => by
  have h1 := List.all_eq_true.1 h j (List.mem_range.2 (Array.getElem?_eq_some_iff.1 hj).1)
  rw [hE, hj] at h1
  simp only [Bool.not_true, Bool.false_or] at h1
  obtain ⟨e, he, h2⟩ := Array.any_eq_true'.1 h1
  simp only [Bool.and_eq_true, beq_iff_eq] at h2
  exact ⟨e, he, h2.1, h2.2⟩
/-- A load is taken first. -/
theorem wpAny_late {i d : Nat} {oi : Oper} {v : Value} {fuel : Nat} {listed : Array Bool} {a : Act} {w : World} (S : World → Prop) (E : Nat → Bool) (hi : ops[i]? = some oi) (hd : oi.dst = some d)
    (hs : Region.noSelect ops = true) (hl : lateB md ops E i = true) (hf : Region.free md ops listed i = true) (hr : (Region.ready md ops listed).contains i = true)
    (hQ : ∀ c a w, Q (.panic c) (a.put oi.dst v) w → Q (.panic c) a w) (hy : YieldsIf P ops S oi v a) (hS : S w)
    (h : wpAnyE P md ops Q S E fuel (listed.setIfInBounds i true) (a.put (some d) v) w) : wpAny P md ops Q (fuel + 1) listed a w :=
  wpAnyE_first hi (Region.noSelect_spec hs) (late_spec hl) hQ fuel listed a w (Region.free_spec hi hf) (by simpa using hr) hy hS (by rw [hd]; exact h)
theorem any_take {i d : Nat} {oi : Oper} {v : Value} {fuel : Nat} {listed : Array Bool} {a : Act} {w : World} (hi : ops[i]? = some oi) (hd : oi.dst = some d)
    (hs : Region.noSelect ops = true) (hf : Region.free md ops listed i = true) (hr : (Region.ready md ops listed).contains i = true)
    (hQ : ∀ c a w, Q (.panic c) (a.put oi.dst v) w → Q (.panic c) a w) (hy : Yields P ops oi v a)
    (h : wpAny P md ops Q fuel (listed.setIfInBounds i true) (a.put (some d) v) w) : wpAny P md ops Q (fuel + 1) listed a w :=
  wpAny_take hi hs hf hr hQ hy (by rw [hd]; exact h)
/-- The next one, whichever it is. -/
def AllE (P : Program) (md : Region.Mode) (ops : Array Oper) (Q : Exit → Act → World → Prop) (S : World → Prop) (E : Nat → Bool) (fuel : Nat) (listed : Array Bool) (a : Act) (w : World) (rs : List Nat) : Prop :=
  ∀ i ∈ rs, wpOp P ops Q i (fun a' w' => (E i = false → S w') ∧ wpAnyE P md ops Q S E fuel (listed.setIfInBounds i true) a' w') a w
theorem AllE.nil {fuel : Nat} {listed : Array Bool} {a : Act} {w : World} : AllE P md ops Q S E fuel listed a w [] := fun _ h => by cases h
theorem AllE.cons {fuel : Nat} {listed : Array Bool} {a : Act} {w : World} {i : Nat} {o : Oper} {rs : List Nat} (ho : ops[i]? = some o)
    (h : ∀ K' : Act → World → Prop, Shut (∀ a w, (E i = false → S w) → ((E i = false → S w) → wpAnyE P md ops Q S E fuel (listed.setIfInBounds i true) a w) → K' a w) → if Region.wanted o (yielded ops a.tmps) = true then Oper.wp P o a w K' Q else K' (a.put o.dst undef) w)
    (hs : AllE P md ops Q S E fuel listed a w rs) : AllE P md ops Q S E fuel listed a w (i :: rs) := fun j hj => by
  rcases List.mem_cons.1 hj with rfl | hj
  · exact wpOp_step ho (fun K' hK => h K' (fun a w hS hW => hK a w ⟨hS, hW hS⟩))
  · exact hs j hj
theorem wpAnyE_ready {rs : List Nat} {fuel : Nat} {listed : Array Bool} {a : Act} {w : World} (hr : Region.ready md ops listed = rs) (hne : rs ≠ [])
    (h : AllE P md ops Q S E fuel listed a w rs) : wpAnyE P md ops Q S E (fuel + 1) listed a w := ⟨fun h0 => absurd (hr ▸ h0) hne, hr ▸ h⟩
theorem wpAnyE_done {listed : Array Bool} {a : Act} {w : World} (hr : Region.ready md ops listed = []) (h : Q .normal a w) : ∀ fuel, wpAnyE P md ops Q S E fuel listed a w
  | 0 => ⟨hr, h⟩
  | _ + 1 => ⟨fun _ => h, by rw [hr]; simp⟩
theorem wpIn_round_any {r n id : Nat} {a : Act} {w : World} {l : List Oper} (hm : P.follows .mixedOrders = true) (hd : noDefer l = true) (hL : ¬ LetsOut Q)
    (h : wpAny P .any l.toArray Q l.toArray.size (Array.replicate l.toArray.size false) a { w with drawn := w.drawn + 1 }) : (Code.region id l.toArray true).wpIn (Fence.wide.inRound r) n P Q a w :=
  wpIn_region_any hm (anyIn_of_wp (noDefer_sem hd _) hL _ _ _ _ h)
end
end Go.Proofs.Ytcjpemkafncihaa
/- A region that draws its order: reads taken first, where what they read stays behind every operation. -/
set_option linter.unusedVariables false
set_option maxRecDepth 100000
namespace Go.Proofs.Ytcjpemkafncihaa
open Go.RowKit

section
variable {P : Program} {ops : Array Oper} {Q : Exit → Act → World → Prop} {md : Region.Mode} {S : World → Prop}
theorem kept_first {i : Nat} {oi : Oper} {v : Value} (hi : ops[i]? = some oi) (hsel : ∀ (j : Nat) (o : Oper) cs b, ops[j]? = some o → o.op ≠ .select cs b)
    (hQ : ∀ c a w, Q (.panic c) (a.put oi.dst v) w → Q (.panic c) a w) :
    ∀ (fuel : Nat) (listed : Array Bool) (a : Act) (w : World),
      (∀ j oj, ops[j]? = some oj → j ≠ i → listed.getD j true = false → (∀ e ∈ oj.after, Region.binds md e = true → e.on ≠ i) → oi.apart ops oj = true) →
      i ∈ Region.ready md ops listed → YieldsIf P ops S oi v a → S w →
      wpAnyE P md ops Q S (fun _ => false) fuel (listed.setIfInBounds i true) (a.put oi.dst v) w → wpAnyE P md ops Q S (fun _ => false) (fuel + 1) listed a w := by
  intro fuel
  induction fuel with
  | zero =>
    intro listed a w _ hr hy hS H
    refine ⟨fun h => (by rw [h] at hr; cases hr), fun j hj => ?_⟩
    by_cases hji : j = i
    · subst hji; exact hy.wpOp hi hS ⟨fun _ => hS, H⟩
    · have := ready_mono hj hji
      rw [H.1] at this
      cases this
  | succ fuel ih =>
    intro listed a w hfree hr hy hS H
    refine ⟨fun h => (by rw [h] at hr; cases hr), fun j hj => ?_⟩
    by_cases hji : j = i
    · subst hji; exact hy.wpOp hi hS ⟨fun _ => hS, H⟩
    · have h1 := H.2 j (ready_mono hj hji)
      obtain ⟨hjun, oj, hoj, hall⟩ := mem_ready.1 hj
      have hnot : ∀ e ∈ oj.after, Region.binds md e = true → e.on ≠ i := fun e he hb heq => by
        have h1 := hall e he hb
        have h0 := (mem_ready.1 hr).1
        rw [heq] at h1
        rcases Nat.lt_or_ge i listed.size with h' | h'
        · simp [h'] at h0 h1; rw [h0] at h1; cases h1
        · simp [Array.getElem?_eq_none h'] at h1
      have h2 := wpOp_putIf hoj (hfree j oj hoj hji hjun hnot) (fun cs b => hsel i oi cs b hi) (fun cs b => hsel j oj cs b hoj) hQ hy h1
      have hfree' : ∀ k ok, ops[k]? = some ok → k ≠ i → (listed.setIfInBounds j true).getD k true = false →
          (∀ e ∈ ok.after, Region.binds md e = true → e.on ≠ i) → oi.apart ops ok = true := fun k ok hk hki hun hno => by
        refine hfree k ok hk hki ?_ hno
        by_cases hjk : j = k
        · subst hjk; exact hjun
        · rw [getD_set_ne true hjk] at hun; exact hun
      refine wpOp_mono (fun a' w' h3 => ⟨h3.2.1, ih (listed.setIfInBounds j true) a' w' hfree' (ready_mono hr (Ne.symm hji)) h3.1 (h3.2.1 rfl) ?_⟩) h2
      rw [Array.setIfInBounds_comm _ _ hji]
      exact h3.2.2
/-- A read is taken first. -/
theorem kept_take {i d : Nat} {oi : Oper} {v : Value} {fuel : Nat} {listed : Array Bool} {a : Act} {w : World} (hi : ops[i]? = some oi) (hd : oi.dst = some d)
    (hs : Region.noSelect ops = true) (hf : Region.free md ops listed i = true) (hr : (Region.ready md ops listed).contains i = true)
    (hQ : ∀ c a w, Q (.panic c) (a.put oi.dst v) w → Q (.panic c) a w) (hy : YieldsIf P ops S oi v a) (hS : S w)
    (h : wpAnyE P md ops Q S (fun _ => false) fuel (listed.setIfInBounds i true) (a.put (some d) v) w) : wpAnyE P md ops Q S (fun _ => false) (fuel + 1) listed a w :=
  kept_first hi (Region.noSelect_spec hs) hQ fuel listed a w (Region.free_spec hi hf) (by simpa using hr) hy hS (by rw [hd]; exact h)
/-- A region by hand. -/
theorem wp_region_kept {id : Nat} {a : Act} {w : World} {l : List Oper} (S : World → Prop) (hm : P.follows .mixedOrders = true)
    (h : wpAnyE P .any l.toArray Q S (fun _ => false) l.toArray.size (Array.replicate l.toArray.size false) a { w with drawn := w.drawn + 1 }) : (Code.region id l.toArray true).wp P Q a w :=
  wp_region_any hm (wpAny_of_E _ _ _ _ h)
end
end Go.Proofs.Ytcjpemkafncihaa
/- Rows of numbers and of bytes; slices of bytes; a conf by value. -/
set_option linter.unusedVariables false
set_option maxRecDepth 100000
namespace Go.Proofs.Ytcjpemkafncihaa
open Go.RowKit

theorem infoInt : (Try.prog.info? 3).map (fun i => (i.zero, i.size, i.bytes)) = some (some (.int .i64 0), 1, 8) := by kernel_rfl
theorem infoByte : (Try.prog.info? 5).map (fun i => (i.zero, i.size, i.bytes)) = some (some (.int .u8 0), 1, 1) := by kernel_rfl
theorem info_parts {x : Option TypeInfo} {z : Value} {a b : Nat} (h : x.map (fun i => (i.zero, i.size, i.bytes)) = some (some z, a, b)) : ∃ i, x = some i ∧ i.zero = some z ∧ i.size = a ∧ i.bytes = b := by
  cases x with
  | none => cases h
  | some i =>
    simp only [Option.map_some, Option.some.injEq, Prod.mk.injEq] at h
    exact ⟨i, rfl, h.1, h.2.1, h.2.2⟩
theorem OffRow.weak {w : World} {B B' n size : Nat} {e : TypeId} {v : Value} {xs : List Value} (h : OffRow w B e size v n xs) (hB : B' ≤ B) : OffRow w B' e size v n xs := by
  refine ⟨h.1, ?_⟩
  rcases h.2 with h | ⟨g, off, c, cur, e0, hb, r⟩
  · exact .inl h
  · exact .inr ⟨g, off, c, cur, e0, Nat.le_trans hB hb, r⟩
theorem OffRow.below {w w' : World} {B n size : Nat} {e : TypeId} {v : Value} {xs : List Value} (h : OffRow w B e size v n xs) (k : Below w.heap.size w w') : OffRow w' B e size v n xs := OffRow.kept h fun j hj => k.block j (OffRow.lt h j hj).2
theorem OffRow.allocd {w : World} {B n size : Nat} {e : TypeId} {v : Value} {xs : List Value} (h : OffRow w B e size v n xs) (o : Obj) : OffRow (w.alloc o) B e size v n xs := h.below ((Below.refl _ _).alloc (Nat.le_refl _) o)
/-- A row of numbers of the call's own; a slice of numbers. -/
def ncells (L : List Nat) : List Value := L.map fun (n : Nat) => Value.int .i64 (n : Int)
theorem ncells_snoc (L : List Nat) (n : Nat) : ncells (L ++ [n]) = ncells L ++ [.int .i64 (n : Int)] := by simp [ncells]
def OwnN (w : World) (B : Nat) (v : Value) (L : List Nat) : Prop := OffRow w B 3 1 v L.length (ncells L)
def NsV (w : World) (v : Value) (L : List Nat) : Prop := ∃ a cap, v = .slice a L.length cap ∧ ∃ b off, (L.length = 0 ∨ a = some ⟨b, off, none⟩) ∧ ∀ k (hk : k < L.length), b < w.heap.size ∧ w.cell? ⟨b, off + k, none⟩ = some (.int .i64 (L[k] : Int))
theorem NsV.below {w w' : World} {v : Value} {L : List Nat} (h : NsV w v L) (k : Below w.heap.size w w') : NsV w' v L := by
  obtain ⟨a, cap, rfl, b, off, h1, h2⟩ := h
  refine ⟨a, cap, rfl, b, off, h1, fun j hj => ?_⟩
  obtain ⟨h3, h4⟩ := h2 j hj
  exact ⟨Nat.lt_of_lt_of_le h3 k.size, by rw [k.cell (p := ⟨b, off + j, none⟩) h3]; exact h4⟩
theorem NsV.at {w : World} {a : Option Addr} {n cap : Nat} {L : List Nat} (h : NsV w (.slice a n cap) L) {i t : Nat} (hi : L[i]? = some t) : ∃ b off, a = some ⟨b, off, none⟩ ∧ b < w.heap.size ∧ w.cell? ⟨b, off + i, none⟩ = some (.int .i64 (t : Int)) := by
  obtain ⟨hl, ht⟩ := List.getElem?_eq_some_iff.1 hi
  obtain ⟨a', cap', e, b, off, h1, h2⟩ := h
  simp only [Value.slice.injEq] at e
  obtain ⟨rfl, rfl, rfl⟩ := e
  obtain ⟨h3, h4⟩ := h2 i hl
  rw [ht] at h4
  exact ⟨b, off, by rcases h1 with h1 | h1; (omega); (exact h1), h3, h4⟩
theorem NsV.slice {w : World} {v : Value} {L : List Nat} (h : NsV w v L) : ∃ a cap, v = .slice a L.length cap := by
  obtain ⟨a, cap, e, _⟩ := h
  exact ⟨a, cap, e⟩
theorem OwnN.ns {w : World} {B : Nat} {v : Value} {L : List Nat} (h : OwnN w B v L) : NsV w v L := by
  unfold OwnN at h
  rcases Nat.eq_zero_or_pos L.length with h0 | h0
  · obtain ⟨a, cap, rfl⟩ := OffRow.slice h
    exact ⟨a, cap, rfl, 0, 0, .inl h0, fun k hk => absurd hk (by omega)⟩
  · obtain ⟨g, off, cap, cur, rfl, hB, hg, hc⟩ := OffRow.form h h0
    refine ⟨_, cap, rfl, g, off, .inr rfl, fun k hk => ⟨heap_lt hg, ?_⟩⟩
    rw [hc k (by omega)]
    simp [ncells, hk]
def byteV (b : UInt8) : Value := .int .u8 (b.toNat : Int)
/-- A slice of bytes: where it has any, they lie in a block of which Q holds. -/
def BsV (Q : Nat → Prop) (w : World) (v : Value) (L : List UInt8) : Prop :=
  v = .slice none 0 0 ∧ L = [] ∨ ∃ a cap, v = .slice (some a) L.length cap ∧ L.length ≤ cap ∧ (L = [] ∨ ∃ b off, a = ⟨b, off, none⟩ ∧ Q b ∧ b < w.heap.size ∧ ∀ k, k < L.length → w.cell? ⟨b, off + k, none⟩ = (L.map byteV)[k]?)
namespace BsV
variable {Q Q' : Nat → Prop} {w w' : World} {v : Value} {L : List UInt8}
theorem slice (h : BsV Q w v L) : ∃ a cap, v = .slice a L.length cap := by
  rcases h with ⟨rfl, rfl⟩ | ⟨a, cap, rfl, _⟩
  · exact ⟨none, 0, rfl⟩
  · exact ⟨some a, cap, rfl⟩
theorem mono (h : BsV Q w v L) (k : ∀ b, Q b → Q' b) : BsV Q' w v L := by
  rcases h with h | ⟨a, cap, h1, h2, h3⟩
  · exact .inl h
  · refine .inr ⟨a, cap, h1, h2, ?_⟩
    rcases h3 with h3 | ⟨b, off, e, hq, hb, hc⟩
    · exact .inl h3
    · exact .inr ⟨b, off, e, k b hq, hb, hc⟩
theorem kept (h : BsV Q w v L) (k : ∀ b, Q b → b < w.heap.size → w'.heap[b]? = w.heap[b]?) (hs : w.heap.size ≤ w'.heap.size) : BsV Q w' v L := by
  rcases h with h | ⟨a, cap, h1, h2, h3⟩
  · exact .inl h
  · refine .inr ⟨a, cap, h1, h2, ?_⟩
    rcases h3 with h3 | ⟨b, off, e, hq, hb, hc⟩
    · exact .inl h3
    · refine .inr ⟨b, off, e, hq, Nat.lt_of_lt_of_le hb hs, fun j hj => ?_⟩
      rw [← hc j hj]
      unfold World.cell?
      rw [k b hq hb]
theorem below (h : BsV Q w v L) (k : Below w.heap.size w w') : BsV Q w' v L := h.kept (fun b _ hb => k.block b hb) k.size
theorem of_own {B : Nat} (h : OffRow w B 5 1 v L.length (L.map byteV)) : BsV (fun b => B ≤ b) w v L := by
  rcases h.2 with ⟨e, h0⟩ | ⟨g, off, c, cur, rfl, hB, hg, r1, r2, r3, r4⟩
  · exact .inl ⟨e, List.eq_nil_of_length_eq_zero h0⟩
  · refine .inr ⟨_, c, rfl, r1, .inr ⟨g, off, rfl, hB, heap_lt hg, fun k hk => ?_⟩⟩
    rw [← r4 k (by omega)]
    simp [World.cell?, hg]
theorem src (h : BsV Q w v L) : Src Try.prog 1 24 v L.length (L.map byteV) w := by
  rcases h with ⟨rfl, rfl⟩ | ⟨a, cap, rfl, h2, h3⟩
  · exact Src.ofNil _ Try.underlying24 _
  · refine Src.ofSlice _ Try.underlying24 a _ cap (L.map byteV) (by simp) (fun j u hj => ?_) (fun u hu => ?_)
    · have hjl : j < L.length := by simpa using (List.getElem?_eq_some_iff.1 hj).1
      rcases h3 with h3 | ⟨b, off, rfl, _, _, hc⟩
      · subst h3; simp at hjl
      · rw [addr_add, hc j hjl, hj]
    · obtain ⟨x, _, rfl⟩ := List.mem_map.1 hu
      rfl
theorem str (h : BsV Q w v L) : (convert 24 9 v).run Try.prog w = .ok (.string (bs L)) w := by
  rcases h with ⟨rfl, rfl⟩ | ⟨a, cap, rfl, h2, h3⟩
  · exact run_convert_bytes_nil (P := Try.prog) w 24 5 Try.underlying24 Try.underlying5 0 0 9 Try.underlying9
  · refine run_convert_bytes_back (P := Try.prog) _ 24 9 5 a cap L Try.underlying24 Try.underlying5 Try.underlying9 ?_
    intro j hj
    rcases h3 with h3 | ⟨b, off, rfl, _, _, hc⟩
    · subst h3; simp at hj
    · rw [addr_add, hc j hj, List.getElem?_map, List.getElem?_eq_getElem hj]
      rfl
theorem at_ (h : BsV Q w v L) {i : Nat} {x : UInt8} (hi : L[i]? = some x) : ∃ b off cap, v = .slice (some ⟨b, off, none⟩) L.length cap ∧ Q b ∧ b < w.heap.size ∧ w.cell? ⟨b, off + i, none⟩ = some (byteV x) := by
  have hl := (List.getElem?_eq_some_iff.1 hi).1
  rcases h with ⟨rfl, rfl⟩ | ⟨a, cap, rfl, h2, h3⟩
  · simp at hl
  · rcases h3 with h3 | ⟨b, off, rfl, hq, hb, hc⟩
    · subst h3; simp at hl
    · exact ⟨b, off, cap, rfl, hq, hb, by rw [hc i hl, List.getElem?_map, hi]; rfl⟩
/-- A part of it. -/
theorem part (h : BsV Q w v L) {lo hi : Nat} (h1 : lo ≤ hi) (h2 : hi ≤ L.length) : ∃ v', (∀ W, (Instr.slice 24 v (some (.int .i64 (lo : Int))) (some (.int .i64 (hi : Int))) none).run Try.prog W = .ok v' W) ∧ BsV Q w v' ((L.take hi).drop lo) := by
  obtain ⟨i, hi0, -, hz1, -⟩ := info_parts infoByte
  have hl : ((L.take hi).drop lo).length = hi - lo := by rw [List.length_drop, List.length_take, Nat.min_eq_left h2]
  rcases h with ⟨rfl, rfl⟩ | ⟨a, cap, rfl, hcap, h3⟩
  · obtain rfl : hi = 0 := by simpa using h2
    obtain rfl : lo = 0 := by omega
    refine ⟨.slice none 0 0, fun W => ?_, .inl ⟨rfl, by simp⟩⟩
    simp [Instr.slice, run_underlying Try.underlying24, Instr.sliceBounds, run_sliceBound, sizeOf, typeInfo, hi0]
  · have b1 : (lo : Int) ≤ (hi : Int) := by omega
    have b2 : (hi : Int) ≤ (cap : Int) := by omega
    rcases Nat.lt_or_ge lo cap with hlc | hlc
    · have hne : ¬ cap = lo := by omega
      refine ⟨.slice (some (a.add lo)) (hi - lo) (cap - lo), fun W => ?_, .inr ⟨a.add lo, cap - lo, by rw [hl], by rw [hl]; omega, ?_⟩⟩
      · simp [Instr.slice, run_underlying Try.underlying24, Instr.sliceBounds, run_sliceBound, sizeOf, typeInfo, hi0, hz1, h1, b1, b2, hne]
      · rcases h3 with h3 | ⟨b, off, rfl, hq, hb, hc⟩
        · exact .inl (by rw [h3]; simp)
        · refine .inr ⟨b, off + lo, addr_add _ _ _, hq, hb, fun k hk => ?_⟩
          rw [hl] at hk
          rw [Nat.add_assoc, hc _ (by omega), List.getElem?_map, List.getElem?_map, List.getElem?_drop, List.getElem?_take, if_pos (by omega)]
    · obtain rfl : lo = cap := by omega
      obtain rfl : hi = lo := by omega
      refine ⟨.slice (some a) (hi - hi) (hi - hi), fun W => ?_, .inr ⟨a, hi - hi, by rw [hl], by rw [hl]; omega, .inl (List.eq_nil_of_length_eq_zero (by rw [hl]; omega))⟩⟩
      simp [Instr.slice, run_underlying Try.underlying24, Instr.sliceBounds, run_sliceBound, sizeOf, typeInfo, hi0, hz1, h1, b1, b2]
/-- What is left behind a place. -/
theorem rest (h : BsV Q w v L) {lo : Nat} (h1 : lo ≤ L.length) : ∃ v', (∀ W, (Instr.slice 24 v (some (.int .i64 (lo : Int))) none none).run Try.prog W = .ok v' W) ∧ BsV Q w v' (L.drop lo) := by
  obtain ⟨i, hi0, -, hz1, -⟩ := info_parts infoByte
  have hl : (L.drop lo).length = L.length - lo := by rw [List.length_drop]
  rcases h with ⟨rfl, rfl⟩ | ⟨a, cap, rfl, hcap, h3⟩
  · obtain rfl : lo = 0 := by simpa using h1
    refine ⟨.slice none 0 0, fun W => ?_, .inl ⟨rfl, by simp⟩⟩
    simp [Instr.slice, run_underlying Try.underlying24, Instr.sliceBounds, run_sliceBound, sizeOf, typeInfo, hi0]
  · rcases Nat.lt_or_ge lo cap with hlc | hlc
    · have hne : ¬ cap = lo := by omega
      refine ⟨.slice (some (a.add lo)) (L.length - lo) (cap - lo), fun W => ?_, .inr ⟨a.add lo, cap - lo, by rw [hl], by rw [hl]; omega, ?_⟩⟩
      · simp [Instr.slice, run_underlying Try.underlying24, Instr.sliceBounds, run_sliceBound, sizeOf, typeInfo, hi0, hz1, h1, hcap, hne]
      · rcases h3 with h3 | ⟨b, off, rfl, hq, hb, hc⟩
        · exact .inl (by rw [h3]; simp)
        · refine .inr ⟨b, off + lo, addr_add _ _ _, hq, hb, fun k hk => ?_⟩
          rw [hl] at hk
          rw [Nat.add_assoc, hc _ (by omega), List.getElem?_map, List.getElem?_map, List.getElem?_drop]
    · obtain rfl : lo = cap := by omega
      refine ⟨.slice (some a) (L.length - lo) (lo - lo), fun W => ?_, .inr ⟨a, lo - lo, by rw [hl], by rw [hl]; omega, .inl (List.eq_nil_of_length_eq_zero (by rw [hl]; omega))⟩⟩
      simp [Instr.slice, run_underlying Try.underlying24, Instr.sliceBounds, run_sliceBound, sizeOf, typeInfo, hi0, hz1, h1, hcap]
/-- Where it has bytes, they lie in its own block. -/
theorem own (h : BsV Q w v L) : BsV (fun k => v.ownBlock = some k) w v L := by
  rcases h with h | ⟨a, cap, h1, h2, h3⟩
  · exact .inl h
  · refine .inr ⟨a, cap, h1, h2, ?_⟩
    rcases h3 with h3 | ⟨b, off, e, hq, hb, hc⟩
    · exact .inl h3
    · exact .inr ⟨b, off, e, by rw [h1, e]; rfl, hb, hc⟩
end BsV
/-- A conf by value; a box of one. -/
structure Conf where
  f : Nat → Int
  fit : ∀ i, -9223372036854775808 ≤ f i ∧ f i ≤ 9223372036854775807
def Conf.cells (c : Conf) : Array Value := #[.int .i64 (c.f 0), .int .i64 (c.f 1), .int .i64 (c.f 2), .int .i64 (c.f 3), .int .i64 (c.f 4), .int .i64 (c.f 5), .int .i64 (c.f 6), .int .i64 (c.f 7), .int .i64 (c.f 8), .int .i64 (c.f 9), .int .i64 (c.f 10), .int .i64 (c.f 11)]
def Conf.ok (c : Conf) : Bool := okC (c.f 8) (c.f 9) (c.f 10)
end Go.Proofs.Ytcjpemkafncihaa
/- The document's Check, and the program's. -/
set_option linter.unusedVariables false
set_option maxRecDepth 100000
namespace Go.Proofs.Ytcjpemkafncihaa
open Go.RowKit

set_option maxHeartbeats 4000000 in
theorem ref_Check (c : Conf) (w : World) : Calls Try.prog 11 #[.agg c.cells] w fun e w' => e = .returned (.bool c.ok) ∧ Below w.heap.size w w' := by
  obtain ⟨f, hf⟩ := c
  simp only [Conf.cells, Conf.ok]
  generalize f 0 = c0
  generalize f 1 = c1
  generalize f 2 = c2
  generalize f 3 = c3
  generalize f 4 = c4
  generalize f 5 = c5
  generalize f 6 = c6
  generalize f 7 = c7
  generalize f 8 = least
  generalize f 9 = mean
  generalize f 10 = most
  generalize f 11 = c11
  clear hf f
  obtain ⟨r, hr⟩ : ∃ r, r = okC least mean most := ⟨_, rfl⟩
  rw [← hr]
  have HK := Lib.hid (show r = (((((decide (1 ≤ least) && decide (1 ≤ mean)) && decide (mean ≤ 65536)) && decide (least ≤ most)) && decide (most ≤ 4096))) from hr)
  clear hr
  have KB := Lib.hid ((Below.refl w.heap.size w).alloc (Nat.le_refl _) (.cells #[.int .i64 c0, .int .i64 c1, .int .i64 c2, .int .i64 c3, .int .i64 c4, .int .i64 c5, .int .i64 c6, .int .i64 c7, .int .i64 least, .int .i64 mean, .int .i64 most, .int .i64 c11] 23))
  go_enter Try.func11, Try.ntmps11
  cases h1 : decide (1 ≤ least) with
  | false =>
    have HR := Lib.hid (show r = false by rw [HK.out, h1]; simp)
    go_wp2
    go_ret
    exact ⟨by rw [HR.out]; rfl, KB.out⟩
  | true =>
    cases h2 : decide (1 ≤ mean) with
    | false =>
      have HR := Lib.hid (show r = false by rw [HK.out, h1, h2]; simp)
      go_wp2
      go_ret
      exact ⟨by rw [HR.out]; rfl, KB.out⟩
    | true =>
      cases h3 : decide (mean ≤ 65536) with
      | false =>
        have HR := Lib.hid (show r = false by rw [HK.out, h1, h2, h3]; simp)
        go_wp2
        go_ret
        exact ⟨by rw [HR.out]; rfl, KB.out⟩
      | true =>
        cases h4 : decide (least ≤ most) with
        | false =>
          have HR := Lib.hid (show r = false by rw [HK.out, h1, h2, h3, h4]; simp)
          go_wp2
          go_ret
          exact ⟨by rw [HR.out]; rfl, KB.out⟩
        | true =>
          cases h5 : decide (most ≤ 4096) with
          | false =>
            have HR := Lib.hid (show r = false by rw [HK.out, h1, h2, h3, h4, h5]; simp)
            go_wp2
            go_ret
            exact ⟨by rw [HR.out]; rfl, KB.out⟩
          | true =>
            have HR := Lib.hid (show r = true by rw [HK.out, h1, h2, h3, h4, h5]; simp)
            go_wp2
            go_ret
            exact ⟨by rw [HR.out]; rfl, KB.out⟩
set_option maxHeartbeats 4000000 in
theorem chk_Check (c : Conf) (w : World) : Calls Try.prog 10 #[.agg c.cells] w fun e w' => e = .returned (.int .i64 (bif c.ok then 0 else 1)) ∧ Below w.heap.size w w' := by
  obtain ⟨f, hf⟩ := c
  simp only [Conf.cells, Conf.ok]
  generalize f 0 = c0
  generalize f 1 = c1
  generalize f 2 = c2
  generalize f 3 = c3
  generalize f 4 = c4
  generalize f 5 = c5
  generalize f 6 = c6
  generalize f 7 = c7
  generalize f 8 = least
  generalize f 9 = mean
  generalize f 10 = most
  generalize f 11 = c11
  clear hf f
  obtain ⟨r, hr⟩ : ∃ r, r = okC least mean most := ⟨_, rfl⟩
  rw [← hr]
  have HK := Lib.hid (show r = (((((decide (1 ≤ least) && decide (1 ≤ mean)) && decide (mean ≤ 65536)) && decide (least ≤ most)) && decide (most ≤ 4096))) from hr)
  clear hr
  have KB := Lib.hid ((Below.refl w.heap.size w).alloc (Nat.le_refl _) (.cells #[.int .i64 c0, .int .i64 c1, .int .i64 c2, .int .i64 c3, .int .i64 c4, .int .i64 c5, .int .i64 c6, .int .i64 c7, .int .i64 least, .int .i64 mean, .int .i64 most, .int .i64 c11] 23))
  go_enter Try.func10, Try.ntmps10
  cases h1 : decide (least < 1) with
  | true =>
    have HR := Lib.hid (show r = false by rw [HK.out, (show decide (1 ≤ least) = false by have := h1; simp only [decide_eq_true_eq, decide_eq_false_iff_not] at this ⊢; omega)]; simp)
    go_wp2
    go_ret
    exact ⟨by rw [HR.out]; rfl, KB.out⟩
  | false =>
    cases h2 : decide (mean < 1) with
    | true =>
      have HR := Lib.hid (show r = false by rw [HK.out, (show decide (1 ≤ least) = true by have := h1; simp only [decide_eq_true_eq, decide_eq_false_iff_not] at this ⊢; omega), (show decide (1 ≤ mean) = false by have := h2; simp only [decide_eq_true_eq, decide_eq_false_iff_not] at this ⊢; omega)]; simp)
      go_wp2
      go_ret
      exact ⟨by rw [HR.out]; rfl, KB.out⟩
    | false =>
      cases h3 : decide (65536 < mean) with
      | true =>
        have HR := Lib.hid (show r = false by rw [HK.out, (show decide (1 ≤ least) = true by have := h1; simp only [decide_eq_true_eq, decide_eq_false_iff_not] at this ⊢; omega), (show decide (1 ≤ mean) = true by have := h2; simp only [decide_eq_true_eq, decide_eq_false_iff_not] at this ⊢; omega), (show decide (mean ≤ 65536) = false by have := h3; simp only [decide_eq_true_eq, decide_eq_false_iff_not] at this ⊢; omega)]; simp)
        go_wp2
        go_ret
        exact ⟨by rw [HR.out]; rfl, KB.out⟩
      | false =>
        cases h4 : decide (most < least) with
        | true =>
          have HR := Lib.hid (show r = false by rw [HK.out, (show decide (1 ≤ least) = true by have := h1; simp only [decide_eq_true_eq, decide_eq_false_iff_not] at this ⊢; omega), (show decide (1 ≤ mean) = true by have := h2; simp only [decide_eq_true_eq, decide_eq_false_iff_not] at this ⊢; omega), (show decide (mean ≤ 65536) = true by have := h3; simp only [decide_eq_true_eq, decide_eq_false_iff_not] at this ⊢; omega), (show decide (least ≤ most) = false by have := h4; simp only [decide_eq_true_eq, decide_eq_false_iff_not] at this ⊢; omega)]; simp)
          go_wp2
          go_ret
          exact ⟨by rw [HR.out]; rfl, KB.out⟩
        | false =>
          cases h5 : decide (4096 < most) with
          | true =>
            have HR := Lib.hid (show r = false by rw [HK.out, (show decide (1 ≤ least) = true by have := h1; simp only [decide_eq_true_eq, decide_eq_false_iff_not] at this ⊢; omega), (show decide (1 ≤ mean) = true by have := h2; simp only [decide_eq_true_eq, decide_eq_false_iff_not] at this ⊢; omega), (show decide (mean ≤ 65536) = true by have := h3; simp only [decide_eq_true_eq, decide_eq_false_iff_not] at this ⊢; omega), (show decide (least ≤ most) = true by have := h4; simp only [decide_eq_true_eq, decide_eq_false_iff_not] at this ⊢; omega), (show decide (most ≤ 4096) = false by have := h5; simp only [decide_eq_true_eq, decide_eq_false_iff_not] at this ⊢; omega)]; simp)
            go_wp2
            go_ret
            exact ⟨by rw [HR.out]; rfl, KB.out⟩
          | false =>
            have HR := Lib.hid (show r = true by rw [HK.out, (show decide (1 ≤ least) = true by have := h1; simp only [decide_eq_true_eq, decide_eq_false_iff_not] at this ⊢; omega), (show decide (1 ≤ mean) = true by have := h2; simp only [decide_eq_true_eq, decide_eq_false_iff_not] at this ⊢; omega), (show decide (mean ≤ 65536) = true by have := h3; simp only [decide_eq_true_eq, decide_eq_false_iff_not] at this ⊢; omega), (show decide (least ≤ most) = true by have := h4; simp only [decide_eq_true_eq, decide_eq_false_iff_not] at this ⊢; omega), (show decide (most ≤ 4096) = true by have := h5; simp only [decide_eq_true_eq, decide_eq_false_iff_not] at this ⊢; omega)]; simp)
            go_wp2
            go_ret
            exact ⟨by rw [HR.out]; rfl, KB.out⟩
end Go.Proofs.Ytcjpemkafncihaa
