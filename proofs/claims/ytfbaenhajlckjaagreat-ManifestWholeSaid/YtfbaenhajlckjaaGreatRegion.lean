/- Arrays by value, whole loads and stores, regions that draw their order: what all layers share. -/
import Derived.Test.YtfbaenhajlckjaaGreatBase
import Derived.Laws.Rows
import Derived.Deep.MidRow
import Derived.Deep.RegionHeld3
set_option linter.unusedVariables false
set_option maxRecDepth 100000
namespace Go.Proofs.YtfbaenhajlckjaaGreat
open Go.RowKit

theorem Below.frozen {B : Nat} {w w' : World} (k : Below B w w') {b : Nat} (hb : b < B) (j : Nat) : w'.frozen? ⟨b, j, none⟩ = w.frozen? ⟨b, j, none⟩ := by
  unfold World.frozen?
  rw [k.block b hb]
theorem below_setCells {B b : Nat} {a : World} (hB : B ≤ b) : ∀ (vs : List Value) (o : Nat) {w : World}, Below B a w → Below B a (w.setCells b o vs)
  | [], _, _, h => h
  | v :: vs, o, _, h => below_setCells hB vs (o + 1) (h.setCell (p := ⟨b, o, none⟩) hB v)
theorem results_cell1 {fn : Func} {p : Tmp} {ty : TypeId} (h : fn.results = #[.cell p ty]) (tmps : Array Value) (P : Program) (w : World) (b o : Nat) (cs : List Value) (d : TypeDesc) (hp : tmps.getD p undef = .pointer (some ⟨b, o, none⟩)) (hc : w.rangeAt b o cs)
    (hu : P.underlying ty = some d) (hd : d.isRow = true) (hi : (P.info? ty).map (·.size) = some cs.length) :
    (results fn tmps).run P w = .ok (.agg cs.toArray) w := by
  have hl := run_loadVar_mid w b o ty cs d hc hu hd hi
  have hp' : tmps[p]?.getD undef = .pointer (some ⟨b, o, none⟩) := by simpa using hp
  simp only [results, h]
  simp [Sem.run_bind, Result.andThen, hp', asAddr, hl]
/-- An array by value, at a place within it. -/
theorem run_index_arr (t e : TypeId) (n : Nat) (cs : Array Value) (i : Nat) (v : Value) (hu : Tryz.prog.underlying t = some (.array n e)) (ha : ∀ w, (isAgg e).run Tryz.prog w = .ok false w) (hs : ∀ w, (Go.sizeOf e).run Tryz.prog w = .ok 1 w) (hi : i < n) (hc : cs[i]? = some v) (w : World) :
    (Instr.index t (.agg cs) (.int .i64 (i : Int))).run Tryz.prog w = .ok v w := by
  have h1 : (0 : Int) ≤ (i : Int) ∧ (i : Int) < (n : Int) := by omega
  simp [Instr.index, run_underlying hu, asIntOf, h1, part, ha, hs, hc, go_sem]
  omega
theorem rangeAt_below {b o B : Nat} {cs : List Value} {w w' : World} (h : w.rangeAt b o cs) (k : Below B w w') (hb : b < B) : w'.rangeAt b o cs := by
  intro j v hj
  rw [k.cell hb]
  exact h j v hj

theorem results_arr {fn : Func} {p : Tmp} {ty : TypeId} (h : fn.results = #[.cell p ty]) (tmps : Array Value) (P : Program) (w : World) (b : Nat) (cs : Array Value) (d : TypeDesc) (hp : tmps.getD p undef = .pointer (some ⟨b, 0, none⟩)) (hc : w.there b 0 cs.size)
    (hu : P.underlying ty = some d) (hd : d.isRow = true) (hi : (P.info? ty).map (·.size) = some cs.toList.length) :
    (results fn tmps).run P (w.setCells b 0 cs.toList) = .ok (.agg cs) (w.setCells b 0 cs.toList) := by
  have := results_cell1 h tmps P (w.setCells b 0 cs.toList) b 0 cs.toList d hp (World.rangeAt_setCells_same w b 0 _ (by simpa using hc)) hu hd hi
  simpa using this

theorem seen_of {P : Program} {F : FuncId} {args : Array Value} {r : Value} (h : ∀ w, Calls P F args w fun e w' => e = .returned r ∧ Below w.heap.size w w') (W : World) (n : Seen W) : Calls P F args n.val fun e w'' => e = .returned r ∧ ∃ m : Seen W, w'' = m.val :=
  (h n.val).mono fun _ w'' ⟨h1, h2⟩ => ⟨h1, ⟨⟨w'', n.below.trans (h2.mono n.below.size)⟩, rfl⟩⟩
theorem held_of {P : Program} {F : FuncId} {args : Array Value} {r : Value} (h : ∀ w, Calls P F args w fun e w' => e = .returned r ∧ Below w.heap.size w w') (W w : World) (k : Below W.heap.size W w) : Calls P F args w fun e w'' => e = .returned r ∧ Below W.heap.size W w'' :=
  (h w).mono fun _ w'' ⟨h1, h2⟩ => ⟨h1, k.trans (h2.mono k.size)⟩
/-- A whole array that is loaded in a region that writes nothing that was there. -/
theorem quiet_load_mid {P : Program} {o : Oper} {a : Act} {C : World → Prop} {K : Act → Prop} (ty : TypeId) (x : Operand) (ho : o.op = .load ty x) (b off : Nat) (hx : a.eval x = .pointer (some ⟨b, off, none⟩)) (cs : List Value) (d : TypeDesc) (hS : ∀ w, C w → w.rangeAt b off cs)
    (hu : P.underlying ty = some d) (hd : d.isRow = true) (hi : (P.info? ty).map (·.size) = some cs.length) (hk : K (a.put o.dst (.agg cs.toArray))) : o.quiet P a C K :=
  ⟨_, fun w hw => by
    unfold Oper.quietAt execOp
    simp only [ho, hx, Instr.loadAt, Instr.sureAddr, Sem.run_bind, Sem.run_pure, Result.andThen_ok, run_loadVar_mid w b off ty cs d (hS w hw) hu hd hi]
    exact ⟨rfl, rfl⟩, hk⟩
theorem quiet_load_arr {P : Program} {o : Oper} {a : Act} {C : World → Prop} {K : Act → Prop} (ty : TypeId) (x : Operand) (ho : o.op = .load ty x) (b off : Nat) (hx : a.eval x = .pointer (some ⟨b, off, none⟩)) (cs : Array Value) (d : TypeDesc) (hS : ∀ w, C w → w.rangeAt b off cs.toList)
    (hu : P.underlying ty = some d) (hd : d.isRow = true) (hi : (P.info? ty).map (·.size) = some cs.toList.length) (hk : K (a.put o.dst (.agg cs))) : o.quiet P a C K :=
  quiet_load_mid ty x ho b off hx cs.toList d hS hu hd hi (by simpa using hk)
theorem seen_range {W W' : World} {b : Nat} {cs : List Value} (h : ∀ m, Below W.heap.size W m → m.rangeAt b 0 cs) (k : Below W.heap.size W W') : ∀ w, (∃ n : Seen W', w = n.val) → w.rangeAt b 0 cs := by
  rintro _ ⟨n, rfl⟩
  exact h n.val (k.trans (n.below.mono k.size))
/-- A whole array that is loaded behind a guard. -/
theorem wpList_load_arr {P : Program} {ops : Array Oper} {rest : List Oper} {op : Oper} {a : Act} {w : World} {Q : Exit → Act → World → Prop} (hw : Region.wanted op (yielded ops a.tmps) = true) (ty : TypeId) (x : Operand) (ho : op.op = .load ty x)
    (b o : Nat) (hx : a.eval x = .pointer (some ⟨b, o, none⟩)) (cs : Array Value) (d : TypeDesc) (hc : w.rangeAt b o cs.toList)
    (hu : P.underlying ty = some d) (hd : d.isRow = true) (hi : (P.info? ty).map (·.size) = some cs.toList.length)
    (h : wpList P ops Q rest (a.put op.dst (.agg cs)) w) : wpList P ops Q (op :: rest) a w :=
  wpList_step fun _ hK => by
    rw [if_pos hw]
    exact wp_load_mid ty x ho b o hx cs.toList d hc hu hd hi (hK _ _ (by simpa using h))
/-- A region that draws its order, gone through by hand: an operation that may come first, its slot named. -/
theorem held_take {P : Program} {md : Region.Mode} {ops : Array Oper} {Q : Exit → Act → World → Prop} {S : World → Prop} {fuel : Nat} {listed : Array Bool} {a : Act} {w : World} (i d : Nat) {oi : Oper} {v : Value} (hi : ops[i]? = some oi) (hd : oi.dst = some d)
    (hs : Region.noSelect ops = true) (hf : Region.free md ops listed i = true) (hr : (Region.ready md ops listed).contains i = true)
    (hQ : ∀ c a w, Q (.panic c) (a.put oi.dst v) w → Q (.panic c) a w) (hy : YieldsIf P ops S oi v a) (hS : S w)
    (h : wpAnyH P md ops Q S fuel (listed.setIfInBounds i true) (a.put (some d) v) w) : wpAnyH P md ops Q S (fuel + 1) listed a w :=
  wpAnyH_take hi hs hf hr hQ hy hS (by rw [hd]; exact h)
theorem seen_at {W : World} {b : Nat} {cs : List Value} (h : W.rangeAt b 0 cs) (hb : b < W.heap.size) : ∀ w, (∃ n : Seen W, w = n.val) → w.rangeAt b 0 cs := by
  rintro _ ⟨n, rfl⟩
  exact rangeAt_below h n.below hb
end Go.Proofs.YtfbaenhajlckjaaGreat
