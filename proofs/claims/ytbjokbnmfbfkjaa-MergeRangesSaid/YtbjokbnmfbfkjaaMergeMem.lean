/- Cursors in memory: what a source of entries keeps to, what a cursor keeps to. -/
import Derived.Test.YtbjokbnmfbfkjaaMergePlain
import Derived.Test.YtbjokbnmfbfkjaaBlockRise
import Derived.Test.YtbjokbnmfbfkjaaRegion
import Derived.Shelf.Abstract
import Derived.Laws.EntriesVeiled
set_option linter.unusedVariables false
set_option maxRecDepth 100000
namespace Go.Proofs.Ytbjokbnmfbfkjaa
open Go.RowKit

theorem lt_of_same {w w' : World} {b : Nat} (h : b < w.heap.size) (k : w'.heap[b]? = w.heap[b]?) : b < w'.heap.size := by
  rcases Nat.lt_or_ge b w'.heap.size with h1 | h1
  · exact h1
  · rw [Array.getElem?_eq_none h1, Array.getElem?_eq_getElem h] at k; cases k
theorem cell_same {w w' : World} {b o : Nat} {v : Value} (h : w.cell? ⟨b, o, none⟩ = some v) (k : w'.heap[b]? = w.heap[b]?) : w'.cell? ⟨b, o, none⟩ = some v := by
  unfold World.cell? at h ⊢
  simp only [k]
  exact h
theorem Only.of_below' {B : Nat} {S : Nat → Prop} {w w' : World} (h : Below B w w') (hB : B = w.heap.size) : Only S w w' := ⟨h.os, h.tape, h.output, h.size, fun k hk _ => h.block k (by omega)⟩
/-- A variable of three cells. -/
def C3 (b : Nat) (ty : TypeId) (v0 v1 v2 : Value) (w : World) : Prop := w.heap[b]? = some (.cells #[v0, v1, v2] ty (0, 0))
namespace C3
variable {b : Nat} {ty : TypeId} {v0 v1 v2 : Value} {w w' : World}
theorem c0 (h : C3 b ty v0 v1 v2 w) : w.cell? ⟨b, 0, none⟩ = some v0 := by unfold C3 at h; simp [World.cell?, h]
theorem c1 (h : C3 b ty v0 v1 v2 w) : w.cell? ⟨b, 1, none⟩ = some v1 := by unfold C3 at h; simp [World.cell?, h]
theorem c2 (h : C3 b ty v0 v1 v2 w) : w.cell? ⟨b, 2, none⟩ = some v2 := by unfold C3 at h; simp [World.cell?, h]
theorem free (h : C3 b ty v0 v1 v2 w) (j : Nat) : w.frozen? ⟨b, j, none⟩ = false := by unfold C3 at h; simp [World.frozen?, h]
theorem below (h : C3 b ty v0 v1 v2 w) (k : Below w.heap.size w w') : C3 b ty v0 v1 v2 w' := (k.block b (heap_lt h)).trans h
theorem only {S : Nat → Prop} (h : C3 b ty v0 v1 v2 w) (k : Only S w w') (hS : ¬ S b) : C3 b ty v0 v1 v2 w' := (k.block b (heap_lt h) hS).trans h
theorem put (h : C3 b ty v0 v1 v2 w) (u0 u1 u2 : Value) : C3 b ty u0 u1 u2 (((w.setCell ⟨b, 0, none⟩ u0).setCell ⟨b, 1, none⟩ u1).setCell ⟨b, 2, none⟩ u2) := by
  have h1 := heap_set (o := 0) h u0
  have h2 := heap_set (o := 1) h1 u1
  exact heap_set (o := 2) h2 u2
theorem put02 (h : C3 b ty v0 v1 v2 w) (u0 u2 : Value) : C3 b ty u0 v1 u2 ((w.setCell ⟨b, 0, none⟩ u0).setCell ⟨b, 2, none⟩ u2) := by
  have h1 := heap_set (o := 0) h u0
  exact heap_set (o := 2) h1 u2
theorem range (h : C3 b ty v0 v1 v2 w) : w.rangeAt b 0 [v0, v1, v2] := fun j v hj => by
  match j, hj with
  | 0, hj => cases hj; exact h.c0
  | 1, hj => cases hj; exact h.c1
  | 2, hj => cases hj; exact h.c2
  | n + 3, hj => cases hj
end C3
theorem set3_drew (w : World) (p q r : Addr) (a b c : Value) : (((w.setCell p a).setCell q b).setCell r c).drew = ((w.drew.setCell p a).setCell q b).setCell r c := by
  simp only [World.drew, World.setCell]
  repeat split
  all_goals first | rfl | simp_all
theorem results_c3b {fn : Func} {p u r : Tmp} {ty ty' : TypeId} (h : fn.results = #[.cell p ty, .tmp u, .tmp r]) (tmps : Array Value) (w : World) (b : Nat) (v0 v1 v2 x y : Value) (d : TypeDesc) (hp : tmps.getD p undef = .pointer (some ⟨b, 0, none⟩)) (hx : tmps.getD u undef = x) (hy : tmps.getD r undef = y) (hc : C3 b ty' v0 v1 v2 w)
    (hu : Try.prog.underlying ty = some d) (hd : d.isRow = true) (hi : (Try.prog.info? ty).map (·.size) = some 3) : (results fn tmps).run Try.prog w = .ok (.tuple #[.agg #[v0, v1, v2], x, y]) w := by
  have hl := run_loadVar_mid w b 0 ty [v0, v1, v2] d hc.range hu hd hi
  have hp' : tmps[p]?.getD undef = .pointer (some ⟨b, 0, none⟩) := by simpa using hp
  have hx' : tmps[u]?.getD undef = x := by simpa using hx
  have hy' : tmps[r]?.getD undef = y := by simpa using hy
  simp only [results, h]
  simp [Sem.run_bind, Result.andThen, hp', hx', hy', asAddr, hl]
theorem sizeEnt : (Try.prog.info? 32).map (·.size) = some 3 := by kernel_rfl
theorem below_put3' {B g : Nat} {a w : World} (h : Below B a w) (hB : B ≤ g) (v0 v1 v2 : Value) : Below B a (((w.setCell ⟨g, 0, none⟩ v0).setCell ⟨g, 1, none⟩ v1).setCell ⟨g, 2, none⟩ v2) :=
  ((h.setCell (p := ⟨g, 0, none⟩) hB v0).setCell (p := ⟨g, 1, none⟩) hB v1).setCell (p := ⟨g, 2, none⟩) hB v2
theorem fn_look (F : Nat) (b c : Array Value) (w : World) : (binOp .eql 47 (.func (.func F) b c) .nilFunc).run Try.prog w = .ok (.bool false) w := by kernel_rfl
theorem fn_drop (F : Nat) (b c : Array Value) (w : World) : (binOp .neq 56 (.func (.func F) b c) .nilFunc).run Try.prog w = .ok (.bool true) w := by kernel_rfl

/-- What tells the next entry of l, or the end's error. -/
inductive Ans : List Ent → Int → Ending → Prop
  | ends (e : Int) : Ans [] e (.returned (.tuple #[.agg #[.string ⟨#[]⟩, .string ⟨#[]⟩, .bool false], .bool false, .int .i64 e]))
  | next (x : Ent) (t : List Ent) (e : Int) : Ans (x :: t) e (.returned (.tuple #[.agg #[.string (bs x.key), .string (bs x.val), .bool x.gone], .bool true, .int .i64 0]))
/-- A key may be passed over: the end, if it has come, is without an error, and what comes next is not below the key. -/
def May (key : List UInt8) (l : List Ent) (e : Int) : Prop := (l = [] → e = 0) ∧ ∀ x, l.head? = some x → ltB x.key key = false
/-- Two functions that look at what comes next, and pass over it: I l e b: l is left, then e; b: it was looked at. -/
structure Src (f1 : Nat) (b1 c1 : Array Value) (f2 : Nat) (b2 c2 : Array Value) (n : Nat) (F : Nat → Prop) (I : List Ent → Int → Bool → World → Prop) : Prop where
  enter1 : Enters Try.prog f1
  enter2 : Enters Try.prog f2
  low : ∀ k, F k → k < n
  size : ∀ l e b w, I l e b w → n ≤ w.heap.size
  keep : ∀ l e b w w', I l e b w → w.heap.size ≤ w'.heap.size → (∀ k, F k → w'.heap[k]? = w.heap[k]?) → I l e b w'
  weak : ∀ l e w, l ≠ [] → I l e true w → I l e false w
  look : ∀ l e b w, I l e b w → (b = true → l ≠ []) → Calls Try.prog f1 (b1 ++ c1) w fun en w' => Ans l e en ∧ I l e true w' ∧ Only F w w'
  drop : ∀ l e w key, I l e true w → May key l e → Calls Try.prog f2 (b2 ++ #[.string (bs key)] ++ c2) w fun en w' => en = .returned (.tuple #[]) ∧ I (passL key l) e l.isEmpty w' ∧ Only F w w'
/-- A cursor. -/
structure Cur (v : Value) (n : Nat) (F : Nat → Prop) (I : List Ent → Int → Bool → World → Prop) : Prop where
  low : ∀ k, F k → k < n
  size : ∀ l e b w, I l e b w → n ≤ w.heap.size
  keep : ∀ l e b w w', I l e b w → w.heap.size ≤ w'.heap.size → (∀ k, F k → w'.heap[k]? = w.heap[k]?) → I l e b w'
  weak : ∀ l e w, I l e true w → I l e false w
  peek : ∀ l e b w, I l e b w → Calls Try.prog 29 #[v] w fun en w' => Ans l e en ∧ I l e true w' ∧ Only F w w'
  pass : ∀ l e w key, I l e true w → May key l e → Calls Try.prog 30 #[v, .string (bs key)] w fun en w' => en = .returned (.tuple #[]) ∧ I (passL key l) e l.isEmpty w' ∧ Only F w w'
/-- It is kept by what writes none of its blocks. -/
theorem Cur.only {v : Value} {n : Nat} {F S : Nat → Prop} {I : List Ent → Int → Bool → World → Prop} (h : Cur v n F I) {l : List Ent} {e : Int} {b : Bool} {w w' : World} (hI : I l e b w) (k : Only S w w') (hS : ∀ k, F k → ¬ S k) : I l e b w' :=
  h.keep _ _ _ _ _ hI k.size fun j hj => k.block j (Nat.lt_of_lt_of_le (h.low j hj) (h.size _ _ _ _ hI)) (hS j hj)
theorem Src.only {f1 : Nat} {b1 c1 : Array Value} {f2 : Nat} {b2 c2 : Array Value} {n : Nat} {F S : Nat → Prop} {I : List Ent → Int → Bool → World → Prop} (h : Src f1 b1 c1 f2 b2 c2 n F I) {l : List Ent} {e : Int} {b : Bool} {w w' : World} (hI : I l e b w) (k : Only S w w') (hS : ∀ k, F k → ¬ S k) : I l e b w' :=
  h.keep _ _ _ _ _ hI k.size fun j hj => k.block j (Nat.lt_of_lt_of_le (h.low j hj) (h.size _ _ _ _ hI)) (hS j hj)
theorem Cur.below {v : Value} {n : Nat} {F : Nat → Prop} {I : List Ent → Int → Bool → World → Prop} (h : Cur v n F I) {l : List Ent} {e : Int} {b : Bool} {w w' : World} (hI : I l e b w) (k : Below w.heap.size w w') : I l e b w' :=
  h.only hI (Only.of_below' (S := fun _ => False) k rfl) fun _ _ h => h
theorem Src.below {f1 : Nat} {b1 c1 : Array Value} {f2 : Nat} {b2 c2 : Array Value} {n : Nat} {F : Nat → Prop} {I : List Ent → Int → Bool → World → Prop} (h : Src f1 b1 c1 f2 b2 c2 n F I) {l : List Ent} {e : Int} {b : Bool} {w w' : World} (hI : I l e b w) (k : Below w.heap.size w w') : I l e b w' :=
  h.only hI (Only.of_below' (S := fun _ => False) k rfl) fun _ _ h => h
/-- What is known of a cursor over such functions. -/
def Over (c n : Nat) (lk dp : Value) (I : List Ent → Int → Bool → World → Prop) (l : List Ent) (e : Int) (b : Bool) (w : World) : Prop :=
  (n ≤ w.heap.size ∧ C3 c 58 lk dp (.int .i64 0) w ∧ I l e b w ∧ (b = true → l ≠ [])) ∨ (n ≤ w.heap.size ∧ C3 c 58 .nilFunc dp (.int .i64 e) w ∧ l = [] ∧ (e = 0 → I [] 0 true w))
end Go.Proofs.Ytbjokbnmfbfkjaa
