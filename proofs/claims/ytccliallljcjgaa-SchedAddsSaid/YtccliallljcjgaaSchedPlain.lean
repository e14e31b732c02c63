/- The document's answer for layer 5, in plain words: tasks as lists of steps over numbered cells and mutexes. -/
import Derived.Test.YtccliallljcjgaaOnly
set_option linter.unusedVariables false
namespace Go.Proofs.Ytccliallljcjgaa
open Go.RowKit

/-- A step. -/
structure INS where
  kind : Int
  cell : Nat
  n : Int
  mutex : Nat
  free : Nat
def INS.vals (x : INS) : Array Value := #[.int .i64 x.kind, .int .i64 (x.cell : Int), .int .i64 x.n, .int .i64 (x.mutex : Int), .int .i64 (x.free : Int)]
/-- A step that is looked at. -/
structure INS.Ok (x : INS) : Prop where
  c : x.cell < 4
  m : x.mutex < 5
  f : x.free < 5
  lo : -1000 < x.n
  hi : x.n < 1000
  k : -9223372036854775808 ≤ x.kind ∧ x.kind ≤ 9223372036854775807
instance : Inhabited INS := ⟨⟨0, 0, 0, 0, 0⟩⟩
/-- A program in a row of memory. -/
def RowI (b off : Nat) (l : List INS) (w : World) : Prop :=
  ∀ k (h : k < l.length), b < w.heap.size ∧ (∀ j, j < 5 → w.cell? ⟨b, off + k * 5 + j, none⟩ = l[k].vals[j]?)
def IsProg (w : World) (B : Nat) (a : Option Addr) (len : Nat) (l : List INS) : Prop :=
  len = l.length ∧ len ≤ 60 ∧ (∀ x ∈ l, x.Ok) ∧ ∃ b off, b < B ∧ (len = 0 ∨ a = some ⟨b, off, none⟩) ∧ RowI b off l w
theorem IsProg.kept {w w' : World} {B : Nat} {a : Option Addr} {len : Nat} {l : List INS} (h : IsProg w B a len l) (hs : w.heap.size ≤ w'.heap.size) (k : ∀ j, j < w.heap.size → j < B → w'.heap[j]? = w.heap[j]?) : IsProg w' B a len l := by
  obtain ⟨h0, h1, h2, b, off, hb, ha, hr⟩ := h
  refine ⟨h0, h1, h2, b, off, hb, ha, fun i hi => ?_⟩
  obtain ⟨r1, r2⟩ := hr i hi
  refine ⟨by omega, fun j hj => ?_⟩
  rw [← r2 j hj]
  unfold World.cell?
  rw [k b r1 hb]

/-- A task: its program's slice, where it is, what it knows, whether it is gone. -/
structure TK where
  a : Option Addr
  cap : Nat
  l : List INS
  at_ : Nat
  known : Int
  gone : Bool
def TK.vals (t : TK) : Array Value := #[.slice t.a t.l.length t.cap, .int .i64 (t.at_ : Int), .int .i64 t.known, .bool t.gone]
instance : Inhabited TK := ⟨⟨none, 0, [], 0, 0, false⟩⟩
structure TK.Ok (w : World) (B : Nat) (t : TK) : Prop where
  p : IsProg w B t.a t.l.length t.l
  at_ : t.at_ ≤ t.l.length
  lo : -9223372036854775808 ≤ t.known
  hi : t.known ≤ 9223372036854775807
/-- The document's world. -/
structure PW where
  ts : List TK
  cells : List Int
  sets : List Int
  held : List Int
  steps : Int
/-- Whether a task may do its next step. -/
def PW.ready (p : PW) (i : Nat) : Bool :=
  let t := p.ts.getD i default
  if t.gone = true ∨ t.l.length ≤ t.at_ then false
  else let m := (t.l.getD t.at_ default).mutex
    if m = 0 then true else decide (p.held.getD (m - 1) 0 < 0)
/-- A step's own doing, on a cell's value, how often it was set, and what the task knows. -/
def wrap (x : Int) : Int := IntKind.i64.wrap x
def doI (x : INS) (v s known : Int) : Int × Int × Int :=
  if x.kind = 1 then (v, s, v)
  else if x.kind = 2 then (wrap (known + x.n), wrap (s + 1), known)
  else if x.kind = 3 then (if v = known then (wrap (known + x.n), wrap (s + 1), 1) else (v, s, 0))
  else (v, s, x.n)
/-- A task does its step. -/
def PW.step (p : PW) (i : Nat) : PW :=
  let t := p.ts.getD i default
  let x := t.l.getD t.at_ default
  let h1 := if 0 < x.mutex then p.held.set (x.mutex - 1) (i : Int) else p.held
  let r := doI x (p.cells.getD x.cell 0) (p.sets.getD x.cell 0) t.known
  let h2 := if 0 < x.free ∧ h1.getD (x.free - 1) 0 = (i : Int) then h1.set (x.free - 1) (-1) else h1
  ⟨p.ts.set i { t with at_ := t.at_ + 1, known := r.2.2 }, p.cells.set x.cell r.1, p.sets.set x.cell r.2.1, h2, p.steps + 1⟩
/-- Who is ready, in order. -/
def PW.all (p : PW) : List Nat := (List.range p.ts.length).filter fun i => p.ready i
/-- The place of n among so many. -/
def place (n : Int) (k : Nat) : Nat := (n % (k : Int)).toNat
/-- A pick. -/
def PW.pick (p : PW) (n : Int) : PW × Int :=
  let l := p.all
  if l.length = 0 then (p, -1) else let i := l.getD (place n l.length) 0; (p.step i, (i : Int))
def PW.start (l : List TK) : PW := ⟨l, [0, 0, 0, 0], [0, 0, 0, 0], [-1, -1, -1, -1], 0⟩
end Go.Proofs.Ytccliallljcjgaa
