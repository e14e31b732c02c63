/- A range over a function that writes blocks of its own between its rounds (a cursor's): the caller's invariant says nothing of those blocks. -/
import Derived.Test.YtbjokbnmfbfkjaaMergePartsWalk
import Derived.Test.YtbjokbnmfbfkjaaRange
import Derived.RangeFuncWrites
set_option linter.unusedVariables false
set_option maxRecDepth 100000
namespace Go.Proofs.Ytbjokbnmfbfkjaa
open Go.RowKit

theorem only_putObj {S : Nat → Prop} (W : World) (l : Nat) (o' : Obj) (hl : S l) : Only S W (W.putObj l o') :=
  (Only.refl S W).grown (grownBy_putObj' W l o') fun j hj => .inl (by injection hj with hj; rw [← hj]; exact hl)
/-- How a round may be left: where it goes on, the function's own state is as it was. -/
def curPost {α : Type} (B : Nat) (Fs : Nat → Prop) (I : List α → World → Prop) (Ix : Code → List α → World → Prop) (xs : List α) (W : World) : Exit → Act → World → Prop
  | .normal, _, W' => KeepsFrom B W W' ∧ Only (fun k => k < B ∧ ¬ Fs k) W W' ∧ I xs W'
  | .ret, _, W' => KeepsFrom B W W' ∧ Ix .ret xs W'
  | .exit id, _, W' => KeepsFrom B W W' ∧ Ix (.exit id) xs W'
  | .goto t, _, W' => KeepsFrom B W W' ∧ Ix (.goto t) xs W'
  | .panic _, _, _ => False
  | .outgrown, _, _ => False
/-- A function that goes through Y: CS k is what it knows of its own blocks behind k rounds. -/
def CurStops {α : Type} (n : Nat) (P : Program) (g : Nat) (lb : Array Value) (encs : α → Array Value) (Fs : Nat → Prop) (CS : Nat → World → Prop) (Y : List α) : Prop :=
  ∀ (l : Nat) (J Jx : List α → World → Prop) (W : World),
    (∀ pre A B, J pre A → Only (fun k => Fs k ∨ W.heap.size ≤ k) A B → J pre B) →
    (∀ pre x W1, J pre W1 → CS (pre.length + 1) W1 → Y[pre.length]? = some x → YieldAt Fence.wide (n - 1) P l (encs x) W1 fun e W' =>
      (e = .returned (.bool true) ∧ J (pre ++ [x]) W' ∧ Only (fun k => k < W.heap.size ∧ ¬ Fs k) W1 W') ∨ (e = .returned (.bool false) ∧ Jx (pre ++ [x]) W')) →
    J [] W → CS 0 W →
    CallsIn Fence.wide n P g (#[.func (.yield l) #[] #[]] ++ lb) W fun e W' => (∃ v, e = .returned v) ∧ ((J Y W' ∧ CS Y.length W') ∨ (∃ pre, Jx pre W'))
section
variable {n : Nat} {P : Program}
theorem wpIn_rangeFunc_cur {α : Type} {g : Operand} {ps : Array Tmp} {assign body : Code} {Q : Exit → Act → World → Prop} {a : Act} {w : World}
    (h1 : 1 ≤ n) {gf : Nat} {lb : Array Value} (hg : a.eval g = .func (.func gf) #[] lb) (eg : ∀ args w, (callFunc gf args).run P w = .ok (.enter gf args) w)
    {encs : α → Array Value} {Fs : Nat → Prop} {CS : Nat → World → Prop} {Y : List α} (hseq : CurStops (n - 1) P gf lb encs Fs CS Y)
    (hF : ∀ k, Fs k → k < w.heap.size) (hCS : ∀ k A B, CS k A → Only (fun j => ¬ Fs j) A B → CS k B) (hps : ∀ x, (encs x).size = ps.size)
    (I : List α → World → Prop) (Ix : Code → List α → World → Prop) (hI : ∀ pre A B, I pre A → Only (fun k => Fs k ∨ w.heap.size ≤ k) A B → I pre B) (hIx : ∀ c pre A B, Ix c pre A → Only (fun k => w.heap.size ≤ k) A B → Ix c pre B) (h0 : I [] w) (hc0 : CS 0 w)
    (At : α → Act → World → Prop) (hAt : ∀ x a' A B, At x a' A → (∀ (k : Nat) (o : Obj), A.heap[k]? = some o → o.isCells = true → B.heap[k]? = some o) → At x a' B)
    (hassign : ∀ (l : Nat) (x : α) (W : World) (K : Act → World → Prop), (∀ a' Wa, At x a' Wa → Only (fun _ => False) W Wa → KeepsFrom w.heap.size W Wa → K a' Wa) →
      assign.wpIn (Fence.wide.inRound l) (n - 1 - 1) P (Exit.then K (fun _ _ _ => False)) { tmps := (ps.zip (encs x)).foldl (fun t (p, v) => t.setIfInBounds p v) a.tmps, defers := [] } W)
    (hbody : ∀ (l : Nat) (pre : List α) (x : α) (a' : Act) (W : World), I pre W → CS (pre.length + 1) W → Y[pre.length]? = some x → At x a' W → body.wpIn (Fence.wide.inRound l) (n - 1 - 1) P (curPost w.heap.size Fs I Ix (pre ++ [x]) W) a' W)
    (hdone : ∀ (D : Nat) (W : World), w.heap.size ≤ D → I Y W → CS Y.length W → W.heap[D]? = some (.deferred (some [])) → Q .normal { a with defers := { target := .collected D, args := #[] } :: a.defers } W)
    (hstop : ∀ (D : Nat) (c : Code) (pre : List α) (W : World), w.heap.size ≤ D → Ix c pre W → W.heap[D]? = some (.deferred (some [])) → c.wpIn Fence.wide n P Q { a with defers := { target := .collected D, args := #[] } :: a.defers } W) :
    (Code.rangeFunc g ps assign body).wpIn Fence.wide n P Q a w := by
  refine wpIn_rangeFunc fun fn hfn => ?_
  obtain ⟨D, hD⟩ : ∃ D, D = w.heap.size := ⟨_, rfl⟩
  obtain ⟨rec, hrec⟩ : ∃ rec : LoopState → Option Code → Loop, rec = fun st pe => { state := st, pending := pe, fn, tmps := a.tmps, params := ps, assign, body, defers := D } := ⟨_, rfl⟩
  obtain ⟨V, hV⟩ : ∃ V, V = (w.alloc (.deferred (some []))).alloc (.loop (rec .ready none)) := ⟨_, rfl⟩
  have hVl : V.heap[D + 1]? = some (.loop (rec .ready none)) := by
    have := World.alloc_heap_new (w.alloc (.deferred (some []))) (.loop (rec .ready none))
    rw [World.size_alloc] at this
    rw [hV, hD]
    exact this
  have hVd : V.heap[D]? = some (.deferred (some [])) := by
    rw [hV, hD]
    exact (Below.heap_alloc _ _ _ (by simp)).trans (World.alloc_heap_new w _)
  have hVs : V.heap.size = D + 2 := by rw [hV, hD]; simp
  have onV : ∀ (S : Nat → Prop), Only S w V := fun S => by rw [hV]; exact ((Only.refl S w).alloc _).alloc _
  have big : ∀ {A B : World}, Only (fun k => Fs k ∨ V.heap.size ≤ k) A B → ∀ (k : Nat) (o : Obj), D ≤ k → k < V.heap.size → A.heap[k]? = some o → B.heap[k]? = some o := fun {A B} h k o hk hlt hA => by
    refine (h.block k (heap_lt hA) fun hh => ?_).trans hA
    rcases hh with hh | hh
    · have := hF k hh; omega
    · omega
  have hnF : ∀ k, w.heap.size ≤ k → ¬ Fs k := fun k h hh => by have := hF k hh; omega
  have hCS' : ∀ k A B, CS k A → Only (fun j => w.heap.size ≤ j) A B → CS k B := fun k A B h o => hCS k A B h (o.mono fun j _ hj => hnF j hj)
  refine ⟨D + 1, [{ target := .collected D, args := #[] }], V, { target := .fn (.func gf) lb, args := #[.func (.yield (D + 1)) #[] #[]] }, V, gf,
    #[.func (.yield (D + 1)) #[] #[]] ++ lb, V, ?_, ?_, fun f' hf' => trivial, ?_, fun _ => h1, ?_⟩
  · rw [hV, hrec, hD]
    exact run_enterLoop_outer _ _ _ _ _
  · simp only [resolve, hg]
    simp [go_sem]
  · simp [invoke, go_sem, eg]
  refine (hseq (D + 1) (fun pre W => I pre W ∧ W.heap[D + 1]? = some (.loop (rec .ready none)) ∧ W.heap[D]? = some (.deferred (some [])))
    (fun pre W => ∃ c, Ix c pre W ∧ W.heap[D + 1]? = some (.loop (rec .done (some c))) ∧ W.heap[D]? = some (.deferred (some []))) V
    (fun pre A B hj hAB => ⟨hI _ _ _ hj.1 (hAB.mono fun k _ hk => hk.imp id fun h => by omega), big hAB _ _ (by omega) (by omega) hj.2.1, big hAB _ _ (by omega) (by omega) hj.2.2⟩)
    ?_ ⟨hI _ _ _ h0 (onV _), hVl, hVd⟩ (hCS' _ _ _ hc0 (onV _))).mono ?_
  · rintro pre x W ⟨hi, hl, hd⟩ hcs hx
    have hy := run_yield (P := P) (args := encs x) hl (by rw [hrec]; exact hps x)
    rw [hrec] at hy
    refine ⟨fn, _, assign, body, hy, roundIn_of_wpIn hfn (hassign _ x W _ fun a' Wa hat hon0 hkf => ?_)⟩
    have hon : Only (fun k => w.heap.size ≤ k) W Wa := hon0.mono fun _ _ h => h.elim
    have hon' : Only (fun k => k < V.heap.size ∧ ¬ Fs k) W Wa := hon0.mono fun _ _ h => h.elim
    have hla := hkf.same _ _ (by omega) hl rfl
    have hda := hkf.same _ _ (by omega) hd rfl
    refine ⟨_, run_beginRound hla (by rw [hrec]), ?_⟩
    obtain ⟨W2, hW2⟩ : ∃ W2, W2 = Wa.putObj (D + 1) (.loop { rec .ready none with state := .busy }) := ⟨_, rfl⟩
    have hl2 : W2.heap[D + 1]? = some (.loop { rec .ready none with state := .busy }) := by rw [hW2]; exact World.putObj_heap_same (heap_lt hla)
    have hd2 : W2.heap[D]? = some (.deferred (some [])) := by rw [hW2]; exact (World.putObj_heap_other (by omega)).trans hda
    have on2 : Only (fun k => w.heap.size ≤ k) W W2 := hon.trans (by rw [hW2]; exact only_putObj _ _ _ (by omega))
    have hat2 : At x a' W2 := hAt _ _ _ _ hat fun k o hk hc => by
      rw [hW2]
      refine (World.putObj_heap_other fun e => ?_).trans hk
      rw [e, hla] at hk
      injection hk with hk
      rw [← hk] at hc
      cases hc
    rw [← hW2]
    refine wpIn_mono (hbody _ pre x a' W2 (hI _ _ _ hi (on2.mono fun _ _ h => .inr h)) (hCS' _ _ _ hcs on2) hx hat2) ?_
    -- the round's end
    have fin : ∀ (jump : Option Code) (W3 : World), KeepsFrom w.heap.size W2 W3 → ∃ W4, W4 = W3.putObj (D + 1) (.loop (rec (if jump.isNone then .ready else .done) jump)) ∧
        (Instr.endRound (D + 1) jump).run P W3 = .ok (.bool jump.isNone) W4 ∧ Only (fun k => w.heap.size ≤ k) W3 W4 ∧ W4.heap[D + 1]? = some (.loop (rec (if jump.isNone then .ready else .done) jump)) ∧ W4.heap[D]? = some (.deferred (some [])) := fun jump W3 hk3 => by
      have hl3 := hk3.same _ _ (by omega) hl2 rfl
      have hr := run_endRound (P := P) jump hl3
      rw [hrec] at hr
      refine ⟨_, rfl, by rw [hrec]; exact hr, only_putObj _ _ _ (by omega), World.putObj_heap_same (heap_lt hl3), (World.putObj_heap_other (by omega)).trans (hk3.same _ _ (by omega) hd2 rfl)⟩
    intro e a3 W3 hp
    cases e with
    | normal =>
      obtain ⟨hk3, hc3, hi3⟩ := hp
      obtain ⟨W4, hW4, hr, on4, hl4, hd4⟩ := fin none W3 hk3
      refine ⟨_, W4, hr, .inl ⟨rfl, ⟨hI _ _ _ hi3 (on4.mono fun _ _ h => .inr h), hl4, hd4⟩, ?_⟩⟩
      have hput : ∀ (X : World) (o : Obj), Only (fun k => k < V.heap.size ∧ ¬ Fs k) X (X.putObj (D + 1) o) := fun X o => only_putObj _ _ _ ⟨by omega, hnF _ (by omega)⟩
      rw [hW4]
      refine ((hon'.trans ?_).trans (hc3.mono fun k _ hk => ⟨by omega, hk.2⟩)).trans (hput _ _)
      rw [hW2]
      exact hput _ _
    | ret =>
      obtain ⟨W4, -, hr, on4, hl4, hd4⟩ := fin (some .ret) W3 hp.1
      exact ⟨_, W4, hr, .inr ⟨rfl, .ret, hIx _ _ _ _ hp.2 on4, hl4, hd4⟩⟩
    | exit id =>
      obtain ⟨W4, -, hr, on4, hl4, hd4⟩ := fin (some (.exit id)) W3 hp.1
      exact ⟨_, W4, hr, .inr ⟨rfl, .exit id, hIx _ _ _ _ hp.2 on4, hl4, hd4⟩⟩
    | goto t =>
      obtain ⟨W4, -, hr, on4, hl4, hd4⟩ := fin (some (.goto t)) W3 hp.1
      exact ⟨_, W4, hr, .inr ⟨rfl, .goto t, hIx _ _ _ _ hp.2 on4, hl4, hd4⟩⟩
    | panic ch => exact hp.elim
    | outgrown => exact hp.elim
  · rintro e W2 ⟨⟨v, rfl⟩, ⟨⟨hi, hl, hd⟩, hcs⟩ | ⟨pre, c, hi, hl, hd⟩⟩
    · refine ⟨none, _, by have := run_endLoop (P := P) hl (by rw [hrec]; simp); rw [hrec] at this; exact this, ?_⟩
      exact hdone D _ (by omega) (hI _ _ _ hi (only_putObj _ _ _ (.inr (by omega)))) (hCS' _ _ _ hcs (only_putObj _ _ _ (by omega))) ((World.putObj_heap_other (by omega)).trans hd)
    · refine ⟨some c, _, by have := run_endLoop (P := P) hl (by rw [hrec]; simp); rw [hrec] at this; exact this, ?_⟩
      exact hstop D c pre _ (by omega) (hIx _ _ _ _ hi (only_putObj _ _ _ (by omega))) ((World.putObj_heap_other (by omega)).trans hd)
end
end Go.Proofs.Ytbjokbnmfbfkjaa
