/- A range over a function that keeps blocks of its own between its rounds, while each round writes some of the caller's own, which may change as rounds go on: none of the one's are ever of the other's. -/
import Derived.Test.YtbmihajbdobgbaaRange
set_option linter.unusedVariables false
set_option maxRecDepth 100000
namespace Go.Proofs.Ytbmihajbdobgbaa
open Go.RowKit

theorem Only.grown2 {S : Nat → Prop} {a w w' : World} {row : Option Nat} (h : Only S a w) (hg : w.grownBy w' row) (hr : ∀ k, row = some k → a.heap.size ≤ k ∨ S k) : Only S a w' :=
  ⟨hg.os.trans h.os, hg.tape.trans h.tape, hg.output.trans h.output, Nat.le_trans h.size hg.size, fun k hk hs => (hg.block k (Nat.lt_of_lt_of_le hk h.size) (fun e => by rcases hr k e.symm with h | h; (omega); (exact hs h))).trans (h.block k hk hs)⟩
theorem only_putObj {S : Nat → Prop} (W : World) (l : Nat) (o' : Obj) (hl : S l) : Only S W (W.putObj l o') :=
  (Only.refl S W).grown2 (grownBy_putObj' W l o') fun j hj => .inr (by injection hj with hj; rw [← hj]; exact hl)
/-- How a round may be left: where it goes on, it wrote the caller's own blocks alone. -/
def sepPost {α : Type} (Kp : World → World → Prop) (S : Nat → Prop) (I : List α → (Nat → Prop) → World → Prop) (Ix : List α → World → Prop) (xs : List α) (W : World) : Exit → Act → World → Prop
  | .normal, _, W' => Only S W W' ∧ Kp W W' ∧ ∃ S', (∀ k, S' k → (S k ∨ W.heap.size ≤ k) ∧ k < W'.heap.size) ∧ I xs S' W'
  | .ret, _, W' => Only S W W' ∧ Ix xs W'
  | _, _, _ => False
/-- A function that goes through Y; its own blocks are new, and none of the caller's. -/
def SepStops {α : Type} (Kp : World → World → Prop) (n : Nat) (P : Program) (g : Nat) (lb : Array Value) (encs : α → Array Value) (CS : World → Prop) (Y : List α) : Prop :=
  ∀ (l : Nat) (J : List α → (Nat → Prop) → World → Prop) (Jx : List α → World → Prop) (W : World) (S0 : Nat → Prop),
    (∀ pre S A B Sx, J pre S A → Only Sx A B → Kp A B → (∀ k, Sx k → W.heap.size ≤ k ∧ ¬ S k) → J pre S B) →
    (∀ pre S x W1, J pre S W1 → Y[pre.length]? = some x → YieldAt Fence.wide (n - 1) P l (encs x) W1 fun e W' =>
      (e = .returned (.bool true) ∧ Only (fun k => S k ∨ k < W.heap.size) W1 W' ∧ Kp W1 W' ∧ ∃ S', (∀ k, S' k → (S k ∨ W1.heap.size ≤ k) ∧ k < W'.heap.size) ∧ J (pre ++ [x]) S' W') ∨ (e = .returned (.bool false) ∧ Jx (pre ++ [x]) W')) →
    J [] S0 W → (∀ k, S0 k → k < W.heap.size) → CS W →
    CallsIn Fence.wide n P g (#[.func (.yield l) #[] #[]] ++ lb) W fun e W' => (∃ v, e = .returned v) ∧ ((∃ S', J Y S' W') ∨ (∃ pre, Jx pre W'))
section
variable {n : Nat} {P : Program}
theorem wpIn_rangeFunc_sep {α : Type} {g : Operand} {ps : Array Tmp} {assign body : Code} {Q : Exit → Act → World → Prop} {a : Act} {w : World}
    (h1 : 1 ≤ n) {gf : Nat} {lb : Array Value} (hg : a.eval g = .func (.func gf) #[] lb) (eg : ∀ args w, (callFunc gf args).run P w = .ok (.enter gf args) w)
    {encs : α → Array Value} {CS : World → Prop} {Y : List α} {Kp : World → World → Prop} (hKt : ∀ A B C, Kp A B → Kp B C → Kp A C) (hKo : ∀ (A : World) (l : Nat) (r r' : Loop), A.heap[l]? = some (.loop r) → Kp A (A.putObj l (.loop r'))) (hKa : ∀ (A : World) (o : Obj), Kp A (A.alloc o)) (hseq : SepStops Kp (n - 1) P gf lb encs CS Y)
    (hCS : ∀ A B, CS A → Only (fun j => w.heap.size ≤ j) A B → CS B) (hps : ∀ x, (encs x).size = ps.size)
    (I : List α → (Nat → Prop) → World → Prop) (Ix : List α → World → Prop) (S0 : Nat → Prop) (hS0 : ∀ k, S0 k → k < w.heap.size)
    (hI : ∀ pre S A B Sx, I pre S A → Only Sx A B → Kp A B → (∀ k, Sx k → w.heap.size ≤ k ∧ ¬ S k) → I pre S B) (hIx : ∀ pre A B, Ix pre A → Only (fun k => w.heap.size ≤ k) A B → Ix pre B) (h0 : I [] S0 w) (hc0 : CS w)
    (a₁ : α → Act)
    (hassign : ∀ (l : Nat) (x : α) (W : World) (K : Act → World → Prop), K (a₁ x) W → assign.wpIn (Fence.wide.inRound l) (n - 1 - 1) P (Exit.then K (fun _ _ _ => False)) { tmps := (ps.zip (encs x)).foldl (fun t (p, v) => t.setIfInBounds p v) a.tmps, defers := [] } W)
    (hbody : ∀ (l : Nat) (pre : List α) (S : Nat → Prop) (x : α) (W : World), I pre S W → Y[pre.length]? = some x → body.wpIn (Fence.wide.inRound l) (n - 1 - 1) P (sepPost Kp S I Ix (pre ++ [x]) W) (a₁ x) W)
    (hdone : ∀ (D : Nat) (S : Nat → Prop) (W : World), w.heap.size ≤ D → I Y S W → W.heap[D]? = some (.deferred (some [])) → (∀ k, S k → k ≠ D) → Q .normal { a with defers := { target := .collected D, args := #[] } :: a.defers } W)
    (hstop : ∀ (D : Nat) (pre : List α) (W : World), w.heap.size ≤ D → Ix pre W → W.heap[D]? = some (.deferred (some [])) → Code.ret.wpIn Fence.wide n P Q { a with defers := { target := .collected D, args := #[] } :: a.defers } W) :
    (Code.rangeFunc g ps assign body).wpIn Fence.wide n P Q a w := by
  refine wpIn_rangeFunc fun fn hfn => ?_
  obtain ⟨D, hD⟩ : ∃ D, D = w.heap.size := ⟨_, rfl⟩
  obtain ⟨rec, hrec⟩ : ∃ rec : LoopState → Option Code → Loop, rec = fun st pe => { state := st, pending := pe, fn, tmps := a.tmps, params := ps, assign, body, defers := D } := ⟨_, rfl⟩
  obtain ⟨V, hV⟩ : ∃ V, V = (w.alloc (.deferred (some []))).alloc (.loop (rec .ready none)) := ⟨_, rfl⟩
  have hVl : V.heap[D + 1]? = some (.loop (rec .ready none)) := by
    have := World.alloc_heap_new (w.alloc (.deferred (some []))) (.loop (rec .ready none))
    rw [World.size_alloc] at this
    rw [hV, hD]
    exact this
  have hVd : V.heap[D]? = some (.deferred (some [])) := by
    rw [hV, hD]
    exact (Below.heap_alloc _ _ _ (by simp)).trans (World.alloc_heap_new w _)
  have hVs : V.heap.size = D + 2 := by rw [hV, hD]; simp
  have onV : ∀ (S : Nat → Prop), Only S w V := fun S => by rw [hV]; exact ((Only.refl S w).alloc _).alloc _
  refine ⟨D + 1, [{ target := .collected D, args := #[] }], V, { target := .fn (.func gf) lb, args := #[.func (.yield (D + 1)) #[] #[]] }, V, gf,
    #[.func (.yield (D + 1)) #[] #[]] ++ lb, V, ?_, ?_, fun f' hf' => trivial, ?_, fun _ => h1, ?_⟩
  · rw [hV, hrec, hD]
    exact run_enterLoop_outer _ _ _ _ _
  · simp only [resolve, hg]
    simp [go_sem]
  · simp [invoke, go_sem, eg]
  refine (hseq (D + 1) (fun pre S W => I pre S W ∧ (∀ k, S k → k ≠ D ∧ k ≠ D + 1) ∧ W.heap[D + 1]? = some (.loop (rec .ready none)) ∧ W.heap[D]? = some (.deferred (some [])))
    (fun pre W => Ix pre W ∧ W.heap[D + 1]? = some (.loop (rec .done (some .ret))) ∧ W.heap[D]? = some (.deferred (some []))) V S0
    (fun pre S A B Sx hj hAB hkp hd => ⟨hI _ _ _ _ _ hj.1 hAB hkp fun k hk => ⟨by have := (hd k hk).1; omega, (hd k hk).2⟩, hj.2.1, (hAB.block _ (heap_lt hj.2.2.1) fun hh => by have := (hd _ hh).1; omega).trans hj.2.2.1, (hAB.block _ (heap_lt hj.2.2.2) fun hh => by have := (hd _ hh).1; omega).trans hj.2.2.2⟩)
    ?_ ⟨hI _ _ _ _ (fun _ => False) h0 (onV _) (by rw [hV]; exact hKt _ _ _ (hKa _ _) (hKa _ _)) (fun _ h => h.elim), fun k hk => by have := hS0 k hk; omega, hVl, hVd⟩ (fun k hk => by have := hS0 k hk; omega) (hCS _ _ hc0 (onV _))).mono ?_
  · rintro pre S x W ⟨hi, hsd, hl, hd⟩ hx
    have hy := run_yield (P := P) (args := encs x) hl (by rw [hrec]; exact hps x)
    rw [hrec] at hy
    refine ⟨fn, _, assign, body, hy, roundIn_of_wpIn hfn (hassign _ x W _ ?_)⟩
    refine ⟨_, run_beginRound hl (by rw [hrec]), ?_⟩
    obtain ⟨W2, hW2⟩ : ∃ W2, W2 = W.putObj (D + 1) (.loop { rec .ready none with state := .busy }) := ⟨_, rfl⟩
    have hl2 : W2.heap[D + 1]? = some (.loop { rec .ready none with state := .busy }) := by rw [hW2]; exact World.putObj_heap_same (heap_lt hl)
    have hd2 : W2.heap[D]? = some (.deferred (some [])) := by rw [hW2]; exact (World.putObj_heap_other (by omega)).trans hd
    have on2 : Only (fun k => k = D + 1) W W2 := by rw [hW2]; exact only_putObj _ _ _ rfl
    have hkp2 : Kp W W2 := by rw [hW2]; exact hKo _ _ _ _ hl
    have hi2 : I pre S W2 := hI _ _ _ _ _ hi on2 hkp2 fun k hk => ⟨by omega, fun hs => (hsd k hs).2 hk⟩
    have hsz2 : W2.heap.size = W.heap.size := by
      have h1 := on2.size
      have h2 : W2.heap.size ≤ W.heap.size := by rw [hW2]; simp [World.putObj]
      omega
    rw [← hW2]
    refine wpIn_mono (hbody _ pre S x W2 hi2 hx) ?_
    have fin : ∀ (jump : Option Code) (W3 : World), Only S W2 W3 → ∃ W4, W4 = W3.putObj (D + 1) (.loop (rec (if jump.isNone then .ready else .done) jump)) ∧
        (Instr.endRound (D + 1) jump).run P W3 = .ok (.bool jump.isNone) W4 ∧ Only (fun k => k = D + 1) W3 W4 ∧ W4.heap[D + 1]? = some (.loop (rec (if jump.isNone then .ready else .done) jump)) ∧ W4.heap[D]? = some (.deferred (some [])) := fun jump W3 hk3 => by
      have hl3 := (hk3.block _ (heap_lt hl2) fun h => (hsd _ h).2 rfl).trans hl2
      have hd3 := (hk3.block _ (heap_lt hd2) fun h => (hsd _ h).1 rfl).trans hd2
      have hr := run_endRound (P := P) jump hl3
      rw [hrec] at hr
      refine ⟨_, rfl, by rw [hrec]; exact hr, only_putObj _ _ _ rfl, World.putObj_heap_same (heap_lt hl3), (World.putObj_heap_other (by omega)).trans hd3⟩
    intro e a3 W3 hp
    cases e with
    | normal =>
      obtain ⟨ho3, hk3, S', hS', hi3⟩ := hp
      obtain ⟨W4, hW4, hr, on4, hl4, hd4⟩ := fin none W3 ho3
      have hsd' : ∀ k, S' k → k ≠ D ∧ k ≠ D + 1 := fun k hk => by
        rcases (hS' k hk).1 with h | h
        · exact hsd k h
        · have := heap_lt hl2; omega
      have hl3 := (ho3.block _ (heap_lt hl2) fun h => (hsd _ h).2 rfl).trans hl2
      have hkp4 : Kp W3 W4 := by rw [hW4]; exact hKo _ _ _ _ hl3
      refine ⟨_, W4, hr, .inl ⟨rfl, ?_, hKt _ _ _ (hKt _ _ _ hkp2 hk3) hkp4, S', fun k hk => ⟨by rcases (hS' k hk).1 with h | h; exact .inl h; exact .inr (by omega), Nat.lt_of_lt_of_le (hS' k hk).2 on4.size⟩, hI _ _ _ _ _ hi3 on4 hkp4 fun k hk => ⟨by omega, fun hs => (hsd' k hs).2 hk⟩, hsd', hl4, hd4⟩⟩
      exact ((on2.mono fun k _ hk => .inr (by omega)).trans (ho3.mono fun k _ hk => .inl hk)).trans (on4.mono fun k _ hk => .inr (by omega))
    | ret =>
      obtain ⟨W4, -, hr, on4, hl4, hd4⟩ := fin (some .ret) W3 hp.1
      exact ⟨_, W4, hr, .inr ⟨rfl, hIx _ _ _ hp.2 (on4.mono fun k _ hk => by omega), hl4, hd4⟩⟩
    | exit id => exact hp.elim
    | goto t => exact hp.elim
    | panic ch => exact hp.elim
    | outgrown => exact hp.elim
  · rintro e W2 ⟨⟨v, rfl⟩, ⟨S', hi, hsd, hl, hd⟩ | ⟨pre, hi, hl, hd⟩⟩
    · refine ⟨none, _, by have := run_endLoop (P := P) hl (by rw [hrec]; simp); rw [hrec] at this; exact this, ?_⟩
      exact hdone D S' _ (by omega) (hI _ _ _ _ (fun k => k = D + 1) hi (only_putObj _ _ _ rfl) (hKo _ _ _ _ hl) fun k hk => ⟨by omega, fun hs => (hsd k hs).2 hk⟩) ((World.putObj_heap_other (by omega)).trans hd) (fun k hk => (hsd k hk).1)
    · refine ⟨some .ret, _, by have := run_endLoop (P := P) hl (by rw [hrec]; simp); rw [hrec] at this; exact this, ?_⟩
      exact hstop D pre _ (by omega) (hIx _ _ _ hi (only_putObj _ _ _ (by omega))) ((World.putObj_heap_other (by omega)).trans hd)
/-- The same, where the loop's left sides are set by F. -/
theorem wpIn_rangeFunc_sepF {α : Type} {g : Operand} {ps : Array Tmp} {assign body : Code} {Q : Exit → Act → World → Prop} {a : Act} {w : World}
    (h1 : 1 ≤ n) {gf : Nat} {lb : Array Value} (hg : a.eval g = .func (.func gf) #[] lb) (eg : ∀ args w, (callFunc gf args).run P w = .ok (.enter gf args) w)
    {encs : α → Array Value} {CS : World → Prop} {Y : List α} {Kp : World → World → Prop} (hKt : ∀ A B C, Kp A B → Kp B C → Kp A C) (hKo : ∀ (A : World) (l : Nat) (r r' : Loop), A.heap[l]? = some (.loop r) → Kp A (A.putObj l (.loop r'))) (hKa : ∀ (A : World) (o : Obj), Kp A (A.alloc o)) (hseq : SepStops Kp (n - 1) P gf lb encs CS Y)
    (hCS : ∀ A B, CS A → Only (fun j => w.heap.size ≤ j) A B → CS B) (hps : ∀ x, (encs x).size = ps.size)
    (I : List α → (Nat → Prop) → World → Prop) (Ix : List α → World → Prop) (S0 : Nat → Prop) (hS0 : ∀ k, S0 k → k < w.heap.size)
    (hI : ∀ pre S A B Sx, I pre S A → Only Sx A B → Kp A B → (∀ k, Sx k → w.heap.size ≤ k ∧ ¬ S k) → I pre S B) (hIx : ∀ pre A B, Ix pre A → Only (fun k => w.heap.size ≤ k) A B → Ix pre B) (h0 : I [] S0 w) (hc0 : CS w)
    (F : Array Value → α → Array Value)
    (hassign : ∀ (l : Nat) (x : α) (W : World) (K : Act → World → Prop), K { tmps := F ((ps.zip (encs x)).foldl (fun t (p, v) => t.setIfInBounds p v) a.tmps) x, defers := [] } W → assign.wpIn (Fence.wide.inRound l) (n - 1 - 1) P (Exit.then K (fun _ _ _ => False)) { tmps := (ps.zip (encs x)).foldl (fun t (p, v) => t.setIfInBounds p v) a.tmps, defers := [] } W)
    (hbody : ∀ (l : Nat) (pre : List α) (S : Nat → Prop) (x : α) (W : World), I pre S W → Y[pre.length]? = some x → body.wpIn (Fence.wide.inRound l) (n - 1 - 1) P (sepPost Kp S I Ix (pre ++ [x]) W) { tmps := F ((ps.zip (encs x)).foldl (fun t (p, v) => t.setIfInBounds p v) a.tmps) x, defers := [] } W)
    (hdone : ∀ (D : Nat) (S : Nat → Prop) (W : World), w.heap.size ≤ D → I Y S W → W.heap[D]? = some (.deferred (some [])) → (∀ k, S k → k ≠ D) → Q .normal { a with defers := { target := .collected D, args := #[] } :: a.defers } W)
    (hstop : ∀ (D : Nat) (pre : List α) (W : World), w.heap.size ≤ D → Ix pre W → W.heap[D]? = some (.deferred (some [])) → Code.ret.wpIn Fence.wide n P Q { a with defers := { target := .collected D, args := #[] } :: a.defers } W) :
    (Code.rangeFunc g ps assign body).wpIn Fence.wide n P Q a w :=
  wpIn_rangeFunc_sep h1 hg eg hKt hKo hKa hseq hCS hps I Ix S0 hS0 hI hIx h0 hc0 (fun x => { tmps := F ((ps.zip (encs x)).foldl (fun t (p, v) => t.setIfInBounds p v) a.tmps) x, defers := [] }) hassign hbody hdone hstop
end
end Go.Proofs.Ytbmihajbdobgbaa
