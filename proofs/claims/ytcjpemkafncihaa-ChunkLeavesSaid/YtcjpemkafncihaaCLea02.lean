/- Texts put together: MemRange, ChunkRange, ChunkCutter, ChunkPass, ChunkEndsPlain -/
import Derived.Test.YtcjpemkafncihaaCLea01
import Derived.RegionTactic
import Derived.Test.YtcjpemkafncihaaCLea00
/- A range over a function that keeps blocks of its own between its rounds, while each round writes some of the caller's own, which may change as rounds go on: none of the one's are ever of the other's. -/
set_option linter.unusedVariables false
set_option maxRecDepth 100000
set_option maxRecDepth 100000
namespace Go.Proofs.Ytcjpemkafncihaa
open Go.RowKit

theorem Only.grown2 {S : Nat → Prop} {a w w' : World} {row : Option Nat} (h : Only S a w) (hg : w.grownBy w' row) (hr : ∀ k, row = some k → a.heap.size ≤ k ∨ S k) : Only S a w' :=
  ⟨hg.os.trans h.os, hg.tape.trans h.tape, hg.output.trans h.output, Nat.le_trans h.size hg.size, fun k hk hs => (hg.block k (Nat.lt_of_lt_of_le hk h.size) (fun e => by rcases hr k e.symm with h | h; (omega); (exact hs h))).trans (h.block k hk hs)⟩
theorem only_putObj {S : Nat → Prop} (W : World) (l : Nat) (o' : Obj) (hl : S l) : Only S W (W.putObj l o') :=
  (Only.refl S W).grown2 (grownBy_putObj' W l o') fun j hj => .inr (by injection hj with hj; rw [← hj]; exact hl)
/-- How a round may be left: where it goes on, it wrote the caller's own blocks alone. -/
def sepPost {α : Type} (Kp : World → World → Prop) (S : Nat → Prop) (I : List α → (Nat → Prop) → World → Prop) (Ix : List α → World → Prop) (xs : List α) (W : World) : Exit → Act → World → Prop
  | .normal, _, W' => Only S W W' ∧ Kp W W' ∧ ∃ S', (∀ k, S' k → (S k ∨ W.heap.size ≤ k) ∧ k < W'.heap.size) ∧ I xs S' W'
  | .ret, _, W' => Only S W W' ∧ Ix xs W'
  | _, _, _ => False
/-- A function that goes through Y; its own blocks are new, and none of the caller's. -/
def SepStops {α : Type} (Kp : World → World → Prop) (n : Nat) (P : Program) (g : Nat) (lb : Array Value) (encs : α → Array Value) (CS : World → Prop) (Y : List α) : Prop :=
  ∀ (l : Nat) (J : List α → (Nat → Prop) → World → Prop) (Jx : List α → World → Prop) (W : World) (S0 : Nat → Prop),
    (∀ pre S A B Sx, J pre S A → Only Sx A B → Kp A B → (∀ k, Sx k → W.heap.size ≤ k ∧ ¬ S k) → J pre S B) →
    (∀ pre S x W1, J pre S W1 → Y[pre.length]? = some x → YieldAt Fence.wide (n - 1) P l (encs x) W1 fun e W' =>
      (e = .returned (.bool true) ∧ Only (fun k => S k ∨ k < W.heap.size) W1 W' ∧ Kp W1 W' ∧ ∃ S', (∀ k, S' k → (S k ∨ W1.heap.size ≤ k) ∧ k < W'.heap.size) ∧ J (pre ++ [x]) S' W') ∨ (e = .returned (.bool false) ∧ Jx (pre ++ [x]) W')) →
    J [] S0 W → (∀ k, S0 k → k < W.heap.size) → CS W →
    CallsIn Fence.wide n P g (#[.func (.yield l) #[] #[]] ++ lb) W fun e W' => (∃ v, e = .returned v) ∧ ((∃ S', J Y S' W') ∨ (∃ pre, Jx pre W'))
section
variable {n : Nat} {P : Program}
theorem wpIn_rangeFunc_sep {α : Type} {g : Operand} {ps : Array Tmp} {assign body : Code} {Q : Exit → Act → World → Prop} {a : Act} {w : World}
    (h1 : 1 ≤ n) {gf : Nat} {lb : Array Value} (hg : a.eval g = .func (.func gf) #[] lb) (eg : ∀ args w, (callFunc gf args).run P w = .ok (.enter gf args) w)
    {encs : α → Array Value} {CS : World → Prop} {Y : List α} {Kp : World → World → Prop} (hKt : ∀ A B C, Kp A B → Kp B C → Kp A C) (hKo : ∀ (A : World) (l : Nat) (r r' : Loop), A.heap[l]? = some (.loop r) → Kp A (A.putObj l (.loop r'))) (hKa : ∀ (A : World) (o : Obj), Kp A (A.alloc o)) (hseq : SepStops Kp (n - 1) P gf lb encs CS Y)
    (hCS : ∀ A B, CS A → Only (fun j => w.heap.size ≤ j) A B → CS B) (hps : ∀ x, (encs x).size = ps.size)
    (I : List α → (Nat → Prop) → World → Prop) (Ix : List α → World → Prop) (S0 : Nat → Prop) (hS0 : ∀ k, S0 k → k < w.heap.size)
    (hI : ∀ pre S A B Sx, I pre S A → Only Sx A B → Kp A B → (∀ k, Sx k → w.heap.size ≤ k ∧ ¬ S k) → I pre S B) (hIx : ∀ pre A B, Ix pre A → Only (fun k => w.heap.size ≤ k) A B → Ix pre B) (h0 : I [] S0 w) (hc0 : CS w)
    (a₁ : α → Act)
    (hassign : ∀ (l : Nat) (x : α) (W : World) (K : Act → World → Prop), K (a₁ x) W → assign.wpIn (Fence.wide.inRound l) (n - 1 - 1) P (Exit.then K (fun _ _ _ => False)) { tmps := (ps.zip (encs x)).foldl (fun t (p, v) => t.setIfInBounds p v) a.tmps, defers := [] } W)
    (hbody : ∀ (l : Nat) (pre : List α) (S : Nat → Prop) (x : α) (W : World), I pre S W → Y[pre.length]? = some x → body.wpIn (Fence.wide.inRound l) (n - 1 - 1) P (sepPost Kp S I Ix (pre ++ [x]) W) (a₁ x) W)
    (hdone : ∀ (D : Nat) (S : Nat → Prop) (W : World), w.heap.size ≤ D → I Y S W → W.heap[D]? = some (.deferred (some [])) → (∀ k, S k → k ≠ D) → Q .normal { a with defers := { target := .collected D, args := #[] } :: a.defers } W)
    (hstop : ∀ (D : Nat) (pre : List α) (W : World), w.heap.size ≤ D → Ix pre W → W.heap[D]? = some (.deferred (some [])) → Code.ret.wpIn Fence.wide n P Q { a with defers := { target := .collected D, args := #[] } :: a.defers } W) :
    (Code.rangeFunc g ps assign body).wpIn Fence.wide n P Q a w := by
  refine wpIn_rangeFunc fun fn hfn => ?_
  obtain ⟨D, hD⟩ : ∃ D, D = w.heap.size := ⟨_, rfl⟩
  obtain ⟨rec, hrec⟩ : ∃ rec : LoopState → Option Code → Loop, rec = fun st pe => { state := st, pending := pe, fn, tmps := a.tmps, params := ps, assign, body, defers := D } := ⟨_, rfl⟩
  obtain ⟨V, hV⟩ : ∃ V, V = (w.alloc (.deferred (some []))).alloc (.loop (rec .ready none)) := ⟨_, rfl⟩
  have hVl : V.heap[D + 1]? = some (.loop (rec .ready none)) := by
    have := World.alloc_heap_new (w.alloc (.deferred (some []))) (.loop (rec .ready none))
    rw [World.size_alloc] at this
    rw [hV, hD]
    exact this
  have hVd : V.heap[D]? = some (.deferred (some [])) := by
    rw [hV, hD]
    exact (Below.heap_alloc _ _ _ (by simp)).trans (World.alloc_heap_new w _)
  have hVs : V.heap.size = D + 2 := by rw [hV, hD]; simp
  have onV : ∀ (S : Nat → Prop), Only S w V := fun S => by rw [hV]; exact ((Only.refl S w).alloc _).alloc _
  refine ⟨D + 1, [{ target := .collected D, args := #[] }], V, { target := .fn (.func gf) lb, args := #[.func (.yield (D + 1)) #[] #[]] }, V, gf,
    #[.func (.yield (D + 1)) #[] #[]] ++ lb, V, ?_, ?_, fun f' hf' => trivial, ?_, fun _ => h1, ?_⟩
  · rw [hV, hrec, hD]
    exact run_enterLoop_outer _ _ _ _ _
  · simp only [resolve, hg]
    simp [go_sem]
  · simp [invoke, go_sem, eg]
  refine (hseq (D + 1) (fun pre S W => I pre S W ∧ (∀ k, S k → k ≠ D ∧ k ≠ D + 1) ∧ W.heap[D + 1]? = some (.loop (rec .ready none)) ∧ W.heap[D]? = some (.deferred (some [])))
    (fun pre W => Ix pre W ∧ W.heap[D + 1]? = some (.loop (rec .done (some .ret))) ∧ W.heap[D]? = some (.deferred (some []))) V S0
    (fun pre S A B Sx hj hAB hkp hd => ⟨hI _ _ _ _ _ hj.1 hAB hkp fun k hk => ⟨by have := (hd k hk).1; omega, (hd k hk).2⟩, hj.2.1, (hAB.block _ (heap_lt hj.2.2.1) fun hh => by have := (hd _ hh).1; omega).trans hj.2.2.1, (hAB.block _ (heap_lt hj.2.2.2) fun hh => by have := (hd _ hh).1; omega).trans hj.2.2.2⟩)
    ?_ ⟨hI _ _ _ _ (fun _ => False) h0 (onV _) (by rw [hV]; exact hKt _ _ _ (hKa _ _) (hKa _ _)) (fun _ h => h.elim), fun k hk => by have := hS0 k hk; omega, hVl, hVd⟩ (fun k hk => by have := hS0 k hk; omega) (hCS _ _ hc0 (onV _))).mono ?_
  · rintro pre S x W ⟨hi, hsd, hl, hd⟩ hx
    have hy := run_yield (P := P) (args := encs x) hl (by rw [hrec]; exact hps x)
    rw [hrec] at hy
    refine ⟨fn, _, assign, body, hy, roundIn_of_wpIn hfn (hassign _ x W _ ?_)⟩
    refine ⟨_, run_beginRound hl (by rw [hrec]), ?_⟩
    obtain ⟨W2, hW2⟩ : ∃ W2, W2 = W.putObj (D + 1) (.loop { rec .ready none with state := .busy }) := ⟨_, rfl⟩
    have hl2 : W2.heap[D + 1]? = some (.loop { rec .ready none with state := .busy }) := by rw [hW2]; exact World.putObj_heap_same (heap_lt hl)
    have hd2 : W2.heap[D]? = some (.deferred (some [])) := by rw [hW2]; exact (World.putObj_heap_other (by omega)).trans hd
    have on2 : Only (fun k => k = D + 1) W W2 := by rw [hW2]; exact only_putObj _ _ _ rfl
    have hkp2 : Kp W W2 := by rw [hW2]; exact hKo _ _ _ _ hl
    have hi2 : I pre S W2 := hI _ _ _ _ _ hi on2 hkp2 fun k hk => ⟨by omega, fun hs => (hsd k hs).2 hk⟩
    have hsz2 : W2.heap.size = W.heap.size := by
      have h1 := on2.size
      have h2 : W2.heap.size ≤ W.heap.size := by rw [hW2]; simp [World.putObj]
      omega
    rw [← hW2]
    refine wpIn_mono (hbody _ pre S x W2 hi2 hx) ?_
    have fin : ∀ (jump : Option Code) (W3 : World), Only S W2 W3 → ∃ W4, W4 = W3.putObj (D + 1) (.loop (rec (if jump.isNone then .ready else .done) jump)) ∧
        (Instr.endRound (D + 1) jump).run P W3 = .ok (.bool jump.isNone) W4 ∧ Only (fun k => k = D + 1) W3 W4 ∧ W4.heap[D + 1]? = some (.loop (rec (if jump.isNone then .ready else .done) jump)) ∧ W4.heap[D]? = some (.deferred (some [])) := fun jump W3 hk3 => by
      have hl3 := (hk3.block _ (heap_lt hl2) fun h => (hsd _ h).2 rfl).trans hl2
      have hd3 := (hk3.block _ (heap_lt hd2) fun h => (hsd _ h).1 rfl).trans hd2
      have hr := run_endRound (P := P) jump hl3
      rw [hrec] at hr
      refine ⟨_, rfl, by rw [hrec]; exact hr, only_putObj _ _ _ rfl, World.putObj_heap_same (heap_lt hl3), (World.putObj_heap_other (by omega)).trans hd3⟩
    intro e a3 W3 hp
    cases e with
    | normal =>
      obtain ⟨ho3, hk3, S', hS', hi3⟩ := hp
      obtain ⟨W4, hW4, hr, on4, hl4, hd4⟩ := fin none W3 ho3
      have hsd' : ∀ k, S' k → k ≠ D ∧ k ≠ D + 1 := fun k hk => by
        rcases (hS' k hk).1 with h | h
        · exact hsd k h
        · have := heap_lt hl2; omega
      have hl3 := (ho3.block _ (heap_lt hl2) fun h => (hsd _ h).2 rfl).trans hl2
      have hkp4 : Kp W3 W4 := by rw [hW4]; exact hKo _ _ _ _ hl3
      refine ⟨_, W4, hr, .inl ⟨rfl, ?_, hKt _ _ _ (hKt _ _ _ hkp2 hk3) hkp4, S', fun k hk => ⟨by rcases (hS' k hk).1 with h | h; exact .inl h; exact .inr (by omega), Nat.lt_of_lt_of_le (hS' k hk).2 on4.size⟩, hI _ _ _ _ _ hi3 on4 hkp4 fun k hk => ⟨by omega, fun hs => (hsd' k hs).2 hk⟩, hsd', hl4, hd4⟩⟩
      exact ((on2.mono fun k _ hk => .inr (by omega)).trans (ho3.mono fun k _ hk => .inl hk)).trans (on4.mono fun k _ hk => .inr (by omega))
    | ret =>
      obtain ⟨W4, -, hr, on4, hl4, hd4⟩ := fin (some .ret) W3 hp.1
      exact ⟨_, W4, hr, .inr ⟨rfl, hIx _ _ _ hp.2 (on4.mono fun k _ hk => by omega), hl4, hd4⟩⟩
    | exit id => exact hp.elim
    | goto t => exact hp.elim
    | panic ch => exact hp.elim
    | outgrown => exact hp.elim
  · rintro e W2 ⟨⟨v, rfl⟩, ⟨S', hi, hsd, hl, hd⟩ | ⟨pre, hi, hl, hd⟩⟩
    · refine ⟨none, _, by have := run_endLoop (P := P) hl (by rw [hrec]; simp); rw [hrec] at this; exact this, ?_⟩
      exact hdone D S' _ (by omega) (hI _ _ _ _ (fun k => k = D + 1) hi (only_putObj _ _ _ rfl) (hKo _ _ _ _ hl) fun k hk => ⟨by omega, fun hs => (hsd k hs).2 hk⟩) ((World.putObj_heap_other (by omega)).trans hd) (fun k hk => (hsd k hk).1)
    · refine ⟨some .ret, _, by have := run_endLoop (P := P) hl (by rw [hrec]; simp); rw [hrec] at this; exact this, ?_⟩
      exact hstop D pre _ (by omega) (hIx _ _ _ hi (only_putObj _ _ _ (by omega))) ((World.putObj_heap_other (by omega)).trans hd)
/-- The same, where the loop's left sides are set by F. -/
theorem wpIn_rangeFunc_sepF {α : Type} {g : Operand} {ps : Array Tmp} {assign body : Code} {Q : Exit → Act → World → Prop} {a : Act} {w : World}
    (h1 : 1 ≤ n) {gf : Nat} {lb : Array Value} (hg : a.eval g = .func (.func gf) #[] lb) (eg : ∀ args w, (callFunc gf args).run P w = .ok (.enter gf args) w)
    {encs : α → Array Value} {CS : World → Prop} {Y : List α} {Kp : World → World → Prop} (hKt : ∀ A B C, Kp A B → Kp B C → Kp A C) (hKo : ∀ (A : World) (l : Nat) (r r' : Loop), A.heap[l]? = some (.loop r) → Kp A (A.putObj l (.loop r'))) (hKa : ∀ (A : World) (o : Obj), Kp A (A.alloc o)) (hseq : SepStops Kp (n - 1) P gf lb encs CS Y)
    (hCS : ∀ A B, CS A → Only (fun j => w.heap.size ≤ j) A B → CS B) (hps : ∀ x, (encs x).size = ps.size)
    (I : List α → (Nat → Prop) → World → Prop) (Ix : List α → World → Prop) (S0 : Nat → Prop) (hS0 : ∀ k, S0 k → k < w.heap.size)
    (hI : ∀ pre S A B Sx, I pre S A → Only Sx A B → Kp A B → (∀ k, Sx k → w.heap.size ≤ k ∧ ¬ S k) → I pre S B) (hIx : ∀ pre A B, Ix pre A → Only (fun k => w.heap.size ≤ k) A B → Ix pre B) (h0 : I [] S0 w) (hc0 : CS w)
    (F : Array Value → α → Array Value)
    (hassign : ∀ (l : Nat) (x : α) (W : World) (K : Act → World → Prop), K { tmps := F ((ps.zip (encs x)).foldl (fun t (p, v) => t.setIfInBounds p v) a.tmps) x, defers := [] } W → assign.wpIn (Fence.wide.inRound l) (n - 1 - 1) P (Exit.then K (fun _ _ _ => False)) { tmps := (ps.zip (encs x)).foldl (fun t (p, v) => t.setIfInBounds p v) a.tmps, defers := [] } W)
    (hbody : ∀ (l : Nat) (pre : List α) (S : Nat → Prop) (x : α) (W : World), I pre S W → Y[pre.length]? = some x → body.wpIn (Fence.wide.inRound l) (n - 1 - 1) P (sepPost Kp S I Ix (pre ++ [x]) W) { tmps := F ((ps.zip (encs x)).foldl (fun t (p, v) => t.setIfInBounds p v) a.tmps) x, defers := [] } W)
    (hdone : ∀ (D : Nat) (S : Nat → Prop) (W : World), w.heap.size ≤ D → I Y S W → W.heap[D]? = some (.deferred (some [])) → (∀ k, S k → k ≠ D) → Q .normal { a with defers := { target := .collected D, args := #[] } :: a.defers } W)
    (hstop : ∀ (D : Nat) (pre : List α) (W : World), w.heap.size ≤ D → Ix pre W → W.heap[D]? = some (.deferred (some [])) → Code.ret.wpIn Fence.wide n P Q { a with defers := { target := .collected D, args := #[] } :: a.defers } W) :
    (Code.rangeFunc g ps assign body).wpIn Fence.wide n P Q a w :=
  wpIn_rangeFunc_sep h1 hg eg hKt hKo hKa hseq hCS hps I Ix S0 hS0 hI hIx h0 hc0 (fun x => { tmps := F ((ps.zip (encs x)).foldl (fun t (p, v) => t.setIfInBounds p v) a.tmps) x, defers := [] }) hassign hbody hdone hstop
end
end Go.Proofs.Ytcjpemkafncihaa
/- A range over a function that writes blocks of its own and some that were there before (Fs: both sides may, CS tells what is in them), while each round writes some of the caller's own, which may change; what it hands on is read in memory (R). -/
set_option linter.unusedVariables false
set_option maxRecDepth 100000
namespace Go.Proofs.Ytcjpemkafncihaa
open Go.RowKit

/-- How a round may be left. -/
def shPost {α : Type} (Fs : Nat → Prop) (Kp : World → World → Prop) (CS : Nat → World → Prop) (S : Nat → Prop) (I : List α → (Nat → Prop) → World → Prop) (Ix : Code → List α → World → Prop) (xs : List α) (W : World) : Exit → Act → World → Prop
  | .normal, _, W' => Only (fun k => S k ∨ Fs k) W W' ∧ CS xs.length W' ∧ ∃ S', (∀ k, S' k → (S k ∨ W.heap.size ≤ k) ∧ k < W'.heap.size) ∧ I xs S' W'
  | .ret, _, W' => Only (fun k => S k ∨ Fs k) W W' ∧ CS xs.length W' ∧ Ix .ret xs W'
  | .exit id, _, W' => Only (fun k => S k ∨ Fs k) W W' ∧ CS xs.length W' ∧ Ix (.exit id) xs W'
  | _, _, _ => False
/-- A function that goes through Y. -/
def ShStops {α : Type} (Fs : Nat → Prop) (Kp : World → World → Prop) (CS : Nat → World → Prop) (CE : World → Prop) (n : Nat) (P : Program) (g : Nat) (lb : Array Value) (R : α → Array Value → World → Prop) (Y : List α) : Prop :=
  ∀ (l : Nat) (J : List α → (Nat → Prop) → World → Prop) (Jx : List α → World → Prop) (W : World) (S0 : Nat → Prop),
    (∀ pre S A B Sx, J pre S A → Only Sx A B → Kp A B → (∀ k, Sx k → (Fs k ∨ W.heap.size ≤ k) ∧ ¬ S k) → J pre S B) →
    (∀ pre S x args W1, J pre S W1 → CS (pre.length + 1) W1 → Y[pre.length]? = some x → R x args W1 → YieldAt Fence.wide (n - 1) P l args W1 fun e W' =>
      (e = .returned (.bool true) ∧ Only (fun k => S k ∨ k < W.heap.size) W1 W' ∧ CS (pre.length + 1) W' ∧ ∃ S', (∀ k, S' k → (S k ∨ W1.heap.size ≤ k) ∧ k < W'.heap.size) ∧ J (pre ++ [x]) S' W') ∨ (e = .returned (.bool false) ∧ Only (fun k => S k ∨ k < W.heap.size) W1 W' ∧ CS (pre.length + 1) W' ∧ Jx (pre ++ [x]) W')) →
    (∀ pre A B, Jx pre A → Only (fun k => W.heap.size ≤ k) A B → Jx pre B) →
    J [] S0 W → (∀ k, S0 k → k < W.heap.size ∧ ¬ Fs k) → CS 0 W →
    CallsIn Fence.wide n P g (#[.func (.yield l) #[] #[]] ++ lb) W fun e W' => (∃ v, e = .returned v) ∧ ((∃ S', J Y S' W' ∧ CE W') ∨ (∃ pre, Jx pre W'))
section
variable {n : Nat} {P : Program}
theorem wpIn_rangeFunc_sh {α : Type} {g : Operand} {ps : Array Tmp} {assign body : Code} {Q : Exit → Act → World → Prop} {a : Act} {w : World}
    (h1 : 1 ≤ n) {gf : Nat} {lb : Array Value} (hg : a.eval g = .func (.func gf) #[] lb) (eg : ∀ args w, (callFunc gf args).run P w = .ok (.enter gf args) w)
    {R : α → Array Value → World → Prop} {Fs : Nat → Prop} {CS : Nat → World → Prop} {CE : World → Prop} {Y : List α} {Kp : World → World → Prop} (hKt : ∀ A B C, Kp A B → Kp B C → Kp A C) (hKo : ∀ (A : World) (l : Nat) (r r' : Loop), A.heap[l]? = some (.loop r) → Kp A (A.putObj l (.loop r'))) (hKa : ∀ (A : World) (o : Obj), Kp A (A.alloc o)) (hseq : ShStops Fs Kp CS CE (n - 1) P gf lb R Y)
    (hF : ∀ k, Fs k → k < w.heap.size) (hCS : ∀ k A B, CS k A → Only (fun j => w.heap.size ≤ j) A B → CS k B) (hCE : ∀ A B, CE A → Only (fun j => w.heap.size ≤ j) A B → CE B) (hps : ∀ x args W, R x args W → args.size = ps.size)
    (hR : ∀ x args (A : World) (l : Nat) (r r' : Loop), R x args A → A.heap[l]? = some (.loop r) → R x args (A.putObj l (.loop r')))
    (I : List α → (Nat → Prop) → World → Prop) (Ix : Code → List α → World → Prop) (S0 : Nat → Prop) (hS0 : ∀ k, S0 k → k < w.heap.size ∧ ¬ Fs k)
    (hI : ∀ pre S A B Sx, I pre S A → Only Sx A B → Kp A B → (∀ k, Sx k → (Fs k ∨ w.heap.size ≤ k) ∧ ¬ S k) → I pre S B) (hIx : ∀ c pre A B, Ix c pre A → Only (fun k => w.heap.size ≤ k) A B → Ix c pre B) (h0 : I [] S0 w) (hc0 : CS 0 w)
    (F : Array Value → Array Value → Array Value)
    (hassign : ∀ (l : Nat) (x : α) (args : Array Value) (W : World) (K : Act → World → Prop), R x args W → K { tmps := F ((ps.zip args).foldl (fun t (p, v) => t.setIfInBounds p v) a.tmps) args, defers := [] } W → assign.wpIn (Fence.wide.inRound l) (n - 1 - 1) P (Exit.then K (fun _ _ _ => False)) { tmps := (ps.zip args).foldl (fun t (p, v) => t.setIfInBounds p v) a.tmps, defers := [] } W)
    (hbody : ∀ (l : Nat) (pre : List α) (S : Nat → Prop) (x : α) (args : Array Value) (W : World), I pre S W → (∀ k, S k → ¬ Fs k) → CS (pre.length + 1) W → Y[pre.length]? = some x → R x args W → w.heap.size ≤ W.heap.size → body.wpIn (Fence.wide.inRound l) (n - 1 - 1) P (shPost Fs Kp CS S I Ix (pre ++ [x]) W) { tmps := F ((ps.zip args).foldl (fun t (p, v) => t.setIfInBounds p v) a.tmps) args, defers := [] } W)
    (hdone : ∀ (D : Nat) (S : Nat → Prop) (W : World), w.heap.size ≤ D → I Y S W → CE W → W.heap[D]? = some (.deferred (some [])) → (∀ k, S k → k ≠ D) → Q .normal { a with defers := { target := .collected D, args := #[] } :: a.defers } W)
    (hstop : ∀ (D : Nat) (c : Code) (pre : List α) (W : World), w.heap.size ≤ D → Ix c pre W → W.heap[D]? = some (.deferred (some [])) → c.wpIn Fence.wide n P Q { a with defers := { target := .collected D, args := #[] } :: a.defers } W) :
    (Code.rangeFunc g ps assign body).wpIn Fence.wide n P Q a w := by
  refine wpIn_rangeFunc fun fn hfn => ?_
  obtain ⟨D, hD⟩ : ∃ D, D = w.heap.size := ⟨_, rfl⟩
  obtain ⟨rec, hrec⟩ : ∃ rec : LoopState → Option Code → Loop, rec = fun st pe => { state := st, pending := pe, fn, tmps := a.tmps, params := ps, assign, body, defers := D } := ⟨_, rfl⟩
  obtain ⟨V, hV⟩ : ∃ V, V = (w.alloc (.deferred (some []))).alloc (.loop (rec .ready none)) := ⟨_, rfl⟩
  have hVl : V.heap[D + 1]? = some (.loop (rec .ready none)) := by
    have := World.alloc_heap_new (w.alloc (.deferred (some []))) (.loop (rec .ready none))
    rw [World.size_alloc] at this
    rw [hV, hD]
    exact this
  have hVd : V.heap[D]? = some (.deferred (some [])) := by
    rw [hV, hD]
    exact (Below.heap_alloc _ _ _ (by simp)).trans (World.alloc_heap_new w _)
  have hVs : V.heap.size = D + 2 := by rw [hV, hD]; simp
  have onV : ∀ (S : Nat → Prop), Only S w V := fun S => by rw [hV]; exact ((Only.refl S w).alloc _).alloc _
  refine ⟨D + 1, [{ target := .collected D, args := #[] }], V, { target := .fn (.func gf) lb, args := #[.func (.yield (D + 1)) #[] #[]] }, V, gf,
    #[.func (.yield (D + 1)) #[] #[]] ++ lb, V, ?_, ?_, fun f' hf' => trivial, ?_, fun _ => h1, ?_⟩
  · rw [hV, hrec, hD]
    exact run_enterLoop_outer _ _ _ _ _
  · simp only [resolve, hg]
    simp [go_sem]
  · simp [invoke, go_sem, eg]
  have hnF : ∀ k, w.heap.size ≤ k → ¬ Fs k := fun k h hh => by have := hF k hh; omega
  refine (hseq (D + 1) (fun pre S W => I pre S W ∧ (∀ k, S k → k ≠ D ∧ k ≠ D + 1 ∧ ¬ Fs k) ∧ W.heap[D + 1]? = some (.loop (rec .ready none)) ∧ W.heap[D]? = some (.deferred (some [])))
    (fun pre W => ∃ c, Ix c pre W ∧ W.heap[D + 1]? = some (.loop (rec .done (some c))) ∧ W.heap[D]? = some (.deferred (some []))) V S0
    (fun pre S A B Sx hj hAB hkp hd => ⟨hI _ _ _ _ _ hj.1 hAB hkp fun k hk => ⟨by rcases (hd k hk).1 with h | h; exact .inl h; exact .inr (by omega), (hd k hk).2⟩, hj.2.1, (hAB.block _ (heap_lt hj.2.2.1) fun hh => by rcases (hd _ hh).1 with h | h; exact hnF _ (by omega) h; omega).trans hj.2.2.1, (hAB.block _ (heap_lt hj.2.2.2) fun hh => by rcases (hd _ hh).1 with h | h; exact hnF _ (by omega) h; omega).trans hj.2.2.2⟩)
    ?_ (fun pr A B hj hAB => by
      obtain ⟨c, hi, hl, hd⟩ := hj
      exact ⟨c, hIx _ _ _ _ hi (hAB.mono fun k _ hk => by omega), (hAB.block _ (heap_lt hl) (by omega)).trans hl, (hAB.block _ (heap_lt hd) (by omega)).trans hd⟩)
    ⟨hI _ _ _ _ (fun _ => False) h0 (onV _) (by rw [hV]; exact hKt _ _ _ (hKa _ _) (hKa _ _)) (fun _ h => h.elim), fun k hk => ⟨by have := (hS0 k hk).1; omega, by have := (hS0 k hk).1; omega, (hS0 k hk).2⟩, hVl, hVd⟩ (fun k hk => ⟨by have := (hS0 k hk).1; omega, (hS0 k hk).2⟩) (hCS _ _ _ hc0 (onV _))).mono ?_
  · rintro pre S x args W ⟨hi, hsd, hl, hd⟩ hcs hx hr0
    have hy := run_yield (P := P) (args := args) hl (by rw [hrec]; exact hps x args W hr0)
    rw [hrec] at hy
    refine ⟨fn, _, assign, body, hy, roundIn_of_wpIn hfn (hassign _ x args W _ hr0 ?_)⟩
    refine ⟨_, run_beginRound hl (by rw [hrec]), ?_⟩
    obtain ⟨W2, hW2⟩ : ∃ W2, W2 = W.putObj (D + 1) (.loop { rec .ready none with state := .busy }) := ⟨_, rfl⟩
    have hl2 : W2.heap[D + 1]? = some (.loop { rec .ready none with state := .busy }) := by rw [hW2]; exact World.putObj_heap_same (heap_lt hl)
    have hd2 : W2.heap[D]? = some (.deferred (some [])) := by rw [hW2]; exact (World.putObj_heap_other (by omega)).trans hd
    have on2 : Only (fun k => k = D + 1) W W2 := by rw [hW2]; exact only_putObj _ _ _ rfl
    have hkp2 : Kp W W2 := by rw [hW2]; exact hKo _ _ _ _ hl
    have hr2 : R x args W2 := by rw [hW2]; exact hR _ _ _ _ _ _ hr0 hl
    have hi2 : I pre S W2 := hI _ _ _ _ _ hi on2 hkp2 fun k hk => ⟨.inr (by omega), fun hs => (hsd k hs).2.1 hk⟩
    have hcs2 : CS (pre.length + 1) W2 := hCS _ _ _ hcs (on2.mono fun k _ hk => by omega)
    have hsz2 : W2.heap.size = W.heap.size := by
      have h1 := on2.size
      have h2 : W2.heap.size ≤ W.heap.size := by rw [hW2]; simp [World.putObj]
      omega
    rw [← hW2]
    refine wpIn_mono (hbody _ pre S x args W2 hi2 (fun k hk => (hsd k hk).2.2) hcs2 hx hr2 (by have := heap_lt hl2; omega)) ?_
    have fin : ∀ (jump : Option Code) (W3 : World), Only (fun k => S k ∨ Fs k) W2 W3 → ∃ W4, W4 = W3.putObj (D + 1) (.loop (rec (if jump.isNone then .ready else .done) jump)) ∧
        (Instr.endRound (D + 1) jump).run P W3 = .ok (.bool jump.isNone) W4 ∧ Only (fun k => k = D + 1) W3 W4 ∧ W4.heap[D + 1]? = some (.loop (rec (if jump.isNone then .ready else .done) jump)) ∧ W4.heap[D]? = some (.deferred (some [])) := fun jump W3 hk3 => by
      have hl3 := (hk3.block _ (heap_lt hl2) fun h => by rcases h with h | h; exact (hsd _ h).2.1 rfl; exact hnF _ (by omega) h).trans hl2
      have hd3 := (hk3.block _ (heap_lt hd2) fun h => by rcases h with h | h; exact (hsd _ h).1 rfl; exact hnF _ (by omega) h).trans hd2
      have hr := run_endRound (P := P) jump hl3
      rw [hrec] at hr
      refine ⟨_, rfl, by rw [hrec]; exact hr, only_putObj _ _ _ rfl, World.putObj_heap_same (heap_lt hl3), (World.putObj_heap_other (by omega)).trans hd3⟩
    intro e a3 W3 hp
    cases e with
    | normal =>
      obtain ⟨ho3, hc3, S', hS', hi3⟩ := hp
      obtain ⟨W4, hW4, hr, on4, hl4, hd4⟩ := fin none W3 ho3
      have hsd' : ∀ k, S' k → k ≠ D ∧ k ≠ D + 1 ∧ ¬ Fs k := fun k hk => by
        rcases (hS' k hk).1 with h | h
        · exact hsd k h
        · have := heap_lt hl2; exact ⟨by omega, by omega, hnF k (by omega)⟩
      have hl3 := (ho3.block _ (heap_lt hl2) fun h => by rcases h with h | h; exact (hsd _ h).2.1 rfl; exact hnF _ (by omega) h).trans hl2
      have hkp4 : Kp W3 W4 := by rw [hW4]; exact hKo _ _ _ _ hl3
      rw [List.length_append, List.length_singleton] at hc3
      refine ⟨_, W4, hr, .inl ⟨rfl, ?_, hCS _ _ _ hc3 (on4.mono fun k _ hk => by omega), S', fun k hk => ⟨by rcases (hS' k hk).1 with h | h; exact .inl h; exact .inr (by omega), Nat.lt_of_lt_of_le (hS' k hk).2 on4.size⟩, hI _ _ _ _ _ hi3 on4 hkp4 fun k hk => ⟨.inr (by omega), fun hs => (hsd' k hs).2.1 hk⟩, hsd', hl4, hd4⟩⟩
      exact ((on2.mono fun k _ hk => .inr (by omega)).trans (ho3.mono fun k _ hk => by rcases hk with hk | hk; exact .inl hk; have := hF k hk; exact .inr (by omega))).trans (on4.mono fun k _ hk => .inr (by omega))
    | ret =>
      obtain ⟨W4, -, hr, on4, hl4, hd4⟩ := fin (some .ret) W3 hp.1
      exact ⟨_, W4, hr, .inr ⟨rfl, (((on2.mono fun k _ hk => .inr (by omega)).trans (hp.1.mono fun k _ hk => by rcases hk with hk | hk; exact .inl hk; have := hF k hk; exact .inr (by omega))).trans (on4.mono fun k _ hk => .inr (by omega))), hCS _ _ _ (by have h := hp.2.1; rw [List.length_append, List.length_singleton] at h; exact h) (on4.mono fun k _ hk => by omega), .ret, hIx _ _ _ _ hp.2.2 (on4.mono fun k _ hk => by omega), hl4, hd4⟩⟩
    | exit id =>
      obtain ⟨W4, -, hr, on4, hl4, hd4⟩ := fin (some (.exit id)) W3 hp.1
      exact ⟨_, W4, hr, .inr ⟨rfl, (((on2.mono fun k _ hk => .inr (by omega)).trans (hp.1.mono fun k _ hk => by rcases hk with hk | hk; exact .inl hk; have := hF k hk; exact .inr (by omega))).trans (on4.mono fun k _ hk => .inr (by omega))), hCS _ _ _ (by have h := hp.2.1; rw [List.length_append, List.length_singleton] at h; exact h) (on4.mono fun k _ hk => by omega), .exit id, hIx _ _ _ _ hp.2.2 (on4.mono fun k _ hk => by omega), hl4, hd4⟩⟩
    | goto t => exact hp.elim
    | panic ch => exact hp.elim
    | outgrown => exact hp.elim
  · rintro e W2 ⟨⟨v, rfl⟩, ⟨S', ⟨hi, hsd, hl, hd⟩, hce⟩ | ⟨pre, c, hi, hl, hd⟩⟩
    · refine ⟨none, _, by have := run_endLoop (P := P) hl (by rw [hrec]; simp); rw [hrec] at this; exact this, ?_⟩
      exact hdone D S' _ (by omega) (hI _ _ _ _ (fun k => k = D + 1) hi (only_putObj _ _ _ rfl) (hKo _ _ _ _ hl) fun k hk => ⟨.inr (by omega), fun hs => (hsd k hs).2.1 hk⟩) (hCE _ _ hce (only_putObj _ _ _ (by omega))) ((World.putObj_heap_other (by omega)).trans hd) (fun k hk => (hsd k hk).1)
    · refine ⟨some c, _, by have := run_endLoop (P := P) hl (by rw [hrec]; simp); rw [hrec] at this; exact this, ?_⟩
      exact hstop D c pre _ (by omega) (hIx _ _ _ _ hi (only_putObj _ _ _ (by omega))) ((World.putObj_heap_other (by omega)).trans hd)
end
end Go.Proofs.Ytcjpemkafncihaa
/- A cutter in memory; a byte that comes. -/
set_option linter.unusedVariables false
set_option maxRecDepth 100000
namespace Go.Proofs.Ytcjpemkafncihaa
open Go.RowKit

/-- What the window has at place p, behind these bytes. -/
def ring (pre : List UInt8) (p : Nat) : Nat := (win pre).getD ((p + 16 - pre.length % 16) % 16) 0
theorem up_le (b : UInt8) : up b ≤ 256 := by have := b.toNat_lt; unfold up; omega
theorem win_le (pre : List UInt8) : ∀ x ∈ win pre, x ≤ 256 := by
  intro x hx
  unfold win at hx
  rcases List.mem_append.1 hx with h | h
  · have := (List.mem_replicate.1 h).2; omega
  · obtain ⟨b, _, rfl⟩ := List.mem_map.1 h
    exact up_le b
theorem ring_le (pre : List UInt8) (p : Nat) : ring pre p ≤ 256 := by
  unfold ring
  rw [List.getD_eq_getElem?_getD]
  cases h : (win pre)[(p + 16 - pre.length % 16) % 16]? with
  | none => simp
  | some x => exact win_le pre x (List.mem_of_getElem? h)
theorem ring_nil (p : Nat) : ring [] p = 0 := by
  unfold ring
  rw [show win [] = List.replicate 16 0 from rfl, List.getD_eq_getElem?_getD]
  have : (p + 16 - ([] : List UInt8).length % 16) % 16 < 16 := Nat.mod_lt _ (by decide)
  rw [List.getElem?_replicate, if_pos this]
  rfl
theorem ring_next (pre : List UInt8) (b : UInt8) (p : Nat) (hp : p < 16) : ring (pre ++ [b]) p = if p = pre.length % 16 then up b else ring pre p := by
  unfold ring
  have hl := win_len pre
  rw [win_next, List.length_append, List.length_singleton]
  have ht : (win pre).tail.length = 15 := by simp [hl]
  by_cases h : p = pre.length % 16
  · rw [if_pos h, List.getD_eq_getElem?_getD, List.getElem?_append_right (by omega), ht, show (p + 16 - (pre.length + 1) % 16) % 16 - 15 = 0 by omega]
    rfl
  · rw [if_neg h, List.getD_eq_getElem?_getD, List.getD_eq_getElem?_getD, List.getElem?_append_left (by omega), List.getElem?_tail]
    congr 2
    omega
theorem win_out (pre : List UInt8) : ∃ W, win pre = ring pre (pre.length % 16) :: W := by
  have hl := win_len pre
  match h : win pre with
  | [] => rw [h] at hl; cases hl
  | o :: W =>
    refine ⟨W, ?_⟩
    unfold ring
    rw [h, show (pre.length % 16 + 16 - pre.length % 16) % 16 = 0 by omega]
    rfl
/-- The cells of a cutter. -/
def cutC (l m M : Nat) (r : Nat → Nat) (next sum size : Nat) (lv : Value) : Array Value :=
  #[.int .i64 (l : Int), .int .i64 (M : Int), .int .u32 (m : Int), .int .u32 (r 0 : Int), .int .u32 (r 1 : Int), .int .u32 (r 2 : Int), .int .u32 (r 3 : Int), .int .u32 (r 4 : Int), .int .u32 (r 5 : Int), .int .u32 (r 6 : Int), .int .u32 (r 7 : Int), .int .u32 (r 8 : Int), .int .u32 (r 9 : Int), .int .u32 (r 10 : Int), .int .u32 (r 11 : Int), .int .u32 (r 12 : Int), .int .u32 (r 13 : Int), .int .u32 (r 14 : Int), .int .u32 (r 15 : Int), .int .i64 (next : Int), .int .u32 (sum : Int), .int .i64 (size : Int), lv]
theorem lt16 {p : Nat} (h : p < 16) : p = 0 ∨ p = 1 ∨ p = 2 ∨ p = 3 ∨ p = 4 ∨ p = 5 ∨ p = 6 ∨ p = 7 ∨ p = 8 ∨ p = 9 ∨ p = 10 ∨ p = 11 ∨ p = 12 ∨ p = 13 ∨ p = 14 ∨ p = 15 := by omega
theorem cutC_ring {l m M : Nat} {r : Nat → Nat} {next sum size : Nat} {lv : Value} {p : Nat} (h : p < 16) : (cutC l m M r next sum size lv)[3 + p]? = some (.int .u32 (r p : Int)) := by
  rcases lt16 h with rfl | rfl | rfl | rfl | rfl | rfl | rfl | rfl | rfl | rfl | rfl | rfl | rfl | rfl | rfl | rfl <;> rfl
theorem cutC_same {l m M : Nat} {r r' : Nat → Nat} {next sum size : Nat} {lv : Value} (h : ∀ p, p < 16 → r p = r' p) : cutC l m M r next sum size lv = cutC l m M r' next sum size lv := by
  unfold cutC
  rw [h 0 (by decide), h 1 (by decide), h 2 (by decide), h 3 (by decide), h 4 (by decide), h 5 (by decide), h 6 (by decide), h 7 (by decide), h 8 (by decide), h 9 (by decide), h 10 (by decide), h 11 (by decide), h 12 (by decide), h 13 (by decide), h 14 (by decide), h 15 (by decide)]
theorem cutC_put {l m M : Nat} {r : Nat → Nat} {next sum size : Nat} {lv : Value} {p x : Nat} (h : p < 16) : (cutC l m M r next sum size lv).setIfInBounds (3 + p) (.int .u32 (x : Int)) = cutC l m M (fun j => if j = p then x else r j) next sum size lv := by
  rcases lt16 h with rfl | rfl | rfl | rfl | rfl | rfl | rfl | rfl | rfl | rfl | rfl | rfl | rfl | rfl | rfl | rfl <;> rfl
/-- A cutter in block kb: what came to it, how many bytes behind the last end, what is left. -/
def CutB (kb l m M : Nat) (pre : List UInt8) (n : Nat) (lv : Value) (w : World) : Prop := w.heap[kb]? = some (.cells (cutC l m M (ring pre) (pre.length % 16) (sumW pre) n lv) 56 (0, 0))
set_option maxHeartbeats 4000000 in
theorem rule_ended {l m M n s : Nat} (w : World) (m1 : 1 ≤ m) (m2 : m ≤ 65536) (hl : l ≤ 4096) (hM : M ≤ 4096) (hn : n ≤ 1000000000) (hs : s < 4294967296) :
    Calls Try.prog 28 #[.agg #[.int .i64 (l : Int), .int .i64 (M : Int), .int .u32 (m : Int)], .int .i64 (n : Int), .int .u32 (s : Int)] w fun e w' => e = .returned (.bool (endB ⟨l, m, M⟩ n s)) ∧ Below w.heap.size w w' := by
  have KB := Lib.hid ((Below.refl w.heap.size w).alloc (Nat.le_refl _) (.cells #[.int .i64 (l : Int), .int .i64 (M : Int), .int .u32 (m : Int)] 53))
  obtain ⟨r, hr⟩ : ∃ r, r = endB ⟨l, m, M⟩ n s := ⟨_, rfl⟩
  rw [← hr]
  have HR := Lib.hid (show r = (n == M || (decide (l ≤ n) && (s % m == m - 1))) from hr)
  clear hr
  go_enter Try.func28, Try.ntmps28
  by_cases hA : n = M
  · have qA : ((n : Int) == (M : Int)) = true := by rw [beq_iff_eq]; omega
    have HE := Lib.hid (show r = true by rw [HR.out]; simp [hA])
    clear hA
    go_wp2_with fail
    go_quiet (fail)
    go_wp2_with fail
    go_ret
    exact ⟨by rw [HE.out]; rfl, below_drewN KB.out _⟩
  · have qA : ((n : Int) == (M : Int)) = false := by rw [beq_eq_false_iff_ne]; omega
    by_cases hBB : l ≤ n
    · have qB : decide (l ≤ n) = true := by rw [decide_eq_true_eq]; omega
      have hm0 : ((m : Int) == 0) = false := by rw [beq_eq_false_iff_ne]; omega
      obtain ⟨sm, hsm⟩ : ∃ sm, sm = s % m := ⟨_, rfl⟩
      have hrem : (s : Int).tmod (m : Int) = (sm : Int) := by rw [Int.tmod_eq_emod_of_nonneg (by omega), hsm]; rfl
      have HSM := Lib.hid hsm
      have hsmb : sm ≤ 4294967296 := by rw [hsm]; exact Nat.le_trans (Nat.mod_le _ _) (by omega)
      clear hsm
      by_cases hCC : sm = m - 1
      · have qC : ((sm : Int) == (m : Int) - 1) = true := by rw [beq_iff_eq]; omega
        have HE := Lib.hid (show r = true by rw [HR.out, ← HSM.out, hCC]; simp [hBB])
        clear hA hBB hCC
        go_wp2_with fail
        go_quiet (fail)
        go_wp2_with fail
        go_ret
        exact ⟨by rw [HE.out]; rfl, below_drewN KB.out _⟩
      · have qC : ((sm : Int) == (m : Int) - 1) = false := by rw [beq_eq_false_iff_ne]; omega
        have HE := Lib.hid (show r = false by rw [HR.out, ← HSM.out]; simp [hBB, hA, hCC])
        clear hA hBB hCC
        go_wp2_with fail
        go_quiet (fail)
        go_wp2_with fail
        go_ret
        exact ⟨by rw [HE.out]; rfl, below_drewN KB.out _⟩
    · have qB : decide (l ≤ n) = false := by rw [decide_eq_false_iff_not]; omega
      have HE := Lib.hid (show r = false by rw [HR.out]; simp [hBB, hA])
      clear hA hBB
      go_wp2_with fail
      go_quiet (fail)
      go_wp2_with fail
      go_ret
      exact ⟨by rw [HE.out]; rfl, below_drewN KB.out _⟩
end Go.Proofs.Ytcjpemkafncihaa
/- A byte that comes to a cutter. -/
set_option linter.unusedVariables false
set_option maxRecDepth 100000
namespace Go.Proofs.Ytcjpemkafncihaa
open Go.RowKit

theorem cutC_cells {w : World} {kb l m M next sum size : Nat} {r : Nat → Nat} {lv : Value} (h : w.heap[kb]? = some (.cells (cutC l m M r next sum size lv) 56 (0, 0))) :
    w.cell? ⟨kb, 0, none⟩ = some (.int .i64 (l : Int)) ∧ w.cell? ⟨kb, 1, none⟩ = some (.int .i64 (M : Int)) ∧ w.cell? ⟨kb, 2, none⟩ = some (.int .u32 (m : Int)) ∧ w.cell? ⟨kb, 19, none⟩ = some (.int .i64 (next : Int)) ∧ w.cell? ⟨kb, 20, none⟩ = some (.int .u32 (sum : Int)) ∧ w.cell? ⟨kb, 21, none⟩ = some (.int .i64 (size : Int)) ∧ w.cell? ⟨kb, 22, none⟩ = some lv ∧ (∀ p, p < 16 → w.cell? ⟨kb, 3 + p, none⟩ = some (.int .u32 (r p : Int))) ∧ ∀ p, w.frozen? ⟨kb, p, none⟩ = false := by
  refine ⟨?_, ?_, ?_, ?_, ?_, ?_, ?_, fun p hp => ?_, fun p => ?_⟩
  · simp [World.cell?, h, cutC]
  · simp [World.cell?, h, cutC]
  · simp [World.cell?, h, cutC]
  · simp [World.cell?, h, cutC]
  · simp [World.cell?, h, cutC]
  · simp [World.cell?, h, cutC]
  · simp [World.cell?, h, cutC]
  · simp [World.cell?, h, cutC_ring hp]
  · simp [World.frozen?, h]
theorem only_drew (S : Nat → Prop) (w : World) : Only S w w.drew := ⟨rfl, rfl, rfl, Nat.le_refl _, fun _ _ _ => rfl⟩
set_option maxHeartbeats 8000000 in
theorem cut_pass {kb l m M n : Nat} {pre : List UInt8} {lv : Value} {w : World} {b : UInt8} (h : Hid (CutB kb l m M pre n lv w)) (m1 : 1 ≤ m) (m2 : m ≤ 65536) (hl : l ≤ 4096) (hM : M ≤ 4096) (hn : n ≤ 100000000) :
    Calls Try.prog 26 #[.pointer (some ⟨kb, 0, none⟩), .int .u8 (b.toNat : Int)] w fun e w' => e = .returned (.bool (endB ⟨l, m, M⟩ (n + 1) (sumW (pre ++ [b])))) ∧ CutB kb l m M (pre ++ [b]) (if endB ⟨l, m, M⟩ (n + 1) (sumW (pre ++ [b])) = true then 0 else n + 1) lv w' ∧ Only (fun k => k = kb) w w' := by
  obtain ⟨W, hW⟩ := win_out pre
  have hsn := sum_next pre b _ W hW
  have hs1 := sumW_lt pre
  have hs2 := sumW_lt (pre ++ [b])
  have hro := ring_le pre (pre.length % 16)
  have HRN := Lib.hid (ring_next pre b)
  have hnx : (pre ++ [b]).length % 16 = (pre.length % 16 + 1) % 16 := by rw [List.length_append, List.length_singleton]; omega
  have hB := h.out
  unfold CutB at hB ⊢
  rw [hnx]
  obtain ⟨r', hr'⟩ : ∃ r', r' = ring (pre ++ [b]) := ⟨_, rfl⟩
  rw [← hr'] at HRN ⊢
  obtain ⟨nx, hnxd⟩ : ∃ nx, nx = pre.length % 16 := ⟨_, rfl⟩
  have hnx16 : nx < 16 := by omega
  rw [← hnxd] at hsn hro hB HRN ⊢
  obtain ⟨s, hs⟩ : ∃ s, s = sumW pre := ⟨_, rfl⟩
  rw [← hs] at hsn hs1 hB
  obtain ⟨s', hs'⟩ : ∃ s', s' = sumW (pre ++ [b]) := ⟨_, rfl⟩
  rw [← hs'] at hsn hs2 ⊢
  obtain ⟨r, hr⟩ : ∃ r, r = ring pre := ⟨_, rfl⟩
  rw [← hr] at hsn hro hB HRN
  obtain ⟨u, hu⟩ : ∃ u, u = up b := ⟨_, rfl⟩
  have hub : (b.toNat : Int) + 1 = (u : Int) := by rw [hu]; rfl
  have hu6 : u ≤ 256 := by rw [hu]; exact up_le b
  rw [← hu] at hsn HRN
  have hbb := b.toNat_lt
  generalize b.toNat = bn at *
  clear hW hr' hnxd hs hs' hr hu hnx h
  have HS := Lib.hid hsn
  have HE := Lib.hid (fun W => rule_ended (l := l) (m := m) (M := M) (n := n + 1) (s := s') W m1 m2 hl hM (by omega) hs2)
  obtain ⟨q, hq⟩ : ∃ q, q = n + 1 := ⟨_, rfl⟩
  rw [← hq] at HE ⊢
  have hqi : (n : Int) + 1 = (q : Int) := by omega
  have hqb : q ≤ 100000001 := by omega
  obtain ⟨en, hen⟩ : ∃ en, en = endB ⟨l, m, M⟩ q s' := ⟨_, rfl⟩
  clear hq
  rw [← hen] at HE ⊢
  obtain ⟨nx', hnx'⟩ : ∃ nx', nx' = (nx + 1) % 16 := ⟨_, rfl⟩
  have hnm : ((nx : Int) + 1).tmod 16 = (nx' : Int) := by rw [Int.tmod_eq_emod_of_nonneg (by omega), hnx']; omega
  rw [← hnx']
  have hnx6 : nx' < 16 := by omega
  clear hnx'
  have HB := Lib.hid hB
  clear hB hsn hen
  obtain ⟨c0, c1, c2, c19, c20, c21, c22, cr, cf⟩ := cutC_cells HB.out
  have f20 := cf 20
  go_enter Try.func26, Try.ntmps26
  go_wp2_with fail
  go_quiet (fail)
  have BQ := below_drewN (Below.refl w.heap.size w) nq
  have HBQ := Lib.hid ((BQ.block kb (heap_lt HB.out)).trans HB.out)
  have OQ := Lib.hid (show Only (fun k => k = kb) w (w.drewN nq) from Only.of_below BQ (fun k h1 h2 => by omega))
  generalize w.drewN nq = w1 at *
  clear HB c0 c1 c2 c19 c20 c21 c22 cr cf f20 BQ
  obtain ⟨c0, c1, c2, c19, c20, c21, c22, cr, cf⟩ := cutC_cells HBQ.out
  have f20 := cf 20
  clear cf
  go_upto_region 3 with (fail)
  rw [HS.out]
  obtain ⟨w2, hw2⟩ : ∃ w2, w2 = w1.setCell ⟨kb, 20, none⟩ (.int .u32 (s' : Int)) := ⟨_, rfl⟩
  have HB2 := Lib.hid (show w2.heap[kb]? = some (.cells (cutC l m M r nx s' n lv) 56 (0, 0)) from by rw [hw2]; exact heap_set HBQ.out _)
  have O2 := Lib.hid (show Only (fun k => k = kb) w w2 from by rw [hw2]; exact OQ.out.setCell (.inl rfl) _)
  rw [← hw2]
  clear hw2 HBQ OQ c0 c1 c2 c19 c20 c21 c22 cr f20
  obtain ⟨c0, c1, c2, c19, c20, c21, c22, cr, cf⟩ := cutC_cells HB2.out
  have f3 := cf (3 + nx)
  clear cf
  go_region
  obtain ⟨w3, hw3⟩ : ∃ w3, w3 = (w2.setCell ⟨kb, 3 + nx, none⟩ (.int .u32 (u : Int))).drew := ⟨_, rfl⟩
  have HB3 := Lib.hid (show w3.heap[kb]? = some (.cells (cutC l m M r' nx s' n lv) 56 (0, 0)) from by
    rw [hw3]
    show (w2.setCell ⟨kb, 3 + nx, none⟩ (.int .u32 (u : Int))).heap[kb]? = _
    rw [heap_set HB2.out, cutC_put hnx16, cutC_same (fun p hp => (HRN.out p hp).symm)])
  have O3 := Lib.hid (show Only (fun k => k = kb) w w3 from by rw [hw3]; exact (O2.out.setCell (.inl rfl) _).trans (only_drew _ _))
  rw [← hw3]
  clear hw3 HB2 O2 c0 c1 c2 c19 c20 c21 c22 cr f3
  obtain ⟨c0, c1, c2, c19, c20, c21, c22, cr, cf⟩ := cutC_cells HB3.out
  have f19 := cf 19
  have f21 := cf 21
  clear cr
  go_upto_region 6 with (fail)
  obtain ⟨w5, hw5⟩ : ∃ w5, w5 = (w3.setCell ⟨kb, 19, none⟩ (.int .i64 (nx' : Int))).setCell ⟨kb, 21, none⟩ (.int .i64 (q : Int)) := ⟨_, rfl⟩
  have HB5 := Lib.hid (show w5.heap[kb]? = some (.cells (cutC l m M r' nx' s' q lv) 56 (0, 0)) from by rw [hw5]; exact heap_set (heap_set HB3.out _) _)
  have O5 := Lib.hid (show Only (fun k => k = kb) w w5 from by rw [hw5]; exact (O3.out.setCell (.inl rfl) _).setCell (.inl rfl) _)
  rw [← hw5]
  clear hw5 HB3 O3 c0 c1 c2 c19 c20 c21 c22 cf f19 f21
  refine wp_region_kept (fun W => Below w5.heap.size w5 W) (by kernel_rfl) ?_
  change wpAnyE _ _ _ _ _ _ _ _ _ w5.drew
  have hS : Below w5.heap.size w5 w5.drew := (Below.refl _ _).drew
  generalize w5.drew = w6 at *
  refine kept_take (i := 0) (d := 57) (v := (.pointer (some ⟨kb, 0, none⟩))) rfl rfl (by kernel_rfl) (by kernel_rfl) (by kernel_rfl) (fun _ _ _ h => h) (Or.inl ⟨by rfl, ?_⟩) hS ?_
  · intro w' hw'
    go_simp
  try go_frame
  refine kept_take (i := 1) (d := 58) (v := (.pointer (some ⟨kb, 0, none⟩))) rfl rfl (by kernel_rfl) (by kernel_rfl) (by kernel_rfl) (fun _ _ _ h => h) (Or.inl ⟨by rfl, ?_⟩) hS ?_
  · intro w' hw'
    go_simp
  try go_frame
  refine kept_take (i := 2) (d := 59) (v := (.pointer (some ⟨kb, 0, none⟩))) rfl rfl (by kernel_rfl) (by kernel_rfl) (by kernel_rfl) (fun _ _ _ h => h) (Or.inl ⟨by rfl, ?_⟩) hS ?_
  · intro w' hw'
    go_simp
  try go_frame
  refine kept_take (i := 3) (d := 60) (v := (.agg #[.int .i64 (l : Int), .int .i64 (M : Int), .int .u32 (m : Int)])) rfl rfl (by kernel_rfl) (by kernel_rfl) (by kernel_rfl) (fun _ _ _ h => h) (Or.inl ⟨by rfl, ?_⟩) hS ?_
  · intro w' hw'
    obtain ⟨c0, c1, c2, c19, c20, c21, c22, cr, cf⟩ := cutC_cells ((hw'.block kb (heap_lt HB5.out)).trans HB5.out)
    go_simp
  try go_frame
  refine kept_take (i := 4) (d := 61) (v := (.pointer (some ⟨kb, 0, none⟩))) rfl rfl (by kernel_rfl) (by kernel_rfl) (by kernel_rfl) (fun _ _ _ h => h) (Or.inl ⟨by rfl, ?_⟩) hS ?_
  · intro w' hw'
    go_simp
  try go_frame
  refine kept_take (i := 5) (d := 62) (v := (.pointer (some ⟨kb, 0, none⟩))) rfl rfl (by kernel_rfl) (by kernel_rfl) (by kernel_rfl) (fun _ _ _ h => h) (Or.inl ⟨by rfl, ?_⟩) hS ?_
  · intro w' hw'
    go_simp
  try go_frame
  refine kept_take (i := 6) (d := 63) (v := (.pointer (some ⟨kb, 21, none⟩))) rfl rfl (by kernel_rfl) (by kernel_rfl) (by kernel_rfl) (fun _ _ _ h => h) (Or.inl ⟨by rfl, ?_⟩) hS ?_
  · intro w' hw'
    go_simp
  try go_frame
  refine kept_take (i := 7) (d := 64) (v := (.int .i64 (q : Int))) rfl rfl (by kernel_rfl) (by kernel_rfl) (by kernel_rfl) (fun _ _ _ h => h) (Or.inl ⟨by rfl, ?_⟩) hS ?_
  · intro w' hw'
    obtain ⟨c0, c1, c2, c19, c20, c21, c22, cr, cf⟩ := cutC_cells ((hw'.block kb (heap_lt HB5.out)).trans HB5.out)
    go_simp
  try go_frame
  refine kept_take (i := 8) (d := 65) (v := (.pointer (some ⟨kb, 0, none⟩))) rfl rfl (by kernel_rfl) (by kernel_rfl) (by kernel_rfl) (fun _ _ _ h => h) (Or.inl ⟨by rfl, ?_⟩) hS ?_
  · intro w' hw'
    go_simp
  try go_frame
  refine kept_take (i := 9) (d := 66) (v := (.pointer (some ⟨kb, 0, none⟩))) rfl rfl (by kernel_rfl) (by kernel_rfl) (by kernel_rfl) (fun _ _ _ h => h) (Or.inl ⟨by rfl, ?_⟩) hS ?_
  · intro w' hw'
    go_simp
  try go_frame
  refine kept_take (i := 10) (d := 67) (v := (.pointer (some ⟨kb, 20, none⟩))) rfl rfl (by kernel_rfl) (by kernel_rfl) (by kernel_rfl) (fun _ _ _ h => h) (Or.inl ⟨by rfl, ?_⟩) hS ?_
  · intro w' hw'
    go_simp
  try go_frame
  refine kept_take (i := 11) (d := 68) (v := (.int .u32 (s' : Int))) rfl rfl (by kernel_rfl) (by kernel_rfl) (by kernel_rfl) (fun _ _ _ h => h) (Or.inl ⟨by rfl, ?_⟩) hS ?_
  · intro w' hw'
    obtain ⟨c0, c1, c2, c19, c20, c21, c22, cr, cf⟩ := cutC_cells ((hw'.block kb (heap_lt HB5.out)).trans HB5.out)
    go_simp
  try go_frame
  refine wpAnyE_ready (rs := [12]) (by kernel_rfl) (by simp) (AllE.cons rfl (fun K hK0 => ?_) AllE.nil)
  go_simp
  refine Calls.mono (HE.out _) ?_
  rintro e w7 ⟨rfl, k⟩
  have hS2 : Below w5.heap.size w5 w7 := hS.trans (k.mono hS.size)
  refine hK0.out _ _ (fun _ => hS2) (fun _ => ?_)
  clear hK0 K hS k
  have hS := hS2
  clear hS2
  try go_frame
  refine kept_take (i := 13) (d := 70) (v := (.bool (!en))) rfl rfl (by kernel_rfl) (by kernel_rfl) (by kernel_rfl) (fun _ _ _ h => h) (Or.inl ⟨by rfl, ?_⟩) hS ?_
  · intro w' hw'
    go_simp
  try go_frame
  refine wpAnyE_done (by kernel_rfl) ?_ _
  have HB7 := Lib.hid ((hS.block kb (heap_lt HB5.out)).trans HB5.out)
  have O7 := Lib.hid (show Only (fun k => k = kb) w w7 from O5.out.trans (Only.of_below hS (fun k h1 h2 => by omega)))
  clear hS HB5 O5
  obtain ⟨c0, c1, c2, c19, c20, c21, c22, cr, cf⟩ := cutC_cells HB7.out
  have f21 := cf 21
  clear cr cf
  cases en with
  | false =>
    go_wp2
    go_ret
    exact ⟨rfl, HB7.out, O7.out⟩
  | true =>
    go_wp2
    go_ret
    exact ⟨rfl, heap_set HB7.out _, O7.out.setCell (.inl rfl) _⟩
end Go.Proofs.Ytcjpemkafncihaa
/- Where chunks end, place by place; the chunks themselves. -/
set_option linter.unusedVariables false
namespace Go.Proofs.Ytcjpemkafncihaa
open Go.RowKit

/-- Behind i bytes of D: how many stand behind the last end. -/
def szA (c : Cf) (pre D : List UInt8) (n : Nat) : Nat → Nat
  | 0 => n
  | i + 1 => if endB c (szA c pre D n i + 1) (sumW (pre ++ D.take (i + 1))) = true then 0 else szA c pre D n i + 1
/-- Does a chunk end behind byte i? -/
def eA (c : Cf) (pre D : List UInt8) (n i : Nat) : Bool := endB c (szA c pre D n i + 1) (sumW (pre ++ D.take (i + 1)))
/-- The places in the first i bytes at which a chunk ends. -/
def enA (c : Cf) (pre D : List UInt8) (n : Nat) : Nat → List Nat
  | 0 => []
  | i + 1 => enA c pre D n i ++ (if eA c pre D n i = true then [i + 1] else [])
section
variable {c : Cf} {pre D : List UInt8} {n : Nat}
theorem szA_le (i : Nat) : szA c pre D n i ≤ n + i := by
  induction i with
  | zero => exact Nat.le_refl _
  | succ i ih => rw [szA]; split <;> omega
theorem enA_app (i j : Nat) (h : i ≤ j) : ∃ t, enA c pre D n j = enA c pre D n i ++ t := by
  induction j with
  | zero => obtain rfl : i = 0 := by omega
            exact ⟨[], by simp⟩
  | succ j ih =>
    by_cases hij : i = j + 1
    · subst hij; exact ⟨[], by simp⟩
    · obtain ⟨t, ht⟩ := ih (by omega)
      exact ⟨t ++ (if eA c pre D n j = true then [j + 1] else []), by rw [enA, ht, List.append_assoc]⟩
theorem enA_at {i j : Nat} (h : i < j) (he : eA c pre D n i = true) : (enA c pre D n j)[(enA c pre D n i).length]? = some (i + 1) := by
  obtain ⟨t, ht⟩ := enA_app (c := c) (pre := pre) (D := D) (n := n) (i + 1) j h
  rw [ht, enA, if_pos he, List.append_assoc, List.getElem?_append_right (Nat.le_refl _)]
  simp
theorem enA_le (i : Nat) : ∀ e ∈ enA c pre D n i, e ≤ i ∧ 1 ≤ e := by
  induction i with
  | zero => intro e he; cases he
  | succ i ih =>
    intro e he
    rw [enA] at he
    rcases List.mem_append.1 he with h | h
    · have := ih e h; omega
    · split at h
      · simp at h; omega
      · cases h
theorem enA_len (i : Nat) : (enA c pre D n i).length ≤ i := by
  induction i with
  | zero => exact Nat.le_refl _
  | succ i ih => rw [enA, List.length_append]; split <;> simp <;> omega
/-- The last place: where a chunk ended last. -/
theorem enA_last (i : Nat) (hn : n = 0) : szA c pre D n i + (enA c pre D n i).getLastD 0 = i := by
  induction i with
  | zero => simp [szA, enA, hn]
  | succ i ih =>
    rw [enA, szA]
    by_cases he : eA c pre D n i = true
    · rw [if_pos he, if_pos (show endB c (szA c pre D n i + 1) (sumW (pre ++ D.take (i + 1))) = true from he)]
      simp
    · rw [if_neg he, if_neg (show ¬ endB c (szA c pre D n i + 1) (sumW (pre ++ D.take (i + 1))) = true from he), List.append_nil]
      omega
end
/-- The chunks: from b on, the ends as listed. -/
def prs (D : List UInt8) : Nat → List Nat → List (Nat × List UInt8)
  | b, [] => if b < D.length then [(b, D.drop b)] else []
  | b, e :: es => (b, (D.take e).drop b) :: prs D e es
/-- The chunks that end at the places listed. -/
def prE (D : List UInt8) : Nat → List Nat → List (Nat × List UInt8)
  | _, [] => []
  | b, e :: es => (b, (D.take e).drop b) :: prE D e es
theorem prE_snoc (D : List UInt8) (b : Nat) (L : List Nat) (e : Nat) : prE D b (L ++ [e]) = prE D b L ++ [(L.getLastD b, (D.take e).drop (L.getLastD b))] := by
  induction L generalizing b with
  | nil => rfl
  | cons x L ih =>
    rw [List.cons_append, prE, prE, ih x, List.cons_append]
    cases L <;> rfl
theorem prs_prE (D : List UInt8) (b : Nat) (L : List Nat) : prs D b L = prE D b L ++ prs D (L.getLastD b) [] := by
  induction L generalizing b with
  | nil => rfl
  | cons x L ih =>
    show (b, (D.take x).drop b) :: prs D x L = (b, (D.take x).drop b) :: (prE D x L ++ prs D ((x :: L).getLastD b) [])
    rw [ih x]
    cases L <;> rfl
theorem prE_len (D : List UInt8) (b : Nat) (L : List Nat) : (prE D b L).length = L.length := by
  induction L generalizing b with
  | nil => rfl
  | cons x L ih => rw [prE, List.length_cons, List.length_cons, ih]
/-- Their lengths are the document's. -/
theorem cut_steps (c : Cf) (pre D : List UInt8) (i : Nat) (h : i ≤ D.length) :
    cutF c pre 0 D = (prE D 0 (enA c pre D 0 i)).map (·.2.length) ++ cutF c (pre ++ D.take i) (szA c pre D 0 i) (D.drop i) := by
  induction i with
  | zero => simp [enA, prE, szA]
  | succ i ih =>
    have hi : i < D.length := h
    rw [ih (by omega)]
    rw [List.drop_eq_getElem_cons hi, cutF]
    have ht : D.take (i + 1) = D.take i ++ [D[i]] := by rw [List.take_add_one, List.getElem?_eq_getElem hi]; rfl
    have hp : pre ++ D.take i ++ [D[i]] = pre ++ D.take (i + 1) := by rw [ht, List.append_assoc]
    rw [hp, enA, szA]
    by_cases he : eA c pre D 0 i = true
    · rw [if_pos he, if_pos (show endB c (szA c pre D 0 i + 1) (sumW (pre ++ D.take (i + 1))) = true from he), if_pos (show endB c (szA c pre D 0 i + 1) (sumW (pre ++ D.take (i + 1))) = true from he), prE_snoc, List.map_append, List.append_assoc]
      congr 1
      rw [List.map_cons, List.map_nil, List.singleton_append]
      congr 1
      have hl := enA_last (c := c) (pre := pre) (D := D) (n := 0) i rfl
      rw [List.length_drop, List.length_take, Nat.min_eq_left h]
      omega
    · rw [if_neg he, if_neg (show ¬ endB c (szA c pre D 0 i + 1) (sumW (pre ++ D.take (i + 1))) = true from he), if_neg (show ¬ endB c (szA c pre D 0 i + 1) (sumW (pre ++ D.take (i + 1))) = true from he), List.append_nil]
theorem cut_prs (c : Cf) (D : List UInt8) : (prs D 0 (enA c [] D 0 D.length)).map (·.2.length) = cutF c [] 0 D := by
  have h := cut_steps c [] D D.length (Nat.le_refl _)
  have hl := enA_last (c := c) (pre := []) (D := D) (n := 0) D.length rfl
  rw [h, prs_prE, List.map_append, List.drop_length, cutF, prs]
  congr 1
  by_cases h0 : 0 < szA c [] D 0 D.length
  · rw [if_pos h0, if_pos (by omega)]
    simp only [List.map_cons, List.map_nil, List.length_drop]
    congr 1
    omega
  · rw [if_neg h0, if_neg (by omega)]
    rfl
end Go.Proofs.Ytcjpemkafncihaa
