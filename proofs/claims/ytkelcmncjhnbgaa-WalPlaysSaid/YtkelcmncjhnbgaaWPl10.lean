/- Texts put together: WalPlayMem, WalStepNone, WalStepSync, WalStepWrite, WalFramesWalk, WalNum -/
import Derived.Test.YtkelcmncjhnbgaaWPl09
import Derived.Test.YtkelcmncjhnbgaaWPl04
/- The law's disk, log and rows of records in memory: what its own writes and the calls of the log leave. -/
set_option linter.unusedVariables false
set_option maxRecDepth 100000
namespace Go.Proofs.Ytkelcmncjhnbgaa
open Go.RowKit

theorem Only.cell {S : Nat → Prop} {a b : World} (k : Only S a b) {p : Addr} (hb : p.block < a.heap.size) (hS : ¬ S p.block) : b.cell? p = a.cell? p := by
  simp only [World.cell?, k.block p.block hb hS]
theorem Only.of_grown {a b c : World} {row : Option Nat} (k1 : Below a.heap.size a b) (hg : b.grownBy c row) : Only (fun k => row = some k) a c :=
  (Only.of_below (S := fun k => row = some k) k1 (fun k hk hB => absurd hk (by omega))).grown hg fun j hj => .inl hj
/-- The cells of the law's variable. -/
def xcells (d lb : Nat) (file : Int) (v1 v2 v3 : Value) (su : Nat) : Array Value := #[.pointer (some ⟨d, 0, none⟩), .pointer (some ⟨lb, 0, none⟩), .int .i64 file, v1, v2, v3, .int .i64 (su : Int)]
/-- In block xb stands the law's variable: records that wait, that were written, that perhaps were; none of it is of O (the disk and the log). -/
structure MemR (B : Nat) (w : World) (xb lb d : Nat) (file : Int) (O : Nat → Prop) (v1 v2 v3 : Value) (wait writ may : List (List UInt8)) (su : Nat) : Prop where
  tight : ∀ k, O k → B ≤ k ∧ k < w.heap.size
  obj : w.heap[xb]? = some (.cells (xcells d lb file v1 v2 v3 su) 49 (0, 0))
  xlo : B ≤ xb
  xno : ¬ O xb
  o1 : OwnT w B v1 wait
  n1 : ∀ g, v1.ownBlock = some g → ¬ O g
  o2 : OwnT w B v2 writ
  n2 : ∀ g, v2.ownBlock = some g → ¬ O g
  o3 : OwnT w B v3 may
  n3 : ∀ g, v3.ownBlock = some g → ¬ O g
  d12 : ∀ g, v1.ownBlock = some g → v2.ownBlock ≠ some g
  s3 : ∀ g, v3.ownBlock = some g → v1.ownBlock = some g → ∃ a m c, v1 = .slice a wait.length c ∧ v3 = .slice a m c ∧ m ≤ wait.length ∧ may = wait.take m
/-- A slice's first elements. -/
theorem OwnT.take {w : World} {B : Nat} {a : Option Addr} {m n c : Nat} {T : List (List UInt8)} (h : OwnT w B (.slice a n c) T) (hn : n = T.length) (hm : m ≤ n) : OwnT w B (.slice a m c) (T.take m) := by
  have hl : (T.take m).length = m := by rw [List.length_take]; omega
  have hs : scells (T.take m) = (scells T).take m := by simp [scells, List.map_take]
  unfold OwnT at h ⊢
  rw [hl, hs]
  have hlen : (scells T).length = T.length := by simp [scells]
  refine ⟨by rw [List.length_take, hlen]; omega, ?_⟩
  rcases h.2 with ⟨h0, h1⟩ | ⟨g, off, cap, cur, h0, hB, hg, h1, h2, h3, h4⟩
  · injection h0 with e1 e2 e3
    subst e1 e3
    obtain rfl : m = 0 := by omega
    exact .inl ⟨rfl, rfl⟩
  · injection h0 with e1 e2 e3
    subst e1 e3
    exact .inr ⟨g, off, c, cur, rfl, hB, hg, by omega, h2, h3, fun j hj => by rw [h4 j (by omega), List.getElem?_take, if_pos (by omega)]⟩
theorem OwnT.kept {w w' : World} {B : Nat} {v : Value} {T : List (List UInt8)} (h : OwnT w B v T) (k : ∀ j, v.ownBlock = some j → w'.heap[j]? = w.heap[j]?) : OwnT w' B v T := OffRow.kept h k
namespace MemR
variable {B : Nat} {w w' : World} {xb lb d su : Nat} {file : Int} {O : Nat → Prop} {v1 v2 v3 : Value} {wait writ may : List (List UInt8)}
theorem rows_x (h : MemR B w xb lb d file O v1 v2 v3 wait writ may su) {v : Value} {T : List (List UInt8)} (o : OwnT w B v T) {g : Nat} (hg : v.ownBlock = some g) : g ≠ xb := by
  intro e
  subst e
  obtain ⟨cur, hc⟩ := OffRow.tag o hg
  rw [h.obj] at hc
  injection hc with hc
  injection hc with _ hc
  revert hc
  decide
theorem lt1 (o : OwnT w B v1 wait) {g : Nat} (hg : v1.ownBlock = some g) : g < w.heap.size := (OffRow.lt o g hg).2
/-- Where all that isn't of O is kept. -/
theorem called {O' : Nat → Prop} (h : MemR B w xb lb d file O v1 v2 v3 wait writ may su) (k : Only O w w') (hO : ∀ j, O' j → (O j ∨ w.heap.size ≤ j) ∧ j < w'.heap.size) (hB : B ≤ w.heap.size) : MemR B w' xb lb d file O' v1 v2 v3 wait writ may su := by
  have no : ∀ (v : Value) (T : List (List UInt8)), OwnT w B v T → (∀ g, v.ownBlock = some g → ¬ O g) → ∀ g, v.ownBlock = some g → ¬ O' g := fun v T o n g hg x => by
    rcases (hO g x).1 with y | y
    · exact n g hg y
    · have := (OffRow.lt o g hg).2; omega
  refine ⟨fun j hj => ⟨?_, (hO j hj).2⟩, (k.block xb (heap_lt h.obj) h.xno).trans h.obj, h.xlo, fun x => ?_, h.o1.kept (fun j hj => k.block j (OffRow.lt h.o1 j hj).2 (h.n1 j hj)), no _ _ h.o1 h.n1, h.o2.kept (fun j hj => k.block j (OffRow.lt h.o2 j hj).2 (h.n2 j hj)), no _ _ h.o2 h.n2, h.o3.kept (fun j hj => k.block j (OffRow.lt h.o3 j hj).2 (h.n3 j hj)), no _ _ h.o3 h.n3, h.d12, h.s3⟩
  · rcases (hO j hj).1 with y | y
    · exact (h.tight j y).1
    · omega
  · rcases (hO xb x).1 with y | y
    · exact h.xno y
    · have := heap_lt h.obj; omega
theorem below (h : MemR B w xb lb d file O v1 v2 v3 wait writ may su) (k : Below w.heap.size w w') (hB : B ≤ w.heap.size) : MemR B w' xb lb d file O v1 v2 v3 wait writ may su :=
  h.called (Only.of_below (S := O) k (fun k hk hB => absurd hk (by omega))) (fun j hj => ⟨.inl hj, Nat.lt_of_lt_of_le (h.tight j hj).2 k.size⟩) hB
/-- A write of the law's own into its variable. -/
theorem store {i : Nat} {u v1' v2' v3' : Value} {wait' writ' may' : List (List UInt8)} {su' : Nat} (h : MemR B w xb lb d file O v1 v2 v3 wait writ may su)
    (hc : (xcells d lb file v1 v2 v3 su).setIfInBounds i u = xcells d lb file v1' v2' v3' su')
    (o1 : OwnT w B v1' wait') (n1 : ∀ g, v1'.ownBlock = some g → ¬ O g) (o2 : OwnT w B v2' writ') (n2 : ∀ g, v2'.ownBlock = some g → ¬ O g) (o3 : OwnT w B v3' may') (n3 : ∀ g, v3'.ownBlock = some g → ¬ O g)
    (d12 : ∀ g, v1'.ownBlock = some g → v2'.ownBlock ≠ some g)
    (s3 : ∀ g, v3'.ownBlock = some g → v1'.ownBlock = some g → ∃ a m c, v1' = .slice a wait'.length c ∧ v3' = .slice a m c ∧ m ≤ wait'.length ∧ may' = wait'.take m) :
    MemR B (w.setCell ⟨xb, i, none⟩ u) xb lb d file O v1' v2' v3' wait' writ' may' su' ∧ Only (fun k => k = xb) w (w.setCell ⟨xb, i, none⟩ u) := by
  have k := (Only.refl (fun k => k = xb) w).setCell (p := ⟨xb, i, none⟩) (.inl rfl) u
  have kp : ∀ (v : Value) (T : List (List UInt8)), OwnT w B v T → OwnT (w.setCell ⟨xb, i, none⟩ u) B v T := fun v T o => o.kept fun j hj => k.block j (OffRow.lt o j hj).2 (h.rows_x o hj)
  refine ⟨⟨fun j hj => ⟨(h.tight j hj).1, Nat.lt_of_lt_of_le (h.tight j hj).2 k.size⟩, ?_, h.xlo, h.xno, kp _ _ o1, n1, kp _ _ o2, n2, kp _ _ o3, n3, d12, s3⟩, k⟩
  rw [heap_set h.obj u, hc]
/-- A record more that waits. -/
theorem push {w1 w3 : World} {v1' : Value} {t : List UInt8} (h : MemR B w xb lb d file O v1 v2 v3 wait writ may su) (k1 : Below w.heap.size w w1)
    (hr : OffRow w3 B 9 1 v1' (wait.length + 1) (scells wait ++ [.string (bs t)])) (hg : w1.grownBy w3 v1.ownBlock)
    (hk : OffRow w3 B 9 1 v1 wait.length (scells wait) ∧ ((∃ a cap, v1 = .slice a wait.length cap ∧ v1' = .slice a (wait.length + 1) cap) ∨ v1'.ownBlock = some w1.heap.size)) :
    MemR B (w3.setCell ⟨xb, 3, none⟩ v1') xb lb d file O v1' v2 v3 (wait ++ [t]) writ may su ∧ Only (fun k => k = xb ∨ v1.ownBlock = some k) w (w3.setCell ⟨xb, 3, none⟩ v1') ∧ w3.cell? ⟨xb, 3, none⟩ = some v1 ∧ w3.frozen? ⟨xb, 3, none⟩ = false := by
  have k3 := Only.of_grown k1 hg
  have hx3 : w3.heap[xb]? = some (.cells (xcells d lb file v1 v2 v3 su) 49 (0, 0)) := (k3.block xb (heap_lt h.obj) fun e => h.rows_x h.o1 e rfl).trans h.obj
  have o1' : OwnT w3 B v1' (wait ++ [t]) := by unfold OwnT; rw [List.length_append, scells_snoc]; exact hr
  have ho2 : OwnT w3 B v2 writ := h.o2.kept fun j hj => k3.block j (OffRow.lt h.o2 j hj).2 fun e => h.d12 j e hj
  have ho1 : OwnT w3 B v1 wait := hk.1
  have ho3 : OwnT w3 B v3 may := by
    by_cases hs : ∃ g, v3.ownBlock = some g ∧ v1.ownBlock = some g
    · obtain ⟨g, a1, a2⟩ := hs
      obtain ⟨a, m, c, e1, e2, e3, e4⟩ := h.s3 g a1 a2
      rw [e2, e4]
      rw [e1] at ho1
      exact ho1.take rfl e3
    · exact h.o3.kept fun j hj => k3.block j (OffRow.lt h.o3 j hj).2 fun e => hs ⟨j, hj, e⟩
  have h3 : MemR B w3 xb lb d file O v1 v2 v3 wait writ may su := ⟨fun j hj => ⟨(h.tight j hj).1, Nat.lt_of_lt_of_le (h.tight j hj).2 k3.size⟩, hx3, h.xlo, h.xno, ho1, h.n1, ho2, h.n2, ho3, h.n3, h.d12, h.s3⟩
  have hsz := k1.size
  obtain ⟨m4, k4⟩ := h3.store (i := 3) (u := v1') (v1' := v1') (v2' := v2) (v3' := v3) (su' := su) (wait' := wait ++ [t]) (writ' := writ) (may' := may) rfl o1' (fun g hg' x => by
      rcases hk.2 with ⟨a, cap, e1, e2⟩ | e
      · rw [e2] at hg'
        refine h.n1 g ?_ x
        rw [e1]
        rw [← hg']
        cases a <;> rfl
      · rw [e] at hg'
        injection hg' with hg'
        have := (h.tight g x).2
        omega) ho2 h.n2 ho3 h.n3 (fun g hg' e2 => by
      rcases hk.2 with ⟨a, cap, e1, e3⟩ | e
      · refine h.d12 g ?_ e2
        rw [e1]
        rw [e3] at hg'
        rw [← hg']
        cases a <;> rfl
      · rw [e] at hg'
        injection hg' with hg'
        have := (OffRow.lt h.o2 g e2).2
        omega) (fun g g3 g1 => by
      rcases hk.2 with ⟨a, cap, e1, e3⟩ | e
      · have g1' : v1.ownBlock = some g := by
          rw [e1]
          rw [e3] at g1
          rw [← g1]
          cases a <;> rfl
        obtain ⟨a', m, c, q1, q2, q3, q4⟩ := h.s3 g g3 g1'
        rw [e1] at q1
        injection q1 with q1 _ q5
        subst q1 q5
        exact ⟨a, m, cap, by rw [e3, List.length_append]; rfl, q2, by rw [List.length_append]; omega, by rw [q4, List.take_append_of_le_length q3]⟩
      · rw [e] at g1
        injection g1 with g1
        have := (OffRow.lt h.o3 g g3).2
        omega)
  refine ⟨m4, (k3.mono fun k _ e => .inr e).andThen k4 (fun j _ e => .inl e), ?_, ?_⟩
  · simp [World.cell?, hx3, xcells]
  · simp [World.frozen?, hx3]
/-- The records that waited are written. -/
theorem pushed {w1 w3 : World} {v2' : Value} (h : MemR B w xb lb d file O v1 v2 v3 wait writ may su) (k1 : Below w.heap.size w w1) (hv3 : v3 = .slice none 0 0) (hmay : may = [])
    (hr : OffRow w3 B 9 1 v2' (writ.length + wait.length) (scells writ ++ scells wait)) (hg : w1.grownBy w3 v2.ownBlock) (hat : v2'.ownBlock = v2.ownBlock ∨ v2'.ownBlock = some w1.heap.size) :
    MemR B ((w3.setCell ⟨xb, 4, none⟩ v2').setCell ⟨xb, 3, none⟩ (.slice none 0 0)) xb lb d file O (.slice none 0 0) v2' v3 [] (writ ++ wait) may su ∧ Only (fun k => k = xb ∨ v2.ownBlock = some k) w ((w3.setCell ⟨xb, 4, none⟩ v2').setCell ⟨xb, 3, none⟩ (.slice none 0 0)) ∧
    w3.cell? ⟨xb, 4, none⟩ = some v2 ∧ w3.frozen? ⟨xb, 4, none⟩ = false ∧ (w3.setCell ⟨xb, 4, none⟩ v2').cell? ⟨xb, 3, none⟩ = some v1 ∧ (w3.setCell ⟨xb, 4, none⟩ v2').frozen? ⟨xb, 3, none⟩ = false := by
  have k3 := Only.of_grown k1 hg
  have hx3 : w3.heap[xb]? = some (.cells (xcells d lb file v1 v2 v3 su) 49 (0, 0)) := (k3.block xb (heap_lt h.obj) fun e => h.rows_x h.o2 e rfl).trans h.obj
  have o2' : OwnT w3 B v2' (writ ++ wait) := by unfold OwnT; rw [List.length_append, show scells (writ ++ wait) = scells writ ++ scells wait by simp [scells]]; exact hr
  have hn2 : ∀ g, v2'.ownBlock = some g → ¬ O g := fun g hg' x => by
    rcases hat with e | e
    · rw [e] at hg'; exact h.n2 g hg' x
    · rw [e] at hg'
      injection hg' with hg'
      have := (h.tight g x).2
      have := k1.size
      omega
  have hsz := k3.size
  subst hv3 hmay
  have g1 := heap_set (o := 4) hx3 v2'
  have g2 := heap_set (o := 3) g1 (.slice none 0 0)
  have kk := ((k3.mono (S' := fun k => k = xb ∨ v2.ownBlock = some k) fun k _ e => .inr e).setCell (p := ⟨xb, 4, none⟩) (.inl (.inl rfl)) v2').setCell (p := ⟨xb, 3, none⟩) (.inl (.inl rfl)) (.slice none 0 0)
  have hx2 : ∀ g, v2'.ownBlock = some g → g ≠ xb := fun g hg' e => by
    subst e
    obtain ⟨cur, hc⟩ := OffRow.tag o2' hg'
    rw [hx3] at hc
    injection hc with hc
    injection hc with _ hc
    revert hc
    decide
  refine ⟨⟨fun j hj => ⟨(h.tight j hj).1, Nat.lt_of_lt_of_le (h.tight j hj).2 kk.size⟩, g2, h.xlo, h.xno, OffRow.nil _ _ _ _, (fun g hg' => by simp [Value.ownBlock] at hg'), o2'.kept (fun j hj => (heap_set_other (hx2 j hj) _).trans (heap_set_other (hx2 j hj) _)), hn2, OffRow.nil _ _ _ _, (fun g hg' => by simp [Value.ownBlock] at hg'), (fun g hg' => by simp [Value.ownBlock] at hg'), (fun g hg' => by simp [Value.ownBlock] at hg')⟩, kk, ?_, ?_, ?_, ?_⟩
  · simp [World.cell?, hx3, xcells]
  · simp [World.frozen?, hx3]
  · simp [World.cell?, g1, xcells]
  · simp [World.frozen?, g1]
end MemR
/-- All of it. -/
def Mem (B : Nat) (w : World) (xb lb d : Nat) (p : PS) : Prop :=
  B ≤ w.heap.size ∧ ∃ O v1 v2 v3, MemR B w xb lb d p.file O v1 v2 v3 p.wait p.writ p.may p.sure ∧ Lg O w lb d p.s p.file (framesL p.wait) p.wait.length p.writ.length p.sure ∧ (p.s.down = false → v3 = .slice none 0 0)
theorem Mem.fit {B : Nat} {w : World} {xb lb d : Nat} {p : PS} (h : Mem B w xb lb d p) : p.s.Fit := by
  obtain ⟨_, O, v1, v2, v3, _, h2, _⟩ := h
  obtain ⟨S, hd⟩ := h2.disk
  exact hd.1
end Go.Proofs.Ytkelcmncjhnbgaa
/- A call of no kind; the end of each step. -/
set_option linter.unusedVariables false
set_option maxRecDepth 100000
namespace Go.Proofs.Ytkelcmncjhnbgaa
open Go.RowKit

/-- What a step leaves. -/
def StepPost (B : Nat) (w : World) (xb K N : Nat) (e : Ending) (w' : World) : Prop := ∃ lb d p, e = .returned (.bool true) ∧ Mem B w' xb lb d p ∧ PS.Ok p K N ∧ Below B w w'
theorem op_boxed (w : World) (k n : Int) (t : List UInt8) : (w.alloc (.cells #[.int .i64 k, .int .i64 n, .string (bs t)] 38)).heap[w.heap.size]? = some (.cells #[.int .i64 k, .int .i64 n, .string (bs t)] 38 (0, 0)) := heap_new w _
set_option maxHeartbeats 4000000 in
theorem step_none {B xb lb d K N : Nat} {p : PS} {k n : Int} {t : List UInt8} {w : World} (h : Hid (Mem B w xb lb d p)) (hp : Hid (p.Ok K N)) (hK : K ≤ 200) (ht : t.length ≤ 30000) (hk : k ≠ 1 ∧ k ≠ 2 ∧ k ≠ 3 ∧ k ≠ 4 ∧ k ≠ 5 ∧ k ≠ 6) :
    Calls Try.prog 19 #[.pointer (some ⟨xb, 0, none⟩), .agg #[.int .i64 k, .int .i64 n, .string (bs t)]] w fun e w' => StepPost B w xb (K + 1) (N + (t.length + 15)) e w' := by
  obtain ⟨hBw, O, v1, v2, v3, hR, hL, hC3⟩ := h.out
  have HB := Lib.hid hBw
  have hb0 := op_boxed w k n t
  obtain ⟨w1, hw1⟩ : ∃ w1, w1 = w.alloc (.cells #[.int .i64 k, .int .i64 n, .string (bs t)] 38) := ⟨_, rfl⟩
  rw [← hw1] at hb0
  obtain ⟨bo, hbo⟩ : ∃ bo, bo = w.heap.size := ⟨_, rfl⟩
  rw [← hbo] at hb0
  have k1 : Below w.heap.size w w1 := by rw [hw1]; exact (Below.refl _ _).alloc (Nat.le_refl _) _
  have HBO := Lib.hid (And.intro hb0 (show ¬ O bo from fun x => by have := (hR.tight bo x).2; omega))
  have R1 := Lib.hid (hR.below k1 hBw)
  have L1 := Lib.hid (hL.below k1)
  have K1 := Lib.hid (k1.mono hBw)
  have C3 := Lib.hid hC3
  have b0 : w1.cell? ⟨bo, 0, none⟩ = some (.int .i64 k) := by simp [World.cell?, hb0]
  clear hR hL k1 hC3 hBw hb0
  go_enter Try.func19, Try.ntmps19
  go_upto_region 1 with (fail)
  rw [← hw1, ← hbo]
  clear hw1 hbo
  have e1 : (k == 1) = false := beq_eq_false_iff_ne.2 hk.1
  have e2 : (k == 2) = false := beq_eq_false_iff_ne.2 hk.2.1
  have e3 : (k == 3) = false := beq_eq_false_iff_ne.2 hk.2.2.1
  have e4 : (k == 4) = false := beq_eq_false_iff_ne.2 hk.2.2.2.1
  have e5 : (k == 5) = false := beq_eq_false_iff_ne.2 hk.2.2.2.2.1
  have e6 : (k == 6) = false := beq_eq_false_iff_ne.2 hk.2.2.2.2.2
  clear hk
  obtain ⟨z1, hz1⟩ : ∃ z1, z1 = p.wait.length := ⟨_, rfl⟩
  obtain ⟨z2, hz2⟩ : ∃ z2, z2 = p.writ.length := ⟨_, rfl⟩
  have hx := R1.out.obj
  obtain ⟨a1, c1, hv1⟩ := OffRow.slice R1.out.o1
  obtain ⟨a2, c2, hv2⟩ := OffRow.slice R1.out.o2
  rw [← hz1] at hv1
  rw [← hz2] at hv2
  have LC := log_Counts L1
  rw [← hz1, ← hz2] at LC
  have hx1 : w1.cell? ⟨xb, 1, none⟩ = some (.pointer (some ⟨lb, 0, none⟩)) := by simp [World.cell?, hx, xcells]
  have hx3 : ∀ m, (w1.drewN m).cell? ⟨xb, 3, none⟩ = some (.slice a1 z1 c1) := fun m => by rw [← hv1]; show w1.cell? ⟨xb, 3, none⟩ = _; simp [World.cell?, hx, xcells]
  have hx4 : ∀ m, (w1.drewN m).cell? ⟨xb, 4, none⟩ = some (.slice a2 z2 c2) := fun m => by rw [← hv2]; show w1.cell? ⟨xb, 4, none⟩ = _; simp [World.cell?, hx, xcells]
  have hx6 : ∀ m, (w1.drewN m).cell? ⟨xb, 6, none⟩ = some (.int .i64 ((p.sure : Nat) : Int)) := fun m => by show w1.cell? ⟨xb, 6, none⟩ = _; simp [World.cell?, hx, xcells]
  clear hx hv1 hv2 hz1 hz2
  go_wp2_with fail
  refine LC.mono ?_
  rintro e w9 ⟨rfl, m9, rfl⟩
  have hy3 := hx3 m9
  have hy4 := hx4 m9
  have hy6 := hx6 m9
  clear hx3 hx4 hx6
  have HM := Lib.hid (show Mem B (w1.drewN m9) xb lb d p from ⟨Nat.le_trans HB.out K1.out.size, _, _, _, _, R1.out.below (below_drewN (Below.refl _ _) m9) (Nat.le_trans HB.out K1.out.size), L1.out.below (below_drewN (Below.refl _ _) m9), C3.out⟩)
  have HK9 := Lib.hid (below_drewN K1.out m9)
  generalize w1.drewN m9 = w9 at *
  go_wp2_with fail
  go_ret
  exact ⟨lb, d, _, rfl, HM.out, hp.out.more _, HK9.out⟩
end Go.Proofs.Ytkelcmncjhnbgaa
/- A step that makes the log sure. -/
set_option linter.unusedVariables false
set_option maxRecDepth 100000
namespace Go.Proofs.Ytkelcmncjhnbgaa
open Go.RowKit

theorem PS.Ok.more0 {p : PS} {K N : Nat} (h : p.Ok K N) (x : Nat) : p.Ok K (N + x) := ⟨h.r0, h.lo, h.hi, h.top, h.here, h.sureR, h.calm, h.small, h.lens, h.steps, by have := h.bulk; omega⟩
set_option maxHeartbeats 4000000 in
theorem step_sync {B xb lb d K N : Nat} {p : PS} {n : Int} {t : List UInt8} {w : World} (h : Hid (Mem B w xb lb d p)) (hp : Hid (p.Ok K N)) (hK : K ≤ 200) (ht : t.length ≤ 30000) :
    Calls Try.prog 19 #[.pointer (some ⟨xb, 0, none⟩), .agg #[.int .i64 3, .int .i64 n, .string (bs t)]] w fun e w' => StepPost B w xb (K + 1) (N + (t.length + 15)) e w' := by
  obtain ⟨hBw, O, v1, v2, v3, hR, hL, hC3⟩ := h.out
  have HB := Lib.hid hBw
  have hb0 := op_boxed w 3 n t
  obtain ⟨w1, hw1⟩ : ∃ w1, w1 = w.alloc (.cells #[.int .i64 3, .int .i64 n, .string (bs t)] 38) := ⟨_, rfl⟩
  rw [← hw1] at hb0
  obtain ⟨bo, hbo⟩ : ∃ bo, bo = w.heap.size := ⟨_, rfl⟩
  rw [← hbo] at hb0
  have k1 : Below w.heap.size w w1 := by rw [hw1]; exact (Below.refl _ _).alloc (Nat.le_refl _) _
  have HBO := Lib.hid (And.intro hb0 (show ¬ O bo from fun x => by have := (hR.tight bo x).2; omega))
  have R1 := Lib.hid (hR.below k1 hBw)
  have L1 := Lib.hid (hL.below k1)
  have K1 := Lib.hid (k1.mono hBw)
  have C3 := Lib.hid hC3
  have b0 : w1.cell? ⟨bo, 0, none⟩ = some (.int .i64 3) := by simp [World.cell?, hb0]
  clear hR hL k1 hC3 hBw hb0
  go_enter Try.func19, Try.ntmps19
  go_upto_region 1 with (fail)
  rw [← hw1, ← hbo]
  clear hw1 hbo
  obtain ⟨s2, z, hs2, hcase⟩ := sync_cases hp.out h.out.fit
  have hwf := Lib.hid (show (Lit.int .i64 p.file).wf = true from wf_of (by have := hp.out.lo; omega) (by have := hp.out.hi; omega))
  have hst := Lib.hid (show p.s.steps < 4611686018427387904 by have := hp.out.steps; omega)
  have x1 : w1.cell? ⟨xb, 1, none⟩ = some (.pointer (some ⟨lb, 0, none⟩)) := by simp [World.cell?, R1.out.obj, xcells]
  go_wp2_with fail
  refine (log_Sync L1 hwf.out hst.out (Lib.hid hs2)).mono ?_
  rintro e w2 ⟨rfl, l2, l3, o2⟩
  have R2 := Lib.hid (R1.out.called (O' := fun k => New O w1 k ∧ k < w2.heap.size) o2 (fun j hj => hj) (Nat.le_trans HB.out K1.out.size))
  have K2 := Lib.hid (show Below B w w2 from K1.out.trans (o2.below (fun k _ hk => (R1.out.tight k hk).1) (Nat.le_trans HB.out K1.out.size)))
  have y0 : w2.cell? ⟨bo, 0, none⟩ = some (.int .i64 3) := by rw [o2.cell (p := ⟨bo, 0, none⟩) (heap_lt HBO.out.1) HBO.out.2]; exact b0
  rcases hcase with ⟨rfl, hdn, hok⟩ | ⟨rfl, hdn, hok⟩
  · have L2 := Lib.hid ((l3 rfl).tight)
    have HOK := Lib.hid hok
    have HDN := Lib.hid hdn
    obtain ⟨r3, k3⟩ := R2.out.store (i := 6) (u := .int .i64 (p.writ.length : Int)) (v1' := v1) (v2' := v2) (v3' := v3) (su' := p.writ.length) (wait' := p.wait) (writ' := p.writ) (may' := p.may) rfl R2.out.o1 R2.out.n1 R2.out.o2 R2.out.n2 R2.out.o3 R2.out.n3 R2.out.d12 R2.out.s3
    have R3 := Lib.hid r3
    have L3 := Lib.hid (L2.out.only k3 (fun j _ hj e => R2.out.xno (e ▸ hj)))
    have K3 := Lib.hid (show Below B w _ from K2.out.trans (k3.below (fun k _ hk => hk ▸ R2.out.xlo) (Nat.le_trans HB.out K2.out.size)))
    obtain ⟨a2, c2, hv2⟩ := OffRow.slice R2.out.o2
    have x4 : w2.cell? ⟨xb, 4, none⟩ = some (.slice a2 p.writ.length c2) := by rw [← hv2]; simp [World.cell?, R2.out.obj, xcells]
    have x6 : w2.cell? ⟨xb, 6, none⟩ = some (.int .i64 (p.sure : Int)) := by simp [World.cell?, R2.out.obj, xcells]
    have f6 : w2.frozen? ⟨xb, 6, none⟩ = false := by simp [World.frozen?, R2.out.obj]
    clear l2 l3 o2 r3 k3 x1 hs2 hdn hok hv2 b0
    obtain ⟨zz, hzz⟩ : ∃ zz, zz = p.writ.length := ⟨_, rfl⟩
    rw [← hzz] at x4
    rw [← hzz] at R3 L3 K3
    have HZZ := Lib.hid hzz
    clear hzz
    go_upto_region 34 with (fail)
    generalize w2.setCell ⟨xb, 6, none⟩ (.int .i64 (zz : Int)) = w3 at *
    rw [HZZ.out] at R3 L3
    obtain ⟨z1, hz1⟩ : ∃ z1, z1 = p.wait.length := ⟨_, rfl⟩
    obtain ⟨z2, hz2⟩ : ∃ z2, z2 = p.writ.length := ⟨_, rfl⟩
    have hx := R3.out.obj
    obtain ⟨a1, c1, hv1⟩ := OffRow.slice R3.out.o1
    obtain ⟨a2, c2, hv2⟩ := OffRow.slice R3.out.o2
    rw [← hz1] at hv1
    rw [← hz2] at hv2
    have LC := log_Counts L3
    rw [← hz1, ← hz2] at LC
    have hx1 : w3.cell? ⟨xb, 1, none⟩ = some (.pointer (some ⟨lb, 0, none⟩)) := by simp [World.cell?, hx, xcells]
    have hx3 : ∀ m, (w3.drewN m).cell? ⟨xb, 3, none⟩ = some (.slice a1 z1 c1) := fun m => by rw [← hv1]; show w3.cell? ⟨xb, 3, none⟩ = _; simp [World.cell?, hx, xcells]
    have hx4 : ∀ m, (w3.drewN m).cell? ⟨xb, 4, none⟩ = some (.slice a2 z2 c2) := fun m => by rw [← hv2]; show w3.cell? ⟨xb, 4, none⟩ = _; simp [World.cell?, hx, xcells]
    have hx6 : ∀ m, (w3.drewN m).cell? ⟨xb, 6, none⟩ = some (.int .i64 ((p.writ.length : Nat) : Int)) := fun m => by show w3.cell? ⟨xb, 6, none⟩ = _; simp [World.cell?, hx, xcells]
    try simp only [← hz2] at hx6
    clear hx hv1 hv2 hz1 hz2
    go_wp2_with fail
    refine LC.mono ?_
    rintro e w9 ⟨rfl, m9, rfl⟩
    have hy3 := hx3 m9
    have hy4 := hx4 m9
    have hy6 := hx6 m9
    clear hx3 hx4 hx6
    have HM := Lib.hid (show Mem B (w3.drewN m9) xb lb d { p with s := s2, sure := p.writ.length } from ⟨Nat.le_trans HB.out K3.out.size, _, _, _, _, R3.out.below (below_drewN (Below.refl _ _) m9) (Nat.le_trans HB.out K3.out.size), L3.out.below (below_drewN (Below.refl _ _) m9), fun _ => C3.out HDN.out⟩)
    have HK9 := Lib.hid (below_drewN K3.out m9)
    generalize w3.drewN m9 = w9 at *
    go_wp2_with fail
    go_ret
    exact ⟨lb, d, _, rfl, HM.out, HOK.out.more0 _, HK9.out⟩
  · have L2 := Lib.hid ((l2 (by decide)).tight)
    have HOK := Lib.hid hok
    have HDN := Lib.hid hdn
    clear l2 l3 o2 x1 hs2 hdn hok b0
    obtain ⟨z1, hz1⟩ : ∃ z1, z1 = p.wait.length := ⟨_, rfl⟩
    obtain ⟨z2, hz2⟩ : ∃ z2, z2 = p.writ.length := ⟨_, rfl⟩
    have hx := R2.out.obj
    obtain ⟨a1, c1, hv1⟩ := OffRow.slice R2.out.o1
    obtain ⟨a2, c2, hv2⟩ := OffRow.slice R2.out.o2
    rw [← hz1] at hv1
    rw [← hz2] at hv2
    have LC := log_Counts L2
    rw [← hz1, ← hz2] at LC
    have hx1 : w2.cell? ⟨xb, 1, none⟩ = some (.pointer (some ⟨lb, 0, none⟩)) := by simp [World.cell?, hx, xcells]
    have hx3 : ∀ m, (w2.drewN m).cell? ⟨xb, 3, none⟩ = some (.slice a1 z1 c1) := fun m => by rw [← hv1]; show w2.cell? ⟨xb, 3, none⟩ = _; simp [World.cell?, hx, xcells]
    have hx4 : ∀ m, (w2.drewN m).cell? ⟨xb, 4, none⟩ = some (.slice a2 z2 c2) := fun m => by rw [← hv2]; show w2.cell? ⟨xb, 4, none⟩ = _; simp [World.cell?, hx, xcells]
    have hx6 : ∀ m, (w2.drewN m).cell? ⟨xb, 6, none⟩ = some (.int .i64 ((p.sure : Nat) : Int)) := fun m => by show w2.cell? ⟨xb, 6, none⟩ = _; simp [World.cell?, hx, xcells]
    try simp only [← hz2] at hx6
    clear hx hv1 hv2 hz1 hz2
    go_wp2_with fail
    refine LC.mono ?_
    rintro e w9 ⟨rfl, m9, rfl⟩
    have hy3 := hx3 m9
    have hy4 := hx4 m9
    have hy6 := hx6 m9
    clear hx3 hx4 hx6
    have HM := Lib.hid (show Mem B (w2.drewN m9) xb lb d { p with s := s2 } from ⟨Nat.le_trans HB.out K2.out.size, _, _, _, _, R2.out.below (below_drewN (Below.refl _ _) m9) (Nat.le_trans HB.out K2.out.size), L2.out.below (below_drewN (Below.refl _ _) m9), fun x => C3.out (HDN.out x)⟩)
    have HK9 := Lib.hid (below_drewN K2.out m9)
    generalize w2.drewN m9 = w9 at *
    go_wp2_with fail
    go_ret
    exact ⟨lb, d, _, rfl, HM.out, HOK.out.more0 _, HK9.out⟩
end Go.Proofs.Ytkelcmncjhnbgaa
/- A step that writes what waits. -/
set_option linter.unusedVariables false
set_option maxRecDepth 100000
namespace Go.Proofs.Ytkelcmncjhnbgaa
open Go.RowKit

/-- A row of texts as what is appended. -/
theorem src_own {w : World} {B : Nat} {v : Value} {T : List (List UInt8)} (h : OwnT w B v T) : Src Try.prog 1 22 v T.length (scells T) w := by
  have hl : (scells T).length = T.length * 1 := by simp [scells]
  rcases h.2 with ⟨rfl, h0⟩ | ⟨g, off, cap, cur, rfl, hB, hg, h1, h2, h3, h4⟩
  · have hT : T = [] := List.length_eq_zero_iff.1 h0
    subst hT
    exact Src.ofNil w Try.underlying22 0
  · refine Src.ofSlice w Try.underlying22 ⟨g, off, none⟩ T.length cap (scells T) hl (fun j u hj => ?_) (fun u hu => ?_)
    · have hlt : j < T.length * 1 := by rw [← hl]; exact (List.getElem?_eq_some_iff.1 hj).1
      rw [addr_add, ← hj, ← h4 j hlt]
      simp [World.cell?, hg]
    · obtain ⟨t, _, rfl⟩ := List.mem_map.1 hu
      rfl
set_option maxHeartbeats 4000000 in
theorem step_write {B xb lb d K N : Nat} {p : PS} {n : Int} {t : List UInt8} {w : World} (h : Hid (Mem B w xb lb d p)) (hp : Hid (p.Ok K N)) (hK : K ≤ 200) (ht : t.length ≤ 30000) :
    Calls Try.prog 19 #[.pointer (some ⟨xb, 0, none⟩), .agg #[.int .i64 2, .int .i64 n, .string (bs t)]] w fun e w' => StepPost B w xb (K + 1) (N + (t.length + 15)) e w' := by
  obtain ⟨hBw, O, v1, v2, v3, hR, hL, hC3⟩ := h.out
  have HB := Lib.hid hBw
  have hb0 := op_boxed w 2 n t
  obtain ⟨w1, hw1⟩ : ∃ w1, w1 = w.alloc (.cells #[.int .i64 2, .int .i64 n, .string (bs t)] 38) := ⟨_, rfl⟩
  rw [← hw1] at hb0
  obtain ⟨bo, hbo⟩ : ∃ bo, bo = w.heap.size := ⟨_, rfl⟩
  rw [← hbo] at hb0
  have k1 : Below w.heap.size w w1 := by rw [hw1]; exact (Below.refl _ _).alloc (Nat.le_refl _) _
  have HBO := Lib.hid (And.intro hb0 (show ¬ O bo from fun x => by have := (hR.tight bo x).2; omega))
  have R1 := Lib.hid (hR.below k1 hBw)
  have L1 := Lib.hid (hL.below k1)
  have K1 := Lib.hid (k1.mono hBw)
  have C3 := Lib.hid hC3
  have b0 : w1.cell? ⟨bo, 0, none⟩ = some (.int .i64 2) := by simp [World.cell?, hb0]
  clear hR hL k1 hC3 hBw hb0
  go_enter Try.func19, Try.ntmps19
  go_upto_region 1 with (fail)
  rw [← hw1, ← hbo]
  clear hw1 hbo
  obtain ⟨S1, hD1⟩ := L1.out.disk
  have D1 := Lib.hid hD1
  have x0 : w1.cell? ⟨xb, 0, none⟩ = some (.pointer (some ⟨d, 0, none⟩)) := by simp [World.cell?, R1.out.obj, xcells]
  have x1 : w1.cell? ⟨xb, 1, none⟩ = some (.pointer (some ⟨lb, 0, none⟩)) := by simp [World.cell?, R1.out.obj, xcells]
  obtain ⟨zl, hzl⟩ : ∃ zl, zl = p.wait.length := ⟨_, rfl⟩
  obtain ⟨a1, c1, hv1⟩ := OffRow.slice R1.out.o1
  rw [← hzl] at hv1
  subst hv1
  have HZL := Lib.hid hzl
  have hzl2 : zl ≤ 1000 := by have := hp.out.lens.1; omega
  have hsb : p.s.steps ≤ 1000 := by have := hp.out.steps; omega
  have hwf := Lib.hid (show (Lit.int .i64 p.file).wf = true from wf_of (by have := hp.out.lo; omega) (by have := hp.out.hi; omega))
  clear hD1 hzl
  go_wp2_with fail
  refine (disk_Steps D1.out).mono ?_
  rintro e w2 ⟨rfl, rfl⟩
  go_wp2_with fail
  refine (disk_Down D1.out).mono ?_
  rintro e w2 ⟨rfl, rfl⟩
  go_wp2_with fail
  by_cases hz : p.wait = []
  · have hz0 : zl = 0 := by rw [HZL.out, hz]; rfl
    subst hz0
    have L1e := Lib.hid (show Lg O w1 lb d p.s p.file [] 0 p.writ.length p.sure from by have := L1.out; rw [hz] at this; exact this)
    have x3 : w1.cell? ⟨xb, 3, none⟩ = some (.slice a1 0 c1) := by simp [World.cell?, R1.out.obj, xcells]
    refine (log_Write_none L1e).mono ?_
    rintro e w2 ⟨rfl, rfl⟩
    clear hz L1e
    go_wp2_with fail
    refine (disk_Steps D1.out).mono ?_
    rintro e w2 ⟨rfl, rfl⟩
    go_wp2_with fail
    go_ret
    exact ⟨lb, d, p, rfl, ⟨Nat.le_trans HB.out K1.out.size, _, _, _, _, R1.out, L1.out, C3.out⟩, hp.out.more _, K1.out⟩
  · have hzp : 0 < zl := by rw [HZL.out]; exact List.length_pos_iff.2 hz
    have hzl0 : ((zl : Int) == 0) = false := beq_eq_false_iff_ne.2 (by omega)
    obtain ⟨s2, z, hs2, hcase⟩ := write_cases hp.out h.out.fit
    refine (log_Write L1 hwf.out (by have := hsb; omega) (by rw [← HZL.out]; omega) (by have := hp.out.lens.1; omega) ⟨by have := frames_many p.wait; rw [← HZL.out] at this; omega, by have := hp.out.waits (by omega); omega⟩ (Lib.hid hs2)).mono ?_
    rintro e w2 ⟨rfl, l2, l3, o2⟩
    clear hz
    have R2 := Lib.hid (R1.out.called (O' := fun k => New O w1 k ∧ k < w2.heap.size) o2 (fun j hj => hj) (Nat.le_trans HB.out K1.out.size))
    have K2 := Lib.hid (show Below B w w2 from K1.out.trans (o2.below (fun k _ hk => (R1.out.tight k hk).1) (Nat.le_trans HB.out K1.out.size)))
    have y0 : w2.cell? ⟨bo, 0, none⟩ = some (.int .i64 2) := by rw [o2.cell (p := ⟨bo, 0, none⟩) (heap_lt HBO.out.1) HBO.out.2]; exact b0
    have x3 : w2.cell? ⟨xb, 3, none⟩ = some (.slice a1 zl c1) := by simp [World.cell?, R2.out.obj, xcells]
    have z0 : w2.cell? ⟨xb, 0, none⟩ = some (.pointer (some ⟨d, 0, none⟩)) := by simp [World.cell?, R2.out.obj, xcells]
    rcases hcase with ⟨rfl, hdn, hdn2, hst2, hok⟩ | ⟨rfl, rfl, hdn⟩ | ⟨rfl, hdn, rfl⟩ | ⟨rfl, hdn, hdn2, hst2, hok⟩
    · have L2 := Lib.hid ((l3 rfl).tight)
      obtain ⟨S2, hD2⟩ := L2.out.disk
      have D2 := Lib.hid hD2
      have hsteq : ((s2.steps : Int) == (p.s.steps : Int) + 1) = true := by rw [hst2]; exact beq_iff_eq.2 (by omega)
      have HOK := Lib.hid hok
      have HV3 := Lib.hid (C3.out hdn)
      have HMAY := Lib.hid (hp.out.calm hdn)
      clear l2 l3 o2 x0 x1 hD2 D1 hs2 hst2 hok hdn2
      go_wp2_with fail
      refine (disk_Steps D2.out).mono ?_
      rintro e w3 ⟨rfl, rfl⟩
      obtain ⟨i0, hi, hz0, hz1, hz2⟩ := info_parts infoStr
      have HI := Lib.hid (And.intro hi (And.intro hz0 (And.intro hz1 hz2)))
      have n3 : ∀ q : Seen w2, q.val.cell? ⟨xb, 3, none⟩ = some (.slice a1 zl c1) := fun q => by rw [q.below.cell (p := ⟨xb, 3, none⟩) (heap_lt R2.out.obj)]; exact x3
      have n4 : ∀ q : Seen w2, q.val.cell? ⟨xb, 4, none⟩ = some v2 := fun q => by rw [q.below.cell (p := ⟨xb, 4, none⟩) (heap_lt R2.out.obj)]; simp [World.cell?, R2.out.obj, xcells]
      clear hi hz0 hz1 hz2
      go_upto_region 17 with (fail)
      refine wp_region_first_tail 9 (.pointer (some ⟨xb, 0, none⟩)) (by kernel_rfl) (by kernel_rfl) (.inl ⟨rfl, fun w => rfl⟩) (fun _ _ _ h => h) ?_
      simp only [List.take_succ_cons, List.take_zero, List.drop_succ_cons, List.drop_zero, Nat.reduceSub]
      go_frame
      repeat go_big_quiet_step (fail)
      refine wpQuiet_nil ?_
      rintro _ ⟨m1, rfl⟩
      have KM := Lib.hid m1.below
      have RM := Lib.hid (R2.out.below m1.below (Nat.le_trans HB.out K2.out.size))
      generalize m1.val = y1 at *
      clear n3 n4 x3 y0 z0
      obtain ⟨zw, hzw⟩ : ∃ zw, zw = p.writ.length := ⟨_, rfl⟩
      have hzw2 : zw ≤ 1000 := by have := hp.out.lens.1; omega
      have OM := Lib.hid (show OffRow y1 B 9 1 v2 zw (scells p.writ) from by rw [hzw]; exact RM.out.o2)
      have SM := Lib.hid (show Src Try.prog 1 22 (.slice a1 zl c1) zl (scells p.wait) y1 from by rw [HZL.out]; rw [HZL.out] at RM; exact src_own RM.out.o1)
      have HZW := Lib.hid hzw
      clear hzw
      obtain ⟨hi, hz0, hz1, hz2⟩ := HI.out
      go_wp2_with (at_builtin; refine wpList_append_off rfl (.tmp 115) (.tmp 119) 22 rfl B 9 i0 _ 1 16 Try.underlying22 hi hz0 hz1 hz2 rfl v2 zw (scells p.writ) rfl OM.out (.slice a1 zl c1) rfl zl (scells p.wait) SM.out (by unfold maxLen; omega) (by omega) (Nat.le_trans HB.out (Nat.le_trans K2.out.size KM.out.size)) ?_)
      intro v7 w7 hr7 hg7 hat7
      obtain ⟨q1, q2, q3, q4, q5, q6⟩ := R2.out.pushed (w3 := w7) (v2' := v7) KM.out HV3.out HMAY.out (by rw [← HZL.out, ← HZW.out]; exact hr7) hg7 hat7
      obtain ⟨a7, c7, rfl⟩ := OffRow.slice hr7
      have R8 := Lib.hid q1
      have L8 := Lib.hid (show Lg (fun k => New O w1 k ∧ k < w2.heap.size) _ lb d s2 p.file (framesL []) ([] : List (List UInt8)).length (p.writ ++ p.wait).length p.sure from by
        rw [List.length_append]
        exact L2.out.only q2 (fun j _ hj e => by
          rcases e with e | e
          · exact R2.out.xno (e ▸ hj)
          · exact R2.out.n2 j e hj))
      have K8 := Lib.hid (show Below B w _ from K2.out.trans (q2.below (fun k _ hk => by
        rcases hk with hk | hk
        · rw [hk]; exact R2.out.xlo
        · exact (OffRow.lt R2.out.o2 k hk).1) (Nat.le_trans HB.out K2.out.size)))
      clear hr7 hg7 hat7 q1 q2 OM SM hi hz0 hz1 hz2 KM RM
      go_upto_region 34 with (fail)
      generalize (w7.setCell ⟨xb, 4, none⟩ (.slice a7 (zw + zl) c7)).setCell ⟨xb, 3, none⟩ (.slice none 0 0) = w8 at *
      obtain ⟨z1, hz1⟩ : ∃ z1, z1 = ([] : List (List UInt8)).length := ⟨_, rfl⟩
      obtain ⟨z2, hz2⟩ : ∃ z2, z2 = (p.writ ++ p.wait).length := ⟨_, rfl⟩
      have hx := R8.out.obj
      obtain ⟨a1, c1, hv1⟩ := OffRow.slice R8.out.o1
      obtain ⟨a2, c2, hv2⟩ := OffRow.slice R8.out.o2
      rw [← hz1] at hv1
      rw [← hz2] at hv2
      have LC := log_Counts L8
      rw [← hz1, ← hz2] at LC
      have hx1 : w8.cell? ⟨xb, 1, none⟩ = some (.pointer (some ⟨lb, 0, none⟩)) := by simp [World.cell?, hx, xcells]
      have hx3 : ∀ m, (w8.drewN m).cell? ⟨xb, 3, none⟩ = some (.slice a1 z1 c1) := fun m => by rw [← hv1]; show w8.cell? ⟨xb, 3, none⟩ = _; simp [World.cell?, hx, xcells]
      have hx4 : ∀ m, (w8.drewN m).cell? ⟨xb, 4, none⟩ = some (.slice a2 z2 c2) := fun m => by rw [← hv2]; show w8.cell? ⟨xb, 4, none⟩ = _; simp [World.cell?, hx, xcells]
      have hx6 : ∀ m, (w8.drewN m).cell? ⟨xb, 6, none⟩ = some (.int .i64 ((p.sure : Nat) : Int)) := fun m => by show w8.cell? ⟨xb, 6, none⟩ = _; simp [World.cell?, hx, xcells]
      try simp only [← hz2] at hx6
      clear hx hv1 hv2 hz1 hz2
      go_wp2_with fail
      refine LC.mono ?_
      rintro e w9 ⟨rfl, m9, rfl⟩
      have hy3 := hx3 m9
      have hy4 := hx4 m9
      have hy6 := hx6 m9
      clear hx3 hx4 hx6
      have HM := Lib.hid (show Mem B (w8.drewN m9) xb lb d { p with s := s2, writ := p.writ ++ p.wait, wait := [] } from ⟨Nat.le_trans HB.out K8.out.size, _, _, _, _, R8.out.below (below_drewN (Below.refl _ _) m9) (Nat.le_trans HB.out K8.out.size), L8.out.below (below_drewN (Below.refl _ _) m9), fun _ => HV3.out⟩)
      have HK9 := Lib.hid (below_drewN K8.out m9)
      generalize w8.drewN m9 = w9 at *
      go_wp2_with fail
      go_ret
      exact ⟨lb, d, _, rfl, HM.out, HOK.out.more0 _, HK9.out⟩
    · have L2 := Lib.hid ((l2 (by decide)).tight)
      obtain ⟨S2, hD2⟩ := L2.out.disk
      have D2 := Lib.hid hD2
      clear l2 l3 o2 x0 x1 hD2 D1 hs2
      go_wp2_with fail
      refine (disk_Steps D2.out).mono ?_
      rintro e w3 ⟨rfl, rfl⟩
      clear x3 z0
      obtain ⟨z1, hz1⟩ : ∃ z1, z1 = p.wait.length := ⟨_, rfl⟩
      obtain ⟨z2, hz2⟩ : ∃ z2, z2 = p.writ.length := ⟨_, rfl⟩
      have hx := R2.out.obj
      obtain ⟨a1, c1, hv1⟩ := OffRow.slice R2.out.o1
      obtain ⟨a2, c2, hv2⟩ := OffRow.slice R2.out.o2
      rw [← hz1] at hv1
      rw [← hz2] at hv2
      have LC := log_Counts L2
      rw [← hz1, ← hz2] at LC
      have hx1 : w2.cell? ⟨xb, 1, none⟩ = some (.pointer (some ⟨lb, 0, none⟩)) := by simp [World.cell?, hx, xcells]
      have hx3 : ∀ m, (w2.drewN m).cell? ⟨xb, 3, none⟩ = some (.slice a1 z1 c1) := fun m => by rw [← hv1]; show w2.cell? ⟨xb, 3, none⟩ = _; simp [World.cell?, hx, xcells]
      have hx4 : ∀ m, (w2.drewN m).cell? ⟨xb, 4, none⟩ = some (.slice a2 z2 c2) := fun m => by rw [← hv2]; show w2.cell? ⟨xb, 4, none⟩ = _; simp [World.cell?, hx, xcells]
      have hx6 : ∀ m, (w2.drewN m).cell? ⟨xb, 6, none⟩ = some (.int .i64 ((p.sure : Nat) : Int)) := fun m => by show w2.cell? ⟨xb, 6, none⟩ = _; simp [World.cell?, hx, xcells]
      try simp only [← hz2] at hx6
      clear hx hv1 hv2 hz1 hz2
      go_wp2_with fail
      refine LC.mono ?_
      rintro e w9 ⟨rfl, m9, rfl⟩
      have hy3 := hx3 m9
      have hy4 := hx4 m9
      have hy6 := hx6 m9
      clear hx3 hx4 hx6
      have HM := Lib.hid (show Mem B (w2.drewN m9) xb lb d p from ⟨Nat.le_trans HB.out K2.out.size, _, _, _, _, R2.out.below (below_drewN (Below.refl _ _) m9) (Nat.le_trans HB.out K2.out.size), L2.out.below (below_drewN (Below.refl _ _) m9), C3.out⟩)
      have HK9 := Lib.hid (below_drewN K2.out m9)
      generalize w2.drewN m9 = w9 at *
      go_wp2_with fail
      go_ret
      exact ⟨lb, d, _, rfl, HM.out, hp.out.more _, HK9.out⟩
    · have L2 := Lib.hid ((l2 (by decide)).tight)
      obtain ⟨S2, hD2⟩ := L2.out.disk
      have D2 := Lib.hid hD2
      clear l2 l3 o2 x0 x1 hD2 D1 hs2
      go_wp2_with fail
      refine (disk_Steps D2.out).mono ?_
      rintro e w3 ⟨rfl, rfl⟩
      clear x3 z0
      obtain ⟨z1, hz1⟩ : ∃ z1, z1 = p.wait.length := ⟨_, rfl⟩
      obtain ⟨z2, hz2⟩ : ∃ z2, z2 = p.writ.length := ⟨_, rfl⟩
      have hx := R2.out.obj
      obtain ⟨a1, c1, hv1⟩ := OffRow.slice R2.out.o1
      obtain ⟨a2, c2, hv2⟩ := OffRow.slice R2.out.o2
      rw [← hz1] at hv1
      rw [← hz2] at hv2
      have LC := log_Counts L2
      rw [← hz1, ← hz2] at LC
      have hx1 : w2.cell? ⟨xb, 1, none⟩ = some (.pointer (some ⟨lb, 0, none⟩)) := by simp [World.cell?, hx, xcells]
      have hx3 : ∀ m, (w2.drewN m).cell? ⟨xb, 3, none⟩ = some (.slice a1 z1 c1) := fun m => by rw [← hv1]; show w2.cell? ⟨xb, 3, none⟩ = _; simp [World.cell?, hx, xcells]
      have hx4 : ∀ m, (w2.drewN m).cell? ⟨xb, 4, none⟩ = some (.slice a2 z2 c2) := fun m => by rw [← hv2]; show w2.cell? ⟨xb, 4, none⟩ = _; simp [World.cell?, hx, xcells]
      have hx6 : ∀ m, (w2.drewN m).cell? ⟨xb, 6, none⟩ = some (.int .i64 ((p.sure : Nat) : Int)) := fun m => by show w2.cell? ⟨xb, 6, none⟩ = _; simp [World.cell?, hx, xcells]
      try simp only [← hz2] at hx6
      clear hx hv1 hv2 hz1 hz2
      go_wp2_with fail
      refine LC.mono ?_
      rintro e w9 ⟨rfl, m9, rfl⟩
      have hy3 := hx3 m9
      have hy4 := hx4 m9
      have hy6 := hx6 m9
      clear hx3 hx4 hx6
      have HM := Lib.hid (show Mem B (w2.drewN m9) xb lb d p from ⟨Nat.le_trans HB.out K2.out.size, _, _, _, _, R2.out.below (below_drewN (Below.refl _ _) m9) (Nat.le_trans HB.out K2.out.size), L2.out.below (below_drewN (Below.refl _ _) m9), C3.out⟩)
      have HK9 := Lib.hid (below_drewN K2.out m9)
      generalize w2.drewN m9 = w9 at *
      go_wp2_with fail
      go_ret
      exact ⟨lb, d, _, rfl, HM.out, hp.out.more _, HK9.out⟩
    · have L2 := Lib.hid ((l2 (by decide)).tight)
      obtain ⟨S2, hD2⟩ := L2.out.disk
      have D2 := Lib.hid hD2
      have HOK := Lib.hid hok
      have HDN2 := Lib.hid hdn2
      clear l2 l3 o2 x0 x1 hD2 D1 hs2 hok hdn2
      obtain ⟨r3, k3⟩ := R2.out.store (i := 5) (u := .slice a1 zl c1) (v1' := .slice a1 zl c1) (v2' := v2) (v3' := .slice a1 zl c1) (su' := p.sure) (wait' := p.wait) (writ' := p.writ) (may' := p.wait) rfl R2.out.o1 R2.out.n1 R2.out.o2 R2.out.n2 R2.out.o1 R2.out.n1 R2.out.d12 (fun g _ _ => ⟨a1, zl, c1, by rw [HZL.out], rfl, by rw [HZL.out]; exact Nat.le_refl _, by rw [HZL.out, List.take_length]⟩)
      have R3 := Lib.hid r3
      have L3 := Lib.hid (L2.out.only k3 (fun j _ hj e => R2.out.xno (e ▸ hj)))
      have K3 := Lib.hid (show Below B w _ from K2.out.trans (k3.below (fun k _ hk => hk ▸ R2.out.xlo) (Nat.le_trans HB.out K2.out.size)))
      have x5 : w2.cell? ⟨xb, 5, none⟩ = some v3 := by simp [World.cell?, R2.out.obj, xcells]
      have f5 : w2.frozen? ⟨xb, 5, none⟩ = false := by simp [World.frozen?, R2.out.obj]
      obtain ⟨a3, c3, hv3⟩ := OffRow.slice R2.out.o3
      rw [hv3] at x5
      clear r3 k3 hv3
      go_wp2_with fail
      refine (disk_Steps D2.out).mono ?_
      rintro e w3 ⟨rfl, rfl⟩
      go_upto_region 34 with (fail)
      generalize w2.setCell ⟨xb, 5, none⟩ (.slice a1 zl c1) = w8 at *
      obtain ⟨z1, hz1⟩ : ∃ z1, z1 = p.wait.length := ⟨_, rfl⟩
      obtain ⟨z2, hz2⟩ : ∃ z2, z2 = p.writ.length := ⟨_, rfl⟩
      have hx := R3.out.obj
      obtain ⟨a1, c1, hv1⟩ := OffRow.slice R3.out.o1
      obtain ⟨a2, c2, hv2⟩ := OffRow.slice R3.out.o2
      rw [← hz1] at hv1
      rw [← hz2] at hv2
      have LC := log_Counts L3
      rw [← hz1, ← hz2] at LC
      have hx1 : w8.cell? ⟨xb, 1, none⟩ = some (.pointer (some ⟨lb, 0, none⟩)) := by simp [World.cell?, hx, xcells]
      have hx3 : ∀ m, (w8.drewN m).cell? ⟨xb, 3, none⟩ = some (.slice a1 z1 c1) := fun m => by rw [← hv1]; show w8.cell? ⟨xb, 3, none⟩ = _; simp [World.cell?, hx, xcells]
      have hx4 : ∀ m, (w8.drewN m).cell? ⟨xb, 4, none⟩ = some (.slice a2 z2 c2) := fun m => by rw [← hv2]; show w8.cell? ⟨xb, 4, none⟩ = _; simp [World.cell?, hx, xcells]
      have hx6 : ∀ m, (w8.drewN m).cell? ⟨xb, 6, none⟩ = some (.int .i64 ((p.sure : Nat) : Int)) := fun m => by show w8.cell? ⟨xb, 6, none⟩ = _; simp [World.cell?, hx, xcells]
      try simp only [← hz2] at hx6
      clear hx hv1 hv2 hz1 hz2
      go_wp2_with fail
      refine LC.mono ?_
      rintro e w9 ⟨rfl, m9, rfl⟩
      have hy3 := hx3 m9
      have hy4 := hx4 m9
      have hy6 := hx6 m9
      clear hx3 hx4 hx6
      have HM := Lib.hid (show Mem B (w8.drewN m9) xb lb d { p with s := s2, may := p.wait } from ⟨Nat.le_trans HB.out K3.out.size, _, _, _, _, R3.out.below (below_drewN (Below.refl _ _) m9) (Nat.le_trans HB.out K3.out.size), L3.out.below (below_drewN (Below.refl _ _) m9), fun x => absurd (x.symm.trans HDN2.out) (by decide)⟩)
      have HK9 := Lib.hid (below_drewN K3.out m9)
      generalize w8.drewN m9 = w9 at *
      go_wp2_with fail
      go_ret
      exact ⟨lb, d, _, rfl, HM.out, HOK.out.more0 _, HK9.out⟩
end Go.Proofs.Ytkelcmncjhnbgaa
/- WalFrames, walked: records have the document's frames, and any bytes bear the records that it says. -/
set_option linter.unusedVariables false
set_option maxRecDepth 100000
namespace Go.Proofs.Ytkelcmncjhnbgaa
open Go.RowKit

/-- Texts that came in. -/
theorem txv_in {w : World} {a : Option Addr} {len cap : Nat} {T : List ByteArray} (h : IsTexts w a len T) : TxV w (.slice a len cap) (T.map fun t => t.data.toList) := by
  obtain ⟨h1, b, off, h2, h3⟩ := h
  refine ⟨a, cap, by rw [List.length_map, h1], b, off, ?_, fun k hk => ?_⟩
  · rw [List.length_map, ← h1]; exact h2
  · rw [List.length_map] at hk
    obtain ⟨h4, h5⟩ := h3 k hk
    refine ⟨h4, ?_⟩
    rw [h5, List.getElem_map, List.getD_eq_getElem?_getD, List.getElem?_eq_getElem hk]
    simp only [Option.getD_some]
    rw [bs_eq (s := T[k]) rfl]
    rfl
theorem in_small {T : List ByteArray} (h : ∀ t ∈ T, t.size ≤ 140737488351232) : ∀ t ∈ (T.map fun t => t.data.toList), t.length ≤ 9223372036854775807 := by
  intro t ht
  obtain ⟨u, hu, rfl⟩ := List.mem_map.1 ht
  have := h u hu
  rw [← Lib.size_eq]
  omega

set_option maxHeartbeats 4000000 in
theorem frames_walk {a : Option Addr} {len cap : Nat} {T : List (List UInt8)} {w : World} (h : Hid (TxV w (.slice a len cap) T)) (hbig : len ≤ 9223372036854775807) (hs : Hid (∀ t ∈ T, t.length ≤ 9223372036854775807)) (s : List UInt8) (hz : s.length ≤ 140737488351232) :
    Calls Try.prog 3 #[.slice a len cap, .string (bs s)] w fun e w' => e = .returned (.bool true) ∧ Below w.heap.size w w' := by
  obtain ⟨q, hq⟩ : ∃ q, q = s.length := ⟨_, rfl⟩
  have hsz : (bs s).size = q := by rw [bs_size, hq]
  have HQ := Lib.hid hq
  rw [← hq] at hz
  clear hq
  go_enter Try.func3, Try.ntmps3
  go_wp2_with fail
  refine (law_awake w).mono ?_
  rintro e w1 ⟨rfl, k1⟩
  have K1 := Lib.hid k1
  clear k1
  go_wp2_with fail
  refine (law_few (Lib.hid (h.out.below K1.out)) hbig hs).mono ?_
  rintro e w2 ⟨b, rfl, hb, rfl⟩
  have HB := Lib.hid hb
  clear hb
  have stop : ∀ w1 : World, Hid (Below w.heap.size w w1) → Calls Try.prog 9 #[] w1 fun e w' => e = .returned (.bool true) ∧ Below w.heap.size w w' := fun w1 k => (law_awake w1).mono fun e w' ⟨h1, h2⟩ => ⟨h1, k.out.trans (h2.mono k.out.size)⟩
  cases b with
  | false =>
    go_wp2_with fail
    refine (stop w1 K1).mono ?_
    rintro e w3 ⟨rfl, k3⟩
    go_wp2
    go_ret
    exact ⟨rfl, k3⟩
  | true =>
    by_cases hq3 : q ≤ 30000
    · have hq3' : (q : Int) ≤ 30000 := by omega
      have HF := Lib.hid (HB.out rfl)
      have HL := Lib.hid h.out.len
      have hlen : len ≤ 200 := by rw [HL.out]; exact HF.out.len
      clear HB stop
      go_wp2_with fail
      go_loopw [5, 6] (fun av iv wr => ∃ i : Nat, i ≤ len ∧ iv = .int .i64 (i : Int) ∧ av = .string (bs (framesL (T.take i))) ∧ Hid (Below w.heap.size w wr)) (fun av iv wr => len - (intOf iv).toNat)
      case atStart => exact ⟨0, Nat.zero_le _, rfl, rfl, K1⟩
      case round =>
        clear K1
        obtain ⟨i, hi, rfl, rfl, hK⟩ := hrel
        rcases Nat.lt_or_ge i len with hlt | hge
        · obtain ⟨t, ht⟩ : ∃ t, T[i]? = some t := ⟨_, List.getElem?_eq_getElem (by have := HL.out; omega)⟩
          obtain ⟨b, off, rfl, hbl, hc⟩ := (h.out.below hK.out).at ht
          have hlt2 : (i : Int) < (len : Int) := by omega
          have htl : t.length ≤ 1000000000 := by have := HF.out.mem (List.mem_of_getElem? ht); omega
          have hcat : bs (framesL (T.take i)) ++ bs (frameL t) = bs (framesL (T.take (i + 1))) := by rw [frames_snoc ht, bs_cat, bs_list]
          have hsz2 : ((bs (framesL (T.take i))).size : Int) + ((bs (frameL t)).size : Int) ≤ 9223372036854775807 := by
            have := frames_take T i
            have := frameL_le (r := t) (by omega)
            have := HF.out.frames
            rw [bs_size, bs_size]
            omega
          clear ht
          go_wp2_with fail
          refine (wal_Frame t wr htl).mono ?_
          rintro e w3 ⟨rfl, k3⟩
          have K3 := Lib.hid (hK.out.trans (k3.mono hK.out.size))
          clear k3
          go_wp2_with fail
          go_roundw
          case rel => exact ⟨i + 1, by omega, by go_num, rfl, K3⟩
          case measure => simp [intOf]; omega
        · obtain rfl : i = len := by omega
          have HE := Lib.hid (show T.take i = T by rw [HL.out]; exact List.take_length)
          rw [HE.out]
          have hcat : bs (framesL T) ++ bs s = bs (framesL T ++ s) := by rw [bs_cat, bs_list]
          have hsz2 : ((bs (framesL T)).size : Int) + (q : Int) ≤ 9223372036854775807 := by have := HF.out.frames; rw [bs_size]; omega
          have hall : (framesL T ++ s).length ≤ 1000000000 := by have := HF.out.frames; rw [List.length_append, ← HQ.out]; omega
          have hcount : (splitL (framesL T ++ s)).1.length ≤ 1000000000 := by
            obtain ⟨h1, h2, _⟩ := split_back _ (framesL T ++ s) (Nat.le_refl _)
            have h3 : ∀ L : List (List UInt8), L.length ≤ (framesL L).length := by
              intro L
              induction L with
              | nil => exact Nat.le_refl _
              | cons r L ih =>
                have := frameL_pos r
                show L.length + 1 ≤ (frameL r ++ framesL L).length
                rw [List.length_append]; omega
            have := h3 (splitL (framesL T ++ s)).1
            have := split_le (framesL T ++ s)
            omega
          have hself : (bs (framesL T)).toList = (bs (framesL T)).toList := rfl
          clear hge hi hlen
          go_wp2_with fail
          refine (wal_Split (framesL T ++ s) wr hall).mono ?_
          rintro e w3 ⟨v3, rfl, o3, k3⟩
          have K3 := Lib.hid (hK.out.trans (k3.mono hK.out.size))
          have T3 := Lib.hid o3.txs
          clear o3 k3
          obtain ⟨a3, c3, rfl, _⟩ := id T3.out
          go_wp2_with fail
          refine (ref_Frames (Lib.hid (h.out.below K3.out)) (Lib.hid (by have := HF.out.frames; omega)) (by have := HF.out.len; have := HL.out; omega)).mono ?_
          rintro e w4 ⟨rfl, k4⟩
          have K4 := Lib.hid (K3.out.trans (k4.mono K3.out.size))
          have T4 := Lib.hid (T3.out.below k4)
          clear k4 T3 K3
          go_wp2_with fail
          refine (ref_Split (framesL T ++ s) w4 hall).mono ?_
          rintro e w5 ⟨v5, rfl, o5, k5⟩
          have K5 := Lib.hid (K4.out.trans (k5.mono K4.out.size))
          have T5 := Lib.hid (T4.out.below k5)
          have S5 := Lib.hid o5.txs
          clear o5 k5 T4 K4
          obtain ⟨a5, c5, rfl, _⟩ := id S5.out
          go_wp2_with fail
          refine (ref_Frames (Lib.hid (h.out.below K5.out)) (Lib.hid (by have := HF.out.frames; omega)) (by have := HF.out.len; have := HL.out; omega)).mono ?_
          rintro e w6 ⟨rfl, k6⟩
          have K6 := Lib.hid (K5.out.trans (k6.mono K5.out.size))
          have T6 := Lib.hid (T5.out.below k6)
          have S6 := Lib.hid (S5.out.below k6)
          clear k6 T5 S5 K5
          go_wp2_with fail
          refine (ref_Same T6.out S6.out hcount).mono ?_
          rintro e w7 ⟨rfl, k7⟩
          have K7 := Lib.hid (K6.out.trans (k7.mono K6.out.size))
          clear k7
          go_wp2_with fail
          go_ret
          exact ⟨rfl, K7.out⟩
    · have hq3' : (30000 : Int) < (q : Int) := by omega
      go_wp2_with fail
      refine (stop w1 K1).mono ?_
      rintro e w3 ⟨rfl, k3⟩
      go_wp2
      go_ret
      exact ⟨rfl, k3⟩
end Go.Proofs.Ytkelcmncjhnbgaa
/- Rows of numbers, bytes of a row, the beginning of a slice of texts: what the law of frames that are cut off wants. -/
set_option linter.unusedVariables false
set_option maxRecDepth 100000
namespace Go.Proofs.Ytkelcmncjhnbgaa
open Go.RowKit

theorem infoInt : (Try.prog.info? 3).map (fun i => (i.zero, i.size, i.bytes)) = some (some (.int .i64 0), 1, 8) := by kernel_rfl
/-- A row of numbers of the call's own; a slice of numbers. -/
def ncells (L : List Nat) : List Value := L.map fun (n : Nat) => Value.int .i64 (n : Int)
theorem ncells_snoc (L : List Nat) (n : Nat) : ncells (L ++ [n]) = ncells L ++ [.int .i64 (n : Int)] := by simp [ncells]
def OwnN (w : World) (B : Nat) (v : Value) (L : List Nat) : Prop := OffRow w B 3 1 v L.length (ncells L)
def NsV (w : World) (v : Value) (L : List Nat) : Prop := ∃ a cap, v = .slice a L.length cap ∧ ∃ b off, (L.length = 0 ∨ a = some ⟨b, off, none⟩) ∧ ∀ k (hk : k < L.length), b < w.heap.size ∧ w.cell? ⟨b, off + k, none⟩ = some (.int .i64 (L[k] : Int))
theorem NsV.below {w w' : World} {v : Value} {L : List Nat} (h : NsV w v L) (k : Below w.heap.size w w') : NsV w' v L := by
  obtain ⟨a, cap, rfl, b, off, h1, h2⟩ := h
  refine ⟨a, cap, rfl, b, off, h1, fun j hj => ?_⟩
  obtain ⟨h3, h4⟩ := h2 j hj
  exact ⟨Nat.lt_of_lt_of_le h3 k.size, by rw [k.cell (p := ⟨b, off + j, none⟩) h3]; exact h4⟩
theorem NsV.at {w : World} {a : Option Addr} {n cap : Nat} {L : List Nat} (h : NsV w (.slice a n cap) L) {i t : Nat} (hi : L[i]? = some t) : ∃ b off, a = some ⟨b, off, none⟩ ∧ b < w.heap.size ∧ w.cell? ⟨b, off + i, none⟩ = some (.int .i64 (t : Int)) := by
  obtain ⟨hl, ht⟩ := List.getElem?_eq_some_iff.1 hi
  obtain ⟨a', cap', e, b, off, h1, h2⟩ := h
  simp only [Value.slice.injEq] at e
  obtain ⟨rfl, rfl, rfl⟩ := e
  obtain ⟨h3, h4⟩ := h2 i hl
  rw [ht] at h4
  exact ⟨b, off, by rcases h1 with h1 | h1; (omega); (exact h1), h3, h4⟩
theorem NsV.len {w : World} {a : Option Addr} {n cap : Nat} {L : List Nat} (h : NsV w (.slice a n cap) L) : n = L.length := by
  obtain ⟨a', cap', e, _⟩ := h
  simp only [Value.slice.injEq] at e
  exact e.2.1
theorem OwnN.ns {w : World} {B : Nat} {v : Value} {L : List Nat} (h : OwnN w B v L) : NsV w v L := by
  unfold OwnN at h
  rcases Nat.eq_zero_or_pos L.length with h0 | h0
  · obtain ⟨a, cap, rfl⟩ := OffRow.slice h
    exact ⟨a, cap, rfl, 0, 0, .inl h0, fun k hk => absurd hk (by omega)⟩
  · obtain ⟨g, off, cap, cur, rfl, hB, hg, hc⟩ := OffRow.form h h0
    refine ⟨_, cap, rfl, g, off, .inr rfl, fun k hk => ⟨heap_lt hg, ?_⟩⟩
    rw [hc k (by omega)]
    simp [ncells, hk]
theorem TxV.take {w : World} {a : Option Addr} {n cap : Nat} {T : List (List UInt8)} (h : TxV w (.slice a n cap) T) {j : Nat} (hj : j ≤ T.length) : TxV w (.slice a j cap) (T.take j) := by
  have hl : (T.take j).length = j := by rw [List.length_take]; omega
  obtain ⟨a', cap', e, b, off, h1, h2⟩ := h
  simp only [Value.slice.injEq] at e
  obtain ⟨rfl, rfl, rfl⟩ := e
  refine ⟨a, cap, by rw [hl], b, off, ?_, fun k hk => ?_⟩
  · rw [hl]
    rcases h1 with h1 | h1
    · exact .inl (by omega)
    · exact .inr h1
  · rw [hl] at hk
    obtain ⟨h3, h4⟩ := h2 k (by omega)
    exact ⟨h3, by rw [h4, List.getElem_take]⟩
theorem OffRow.cap_ge {w : World} {B n size cap : Nat} {e : TypeId} {a : Option Addr} {xs : List Value} (h : OffRow w B e size (.slice a n cap) n xs) : n ≤ cap := by
  rcases h.2 with ⟨h0, h1⟩ | ⟨g, off, cap', cur, h0, _, _, h1, _⟩
  · omega
  · injection h0 with _ _ h0
    omega

/-- Where each frame ends. -/
def endsN (T : List (List UInt8)) (i : Nat) : List Nat := (List.range i).map fun j => (framesL (T.take (j + 1))).length
theorem endsN_len (T : List (List UInt8)) (i : Nat) : (endsN T i).length = i := by simp [endsN]
theorem endsN_snoc (T : List (List UInt8)) (i : Nat) : endsN T (i + 1) = endsN T i ++ [(framesL (T.take (i + 1))).length] := by simp [endsN, List.range_succ]
theorem endsN_at (T : List (List UInt8)) {i j : Nat} (h : j < i) : (endsN T i)[j]? = some (framesL (T.take (j + 1))).length := by simp [endsN, h]

set_option maxHeartbeats 1000000 in
theorem law_end {a : Option Addr} {n cap : Nat} {L : List Nat} {w : World} {j e : Nat} (h : Hid (NsV w (.slice a n cap) L)) (hj : Hid (j = 0 ∧ e = 0 ∨ ∃ i, j = i + 1 ∧ L[i]? = some e)) (hjl : j ≤ 1000) :
    Calls Try.prog 16 #[.slice a n cap, .int .i64 (j : Int)] w fun r w' => r = .returned (.int .i64 (e : Int)) ∧ w = w' := by
  have HL := Lib.hid h.out.len
  rcases hj.out with ⟨rfl, rfl⟩ | ⟨i, hji, he⟩
  · go_enter Try.func16, Try.ntmps16
    go_wp2_with fail
    go_ret
    exact ⟨rfl, rfl⟩
  · obtain ⟨b, off, rfl, hb, hc⟩ := h.out.at he
    have hin : i < n := by rw [HL.out]; exact (List.getElem?_eq_some_iff.1 he).1
    have hin' : (i : Int) < (n : Int) := by omega
    have hsub : ((j : Int) - 1) = (i : Int) := by omega
    have hne : ((j : Int) == 0) = false := beq_eq_false_iff_ne.2 (by omega)
    clear hj hji he
    go_enter Try.func16, Try.ntmps16
    go_wp2_with fail
    go_ret
    exact ⟨rfl, rfl⟩

/-- In block B stand these bytes. -/
def Bytes8 (B : Nat) (L : List UInt8) (w : World) : Prop := ∀ j, j < L.length → w.cell? ⟨B, j, none⟩ = some (.int .u8 ((L.getD j 0).toNat : Int)) ∧ w.frozen? ⟨B, j, none⟩ = false
theorem bytes_new (w : World) (s : ByteArray) (cap : Nat) (t : TypeId) : Bytes8 w.heap.size s.data.toList (w.drew.alloc (.cells (bytesRow s cap) t ((bytesRow s cap).size, (bytesRow s cap).size + 1))) := by
  intro j hj
  have hs : j < s.data.size := by simpa using hj
  have hlen : j < (bytesRow s cap).size := by
    have h := (Array.getElem?_eq_some_iff.1 (bytesRow_at s cap j hs)).1
    exact h
  refine ⟨?_, ?_⟩
  · have h := World.cell?_alloc_mark w.drew (bytesRow s cap) t ((bytesRow s cap).size, (bytesRow s cap).size + 1) j
    refine h.trans ?_
    rw [bytesRow_at s cap j hs, List.getD_eq_getElem?_getD, List.getElem?_eq_getElem hj]
    rfl
  · have h := World.frozen?_alloc_mark w.drew (bytesRow s cap) t (bytesRow s cap).size ((bytesRow s cap).size + 1) j
    refine h.trans ?_
    rw [decide_eq_false (by omega), Bool.false_and]
theorem conv_out (w : World) (P : List UInt8) (n : Nat) (hP : P.length = n) : ∃ (w2 : World) (cap : Nat), (convert 9 34 (.string (bs P))).run Try.prog w = .ok (.slice (some ⟨w.heap.size, 0, none⟩) n cap) w2 ∧ Bytes8 w.heap.size P w2 ∧ Below w.heap.size w w2 := by
  have h := run_bytes_of_string (P := Try.prog) w 9 34 5 (bs P) Try.underlying9 Try.underlying34 Try.underlying5
  rw [bs_size, hP] at h
  exact ⟨_, _, h, bytes_new w (bs P) _ 5, ((Below.refl _ _).drew).alloc (Nat.le_refl _) _⟩
theorem conv_back (w : World) (B : Nat) (L : List UInt8) (n cap : Nat) (hn : n = L.length) (h : Bytes8 B L w) : (convert 34 9 (.slice (some ⟨B, 0, none⟩) n cap)).run Try.prog w = .ok (.string (bs L)) w := by
  subst hn
  refine run_convert_bytes_back (P := Try.prog) _ 34 9 5 ⟨B, 0, none⟩ cap L Try.underlying34 Try.underlying5 Try.underlying9 ?_
  intro j hj
  rw [addr_add, Nat.zero_add, (h j hj).1, List.getD_eq_getElem?_getD, List.getElem?_eq_getElem hj, Option.getD_some]
theorem Bytes8.set {B : Nat} {L : List UInt8} {w : World} (h : Bytes8 B L w) {i : Nat} (hi : i < L.length) (c : UInt8) : Bytes8 B (L.set i c) (w.setCell ⟨B, i, none⟩ (.int .u8 (c.toNat : Int))) := by
  intro j hj
  rw [List.length_set] at hj
  refine ⟨?_, by rw [World.frozen?_setCell]; exact (h j hj).2⟩
  by_cases hji : j = i
  · subst hji
    rw [World.cell?_setCell_same w _ _ (h _ hj).1, List.getD_eq_getElem?_getD, List.getElem?_set_self hj]
    rfl
  · rw [World.cell?_setCell_other w _ _ _ (fun e => hji (by injection e with _ e2; exact e2.symm)), (h j hj).1, List.getD_eq_getElem?_getD, List.getD_eq_getElem?_getD, List.getElem?_set_ne (by omega)]
end Go.Proofs.Ytkelcmncjhnbgaa
