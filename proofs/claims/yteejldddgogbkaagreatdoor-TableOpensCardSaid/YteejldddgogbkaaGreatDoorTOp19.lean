/- Texts put together: TableRows, TableRefRow, TableRefOpenA, TablePiece, TableIndex -/
import Derived.Test.YteejldddgogbkaaGreatDoorTOp16
import Derived.Test.YteejldddgogbkaaGreatDoorTOp08
import Derived.Test.YteejldddgogbkaaGreatDoorTOp18
import Derived.Test.YteejldddgogbkaaGreatDoorTOp07
/- The rows of the document's Build: a part, the index, the keys. -/
set_option linter.unusedVariables false
set_option maxRecDepth 100000
set_option maxRecDepth 100000
namespace Go.Proofs.YteejldddgogbkaaGreatDoor
open Go.RowKit

def kcells (K : List (List UInt8)) : List Value := K.map fun l => Value.string (bs l)
theorem kcells_snoc (K : List (List UInt8)) (l : List UInt8) : kcells (K ++ [l]) = kcells K ++ [.string (bs l)] := by simp [kcells]
/-- A row of keys of the call's own. -/
def OwnK (w : World) (B : Nat) (v : Value) (K : List (List UInt8)) : Prop := OffRow w B 9 1 v K.length (kcells K)
theorem OwnK.nil (w : World) (B : Nat) : OwnK w B (.slice none 0 0) [] := OffRow.nil _ _ _ _
theorem OwnK.slice {w : World} {B : Nat} {v : Value} {K : List (List UInt8)} (h : OwnK w B v K) : ∃ a cap, v = .slice a K.length cap := OffRow.slice h
theorem OwnK.below {w w' : World} {B : Nat} {v : Value} {K : List (List UInt8)} (h : OwnK w B v K) (k : Below w.heap.size w w') : OwnK w' B v K := OffRow.kept h fun j hj => k.block j (OffRow.lt h j hj).2
theorem OwnK.rows {w : World} {B : Nat} {a : Option Addr} {n cap : Nat} {K : List (List UInt8)} (h : OwnK w B (.slice a n cap) K) (hn : n = K.length) : ∃ kb koff, (n = 0 ∨ a = some ⟨kb, koff, none⟩) ∧ RowS kb koff (K.map bs) w := by
  rcases Nat.eq_zero_or_pos n with h0 | h0
  · refine ⟨0, 0, .inl h0, fun k hk => ?_⟩
    rw [List.length_map] at hk
    omega
  · obtain ⟨g, off, cp, cur, e1, hB, hg, hc⟩ := OffRow.form h (by omega)
    injection e1 with e1 _ _
    refine ⟨g, off, .inr e1, fun k hk => ⟨heap_lt hg, ?_⟩⟩
    rw [List.length_map] at hk
    have := hc k (by omega)
    rw [this]
    simp [kcells, hk, List.getD_eq_getElem?_getD]
/-- Two rows of unlike elements lie apart. -/
theorem off_apart {w : World} {B1 B2 : Nat} {e1 e2 : TypeId} {s1 s2 n1 n2 : Nat} {v1 v2 : Value} {x1 x2 : List Value} (h1 : OffRow w B1 e1 s1 v1 n1 x1) (h2 : OffRow w B2 e2 s2 v2 n2 x2) (he : e1 ≠ e2) : ∀ g, v1.ownBlock = some g → v2.ownBlock ≠ some g := fun g a b => by
  obtain ⟨c1, d1⟩ := h1.tag a
  obtain ⟨c2, d2⟩ := h2.tag b
  rw [d1] at d2
  injection d2 with d2
  injection d2 with _ d2 _
  exact he d2
/-- A row stays where another grows. -/
theorem off_grown {w w' : World} {B1 : Nat} {e1 : TypeId} {s1 n1 : Nat} {v1 v2 : Value} {x1 : List Value} (h1 : OffRow w B1 e1 s1 v1 n1 x1) (hg : w.grownBy w' v2.ownBlock) (ha : ∀ g, v1.ownBlock = some g → v2.ownBlock ≠ some g) : OffRow w' B1 e1 s1 v1 n1 x1 :=
  OffRow.kept h1 fun j hj => hg.block j (OffRow.lt h1 j hj).2 fun e => ha j hj e.symm
structure R3 (w : World) (B : Nat) (p x k : Value) (P X : List Ent) (K : List (List UInt8)) : Prop where
  part : OwnE w B p P
  index : OwnE w B x X
  keys : OwnK w B k K
  apart : ∀ g, p.ownBlock = some g → x.ownBlock ≠ some g
namespace R3
variable {w w' : World} {B : Nat} {p x k : Value} {P X : List Ent} {K : List (List UInt8)}
theorem start (w : World) (B : Nat) : R3 w B (.slice none 0 0) (.slice none 0 0) (.slice none 0 0) [] [] [] := ⟨OwnE.nil _ _, OwnE.nil _ _, OwnK.nil _ _, fun g h => by cases h⟩
theorem below (h : R3 w B p x k P X K) (b : Below w.heap.size w w') : R3 w' B p x k P X K := ⟨h.part.below b, h.index.below b, h.keys.below b, h.apart⟩
theorem none (h : R3 w B p x k P X K) : R3 w B (.slice none 0 0) x k [] X K := ⟨OwnE.nil _ _, h.index, h.keys, fun g h => by cases h⟩
theorem ne1 : (49 : TypeId) ≠ 9 := by decide
theorem addPart (h : R3 w B p x k P X K) {p' : Value} {P' : List Ent} (hg : w.grownBy w' p.ownBlock) (ho : OwnE w' B p' P') (ha : p'.ownBlock = p.ownBlock ∨ p'.ownBlock = some w.heap.size) : R3 w' B p' x k P' X K :=
  ⟨ho, off_grown h.index hg fun g a b => h.apart g b a, off_grown h.keys hg (off_apart h.keys h.part ne1.symm), fun g a b => by
    rcases ha with ha | ha
    · exact h.apart g (ha ▸ a) b
    · rw [ha] at a
      injection a with a
      have := (OffRow.lt h.index g b).2
      omega⟩
theorem addIndex (h : R3 w B p x k P X K) {x' : Value} {X' : List Ent} (hg : w.grownBy w' x.ownBlock) (ho : OwnE w' B x' X') (ha : x'.ownBlock = x.ownBlock ∨ x'.ownBlock = some w.heap.size) : R3 w' B p x' k P X' K :=
  ⟨off_grown h.part hg h.apart, ho, off_grown h.keys hg (off_apart h.keys h.index ne1.symm), fun g a b => by
    rcases ha with ha | ha
    · exact h.apart g a (ha ▸ b)
    · rw [ha] at b
      injection b with b
      have := (OffRow.lt h.part g a).2
      omega⟩
theorem addKey (h : R3 w B p x k P X K) {k' : Value} {K' : List (List UInt8)} (hg : w.grownBy w' k.ownBlock) (ho : OwnK w' B k' K') : R3 w' B p x k' P X K' :=
  ⟨off_grown h.part hg (off_apart h.part h.keys ne1), off_grown h.index hg (off_apart h.index h.keys ne1), ho, h.apart⟩
end R3
theorem infoK : (Tryz.prog.info? 9).map (fun i => (i.zero, i.size, i.bytes)) = some (some (.string ByteArray.empty), 1, 16) := by kernel_rfl
theorem ecells_snoc (R : List Ent) (x : Ent) : ecells (R ++ [x]) = ecells R ++ x.vals := by rw [ecells_append]; simp [ecells]
end Go.Proofs.YteejldddgogbkaaGreatDoor
/- Rows of numbers; the variable in which the document's Open makes its table. -/
set_option linter.unusedVariables false
set_option maxRecDepth 100000
namespace Go.Proofs.YteejldddgogbkaaGreatDoor
open Go.RowKit

def ncells (L : List Nat) : List Value := L.map fun x : Nat => Value.int .i64 (x : Int)
theorem ncells_snoc (L : List Nat) (x : Nat) : ncells (L ++ [x]) = ncells L ++ [.int .i64 (x : Int)] := by simp [ncells]
/-- A row of numbers of the call's own. -/
def OwnN (w : World) (B : Nat) (v : Value) (L : List Nat) : Prop := OffRow w B 3 1 v L.length (ncells L)
theorem OwnN.nil (w : World) (B : Nat) : OwnN w B (.slice none 0 0) [] := OffRow.nil _ _ _ _
theorem OwnN.slice {w : World} {B : Nat} {v : Value} {L : List Nat} (h : OwnN w B v L) : ∃ a cap, v = .slice a L.length cap := OffRow.slice h
theorem OwnN.below {w w' : World} {B : Nat} {v : Value} {L : List Nat} (h : OwnN w B v L) (k : Below w.heap.size w w') : OwnN w' B v L := OffRow.kept h fun j hj => k.block j (OffRow.lt h j hj).2
theorem OwnN.is {w : World} {B : Nat} {a : Option Addr} {n cap : Nat} {L : List Nat} (h : OwnN w B (.slice a n cap) L) (hn : n = L.length) : IsI w a n L := by
  rcases Nat.eq_zero_or_pos n with h0 | h0
  · exact ⟨hn, 0, 0, .inl h0, fun k hk => by omega⟩
  · obtain ⟨g, off, cp, cur, e1, hB, hg, hc⟩ := OffRow.form h (by omega)
    injection e1 with e1 _ _
    refine ⟨hn, g, off, .inr e1, fun k hk => ⟨heap_lt hg, ?_⟩⟩
    rw [hc k (by omega)]
    simp [ncells, hk]
/-- In variable p the document's Open makes its table: xv the index, av and sv the places and the sizes. -/
structure RT (w : World) (B p : Nat) (s : List UInt8) (xv av sv f4 f5 : Value) (A S : List Nat) (count : Int) : Prop where
  box : w.heap[p]? = some (.cells #[.string (bs s), xv, av, sv, f4, f5, .int .i64 count] 45 (0, 0))
  at' : OwnN w B av A
  size : OwnN w B sv S
  apart : ∀ g, av.ownBlock = some g → sv.ownBlock ≠ some g
namespace RT
variable {w w' : World} {B p : Nat} {s : List UInt8} {xv av sv f4 f5 : Value} {A S : List Nat} {count : Int}
theorem off (h : RT w B p s xv av sv f4 f5 A S count) {L : List Nat} {v : Value} (ho : OwnN w B v L) : ∀ g, v.ownBlock = some g → g ≠ p := fun g hg e => by
  obtain ⟨cur, hc⟩ := OffRow.tag ho hg
  rw [e, h.box] at hc
  injection hc with hc
  injection hc with _ hc _
  exact absurd hc (by decide)
theorem below (h : RT w B p s xv av sv f4 f5 A S count) (k : Below w.heap.size w w') : RT w' B p s xv av sv f4 f5 A S count :=
  ⟨(k.block p (heap_lt h.box)).trans h.box, h.at'.below k, h.size.below k, h.apart⟩
theorem addAt (h : RT w B p s xv av sv f4 f5 A S count) {v : Value} {L : List Nat} (hg : w.grownBy w' av.ownBlock) (ho : OwnN w' B v L) (ha : v.ownBlock = av.ownBlock ∨ v.ownBlock = some w.heap.size) : RT (w'.setCell ⟨p, 2, none⟩ v) B p s xv v sv f4 f5 L S count := by
  have hp := heap_lt h.box
  have hb : w'.heap[p]? = _ := (hg.block p hp fun e => h.off h.at' p e.symm rfl).trans h.box
  have hvp : ∀ g, v.ownBlock = some g → g ≠ p := fun g hg' e => by
    rcases ha with ha | ha
    · exact h.off h.at' g (ha ▸ hg') e
    · rw [ha] at hg'
      injection hg' with hg'
      omega
  have hs := off_grown h.size hg fun g a b => h.apart g b a
  refine ⟨heap_set (o := 2) hb v, OffRow.kept ho fun j hj => heap_set_other (hvp j hj) v, OffRow.kept hs fun j hj => heap_set_other (h.off h.size j hj) v, fun g a b => ?_⟩
  rcases ha with ha | ha
  · exact h.apart g (ha ▸ a) b
  · rw [ha] at a
    injection a with a
    have := (OffRow.lt h.size g b).2
    omega
theorem addSize (h : RT w B p s xv av sv f4 f5 A S count) {v : Value} {L : List Nat} (hg : w.grownBy w' sv.ownBlock) (ho : OwnN w' B v L) (ha : v.ownBlock = sv.ownBlock ∨ v.ownBlock = some w.heap.size) : RT (w'.setCell ⟨p, 3, none⟩ v) B p s xv av v f4 f5 A L count := by
  have hp := heap_lt h.box
  have hb : w'.heap[p]? = _ := (hg.block p hp fun e => h.off h.size p e.symm rfl).trans h.box
  have hvp : ∀ g, v.ownBlock = some g → g ≠ p := fun g hg' e => by
    rcases ha with ha | ha
    · exact h.off h.size g (ha ▸ hg') e
    · rw [ha] at hg'
      injection hg' with hg'
      omega
  have hs := off_grown h.at' hg h.apart
  refine ⟨heap_set (o := 3) hb v, OffRow.kept hs fun j hj => heap_set_other (h.off h.at' j hj) v, OffRow.kept ho fun j hj => heap_set_other (hvp j hj) v, fun g a b => ?_⟩
  rcases ha with ha | ha
  · exact h.apart g a (ha ▸ b)
  · rw [ha] at b
    injection b with b
    have := (OffRow.lt h.at' g a).2
    omega
end RT
end Go.Proofs.YteejldddgogbkaaGreatDoor
/- The document's Open, where the foot is none. -/
set_option linter.unusedVariables false
set_option maxRecDepth 100000
namespace Go.Proofs.YteejldddgogbkaaGreatDoor
open Go.RowKit

/-- A variable of seven cells. -/
def C7 (b : Nat) (ty : TypeId) (v0 v1 v2 v3 v4 v5 v6 : Value) (w : World) : Prop := w.heap[b]? = some (.cells #[v0, v1, v2, v3, v4, v5, v6] ty (0, 0))
namespace C7
variable {b : Nat} {ty : TypeId} {v0 v1 v2 v3 v4 v5 v6 : Value} {w w' : World}
theorem c0 (h : C7 b ty v0 v1 v2 v3 v4 v5 v6 w) : w.cell? ⟨b, 0, none⟩ = some v0 ∧ w.cell? ⟨b, 1, none⟩ = some v1 ∧ w.cell? ⟨b, 2, none⟩ = some v2 ∧ w.cell? ⟨b, 3, none⟩ = some v3 ∧ w.cell? ⟨b, 4, none⟩ = some v4 ∧ w.cell? ⟨b, 5, none⟩ = some v5 ∧ w.cell? ⟨b, 6, none⟩ = some v6 := by unfold C7 at h; simp [World.cell?, h]
theorem free (h : C7 b ty v0 v1 v2 v3 v4 v5 v6 w) (j : Nat) : w.frozen? ⟨b, j, none⟩ = false := by unfold C7 at h; simp [World.frozen?, h]
theorem below (h : C7 b ty v0 v1 v2 v3 v4 v5 v6 w) (k : Below w.heap.size w w') : C7 b ty v0 v1 v2 v3 v4 v5 v6 w' := (k.block b (heap_lt h)).trans h
theorem put (h : C7 b ty v0 v1 v2 v3 v4 v5 v6 w) (u0 u1 u2 u3 u4 u5 u6 : Value) : C7 b ty u0 u1 u2 u3 u4 u5 u6 (((((((w.setCell ⟨b, 0, none⟩ u0).setCell ⟨b, 1, none⟩ u1).setCell ⟨b, 2, none⟩ u2).setCell ⟨b, 3, none⟩ u3).setCell ⟨b, 4, none⟩ u4).setCell ⟨b, 5, none⟩ u5).setCell ⟨b, 6, none⟩ u6) := by
  have h0 : C7 b ty u0 v1 v2 v3 v4 v5 v6 (w.setCell ⟨b, 0, none⟩ u0) := heap_set (o := 0) h u0
  have h1 : C7 b ty u0 u1 v2 v3 v4 v5 v6 ((w.setCell ⟨b, 0, none⟩ u0).setCell ⟨b, 1, none⟩ u1) := heap_set (o := 1) h0 u1
  have h2 : C7 b ty u0 u1 u2 v3 v4 v5 v6 (((w.setCell ⟨b, 0, none⟩ u0).setCell ⟨b, 1, none⟩ u1).setCell ⟨b, 2, none⟩ u2) := heap_set (o := 2) h1 u2
  have h3 : C7 b ty u0 u1 u2 u3 v4 v5 v6 ((((w.setCell ⟨b, 0, none⟩ u0).setCell ⟨b, 1, none⟩ u1).setCell ⟨b, 2, none⟩ u2).setCell ⟨b, 3, none⟩ u3) := heap_set (o := 3) h2 u3
  have h4 : C7 b ty u0 u1 u2 u3 u4 v5 v6 (((((w.setCell ⟨b, 0, none⟩ u0).setCell ⟨b, 1, none⟩ u1).setCell ⟨b, 2, none⟩ u2).setCell ⟨b, 3, none⟩ u3).setCell ⟨b, 4, none⟩ u4) := heap_set (o := 4) h3 u4
  have h5 : C7 b ty u0 u1 u2 u3 u4 u5 v6 ((((((w.setCell ⟨b, 0, none⟩ u0).setCell ⟨b, 1, none⟩ u1).setCell ⟨b, 2, none⟩ u2).setCell ⟨b, 3, none⟩ u3).setCell ⟨b, 4, none⟩ u4).setCell ⟨b, 5, none⟩ u5) := heap_set (o := 5) h4 u5
  exact (show C7 b ty u0 u1 u2 u3 u4 u5 u6 (((((((w.setCell ⟨b, 0, none⟩ u0).setCell ⟨b, 1, none⟩ u1).setCell ⟨b, 2, none⟩ u2).setCell ⟨b, 3, none⟩ u3).setCell ⟨b, 4, none⟩ u4).setCell ⟨b, 5, none⟩ u5).setCell ⟨b, 6, none⟩ u6) from heap_set (o := 6) h5 u6)
theorem range (h : C7 b ty v0 v1 v2 v3 v4 v5 v6 w) : w.rangeAt b 0 [v0, v1, v2, v3, v4, v5, v6] := fun j v hj => by
  obtain ⟨e0, e1, e2, e3, e4, e5, e6⟩ := h.c0
  match j, hj with
  | 0, hj => cases hj; exact e0
  | 1, hj => cases hj; exact e1
  | 2, hj => cases hj; exact e2
  | 3, hj => cases hj; exact e3
  | 4, hj => cases hj; exact e4
  | 5, hj => cases hj; exact e5
  | 6, hj => cases hj; exact e6
  | n + 7, hj => cases hj
end C7
theorem below_put7 {B g : Nat} {a w : World} (h : Below B a w) (hB : B ≤ g) (u0 u1 u2 u3 u4 u5 u6 : Value) : Below B a (((((((w.setCell ⟨g, 0, none⟩ u0).setCell ⟨g, 1, none⟩ u1).setCell ⟨g, 2, none⟩ u2).setCell ⟨g, 3, none⟩ u3).setCell ⟨g, 4, none⟩ u4).setCell ⟨g, 5, none⟩ u5).setCell ⟨g, 6, none⟩ u6) :=
  ((((((h.setCell (p := ⟨g, 0, none⟩) hB u0).setCell (p := ⟨g, 1, none⟩) hB u1).setCell (p := ⟨g, 2, none⟩) hB u2).setCell (p := ⟨g, 3, none⟩) hB u3).setCell (p := ⟨g, 4, none⟩) hB u4).setCell (p := ⟨g, 5, none⟩) hB u5).setCell (p := ⟨g, 6, none⟩) hB u6
theorem results_c7 {fn : Func} {p u : Tmp} {ty ty' : TypeId} (h : fn.results = #[.cell p ty, .tmp u]) (tmps : Array Value) (w : World) (b : Nat) (v0 v1 v2 v3 v4 v5 v6 x : Value) (d : TypeDesc) (hp : tmps.getD p undef = .pointer (some ⟨b, 0, none⟩)) (hx : tmps.getD u undef = x) (hc : C7 b ty' v0 v1 v2 v3 v4 v5 v6 w)
    (hu : Tryz.prog.underlying ty = some d) (hd : d.isRow = true) (hi : (Tryz.prog.info? ty).map (·.size) = some 7) : (results fn tmps).run Tryz.prog w = .ok (.tuple #[.agg #[v0, v1, v2, v3, v4, v5, v6], x]) w :=
  results_cell_bool h tmps Tryz.prog w b 0 [v0, v1, v2, v3, v4, v5, v6] d x hp hx hc.range hu hd hi
theorem sizeTab : (Tryz.prog.info? 45).map (·.size) = some 7 := by kernel_rfl
/-- The document's table that is none. -/
def noV : Value := .agg #[.string ⟨#[]⟩, .slice none 0 0, .slice none 0 0, .slice none 0 0, .int .i64 0, .slice none 0 0, .int .i64 0]
structure NoPost (z : Int) (w : World) (e : Ending) (w' : World) : Prop where
  out : e = .returned (.tuple #[noV, .int .i64 z])
  bel : Below w.heap.size w w'
set_option maxHeartbeats 2000000 in
theorem ref_Open_short (s : List UInt8) (w : World) (hs : s.length < 16) :
    Calls Tryz.prog 13 #[.string (bs s)] w (NoPost 2 w) := by
  obtain ⟨w1, hw1⟩ : ∃ w1, w1 = w.alloc (.cells #[.string ⟨#[]⟩, .slice none 0 0, .slice none 0 0, .slice none 0 0, .int .i64 0, .slice none 0 0, .int .i64 0] 45) := ⟨_, rfl⟩
  have K1 := Lib.hid (show Below w.heap.size w w1 by rw [hw1]; exact (Below.refl _ _).alloc (Nat.le_refl _) _)
  have C1 := Lib.hid (show C7 w.heap.size 45 (.string ⟨#[]⟩) (.slice none 0 0) (.slice none 0 0) (.slice none 0 0) (.int .i64 0) (.slice none 0 0) (.int .i64 0) w1 by rw [hw1]; exact heap_new w _)
  have HW1 := Lib.hid hw1
  clear hw1
  obtain ⟨m, hm⟩ : ∃ m, m = s.length := ⟨_, rfl⟩
  have hsz : (bs s).size = m := by rw [bs_size, hm]
  rw [← hm] at hs
  have hneg : (m : Int) - 16 < 0 := by omega
  clear hm
  obtain ⟨q0, q1, q2, q3, q4, q5, q6⟩ := C1.out.c0
  have qf := C1.out.free
  go_enter Tryz.func13, Tryz.ntmps13
  go_upto_region 1 with (fail)
  rw [← HW1.out]
  go_wp2_with fail
  refine bodyPost_ret (results_c7 rfl _ _ w.heap.size _ _ _ _ _ _ _ _ _ rfl rfl (C1.out.put _ _ _ _ _ _ _) Tryz.underlying45 rfl sizeTab) rfl ?_
  exact ⟨rfl, below_put7 K1.out (Nat.le_refl _) _ _ _ _ _ _ _⟩
end Go.Proofs.YteejldddgogbkaaGreatDoor
/- A piece of the index, read. -/
set_option linter.unusedVariables false
set_option maxRecDepth 100000
namespace Go.Proofs.YteejldddgogbkaaGreatDoor
open Go.RowKit

/-- What the value of an entry of the index tells: the error, the size; it must begin at this place, and end at most at that one. -/
def pieceE (v : List UInt8) (begin most : Nat) : Int :=
  if ce v ≠ 0 then ce v else if ce (v.drop (ck v)) ≠ 0 then ce (v.drop (ck v)) else
  if ck v + ck (v.drop (ck v)) < v.length ∨ cn v ≠ (begin : Int) ∨ cn (v.drop (ck v)) > (most : Int) - cn v then 3 else 0
def pv3 (k : List UInt8) (a b : Nat) : Value := .agg #[.string (bs k), .int .i64 (a : Int), .int .i64 (b : Int)]
theorem rd_mk {r : Nat} {s : ByteArray} {a b : Value} {w w' : World} {e : Ending} (h : Rd r s a b w e w') : e = .returned (.tuple #[a, b]) ∧ Rt r s w' ∧ Only (fun k => k = r) w w' := h
theorem C3.only {b : Nat} {ty : TypeId} {v0 v1 v2 : Value} {w w' : World} {S : Nat → Prop} (h : C3 b ty v0 v1 v2 w) (k : Only S w w') (hS : ¬ S b) : C3 b ty v0 v1 v2 w' := (k.block b (heap_lt h) hS).trans h
set_option maxHeartbeats 4000000 in
theorem table_openPiece (x : Ent) (begin most : Nat) (w : World) (hx : x.val.length ≤ 100000000000) (hb : begin ≤ most) (hm : most ≤ 100000000000) :
    Calls Tryz.prog 73 #[EV x, .int .i64 (begin : Int), .int .i64 (most : Int)] w fun e w' => e = .returned (.tuple #[if pieceE x.val begin most = 0 then pv3 x.key begin (cn (x.val.drop (ck x.val))).toNat else pv3 [] 0 0, .int .i64 (pieceE x.val begin most)]) ∧ Below w.heap.size w w' := by
  obtain ⟨v, hv⟩ : ∃ v, v = x.val := ⟨_, rfl⟩
  obtain ⟨X, hX⟩ : ∃ X, X = w.heap.size := ⟨_, rfl⟩
  obtain ⟨w1, hw1⟩ : ∃ w1, w1 = (w.alloc (.cells #[.string (bs x.key), .string (bs v), .bool x.gone] 49)).alloc (.cells #[.string ⟨#[]⟩, .int .i64 0, .int .i64 0] 131) := ⟨_, rfl⟩
  have O1 := Lib.hid (show Below X w w1 by rw [hw1, hX]; exact ((Below.refl _ _).alloc (Nat.le_refl _) _).alloc (by simp) _)
  have S1 := Lib.hid (show w1.heap.size = X + 2 by rw [hw1, hX]; simp)
  have E1 := Lib.hid (show C3 X 49 (.string (bs x.key)) (.string (bs v)) (.bool x.gone) w1 by rw [hw1]; unfold C3; rw [Below.heap_alloc _ _ _ (by simp; omega), hX]; exact heap_new w _)
  have C1 := Lib.hid (show C3 (X + 1) 131 (.string ⟨#[]⟩) (.int .i64 0) (.int .i64 0) w1 by
    have h := heap_new (w.alloc (.cells #[.string (bs x.key), .string (bs v), .bool x.gone] 49)) (.cells #[.string ⟨#[]⟩, .int .i64 0, .int .i64 0] 131)
    rw [show (w.alloc (.cells #[.string (bs x.key), .string (bs v), .bool x.gone] 49)).heap.size = X + 1 by rw [hX]; simp] at h
    rw [hw1]; exact h)
  have hvl : v.length ≤ 100000000000 := by rw [hv]; exact hx
  have z1 : (bs v).size = v.length := bs_size _
  rw [← hv]
  unfold EV
  rw [← hv]
  have HW1 := Lib.hid hw1
  have HX := Lib.hid hX
  rw [← HX.out]
  have e1 := E1.out.c1
  obtain ⟨w2, hw2⟩ : ∃ w2, w2 = w1.alloc (.cells #[.string (bs v)] 179) := ⟨_, rfl⟩
  have R2 := Lib.hid (show Rt (X + 2) (bs v) w2 by rw [hw2, ← S1.out]; exact Rt.new _ _)
  have O2 := Lib.hid (show Below X w w2 by rw [hw2]; exact O1.out.alloc (by rw [S1.out]; omega) _)
  have E2 := Lib.hid (show C3 X 49 (.string (bs x.key)) (.string (bs v)) (.bool x.gone) w2 by rw [hw2]; exact (Below.heap_alloc w1 _ _ (by rw [S1.out]; omega)).trans E1.out)
  have C2 := Lib.hid (show C3 (X + 1) 131 (.string ⟨#[]⟩) (.int .i64 0) (.int .i64 0) w2 by rw [hw2]; exact (Below.heap_alloc w1 _ _ (by rw [S1.out]; omega)).trans C1.out)
  have HW2 := Lib.hid hw2
  have hc1 := six_ReadCount (X + 2) (bs v) w2 R2.out (by rw [z1]; unfold maxLen; omega)
  rw [bs_list, rest_bs] at hc1
  obtain ⟨v2, hv2⟩ : ∃ v2, v2 = v.drop (ck v) := ⟨_, rfl⟩
  rw [← hv2] at hc1
  have hv2l : v2.length ≤ 100000000000 := by rw [hv2, List.length_drop]; omega
  have hc2 := fun W (h : Rt (X + 2) (bs v2) W) => six_ReadCount (X + 2) (bs v2) W h (by rw [bs_size]; unfold maxLen; omega)
  simp only [bs_list, rest_bs] at hc2
  have HC2 := Lib.hid hc2
  have hS1 := S1.out
  have hcd1 := cd_cases v
  have hcd2 := cd_cases v2
  have hP : pieceE v begin most = if ce v ≠ 0 then ce v else if ce v2 ≠ 0 then ce v2 else if ck v + ck v2 < v.length ∨ cn v ≠ (begin : Int) ∨ cn v2 > (most : Int) - cn v then 3 else 0 := by unfold pieceE; rw [← hv2]
  obtain ⟨P, hPd⟩ : ∃ P, P = pieceE v begin most := ⟨_, rfl⟩
  rw [← hPd] at hP ⊢
  rw [← hv2]
  have hv2' := hv2
  clear hw1 hX hw2 hv hPd hc2 hv2
  by_cases h1 : ce v = 0
  · rw [if_neg (fun h => h h1)] at hP
    have H1 := Lib.hid h1
    rw [h1] at hc1
    obtain ⟨n1, hn1⟩ : ∃ n, n = cn v := ⟨_, rfl⟩
    rw [← hn1] at hP hc1
    have hn1r : 0 ≤ n1 ∧ n1 ≤ 9223372036854775807 := by rw [hn1]; omega
    have HC1 := Lib.hid hc1
    by_cases h2 : ce v2 = 0
    · rw [if_neg (fun h => h h2)] at hP
      have hc2' := HC2.out
      rw [h2] at hc2'
      obtain ⟨n2, hn2⟩ : ∃ n, n = cn v2 := ⟨_, rfl⟩
      simp only [← hn2] at hP hc2' ⊢
      have hn2r : 0 ≤ n2 ∧ n2 ≤ 9223372036854775807 := by rw [hn2]; omega
      have HC2' := Lib.hid hc2'
      obtain ⟨v3, hv3⟩ : ∃ v3, v3 = v2.drop (ck v2) := ⟨_, rfl⟩
      have hsh : (ck v + ck v2 < v.length) ↔ v3 ≠ [] := by
        rw [hv3, ← List.length_pos_iff, List.length_drop, hv2', List.length_drop]
        omega
      rw [← hv3] at HC2'
      have z3 : (bs v3).size = v3.length := bs_size _
      clear h1 h2 hc1 hc2' hcd1 hcd2 hn1 hn2 HC2 hv3
      by_cases h3 : v3 = []
      · by_cases h4 : n1 = (begin : Int)
        · by_cases h5 : n2 > (most : Int) - n1
          · rw [if_pos (.inr (.inr h5))] at hP
            have HP := Lib.hid hP
            rw [hP, if_neg (by decide)]
            unfold pv3
            subst h4
            have hb3 : (bs v3).toList = [] := by rw [Lib.toList_data, bs_list, h3]
            clear hP hsh h3
            go_enter Tryz.func73, Tryz.ntmps73
            go_upto_region 1 with (fail)
            rw [← HX.out]
            rw [← HW1.out]
            go_wp2_with fail
            refine (six_Over (bs v) w1).mono ?_
            rintro e _ ⟨rfl, rfl⟩
            rw [hS1, ← HW2.out]
            clear e1
            go_wp2_with fail
            refine HC1.out.mono ?_
            rintro e w3 hrd3
            obtain ⟨rfl, r3, o3⟩ := rd_mk hrd3
            have O3 := Lib.hid (O2.out.trans (o3.below (fun j _ e => by subst e; omega) (Nat.le_of_lt (heap_lt E2.out))))
            have c3 := C2.out.only o3 (by omega)
            have C3' := Lib.hid c3
            have E3 := Lib.hid (E2.out.only o3 (by omega))
            have R3 := Lib.hid r3
            clear hrd3 r3 o3
            go_wp2_with fail
            refine (HC2'.out w3 R3.out).mono ?_
            rintro e w4 hrd4
            obtain ⟨rfl, r4, o4⟩ := rd_mk hrd4
            have O4 := Lib.hid (O3.out.trans (o4.below (fun j _ e => by subst e; omega) (Nat.le_of_lt (heap_lt E3.out))))
            have c4 := C3'.out.only o4 (by omega)
            have C4 := Lib.hid c4
            have R4 := Lib.hid r4
            clear hrd4 r4 o4 c3
            go_wp2_with fail
            refine (six_Rest (X + 2) _ w4 R4.out).mono ?_
            rintro e _ ⟨rfl, rfl⟩
            have q0 := c4.c0
            have q1 := c4.c1
            have q2 := c4.c2
            have qf := c4.free
            clear c4
            go_wp2_with fail
            refine bodyPost_ret (results_c3 rfl _ _ (X + 1) _ _ _ _ _ rfl rfl (C4.out.put _ _ _) Tryz.underlying131 rfl sizePiece) rfl ?_
            exact ⟨rfl, below_put3' O4.out (by omega) _ _ _⟩
          · rw [if_neg (by
              rintro (h | h | h)
              · exact hsh.1 h h3
              · exact h h4
              · exact h5 h)] at hP
            have HP := Lib.hid hP
            rw [hP, if_pos rfl]
            unfold pv3
            subst h4
            have hb3 : (bs v3).toList = [] := by rw [Lib.toList_data, bs_list, h3]
            obtain ⟨N2, hN2⟩ : ∃ N2 : Nat, n2 = (N2 : Int) := ⟨n2.toNat, by omega⟩
            subst hN2
            rw [Int.toNat_natCast]
            clear hP hsh h3
            go_enter Tryz.func73, Tryz.ntmps73
            go_upto_region 1 with (fail)
            rw [← HX.out]
            rw [← HW1.out]
            go_wp2_with fail
            refine (six_Over (bs v) w1).mono ?_
            rintro e _ ⟨rfl, rfl⟩
            rw [hS1, ← HW2.out]
            clear e1
            go_wp2_with fail
            refine HC1.out.mono ?_
            rintro e w3 hrd3
            obtain ⟨rfl, r3, o3⟩ := rd_mk hrd3
            have O3 := Lib.hid (O2.out.trans (o3.below (fun j _ e => by subst e; omega) (Nat.le_of_lt (heap_lt E2.out))))
            have c3 := C2.out.only o3 (by omega)
            have C3' := Lib.hid c3
            have E3 := Lib.hid (E2.out.only o3 (by omega))
            have R3 := Lib.hid r3
            clear hrd3 r3 o3
            go_wp2_with fail
            refine (HC2'.out w3 R3.out).mono ?_
            rintro e w4 hrd4
            obtain ⟨rfl, r4, o4⟩ := rd_mk hrd4
            have O4 := Lib.hid (O3.out.trans (o4.below (fun j _ e => by subst e; omega) (Nat.le_of_lt (heap_lt E3.out))))
            have c4 := C3'.out.only o4 (by omega)
            have C4 := Lib.hid c4
            have e4 := (E3.out.only o4 (by omega)).c0
            have R4 := Lib.hid r4
            clear hrd4 r4 o4 c3
            go_wp2_with fail
            refine (six_Rest (X + 2) _ w4 R4.out).mono ?_
            rintro e _ ⟨rfl, rfl⟩
            have q0 := c4.c0
            have q1 := c4.c1
            have q2 := c4.c2
            have qf := c4.free
            clear c4
            go_wp2_with fail
            refine bodyPost_ret (results_c3 rfl _ _ (X + 1) _ _ _ _ _ rfl rfl (C4.out.put _ _ _) Tryz.underlying131 rfl sizePiece) rfl ?_
            exact ⟨rfl, below_put3' O4.out (by omega) _ _ _⟩
        · rw [if_pos (.inr (.inl h4))] at hP
          have HP := Lib.hid hP
          rw [hP, if_neg (by decide)]
          unfold pv3
          have hb3 : (bs v3).toList = [] := by rw [Lib.toList_data, bs_list, h3]
          have hb4 : (n1 == (begin : Int)) = false := beq_eq_false_iff_ne.2 h4
          clear hP hsh h3
          go_enter Tryz.func73, Tryz.ntmps73
          go_upto_region 1 with (fail)
          rw [← HX.out]
          rw [← HW1.out]
          go_wp2_with fail
          refine (six_Over (bs v) w1).mono ?_
          rintro e _ ⟨rfl, rfl⟩
          rw [hS1, ← HW2.out]
          clear e1
          go_wp2_with fail
          refine HC1.out.mono ?_
          rintro e w3 hrd3
          obtain ⟨rfl, r3, o3⟩ := rd_mk hrd3
          have O3 := Lib.hid (O2.out.trans (o3.below (fun j _ e => by subst e; omega) (Nat.le_of_lt (heap_lt E2.out))))
          have c3 := C2.out.only o3 (by omega)
          have C3' := Lib.hid c3
          have E3 := Lib.hid (E2.out.only o3 (by omega))
          have R3 := Lib.hid r3
          clear hrd3 r3 o3
          go_wp2_with fail
          refine (HC2'.out w3 R3.out).mono ?_
          rintro e w4 hrd4
          obtain ⟨rfl, r4, o4⟩ := rd_mk hrd4
          have O4 := Lib.hid (O3.out.trans (o4.below (fun j _ e => by subst e; omega) (Nat.le_of_lt (heap_lt E3.out))))
          have c4 := C3'.out.only o4 (by omega)
          have C4 := Lib.hid c4
          have R4 := Lib.hid r4
          clear hrd4 r4 o4 c3
          go_wp2_with fail
          refine (six_Rest (X + 2) _ w4 R4.out).mono ?_
          rintro e _ ⟨rfl, rfl⟩
          have q0 := c4.c0
          have q1 := c4.c1
          have q2 := c4.c2
          have qf := c4.free
          clear c4
          go_wp2_with fail
          refine bodyPost_ret (results_c3 rfl _ _ (X + 1) _ _ _ _ _ rfl rfl (C4.out.put _ _ _) Tryz.underlying131 rfl sizePiece) rfl ?_
          exact ⟨rfl, below_put3' O4.out (by omega) _ _ _⟩
      · rw [if_pos (.inl (hsh.2 h3))] at hP
        have HP := Lib.hid hP
        rw [hP, if_neg (by decide)]
        unfold pv3
        have hb3 : ¬ (bs v3).toList = [] := by rw [Lib.toList_data, bs_list]; exact h3
        clear hP hsh h3
        go_enter Tryz.func73, Tryz.ntmps73
        go_upto_region 1 with (fail)
        rw [← HX.out]
        rw [← HW1.out]
        go_wp2_with fail
        refine (six_Over (bs v) w1).mono ?_
        rintro e _ ⟨rfl, rfl⟩
        rw [hS1, ← HW2.out]
        clear e1
        go_wp2_with fail
        refine HC1.out.mono ?_
        rintro e w3 hrd3
        obtain ⟨rfl, r3, o3⟩ := rd_mk hrd3
        have O3 := Lib.hid (O2.out.trans (o3.below (fun j _ e => by subst e; omega) (Nat.le_of_lt (heap_lt E2.out))))
        have c3 := C2.out.only o3 (by omega)
        have C3' := Lib.hid c3
        have E3 := Lib.hid (E2.out.only o3 (by omega))
        have R3 := Lib.hid r3
        clear hrd3 r3 o3
        go_wp2_with fail
        refine (HC2'.out w3 R3.out).mono ?_
        rintro e w4 hrd4
        obtain ⟨rfl, r4, o4⟩ := rd_mk hrd4
        have O4 := Lib.hid (O3.out.trans (o4.below (fun j _ e => by subst e; omega) (Nat.le_of_lt (heap_lt E3.out))))
        have c4 := C3'.out.only o4 (by omega)
        have C4 := Lib.hid c4
        have R4 := Lib.hid r4
        clear hrd4 r4 o4 c3
        go_wp2_with fail
        refine (six_Rest (X + 2) _ w4 R4.out).mono ?_
        rintro e _ ⟨rfl, rfl⟩
        have q0 := c4.c0
        have q1 := c4.c1
        have q2 := c4.c2
        have qf := c4.free
        clear c4
        go_wp2_with fail
        refine bodyPost_ret (results_c3 rfl _ _ (X + 1) _ _ _ _ _ rfl rfl (C4.out.put _ _ _) Tryz.underlying131 rfl sizePiece) rfl ?_
        exact ⟨rfl, below_put3' O4.out (by omega) _ _ _⟩
    · rw [if_pos h2] at hP
      have hz0 : (ce v2 == 0) = false := beq_eq_false_iff_ne.2 h2
      have hPn := Lib.hid (show ¬ P = 0 by rw [hP]; exact h2)
      have hc2' := HC2.out
      obtain ⟨z, hz⟩ : ∃ z, z = ce v2 := ⟨_, rfl⟩
      rw [← hz] at hP hz0 hc2'
      have HP := Lib.hid hP
      have HC2' := Lib.hid hc2'
      rw [if_neg hPn.out, HP.out]
      unfold pv3
      clear h1 h2 hP hz hc1 hc2' hcd1 hcd2 HC2 hn1
      go_enter Tryz.func73, Tryz.ntmps73
      go_upto_region 1 with (fail)
      rw [← HX.out]
      rw [← HW1.out]
      go_wp2_with fail
      refine (six_Over (bs v) w1).mono ?_
      rintro e _ ⟨rfl, rfl⟩
      rw [hS1, ← HW2.out]
      clear e1
      go_wp2_with fail
      refine HC1.out.mono ?_
      rintro e w3 hrd3
      obtain ⟨rfl, r3, o3⟩ := rd_mk hrd3
      have O3 := Lib.hid (O2.out.trans (o3.below (fun j _ e => by subst e; omega) (Nat.le_of_lt (heap_lt E2.out))))
      have c3 := C2.out.only o3 (by omega)
      have C3' := Lib.hid c3
      have E3 := Lib.hid (E2.out.only o3 (by omega))
      have R3 := Lib.hid r3
      clear hrd3 r3 o3
      go_wp2_with fail
      refine (HC2'.out w3 R3.out).mono ?_
      rintro e w4 hrd4
      obtain ⟨rfl, r4, o4⟩ := rd_mk hrd4
      have O4 := Lib.hid (O3.out.trans (o4.below (fun j _ e => by subst e; omega) (Nat.le_of_lt (heap_lt E3.out))))
      have c4 := C3'.out.only o4 (by omega)
      have C4 := Lib.hid c4
      clear hrd4 r4 o4 c3
      have q0 := c4.c0
      have q1 := c4.c1
      have q2 := c4.c2
      have qf := c4.free
      clear c4
      go_wp2_with fail
      refine bodyPost_ret (results_c3 rfl _ _ (X + 1) _ _ _ _ _ rfl rfl (C4.out.put _ _ _) Tryz.underlying131 rfl sizePiece) rfl ?_
      exact ⟨rfl, below_put3' O4.out (by omega) _ _ _⟩
  · rw [if_pos h1] at hP
    have hz0 : (ce v == 0) = false := beq_eq_false_iff_ne.2 h1
    have hPn := Lib.hid (show ¬ P = 0 by rw [hP]; exact h1)
    obtain ⟨z, hz⟩ : ∃ z, z = ce v := ⟨_, rfl⟩
    rw [← hz] at hP hz0 hc1
    have HP := Lib.hid hP
    rw [if_neg hPn.out, HP.out]
    unfold pv3
    have HC1 := Lib.hid hc1
    clear h1 hP hz hc1 hcd1 hcd2
    go_enter Tryz.func73, Tryz.ntmps73
    go_upto_region 1 with (fail)
    rw [← HX.out]
    rw [← HW1.out]
    go_wp2_with fail
    refine (six_Over (bs v) w1).mono ?_
    rintro e _ ⟨rfl, rfl⟩
    rw [hS1, ← HW2.out]
    clear e1
    go_wp2_with fail
    refine HC1.out.mono ?_
    rintro e w3 hrd3
    obtain ⟨rfl, r3, o3⟩ := rd_mk hrd3
    have O3 := Lib.hid (O2.out.trans (o3.below (fun j _ e => by subst e; omega) (Nat.le_of_lt (heap_lt E2.out))))
    have c3 := C2.out.only o3 (by omega)
    have C3' := Lib.hid c3
    have E3 := Lib.hid (E2.out.only o3 (by omega))
    have R3 := Lib.hid r3
    clear hrd3 r3 o3
    have q0 := c3.c0
    have q1 := c3.c1
    have q2 := c3.c2
    have qf := c3.free
    clear c3
    go_wp2_with fail
    refine bodyPost_ret (results_c3 rfl _ _ (X + 1) _ _ _ _ _ rfl rfl (C3'.out.put _ _ _) Tryz.underlying131 rfl sizePiece) rfl ?_
    exact ⟨rfl, below_put3' O3.out (by omega) _ _ _⟩
end Go.Proofs.YteejldddgogbkaaGreatDoor
/- The index, read. -/
set_option linter.unusedVariables false
set_option maxRecDepth 100000
namespace Go.Proofs.YteejldddgogbkaaGreatDoor
open Go.RowKit

/-- A row of pieces that is being filled. -/
def FillP (G n : Nat) (Q : List Pc) (w : World) : Prop :=
  ∃ cur, w.heap[G]? = some (.cells cur 131 (0, 0)) ∧ cur.size = n * 3 ∧ ∀ j x, Q[j]? = some x → cur[j * 3]? = some (.string (bs x.1)) ∧ cur[j * 3 + 1]? = some (.int .i64 (x.2.1 : Int)) ∧ cur[j * 3 + 2]? = some (.int .i64 (x.2.2 : Int))
theorem FillP.cells {G n : Nat} {Q : List Pc} {w : World} (h : FillP G n Q w) {k : Nat} (hk : k < n * 3) : (∃ v, w.cell? ⟨G, k, none⟩ = some v) ∧ w.frozen? ⟨G, k, none⟩ = false := by
  obtain ⟨cur, h1, h2, _⟩ := h
  refine ⟨⟨cur[k]'(by omega), ?_⟩, by simp [World.frozen?, h1]⟩
  simp only [World.cell?, h1]
  exact Array.getElem?_eq_getElem _
theorem FillP.put {G n : Nat} {Q : List Pc} {w : World} (h : FillP G n Q w) (hi : Q.length < n) (x : Pc) : FillP G n (Q ++ [x]) (((w.setCell ⟨G, Q.length * 3, none⟩ (.string (bs x.1))).setCell ⟨G, Q.length * 3 + 1, none⟩ (.int .i64 (x.2.1 : Int))).setCell ⟨G, Q.length * 3 + 2, none⟩ (.int .i64 (x.2.2 : Int))) := by
  obtain ⟨cur, h1, h2, h3⟩ := h
  have s1 := heap_set (o := Q.length * 3) h1 (.string (bs x.1))
  have s2 := heap_set (o := Q.length * 3 + 1) s1 (.int .i64 (x.2.1 : Int))
  have s3 := heap_set (o := Q.length * 3 + 2) s2 (.int .i64 (x.2.2 : Int))
  refine ⟨_, s3, by simp [h2], fun j y hy => ?_⟩
  simp only [Array.getElem?_setIfInBounds, Array.size_setIfInBounds, h2]
  by_cases hji : j = Q.length
  · subst hji
    rw [List.getElem?_append_right (Nat.le_refl _), Nat.sub_self] at hy
    injection hy with hy
    subst hy
    refine ⟨?_, ?_, ?_⟩
    · rw [if_neg (by omega), if_neg (by omega), if_pos rfl, if_pos (by omega)]
    · rw [if_neg (by omega), if_pos rfl, if_pos (by omega)]
    · rw [if_pos rfl, if_pos (by omega)]
  · have hjl : j < Q.length := by
      have := (List.getElem?_eq_some_iff.1 hy).1
      rw [List.length_append, List.length_singleton] at this
      omega
    rw [List.getElem?_append_left hjl] at hy
    obtain ⟨a, b, c⟩ := h3 j y hy
    refine ⟨?_, ?_, ?_⟩
    · rw [if_neg (by omega), if_neg (by omega), if_neg (by omega)]; exact a
    · rw [if_neg (by omega), if_neg (by omega), if_neg (by omega)]; exact b
    · rw [if_neg (by omega), if_neg (by omega), if_neg (by omega)]; exact c
theorem FillP.keep {G n : Nat} {Q : List Pc} {w w' : World} (h : FillP G n Q w) (k : Below w.heap.size w w') : FillP G n Q w' := by
  obtain ⟨cur, h1, h2⟩ := h
  exact ⟨cur, (k.block G (heap_lt h1)).trans h1, h2⟩
theorem FillP.full {G p : Nat} {Q : List Pc} {w : World} (h : FillP G Q.length Q w) (hp : G < p) : IsP w p (some ⟨G, 0, none⟩) Q.length Q := by
  obtain ⟨cur, h1, h2, h3⟩ := h
  refine ⟨rfl, G, 0, hp, .inr rfl, fun k hk => ?_⟩
  obtain ⟨a, b, c⟩ := h3 k _ (List.getElem?_eq_getElem hk)
  rw [Nat.zero_add]
  exact ⟨heap_lt h1, by simp only [World.cell?, h1]; exact a, by simp only [World.cell?, h1]; exact b, by simp only [World.cell?, h1]; exact c⟩
theorem infoP : (Tryz.prog.info? 131).map (fun i => (i.zero, i.size, i.bytes)) = some (some (.agg #[.string ByteArray.empty, .int .i64 0, .int .i64 0]), 3, 32) := by kernel_rfl
theorem step_abs {α : Type} (c1 c2 : Int) (p : Prop) [Decidable p] (R : Int × List α) : (if c1 ≠ 0 then (c1, []) else if c2 ≠ 0 then (c2, []) else if p then (3, []) else R) = if (if c1 ≠ 0 then c1 else if c2 ≠ 0 then c2 else if p then 3 else 0) ≠ 0 then ((if c1 ≠ 0 then c1 else if c2 ≠ 0 then c2 else if p then 3 else 0), []) else R := by
  by_cases h1 : c1 = 0 <;> by_cases h2 : c2 = 0 <;> by_cases h3 : p <;> simp [h1, h2, h3]
/-- The step of the places. -/
theorem places_step {a n : Nat} {x : Ent} {X : List Ent} : placesL a n (x :: X) = if pieceE x.val n a ≠ 0 then (pieceE x.val n a, []) else
    ((placesL a (n + (cn (x.val.drop (ck x.val))).toNat) X).1, if (placesL a (n + (cn (x.val.drop (ck x.val))).toNat) X).1 = 0 then (n, (cn (x.val.drop (ck x.val))).toNat) :: (placesL a (n + (cn (x.val.drop (ck x.val))).toNat) X).2 else []) := by
  unfold pieceE
  rw [placesL]
  exact step_abs _ _ _ _
/-- What reading the index tells. -/
def idxZ (X : List Ent) (a n : Nat) : Int :=
  if (placesL a 0 X).1 ≠ 0 then (placesL a 0 X).1 else if X.isEmpty = true ∧ 0 < n ∨ X.isEmpty = false ∧ n = 0 then 3 else 0
def pcsOf (X : List Ent) (P : List (Nat × Nat)) : List Pc := (X.map (·.key)).zip P
structure IdxPost (x : List UInt8) (a n : Nat) (w : World) (e : Ending) (w' : World) : Prop where
  out : ((opnS x).1 ≠ 0 ∧ e = .returned (.tuple #[.slice none 0 0, .int .i64 (opnS x).1])) ∨ ((opnS x).1 = 0 ∧ idxZ (opnS x).2 a n ≠ 0 ∧ e = .returned (.tuple #[.slice none 0 0, .int .i64 (idxZ (opnS x).2 a n)])) ∨
    ((opnS x).1 = 0 ∧ idxZ (opnS x).2 a n = 0 ∧ ∃ G, e = .returned (.tuple #[.slice (some ⟨G, 0, none⟩) (opnS x).2.length (opnS x).2.length, .int .i64 0]) ∧ FillP G (opnS x).2.length (pcsOf (opnS x).2 (placesL a 0 (opnS x).2).2) w')
  bel : Below w.heap.size w w'
/-- Where reading stands: i entries are gone through, the next block begins at n. -/
structure At9 (a : Nat) (X : List Ent) (i n : Nat) (Q : List (Nat × Nat)) : Prop where
  len : Q.length = i
  err : (placesL a 0 X).1 = (placesL a n (X.drop i)).1
  got : (placesL a n (X.drop i)).1 = 0 → (placesL a 0 X).2 = Q ++ (placesL a n (X.drop i)).2
  le : n ≤ a
theorem At9.start (a : Nat) (X : List Ent) : At9 a X 0 0 [] := ⟨rfl, rfl, fun _ => rfl, Nat.zero_le _⟩
theorem At9.bad {a i n : Nat} {X : List Ent} {Q : List (Nat × Nat)} {x : Ent} (h : At9 a X i n Q) (hx : X[i]? = some x) (hz : pieceE x.val n a ≠ 0) : (placesL a 0 X).1 = pieceE x.val n a := by
  have hi := (List.getElem?_eq_some_iff.1 hx)
  rw [h.err, List.drop_eq_getElem_cons hi.1, hi.2, places_step, if_pos hz]
theorem piece_le {v : List UInt8} {n a : Nat} (h : pieceE v n a = 0) : n + (cn (v.drop (ck v))).toNat ≤ a ∧ 0 ≤ cn (v.drop (ck v)) := by
  unfold pieceE at h
  split at h
  · rename_i h0; exact absurd h h0
  split at h
  · rename_i h0; exact absurd h h0
  split at h
  · cases h
  · rename_i h1 h2 h3
    have h2' : ce (v.drop (ck v)) = 0 := Decidable.of_not_not h2
    have hc := cn_of' h2'
    omega
theorem At9.next {a i n : Nat} {X : List Ent} {Q : List (Nat × Nat)} {x : Ent} (h : At9 a X i n Q) (hx : X[i]? = some x) (hz : pieceE x.val n a = 0) : At9 a X (i + 1) (n + (cn (x.val.drop (ck x.val))).toNat) (Q ++ [(n, (cn (x.val.drop (ck x.val))).toNat)]) := by
  have hi := (List.getElem?_eq_some_iff.1 hx)
  have hst := places_step (a := a) (n := n) (x := x) (X := X.drop (i + 1))
  rw [if_neg (fun e => e hz)] at hst
  have hd : X.drop i = x :: X.drop (i + 1) := by rw [List.drop_eq_getElem_cons hi.1, hi.2]
  have e1 : (placesL a n (X.drop i)).1 = (placesL a (n + (cn (x.val.drop (ck x.val))).toNat) (X.drop (i + 1))).1 := by rw [hd, hst]
  refine ⟨by rw [List.length_append, h.len]; rfl, h.err.trans e1, fun h0 => ?_, (piece_le hz).1⟩
  rw [h.got (e1.trans h0), hd, hst, if_pos h0, List.append_assoc]
  rfl
theorem At9.fin {a n : Nat} {X : List Ent} {Q : List (Nat × Nat)} (h : At9 a X X.length n Q) : (placesL a 0 X).1 = (if n = a then 0 else 3) ∧ (n = a → (placesL a 0 X).2 = Q) := by
  have h1 := h.err
  have h2 := h.got
  have hp : placesL a n [] = if n = a then (0, []) else (3, []) := by rw [placesL]
  rw [List.drop_length, hp] at h1 h2
  by_cases hn : n = a
  · rw [if_pos hn] at h1 h2
    rw [if_pos hn]
    exact ⟨h1, fun _ => by rw [h2 rfl, List.append_nil]⟩
  · rw [if_neg hn] at h1
    rw [if_neg hn]
    exact ⟨h1, fun e => absurd e hn⟩
theorem IdxPost.bad {s : List UInt8} {a n : Nat} {w w' : World} {z : Int} {X : List Ent} {o : Int × List Ent} (ho : o = opnS s) (h0 : o.1 = 0) (hX : X = o.2) (hz : idxZ X a n = z) (hz0 : z ≠ 0) (hb : Below w.heap.size w w') : IdxPost s a n w (.returned (.tuple #[.slice none 0 0, .int .i64 z])) w' := by
  subst ho hX hz
  exact ⟨.inr (.inl ⟨h0, hz0, rfl⟩), hb⟩
theorem IdxPost.good {s : List UInt8} {a n G m : Nat} {w w' : World} {X : List Ent} {o : Int × List Ent} (ho : o = opnS s) (h0 : o.1 = 0) (hX : X = o.2) (hm : m = X.length) (hz : idxZ X a n = 0) (hf : FillP G m (pcsOf X (placesL a 0 X).2) w') (hb : Below w.heap.size w w') : IdxPost s a n w (.returned (.tuple #[.slice (some ⟨G, 0, none⟩) m m, .int .i64 0])) w' := by
  subst ho hX hm
  exact ⟨.inr (.inr ⟨h0, hz, G, rfl, hf⟩), hb⟩
set_option maxHeartbeats 4000000 in
theorem table_readIndex (a b n F : Nat) (c : Array Value) (K : List (Nat × Obj)) (L : List UInt8) (w : World) (hs : Hid (Src F c K 0 L)) (hk : Hid (Keep K w)) (hab : a ≤ b) (hb : b ≤ L.length) (hl : L.length ≤ 100000000000) (hn : n < 4294967296) :
    Calls Tryz.prog 39 #[fv3 a b n, srcV F c] w (IdxPost ((L.take b).drop a) a n w) := by
  obtain ⟨Z, hZ⟩ : ∃ Z, Z = w.heap.size := ⟨_, rfl⟩
  obtain ⟨w1, hw1⟩ : ∃ w1, w1 = w.alloc (.cells #[.int .i64 (a : Int), .int .i64 (b : Int), .int .i64 (n : Int)] 67) := ⟨_, rfl⟩
  have K1 := Lib.hid (show Below Z w w1 by rw [hw1, hZ]; exact (Below.refl _ _).alloc (Nat.le_refl _) _)
  have C1 := Lib.hid (show C3 Z 67 (.int .i64 (a : Int)) (.int .i64 (b : Int)) (.int .i64 (n : Int)) w1 by rw [hw1, hZ]; exact heap_new w _)
  have hC := hs.out.calls w1 (hk.out.below (by have := K1.out; rw [hZ] at this; exact this)) a (b - a) (by omega)
  have eF := hs.out.enters
  unfold Enters at eF
  rw [if_pos rfl] at hC
  obtain ⟨s, hs'⟩ : ∃ s, s = (L.take b).drop a := ⟨_, rfl⟩
  have hse : (L.drop a).take (b - a) = s := by rw [hs', List.drop_take]
  rw [← hs']
  rw [hse] at hC
  have hsl : s.length ≤ 100000000000 := by rw [hs', List.length_drop, List.length_take]; omega
  have hop := fun W => block_Open s W hsl
  obtain ⟨o, ho⟩ : ∃ o, o = opnS s := ⟨_, rfl⟩
  have hfew : o.1 = 0 → o.2.length ≤ 65536 ∧ smallE o.2 := fun h0 => by
    rw [ho] at h0 ⊢
    have h1 := (chkE_ok _).1 (pack_open h0).1
    exact ⟨h1.2, smallE_of h1.1⟩
  have HO := Lib.hid ho
  have HOP := Lib.hid hop
  have HF := Lib.hid hfew
  have HW1 := Lib.hid hw1
  have HZ := Lib.hid hZ
  have hsub : (b : Int) - (a : Int) = ((b - a : Nat) : Int) := by omega
  have c0 := C1.out.c0
  have c1 := C1.out.c1
  have hab2 : IntKind.i64.wrap ((b : Int) - (a : Int)) = ((b - a : Nat) : Int) := by rw [IntWalk.i64_in _ (by omega), hsub]
  obtain ⟨ba, hba⟩ : ∃ ba, ba = b - a := ⟨_, rfl⟩
  rw [← hba] at hC hsub hab2
  unfold srcV fv3
  clear hw1 hZ hs' hse hop hfew ho hba
  by_cases h0 : o.1 = 0
  · obtain ⟨hm, hsm⟩ := HF.out h0
    have H0 := Lib.hid h0
    obtain ⟨X, hX⟩ : ∃ X, X = o.2 := ⟨_, rfl⟩
    rw [← hX] at hm hsm
    obtain ⟨m, hmm⟩ : ∃ m, m = X.length := ⟨_, rfl⟩
    rw [← hmm] at hm
    have HX := Lib.hid hX
    have HM := Lib.hid hmm
    have HSM := Lib.hid hsm
    clear h0 hX hmm hsm HF
    go_enter Tryz.func39, Tryz.ntmps39
    go_upto_region 1 with (fail)
    rw [← HZ.out, ← HW1.out]
    go_wp2_with fail
    refine hC.mono ?_
    rintro e w2 ⟨rfl, k2⟩
    have C2 := Lib.hid (C1.out.below k2)
    have K2 := Lib.hid (K1.out.trans (k2.mono (by have := K1.out.size; rw [← HZ.out] at this; exact this)))
    clear k2 hC eF c0 c1
    go_wp2_with fail
    refine (HOP.out w2).mono ?_
    rintro e w3 ⟨⟨xa, xc, he, hxc, hxe⟩, k3⟩
    rw [← HO.out, H0.out, ← HX.out, ← HM.out] at he
    rw [← HO.out, ← HX.out, ← HM.out] at hxc hxe
    subst he
    have C3' := Lib.hid (C2.out.below k3)
    have K3 := Lib.hid (K2.out.trans (k3.mono (by have := K2.out.size; rw [← HZ.out] at this; exact this)))
    have E3 := Lib.hid hxe
    clear k3 hxe
    obtain ⟨i0, hi, hz0, hz1, hz2⟩ := info_parts infoP
    go_wp2_with (at_make; refine wpList_make_full w3 rfl _ _ 88 rfl w3.heap.size 131 i0 _ 3 Tryz.underlying88 hi hz0 hz1 _ _ _ _ m rfl rfl rfl rfl ?b1 ?b2 ?b3 ?_)
    case b1 => rw [hz2]; omega
    case b2 => unfold maxLen; omega
    case b3 => exact Nat.le_refl _
    intro wm hown hgr
    have F0 := Lib.hid (show FillP w3.heap.size m [] wm by
      rcases hown.2 with ⟨h, _⟩ | ⟨g, c, cur, h, _, hg, _, _, hsz, _⟩
      · cases h
      · injection h with h hn hc
        injection h with h
        injection h with h
        subst h
        exact ⟨cur, hg, by omega, fun j x hj => by simp at hj⟩)
    have Bm := Lib.hid (show Below w3.heap.size w3 wm from (Below.refl _ _).grown hgr (Nat.le_refl _) (fun k hk => by cases hk))
    clear hown hgr hi hz0 hz1 hz2
    obtain ⟨G, hG⟩ : ∃ G, G = w3.heap.size := ⟨_, rfl⟩
    rw [← hG] at F0 ⊢
    have Cm := Lib.hid (C3'.out.below Bm.out)
    have Em := Lib.hid (E3.out.below Bm.out)
    have ZG := Lib.hid (show Z < G ∧ G < wm.heap.size from ⟨by rw [hG]; exact heap_lt C3'.out, by obtain ⟨cur, h, _⟩ := F0.out; exact heap_lt h⟩)
    have EG := Lib.hid (show ∀ w', Below G wm w' → IsE w' xa m X from fun w' hk => E3.out.below (by rw [← hG]; exact (show Below G w3 wm by rw [hG]; exact Bm.out).trans hk))
    have Km := Lib.hid (show Below Z w wm from K3.out.trans (Bm.out.mono (by rw [← hG]; exact Nat.le_of_lt ZG.out.1)))
    clear hG Bm
    go_wp2_with fail
    go_loopw [10, 41] (fun en iv wr => ∃ (i e : Nat) (Q : List (Nat × Nat)), i ≤ m ∧ iv = .int .i64 (i : Int) ∧ en = .int .i64 (e : Int) ∧ Hid (At9 a X i e Q) ∧ Hid (FillP G m ((X.map (·.key)).take i |>.zip Q) wr) ∧ Hid (Below G wm wr)) (fun en iv wr => m - (intOf iv).toNat)
    case atStart => exact ⟨0, 0, [], by omega, rfl, rfl, Lib.hid (At9.start a X), Lib.hid (by rw [List.take_zero]; exact F0.out), Lib.hid (Below.refl _ _)⟩
    case round =>
      obtain ⟨i, en, Q, hi, rfl, rfl, hA, hFl, hB⟩ := hrel
      have hce := Cm.out
      have cf : wr.cell? ⟨Z, 0, none⟩ = some (.int .i64 (a : Int)) := by rw [hB.out.cell (p := ⟨Z, 0, none⟩) ZG.out.1]; exact Cm.out.c0
      have hQl := Lib.hid (show (((X.map (·.key)).take i).zip Q).length = i by rw [List.length_zip, List.length_take, List.length_map, hA.out.len, ← HM.out]; omega)
      have hena := hA.out.le
      rcases Nat.lt_or_ge i m with hlt | hge
      · obtain ⟨b1, off1, x, rfl, hx, _, hcx⟩ := (EG.out wr hB.out).at hlt
        have d0 := hcx.c0
        have d1 := hcx.c1
        have d2 := hcx.c2
        have hxs := (HSM.out x (List.mem_of_getElem? hx)).2
        have hlt' : (i : Int) < (m : Int) := by omega
        have hltd : decide ((i : Int) < (m : Int)) = true := decide_eq_true hlt'
        obtain ⟨w4, hw4⟩ : ∃ w4, w4 = wr.alloc (.cells #[.string (bs x.key), .string (bs x.val), .bool x.gone] 49) := ⟨_, rfl⟩
        have A4 := Lib.hid (show Below wr.heap.size wr w4 by rw [hw4]; exact (Below.refl _ _).alloc (Nat.le_refl _) _)
        have F4 := Lib.hid (hFl.out.keep A4.out)
        have hGw := Lib.hid (show G ≤ wr.heap.size from Nat.le_trans (Nat.le_of_lt ZG.out.2) hB.out.size)
        have B4 := Lib.hid (hB.out.trans (A4.out.mono hGw.out))
        have C4 := Lib.hid (show C3 wr.heap.size 49 (.string (bs x.key)) (.string (bs x.val)) (.bool x.gone) w4 by rw [hw4]; exact heap_new wr _)
        have cf4 : w4.cell? ⟨Z, 0, none⟩ = some (.int .i64 (a : Int)) := by rw [A4.out.cell (p := ⟨Z, 0, none⟩) (by have := hGw.out; have := ZG.out.1; show Z < wr.heap.size; omega)]; exact cf
        have g0 := C4.out.c0
        have g1 := C4.out.c1
        have g2 := C4.out.c2
        have hpc := table_openPiece x en a w4 (by omega) hena (by omega)
        obtain ⟨z, hz⟩ : ∃ z, z = pieceE x.val en a := ⟨_, rfl⟩
        rw [← hz] at hpc
        have HPC := Lib.hid hpc
        have HXi := Lib.hid hx
        have HZz := Lib.hid hz
        have HW4 := Lib.hid hw4
        clear hw4 hpc hx hz hcx cf
        go_upto_region 12 with (fail)
        rw [← HW4.out]
        go_wp2_with fail
        refine HPC.out.mono ?_
        rintro e w5 ⟨rfl, k5⟩
        have F5 := Lib.hid (F4.out.keep k5)
        have B5 := Lib.hid (B4.out.trans (k5.mono (by have := A4.out.size; have := hGw.out; omega)))
        clear k5 cf4 g0 g1 g2 d0 d1 d2
        obtain ⟨⟨v0, f0⟩, z0⟩ := F5.out.cells (k := i * 3) (by omega)
        obtain ⟨⟨v1, f1⟩, z1⟩ := F5.out.cells (k := i * 3 + 1) (by omega)
        obtain ⟨⟨v2, f2⟩, z2⟩ := F5.out.cells (k := i * 3 + 2) (by omega)
        by_cases hz9 : z = 0
        · subst hz9
          rw [if_pos rfl]
          obtain ⟨sz, hsz⟩ : ∃ sz, sz = (cn (x.val.drop (ck x.val))).toNat := ⟨_, rfl⟩
          have hle := (piece_le HZz.out.symm).1
          rw [← hsz] at hle ⊢
          have hAn := Lib.hid (hA.out.next HXi.out HZz.out.symm)
          rw [← hsz] at hAn
          unfold pv3
          have F6 := Lib.hid (F5.out.put (by rw [hQl.out]; exact hlt) (x.key, en, sz))
          rw [hQl.out] at F6
          have hzip := Lib.hid (show ((X.map (·.key)).take i).zip Q ++ [(x.key, en, sz)] = ((X.map (·.key)).take (i + 1)).zip (Q ++ [(en, sz)]) by
            have h1 : (X.map (·.key)).take (i + 1) = (X.map (·.key)).take i ++ [x.key] := by rw [List.take_add_one, List.getElem?_map, HXi.out]; rfl
            rw [h1, List.zip_append (by rw [List.length_take, List.length_map, hA.out.len, ← HM.out]; omega)]
            rfl)
          obtain ⟨w6, hw6⟩ : ∃ w6, w6 = ((w5.setCell ⟨G, i * 3, none⟩ (.string (bs x.key))).setCell ⟨G, i * 3 + 1, none⟩ (.int .i64 (en : Int))).setCell ⟨G, i * 3 + 2, none⟩ (.int .i64 (sz : Int)) := ⟨_, rfl⟩
          have F6' := Lib.hid (show FillP G m (((X.map (·.key)).take (i + 1)).zip (Q ++ [(en, sz)])) w6 by rw [← hzip.out, hw6]; exact F6.out)
          have B6 := Lib.hid (show Below G wm w6 by rw [hw6]; exact ((B5.out.setCell (p := ⟨G, i * 3, none⟩) (Nat.le_refl _) _).setCell (p := ⟨G, i * 3 + 1, none⟩) (Nat.le_refl _) _).setCell (p := ⟨G, i * 3 + 2, none⟩) (Nat.le_refl _) _)
          have s6 : w6.cell? ⟨G, i * 3 + 2, none⟩ = some (.int .i64 (sz : Int)) := by
            obtain ⟨cur, h1, h2, h3⟩ := F6.out
            rw [← hw6] at h1
            have h4 := (h3 i (x.key, en, sz) (by rw [List.getElem?_append_right (by rw [hQl.out]; exact Nat.le_refl _), hQl.out, Nat.sub_self]; rfl)).2.2
            simp only [World.cell?, h1]
            exact h4
          have HW6 := Lib.hid hw6
          clear hw6 hsz F6 hzip
          go_upto_region 13 with (fail)
          rw [← HW6.out]
          clear f0 f1 f2 z0 z1 z2
          go_wp2_with fail
          go_roundw
          case rel => exact ⟨i + 1, en + sz, Q ++ [(en, sz)], by omega, by go_num, by go_num, hAn, F6', B6⟩
          case measure => simp [intOf]; omega
        · have hzz : (z == 0) = false := beq_eq_false_iff_ne.2 hz9
          have hbad := Lib.hid (hA.out.bad HXi.out (by rw [← HZz.out]; exact hz9))
          rw [if_neg hz9]
          unfold pv3
          have HZ9 := Lib.hid hz9
          clear hz9
          go_wp2_with fail
          go_ret2
          exact IdxPost.bad HO.out H0.out HX.out (by unfold idxZ; rw [if_pos (by rw [hbad.out, ← HZz.out]; exact HZ9.out), hbad.out, ← HZz.out]) HZ9.out (by
            have h1 := Km.out.trans (B5.out.mono (Nat.le_of_lt ZG.out.1))
            rw [← HZ.out]
            exact ((h1.setCell (p := ⟨G, i * 3, none⟩) (Nat.le_of_lt ZG.out.1) _).setCell (p := ⟨G, i * 3 + 1, none⟩) (Nat.le_of_lt ZG.out.1) _).setCell (p := ⟨G, i * 3 + 2, none⟩) (Nat.le_of_lt ZG.out.1) _)
      · obtain rfl : i = m := by omega
        have hAe := hA.out
        rw [HM.out] at hAe
        obtain ⟨hf1, hf2⟩ := hAe.fin
        have Kr := Lib.hid (show Below w.heap.size w wr by rw [← HZ.out]; exact Km.out.trans (hB.out.mono (Nat.le_of_lt ZG.out.1)))
        have cf2 : wr.cell? ⟨Z, 2, none⟩ = some (.int .i64 (n : Int)) := by rw [hB.out.cell (p := ⟨Z, 2, none⟩) ZG.out.1]; exact Cm.out.c2
        have hemp : X.isEmpty = decide (i = 0) := by rw [HM.out]; cases X <;> simp
        clear hAe
        by_cases hea : en = a
        · have hall := Lib.hid (hf2 hea)
          rw [if_pos hea] at hf1
          have hF1 := Lib.hid hf1
          have heb : ((en : Int) == (a : Int)) = true := by rw [hea]; exact beq_iff_eq.2 rfl
          have hei : (en : Int) = (a : Int) := by rw [hea]
          clear hf1 hf2 hea
          by_cases hi0 : i = 0
          · by_cases hn0 : n = 0
            · have hib : ((i : Int) == 0) = true := by rw [hi0]; rfl
              have hnb : ((n : Int) == 0) = true := by rw [hn0]; rfl
              have hii : (i : Int) = 0 := by omega
              have hnn : (n : Int) = 0 := by omega
              have hzz := Lib.hid (show idxZ X a n = 0 by unfold idxZ; rw [if_neg (by rw [hF1.out]; decide), hemp, if_neg (by simp [hi0, hn0])])
              clear hemp hi0 hn0
              go_wp2_with fail
              go_ret2
              exact IdxPost.good HO.out H0.out HX.out HM.out hzz.out (by have := hFl.out; rw [HM.out, ← List.length_map (f := (·.key)), List.take_length] at this; rw [hall.out, HM.out, ← List.length_map (f := (·.key))]; exact this) Kr.out
            · have hib : ((i : Int) == 0) = true := by rw [hi0]; rfl
              have hnb : ((n : Int) == 0) = false := beq_eq_false_iff_ne.2 (by omega)
              have hii : (i : Int) = 0 := by omega
              have hnn : ¬ (n : Int) = 0 := by omega
              have hzz := Lib.hid (show idxZ X a n = 3 by unfold idxZ; rw [if_neg (by rw [hF1.out]; decide), hemp, if_pos (by simp [hi0, hn0]; omega)])
              clear hemp hi0 hn0
              go_wp2_with fail
              go_ret2
              exact IdxPost.bad HO.out H0.out HX.out hzz.out (by decide) Kr.out
          · by_cases hn0 : n = 0
            · have hib : ((i : Int) == 0) = false := beq_eq_false_iff_ne.2 (by omega)
              have hnb : ((n : Int) == 0) = true := by rw [hn0]; rfl
              have hii : ¬ (i : Int) = 0 := by omega
              have hnn : (n : Int) = 0 := by omega
              have hzz := Lib.hid (show idxZ X a n = 3 by unfold idxZ; rw [if_neg (by rw [hF1.out]; decide), hemp, if_pos (by simp [hi0, hn0])])
              clear hemp hi0 hn0
              go_wp2_with fail
              go_ret2
              exact IdxPost.bad HO.out H0.out HX.out hzz.out (by decide) Kr.out
            · have hib : ((i : Int) == 0) = false := beq_eq_false_iff_ne.2 (by omega)
              have hnb : ((n : Int) == 0) = false := beq_eq_false_iff_ne.2 (by omega)
              have hii : ¬ (i : Int) = 0 := by omega
              have hnn : ¬ (n : Int) = 0 := by omega
              have hzz := Lib.hid (show idxZ X a n = 0 by unfold idxZ; rw [if_neg (by rw [hF1.out]; decide), hemp, if_neg (by simp [hi0, hn0])])
              clear hemp hi0 hn0
              go_wp2_with fail
              go_ret2
              exact IdxPost.good HO.out H0.out HX.out HM.out hzz.out (by have := hFl.out; rw [HM.out, ← List.length_map (f := (·.key)), List.take_length] at this; rw [hall.out, HM.out, ← List.length_map (f := (·.key))]; exact this) Kr.out
        · rw [if_neg hea] at hf1
          have hzz := Lib.hid (show idxZ X a n = 3 by unfold idxZ; rw [if_pos (by rw [hf1]; decide), hf1])
          have heb : ((en : Int) == (a : Int)) = false := beq_eq_false_iff_ne.2 (by omega)
          have hei : ¬ (en : Int) = (a : Int) := by omega
          clear hf1 hf2 hea hemp
          go_wp2_with fail
          go_ret2
          exact IdxPost.bad HO.out H0.out HX.out hzz.out (by decide) Kr.out
  · have hz0 : (o.1 == 0) = false := beq_eq_false_iff_ne.2 h0
    have H0 := Lib.hid h0
    obtain ⟨z, hz⟩ : ∃ z, z = o.1 := ⟨_, rfl⟩
    have HZ1 := Lib.hid hz
    rw [← hz] at hz0
    clear h0 hz HF
    go_enter Tryz.func39, Tryz.ntmps39
    go_upto_region 1 with (fail)
    rw [← HZ.out, ← HW1.out]
    go_wp2_with fail
    refine hC.mono ?_
    rintro e w2 ⟨rfl, k2⟩
    have K2 := Lib.hid (K1.out.trans (k2.mono (by have := K1.out.size; rw [← HZ.out] at this; exact this)))
    clear k2 hC eF c0 c1
    go_wp2_with fail
    refine (HOP.out w2).mono ?_
    rintro e w3 ⟨⟨xa, xc, he, hxc, hxe⟩, k3⟩
    rw [← HO.out, ← HZ1.out] at he
    subst he
    have K3 := Lib.hid (K2.out.trans (k3.mono (by have := K2.out.size; rw [← HZ.out] at this; exact this)))
    obtain ⟨ol, hol⟩ : ∃ ol, ol = o.2.length := ⟨_, rfl⟩
    rw [← hol]
    clear k3 hxe hxc hol
    go_wp2_with fail
    go_ret2
    exact ⟨.inl ⟨by rw [← HO.out]; exact H0.out, by rw [← HO.out, ← HZ1.out]; rfl⟩, by rw [← HZ.out]; exact K3.out⟩
end Go.Proofs.YteejldddgogbkaaGreatDoor
