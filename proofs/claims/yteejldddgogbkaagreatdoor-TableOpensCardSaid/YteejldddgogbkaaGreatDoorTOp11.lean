/- Texts put together: ShaRefSum -/
import Derived.Test.YteejldddgogbkaaGreatDoorTOp10
import Derived.RegionTactic
import Derived.Deep.Cut
import Derived.Deep.RegionLaw
import Derived.Deep.MidRow
/- The document's own digest. -/
set_option linter.unusedVariables false
set_option maxRecDepth 100000
namespace Go.Proofs.YteejldddgogbkaaGreatDoor
open Go.RowKit

theorem info37 : (Tryz.prog.info? 84).map (fun i => (i.zero, i.size, i.bytes)) = some (some (.int .u32 0), 1, 4) := by kernel_rfl

/-- In block b stand so many bytes. -/
def Key8 (b : Nat) (g : Nat → Nat) (w : World) : Prop := b < w.heap.size ∧ ∀ j, j < 32 → w.cell? ⟨b, j, none⟩ = some (.int .u8 ((g j : Nat) : Int)) ∧ w.frozen? ⟨b, j, none⟩ = false
theorem Key8.same {b : Nat} {g g' : Nat → Nat} {w : World} (h : Key8 b g w) (e : ∀ j, j < 32 → g j = g' j) : Key8 b g' w := ⟨h.1, fun j hj => by rw [← e j hj]; exact h.2 j hj⟩
theorem Key8.keep {b B : Nat} {g : Nat → Nat} {w w' : World} (h : Key8 b g w) (k : Below B w w') (hb : b < B) : Key8 b g w' := by
  refine ⟨Nat.lt_of_lt_of_le h.1 k.size, fun j hj => ?_⟩
  rw [k.cell hb, YteejldddgogbkaaGreatDoor.Below.frozen k hb]
  exact h.2 j hj
theorem Key8.set {b : Nat} {g : Nat → Nat} {w : World} (h : Key8 b g w) {i : Nat} (hi : i < 32) (v : Nat) : Key8 b (fun j => if j = i then v else g j) (w.setCell ⟨b, i, none⟩ (.int .u8 (v : Int))) := by
  refine ⟨by simpa using h.1, fun j hj => ?_⟩
  refine ⟨?_, by rw [World.frozen?_setCell]; exact (h.2 j hj).2⟩
  by_cases hji : j = i
  · subst hji
    rw [World.cell?_setCell_same w _ _ (h.2 j hj).1]
    simp
  · rw [World.cell?_setCell_other w _ _ _ (fun e => hji (by injection e with _ e2; exact e2.symm)), (h.2 j hj).1]
    simp [hji]
theorem Key8.other {b : Nat} {g : Nat → Nat} {w : World} (h : Key8 b g w) {a : Addr} (ha : a.block ≠ b) (v : Value) : Key8 b g (w.setCell a v) := by
  refine ⟨by simpa using h.1, fun j hj => ?_⟩
  refine ⟨?_, by rw [World.frozen?_setCell]; exact (h.2 j hj).2⟩
  rw [World.cell?_setCell_other w _ _ _ (fun e => ha (by rw [e]))]
  exact (h.2 j hj).1
theorem key8_new (w : World) (t : TypeId) : Key8 w.heap.size (fun _ => 0) (w.alloc (.cells (Array.replicate 32 (.int .u8 0)) t)) := by
  refine ⟨by show w.heap.size < (w.heap.push _).size; simp, fun j hj => ⟨?_, ?_⟩⟩
  · rw [World.cell?_alloc_mark]
    simp [hj]
  · rw [World.frozen?_alloc_mark]
    simp

def keyV (l : List UInt8) : Value := .agg ((l.map fun b => Value.int .u8 (b.toNat : Int)).toArray)

/-- The state, the numbers, the result's place. -/
structure St (R : Nat) (st : List Nat) (w : World) : Prop where
  s : Row32 (R + 1) st w
  k : Row32 (R + 2) numbers w
  r : Key8 R (fun _ => 0) w
theorem St.keep {R B : Nat} {st : List Nat} {w w' : World} (h : St R st w) (k : Below B w w') (hB : R + 2 < B) : St R st w' :=
  ⟨h.s.keep k (by omega), h.k.keep k (by omega), h.r.keep k (by omega)⟩
def before (w : World) : World := (w.alloc (.cells (Array.replicate 32 (.int .u8 0)) 145)).alloc (.cells (words32 start.list) 84)
theorem before_size (w : World) : (before w).heap.size = w.heap.size + 2 := by
  show ((w.heap.push _).push _).size = _
  simp
theorem before_below (w : World) : Below w.heap.size w (before w) := ((Below.refl _ _).alloc (Nat.le_refl _) _).alloc (by simp) _
theorem before_st {w w1 : World} (h1 : Row32 (before w).heap.size numbers w1) (k1 : Below (before w).heap.size (before w) w1) : St w.heap.size start.list w1 := by
  rw [before_size] at h1 k1
  refine ⟨?_, h1, ?_⟩
  · have h := row32_new (w.alloc (.cells (Array.replicate 32 (.int .u8 0)) 145)) start.list 84
    have e : (w.alloc (.cells (Array.replicate 32 (.int .u8 0)) 145)).heap.size = w.heap.size + 1 := by simp
    rw [e] at h
    exact h.keep k1 (by omega)
  · have h := key8_new w 145
    have k2 : Below (w.heap.size + 1) (w.alloc (.cells (Array.replicate 32 (.int .u8 0)) 145)) (before w) := (Below.refl _ _).alloc (by simp) _
    exact (h.keep k2 (by omega)).keep k1 (by omega)

/-- A slice of words of the call's own. -/
def Own32 (B : Nat) (v : Value) (l : List Nat) (w : World) : Prop := w.ownsRow B 84 1 v l.length (l.map fun x : Nat => Value.int .u32 (x : Int))
theorem Own32.form {B n : Nat} {v : Value} {l : List Nat} {w : World} (h : Own32 B v l w) (hn : l.length = n) (hl : 0 < n) : ∃ g cap, v = .slice (some ⟨g, 0, none⟩) n cap ∧ B ≤ g ∧ g < w.heap.size := by
  subst hn
  rcases h.2 with ⟨_, h0⟩ | ⟨g, cap, cur, hv, hB, hg, _⟩
  · omega
  · exact ⟨g, cap, hv, hB, (Array.getElem?_eq_some_iff.1 hg).1⟩
theorem Own32.cell {B g cap n : Nat} {l : List Nat} {w : World} (h : Own32 B (.slice (some ⟨g, 0, none⟩) n cap) l w) : ∀ j, j < l.length → w.cell? ⟨g, j, none⟩ = some (.int .u32 ((l.getD j 0 : Nat) : Int)) := by
  intro j hj
  have h1 := h.cells rfl j (.int .u32 ((l.getD j 0 : Nat) : Int)) (by simp [List.getD_eq_getElem?_getD, hj])
  rw [addr_add, Nat.zero_add] at h1
  exact h1
theorem Own32.push {B : Nat} {v' : Value} {l : List Nat} {w' : World} {c : Int} {b : Nat} (h : w'.ownsRow B 84 1 v' (l.length + 1) ((l.map fun x : Nat => Value.int .u32 (x : Int)) ++ [.int .u32 c])) (hc : c = (b : Int)) : Own32 B v' (l ++ [b]) w' := by
  unfold Own32
  have e1 : (l ++ [b]).length = l.length + 1 := by simp
  have e2 : ((l ++ [b]).map fun x : Nat => Value.int .u32 (x : Int)) = (l.map fun x : Nat => Value.int .u32 (x : Int)) ++ [.int .u32 c] := by simp [hc]
  rw [e1, e2]
  exact h
def partW (p : List UInt8) (o : Nat) : Nat → Nat
  | 0 => 0
  | j + 1 => 256 * partW p o j + byteAt p (o + j)
theorem partW_four (p : List UInt8) (o : Nat) : partW p o 4 = wordAt p o := by simp [partW, wordAt]
theorem partW_lt (p : List UInt8) (o j : Nat) (h : j < 4) : partW p o j < 16777216 := by
  have h0 := byteAt_lt p o
  have h1 := byteAt_lt p (o + 1)
  have h2 := byteAt_lt p (o + 2)
  have : j = 0 ∨ j = 1 ∨ j = 2 ∨ j = 3 := by omega
  rcases this with rfl | rfl | rfl | rfl <;> simp [partW] <;> omega
theorem byte_bs (p : List UInt8) (o : Nat) (h : o < (bs p).size) : (bs p)[o].toNat = byteAt p o := by
  unfold byteAt
  have hp : o < p.length := by rw [bs_size] at h; exact h
  rw [List.getD_eq_getElem?_getD, List.getElem?_eq_getElem hp]
  rfl

/-- append to a row of the call's own, as one step of a region that draws. -/
theorem step_append_own {P : Program} {ops : Array Oper} {o : Oper} {a : Act} {w : World} {K : Act → World → Prop} {Q : Exit → Act → World → Prop} {E : Prop}
    (hg : o.guard = none) (s x : Operand) (t : TypeId) (hop : o.op = Op.call { callee := Callee.builtin Builtin.append, args := #[s, x], argTypes := #[t, t] })
    (base : Nat) (e : TypeId) (i : TypeInfo) (z : Value) (size bytes : Nat) (h1 : P.underlying t = some (.slice e)) (h2 : P.info? e = some i) (h3 : i.zero = some z) (h4 : i.size = size) (h5 : i.bytes = bytes) (h6 : z.cells.size = size) (h7 : 0 < size)
    (v : Value) (n : Nat) (xs : List Value) (hs : a.eval s = v) (hown : w.ownsRow base e size v n xs)
    (ad : Addr) (m c : Nat) (news : List Value) (hx : a.eval x = .slice (some ad) m c) (hn : news.length = m * size) (hc : ∀ j u, news[j]? = some u → w.cell? (ad.add j) = some u) (h1c : ∀ u ∈ news, u.oneCell' = true)
    (b1 : n + m ≤ maxLen) (b2 : (n + m) * bytes ≤ 140737488355328) (hbase : base ≤ w.heap.size)
    (hK : ∀ v' w', w'.ownsRow base e size v' (n + m) (xs ++ news) → w.grownBy w' v.ownBlock → K (a.put o.dst v') w') :
    if Region.wanted o (yielded ops a.tmps) = true then Oper.wp P o a w K Q else E := by
  have hw : Region.wanted o (yielded ops a.tmps) = true := by simp [Region.wanted, hg]
  rw [if_pos hw]
  obtain ⟨v', w', hrun, r1, r2, _⟩ := run_append_own (P := P) w base t o.type e i z size bytes h1 h2 h3 h4 h5 h6 h7 v n xs hown ad m c news hn hc h1c b1 b2 hbase
  unfold Oper.wp
  simp [execOp, hop, resolve, invoke, builtin, hs, hx, hrun, Result.andThen]
  exact hK v' w' r1 r2
theorem wrap_idx (q : Nat) (h : q ≤ 1000000) : IntKind.i64.wrap (q : Int) = (q : Int) := by rw [IntKind.wrap_i64]; omega
theorem wrap_sum (a b : Nat) : IntKind.u32.wrap ((a : Int) + (b : Int)) = (((a + b) % 4294967296 : Nat) : Int) := by rw [IntKind.wrap_u32']; omega
theorem xor_u32 (a b : Nat) (ha : a < 4294967296) (hb : b < 4294967296) : bits BinOp.xor IntKind.u32 (a : Int) (b : Int) = ((a ^^^ b : Nat) : Int) := u32_xor_nat a b ha (by omega)
/-- The state where so many words are added. -/
def mixL (s t : Eight) (i : Nat) : List Nat := (plus s t).list.take i ++ s.list.drop i
theorem mix_at (s t : Eight) (i : Nat) (h : i < 8) : (mixL s t i).getD i 0 = s.list.getD i 0 := by
  have : i = 0 ∨ i = 1 ∨ i = 2 ∨ i = 3 ∨ i = 4 ∨ i = 5 ∨ i = 6 ∨ i = 7 := by omega
  rcases this with rfl | rfl | rfl | rfl | rfl | rfl | rfl | rfl <;> rfl
theorem mix_next (s t : Eight) (i : Nat) (h : i < 8) : (mixL s t i).set i ((s.list.getD i 0 + t.list.getD i 0) % 4294967296) = mixL s t (i + 1) := by
  have : i = 0 ∨ i = 1 ∨ i = 2 ∨ i = 3 ∨ i = 4 ∨ i = 5 ∨ i = 6 ∨ i = 7 := by omega
  rcases this with rfl | rfl | rfl | rfl | rfl | rfl | rfl | rfl <;> rfl
theorem mix_len (s t : Eight) (i : Nat) (h : i ≤ 8) : (mixL s t i).length = 8 := by
  unfold mixL
  rw [List.length_append, List.length_take, List.length_drop]
  have h1 : (plus s t).list.length = 8 := rfl
  have h2 : s.list.length = 8 := rfl
  omega
theorem St.set {R : Nat} {st : List Nat} {w : World} (h : St R st w) {i : Nat} (hi : i < st.length) (v : Nat) : St R (st.set i v) (w.setCell ⟨R + 1, i, none⟩ (.int .u32 (v : Int))) :=
  ⟨h.s.set hi v, h.k.other (by show R + 1 ≠ R + 2; omega) _, h.r.other (by show R + 1 ≠ R; omega) _⟩
/-- The bytes of a key, by their places. -/
def keyN (s : Eight) (m : Nat) : Nat := ((keyOf s).getD m 0).toNat
theorem keyN_at (s : Eight) (i j : Nat) (hi : i < 8) (hj : j < 4) : keyN s (4 * i + j) = s.list.getD i 0 / 256 ^ (3 - j) % 256 := by
  have h1 : i = 0 ∨ i = 1 ∨ i = 2 ∨ i = 3 ∨ i = 4 ∨ i = 5 ∨ i = 6 ∨ i = 7 := by omega
  have h2 : j = 0 ∨ j = 1 ∨ j = 2 ∨ j = 3 := by omega
  rcases h2 with rfl | rfl | rfl | rfl <;> rcases h1 with rfl | rfl | rfl | rfl | rfl | rfl | rfl | rfl <;> simp [keyN, keyOf, four4, Eight.list]
/-- The places that are filled: the words below i, and of word i the bytes from j on. -/
def fill (s : Eight) (i j m : Nat) : Nat := if m < 4 * i ∨ (4 * i + j ≤ m ∧ m < 4 * i + 4) then keyN s m else 0
theorem fill_next (s : Eight) (i j m : Nat) (hj : j < 4) : (if m = 4 * i + j then keyN s (4 * i + j) else fill s i (j + 1) m) = fill s i j m := by
  unfold fill
  by_cases h : m = 4 * i + j
  · subst h; rw [if_pos rfl, if_pos (by omega)]
  · rw [if_neg h]
    by_cases h2 : m < 4 * i ∨ (4 * i + j ≤ m ∧ m < 4 * i + 4)
    · rw [if_pos h2, if_pos (by omega)]
    · rw [if_neg h2, if_neg (by omega)]
theorem fill_word (s : Eight) (i m : Nat) : fill s i 0 m = fill s (i + 1) 4 m := by
  unfold fill
  by_cases h2 : m < 4 * i ∨ (4 * i + 0 ≤ m ∧ m < 4 * i + 4)
  · rw [if_pos h2, if_pos (by omega)]
  · rw [if_neg h2, if_neg (by omega)]
theorem fill_all (s : Eight) (m : Nat) (h : m < 32) : fill s 8 4 m = keyN s m := by unfold fill; rw [if_pos (by omega)]
theorem fill_none (s : Eight) (m : Nat) : fill s 0 4 m = 0 := by unfold fill; rw [if_neg (by omega)]

def keyCells (s : Eight) : List Value := (keyOf s).map fun b => Value.int .u8 (b.toNat : Int)
theorem keyCells_len (s : Eight) : (keyCells s).length = 32 := rfl
theorem key_range {b : Nat} {s : Eight} {w : World} (h : Key8 b (keyN s) w) : w.rangeAt b 0 (keyCells s) := by
  intro j v hj
  have hlt : j < 32 := by
    have := (List.getElem?_eq_some_iff.1 hj).1
    rw [keyCells_len] at this
    exact this
  rw [Nat.zero_add, (h.2 j hlt).1]
  unfold keyCells at hj
  rw [List.getElem?_map] at hj
  unfold keyN
  rw [List.getD_eq_getElem?_getD]
  cases hk : (keyOf s)[j]? with
  | none => rw [hk] at hj; cases hj
  | some x => rw [hk] at hj; exact hj
theorem key_there {b : Nat} {g : Nat → Nat} {w : World} (h : Key8 b g w) : w.there b 0 32 := fun j hj => by
  rw [Nat.zero_add, (h.2 j hj).1]
  exact ⟨rfl, (h.2 j hj).2⟩
theorem key_one (s : Eight) : ∀ v ∈ keyCells s, v.oneCell' = true := by
  intro v hv
  unfold keyCells at hv
  obtain ⟨b, _, rfl⟩ := List.mem_map.1 hv
  rfl
theorem row_eight {b : Nat} {s : Eight} {w : World} (h : Row32 b s.list w) :
    w.cell? ⟨b, 0, none⟩ = some (.int .u32 (s.a : Int)) ∧ w.cell? ⟨b, 1, none⟩ = some (.int .u32 (s.b : Int)) ∧ w.cell? ⟨b, 2, none⟩ = some (.int .u32 (s.c : Int)) ∧ w.cell? ⟨b, 3, none⟩ = some (.int .u32 (s.d : Int)) ∧
    w.cell? ⟨b, 4, none⟩ = some (.int .u32 (s.e : Int)) ∧ w.cell? ⟨b, 5, none⟩ = some (.int .u32 (s.f : Int)) ∧ w.cell? ⟨b, 6, none⟩ = some (.int .u32 (s.g : Int)) ∧ w.cell? ⟨b, 7, none⟩ = some (.int .u32 (s.h : Int)) :=
  ⟨(h.2 0 (by show 0 < 8; omega)).1, (h.2 1 (by show 1 < 8; omega)).1, (h.2 2 (by show 2 < 8; omega)).1, (h.2 3 (by show 3 < 8; omega)).1, (h.2 4 (by show 4 < 8; omega)).1, (h.2 5 (by show 5 < 8; omega)).1, (h.2 6 (by show 6 < 8; omega)).1, (h.2 7 (by show 7 < 8; omega)).1⟩
theorem and_u32 (a b : Nat) (ha : a < 4294967296) (hb : b < 4294967296) : bits BinOp.and IntKind.u32 (a : Int) (b : Int) = ((a &&& b : Nat) : Int) := u32_and_nat a b ha (by omega)
theorem wrap_not (e : Nat) (h : e < 4294967296) : IntKind.u32.wrap (4294967295 - (e : Int)) = ((4294967295 - e : Nat) : Int) := by rw [IntKind.wrap_u32']; omega
theorem bg_facts (x n m k : Nat) (hx : x < 4294967296) : bits BinOp.xor IntKind.u32 ((rotN n x : Nat) : Int) ((rotN m x : Nat) : Int) = ((rotN n x ^^^ rotN m x : Nat) : Int) ∧
    bits BinOp.xor IntKind.u32 ((rotN n x ^^^ rotN m x : Nat) : Int) ((rotN k x : Nat) : Int) = (((rotN n x ^^^ rotN m x) ^^^ rotN k x : Nat) : Int) :=
  ⟨xor_u32 _ _ (rotN_lt n hx) (rotN_lt m hx), xor_u32 _ _ (xor_lt32 (rotN_lt n hx) (rotN_lt m hx)) (rotN_lt k hx)⟩
theorem ch_facts (e f g : Nat) (he : e < 4294967296) (hf : f < 4294967296) (hg : g < 4294967296) : bits BinOp.and IntKind.u32 (e : Int) (f : Int) = ((e &&& f : Nat) : Int) ∧ bits BinOp.and IntKind.u32 ((4294967295 - e : Nat) : Int) (g : Int) = (((4294967295 - e) &&& g : Nat) : Int) ∧
    bits BinOp.xor IntKind.u32 ((e &&& f : Nat) : Int) (((4294967295 - e) &&& g : Nat) : Int) = ((chW e f g : Nat) : Int) :=
  ⟨and_u32 e f he hf, and_u32 _ g (by omega) hg, xor_u32 _ _ (and_lt32 hf) (and_lt32 hg)⟩
theorem mj_facts (a b c : Nat) (ha : a < 4294967296) (hb : b < 4294967296) (hc : c < 4294967296) : bits BinOp.and IntKind.u32 (a : Int) (b : Int) = ((a &&& b : Nat) : Int) ∧ bits BinOp.and IntKind.u32 (a : Int) (c : Int) = ((a &&& c : Nat) : Int) ∧ bits BinOp.and IntKind.u32 (b : Int) (c : Int) = ((b &&& c : Nat) : Int) ∧
    bits BinOp.xor IntKind.u32 ((a &&& b : Nat) : Int) ((a &&& c : Nat) : Int) = (((a &&& b) ^^^ (a &&& c) : Nat) : Int) ∧ bits BinOp.xor IntKind.u32 (((a &&& b) ^^^ (a &&& c) : Nat) : Int) ((b &&& c : Nat) : Int) = ((mjW a b c : Nat) : Int) :=
  ⟨and_u32 a b ha hb, and_u32 a c ha hc, and_u32 b c hb hc, xor_u32 _ _ (and_lt32 hb) (and_lt32 hc), xor_u32 _ _ (xor_lt32 (and_lt32 hb) (and_lt32 hc)) (and_lt32 hc)⟩
theorem sg_facts (x n m d : Nat) (hx : x < 4294967296) : bits BinOp.xor IntKind.u32 ((rotN n x : Nat) : Int) ((rotN m x : Nat) : Int) = ((rotN n x ^^^ rotN m x : Nat) : Int) ∧
    bits BinOp.xor IntKind.u32 ((rotN n x ^^^ rotN m x : Nat) : Int) ((x : Int) / (d : Int)) = (((rotN n x ^^^ rotN m x) ^^^ x / d : Nat) : Int) := by
  have h1 := rotN_lt n hx
  have h2 := rotN_lt m hx
  refine ⟨xor_u32 _ _ h1 h2, ?_⟩
  have e : (x : Int) / (d : Int) = ((x / d : Nat) : Int) := (Int.natCast_ediv x d).symm
  rw [e]
  exact xor_u32 _ _ (xor_lt32 h1 h2) (Nat.lt_of_le_of_lt (Nat.div_le_self _ _) hx)
theorem quiet_turn (x n : Nat) (w : World) (hx : x < 4294967296) (hn : n ≤ 64) (m : Nat) : Calls Tryz.prog 111 #[.int .u32 x, .int .i64 n] (w.drewN m) fun e w'' => e = .returned (.int .u32 (rotN n x)) ∧ ∃ k, w'' = w.drewN k :=
  (ref_turn x n (w.drewN m) hx hn).mono fun _ _ ⟨h1, h2⟩ => ⟨h1, m, h2.symm⟩

set_option maxHeartbeats 4000000 in
set_option maxRecDepth 100000 in
theorem ref_Sum (s : ByteArray) (w : World) (hs : s.size ≤ 140737488351232) :
    Calls Tryz.prog 92 #[.string s] w fun e w' => e = .returned (keyV (digest s.data.toList)) ∧ Below w.heap.size w w' := by
  obtain ⟨i0, hi, hz0, hz1, hz2⟩ := info_parts info37
  have hlen : s.data.toList.length = s.size := by rw [← Lib.size_eq]
  obtain ⟨P, hP⟩ : ∃ P, P = padded s.data.toList := ⟨_, rfl⟩
  obtain ⟨NB, hNB⟩ : ∃ NB, P.length = 64 * NB := ⟨P.length / 64, by have := (padded_len s.data.toList).1; rw [← hP] at this; omega⟩
  have hNBl : NB ≤ 2199023255500 := by have := (padded_len s.data.toList).2.1; rw [← hP] at this; omega
  have hdig : digest s.data.toList = keyOf (blks P NB) := by unfold digest digestE; rw [← hP, hNB, Nat.mul_div_cancel_left _ (by decide)]
  have hPs : ((bs P).size : Int) = 64 * (NB : Int) := by rw [bs_size, hNB]; omega
  have HP := Lib.hid hP
  have HNB := Lib.hid hNB
  have HDIG := Lib.hid hdig
  clear hP hNB hdig hlen
  obtain ⟨R, hR⟩ : ∃ R, R = w.heap.size := ⟨_, rfl⟩
  go_enter Tryz.func92, Tryz.ntmps92
  go_wp2_with fail
  refine (ref_numbers (before w)).mono ?_
  rintro e w1 ⟨rfl, hn1, hk1⟩
  have ST1 := Lib.hid (before_st hn1 hk1)
  have K1 := Lib.hid ((before_below w).trans (hk1.mono (by rw [before_size]; omega)))
  have SZ1 := Lib.hid (show w.heap.size + 3 ≤ w1.heap.size by have := hn1.1; rw [before_size] at this; omega)
  rw [before_size]
  clear hn1 hk1
  rw [← hR] at ST1 K1 SZ1 ⊢
  have HR := Lib.hid hR
  clear hR
  go_wp2_with fail
  refine (ref_padded s w1 hs).mono ?_
  rintro e w2 ⟨rfl, hk2⟩
  rw [← HP.out]
  have ST2 := Lib.hid (ST1.out.keep hk2 (by have := SZ1.out; omega))
  have K2 := Lib.hid (K1.out.trans (hk2.mono (by have := SZ1.out; omega)))
  have SZ2 := Lib.hid (show R + 3 ≤ w2.heap.size by have := SZ1.out; have := hk2.size; omega)
  clear hk2 ST1 K1 SZ1
  go_wp2_with fail
  go_loopw [6] (fun at' wr => ∃ nb : Nat, nb ≤ NB ∧ at' = .int .i64 (64 * (nb : Int)) ∧ St R (blks P nb).list wr ∧ Below R w wr ∧ R + 3 ≤ wr.heap.size) (fun at' wr => (64 * NB - (intOf at').toNat))
  case atStart => exact ⟨0, by omega, rfl, ST2.out, K2.out, SZ2.out⟩
  case round =>
    obtain ⟨nb, hnb, rfl, hst, hbw, hsz⟩ := hrel
    have ST := Lib.hid hst
    have KR := Lib.hid hbw
    have SZ := Lib.hid hsz
    clear hst hbw hsz ST2 K2 SZ2
    obtain ⟨w0, hw0⟩ : ∃ w0, w0 = wr := ⟨_, rfl⟩
    subst hw0
    by_cases hlt : nb < NB
    · go_wp2_with fail
      obtain ⟨B0, hB0⟩ : ∃ B0, B0 = w0.heap.size := ⟨_, rfl⟩
      have HB0 := Lib.hid hB0
      have HLT := Lib.hid hlt
      clear hB0 hlt
      go_loopw [7, 8] (fun v i' wo => ∃ i : Nat, i ≤ 64 ∧ i' = .int .i64 i ∧ Own32 B0 v (sched P (64 * nb) i) wo ∧ Below B0 w0 wo) (fun v i' wo => 64 - (intOf i').toNat)
      case atStart => exact ⟨0, by omega, rfl, World.ownsRow_nil _ _ _ _, by rw [HB0.out]; exact Below.refl _ _⟩
      case round =>
        obtain ⟨i, hi64, rfl, hown, hbw⟩ := hrel
        have HO := Lib.hid hown
        have HBo := Lib.hid hbw
        clear hown hbw
        rcases Nat.lt_or_ge i 64 with hi6 | hi6
        · by_cases hi16 : i < 16
          · go_wp2_with fail
            rw [decide_eq_true (show (i : Int) < 64 by omega), decide_eq_true (show (i : Int) < 16 by omega)]
            go_loopw [9, 10] (fun x j' wi => ∃ j : Nat, j ≤ 4 ∧ j' = .int .i64 j ∧ x = .int .u32 (partW P (64 * nb + 4 * i) j) ∧ wi = wr) (fun x j' wi => 4 - (intOf j').toNat)
            case atStart => exact ⟨0, by omega, rfl, rfl, rfl⟩
            case round =>
              obtain ⟨j, hj, rfl, rfl, rfl⟩ := hrel
              by_cases hj4 : j < 4
              · have hXl := partW_lt P (64 * nb + 4 * i) j hj4
                have HX := Lib.hid (show partW P (64 * nb + 4 * i) (j + 1) = 256 * partW P (64 * nb + 4 * i) j + byteAt P (64 * nb + 4 * i + j) from rfl)
                generalize partW P (64 * nb + 4 * i) j = X at *
                obtain ⟨o, ho⟩ : ∃ o, o = 64 * nb + 4 * i + j := ⟨_, rfl⟩
                have ho' : 64 * (nb : Int) + 4 * (i : Int) + (j : Int) = (o : Int) := by omega
                have hob : o < (bs P).size := by rw [bs_size, HNB.out]; have := HLT.out; omega
                have hbyte := byte_bs P o hob
                have hbl := byteAt_lt P o
                rw [← ho] at HX
                have HOO := Lib.hid ho
                clear ho
                generalize byteAt P o = y at *
                go_wp2_with fail
                go_roundw
                case rel => exact ⟨j + 1, by omega, by go_num, by rw [HX.out]; go_num, trivial⟩
                case measure => simp [intOf]; omega
              · obtain rfl : j = 4 := by omega
                have hX := partW_four P (64 * nb + 4 * i)
                have hXl := wordAt_lt P (64 * nb + 4 * i)
                rw [hX]
                have HS1 := Lib.hid (show sched P (64 * nb) (i + 1) = sched P (64 * nb) i ++ [wordAt P (64 * nb + 4 * i)] by rw [sched, if_pos hi16])
                clear hX
                have hll := Lib.hid (sched_len P (64 * nb) i)
                generalize wordAt P (64 * nb + 4 * i) = X at *
                obtain ⟨W, hW⟩ : ∃ W, W = sched P (64 * nb) i := ⟨_, rfl⟩
                rw [← hW] at HO HS1 hll
                have HW := Lib.hid hW
                clear hW
                go_wp2_with (at_builtin; refine wpList_append_own _ rfl _ _ 175 rfl B0 84 i0 (.int .u32 0) 1 4 Tryz.underlying175 hi hz0 hz1 hz2 rfl (by decide) _ _ _ rfl (HO.out.alloc _) ⟨wr.heap.size, 0, none⟩ 1 1 [.int .u32 X] rfl rfl ?c1 ?c2 ?c3 ?c4 ?c5 ?_)
                case c1 => exact cell_one_new _ _ _
                case c2 => intro u hu; simp at hu; subst hu; rfl
                case c3 => unfold maxLen; have := hll.out; omega
                case c4 => have := hll.out; omega
                case c5 => have := HBo.out.size; have := HB0.out; simp; omega
                intro v3 w3 hown3 hg3 _
                have O3 := Lib.hid (Own32.push (b := X) hown3 rfl)
                have K3 := Lib.hid ((HBo.out.alloc (by have := HBo.out.size; have := HB0.out; omega) _).grown hg3 (by have := HBo.out.size; have := HB0.out; simp; omega) (fun k hk => (HO.out.lt k hk).1))
                clear hown3 hg3
                go_wp2_with fail
                go_roundw
                case rel => exact ⟨i + 1, by omega, by go_num, by rw [HS1.out]; exact O3.out, K3.out⟩
                case measure => simp [intOf]; omega
          · have hi16' : ¬ ((i : Int) < 16) := by omega
            have hll := sched_len P (64 * nb) i
            have hlt32 := sched_lt P (64 * nb) i
            have HS1 := Lib.hid (show sched P (64 * nb) (i + 1) = sched P (64 * nb) i ++ [nextW (sched P (64 * nb) i) i] by rw [sched, if_neg hi16])
            obtain ⟨W, hW⟩ : ∃ W, W = sched P (64 * nb) i := ⟨_, rfl⟩
            rw [← hW] at HO HS1 hll hlt32
            have HW := Lib.hid hW
            clear hW
            obtain ⟨g, cap, rfl, hg1, hg2⟩ := HO.out.form hll (by omega)
            have HLL := Lib.hid hll
            have HLT32 := Lib.hid hlt32
            have HG := Lib.hid (And.intro hg1 hg2)
            clear hll hlt32 hg1 hg2
            go_wp2_with fail
            obtain ⟨q15, hq15⟩ : ∃ q, q = i - 15 := ⟨_, rfl⟩
            have e15 : (i : Int) - 15 = (q15 : Int) := by omega
            have b15 : (q15 : Int) < (i : Int) := by omega
            have c15 := HO.out.cell q15 (by rw [HLL.out]; omega)
            have HQ15 := Lib.hid hq15
            clear hq15
            have l15 := getD_lt HLT32.out q15
            obtain ⟨x15, hx15⟩ : ∃ x, x = W.getD q15 0 := ⟨_, rfl⟩
            rw [← hx15] at c15 l15
            have HX15 := Lib.hid hx15
            clear hx15
            have hf := sg_facts x15 7 18 8 l15
            have f1 := hf.1
            have f2 : bits BinOp.xor IntKind.u32 ((rotN 7 x15 ^^^ rotN 18 x15 : Nat) : Int) ((x15 : Int) / 8) = ((sg0 x15 : Nat) : Int) := hf.2
            clear hf
            go_quiet (first | (go_at_call 111; exact quiet_turn x15 _ _ l15 (by decide) _))
            have lS0 := sg0_lt l15
            obtain ⟨S0, hS0⟩ : ∃ S, S = sg0 x15 := ⟨_, rfl⟩
            rw [← hS0] at lS0 ⊢
            have HS0 := Lib.hid hS0
            clear f1 f2 hS0 c15 e15 b15 l15
            go_wp2_with fail
            obtain ⟨q2, hq2⟩ : ∃ q, q = i - 2 := ⟨_, rfl⟩
            have e2 : (i : Int) - 2 = (q2 : Int) := by omega
            have b2 : (q2 : Int) < (i : Int) := by omega
            have c2 := HO.out.cell q2 (by rw [HLL.out]; omega)
            have HQ2 := Lib.hid hq2
            clear hq2
            have l2 := getD_lt HLT32.out q2
            obtain ⟨x2, hx2⟩ : ∃ x, x = W.getD q2 0 := ⟨_, rfl⟩
            rw [← hx2] at c2 l2
            have HX2 := Lib.hid hx2
            clear hx2
            have hf := sg_facts x2 17 19 1024 l2
            have f1 := hf.1
            have f2 : bits BinOp.xor IntKind.u32 ((rotN 17 x2 ^^^ rotN 19 x2 : Nat) : Int) ((x2 : Int) / 1024) = ((sg1 x2 : Nat) : Int) := hf.2
            clear hf
            generalize hwq : wr.drewN nq = wq
            have HOq := Lib.hid (show Own32 B0 (.slice (some ⟨g, 0, none⟩) i cap) W wq by rw [← hwq]; exact HO.out)
            have HBq := Lib.hid (show Below B0 w0 wq by rw [← hwq]; exact below_drewN HBo.out nq)
            have c2 : wq.cell? ⟨g, q2, none⟩ = some (.int .u32 (x2 : Int)) := by rw [← hwq]; exact c2
            clear hwq
            go_quiet (first | (go_at_call 111; exact quiet_turn x2 _ _ l2 (by decide) _))
            have lS1 := sg1_lt l2
            obtain ⟨S1, hS1⟩ : ∃ S, S = sg1 x2 := ⟨_, rfl⟩
            rw [← hS1] at lS1 ⊢
            have HS1' := Lib.hid hS1
            generalize hwp : wq.drewN nq = wp
            have HOp := Lib.hid (show Own32 B0 (.slice (some ⟨g, 0, none⟩) i cap) W wp by rw [← hwp]; exact HOq.out)
            have HBp := Lib.hid (show Below B0 w0 wp by rw [← hwp]; exact below_drewN HBq.out nq)
            clear f1 f2 hS1 c2 e2 b2 l2 hwp HOq HBq HO HBo
            go_wp2_with fail
            obtain ⟨q16, hq16⟩ : ∃ q, q = i - 16 := ⟨_, rfl⟩
            obtain ⟨q7, hq7⟩ : ∃ q, q = i - 7 := ⟨_, rfl⟩
            have e16 : (i : Int) - 16 = (q16 : Int) := by omega
            have b16 : (q16 : Int) < (i : Int) := by omega
            have e7 : (i : Int) - 7 = (q7 : Int) := by omega
            have b7 : (q7 : Int) < (i : Int) := by omega
            have c16 := HOp.out.cell q16 (by rw [HLL.out]; omega)
            have c7 := HOp.out.cell q7 (by rw [HLL.out]; omega)
            have l16 := getD_lt HLT32.out q16
            have l7 := getD_lt HLT32.out q7
            obtain ⟨x16, hx16⟩ : ∃ x, x = W.getD q16 0 := ⟨_, rfl⟩
            obtain ⟨x7, hx7⟩ : ∃ x, x = W.getD q7 0 := ⟨_, rfl⟩
            rw [← hx16] at c16 l16
            rw [← hx7] at c7 l7
            have HX := Lib.hid (show nextW W i = ((((x16 + S0) % 4294967296) + x7) % 4294967296 + S1) % 4294967296 by
              unfold nextW
              rw [← hq16, ← hq7, ← hx16, ← hx7, HS0.out, HX15.out, HQ15.out, HS1'.out, HX2.out, HQ2.out])
            clear hq16 hq7 hx16 hx7
            have w16 := wrap_idx q16 (by omega)
            have w7 := wrap_idx q7 (by omega)
            have s1 := wrap_sum x16 S0
            have s2 := wrap_sum ((x16 + S0) % 4294967296) x7
            have s3 := wrap_sum ((((x16 + S0) % 4294967296) + x7) % 4294967296) S1
            have hlow := Lib.hid (show wp.heap.size ≥ B0 by have := HBp.out.size; have := HB0.out; omega)
            have hX2 := HX.out
            generalize (x16 + S0) % 4294967296 = A1 at *
            generalize (A1 + x7) % 4294967296 = A2 at *
            generalize (A2 + S1) % 4294967296 = A3 at *
            have HA := Lib.hid hX2
            clear hX2 HX
            have lL := Lib.hid (show (W.map fun x : Nat => Value.int .u32 (x : Int)).length = i by rw [List.length_map]; exact HLL.out)
            go_region_law (refine step_append_own rfl (.tmp 106) (.tmp 122) 175 rfl B0 84 i0 (.int .u32 0) 1 4 Tryz.underlying175 hi hz0 hz1 hz2 rfl (by decide) (.slice (some ⟨g, 0, none⟩) i cap) W.length (W.map fun x : Nat => Value.int .u32 (x : Int)) (by simp [Act.eval, Act.put]) (HOp.out.drew.alloc _) ⟨wp.heap.size, 0, none⟩ 1 1 [.int .u32 A3] (by simp [Act.eval, Act.put]) rfl (fun j u hj => cell_one_new _ _ _ j u hj) (by simp [Value.oneCell']) (by unfold maxLen; have := HLL.out; omega) (by have := HLL.out; omega) (by have := hlow.out; simp; omega) ?_; intro v3 w3 hown3 hg3)
            all_goals
              have O3 := Lib.hid (Own32.push (b := A3) hown3 rfl)
              have K3 := Lib.hid ((HBp.out.drew.alloc (by have := hlow.out; simp; omega) _).grown hg3 (by have := hlow.out; simp; omega) (fun k hk => (HOp.out.lt k hk).1))
              clear hown3 hg3 s1 s2 s3 w16 w7 c16 c7 e16 e7 b16 b7
              go_wp2_with fail
              go_roundw
              case rel => exact ⟨i + 1, by omega, by go_num, by rw [HS1.out, HA.out]; exact O3.out, K3.out⟩
              case measure => simp [intOf]; omega
        · obtain rfl : i = 64 := by omega
          obtain ⟨W, hW⟩ : ∃ W, W = sched P (64 * nb) 64 := ⟨_, rfl⟩
          have hll := sched_len P (64 * nb) 64
          have hlt32 := sched_lt P (64 * nb) 64
          rw [← hW] at HO hll hlt32
          have HW := Lib.hid hW
          clear hW
          obtain ⟨g, cap, rfl, hg1, hg2⟩ := HO.out.form hll (by decide)
          have HLL := Lib.hid hll
          have HLT32 := Lib.hid hlt32
          have hst2 := ST.out.keep HBo.out (by have := SZ.out; have := HB0.out; omega)
          have ST2 := Lib.hid hst2
          have HSOK := Lib.hid (blks_ok P nb)
          obtain ⟨s0, hs0⟩ : ∃ s0, s0 = blks P nb := ⟨_, rfl⟩
          rw [← hs0] at ST2 hst2 HSOK
          have HS0 := Lib.hid hs0
          obtain ⟨c0, c1, c2, c3, c4, c5, c6, c7⟩ := row_eight hst2.s
          have HG := Lib.hid (And.intro hg1 hg2)
          clear hll hlt32 hst2 hs0 hg1 hg2
          go_wp2_with fail
          go_quiet (fail)
          go_wp2_with fail
          go_quiet (fail)
          go_wp2_with fail
          rw [show ((64 : Nat) : Int) = 64 from rfl]
          generalize hwx : (wr.drewN _).drewN _ = wx
          have HOx := Lib.hid (show Own32 B0 (.slice (some ⟨g, 0, none⟩) 64 cap) W wx by rw [← hwx]; exact HO.out)
          have HBx := Lib.hid (show Below B0 w0 wx by rw [← hwx]; exact below_drewN (below_drewN HBo.out _) _)
          have STx := Lib.hid (show St R s0.list wx by rw [← hwx]; exact ⟨ST2.out.s, ST2.out.k, ST2.out.r⟩)
          clear hwx HO HBo ST2 c0 c1 c2 c3 c4 c5 c6 c7
          go_loopw [13, 14, 15, 16, 17, 18, 19, 20, 21] (fun va vb vc vd ve vf vg vh vi wi => ∃ i qa qb qc qd qe qf qg qh : Nat, i ≤ 64 ∧ vi = .int .i64 i ∧ va = .int .u32 qa ∧ vb = .int .u32 qb ∧ vc = .int .u32 qc ∧ vd = .int .u32 qd ∧ ve = .int .u32 qe ∧ vf = .int .u32 qf ∧ vg = .int .u32 qg ∧ vh = .int .u32 qh ∧ Hid (rnds W s0 i = ⟨qa, qb, qc, qd, qe, qf, qg, qh⟩) ∧ Hid (∃ m, wi = wx.drewN m)) (fun va vb vc vd ve vf vg vh vi wi => 64 - (intOf vi).toNat)
          case atStart => exact ⟨0, s0.a, s0.b, s0.c, s0.d, s0.e, s0.f, s0.g, s0.h, by omega, rfl, rfl, rfl, rfl, rfl, rfl, rfl, rfl, rfl, Lib.hid rfl, Lib.hid ⟨0, rfl⟩⟩
          case round =>
            obtain ⟨i, qa, qb, qc, qd, qe, qf, qg, qh, hi64, rfl, rfl, rfl, rfl, rfl, rfl, rfl, rfl, rfl, hq, hdr⟩ := hrel
            have STr := Lib.hid (show St R s0.list wr by obtain ⟨m, hm⟩ := hdr.out; rw [hm]; exact ⟨STx.out.s, STx.out.k, STx.out.r⟩)
            have HOr := Lib.hid (show Own32 B0 (.slice (some ⟨g, 0, none⟩) 64 cap) W wr by obtain ⟨m, hm⟩ := hdr.out; rw [hm]; exact HOx.out)
            have hok := rnds_ok (w := W) HSOK.out i
            rw [hq.out] at hok
            obtain ⟨la, lb, lc, ld, le, lf, lg, lh⟩ := hok
            rcases Nat.lt_or_ge i 64 with hi6 | hi6
            · have ck := (STr.out.k.2 i hi6).1
              have cw := HOr.out.cell i (by rw [HLL.out]; exact hi6)
              have lk := getD_lt numbers_lt i
              have lw := getD_lt HLT32.out i
              have HNX := Lib.hid (show rnds W s0 (i + 1) = rnd (numbers.getD i 0) (W.getD i 0) ⟨qa, qb, qc, qd, qe, qf, qg, qh⟩ by rw [rnds, hq.out])
              obtain ⟨kk, hkk⟩ : ∃ x, x = numbers.getD i 0 := ⟨_, rfl⟩
              obtain ⟨ww, hww⟩ : ∃ x, x = W.getD i 0 := ⟨_, rfl⟩
              rw [← hkk] at ck lk HNX
              rw [← hww] at cw lw HNX
              clear hkk hww
              go_wp2_with fail
              have hbg := bg_facts qe 6 11 25 le
              have b1 := hbg.1
              have b2 : bits BinOp.xor IntKind.u32 ((rotN 6 qe ^^^ rotN 11 qe : Nat) : Int) ((rotN 25 qe : Nat) : Int) = ((bg1 qe : Nat) : Int) := hbg.2
              obtain ⟨a1, a2, a3⟩ := ch_facts qe qf qg le lf lg
              have a4 := wrap_not qe le
              have lch := chW_lt (e := qe) lf lg
              have lbg := bg1_lt le
              have HXO := Lib.hid (show xOf kk ww ⟨qa, qb, qc, qd, qe, qf, qg, qh⟩ = ((((qh + bg1 qe) % 4294967296 + chW qe qf qg) % 4294967296 + kk) % 4294967296 + ww) % 4294967296 from rfl)
              clear hbg
              generalize bg1 qe = G1 at *
              generalize chW qe qf qg = H1 at *
              have s1 := wrap_sum qh G1
              have s2 := wrap_sum ((qh + G1) % 4294967296) H1
              have s3 := wrap_sum (((qh + G1) % 4294967296 + H1) % 4294967296) kk
              have s4 := wrap_sum ((((qh + G1) % 4294967296 + H1) % 4294967296 + kk) % 4294967296) ww
              have lX := mod32 ((((qh + G1) % 4294967296 + H1) % 4294967296 + kk) % 4294967296 + ww)
              have hXO := HXO.out
              generalize (qh + G1) % 4294967296 = A1 at *
              generalize (A1 + H1) % 4294967296 = A2 at *
              generalize (A2 + kk) % 4294967296 = A3 at *
              obtain ⟨X, hX⟩ : ∃ X, X = (A3 + ww) % 4294967296 := ⟨_, rfl⟩
              rw [← hX] at s4 lX hXO
              have HXX := Lib.hid hXO
              clear HXO hXO hX
              go_quiet (first | (go_at_call 111; exact quiet_turn qe _ _ le (by decide) _))
              generalize hwy : wr.drewN nq = wy
              have hdy := Lib.hid (show ∃ m, wy = wx.drewN m by obtain ⟨m, hm⟩ := hdr.out; exact ⟨m + nq, by rw [← hwy, hm, World.drewN_drewN]⟩)
              clear s1 s2 s3 s4 a1 a2 a3 a4 b1 b2 ck cw hwy
              go_wp2_with fail
              refine (ref_turn qa 2 wy la (by decide)).mono ?_
              rintro e' w9 ⟨rfl, rfl⟩
              go_wp2_with fail
              refine (ref_turn qa 13 wy la (by decide)).mono ?_
              rintro e' w9 ⟨rfl, rfl⟩
              have hbg := bg_facts qa 2 13 22 la
              have b1 := hbg.1
              have b2 : bits BinOp.xor IntKind.u32 ((rotN 2 qa ^^^ rotN 13 qa : Nat) : Int) ((rotN 22 qa : Nat) : Int) = ((bg0 qa : Nat) : Int) := hbg.2
              clear hbg
              go_wp2_with fail
              refine (ref_turn qa 22 wy la (by decide)).mono ?_
              rintro e' w9 ⟨rfl, rfl⟩
              obtain ⟨m1, m2, m3, m4, m5⟩ := mj_facts qa qb qc la lb lc
              have lbg0 := bg0_lt la
              have lmj := mjW_lt (a := qa) lb lc
              have HYO := Lib.hid (show yOf ⟨qa, qb, qc, qd, qe, qf, qg, qh⟩ = (bg0 qa + mjW qa qb qc) % 4294967296 from rfl)
              generalize bg0 qa = G0 at *
              generalize mjW qa qb qc = J0 at *
              go_wp2_with fail
              go_roundw
              case rel => exact ⟨i + 1, (X + (G0 + J0) % 4294967296) % 4294967296, qa, qb, qc, (qd + X) % 4294967296, qe, qf, qg, by omega, by go_num, by go_num, rfl, rfl, rfl, by go_num, rfl, rfl, rfl, Lib.hid (by rw [HNX.out]; unfold rnd; rw [HXX.out, HYO.out]), hdy⟩
              case measure => simp [intOf]; omega
            · obtain rfl : i = 64 := by omega
              have HQ := hq
              have hrow := Lib.hid (row32_new wr [qa, qb, qc, qd, qe, qf, qg, qh] 84)
              have HBr := Lib.hid (show Below B0 w0 wr by obtain ⟨m, hm⟩ := hdr.out; rw [hm]; exact below_drewN HBx.out m)
              have KRr := Lib.hid (KR.out.trans (HBr.out.mono (by have := SZ.out; have := HB0.out; omega)))
              have SZr := Lib.hid (show B0 ≤ wr.heap.size by have := HBr.out.size; have := HB0.out; omega)
              go_wp2_with fail
              obtain ⟨Mb, hMb⟩ : ∃ Mb, Mb = wr.heap.size := ⟨_, rfl⟩
              rw [← hMb] at hrow ⊢
              have HMb := Lib.hid hMb
              have STm := Lib.hid (STr.out.keep ((Below.refl wr.heap.size wr).alloc (Nat.le_refl _) (.cells (words32 [qa, qb, qc, qd, qe, qf, qg, qh]) 84)) (by have := SZ.out; have := HB0.out; have := SZr.out; omega))
              have KRm := Lib.hid (KRr.out.alloc (by have := SZ.out; have := HB0.out; have := SZr.out; omega) (.cells (words32 [qa, qb, qc, qd, qe, qf, qg, qh]) 84))
              clear hMb
              obtain ⟨r, hr⟩ : ∃ r : Eight, r = ⟨qa, qb, qc, qd, qe, qf, qg, qh⟩ := ⟨_, rfl⟩
              have HR8 := Lib.hid hr
              have hrow2 := Lib.hid (show Row32 Mb r.list (wr.alloc (.cells (words32 [qa, qb, qc, qd, qe, qf, qg, qh]) 84)) by rw [hr]; exact hrow.out)
              have hgo := Lib.hid (show Mb ≥ R + 3 by have := SZ.out; have := HB0.out; have := SZr.out; have := HMb.out; omega)
              clear hr
              go_loopw [25] (fun vi wi => ∃ i : Nat, i ≤ 8 ∧ vi = .int .i64 i ∧ St R (mixL s0 r i) wi ∧ Row32 Mb r.list wi ∧ Below R w wi) (fun vi wi => 8 - (intOf vi).toNat)
              case atStart => exact ⟨0, by omega, rfl, STm.out, hrow2.out, KRm.out⟩
              case round =>
                obtain ⟨i, hi8, rfl, hst5, hmo, hb5⟩ := hrel
                have ST5 := Lib.hid hst5
                have MO5 := Lib.hid hmo
                have KR5 := Lib.hid hb5
                clear hst5 hmo hb5
                rcases Nat.lt_or_ge i 8 with hi | hi
                · have d1 := (ST5.out.s.2 i (by rw [mix_len _ _ _ hi8]; exact hi)).1
                  have d2 := (ST5.out.s.2 i (by rw [mix_len _ _ _ hi8]; exact hi)).2
                  have d3 := (MO5.out.2 i (by show i < 8; exact hi)).1
                  rw [mix_at s0 r i hi] at d1
                  have HMX := Lib.hid (mix_next s0 r i hi)
                  obtain ⟨y1, hy1⟩ : ∃ y, y = s0.list.getD i 0 := ⟨_, rfl⟩
                  obtain ⟨y2, hy2⟩ : ∃ y, y = r.list.getD i 0 := ⟨_, rfl⟩
                  rw [← hy1] at d1 HMX
                  rw [← hy2] at d3 HMX
                  have sm := wrap_sum y1 y2
                  clear hy1 hy2
                  obtain ⟨Y, hY⟩ : ∃ Y, Y = (y1 + y2) % 4294967296 := ⟨_, rfl⟩
                  rw [← hY] at sm HMX
                  have STS := Lib.hid (ST5.out.set (i := i) (by rw [mix_len _ _ _ hi8]; exact hi) Y)
                  have MOS := Lib.hid (MO5.out.other (a := ⟨R + 1, i, none⟩) (by show R + 1 ≠ Mb; have := hgo.out; omega) (.int .u32 (Y : Int)))
                  have KRS := Lib.hid (KR5.out.setCell (p := ⟨R + 1, i, none⟩) (by show R ≤ R + 1; omega) (.int .u32 (Y : Int)))
                  clear hY
                  go_wp2_with fail
                  go_region
                  have STE := Lib.hid (show St R (mixL s0 r (i + 1)) ((wr.setCell ⟨R + 1, i, none⟩ (.int .u32 (Y : Int))).drew) by rw [← HMX.out]; exact ⟨STS.out.s, STS.out.k, STS.out.r⟩)
                  have MOE := Lib.hid (show Row32 Mb r.list ((wr.setCell ⟨R + 1, i, none⟩ (.int .u32 (Y : Int))).drew) from MOS.out)
                  have KRE := Lib.hid (KRS.out.drew)
                  generalize (wr.setCell ⟨R + 1, i, none⟩ (.int .u32 (Y : Int))).drew = wz at *
                  clear d1 d2 d3 sm
                  go_wp2_with fail
                  go_roundw
                  case rel => exact ⟨i + 1, by omega, by go_num, STE.out, MOE.out, KRE.out⟩
                  case measure => simp [intOf]; omega
                · obtain rfl : i = 8 := by omega
                  have hend : mixL s0 r 8 = (blks P (nb + 1)).list := by
                    have e1 : mixL s0 r 8 = (plus s0 r).list := by unfold mixL; rfl
                    rw [e1, blks, blk, ← HS0.out, ← HW.out, HQ.out, HR8.out]
                  have STN := Lib.hid (show St R (blks P (nb + 1)).list wr by rw [← hend]; exact ST5.out)
                  have hsz := Lib.hid (show R + 3 ≤ wr.heap.size by have := MO5.out.1; have := hgo.out; omega)
                  clear hend
                  have hnbl : nb < NB := HLT.out
                  go_wp2_with fail
                  go_roundw
                  case rel => exact ⟨nb + 1, by omega, by go_num, STN.out, KR5.out, hsz.out⟩
                  case measure => simp [intOf]; omega
    · obtain rfl : nb = NB := by omega
      obtain ⟨E, hE⟩ : ∃ E, E = blks P nb := ⟨_, rfl⟩
      have HOK := Lib.hid (blks_ok P nb)
      rw [← hE] at ST HOK
      have HE := Lib.hid hE
      clear hE
      have hkey := Lib.hid (key8_new w0 145)
      obtain ⟨Kb, hKb⟩ : ∃ Kb, Kb = w0.heap.size := ⟨_, rfl⟩
      have hkb := Lib.hid (show R + 3 ≤ Kb by have := SZ.out; omega)
      have STk := Lib.hid (ST.out.keep ((Below.refl w0.heap.size w0).alloc (Nat.le_refl _) (.cells (Array.replicate 32 (.int .u8 0)) 145)) (by have := SZ.out; omega))
      have KRk := Lib.hid (KR.out.alloc (by have := SZ.out; omega) (.cells (Array.replicate 32 (.int .u8 0)) 145))
      rw [← hKb] at hkey
      have HKb := Lib.hid hKb
      go_wp2_with fail
      rw [← hKb]
      clear hKb
      go_loopw [27] (fun vi wi => ∃ i : Nat, i ≤ 8 ∧ vi = .int .i64 i ∧ Key8 Kb (fill E i 4) wi ∧ St R E.list wi ∧ Below R w wi) (fun vi wi => 8 - (intOf vi).toNat)
      case atStart => exact ⟨0, by omega, rfl, hkey.out.same (fun m _ => (fill_none E m).symm), STk.out, KRk.out⟩
      case round =>
        obtain ⟨i, hi8, rfl, hky, hst6, hb6⟩ := hrel
        have KY := Lib.hid hky
        have ST6 := Lib.hid hst6
        have KR6 := Lib.hid hb6
        clear hky hst6 hb6
        rcases Nat.lt_or_ge i 8 with hi | hi
        · have d1 := (ST6.out.s.2 i (by show i < 8; exact hi)).1
          have HNB := Lib.hid (fun j (hj : j < 4) => keyN_at E i j hi hj)
          have lx : E.list.getD i 0 < 4294967296 := by
            obtain ⟨o1, o2, o3, o4, o5, o6, o7, o8⟩ := HOK.out
            have h1 : i = 0 ∨ i = 1 ∨ i = 2 ∨ i = 3 ∨ i = 4 ∨ i = 5 ∨ i = 6 ∨ i = 7 := by omega
            rcases h1 with rfl | rfl | rfl | rfl | rfl | rfl | rfl | rfl <;> assumption
          obtain ⟨x0, hx0⟩ : ∃ x, x = E.list.getD i 0 := ⟨_, rfl⟩
          rw [← hx0] at d1 HNB lx
          have LX := Lib.hid lx
          clear hx0 lx
          go_wp2_with fail
          go_loopw [28, 29] (fun vx vj wi => ∃ j : Nat, j ≤ 4 ∧ vj = .int .i64 ((j : Int) - 1) ∧ vx = .int .u32 ((x0 / 256 ^ (4 - j) : Nat) : Int) ∧ Key8 Kb (fill E i j) wi ∧ St R E.list wi ∧ Below R w wi) (fun vx vj wi => (intOf vj + 1).toNat)
          case atStart => exact ⟨4, by omega, rfl, by simp, KY.out, ST6.out, KR6.out⟩
          case round =>
            obtain ⟨j, hj4, rfl, rfl, hky, hst7, hb7⟩ := hrel
            have KY7 := Lib.hid hky
            have ST7 := Lib.hid hst7
            have KR7 := Lib.hid hb7
            clear hky hst7 hb7
            rcases Nat.eq_zero_or_pos j with rfl | hpos
            · rw [show ((0 : Nat) : Int) - 1 = -1 from rfl]
              go_wp2_with fail
              go_roundw
              case rel => exact ⟨i + 1, by omega, by go_num, KY7.out.same (fun m _ => fill_word E i m), ST7.out, KR7.out⟩
              case measure => simp [intOf]; omega
            · obtain ⟨jj, rfl⟩ : ∃ jj, j = jj + 1 := ⟨j - 1, by omega⟩
              rw [show ((jj + 1 : Nat) : Int) - 1 = (jj : Int) by omega]
              have hb := HNB.out jj (by omega)
              have e43 : 4 - (jj + 1) = 3 - jj := by omega
              rw [e43]
              have hnx : x0 / 256 ^ (4 - jj) = x0 / 256 ^ (3 - jj) / 256 := by
                rw [show 4 - jj = (3 - jj) + 1 by omega, Nat.pow_succ, Nat.div_div_eq_div_mul]
              have hxl : x0 / 256 ^ (3 - jj) ≤ x0 := Nat.div_le_self _ _
              obtain ⟨x, hx⟩ : ∃ x, x = x0 / 256 ^ (3 - jj) := ⟨_, rfl⟩
              rw [← hx] at hb hnx hxl ⊢
              have lx : x < 4294967296 := by have := LX.out; omega
              obtain ⟨o, ho⟩ : ∃ o, o = 4 * i + jj := ⟨_, rfl⟩
              have ho' : 4 * (i : Int) + (jj : Int) = (o : Int) := by omega
              have ho32 : (o : Int) < 32 := by omega
              have f1 := (KY7.out.2 o (by omega)).1
              have f2 := (KY7.out.2 o (by omega)).2
              obtain ⟨y, hy⟩ : ∃ y, y = x % 256 := ⟨_, rfl⟩
              have ly : y < 256 := by omega
              have KYS := Lib.hid (show Key8 Kb (fill E i jj) (wr.setCell ⟨Kb, o, none⟩ (.int .u8 (y : Int))) from (KY7.out.set (i := o) (by omega) y).same (fun m _ => by
                have h := fill_next E i jj m (by omega)
                rw [hb, ← ho, ← hy] at h
                exact h))
              have STS := Lib.hid (show St R E.list (wr.setCell ⟨Kb, o, none⟩ (.int .u8 (y : Int))) from ⟨ST7.out.s.other (by show Kb ≠ R + 1; have := hkb.out; omega) _, ST7.out.k.other (by show Kb ≠ R + 2; have := hkb.out; omega) _, ST7.out.r.other (by show Kb ≠ R; have := hkb.out; omega) _⟩)
              have KRS := Lib.hid (KR7.out.setCell (p := ⟨Kb, o, none⟩) (by show R ≤ Kb; have := hkb.out; omega) (.int .u8 (y : Int)))
              have HNX := Lib.hid hnx
              have hbv : ((x : Int) % 256) = (y : Int) := by omega
              obtain ⟨fo, hfo⟩ : ∃ fo, fo = fill E i (jj + 1) o := ⟨_, rfl⟩
              rw [← hfo] at f1
              clear hb hnx hx ho hfo hy
              go_wp2_with fail
              generalize wr.setCell ⟨Kb, o, none⟩ (.int .u8 (y : Int)) = wz at *
              go_wp2_with fail
              go_roundw
              case rel => exact ⟨jj, by omega, rfl, congrArg (Value.int .u32) (by rw [HNX.out]; exact (Int.natCast_ediv x 256).symm), KYS.out, STS.out, KRS.out⟩
              case measure => simp [intOf]
        · obtain rfl : i = 8 := by omega
          have KYE := Lib.hid (show Key8 Kb (keyN E) wr from KY.out.same (fun m hm => fill_all E m hm))
          have hcs := key_range KYE.out
          have hlen := keyCells_len E
          have hone := key_one E
          have hth := key_there ST6.out.r
          have hkv : keyV (digest s.data.toList) = .agg (keyCells E).toArray := by rw [HDIG.out, ← HE.out]; rfl
          obtain ⟨cs, hcd⟩ : ∃ cs, cs = keyCells E := ⟨_, rfl⟩
          rw [← hcd] at hcs hlen hone hkv
          have hinfo : (Tryz.prog.info? 145).map (·.size) = some cs.length := by rw [hlen]; kernel_rfl
          have hth2 : wr.there R 0 cs.toArray.size := by simpa [hlen] using hth
          have HCS := Lib.hid hcs
          have HINFO := Lib.hid hinfo
          have HTH := Lib.hid hth2
          have HONE := Lib.hid hone
          have HKV := Lib.hid hkv
          have HLEN := Lib.hid hlen
          clear hcs hlen hone hth hth2 hinfo hkv hcd
          go_wp2_with (first | (refine wpList_load_mid rfl 145 (.tmp 26) rfl Kb 0 (by simp [Act.eval]) cs _ HCS.out Tryz.underlying145 rfl HINFO.out ?_) | (refine wpList_store_mid rfl 145 (.tmp 2) (.tmp 260) rfl R 0 cs.toArray rfl rfl HTH.out (by simpa using HINFO.out) (all_oneCell_toArray HONE.out) ?_))
          refine bodyPost_ret (v := .agg cs.toArray) (results_cell1 rfl _ _ _ R 0 cs _ rfl (World.rangeAt_setCells_same wr R 0 cs (by simpa using HTH.out)) Tryz.underlying145 rfl HINFO.out) rfl ⟨by rw [HKV.out], ?_⟩
          rw [← HR.out]
          exact below_setCells (Nat.le_refl _) cs 0 KR6.out
end Go.Proofs.YteejldddgogbkaaGreatDoor
