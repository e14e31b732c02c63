/- Texts for layer 9, put together: ShaRefs, ShaRefSum, ShaRefKeys, ShaSpread -/
import Derived.Test.YteejldddgogbkaaDoorTSca05
import Derived.Test.YteejldddgogbkaaDoorTSca04
import Derived.OwnWalk
import Derived.Lib.AppendStr
import Derived.RegionTactic
import Derived.Deep.Cut
import Derived.Deep.RegionLaw
import Derived.Deep.MidRow
import Derived.Deep.QuietTactic
import Derived.BigQuiet
import Derived.Test.YteejldddgogbkaaDoorTSca07
/- The document's own digest: turning, numbers, the text with its end. -/
set_option linter.unusedVariables false
set_option maxRecDepth 100000
namespace Go.Proofs.YteejldddgogbkaaDoor
open Go.RowKit

/-- In block b stand these words. -/
def Row32 (b : Nat) (l : List Nat) (w : World) : Prop := b < w.heap.size ∧ ∀ j, j < l.length → w.cell? ⟨b, j, none⟩ = some (.int .u32 ((l.getD j 0 : Nat) : Int)) ∧ w.frozen? ⟨b, j, none⟩ = false
def words32 (l : List Nat) : Array Value := (l.map fun x : Nat => Value.int .u32 (x : Int)).toArray
theorem row32_new (w : World) (l : List Nat) (t : TypeId) : Row32 w.heap.size l (w.alloc (.cells (words32 l) t)) := by
  refine ⟨by show w.heap.size < (w.heap.push _).size; simp, fun j hj => ⟨?_, ?_⟩⟩
  · rw [World.cell?_alloc_mark]
    simp [words32, hj, List.getD_eq_getElem?_getD]
  · rw [World.frozen?_alloc_mark]
    simp
theorem Row32.keep {b B : Nat} {l : List Nat} {w w' : World} (h : Row32 b l w) (k : Below B w w') (hb : b < B) : Row32 b l w' := by
  refine ⟨Nat.lt_of_lt_of_le h.1 k.size, fun j hj => ?_⟩
  rw [k.cell hb, YteejldddgogbkaaDoor.Below.frozen k hb]
  exact h.2 j hj
theorem Row32.set {b : Nat} {l : List Nat} {w : World} (h : Row32 b l w) {i : Nat} (hi : i < l.length) (v : Nat) : Row32 b (l.set i v) (w.setCell ⟨b, i, none⟩ (.int .u32 (v : Int))) := by
  refine ⟨by simpa using h.1, fun j hj => ?_⟩
  rw [List.length_set] at hj
  refine ⟨?_, by rw [World.frozen?_setCell]; exact (h.2 j hj).2⟩
  by_cases hji : j = i
  · subst hji
    rw [World.cell?_setCell_same w _ _ (h.2 j hj).1]
    simp [List.getD_eq_getElem?_getD, hj]
  · rw [World.cell?_setCell_other w _ _ _ (fun e => hji (by injection e with _ e2; exact e2.symm)), (h.2 j hj).1]
    simp [List.getD_eq_getElem?_getD, List.getElem?_set_ne (fun e => hji e.symm)]
theorem Row32.other {b : Nat} {l : List Nat} {w : World} (h : Row32 b l w) {a : Addr} (ha : a.block ≠ b) (v : Value) : Row32 b l (w.setCell a v) := by
  refine ⟨by simpa using h.1, fun j hj => ?_⟩
  refine ⟨?_, by rw [World.frozen?_setCell]; exact (h.2 j hj).2⟩
  rw [World.cell?_setCell_other w _ _ _ (fun e => ha (by rw [e]))]
  exact (h.2 j hj).1

def sliceLen : Value → Nat
  | .slice _ n _ => n
  | _ => 0
/-- A slice of bytes of the call's own. -/
def Own8 (B : Nat) (v : Value) (l : List UInt8) (w : World) : Prop := w.ownsRow B 5 1 v l.length (Lib.byteCells l)
theorem Own8.form {B : Nat} {v : Value} {l : List UInt8} {w : World} (h : Own8 B v l w) (hl : 0 < l.length) : ∃ g cap, v = .slice (some ⟨g, 0, none⟩) l.length cap ∧ B ≤ g ∧ g < w.heap.size := by
  rcases h.2 with ⟨_, h0⟩ | ⟨g, cap, cur, hv, hB, hg, _⟩
  · omega
  · exact ⟨g, cap, hv, hB, (Array.getElem?_eq_some_iff.1 hg).1⟩
theorem Own8.formN {B n : Nat} {v : Value} {l : List UInt8} {w : World} (h : Own8 B v l w) (hn : l.length = n) (hl : 0 < n) : ∃ g cap, v = .slice (some ⟨g, 0, none⟩) n cap ∧ B ≤ g ∧ g < w.heap.size := by
  subst hn
  exact h.form hl
theorem Own8.cell {B g cap n : Nat} {l : List UInt8} {w : World} (h : Own8 B (.slice (some ⟨g, 0, none⟩) n cap) l w) : ∀ j (hj : j < l.length), w.cell? ((⟨g, 0, none⟩ : Addr).add j) = some (.int .u8 (l[j].toNat : Int)) := by
  intro j hj
  refine h.cells rfl j _ ?_
  simp [Lib.byteCells, hj]

theorem len8_get (n j : Nat) (h : j < 8) : (len8 n).take (j + 1) = (len8 n).take j ++ [UInt8.ofNat (n / 256 ^ (7 - j))] := by
  have : j = 0 ∨ j = 1 ∨ j = 2 ∨ j = 3 ∨ j = 4 ∨ j = 5 ∨ j = 6 ∨ j = 7 := by omega
  rcases this with rfl | rfl | rfl | rfl | rfl | rfl | rfl | rfl <;> simp [len8]

theorem Own8.push {B : Nat} {v' : Value} {l : List UInt8} {w' : World} {c : Int} {b : UInt8} (h : w'.ownsRow B 5 1 v' (l.length + 1) (Lib.byteCells l ++ [.int .u8 c])) (hc : c = (b.toNat : Int)) : Own8 B v' (l ++ [b]) w' := by
  unfold Own8
  have e1 : (l ++ [b]).length = l.length + 1 := by simp
  have e2 : Lib.byteCells (l ++ [b]) = Lib.byteCells l ++ [.int .u8 c] := by simp [Lib.byteCells, hc]
  rw [e1, e2]
  exact h

end Go.Proofs.YteejldddgogbkaaDoor
/- The document's own digest. -/
set_option linter.unusedVariables false
set_option maxRecDepth 100000
namespace Go.Proofs.YteejldddgogbkaaDoor
open Go.RowKit

theorem info37 : (Tryd.prog.info? 122).map (fun i => (i.zero, i.size, i.bytes)) = some (some (.int .u32 0), 1, 4) := by kernel_rfl

/-- In block b stand so many bytes. -/
def Key8 (b : Nat) (g : Nat → Nat) (w : World) : Prop := b < w.heap.size ∧ ∀ j, j < 32 → w.cell? ⟨b, j, none⟩ = some (.int .u8 ((g j : Nat) : Int)) ∧ w.frozen? ⟨b, j, none⟩ = false
theorem Key8.same {b : Nat} {g g' : Nat → Nat} {w : World} (h : Key8 b g w) (e : ∀ j, j < 32 → g j = g' j) : Key8 b g' w := ⟨h.1, fun j hj => by rw [← e j hj]; exact h.2 j hj⟩
theorem Key8.keep {b B : Nat} {g : Nat → Nat} {w w' : World} (h : Key8 b g w) (k : Below B w w') (hb : b < B) : Key8 b g w' := by
  refine ⟨Nat.lt_of_lt_of_le h.1 k.size, fun j hj => ?_⟩
  rw [k.cell hb, YteejldddgogbkaaDoor.Below.frozen k hb]
  exact h.2 j hj
theorem Key8.set {b : Nat} {g : Nat → Nat} {w : World} (h : Key8 b g w) {i : Nat} (hi : i < 32) (v : Nat) : Key8 b (fun j => if j = i then v else g j) (w.setCell ⟨b, i, none⟩ (.int .u8 (v : Int))) := by
  refine ⟨by simpa using h.1, fun j hj => ?_⟩
  refine ⟨?_, by rw [World.frozen?_setCell]; exact (h.2 j hj).2⟩
  by_cases hji : j = i
  · subst hji
    rw [World.cell?_setCell_same w _ _ (h.2 j hj).1]
    simp
  · rw [World.cell?_setCell_other w _ _ _ (fun e => hji (by injection e with _ e2; exact e2.symm)), (h.2 j hj).1]
    simp [hji]
theorem Key8.other {b : Nat} {g : Nat → Nat} {w : World} (h : Key8 b g w) {a : Addr} (ha : a.block ≠ b) (v : Value) : Key8 b g (w.setCell a v) := by
  refine ⟨by simpa using h.1, fun j hj => ?_⟩
  refine ⟨?_, by rw [World.frozen?_setCell]; exact (h.2 j hj).2⟩
  rw [World.cell?_setCell_other w _ _ _ (fun e => ha (by rw [e]))]
  exact (h.2 j hj).1
theorem key8_new (w : World) (t : TypeId) : Key8 w.heap.size (fun _ => 0) (w.alloc (.cells (Array.replicate 32 (.int .u8 0)) t)) := by
  refine ⟨by show w.heap.size < (w.heap.push _).size; simp, fun j hj => ⟨?_, ?_⟩⟩
  · rw [World.cell?_alloc_mark]
    simp [hj]
  · rw [World.frozen?_alloc_mark]
    simp

def keyV (l : List UInt8) : Value := .agg ((l.map fun b => Value.int .u8 (b.toNat : Int)).toArray)

/-- The state, the numbers, the result's place. -/
structure St (R : Nat) (st : List Nat) (w : World) : Prop where
  s : Row32 (R + 1) st w
  k : Row32 (R + 2) numbers w
  r : Key8 R (fun _ => 0) w
theorem St.keep {R B : Nat} {st : List Nat} {w w' : World} (h : St R st w) (k : Below B w w') (hB : R + 2 < B) : St R st w' :=
  ⟨h.s.keep k (by omega), h.k.keep k (by omega), h.r.keep k (by omega)⟩
def before (w : World) : World := (w.alloc (.cells (Array.replicate 32 (.int .u8 0)) 120)).alloc (.cells (words32 start.list) 122)
theorem before_size (w : World) : (before w).heap.size = w.heap.size + 2 := by
  show ((w.heap.push _).push _).size = _
  simp
theorem before_below (w : World) : Below w.heap.size w (before w) := ((Below.refl _ _).alloc (Nat.le_refl _) _).alloc (by simp) _
theorem before_st {w w1 : World} (h1 : Row32 (before w).heap.size numbers w1) (k1 : Below (before w).heap.size (before w) w1) : St w.heap.size start.list w1 := by
  rw [before_size] at h1 k1
  refine ⟨?_, h1, ?_⟩
  · have h := row32_new (w.alloc (.cells (Array.replicate 32 (.int .u8 0)) 120)) start.list 122
    have e : (w.alloc (.cells (Array.replicate 32 (.int .u8 0)) 120)).heap.size = w.heap.size + 1 := by simp
    rw [e] at h
    exact h.keep k1 (by omega)
  · have h := key8_new w 120
    have k2 : Below (w.heap.size + 1) (w.alloc (.cells (Array.replicate 32 (.int .u8 0)) 120)) (before w) := (Below.refl _ _).alloc (by simp) _
    exact (h.keep k2 (by omega)).keep k1 (by omega)

/-- A slice of words of the call's own. -/
def Own32 (B : Nat) (v : Value) (l : List Nat) (w : World) : Prop := w.ownsRow B 122 1 v l.length (l.map fun x : Nat => Value.int .u32 (x : Int))
theorem Own32.form {B n : Nat} {v : Value} {l : List Nat} {w : World} (h : Own32 B v l w) (hn : l.length = n) (hl : 0 < n) : ∃ g cap, v = .slice (some ⟨g, 0, none⟩) n cap ∧ B ≤ g ∧ g < w.heap.size := by
  subst hn
  rcases h.2 with ⟨_, h0⟩ | ⟨g, cap, cur, hv, hB, hg, _⟩
  · omega
  · exact ⟨g, cap, hv, hB, (Array.getElem?_eq_some_iff.1 hg).1⟩
theorem Own32.cell {B g cap n : Nat} {l : List Nat} {w : World} (h : Own32 B (.slice (some ⟨g, 0, none⟩) n cap) l w) : ∀ j, j < l.length → w.cell? ⟨g, j, none⟩ = some (.int .u32 ((l.getD j 0 : Nat) : Int)) := by
  intro j hj
  have h1 := h.cells rfl j (.int .u32 ((l.getD j 0 : Nat) : Int)) (by simp [List.getD_eq_getElem?_getD, hj])
  rw [addr_add, Nat.zero_add] at h1
  exact h1
theorem Own32.push {B : Nat} {v' : Value} {l : List Nat} {w' : World} {c : Int} {b : Nat} (h : w'.ownsRow B 122 1 v' (l.length + 1) ((l.map fun x : Nat => Value.int .u32 (x : Int)) ++ [.int .u32 c])) (hc : c = (b : Int)) : Own32 B v' (l ++ [b]) w' := by
  unfold Own32
  have e1 : (l ++ [b]).length = l.length + 1 := by simp
  have e2 : ((l ++ [b]).map fun x : Nat => Value.int .u32 (x : Int)) = (l.map fun x : Nat => Value.int .u32 (x : Int)) ++ [.int .u32 c] := by simp [hc]
  rw [e1, e2]
  exact h
def partW (p : List UInt8) (o : Nat) : Nat → Nat
  | 0 => 0
  | j + 1 => 256 * partW p o j + byteAt p (o + j)
theorem partW_four (p : List UInt8) (o : Nat) : partW p o 4 = wordAt p o := by simp [partW, wordAt]
theorem partW_lt (p : List UInt8) (o j : Nat) (h : j < 4) : partW p o j < 16777216 := by
  have h0 := byteAt_lt p o
  have h1 := byteAt_lt p (o + 1)
  have h2 := byteAt_lt p (o + 2)
  have : j = 0 ∨ j = 1 ∨ j = 2 ∨ j = 3 := by omega
  rcases this with rfl | rfl | rfl | rfl <;> simp [partW] <;> omega
theorem byte_bs (p : List UInt8) (o : Nat) (h : o < (bs p).size) : (bs p)[o].toNat = byteAt p o := by
  unfold byteAt
  have hp : o < p.length := by rw [bs_size] at h; exact h
  rw [List.getD_eq_getElem?_getD, List.getElem?_eq_getElem hp]
  rfl

/-- append to a row of the call's own, as one step of a region that draws. -/
theorem step_append_own {P : Program} {ops : Array Oper} {o : Oper} {a : Act} {w : World} {K : Act → World → Prop} {Q : Exit → Act → World → Prop} {E : Prop}
    (hg : o.guard = none) (s x : Operand) (t : TypeId) (hop : o.op = Op.call { callee := Callee.builtin Builtin.append, args := #[s, x], argTypes := #[t, t] })
    (base : Nat) (e : TypeId) (i : TypeInfo) (z : Value) (size bytes : Nat) (h1 : P.underlying t = some (.slice e)) (h2 : P.info? e = some i) (h3 : i.zero = some z) (h4 : i.size = size) (h5 : i.bytes = bytes) (h6 : z.cells.size = size) (h7 : 0 < size)
    (v : Value) (n : Nat) (xs : List Value) (hs : a.eval s = v) (hown : w.ownsRow base e size v n xs)
    (ad : Addr) (m c : Nat) (news : List Value) (hx : a.eval x = .slice (some ad) m c) (hn : news.length = m * size) (hc : ∀ j u, news[j]? = some u → w.cell? (ad.add j) = some u) (h1c : ∀ u ∈ news, u.oneCell' = true)
    (b1 : n + m ≤ maxLen) (b2 : (n + m) * bytes ≤ 140737488355328) (hbase : base ≤ w.heap.size)
    (hK : ∀ v' w', w'.ownsRow base e size v' (n + m) (xs ++ news) → w.grownBy w' v.ownBlock → K (a.put o.dst v') w') :
    if Region.wanted o (yielded ops a.tmps) = true then Oper.wp P o a w K Q else E := by
  have hw : Region.wanted o (yielded ops a.tmps) = true := by simp [Region.wanted, hg]
  rw [if_pos hw]
  obtain ⟨v', w', hrun, r1, r2, _⟩ := run_append_own (P := P) w base t o.type e i z size bytes h1 h2 h3 h4 h5 h6 h7 v n xs hown ad m c news hn hc h1c b1 b2 hbase
  unfold Oper.wp
  simp [execOp, hop, resolve, invoke, builtin, hs, hx, hrun, Result.andThen]
  exact hK v' w' r1 r2
theorem wrap_idx (q : Nat) (h : q ≤ 1000000) : IntKind.i64.wrap (q : Int) = (q : Int) := by rw [IntKind.wrap_i64]; omega
theorem wrap_sum (a b : Nat) : IntKind.u32.wrap ((a : Int) + (b : Int)) = (((a + b) % 4294967296 : Nat) : Int) := by rw [IntKind.wrap_u32']; omega
theorem xor_u32 (a b : Nat) (ha : a < 4294967296) (hb : b < 4294967296) : bits BinOp.xor IntKind.u32 (a : Int) (b : Int) = ((a ^^^ b : Nat) : Int) := u32_xor_nat a b ha (by omega)
/-- The state where so many words are added. -/
def mixL (s t : Eight) (i : Nat) : List Nat := (plus s t).list.take i ++ s.list.drop i
theorem mix_at (s t : Eight) (i : Nat) (h : i < 8) : (mixL s t i).getD i 0 = s.list.getD i 0 := by
  have : i = 0 ∨ i = 1 ∨ i = 2 ∨ i = 3 ∨ i = 4 ∨ i = 5 ∨ i = 6 ∨ i = 7 := by omega
  rcases this with rfl | rfl | rfl | rfl | rfl | rfl | rfl | rfl <;> rfl
theorem mix_next (s t : Eight) (i : Nat) (h : i < 8) : (mixL s t i).set i ((s.list.getD i 0 + t.list.getD i 0) % 4294967296) = mixL s t (i + 1) := by
  have : i = 0 ∨ i = 1 ∨ i = 2 ∨ i = 3 ∨ i = 4 ∨ i = 5 ∨ i = 6 ∨ i = 7 := by omega
  rcases this with rfl | rfl | rfl | rfl | rfl | rfl | rfl | rfl <;> rfl
theorem mix_len (s t : Eight) (i : Nat) (h : i ≤ 8) : (mixL s t i).length = 8 := by
  unfold mixL
  rw [List.length_append, List.length_take, List.length_drop]
  have h1 : (plus s t).list.length = 8 := rfl
  have h2 : s.list.length = 8 := rfl
  omega
theorem St.set {R : Nat} {st : List Nat} {w : World} (h : St R st w) {i : Nat} (hi : i < st.length) (v : Nat) : St R (st.set i v) (w.setCell ⟨R + 1, i, none⟩ (.int .u32 (v : Int))) :=
  ⟨h.s.set hi v, h.k.other (by show R + 1 ≠ R + 2; omega) _, h.r.other (by show R + 1 ≠ R; omega) _⟩
/-- The bytes of a key, by their places. -/
def keyN (s : Eight) (m : Nat) : Nat := ((keyOf s).getD m 0).toNat
theorem keyN_at (s : Eight) (i j : Nat) (hi : i < 8) (hj : j < 4) : keyN s (4 * i + j) = s.list.getD i 0 / 256 ^ (3 - j) % 256 := by
  have h1 : i = 0 ∨ i = 1 ∨ i = 2 ∨ i = 3 ∨ i = 4 ∨ i = 5 ∨ i = 6 ∨ i = 7 := by omega
  have h2 : j = 0 ∨ j = 1 ∨ j = 2 ∨ j = 3 := by omega
  rcases h2 with rfl | rfl | rfl | rfl <;> rcases h1 with rfl | rfl | rfl | rfl | rfl | rfl | rfl | rfl <;> simp [keyN, keyOf, four4, Eight.list]
/-- The places that are filled: the words below i, and of word i the bytes from j on. -/
def fill (s : Eight) (i j m : Nat) : Nat := if m < 4 * i ∨ (4 * i + j ≤ m ∧ m < 4 * i + 4) then keyN s m else 0
theorem fill_next (s : Eight) (i j m : Nat) (hj : j < 4) : (if m = 4 * i + j then keyN s (4 * i + j) else fill s i (j + 1) m) = fill s i j m := by
  unfold fill
  by_cases h : m = 4 * i + j
  · subst h; rw [if_pos rfl, if_pos (by omega)]
  · rw [if_neg h]
    by_cases h2 : m < 4 * i ∨ (4 * i + j ≤ m ∧ m < 4 * i + 4)
    · rw [if_pos h2, if_pos (by omega)]
    · rw [if_neg h2, if_neg (by omega)]
theorem fill_word (s : Eight) (i m : Nat) : fill s i 0 m = fill s (i + 1) 4 m := by
  unfold fill
  by_cases h2 : m < 4 * i ∨ (4 * i + 0 ≤ m ∧ m < 4 * i + 4)
  · rw [if_pos h2, if_pos (by omega)]
  · rw [if_neg h2, if_neg (by omega)]
theorem fill_all (s : Eight) (m : Nat) (h : m < 32) : fill s 8 4 m = keyN s m := by unfold fill; rw [if_pos (by omega)]
theorem fill_none (s : Eight) (m : Nat) : fill s 0 4 m = 0 := by unfold fill; rw [if_neg (by omega)]

def keyCells (s : Eight) : List Value := (keyOf s).map fun b => Value.int .u8 (b.toNat : Int)
theorem keyCells_len (s : Eight) : (keyCells s).length = 32 := rfl
theorem key_range {b : Nat} {s : Eight} {w : World} (h : Key8 b (keyN s) w) : w.rangeAt b 0 (keyCells s) := by
  intro j v hj
  have hlt : j < 32 := by
    have := (List.getElem?_eq_some_iff.1 hj).1
    rw [keyCells_len] at this
    exact this
  rw [Nat.zero_add, (h.2 j hlt).1]
  unfold keyCells at hj
  rw [List.getElem?_map] at hj
  unfold keyN
  rw [List.getD_eq_getElem?_getD]
  cases hk : (keyOf s)[j]? with
  | none => rw [hk] at hj; cases hj
  | some x => rw [hk] at hj; exact hj
theorem key_there {b : Nat} {g : Nat → Nat} {w : World} (h : Key8 b g w) : w.there b 0 32 := fun j hj => by
  rw [Nat.zero_add, (h.2 j hj).1]
  exact ⟨rfl, (h.2 j hj).2⟩
theorem key_one (s : Eight) : ∀ v ∈ keyCells s, v.oneCell' = true := by
  intro v hv
  unfold keyCells at hv
  obtain ⟨b, _, rfl⟩ := List.mem_map.1 hv
  rfl
theorem row_eight {b : Nat} {s : Eight} {w : World} (h : Row32 b s.list w) :
    w.cell? ⟨b, 0, none⟩ = some (.int .u32 (s.a : Int)) ∧ w.cell? ⟨b, 1, none⟩ = some (.int .u32 (s.b : Int)) ∧ w.cell? ⟨b, 2, none⟩ = some (.int .u32 (s.c : Int)) ∧ w.cell? ⟨b, 3, none⟩ = some (.int .u32 (s.d : Int)) ∧
    w.cell? ⟨b, 4, none⟩ = some (.int .u32 (s.e : Int)) ∧ w.cell? ⟨b, 5, none⟩ = some (.int .u32 (s.f : Int)) ∧ w.cell? ⟨b, 6, none⟩ = some (.int .u32 (s.g : Int)) ∧ w.cell? ⟨b, 7, none⟩ = some (.int .u32 (s.h : Int)) :=
  ⟨(h.2 0 (by show 0 < 8; omega)).1, (h.2 1 (by show 1 < 8; omega)).1, (h.2 2 (by show 2 < 8; omega)).1, (h.2 3 (by show 3 < 8; omega)).1, (h.2 4 (by show 4 < 8; omega)).1, (h.2 5 (by show 5 < 8; omega)).1, (h.2 6 (by show 6 < 8; omega)).1, (h.2 7 (by show 7 < 8; omega)).1⟩
theorem and_u32 (a b : Nat) (ha : a < 4294967296) (hb : b < 4294967296) : bits BinOp.and IntKind.u32 (a : Int) (b : Int) = ((a &&& b : Nat) : Int) := u32_and_nat a b ha (by omega)
theorem wrap_not (e : Nat) (h : e < 4294967296) : IntKind.u32.wrap (4294967295 - (e : Int)) = ((4294967295 - e : Nat) : Int) := by rw [IntKind.wrap_u32']; omega
theorem bg_facts (x n m k : Nat) (hx : x < 4294967296) : bits BinOp.xor IntKind.u32 ((rotN n x : Nat) : Int) ((rotN m x : Nat) : Int) = ((rotN n x ^^^ rotN m x : Nat) : Int) ∧
    bits BinOp.xor IntKind.u32 ((rotN n x ^^^ rotN m x : Nat) : Int) ((rotN k x : Nat) : Int) = (((rotN n x ^^^ rotN m x) ^^^ rotN k x : Nat) : Int) :=
  ⟨xor_u32 _ _ (rotN_lt n hx) (rotN_lt m hx), xor_u32 _ _ (xor_lt32 (rotN_lt n hx) (rotN_lt m hx)) (rotN_lt k hx)⟩
theorem ch_facts (e f g : Nat) (he : e < 4294967296) (hf : f < 4294967296) (hg : g < 4294967296) : bits BinOp.and IntKind.u32 (e : Int) (f : Int) = ((e &&& f : Nat) : Int) ∧ bits BinOp.and IntKind.u32 ((4294967295 - e : Nat) : Int) (g : Int) = (((4294967295 - e) &&& g : Nat) : Int) ∧
    bits BinOp.xor IntKind.u32 ((e &&& f : Nat) : Int) (((4294967295 - e) &&& g : Nat) : Int) = ((chW e f g : Nat) : Int) :=
  ⟨and_u32 e f he hf, and_u32 _ g (by omega) hg, xor_u32 _ _ (and_lt32 hf) (and_lt32 hg)⟩
theorem mj_facts (a b c : Nat) (ha : a < 4294967296) (hb : b < 4294967296) (hc : c < 4294967296) : bits BinOp.and IntKind.u32 (a : Int) (b : Int) = ((a &&& b : Nat) : Int) ∧ bits BinOp.and IntKind.u32 (a : Int) (c : Int) = ((a &&& c : Nat) : Int) ∧ bits BinOp.and IntKind.u32 (b : Int) (c : Int) = ((b &&& c : Nat) : Int) ∧
    bits BinOp.xor IntKind.u32 ((a &&& b : Nat) : Int) ((a &&& c : Nat) : Int) = (((a &&& b) ^^^ (a &&& c) : Nat) : Int) ∧ bits BinOp.xor IntKind.u32 (((a &&& b) ^^^ (a &&& c) : Nat) : Int) ((b &&& c : Nat) : Int) = ((mjW a b c : Nat) : Int) :=
  ⟨and_u32 a b ha hb, and_u32 a c ha hc, and_u32 b c hb hc, xor_u32 _ _ (and_lt32 hb) (and_lt32 hc), xor_u32 _ _ (xor_lt32 (and_lt32 hb) (and_lt32 hc)) (and_lt32 hc)⟩
theorem sg_facts (x n m d : Nat) (hx : x < 4294967296) : bits BinOp.xor IntKind.u32 ((rotN n x : Nat) : Int) ((rotN m x : Nat) : Int) = ((rotN n x ^^^ rotN m x : Nat) : Int) ∧
    bits BinOp.xor IntKind.u32 ((rotN n x ^^^ rotN m x : Nat) : Int) ((x : Int) / (d : Int)) = (((rotN n x ^^^ rotN m x) ^^^ x / d : Nat) : Int) := by
  have h1 := rotN_lt n hx
  have h2 := rotN_lt m hx
  refine ⟨xor_u32 _ _ h1 h2, ?_⟩
  have e : (x : Int) / (d : Int) = ((x / d : Nat) : Int) := (Int.natCast_ediv x d).symm
  rw [e]
  exact xor_u32 _ _ (xor_lt32 h1 h2) (Nat.lt_of_le_of_lt (Nat.div_le_self _ _) hx)
end Go.Proofs.YteejldddgogbkaaDoor
/- The document's own answers over keys: words, order, digits. -/
set_option linter.unusedVariables false
set_option maxRecDepth 100000
namespace Go.Proofs.YteejldddgogbkaaDoor
open Go.RowKit

/-- A key's cells. -/
def keyA (l : List UInt8) : Array Value := (l.map fun b => Value.int .u8 (b.toNat : Int)).toArray
theorem keyA_new (w : World) (l : List UInt8) (hl : l.length = 32) (t : TypeId) : Key8 w.heap.size (byteAt l) (w.alloc (.cells (keyA l) t)) := by
  refine ⟨by show w.heap.size < (w.heap.push _).size; simp, fun j hj => ⟨?_, ?_⟩⟩
  · rw [World.cell?_alloc_mark]
    simp [keyA, byteAt, hl, hj, List.getD_eq_getElem?_getD]
  · rw [World.frozen?_alloc_mark]
    simp

theorem ret_u32' {a b : Nat} (h : b = a) : Ending.returned (.int .u32 (a : Int)) = Ending.returned (.int .u32 (b : Int)) := by rw [h]
theorem ret_bool {a b : Bool} (h : b = a) : Ending.returned (.bool a) = Ending.returned (.bool b) := by rw [h]
theorem word_index (n : Int) (h1 : -9223372036854775808 ≤ n) (h2 : n ≤ 9223372036854775807) : (wrap64 (n.tmod 8 + 8)).tmod 8 = (((n % 8).toNat : Nat) : Int) := by
  have e : wrap64 (n.tmod 8 + 8) = n.tmod 8 + 8 ∧ 0 ≤ n.tmod 8 + 8 ∧ (n.tmod 8 + 8) % 8 = n % 8 := by
    rcases Int.le_total 0 n with h | h
    · rw [Int.tmod_eq_emod_of_nonneg h]
      unfold wrap64
      omega
    · obtain ⟨m, rfl⟩ : ∃ m, n = -m := ⟨-n, by omega⟩
      rw [Int.neg_tmod, Int.tmod_eq_emod_of_nonneg (by omega)]
      unfold wrap64
      omega
  rw [e.1, Int.tmod_eq_emod_of_nonneg e.2.1, e.2.2]
  omega

/-! ### Order -/
def lessL : List UInt8 → List UInt8 → Bool
  | a :: l, b :: m => if a = b then lessL l m else decide (a.toNat < b.toNat)
  | _, _ => false
theorem lessL_at : ∀ (l m : List UInt8) (i : Nat) (hl : i < l.length) (hm : i < m.length), l.take i = m.take i → l[i] ≠ m[i] → lessL l m = decide (l[i].toNat < m[i].toNat)
  | a :: l, b :: m, 0, _, _, _, h => by simp at h; simp [lessL, h]
  | a :: l, b :: m, i + 1, hl, hm, ht, h => by
    simp at ht
    simp only [lessL, ht.1, if_true]
    exact lessL_at l m i (by simpa using hl) (by simpa using hm) ht.2 (by simpa using h)
theorem lessL_same : ∀ l, lessL l l = false
  | [] => rfl
  | a :: l => by simp [lessL, lessL_same l]

theorem take_same {l m : List UInt8} {i : Nat} (h : l.take i = m.take i) (hl : i < l.length) (hm : i < m.length) (he : l[i] = m[i]) : l.take (i + 1) = m.take (i + 1) := by
  rw [List.take_add_one, List.take_add_one, h, List.getElem?_eq_getElem hl, List.getElem?_eq_getElem hm, he]
theorem byteAt_get (l : List UInt8) (i : Nat) (h : i < l.length) : byteAt l i = l[i].toNat := by
  unfold byteAt
  rw [List.getD_eq_getElem?_getD, List.getElem?_eq_getElem h]
  rfl

/-! ### Digits -/
def digN (k : Nat) : Nat := if k < 10 then 48 + k else 87 + k
def digO (c : Nat) : Nat := if 48 ≤ c ∧ c ≤ 57 then c - 48 else if 97 ≤ c ∧ c ≤ 102 then c - 87 else 16
theorem hex_at (k : Nat) (h : k < 16) : (({ data := #[48, 49, 50, 51, 52, 53, 54, 55, 56, 57, 97, 98, 99, 100, 101, 102] } : ByteArray)[k]'(by exact h)).toNat = digN k := by
  have : k = 0 ∨ k = 1 ∨ k = 2 ∨ k = 3 ∨ k = 4 ∨ k = 5 ∨ k = 6 ∨ k = 7 ∨ k = 8 ∨ k = 9 ∨ k = 10 ∨ k = 11 ∨ k = 12 ∨ k = 13 ∨ k = 14 ∨ k = 15 := by omega
  rcases this with rfl | rfl | rfl | rfl | rfl | rfl | rfl | rfl | rfl | rfl | rfl | rfl | rfl | rfl | rfl | rfl <;> rfl

theorem digO_at (k : Nat) (h : k < 16) : digO (digN k) = k := by unfold digO digN; split <;> split <;> (try split) <;> omega
theorem digO_none (c : Nat) (h : ∀ j, j < 16 → digN j ≠ c) : digO c = 16 := by
  unfold digO
  by_cases h1 : 48 ≤ c ∧ c ≤ 57
  · exact absurd (show digN (c - 48) = c by unfold digN; rw [if_pos (by omega)]; omega) (h _ (by omega))
  · rw [if_neg h1]
    by_cases h2 : 97 ≤ c ∧ c ≤ 102
    · exact absurd (show digN (c - 87) = c by unfold digN; rw [if_neg (by omega)]; omega) (h _ (by omega))
    · rw [if_neg h2]
theorem ret_u8 {a b : Nat} (h : b = a) : Ending.returned (.int .u8 (a : Int)) = Ending.returned (.int .u8 (b : Int)) := by rw [h]
theorem ret_u8i {a : Int} {b : Nat} (h : (b : Int) = a) : Ending.returned (.int .u8 a) = Ending.returned (.int .u8 (b : Int)) := by rw [h]

def digB (k : Nat) : UInt8 := UInt8.ofNat (digN k)
def hexL (l : List UInt8) : List UInt8 := l.flatMap fun b => [digB (b.toNat / 16), digB (b.toNat % 16)]
theorem hexL_len (l : List UInt8) : (hexL l).length = 2 * l.length := by
  induction l with
  | nil => rfl
  | cons b l ih => unfold hexL at ih ⊢; simp only [List.flatMap_cons, List.length_append, List.length_cons, List.length_nil, ih]; omega
theorem hexL_next (l : List UInt8) (i : Nat) (h : i < l.length) : hexL (l.take (i + 1)) = hexL (l.take i) ++ [digB (byteAt l i / 16)] ++ [digB (byteAt l i % 16)] := by
  unfold hexL
  rw [List.take_add_one, List.flatMap_append, List.getElem?_eq_getElem h, byteAt_get l i h]
  simp
theorem hex_piece (k : Nat) (h : k < 16) : ({ data := #[48, 49, 50, 51, 52, 53, 54, 55, 56, 57, 97, 98, 99, 100, 101, 102] } : ByteArray).extract k (k + 1) = bs [digB k] := by
  have : k = 0 ∨ k = 1 ∨ k = 2 ∨ k = 3 ∨ k = 4 ∨ k = 5 ∨ k = 6 ∨ k = 7 ∨ k = 8 ∨ k = 9 ∨ k = 10 ∨ k = 11 ∨ k = 12 ∨ k = 13 ∨ k = 14 ∨ k = 15 := by omega
  rcases this with rfl | rfl | rfl | rfl | rfl | rfl | rfl | rfl | rfl | rfl | rfl | rfl | rfl | rfl | rfl | rfl <;> rfl

/-! ### Parse -/
def zeroL : List UInt8 := List.replicate 32 0
def dg (s : List UInt8) (j : Nat) : Nat := digO (byteAt s j)
theorem digO_le (c : Nat) : digO c ≤ 16 := by unfold digO; split <;> (try split) <;> omega
def parseK (s : List UInt8) : List UInt8 := (List.range 32).map fun m => UInt8.ofNat (16 * dg s (2 * m) + dg s (2 * m + 1))
def fine (s : List UInt8) : Prop := s.length = 64 ∧ ∀ j, j < 64 → dg s j ≠ 16
/-- A key's bytes where so many digits are gone over. -/
def pfill (s : List UInt8) (i m : Nat) : Nat := if m < i / 2 then 16 * dg s (2 * m) + dg s (2 * m + 1) else if m = i / 2 ∧ i % 2 = 1 then dg s (2 * m) else 0
theorem pfill_zero (s : List UInt8) (m : Nat) : pfill s 0 m = 0 := by unfold pfill; rw [if_neg (by omega), if_neg (by omega)]
theorem pfill_next (s : List UInt8) (i m : Nat) : (if m = i / 2 then 16 * pfill s i (i / 2) + dg s i else pfill s i m) = pfill s (i + 1) m := by
  unfold pfill
  by_cases hm : m = i / 2
  · subst hm
    rw [if_pos rfl, if_neg (by omega)]
    rcases Nat.mod_two_eq_zero_or_one i with h | h
    · rw [if_neg (by omega), if_neg (by omega), if_pos (by omega), show 2 * (i / 2) = i by omega]
      omega
    · rw [if_pos (by omega), if_pos (by omega), show 2 * (i / 2) + 1 = i by omega]
  · rw [if_neg hm]
    by_cases h : m < i / 2
    · rw [if_pos h, if_pos (by omega)]
    · rw [if_neg h, if_neg (by omega), if_neg (by omega), if_neg (by omega)]
theorem pfill_small (s : List UInt8) (i : Nat) (h : ∀ j, j < i → dg s j ≠ 16) (hi : dg s i ≠ 16) : 16 * pfill s i (i / 2) + dg s i < 256 := by
  have h1 := digO_le (byteAt s i)
  have h0 : dg s i ≤ 15 := by unfold dg at hi ⊢; omega
  unfold pfill
  rw [if_neg (by omega)]
  by_cases ho : i / 2 = i / 2 ∧ i % 2 = 1
  · rw [if_pos ho]
    have h2 := digO_le (byteAt s (2 * (i / 2)))
    have h3 := h (2 * (i / 2)) (by omega)
    unfold dg at h3 ⊢
    unfold dg at h0
    omega
  · rw [if_neg ho]; omega
theorem parseK_len (s : List UInt8) : (parseK s).length = 32 := by simp [parseK]
theorem parseK_at (s : List UInt8) (h : ∀ j, j < 64 → dg s j ≠ 16) (m : Nat) (hm : m < 32) : byteAt (parseK s) m = pfill s 64 m := by
  have h1 := h (2 * m) (by omega)
  have h2 := h (2 * m + 1) (by omega)
  have h3 := digO_le (byteAt s (2 * m))
  have h4 := digO_le (byteAt s (2 * m + 1))
  rw [byteAt_get _ m (by rw [parseK_len]; exact hm)]
  unfold pfill
  rw [if_pos (by omega)]
  simp only [parseK, List.getElem_map, List.getElem_range, ofNat_toNat]
  unfold dg at *
  omega

theorem range_of {b : Nat} {g : Nat → Nat} {l : List UInt8} {w : World} (h : Key8 b g w) (hl : l.length = 32) (hg : ∀ m, m < 32 → g m = byteAt l m) : w.rangeAt b 0 (keyA l).toList := by
  intro j v hj
  have hlt : j < 32 := by
    have := (List.getElem?_eq_some_iff.1 hj).1
    simp [keyA, hl] at this
    exact this
  rw [Nat.zero_add, (h.2 j hlt).1, hg j hlt, byteAt_get l j (by omega)]
  simp [keyA] at hj
  obtain ⟨x, hx, rfl⟩ := hj
  have : l[j]'(by omega) = x := by
    rw [List.getElem?_eq_getElem (by omega)] at hx
    exact Option.some.inj hx
  rw [this]
theorem keyA_size (l : List UInt8) : (keyA l).size = l.length := by simp [keyA]
theorem keyA_one (l : List UInt8) : (keyA l).all (·.oneCell') = true := by
  rw [Array.all_eq_true_iff_forall_mem]
  intro v hv
  unfold keyA at hv
  simp at hv
  obtain ⟨b, _, rfl⟩ := hv
  rfl
theorem results_cell_bool {fn : Func} {p u : Tmp} {ty : TypeId} (h : fn.results = #[.cell p ty, .tmp u]) (tmps : Array Value) (P : Program) (w : World) (b o : Nat) (cs : List Value) (d : TypeDesc) (x : Value) (hp : tmps.getD p undef = .pointer (some ⟨b, o, none⟩)) (hx : tmps.getD u undef = x) (hc : w.rangeAt b o cs)
    (hu : P.underlying ty = some d) (hd : d.isRow = true) (hi : (P.info? ty).map (·.size) = some cs.length) :
    (results fn tmps).run P w = .ok (.tuple #[.agg cs.toArray, x]) w := by
  have hl := run_loadVar_mid w b o ty cs d hc hu hd hi
  have hp' : tmps[p]?.getD undef = .pointer (some ⟨b, o, none⟩) := by simpa using hp
  have hx' : tmps[u]?.getD undef = x := by simpa using hx
  simp only [results, h]
  simp [Sem.run_bind, Result.andThen, hp', hx', asAddr, hl]
theorem results_key {fn : Func} {p u : Tmp} {ty : TypeId} (h : fn.results = #[.cell p ty, .tmp u]) (tmps : Array Value) (P : Program) (w : World) (b : Nat) (l : List UInt8) (d : TypeDesc) (x : Value) (hp : tmps.getD p undef = .pointer (some ⟨b, 0, none⟩)) (hx : tmps.getD u undef = x) (hc : w.there b 0 (keyA l).size)
    (hu : P.underlying ty = some d) (hd : d.isRow = true) (hi : (P.info? ty).map (·.size) = some (keyA l).toList.length) :
    (results fn tmps).run P (w.setCells b 0 (keyA l).toList) = .ok (.tuple #[.agg (keyA l), x]) (w.setCells b 0 (keyA l).toList) := by
  have := results_cell_bool h tmps P (w.setCells b 0 (keyA l).toList) b 0 (keyA l).toList d x hp hx (World.rangeAt_setCells_same w b 0 _ (by simpa using hc)) hu hd hi
  simpa using this
theorem info25n : (Tryd.prog.info? 120).map (·.size) = some 32 := by kernel_rfl
theorem info25 (l : List UInt8) (hl : l.length = 32) : (Tryd.prog.info? 120).map (·.size) = some (keyA l).toList.length := by
  have : (keyA l).toList.length = 32 := by simp [keyA, hl]
  rw [this]
  exact info25n
theorem info25s (l : List UInt8) (hl : l.length = 32) : (Tryd.prog.info? 120).map (·.size) = some (keyA l).size := by
  rw [keyA_size, hl]
  exact info25n

/-- What Parse answers. -/
def Parsed (s : List UInt8) (w : World) (e : Ending) (w' : World) : Prop := ∃ (l : List UInt8) (ok : Bool), e = .returned (.tuple #[.agg (keyA l), .bool ok]) ∧ (ok = true ↔ fine s) ∧ (ok = true → l = parseK s) ∧ (ok = false → l = zeroL) ∧ Below w.heap.size w w'

end Go.Proofs.YteejldddgogbkaaDoor
/- A word for each round, as the program lays them. -/
set_option linter.unusedVariables false
set_option maxRecDepth 100000
namespace Go.Proofs.YteejldddgogbkaaDoor
open Go.RowKit

theorem words32_size (l : List Nat) : (words32 l).size = l.length := by simp [words32]
theorem words32_one (l : List Nat) : (words32 l).all (·.oneCell') = true := by
  rw [Array.all_eq_true_iff_forall_mem]
  intro v hv
  unfold words32 at hv
  simp at hv
  obtain ⟨b, _, rfl⟩ := hv
  rfl
theorem range32 {b : Nat} {l : List Nat} {w : World} (h : Row32 b l w) : w.rangeAt b 0 (words32 l).toList := by
  intro j v hj
  have hlt : j < l.length := by
    have := (List.getElem?_eq_some_iff.1 hj).1
    simpa [words32] using this
  rw [Nat.zero_add, (h.2 j hlt).1]
  simp [words32] at hj
  obtain ⟨x, hx, rfl⟩ := hj
  simp [List.getD_eq_getElem?_getD, hx]
theorem there32 {b : Nat} {l : List Nat} {w : World} (h : Row32 b l w) : w.there b 0 l.length := fun j hj => by
  rw [Nat.zero_add, (h.2 j hj).1]
  exact ⟨rfl, (h.2 j hj).2⟩
theorem row32_zero (w : World) (n : Nat) (t : TypeId) : Row32 w.heap.size (List.replicate n 0) (w.alloc (.cells (Array.replicate n (.int .u32 0)) t)) := by
  have h := row32_new w (List.replicate n 0) t
  have e : words32 (List.replicate n 0) = Array.replicate n (.int .u32 0) := by
    unfold words32
    rw [List.map_replicate]
    rfl
  rwa [e] at h
theorem keyA_range (w : World) (l : List UInt8) (t : TypeId) : (w.alloc (.cells (keyA l) t)).rangeAt w.heap.size 0 (keyA l).toList := by
  intro j v hj
  rw [World.cell?_alloc_mark, Nat.zero_add]
  simpa using hj
/-- The words where so many bytes are gone over. -/
def wfill (L : List UInt8) (i : Nat) : List Nat := (List.range 64).map fun m => if m < i / 4 then wordAt L (4 * m) else if m = i / 4 then partW L (4 * m) (i % 4) else 0
theorem wfill_len (L : List UInt8) (i : Nat) : (wfill L i).length = 64 := by simp [wfill]
theorem wfill_at (L : List UInt8) (i m : Nat) (h : m < 64) : (wfill L i).getD m 0 = if m < i / 4 then wordAt L (4 * m) else if m = i / 4 then partW L (4 * m) (i % 4) else 0 := by
  simp [wfill, List.getD_eq_getElem?_getD, h]
theorem wfill_zero (L : List UInt8) : wfill L 0 = List.replicate 64 0 := by
  apply List.ext_getElem (by simp [wfill])
  intro m h1 h2
  simp only [wfill, List.getElem_map, List.getElem_range, List.getElem_replicate]
  rw [if_neg (by omega)]
  split
  · rfl
  · rfl
theorem ext_getD {l m : List Nat} (h : l.length = m.length) (he : ∀ j, j < l.length → l.getD j 0 = m.getD j 0) : l = m := by
  apply List.ext_getElem h
  intro j h1 h2
  have := he j h1
  rw [List.getD_eq_getElem?_getD, List.getD_eq_getElem?_getD, List.getElem?_eq_getElem h1, List.getElem?_eq_getElem h2] at this
  exact this
theorem getD_set (l : List Nat) (i j v : Nat) (h : i < l.length) : (l.set i v).getD j 0 = if j = i then v else l.getD j 0 := by
  simp only [List.getD_eq_getElem?_getD, List.getElem?_set]
  by_cases hji : j = i
  · subst hji; simp [h]
  · rw [if_neg (fun e => hji e.symm), if_neg hji]
theorem wfill_next (L : List UInt8) (i : Nat) (h : i < 64) : (wfill L i).set (i / 4) (256 * (wfill L i).getD (i / 4) 0 + byteAt L i) = wfill L (i + 1) := by
  apply ext_getD (by simp [wfill])
  intro m hm
  have hm : m < 64 := by simpa [wfill] using hm
  rw [getD_set _ _ _ _ (by rw [wfill_len]; omega), wfill_at _ _ _ hm, wfill_at _ _ _ hm, wfill_at _ _ _ (by omega)]
  rw [if_neg (show ¬ i / 4 < i / 4 by omega), if_pos rfl]
  by_cases hmi : m = i / 4
  · subst hmi
    rw [if_pos rfl]
    have e : 256 * partW L (4 * (i / 4)) (i % 4) + byteAt L i = partW L (4 * (i / 4)) (i % 4 + 1) := by
      show _ = 256 * partW L (4 * (i / 4)) (i % 4) + byteAt L (4 * (i / 4) + i % 4)
      rw [show 4 * (i / 4) + i % 4 = i by omega]
    rw [e]
    by_cases h3 : i % 4 = 3
    · rw [if_pos (by omega), h3]
      exact partW_four L _
    · rw [if_neg (by omega), if_pos (by omega), show (i + 1) % 4 = i % 4 + 1 by omega]
  · rw [if_neg hmi]
    by_cases h1 : m < i / 4
    · rw [if_pos h1, if_pos (by omega)]
    · rw [if_neg h1, if_neg hmi]
      rw [if_neg (by omega)]
      by_cases h2 : m = (i + 1) / 4
      · rw [if_pos h2, show (i + 1) % 4 = 0 by omega]
        rfl
      · rw [if_neg h2]
theorem wfill_lt (L : List UInt8) (i : Nat) (h : i < 64) : (wfill L i).getD (i / 4) 0 < 16777216 := by
  rw [wfill_at _ _ _ (by omega), if_neg (by omega), if_pos rfl]
  exact partW_lt L _ _ (by omega)
/-- The words where so many are laid, the others 0. -/
def sfill (L : List UInt8) (i : Nat) : List Nat := sched L 0 i ++ List.replicate (64 - i) 0
theorem sched_get (L : List UInt8) (o : Nat) : ∀ i j, j < i → (sched L o i).getD j 0 = if j < 16 then wordAt L (o + 4 * j) else nextW (sched L o j) j := by
  intro i
  induction i with
  | zero => intro j h; omega
  | succ i ih =>
    intro j h
    simp only [sched]
    rw [List.getD_eq_getElem?_getD]
    by_cases hj : j < i
    · rw [List.getElem?_append_left (by rw [sched_len]; exact hj), ← List.getD_eq_getElem?_getD]
      exact ih j hj
    · obtain rfl : j = i := by omega
      rw [List.getElem?_append_right (by rw [sched_len]; omega), sched_len, Nat.sub_self]
      rfl
theorem wfill_all (L : List UInt8) : wfill L 64 = sfill L 16 := by
  have hl := sched_len L 0 16
  apply ext_getD (by simp [wfill, sfill, hl])
  intro m hm
  have hm : m < 64 := by simpa [wfill] using hm
  rw [wfill_at _ _ _ hm]
  unfold sfill
  rw [List.getD_eq_getElem?_getD]
  by_cases h : m < 16
  · rw [if_pos (by omega), List.getElem?_append_left (by omega), ← List.getD_eq_getElem?_getD, sched_get L 0 16 m h, if_pos h, Nat.zero_add]
  · rw [if_neg (by omega), List.getElem?_append_right (by omega), hl]
    have e : (if m = 64 / 4 then partW L (4 * m) (64 % 4) else 0) = 0 := by split <;> rfl
    rw [e, List.getElem?_replicate]
    split <;> rfl
theorem sfill_len (L : List UInt8) (i : Nat) (h : i ≤ 64) : (sfill L i).length = 64 := by
  have hl := sched_len L 0 i
  simp [sfill, hl]
  omega
theorem sfill_at (L : List UInt8) (i j : Nat) (h : j < i) : (sfill L i).getD j 0 = (sched L 0 i).getD j 0 := by
  unfold sfill
  rw [List.getD_eq_getElem?_getD, List.getElem?_append_left (by rw [sched_len]; exact h), ← List.getD_eq_getElem?_getD]
theorem sfill_next (L : List UInt8) (i : Nat) (h1 : 16 ≤ i) (h : i < 64) : (sfill L i).set i (nextW (sched L 0 i) i) = sfill L (i + 1) := by
  have hl := sched_len L 0 i
  have hl' := sched_len L 0 (i + 1)
  unfold sfill
  obtain ⟨k, hk⟩ : ∃ k, 64 - i = k + 1 := ⟨63 - i, by omega⟩
  rw [hk, show 64 - (i + 1) = k by omega, List.replicate_succ]
  rw [List.set_append_right _ _ (by omega), hl, Nat.sub_self]
  simp only [sched, List.set_cons_zero]
  rw [if_neg (by omega)]
  simp
theorem sfill_all (L : List UInt8) : sfill L 64 = sched L 0 64 := by simp [sfill]

theorem or_byte (x y : Nat) (hx : x < 16777216) (hy : y < 256) : bits BinOp.or IntKind.u32 ((x : Int) * 256) (y : Int) = ((256 * x + y : Nat) : Int) := by
  rw [show (x : Int) * 256 = ((x * 256 : Nat) : Int) by omega, u32_or_nat _ _ (by omega) (by omega), nat_join 8 _ _ (by omega) (by omega)]
  omega
theorem arr46 : Tryd.prog.underlying 142 = some (.array 64 5) := by kernel_rfl
theorem info46 : (Tryd.prog.info? 142).map (·.size) = some 64 := by kernel_rfl
theorem info56 : (Tryd.prog.info? 158).map (·.size) = some 64 := by kernel_rfl
theorem info45 : (Tryd.prog.info? 141).map (·.size) = some 8 := by kernel_rfl
theorem notAgg5 (w : World) : (isAgg 5).run Tryd.prog w = .ok false w := by kernel_rfl
theorem size5 (w : World) : (Go.sizeOf 5).run Tryd.prog w = .ok 1 w := by kernel_rfl
theorem keyA_at (L : List UInt8) (i : Nat) (h : i < L.length) : (keyA L)[i]? = some (.int .u8 ((byteAt L i : Nat) : Int)) := by
  rw [byteAt_get L i h]
  simp [keyA, h]

set_option maxHeartbeats 1000000 in
set_option maxRecDepth 100000 in
theorem sha_spread (L : List UInt8) (w : World) (hl : Hid (L.length = 64)) :
    Calls Tryd.prog 94 #[.agg (keyA L)] w fun e w' => e = .returned (.agg (words32 (sched L 0 64))) ∧ Below w.heap.size w w' := by
  obtain ⟨H, hH⟩ : ∃ H, H = w.heap.size := ⟨_, rfl⟩
  obtain ⟨W2, hW2⟩ : ∃ W2, W2 = ((w.alloc (.cells (keyA L) 142)).alloc (.cells (Array.replicate 64 (.int .u32 0)) 158)).alloc (.cells (Array.replicate 64 (.int .u32 0)) 158) := ⟨_, rfl⟩
  have b1 : Below (H + 1) (w.alloc (.cells (keyA L) 142)) ((w.alloc (.cells (keyA L) 142)).alloc (.cells (Array.replicate 64 (.int .u32 0)) 158)) := (Below.refl _ _).alloc (by rw [hH]; simp) _
  have b2 : Below (H + 1) (w.alloc (.cells (keyA L) 142)) W2 := by rw [hW2]; exact b1.alloc (by rw [hH]; simp) _
  have b3 : Below (H + 2) ((w.alloc (.cells (keyA L) 142)).alloc (.cells (Array.replicate 64 (.int .u32 0)) 158)) W2 := by rw [hW2]; exact (Below.refl _ _).alloc (by rw [hH]; simp) _
  have HBX := Lib.hid (show W2.rangeAt H 0 (keyA L).toList from rangeAt_below (by rw [hH]; exact keyA_range w L 142) b2 (by omega))
  have HR := Lib.hid (show Row32 (H + 1) (List.replicate 64 0) W2 by
    have h := row32_zero (w.alloc (.cells (keyA L) 142)) 64 158
    rw [show (w.alloc (.cells (keyA L) 142)).heap.size = H + 1 by rw [hH]; simp] at h
    exact h.keep b3 (by omega))
  have HW := Lib.hid (show Row32 (H + 1 + 1) (List.replicate 64 0) W2 by
    have h := row32_zero ((w.alloc (.cells (keyA L) 142)).alloc (.cells (Array.replicate 64 (.int .u32 0)) 158)) 64 158
    rw [show ((w.alloc (.cells (keyA L) 142)).alloc (.cells (Array.replicate 64 (.int .u32 0)) 158)).heap.size = H + 1 + 1 by rw [hH]; simp] at h
    rw [hW2]
    exact h)
  have HB := Lib.hid (show Below H w W2 by rw [hW2, hH]; exact (((Below.refl _ _).alloc (Nat.le_refl _) _).alloc (by simp) _).alloc (by simp; omega) _)
  have HW2 := Lib.hid hW2
  have HH := Lib.hid hH
  clear b1 b2 b3 hW2 hH
  go_enter Tryd.func94, Tryd.ntmps94
  go_upto_region 2 with (fail)
  change Code.wp _ _ _ _ (((w.alloc (.cells (keyA L) 142)).alloc (.cells (Array.replicate 64 (.int .u32 0)) 158)).alloc (.cells (Array.replicate 64 (.int .u32 0)) 158))
  rw [← HW2.out, ← HH.out]
  go_wp2_with (first | (refine wpList_load_mid rfl 142 (.tmp 1) rfl H 0 rfl (keyA L).toList _ HBX.out Tryd.underlying142 rfl (by simpa [keyA_size, hl.out] using info46) ?_))
  obtain ⟨Wb, hWb⟩ : ∃ x, x = H + 1 + 1 := ⟨_, rfl⟩
  rw [← hWb] at HW ⊢
  have HWb := Lib.hid (show H + 1 < Wb by omega)
  clear hWb
  have HL0 := Lib.hid (wfill_zero L)
  go_loopw [12] (fun vi wr => ∃ i : Nat, i ≤ 64 ∧ vi = .int .i64 i ∧ Row32 Wb (wfill L i) wr ∧ Row32 (H + 1) (List.replicate 64 0) wr ∧ Below H w wr) (fun vi wr => 64 - (intOf vi).toNat)
  case atStart => exact ⟨0, by omega, rfl, by rw [HL0.out]; exact HW.out, HR.out, HB.out⟩
  case round =>
    obtain ⟨i, hi, rfl, h1, h2, h3⟩ := hrel
    have R1 := Lib.hid h1
    have R2 := Lib.hid h2
    have B3 := Lib.hid h3
    clear h1 h2 h3
    by_cases hi64 : i < 64
    · have ix := run_index_arr 142 5 64 (keyA L) i _ arr46 notAgg5 size5 hi64 (keyA_at L i (by rw [hl.out]; exact hi64))
      obtain ⟨q, hq⟩ : ∃ q, q = i / 4 := ⟨_, rfl⟩
      have hq' : (i : Int) / 4 = (q : Int) := by omega
      have hq16 : (q : Int) < 64 := by omega
      have c1 := (R1.out.2 q (by rw [wfill_len]; omega)).1
      have c2 := (R1.out.2 q (by rw [wfill_len]; omega)).2
      have hx := wfill_lt L i hi64
      have hnx := wfill_next L i hi64
      have hy := byteAt_lt L i
      rw [← hq] at hx hnx
      have STN := Lib.hid (R1.out.set (i := q) (by rw [wfill_len]; omega) (256 * (wfill L i).getD q 0 + byteAt L i))
      rw [hnx] at STN
      generalize (wfill L i).getD q 0 = x at *
      generalize byteAt L i = y at *
      have hor := or_byte x y hx hy
      have hsum : 256 * x + y < 4294967296 := by omega
      generalize 256 * x + y = z at *
      have R2N := Lib.hid (R2.out.other (a := ⟨Wb, q, none⟩) (by show Wb ≠ H + 1; have := HWb.out; omega) (.int .u32 (z : Int)))
      have B3N := Lib.hid (B3.out.setCell (p := ⟨Wb, q, none⟩) (by show H ≤ Wb; have := HWb.out; omega) (.int .u32 (z : Int)))
      clear hq hnx
      go_wp2_with fail
      generalize wr.setCell ⟨Wb, q, none⟩ (.int .u32 (z : Int)) = wz at *
      go_wp2_with fail
      go_roundw
      case rel => exact ⟨i + 1, by omega, by go_num, STN.out, R2N.out, B3N.out⟩
      case measure => simp [intOf]; omega
    · obtain rfl : i = 64 := by omega
      rw [show ((64 : Nat) : Int) = 64 from rfl]
      have S1 := Lib.hid (show Row32 Wb (sfill L 16) wr by rw [← wfill_all]; exact R1.out)
      clear R1
      go_wp2_with fail
      go_loopw [6] (fun vi wo => ∃ i : Nat, 16 ≤ i ∧ i ≤ 64 ∧ vi = .int .i64 i ∧ Row32 Wb (sfill L i) wo ∧ Row32 (H + 1) (List.replicate 64 0) wo ∧ Below H w wo) (fun vi wo => 64 - (intOf vi).toNat)
      case atStart => exact ⟨16, by omega, by omega, rfl, S1.out, R2.out, B3.out⟩
      case round =>
        obtain ⟨i, hi16, hi, rfl, h1, h2, h3⟩ := hrel
        clear S1 R2 B3
        have R1 := Lib.hid h1
        have R2 := Lib.hid h2
        have B3 := Lib.hid h3
        clear h1 h2 h3
        by_cases hi64 : i < 64
        · obtain ⟨g15, e15⟩ : ∃ g, g = i - 15 := ⟨_, rfl⟩
          obtain ⟨g2, e2⟩ : ∃ g, g = i - 2 := ⟨_, rfl⟩
          obtain ⟨g16, e16⟩ : ∃ g, g = i - 16 := ⟨_, rfl⟩
          obtain ⟨g7, e7⟩ : ∃ g, g = i - 7 := ⟨_, rfl⟩
          have f15 : (i : Int) - 15 = (g15 : Int) := by omega
          have f2 : (i : Int) - 2 = (g2 : Int) := by omega
          have f16 : (i : Int) - 16 = (g16 : Int) := by omega
          have f7 : (i : Int) - 7 = (g7 : Int) := by omega
          have hlen := sfill_len L i hi
          have c15 := (R1.out.2 g15 (by omega)).1
          have c2 := (R1.out.2 g2 (by omega)).1
          have c16 := (R1.out.2 g16 (by omega)).1
          have c7 := (R1.out.2 g7 (by omega)).1
          have ci := (R1.out.2 i (by omega)).1
          have cif := (R1.out.2 i (by omega)).2
          have hnx := sfill_next L i hi16 hi64
          unfold nextW at hnx
          rw [← e15, ← e2, ← e16, ← e7] at hnx
          rw [sfill_at L i _ (by omega)] at c15 c2 c16 c7
          have l15 := getD_lt (sched_lt L 0 i) g15
          have l2 := getD_lt (sched_lt L 0 i) g2
          have l16 := getD_lt (sched_lt L 0 i) g16
          have l7 := getD_lt (sched_lt L 0 i) g7
          generalize (sched L 0 i).getD g15 0 = x15 at *
          generalize (sched L 0 i).getD g2 0 = x2 at *
          generalize (sched L 0 i).getD g16 0 = x16 at *
          generalize (sched L 0 i).getD g7 0 = x7 at *
          have k15 : (g15 : Int) < 64 := by omega
          have k2 : (g2 : Int) < 64 := by omega
          have k16 : (g16 : Int) < 64 := by omega
          have k7 : (g7 : Int) < 64 := by omega
          have HNX := Lib.hid hnx
          clear e15 e2 e16 e7 hnx hlen
          go_wp2_with fail
          go_quiet (fail)
          generalize hwq : wr.drewN nq = wq
          have R1q := Lib.hid (show Row32 Wb (sfill L i) wq by rw [← hwq]; exact ⟨R1.out.1, R1.out.2⟩)
          have R2q := Lib.hid (show Row32 (H + 1) (List.replicate 64 0) wq by rw [← hwq]; exact ⟨R2.out.1, R2.out.2⟩)
          have B3q := Lib.hid (show Below H w wq by rw [← hwq]; exact below_drewN B3.out nq)
          have c16 : wq.cell? ⟨Wb, g16, none⟩ = some (.int .u32 (x16 : Int)) := by rw [← hwq]; exact c16
          have c7 : wq.cell? ⟨Wb, g7, none⟩ = some (.int .u32 (x7 : Int)) := by rw [← hwq]; exact c7
          have cif : wq.frozen? ⟨Wb, i, none⟩ = false := by rw [← hwq]; exact cif
          have ci : wq.cell? ⟨Wb, i, none⟩ = some (.int .u32 (((sfill L i).getD i 0 : Nat) : Int)) := by rw [← hwq]; exact ci
          clear hwq R1 R2 B3 c15 c2
          have hf := sg_facts x15 7 18 8 l15
          have f1 := hf.1
          have f3 : bits BinOp.xor IntKind.u32 ((rotN 7 x15 ^^^ rotN 18 x15 : Nat) : Int) ((x15 : Int) / 8) = ((sg0 x15 : Nat) : Int) := hf.2
          clear hf
          go_wp2_with fail
          refine (sha_right x15 7 wq l15 (by decide) (by decide)).mono ?_
          rintro e' w9 ⟨rfl, rfl⟩
          go_wp2_with fail
          refine (sha_right x15 18 wq l15 (by decide) (by decide)).mono ?_
          rintro e' w9 ⟨rfl, rfl⟩
          have lS0 := sg0_lt l15
          have hg := sg_facts x2 17 19 1024 l2
          have f4 := hg.1
          have f5 : bits BinOp.xor IntKind.u32 ((rotN 17 x2 ^^^ rotN 19 x2 : Nat) : Int) ((x2 : Int) / 1024) = ((sg1 x2 : Nat) : Int) := hg.2
          clear hg
          have lS1 := sg1_lt l2
          obtain ⟨S0, hS0⟩ : ∃ S, S = sg0 x15 := ⟨_, rfl⟩
          obtain ⟨S1, hS1⟩ : ∃ S, S = sg1 x2 := ⟨_, rfl⟩
          rw [← hS0] at lS0 f3
          rw [← hS1] at lS1 f5
          have hnx := HNX.out
          rw [← hS0, ← hS1] at hnx
          have HNY := Lib.hid hnx
          clear hS0 hS1 hnx HNX
          go_wp2_with fail
          refine (sha_right x2 17 wq l2 (by decide) (by decide)).mono ?_
          rintro e' w9 ⟨rfl, rfl⟩
          go_wp2_with fail
          refine (sha_right x2 19 wq l2 (by decide) (by decide)).mono ?_
          rintro e' w9 ⟨rfl, rfl⟩
          go_wp2_with fail
          clear f1 f3 f4 f5 f15 f2
          have s1 := wrap_sum x16 S0
          have s2 := wrap_sum ((x16 + S0) % 4294967296) x7
          have s3 := wrap_sum ((((x16 + S0) % 4294967296) + x7) % 4294967296) S1
          have lX := mod32 (((x16 + S0) % 4294967296 + x7) % 4294967296 + S1)
          have hnx := HNY.out
          generalize (x16 + S0) % 4294967296 = A1 at *
          generalize (A1 + x7) % 4294967296 = A2 at *
          generalize (A2 + S1) % 4294967296 = A3 at *
          generalize (sfill L i).getD i 0 = old at *
          have STN := Lib.hid (R1q.out.set (i := i) (by rw [sfill_len L i hi]; exact hi64) A3)
          rw [hnx] at STN
          have R2N := Lib.hid (R2q.out.other (a := ⟨Wb, i, none⟩) (by show Wb ≠ H + 1; have := HWb.out; omega) (.int .u32 (A3 : Int)))
          have B3N := Lib.hid (B3q.out.setCell (p := ⟨Wb, i, none⟩) (by show H ≤ Wb; have := HWb.out; omega) (.int .u32 (A3 : Int)))
          clear hnx HNY
          go_region
          have STE := Lib.hid (show Row32 Wb (sfill L (i + 1)) ((wq.setCell ⟨Wb, i, none⟩ (.int .u32 (A3 : Int))).drew) from ⟨STN.out.1, STN.out.2⟩)
          have R2E := Lib.hid (show Row32 (H + 1) (List.replicate 64 0) ((wq.setCell ⟨Wb, i, none⟩ (.int .u32 (A3 : Int))).drew) from ⟨R2N.out.1, R2N.out.2⟩)
          have B3E := Lib.hid (B3N.out.drew)
          generalize (wq.setCell ⟨Wb, i, none⟩ (.int .u32 (A3 : Int))).drew = wz at *
          clear s1 s2 s3 lX f16 f7 c16 c7 ci cif
          go_wp2_with fail
          go_roundw
          case rel => exact ⟨i + 1, by omega, by omega, by go_num, STE.out, R2E.out, B3E.out⟩
          case measure => simp [intOf]; omega
        · obtain rfl : i = 64 := by omega
          rw [show ((64 : Nat) : Int) = 64 from rfl]
          have hend := sfill_all L
          rw [hend] at R1
          have hlen := sched_len L 0 64
          have HI := Lib.hid (show (Tryd.prog.info? 158).map (·.size) = some (words32 (sched L 0 64)).toList.length by simpa [words32, hlen] using info56)
          have HIS := Lib.hid (show (Tryd.prog.info? 158).map (·.size) = some (words32 (sched L 0 64)).size by rw [words32_size, hlen]; exact info56)
          have HRG := Lib.hid (range32 R1.out)
          have HTH := Lib.hid (show wr.there (H + 1) 0 (words32 (sched L 0 64)).size by rw [words32_size, hlen]; simpa using there32 R2.out)
          have HON := Lib.hid (words32_one (sched L 0 64))
          clear hend hlen
          obtain ⟨cs, hcs⟩ : ∃ cs, cs = words32 (sched L 0 64) := ⟨_, rfl⟩
          rw [← hcs] at HI HIS HRG HTH HON
          have HCS := Lib.hid hcs
          clear hcs
          go_wp2_with (first | (refine wpList_load_mid rfl 158 (.tmp 3) rfl Wb 0 rfl cs.toList _ HRG.out Tryd.underlying158 rfl HI.out ?_) | (refine wpList_store_mid rfl 158 (.tmp 2) (.tmp 71) rfl (H + 1) 0 cs rfl rfl HTH.out HIS.out HON.out ?_))
          refine bodyPost_ret (v := .agg cs) (results_arr rfl _ _ _ (H + 1) cs _ rfl HTH.out Tryd.underlying158 rfl HI.out) rfl ⟨by rw [HCS.out], ?_⟩
          rw [← HH.out]
          exact below_setCells (Nat.le_add_right _ _) _ 0 B3.out
end Go.Proofs.YteejldddgogbkaaDoor
