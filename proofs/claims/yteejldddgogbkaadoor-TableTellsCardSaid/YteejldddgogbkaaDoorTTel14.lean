/- Texts for layer 9, put together: TableMem, TableAt, TableNum, TableRead, TableBlock -/
import Derived.Test.YteejldddgogbkaaDoorTTel13
import Derived.Test.YteejldddgogbkaaDoorTTel10
import Derived.Test.YteejldddgogbkaaDoorTTel00
import Derived.Test.YteejldddgogbkaaDoorTTel03
import Derived.Test.YteejldddgogbkaaDoorTTel01
import Derived.Test.YteejldddgogbkaaDoorTTel12
import Derived.Test.YteejldddgogbkaaDoorTTel08
import Derived.Test.YteejldddgogbkaaDoorTTel06
/- A table in memory; what a source answers. -/
set_option linter.unusedVariables false
set_option maxRecDepth 100000
namespace Go.Proofs.YteejldddgogbkaaDoor
open Go.RowKit

/-- Objects that lie as they are. -/
def Keep (K : List (Nat × Obj)) (W : World) : Prop := ∀ p ∈ K, W.heap[p.1]? = some p.2
theorem Keep.below {K : List (Nat × Obj)} {W W' : World} (h : Keep K W) (k : Below W.heap.size W W') : Keep K W' := fun p hp => (k.block _ (heap_lt (h p hp))).trans (h p hp)
theorem Keep.only {K : List (Nat × Obj)} {W W' : World} {S : Nat → Prop} (h : Keep K W) (k : Only S W W') (hS : ∀ p ∈ K, ¬ S p.1) : Keep K W' := fun p hp => (k.block _ (heap_lt (h p hp)) (hS p hp)).trans (h p hp)
/-- What a function that is a source does: it answers of the bytes L, or the error d. -/
structure Src (F : Nat) (c : Array Value) (K : List (Nat × Obj)) (d : Int) (L : List UInt8) : Prop where
  enters : Enters Tryd.prog F
  calls : ∀ W, Keep K W → ∀ n k : Nat, n + k ≤ L.length → Calls Tryd.prog F (#[.int .i64 (n : Int), .int .i64 (k : Int)] ++ c) W fun e W' => e = .returned (.tuple #[.string (bs (if d = 0 then (L.drop n).take k else [])), .int .i64 d]) ∧ Below W.heap.size W W'
def srcV (F : Nat) (c : Array Value) : Value := .func (.func F) #[] c
/-- A block of a table as the table knows it: its first key, its place, its size. -/
abbrev Pc := List UInt8 × Nat × Nat
structure CellP (b o : Nat) (x : Pc) (w : World) : Prop where
  lt : b < w.heap.size
  c0 : w.cell? ⟨b, o, none⟩ = some (.string (bs x.1))
  c1 : w.cell? ⟨b, o + 1, none⟩ = some (.int .i64 (x.2.1 : Int))
  c2 : w.cell? ⟨b, o + 2, none⟩ = some (.int .i64 (x.2.2 : Int))
theorem lt_of_same {w w' : World} {b : Nat} (h : b < w.heap.size) (k : w'.heap[b]? = w.heap[b]?) : b < w'.heap.size := by
  rcases Nat.lt_or_ge b w'.heap.size with h1 | h1
  · exact h1
  · rw [Array.getElem?_eq_none h1, Array.getElem?_eq_getElem h] at k; cases k
theorem cell_same {w w' : World} {b o : Nat} {v : Value} (h : w.cell? ⟨b, o, none⟩ = some v) (k : w'.heap[b]? = w.heap[b]?) : w'.cell? ⟨b, o, none⟩ = some v := by
  unfold World.cell? at h ⊢
  simp only [k]
  exact h
theorem CellP.block {b o : Nat} {x : Pc} {w w' : World} (h : CellP b o x w) (k : w'.heap[b]? = w.heap[b]?) : CellP b o x w' :=
  ⟨lt_of_same h.lt k, cell_same h.c0 k, cell_same h.c1 k, cell_same h.c2 k⟩
/-- A slice of them, in a block below p. -/
def IsP (w : World) (p : Nat) (a : Option Addr) (len : Nat) (P : List Pc) : Prop := len = P.length ∧ ∃ b off, b < p ∧ (len = 0 ∨ a = some ⟨b, off, none⟩) ∧ ∀ k (h : k < P.length), CellP b (off + k * 3) P[k] w
theorem IsP.keep {w w' : World} {p : Nat} {a : Option Addr} {len : Nat} {P : List Pc} (h : IsP w p a len P) (k : ∀ j, j < p → j < w.heap.size → w'.heap[j]? = w.heap[j]?) : IsP w' p a len P := by
  obtain ⟨h1, b, off, h2, h3, h4⟩ := h
  exact ⟨h1, b, off, h2, h3, fun i hi => (h4 i hi).block (k b h2 (h4 i hi).lt)⟩
theorem IsP.at {w : World} {p : Nat} {a : Option Addr} {len : Nat} {P : List Pc} (h : IsP w p a len P) {k : Nat} (hk : k < len) : ∃ b off x, a = some ⟨b, off, none⟩ ∧ P[k]? = some x ∧ CellP b (off + k * 3) x w := by
  obtain ⟨h1, b, off, h2, h3, h4⟩ := h
  have hk' : k < P.length := by omega
  refine ⟨b, off, P[k], ?_, List.getElem?_eq_getElem hk', h4 k hk'⟩
  rcases h3 with h3 | h3
  · omega
  · exact h3
def piecesOf (t : Tab) : List Pc := (t.index.map (·.key)).zip t.places
/-- A table that was opened. -/
structure FineT (t : Tab) : Prop where
  idx : rises t.index
  pl : t.places.length = t.index.length
  inn : ∀ q ∈ t.places, q.1 + q.2 ≤ t.bytes.length
  bits : 0 < t.bits.length ∧ t.bits.length % 8 = 0 ∧ t.bits.length ≤ t.bytes.length
  h8 : t.h ≤ 8
  few : t.index.length ≤ 65536
theorem piecesOf_len {t : Tab} (h : FineT t) : (piecesOf t).length = t.index.length := by unfold piecesOf; rw [List.length_zip, List.length_map, h.pl]; omega
theorem piecesOf_at {t : Tab} (h : FineT t) {i : Nat} (hi : i < t.index.length) : (piecesOf t)[i]? = some ((t.index.map (·.key)).getD i [], t.places.getD i (0, 0)) := by
  unfold piecesOf
  rw [List.getElem?_zip_eq_some]
  refine ⟨?_, ?_⟩
  · show (t.index.map (·.key))[i]? = some ((t.index.map (·.key)).getD i [])
    rw [List.getD_eq_getElem?_getD, List.getElem?_eq_getElem (by rw [List.length_map]; exact hi)]; rfl
  · show t.places[i]? = some (t.places.getD i (0, 0))
    rw [List.getD_eq_getElem?_getD, List.getElem?_eq_getElem (by rw [h.pl]; exact hi)]; rfl
/-- A table in block p, n blocks of which were read. -/
structure TabM (p : Nat) (v : Value) (n : Int) (t : Tab) (w : World) : Prop where
  ex : ∃ a cap fb fg, w.heap[p]? = some (.cells #[v, .slice a t.index.length cap, .pointer (some ⟨fb, 0, none⟩), .int .i64 (t.count : Int), .int .i64 n] 78 (0, 0)) ∧ IsP w p a t.index.length (piecesOf t) ∧ Flt fb fg t.h t.bits w ∧ fb < p ∧ fg < p
theorem TabM.lt {p : Nat} {v : Value} {n : Int} {t : Tab} {w : World} (h : TabM p v n t w) : p < w.heap.size := by
  obtain ⟨a, cap, fb, fg, h1, _⟩ := h.ex
  exact heap_lt h1
theorem Flt.blocks {b g h : Nat} {L : List UInt8} {w w' : World} (f : Flt b g h L w) (k1 : w'.heap[b]? = w.heap[b]?) (k2 : w'.heap[g]? = w.heap[g]?) : Flt b g h L w' := by
  refine ⟨cell_same f.c0 k1, ?_, ⟨lt_of_same f.row.1 k2, fun j hj => ?_⟩, lt_of_same f.lt k1⟩
  · obtain ⟨cap, hc⟩ := f.c1
    exact ⟨cap, cell_same hc k1⟩
  · have := f.row.2 j hj
    unfold World.cell? World.frozen? at this ⊢
    simp only [k2]
    exact this
theorem TabM.below {p : Nat} {v : Value} {n : Int} {t : Tab} {w w' : World} (h : TabM p v n t w) (k : Below w.heap.size w w') : TabM p v n t w' := by
  obtain ⟨a, cap, fb, fg, h1, h2, h3, h4, h5⟩ := h.ex
  exact ⟨a, cap, fb, fg, (k.block p (heap_lt h1)).trans h1, h2.keep fun j _ hj => k.block j hj, h3.below k, h4, h5⟩
/-- Where only the table's own block is written: another number of blocks read. -/
theorem TabM.reads {p : Nat} {v : Value} {n : Int} {t : Tab} {w : World} (h : TabM p v n t w) (m : Int) : TabM p v m t (w.setCell ⟨p, 4, none⟩ (.int .i64 m)) := by
  obtain ⟨a, cap, fb, fg, h1, h2, h3, h4, h5⟩ := h.ex
  refine ⟨a, cap, fb, fg, by rw [heap_set (o := 4) h1]; rfl, h2.keep fun j hj _ => heap_set_other (by omega) _, h3.blocks (heap_set_other (by omega) _) (heap_set_other (by omega) _), h4, h5⟩
theorem places_inn {a : Nat} : ∀ {X : List Ent} {n : Nat} {P : List (Nat × Nat)}, placesL a n X = (0, P) → P.length = X.length ∧ ∀ q ∈ P, q.1 + q.2 ≤ a
  | [], n, P, h => by
    unfold placesL at h
    split at h
    · injection h with _ h; subst h; exact ⟨rfl, fun q hq => by cases hq⟩
    · injection h with h _; cases h
  | x :: X, n, P, h => by
    unfold placesL at h
    simp only at h
    split at h
    · rename_i h0
      injection h with h _
      exact absurd h h0
    split at h
    · rename_i _ h0
      injection h with h _
      exact absurd h h0
    split at h
    · injection h with h _; cases h
    · rename_i h1 h2 h3
      injection h with e1 e2
      rw [e1, if_pos rfl] at e2
      have h1' : ce x.val = 0 := Decidable.of_not_not h1
      have h2' : ce (x.val.drop (ck x.val)) = 0 := Decidable.of_not_not h2
      have hc := cn_of' h2'
      have hr : placesL a (n + (cn (x.val.drop (ck x.val))).toNat) X = (0, (placesL a (n + (cn (x.val.drop (ck x.val))).toNat) X).2) := by rw [← e1]
      obtain ⟨g1, g2⟩ := places_inn hr
      subst e2
      refine ⟨by rw [List.length_cons, g1, List.length_cons], fun q hq => ?_⟩
      rcases List.mem_cons.1 hq with rfl | hq
      · simp only
        omega
      · exact g2 q hq
theorem fine_mk {s x q : List UInt8} {a b n c : Nat} (hlen : n = s.length - 16) (hab : ¬ (b < a ∨ n < b)) (ho : (opnS x).1 = 0) (hp : (placesL a 0 (opnS x).2).1 = 0) (hq : openE q = 0) (hql : q.length ≤ s.length) (hs : 16 ≤ s.length) : FineT ⟨s, (opnS x).2, (placesL a 0 (opnS x).2).2, openH q, openT q, c⟩ := by
  obtain ⟨hc, hk⟩ := pack_open ho
  obtain ⟨hok, hl⟩ := (chkE_ok _).1 hc
  obtain ⟨g1, g2⟩ := places_inn (a := a) (X := (opnS x).2) (n := 0) (P := (placesL a 0 (opnS x).2).2) (by rw [← hp])
  obtain ⟨_, q1, q2, q3, q4, q5⟩ := open_ok hq
  refine ⟨(rises_of_okEs true [] hok).1, g1, fun y hy => ?_, ⟨List.length_pos_iff.2 q3, q4, Nat.le_trans q5 hql⟩, q2, hl⟩
  have h := g2 y hy
  show y.1 + y.2 ≤ s.length
  omega
set_option maxHeartbeats 1000000 in
/-- What opening leaves is fine. -/
theorem open_fine {s : List UInt8} {t : Tab} (h : openTab s = (0, t)) : FineT t ∧ t.bytes = s := by
  unfold openTab at h
  simp only at h
  split at h
  · injection h with h _; cases h
  split at h
  · rename_i _ h0; injection h with h _; exact absurd h h0
  split at h
  · injection h with h _; cases h
  rename_i hlen _ hab
  split at h
  · rename_i h0; injection h with h _; exact absurd h h0
  rename_i ho
  split at h
  · rename_i h0; injection h with h _; exact absurd h h0
  rename_i hp
  split at h
  · injection h with h _; cases h
  split at h
  · rename_i h0; injection h with h _; exact absurd h h0
  split at h
  · rename_i h0; injection h with h _; exact absurd h h0
  rename_i hq
  injection h with _ h
  subst h
  have ho' := Decidable.of_not_not ho
  have hp' := Decidable.of_not_not hp
  have hq' := Decidable.of_not_not hq
  refine ⟨fine_mk rfl hab ho' hp' hq' ?_ (by omega), rfl⟩
  have h1 := takeT_len ((s.take (s.length - 16)).drop (num4 ((takeT (s.drop (s.length - 16))).drop 4)))
  rw [List.length_drop, List.length_take] at h1
  exact Nat.le_trans h1 (by omega)
end Go.Proofs.YteejldddgogbkaaDoor
/- In which block a key would stand. -/
set_option linter.unusedVariables false
set_option maxRecDepth 100000
namespace Go.Proofs.YteejldddgogbkaaDoor
open Go.RowKit

def risesK : List Pc → Prop := fun P => ∀ (i j : Nat) (x y : Pc), i < j → P[i]? = some x → P[j]? = some y → ltB x.1 y.1 = true
theorem from_zero {k : List UInt8} : ∀ {Y : List (List UInt8)}, (∀ y ∈ Y, ltB k y = true) → fromN k Y = 0
  | [], _ => rfl
  | y :: Y, h => by
    rw [fromN_cons, from_zero fun z hz => h z (List.mem_cons_of_mem _ hz), if_neg (fun e => e rfl), if_pos (h y (by simp))]
theorem from_app {k : List UInt8} : ∀ {A B : List (List UInt8)} {y : List UInt8}, fromN k B = 0 → ltB k y = false → fromN k (A ++ y :: B) = A.length + 1
  | [], B, y, h, hy => by
    rw [List.nil_append, fromN_cons, h, if_neg (fun e => e rfl), if_neg (by rw [hy]; decide)]
    rfl
  | z :: A, B, y, h, hy => by
    rw [List.cons_append, fromN_cons, from_app (A := A) h hy, if_pos (by omega), List.length_cons]
/-- What a search of the first block above a key finds. -/
theorem from_found {k : List UInt8} {P : List Pc} (hP : risesK P) {r : Nat} (hr : r ≤ P.length) (h1 : ∀ x, 0 < r → P[r - 1]? = some x → ltB k x.1 = false) (h2 : ∀ x, P[r]? = some x → ltB k x.1 = true) : fromN k (P.map (·.1)) = r := by
  have hB : fromN k ((P.drop r).map (·.1)) = 0 := from_zero fun y hy => by
    obtain ⟨x, hx, rfl⟩ := List.mem_map.1 hy
    obtain ⟨i, hi⟩ := List.mem_iff_getElem?.1 hx
    rw [List.getElem?_drop] at hi
    by_cases h0 : i = 0
    · subst h0
      exact h2 x (by simpa using hi)
    · have hl := (List.getElem?_eq_some_iff.1 hi).1
      obtain ⟨z, hz⟩ : ∃ z, P[r]? = some z := ⟨_, List.getElem?_eq_getElem (by omega)⟩
      exact ltB_trans (h2 z hz) (hP r (r + i) z x (by omega) hz hi)
  rcases Nat.eq_zero_or_pos r with h0 | h0
  · subst h0
    simpa using hB
  · obtain ⟨x, hx⟩ : ∃ x, P[r - 1]? = some x := ⟨_, List.getElem?_eq_getElem (by omega)⟩
    have hsp : P = P.take (r - 1) ++ x :: P.drop r := by
      have h3 := List.getElem?_eq_some_iff.1 hx
      have h4 : P.drop (r - 1) = x :: P.drop r := by rw [List.drop_eq_getElem_cons h3.1, h3.2, Nat.sub_add_cancel h0]
      rw [← h4, List.take_append_drop]
    have h5 := from_app (k := k) (A := (P.take (r - 1)).map (·.1)) (B := (P.drop r).map (·.1)) hB (h1 x h0 hx)
    have h6 : P.map (·.1) = (P.take (r - 1)).map (·.1) ++ x.1 :: (P.drop r).map (·.1) := by
      conv => lhs; rw [hsp]
      simp
    rw [h6, h5, List.length_map, List.length_take]
    omega
/-- A variable that holds a pointer to a table. -/
def BxP (c : Nat) (p : Nat) (w : World) : Prop := w.heap[c]? = some (.cells #[.pointer (some ⟨p, 0, none⟩)] 30 (0, 0))
theorem BxP.cell {c p : Nat} {w : World} (h : BxP c p w) : w.cell? ⟨c, 0, none⟩ = some (.pointer (some ⟨p, 0, none⟩)) := by unfold BxP at h; simp [World.cell?, h]
set_option maxHeartbeats 1000000 in
theorem at_look (b1 b2 p q : Nat) (a : Option Addr) (len cap : Nat) (P : List Pc) (key : List UInt8) (i : Nat) (x : Pc) (w : World) (h1 : BxP b1 p w) (h2 : Bx b2 key w) (hc : w.cell? ⟨p, 1, none⟩ = some (.slice a len cap)) (hP : Hid (IsP w q a len P)) (hi : i < len) (hx : Hid (P[i]? = some x)) :
    Calls Tryd.prog 59 #[.int .i64 (i : Int), .pointer (some ⟨b1, 0, none⟩), .pointer (some ⟨b2, 0, none⟩)] w fun e w' => e = .returned (.bool (ltB key x.1)) ∧ Below w.heap.size w w' := by
  obtain ⟨b, off, y, rfl, hy, hcl⟩ := hP.out.at hi
  have hxy : x = y := by have := hx.out; rw [hy] at this; injection this with this; exact this.symm
  have c0 := hcl.c0
  have k1 := h1.cell
  have k2 := h2.cell
  rw [hxy]
  obtain ⟨A, hA⟩ : ∃ A, Op.bytesLess (bs y.1).toList (bs key).toList = A := ⟨_, rfl⟩
  obtain ⟨B, hB⟩ : ∃ B, ((bs y.1).toList == (bs key).toList) = B := ⟨_, rfl⟩
  obtain ⟨z, hz⟩ : ∃ z, z = ltB key y.1 := ⟨_, rfl⟩
  rw [← hz]
  have HZ := Lib.hid (show z = (!A && !B) by
    rw [hz, ← hA, ← hB]
    rcases cmp3 y.1 key with ⟨e1, e2, e3⟩ | ⟨e1, e2, e3⟩ | ⟨e1, e2, e3⟩ <;> rw [e1, e2, e3] <;> rfl)
  clear hxy hx hy h1 h2 hcl hz
  go_enter Tryd.func59, Tryd.ntmps59
  go_wp2_with fail
  go_quiet (fail)
  go_wp2_with fail
  go_ret
  exact ⟨by rw [HZ.out]; rfl, below_drewN (Below.refl _ _) _⟩
structure AtPost (P : List Pc) (key : List UInt8) (w : World) (e : Ending) (w' : World) : Prop where
  out : ∃ r, e = .returned (.int .i64 ((r : Nat) : Int)) ∧ r ≤ P.length ∧ (∀ x, 0 < r → P[r - 1]? = some x → ltB key x.1 = false) ∧ (∀ x, P[r]? = some x → ltB key x.1 = true)
  bel : Below w.heap.size w w'
set_option maxHeartbeats 2000000 in
theorem at_search (b1 b2 p q : Nat) (a : Option Addr) (len cap : Nat) (P : List Pc) (key : List UInt8) (w : World) (h1 : BxP b1 p w) (h2 : Bx b2 key w) (hc : Hid (w.cell? ⟨p, 1, none⟩ = some (.slice a len cap))) (hP : Hid (IsP w q a len P)) (hl : len ≤ 100000) :
    Calls Tryd.prog 58 #[.int .i64 (len : Int), .func (.func 59) #[] #[.pointer (some ⟨b1, 0, none⟩), .pointer (some ⟨b2, 0, none⟩)]] w (AtPost P key w) := by
  have H1 := Lib.hid h1
  have H2 := Lib.hid h2
  clear h1 h2
  go_enter Tryd.func58, Tryd.ntmps58
  go_wp2_with fail
  go_loopw [5, 6] (fun iv jv wr => ∃ i j : Nat, i ≤ j ∧ j ≤ len ∧ iv = .int .i64 i ∧ jv = .int .i64 j ∧ Hid (∀ x, 0 < i → P[i - 1]? = some x → ltB key x.1 = false) ∧ Hid (∀ x, P[j]? = some x → ltB key x.1 = true) ∧ Hid (Below w.heap.size w wr)) (fun iv jv wr => (intOf jv).toNat - (intOf iv).toNat)
  case atStart => exact ⟨0, len, by omega, by omega, rfl, rfl, Lib.hid (fun x h => absurd h (by omega)), Lib.hid (fun x h => by have := (List.getElem?_eq_some_iff.1 h).1; have := hP.out.1; omega), Lib.hid (Below.refl _ _)⟩
  case round =>
    obtain ⟨i, j, hij, hj, rfl, rfl, hA, hZ, hB⟩ := hrel
    by_cases hlt : i < j
    · obtain ⟨m, hm⟩ : ∃ m, m = (i + j) / 2 := ⟨_, rfl⟩
      obtain ⟨s, hs⟩ : ∃ s : Int, s = (i : Int) + (j : Int) := ⟨_, rfl⟩
      have hs1 : IntKind.i64.wrap ((i : Int) + (j : Int)) = s := by rw [IntWalk.i64_in _ (by omega), hs]
      have hm1 : s / 2 = (m : Int) := by omega
      have hmi : i ≤ m := by omega
      have hmj : m < j := by omega
      have hml : m < len := by omega
      have hs0 : 0 ≤ s := by omega
      have hs2 : s ≤ 200000 := by omega
      have hs3 : (i : Int) + (j : Int) = s := hs.symm
      obtain ⟨x, hx⟩ : ∃ x, P[m]? = some x := ⟨_, List.getElem?_eq_getElem (by have := hP.out.1; omega)⟩
      have HL := Lib.hid (at_look b1 b2 p q a len cap P key m x wr ((hB.out.block b1 (heap_lt H1.out)).trans H1.out) ((hB.out.block b2 (heap_lt H2.out)).trans H2.out) (by rw [hB.out.cell (cell_block hc.out)]; exact hc.out) (Lib.hid (hP.out.keep fun j _ hj => hB.out.block j hj)) hml (Lib.hid hx))
      have HX := Lib.hid hx
      have HM := Lib.hid (And.intro hmi hmj)
      clear hs hm hx
      cases hcs : ltB key x.1 with
      | false =>
        rw [hcs] at HL
        have HC := Lib.hid hcs
        clear hcs
        go_wp2_with fail
        refine HL.out.mono ?_
        rintro e w2 ⟨rfl, k2⟩
        have HB2 := Lib.hid (hB.out.trans (k2.mono hB.out.size))
        clear k2
        go_wp2_with fail
        go_roundw
        case rel => exact ⟨m + 1, j, by omega, hj, by go_num, rfl, Lib.hid (fun y _ hy => by rw [Nat.add_sub_cancel, HX.out] at hy; injection hy with hy; rw [← hy]; exact HC.out), hZ, HB2⟩
        case measure => simp [intOf]; omega
      | true =>
        rw [hcs] at HL
        have HC := Lib.hid hcs
        clear hcs
        go_wp2_with fail
        refine HL.out.mono ?_
        rintro e w2 ⟨rfl, k2⟩
        have HB2 := Lib.hid (hB.out.trans (k2.mono hB.out.size))
        clear k2
        go_wp2_with fail
        go_roundw
        case rel => exact ⟨i, m, hmi, by omega, rfl, rfl, hA, Lib.hid (fun y hy => by rw [HX.out] at hy; injection hy with hy; rw [← hy]; exact HC.out), HB2⟩
        case measure => simp [intOf]; omega
    · obtain rfl : i = j := by omega
      go_wp2_with fail
      go_ret
      exact ⟨⟨i, rfl, by have := hP.out.1; omega, hA.out, hZ.out⟩, hB.out⟩
set_option maxHeartbeats 1000000 in
theorem table_blockOf (p q : Nat) (a : Option Addr) (len cap : Nat) (P : List Pc) (key : List UInt8) (w : World) (hc : Hid (w.cell? ⟨p, 1, none⟩ = some (.slice a len cap))) (hP : Hid (IsP w q a len P)) (hr : Hid (risesK P)) (hl : len ≤ 100000) :
    Calls Tryd.prog 37 #[.pointer (some ⟨p, 0, none⟩), .string (bs key)] w fun e w' => e = .returned (.int .i64 ((fromN key (P.map (·.1)) : Int) - 1)) ∧ Below w.heap.size w w' := by
  obtain ⟨w0, hw0⟩ : ∃ w0, (w.alloc (.cells #[.pointer (some ⟨p, 0, none⟩)] 30)).alloc (.cells #[.string (bs key)] 9) = w0 := ⟨_, rfl⟩
  have K0 := Lib.hid (show Below w.heap.size w w0 by rw [← hw0]; exact ((Below.refl _ _).alloc (Nat.le_refl _) _).alloc (by simp) _)
  have S0 := Lib.hid (show BxP w.heap.size p w0 by rw [← hw0]; exact (Below.heap_alloc _ _ _ (by simp)).trans (heap_new w _))
  have S1 := Lib.hid (show Bx (w.heap.size + 1) key w0 by
    have h := heap_new (w.alloc (.cells #[.pointer (some ⟨p, 0, none⟩)] 30)) (.cells #[.string (bs key)] 9)
    rw [show (w.alloc (.cells #[.pointer (some ⟨p, 0, none⟩)] 30)).heap.size = w.heap.size + 1 by simp] at h
    rw [← hw0]; exact h)
  have hc0 : w0.cell? ⟨p, 1, none⟩ = some (.slice a len cap) := by rw [K0.out.cell (cell_block hc.out)]; exact hc.out
  have HS := Lib.hid (at_search w.heap.size (w.heap.size + 1) p q a len cap P key w0 S0.out S1.out (Lib.hid hc0) (Lib.hid (hP.out.keep fun j _ hj => K0.out.block j hj)) hl)
  have c0 : w0.cell? ⟨w.heap.size, 0, none⟩ = some (.pointer (some ⟨p, 0, none⟩)) := S0.out.cell
  have HW0 := Lib.hid hw0
  clear hw0
  go_enter Tryd.func37, Tryd.ntmps37
  go_upto_region 1 with (fail)
  rw [HW0.out]
  go_wp2_with fail
  refine HS.out.mono ?_
  rintro e w1 ⟨⟨r, rfl, h1, h2, h3⟩, k1⟩
  have hf := Lib.hid (from_found hr.out h1 h2 h3)
  have hrl : r ≤ 100000 := by have := hP.out.1; omega
  clear h2 h3
  go_wp2_with fail
  go_ret
  exact ⟨ret1 (by rw [hf.out]), K0.out.trans (k1.mono K0.out.size)⟩
end Go.Proofs.YteejldddgogbkaaDoor
/- The foot's numbers: four bytes, the highest first, read and written. -/
set_option linter.unusedVariables false
set_option maxRecDepth 100000
namespace Go.Proofs.YteejldddgogbkaaDoor
open Go.RowKit

def numG (l : List UInt8) : Nat := l.foldl (fun n b => n * 256 + b.toNat) 0
theorem numG_snoc (l : List UInt8) (b : UInt8) : numG (l ++ [b]) = numG l * 256 + b.toNat := by simp [numG]
theorem numG_go : ∀ (l : List UInt8) (n : Nat), l.foldl (fun n b => n * 256 + b.toNat) n < (n + 1) * 256 ^ l.length
  | [], n => by simp
  | b :: l, n => by
    have h := numG_go l (n * 256 + b.toNat)
    have hb := b.toNat_lt
    have h2 : (n * 256 + b.toNat + 1) * 256 ^ l.length ≤ ((n + 1) * 256) * 256 ^ l.length := Nat.mul_le_mul_right _ (by omega)
    rw [List.foldl_cons, List.length_cons, Nat.pow_succ, Nat.mul_comm (256 ^ l.length) 256, ← Nat.mul_assoc]
    omega
theorem numG_lt (l : List UInt8) : numG l < 256 ^ l.length := by
  have := numG_go l 0
  rw [Nat.zero_add, Nat.one_mul] at this
  exact this
theorem numG_four {l : List UInt8} (h : l.length = 4) : numG l = num4 l := by
  match l, h with
  | [a, b, c, d], _ => simp [numG, num4]
theorem get_bs4 (l : List UInt8) (n : Nat) (h : n < (bs l).size) : ∃ x : UInt8, l[n]? = some x ∧ (bs l)[n] = x := by
  have hl : n < l.length := by rw [← bs_size]; exact h
  exact ⟨l[n], List.getElem?_eq_getElem hl, rfl⟩
theorem or_b256 (n b : Nat) (hn : n < 16777216) (hb : b < 256) : bits .or .i64 ((n : Int) * 256) (b : Int) = ((n * 256 + b : Nat) : Int) := by
  have h := bits_join .i64 63 (by decide) (fun n h0 h1 => by rw [IntKind.wrap_i64]; omega) 8 ((n : Int) * 256) (b : Int) (by omega) (by omega) (by omega) (by omega) (by omega) (by omega)
  rw [h]
  omega
set_option maxHeartbeats 1000000 in
theorem table_number (l : List UInt8) (w : World) (hl : l.length = 4) :
    Calls Tryd.prog 54 #[.string (bs l)] w fun e w' => e = .returned (.int .i64 ((num4 l : Nat) : Int)) ∧ Below w.heap.size w w' := by
  have z1 : (bs l).size = 4 := by rw [bs_size, hl]
  have HL := Lib.hid hl
  clear hl
  go_enter Tryd.func54, Tryd.ntmps54
  go_wp2_with fail
  go_loopw [3, 7] (fun vn vi wr => ∃ i : Nat, i ≤ 4 ∧ vi = .int .i64 i ∧ vn = .int .i64 ((numG (l.take i) : Nat) : Int) ∧ Hid (Below w.heap.size w wr)) (fun vn vi wr => 4 - (intOf vi).toNat)
  case atStart => exact ⟨0, by omega, rfl, rfl, Lib.hid (Below.refl _ _)⟩
  case round =>
    obtain ⟨i, hi, rfl, rfl, hB⟩ := hrel
    rcases Nat.lt_or_ge i 4 with h4 | h4
    · obtain ⟨b, hb, hbb⟩ := get_bs4 l i (by rw [z1]; exact h4)
      have hlt := numG_lt (l.take i)
      rw [List.length_take, HL.out, Nat.min_eq_left hi] at hlt
      have hlt2 : numG (l.take i) < 16777216 := by
        have : 256 ^ i ≤ 256 ^ 3 := Nat.pow_le_pow_right (by decide) (by omega)
        omega
      have hn : numG (l.take (i + 1)) = numG (l.take i) * 256 + b.toNat := by rw [List.take_add_one, hb]; exact numG_snoc _ _
      have hb8 := b.toNat_lt
      obtain ⟨n, hnn⟩ : ∃ n, n = numG (l.take i) := ⟨_, rfl⟩
      rw [← hnn] at hlt2 hn ⊢
      have hor := or_b256 n b.toNat hlt2 hb8
      have hwr : IntKind.i64.wrap ((n : Int) * 256) = (n : Int) * 256 := by rw [IntKind.wrap_i64]; omega
      have HN := Lib.hid hn
      clear hlt hnn hb hn
      go_wp2_with fail
      go_roundw
      case rel => exact ⟨i + 1, by omega, by go_num, by rw [HN.out]; go_num, hB⟩
      case measure => simp [intOf]; omega
    · obtain rfl : i = 4 := by omega
      have hf := Lib.hid (show num4 l = numG (l.take 4) by rw [List.take_of_length_le (by rw [HL.out]; exact Nat.le_refl _), numG_four HL.out])
      rw [show ((4 : Nat) : Int) = 4 from rfl]
      go_wp2_with fail
      go_ret
      exact ⟨ret1 (by rw [hf.out]), hB.out⟩
end Go.Proofs.YteejldddgogbkaaDoor
/- A table's parts, read: the foot, a piece of the index, the filter. -/
set_option linter.unusedVariables false
set_option maxRecDepth 100000
namespace Go.Proofs.YteejldddgogbkaaDoor
open Go.RowKit

/-- A variable of three cells. -/
def C3 (b : Nat) (ty : TypeId) (v0 v1 v2 : Value) (w : World) : Prop := w.heap[b]? = some (.cells #[v0, v1, v2] ty (0, 0))
namespace C3
variable {b : Nat} {ty : TypeId} {v0 v1 v2 : Value} {w w' : World}
theorem c0 (h : C3 b ty v0 v1 v2 w) : w.cell? ⟨b, 0, none⟩ = some v0 := by unfold C3 at h; simp [World.cell?, h]
theorem c1 (h : C3 b ty v0 v1 v2 w) : w.cell? ⟨b, 1, none⟩ = some v1 := by unfold C3 at h; simp [World.cell?, h]
theorem c2 (h : C3 b ty v0 v1 v2 w) : w.cell? ⟨b, 2, none⟩ = some v2 := by unfold C3 at h; simp [World.cell?, h]
theorem free (h : C3 b ty v0 v1 v2 w) (j : Nat) : w.frozen? ⟨b, j, none⟩ = false := by unfold C3 at h; simp [World.frozen?, h]
theorem below (h : C3 b ty v0 v1 v2 w) (k : Below w.heap.size w w') : C3 b ty v0 v1 v2 w' := (k.block b (heap_lt h)).trans h
theorem put (h : C3 b ty v0 v1 v2 w) (u0 u1 u2 : Value) : C3 b ty u0 u1 u2 (((w.setCell ⟨b, 0, none⟩ u0).setCell ⟨b, 1, none⟩ u1).setCell ⟨b, 2, none⟩ u2) := by
  have h1 := heap_set (o := 0) h u0
  have h2 := heap_set (o := 1) h1 u1
  exact heap_set (o := 2) h2 u2
theorem range (h : C3 b ty v0 v1 v2 w) : w.rangeAt b 0 [v0, v1, v2] := fun j v hj => by
  match j, hj with
  | 0, hj => cases hj; exact h.c0
  | 1, hj => cases hj; exact h.c1
  | 2, hj => cases hj; exact h.c2
  | n + 3, hj => cases hj
end C3
theorem results_c3 {fn : Func} {p u : Tmp} {ty ty' : TypeId} (h : fn.results = #[.cell p ty, .tmp u]) (tmps : Array Value) (w : World) (b : Nat) (v0 v1 v2 x : Value) (d : TypeDesc) (hp : tmps.getD p undef = .pointer (some ⟨b, 0, none⟩)) (hx : tmps.getD u undef = x) (hc : C3 b ty' v0 v1 v2 w)
    (hu : Tryd.prog.underlying ty = some d) (hd : d.isRow = true) (hi : (Tryd.prog.info? ty).map (·.size) = some 3) : (results fn tmps).run Tryd.prog w = .ok (.tuple #[.agg #[v0, v1, v2], x]) w :=
  results_cell_bool h tmps Tryd.prog w b 0 [v0, v1, v2] d x hp hx hc.range hu hd hi
theorem results_c3b {fn : Func} {p u r : Tmp} {ty ty' : TypeId} (h : fn.results = #[.cell p ty, .tmp u, .tmp r]) (tmps : Array Value) (w : World) (b : Nat) (v0 v1 v2 x y : Value) (d : TypeDesc) (hp : tmps.getD p undef = .pointer (some ⟨b, 0, none⟩)) (hx : tmps.getD u undef = x) (hy : tmps.getD r undef = y) (hc : C3 b ty' v0 v1 v2 w)
    (hu : Tryd.prog.underlying ty = some d) (hd : d.isRow = true) (hi : (Tryd.prog.info? ty).map (·.size) = some 3) : (results fn tmps).run Tryd.prog w = .ok (.tuple #[.agg #[v0, v1, v2], x, y]) w := by
  have hl := run_loadVar_mid w b 0 ty [v0, v1, v2] d hc.range hu hd hi
  have hp' : tmps[p]?.getD undef = .pointer (some ⟨b, 0, none⟩) := by simpa using hp
  have hx' : tmps[u]?.getD undef = x := by simpa using hx
  have hy' : tmps[r]?.getD undef = y := by simpa using hy
  simp only [results, h]
  simp [Sem.run_bind, Result.andThen, hp', hx', hy', asAddr, hl]
theorem below_put3' {B g : Nat} {a w : World} (h : Below B a w) (hB : B ≤ g) (v0 v1 v2 : Value) : Below B a (((w.setCell ⟨g, 0, none⟩ v0).setCell ⟨g, 1, none⟩ v1).setCell ⟨g, 2, none⟩ v2) :=
  ((h.setCell (p := ⟨g, 0, none⟩) hB v0).setCell (p := ⟨g, 1, none⟩) hB v1).setCell (p := ⟨g, 2, none⟩) hB v2
theorem sizeFoot : (Tryd.prog.info? 59).map (·.size) = some 3 := by kernel_rfl
theorem sizePiece : (Tryd.prog.info? 107).map (·.size) = some 3 := by kernel_rfl
theorem sizeEnt : (Tryd.prog.info? 38).map (·.size) = some 3 := by kernel_rfl
def fv3 (a b c : Nat) : Value := .agg #[.int .i64 (a : Int), .int .i64 (b : Int), .int .i64 (c : Int)]
theorem num4_lt (l : List UInt8) : num4 l < 4294967296 := by
  unfold num4
  split
  · rename_i a b c d _
    have := a.toNat_lt; have := b.toNat_lt; have := c.toNat_lt; have := d.toNat_lt
    omega
  · omega
theorem num4_take (l : List UInt8) : num4 (l.take 4) = num4 l := by
  match l with
  | [] => rfl
  | [_] => rfl
  | [_, _] => rfl
  | [_, _, _] => rfl
  | a :: b :: c :: d :: t => rfl
theorem takeT_twelve {s : List UInt8} (hl : s.length = 16) (h : takeE s = 0) : (takeT s).length = 12 := by
  unfold takeE at h
  rw [if_neg (by omega)] at h
  have hk : okT s := by
    by_cases hk : okT s
    · exact hk
    · rw [if_neg hk] at h; cases h
  unfold takeT
  rw [if_pos ⟨by omega, hk⟩, List.length_take]
  omega
set_option maxHeartbeats 2000000 in
theorem readFoot_no (n F : Nat) (c : Array Value) (K : List (Nat × Obj)) (d z : Int) (L : List UInt8) (w : World) (hs : Hid (Src F c K d L)) (hk : Hid (Keep K w)) (hn : n + 16 = L.length) (hl : L.length ≤ 9223372036854775807) (hz : Hid (d ≠ 0 ∧ z = d ∨ d = 0 ∧ takeE (L.drop n) = z ∧ z ≠ 0)) :
    Calls Tryd.prog 32 #[.int .i64 (n : Int), srcV F c] w fun e w' => e = .returned (.tuple #[fv3 0 0 0, .int .i64 z]) ∧ Below w.heap.size w w' := by
  obtain ⟨w1, hw1⟩ : ∃ w1, w1 = w.alloc (.cells #[.int .i64 0, .int .i64 0, .int .i64 0] 59) := ⟨_, rfl⟩
  have K1 := Lib.hid (show Below w.heap.size w w1 by rw [hw1]; exact (Below.refl _ _).alloc (Nat.le_refl _) _)
  have C1 := Lib.hid (show C3 w.heap.size 59 (.int .i64 0) (.int .i64 0) (.int .i64 0) w1 by rw [hw1]; exact heap_new w _)
  have HC := Lib.hid (hs.out.calls w1 (hk.out.below K1.out) n 16 (by omega))
  have eF := hs.out.enters
  have HW1 := Lib.hid hw1
  have hz0 : (z == 0) = false := beq_eq_false_iff_ne.2 (by rcases hz.out with ⟨h1, h2⟩ | ⟨_, _, h2⟩; (rw [h2]; exact h1); (exact h2))
  unfold Enters at eF
  unfold srcV fv3
  clear hw1
  rcases hz.out with ⟨hd, rfl⟩ | ⟨rfl, htk, hzn⟩
  · have hC := HC.out
    rw [if_neg hd] at hC
    clear HC hz
    go_enter Tryd.func32, Tryd.ntmps32
    go_upto_region 1 with (fail)
    rw [← HW1.out]
    go_wp2_with fail
    refine hC.mono ?_
    rintro e w2 ⟨rfl, k2⟩
    have c2 := C1.out.below k2
    have q0 := c2.c0
    have q1 := c2.c1
    have q2 := c2.c2
    have qf := c2.free
    have C2 := Lib.hid c2
    have K2 := Lib.hid (K1.out.trans (k2.mono K1.out.size))
    clear k2 c2 hC eF
    go_wp2_with fail
    refine bodyPost_ret (results_c3 rfl _ _ w.heap.size _ _ _ _ _ rfl rfl (C2.out.put _ _ _) Tryd.underlying59 rfl sizeFoot) rfl ?_
    exact ⟨rfl, below_put3' K2.out (Nat.le_refl _) _ _ _⟩
  · have hC := HC.out
    rw [if_pos rfl] at hC
    obtain ⟨s, hs'⟩ : ∃ s, s = (L.drop n).take 16 := ⟨_, rfl⟩
    have hse : s = L.drop n := by rw [hs']; exact List.take_of_length_le (by rw [List.length_drop]; omega)
    rw [← hs'] at hC
    have htk2 := fun W => crc_Take (bs s) W (by rw [bs_size, hse, List.length_drop]; omega)
    simp only [bs_list] at htk2
    rw [hse, htk, ← hse] at htk2
    have HT := Lib.hid htk2
    clear HC hz hs' hse htk htk2
    go_enter Tryd.func32, Tryd.ntmps32
    go_upto_region 1 with (fail)
    rw [← HW1.out]
    go_wp2_with fail
    refine hC.mono ?_
    rintro e w2 ⟨rfl, k2⟩
    have C2 := Lib.hid (C1.out.below k2)
    have K2 := Lib.hid (K1.out.trans (k2.mono K1.out.size))
    clear k2 hC eF
    go_wp2_with fail
    refine (HT.out w2).mono ?_
    rintro e w3 ⟨rfl, k3⟩
    have c3 := C2.out.below k3
    have q0 := c3.c0
    have q1 := c3.c1
    have q2 := c3.c2
    have qf := c3.free
    have C3' := Lib.hid c3
    have K3 := Lib.hid (K2.out.trans (k3.mono K2.out.size))
    clear k3 c3
    go_wp2_with fail
    refine bodyPost_ret (results_c3 rfl _ _ w.heap.size _ _ _ _ _ rfl rfl (C3'.out.put _ _ _) Tryd.underlying59 rfl sizeFoot) rfl ?_
    exact ⟨rfl, below_put3' K3.out (Nat.le_refl _) _ _ _⟩
end Go.Proofs.YteejldddgogbkaaDoor
/- A block of a table, read. -/
set_option linter.unusedVariables false
set_option maxRecDepth 100000
namespace Go.Proofs.YteejldddgogbkaaDoor
open Go.RowKit

/-- A block's entries, or the error; the source refuses with d. -/
def blockD (t : Tab) (d : Int) (i : Nat) : Int × List Ent := if d ≠ 0 then (d, []) else blockT t i
theorem seen_of' {F : FuncId} {args : Array Value} {v : Value} {K : List (Nat × Obj)} {W : World} (h : ∀ W, Keep K W → Calls Tryd.prog F args W fun e w' => e = .returned v ∧ Below W.heap.size W w') (hK : Keep K W) (m : Seen W) : Calls Tryd.prog F args m.val fun e w'' => e = .returned v ∧ ∃ q : Seen W, w'' = q.val :=
  (h m.val (hK.below m.below)).mono fun _ w'' ⟨h1, h2⟩ => ⟨h1, ⟨⟨w'', m.below.trans (h2.mono m.below.size)⟩, rfl⟩⟩
structure BlkPost (p : Nat) (v : Value) (t : Tab) (n : Int) (R : Int × List Ent) (w : World) (e : Ending) (w' : World) : Prop where
  out : ∃ a cap, e = .returned (.tuple #[.slice a R.2.length cap, .int .i64 R.1]) ∧ R.2.length ≤ cap ∧ IsE w' a R.2.length R.2
  tab : TabM p v (n + 1) t w'
  only : Only (fun j => j = p) w w'
  new : NewE w e
theorem BlkPost.bad {p : Nat} {v : Value} {t : Tab} {n : Int} {R : Int × List Ent} {w w' : World} {z : Int} (h : R = (z, [])) (ht : TabM p v (n + 1) t w') (ho : Only (fun j => j = p) w w') : BlkPost p v t n R w (.returned (.tuple #[.slice none 0 0, .int .i64 z])) w' :=
  ⟨⟨none, 0, by rw [h]; rfl, by rw [h]; exact Nat.le_refl _, by rw [h]; exact IsE.nil _ _⟩, ht, ho, NewE.none _ _ _ _⟩
theorem Only.of_below' {B : Nat} {S : Nat → Prop} {w w' : World} (h : Below B w w') (hB : B = w.heap.size) : Only S w w' := ⟨h.os, h.tape, h.output, h.size, fun k hk _ => h.block k (by omega)⟩
theorem opn_err {l : List UInt8} (h : (opn l).1 ≠ 0) : (opn l).2 = [] := by
  unfold opn at h ⊢
  simp only at h ⊢
  split
  · rfl
  split
  · rfl
  split
  · rfl
  split
  · rfl
  · rename_i h1 h2 h3 h4
    rw [if_neg h1, if_neg h2, if_neg h3, if_neg h4] at h
    exact absurd rfl h
theorem opnS_few (s : List UInt8) : (opnS s).2.length ≤ 65536 := by
  by_cases h : (opnS s).1 = 0
  · exact ((chkE_ok _).1 (pack_open h).1).2
  · unfold opnS at h ⊢
    split
    · exact Nat.zero_le _
    · rename_i h1
      rw [if_neg h1] at h
      rw [opn_err h]
      exact Nat.zero_le _
set_option maxHeartbeats 4000000 in
theorem table_readBlock (p F : Nat) (c : Array Value) (K : List (Nat × Obj)) (d : Int) (t : Tab) (n : Int) (i : Nat) (w : World) (hM : Hid (TabM p (srcV F c) n t w)) (hf : Hid (FineT t)) (hs : Hid (Src F c K d t.bytes)) (hk : Hid (Keep K w)) (hKp : Hid (∀ q ∈ K, q.1 ≠ p)) (hi : i < t.index.length) (hn1 : -1000000000000000000 ≤ n) (hn2 : n ≤ 1000000000000000000) (hl : t.bytes.length ≤ 100000000000) :
    Calls Tryd.prog 38 #[.pointer (some ⟨p, 0, none⟩), .int .i64 (i : Int)] w (BlkPost p (srcV F c) t n (blockD t d i) w) := by
  obtain ⟨a, cap, fb, fg, h1, h2, h3, h4, h5⟩ := hM.out.ex
  obtain ⟨w1, hw1⟩ : ∃ w1, w1 = w.setCell ⟨p, 4, none⟩ (.int .i64 (n + 1)) := ⟨_, rfl⟩
  have M1 := Lib.hid (show TabM p (srcV F c) (n + 1) t w1 by rw [hw1]; exact hM.out.reads (n + 1))
  have O1 := Lib.hid (show Only (fun j => j = p) w w1 by rw [hw1]; exact (Only.refl (fun j => j = p) w).setCell (p := ⟨p, 4, none⟩) (.inl rfl) _)
  have K1 := Lib.hid (hk.out.only O1.out fun q hq => hKp.out q hq)
  have e4 : w.cell? ⟨p, 4, none⟩ = some (.int .i64 n) := by simp [World.cell?, h1]
  have f4 : w.frozen? ⟨p, 4, none⟩ = false := by simp [World.frozen?, h1]
  obtain ⟨a1, cap1, fb1, fg1, g1, g2, g3, g4, g5⟩ := M1.out.ex
  obtain ⟨len, hlen⟩ : ∃ len, len = t.index.length := ⟨_, rfl⟩
  rw [← hlen] at g1 g2 hi
  have c0 : w1.cell? ⟨p, 0, none⟩ = some (srcV F c) := by simp [World.cell?, g1]
  have c1 : w1.cell? ⟨p, 1, none⟩ = some (.slice a1 len cap1) := by simp [World.cell?, g1]
  obtain ⟨b, off, x, rfl, hx, hcl⟩ := g2.at hi
  rw [piecesOf_at hf.out (by rw [← hlen]; exact hi)] at hx
  obtain ⟨ky, hky⟩ : ∃ ky, ky = (t.index.map (·.key)).getD i [] := ⟨_, rfl⟩
  obtain ⟨at_, hat⟩ : ∃ at_, at_ = (t.places.getD i (0, 0)).1 := ⟨_, rfl⟩
  obtain ⟨sz, hsz⟩ : ∃ sz, sz = (t.places.getD i (0, 0)).2 := ⟨_, rfl⟩
  have hxe : x = (ky, at_, sz) := by injection hx with hx; rw [hky, hat, hsz, ← hx]
  rw [hxe] at hcl
  have hin : at_ + sz ≤ t.bytes.length := by
    rw [hat, hsz]
    refine hf.out.inn _ ?_
    rw [List.getD_eq_getElem?_getD, List.getElem?_eq_getElem (by rw [hf.out.pl, ← hlen]; exact hi)]
    exact List.getElem_mem _
  have p0 := hcl.c0
  have p1 := hcl.c1
  have p2 := hcl.c2
  have hC := hs.out.calls
  have eF := hs.out.enters
  have hbl := hf.out.few
  rw [← hlen] at hbl
  unfold Enters at eF
  unfold srcV at c0 ⊢
  obtain ⟨s, hsd⟩ : ∃ s, s = (t.bytes.drop at_).take sz := ⟨_, rfl⟩
  have hsl : s.length ≤ 100000000000 := by rw [hsd, List.length_take, List.length_drop]; omega
  have hnw : IntKind.i64.wrap (n + 1) = n + 1 := IntWalk.i64_in _ (by omega)
  have HC := Lib.hid (fun (W : World) (hW : Keep K W) => by have h := hC W hW at_ sz hin; rw [← hsd] at h; exact h)
  obtain ⟨y, hy⟩ : ∃ y, y = (if d = 0 then s else []) := ⟨_, rfl⟩
  have HC2 := Lib.hid (fun m : Seen w1 => by have h := seen_of' (fun W hW => by have h := HC.out W hW; rw [← hy] at h; exact h) K1.out m; exact h)
  have HBT := Lib.hid (show blockD t d i = if d ≠ 0 then (d, []) else if (opnS s).1 ≠ 0 then ((opnS s).1, []) else if (opnS s).2.isEmpty = true ∨ keyE (opnS s).2 ≠ ky then (3, []) else (0, (opnS s).2) by unfold blockD blockT; simp only [← hat, ← hsz, ← hky, ← hsd])
  have HW1 := Lib.hid hw1
  have HY := Lib.hid hy
  clear hw1 hlen hky hat hsz hxe hx hcl hC hsd h1 h2 h3 h4 h5 g1 g2 g3 g4 g5 hin HC hM hk hy
  by_cases hd : d = 0
  · subst hd
    have hys : y = s := by rw [HY.out, if_pos rfl]
    subst hys
    have hop := fun W => block_Open_new y W hsl
    have hBT := HBT.out
    rw [if_neg (fun h => h rfl)] at hBT
    obtain ⟨o, ho⟩ : ∃ o, o = opnS y := ⟨_, rfl⟩
    rw [← ho] at hBT
    have HO := Lib.hid ho
    have HOP := Lib.hid hop
    have HBT2 := Lib.hid hBT
    clear hBT ho hop HBT HY
    go_enter Tryd.func38, Tryd.ntmps38
    go_upto_region 2 with (fail)
    rw [← HW1.out]
    clear e4 f4
    have nc0 : ∀ m : Seen w1, m.val.cell? ⟨p, 0, none⟩ = some (.func (.func F) #[] c) := fun m => by rw [m.below.cell (cell_block c0)]; exact c0
    have nc1 : ∀ m : Seen w1, m.val.cell? ⟨p, 1, none⟩ = some (.slice (some ⟨b, off, none⟩) len cap1) := fun m => by rw [m.below.cell (cell_block c1)]; exact c1
    have np1 : ∀ m : Seen w1, m.val.cell? ⟨b, off + i * 3 + 1, none⟩ = some (.int .i64 (at_ : Int)) := fun m => by rw [m.below.cell (cell_block p1)]; exact p1
    have np2 : ∀ m : Seen w1, m.val.cell? ⟨b, off + i * 3 + 2, none⟩ = some (.int .i64 (sz : Int)) := fun m => by rw [m.below.cell (cell_block p2)]; exact p2
    refine region_seen (by kernel_rfl) (by kernel_rfl) ?_
    repeat go_big_quiet_step (first | (with_reducible exact HC2.out _))
    refine wpQuiet_nil ?_
    rintro _ ⟨m1, rfl⟩
    have M2 := Lib.hid (M1.out.below m1.below)
    have O2 := Lib.hid (O1.out.trans (Only.of_below' (S := fun j => j = p) m1.below rfl))
    obtain ⟨w2, hw2⟩ : ∃ w2, w2 = m1.val := ⟨_, rfl⟩
    rw [← hw2] at M2 O2 ⊢
    have nc1' := nc1 m1
    have np0' : m1.val.cell? ⟨b, off + i * 3, none⟩ = some (.string (bs ky)) := by rw [m1.below.cell (cell_block p0)]; exact p0
    rw [← hw2] at nc1' np0'
    clear hw2 nc0 nc1 np1 np2 c0 c1 p0 p1 p2 HC2 eF
    go_wp2_with fail
    refine (HOP.out w2).mono ?_
    rintro e w3 ⟨⟨⟨xa, xc, he, hxc, hxe⟩, k3⟩, hnew⟩
    rw [← HO.out] at he hxc hxe
    have M3 := Lib.hid (M2.out.below k3)
    have O3 := Lib.hid (O2.out.trans (Only.of_below' (S := fun j => j = p) k3 rfl))
    have q1 : w3.cell? ⟨p, 1, none⟩ = some (.slice (some ⟨b, off, none⟩) len cap1) := by rw [k3.cell (cell_block nc1')]; exact nc1'
    have q0 : w3.cell? ⟨b, off + i * 3, none⟩ = some (.string (bs ky)) := by rw [k3.cell (cell_block np0')]; exact np0'
    clear k3 nc1' np0'
    obtain ⟨z, hz⟩ : ∃ z, z = o.1 := ⟨_, rfl⟩
    obtain ⟨T, hT⟩ : ∃ T, T = o.2 := ⟨_, rfl⟩
    obtain ⟨m, hm⟩ : ∃ m, m = T.length := ⟨_, rfl⟩
    rw [← hz, ← hT, ← hm] at he
    rw [← hT, ← hm] at hxc hxe
    have hB := HBT2.out
    rw [← hz, ← hT] at hB
    have HNew := Lib.hid (show NewE w e from fun b off n c z h => Nat.le_trans O2.out.size (hnew b off n c z h))
    clear hnew
    have hmb : m ≤ 100000000000 := by rw [hm, hT, HO.out]; exact Nat.le_trans (opnS_few y) (by decide)
    subst he
    by_cases h1 : z = 0
    · rw [if_neg (fun h => h h1)] at hB
      subst h1
      by_cases h2 : m = 0
      · rw [if_pos (.inl (by rw [List.isEmpty_iff, ← List.length_eq_zero_iff, ← hm]; exact h2))] at hB
        have HB := Lib.hid hB
        subst h2
        clear hB hz hT hm hxc hxe
        go_wp2_with fail
        go_quiet (fail)
        go_wp2_with fail
        go_ret2
        exact BlkPost.bad HB.out (M3.out.below (below_drewN (Below.refl _ _) _)) (O3.out.drewN _)
      · obtain ⟨b2, off2, x0, rfl, hx0, _, hc0⟩ := hxe.at (k := 0) (by omega)
        have d0 := hc0.c0
        rw [Nat.zero_mul, Nat.add_zero] at d0
        have hke : keyE T = x0.key := by cases T with
          | nil => simp at hx0
          | cons y Q => simp at hx0; rw [← hx0]; rfl
        have hem : T.isEmpty = false := by cases T with
          | nil => simp at hx0
          | cons y Q => rfl
        rw [hem, hke] at hB
        have hmi : ¬ (m : Int) = 0 := by omega
        have hmb0 : ((m : Int) == 0) = false := beq_eq_false_iff_ne.2 hmi
        have h0m : (0 : Int) < (m : Int) := by omega
        by_cases hkk : x0.key = ky
        · rw [if_neg (by rintro (h | h); (cases h); (exact h hkk))] at hB
          have hcm : ((bs x0.key).toList == (bs ky).toList) = true := (same_bytes _ _).2 hkk
          have hcp : (bs x0.key).toList = (bs ky).toList := by rw [hkk]
          have HB := Lib.hid hB
          have HT := Lib.hid (show m = T.length from hm)
          have HXC := Lib.hid hxc
          have HXE := Lib.hid hxe
          clear hB hz hT hm hxc hxe hkk h2 hem hke hx0 hc0
          go_wp2_with fail
          go_quiet (fail)
          go_wp2_with fail
          go_ret2
          refine ⟨⟨some ⟨b2, off2, none⟩, xc, ?_, ?_, ?_⟩, M3.out.below (below_drewN (Below.refl _ _) _), O3.out.drewN _, HNew.out⟩
          · rw [HB.out, HT.out]; rfl
          · rw [HB.out]; show T.length ≤ xc; rw [← HT.out]; exact HXC.out
          · rw [HB.out]
            have h := HXE.out.below (below_drewN (Below.refl w3.heap.size w3) nq)
            rw [HT.out] at h
            exact h
        · rw [if_pos (.inr hkk)] at hB
          have hcm : ((bs x0.key).toList == (bs ky).toList) = false := by
            cases h : ((bs x0.key).toList == (bs ky).toList) with
            | false => rfl
            | true => exact absurd ((same_bytes _ _).1 h) hkk
          have hcp : ¬ (bs x0.key).toList = (bs ky).toList := fun h => by rw [h] at hcm; simp at hcm
          have HB := Lib.hid hB
          clear hB hz hT hm hxc hxe hkk h2 hem hke hx0 hc0
          go_wp2_with fail
          go_quiet (fail)
          go_wp2_with fail
          go_ret2
          exact BlkPost.bad HB.out (M3.out.below (below_drewN (Below.refl _ _) _)) (O3.out.drewN _)
    · have hzb : (z == 0) = false := beq_eq_false_iff_ne.2 h1
      rw [if_pos h1] at hB
      have HB := Lib.hid hB
      clear hB hz hT hm hxc hxe
      go_wp2_with fail
      go_ret2
      exact BlkPost.bad HB.out M3.out O3.out
  · have hB := HBT.out
    rw [if_pos hd] at hB
    have HB := Lib.hid hB
    have hdb : (d == 0) = false := beq_eq_false_iff_ne.2 hd
    clear hB HBT
    go_enter Tryd.func38, Tryd.ntmps38
    go_upto_region 2 with (fail)
    rw [← HW1.out]
    clear e4 f4
    have nc0 : ∀ m : Seen w1, m.val.cell? ⟨p, 0, none⟩ = some (.func (.func F) #[] c) := fun m => by rw [m.below.cell (cell_block c0)]; exact c0
    have nc1 : ∀ m : Seen w1, m.val.cell? ⟨p, 1, none⟩ = some (.slice (some ⟨b, off, none⟩) len cap1) := fun m => by rw [m.below.cell (cell_block c1)]; exact c1
    have np1 : ∀ m : Seen w1, m.val.cell? ⟨b, off + i * 3 + 1, none⟩ = some (.int .i64 (at_ : Int)) := fun m => by rw [m.below.cell (cell_block p1)]; exact p1
    have np2 : ∀ m : Seen w1, m.val.cell? ⟨b, off + i * 3 + 2, none⟩ = some (.int .i64 (sz : Int)) := fun m => by rw [m.below.cell (cell_block p2)]; exact p2
    refine region_seen (by kernel_rfl) (by kernel_rfl) ?_
    repeat go_big_quiet_step (first | (with_reducible exact HC2.out _))
    refine wpQuiet_nil ?_
    rintro _ ⟨m1, rfl⟩
    have M2 := Lib.hid (M1.out.below m1.below)
    have O2 := Lib.hid (O1.out.trans (Only.of_below' (S := fun j => j = p) m1.below rfl))
    clear nc0 nc1 np1 np2 c0 c1 p0 p1 p2 HC2 eF
    go_wp2_with fail
    go_ret2
    exact BlkPost.bad HB.out M2.out O2.out
end Go.Proofs.YteejldddgogbkaaDoor
