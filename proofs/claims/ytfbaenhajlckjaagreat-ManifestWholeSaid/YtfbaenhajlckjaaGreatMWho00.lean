/- Texts put together: Base, Only, EpRow, CrcPlain -/
import Derived.Test.YtfbaenhajlckjaaGreatChecked
import Derived.WalkKit
import Derived.WalkSpells
import Derived.WalkLawsBesides
import Derived.Lib.Hide
import Derived.Lib.Strings
import Derived.Laws.BitsAllLaws
import Derived.Laws.IdiomStrings
import Derived.Deep.QuietTactic
import Derived.BigQuiet
import Derived.Below
import Derived.Laws.AppendOwn
import Derived.Deep.AppendSrc
import Derived.RegionTactic
/- What all layers share: bytes as strings, rows of strings, regions that write nothing that was there. -/
set_option linter.unusedVariables false
set_option maxRecDepth 100000
namespace Go.Proofs.YtfbaenhajlckjaaGreat
open Go.RowKit

theorem info5 : (Tryz.prog.info? 5).map (fun i => (i.zero, i.size, i.bytes)) = some (some (.int .u8 0), 1, 1) := by kernel_rfl
/-- The texts that stand in a row of strings. -/
def RowS (b off : Nat) (T : List ByteArray) (w : World) : Prop := ∀ k, k < T.length → b < w.heap.size ∧ w.cell? ⟨b, off + k, none⟩ = some (.string (T.getD k ByteArray.empty))
/-- A list of bytes as a string. -/
def bs (l : List UInt8) : ByteArray := ⟨l.toArray⟩
theorem bs_list (l : List UInt8) : (bs l).data.toList = l := rfl
theorem bs_size (l : List UInt8) : (bs l).size = l.length := by rw [Lib.size_eq, bs_list]
theorem bs_eq {s : ByteArray} {l : List UInt8} (h : s.data.toList = l) : s = bs l := by
  obtain ⟨⟨x⟩⟩ := s
  subst h
  rfl
theorem bs_inj {l m : List UInt8} (h : bs l = bs m) : l = m := by rw [← bs_list l, h, bs_list]
theorem cat_list (a b : ByteArray) : (a ++ b).data.toList = a.data.toList ++ b.data.toList := by
  obtain ⟨⟨x⟩⟩ := a
  obtain ⟨⟨y⟩⟩ := b
  simp
theorem cat_bs (s : ByteArray) (l : List UInt8) : s ++ bs l = bs (s.data.toList ++ l) := bs_eq (by rw [cat_list, bs_list])

theorem row_new (w : World) (T : List ByteArray) (t : TypeId) : RowS w.heap.size 0 T (w.alloc (.cells (T.map Value.string).toArray t)) := by
  intro k hk
  refine ⟨by show w.heap.size < (w.heap.push _).size; simp, ?_⟩
  rw [World.cell?_alloc_mark]
  simp [hk, List.getD_eq_getElem?_getD]

theorem ofNat_toNat (n : Nat) : (UInt8.ofNat n).toNat = n % 256 := UInt8.toNat_ofNat'

theorem bs_cat (l : List UInt8) (s : ByteArray) : bs l ++ s = bs (l ++ s.data.toList) := bs_eq (by rw [cat_list, bs_list])
theorem take_split {s : ByteArray} {n : Nat} (h : n ≤ s.size) : s.extract 0 n = bs (s.data.toList.take n) ∧ s.extract n s.size = bs (s.data.toList.drop n) := by
  have hn : s.data.toList.length = s.size := by rw [← Lib.size_eq]
  constructor
  · exact bs_eq (by rw [Lib.extract_data]; simp)
  · exact bs_eq (by rw [Lib.extract_data, List.take_of_length_le (by rw [List.length_drop]; omega)])

theorem same_bytes (l m : List UInt8) : ((bs l).toList == (bs m).toList) = true ↔ l = m := by
  rw [Lib.toList_data, Lib.toList_data, bs_list, bs_list, beq_iff_eq]

theorem ret2s {k : IntKind} {s s' : ByteArray} {b b' : Int} (h1 : s' = s) (h2 : b' = b) : Ending.returned (.tuple #[.string s, .int k b]) = Ending.returned (.tuple #[.string s', .int k b']) := by rw [h1, h2]

theorem RowS.below {b off : Nat} {T : List ByteArray} {w w' : World} (h : RowS b off T w) (k : Below w.heap.size w w') : RowS b off T w' := by
  intro i hi
  obtain ⟨h1, h2⟩ := h i hi
  exact ⟨Nat.lt_of_lt_of_le h1 k.size, by rw [k.cell h1]; exact h2⟩
/-- The worlds that a call may come to that writes nothing that was there. -/
structure Seen (W : World) where
  val : World
  below : Below W.heap.size W val
instance seen_any (W : World) : Nonempty (Seen W) := ⟨⟨W, Below.refl _ _⟩⟩
/-- A region that draws its order and whose operations write nothing that was there: one walk in the order of the text. -/
theorem region_seen {P : Program} {id : Nat} {Q : Exit → Act → World → Prop} {a : Act} {w : World} {l : List Oper} (hm : P.follows .mixedOrders = true) (hB : Region.lexB .any l.toArray = true)
    (h : wpQuiet P l.toArray (fun w' => ∃ n : Seen w, w' = n.val) (fun a' => ∀ w', (∃ n : Seen w, w' = n.val) → Q .normal a' w') l a) : (Code.region id l.toArray true).wp P Q a w :=
  wp_region_quiet (C := fun w' => ∃ n : Seen w, w' = n.val) hm hB ⟨⟨w.drew, (Below.refl _ _).drew⟩, rfl⟩ (by simpa using h)
theorem addr_add (b o j : Nat) : (⟨b, o, none⟩ : Addr).add j = ⟨b, o + j, none⟩ := by unfold Addr.add; split <;> simp_all
/-- WHAT IS KNOWN OF A SLICE OF TEXTS THAT CAME IN. -/
def IsTexts (w : World) (a : Option Addr) (len : Nat) (T : List ByteArray) : Prop :=
  len = T.length ∧ ∃ b off, (len = 0 ∨ a = some ⟨b, off, none⟩) ∧ RowS b off T w

theorem take_get {α : Type} (l : List α) (d : α) (n k : Nat) (h : k < n) : (l.take n).getD k d = l.getD k d := by
  simp [List.getD_eq_getElem?_getD, List.getElem?_take, h]
theorem cell_block {w : World} {b o : Nat} {v : Value} (h : w.cell? ⟨b, o, none⟩ = some v) : b < w.heap.size := by
  rcases Nat.lt_or_ge b w.heap.size with h' | h'
  · exact h'
  · simp [World.cell?, Array.getElem?_eq_none h'] at h

theorem texts_is {w : World} {x : Addr} {len cap : Nat} {ss : List ByteArray} (hl : len ≤ cap) (hz : ss.length = cap) (hcell : ∀ i, i < ss.length → w.cell? (x.add i) = some (.string (ss.getD i ByteArray.empty))) :
    IsTexts w (some x) len (ss.take len) := by
  refine ⟨by rw [List.length_take]; omega, ?_⟩
  by_cases h0 : len = 0
  · subst h0
    exact ⟨0, 0, .inl rfl, fun k hk => absurd hk (by simp)⟩
  · obtain ⟨b, off, spot⟩ := x
    have hspot : spot = none := by simpa [Addr.add] using World.cell?_spot (hcell 0 (by omega))
    subst hspot
    refine ⟨b, off, .inr rfl, fun k hk => ?_⟩
    have hk' : k < len := by rw [List.length_take] at hk; omega
    have h1 := hcell k (by omega)
    rw [addr_add] at h1
    rw [take_get ss ByteArray.empty len k hk']
    exact ⟨cell_block h1, h1⟩

end Go.Proofs.YtfbaenhajlckjaaGreat
/- A world's blocks but those of a set are kept: what all layers share. -/
set_option linter.unusedVariables false
set_option maxRecDepth 100000
namespace Go.Proofs.YtfbaenhajlckjaaGreat
open Go.RowKit

/-- A world's blocks but those of S are kept. -/
structure Only (S : Nat → Prop) (w w' : World) : Prop where
  os : w'.os = w.os
  tape : w'.tape = w.tape
  output : w'.output = w.output
  size : w.heap.size ≤ w'.heap.size
  block : ∀ k, k < w.heap.size → ¬ S k → w'.heap[k]? = w.heap[k]?

namespace Only
variable {S S' : Nat → Prop} {a b c w : World}
theorem refl (S : Nat → Prop) (w : World) : Only S w w := ⟨rfl, rfl, rfl, Nat.le_refl _, fun _ _ _ => rfl⟩
theorem trans (h : Only S a b) (k : Only S b c) : Only S a c :=
  ⟨k.os.trans h.os, k.tape.trans h.tape, k.output.trans h.output, Nat.le_trans h.size k.size, fun j hj hs => (k.block j (Nat.lt_of_lt_of_le hj h.size) hs).trans (h.block j hj hs)⟩
theorem mono (h : Only S a b) (hS : ∀ k, k < a.heap.size → S k → S' k) : Only S' a b := ⟨h.os, h.tape, h.output, h.size, fun k hk hs => h.block k hk (fun x => hs (hS k hk x))⟩
theorem drew (h : Only S a w) : Only S a w.drew := ⟨h.os, h.tape, h.output, h.size, h.block⟩
theorem drewN (h : Only S a w) (n : Nat) : Only S a (w.drewN n) := ⟨h.os, h.tape, h.output, h.size, h.block⟩
theorem alloc (h : Only S a w) (o : Obj) : Only S a (w.alloc o) :=
  ⟨h.os, h.tape, h.output, Nat.le_trans h.size (by simp), fun k hk hs => (Below.heap_alloc w o k (Nat.lt_of_lt_of_le hk h.size)).trans (h.block k hk hs)⟩
theorem setCell (h : Only S a w) {p : Addr} (hp : S p.block ∨ a.heap.size ≤ p.block) (u : Value) : Only S a (w.setCell p u) :=
  ⟨h.os, h.tape, h.output, by simpa [World.setCell] using h.size, fun k hk hs => (Below.heap_setCell w p u k (fun e => by rcases hp with hp | hp; (subst e; exact hs hp); (omega))).trans (h.block k hk hs)⟩
theorem grown (h : Only S a b) {row : Option Nat} (k : b.grownBy c row) (hr : ∀ j, row = some j → S j ∨ a.heap.size ≤ j) : Only S a c :=
  ⟨k.os.trans h.os, k.tape.trans h.tape, k.output.trans h.output, Nat.le_trans h.size k.size, fun j hj hs => (k.block j (Nat.lt_of_lt_of_le hj h.size) (fun e => by
    rcases hr j e.symm with x | x
    · exact hs x
    · omega)).trans (h.block j hj hs)⟩
theorem below (h : Only S a b) {B : Nat} (hS : ∀ k, k < a.heap.size → S k → B ≤ k) (hB : B ≤ a.heap.size) : Below B a b :=
  ⟨h.os, h.tape, h.output, h.size, fun k hk => h.block k (by omega) (fun x => by have := hS k (by omega) x; omega)⟩
theorem of_below {B : Nat} (h : Below B a b) (hS : ∀ k, k < a.heap.size → B ≤ k → S k) : Only S a b :=
  ⟨h.os, h.tape, h.output, h.size, fun k hk hs => h.block k (by rcases Nat.lt_or_ge k B with x | x; (exact x); (exact absurd (hS k hk x) hs))⟩
/-- What may turn behind a call may be of it, or new. -/
theorem andThen (h : Only S a b) (k : Only S' b c) (hS : ∀ j, j < a.heap.size → S' j → S j) : Only S a c :=
  ⟨k.os.trans h.os, k.tape.trans h.tape, k.output.trans h.output, Nat.le_trans h.size k.size, fun j hj hs => (k.block j (Nat.lt_of_lt_of_le hj h.size) (fun x => hs (hS j hj x))).trans (h.block j hj hs)⟩
end Only
theorem heap_lt {w : World} {b : Nat} {o : Obj} (h : w.heap[b]? = some o) : b < w.heap.size := (Array.getElem?_eq_some_iff.1 h).1
theorem heap_set {w : World} {b o : Nat} {c : Array Value} {t : TypeId} (h : w.heap[b]? = some (.cells c t (0, 0))) (u : Value) : (w.setCell ⟨b, o, none⟩ u).heap[b]? = some (.cells (c.setIfInBounds o u) t (0, 0)) := by
  simp [World.setCell, Array.getElem?_modify, h]
theorem heap_set_other {w : World} {b k o : Nat} (hk : k ≠ b) (u : Value) : (w.setCell ⟨b, o, none⟩ u).heap[k]? = w.heap[k]? := Below.heap_setCell w ⟨b, o, none⟩ u k hk
theorem heap_new (w : World) (o : Obj) : (w.alloc o).heap[w.heap.size]? = some o := MapKept.heap_alloc w o |>.1
end Go.Proofs.YtfbaenhajlckjaaGreat
/- A slice of the call's own that may begin behind its row's beginning: what it holds, one element more, its beginning taken off. -/
set_option linter.unusedVariables false
set_option maxRecDepth 100000
namespace Go.Proofs.YtfbaenhajlckjaaGreat
open Go.RowKit

/-- v is a slice of n elements of type e, each of so many cells, in a row from block B on; its elements' cells are xs. -/
def OffRow (w : World) (B : Nat) (e : TypeId) (size : Nat) (v : Value) (n : Nat) (xs : List Value) : Prop :=
  xs.length = n * size ∧ ((v = .slice none 0 0 ∧ n = 0) ∨ ∃ g off cap cur, v = .slice (some ⟨g, off, none⟩) n cap ∧ B ≤ g ∧ w.heap[g]? = some (.cells cur e (0, 0)) ∧ n ≤ cap ∧ cap ≤ maxLen ∧ off + cap * size ≤ cur.size ∧ ∀ j, j < n * size → cur[off + j]? = xs[j]?)
namespace OffRow
variable {w w' : World} {B : Nat} {e : TypeId} {size : Nat} {v : Value} {n : Nat} {xs : List Value}
theorem nil (w : World) (B : Nat) (e : TypeId) (size : Nat) : OffRow w B e size (.slice none 0 0) 0 [] := ⟨by simp, .inl ⟨rfl, rfl⟩⟩
theorem slice (h : OffRow w B e size v n xs) : ∃ a cap, v = .slice a n cap := by
  rcases h.2 with ⟨rfl, rfl⟩ | ⟨g, off, cap, cur, rfl, _⟩
  · exact ⟨_, _, rfl⟩
  · exact ⟨_, _, rfl⟩
theorem form (h : OffRow w B e size v n xs) (hn : 0 < n) : ∃ g off cap cur, v = .slice (some ⟨g, off, none⟩) n cap ∧ B ≤ g ∧ w.heap[g]? = some (.cells cur e (0, 0)) ∧ ∀ j, j < n * size → w.cell? ⟨g, off + j, none⟩ = xs[j]? := by
  rcases h.2 with ⟨_, h0⟩ | ⟨g, off, cap, cur, rfl, hB, hg, h1, h2, h3, h4⟩
  · omega
  · exact ⟨g, off, cap, cur, rfl, hB, hg, fun j hj => by rw [← h4 j hj]; simp [World.cell?, hg]⟩
theorem lt (h : OffRow w B e size v n xs) : ∀ k, v.ownBlock = some k → B ≤ k ∧ k < w.heap.size := by
  intro k hk
  rcases h.2 with ⟨rfl, _⟩ | ⟨g, off, cap, cur, rfl, hB, hg, _⟩
  · simp [Value.ownBlock] at hk
  · simp [Value.ownBlock] at hk
    subst hk
    exact ⟨hB, heap_lt hg⟩
theorem tag (h : OffRow w B e size v n xs) {k : Nat} (hk : v.ownBlock = some k) : ∃ cur, w.heap[k]? = some (.cells cur e (0, 0)) := by
  rcases h.2 with ⟨rfl, _⟩ | ⟨g, off, cap, cur, rfl, hB, hg, _⟩
  · simp [Value.ownBlock] at hk
  · simp [Value.ownBlock] at hk
    subst hk
    exact ⟨cur, hg⟩
theorem kept (h : OffRow w B e size v n xs) (k : ∀ j, v.ownBlock = some j → w'.heap[j]? = w.heap[j]?) : OffRow w' B e size v n xs := by
  refine ⟨h.1, ?_⟩
  rcases h.2 with h0 | ⟨g, off, cap, cur, rfl, hB, hg, h1⟩
  · exact .inl h0
  · exact .inr ⟨g, off, cap, cur, rfl, hB, (k g rfl).trans hg, h1⟩
theorem of_own (h : w.ownsRow B e size v n xs) : OffRow w B e size v n xs := by
  refine ⟨h.1, ?_⟩
  rcases h.2 with h0 | ⟨g, cap, cur, rfl, hB, hg, h1, h2, h3, h4⟩
  · exact .inl h0
  · refine .inr ⟨g, 0, cap, cur, rfl, hB, hg, h1, h2, by omega, fun j hj => ?_⟩
    rw [← h4, List.getElem?_take, if_pos hj]
    simp
theorem cap_le (h : OffRow w B e size v n xs) : n ≤ maxLen := by
  rcases h.2 with ⟨_, h0⟩ | ⟨g, off, cap, cur, rfl, hB, hg, h1, h2, _⟩
  · unfold maxLen; omega
  · omega
/-- Its beginning is taken off. -/
theorem drop (h : OffRow w B e size v n xs) {a : Option Addr} {cap : Nat} (hv : v = .slice a n cap) {g : Nat} (hg : g ≤ n) : ∃ a', (g < cap → a' = a.map (·.add (g * size))) ∧ (g = cap → a' = a) ∧ OffRow w B e size (.slice a' (n - g) (cap - g)) (n - g) (xs.drop (g * size)) := by
  subst hv
  have hl : (xs.drop (g * size)).length = (n - g) * size := by rw [List.length_drop, h.1, Nat.sub_mul]
  rcases h.2 with ⟨h0, rfl⟩ | ⟨b, off, cap', cur, h0, hB, hh, h1, h2, h3, h4⟩
  · injection h0 with e1 _ e3
    subst e1 e3
    obtain rfl : g = 0 := by omega
    exact ⟨none, fun x => absurd x (by omega), fun _ => rfl, hl, .inl ⟨rfl, rfl⟩⟩
  · injection h0 with e1 _ e3
    subst e1 e3
    by_cases hc : g < cap
    · refine ⟨some ⟨b, off + g * size, none⟩, fun _ => by simp [addr_add], fun x => absurd x (by omega), hl, .inr ⟨b, off + g * size, cap - g, cur, rfl, hB, hh, by omega, by omega, ?_, fun j hj => ?_⟩⟩
      · have : g * size + (cap - g) * size = cap * size := by rw [← Nat.add_mul]; congr 1; omega
        omega
      · rw [Nat.sub_mul] at hj
        rw [List.getElem?_drop, Nat.add_assoc]
        exact h4 _ (by omega)
    · obtain rfl : g = cap := by omega
      obtain rfl : n = g := by omega
      refine ⟨some ⟨b, off, none⟩, fun x => absurd x (by omega), fun _ => rfl, hl, .inr ⟨b, off, n - n, cur, rfl, hB, hh, Nat.le_refl _, by omega, by simp; have := h3; omega, fun j hj => ?_⟩⟩
      simp at hj
end OffRow

theorem setCells_heap : ∀ (vs : List Value) (b o : Nat) (w : World) (cur : Array Value) (t : TypeId), w.heap[b]? = some (.cells cur t (0, 0)) → ∃ cur', (w.setCells b o vs).heap[b]? = some (.cells cur' t (0, 0)) ∧ cur'.size = cur.size ∧ (∀ j, j < vs.length → o + j < cur.size → cur'[o + j]? = vs[j]?) ∧ (∀ j, (j < o ∨ o + vs.length ≤ j) → cur'[j]? = cur[j]?)
  | [], b, o, w, cur, t, h => ⟨cur, h, rfl, fun j hj => absurd hj (by simp), fun _ _ => rfl⟩
  | v :: r, b, o, w, cur, t, h => by
    have h1 := heap_set (o := o) h v
    obtain ⟨cur', a1, a2, a3, a4⟩ := setCells_heap r b (o + 1) (w.setCell ⟨b, o, none⟩ v) _ t h1
    refine ⟨cur', a1, by rw [a2]; simp, fun j hj hlt => ?_, fun j hj => ?_⟩
    · cases j with
      | zero =>
        rw [a4 (o + 0) (.inl (by omega))]
        simp [Array.getElem?_setIfInBounds]
        omega
      | succ j =>
        have := a3 j (by simpa using hj) (by simp; omega)
        rw [show o + (j + 1) = o + 1 + j by omega]
        simpa using this
    · rw [a4 j (by simp at hj; omega), Array.getElem?_setIfInBounds, if_neg (by simp at hj; omega)]
theorem setCells_other : ∀ (vs : List Value) (b o : Nat) (w : World) (k : Nat), k ≠ b → (w.setCells b o vs).heap[k]? = w.heap[k]?
  | [], _, _, _, _, _ => rfl
  | v :: r, b, o, w, k, h => (setCells_other r b (o + 1) _ k h).trans (heap_set_other h v)
theorem setCells_meta : ∀ (vs : List Value) (b o : Nat) (w : World), (w.setCells b o vs).os = w.os ∧ (w.setCells b o vs).tape = w.tape ∧ (w.setCells b o vs).output = w.output ∧ (w.setCells b o vs).heap.size = w.heap.size
  | [], _, _, _ => ⟨rfl, rfl, rfl, rfl⟩
  | v :: r, b, o, w => by
    obtain ⟨h1, h2, h3, h4⟩ := setCells_meta r b (o + 1) (w.setCell ⟨b, o, none⟩ v)
    exact ⟨h1, h2, h3, h4.trans (by simp [World.setCell])⟩

/-- Elements more. -/
theorem run_append_off {P : Program} {w : World} {B : Nat} (t ty e : TypeId) (i : TypeInfo) (z : Value) (size bytes : Nat) (ht : P.underlying t = some (.slice e)) (hi : P.info? e = some i) (hz : i.zero = some z)
    (hsize : i.size = size) (hby : i.bytes = bytes) (hzs : z.cells.size = size)
    {v : Value} {n : Nat} {xs : List Value} (h : OffRow w B e size v n xs) (x : Value) (m : Nat) (news : List Value) (hs : Src P size t x m news w)
    (h63 : n + m ≤ maxLen) (hbytes : (n + m) * bytes ≤ 140737488355328) (hB : B ≤ w.heap.size) :
    ∃ v' w', (Builtin.append_ #[t, t] ty #[v, x]).run P w = .ok v' w' ∧ OffRow w' B e size v' (n + m) (xs ++ news) ∧ w.grownBy w' v.ownBlock ∧ (v'.ownBlock = v.ownBlock ∨ v'.ownBlock = some w.heap.size) := by
  subst hsize hby
  have hlen : (xs ++ news).length = (n + m) * i.size := by rw [List.length_append, h.1, hs.newsLen, Nat.add_mul]
  have hsmall : ((n + m : Nat) : Int) ≤ 9223372036854775807 := by unfold maxLen at h63; omega
  have grown : ∀ old, old < n + m → OffRow (w.drew.alloc (.cells ((xs ++ news).toArray ++ Builtin.zeroCells z.cells (grownCap w (n + m) old e - (n + m))) e)) B e i.size (.slice (some ⟨w.heap.size, 0, none⟩) (n + m) (grownCap w (n + m) old e)) (n + m) (xs ++ news) := by
    intro old ho
    refine ⟨hlen, .inr ⟨w.heap.size, 0, _, _, rfl, hB, heap_new w.drew _, grownCap_ge w (n + m) old e, grownCap_le_maxLen w (n + m) old e h63, ?_, fun j hj => ?_⟩⟩
    · have := grownCap_ge w (n + m) old e
      rw [Array.size_append, size_zeroCells, hzs, List.size_toArray, hlen, ← Nat.add_mul]
      exact Nat.le_of_eq (by rw [Nat.zero_add]; congr 1; omega)
    · rw [Nat.zero_add, Array.getElem?_append_left (by simpa [hlen] using hj)]
      simp
  rcases h.2 with ⟨rfl, rfl⟩ | ⟨g, off, cap, cur, rfl, hBg, hg, h1, h2, h3, h4⟩
  · obtain rfl : xs = [] := List.eq_nil_of_length_eq_zero (by simpa using h.1)
    by_cases hm : m = 0
    · subst hm
      obtain rfl : news = [] := List.eq_nil_of_length_eq_zero (by simpa using hs.newsLen)
      refine ⟨.slice none 0 0, w, ?_, OffRow.nil w B e i.size, ⟨rfl, rfl, rfl, Nat.le_refl _, fun _ _ _ => rfl⟩, .inl rfl⟩
      have hk := hs.kind
      simp [Builtin.append_, run_underlying ht, sizeOf, typeInfo, hi, hs.len, hs.cells]
    · have hold : (Builtin.firstCells i.size 0 (.slice none 0 0)).run P w.drew = .ok (#[] : Array Value) w.drew := rfl
      have hr := run_append_grow_src (P := P) w t t ty e i z ht hi hz none 0 0 [] (by simpa using hold) x m news hs (by omega) (by simpa using hsmall) (growslice_fits (by omega) (by simpa using hbytes))
      simp only [Nat.zero_add, List.nil_append] at hr
      have hgr := grown 0 (by omega)
      simp only [Nat.zero_add, List.nil_append] at hgr ⊢
      exact ⟨_, _, hr, hgr, ⟨rfl, rfl, rfl, by simp, fun k hk _ => Below.heap_alloc w.drew _ k hk⟩, .inr rfl⟩
  · by_cases hroom : n + m ≤ cap
    · have hbd : ∀ j, j < news.length → off + n * i.size + j < cur.size := by
        intro j hj
        rw [hs.newsLen] at hj
        have : (n + m) * i.size ≤ cap * i.size := Nat.mul_le_mul_right _ hroom
        rw [Nat.add_mul] at this
        omega
      have hr := run_append_room_src (P := P) w t t ty e i ht hi g off n cap x m news hs hroom (fun j hj => by simp [World.cell?, hg, hbd j hj]) (fun j hj => by simp [World.frozen?, hg])
      obtain ⟨cur', a1, a2, a3, a4⟩ := setCells_heap news g (off + n * i.size) w cur e hg
      obtain ⟨b1, b2, b3, b4⟩ := setCells_meta news g (off + n * i.size) w
      refine ⟨_, _, hr, ⟨hlen, .inr ⟨g, off, cap, cur', rfl, hBg, a1, hroom, h2, by omega, fun j hj => ?_⟩⟩, ⟨b1, b2, b3, by omega, fun k _ hk => setCells_other _ _ _ _ _ (fun e => hk (by simp [Value.ownBlock, e]))⟩, .inl rfl⟩
      by_cases hjo : j < n * i.size
      · rw [a4 _ (.inl (by omega)), h4 j hjo, List.getElem?_append_left (by rw [h.1]; exact hjo)]
      · have hjn : j - n * i.size < news.length := by rw [hs.newsLen]; rw [Nat.add_mul] at hj; omega
        rw [List.getElem?_append_right (by rw [h.1]; omega), h.1, ← a3 (j - n * i.size) hjn (hbd _ hjn)]
        congr 1
        omega
    · have hold : (Builtin.firstCells i.size n (.slice (some ⟨g, off, none⟩) n cap)).run P w.drew = .ok xs.toArray w.drew :=
        run_firstCells_some w.drew i.size n ⟨g, off, none⟩ n cap xs h.1 (fun j u hj => by
          have hjl : j < n * i.size := by rw [← h.1]; exact (List.getElem?_eq_some_iff.1 hj).1
          rw [addr_add]
          show w.cell? _ = _
          rw [← hj, ← h4 j hjl]
          simp [World.cell?, hg])
      have hr := run_append_grow_src (P := P) w t t ty e i z ht hi hz (some ⟨g, off, none⟩) n cap xs hold x m news hs (by omega) hsmall (growslice_fits (by omega) hbytes)
      exact ⟨_, _, hr, grown cap (by omega), ⟨rfl, rfl, rfl, by simp, fun k hk _ => Below.heap_alloc w.drew _ k hk⟩, .inr rfl⟩
theorem wp_append_off {P : Program} {w : World} {o : Oper} {a : Act} {K : Act → World → Prop} {Q : Exit → Act → World → Prop} (s x : Operand) (t : TypeId)
    (ho : o.op = .call { callee := .builtin .append, args := #[s, x], argTypes := #[t, t] })
    (B : Nat) (e : TypeId) (i : TypeInfo) (z : Value) (size bytes : Nat) (ht : P.underlying t = some (.slice e)) (hi : P.info? e = some i) (hz : i.zero = some z)
    (hsize : i.size = size) (hby : i.bytes = bytes) (hzs : z.cells.size = size)
    (v : Value) (n : Nat) (xs : List Value) (hs : a.eval s = v) (hown : OffRow w B e size v n xs) (xv : Value) (hx : a.eval x = xv) (m : Nat) (news : List Value) (hsrc : Src P size t xv m news w)
    (h63 : n + m ≤ maxLen) (hbytes : (n + m) * bytes ≤ 140737488355328) (hB : B ≤ w.heap.size)
    (h : ∀ v' w', OffRow w' B e size v' (n + m) (xs ++ news) → w.grownBy w' v.ownBlock → (v'.ownBlock = v.ownBlock ∨ v'.ownBlock = some w.heap.size) → K (a.put o.dst v') w') : o.wp P a w K Q := by
  obtain ⟨v', w', hr, h2, h3, h4⟩ := run_append_off (P := P) t o.type e i z size bytes ht hi hz hsize hby hzs hown xv m news hsrc h63 hbytes hB
  unfold Oper.wp execOp
  simp only [ho, resolve, invoke, builtin, Sem.run_bind, Sem.run_pure, Result.andThen_ok, List.map_toArray, List.map_cons, List.map_nil, hs, hx, hr]
  exact h v' w' h2 h3 h4
/-- At a plain region's list. -/
theorem wpList_append_off {P : Program} {w : World} {ops : Array Oper} {rest : List Oper} {o : Oper} {a : Act} {Q : Exit → Act → World → Prop} (hgd : o.guard = none) (s x : Operand) (t : TypeId)
    (ho : o.op = .call { callee := .builtin .append, args := #[s, x], argTypes := #[t, t] })
    (B : Nat) (e : TypeId) (i : TypeInfo) (z : Value) (size bytes : Nat) (ht : P.underlying t = some (.slice e)) (hi : P.info? e = some i) (hz : i.zero = some z)
    (hsize : i.size = size) (hby : i.bytes = bytes) (hzs : z.cells.size = size)
    (v : Value) (n : Nat) (xs : List Value) (hs : a.eval s = v) (hown : OffRow w B e size v n xs) (xv : Value) (hx : a.eval x = xv) (m : Nat) (news : List Value) (hsrc : Src P size t xv m news w)
    (h63 : n + m ≤ maxLen) (hbytes : (n + m) * bytes ≤ 140737488355328) (hB : B ≤ w.heap.size)
    (h : ∀ v' w', OffRow w' B e size v' (n + m) (xs ++ news) → w.grownBy w' v.ownBlock → (v'.ownBlock = v.ownBlock ∨ v'.ownBlock = some w.heap.size) → wpList P ops Q rest (a.put o.dst v') w') : wpList P ops Q (o :: rest) a w :=
  wpList_plain hgd fun _ hK => wp_append_off s x t ho B e i z size bytes ht hi hz hsize hby hzs v n xs hs hown xv hx m news hsrc h63 hbytes hB fun v' w' h2 h3 h4 => hK _ _ (h v' w' h2 h3 h4)
/-- At a step of a region that draws. -/
theorem step_append_off {P : Program} {w : World} {ops : Array Oper} {o : Oper} {a : Act} {K : Act → World → Prop} {Q : Exit → Act → World → Prop} {E : Prop} (hgd : o.guard = none) (s x : Operand) (t : TypeId)
    (ho : o.op = .call { callee := .builtin .append, args := #[s, x], argTypes := #[t, t] })
    (B : Nat) (e : TypeId) (i : TypeInfo) (z : Value) (size bytes : Nat) (ht : P.underlying t = some (.slice e)) (hi : P.info? e = some i) (hz : i.zero = some z)
    (hsize : i.size = size) (hby : i.bytes = bytes) (hzs : z.cells.size = size)
    (v : Value) (n : Nat) (xs : List Value) (hs : a.eval s = v) (hown : OffRow w B e size v n xs) (xv : Value) (hx : a.eval x = xv) (m : Nat) (news : List Value) (hsrc : Src P size t xv m news w)
    (h63 : n + m ≤ maxLen) (hbytes : (n + m) * bytes ≤ 140737488355328) (hB : B ≤ w.heap.size)
    (h : ∀ v' w', OffRow w' B e size v' (n + m) (xs ++ news) → w.grownBy w' v.ownBlock → (v'.ownBlock = v.ownBlock ∨ v'.ownBlock = some w.heap.size) → K (a.put o.dst v') w') :
    if Region.wanted o (yielded ops a.tmps) = true then Oper.wp P o a w K Q else E := by
  have hw : Region.wanted o (yielded ops a.tmps) = true := by simp [Region.wanted, hgd]
  rw [if_pos hw]
  exact wp_append_off s x t ho B e i z size bytes ht hi hz hsize hby hzs v n xs hs hown xv hx m news hsrc h63 hbytes hB h
/-- What a buildSlice has laid: a source of one element. -/
theorem src_block {P : Program} {size : Nat} {t e' : TypeId} (hk : P.underlying t = some (.slice e')) {w : World} {b : Nat} {cs : Array Value} {ty : TypeId} (hb : w.heap[b]? = some (.cells cs ty (0, 0))) (m c : Nat) (hl : cs.size = m * size) (h1 : ∀ u ∈ cs.toList, u.oneCell' = true) :
    Src P size t (.slice (some ⟨b, 0, none⟩) m c) m cs.toList w :=
  Src.ofSlice w hk ⟨b, 0, none⟩ m c cs.toList (by simpa using hl) (fun j u hu => by rw [addr_add, Nat.zero_add]; simp [World.cell?, hb]; simpa using hu) h1
/-- The builtin clear of the beginning of such a slice, which is taken off then. -/
theorem run_clear_off {P : Program} {w : World} {B : Nat} (t ty e : TypeId) (i : TypeInfo) (z : Value) (size : Nat) (ht : P.underlying t = some (.slice e)) (hi : P.info? e = some i) (hz : i.zero = some z) (hzs : z.cells.size = size) (hz1 : ∀ u ∈ z.cells.toList, u.oneCell' = true)
    {v : Value} {n : Nat} {xs : List Value} (h : OffRow w B e size v n xs) {a : Option Addr} {cap : Nat} (hv : v = .slice a n cap) (g : Nat) (hg : g ≤ n) (c : Nat) :
    ∃ w', (Builtin.clear_ #[t] ty #[.slice a g c]).run P w = .ok (.tuple #[]) w' ∧ w.grownBy w' v.ownBlock ∧ ∃ a', (g < cap → a' = a.map (·.add (g * size))) ∧ (g = cap → a' = a) ∧ OffRow w' B e size (.slice a' (n - g) (cap - g)) (n - g) (xs.drop (g * size)) := by
  by_cases h0 : g = 0
  · refine ⟨w, ?_, ⟨rfl, rfl, rfl, Nat.le_refl _, fun _ _ _ => rfl⟩, h.drop hv hg⟩
    subst h0
    cases a <;> simp [Builtin.clear_, run_underlying ht]
  · obtain ⟨a', d1, d2, d3⟩ := h.drop hv hg
    subst hv
    rcases h.2 with ⟨_, rfl⟩ | ⟨b, off, cap', cur, e0, hB, hh, h1, h2, h3, h4⟩
    · omega
    · injection e0 with e1 _ e3
      subst e1 e3
      have hzl : (Builtin.zeroCells z.cells g).toList.length = g * size := by rw [Array.length_toList, size_zeroCells, hzs]
      have hle : g * size ≤ cap * size := Nat.mul_le_mul_right _ (by omega)
      have hbd : ∀ j, j < (Builtin.zeroCells z.cells g).toList.length → off + 0 + j < cur.size := by intro j hj; rw [hzl] at hj; omega
      have hst := run_storeCells_cells (P := P) b off (Builtin.zeroCells z.cells g).toList 0 w (fun j hj => by simp only [World.cell?, hh]; simp [hbd j hj]; exact hbd j hj) (fun j hj => by simp [World.frozen?, hh]) (fun u hu => by
        simp [Builtin.zeroCells] at hu
        obtain ⟨k, hk, rfl⟩ := hu
        have hk2 : k % z.cells.size < z.cells.size := Nat.mod_lt _ (by rcases Nat.eq_zero_or_pos z.cells.size with x | x; (rw [x] at hk; simp at hk); (exact x))
        rw [getElem!_pos z.cells _ hk2]
        exact hz1 _ (by simp))
      obtain ⟨b1, b2, b3, b4⟩ := setCells_meta (Builtin.zeroCells z.cells g).toList b (off + 0) w
      obtain ⟨cur', q1, q2, _, q4⟩ := setCells_heap (Builtin.zeroCells z.cells g).toList b (off + 0) w cur e hh
      refine ⟨_, ?_, ⟨b1, b2, b3, by omega, fun k _ hk => setCells_other _ _ _ _ _ (fun e => hk (by simp [Value.ownBlock, e]))⟩, a', d1, d2, d3.1, ?_⟩
      · have hu : ∀ g', g = g' + 1 → (Builtin.clear_ #[t] ty #[.slice (some ⟨b, off, none⟩) g c]).run P w = .ok (.tuple #[]) (w.setCells b (off + 0) (Builtin.zeroCells z.cells g).toList) := by
          intro g' hg'
          subst hg'
          simp [Builtin.clear_, run_underlying ht, zeroValue, typeInfo, hi, hz, hst]
        exact hu (g - 1) (by omega)
      · rcases d3.2 with d | ⟨b', off', c', cu, e0, k1, k2, k3, k4, k5, k6⟩
        · exact .inl d
        · injection e0 with e1 _ e3
          have hbb : b' = b ∧ (n - g = 0 ∨ off + g * size ≤ off') := by
            rcases Nat.lt_or_ge g cap with x | x
            · rw [d1 x] at e1
              simp [addr_add] at e1
              exact ⟨e1.1.symm, .inr (by omega)⟩
            · rw [d2 (by omega)] at e1
              simp at e1
              exact ⟨e1.1.symm, .inl (by omega)⟩
          obtain ⟨rfl, hoff⟩ := hbb
          rw [hh] at k2
          injection k2 with k2
          injection k2 with k2
          subst k2
          refine .inr ⟨b', off', c', cur', by rw [e1, e3], k1, q1, k3, k4, by omega, fun j hj => ?_⟩
          rw [q4 _ (.inr ?_)]
          · exact k6 j hj
          · rcases hoff with x | x
            · rw [x] at hj; simp at hj
            · rw [hzl]; omega
/-- The slice expression 's[k:]'. -/
theorem slice_from {P : Program} {t e : TypeId} {i : TypeInfo} (ht : P.underlying t = some (.slice e)) (hi : P.info? e = some i) {size : Nat} (hs : i.size = size) {g off n cap k : Nat} (hk : k ≤ n) (hc : ¬ cap = k) (W : World) :
    (Instr.slice t (.slice (some ⟨g, off, none⟩) n cap) (some (.int .i64 (k : Int))) none none).run P W = .ok (.slice (some ⟨g, off + k * size, none⟩) (n - k) (cap - k)) W := by
  subst hs
  have h1 : (k : Int) ≤ (n : Int) := by omega
  simp [Instr.slice, run_underlying ht, Instr.sliceBounds, run_sliceBound, sizeOf, typeInfo, hi, hk, hc, addr_add]
/-- What is left when the beginning is taken off. -/
def Left (w : World) (B : Nat) (e : TypeId) (size : Nat) (a : Option Addr) (n cap g : Nat) (xs : List Value) : Prop :=
  ∃ a', (g < cap → a' = a.map (·.add (g * size))) ∧ (g = cap → a' = a) ∧ OffRow w B e size (.slice a' (n - g) (cap - g)) (n - g) (xs.drop (g * size))
theorem wpList_clear_off {P : Program} {w : World} {ops : Array Oper} {rest : List Oper} {o : Oper} {act : Act} {Q : Exit → Act → World → Prop} (hgd : o.guard = none) (s : Operand) (t : TypeId)
    (ho : o.op = .call { callee := .builtin .clear, args := #[s], argTypes := #[t] })
    (B : Nat) (e : TypeId) (i : TypeInfo) (z : Value) (size : Nat) (ht : P.underlying t = some (.slice e)) (hi : P.info? e = some i) (hz : i.zero = some z) (hzs : z.cells.size = size) (hz1 : ∀ u ∈ z.cells.toList, u.oneCell' = true)
    (v : Value) (n : Nat) (xs : List Value) (h : OffRow w B e size v n xs) (a : Option Addr) (cap : Nat) (hv : v = .slice a n cap) (g : Nat) (hg : g ≤ n) (c : Nat) (hs : act.eval s = .slice a g c)
    (hk : ∀ w', w.grownBy w' v.ownBlock → Left w' B e size a n cap g xs → wpList P ops Q rest (act.put o.dst (.tuple #[])) w') : wpList P ops Q (o :: rest) act w := by
  refine wpList_plain hgd fun K hK => ?_
  obtain ⟨w', hr, h2, h3⟩ := run_clear_off (P := P) t o.type e i z size ht hi hz hzs hz1 h hv g hg c
  unfold Oper.wp execOp
  simp only [ho, resolve, invoke, builtin, Sem.run_bind, Sem.run_pure, Result.andThen_ok, List.map_toArray, List.map_cons, List.map_nil, hs, hr]
  exact hK _ _ (hk w' h2 h3)
end Go.Proofs.YtfbaenhajlckjaaGreat
/- Plain mathematics of the statements over layer crc: no program, no world. A register of 32 bits, bit by bit; bits turned within 32 in a row are told. -/
namespace Go.Proofs.YtfbaenhajlckjaaGreat

/-! ### The register -/

/-- The register behind one bit, where what comes in is added to its lowest bit. -/
def stepB (x : Nat) (b : Bool) : Nat := x / 2 ^^^ (if (x.testBit 0 != b) = true then 2197175160 else 0)
/-- The register behind one bit that is 0. -/
def tap (x : Nat) : Nat := stepB x false
def tapN : Nat → Nat → Nat
  | 0, x => x
  | k + 1, x => tapN k (tap x)
def feedB (x : Nat) (u : List Bool) : Nat := u.foldl stepB x
def num : List Bool → Nat
  | [] => 0
  | b :: u => b.toNat + 2 * num u
def bitsN : Nat → Nat → List Bool
  | 0, _ => []
  | k + 1, n => (n % 2 == 1) :: bitsN k (n / 2)

theorem taps_lt : (2197175160 : Nat) < 2 ^ 32 := by decide

theorem stepB_lt {x : Nat} (b : Bool) (h : x < 2 ^ 32) : stepB x b < 2 ^ 32 := by
  unfold stepB
  refine Nat.xor_lt_two_pow (by omega) ?_
  split
  · decide
  · decide
theorem tap_lt {x : Nat} (h : x < 2 ^ 32) : tap x < 2 ^ 32 := stepB_lt _ h
theorem tapN_lt (k : Nat) : ∀ {x : Nat}, x < 2 ^ 32 → tapN k x < 2 ^ 32 := by
  induction k with
  | zero => intro x h; exact h
  | succ k ih => intro x h; exact ih (tap_lt h)
theorem feedB_lt (u : List Bool) : ∀ {x : Nat}, x < 2 ^ 32 → feedB x u < 2 ^ 32 := by
  induction u with
  | nil => intro x h; exact h
  | cons b u ih => intro x h; exact ih (stepB_lt b h)

theorem high (x : Nat) (b : Bool) (h : x < 2 ^ 32) : (stepB x b).testBit 31 = (x.testBit 0 != b) := by
  unfold stepB
  rw [Nat.testBit_xor, Nat.testBit_lt_two_pow (by omega)]
  cases (x.testBit 0 != b) with
  | true => decide
  | false => decide

theorem bit0_eq {x y : Nat} (h : x.testBit 0 = y.testBit 0) (h2 : x / 2 = y / 2) : x = y := by
  rw [Nat.testBit_zero, Nat.testBit_zero] at h
  have := decide_eq_decide.1 h
  omega

theorem xor_cancel {a b c : Nat} (h : a ^^^ c = b ^^^ c) : a = b := by
  have := congrArg (· ^^^ c) h
  simpa [Nat.xor_assoc] using this
theorem xor_cancel_left {a b c : Nat} (h : c ^^^ a = c ^^^ b) : a = b := by
  rw [Nat.xor_comm c, Nat.xor_comm c] at h
  exact xor_cancel h

theorem stepB_inj {x y : Nat} (b : Bool) (hx : x < 2 ^ 32) (hy : y < 2 ^ 32) (h : stepB x b = stepB y b) : x = y := by
  have h31 : (stepB x b).testBit 31 = (stepB y b).testBit 31 := by rw [h]
  rw [high x b hx, high y b hy] at h31
  have h0 : x.testBit 0 = y.testBit 0 := by
    cases hx0 : x.testBit 0 <;> cases hy0 : y.testBit 0 <;> cases b <;> simp_all
  unfold stepB at h
  rw [h0] at h
  exact bit0_eq h0 (xor_cancel h)
theorem tapN_inj (k : Nat) : ∀ {x y : Nat}, x < 2 ^ 32 → y < 2 ^ 32 → tapN k x = tapN k y → x = y := by
  induction k with
  | zero => intro x y _ _ h; exact h
  | succ k ih => intro x y hx hy h; exact stepB_inj false hx hy (ih (tap_lt hx) (tap_lt hy) h)
theorem feedB_inj (u : List Bool) : ∀ {x y : Nat}, x < 2 ^ 32 → y < 2 ^ 32 → feedB x u = feedB y u → x = y := by
  induction u with
  | nil => intro x y _ _ h; exact h
  | cons b u ih => intro x y hx hy h; exact stepB_inj b hx hy (ih (stepB_lt b hx) (stepB_lt b hy) h)

/-- All bits may be added ahead. -/
theorem tap_num1 (x : Nat) (b : Bool) (u : List Bool) : tap (x ^^^ num (b :: u)) = stepB x b ^^^ num u := by
  unfold tap stepB
  have h1 : num (b :: u) / 2 = num u := by simp only [num]; cases b <;> simp <;> omega
  have h2 : (num (b :: u)).testBit 0 = b := by
    rw [Nat.testBit_zero]; simp only [num]; cases b <;> simp <;> omega
  have h3 : (x ^^^ num (b :: u)) / 2 = x / 2 ^^^ num u := by
    rw [← h1]
    have := Nat.shiftRight_xor_distrib (a := x) (b := num (b :: u)) (i := 1)
    simpa [Nat.shiftRight_eq_div_pow] using this
  rw [h3, Nat.testBit_xor, h2]
  have h4 : ((x.testBit 0 ^^ b) != false) = (x.testBit 0 != b) := by cases x.testBit 0 <;> cases b <;> rfl
  rw [h4, Nat.xor_assoc, Nat.xor_assoc, Nat.xor_comm (num u)]
theorem tap_num (u : List Bool) : ∀ x : Nat, tapN u.length (x ^^^ num u) = feedB x u := by
  induction u with
  | nil => intro x; simp [num, tapN, feedB]
  | cons b u ih =>
    intro x
    show tapN u.length (tap (x ^^^ num (b :: u))) = feedB (stepB x b) u
    rw [tap_num1, ih]

theorem num_lt (u : List Bool) : num u < 2 ^ u.length := by
  induction u with
  | nil => simp [num]
  | cons b u ih => simp only [num, List.length_cons, Nat.pow_succ]; cases b <;> simp <;> omega
theorem num_inj (u : List Bool) : ∀ v : List Bool, u.length = v.length → num u = num v → u = v := by
  induction u with
  | nil => intro v h _; cases v with
    | nil => rfl
    | cons _ _ => simp at h
  | cons b u ih =>
    intro v h hn
    cases v with
    | nil => simp at h
    | cons c v =>
      simp only [num] at hn
      have hb : b = c := by cases b <;> cases c <;> simp at hn ⊢ <;> omega
      subst hb
      rw [ih v (by simpa using h) (by omega)]

/-- At most 32 bits in a row, from one register on, are told by the register behind them. -/
theorem mid_inj {x : Nat} (hx : x < 2 ^ 32) {u v : List Bool} (hl : u.length = v.length) (h32 : u.length ≤ 32) (h : feedB x u = feedB x v) : u = v := by
  rw [← tap_num, ← tap_num, ← hl] at h
  have hp : 2 ^ u.length ≤ 2 ^ 32 := Nat.pow_le_pow_right (by decide) h32
  have hu := num_lt u
  have hv := num_lt v
  rw [← hl] at hv
  have h' := tapN_inj _ (Nat.xor_lt_two_pow hx (by omega)) (Nat.xor_lt_two_pow hx (by omega)) h
  exact num_inj u v hl (xor_cancel_left h')

theorem feedB_append (x : Nat) (u v : List Bool) : feedB x (u ++ v) = feedB (feedB x u) v := List.foldl_append

theorem burst_bits {r : Nat} (hr : r < 2 ^ 32) {u v : List Bool} (hl : u.length = v.length) (f : Nat) (h : ∀ i, i < f ∨ f + 32 ≤ i → u[i]? = v[i]?) (he : feedB r u = feedB r v) : u = v := by
  have split3 : ∀ w : List Bool, w = w.take f ++ ((w.drop f).take 32 ++ w.drop (f + 32)) := by
    intro w
    rw [← List.drop_drop, List.take_append_drop, List.take_append_drop]
  have hpre : u.take f = v.take f := by
    apply List.ext_getElem?
    intro i
    rw [List.getElem?_take, List.getElem?_take]
    split
    · exact h i (by omega)
    · rfl
  have hpost : u.drop (f + 32) = v.drop (f + 32) := by
    apply List.ext_getElem?
    intro i
    rw [List.getElem?_drop, List.getElem?_drop]
    exact h _ (by omega)
  rw [split3 u, split3 v, feedB_append, feedB_append, feedB_append, feedB_append, hpre, hpost] at he
  have hx : feedB r (v.take f) < 2 ^ 32 := feedB_lt _ hr
  have hmid := mid_inj hx (u := (u.drop f).take 32) (v := (v.drop f).take 32) (by simp [hl]) (by simp; omega) (feedB_inj _ (feedB_lt _ hx) (feedB_lt _ hx) he)
  rw [split3 u, split3 v, hpre, hpost, hmid]

/-! ### Bytes -/

theorem bitsN_len (k : Nat) : ∀ n, (bitsN k n).length = k := by
  induction k with
  | zero => intro n; rfl
  | succ k ih => intro n; simp [bitsN, ih]
theorem num_bitsN (k : Nat) : ∀ n, n < 2 ^ k → num (bitsN k n) = n := by
  induction k with
  | zero => intro n h; simp only [bitsN, num]; omega
  | succ k ih =>
    intro n h
    simp only [bitsN, num]
    rw [ih (n / 2) (by rw [Nat.pow_succ] at h; omega)]
    rcases Nat.mod_two_eq_zero_or_one n with h0 | h0 <;> simp [h0] <;> omega
theorem bitsN_get (k : Nat) : ∀ n i, i < k → (bitsN k n)[i]? = some (n.testBit i) := by
  induction k with
  | zero => intro n i h; omega
  | succ k ih =>
    intro n i h
    cases i with
    | zero => simp only [bitsN, List.getElem?_cons_zero, Nat.testBit_zero]; rcases Nat.mod_two_eq_zero_or_one n with h0 | h0 <;> simp [h0]
    | succ i => simp only [bitsN, List.getElem?_cons_succ]; rw [ih _ _ (by omega), Nat.testBit_succ]

def thr (r b : Nat) : Nat := tapN 8 (r ^^^ b)
theorem thr_bits (r b : Nat) (h : b < 256) : thr r b = feedB r (bitsN 8 b) := by
  have := tap_num (bitsN 8 b) r
  rw [bitsN_len, num_bitsN 8 b h] at this
  exact this

def feedL (r : Nat) (l : List UInt8) : Nat := l.foldl (fun r b => thr r b.toNat) r
def bitsL (l : List UInt8) : List Bool := l.flatMap fun b => bitsN 8 b.toNat
theorem feedL_bits (l : List UInt8) : ∀ r, feedL r l = feedB r (bitsL l) := by
  induction l with
  | nil => intro r; rfl
  | cons b l ih =>
    intro r
    show feedL (thr r b.toNat) l = feedB r (bitsN 8 b.toNat ++ bitsL l)
    rw [feedB_append, ih, thr_bits _ _ b.toNat_lt]
theorem feedL_append (r : Nat) (l m : List UInt8) : feedL r (l ++ m) = feedL (feedL r l) m := List.foldl_append
theorem feedL_lt (l : List UInt8) {r : Nat} (h : r < 2 ^ 32) : feedL r l < 2 ^ 32 := by rw [feedL_bits]; exact feedB_lt _ h
theorem thr_lt {r b : Nat} (h : r < 2 ^ 32) (hb : b < 256) : thr r b < 2 ^ 32 := by rw [thr_bits _ _ hb]; exact feedB_lt _ h

/-- The sum of bytes. -/
def sumL (l : List UInt8) : Nat := 4294967295 - feedL 4294967295 l
theorem sumL_lt (l : List UInt8) : sumL l < 4294967296 := by unfold sumL; omega
theorem full_lt : (4294967295 : Nat) < 2 ^ 32 := by decide
theorem sumL_eq {l m : List UInt8} (h : sumL l = sumL m) : feedL 4294967295 l = feedL 4294967295 m := by
  have h1 := feedL_lt l full_lt
  have h2 := feedL_lt m full_lt
  unfold sumL at h
  omega

/-- A sum's bytes, the highest first. -/
def four (x : Nat) : List UInt8 := [UInt8.ofNat (x / 16777216), UInt8.ofNat (x / 65536), UInt8.ofNat (x / 256), UInt8.ofNat x]
theorem four_len (x : Nat) : (four x).length = 4 := rfl
theorem four_inj {x y : Nat} (hx : x < 4294967296) (hy : y < 4294967296) (h : four x = four y) : x = y := by
  unfold four at h
  simp only [List.cons.injEq, and_true] at h
  obtain ⟨h1, h2, h3, h4⟩ := h
  have g1 := congrArg UInt8.toNat h1
  have g2 := congrArg UInt8.toNat h2
  have g3 := congrArg UInt8.toNat h3
  have g4 := congrArg UInt8.toNat h4
  simp only [UInt8.toNat_ofNat'] at g1 g2 g3 g4
  omega

/-! ### Bits of bytes -/

def bitL (l : List UInt8) (i : Nat) : Bool := (l.getD (i / 8) 0).toNat.testBit (i % 8)

theorem bitsL_len (l : List UInt8) : (bitsL l).length = 8 * l.length := by
  induction l with
  | nil => rfl
  | cons b l ih => simp only [bitsL, List.flatMap_cons, List.length_append, bitsN_len, List.length_cons]; unfold bitsL at ih; omega
theorem bitsL_get (l : List UInt8) : ∀ i, i < 8 * l.length → (bitsL l)[i]? = some (bitL l i) := by
  induction l with
  | nil => intro i h; simp at h
  | cons b l ih =>
    intro i h
    show (bitsN 8 b.toNat ++ bitsL l)[i]? = _
    by_cases h8 : i < 8
    · rw [List.getElem?_append_left (by rw [bitsN_len]; exact h8), bitsN_get _ _ _ h8]
      unfold bitL
      rw [show i / 8 = 0 by omega, show i % 8 = i by omega]
      rfl
    · rw [List.getElem?_append_right (by rw [bitsN_len]; omega), bitsN_len, ih _ (by simp at h; omega)]
      unfold bitL
      rw [show i / 8 = (i - 8) / 8 + 1 by omega, show i % 8 = (i - 8) % 8 by omega]
      rfl

theorem byte_ext {a b : UInt8} (h : ∀ k, k < 8 → a.toNat.testBit k = b.toNat.testBit k) : a = b := by
  apply UInt8.toNat_inj.1
  apply Nat.eq_of_testBit_eq
  intro k
  by_cases hk : k < 8
  · exact h k hk
  · have ha := a.toNat_lt
    have hb := b.toNat_lt
    have : (2 : Nat) ^ 8 ≤ 2 ^ k := Nat.pow_le_pow_right (by decide) (by omega)
    rw [Nat.testBit_lt_two_pow (by omega), Nat.testBit_lt_two_pow (by omega)]

theorem list_ext {l m : List UInt8} (hl : l.length = m.length) (h : ∀ i, i < 8 * l.length → bitL l i = bitL m i) : l = m := by
  apply List.ext_getElem hl
  intro j h1 h2
  apply byte_ext
  intro k hk
  have := h (8 * j + k) (by omega)
  unfold bitL at this
  rw [show (8 * j + k) / 8 = j by omega, show (8 * j + k) % 8 = k by omega] at this
  simpa [List.getD_eq_getElem?_getD, h1, h2] using this

/-- Bits turned within 32 in a row are told by the sum. -/
theorem burst {s t : List UInt8} (hl : s.length = t.length) (f : Nat) (h : ∀ i, i < 8 * s.length → i < f ∨ f + 32 ≤ i → bitL s i = bitL t i) (he : sumL s = sumL t) : s = t := by
  have h1 := sumL_eq he
  rw [feedL_bits, feedL_bits] at h1
  have hbl : (bitsL s).length = (bitsL t).length := by rw [bitsL_len, bitsL_len, hl]
  have hb := burst_bits full_lt hbl f (fun i hi => by
    by_cases hs : i < 8 * s.length
    · rw [bitsL_get s i hs, bitsL_get t i (by omega), h i hs hi]
    · rw [List.getElem?_eq_none (by rw [bitsL_len]; omega), List.getElem?_eq_none (by rw [bitsL_len]; omega)]) h1
  apply list_ext hl
  intro i hi
  have h2 := bitsL_get s i hi
  rw [hb, bitsL_get t i (by omega)] at h2
  exact (Option.some.inj h2).symm

/-! ### Bits turned -/

/-- The bytes with one bit turned. -/
def flip (l : List UInt8) (i : Nat) : List UInt8 := l.set (i / 8) (UInt8.ofNat ((l.getD (i / 8) 0).toNat ^^^ 2 ^ (i % 8)))
theorem flip_len (l : List UInt8) (i : Nat) : (flip l i).length = l.length := by simp [flip]
theorem flip_bit {l : List UInt8} {i : Nat} (h : i < 8 * l.length) (k : Nat) : bitL (flip l i) k = (bitL l k ^^ decide (k = i)) := by
  unfold bitL flip
  have hi : i / 8 < l.length := by omega
  by_cases hk : k / 8 = i / 8
  · have hg : (l.set (i / 8) (UInt8.ofNat ((l.getD (i / 8) 0).toNat ^^^ 2 ^ (i % 8)))).getD (k / 8) 0 = UInt8.ofNat ((l.getD (i / 8) 0).toNat ^^^ 2 ^ (i % 8)) := by
      rw [hk, List.getD_eq_getElem?_getD, List.getElem?_set_self hi]; rfl
    have hlt : (l.getD (i / 8) 0).toNat ^^^ 2 ^ (i % 8) < 256 := by
      have h8 : i % 8 < 8 := by omega
      have hp : 2 ^ (i % 8) < 2 ^ 8 := Nat.pow_lt_pow_right (by decide) h8
      exact Nat.xor_lt_two_pow (n := 8) (l.getD (i / 8) 0).toNat_lt hp
    rw [hg, UInt8.toNat_ofNat', Nat.mod_eq_of_lt hlt, Nat.testBit_xor, Nat.testBit_two_pow, hk]
    congr 1
    apply decide_eq_decide.2
    omega
  · have hg : (l.set (i / 8) (UInt8.ofNat ((l.getD (i / 8) 0).toNat ^^^ 2 ^ (i % 8)))).getD (k / 8) 0 = l.getD (k / 8) 0 := by
      rw [List.getD_eq_getElem?_getD, List.getElem?_set_ne (by omega), ← List.getD_eq_getElem?_getD]
    rw [hg, decide_eq_false (by omega), Bool.xor_false]

/-- What stands behind k rounds: the bits of a mask turned from a place on; whether one was. -/
structure Turned (P : List UInt8) (f mask k : Nat) (L : List UInt8) (t : Bool) : Prop where
  len : L.length = P.length
  bit : ∀ i, bitL L i = (bitL P i ^^ decide (f ≤ i ∧ i < f + k ∧ mask.testBit (i - f) = true))
  was : t = true ↔ ∃ j, j < k ∧ mask.testBit j = true

theorem Turned.start (P : List UInt8) (f mask : Nat) : Turned P f mask 0 P false :=
  ⟨rfl, fun i => by rw [decide_eq_false (by omega), Bool.xor_false], ⟨(fun h => by cases h), fun ⟨j, h, _⟩ => by omega⟩⟩
theorem Turned.no {P L : List UInt8} {f mask k : Nat} {t : Bool} (h : Turned P f mask k L t) (hm : mask.testBit k = false) : Turned P f mask (k + 1) L t := by
  refine ⟨h.len, fun i => ?_, ?_⟩
  · rw [h.bit i]
    congr 1
    apply decide_eq_decide.2
    constructor
    · rintro ⟨a, b, c⟩; exact ⟨a, by omega, c⟩
    · rintro ⟨a, b, c⟩
      refine ⟨a, ?_, c⟩
      by_cases hi : i - f = k
      · rw [hi, hm] at c; cases c
      · omega
  · rw [h.was]
    constructor
    · rintro ⟨j, a, b⟩; exact ⟨j, by omega, b⟩
    · rintro ⟨j, a, b⟩
      by_cases hj : j = k
      · rw [hj, hm] at b; cases b
      · exact ⟨j, by omega, b⟩
theorem Turned.yes {P L : List UInt8} {f mask k : Nat} {t : Bool} (h : Turned P f mask k L t) (hm : mask.testBit k = true) (hk : f + k < 8 * P.length) : Turned P f mask (k + 1) (flip L (f + k)) true := by
  refine ⟨by rw [flip_len, h.len], fun i => ?_, ⟨fun _ => ⟨k, by omega, hm⟩, fun _ => rfl⟩⟩
  rw [flip_bit (by rw [h.len]; exact hk), h.bit i, Bool.xor_assoc]
  congr 1
  by_cases hi : i = f + k
  · subst hi
    rw [decide_eq_false (by omega), decide_eq_true rfl, decide_eq_true ⟨by omega, by omega, by rw [show f + k - f = k by omega]; exact hm⟩]
    rfl
  · rw [decide_eq_false hi, Bool.xor_false]
    apply decide_eq_decide.2
    constructor
    · rintro ⟨a, b, c⟩; exact ⟨a, by omega, c⟩
    · rintro ⟨a, b, c⟩; exact ⟨a, by omega, c⟩

theorem bitL_take {l : List UInt8} {n i : Nat} (h : i < 8 * n) : bitL (l.take n) i = bitL l i := by
  unfold bitL
  rw [List.getD_eq_getElem?_getD, List.getElem?_take, if_pos (by omega), ← List.getD_eq_getElem?_getD]
theorem bitL_drop (l : List UInt8) (n i : Nat) : bitL (l.drop n) i = bitL l (8 * n + i) := by
  unfold bitL
  rw [List.getD_eq_getElem?_getD, List.getElem?_drop, ← List.getD_eq_getElem?_getD, show (8 * n + i) / 8 = n + i / 8 by omega, show (8 * n + i) % 8 = i % 8 by omega]

/-- Bits turned within 32 in a row, all of them in the text or all in its sum, are told. -/
theorem turned_said {s L : List UInt8} {f mask k : Nat} {t : Bool} (h : Turned (s ++ four (sumL s)) f mask k L t) (hk : k ≤ 32) (hf : f + k ≤ 8 * s.length ∨ 8 * s.length ≤ f ∧ f + k ≤ 8 * (s.length + 4)) :
    t = true ↔ L.drop s.length ≠ four (sumL (L.take s.length)) := by
  have hPl : (s ++ four (sumL s)).length = s.length + 4 := by rw [List.length_append, four_len]
  have hL : L.length = s.length + 4 := by rw [h.len, hPl]
  have hs : (s ++ four (sumL s)).take s.length = s := List.take_left
  have hd : (s ++ four (sumL s)).drop s.length = four (sumL s) := List.drop_left
  constructor
  · intro ht heq
    obtain ⟨j, hj, hm⟩ := h.was.1 ht
    have hbit := h.bit (f + j)
    rw [decide_eq_true ⟨by omega, by omega, by rw [show f + j - f = j by omega]; exact hm⟩] at hbit
    rcases hf with hf | ⟨hf1, hf2⟩
    · have e1 : L.drop s.length = four (sumL s) := by
        rw [← hd]
        apply list_ext (by simp [hL, hPl, four_len])
        intro i _
        rw [bitL_drop, bitL_drop, h.bit, decide_eq_false (by omega), Bool.xor_false]
      have e2 := four_inj (sumL_lt _) (sumL_lt _) (e1.symm.trans heq)
      have e3 : s = L.take s.length := burst (by simp [hL]) f (fun i hi hio => by
        rw [bitL_take hi, h.bit, decide_eq_false (by omega), Bool.xor_false]
        conv => lhs; rw [← hs]
        exact bitL_take hi) e2
      have e4 : bitL L (f + j) = bitL s (f + j) := by rw [← bitL_take (l := L) (n := s.length) (by omega), ← e3]
      have e5 : bitL (s ++ four (sumL s)) (f + j) = bitL s (f + j) := by rw [← bitL_take (n := s.length) (by omega), hs]
      rw [e4, e5] at hbit
      cases hb : bitL s (f + j) <;> rw [hb] at hbit <;> cases hbit
    · have e1 : L.take s.length = s := by
        apply list_ext (by simp [hL])
        intro i hi
        have hi' : i < 8 * s.length := by rw [List.length_take, hL] at hi; omega
        rw [bitL_take hi', h.bit, decide_eq_false (by omega), Bool.xor_false, ← bitL_take (n := s.length) hi', hs]
      rw [e1] at heq
      have e2 : bitL L (f + j) = bitL (four (sumL s)) (f + j - 8 * s.length) := by rw [← heq, bitL_drop]; congr 1; omega
      have e3 : bitL (s ++ four (sumL s)) (f + j) = bitL (four (sumL s)) (f + j - 8 * s.length) := by
        conv => rhs; rw [← hd]
        rw [bitL_drop]; congr 1; omega
      rw [e2, e3] at hbit
      cases hb : bitL (four (sumL s)) (f + j - 8 * s.length) <;> rw [hb] at hbit <;> cases hbit
  · intro hne
    apply Classical.byContradiction
    intro ht
    apply hne
    have hLP : L = s ++ four (sumL s) := by
      apply list_ext h.len
      intro i _
      rw [h.bit, decide_eq_false, Bool.xor_false]
      rintro ⟨a, b, c⟩
      exact ht (h.was.2 ⟨i - f, by omega, c⟩)
    rw [hLP, hs, hd]

/-! ### What the code does, round by round -/

theorem tapN_last (k : Nat) : ∀ x, tapN (k + 1) x = tap (tapN k x) := by
  induction k with
  | zero => intro x; rfl
  | succ k ih => intro x; exact ih (tap x)
/-- The bit that goes out makes the mask. -/
theorem tap_code (x : Nat) : x / 2 ^^^ (2197175160 &&& ((4294967296 - x % 2) % 4294967296)) = tap x := by
  unfold tap stepB
  congr 1
  rw [Nat.testBit_zero]
  rcases Nat.mod_two_eq_zero_or_one x with h | h <;> rw [h] <;> decide

theorem feed_next (x c k : Nat) (h : k < 8) : feedB x ((bitsN 8 c).take (k + 1)) = stepB (feedB x ((bitsN 8 c).take k)) (c.testBit k) := by
  have h1 := bitsN_get 8 c k h
  rw [List.take_add_one, h1, feedB_append]
  rfl
theorem feed_all (x c : Nat) (h : c < 256) : feedB x ((bitsN 8 c).take 8) = thr x c := by
  rw [List.take_of_length_le (by rw [bitsN_len]; exact Nat.le_refl 8), thr_bits _ _ h]

/-- The register turned, from a bit on. -/
def turnedFrom (r i : Nat) : Nat := (4294967295 - r) / 2 ^ i
theorem turned_top (r : Nat) : turnedFrom r 32 = 0 := by unfold turnedFrom; omega
theorem turned_next (r i : Nat) (hr : r < 4294967296) (hi : i < 32) : turnedFrom r i = 2 * turnedFrom r (i + 1) + (if r.testBit i then 0 else 1) := by
  unfold turnedFrom
  have h1 := Nat.testBit_two_pow_sub_succ (n := 32) (x := r) (by simpa using hr) i
  rw [decide_eq_true hi, Bool.true_and, show 2 ^ 32 - (r + 1) = 4294967295 - r by omega, Nat.testBit_eq_decide_div_mod_eq] at h1
  rw [Nat.pow_succ, ← Nat.div_div_eq_div_mul]
  cases hb : r.testBit i with
  | true => rw [hb] at h1; simp at h1 ⊢; omega
  | false => rw [hb] at h1; simp at h1 ⊢; omega

/-- The register moved down so far. -/
def down (x k : Nat) (j : Nat) : Bool := if j < k then x.testBit (j + 1) else x.testBit j
theorem down_all (x j : Nat) (hx : x < 4294967296) (hj : j < 32) : (if j = 31 then false else down x 31 j) = (x / 2).testBit j := by
  rw [Nat.testBit_div_two]
  unfold down
  by_cases h : j = 31
  · subst h; rw [if_pos rfl, Nat.testBit_lt_two_pow (by simpa using hx)]
  · rw [if_neg h, if_pos (by omega)]
/-- The taps added so far. -/
def added (y k : Nat) (j : Nat) : Bool := if j < k then (y ^^^ 2197175160).testBit j else y.testBit j

end Go.Proofs.YtfbaenhajlckjaaGreat
