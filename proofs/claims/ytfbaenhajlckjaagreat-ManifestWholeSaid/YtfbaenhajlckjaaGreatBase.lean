/- What all layers share: bytes as strings, rows of strings, regions that write nothing that was there. -/
import Derived.Test.YtfbaenhajlckjaaGreatChecked
import Derived.WalkKit
import Derived.WalkSpells
import Derived.WalkLawsBesides
import Derived.Lib.Hide
import Derived.Lib.Strings
import Derived.Laws.BitsAllLaws
import Derived.Laws.IdiomStrings
import Derived.Deep.QuietTactic
import Derived.BigQuiet
import Derived.Below
set_option linter.unusedVariables false
set_option maxRecDepth 100000
namespace Go.Proofs.YtfbaenhajlckjaaGreat
open Go.RowKit

theorem info5 : (Tryz.prog.info? 5).map (fun i => (i.zero, i.size, i.bytes)) = some (some (.int .u8 0), 1, 1) := by kernel_rfl
/-- The texts that stand in a row of strings. -/
def RowS (b off : Nat) (T : List ByteArray) (w : World) : Prop := ∀ k, k < T.length → b < w.heap.size ∧ w.cell? ⟨b, off + k, none⟩ = some (.string (T.getD k ByteArray.empty))
/-- A list of bytes as a string. -/
def bs (l : List UInt8) : ByteArray := ⟨l.toArray⟩
theorem bs_list (l : List UInt8) : (bs l).data.toList = l := rfl
theorem bs_size (l : List UInt8) : (bs l).size = l.length := by rw [Lib.size_eq, bs_list]
theorem bs_eq {s : ByteArray} {l : List UInt8} (h : s.data.toList = l) : s = bs l := by
  obtain ⟨⟨x⟩⟩ := s
  subst h
  rfl
theorem bs_inj {l m : List UInt8} (h : bs l = bs m) : l = m := by rw [← bs_list l, h, bs_list]
theorem cat_list (a b : ByteArray) : (a ++ b).data.toList = a.data.toList ++ b.data.toList := by
  obtain ⟨⟨x⟩⟩ := a
  obtain ⟨⟨y⟩⟩ := b
  simp
theorem cat_bs (s : ByteArray) (l : List UInt8) : s ++ bs l = bs (s.data.toList ++ l) := bs_eq (by rw [cat_list, bs_list])

theorem row_new (w : World) (T : List ByteArray) (t : TypeId) : RowS w.heap.size 0 T (w.alloc (.cells (T.map Value.string).toArray t)) := by
  intro k hk
  refine ⟨by show w.heap.size < (w.heap.push _).size; simp, ?_⟩
  rw [World.cell?_alloc_mark]
  simp [hk, List.getD_eq_getElem?_getD]

theorem ofNat_toNat (n : Nat) : (UInt8.ofNat n).toNat = n % 256 := UInt8.toNat_ofNat'

theorem bs_cat (l : List UInt8) (s : ByteArray) : bs l ++ s = bs (l ++ s.data.toList) := bs_eq (by rw [cat_list, bs_list])
theorem take_split {s : ByteArray} {n : Nat} (h : n ≤ s.size) : s.extract 0 n = bs (s.data.toList.take n) ∧ s.extract n s.size = bs (s.data.toList.drop n) := by
  have hn : s.data.toList.length = s.size := by rw [← Lib.size_eq]
  constructor
  · exact bs_eq (by rw [Lib.extract_data]; simp)
  · exact bs_eq (by rw [Lib.extract_data, List.take_of_length_le (by rw [List.length_drop]; omega)])

theorem same_bytes (l m : List UInt8) : ((bs l).toList == (bs m).toList) = true ↔ l = m := by
  rw [Lib.toList_data, Lib.toList_data, bs_list, bs_list, beq_iff_eq]

theorem ret2s {k : IntKind} {s s' : ByteArray} {b b' : Int} (h1 : s' = s) (h2 : b' = b) : Ending.returned (.tuple #[.string s, .int k b]) = Ending.returned (.tuple #[.string s', .int k b']) := by rw [h1, h2]

theorem RowS.below {b off : Nat} {T : List ByteArray} {w w' : World} (h : RowS b off T w) (k : Below w.heap.size w w') : RowS b off T w' := by
  intro i hi
  obtain ⟨h1, h2⟩ := h i hi
  exact ⟨Nat.lt_of_lt_of_le h1 k.size, by rw [k.cell h1]; exact h2⟩
/-- The worlds that a call may come to that writes nothing that was there. -/
structure Seen (W : World) where
  val : World
  below : Below W.heap.size W val
instance seen_any (W : World) : Nonempty (Seen W) := ⟨⟨W, Below.refl _ _⟩⟩
/-- A region that draws its order and whose operations write nothing that was there: one walk in the order of the text. -/
theorem region_seen {P : Program} {id : Nat} {Q : Exit → Act → World → Prop} {a : Act} {w : World} {l : List Oper} (hm : P.follows .mixedOrders = true) (hB : Region.lexB .any l.toArray = true)
    (h : wpQuiet P l.toArray (fun w' => ∃ n : Seen w, w' = n.val) (fun a' => ∀ w', (∃ n : Seen w, w' = n.val) → Q .normal a' w') l a) : (Code.region id l.toArray true).wp P Q a w :=
  wp_region_quiet (C := fun w' => ∃ n : Seen w, w' = n.val) hm hB ⟨⟨w.drew, (Below.refl _ _).drew⟩, rfl⟩ (by simpa using h)
theorem addr_add (b o j : Nat) : (⟨b, o, none⟩ : Addr).add j = ⟨b, o + j, none⟩ := by unfold Addr.add; split <;> simp_all
/-- WHAT IS KNOWN OF A SLICE OF TEXTS THAT CAME IN. -/
def IsTexts (w : World) (a : Option Addr) (len : Nat) (T : List ByteArray) : Prop :=
  len = T.length ∧ ∃ b off, (len = 0 ∨ a = some ⟨b, off, none⟩) ∧ RowS b off T w

theorem take_get {α : Type} (l : List α) (d : α) (n k : Nat) (h : k < n) : (l.take n).getD k d = l.getD k d := by
  simp [List.getD_eq_getElem?_getD, List.getElem?_take, h]
theorem cell_block {w : World} {b o : Nat} {v : Value} (h : w.cell? ⟨b, o, none⟩ = some v) : b < w.heap.size := by
  rcases Nat.lt_or_ge b w.heap.size with h' | h'
  · exact h'
  · simp [World.cell?, Array.getElem?_eq_none h'] at h

theorem texts_is {w : World} {x : Addr} {len cap : Nat} {ss : List ByteArray} (hl : len ≤ cap) (hz : ss.length = cap) (hcell : ∀ i, i < ss.length → w.cell? (x.add i) = some (.string (ss.getD i ByteArray.empty))) :
    IsTexts w (some x) len (ss.take len) := by
  refine ⟨by rw [List.length_take]; omega, ?_⟩
  by_cases h0 : len = 0
  · subst h0
    exact ⟨0, 0, .inl rfl, fun k hk => absurd hk (by simp)⟩
  · obtain ⟨b, off, spot⟩ := x
    have hspot : spot = none := by simpa [Addr.add] using World.cell?_spot (hcell 0 (by omega))
    subst hspot
    refine ⟨b, off, .inr rfl, fun k hk => ?_⟩
    have hk' : k < len := by rw [List.length_take] at hk; omega
    have h1 := hcell k (by omega)
    rw [addr_add] at h1
    rw [take_get ss ByteArray.empty len k hk']
    exact ⟨cell_block h1, h1⟩

end Go.Proofs.YtfbaenhajlckjaaGreat
