/- A text with its sum behind it, put and taken. -/
import Derived.Test.YtmpmkjanpnolaaaSum
import Derived.Laws.IdiomStrings
import Derived.Deep.QuietTactic
import Derived.BigQuiet
import Derived.Below
set_option linter.unusedVariables false
namespace Go.Proofs.Ytmpmkjanpnolaaa
open Go.RowKit

/-- A list of bytes as a string. -/
def bs (l : List UInt8) : ByteArray := ⟨l.toArray⟩
theorem bs_list (l : List UInt8) : (bs l).data.toList = l := rfl
theorem bs_size (l : List UInt8) : (bs l).size = l.length := by rw [Lib.size_eq, bs_list]
theorem bs_eq {s : ByteArray} {l : List UInt8} (h : s.data.toList = l) : s = bs l := by
  obtain ⟨⟨x⟩⟩ := s
  subst h
  rfl
theorem bs_inj {l m : List UInt8} (h : bs l = bs m) : l = m := by rw [← bs_list l, h, bs_list]
theorem cat_list (a b : ByteArray) : (a ++ b).data.toList = a.data.toList ++ b.data.toList := by
  obtain ⟨⟨x⟩⟩ := a
  obtain ⟨⟨y⟩⟩ := b
  simp
theorem cat_bs (s : ByteArray) (l : List UInt8) : s ++ bs l = bs (s.data.toList ++ l) := bs_eq (by rw [cat_list, bs_list])

theorem row_new (w : World) (T : List ByteArray) (t : TypeId) : RowS w.heap.size 0 T (w.alloc (.cells (T.map Value.string).toArray t)) := by
  intro k hk
  refine ⟨by show w.heap.size < (w.heap.push _).size; simp, ?_⟩
  rw [World.cell?_alloc_mark]
  simp [hk, List.getD_eq_getElem?_getD]

theorem ofNat_toNat (n : Nat) : (UInt8.ofNat n).toNat = n % 256 := UInt8.toNat_ofNat'

theorem conv_four (W : World) (g x : Nat) (hg : g = W.heap.size) (c0 c1 c2 c3 : Int) (h0 : c0 = ((x / 16777216 % 256 : Nat) : Int)) (h1 : c1 = ((x / 65536 % 256 : Nat) : Int)) (h2 : c2 = ((x / 256 % 256 : Nat) : Int)) (h3 : c3 = ((x % 256 : Nat) : Int)) :
    (convert 36 9 (.slice (some ⟨g, 0, none⟩) 4 4)).run Try.prog (W.alloc (.cells #[.int .u8 c0, .int .u8 c1, .int .u8 c2, .int .u8 c3] 5)) = .ok (.string (bs (four x))) (W.alloc (.cells #[.int .u8 c0, .int .u8 c1, .int .u8 c2, .int .u8 c3] 5)) := by
  subst hg h0 h1 h2 h3
  refine run_convert_bytes_back (P := Try.prog) _ 36 9 5 ⟨W.heap.size, 0, none⟩ 4 (four x) Try.underlying36 Try.underlying5 Try.underlying9 ?_
  intro j hj
  have hj4 : j < 4 := hj
  have hadd : (⟨W.heap.size, 0, none⟩ : Addr).add j = ⟨W.heap.size, 0 + j, none⟩ := by unfold Addr.add; split <;> simp_all
  rw [hadd, World.cell?_alloc_mark]
  have : j = 0 ∨ j = 1 ∨ j = 2 ∨ j = 3 := by omega
  rcases this with rfl | rfl | rfl | rfl <;> simp [four, ofNat_toNat]

set_option maxHeartbeats 400000 in
theorem crc_sumOf (s : ByteArray) (w : World) (hs : s.size ≤ 140737488355328) :
    Calls Try.prog 15 #[.string s] w fun e w' => e = .returned (.string (bs (four (sumL s.data.toList)))) ∧ Below w.heap.size w w' := by
  have hrow := row_new w [s] 9
  have hj : joined [s] = s.data.toList := by simp [joined]
  have hlt := sumL_lt s.data.toList
  obtain ⟨x, hx⟩ : ∃ x, x = sumL s.data.toList := ⟨_, rfl⟩
  rw [← hx] at hlt ⊢
  have HX := Lib.hid hx
  clear hx
  go_enter Try.func15, Try.ntmps15
  go_wp2_with fail
  refine (crc_Sum (some ⟨w.heap.size, 0, none⟩) w.heap.size 0 1 1 [s] _ (Lib.hid rfl) (by omega) (Lib.hid hrow) (Lib.hid (by simpa using hs)) (Lib.hid (.inr rfl))).mono ?_
  rintro e w1 ⟨rfl, rfl⟩
  rw [hj, ← HX.out]
  have hconv := conv_four (w.alloc (.cells #[.string s] 9)) (w.heap.size + 1) x (by simp) ((x : Int) / 16777216) ((x : Int) / 65536 % 256) ((x : Int) / 256 % 256) ((x : Int) % 256) (by omega) (by omega) (by omega) (by omega)
  go_wp2
  go_ret
  exact ⟨rfl, ((Below.refl _ _).alloc (Nat.le_refl _) _).alloc (by simp) _⟩

theorem take_split {s : ByteArray} {n : Nat} (h : n ≤ s.size) : s.extract 0 n = bs (s.data.toList.take n) ∧ s.extract n s.size = bs (s.data.toList.drop n) := by
  have hn : s.data.toList.length = s.size := by rw [← Lib.size_eq]
  constructor
  · exact bs_eq (by rw [Lib.extract_data]; simp)
  · exact bs_eq (by rw [Lib.extract_data, List.take_of_length_le (by rw [List.length_drop]; omega)])

set_option maxHeartbeats 400000 in
theorem crc_Put (s : ByteArray) (w : World) (hs : s.size ≤ 140737488351232) :
    Calls Try.prog 12 #[.string s] w fun e w' => e = .returned (.string (bs (s.data.toList ++ four (sumL s.data.toList)))) ∧ Below w.heap.size w w' := by
  have hcat := cat_bs s (four (sumL s.data.toList))
  have hsum : (s.size : Int) + ((bs (four (sumL s.data.toList))).size : Int) ≤ 9223372036854775807 := by rw [bs_size, four_len]; omega
  go_enter Try.func12, Try.ntmps12
  go_wp2_with fail
  refine (crc_sumOf s w (by omega)).mono ?_
  rintro e w1 ⟨rfl, k1⟩
  go_wp2
  go_ret
  exact ⟨rfl, k1⟩

/-- The worlds that a call may come to that writes nothing that was there. -/
structure Seen (W : World) where
  val : World
  below : Below W.heap.size W val
instance seen_any (W : World) : Nonempty (Seen W) := ⟨⟨W, Below.refl _ _⟩⟩
/-- A region that draws its order and whose operations write nothing that was there: one walk in the order of the text. -/
theorem region_seen {P : Program} {id : Nat} {Q : Exit → Act → World → Prop} {a : Act} {w : World} {l : List Oper} (hm : P.follows .mixedOrders = true) (hB : Region.lexB .any l.toArray = true)
    (h : wpQuiet P l.toArray (fun w' => ∃ n : Seen w, w' = n.val) (fun a' => ∀ w', (∃ n : Seen w, w' = n.val) → Q .normal a' w') l a) : (Code.region id l.toArray true).wp P Q a w :=
  wp_region_quiet (C := fun w' => ∃ n : Seen w, w' = n.val) hm hB ⟨⟨w.drew, (Below.refl _ _).drew⟩, rfl⟩ (by simpa using h)
theorem seen_sumOf (W : World) (s : ByteArray) (hs : s.size ≤ 140737488355328) (n : Seen W) : Calls Try.prog 15 #[.string s] n.val fun e w'' => e = .returned (.string (bs (four (sumL s.data.toList)))) ∧ ∃ m : Seen W, w'' = m.val :=
  (crc_sumOf s n.val hs).mono fun _ w'' ⟨h1, h2⟩ => ⟨h1, ⟨⟨w'', n.below.trans (h2.mono n.below.size)⟩, rfl⟩⟩

theorem same_bytes (l m : List UInt8) : ((bs l).toList == (bs m).toList) = true ↔ l = m := by
  rw [Lib.toList_data, Lib.toList_data, bs_list, bs_list, beq_iff_eq]

/-- What a text is without its sum; why it is none. -/
def okT (l : List UInt8) : Prop := l.drop (l.length - 4) = four (sumL (l.take (l.length - 4)))
instance (l : List UInt8) : Decidable (okT l) := by unfold okT; infer_instance
def takeT (l : List UInt8) : List UInt8 := if 4 ≤ l.length ∧ okT l then l.take (l.length - 4) else []
def takeE (l : List UInt8) : Int := if l.length < 4 then 2 else if okT l then 0 else 4
theorem ret2s {k : IntKind} {s s' : ByteArray} {b b' : Int} (h1 : s' = s) (h2 : b' = b) : Ending.returned (.tuple #[.string s, .int k b]) = Ending.returned (.tuple #[.string s', .int k b']) := by rw [h1, h2]

set_option maxHeartbeats 400000 in
theorem crc_Take (s : ByteArray) (w : World) (hs : s.size ≤ 140737488355328) :
    Calls Try.prog 10 #[.string s] w fun e w' => e = .returned (.tuple #[.string (bs (takeT s.data.toList)), .int .i64 (takeE s.data.toList)]) ∧ Below w.heap.size w w' := by
  have hl : s.data.toList.length = s.size := by rw [← Lib.size_eq]
  by_cases h4 : s.size < 4
  · have e1 : takeT s.data.toList = [] := by unfold takeT; rw [if_neg (by omega)]
    have e2 : takeE s.data.toList = 2 := by unfold takeE; rw [if_pos (by omega)]
    rw [e1, e2]
    clear e1 e2
    go_enter Try.func10, Try.ntmps10
    go_wp2
    go_ret2
    exact ⟨rfl, Below.refl _ _⟩
  · obtain ⟨n, hn⟩ : ∃ n : Nat, s.size = n + 4 := ⟨s.size - 4, by omega⟩
    obtain ⟨x1, x2⟩ := take_split (s := s) (n := n) (by omega)
    have hok : okT s.data.toList ↔ s.data.toList.drop n = four (sumL (s.data.toList.take n)) := by unfold okT; rw [hl, hn, Nat.add_sub_cancel]
    have e1 : takeT s.data.toList = if okT s.data.toList then s.data.toList.take n else [] := by
      unfold takeT
      rw [hl, hn, Nat.add_sub_cancel]
      by_cases h : okT s.data.toList
      · rw [if_pos ⟨by omega, h⟩, if_pos h]
      · rw [if_neg (fun x => h x.2), if_neg h]
    have e2 : takeE s.data.toList = if okT s.data.toList then 0 else 4 := by unfold takeE; rw [if_neg (by omega)]
    have hsz : ((s.size : Int) - 4) = (n : Int) := by omega
    have hle : n ≤ s.size := by omega
    have hlen : (s.data.toList.take n).length ≤ 140737488355328 := by rw [List.length_take]; omega
    have HN := Lib.hid hn
    clear hn
    go_enter Try.func10, Try.ntmps10
    go_wp2_with fail
    refine region_seen (by kernel_rfl) (by kernel_rfl) ?_
    repeat (go_big_quiet_step (first | (go_at_call 15; exact seen_sumOf _ _ (by rw [bs_size]; exact hlen) _)))
    refine wpQuiet_nil ?_
    rintro _ ⟨m, rfl⟩
    go_wp2_with fail
    · rename_i h
      rw [Bool.not_eq_true', Bool.eq_false_iff, Ne, same_bytes, bs_list, ← hok] at h
      go_ret2
      exact ⟨ret2s (by rw [e1, if_neg h]; rfl) (by rw [e2, if_neg h]), m.below⟩
    · rename_i h
      rw [Bool.not_eq_false', same_bytes, bs_list, ← hok] at h
      go_ret2
      exact ⟨ret2s (by rw [e1, if_pos h]) (by rw [e2, if_pos h]), m.below⟩
end Go.Proofs.Ytmpmkjanpnolaaa
