/- Texts put together: SixBuilder, SixWriter, SixTexts, SixAwake, SixOther -/
import Derived.Test.YtgljjdldhnajdaaGreatMPac00
import Derived.Lib.FrozenHead2
import Derived.Lib.OthersKept
import Derived.Lib.Slices
import Derived.Lib.UnsafeStr
import Derived.Lib.Walk
import Derived.Laws.Externs
import Derived.RegionTactic
import Derived.Deep.RegionWith
/- strings.Builder as the one field of package six's Writer: what copyCheck, WriteByte, WriteString and String do in its block. -/
set_option linter.unusedVariables false
set_option maxRecDepth 100000
namespace Go.Proofs.YtgljjdldhnajdaaGreat
open Go.RowKit

theorem u61 : Tryz.prog.underlying 133 = some (.pointer 135) := by kernel_rfl
theorem u86 : Tryz.prog.underlying 262 = some .unsafePointer := by kernel_rfl
theorem size63 : (Tryz.prog.info? 135).map (·.size) = some 2 := by kernel_rfl
theorem lies65 : liesAt Tryz.prog Tryz.prog.depth 137 (2 / Tryz.prog.cellsOf 137) 0 135 1 = true := by kernel_rfl
theorem cells5 : Tryz.prog.cellsOf 5 = 1 := by kernel_rfl

set_option maxHeartbeats 1000000 in
theorem copyCheck_used (b : Nat) (w : World) (h0 : w.cell? ⟨b, 0, none⟩ = some (.pointer (some ⟨b, 0, none⟩))) :
    Calls Tryz.prog 168 #[.pointer (some ⟨b, 0, none⟩)] w fun e w' => e = .returned (.tuple #[]) ∧ w = w' := by
  obtain ⟨j, hj, hjs⟩ := Option.map_eq_some_iff.1 size63
  go_enter Tryz.func168, Tryz.ntmps168
  go_wp2
  first | rw [Lib.run_neq_ptr_same w _ u61 hj] | skip
  go_wp2
  go_end0
  exact ⟨rfl, rfl⟩

set_option maxHeartbeats 1000000 in
theorem copyCheck_fresh (b : Nat) (w : World) (h0 : w.cell? ⟨b, 0, none⟩ = some (.pointer none)) (hsh : w.shape? b = some (137, 2)) (hfz : w.frozen? ⟨b, 0, none⟩ = false) :
    Calls Tryz.prog 168 #[.pointer (some ⟨b, 0, none⟩)] w fun e w' => e = .returned (.tuple #[]) ∧ w.setCell ⟨b, 0, none⟩ (.pointer (some ⟨b, 0, none⟩)) = w' := by
  obtain ⟨j, hj, hjs⟩ := Option.map_eq_some_iff.1 size63
  go_enter Tryz.func168, Tryz.ntmps168
  go_wp2
  rw [Lib.run_to_unsafe w ⟨b, 0, none⟩ u61 u86 hj (by rw [hjs]; decide) hsh (Nat.zero_lt_succ 1)]
  simp only [Result.andThen]
  rw [Oper.upon_value]
  go_wp2
  rw [run_callFunc_extern Tryz.func197 (by kernel_rfl) (by kernel_rfl) (by kernel_rfl) (e := Extern.AbiNoEscape.same) (by kernel_rfl)]
  rw [Lib.run_noEscape]
  simp only [Result.andThen]
  rw [Oper.upon_value]
  go_wp2
  rw [Lib.run_from_unsafe w ⟨b, 0, none⟩ u86 u61 hj hsh lies65]
  simp only [Result.andThen]
  rw [Oper.upon_value]
  go_wp2
  go_end0
  exact ⟨rfl, rfl⟩

/-- In block b there is a writer that holds the bytes l; what it has laid lies in blocks from B on. -/
def Wt (B b : Nat) (l : List UInt8) (w : World) : Prop := Lib.IsBuilderF 137 5 B b (Lib.byteCells l) w

theorem Wt.lt {B b : Nat} {l : List UInt8} {w : World} (h : Wt B b l w) : b < w.heap.size := by
  rcases h with h | h
  · exact h.lt
  · exact h.lt
theorem Wt.le {B b : Nat} {l : List UInt8} {w : World} (h : Wt B b l w) : B ≤ b := by
  rcases h with h | h
  · exact h.1
  · exact h.1

theorem copyCheck_any (B b : Nat) (bs : List Value) (w : World) (h : Lib.IsBuilderF 137 5 B b bs w) :
    Calls Tryz.prog 168 #[.pointer (some ⟨b, 0, none⟩)] w fun e w' => e = .returned (.tuple #[]) ∧ (Lib.BuilderAtF 137 5 B b (.pointer (some ⟨b, 0, none⟩)) bs w' ∧ Below B w w') := by
  rcases h with h | h
  · refine (copyCheck_fresh b w h.cell0 h.shape h.frozen0).mono ?_
    rintro e w' ⟨rfl, rfl⟩
    exact ⟨rfl, h.used _, (Below.refl B w).setCell (p := ⟨b, 0, none⟩) h.1 _⟩
  · refine (copyCheck_used b w h.cell0).mono ?_
    rintro e w' ⟨rfl, rfl⟩
    exact ⟨rfl, h, Below.refl B _⟩

theorem byteCells_snoc (l : List UInt8) (c : UInt8) : Lib.byteCells (l ++ [c]) = Lib.byteCells l ++ [.int .u8 c.toNat] := by simp [Lib.byteCells]
theorem byteCells_append (l : List UInt8) (s : ByteArray) : Lib.byteCells (l ++ s.data.toList) = Lib.byteCells l ++ Lib.strCells s := by simp [Lib.byteCells, Lib.strCells]

set_option maxHeartbeats 2000000 in
set_option maxRecDepth 100000 in
theorem builder_WriteByte (B b : Nat) (l : List UInt8) (c : UInt8) (w : World) (h : Wt B b l w) (hlen : l.length + 1 ≤ 140737488355328) :
    Calls Tryz.prog 127 #[.pointer (some ⟨b, 0, none⟩), .int .u8 c.toNat] w fun e w' => e = .returned .nilIface ∧ Wt B b (l ++ [c]) w' ∧ Below B w w' := by
  have hBw : B ≤ w.heap.size := by have := h.lt; have := h.le; omega
  obtain ⟨i0, hi, hz0, hz1, hz2⟩ := info_parts info5
  have HL := Lib.hid (Lib.byteCells_length l)
  have HW := Lib.hid h
  clear h
  go_enter Tryz.func127, Tryz.ntmps127
  go_wp2_with (go_at_call 168; refine (copyCheck_any B b _ _ HW.out).mono ?_)
  rintro e w1 ⟨rfl, h1, hb1⟩
  obtain ⟨hB, v, hbk, hown, hne⟩ := h1
  have c0 : w1.cell? ⟨b, 0, none⟩ = some (.pointer (some ⟨b, 0, none⟩)) := by rw [Lib.cell_of_heap hbk]; rfl
  have c1 : w1.cell? ⟨b, 1, none⟩ = some v := by rw [Lib.cell_of_heap hbk]; rfl
  go_wp2_with (at_builtin; refine wpList_append_ownF _ rfl _ _ 110 rfl B 5 i0 (.int .u8 0) 1 1 Tryz.underlying110 hi hz0 hz1 hz2 rfl (by decide) _ _ _ rfl (hown.alloc _) ⟨w1.heap.size, 0, none⟩ 1 1 [.int .u8 (c.toNat : Int)] rfl rfl ?c1 ?c2 ?c3 ?c4 ?c5 ?_)
  case c1 =>
    intro j u hj
    match j, hj with
    | 0, hj => simp at hj; subst hj; simp [Addr.add]
  case c2 => intro u hu; simp at hu; subst hu; rfl
  case c3 => unfold maxLen; have := HL.out; omega
  case c4 => have := HL.out; omega
  case c5 => have := hb1.size; simp; omega
  intro v' w2 hown' hgrow _
  have hlt : b < w1.heap.size := by
    rcases Nat.lt_or_ge b w1.heap.size with h' | h'
    · exact h'
    · simp [Array.getElem?_eq_none h'] at hbk
  have hb2 : w2.heap[b]? = some (.cells #[.pointer (some ⟨b, 0, none⟩), v] 137 (0, 0)) := by
    rw [hgrow.block b (by simp; omega) (fun e => hne e.symm)]
    exact (Lib.alloc_old w1 _ b hlt).trans hbk
  have d0 : w2.cell? ⟨b, 0, none⟩ = some (.pointer (some ⟨b, 0, none⟩)) := by rw [Lib.cell_of_heap hb2]; rfl
  have d1 : w2.cell? ⟨b, 1, none⟩ = some v := by rw [Lib.cell_of_heap hb2]; rfl
  have f1 : w2.frozen? ⟨b, 1, none⟩ = false := Lib.frozen_of_heap hb2 1
  obtain ⟨ao, n', cap, rfl⟩ : ∃ ao n' cap, v' = .slice ao n' cap := by
    rcases hown'.2 with ⟨hv, _⟩ | ⟨g, cap, cur, fz, hv, _⟩
    · exact ⟨_, _, _, hv⟩
    · exact ⟨_, _, _, hv⟩
  go_wp2
  go_ret
  refine ⟨rfl, ?_, ?_⟩
  · refine .inr ?_
    rw [byteCells_snoc]
    exact Lib.BuilderAtF.put (T := 137) (e := 5) hB hb2 (bs' := Lib.byteCells l ++ [.int .u8 (c.toNat : Int)]) (by simpa using hown') (by decide)
  · exact ((hb1.alloc (by have := hb1.size; omega) _).grown hgrow (by have := hb1.size; simp; omega) (fun k hk => (hown.lt k hk).1)).setCell (p := ⟨b, 1, none⟩) hB _

set_option maxHeartbeats 2000000 in
set_option maxRecDepth 100000 in
theorem builder_WriteString (B b : Nat) (l : List UInt8) (s : ByteArray) (w : World) (h : Wt B b l w) (hlen : l.length + s.size ≤ 140737488355328) :
    Calls Tryz.prog 128 #[.pointer (some ⟨b, 0, none⟩), .string s] w fun e w' => e = .returned (.tuple #[.int .i64 s.size, .nilIface]) ∧ Wt B b (l ++ s.data.toList) w' ∧ Below B w w' := by
  have hBw : B ≤ w.heap.size := by have := h.lt; have := h.le; omega
  obtain ⟨i0, hi, hz0, hz1, hz2⟩ := info_parts info5
  have HL := Lib.hid (Lib.byteCells_length l)
  have HW := Lib.hid h
  clear h
  go_enter Tryz.func128, Tryz.ntmps128
  go_wp2_with (go_at_call 168; refine (copyCheck_any B b _ _ HW.out).mono ?_)
  rintro e w1 ⟨rfl, h1, hb1⟩
  obtain ⟨hB, v, hbk, hown, hne⟩ := h1
  have c0 : w1.cell? ⟨b, 0, none⟩ = some (.pointer (some ⟨b, 0, none⟩)) := by rw [Lib.cell_of_heap hbk]; rfl
  have c1 : w1.cell? ⟨b, 1, none⟩ = some v := by rw [Lib.cell_of_heap hbk]; rfl
  go_wp2_with (at_builtin; refine Lib.wpList_append_own_stringF _ rfl _ _ 110 9 rfl B 5 i0 Tryz.underlying110 Tryz.underlying9 hi hz0 hz1 hz2 _ _ _ rfl hown s rfl ?c3 ?c4 ?c5 ?_)
  case c3 => unfold maxLen; have := HL.out; omega
  case c4 => have := HL.out; omega
  case c5 => have := hb1.size; omega
  intro v' w2 hown' hgrow _
  have hlt : b < w1.heap.size := by
    rcases Nat.lt_or_ge b w1.heap.size with h' | h'
    · exact h'
    · simp [Array.getElem?_eq_none h'] at hbk
  have hb2 : w2.heap[b]? = some (.cells #[.pointer (some ⟨b, 0, none⟩), v] 137 (0, 0)) := by
    rw [hgrow.block b hlt (fun e => hne e.symm)]
    exact hbk
  have d0 : w2.cell? ⟨b, 0, none⟩ = some (.pointer (some ⟨b, 0, none⟩)) := by rw [Lib.cell_of_heap hb2]; rfl
  have d1 : w2.cell? ⟨b, 1, none⟩ = some v := by rw [Lib.cell_of_heap hb2]; rfl
  have f1 : w2.frozen? ⟨b, 1, none⟩ = false := Lib.frozen_of_heap hb2 1
  obtain ⟨ao, n', cap, rfl⟩ : ∃ ao n' cap, v' = .slice ao n' cap := by
    rcases hown'.2 with ⟨hv, _⟩ | ⟨g, cap, cur, fz, hv, _⟩
    · exact ⟨_, _, _, hv⟩
    · exact ⟨_, _, _, hv⟩
  go_wp2
  go_ret2
  refine ⟨rfl, ?_, ?_⟩
  · refine .inr ?_
    rw [byteCells_append]
    exact Lib.BuilderAtF.put (T := 137) (e := 5) hB hb2 (bs' := Lib.byteCells l ++ Lib.strCells s) (by simpa [Lib.strCells_length] using hown') (by decide)
  · exact (hb1.grown hgrow (by have := hb1.size; omega) (fun k hk => (hown.lt k hk).1)).setCell (p := ⟨b, 1, none⟩) hB _

theorem u85 : Tryz.prog.underlying 179 = some (.pointer 5) := by kernel_rfl

set_option maxHeartbeats 1000000 in
set_option maxRecDepth 100000 in
theorem builder_String_some (B b : Nat) (l : List UInt8) (w : World) (h : Wt B b l w) (h0 : l ≠ []) :
    Calls Tryz.prog 76 #[.pointer (some ⟨b, 0, none⟩)] w fun e w' => e = .returned (.string (bs l)) ∧ Wt B b l w' ∧ Below B w w' ∧ Lib.OthersKept 5 (some b) w w' := by
  obtain ⟨p, hp, hAt⟩ : ∃ p, (p = .pointer none ∨ p = .pointer (some ⟨b, 0, none⟩)) ∧ Lib.BuilderAtF 137 5 B b p (Lib.byteCells l) w := by
    rcases h with h | h
    · exact ⟨_, .inl rfl, h⟩
    · exact ⟨_, .inr rfl, h⟩
  obtain ⟨hB, v, hbk, hown, hne⟩ := hAt
  have hl0 : l.length ≠ 0 := by simpa using h0
  rw [Lib.byteCells_length] at hown
  obtain ⟨g, cap, cur, fz, rfl, hbg, hg, hfz, hnc, hcm, hcs, htake⟩ : ∃ g cap cur fz, v = .slice (some ⟨g, 0, none⟩) l.length cap ∧ B ≤ g ∧ w.heap[g]? = some (.cells cur 5 fz) ∧ fz.2 ≤ l.length * 1 ∧ l.length ≤ cap ∧ cap ≤ maxLen ∧ cur.size = cap * 1 ∧ cur.toList.take (l.length * 1) = Lib.byteCells l := by
    rcases hown.2 with ⟨_, hz⟩ | ⟨g, cap, cur, fz, hv, r⟩
    · exact absurd hz hl0
    · exact ⟨g, cap, cur, fz, hv, r⟩
  have c1 : w.drew.cell? ⟨b, 1, none⟩ = some (.slice (some ⟨g, 0, none⟩) l.length cap) := by
    have : w.drew.heap[b]? = some (.cells #[p, .slice (some ⟨g, 0, none⟩) l.length cap] 137 (0, 0)) := hbk
    rw [Lib.cell_of_heap this]; rfl
  have hSD : (Builtin.unsafeSliceData_ #[110] 179 #[.slice (some ⟨g, 0, none⟩) l.length cap]).run Tryz.prog w.drew = .ok (.pointer (some ⟨g, 0, none⟩)) w.drew :=
    Lib.run_unsafeSliceData_row _ _ _ _ _ _ (by omega)
  have hUS : (Builtin.unsafeString_ #[179, 3] 9 #[.pointer (some ⟨g, 0, none⟩), .int .i64 l.length]).run Tryz.prog w.drew = .ok (.string ⟨l.toArray⟩) (w.drew.freeze ⟨g, 0, none⟩ l.length) := by
    refine Lib.run_unsafeString_row w.drew 179 3 9 5 u85 cells5 g cur.size (by have hg' : w.drew.heap[g]? = some (.cells cur 5 fz) := hg; simp [World.shape?, hg']) l h0 (by omega) (by unfold maxLen at hcm; omega) ?_
    intro j x hx
    have := hown.cells (g := g) rfl j (.int .u8 x.toNat) (by simp [Lib.byteCells, hx])
    exact this
  have hkeep : Lib.IsBuilderF 137 5 B b (Lib.byteCells l) (w.drew.freeze ⟨g, 0, none⟩ l.length) := by
    have hA : Lib.BuilderAtF 137 5 B b p (Lib.byteCells l) w.drew := ⟨hB, _, hbk, by rw [Lib.byteCells_length]; exact hown, hne⟩
    have hF := hA.froze (g := g) (cap := cap) (by rw [Lib.byteCells_length]; exact c1)
    rw [Lib.byteCells_length] at hF
    rcases hp with rfl | rfl
    · exact .inl hF
    · exact .inr hF
  have HO := Lib.hid (show ∃ c fz, w.drew.heap[g]? = some (.cells c 5 fz) from ⟨_, _, hg⟩)
  go_enter Tryz.func76, Tryz.ntmps76
  go_wp2
  go_region
  all_goals (go_wp2; go_ret; exact ⟨rfl, hkeep, Lib.below_freeze (Below.drew (Below.refl B w)) (p := ⟨g, 0, none⟩) hbg _, (Lib.OthersKept.drew (Lib.OthersKept.refl 5 (some b) w)).freeze ⟨g, 0, none⟩ _ HO.out⟩)

theorem unsafeString_none (W : World) (q : Option Addr) : (Builtin.unsafeString_ #[179, 3] 9 #[.pointer q, .int .i64 0]).run Tryz.prog W = .ok (.string .empty) W := Lib.run_unsafeString_none W _ _ _ q

set_option maxHeartbeats 1000000 in
set_option maxRecDepth 100000 in
theorem builder_String_nil (B b : Nat) (p : Value) (w : World) (hbk : w.heap[b]? = some (.cells #[p, .slice none 0 0] 137 (0, 0))) (hA : Hid (Lib.BuilderAtF 137 5 B b p [] w)) :
    Calls Tryz.prog 76 #[.pointer (some ⟨b, 0, none⟩)] w fun e w' => e = .returned (.string ⟨#[]⟩) ∧ (Lib.BuilderAtF 137 5 B b p [] w' ∧ Below B w w' ∧ Lib.OthersKept 5 (some b) w w') := by
  have hUS := unsafeString_none
  have c1 : w.drew.cell? ⟨b, 1, none⟩ = some (.slice none 0 0) := by
    have : w.drew.heap[b]? = some (.cells #[p, .slice none 0 0] 137 (0, 0)) := hbk
    rw [Lib.cell_of_heap this]; rfl
  have hSD : (Builtin.unsafeSliceData_ #[110] 179 #[.slice none 0 0]).run Tryz.prog w.drew = .ok (.pointer none) w.drew := rfl
  go_enter Tryz.func76, Tryz.ntmps76
  go_wp2
  go_region
  all_goals (go_wp2; go_ret; exact ⟨rfl, hA.out.drew, Below.drew (Below.refl B w), Lib.OthersKept.drew (Lib.OthersKept.refl 5 (some b) w)⟩)

set_option maxHeartbeats 1000000 in
set_option maxRecDepth 100000 in
theorem builder_String_noroom (B b g : Nat) (p : Value) (cur : Array Value) (w : World) (hBw : B ≤ w.heap.size) (hbk : w.heap[b]? = some (.cells #[p, .slice (some ⟨g, 0, none⟩) 0 0] 137 (0, 0))) (fz : Nat × Nat) (hg : w.heap[g]? = some (.cells cur 5 fz)) (hA : Hid (Lib.BuilderAtF 137 5 B b p [] w)) :
    Calls Tryz.prog 76 #[.pointer (some ⟨b, 0, none⟩)] w fun e w' => e = .returned (.string ⟨#[]⟩) ∧ (Lib.BuilderAtF 137 5 B b p [] w' ∧ Below B w w' ∧ Lib.OthersKept 5 (some b) w w') := by
  have hUS := unsafeString_none
  have hlt : b < w.heap.size := by
    rcases Nat.lt_or_ge b w.heap.size with h' | h'
    · exact h'
    · simp [Array.getElem?_eq_none h'] at hbk
  have c1 : w.drew.cell? ⟨b, 1, none⟩ = some (.slice (some ⟨g, 0, none⟩) 0 0) := by
    have : w.drew.heap[b]? = some (.cells #[p, .slice (some ⟨g, 0, none⟩) 0 0] 137 (0, 0)) := hbk
    rw [Lib.cell_of_heap this]; rfl
  have hSD : (Builtin.unsafeSliceData_ #[110] 179 #[.slice (some ⟨g, 0, none⟩) 0 0]).run Tryz.prog w.drew = .ok (.pointer (some ⟨w.drew.heap.size, 0, none⟩)) (w.drew.alloc (.view ⟨g, 0, none⟩ 5)) :=
    Lib.run_unsafeSliceData_zero w.drew _ _ 5 u85 ⟨g, 0, none⟩ 0 (5, cur.size) (by have hg' : w.drew.heap[g]? = some (.cells cur 5 fz) := hg; simp [World.shape?, hg'])
  have c2 : (w.drew.alloc (.view ⟨g, 0, none⟩ 5)).cell? ⟨b, 1, none⟩ = some (.slice (some ⟨g, 0, none⟩) 0 0) := by
    have : (w.drew.alloc (.view ⟨g, 0, none⟩ 5)).heap[b]? = _ := (Lib.alloc_old w.drew _ b hlt).trans hbk
    rw [Lib.cell_of_heap this]; rfl
  have c3 : (w.alloc (.view ⟨g, 0, none⟩ 5)).drew.cell? ⟨b, 1, none⟩ = some (.slice (some ⟨g, 0, none⟩) 0 0) := c2
  have c0 : w.cell? ⟨b, 1, none⟩ = some (.slice (some ⟨g, 0, none⟩) 0 0) := c1
  go_enter Tryz.func76, Tryz.ntmps76
  go_wp2
  go_region
  all_goals (go_wp2; go_ret; exact ⟨rfl, hA.out.drew.alloc _, (Below.drew (Below.refl B w)).alloc hBw _, (Lib.OthersKept.drew (Lib.OthersKept.refl 5 (some b) w)).alloc _⟩)

set_option maxHeartbeats 1000000 in
set_option maxRecDepth 100000 in
theorem builder_String_room (B b g cap : Nat) (p : Value) (w : World) (hc0 : cap ≠ 0) (hbk : w.heap[b]? = some (.cells #[p, .slice (some ⟨g, 0, none⟩) 0 cap] 137 (0, 0))) (hA : Hid (Lib.BuilderAtF 137 5 B b p [] w)) :
    Calls Tryz.prog 76 #[.pointer (some ⟨b, 0, none⟩)] w fun e w' => e = .returned (.string ⟨#[]⟩) ∧ (Lib.BuilderAtF 137 5 B b p [] w' ∧ Below B w w' ∧ Lib.OthersKept 5 (some b) w w') := by
  have hUS := unsafeString_none
  have c1 : w.drew.cell? ⟨b, 1, none⟩ = some (.slice (some ⟨g, 0, none⟩) 0 cap) := by
    have : w.drew.heap[b]? = some (.cells #[p, .slice (some ⟨g, 0, none⟩) 0 cap] 137 (0, 0)) := hbk
    rw [Lib.cell_of_heap this]; rfl
  have hSD : (Builtin.unsafeSliceData_ #[110] 179 #[.slice (some ⟨g, 0, none⟩) 0 cap]).run Tryz.prog w.drew = .ok (.pointer (some ⟨g, 0, none⟩)) w.drew :=
    Lib.run_unsafeSliceData_row _ _ _ _ _ _ hc0
  clear hc0
  go_enter Tryz.func76, Tryz.ntmps76
  go_wp2
  go_region
  all_goals (go_wp2; go_ret; exact ⟨rfl, hA.out.drew, Below.drew (Below.refl B w), Lib.OthersKept.drew (Lib.OthersKept.refl 5 (some b) w)⟩)

theorem builder_String (B b : Nat) (l : List UInt8) (w : World) (h : Wt B b l w) :
    Calls Tryz.prog 76 #[.pointer (some ⟨b, 0, none⟩)] w fun e w' => e = .returned (.string (bs l)) ∧ Wt B b l w' ∧ Below B w w' ∧ Lib.OthersKept 5 (some b) w w' := by
  have hBw : B ≤ w.heap.size := by have := h.lt; have := h.le; omega
  cases l with
  | cons x r => exact builder_String_some B b (x :: r) w h (by simp)
  | nil =>
    obtain ⟨p, hp, hA⟩ : ∃ p, (p = .pointer none ∨ p = .pointer (some ⟨b, 0, none⟩)) ∧ Lib.BuilderAtF 137 5 B b p [] w := by
      rcases h with h | h
      · exact ⟨_, .inl rfl, h⟩
      · exact ⟨_, .inr rfl, h⟩
    have fin : ∀ (e : Ending) (w' : World), (e = .returned (.string ⟨#[]⟩) ∧ (Lib.BuilderAtF 137 5 B b p [] w' ∧ Below B w w' ∧ Lib.OthersKept 5 (some b) w w')) → e = .returned (.string (bs [])) ∧ Wt B b [] w' ∧ Below B w w' ∧ Lib.OthersKept 5 (some b) w w' := by
      rintro e w' ⟨he, hk, hb⟩
      rcases hp with rfl | rfl
      · exact ⟨he, .inl hk, hb⟩
      · exact ⟨he, .inr hk, hb⟩
    have hA' := hA
    obtain ⟨hB, v, hbk, hown, hne⟩ := hA
    rcases hown.2 with ⟨rfl, _⟩ | ⟨g, cap, cur, fz, rfl, hbg, hg, _, _, _, _, _⟩
    · exact (builder_String_nil B b p w hbk (Lib.hid hA')).mono fin
    · by_cases hc0 : cap = 0
      · subst hc0
        exact (builder_String_noroom B b g p cur w hBw hbk fz hg (Lib.hid hA')).mono fin
      · exact (builder_String_room B b g cap p w hc0 hbk (Lib.hid hA')).mono fin

/-! ### The writer's own -/

theorem six_New (w : World) : Calls Tryz.prog 33 #[] w fun e w' => e = .returned (.pointer (some ⟨w.heap.size, 0, none⟩)) ∧ w.alloc (.cells #[.pointer none, .slice none 0 0] 137) = w' := by
  go_enter Tryz.func33, Tryz.ntmps33
  go_wp2
  go_ret
  exact ⟨rfl, rfl⟩

theorem wt_new (w : World) : Wt w.heap.size w.heap.size [] (w.alloc (.cells #[.pointer none, .slice none 0 0] 137)) := by
  refine .inl ⟨Nat.le_refl _, .slice none 0 0, ?_, World.ownsRowF_nil _ _ _ _, by simp [Value.ownBlock]⟩
  show (w.heap.push _)[w.heap.size]? = _
  simp

theorem six_Bytes (B b : Nat) (l : List UInt8) (w : World) (h : Wt B b l w) :
    Calls Tryz.prog 36 #[.pointer (some ⟨b, 0, none⟩)] w fun e w' => e = .returned (.string (bs l)) ∧ Wt B b l w' ∧ Below B w w' ∧ Lib.OthersKept 5 (some b) w w' := by
  have HW := Lib.hid h
  clear h
  go_enter Tryz.func36, Tryz.ntmps36
  go_wp2_with fail
  refine (builder_String B b l _ HW.out).mono ?_
  rintro e w1 ⟨rfl, h2, k2⟩
  have H2 := Lib.hid h2
  have K2 := Lib.hid k2
  clear h2 k2
  go_wp2
  go_ret
  exact ⟨rfl, H2.out, K2.out⟩
theorem six_Bytes_nil (w : World) : Calls Tryz.prog 36 #[.pointer none] w fun e w' => e = .returned (.string ⟨#[]⟩) ∧ w = w' := by
  go_enter Tryz.func36, Tryz.ntmps36
  go_wp2
  go_ret
  exact ⟨rfl, rfl⟩

end Go.Proofs.YtgljjdldhnajdaaGreat
/- The writer of package six: what each of its methods adds. -/
namespace Go.Proofs.YtgljjdldhnajdaaGreat
open Go.RowKit

theorem builder_WriteNum (B b : Nat) (l : List UInt8) (c : Int) (w : World) (h : Wt B b l w) (h1 : 0 ≤ c) (h2 : c ≤ 255) (hlen : l.length + 1 ≤ 140737488355328) :
    Calls Tryz.prog 127 #[.pointer (some ⟨b, 0, none⟩), .int .u8 c] w fun e w' => e = .returned .nilIface ∧ Wt B b (l ++ [UInt8.ofNat c.toNat]) w' ∧ Below B w w' := by
  have e : c = ((UInt8.ofNat c.toNat).toNat : Int) := by rw [toNat_ofNat (by omega)]; omega
  have := builder_WriteByte B b l (UInt8.ofNat c.toNat) w h hlen
  rw [← e] at this
  exact this

theorem shift_pow (n k : Nat) : ((n : Int) / 2 ^ (6 * k)) = ((n / 64 ^ k : Nat) : Int) := by
  have e : ((2 : Int) ^ (6 * k)) = ((64 ^ k : Nat) : Int) := by
    rw [show (64 : Nat) = 2 ^ 6 from rfl, ← Nat.pow_mul]
    simp
  rw [e]
  simp

theorem and63_i64 (n : Nat) (h : n ≤ 9223372036854775807) : bits .and .i64 (n : Int) 63 = ((n % 64 : Nat) : Int) := by
  show IntKind.i64.wrap ((BitVec.ofInt 64 (n : Int) &&& BitVec.ofInt 64 ((63 : Nat) : Int)).toNat : Int) = _
  rw [BitVec.toNat_and, ofInt_u64 _ (by omega), ofInt_u64 _ (by omega), nat_mask6, IntWalk.i64_in _ (by omega)]
theorem or_mark (x mark : Nat) (hx : x < 64) (hm : mark = 64 ∨ mark = 128) : bits .or .u8 (x : Int) (mark : Int) = ((mark + x : Nat) : Int) := by
  rw [u8_or_nat x mark (by omega) (by omega), Nat.or_comm]
  rcases hm with rfl | rfl
  · rw [nat_join 6 64 x (by decide) hx]
  · rw [nat_join 6 128 x (by decide) hx]

theorem Wt.drew {B b : Nat} {l : List UInt8} {w : World} (h : Wt B b l w) : Wt B b l w.drew := by
  rcases h with h | h
  · exact .inl h.drew
  · exact .inr h.drew

theorem lead_le (n j : Nat) (h : n ≤ 9223372036854775807) : (lead (n / 64 ^ (j + 1))).length ≤ 10 := by
  refine lead_len 10 _ ?_
  have e : (64 : Nat) ^ 10 = 1152921504606846976 := by decide
  have : n / 64 ^ (j + 1) ≤ n / 64 := by
    rw [Nat.pow_succ, Nat.mul_comm, ← Nat.div_div_eq_div_mul]
    exact Nat.div_le_self _ _
  omega

set_option maxHeartbeats 400000 in
theorem six_groups (B b : Nat) (l : List UInt8) (n mark : Nat) (w : World) (h : Wt B b l w) (hn : n ≤ 9223372036854775807) (hm : mark = 64 ∨ mark = 128) (hlen : l.length + 11 ≤ 140737488355328) :
    Calls Tryz.prog 104 #[.pointer (some ⟨b, 0, none⟩), .int .i64 n, .int .u8 mark] w fun e w' => e = .returned (.tuple #[]) ∧ Wt B b (l ++ grp n mark) w' ∧ Below B w w' := by
  have HW := Lib.hid h
  have HM := Lib.hid hm
  have hm0 : (mark : Int) ≤ 128 := by omega
  clear h hm
  go_enter Tryz.func104, Tryz.ntmps104
  go_wp2_with fail
  go_loop [6] (fun x => ∃ k : Nat, k ≤ 10 ∧ x = .int .i64 (6 * k : Nat) ∧ Hid (n / 64 ^ k ≠ 0 ∨ k = 0)) (fun x => 60 - (intOf x).toNat)
  case atStart => exact ⟨0, by omega, rfl, .inr rfl⟩
  case round =>
    obtain ⟨k, hk, rfl, HK⟩ := hrel
    have hq := shift_pow n k
    obtain ⟨q, hQ⟩ : ∃ q, q = n / 64 ^ k := ⟨_, rfl⟩
    rw [← hQ] at hq HK
    have hQ' := Lib.hid hQ
    clear hQ
    by_cases ht : 63 < (q : Int)
    · go_wp2_with fail
      go_round
      case rel =>
        have e : n / 64 ^ (k + 1) = q / 64 := by rw [hQ'.out, Nat.pow_succ, Nat.div_div_eq_div_mul]
        have hk10 : k ≠ 10 := by
          intro hk10
          have := hQ'.out
          rw [hk10, show (64 : Nat) ^ 10 = 1152921504606846976 by decide] at this
          omega
        exact ⟨k + 1, by omega, by go_num, .inl (by rw [e]; omega)⟩
      case measure =>
        have hk10 : k ≠ 10 := by
          intro hk10
          have := hQ'.out
          rw [hk10, show (64 : Nat) ^ 10 = 1152921504606846976 by decide] at this
          omega
        simp [intOf]; omega
    · go_wp2_with fail
      have hq0 : (q : Int) ≤ 63 := by omega
      clear hq ht
      go_loopw [6] (fun x wr => ∃ j : Nat, j ≤ k ∧ x = .int .i64 (6 * j : Nat) ∧ Wt B b (l ++ lead (n / 64 ^ (j + 1))) wr ∧ Below B w wr) (fun x wr => (intOf x).toNat)
      case atStart =>
        refine ⟨k, Nat.le_refl _, by go_num, ?_, Below.refl _ _⟩
        have e : n / 64 ^ (k + 1) = 0 := by rw [Nat.pow_succ, ← Nat.div_div_eq_div_mul, ← hQ'.out]; omega
        rw [e, lead_zero, List.append_nil]
        exact HW.out
      case round =>
        obtain ⟨j, hj, rfl, hw, hbw⟩ := hrel
        have HW2 := Lib.hid hw
        have HB2 := Lib.hid hbw
        clear hw hbw
        have hlen2 := Lib.hid (show (l ++ lead (n / 64 ^ (j + 1))).length + 1 ≤ 140737488355328 by rw [List.length_append]; have := lead_le n j hn; omega)
        by_cases hj0 : (j : Int) ≤ 0
        · have hj1 : j = 0 := by omega
          obtain ⟨x, hx⟩ : ∃ x, x = n % 64 := ⟨_, rfl⟩
          obtain ⟨z, hz⟩ : ∃ z, z = mark + x := ⟨_, rfl⟩
          have hand := and63_i64 n hn
          have hor := or_mark x mark (by omega) HM.out
          rw [← hx] at hand
          rw [← hz] at hor
          have hx1 : x ≤ 63 := by omega
          have hz1 : z ≤ 191 := by have := HM.out; omega
          have HX := Lib.hid hx
          have HZ := Lib.hid hz
          have HJ := Lib.hid hj1
          clear hx hz hj1
          go_wp2_with fail
          refine (builder_WriteNum B b _ _ _ HW2.out (by omega) (by omega) hlen2.out).mono ?_
          rintro e w2 ⟨rfl, h2, k2⟩
          have H2 := Lib.hid h2
          have K2 := Lib.hid k2
          clear h2 k2
          go_wp2
          go_end0
          refine ⟨rfl, ?_, HB2.out.trans K2.out⟩
          have hg : grp n mark = lead (n / 64 ^ (j + 1)) ++ [UInt8.ofNat ((z : Int)).toNat] := by
            unfold grp
            rw [HJ.out, HZ.out, HX.out, Int.toNat_natCast, Nat.zero_add, Nat.pow_one]
          rw [hg, ← List.append_assoc]
          exact H2.out
        · have hj1 : j ≠ 0 := by omega
          obtain ⟨p, hp⟩ : ∃ p, p = n / 64 ^ j := ⟨_, rfl⟩
          obtain ⟨x, hx⟩ : ∃ x, x = p % 64 := ⟨_, rfl⟩
          have hps := shift_pow n j
          have hpn : p ≤ 9223372036854775807 := by have := Nat.div_le_self n (64 ^ j); omega
          have hand := and63_i64 p hpn
          rw [← hp] at hps
          rw [← hx] at hand
          have hx1 : x ≤ 63 := by omega
          have HP := Lib.hid hp
          have HX := Lib.hid hx
          clear hp hx
          go_wp2_with fail
          have hwr : IntKind.u8.wrap (x : Int) = x := by rw [IntKind.wrap_u8']; omega
          have htn : (6 * (j : Int)).toNat = 6 * j := by omega
          go_region_with (go_at_call 127; refine (builder_WriteNum B b _ _ _ HW2.out.drew (by omega) (by omega) hlen2.out).mono ?_; rintro e w2 ⟨rfl, h2, k2⟩; have H2 := Lib.hid h2; have K2 := Lib.hid k2; clear h2 k2)
          clear hwr htn hand hps
          go_wp2
          go_roundw
          case rel =>
            obtain ⟨i, rfl⟩ : ∃ i, j = i + 1 := ⟨j - 1, by omega⟩
            refine ⟨i, by omega, by go_num, ?_, HB2.out.drew.trans K2.out⟩
            have hk0 : n / 64 ^ (i + 1) ≠ 0 := by
              rcases HK.out with hk1 | hk1
              · intro hz
                have h1 : 64 ^ (i + 1) ≤ 64 ^ k := Nat.pow_le_pow_right (by decide) hj
                have h2 : n / 64 ^ k ≤ n / 64 ^ (i + 1) := Nat.div_le_div_left h1 (Nat.pow_pos (by decide))
                have := hQ'.out
                omega
              · omega
            have hl : lead (n / 64 ^ (i + 1)) = lead (n / 64 ^ (i + 1 + 1)) ++ [UInt8.ofNat ((x : Int)).toNat] := by
              rw [lead_pos hk0, HX.out, HP.out, Int.toNat_natCast, Nat.pow_succ 64 (i + 1), ← Nat.div_div_eq_div_mul]
            rw [hl, ← List.append_assoc]
            exact H2.out
          case measure => simp [intOf]; omega

set_option maxHeartbeats 400000 in
theorem six_Count (B b : Nat) (l : List UInt8) (n : Nat) (w : World) (h : Wt B b l w) (hn : n ≤ 9223372036854775807) (hlen : l.length + 11 ≤ 140737488355328) :
    Calls Tryz.prog 71 #[.pointer (some ⟨b, 0, none⟩), .int .i64 n] w fun e w' => e = .returned (.int .i64 0) ∧ Wt B b (l ++ whole n) w' ∧ Below B w w' := by
  have hg := Lib.hid (show whole n = grp n 64 by unfold whole; rw [if_neg (by omega)]; rfl)
  have HW := Lib.hid h
  clear h
  go_enter Tryz.func71, Tryz.ntmps71
  go_wp2_with fail
  refine (six_groups B b l n 64 w HW.out hn (.inl rfl) hlen).mono ?_
  rintro e w2 ⟨rfl, h2, k2⟩
  have H2 := Lib.hid h2
  have K2 := Lib.hid k2
  clear h2 k2
  go_wp2
  go_ret
  exact ⟨rfl, by rw [hg.out]; exact H2.out, K2.out⟩
theorem six_Count_neg (p : Option Addr) (n : Int) (w : World) (hn : n < 0) :
    Calls Tryz.prog 71 #[.pointer p, .int .i64 n] w fun e w' => e = .returned (.int .i64 1) ∧ w = w' := by
  cases p with
  | none =>
    go_enter Tryz.func71, Tryz.ntmps71
    go_wp2
    go_ret
    exact ⟨rfl, rfl⟩
  | some a =>
    go_enter Tryz.func71, Tryz.ntmps71
    go_wp2
    go_ret
    exact ⟨rfl, rfl⟩
theorem six_Count_nil (n : Int) (w : World) :
    Calls Tryz.prog 71 #[.pointer none, .int .i64 n] w fun e w' => e = .returned (.int .i64 1) ∧ w = w' := by
  go_enter Tryz.func71, Tryz.ntmps71
  go_wp2
  go_ret
  exact ⟨rfl, rfl⟩

set_option maxHeartbeats 400000 in
theorem six_Whole (B b : Nat) (l : List UInt8) (n : Int) (w : World) (h : Wt B b l w) (hn1 : -9223372036854775808 ≤ n) (hn2 : n ≤ 9223372036854775807) (hlen : l.length + 11 ≤ 140737488355328) :
    Calls Tryz.prog 72 #[.pointer (some ⟨b, 0, none⟩), .int .i64 n] w fun e w' => e = .returned (.int .i64 0) ∧ Wt B b (l ++ whole n) w' ∧ Below B w w' := by
  have HW := Lib.hid h
  clear h
  by_cases h0 : n < 0
  · obtain ⟨m, hm⟩ : ∃ m : Nat, -1 - n = m := ⟨(-1 - n).toNat, by omega⟩
    have hg := Lib.hid (show whole n = grp m 128 by unfold whole; rw [if_pos h0, hm]; rfl)
    have hm1 : m ≤ 9223372036854775807 := by omega
    have hsub : -1 - n = (m : Int) := hm
    clear hm
    go_enter Tryz.func72, Tryz.ntmps72
    go_wp2_with fail
    refine (six_groups B b l m 128 w HW.out hm1 (.inr rfl) hlen).mono ?_
    rintro e w2 ⟨rfl, h2, k2⟩
    have H2 := Lib.hid h2
    have K2 := Lib.hid k2
    clear h2 k2
    go_wp2
    go_ret
    exact ⟨rfl, by rw [hg.out]; exact H2.out, K2.out⟩
  · obtain ⟨m, rfl⟩ : ∃ m : Nat, n = m := ⟨n.toNat, by omega⟩
    have hg := Lib.hid (show whole m = grp m 64 by unfold whole; rw [if_neg (by omega)]; rfl)
    go_enter Tryz.func72, Tryz.ntmps72
    go_wp2_with fail
    refine (six_groups B b l m 64 w HW.out (by omega) (.inl rfl) hlen).mono ?_
    rintro e w2 ⟨rfl, h2, k2⟩
    have H2 := Lib.hid h2
    have K2 := Lib.hid k2
    clear h2 k2
    go_wp2
    go_ret
    exact ⟨rfl, by rw [hg.out]; exact H2.out, K2.out⟩
theorem six_Whole_nil (n : Int) (w : World) :
    Calls Tryz.prog 72 #[.pointer none, .int .i64 n] w fun e w' => e = .returned (.int .i64 1) ∧ w = w' := by
  go_enter Tryz.func72, Tryz.ntmps72
  go_wp2
  go_ret
  exact ⟨rfl, rfl⟩

theorem six_Raw (B b : Nat) (l : List UInt8) (s : ByteArray) (w : World) (h : Wt B b l w) (hlen : l.length + s.size ≤ 140737488355328) :
    Calls Tryz.prog 105 #[.pointer (some ⟨b, 0, none⟩), .string s] w fun e w' => e = .returned (.int .i64 0) ∧ Wt B b (l ++ s.data.toList) w' ∧ Below B w w' := by
  have HW := Lib.hid h
  clear h
  go_enter Tryz.func105, Tryz.ntmps105
  go_wp2_with fail
  refine (builder_WriteString B b l s w HW.out hlen).mono ?_
  rintro e w2 ⟨rfl, h2, k2⟩
  have H2 := Lib.hid h2
  have K2 := Lib.hid k2
  clear h2 k2
  go_wp2
  go_ret
  exact ⟨rfl, H2.out, K2.out⟩
theorem six_Raw_nil (s : ByteArray) (w : World) :
    Calls Tryz.prog 105 #[.pointer none, .string s] w fun e w' => e = .returned (.int .i64 1) ∧ w = w' := by
  go_enter Tryz.func105, Tryz.ntmps105
  go_wp2
  go_ret
  exact ⟨rfl, rfl⟩

theorem six_Text (B b : Nat) (l : List UInt8) (s : ByteArray) (w : World) (h : Wt B b l w) (hlen : l.length + 11 + s.size ≤ 140737488355328) :
    Calls Tryz.prog 75 #[.pointer (some ⟨b, 0, none⟩), .string s] w fun e w' => e = .returned (.int .i64 0) ∧ Wt B b (l ++ text s.data.toList) w' ∧ Below B w w' := by
  have HW := Lib.hid h
  clear h
  have hl := Lib.hid (show (whole (s.size : Int)).length ≤ 11 from (whole_len (by omega) (by omega)).1)
  have ht := Lib.hid (show text s.data.toList = whole (s.size : Int) ++ s.data.toList by unfold text; rw [← Lib.size_eq])
  go_enter Tryz.func75, Tryz.ntmps75
  go_wp2_with fail
  refine (six_Count B b l s.size w HW.out (by omega) (by omega)).mono ?_
  rintro e w2 ⟨rfl, h2, k2⟩
  have H2 := Lib.hid h2
  have K2 := Lib.hid k2
  clear h2 k2
  go_wp2_with fail
  refine (six_Raw B b _ s w2 H2.out (by rw [List.length_append]; have := hl.out; omega)).mono ?_
  rintro e w3 ⟨rfl, h3, k3⟩
  have H3 := Lib.hid h3
  have K3 := Lib.hid k3
  clear h3 k3
  go_wp2
  go_ret
  exact ⟨rfl, by rw [ht.out, ← List.append_assoc]; exact H3.out, K2.out.trans K3.out⟩
theorem six_Text_nil (s : ByteArray) (w : World) :
    Calls Tryz.prog 75 #[.pointer none, .string s] w fun e w' => e = .returned (.int .i64 1) ∧ w = w' := by
  go_enter Tryz.func75, Tryz.ntmps75
  go_wp2_with fail
  refine (six_Count_nil _ w).mono ?_
  rintro e w2 ⟨rfl, rfl⟩
  go_wp2
  go_ret
  exact ⟨rfl, rfl⟩

end Go.Proofs.YtgljjdldhnajdaaGreat
/- The reader of package six: a text. -/
namespace Go.Proofs.YtgljjdldhnajdaaGreat
open Go.RowKit

theorem six_ReadText_nil (w : World) : Calls Tryz.prog 80 #[.pointer none] w fun e w' => e = .returned (.tuple #[.string ⟨#[]⟩, .int .i64 1]) ∧ w = w' := by
  go_enter Tryz.func80, Tryz.ntmps80
  go_wp2
  go_ret2
  exact ⟨rfl, rfl⟩

set_option maxHeartbeats 400000 in
theorem six_ReadText_ok (r : Nat) (s s1 s2 t : ByteArray) (n : Int) (w : World) (h : Hid (Rt r s w))
    (h30 : Hid (Calls Tryz.prog 77 #[.pointer (some ⟨r, 0, none⟩)] w (Rd r s1 (.int .i64 n) (.int .i64 0) w)))
    (h31 : Hid (∀ w, Rt r s1 w → Calls Tryz.prog 106 #[.pointer (some ⟨r, 0, none⟩), .int .i64 n] w (Rd r s2 (.string t) (.int .i64 0) w))) :
    Calls Tryz.prog 80 #[.pointer (some ⟨r, 0, none⟩)] w (Rd r s2 (.string t) (.int .i64 0) w) := by
  have c0 := h.out.cell
  go_enter Tryz.func80, Tryz.ntmps80
  go_wp2_with fail
  refine h30.out.mono ?_
  rintro e w1 ⟨rfl, h2, k2⟩
  have H2 := Lib.hid h2
  have K2 := Lib.hid k2
  clear h2 k2
  go_wp2_with fail
  refine (h31.out _ H2.out).mono ?_
  rintro e w2 ⟨rfl, h3, k3⟩
  have H3 := Lib.hid h3
  have K3 := Lib.hid k3
  clear h3 k3
  go_wp2
  go_ret2
  exact ⟨rfl, H3.out, K2.out.trans K3.out⟩

set_option maxHeartbeats 400000 in
theorem six_ReadText_no (r : Nat) (s s1 s2 t : ByteArray) (n e : Int) (w : World) (h : Hid (Rt r s w)) (he : (e == 0) = false)
    (h30 : Hid (Calls Tryz.prog 77 #[.pointer (some ⟨r, 0, none⟩)] w (Rd r s1 (.int .i64 n) (.int .i64 0) w)))
    (h31 : Hid (∀ w, Rt r s1 w → Calls Tryz.prog 106 #[.pointer (some ⟨r, 0, none⟩), .int .i64 n] w (Rd r s2 (.string t) (.int .i64 e) w))) :
    Calls Tryz.prog 80 #[.pointer (some ⟨r, 0, none⟩)] w (Rd r s (.string (bs [])) (.int .i64 e) w) := by
  have c0 := h.out.cell
  go_enter Tryz.func80, Tryz.ntmps80
  go_wp2_with fail
  refine h30.out.mono ?_
  rintro e w1 ⟨rfl, h2, k2⟩
  have H2 := Lib.hid h2
  have K2 := Lib.hid k2
  clear h2 k2
  go_wp2_with fail
  refine (h31.out _ H2.out).mono ?_
  rintro e w2 ⟨rfl, h3, k3⟩
  have c3 := h3.cell
  have f3 := h3.free
  have H3 := Lib.hid h3
  have K3 := Lib.hid k3
  clear h3 k3
  go_wp2
  go_ret2
  exact ⟨rfl, H3.out.put s, (K2.out.trans K3.out).setCell (p := ⟨r, 0, none⟩) (.inl rfl) _⟩

set_option maxHeartbeats 400000 in
theorem six_ReadText_none (r : Nat) (s s1 : ByteArray) (n e : Int) (w : World) (h : Hid (Rt r s w)) (he : (e == 0) = false)
    (h30 : Hid (Calls Tryz.prog 77 #[.pointer (some ⟨r, 0, none⟩)] w (Rd r s1 (.int .i64 n) (.int .i64 e) w))) :
    Calls Tryz.prog 80 #[.pointer (some ⟨r, 0, none⟩)] w (Rd r s1 (.string (bs [])) (.int .i64 e) w) := by
  have c0 := h.out.cell
  go_enter Tryz.func80, Tryz.ntmps80
  go_wp2_with fail
  refine h30.out.mono ?_
  rintro e w1 ⟨rfl, h2, k2⟩
  have H2 := Lib.hid h2
  have K2 := Lib.hid k2
  clear h2 k2
  go_wp2
  go_ret2
  exact ⟨rfl, H2.out, K2.out⟩

theorem extract_twice (s : ByteArray) (a b : Nat) : (s.extract a s.size).extract b (s.extract a s.size).size = s.extract (a + b) s.size := by
  have h1 := extract_rest (s.extract a s.size) b
  rw [extract_rest s a, List.drop_drop] at h1
  rw [bs_eq h1, bs_eq (extract_rest s (a + b))]

theorem six_ReadText (r : Nat) (s : ByteArray) (w : World) (h : Rt r s w) (hs : s.size ≤ maxLen) :
    Calls Tryz.prog 80 #[.pointer (some ⟨r, 0, none⟩)] w (Rd r (s.extract (tk s.data.toList) s.size) (.string (bs (ts s.data.toList))) (.int .i64 (te s.data.toList)) w) := by
  have HL : s.data.toList.length = s.size := by rw [← Lib.size_eq]
  have h30 := six_ReadCount r s w h hs
  have hm : maxLen = 9223372036854775807 := rfl
  rcases cd_cases s.data.toList with ⟨c0, c1, c2, c3, c4, _, _, _⟩ | ⟨c0, c1, c2⟩
  · have HZ : (s.extract (ck s.data.toList) s.size).size ≤ maxLen := by rw [extract_size]; omega
    have h31 := fun w hw => six_ReadRaw r (s.extract (ck s.data.toList) s.size) (cn s.data.toList) w hw HZ (by omega) (by omega)
    have HW : te s.data.toList = we (s.data.toList.drop (ck s.data.toList)) (cn s.data.toList) := by unfold te; rw [if_neg (by rw [c0]; simp)]
    have HT : ts s.data.toList = ws (s.data.toList.drop (ck s.data.toList)) (cn s.data.toList) := by unfold ts; rw [if_neg (by rw [c0]; simp)]
    simp only [extract_twice, extract_rest] at h31
    rw [← HW, ← HT] at h31
    rw [c0] at h30
    rcases td_cases s.data.toList with ⟨t0, t1, t2, t3, t4, t5, t6⟩ | ⟨t0, t1, t2⟩
    · rw [t0] at h31
      have hk : tk s.data.toList = ck s.data.toList + wk (s.data.toList.drop (ck s.data.toList)) (cn s.data.toList) := by unfold tk; rw [if_neg (by rw [t0]; simp)]
      rw [t0, hk]
      exact six_ReadText_ok r s _ _ _ _ w (Lib.hid h) (Lib.hid h30) (Lib.hid h31)
    · rw [t1, t2, rest0]
      exact six_ReadText_no r s _ _ _ _ _ w (Lib.hid h) (beq_eq_false_iff_ne.2 (by omega)) (Lib.hid h30) (Lib.hid h31)
  · have e1 : te s.data.toList = ce s.data.toList := by unfold te; rw [if_pos (by omega)]
    have e2 : ts s.data.toList = [] := by unfold ts; rw [if_pos (by omega)]
    have e3 : tk s.data.toList = ck s.data.toList := by rw [c2]; unfold tk; rw [if_pos (by omega)]
    rw [e1, e2, e3]
    exact six_ReadText_none r s _ _ _ w (Lib.hid h) (beq_eq_false_iff_ne.2 (by omega)) (Lib.hid h30)

end Go.Proofs.YtgljjdldhnajdaaGreat
/- The laws' own first look: answers that the document fixes. -/
set_option linter.unusedVariables false
set_option maxRecDepth 100000
namespace Go.Proofs.YtgljjdldhnajdaaGreat
open Go.RowKit

theorem six_CountI (B b : Nat) (l : List UInt8) (n : Int) (w : World) (h : Wt B b l w) (h0 : 0 ≤ n) (hn : n ≤ 9223372036854775807) (hlen : l.length + 11 ≤ 140737488355328) :
    Calls Tryz.prog 71 #[.pointer (some ⟨b, 0, none⟩), .int .i64 n] w fun e w' => e = .returned (.int .i64 0) ∧ Wt B b (l ++ whole n) w' ∧ Below B w w' := by
  obtain ⟨m, rfl⟩ : ∃ m : Nat, n = m := ⟨n.toNat, by omega⟩
  exact six_Count B b l m w h (by omega) hlen

def abL : List UInt8 := [1, 64, 1, 128, 66, 97, 98]
theorem whole64 : whole 64 = [1, 64] := by
  unfold whole grp
  rw [if_neg (by decide), show (64 : Int).toNat / 64 = 1 from rfl, lead_pos (by decide), show 1 / 64 = 0 from rfl, lead_zero]
  rfl
theorem whole65 : whole (-65) = [1, 128] := by
  unfold whole grp
  rw [if_pos (by decide), show (-1 - (-65) : Int).toNat / 64 = 1 from rfl, lead_pos (by decide), show 1 / 64 = 0 from rfl, lead_zero]
  rfl
theorem text_ab : text [97, 98] = [66, 97, 98] := by
  unfold text whole grp
  rw [if_neg (by decide), show (([97, 98] : List UInt8).length : Int).toNat / 64 = 0 from rfl, lead_zero]
  rfl

theorem abSize : (bs abL).size = 7 := rfl
theorem ab1 : (bs abL).extract 2 (bs abL).size = bs [1, 128, 66, 97, 98] := rfl
theorem ab2 : (bs [1, 128, 66, 97, 98]).extract 2 (bs [1, 128, 66, 97, 98]).size = bs [66, 97, 98] := rfl
theorem ab3 : (bs [66, 97, 98]).extract 3 (bs [66, 97, 98]).size = bs [] := rfl

theorem Rd.mk' {r : Nat} {s : ByteArray} {a b : Value} {w w' : World} {e : Ending} (h : Rd r s a b w e w') : e = .returned (.tuple #[a, b]) ∧ Rt r s w' ∧ Only (fun k => k = r) w w' := h

theorem rd_ab1 (r : Nat) (w : World) (h : Rt r (bs abL) w) : Calls Tryz.prog 77 #[.pointer (some ⟨r, 0, none⟩)] w (Rd r (bs [1, 128, 66, 97, 98]) (.int .i64 64) (.int .i64 0) w) := by
  have := six_ReadCount r (bs abL) w h (by decide)
  exact this
theorem rd_ab2 (r : Nat) (w : World) (h : Rt r (bs [1, 128, 66, 97, 98]) w) : Calls Tryz.prog 79 #[.pointer (some ⟨r, 0, none⟩)] w (Rd r (bs [66, 97, 98]) (.int .i64 (-65)) (.int .i64 0) w) := by
  have := six_ReadWhole r (bs [1, 128, 66, 97, 98]) w h (by decide)
  exact this
theorem rd_ab3 (r : Nat) (w : World) (h : Rt r (bs [66, 97, 98]) w) : Calls Tryz.prog 80 #[.pointer (some ⟨r, 0, none⟩)] w (Rd r (bs []) (.string (bs [97, 98])) (.int .i64 0) w) := by
  have := six_ReadText r (bs [66, 97, 98]) w h (by decide)
  exact this

theorem Wt.same {B b : Nat} {l : List UInt8} {w w' : World} (h : Wt B b l w) (k : ∀ j, j < w.heap.size → (∀ s, ¬ Rt j s w) → w'.heap[j]? = w.heap[j]?) : Wt B b l w' := by
  have core : ∀ p, Lib.BuilderAtF 137 5 B b p (Lib.byteCells l) w → Lib.BuilderAtF 137 5 B b p (Lib.byteCells l) w' := by
    rintro p ⟨hB, v, hb, hown, hne⟩
    have hlt : b < w.heap.size := Lib.BuilderAtF.lt ⟨hB, v, hb, hown, hne⟩
    refine ⟨hB, v, ?_, ⟨hown.1, ?_⟩, hne⟩
    · rw [k b hlt (fun s hs => by unfold Rt at hs; rw [hb] at hs; simp at hs), hb]
    · rcases hown.2 with hn | ⟨g, cap, cur, fz, hv, hbg, hg, rest⟩
      · exact .inl hn
      · refine .inr ⟨g, cap, cur, fz, hv, hbg, ?_, rest⟩
        rw [k g (Array.getElem?_eq_some_iff.1 hg).1 (fun s hs => by unfold Rt at hs; rw [hg] at hs; simp at hs), hg]
  rcases h with h | h
  · exact .inl (core _ h)
  · exact .inr (core _ h)
theorem Wt.alloc {B b : Nat} {l : List UInt8} {w : World} (h : Wt B b l w) (o : Obj) : Wt B b l (w.alloc o) := h.same (fun j hj _ => Below.heap_alloc w o j hj)
theorem Wt.keep {B b : Nat} {l : List UInt8} {w w' : World} (h : Wt B b l w) (k : Below w.heap.size w w') : Wt B b l w' := h.same (fun j hj _ => k.block j hj)
theorem Wt.read {B b r : Nat} {l : List UInt8} {s : ByteArray} {w w' : World} (h : Wt B b l w) (hr : Rt r s w) (k : Only (fun k => k = r) w w') : Wt B b l w' :=
  h.same (fun j hj hs => k.block j hj (fun e => by subst e; exact hs s hr))
theorem Rt.new (s : ByteArray) (w : World) : Rt w.heap.size s (w.alloc (.cells #[.string s] 146)) := by
  show (w.heap.push _)[w.heap.size]? = _
  simp
theorem Rt.below {r B : Nat} {s : ByteArray} {w w' : World} (h : Rt r s w) (k : Below B w w') (hr : r < B) : Rt r s w' := by
  unfold Rt at h ⊢
  rw [k.block r hr, h]

theorem Rt.others {r b : Nat} {s : ByteArray} {w w' : World} (h : Rt r s w) (k : Lib.OthersKept 5 (some b) w w') (hb : r ≠ b) : Rt r s w' :=
  k r _ h (fun e => hb (Option.some.inj e)) (fun c fz e => by simp at e)

/-- A new block that a call has laid, kept by all that lies above it. -/
theorem below_new {B : Nat} {w w' : World} (h : Below B w w') (hB : B ≤ w.heap.size) {o : Obj} {k : Nat} (hk : k < B) (ho : w.heap[k]? = some o) : w'.heap[k]? = some o := by rw [h.block k hk, ho]

end Go.Proofs.YtgljjdldhnajdaaGreat
/- The writer of package six: what each of its methods adds, and that it keeps every other block that is no row of bytes. -/
set_option linter.unusedVariables false
set_option maxRecDepth 100000
namespace Go.Proofs.YtgljjdldhnajdaaGreat
open Go.RowKit

/-- All below B is kept, and every block that is neither b nor a row of bytes. -/
structure Wb (B b : Nat) (w w' : World) : Prop where
  bel : Below B w w'
  oth : Lib.OthersKept 5 (some b) w w'
namespace Wb
variable {B b : Nat} {a c d w w' : World}
theorem refl (B b : Nat) (w : World) : Wb B b w w := ⟨Below.refl _ _, Lib.OthersKept.refl _ _ _⟩
theorem trans (h : Wb B b a c) (k : Wb B b c d) : Wb B b a d := ⟨h.bel.trans k.bel, h.oth.trans k.oth⟩
theorem drew (h : Wb B b a w) : Wb B b a w.drew := ⟨h.bel.drew, h.oth.drew⟩
theorem size (h : Wb B b a w) : a.heap.size ≤ w.heap.size := h.bel.size
theorem alloc (h : Wb B b a w) (hB : B ≤ w.heap.size) (o : Obj) : Wb B b a (w.alloc o) := ⟨h.bel.alloc hB o, h.oth.alloc o⟩
theorem setCell (h : Wb B b a w) {p : Addr} (hB : B ≤ p.block) (hp : p.block = b) (v : Value) : Wb B b a (w.setCell p v) := ⟨h.bel.setCell hB v, h.oth.setCell p hp v⟩
theorem grown (h : Wb B b a w) {row : Option Nat} (hg : w.grownBy w' row) (hB : B ≤ w.heap.size) (hr : ∀ k, row = some k → B ≤ k) (hrow : ∀ g, row = some g → ∃ c fz, w.heap[g]? = some (.cells c 5 fz)) : Wb B b a w' := ⟨h.bel.grown hg hB hr, h.oth.grown hg hrow⟩
/-- A block of another kind is kept. -/
theorem keeps (h : Wb B b w w') {k : Nat} {cs : Array Value} {t : TypeId} {z : Nat × Nat} (hk : w.heap[k]? = some (.cells cs t z)) (hb : k ≠ b) (ht : t ≠ 5) : w'.heap[k]? = some (.cells cs t z) :=
  h.oth k _ hk (fun e => hb (Option.some.inj e)) (fun c fz e => by injection e with _ e _; exact ht e)
end Wb

theorem copyCheck_anyO (B b : Nat) (bs : List Value) (w : World) (h : Lib.IsBuilderF 137 5 B b bs w) :
    Calls Tryz.prog 168 #[.pointer (some ⟨b, 0, none⟩)] w fun e w' => e = .returned (.tuple #[]) ∧ (Lib.BuilderAtF 137 5 B b (.pointer (some ⟨b, 0, none⟩)) bs w' ∧ Wb B b w w') := by
  rcases h with h | h
  · refine (copyCheck_fresh b w h.cell0 h.shape h.frozen0).mono ?_
    rintro e w' ⟨rfl, rfl⟩
    exact ⟨rfl, h.used _, (Wb.refl B b w).setCell (p := ⟨b, 0, none⟩) h.1 rfl _⟩
  · refine (copyCheck_used b w h.cell0).mono ?_
    rintro e w' ⟨rfl, rfl⟩
    exact ⟨rfl, h, Wb.refl B b _⟩


set_option maxHeartbeats 2000000 in
set_option maxRecDepth 100000 in
theorem builder_WriteByteO (B b : Nat) (l : List UInt8) (c : UInt8) (w : World) (h : Wt B b l w) (hlen : l.length + 1 ≤ 140737488355328) :
    Calls Tryz.prog 127 #[.pointer (some ⟨b, 0, none⟩), .int .u8 c.toNat] w fun e w' => e = .returned .nilIface ∧ Wt B b (l ++ [c]) w' ∧ Wb B b w w' := by
  have hBw : B ≤ w.heap.size := by have := h.lt; have := h.le; omega
  obtain ⟨i0, hi, hz0, hz1, hz2⟩ := info_parts info5
  have HL := Lib.hid (Lib.byteCells_length l)
  have HW := Lib.hid h
  clear h
  go_enter Tryz.func127, Tryz.ntmps127
  go_wp2_with (go_at_call 168; refine (copyCheck_anyO B b _ _ HW.out).mono ?_)
  rintro e w1 ⟨rfl, h1, hb1⟩
  obtain ⟨hB, v, hbk, hown, hne⟩ := h1
  have c0 : w1.cell? ⟨b, 0, none⟩ = some (.pointer (some ⟨b, 0, none⟩)) := by rw [Lib.cell_of_heap hbk]; rfl
  have c1 : w1.cell? ⟨b, 1, none⟩ = some v := by rw [Lib.cell_of_heap hbk]; rfl
  go_wp2_with (at_builtin; refine wpList_append_ownF _ rfl _ _ 110 rfl B 5 i0 (.int .u8 0) 1 1 Tryz.underlying110 hi hz0 hz1 hz2 rfl (by decide) _ _ _ rfl (hown.alloc _) ⟨w1.heap.size, 0, none⟩ 1 1 [.int .u8 (c.toNat : Int)] rfl rfl ?c1 ?c2 ?c3 ?c4 ?c5 ?_)
  case c1 =>
    intro j u hj
    match j, hj with
    | 0, hj => simp at hj; subst hj; simp [Addr.add]
  case c2 => intro u hu; simp at hu; subst hu; rfl
  case c3 => unfold maxLen; have := HL.out; omega
  case c4 => have := HL.out; omega
  case c5 => have := hb1.size; simp; omega
  intro v' w2 hown' hgrow _
  have hlt : b < w1.heap.size := by
    rcases Nat.lt_or_ge b w1.heap.size with h' | h'
    · exact h'
    · simp [Array.getElem?_eq_none h'] at hbk
  have hb2 : w2.heap[b]? = some (.cells #[.pointer (some ⟨b, 0, none⟩), v] 137 (0, 0)) := by
    rw [hgrow.block b (by simp; omega) (fun e => hne e.symm)]
    exact (Lib.alloc_old w1 _ b hlt).trans hbk
  have d0 : w2.cell? ⟨b, 0, none⟩ = some (.pointer (some ⟨b, 0, none⟩)) := by rw [Lib.cell_of_heap hb2]; rfl
  have d1 : w2.cell? ⟨b, 1, none⟩ = some v := by rw [Lib.cell_of_heap hb2]; rfl
  have f1 : w2.frozen? ⟨b, 1, none⟩ = false := Lib.frozen_of_heap hb2 1
  obtain ⟨ao, n', cap, rfl⟩ : ∃ ao n' cap, v' = .slice ao n' cap := by
    rcases hown'.2 with ⟨hv, _⟩ | ⟨g, cap, cur, fz, hv, _⟩
    · exact ⟨_, _, _, hv⟩
    · exact ⟨_, _, _, hv⟩
  go_wp2
  go_ret
  refine ⟨rfl, ?_, ?_⟩
  · refine .inr ?_
    rw [byteCells_snoc]
    exact Lib.BuilderAtF.put (T := 137) (e := 5) hB hb2 (bs' := Lib.byteCells l ++ [.int .u8 (c.toNat : Int)]) (by simpa using hown') (by decide)
  · exact ((hb1.alloc (by have := hb1.size; omega) _).grown hgrow (by have := hb1.size; simp; omega) (fun k hk => (hown.lt k hk).1) (Lib.ownsRowF_kind (hown.alloc _))).setCell (p := ⟨b, 1, none⟩) hB rfl _


set_option maxHeartbeats 2000000 in
set_option maxRecDepth 100000 in
theorem builder_WriteStringO (B b : Nat) (l : List UInt8) (s : ByteArray) (w : World) (h : Wt B b l w) (hlen : l.length + s.size ≤ 140737488355328) :
    Calls Tryz.prog 128 #[.pointer (some ⟨b, 0, none⟩), .string s] w fun e w' => e = .returned (.tuple #[.int .i64 s.size, .nilIface]) ∧ Wt B b (l ++ s.data.toList) w' ∧ Wb B b w w' := by
  have hBw : B ≤ w.heap.size := by have := h.lt; have := h.le; omega
  obtain ⟨i0, hi, hz0, hz1, hz2⟩ := info_parts info5
  have HL := Lib.hid (Lib.byteCells_length l)
  have HW := Lib.hid h
  clear h
  go_enter Tryz.func128, Tryz.ntmps128
  go_wp2_with (go_at_call 168; refine (copyCheck_anyO B b _ _ HW.out).mono ?_)
  rintro e w1 ⟨rfl, h1, hb1⟩
  obtain ⟨hB, v, hbk, hown, hne⟩ := h1
  have c0 : w1.cell? ⟨b, 0, none⟩ = some (.pointer (some ⟨b, 0, none⟩)) := by rw [Lib.cell_of_heap hbk]; rfl
  have c1 : w1.cell? ⟨b, 1, none⟩ = some v := by rw [Lib.cell_of_heap hbk]; rfl
  go_wp2_with (at_builtin; refine Lib.wpList_append_own_stringF _ rfl _ _ 110 9 rfl B 5 i0 Tryz.underlying110 Tryz.underlying9 hi hz0 hz1 hz2 _ _ _ rfl hown s rfl ?c3 ?c4 ?c5 ?_)
  case c3 => unfold maxLen; have := HL.out; omega
  case c4 => have := HL.out; omega
  case c5 => have := hb1.size; omega
  intro v' w2 hown' hgrow _
  have hlt : b < w1.heap.size := by
    rcases Nat.lt_or_ge b w1.heap.size with h' | h'
    · exact h'
    · simp [Array.getElem?_eq_none h'] at hbk
  have hb2 : w2.heap[b]? = some (.cells #[.pointer (some ⟨b, 0, none⟩), v] 137 (0, 0)) := by
    rw [hgrow.block b hlt (fun e => hne e.symm)]
    exact hbk
  have d0 : w2.cell? ⟨b, 0, none⟩ = some (.pointer (some ⟨b, 0, none⟩)) := by rw [Lib.cell_of_heap hb2]; rfl
  have d1 : w2.cell? ⟨b, 1, none⟩ = some v := by rw [Lib.cell_of_heap hb2]; rfl
  have f1 : w2.frozen? ⟨b, 1, none⟩ = false := Lib.frozen_of_heap hb2 1
  obtain ⟨ao, n', cap, rfl⟩ : ∃ ao n' cap, v' = .slice ao n' cap := by
    rcases hown'.2 with ⟨hv, _⟩ | ⟨g, cap, cur, fz, hv, _⟩
    · exact ⟨_, _, _, hv⟩
    · exact ⟨_, _, _, hv⟩
  go_wp2
  go_ret2
  refine ⟨rfl, ?_, ?_⟩
  · refine .inr ?_
    rw [byteCells_append]
    exact Lib.BuilderAtF.put (T := 137) (e := 5) hB hb2 (bs' := Lib.byteCells l ++ Lib.strCells s) (by simpa [Lib.strCells_length] using hown') (by decide)
  · exact (hb1.grown hgrow (by have := hb1.size; omega) (fun k hk => (hown.lt k hk).1) (Lib.ownsRowF_kind hown)).setCell (p := ⟨b, 1, none⟩) hB rfl _


theorem builder_WriteNumO (B b : Nat) (l : List UInt8) (c : Int) (w : World) (h : Wt B b l w) (h1 : 0 ≤ c) (h2 : c ≤ 255) (hlen : l.length + 1 ≤ 140737488355328) :
    Calls Tryz.prog 127 #[.pointer (some ⟨b, 0, none⟩), .int .u8 c] w fun e w' => e = .returned .nilIface ∧ Wt B b (l ++ [UInt8.ofNat c.toNat]) w' ∧ Wb B b w w' := by
  have e : c = ((UInt8.ofNat c.toNat).toNat : Int) := by rw [toNat_ofNat (by omega)]; omega
  have := builder_WriteByteO B b l (UInt8.ofNat c.toNat) w h hlen
  rw [← e] at this
  exact this


set_option maxHeartbeats 400000 in
theorem six_groupsO (B b : Nat) (l : List UInt8) (n mark : Nat) (w : World) (h : Wt B b l w) (hn : n ≤ 9223372036854775807) (hm : mark = 64 ∨ mark = 128) (hlen : l.length + 11 ≤ 140737488355328) :
    Calls Tryz.prog 104 #[.pointer (some ⟨b, 0, none⟩), .int .i64 n, .int .u8 mark] w fun e w' => e = .returned (.tuple #[]) ∧ Wt B b (l ++ grp n mark) w' ∧ Wb B b w w' := by
  have HW := Lib.hid h
  have HM := Lib.hid hm
  have hm0 : (mark : Int) ≤ 128 := by omega
  clear h hm
  go_enter Tryz.func104, Tryz.ntmps104
  go_wp2_with fail
  go_loop [6] (fun x => ∃ k : Nat, k ≤ 10 ∧ x = .int .i64 (6 * k : Nat) ∧ Hid (n / 64 ^ k ≠ 0 ∨ k = 0)) (fun x => 60 - (intOf x).toNat)
  case atStart => exact ⟨0, by omega, rfl, .inr rfl⟩
  case round =>
    obtain ⟨k, hk, rfl, HK⟩ := hrel
    have hq := shift_pow n k
    obtain ⟨q, hQ⟩ : ∃ q, q = n / 64 ^ k := ⟨_, rfl⟩
    rw [← hQ] at hq HK
    have hQ' := Lib.hid hQ
    clear hQ
    by_cases ht : 63 < (q : Int)
    · go_wp2_with fail
      go_round
      case rel =>
        have e : n / 64 ^ (k + 1) = q / 64 := by rw [hQ'.out, Nat.pow_succ, Nat.div_div_eq_div_mul]
        have hk10 : k ≠ 10 := by
          intro hk10
          have := hQ'.out
          rw [hk10, show (64 : Nat) ^ 10 = 1152921504606846976 by decide] at this
          omega
        exact ⟨k + 1, by omega, by go_num, .inl (by rw [e]; omega)⟩
      case measure =>
        have hk10 : k ≠ 10 := by
          intro hk10
          have := hQ'.out
          rw [hk10, show (64 : Nat) ^ 10 = 1152921504606846976 by decide] at this
          omega
        simp [intOf]; omega
    · go_wp2_with fail
      have hq0 : (q : Int) ≤ 63 := by omega
      clear hq ht
      go_loopw [6] (fun x wr => ∃ j : Nat, j ≤ k ∧ x = .int .i64 (6 * j : Nat) ∧ Wt B b (l ++ lead (n / 64 ^ (j + 1))) wr ∧ Wb B b w wr) (fun x wr => (intOf x).toNat)
      case atStart =>
        refine ⟨k, Nat.le_refl _, by go_num, ?_, Wb.refl _ _ _⟩
        have e : n / 64 ^ (k + 1) = 0 := by rw [Nat.pow_succ, ← Nat.div_div_eq_div_mul, ← hQ'.out]; omega
        rw [e, lead_zero, List.append_nil]
        exact HW.out
      case round =>
        obtain ⟨j, hj, rfl, hw, hbw⟩ := hrel
        have HW2 := Lib.hid hw
        have HB2 := Lib.hid hbw
        clear hw hbw
        have hlen2 := Lib.hid (show (l ++ lead (n / 64 ^ (j + 1))).length + 1 ≤ 140737488355328 by rw [List.length_append]; have := lead_le n j hn; omega)
        by_cases hj0 : (j : Int) ≤ 0
        · have hj1 : j = 0 := by omega
          obtain ⟨x, hx⟩ : ∃ x, x = n % 64 := ⟨_, rfl⟩
          obtain ⟨z, hz⟩ : ∃ z, z = mark + x := ⟨_, rfl⟩
          have hand := and63_i64 n hn
          have hor := or_mark x mark (by omega) HM.out
          rw [← hx] at hand
          rw [← hz] at hor
          have hx1 : x ≤ 63 := by omega
          have hz1 : z ≤ 191 := by have := HM.out; omega
          have HX := Lib.hid hx
          have HZ := Lib.hid hz
          have HJ := Lib.hid hj1
          clear hx hz hj1
          go_wp2_with fail
          refine (builder_WriteNumO B b _ _ _ HW2.out (by omega) (by omega) hlen2.out).mono ?_
          rintro e w2 ⟨rfl, h2, k2⟩
          have H2 := Lib.hid h2
          have K2 := Lib.hid k2
          clear h2 k2
          go_wp2
          go_end0
          refine ⟨rfl, ?_, HB2.out.trans K2.out⟩
          have hg : grp n mark = lead (n / 64 ^ (j + 1)) ++ [UInt8.ofNat ((z : Int)).toNat] := by
            unfold grp
            rw [HJ.out, HZ.out, HX.out, Int.toNat_natCast, Nat.zero_add, Nat.pow_one]
          rw [hg, ← List.append_assoc]
          exact H2.out
        · have hj1 : j ≠ 0 := by omega
          obtain ⟨p, hp⟩ : ∃ p, p = n / 64 ^ j := ⟨_, rfl⟩
          obtain ⟨x, hx⟩ : ∃ x, x = p % 64 := ⟨_, rfl⟩
          have hps := shift_pow n j
          have hpn : p ≤ 9223372036854775807 := by have := Nat.div_le_self n (64 ^ j); omega
          have hand := and63_i64 p hpn
          rw [← hp] at hps
          rw [← hx] at hand
          have hx1 : x ≤ 63 := by omega
          have HP := Lib.hid hp
          have HX := Lib.hid hx
          clear hp hx
          go_wp2_with fail
          have hwr : IntKind.u8.wrap (x : Int) = x := by rw [IntKind.wrap_u8']; omega
          have htn : (6 * (j : Int)).toNat = 6 * j := by omega
          go_region_with (go_at_call 127; refine (builder_WriteNumO B b _ _ _ HW2.out.drew (by omega) (by omega) hlen2.out).mono ?_; rintro e w2 ⟨rfl, h2, k2⟩; have H2 := Lib.hid h2; have K2 := Lib.hid k2; clear h2 k2)
          clear hwr htn hand hps
          go_wp2
          go_roundw
          case rel =>
            obtain ⟨i, rfl⟩ : ∃ i, j = i + 1 := ⟨j - 1, by omega⟩
            refine ⟨i, by omega, by go_num, ?_, HB2.out.drew.trans K2.out⟩
            have hk0 : n / 64 ^ (i + 1) ≠ 0 := by
              rcases HK.out with hk1 | hk1
              · intro hz
                have h1 : 64 ^ (i + 1) ≤ 64 ^ k := Nat.pow_le_pow_right (by decide) hj
                have h2 : n / 64 ^ k ≤ n / 64 ^ (i + 1) := Nat.div_le_div_left h1 (Nat.pow_pos (by decide))
                have := hQ'.out
                omega
              · omega
            have hl : lead (n / 64 ^ (i + 1)) = lead (n / 64 ^ (i + 1 + 1)) ++ [UInt8.ofNat ((x : Int)).toNat] := by
              rw [lead_pos hk0, HX.out, HP.out, Int.toNat_natCast, Nat.pow_succ 64 (i + 1), ← Nat.div_div_eq_div_mul]
            rw [hl, ← List.append_assoc]
            exact H2.out
          case measure => simp [intOf]; omega


set_option maxHeartbeats 400000 in
theorem six_CountO (B b : Nat) (l : List UInt8) (n : Nat) (w : World) (h : Wt B b l w) (hn : n ≤ 9223372036854775807) (hlen : l.length + 11 ≤ 140737488355328) :
    Calls Tryz.prog 71 #[.pointer (some ⟨b, 0, none⟩), .int .i64 n] w fun e w' => e = .returned (.int .i64 0) ∧ Wt B b (l ++ whole n) w' ∧ Wb B b w w' := by
  have hg := Lib.hid (show whole n = grp n 64 by unfold whole; rw [if_neg (by omega)]; rfl)
  have HW := Lib.hid h
  clear h
  go_enter Tryz.func71, Tryz.ntmps71
  go_wp2_with fail
  refine (six_groupsO B b l n 64 w HW.out hn (.inl rfl) hlen).mono ?_
  rintro e w2 ⟨rfl, h2, k2⟩
  have H2 := Lib.hid h2
  have K2 := Lib.hid k2
  clear h2 k2
  go_wp2
  go_ret
  exact ⟨rfl, by rw [hg.out]; exact H2.out, K2.out⟩

theorem six_RawO (B b : Nat) (l : List UInt8) (s : ByteArray) (w : World) (h : Wt B b l w) (hlen : l.length + s.size ≤ 140737488355328) :
    Calls Tryz.prog 105 #[.pointer (some ⟨b, 0, none⟩), .string s] w fun e w' => e = .returned (.int .i64 0) ∧ Wt B b (l ++ s.data.toList) w' ∧ Wb B b w w' := by
  have HW := Lib.hid h
  clear h
  go_enter Tryz.func105, Tryz.ntmps105
  go_wp2_with fail
  refine (builder_WriteStringO B b l s w HW.out hlen).mono ?_
  rintro e w2 ⟨rfl, h2, k2⟩
  have H2 := Lib.hid h2
  have K2 := Lib.hid k2
  clear h2 k2
  go_wp2
  go_ret
  exact ⟨rfl, H2.out, K2.out⟩

theorem six_TextO (B b : Nat) (l : List UInt8) (s : ByteArray) (w : World) (h : Wt B b l w) (hlen : l.length + 11 + s.size ≤ 140737488355328) :
    Calls Tryz.prog 75 #[.pointer (some ⟨b, 0, none⟩), .string s] w fun e w' => e = .returned (.int .i64 0) ∧ Wt B b (l ++ text s.data.toList) w' ∧ Wb B b w w' := by
  have HW := Lib.hid h
  clear h
  have hl := Lib.hid (show (whole (s.size : Int)).length ≤ 11 from (whole_len (by omega) (by omega)).1)
  have ht := Lib.hid (show text s.data.toList = whole (s.size : Int) ++ s.data.toList by unfold text; rw [← Lib.size_eq])
  go_enter Tryz.func75, Tryz.ntmps75
  go_wp2_with fail
  refine (six_CountO B b l s.size w HW.out (by omega) (by omega)).mono ?_
  rintro e w2 ⟨rfl, h2, k2⟩
  have H2 := Lib.hid h2
  have K2 := Lib.hid k2
  clear h2 k2
  go_wp2_with fail
  refine (six_RawO B b _ s w2 H2.out (by rw [List.length_append]; have := hl.out; omega)).mono ?_
  rintro e w3 ⟨rfl, h3, k3⟩
  have H3 := Lib.hid h3
  have K3 := Lib.hid k3
  clear h3 k3
  go_wp2
  go_ret
  exact ⟨rfl, by rw [ht.out, ← List.append_assoc]; exact H3.out, K2.out.trans K3.out⟩

end Go.Proofs.YtgljjdldhnajdaaGreat
