/- Texts put together: TableSb, TablePuts -/
import Derived.Test.YteejldddgogbkaaGreatDoorTOp01
import Derived.Test.YteejldddgogbkaaGreatDoorTOp24
import Derived.Test.YteejldddgogbkaaGreatDoorTOp19
/- strings.Builder in a block of its own: what it is left with, and that it keeps every other block that is no row of bytes. -/
set_option linter.unusedVariables false
set_option maxRecDepth 100000
namespace Go.Proofs.YteejldddgogbkaaGreatDoor
open Go.RowKit

theorem liesS : liesAt Tryz.prog Tryz.prog.depth 64 (2 / Tryz.prog.cellsOf 64) 0 64 1 = true := by kernel_rfl
set_option maxHeartbeats 1000000 in
theorem copyCheck_freshS (b : Nat) (w : World) (h0 : w.cell? ⟨b, 0, none⟩ = some (.pointer none)) (hsh : w.shape? b = some (64, 2)) (hfz : w.frozen? ⟨b, 0, none⟩ = false) :
    Calls Tryz.prog 61 #[.pointer (some ⟨b, 0, none⟩)] w fun e w' => e = .returned (.tuple #[]) ∧ w.setCell ⟨b, 0, none⟩ (.pointer (some ⟨b, 0, none⟩)) = w' := by
  obtain ⟨j, hj, hjs⟩ := Option.map_eq_some_iff.1 size63
  go_enter Tryz.func61, Tryz.ntmps61
  go_wp2
  rw [Lib.run_to_unsafe w ⟨b, 0, none⟩ u61 u86 hj (by rw [hjs]; decide) hsh (Nat.zero_lt_succ 1)]
  simp only [Result.andThen]
  rw [Oper.upon_value]
  go_wp2
  rw [run_callFunc_extern Tryz.func86 (by kernel_rfl) (by kernel_rfl) (by kernel_rfl) (e := Extern.AbiNoEscape.same) (by kernel_rfl)]
  rw [Lib.run_noEscape]
  simp only [Result.andThen]
  rw [Oper.upon_value]
  go_wp2
  rw [Lib.run_from_unsafe w ⟨b, 0, none⟩ u86 u61 hj hsh liesS]
  simp only [Result.andThen]
  rw [Oper.upon_value]
  go_wp2
  go_end0
  exact ⟨rfl, rfl⟩

/-- In block b there is a builder that holds the bytes l; what it has laid lies in blocks from B on. -/
def Sb (B b : Nat) (l : List UInt8) (w : World) : Prop := Lib.IsBuilderF 64 5 B b (Lib.byteCells l) w

theorem Sb.lt {B b : Nat} {l : List UInt8} {w : World} (h : Sb B b l w) : b < w.heap.size := by
  rcases h with h | h
  · exact h.lt
  · exact h.lt
theorem Sb.le {B b : Nat} {l : List UInt8} {w : World} (h : Sb B b l w) : B ≤ b := by
  rcases h with h | h
  · exact h.1
  · exact h.1

theorem copyCheck_anyS (B b : Nat) (bs : List Value) (w : World) (h : Lib.IsBuilderF 64 5 B b bs w) :
    Calls Tryz.prog 61 #[.pointer (some ⟨b, 0, none⟩)] w fun e w' => e = .returned (.tuple #[]) ∧ (Lib.BuilderAtF 64 5 B b (.pointer (some ⟨b, 0, none⟩)) bs w' ∧ Wb B b w w') := by
  rcases h with h | h
  · refine (copyCheck_freshS b w h.cell0 h.shape h.frozen0).mono ?_
    rintro e w' ⟨rfl, rfl⟩
    exact ⟨rfl, h.used _, (Wb.refl B b w).setCell (p := ⟨b, 0, none⟩) h.1 rfl _⟩
  · refine (copyCheck_used b w h.cell0).mono ?_
    rintro e w' ⟨rfl, rfl⟩
    exact ⟨rfl, h, Wb.refl B b _⟩

set_option maxHeartbeats 2000000 in
set_option maxRecDepth 100000 in
theorem sb_WriteString (B b : Nat) (l : List UInt8) (s : ByteArray) (w : World) (h : Sb B b l w) (hlen : l.length + s.size ≤ 140737488355328) :
    Calls Tryz.prog 24 #[.pointer (some ⟨b, 0, none⟩), .string s] w fun e w' => e = .returned (.tuple #[.int .i64 s.size, .nilIface]) ∧ Sb B b (l ++ s.data.toList) w' ∧ Wb B b w w' := by
  have hBw : B ≤ w.heap.size := by have := h.lt; have := h.le; omega
  obtain ⟨i0, hi, hz0, hz1, hz2⟩ := info_parts info5
  have HL := Lib.hid (Lib.byteCells_length l)
  have HW := Lib.hid h
  clear h
  go_enter Tryz.func24, Tryz.ntmps24
  go_wp2_with (go_at_call 61; refine (copyCheck_anyS B b _ _ HW.out).mono ?_)
  rintro e w1 ⟨rfl, h1, hb1⟩
  obtain ⟨hB, v, hbk, hown, hne⟩ := h1
  have c0 : w1.cell? ⟨b, 0, none⟩ = some (.pointer (some ⟨b, 0, none⟩)) := by rw [Lib.cell_of_heap hbk]; rfl
  have c1 : w1.cell? ⟨b, 1, none⟩ = some v := by rw [Lib.cell_of_heap hbk]; rfl
  go_wp2_with (at_builtin; refine Lib.wpList_append_own_stringF _ rfl _ _ 62 9 rfl B 5 i0 Tryz.underlying62 Tryz.underlying9 hi hz0 hz1 hz2 _ _ _ rfl hown s rfl ?c3 ?c4 ?c5 ?_)
  case c3 => unfold maxLen; have := HL.out; omega
  case c4 => have := HL.out; omega
  case c5 => have := hb1.size; omega
  intro v' w2 hown' hgrow _
  have hlt : b < w1.heap.size := by
    rcases Nat.lt_or_ge b w1.heap.size with h' | h'
    · exact h'
    · simp [Array.getElem?_eq_none h'] at hbk
  have hb2 : w2.heap[b]? = some (.cells #[.pointer (some ⟨b, 0, none⟩), v] 64 (0, 0)) := by
    rw [hgrow.block b hlt (fun e => hne e.symm)]
    exact hbk
  have d0 : w2.cell? ⟨b, 0, none⟩ = some (.pointer (some ⟨b, 0, none⟩)) := by rw [Lib.cell_of_heap hb2]; rfl
  have d1 : w2.cell? ⟨b, 1, none⟩ = some v := by rw [Lib.cell_of_heap hb2]; rfl
  have f1 : w2.frozen? ⟨b, 1, none⟩ = false := Lib.frozen_of_heap hb2 1
  obtain ⟨ao, n', cap, rfl⟩ : ∃ ao n' cap, v' = .slice ao n' cap := by
    rcases hown'.2 with ⟨hv, _⟩ | ⟨g, cap, cur, fz, hv, _⟩
    · exact ⟨_, _, _, hv⟩
    · exact ⟨_, _, _, hv⟩
  go_wp2
  go_ret2
  refine ⟨rfl, ?_, ?_⟩
  · refine .inr ?_
    rw [byteCells_append]
    exact Lib.BuilderAtF.put (T := 64) (e := 5) hB hb2 (bs' := Lib.byteCells l ++ Lib.strCells s) (by simpa [Lib.strCells_length] using hown') (by decide)
  · exact (hb1.grown hgrow (by have := hb1.size; omega) (fun k hk => (hown.lt k hk).1) (Lib.ownsRowF_kind hown)).setCell (p := ⟨b, 1, none⟩) hB rfl _

set_option maxHeartbeats 1000000 in
set_option maxRecDepth 100000 in
theorem sb_String_some (B b : Nat) (l : List UInt8) (w : World) (h : Sb B b l w) (h0 : l ≠ []) :
    Calls Tryz.prog 30 #[.pointer (some ⟨b, 0, none⟩)] w fun e w' => e = .returned (.string (bs l)) ∧ Sb B b l w' ∧ Below B w w' ∧ Lib.OthersKept 5 (some b) w w' := by
  obtain ⟨p, hp, hAt⟩ : ∃ p, (p = .pointer none ∨ p = .pointer (some ⟨b, 0, none⟩)) ∧ Lib.BuilderAtF 64 5 B b p (Lib.byteCells l) w := by
    rcases h with h | h
    · exact ⟨_, .inl rfl, h⟩
    · exact ⟨_, .inr rfl, h⟩
  obtain ⟨hB, v, hbk, hown, hne⟩ := hAt
  have hl0 : l.length ≠ 0 := by simpa using h0
  rw [Lib.byteCells_length] at hown
  obtain ⟨g, cap, cur, fz, rfl, hbg, hg, hfz, hnc, hcm, hcs, htake⟩ : ∃ g cap cur fz, v = .slice (some ⟨g, 0, none⟩) l.length cap ∧ B ≤ g ∧ w.heap[g]? = some (.cells cur 5 fz) ∧ fz.2 ≤ l.length * 1 ∧ l.length ≤ cap ∧ cap ≤ maxLen ∧ cur.size = cap * 1 ∧ cur.toList.take (l.length * 1) = Lib.byteCells l := by
    rcases hown.2 with ⟨_, hz⟩ | ⟨g, cap, cur, fz, hv, r⟩
    · exact absurd hz hl0
    · exact ⟨g, cap, cur, fz, hv, r⟩
  have c1 : w.drew.cell? ⟨b, 1, none⟩ = some (.slice (some ⟨g, 0, none⟩) l.length cap) := by
    have : w.drew.heap[b]? = some (.cells #[p, .slice (some ⟨g, 0, none⟩) l.length cap] 64 (0, 0)) := hbk
    rw [Lib.cell_of_heap this]; rfl
  have hSD : (Builtin.unsafeSliceData_ #[62] 122 #[.slice (some ⟨g, 0, none⟩) l.length cap]).run Tryz.prog w.drew = .ok (.pointer (some ⟨g, 0, none⟩)) w.drew :=
    Lib.run_unsafeSliceData_row _ _ _ _ _ _ (by omega)
  have hUS : (Builtin.unsafeString_ #[122, 3] 9 #[.pointer (some ⟨g, 0, none⟩), .int .i64 l.length]).run Tryz.prog w.drew = .ok (.string ⟨l.toArray⟩) (w.drew.freeze ⟨g, 0, none⟩ l.length) := by
    refine Lib.run_unsafeString_row w.drew 122 3 9 5 u85 cells5 g cur.size (by have hg' : w.drew.heap[g]? = some (.cells cur 5 fz) := hg; simp [World.shape?, hg']) l h0 (by omega) (by unfold maxLen at hcm; omega) ?_
    intro j x hx
    have := hown.cells (g := g) rfl j (.int .u8 x.toNat) (by simp [Lib.byteCells, hx])
    exact this
  have hkeep : Lib.IsBuilderF 64 5 B b (Lib.byteCells l) (w.drew.freeze ⟨g, 0, none⟩ l.length) := by
    have hA : Lib.BuilderAtF 64 5 B b p (Lib.byteCells l) w.drew := ⟨hB, _, hbk, by rw [Lib.byteCells_length]; exact hown, hne⟩
    have hF := hA.froze (g := g) (cap := cap) (by rw [Lib.byteCells_length]; exact c1)
    rw [Lib.byteCells_length] at hF
    rcases hp with rfl | rfl
    · exact .inl hF
    · exact .inr hF
  have HO := Lib.hid (show ∃ c fz, w.drew.heap[g]? = some (.cells c 5 fz) from ⟨_, _, hg⟩)
  go_enter Tryz.func30, Tryz.ntmps30
  go_wp2
  go_region
  all_goals (go_wp2; go_ret; exact ⟨rfl, hkeep, Lib.below_freeze (Below.drew (Below.refl B w)) (p := ⟨g, 0, none⟩) hbg _, (Lib.OthersKept.drew (Lib.OthersKept.refl 5 (some b) w)).freeze ⟨g, 0, none⟩ _ HO.out⟩)

set_option maxHeartbeats 1000000 in
set_option maxRecDepth 100000 in
theorem sb_String_nil (B b : Nat) (p : Value) (w : World) (hbk : w.heap[b]? = some (.cells #[p, .slice none 0 0] 64 (0, 0))) (hA : Hid (Lib.BuilderAtF 64 5 B b p [] w)) :
    Calls Tryz.prog 30 #[.pointer (some ⟨b, 0, none⟩)] w fun e w' => e = .returned (.string ⟨#[]⟩) ∧ (Lib.BuilderAtF 64 5 B b p [] w' ∧ Below B w w' ∧ Lib.OthersKept 5 (some b) w w') := by
  have hUS := unsafeString_none
  have c1 : w.drew.cell? ⟨b, 1, none⟩ = some (.slice none 0 0) := by
    have : w.drew.heap[b]? = some (.cells #[p, .slice none 0 0] 64 (0, 0)) := hbk
    rw [Lib.cell_of_heap this]; rfl
  have hSD : (Builtin.unsafeSliceData_ #[62] 122 #[.slice none 0 0]).run Tryz.prog w.drew = .ok (.pointer none) w.drew := rfl
  go_enter Tryz.func30, Tryz.ntmps30
  go_wp2
  go_region
  all_goals (go_wp2; go_ret; exact ⟨rfl, hA.out.drew, Below.drew (Below.refl B w), Lib.OthersKept.drew (Lib.OthersKept.refl 5 (some b) w)⟩)

set_option maxHeartbeats 1000000 in
set_option maxRecDepth 100000 in
theorem sb_String_noroom (B b g : Nat) (p : Value) (cur : Array Value) (w : World) (hBw : B ≤ w.heap.size) (hbk : w.heap[b]? = some (.cells #[p, .slice (some ⟨g, 0, none⟩) 0 0] 64 (0, 0))) (fz : Nat × Nat) (hg : w.heap[g]? = some (.cells cur 5 fz)) (hA : Hid (Lib.BuilderAtF 64 5 B b p [] w)) :
    Calls Tryz.prog 30 #[.pointer (some ⟨b, 0, none⟩)] w fun e w' => e = .returned (.string ⟨#[]⟩) ∧ (Lib.BuilderAtF 64 5 B b p [] w' ∧ Below B w w' ∧ Lib.OthersKept 5 (some b) w w') := by
  have hUS := unsafeString_none
  have hlt : b < w.heap.size := by
    rcases Nat.lt_or_ge b w.heap.size with h' | h'
    · exact h'
    · simp [Array.getElem?_eq_none h'] at hbk
  have c1 : w.drew.cell? ⟨b, 1, none⟩ = some (.slice (some ⟨g, 0, none⟩) 0 0) := by
    have : w.drew.heap[b]? = some (.cells #[p, .slice (some ⟨g, 0, none⟩) 0 0] 64 (0, 0)) := hbk
    rw [Lib.cell_of_heap this]; rfl
  have hSD : (Builtin.unsafeSliceData_ #[62] 122 #[.slice (some ⟨g, 0, none⟩) 0 0]).run Tryz.prog w.drew = .ok (.pointer (some ⟨w.drew.heap.size, 0, none⟩)) (w.drew.alloc (.view ⟨g, 0, none⟩ 5)) :=
    Lib.run_unsafeSliceData_zero w.drew _ _ 5 u85 ⟨g, 0, none⟩ 0 (5, cur.size) (by have hg' : w.drew.heap[g]? = some (.cells cur 5 fz) := hg; simp [World.shape?, hg'])
  have c2 : (w.drew.alloc (.view ⟨g, 0, none⟩ 5)).cell? ⟨b, 1, none⟩ = some (.slice (some ⟨g, 0, none⟩) 0 0) := by
    have : (w.drew.alloc (.view ⟨g, 0, none⟩ 5)).heap[b]? = _ := (Lib.alloc_old w.drew _ b hlt).trans hbk
    rw [Lib.cell_of_heap this]; rfl
  have c3 : (w.alloc (.view ⟨g, 0, none⟩ 5)).drew.cell? ⟨b, 1, none⟩ = some (.slice (some ⟨g, 0, none⟩) 0 0) := c2
  have c0 : w.cell? ⟨b, 1, none⟩ = some (.slice (some ⟨g, 0, none⟩) 0 0) := c1
  go_enter Tryz.func30, Tryz.ntmps30
  go_wp2
  go_region
  all_goals (go_wp2; go_ret; exact ⟨rfl, hA.out.drew.alloc _, (Below.drew (Below.refl B w)).alloc hBw _, (Lib.OthersKept.drew (Lib.OthersKept.refl 5 (some b) w)).alloc _⟩)

set_option maxHeartbeats 1000000 in
set_option maxRecDepth 100000 in
theorem sb_String_room (B b g cap : Nat) (p : Value) (w : World) (hc0 : cap ≠ 0) (hbk : w.heap[b]? = some (.cells #[p, .slice (some ⟨g, 0, none⟩) 0 cap] 64 (0, 0))) (hA : Hid (Lib.BuilderAtF 64 5 B b p [] w)) :
    Calls Tryz.prog 30 #[.pointer (some ⟨b, 0, none⟩)] w fun e w' => e = .returned (.string ⟨#[]⟩) ∧ (Lib.BuilderAtF 64 5 B b p [] w' ∧ Below B w w' ∧ Lib.OthersKept 5 (some b) w w') := by
  have hUS := unsafeString_none
  have c1 : w.drew.cell? ⟨b, 1, none⟩ = some (.slice (some ⟨g, 0, none⟩) 0 cap) := by
    have : w.drew.heap[b]? = some (.cells #[p, .slice (some ⟨g, 0, none⟩) 0 cap] 64 (0, 0)) := hbk
    rw [Lib.cell_of_heap this]; rfl
  have hSD : (Builtin.unsafeSliceData_ #[62] 122 #[.slice (some ⟨g, 0, none⟩) 0 cap]).run Tryz.prog w.drew = .ok (.pointer (some ⟨g, 0, none⟩)) w.drew :=
    Lib.run_unsafeSliceData_row _ _ _ _ _ _ hc0
  clear hc0
  go_enter Tryz.func30, Tryz.ntmps30
  go_wp2
  go_region
  all_goals (go_wp2; go_ret; exact ⟨rfl, hA.out.drew, Below.drew (Below.refl B w), Lib.OthersKept.drew (Lib.OthersKept.refl 5 (some b) w)⟩)

theorem sb_String (B b : Nat) (l : List UInt8) (w : World) (h : Sb B b l w) :
    Calls Tryz.prog 30 #[.pointer (some ⟨b, 0, none⟩)] w fun e w' => e = .returned (.string (bs l)) ∧ Sb B b l w' ∧ Below B w w' ∧ Lib.OthersKept 5 (some b) w w' := by
  have hBw : B ≤ w.heap.size := by have := h.lt; have := h.le; omega
  cases l with
  | cons x r => exact sb_String_some B b (x :: r) w h (by simp)
  | nil =>
    obtain ⟨p, hp, hA⟩ : ∃ p, (p = .pointer none ∨ p = .pointer (some ⟨b, 0, none⟩)) ∧ Lib.BuilderAtF 64 5 B b p [] w := by
      rcases h with h | h
      · exact ⟨_, .inl rfl, h⟩
      · exact ⟨_, .inr rfl, h⟩
    have fin : ∀ (e : Ending) (w' : World), (e = .returned (.string ⟨#[]⟩) ∧ (Lib.BuilderAtF 64 5 B b p [] w' ∧ Below B w w' ∧ Lib.OthersKept 5 (some b) w w')) → e = .returned (.string (bs [])) ∧ Sb B b [] w' ∧ Below B w w' ∧ Lib.OthersKept 5 (some b) w w' := by
      rintro e w' ⟨he, hk, hb⟩
      rcases hp with rfl | rfl
      · exact ⟨he, .inl hk, hb⟩
      · exact ⟨he, .inr hk, hb⟩
    have hA' := hA
    obtain ⟨hB, v, hbk, hown, hne⟩ := hA
    rcases hown.2 with ⟨rfl, _⟩ | ⟨g, cap, cur, fz, rfl, hbg, hg, _, _, _, _, _⟩
    · exact (sb_String_nil B b p w hbk (Lib.hid hA')).mono fin
    · by_cases hc0 : cap = 0
      · subst hc0
        exact (sb_String_noroom B b g p cur w hBw hbk fz hg (Lib.hid hA')).mono fin
      · exact (sb_String_room B b g cap p w hc0 hbk (Lib.hid hA')).mono fin

theorem sb_new (w : World) : Sb w.heap.size w.heap.size [] (w.alloc (.cells #[.pointer none, .slice none 0 0] 64)) := by
  refine .inl ⟨Nat.le_refl _, .slice none 0 0, ?_, World.ownsRowF_nil _ _ _ _, by simp [Value.ownBlock]⟩
  show (w.heap.push _)[w.heap.size]? = _
  simp


theorem Sb.same {B b : Nat} {l : List UInt8} {w w' : World} (h : Sb B b l w) (k : ∀ j, j < w.heap.size → (j = b ∨ ∃ cs fz, w.heap[j]? = some (.cells cs 5 fz)) → w'.heap[j]? = w.heap[j]?) : Sb B b l w' := by
  have core : ∀ p, Lib.BuilderAtF 64 5 B b p (Lib.byteCells l) w → Lib.BuilderAtF 64 5 B b p (Lib.byteCells l) w' := by
    rintro p ⟨hB, v, hbk, hown, hne⟩
    have hlt : b < w.heap.size := Lib.BuilderAtF.lt ⟨hB, v, hbk, hown, hne⟩
    refine ⟨hB, v, ?_, ⟨hown.1, ?_⟩, hne⟩
    · rw [k b hlt (.inl rfl), hbk]
    · rcases hown.2 with hn | ⟨g, cap, cur, fz, hv, hbg, hg, rest⟩
      · exact .inl hn
      · refine .inr ⟨g, cap, cur, fz, hv, hbg, ?_, rest⟩
        rw [k g (Array.getElem?_eq_some_iff.1 hg).1 (.inr ⟨_, _, hg⟩), hg]
  rcases h with h | h
  · exact .inl (core _ h)
  · exact .inr (core _ h)
theorem Sb.keep {B b : Nat} {l : List UInt8} {w w' : World} (h : Sb B b l w) (k : Below w.heap.size w w') : Sb B b l w' := h.same (fun j hj _ => k.block j hj)
theorem Sb.alloc {B b : Nat} {l : List UInt8} {w : World} (h : Sb B b l w) (o : Obj) : Sb B b l (w.alloc o) := h.same (fun j hj _ => Below.heap_alloc w o j hj)
theorem Sb.block {B b : Nat} {l : List UInt8} {w : World} (h : Sb B b l w) : ∃ p v, w.heap[b]? = some (.cells #[p, v] 64 (0, 0)) := by
  rcases h with ⟨_, v, h, _⟩ | ⟨_, v, h, _⟩
  · exact ⟨_, v, h⟩
  · exact ⟨_, v, h⟩
/-- Where another block is written, that is no row of bytes. -/
theorem Sb.other {B b c : Nat} {l : List UInt8} {w w' : World} {o : Obj} (h : Sb B b l w) (hc : w.heap[c]? = some o) (hb : c ≠ b) (ht : ∀ cs fz, o ≠ .cells cs 5 fz) (k : ∀ j, j < w.heap.size → j ≠ c → w'.heap[j]? = w.heap[j]?) : Sb B b l w' :=
  h.same fun j hj hs => k j hj fun e => by
    subst e
    rcases hs with e | ⟨cs, fz, e⟩
    · exact hb e
    · rw [hc] at e; injection e with e; exact ht _ _ e
/-- How many bytes it holds. -/
theorem sb_Len (B b : Nat) (l : List UInt8) (w : World) (h : Sb B b l w) :
    Calls Tryz.prog 22 #[.pointer (some ⟨b, 0, none⟩)] w fun e w' => e = .returned (.int .i64 (l.length : Int)) ∧ w = w' := by
  obtain ⟨v, c1, hv⟩ : ∃ v, w.cell? ⟨b, 1, none⟩ = some v ∧ ∃ a cap, v = .slice a l.length cap := by
    have core : ∀ p, Lib.BuilderAtF 64 5 B b p (Lib.byteCells l) w → ∃ v, w.cell? ⟨b, 1, none⟩ = some v ∧ ∃ a cap, v = .slice a l.length cap := by
      rintro p ⟨hB, v, hbk, hown, hne⟩
      rw [Lib.byteCells_length] at hown
      refine ⟨v, by rw [Lib.cell_of_heap hbk]; rfl, ?_⟩
      rcases hown.2 with ⟨hv, hz⟩ | ⟨g, cap, cur, fz, hv, r⟩
      · exact ⟨none, 0, by rw [hv, hz]⟩
      · exact ⟨_, _, hv⟩
    rcases h with h | h
    · exact core _ h
    · exact core _ h
  obtain ⟨a, cap, rfl⟩ := hv
  go_enter Tryz.func22, Tryz.ntmps22
  go_wp2
  go_ret
  exact ⟨rfl, rfl⟩
end Go.Proofs.YteejldddgogbkaaGreatDoor
/- The blocks of a table, one behind the other, and its index. -/
set_option linter.unusedVariables false
set_option maxRecDepth 100000
namespace Go.Proofs.YteejldddgogbkaaGreatDoor
open Go.RowKit Go.Shelf
attribute [local go_sem] Oper.semAt_some

theorem chunk_open (a : Option Addr) (len cap k : Nat) (w : World) (hk : 1 ≤ k) (hk2 : k ≤ 256) :
    Calls Tryz.prog 55 #[.slice a len cap, .int .i64 (k : Int)] w fun e w' => e = .returned (.func (.func 81) #[] #[.pointer (some ⟨w.heap.size, 0, none⟩), .pointer (some ⟨w.heap.size + 1, 0, none⟩)]) ∧ (w.alloc (.cells #[.slice a len cap] 22)).alloc (.cells #[.int .i64 (k : Int)] 3) = w' := by
  go_enter Tryz.func55, Tryz.ntmps55
  go_wp2_with fail
  go_ret
  exact ⟨rfl, rfl⟩
/-- Where the putting stands: the blocks of these parts are put. -/
structure PutI (B0 ob X0 X1 B1 : Nat) (w : World) (C : List (List Ent)) (W : World) : Prop where
  idx : ∃ xa xcap, W.heap[X1]? = some (.cells #[.slice xa C.length xcap] 22 (0, 0)) ∧ OwnE W B1 (.slice xa C.length xcap) (idxs 0 C)
  out : Sb B0 ob (blksB C) W
  bel : Below B0 w W
  ptr : W.heap[X0]? = some (.cells #[.pointer (some ⟨ob, 0, none⟩)] 61 (0, 0))
theorem PutI.keep {B0 ob X0 X1 B1 : Nat} {w W W' : World} {C : List (List Ent)} (h : PutI B0 ob X0 X1 B1 w C W) (hb : Below B0 W W') (k : ∀ (j : Nat) (cs : Array Value) (t : TypeId) (z : Nat × Nat), W.heap[j]? = some (Obj.cells cs t z) → W'.heap[j]? = W.heap[j]?) : PutI B0 ob X0 X1 B1 w C W' := by
  obtain ⟨xa, xcap, h1, h2⟩ := h.idx
  refine ⟨⟨xa, xcap, (k _ _ _ _ h1).trans h1, OffRow.kept h2 fun j hj => ?_⟩, h.out.same fun j hj hs => ?_, h.bel.trans hb, (k _ _ _ _ h.ptr).trans h.ptr⟩
  · obtain ⟨cur, hc⟩ := OffRow.tag h2 hj
    exact k _ _ _ _ hc
  · rcases hs with rfl | ⟨cs, fz, hc⟩
    · obtain ⟨p, v, hc⟩ := h.out.block
      exact k _ _ _ _ hc
    · exact k _ _ _ _ hc
theorem PutI.below {B0 ob X0 X1 B1 : Nat} {w W W' : World} {C : List (List Ent)} (h : PutI B0 ob X0 X1 B1 w C W) (hB : B0 ≤ W.heap.size) (hb : Below W.heap.size W W') : PutI B0 ob X0 X1 B1 w C W' :=
  h.keep (hb.mono hB) fun j cs t z hj => hb.block j (heap_lt hj)
theorem PutI.own {B0 ob X0 X1 B1 sb nb M : Nat} {w w2 : World} (hN : B0 ≤ w2.heap.size) (h1 : sb < w2.heap.size) (h2 : nb < w2.heap.size) (f : List (Num M) → List (List Ent)) : OwnFrom w2.heap.size (fun pre W => Kp2 sb nb w2 W ∧ PutI B0 ob X0 X1 B1 w (f pre) W) := fun s A B row hs hg hr =>
  ⟨⟨Nat.le_trans hs.1.1 hg.size, (hg.block sb (Nat.lt_of_lt_of_le h1 hs.1.1) (fun e => by have := (hr sb e.symm).1; omega)).trans hs.1.2.1, (hg.block nb (Nat.lt_of_lt_of_le h2 hs.1.1) (fun e => by have := (hr nb e.symm).1; omega)).trans hs.1.2.2⟩, hs.2.keep ((Below.refl B0 A).grown hg (Nat.le_trans hN hs.1.1) (fun k e => Nat.le_trans hN (hr k e).1)) fun j cs t z hj => hg.block j (heap_lt hj) fun e => by
    obtain ⟨_, o, ho, hc⟩ := hr j e.symm
    rw [hj] at ho
    injection ho with ho
    subst ho
    cases hc⟩
theorem OwnE.weak {w : World} {B B' : Nat} {v : Value} {R : List Ent} (h : OwnE w B v R) (hB : B' ≤ B) : OwnE w B' v R := by
  refine ⟨h.1, ?_⟩
  rcases h.2 with h | ⟨g, off, cap, cur, h1, h2, h3⟩
  · exact .inl h
  · exact .inr ⟨g, off, cap, cur, h1, Nat.le_trans hB h2, h3⟩
/-- A part of a slice of entries. -/
theorem IsE.part {w : World} {b off len : Nat} {T : List Ent} (h : IsE w (some ⟨b, off, none⟩) len T) (i n : Nat) (hn : i + n ≤ len) : IsE w (some ⟨b, off + i * 3, none⟩) n ((T.drop i).take n) := by
  obtain ⟨hl, b', off', ho, hr⟩ := h
  refine ⟨by rw [List.length_take, List.length_drop]; omega, b, off + i * 3, .inr rfl, fun j hj => ?_⟩
  rw [List.length_take, List.length_drop] at hj
  have hlt : i + j < T.length := by omega
  rcases ho with h0 | h0
  · omega
  · injection h0 with h0
    injection h0 with h1 h2 _
    subst h1 h2
    have := hr (i + j) hlt
    rw [show off + i * 3 + j * 3 = off + (i + j) * 3 by omega]
    simpa using this
theorem blksB_len (C : List (List Ent)) (h : ∀ c ∈ C, smallE c ∧ c.length ≤ 256) : (blksB C).length ≤ C.length * 36000000 := by
  induction C with
  | nil => simp [blksB]
  | cons c C ih =>
    have h1 := ih fun d hd => h d (by simp [hd])
    have h2 := blkB_len (h c (by simp)).1 (by have := (h c (by simp)).2; omega)
    have h3 := (h c (by simp)).2
    have e : blksB (c :: C) = blkB c ++ blksB C := by simp [blksB]
    rw [e, List.length_append, List.length_cons]
    omega
/-- The index's row, as its variable tells. -/
theorem putI_at {B0 ob X0 X1 B1 n : Nat} {w W : World} {C : List (List Ent)} {xa : Option Addr} {xcap : Nat} (h : PutI B0 ob X0 X1 B1 w C W) (hn : n = C.length) (hc : W.cell? ⟨X1, 0, none⟩ = some (.slice xa n xcap)) : OffRow W B1 49 3 (.slice xa n xcap) n (ecells (idxs 0 C)) := by
  obtain ⟨ya, ycap, h1, h2⟩ := h.idx
  have h3 : W.cell? ⟨X1, 0, none⟩ = some (.slice ya C.length ycap) := by simp [World.cell?, h1]
  rw [hc] at h3
  injection h3 with h3
  injection h3 with e1 e2 e3
  subst e1 e3
  have := h2
  unfold OwnE at this
  rw [idxs_len, ← hn] at this
  exact this
/-- Behind the growing, ahead of the variable's write. -/
structure Grown (B0 X1 B1 n : Nat) (C : List (List Ent)) (xa : Option Addr) (xcap : Nat) (v : Value) (V : Ent) (W6 W : World) : Prop where
  cx : W.cell? ⟨X1, 0, none⟩ = some (.slice xa n xcap)
  fx : W.frozen? ⟨X1, 0, none⟩ = false
  row : OffRow W B1 49 3 v (n + 1) (ecells (idxs 0 C) ++ V.vals)
  keep : ∀ (j : Nat) (o : Obj), W6.heap[j]? = some o → (∀ cs z, o = Obj.cells cs 49 z → j < B1) → W.heap[j]? = W6.heap[j]?
  others : KeepsOthers W6 W
  bel : Below B0 W6 W
theorem putI_grown {B0 ob X0 X1 B1 n : Nat} {w W6 W8 : World} {C : List (List Ent)} {xa : Option Addr} {xcap : Nat} {o : Obj} {v8 : Value} {V : Ent} (h : PutI B0 ob X0 X1 B1 w C W6) (h2 : OffRow W6 B1 49 3 (.slice xa n xcap) n (ecells (idxs 0 C))) (hc : W6.cell? ⟨X1, 0, none⟩ = some (.slice xa n xcap)) (hB : B0 ≤ B1 ∧ X1 < B1 ∧ B1 ≤ W6.heap.size)
    (hr : OffRow W8 B1 49 3 v8 (n + 1) (ecells (idxs 0 C) ++ V.vals)) (hg : (W6.alloc o).grownBy W8 (Value.slice xa n xcap).ownBlock) : Grown B0 X1 B1 n C xa xcap v8 V W6 W8 := by
  have keep : ∀ (j : Nat) (ob : Obj), W6.heap[j]? = some ob → (∀ cs z, ob = .cells cs 49 z → j < B1) → W8.heap[j]? = W6.heap[j]? := fun j ob hj hjt => by
    have hlt := heap_lt hj
    rw [hg.block j (by simp; omega) (fun e => by
      have he := e.symm
      obtain ⟨cur, hcur⟩ := OffRow.tag h2 he
      have h3 := OffRow.lt h2 j he
      rw [hj] at hcur
      injection hcur with hcur
      have := hjt _ _ hcur
      omega), Below.heap_alloc _ _ _ hlt]
  obtain ⟨ya, ycap, h1, _⟩ := h.idx
  have hX := keep X1 _ h1 (fun cs z _ => hB.2.1)
  refine ⟨?_, ?_, hr, keep, ⟨?_, fun j ob hj ho => ?_⟩, ?_⟩
  · unfold World.cell? at hc ⊢
    simp only [hX]
    exact hc
  · simp [World.frozen?, hX, h1]
  · have := hg.size; simp at this; omega
  · rw [keep j ob hj (fun cs z e => by subst e; cases ho), hj]
  · exact ((Below.refl B0 W6).alloc (by omega) o).grown hg (by simp; omega) (fun j hj => by have := (OffRow.lt h2 j hj).1; omega)
/-- Behind the variable's write: the index is told, the bytes aren't yet. -/
structure PutJ (B0 ob X0 X1 B1 : Nat) (w : World) (C : List (List Ent)) (P : List Ent) (W : World) : Prop where
  idx : ∃ xa xcap, W.heap[X1]? = some (.cells #[.slice xa (C.length + 1) xcap] 22 (0, 0)) ∧ OwnE W B1 (.slice xa (C.length + 1) xcap) (idxs 0 (C ++ [P]))
  out : Sb B0 ob (blksB C) W
  bel : Below B0 w W
  ptr : W.heap[X0]? = some (.cells #[.pointer (some ⟨ob, 0, none⟩)] 61 (0, 0))
theorem putI_set {B0 ob X0 X1 B1 n : Nat} {w W6 W8 : World} {C : List (List Ent)} {P : List Ent} {xa a8 : Option Addr} {xcap cap8 : Nat} {V : Ent} (g : Grown B0 X1 B1 n C xa xcap (.slice a8 (n + 1) cap8) V W6 W8) (h : PutI B0 ob X0 X1 B1 w C W6) (hn : n = C.length) (hV : V = idxE (blksB C).length P) (hB : B0 ≤ X1 ∧ X1 < B1 ∧ X0 < X1 ∧ ob < X0) : PutJ B0 ob X0 X1 B1 w C P (W8.setCell ⟨X1, 0, none⟩ (.slice a8 (n + 1) cap8)) := by
  obtain ⟨ya, ycap, h1, h2⟩ := h.idx
  subst hn
  have e1 : W8.heap[X1]? = some (.cells #[.slice ya C.length ycap] 22 (0, 0)) := (g.keep _ _ h1 fun _ _ _ => hB.2.1).trans h1
  refine ⟨⟨a8, cap8, ?_, ?_⟩, ?_, (h.bel.trans g.bel).setCell hB.1 _, ?_⟩
  · have := heap_set (o := 0) e1 (.slice a8 (C.length + 1) cap8)
    rw [this]
    rfl
  · unfold OwnE
    rw [idxs_snoc, Nat.zero_add, ← hV, List.length_append, idxs_len, ecells_snoc]
    refine OffRow.kept g.row fun j hj => heap_set_other (fun e => ?_) _
    have := (OffRow.lt g.row j hj).1
    omega
  · obtain ⟨p, v, hb⟩ := h.out.block
    refine h.out.same fun j hj hs => ?_
    rcases hs with rfl | ⟨cs, fz, hc⟩
    · rw [heap_set_other (by omega), g.keep _ _ hb fun _ _ e => by injection e with _ e _; exact absurd e (by decide)]
    · have hne : j ≠ X1 := fun e => by subst e; rw [h1] at hc; injection hc with hc; injection hc with _ hc _; exact absurd hc (by decide)
      rw [heap_set_other hne, g.keep _ _ hc fun _ _ e => by injection e with _ e _; exact absurd e (by decide)]
  · rw [heap_set_other (by omega), g.keep _ _ h.ptr fun _ _ _ => by omega]
    exact h.ptr
theorem putJ_end {B0 ob X0 X1 B1 sb nb k len cap : Nat} {a : Option Addr} {w w2 W W9 W10 : World} {C D : List (List Ent)} {P : List Ent} {s : List UInt8} (hD : D = C ++ [P]) (hs : s = blkB P) (j : PutJ B0 ob X0 X1 B1 w C P W9) (h10 : Sb B0 ob (blksB C ++ (bs s).data.toList) W10) (k10 : Wb B0 ob W9 W10) (kp : Kp2 sb nb w2 W9) (ko : KeepsOthers W W9) (kw : Kp2 sb nb w2 W)
    (e2 : w2.heap[sb]? = some (.cells #[.slice a len cap] 22 (0, 0))) (e3 : w2.heap[nb]? = some (.cells #[.int .i64 (k : Int)] 3 (0, 0))) (hne : sb ≠ ob ∧ nb ≠ ob ∧ X0 ≠ ob ∧ X0 < X1) (hne1 : X1 ≠ ob) :
    KeepsOthers W W10 ∧ Kp2 sb nb W W10 ∧ Kp2 sb nb w2 W10 ∧ PutI B0 ob X0 X1 B1 w D W10 := by
  obtain ⟨xa, xcap, h1, h2⟩ := j.idx
  obtain ⟨p, v, hb⟩ := j.out.block
  have f2 := k10.keeps (kp.2.1.trans e2) hne.1 (by decide)
  have f3 := k10.keeps (kp.2.2.trans e3) hne.2.1 (by decide)
  have z := k10.size
  have kw2 : Kp2 sb nb w2 W10 := ⟨Nat.le_trans kp.1 z, f2.trans e2.symm, f3.trans e3.symm⟩
  subst hD hs
  refine ⟨ko.trans ⟨z, fun i o hi ho => k10.oth i o hi (fun e => ?_) (fun c fz e => ?_)⟩, ⟨Nat.le_trans ko.size z, kw2.2.1.trans kw.2.1.symm, kw2.2.2.trans kw.2.2.symm⟩, kw2, ⟨xa, xcap, ?_, ?_⟩, ?_, j.bel.trans k10.bel, k10.keeps j.ptr hne.2.2.1 (by decide)⟩
  · injection e with e
    subst e
    rw [hb] at hi
    injection hi with hi
    subst hi
    cases ho
  · subst e
    cases ho
  · rw [List.length_append, List.length_singleton]
    exact k10.keeps h1 hne1 (by decide)
  · rw [List.length_append, List.length_singleton]
    refine OffRow.kept h2 fun g hg => ?_
    obtain ⟨cur, hc⟩ := OffRow.tag h2 hg
    rw [hc]
    exact k10.keeps hc (fun e => by subst e; rw [hb] at hc; injection hc with hc; injection hc with _ hc _; exact absurd hc (by decide)) (by decide)
  · rw [blksB_snoc]
    rw [bs_list] at h10
    exact h10
set_option maxHeartbeats 4000000 in
theorem table_putBlocks (B0 ob k : Nat) (a : Option Addr) (len cap : Nat) (T : List Ent) (w : World) (h : Hid (Sb B0 ob [] w)) (hT : Hid (∀ w', Below B0 w w' → IsE w' a len T)) (hl : len ≤ 3001) (hcap : len ≤ cap) (hk1 : 1 ≤ k) (hk2 : k ≤ 256) (hc : Hid (chkE T = 0)) :
    Calls Tryz.prog 21 #[.pointer (some ⟨ob, 0, none⟩), .slice a len cap, .int .i64 (k : Int)] w fun e w' => ∃ xa xcap, e = .returned (.slice xa (chunks k T).length xcap) ∧ OwnE w' w.heap.size (.slice xa (chunks k T).length xcap) (idxs 0 (chunks k T)) ∧ Sb B0 ob (blksB (chunks k T)) w' ∧ Below B0 w w' := by
  obtain ⟨b, off, hab, hrow⟩ : ∃ b off, (len = 0 ∨ a = some ⟨b, off, none⟩) ∧ RowE b off T w := (hT.out w (Below.refl _ _)).2
  have hlen := Lib.hid (show len = T.length from (hT.out w (Below.refl _ _)).1)
  obtain ⟨X, hX⟩ : ∃ X, X = w.heap.size := ⟨_, rfl⟩
  obtain ⟨w2, hw2⟩ : ∃ w2, w2 = (((w.alloc (.cells #[.pointer (some ⟨ob, 0, none⟩)] 61)).alloc (.cells #[.slice none 0 0] 22)).alloc (.cells #[.slice a len cap] 22)).alloc (.cells #[.int .i64 (k : Int)] 3) := ⟨_, rfl⟩
  have B2 := Lib.hid (show Below w.heap.size w w2 by rw [hw2]; exact ((((Below.refl _ w).alloc (Nat.le_refl _) _).alloc (by simp) _).alloc (by simp; omega) _).alloc (by simp; omega) _)
  have S2 := Lib.hid (show w2.heap.size = X + 1 + 1 + 1 + 1 by rw [hw2, hX]; simp)
  have hBX := Lib.hid (show B0 ≤ X ∧ ob < X by rw [hX]; exact ⟨by have := h.out.le; have := h.out.lt; omega, h.out.lt⟩)
  have e0 := Lib.hid (show w2.heap[X]? = some (.cells #[.pointer (some ⟨ob, 0, none⟩)] 61 (0, 0)) by
    rw [hw2, Below.heap_alloc _ _ _ (by simp; omega), Below.heap_alloc _ _ _ (by simp; omega), Below.heap_alloc _ _ _ (by simp; omega), hX]; exact heap_new w _)
  have e1 := Lib.hid (show w2.heap[X + 1]? = some (.cells #[.slice none 0 0] 22 (0, 0)) by
    have h := heap_new (w.alloc (.cells #[.pointer (some ⟨ob, 0, none⟩)] 61)) (.cells #[.slice none 0 0] 22)
    rw [show (w.alloc (.cells #[.pointer (some ⟨ob, 0, none⟩)] 61)).heap.size = X + 1 by rw [hX]; simp] at h
    rw [hw2, Below.heap_alloc _ _ _ (by simp; omega), Below.heap_alloc _ _ _ (by simp; omega)]; exact h)
  have e2 := Lib.hid (show w2.heap[X + 1 + 1]? = some (.cells #[.slice a len cap] 22 (0, 0)) by
    have h := heap_new ((w.alloc (.cells #[.pointer (some ⟨ob, 0, none⟩)] 61)).alloc (.cells #[.slice none 0 0] 22)) (.cells #[.slice a len cap] 22)
    rw [show ((w.alloc (.cells #[.pointer (some ⟨ob, 0, none⟩)] 61)).alloc (.cells #[.slice none 0 0] 22)).heap.size = X + 1 + 1 by rw [hX]; simp] at h
    rw [hw2, Below.heap_alloc _ _ _ (by simp; omega)]; exact h)
  have e3 := Lib.hid (show w2.heap[X + 1 + 1 + 1]? = some (.cells #[.int .i64 (k : Int)] 3 (0, 0)) by
    have h := heap_new (((w.alloc (.cells #[.pointer (some ⟨ob, 0, none⟩)] 61)).alloc (.cells #[.slice none 0 0] 22)).alloc (.cells #[.slice a len cap] 22)) (.cells #[.int .i64 (k : Int)] 3)
    rw [show (((w.alloc (.cells #[.pointer (some ⟨ob, 0, none⟩)] 61)).alloc (.cells #[.slice none 0 0] 22)).alloc (.cells #[.slice a len cap] 22)).heap.size = X + 1 + 1 + 1 by rw [hX]; simp] at h
    rw [hw2]; exact h)
  obtain ⟨M, hM⟩ : ∃ M, M = (len + k - 1) / k := ⟨_, rfl⟩
  have HM := Lib.hid hM
  have hM1 := Lib.hid (show M ≤ 3001 by
    rw [hM]
    have := Nat.div_le_self (len + k - 1) k
    rcases Nat.eq_zero_or_pos len with h0 | h0
    · rw [h0, show 0 + k - 1 = k - 1 by omega, Nat.div_eq_of_lt (by omega)]; omega
    · have := Nat.div_mul_le_self (len + k - 1) k
      have h3 : (len + k - 1) / k ≤ len := by
        rw [Nat.div_le_iff_le_mul_add_pred (by omega)]
        have := Nat.mul_le_mul_right len hk1
        rw [Nat.one_mul] at this
        omega
      omega)
  have F2 := Lib.hid (show Sb B0 ob [] w2 from h.out.keep B2.out)
  have P2 := Lib.hid (show PutI B0 ob X (X + 1) (X + 1 + 1 + 1 + 1) w [] w2 from ⟨⟨none, 0, e1.out, OwnE.nil _ _⟩, F2.out, B2.out.mono (by rw [← hX]; exact hBX.out.1), e0.out⟩)
  have HW2 := Lib.hid hw2
  have HX := Lib.hid hX
  have HAB := Lib.hid hab
  clear hM hw2 hX hab hrow
  refine (callsIn_wide (n := 5)).1 ?_
  refine callsIn_of_wp_marks Tryz.func21 rfl trivial ?_ rfl
  simp only [Tryz.ntmps21, List.size_toArray, List.length_cons, List.length_nil, Nat.reduceAdd, Nat.reduceSub, Array.replicate_succ, Array.replicate_zero, List.push_toArray, List.append_toArray, List.nil_append, List.cons_append]
  gi_wp2_with (first | (refine ⟨trivial, ?_⟩; gi_at_call 55; refine (callsIn_wide.2 (chunk_open a len cap k _ hk1 hk2)).mono ?_; rintro e w' ⟨rfl, rfl⟩))
  rw [← HX.out, ← HW2.out]
  refine wpIn_rangeFunc_ownF (α := Num M) rfl (by omega) (gf := 81) (lb := #[.pointer (some ⟨X + 1 + 1, 0, none⟩), .pointer (some ⟨X + 1 + 1 + 1, 0, none⟩)]) rfl trivial (enters_of Tryz.func81 (by kernel_rfl) rfl)
    (chunk_stops _ (X + 1 + 1) (X + 1 + 1 + 1) b off k len cap M a w2 hk1 hk2 (by omega) hcap HAB HM e2.out e3.out) Kp2.trans (fun W l o o' hl' _ _ _ => Kp2.putObj (B := w2.heap.size) (by rw [S2.out]; omega) (by rw [S2.out]; omega) W l o' hl') (Below.refl _ _) (fun _ => rfl)
    (fun pre W => Kp2 (X + 1 + 1) (X + 1 + 1 + 1) w2 W ∧ PutI B0 ob X (X + 1) (X + 1 + 1 + 1 + 1) w (pre.map fun q => chunkAt k T q.1) W)
    (fun c pre W => False)
    (PutI.own (by rw [S2.out]; have := hBX.out.1; omega) (by rw [S2.out]; omega) (by rw [S2.out]; omega) _)
    (fun _ _ _ _ _ hs _ _ => hs)
    ⟨Kp2.refl _ _ _, P2.out⟩
    (fun x => { tmps := #[.pointer (some ⟨ob, 0, none⟩), .slice a len cap, .int .i64 (k : Int), .pointer (some ⟨X, 0, none⟩), undef, undef, .slice none 0 0, .pointer (some ⟨X + 1, 0, none⟩), partV b off k len x.1, undef, undef, undef, .slice a len cap, .int .i64 (k : Int), .func (.func 81) #[] #[.pointer (some ⟨X + 1 + 1, 0, none⟩), .pointer (some ⟨X + 1 + 1 + 1, 0, none⟩)], partV b off k len x.1, undef, undef, undef, undef, undef, undef, undef, undef, undef, undef, undef, undef, undef, undef, undef, undef, undef, undef, undef, undef, undef, undef, undef, undef, undef, undef, undef, undef], defers := [] }) ?assign ?body ?done ?stop
  case assign =>
    intro l x W K hK
    gi_wp2
    exact hK
  case body =>
    rintro l pre x W ⟨hN2, hI⟩ hpre
    have hN : w2.heap.size ≤ W.heap.size := hN2.1
    have HN2 := Lib.hid hN2
    clear hN2
    obtain ⟨C, hC⟩ : ∃ C, C = pre.map fun q => chunkAt k T q.1 := ⟨_, rfl⟩
    obtain ⟨P, hP⟩ : ∃ P, P = chunkAt k T x.1 := ⟨_, rfl⟩
    have hCP : ((pre ++ [x]).map fun q => chunkAt k T q.1) = C ++ [P] := by rw [List.map_append, hC, hP]; rfl
    rw [← hC] at hI
    have hCl : C.length ≤ 3001 := by rw [hC, List.length_map]; have := hM1.out; omega
    obtain ⟨p, hp⟩ : ∃ p, p = partN k len x.1 := ⟨_, rfl⟩
    have hxk : x.1 * k + 1 ≤ len := by
      have h1 := x.2
      have h2 := HM.out
      have h3 : (x.1 + 1) * k ≤ M * k := Nat.mul_le_mul_right _ h1
      have h4 := Nat.div_mul_le_self (len + k - 1) k
      rw [← h2] at h4
      rw [Nat.add_mul, Nat.one_mul] at h3
      omega
    have hp1 : 1 ≤ p ∧ p ≤ 256 ∧ x.1 * k + p ≤ len := by rw [hp]; unfold partN; omega
    have hPl : P.length = p := by rw [hP, chunkAt_len, hp, ← hlen.out]; rfl
    have hPv : partV b off k len x.1 = .slice (some ⟨b, off + x.1 * k * 3, none⟩) p p := by rw [hp]; rfl
    have hPE : ∀ w', Below B0 w w' → IsE w' (some ⟨b, off + x.1 * k * 3, none⟩) p P := fun w' hk => by
      have h1 := hT.out w' hk
      have ha : a = some ⟨b, off, none⟩ := by rcases HAB.out with h | h; (omega); (exact h)
      rw [ha] at h1
      have h2 := h1.part (x.1 * k) p hp1.2.2
      have h3 : (T.drop (x.1 * k)).take p = P := by
        rw [hP]
        unfold chunkAt
        rw [hp]
        unfold partN
        rw [hlen.out, ← List.length_drop, ← List.take_eq_take_min]
      rw [h3] at h2
      exact h2
    have hsm : smallE P := by rw [hP]; exact smallE_of ((chkE_ok _).1 (chk_chunk hc.out k x.1)).1
    have hchk := chk_chunk hc.out k x.1
    rw [← hP] at hchk
    have hCs : ∀ c ∈ C, smallE c ∧ c.length ≤ 256 := fun c hcm => by
      rw [hC] at hcm
      obtain ⟨q, _, rfl⟩ := List.mem_map.1 hcm
      exact ⟨smallE_of ((chkE_ok _).1 (chk_chunk hc.out k q.1)).1, by rw [chunkAt_len]; omega⟩
    have hbl := Lib.hid (blksB_len C hCs)
    have hBW := Lib.hid (show B0 ≤ W.heap.size by have := hBX.out; have := S2.out; omega)
    have hPW := Lib.hid (hPE W hI.bel)
    have hpk := block_Pack (some ⟨b, off + x.1 * k * 3, none⟩) p p P W hPW (by omega) (Lib.hid (fit_of_small hsm))
    rw [hchk, pack_chk hchk] at hpk
    obtain ⟨s, hs⟩ : ∃ s, s = blkB P := ⟨_, rfl⟩
    rw [← hs] at hpk
    have HPK := Lib.hid hpk
    have hsl := Lib.hid (show s.length ≤ 36000000 by rw [hs]; have := blkB_len hsm (by omega); omega)
    have HI := Lib.hid hI
    have HS := Lib.hid hs
    have HCP := Lib.hid hCP
    have HPE := Lib.hid hPE
    have HPl := Lib.hid hPl
    have HP1 := Lib.hid hp1
    have HCl := Lib.hid hCl
    rw [hPv]
    clear hs hpk hI hCP hPE hPl hp1 hCl hPv hCs hchk hxk hp hP hC hpre
    gi_wp2_with (fail)
    refine ⟨trivial, ?_⟩
    refine (CallsIn.inRound _ (callsIn_wide.2 HPK.out)).mono ?_
    rintro e W1 ⟨rfl, k1⟩
    have I1 := Lib.hid (HI.out.below hBW.out k1)
    have K1 := Lib.hid k1
    clear k1
    obtain ⟨B, hB⟩ : ∃ B, B = W1.heap.size := ⟨_, rfl⟩
    gi_wp2_with (fail)
    refine ⟨trivial, ?_⟩
    refine (CallsIn.inRound _ (callsIn_wide.2 (six_New W1))).mono ?_
    rintro e W2 ⟨rfl, hW2⟩
    have T2 := Lib.hid (show Wt B B [] W2 by rw [← hW2, hB]; exact wt_new W1)
    have K2 := Lib.hid (show Below W.heap.size W W2 by rw [← hW2]; exact K1.out.alloc K1.out.size _)
    have Z2 := Lib.hid (show W.heap.size ≤ B ∧ B ≤ W2.heap.size by rw [← hW2, hB]; exact ⟨K1.out.size, by simp⟩)
    rw [← hB]
    have HB := Lib.hid hB
    have KB2 := Lib.hid (show Below W1.heap.size W1 W2 by rw [← hW2]; exact (Below.refl _ _).alloc (Nat.le_refl _) _)
    clear hW2 hB
    have I2 := Lib.hid (HI.out.below hBW.out K2.out)
    have cp2 : W2.cell? ⟨X, 0, none⟩ = some (.pointer (some ⟨ob, 0, none⟩)) := by simp [World.cell?, I2.out.ptr]
    have HLn := Lib.hid (sb_Len B0 ob (blksB C) W2 I2.out.out)
    obtain ⟨L, hL⟩ : ∃ L, L = blksB C := ⟨_, rfl⟩
    have hLl : L.length ≤ 140000000000 := by rw [hL]; have := hbl.out; have := HCl.out; omega
    have hsl' := hsl.out
    have z2 : (bs s).size = s.length := bs_size _
    rw [← hL] at HLn
    have HL := Lib.hid hL
    clear hL
    gi_wp2_with (fail)
    refine ⟨trivial, ?_⟩
    refine (CallsIn.inRound _ (callsIn_wide.2 HLn.out)).mono ?_
    rintro e _ ⟨rfl, rfl⟩
    clear cp2
    gi_wp2_with (fail)
    refine ⟨trivial, ?_⟩
    refine (CallsIn.inRound _ (callsIn_wide.2 (six_Count B B [] L.length W2 T2.out (by omega) (by simp)))).mono ?_
    rintro e W3 ⟨rfl, h3, k3⟩
    rw [List.nil_append] at h3
    have T3 := Lib.hid h3
    have K3 := Lib.hid k3
    have hw1 := Lib.hid (whole_len (n := (L.length : Int)) (by omega) (by omega)).1
    have hw2 := Lib.hid (whole_len (n := (s.length : Int)) (by omega) (by omega)).1
    clear h3 k3
    gi_wp2_with (fail)
    refine ⟨trivial, ?_⟩
    refine (CallsIn.inRound _ (callsIn_wide.2 (six_Count B B _ s.length W3 T3.out (by omega) (by have := hw1.out; omega)))).mono ?_
    rintro e W4 ⟨rfl, h4, k4⟩
    obtain ⟨V, hV⟩ : ∃ V, V = whole (L.length : Int) ++ whole (s.length : Int) := ⟨_, rfl⟩
    rw [← hV] at h4
    have T4 := Lib.hid h4
    have K4 := Lib.hid (show Below B W2 W4 from K3.out.trans k4)
    clear h4 k4 K3 T3 T2
    obtain ⟨i0, hi0', hz0', hz1', hz2'⟩ := info_parts infoE
    have HIn := Lib.hid (show Tryz.prog.info? 49 = some i0 ∧ i0.zero = some _ ∧ i0.size = 3 ∧ i0.bytes = 40 from ⟨hi0', hz0', hz1', hz2'⟩)
    have hN4 := Lib.hid (show X + 1 + 1 + 1 + 1 ≤ W1.heap.size by have := K1.out.size; have := S2.out; omega)
    clear hi0' hz0' hz1' hz2'
    obtain ⟨xa, xcap, hx1, hx2⟩ := I1.out.idx
    obtain ⟨y, hy⟩ : ∃ y, P[0]? = some y := ⟨_, List.getElem?_eq_getElem (by have := HPl.out; have := HP1.out; omega)⟩
    have hyk := Lib.hid (show keyE P = y.key by cases P with
      | nil => simp at hy
      | cons z Q => simp at hy; rw [← hy]; rfl)
    have hcy : W1.cell? ⟨b, off + x.1 * k * 3, none⟩ = some (.string (bs y.key)) := by
      obtain ⟨b1, off1, x1, e1, hx1', _, hcc⟩ := (HPE.out W1 I1.out.bel).at (k := 0) (by have := HP1.out; omega)
      injection e1 with e1
      injection e1 with e1 e2 _
      subst e1 e2
      rw [hy] at hx1'
      injection hx1' with hx1'
      subst hx1'
      have := hcc.c0
      rw [Nat.zero_mul, Nat.add_zero] at this
      exact this
    have hXB := Lib.hid (show X + 1 < B ∧ b < B from ⟨by rw [HB.out]; exact heap_lt hx1, by rw [HB.out]; exact cell_block hcy⟩)
    obtain ⟨n, hn⟩ : ∃ n, n = C.length := ⟨_, rfl⟩
    rw [← hn] at hx1 hx2
    have hp0 : 0 < p := HP1.out.1
    obtain ⟨kof, hkof⟩ : ∃ kof, kof = off + x.1 * k * 3 := ⟨_, rfl⟩
    rw [← hkof] at hcy ⊢
    have HN := Lib.hid hn
    have HV := Lib.hid hV
    have hyV := Lib.hid (show (⟨y.key, V, false⟩ : Ent) = idxE (blksB C).length P by unfold idxE; rw [hyk.out, hV, HL.out, HS.out])
    clear hkof hn hV hy
    obtain ⟨S, hSd⟩ : ∃ S : World → Prop, S = fun W' => W'.cell? ⟨X + 1, 0, none⟩ = some (.slice xa n xcap) ∧ W'.cell? ⟨b, kof, none⟩ = some (.string (bs y.key)) ∧ Wt B B V W' ∧ Below W1.heap.size W1 W' := ⟨_, rfl⟩
    have hS4 : S W4.drew := by
      have KK : Below W1.heap.size W1 W4 := by have h := K4.out; rw [HB.out] at h; exact KB2.out.trans h
      rw [hSd]
      refine ⟨?_, ?_, T4.out.drew, KK.drew⟩
      · have : W1.cell? ⟨X + 1, 0, none⟩ = some (.slice xa n xcap) := by simp [World.cell?, hx1]
        rw [KK.drew.cell (p := ⟨X + 1, 0, none⟩) (heap_lt hx1)]; exact this
      · rw [KK.drew.cell (p := ⟨b, kof, none⟩) (cell_block hcy)]; exact hcy
    gi_wp2_with (fail)
    refine wpIn_round_any (by kernel_rfl) (by kernel_rfl) (fun ⟨_, _, h⟩ => h) ?_
    change wpAny _ _ _ _ _ _ _ W4.drew
    refine any_take (i := 1) (d := 31) (v := .slice (some ⟨b, kof, none⟩) p p) rfl rfl (by kernel_rfl) (by kernel_rfl) (by kernel_rfl) (fun _ _ _ h => h) (Or.inl ⟨by rfl, ?_⟩) ?_
    · intro w'; go_simp
    try go_frame
    refine any_take (i := 2) (d := 32) (v := .pointer (some ⟨b, kof, none⟩)) rfl rfl (by kernel_rfl) (by kernel_rfl) (by kernel_rfl) (fun _ _ _ h => h) (Or.inl ⟨by rfl, ?_⟩) ?_
    · intro w'; go_simp
    try go_frame
    refine any_take (i := 3) (d := 33) (v := .pointer (some ⟨b, kof, none⟩)) rfl rfl (by kernel_rfl) (by kernel_rfl) (by kernel_rfl) (fun _ _ _ h => h) (Or.inl ⟨by rfl, ?_⟩) ?_
    · intro w'; go_simp
    try go_frame
    refine any_take (i := 5) (d := 35) (v := .pointer (some ⟨B, 0, none⟩)) rfl rfl (by kernel_rfl) (by kernel_rfl) (by kernel_rfl) (fun _ _ _ h => h) (Or.inl ⟨by rfl, ?_⟩) ?_
    · intro w'; go_simp
    try go_frame
    refine wpAny_late (i := 0) (d := 30) (v := .slice xa n xcap) S (fun j => j == 9 || j == 10) rfl rfl (by kernel_rfl) (by kernel_rfl) (by kernel_rfl) (by kernel_rfl) (fun _ _ _ h => h) (Or.inl ⟨by rfl, ?_⟩) hS4 ?_
    · intro w' hw'
      rw [hSd] at hw'
      have := hw'.1
      go_simp
    try go_frame
    rw [hSd] at hS4
    have hS := hS4
    clear hS4
    obtain ⟨W5, hW5⟩ : ∃ W5, W5 = W4.drew := ⟨_, rfl⟩
    rw [← hW5] at hS ⊢
    clear hW5
    refine wpAnyE_ready (rs := [4, 6]) (by kernel_rfl) (by simp) (AllE.cons rfl (fun K hK => ?_) (AllE.cons rfl (fun K hK => ?_) AllE.nil))
    · have c4 := hS.2.1
      go_simp
      refine hK.out _ _ (fun _ => by rw [hSd]; exact hS) (fun _ => ?_)
      clear hK K
      try go_frame
      refine wpAnyE_ready (rs := [6]) (by kernel_rfl) (by simp) (AllE.cons rfl (fun K hK => ?_) AllE.nil)
      clear c4
      go_simp
      refine Calls.mono (six_Bytes B B V W5 hS.2.2.1) ?_
      rintro e W6 ⟨rfl, t6, k6, _⟩
      have hS2 : W6.cell? ⟨X + 1, 0, none⟩ = some (.slice xa n xcap) ∧ W6.cell? ⟨b, kof, none⟩ = some (.string (bs y.key)) ∧ Wt B B V W6 ∧ Below W1.heap.size W1 W6 := ⟨by rw [k6.cell (p := ⟨X + 1, 0, none⟩) hXB.out.1]; exact hS.1, by rw [k6.cell (p := ⟨b, kof, none⟩) hXB.out.2]; exact hS.2.1, t6, hS.2.2.2.trans (by rw [HB.out] at k6; exact k6)⟩
      refine hK.out _ _ (fun _ => by rw [hSd]; exact hS2) (fun _ => ?_)
      clear hK K hS t6 k6
      have hS := hS2
      clear hS2
      try go_frame
      refine wpAnyE_ready (rs := [7]) (by kernel_rfl) (by simp) (AllE.cons rfl (fun K hK => ?_) AllE.nil)
      go_simp
      refine hK.out _ _ (fun _ => by rw [hSd]; exact hS) (fun _ => ?_)
      clear hK K
      try go_frame
      refine wpAnyE_ready (rs := [8]) (by kernel_rfl) (by simp) (AllE.cons rfl (fun K hK => ?_) AllE.nil)
      go_simp
      have KA := (Below.refl W6.heap.size W6).alloc (Nat.le_refl _) (.cells #[.string (bs y.key), .string (bs V), .bool false] 49)
      have hs6 := hS.2.2.2.size
      have hS7 : S (W6.alloc (.cells #[.string (bs y.key), .string (bs V), .bool false] 49)) := by
        rw [hSd]
        exact ⟨by rw [KA.cell (p := ⟨X + 1, 0, none⟩) (cell_block hS.1)]; exact hS.1, by rw [KA.cell (p := ⟨b, kof, none⟩) (cell_block hS.2.1)]; exact hS.2.1, hS.2.2.1.keep KA, hS.2.2.2.trans (KA.mono hs6)⟩
      refine hK.out _ _ (fun _ => hS7) (fun _ => ?_)
      clear hK K hS7
      try go_frame
      have hI6 : PutI B0 ob X (X + 1) (X + 1 + 1 + 1 + 1) w C W6 := I1.out.below (by have := K1.out.size; have := hBW.out; omega) hS.2.2.2
      have Q6 := Lib.hid (putI_at hI6 HN.out hS.1)
      have H6 := Lib.hid hI6
      have HS6 := Lib.hid hS
      refine wpAnyE_ready (rs := [9]) (by kernel_rfl) (by simp) (AllE.cons rfl (fun K hK => ?_) AllE.nil)
      rw [if_pos (by rfl)]
      obtain ⟨hi0, hz0, hz1, hz2⟩ := HIn.out
      refine wp_append_off (.tmp 30) (.tmp 38) 22 rfl (X + 1 + 1 + 1 + 1) 49 i0 _ 3 40 Tryz.underlying22 hi0 hz0 hz1 hz2 rfl (.slice xa n xcap) n (ecells (idxs 0 C)) rfl ?e1 (.slice (some ⟨W6.heap.size, 0, none⟩) 1 1) rfl 1 (Ent.vals ⟨y.key, V, false⟩) ?e2 ?e3 ?e4 ?e5 ?_
      case e1 => exact OffRow.allocd Q6.out _
      case e2 => exact src_block (size := 3) (cs := #[.string (bs y.key), .string (bs V), .bool false]) Tryz.underlying22 (heap_new _ _) 1 1 rfl (by intro u hu; simp at hu; rcases hu with rfl | rfl | rfl <;> rfl)
      case e3 => unfold maxLen; have := HCl.out; have := HN.out; omega
      case e4 => have := HCl.out; have := HN.out; omega
      case e5 => have := heap_lt H6.out.ptr; have := hN4.out; have := hS.2.2.2.size; simp; omega
      intro v8 W8 hr8 hg8 ha8
      refine hK.out _ _ (fun h => absurd h (by decide)) (fun _ => ?_)
      clear hK K
      try go_frame
      have Q8 := Lib.hid (putI_grown H6.out Q6.out hS.1 ⟨by have := hBX.out; omega, by omega, by have := hN4.out; have := hS.2.2.2.size; omega⟩ hr8 hg8)
      have c8 := Q8.out.cx
      have f8 := Q8.out.fx
      clear hS hr8 hg8 ha8 hs6 KA
      obtain ⟨a8, cap8, rfl⟩ := OffRow.slice Q8.out.row
      refine wpAnyE_ready (rs := [10]) (by kernel_rfl) (by simp) (AllE.cons rfl (fun K hK => ?_) AllE.nil)
      go_simp
      refine hK.out _ _ (fun h => absurd h (by decide)) (fun _ => ?_)
      clear hK K c8 f8
      try go_frame
      refine wpAnyE_done (by kernel_rfl) ?_ _
      have J9 := Lib.hid (putI_set Q8.out H6.out HN.out hyV.out ⟨by have := hBX.out; omega, by omega, by omega, hBX.out.2⟩)
      have O9 := Lib.hid Q8.out.others
      obtain ⟨W9, hW9⟩ : ∃ W9, W9 = W8.setCell ⟨X + 1, 0, none⟩ (.slice a8 (n + 1) cap8) := ⟨_, rfl⟩
      rw [← hW9] at J9 ⊢
      have KK9 := Lib.hid (show Kp2 (X + 1 + 1) (X + 1 + 1 + 1) w2 W9 ∧ KeepsOthers W W9 from by
        have hb := HN2.out
        have k6 : Below W.heap.size W W6 := K1.out.trans (HS6.out.2.2.2.mono K1.out.size)
        have low : ∀ j, j < X + 1 + 1 + 1 + 1 → j ≠ X + 1 → W9.heap[j]? = W.heap[j]? := fun j h1 h2 => by
          have hjW : j < W.heap.size := by have := S2.out; omega
          obtain ⟨o, ho⟩ : ∃ o, W6.heap[j]? = some o := ⟨_, Array.getElem?_eq_getElem (Nat.lt_of_lt_of_le hjW k6.size)⟩
          rw [hW9, heap_set_other h2, Q8.out.keep j o ho (fun _ _ _ => h1), k6.block j hjW]
        have z8 := O9.out.size
        have z6 := k6.size
        have z9 : W9.heap.size = W8.heap.size := by rw [hW9]; simp
        refine ⟨⟨by have := hb.1; omega, (low _ (by omega) (by omega)).trans hb.2.1, (low _ (by omega) (by omega)).trans hb.2.2⟩, ⟨by omega, fun j o hj ho => ?_⟩⟩
        have h6 : W6.heap[j]? = some o := (k6.block j (heap_lt hj)).trans hj
        have h8 := O9.out.same j o h6 ho
        rw [hW9, heap_set_other (fun e => ?_), h8]
        subst e
        obtain ⟨ya, ycap, h1, _⟩ := H6.out.idx
        rw [h1] at h6
        injection h6 with h6
        subst h6
        cases ho)
      have cp9 : W9.cell? ⟨X, 0, none⟩ = some (.pointer (some ⟨ob, 0, none⟩)) := by simp [World.cell?, J9.out.ptr]
      have hWS := Lib.hid (sb_WriteString B0 ob (blksB C) (bs s) W9 J9.out.out (by have := hbl.out; have := HCl.out; have := hsl.out; rw [bs_size]; omega))
      clear hW9 Q8
      gi_wp2_with (fail)
      refine ⟨trivial, ?_⟩
      refine (CallsIn.inRound _ (callsIn_wide.2 hWS.out)).mono ?_
      rintro e W10 ⟨rfl, h10, k10⟩
      have J10 := Lib.hid h10
      have K10 := Lib.hid k10
      clear h10 k10 cp9
      gi_wp2_with (fail)
      exact putJ_end HCP.out HS.out J9.out J10.out K10.out KK9.out.1 KK9.out.2 HN2.out e2.out e3.out ⟨by have := hBX.out; omega, by have := hBX.out; omega, by have := hBX.out; omega, by omega⟩ (by have := hBX.out; omega)
    · have c4 := hS.2.1
      clear c4
      go_simp
      refine Calls.mono (six_Bytes B B V W5 hS.2.2.1) ?_
      rintro e W6 ⟨rfl, t6, k6, _⟩
      have hS2 : W6.cell? ⟨X + 1, 0, none⟩ = some (.slice xa n xcap) ∧ W6.cell? ⟨b, kof, none⟩ = some (.string (bs y.key)) ∧ Wt B B V W6 ∧ Below W1.heap.size W1 W6 := ⟨by rw [k6.cell (p := ⟨X + 1, 0, none⟩) hXB.out.1]; exact hS.1, by rw [k6.cell (p := ⟨b, kof, none⟩) hXB.out.2]; exact hS.2.1, t6, hS.2.2.2.trans (by rw [HB.out] at k6; exact k6)⟩
      refine hK.out _ _ (fun _ => by rw [hSd]; exact hS2) (fun _ => ?_)
      clear hK K hS t6 k6
      have hS := hS2
      clear hS2
      try go_frame
      have c4 := hS.2.1
      refine wpAnyE_ready (rs := [4]) (by kernel_rfl) (by simp) (AllE.cons rfl (fun K hK => ?_) AllE.nil)
      go_simp
      refine hK.out _ _ (fun _ => by rw [hSd]; exact hS) (fun _ => ?_)
      clear hK K
      try go_frame
      clear c4
      refine wpAnyE_ready (rs := [7]) (by kernel_rfl) (by simp) (AllE.cons rfl (fun K hK => ?_) AllE.nil)
      go_simp
      refine hK.out _ _ (fun _ => by rw [hSd]; exact hS) (fun _ => ?_)
      clear hK K
      try go_frame
      refine wpAnyE_ready (rs := [8]) (by kernel_rfl) (by simp) (AllE.cons rfl (fun K hK => ?_) AllE.nil)
      go_simp
      have KA := (Below.refl W6.heap.size W6).alloc (Nat.le_refl _) (.cells #[.string (bs y.key), .string (bs V), .bool false] 49)
      have hs6 := hS.2.2.2.size
      have hS7 : S (W6.alloc (.cells #[.string (bs y.key), .string (bs V), .bool false] 49)) := by
        rw [hSd]
        exact ⟨by rw [KA.cell (p := ⟨X + 1, 0, none⟩) (cell_block hS.1)]; exact hS.1, by rw [KA.cell (p := ⟨b, kof, none⟩) (cell_block hS.2.1)]; exact hS.2.1, hS.2.2.1.keep KA, hS.2.2.2.trans (KA.mono hs6)⟩
      refine hK.out _ _ (fun _ => hS7) (fun _ => ?_)
      clear hK K hS7
      try go_frame
      have hI6 : PutI B0 ob X (X + 1) (X + 1 + 1 + 1 + 1) w C W6 := I1.out.below (by have := K1.out.size; have := hBW.out; omega) hS.2.2.2
      have Q6 := Lib.hid (putI_at hI6 HN.out hS.1)
      have H6 := Lib.hid hI6
      have HS6 := Lib.hid hS
      refine wpAnyE_ready (rs := [9]) (by kernel_rfl) (by simp) (AllE.cons rfl (fun K hK => ?_) AllE.nil)
      rw [if_pos (by rfl)]
      obtain ⟨hi0, hz0, hz1, hz2⟩ := HIn.out
      refine wp_append_off (.tmp 30) (.tmp 38) 22 rfl (X + 1 + 1 + 1 + 1) 49 i0 _ 3 40 Tryz.underlying22 hi0 hz0 hz1 hz2 rfl (.slice xa n xcap) n (ecells (idxs 0 C)) rfl ?e1 (.slice (some ⟨W6.heap.size, 0, none⟩) 1 1) rfl 1 (Ent.vals ⟨y.key, V, false⟩) ?e2 ?e3 ?e4 ?e5 ?_
      case e1 => exact OffRow.allocd Q6.out _
      case e2 => exact src_block (size := 3) (cs := #[.string (bs y.key), .string (bs V), .bool false]) Tryz.underlying22 (heap_new _ _) 1 1 rfl (by intro u hu; simp at hu; rcases hu with rfl | rfl | rfl <;> rfl)
      case e3 => unfold maxLen; have := HCl.out; have := HN.out; omega
      case e4 => have := HCl.out; have := HN.out; omega
      case e5 => have := heap_lt H6.out.ptr; have := hN4.out; have := hS.2.2.2.size; simp; omega
      intro v8 W8 hr8 hg8 ha8
      refine hK.out _ _ (fun h => absurd h (by decide)) (fun _ => ?_)
      clear hK K
      try go_frame
      have Q8 := Lib.hid (putI_grown H6.out Q6.out hS.1 ⟨by have := hBX.out; omega, by omega, by have := hN4.out; have := hS.2.2.2.size; omega⟩ hr8 hg8)
      have c8 := Q8.out.cx
      have f8 := Q8.out.fx
      clear hS hr8 hg8 ha8 hs6 KA
      obtain ⟨a8, cap8, rfl⟩ := OffRow.slice Q8.out.row
      refine wpAnyE_ready (rs := [10]) (by kernel_rfl) (by simp) (AllE.cons rfl (fun K hK => ?_) AllE.nil)
      go_simp
      refine hK.out _ _ (fun h => absurd h (by decide)) (fun _ => ?_)
      clear hK K c8 f8
      try go_frame
      refine wpAnyE_done (by kernel_rfl) ?_ _
      have J9 := Lib.hid (putI_set Q8.out H6.out HN.out hyV.out ⟨by have := hBX.out; omega, by omega, by omega, hBX.out.2⟩)
      have O9 := Lib.hid Q8.out.others
      obtain ⟨W9, hW9⟩ : ∃ W9, W9 = W8.setCell ⟨X + 1, 0, none⟩ (.slice a8 (n + 1) cap8) := ⟨_, rfl⟩
      rw [← hW9] at J9 ⊢
      have KK9 := Lib.hid (show Kp2 (X + 1 + 1) (X + 1 + 1 + 1) w2 W9 ∧ KeepsOthers W W9 from by
        have hb := HN2.out
        have k6 : Below W.heap.size W W6 := K1.out.trans (HS6.out.2.2.2.mono K1.out.size)
        have low : ∀ j, j < X + 1 + 1 + 1 + 1 → j ≠ X + 1 → W9.heap[j]? = W.heap[j]? := fun j h1 h2 => by
          have hjW : j < W.heap.size := by have := S2.out; omega
          obtain ⟨o, ho⟩ : ∃ o, W6.heap[j]? = some o := ⟨_, Array.getElem?_eq_getElem (Nat.lt_of_lt_of_le hjW k6.size)⟩
          rw [hW9, heap_set_other h2, Q8.out.keep j o ho (fun _ _ _ => h1), k6.block j hjW]
        have z8 := O9.out.size
        have z6 := k6.size
        have z9 : W9.heap.size = W8.heap.size := by rw [hW9]; simp
        refine ⟨⟨by have := hb.1; omega, (low _ (by omega) (by omega)).trans hb.2.1, (low _ (by omega) (by omega)).trans hb.2.2⟩, ⟨by omega, fun j o hj ho => ?_⟩⟩
        have h6 : W6.heap[j]? = some o := (k6.block j (heap_lt hj)).trans hj
        have h8 := O9.out.same j o h6 ho
        rw [hW9, heap_set_other (fun e => ?_), h8]
        subst e
        obtain ⟨ya, ycap, h1, _⟩ := H6.out.idx
        rw [h1] at h6
        injection h6 with h6
        subst h6
        cases ho)
      have cp9 : W9.cell? ⟨X, 0, none⟩ = some (.pointer (some ⟨ob, 0, none⟩)) := by simp [World.cell?, J9.out.ptr]
      have hWS := Lib.hid (sb_WriteString B0 ob (blksB C) (bs s) W9 J9.out.out (by have := hbl.out; have := HCl.out; have := hsl.out; rw [bs_size]; omega))
      clear hW9 Q8
      gi_wp2_with (fail)
      refine ⟨trivial, ?_⟩
      refine (CallsIn.inRound _ (callsIn_wide.2 hWS.out)).mono ?_
      rintro e W10 ⟨rfl, h10, k10⟩
      have J10 := Lib.hid h10
      have K10 := Lib.hid k10
      clear h10 k10 cp9
      gi_wp2_with (fail)
      exact putJ_end HCP.out HS.out J9.out J10.out K10.out KK9.out.1 KK9.out.2 HN2.out e2.out e3.out ⟨by have := hBX.out; omega, by have := hBX.out; omega, by have := hBX.out; omega, by omega⟩ (by have := hBX.out; omega)
  case done =>
    rintro D xs W hD hxs ⟨hN, hI⟩ hK
    have hch : (xs.map fun q => chunkAt k T q.1) = chunks k T := by
      rw [chunks_range (by omega) T, ← hlen.out, ← HM.out, ← hxs, List.map_map]
      rfl
    rw [hch] at hI
    have hlt : D < W.heap.size := heap_lt hK
    have hI2 := Lib.hid (hI.keep (W' := W.putObj D (.deferred none)) ((Below.refl B0 W).grown (grownBy_putObj' W D (.deferred none)) (by have := hBX.out; have := S2.out; omega) (fun j e => by cases e; have := hBX.out; have := S2.out; omega)) fun j cs t z hj => World.putObj_heap_other (fun e => by subst e; rw [hK] at hj; cases hj))
    obtain ⟨xa, xcap, h1, h2⟩ := hI.idx
    have c1 : W.cell? ⟨X + 1, 0, none⟩ = some (.slice xa (chunks k T).length xcap) := by simp [World.cell?, h1]
    obtain ⟨xa2, xcap2, g1, g2⟩ := hI2.out.idx
    rw [World.putObj_heap_other (by have := S2.out; omega), h1] at g1
    have G2 := Lib.hid g2
    have hV := Lib.hid (show xa2 = xa ∧ xcap2 = xcap by
      injection g1 with g1
      injection g1 with g1
      injection g1 with g1
      injection g1 with g1 _
      injection g1 with g1 _ g3
      exact ⟨g1.symm, g3.symm⟩)
    clear h1 h2 g1 g2
    gi_wp2
    refine ⟨by simp, .inl ⟨_, _, rfl, run_takeDeferred hK, ?_⟩⟩
    refine ⟨_, results_tmp rfl _ _ _, xa, xcap, rfl, ?_, hI2.out.out, hI2.out.bel⟩
    have := G2.out
    rw [hV.out.1, hV.out.2] at this
    exact this.weak (by rw [← HX.out]; omega)
  case stop =>
    rintro D c pre W _ _ h _
    exact h.elim
end Go.Proofs.YteejldddgogbkaaGreatDoor
