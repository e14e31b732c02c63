/- Texts put together: BloomRefPack, BloomRefOpen, BlockSame, TextsIn, ShaLaid, TablePlain, TableTold -/
import Derived.Test.YteejldddgogbkaaGreatDoorTOp15
import Derived.Laws.OwnMore
import Derived.Test.YteejldddgogbkaaGreatDoorTOp14
import Derived.Deep.AppendLies
import Derived.Test.YteejldddgogbkaaGreatDoorTOp02
import Derived.Laws.StructEq
import Derived.Test.YteejldddgogbkaaGreatDoorTOp00
import Derived.SizedLaws
import Derived.SliceStrings
import Derived.ChangeOld
import Derived.ShutString
import Derived.ChangeMaps5
import Derived.ProofKit
import Derived.OpenShut
import Derived.Test.YteejldddgogbkaaGreatDoorCards
import Derived.Test.YteejldddgogbkaaGreatDoorTie
import Derived.Test.YteejldddgogbkaaGreatDoorTOp13
import Derived.Deep.DeepHandedRow
import Derived.Lib.LaidTab
import Derived.Test.YteejldddgogbkaaGreatDoorTOp03
import Derived.Test.YteejldddgogbkaaGreatDoorTOp04
import Derived.Test.YteejldddgogbkaaGreatDoorTOp07
/- The document's filter: its bytes. -/
set_option linter.unusedVariables false
set_option maxRecDepth 100000
set_option maxRecDepth 100000
namespace Go.Proofs.YteejldddgogbkaaGreatDoor
open Go.RowKit

theorem part_next (f : Nat → Bool) (q r : Nat) (h : r < 8) : byteOf f q / 2 ^ r = 2 * (byteOf f q / 2 ^ (r + 1)) + (f (8 * q + r)).toNat := by
  have hb := byteOf_bit f q r h
  have h2 : byteOf f q / 2 ^ (r + 1) = byteOf f q / 2 ^ r / 2 := by rw [Nat.pow_succ, Nat.div_div_eq_div_mul]
  rw [h2]
  generalize byteOf f q / 2 ^ r = z at *
  rw [← hb]
  rcases Nat.mod_two_eq_zero_or_one z with h0 | h0
  · rw [h0]; simp; omega
  · rw [h0]; simp; omega
theorem part_lt (f : Nat → Bool) (q r : Nat) : byteOf f q / 2 ^ (r + 1) < 128 := by
  have h1 := byteOf_lt f q
  have h2 : byteOf f q / 2 ^ (r + 1) ≤ byteOf f q / 2 ^ 1 := Nat.div_le_div_left (Nat.pow_le_pow_right (by decide) (by omega)) (by decide)
  omega
theorem part_top (f : Nat → Bool) (q : Nat) : byteOf f q / 2 ^ 8 = 0 := Nat.div_eq_of_lt (byteOf_lt f q)
theorem bytesOf_succ (f : Nat → Bool) (q : Nat) : bytesOf f (q + 1) = bytesOf f q ++ [UInt8.ofNat (byteOf f q)] := by simp [bytesOf, List.range_succ]
theorem byteOf_u8 (f : Nat → Bool) (q : Nat) : (UInt8.ofNat (byteOf f q)).toNat = byteOf f q := by rw [ofNat_toNat]; exact Nat.mod_eq_of_lt (byteOf_lt f q)
theorem Own8.below {B : Nat} {v : Value} {l : List UInt8} {w w' : World} (h : Own8 B v l w) (k : Below w.heap.size w w') : Own8 B v l w' := World.ownsRow.kept (row := none) h ⟨k.os, k.tape, k.output, k.size, fun j hj _ => k.block j hj⟩ (by cases e : v.ownBlock with
  | none => exact .inl rfl
  | some x => exact .inr (by simp))

set_option maxHeartbeats 2000000 in
theorem ref_pack (h g m cap : Nat) (f : Nat → Bool) (w : World) (hr : Hid (RowB g f (m * 8) w)) (hm1 : 1 ≤ m) (hm : m ≤ 100000000) (hh : h ≤ 8) :
    Calls Tryz.prog 36 #[fv h g (m * 8) cap] w fun e w' => e = .returned (.string (bs (packF h (bytesOf f m)))) ∧ Below w.heap.size w w' := by
  obtain ⟨i0, hi, hz0, hz1, hz2⟩ := info_parts info5
  obtain ⟨Z, hZ⟩ : ∃ Z, Z = w.heap.size := ⟨_, rfl⟩
  obtain ⟨N, hN⟩ : ∃ N, N = m * 8 := ⟨_, rfl⟩
  rw [← hN] at hr ⊢
  obtain ⟨w1, hw1⟩ : ∃ w1, w1 = w.alloc (.cells #[.int .i64 (h : Int), .slice (some ⟨g, 0, none⟩) N cap] 43) := ⟨_, rfl⟩
  have B1 := Lib.hid (show Below Z w w1 by rw [hw1, hZ]; exact (Below.refl _ _).alloc (Nat.le_refl _) _)
  have S1 := Lib.hid (show w1.heap.size = Z + 1 by rw [hw1, hZ]; simp)
  have c0 := Lib.hid (show w1.cell? ⟨Z, 0, none⟩ = some (.int .i64 (h : Int)) ∧ w1.cell? ⟨Z, 1, none⟩ = some (.slice (some ⟨g, 0, none⟩) N cap) by
    rw [hw1, hZ, World.cell?_alloc_mark, World.cell?_alloc_mark]; exact ⟨rfl, rfl⟩)
  have hgZ := Lib.hid (show g < Z by rw [hZ]; exact hr.out.1)
  have R1 := Lib.hid (hr.out.keep B1.out hgZ.out)
  have HW1 := Lib.hid hw1
  have HZ := Lib.hid hZ
  have HN := Lib.hid hN
  clear hw1 hZ hN
  rw [← HZ.out]
  unfold fv
  go_enter Tryz.func36, Tryz.ntmps36
  go_upto_region 1 with (fail)
  change Code.wp _ _ _ _ (w.alloc (.cells #[.int .i64 (h : Int), .slice (some ⟨g, 0, none⟩) N cap] 43))
  rw [← HW1.out, ← HZ.out]
  go_wp2_with fail
  go_loopw [3, 4] (fun v vi wr => ∃ q : Nat, q ≤ m ∧ vi = .int .i64 ((8 * q : Nat) : Int) ∧ Hid (Own8 w1.heap.size v (bytesOf f q) wr) ∧ Hid (Below w1.heap.size w1 wr)) (fun v vi wr => N - (intOf vi).toNat)
  case atStart => exact ⟨0, by omega, rfl, Lib.hid (World.ownsRow_nil _ _ _ _), Lib.hid (Below.refl _ _)⟩
  case round =>
    obtain ⟨q, hq, rfl, hO, hB⟩ := hrel
    obtain ⟨i, hi8⟩ : ∃ i, i = 8 * q := ⟨_, rfl⟩
    rw [← hi8]
    have hNm := HN.out
    have e1 := Lib.hid (show wr.cell? ⟨Z, 1, none⟩ = some (.slice (some ⟨g, 0, none⟩) N cap) by rw [hB.out.cell (p := ⟨Z, 1, none⟩) (show Z < w1.heap.size by rw [S1.out]; omega)]; exact c0.out.2)
    have e0 := Lib.hid (show wr.cell? ⟨Z, 0, none⟩ = some (.int .i64 (h : Int)) by rw [hB.out.cell (p := ⟨Z, 0, none⟩) (show Z < w1.heap.size by rw [S1.out]; omega)]; exact c0.out.1)
    have Rr := Lib.hid (R1.out.below hB.out)
    rcases Nat.lt_or_ge q m with hqm | hqm
    · have hiN : i < N := by omega
      have hib : i ≤ 800000000 := by omega
      have e1' := e1.out
      have HI := Lib.hid hi8
      have HNM := Lib.hid hNm
      clear hi8 hNm
      go_wp2_with fail
      go_loop [5, 6] (fun vx vk => ∃ r : Nat, r ≤ 8 ∧ vk = .int .i64 ((r : Int) - 1) ∧ vx = .int .u8 ((byteOf f q / 2 ^ r : Nat) : Int)) (fun vx vk => (intOf vk + 1).toNat)
      case atStart => exact ⟨8, by omega, rfl, by rw [part_top]; rfl⟩
      case round =>
        obtain ⟨r, hr8, rfl, rfl⟩ := hrel
        cases r with
        | zero =>
          have hOl := Lib.hid (bytesOf_len f q)
          have hsz := Lib.hid (show w1.heap.size ≤ wr.heap.size from hB.out.size)
          have hu8 := Lib.hid (byteOf_u8 f q)
          obtain ⟨X, hX⟩ : ∃ X, X = byteOf f q := ⟨_, rfl⟩
          have hX0 : byteOf f q / 2 ^ 0 = X := by rw [hX]; simp
          rw [hX0, show (((0 : Nat) : Int) - 1) = -1 from rfl]
          have HX := Lib.hid hX
          have HIN := Lib.hid (show ((i : Int) + 8) = ((8 * (q + 1) : Nat) : Int) by have := HI.out; omega)
          clear hX hX0
          go_wp2_with (first | (refine wpList_append_own _ rfl (.tmp 29) (.tmp 31) 62 rfl w1.heap.size 5 i0 (.int .u8 0) 1 1 Tryz.underlying62 hi hz0 hz1 hz2 rfl (by decide) u3 (bytesOf f q).length (Lib.byteCells (bytesOf f q)) (by simp [Act.eval, Act.put]) (World.ownsRow.alloc hO.out _) ⟨wr.heap.size, 0, none⟩ 1 1 [.int .u8 (X : Int)] (by simp [Act.eval, Act.put]) rfl (fun j u hj => cell_one_new _ _ _ j u hj) (by simp [Value.oneCell']) (by unfold maxLen; have := hOl.out; omega) (by have := hOl.out; omega) (by have := hsz.out; simp; omega) ?_; intro v3 w3 hown3 hg3 _))
          refine ⟨⟨q + 1, by omega, by rw [← HIN.out], Lib.hid ?_, Lib.hid ?_⟩, ?_⟩
          · rw [bytesOf_succ]
            exact Own8.push (b := UInt8.ofNat (byteOf f q)) hown3 (by rw [hu8.out, HX.out])
          · exact (hB.out.alloc hsz.out _).grown hg3 (by have := hsz.out; simp; omega) (fun j hj => (World.ownsRow.lt hO.out j hj).1)
          · have := HI.out; have := HNM.out; simp [intOf]; omega
        | succ r =>
          have hnx := Lib.hid (part_next f q r (by omega))
          have hlt := part_lt f q r
          obtain ⟨X, hX⟩ : ∃ X, X = byteOf f q / 2 ^ (r + 1) := ⟨_, rfl⟩
          rw [← hX] at hnx hlt ⊢
          obtain ⟨y, hy⟩ : ∃ y, y = f (8 * q + r) := ⟨_, rfl⟩
          rw [← hy] at hnx
          have hcell := (Rr.out.2 (8 * q + r) (by have := HNM.out; omega)).1
          rw [← hy, ← HI.out] at hcell
          have hidx : (((r + 1 : Nat) : Int) - 1) = (r : Int) := by omega
          have hirN : i + r < N := by have := HI.out; have := HNM.out; omega
          rw [hidx]
          have hr7 : r ≤ 7 := by omega
          clear hX hy hidx
          cases y with
          | true =>
            have hnx2 := Lib.hid (show byteOf f q / 2 ^ r = 2 * X + 1 from hnx.out)
            go_wp2_with fail
            go_roundw
            case rel => exact ⟨r, by omega, by go_num, by rw [hnx2.out]; go_num⟩
            case measure => simp [intOf]
          | false =>
            have hnx2 := Lib.hid (show byteOf f q / 2 ^ r = 2 * X from hnx.out)
            go_wp2_with fail
            go_roundw
            case rel => exact ⟨r, by omega, by go_num, by rw [hnx2.out]; go_num⟩
            case measure => simp [intOf]
    · obtain rfl : q = m := by omega
      have hiN : ¬ i < N := by omega
      obtain ⟨gv, cv, rfl, hgvB, hgvl⟩ := Own8.formN hO.out (bytesOf_len f q) (by omega)
      have rowv : Row8 gv (bytesOf f q) wr := ⟨hgvl, fun j hj => by
        have h1 := Own8.cell hO.out j hj
        rw [addr_add, Nat.zero_add] at h1
        refine ⟨by rw [h1, byteAt_get _ j hj], ?_⟩
        have h2 := World.ownsRow.frozenAt (cap := cv) (xs := Lib.byteCells (bytesOf f q)) (by have := hO.out; unfold Own8 at this; rw [bytesOf_len] at this; exact this) j
        exact h2⟩
      have hWh := Lib.hid (fun (W : World) (n : Seen W) => seen_of (ref_Whole (h : Int) · (by omega) (by omega)) W n)
      have hTx := Lib.hid (fun (W : World) (n : Seen W) => seen_of (ref_Text (bs (bytesOf f q)) · (by rw [bs_size, bytesOf_len]; omega)) W n)
      have hcv : ∀ n : Seen wr, (convert 62 9 (.slice (some ⟨gv, 0, none⟩) q cv)).run Tryz.prog n.val = .ok (.string (bs (bytesOf f q))) n.val := fun n => conv_back n.val gv (bytesOf f q) q cv (bytesOf_len f q).symm (rowv.keep n.below hgvl)
      have he0 : ∀ n : Seen wr, n.val.cell? ⟨Z, 0, none⟩ = some (.int .i64 (h : Int)) := fun n => by rw [n.below.cell (cell_block e0.out)]; exact e0.out
      have e1' := e1.out
      have hl1 := (whole_len (n := (h : Int)) (by omega) (by omega)).1
      have hl2 := (whole_len (n := ((bytesOf f q).length : Int)) (by omega) (by rw [bytesOf_len]; omega)).1
      have hlt2 : (text (bytesOf f q)).length ≤ 11 + q := by unfold text; rw [List.length_append, bytesOf_len] at *; omega
      have hsum : ((bs (whole (h : Int))).size : Int) + ((bs (text (bs (bytesOf f q)).data.toList)).size : Int) ≤ 9223372036854775807 := by rw [bs_size, bs_size, bs_list]; omega
      have hcat : bs (whole (h : Int)) ++ bs (text (bs (bytesOf f q)).data.toList) = bs (packF h (bytesOf f q)) := by rw [bs_cat, bs_list, bs_list]; rfl
      have Hhi := Lib.hid hi8
      clear hi8 hl1 hl2 hlt2
      go_wp2_with fail
      refine region_seen (by kernel_rfl) (by kernel_rfl) ?_
      repeat go_big_quiet_step (first | (go_at_call 33; with_reducible exact hWh.out _ _) | (go_at_call 67; with_reducible exact hTx.out _ _))
      refine wpQuiet_nil ?_
      rintro _ ⟨m1, rfl⟩
      go_wp2_with fail
      go_ret
      refine ⟨by first | rfl | exact rets (by rw [hcat]), ?_⟩
      exact B1.out.trans (((hB.out.trans (m1.below.mono hB.out.size))).mono (by rw [S1.out]; omega))
end Go.Proofs.YteejldddgogbkaaGreatDoor
/- The document's filter of any bytes. -/
set_option linter.unusedVariables false
set_option maxRecDepth 100000
set_option maxRecDepth 100000
namespace Go.Proofs.YteejldddgogbkaaGreatDoor
open Go.RowKit

theorem results_fv' {fn : Func} {p u : Tmp} (h : fn.results = #[.cell p 43, .tmp u]) (tmps : Array Value) (w : World) (b : Nat) (v0 v1 x : Value) (hp : tmps.getD p undef = .pointer (some ⟨b, 0, none⟩)) (hx : tmps.getD u undef = x) (h0 : w.cell? ⟨b, 0, none⟩ = some v0) (h1 : w.cell? ⟨b, 1, none⟩ = some v1) :
    (results fn tmps).run Tryz.prog w = .ok (.tuple #[.agg #[v0, v1], x]) w := by
  obtain ⟨d, hd, hr⟩ := row31
  exact results_cell_bool h tmps Tryz.prog w b 0 [v0, v1] d x hp hx (range2 h0 h1) hd hr size31

/-- A slice of bits of the call's own: the first n bits of the bytes T. -/
def OwnB (B : Nat) (v : Value) (T : List UInt8) (n : Nat) (w : World) : Prop := w.ownsRow B 4 1 v n ((List.range n).map fun x => Value.bool (bitAt T x))
theorem OwnB.push {B : Nat} {v' : Value} {T : List UInt8} {n : Nat} {w' : World} {c : Bool} (h : w'.ownsRow B 4 1 v' (n + 1) (((List.range n).map fun x => Value.bool (bitAt T x)) ++ [.bool c])) (hc : c = bitAt T n) : OwnB B v' T (n + 1) w' := by
  unfold OwnB
  rw [List.range_succ, List.map_append, List.map_cons, List.map_nil, ← hc]
  exact h
theorem grown_setCell (w : World) (b o : Nat) (v : Value) : w.grownBy (w.setCell ⟨b, o, none⟩ v) (some b) :=
  ⟨rfl, rfl, rfl, by simp, fun j hj hne => Below.heap_setCell w ⟨b, o, none⟩ v j (fun e => hne (by rw [e]))⟩
theorem OwnB.set {B F o : Nat} {v u : Value} {T : List UInt8} {n : Nat} {w : World} (h : OwnB B v T n w) (hF : F < B) : OwnB B v T n (w.setCell ⟨F, o, none⟩ u) :=
  World.ownsRow.kept h (grown_setCell w F o u) (by
    cases e : v.ownBlock with
    | none => exact .inl rfl
    | some x => exact .inr (fun e2 => by have := (World.ownsRow.lt h x e).1; cases e2; omega))
theorem OwnB.row {B : Nat} {v : Value} {T : List UInt8} {n : Nat} {w : World} (h : OwnB B v T n w) (hn : 0 < n) : ∃ g cap, v = .slice (some ⟨g, 0, none⟩) n cap ∧ B ≤ g ∧ RowB g (bitAt T) n w := by
  have h' := h
  rcases h.2 with ⟨_, h0⟩ | ⟨g, cap, cur, rfl, hB, hg, _⟩
  · omega
  · refine ⟨g, cap, rfl, hB, (Array.getElem?_eq_some_iff.1 hg).1, fun j hj => ⟨?_, World.ownsRow.frozenAt h' j⟩⟩
    rw [World.ownsRow.cellAt h' j (by omega)]
    simp [hj]
theorem OwnB.slice {B : Nat} {v : Value} {T : List UInt8} {n : Nat} {w : World} (h : OwnB B v T n w) : ∃ a cap, v = .slice a n cap := by
  rcases h.2 with ⟨rfl, rfl⟩ | ⟨g, cap, cur, rfl, _⟩
  · exact ⟨none, 0, rfl⟩
  · exact ⟨_, _, rfl⟩
theorem OwnB.below {B : Nat} {v : Value} {T : List UInt8} {n : Nat} {w w' : World} (h : OwnB B v T n w) (k : Below w.heap.size w w') : OwnB B v T n w' := World.ownsRow.kept (row := none) h ⟨k.os, k.tape, k.output, k.size, fun j hj _ => k.block j hj⟩ (by cases e : v.ownBlock with
  | none => exact .inl rfl
  | some x => exact .inr (by simp))
/-- What stands in the filter's block while its bits come. -/
structure Half (F B : Nat) (n : Int) (T : List UInt8) (b : Nat) (W w : World) : Prop where
  c0 : w.cell? ⟨F, 0, none⟩ = some (.int .i64 n)
  c1 : ∃ a cap, w.cell? ⟨F, 1, none⟩ = some (.slice a b cap) ∧ OwnB B (.slice a b cap) T b w
  fz : w.frozen? ⟨F, 1, none⟩ = false
  on : Only (fun j => j = F) W w
theorem bitAt_byte (T : List UInt8) (q j : Nat) (h : j < 8) : bitAt T (8 * q + j) = (byteAt T q / 2 ^ j % 2 == 1) := by
  unfold bitAt
  rw [show (8 * q + j) / 8 = q by omega, show (8 * q + j) % 8 = j by omega]

def ROpened (n k e1 e2 m : Int) (T : List UInt8) (s : ByteArray) (w : World) (e : Ending) (w' : World) : Prop := Below w.heap.size w w' ∧
      ((e1 ≠ 0 ∧ e = .returned (.tuple #[noF, .int .i64 e1])) ∨ (e1 = 0 ∧ (n < 1 ∨ 8 < n) ∧ e = .returned (.tuple #[noF, .int .i64 3])) ∨
       (e1 = 0 ∧ ¬ (n < 1 ∨ 8 < n) ∧ e2 ≠ 0 ∧ e = .returned (.tuple #[noF, .int .i64 e2])) ∨ (e1 = 0 ∧ ¬ (n < 1 ∨ 8 < n) ∧ e2 = 0 ∧ (T = [] ∨ T.length % 8 ≠ 0) ∧ e = .returned (.tuple #[noF, .int .i64 3])) ∨
       (e1 = 0 ∧ ¬ (n < 1 ∨ 8 < n) ∧ e2 = 0 ∧ ¬ (T = [] ∨ T.length % 8 ≠ 0) ∧ k + m ≠ (s.size : Int) ∧ e = .returned (.tuple #[noF, .int .i64 5])) ∨
       (e1 = 0 ∧ ¬ (n < 1 ∨ 8 < n) ∧ e2 = 0 ∧ ¬ (T = [] ∨ T.length % 8 ≠ 0) ∧ k + m = (s.size : Int) ∧ ∃ g cap, w.heap.size ≤ g ∧ e = .returned (.tuple #[fv n.toNat g (8 * T.length) cap, .int .i64 0]) ∧ RowB g (bitAt T) (8 * T.length) w'))

set_option maxHeartbeats 1000000 in
theorem ropen_core (s S1 : ByteArray) (T : List UInt8) (n e1 e2 m : Int) (k : Nat) (w : World)
    (h1 : Hid (∀ w', Calls Tryz.prog 45 #[.string s] w' fun e w'' => e = .returned (.tuple #[.int .i64 n, .int .i64 (k : Int), .int .i64 e1]) ∧ w' = w''))
    (h2 : Hid (∀ w', Calls Tryz.prog 75 #[.string S1] w' fun e w'' => e = .returned (.tuple #[.string (bs T), .int .i64 m, .int .i64 e2]) ∧ w' = w''))
    (hS : s.extract k s.size = S1) (hk : k ≤ s.size) (hs : s.size ≤ 1000000) (hm : 0 ≤ m ∧ m ≤ 1000000) (hT : T.length ≤ 1000000) :
    Calls Tryz.prog 46 #[.string s] w (ROpened n k e1 e2 m T s w) := by
  obtain ⟨i0, hi, hz0, hz1, hz2⟩ := info_parts info4
  obtain ⟨Z, hZ⟩ : ∃ Z, Z = w.heap.size := ⟨_, rfl⟩
  obtain ⟨w1, hw1⟩ : ∃ w1, w1 = w.alloc (.cells #[.int .i64 0, .slice none 0 0] 43) := ⟨_, rfl⟩
  have B1 := Lib.hid (show Below w.heap.size w w1 by rw [hw1]; exact (Below.refl _ _).alloc (Nat.le_refl _) _)
  have S1z := Lib.hid (show w1.heap.size = Z + 1 by rw [hw1, hZ]; simp)
  have HZ := Lib.hid hZ
  have HW1 := Lib.hid hw1
  have r1 := Lib.hid (show w1.cell? ⟨Z, 0, none⟩ = some (.int .i64 0) ∧ w1.cell? ⟨Z, 1, none⟩ = some (.slice none 0 0) ∧ w1.frozen? ⟨Z, 0, none⟩ = false ∧ w1.frozen? ⟨Z, 1, none⟩ = false by
    rw [hw1, hZ, World.cell?_alloc_mark, World.cell?_alloc_mark, World.frozen?_alloc_mark, World.frozen?_alloc_mark]; exact ⟨rfl, rfl, rfl, rfl⟩)
  have a0 := r1.out.1
  have a1 := r1.out.2.1
  have a2 := r1.out.2.2.1
  have a3 := r1.out.2.2.2
  have hset : ∀ x : World → Prop, x ((w1.setCell ⟨Z, 0, none⟩ (.int .i64 0)).setCell ⟨Z, 1, none⟩ (.slice none 0 0)) → True := fun _ _ => trivial
  obtain ⟨w2, hw2⟩ : ∃ w2, w2 = (w1.setCell ⟨Z, 0, none⟩ (.int .i64 0)).setCell ⟨Z, 1, none⟩ (.slice none 0 0) := ⟨_, rfl⟩
  have B2 := Lib.hid (show Below w.heap.size w w2 by rw [hw2]; exact (B1.out.setCell (p := ⟨Z, 0, none⟩) (by rw [hZ]; exact Nat.le_refl _) _).setCell (p := ⟨Z, 1, none⟩) (by rw [hZ]; exact Nat.le_refl _) _)
  have b0 := Lib.hid (show w2.cell? ⟨Z, 0, none⟩ = some (.int .i64 0) by rw [hw2, World.cell?_setCell_other _ _ _ _ (by simp), World.cell?_setCell_same' _ _ _ (by rw [a0]; rfl)])
  have b1 := Lib.hid (show w2.cell? ⟨Z, 1, none⟩ = some (.slice none 0 0) by rw [hw2, World.cell?_setCell_same' _ _ _ (by rw [World.cell?_setCell_other _ _ _ _ (by simp), a1]; rfl)])
  have HW2 := Lib.hid hw2
  clear hset hw2 hw1 hZ
  go_enter Tryz.func46, Tryz.ntmps46
  go_upto_region 1 with (fail)
  change Code.wp _ _ _ _ (w.alloc (.cells #[.int .i64 0, .slice none 0 0] 43))
  rw [← HW1.out, ← HZ.out]
  go_wp2_with fail
  refine (h1.out w1).mono ?_
  rintro e _ ⟨rfl, rfl⟩
  by_cases he1 : e1 = 0
  · subst he1
    by_cases hn : n < 1 ∨ 8 < n
    · rcases hn with hn | hn
      · go_wp2_with fail
        rw [← HW2.out]
        exact bodyPost_ret (results_fv' rfl _ _ Z (.int .i64 0) (.slice none 0 0) (.int .i64 3) rfl rfl b0.out b1.out) rfl ⟨B2.out, .inr (.inl ⟨rfl, .inl hn, rfl⟩)⟩
      · have hn1 : ¬ n < 1 := by omega
        go_wp2_with fail
        rw [← HW2.out]
        exact bodyPost_ret (results_fv' rfl _ _ Z (.int .i64 0) (.slice none 0 0) (.int .i64 3) rfl rfl b0.out b1.out) rfl ⟨B2.out, .inr (.inl ⟨rfl, .inr hn, rfl⟩)⟩
    · have hn1 : ¬ n < 1 := fun h => hn (.inl h)
      have hn8 : ¬ 8 < n := fun h => hn (.inr h)
      have Hn := Lib.hid hn
      clear hn
      go_wp2_with fail
      refine (h2.out w1).mono ?_
      rintro e _ ⟨rfl, rfl⟩
      by_cases he2 : e2 = 0
      · subst he2
        by_cases hT0 : T = []
        · subst hT0
          have hE : (bs []).toList.isEmpty = true := by rw [Lib.toList_data, bs_list]; rfl
          have ht := Lib.hid hT
          clear hT
          go_wp2_with fail
          rw [← HW2.out]
          exact bodyPost_ret (results_fv' rfl _ _ Z (.int .i64 0) (.slice none 0 0) (.int .i64 3) rfl rfl b0.out b1.out) rfl ⟨B2.out, .inr (.inr (.inr (.inl ⟨rfl, Hn.out, rfl, .inl rfl, rfl⟩)))⟩
        · have hE : (bs T).toList.isEmpty = false := by rw [Lib.toList_data, bs_list]; cases T with | nil => exact absurd rfl hT0 | cons a l => rfl
          have HT0 := Lib.hid hT0
          obtain ⟨L, hml⟩ : ∃ L, L = T.length := ⟨_, rfl⟩
          have hml' : (bs T).size = L := by rw [bs_size, hml]
          have hmb : L ≤ 1000000 := by rw [hml]; exact hT
          by_cases hm8 : T.length % 8 = 0
          · have HM := Lib.hid hm8
            have hrem : (L : Int) % 8 = 0 := by omega
            have HML := Lib.hid hml
            clear hm8 hT0 hml hT
            by_cases hkm : (k : Int) + m = (s.size : Int)
            · have HKM := Lib.hid hkm
              have hL1 : 1 ≤ L := by
                have := HT0.out
                rw [HML.out]
                cases T with
                | nil => exact absurd rfl this
                | cons a l => simp
              obtain ⟨F, hF⟩ : ∃ F, F = Z + 1 := ⟨_, rfl⟩
              obtain ⟨W2, hW2⟩ : ∃ W2, W2 = w1.alloc (.cells #[.int .i64 n, .slice none 0 0] 43) := ⟨_, rfl⟩
              have S2 := Lib.hid (show W2.heap.size = F + 1 by rw [hW2]; simp [S1z.out, hF])
              have q2 := Lib.hid (show Half F W2.heap.size n T 0 W2 W2 from by
                have h0 := World.cell?_alloc_mark w1 #[.int .i64 n, .slice none 0 0] 43 (0, 0)
                have h3 := World.frozen?_alloc_mark w1 #[.int .i64 n, .slice none 0 0] 43 0 0
                rw [S1z.out, ← hF, ← hW2] at h0 h3
                exact ⟨(h0 0).trans rfl, ⟨none, 0, (h0 1).trans rfl, World.ownsRow_nil _ _ _ _⟩, (h3 1).trans (by simp), Only.refl _ _⟩)
              have r2 := Lib.hid (show W2.cell? ⟨Z, 0, none⟩ = some (.int .i64 0) ∧ W2.cell? ⟨Z, 1, none⟩ = some (.slice none 0 0) ∧ W2.frozen? ⟨Z, 0, none⟩ = false ∧ W2.frozen? ⟨Z, 1, none⟩ = false by
                have k1 : Below (Z + 1) w1 W2 := by rw [hW2, ← S1z.out]; exact (Below.refl _ _).alloc (Nat.le_refl _) _
                rw [k1.cell (p := ⟨Z, 0, none⟩) (by simp), k1.cell (p := ⟨Z, 1, none⟩) (by simp), YteejldddgogbkaaGreatDoor.Below.frozen k1 (by omega), YteejldddgogbkaaGreatDoor.Below.frozen k1 (by omega)]
                exact r1.out)
              have BW2 := Lib.hid (show Below w.heap.size w W2 by rw [hW2]; exact B1.out.alloc B1.out.size _)
              have HW2' := Lib.hid hW2
              have HF := Lib.hid hF
              have hFe := S1z.out
              rw [← hF] at hFe
              clear hW2 hF a0 a1 a2 a3
              go_upto_region 14 with (fail)
              change Code.wp _ _ _ _ (w1.alloc (.cells #[.int .i64 n, .slice none 0 0] 43))
              rw [← HW2'.out]
              clear hkm hFe hrem
              go_wp2_with fail
              go_loopw [10] (fun vi wr => ∃ q : Nat, q ≤ L ∧ vi = .int .i64 q ∧ Hid (Half F W2.heap.size n T (8 * q) W2 wr)) (fun vi wr => L - (intOf vi).toNat)
              case atStart => exact ⟨0, by omega, rfl, q2⟩
              case round =>
                obtain ⟨q, hq, rfl, hH⟩ := hrel
                rcases Nat.lt_or_ge q L with hqL | hqL
                · have hbx := byte_bs T q (by rw [hml']; exact hqL)
                  obtain ⟨X0, hX0⟩ : ∃ X0, X0 = byteAt T q := ⟨_, rfl⟩
                  rw [← hX0] at hbx
                  have HX0 := Lib.hid hX0
                  clear hX0
                  go_wp2_with fail
                  go_loopw [11, 12] (fun vx vj wr => ∃ j : Nat, j ≤ 8 ∧ vj = .int .i64 j ∧ vx = .int .u8 ((byteAt T q / 2 ^ j : Nat) : Int) ∧ Hid (Half F W2.heap.size n T (8 * q + j) W2 wr)) (fun vx vj wr => 8 - (intOf vj).toNat)
                  case atStart => exact ⟨0, by omega, rfl, by rw [HX0.out]; simp, hH⟩
                  case round =>
                    obtain ⟨j, hj8, rfl, rfl, hHj⟩ := hrel
                    rcases Nat.lt_or_ge j 8 with hjl | hjl
                    · obtain ⟨c0, ⟨sa, cap, c1, hOw⟩, fz, on⟩ := hHj.out
                      obtain ⟨b, hb⟩ : ∃ b, b = 8 * q + j := ⟨_, rfl⟩
                      rw [← hb] at c1 hOw
                      have hbl : b < 8 * L := by omega
                      obtain ⟨X, hX⟩ : ∃ X, X = byteAt T q / 2 ^ j := ⟨_, rfl⟩
                      obtain ⟨X2, hX2⟩ : ∃ X2, X2 = byteAt T q / 2 ^ (j + 1) := ⟨_, rfl⟩
                      have hXX : X2 = X / 2 := by rw [hX2, hX, Nat.pow_succ, Nat.div_div_eq_div_mul]
                      obtain ⟨y, hy⟩ : ∃ y, y = bitAt T b := ⟨_, rfl⟩
                      have hyX : (X % 2 == 1) = y := by rw [hy, hb, bitAt_byte T q j hjl, hX]
                      have hy1 : (((X : Int) % 2) == 1) = y := by
                        rw [← hyX, Bool.eq_iff_iff]; simp; omega
                      have hdv : (X : Int) / 2 = (X2 : Int) := by omega
                      have hX256 : X < 256 := by rw [hX]; exact Nat.lt_of_le_of_lt (Nat.div_le_self _ _) (byteAt_lt _ _)
                      have HO := Lib.hid hOw
                      have HC0 := Lib.hid c0
                      have HON := Lib.hid on
                      have hsz := Lib.hid (show W2.heap.size ≤ wr.heap.size from on.size)
                      have HY := Lib.hid hy
                      have HX2 := Lib.hid hX2
                      have HB := Lib.hid (show 8 * q + (j + 1) = b + 1 by omega)
                      have HNE := Lib.hid (show some F ≠ (Value.slice sa b cap).ownBlock ∧ ∀ y, F < (wr.alloc (.cells #[.bool y] 4)).heap.size from ⟨fun e => by have := (World.ownsRow.lt hOw F e.symm).1; rw [S2.out] at this; omega, fun y => by have := on.size; rw [S2.out] at this; simp; omega⟩)
                      have HFz := Lib.hid fz
                      have HC1 := Lib.hid c1
                      rw [← hX]
                      clear hX hX2 hXX hy hyX hOw c0 on hb
                      go_wp2_with (first | (refine wpList_append_own _ rfl (.tmp 74) (.tmp 78) 41 rfl W2.heap.size 4 i0 (.bool false) 1 1 Tryz.underlying41 hi hz0 hz1 hz2 rfl (by decide) (.slice sa b cap) b ((List.range b).map fun x => Value.bool (bitAt T x)) (by simp [Act.eval, Act.put]) (World.ownsRow.alloc HO.out _) ⟨wr.heap.size, 0, none⟩ 1 1 [.bool y] (by simp [Act.eval, Act.put]) rfl (fun j u hj => cell_one_new _ _ _ j u hj) (by simp [Value.oneCell']) (by unfold maxLen; omega) (by omega) (by have := hsz.out; simp; omega) ?_; intro v3 w3 hown3 hg3 _; obtain ⟨sa3, cap3, rfl⟩ := OwnB.slice (OwnB.push hown3 HY.out); have c1' : w3.cell? ⟨F, 1, none⟩ = some (.slice sa b cap) := (World.grownBy.cell_far hg3 ⟨F, 1, none⟩ (HNE.out.2 y) (HNE.out.1)).trans (cell_on _ HC1.out); have fz' : w3.frozen? ⟨F, 1, none⟩ = false := (World.grownBy.frozen_far hg3 ⟨F, 1, none⟩ (HNE.out.2 y) (HNE.out.1)).trans (free_on _ HC1.out HFz.out)))
                      have HO3 := Lib.hid (OwnB.push hown3 HY.out)
                      go_roundw
                      case rel =>
                        refine ⟨j + 1, by omega, by go_num, by rw [HX2.out], Lib.hid ?_⟩
                        rw [HB.out]
                        have kF : F < wr.heap.size := by have := hsz.out; rw [S2.out] at this; omega
                        refine ⟨?_, ⟨sa3, cap3, World.cell?_setCell_same' _ _ _ (by rw [c1']; rfl), HO3.out.set (by rw [S2.out]; omega)⟩, by rw [World.frozen?_setCell]; exact fz', ?_⟩
                        · rw [World.cell?_setCell_other _ _ _ _ (by simp)]
                          exact (World.grownBy.cell_far hg3 ⟨F, 0, none⟩ (HNE.out.2 y) (HNE.out.1)).trans (cell_on _ HC0.out)
                        · exact (((HON.out.alloc _)).grown hg3 (fun i hi => .inr (World.ownsRow.lt HO.out i hi).1)).setCell (.inl rfl) _
                      case measure => simp [intOf]; omega
                    · obtain rfl : j = 8 := by omega
                      go_wp2_with fail
                      exact ⟨⟨q + 1, by omega, by go_num, by rw [show 8 * (q + 1) = 8 * q + 8 by omega]; exact hHj⟩, by simp [intOf]; omega⟩
                · obtain rfl : q = L := by omega
                  obtain ⟨c0, ⟨sa, cap, c1, hOw⟩, fz, on⟩ := hH.out
                  obtain ⟨g, cg, hsl, hgB, hrow⟩ := OwnB.row hOw (by omega)
                  obtain ⟨b, hb⟩ : ∃ b, b = 8 * q := ⟨_, rfl⟩
                  rw [← hb] at c1 hOw hsl hrow
                  have hsl' : sa = some ⟨g, 0, none⟩ ∧ cap = cg := by cases hsl; exact ⟨rfl, rfl⟩
                  obtain ⟨rfl, rfl⟩ := hsl'
                  have z := on.block Z (by rw [S2.out]; have := HF.out; omega) (by have := HF.out; omega)
                  have z0 : wr.cell? ⟨Z, 0, none⟩ = some (.int .i64 0) ∧ wr.cell? ⟨Z, 1, none⟩ = some (.slice none 0 0) ∧ wr.frozen? ⟨Z, 0, none⟩ = false ∧ wr.frozen? ⟨Z, 1, none⟩ = false := by
                    have h1 := r2.out
                    unfold World.cell? World.frozen? at h1 ⊢
                    rw [z]
                    exact h1
                  obtain ⟨z0, z1, z2, z3⟩ := z0
                  have t0 := Lib.hid (show ((wr.setCell ⟨Z, 0, none⟩ (.int .i64 n)).setCell ⟨Z, 1, none⟩ (.slice (some ⟨g, 0, none⟩) b cap)).cell? ⟨Z, 0, none⟩ = some (.int .i64 n) by
                    rw [World.cell?_setCell_other _ _ _ _ (by simp), World.cell?_setCell_same' _ _ _ (by rw [z0]; rfl)])
                  have t1 := Lib.hid (show ((wr.setCell ⟨Z, 0, none⟩ (.int .i64 n)).setCell ⟨Z, 1, none⟩ (.slice (some ⟨g, 0, none⟩) b cap)).cell? ⟨Z, 1, none⟩ = some (.slice (some ⟨g, 0, none⟩) b cap) by
                    rw [World.cell?_setCell_same' _ _ _ (by rw [World.cell?_setCell_other _ _ _ _ (by simp), z1]; rfl)])
                  have hgZ : Z ≠ g := by have := HF.out; rw [S2.out] at hgB; omega
                  have tr := Lib.hid (show RowB g (bitAt T) b ((wr.setCell ⟨Z, 0, none⟩ (.int .i64 n)).setCell ⟨Z, 1, none⟩ (.slice (some ⟨g, 0, none⟩) b cap)) from
                    ⟨by have := hrow.1; simpa using this, fun j hj => ⟨by rw [World.cell?_setCell_other _ _ _ _ (fun e => hgZ (by injection e)), World.cell?_setCell_other _ _ _ _ (fun e => hgZ (by injection e))]; exact (hrow.2 j hj).1, by rw [World.frozen?_setCell, World.frozen?_setCell]; exact (hrow.2 j hj).2⟩⟩)
                  have tb := Lib.hid (show Below w.heap.size w ((wr.setCell ⟨Z, 0, none⟩ (.int .i64 n)).setCell ⟨Z, 1, none⟩ (.slice (some ⟨g, 0, none⟩) b cap)) from
                    ((BW2.out.trans (on.below (fun j _ e => by rw [e, HF.out, HZ.out]; omega) BW2.out.size)).setCell (p := ⟨Z, 0, none⟩) (by rw [HZ.out]; exact Nat.le_refl _) _).setCell (p := ⟨Z, 1, none⟩) (by rw [HZ.out]; exact Nat.le_refl _) _)
                  have Hb := Lib.hid (show b = 8 * T.length by rw [hb, HML.out])
                  have HgB := Lib.hid (show w.heap.size ≤ g from Nat.le_trans BW2.out.size hgB)
                  have HNN := Lib.hid (show ((n.toNat : Nat) : Int) = n by have := Hn.out; omega)
                  clear hOw hrow on hgB hsl z hb
                  go_wp2_with fail
                  refine bodyPost_ret (results_fv' rfl _ _ Z (.int .i64 n) (.slice (some ⟨g, 0, none⟩) b cap) (.int .i64 0) rfl rfl t0.out t1.out) rfl ⟨tb.out, .inr (.inr (.inr (.inr (.inr ⟨rfl, Hn.out, rfl, fun h => h.elim HT0.out (fun h => h HM.out), HKM.out, g, cap, HgB.out, ?_, ?_⟩))))⟩
                  · unfold fv
                    rw [← Hb.out, HNN.out]
                  · rw [← Hb.out]
                    exact tr.out
            · have hb : ((k : Int) + m == (s.size : Int)) = false := beq_eq_false_iff_ne.2 hkm
              have HKM := Lib.hid hkm
              clear hkm
              go_wp2_with fail
              rw [← HW2.out]
              exact bodyPost_ret (results_fv' rfl _ _ Z (.int .i64 0) (.slice none 0 0) (.int .i64 5) rfl rfl b0.out b1.out) rfl ⟨B2.out, .inr (.inr (.inr (.inr (.inl ⟨rfl, Hn.out, rfl, fun h => h.elim HT0.out (fun h => h HM.out), HKM.out, rfl⟩))))⟩
          · have HM := Lib.hid hm8
            have hrem : ((L : Int) % 8 != 0) = true := by rw [bne_iff_ne]; omega
            have HML := Lib.hid hml
            clear hm8 hT0 hml hT
            go_wp2_with fail
            rw [← HW2.out]
            exact bodyPost_ret (results_fv' rfl _ _ Z (.int .i64 0) (.slice none 0 0) (.int .i64 3) rfl rfl b0.out b1.out) rfl ⟨B2.out, .inr (.inr (.inr (.inl ⟨rfl, Hn.out, rfl, .inr HM.out, rfl⟩)))⟩
      · have hb : (e2 == 0) = false := beq_eq_false_iff_ne.2 he2
        have He2 := Lib.hid he2
        clear he2
        go_wp2_with fail
        rw [← HW2.out]
        exact bodyPost_ret (results_fv' rfl _ _ Z (.int .i64 0) (.slice none 0 0) (.int .i64 e2) rfl rfl b0.out b1.out) rfl ⟨B2.out, .inr (.inr (.inl ⟨rfl, Hn.out, He2.out, rfl⟩))⟩
  · have hb : (e1 == 0) = false := beq_eq_false_iff_ne.2 he1
    have He1 := Lib.hid he1
    clear he1
    go_wp2_with fail
    rw [← HW2.out]
    exact bodyPost_ret (results_fv' rfl _ _ Z (.int .i64 0) (.slice none 0 0) (.int .i64 e1) rfl rfl b0.out b1.out) rfl ⟨B2.out, .inl ⟨He1.out, rfl⟩⟩

def ROpenPost (l : List UInt8) (w : World) (e : Ending) (w' : World) : Prop :=
  Below w.heap.size w w' ∧ ((openE l ≠ 0 ∧ e = .returned (.tuple #[noF, .int .i64 (openE l)])) ∨
    (openE l = 0 ∧ ∃ g cap, w.heap.size ≤ g ∧ e = .returned (.tuple #[fv (openH l) g (8 * (openT l).length) cap, .int .i64 0]) ∧ RowB g (bitAt (openT l)) (8 * (openT l).length) w'))
theorem ref_Open (s : ByteArray) (w : World) (hs : s.size ≤ 900000) : Calls Tryz.prog 46 #[.string s] w (ROpenPost s.data.toList w) := by
  obtain ⟨l, hl⟩ : ∃ l, l = s.data.toList := ⟨_, rfl⟩
  have hlen : l.length = s.size := by rw [hl, ← Lib.size_eq]
  have hm : maxLen = 9223372036854775807 := rfl
  obtain ⟨S1, hS1⟩ : ∃ S1, S1 = s.extract (ck l) s.size := ⟨_, rfl⟩
  have e1 : S1.data.toList = openL l := by rw [hS1, extract_rest, ← hl]; rfl
  have z1 : S1.size ≤ maxLen := by rw [hS1, extract_size]; omega
  have hck : ck l ≤ l.length := by
    rcases cd_cases l with ⟨_, _, h3, _⟩ | ⟨_, _, h3⟩ <;> omega
  have l1 : (openL l).length = l.length - ck l := by unfold openL; simp
  have htk : tk (openL l) ≤ (openL l).length := by
    rcases td_cases (openL l) with ⟨_, _, _, h4, _, h6, _⟩ | ⟨_, _, h3⟩ <;> omega
  have hts : (ts (openL l)).length ≤ (openL l).length := by
    rcases td_cases (openL l) with ⟨_, _, _, h4, _, _, h7⟩ | ⟨_, h2, _⟩
    · rw [h7]; simp; omega
    · rw [h2]; simp
  have c1 := fun w' => ref_ReadCount s w' (by omega)
  have c2 := fun w' => ref_ReadText S1 w' z1
  rw [← hl] at c1
  rw [e1] at c2
  refine (ropen_core s S1 (ts (openL l)) (cn l) (ce l) (te (openL l)) (tk (openL l)) (ck l) w (Lib.hid c1) (Lib.hid c2) hS1.symm (by omega) (by omega) (by omega) (by omega)).mono ?_
  rw [← hl]
  rintro e w' ⟨hb, h⟩
  refine ⟨hb, ?_⟩
  rcases h with ⟨a1, a2⟩ | ⟨a1, a2, a3⟩ | ⟨a1, a2, a3, a4⟩ | ⟨a1, a2, a3, a4, a5⟩ | ⟨a1, a2, a3, a4, a5, a6⟩ | ⟨a1, a2, a3, a4, a5, a6⟩
  · have : openE l = ce l := by unfold openE; rw [if_pos a1]
    exact .inl ⟨by rw [this]; exact a1, by rw [this]; exact a2⟩
  · have : openE l = 3 := by unfold openE; rw [if_neg (by omega), if_pos a2]
    exact .inl ⟨by rw [this]; decide, by rw [this]; exact a3⟩
  · have : openE l = te (openL l) := by unfold openE; rw [if_neg (by omega), if_neg a2, if_pos a3]
    exact .inl ⟨by rw [this]; exact a3, by rw [this]; exact a4⟩
  · have : openE l = 3 := by unfold openE; rw [if_neg (by omega), if_neg a2, if_neg (by omega), if_pos a4]
    exact .inl ⟨by rw [this]; decide, by rw [this]; exact a5⟩
  · have hne : ¬ ((openL l).length = tk (openL l)) := by omega
    have : openE l = 5 := by unfold openE; rw [if_neg (by omega), if_neg a2, if_neg (by omega), if_neg a4, if_pos hne]
    exact .inl ⟨by rw [this]; decide, by rw [this]; exact a6⟩
  · have : openE l = 0 := by unfold openE; rw [if_neg (by omega), if_neg a2, if_neg (by omega), if_neg a4, if_neg (by omega)]
    exact .inr ⟨this, a6⟩
end Go.Proofs.YteejldddgogbkaaGreatDoor
/- The laws' look whether entries are alike. -/
set_option linter.unusedVariables false
set_option maxRecDepth 100000
set_option maxRecDepth 100000
namespace Go.Proofs.YteejldddgogbkaaGreatDoor
open Go.RowKit

theorem ent_same (k v : ByteArray) (g : Bool) (w : World) : (binOp .neq 49 (.agg #[.string k, .string v, .bool g]) (.agg #[.string k, .string v, .bool g])).run Tryz.prog w = .ok (.bool false) w := by
  have u3 := Tryz.underlying9
  have a3 := Tryz.isAgg9
  have z3 := Tryz.sizeOf9
  have u4 := Tryz.underlying4
  have a4 := Tryz.isAgg4
  have z4 := Tryz.sizeOf4
  have hS : Tryz.prog.underlying 49 = some (.struct (Tryz.prog.fieldsOf 49)) := by kernel_rfl
  have hp : Tryz.prog.stoodInHeld 49 = false := by kernel_rfl
  rw [run_neq_struct, show (10000 : Nat) = 9999 + 1 from rfl, run_equalIn_agg w 9999 49 _ _ hS hp]
  simp only [Program.fieldsOf, Tryz.underlying49]
  go_simp
set_option maxHeartbeats 1000000 in
theorem ref_Same (a1 a2 : Option Addr) (len c1 c2 : Nat) (T : List Ent) (w : World) (h1 : Hid (IsE w a1 len T)) (h2 : Hid (IsE w a2 len T)) (hl : len ≤ 9223372036854775807) :
    Calls Tryz.prog 9 #[.slice a1 len c1, .slice a2 len c2] w fun e w' => e = .returned (.bool true) ∧ Below w.heap.size w w' := by
  go_enter Tryz.func9, Tryz.ntmps9
  go_wp2_with fail
  go_loopw [5] (fun vi wr => ∃ i : Nat, i ≤ len ∧ vi = .int .i64 i ∧ Hid (Below w.heap.size w wr)) (fun vi wr => len - (intOf vi).toNat)
  case atStart => exact ⟨0, by omega, rfl, Lib.hid (Below.refl _ _)⟩
  case round =>
    obtain ⟨i, hi, rfl, hB⟩ := hrel
    rcases Nat.lt_or_ge i len with hlt | hge
    · obtain ⟨b, off, x, rfl, hx, _, hc⟩ := (h1.out.below hB.out).at hlt
      obtain ⟨b2, off2, y, rfl, hy, _, hd⟩ := (h2.out.below hB.out).at hlt
      rw [hx] at hy
      injection hy with hy
      subst hy
      have c0 := hc.c0
      have c1 := hc.c1
      have c2 := hc.c2
      have d0 := hd.c0
      have d1 := hd.c1
      have d2 := hd.c2
      have hsame := ent_same (bs x.key) (bs x.val) x.gone
      generalize bs x.key = sk at *
      generalize bs x.val = sv at *
      generalize x.gone = sg at *
      clear hx hc hd
      go_wp2_with fail
      go_quiet (fail)
      go_wp2_with fail
      go_roundw
      case rel => exact ⟨i + 1, by omega, by go_num, Lib.hid (below_drewN hB.out _)⟩
      case measure => simp [intOf]; omega
    · obtain rfl : i = len := by omega
      go_wp2_with fail
      go_ret
      exact ⟨rfl, hB.out⟩
theorem ref_Same_nil (a1 : Option Addr) (len c1 : Nat) (w : World) (hl : len ≤ 9223372036854775807) : Calls Tryz.prog 9 #[.slice none 0 0, .slice none 0 0] w fun e w' => e = .returned (.bool true) ∧ Below w.heap.size w w' :=
  ref_Same none none 0 0 0 [] w (Lib.hid (IsE.nil _ _)) (Lib.hid (IsE.nil _ _)) (by omega)
end Go.Proofs.YteejldddgogbkaaGreatDoor
/- Slices of strings that come in, of sizes that the row's own reach allows. -/
set_option linter.unusedVariables false
namespace Go.Proofs.YteejldddgogbkaaGreatDoor
open Go.ChangeShapes Go.WideShapes Go.ChangeAt Go.RowKit

theorem weightsAll_mem {H : Type} {P : Program} {e : TypeId} : ∀ {l : List (DataW H)} {d : DataW H} {n : Nat}, d ∈ l → n ∈ d.weights P e → n ∈ DataW.weightsAll P e l
  | d0 :: l, d, n, hd, hn => by
    simp only [DataW.weightsAll, List.mem_append]
    rcases List.mem_cons.1 hd with rfl | hd
    · exact .inl hn
    · exact .inr (weightsAll_mem hd hn)
theorem open_txs {H : Type} {enc : TypeId × Value → H} {W : World} {d : DataW H} {p : List MemPlace} {a : Option Addr} {len cap : Nat} (h : DataW.Trod enc Tryz.prog W 0 (fun _ => true) true 32 (.slice a len cap) d p)
    (hz : ∀ n ∈ d.weights Tryz.prog 32, n ≤ reachBytes) : ∃ T, IsTexts W a len T ∧ len ≤ 9223372036854775807 ∧ ∀ t ∈ T, t.size ≤ 140737488351232 := by
  obtain ⟨fuel, hf⟩ := h
  rcases open_strings Tryz.underlying32 Tryz.underlying9 (by kernel_rfl) hf with ⟨hcs, _⟩ | ⟨x, l, c, ss, hcs, _, hl, hm, hzl, hx, hcell, hws⟩
  · simp [Value.cells] at hcs
    obtain ⟨rfl, rfl, rfl⟩ := hcs
    exact ⟨[], ⟨rfl, 0, 0, .inl rfl, fun k hk => absurd hk (by simp)⟩, by omega, fun t ht => by cases ht⟩
  · simp [Value.cells] at hcs
    obtain ⟨rfl, rfl, rfl⟩ := hcs
    have hz' : ss.length = cap := by simpa using hzl
    have hm' : cap ≤ 9223372036854775807 := hm
    injection hx with hx _
    subst hx
    refine ⟨ss.take len, texts_is hl hz' hcell, by omega, fun t ht => ?_⟩
    have h1 : t.data.toList.length ∈ DataW.weights Tryz.prog 32 (DataW.slice (strs (H := H) (ss.take len)) (strs (ss.drop len))) := by
      simp only [DataW.weights, Tryz.underlying32, List.mem_cons, List.mem_append]
      refine .inr (.inl (weightsAll_mem (d := .lit (.string t.data.toList)) ?_ (by simp [DataW.weights])))
      unfold strs
      exact List.mem_map.2 ⟨t, ht, rfl⟩
    have h2 := hz _ h1
    rw [show t.data.toList.length = t.size by rw [← Lib.size_eq]] at h2
    exact h2
end Go.Proofs.YteejldddgogbkaaGreatDoor
/- The round numbers that the program's variable holds: what each row lists, and the world in which its initialiser lays them. -/
set_option linter.unusedVariables false
set_option maxRecDepth 100000
namespace Go.Proofs.YteejldddgogbkaaGreatDoor
open Go.ChangeShapes Go.WideShapes Go.ChangeAt Go.RowKit

theorem own : ownKnob Tryz.prog.godebug = none := by kernel_rfl
theorem gNum : Tryz.prog.globalNamed "silo/sha.roundNumbers" = some 0 := by kernel_rfl
theorem gNumType : (Tryz.prog.globals[0]?).map (·.type) = some 187 := by kernel_rfl
theorem arr64w : Tryz.prog.underlying 187 = some (.array 64 84) := by kernel_rfl
theorem cells64w : Tryz.prog.cellsOf 187 = 64 := by kernel_rfl
theorem cells1w : Tryz.prog.cellsOf 84 = 1 := by kernel_rfl
def numsI : List Int := [1116352408, 1899447441, 3049323471, 3921009573, 961987163, 1508970993, 2453635748, 2870763221, 3624381080, 310598401, 607225278, 1426881987, 1925078388, 2162078206, 2614888103, 3248222580, 3835390401, 4022224774, 264347078, 604807628, 770255983, 1249150122, 1555081692, 1996064986, 2554220882, 2821834349, 2952996808, 3210313671, 3336571891, 3584528711, 113926993, 338241895, 666307205, 773529912, 1294757372, 1396182291, 1695183700, 1986661051, 2177026350, 2456956037, 2730485921, 2820302411, 3259730800, 3345764771, 3516065817, 3600352804, 4094571909, 275423344, 430227734, 506948616, 659060556, 883997877, 958139571, 1322822218, 1537002063, 1747873779, 1955562222, 2024104815, 2227730452, 2361852424, 2428436474, 2756734187, 3204031479, 3329325298]
theorem numsI_at (j : Nat) (h : j < 64) : numsI.getD j 0 = ((numbers.getD j 0 : Nat) : Int) := by
  have : ∀ j, j < 64 → numsI.getD j 0 = ((numbers.getD j 0 : Nat) : Int) := by decide +kernel
  exact this j h

/-- WHAT THE ROWS' LIST GIVES. -/
theorem glob_of {W : World} (h : laidMetH Tryz.prog [("silo/sha.roundNumbers", Rows.laid_silo_sha_roundNumbers)] W) : Glob W := by
  have ht : Lib.TabIs Tryz.prog W "silo/sha.roundNumbers" .u32 numsI :=
    Lib.tabIs_of_head (rest := []) gNum gNumType arr64w Tryz.underlying84 cells1w cells64w h
  have hc : ∀ j, j < 64 → W.cell? ⟨0, j, none⟩ = some (.int .u32 ((numbers.getD j 0 : Nat) : Int)) := fun j hj => by
    have := ht.cell gNum j (by exact hj)
    rw [this, ← numsI_at j hj]
  refine ⟨World.block_lt_of_cell? W ⟨0, 0, none⟩ (hc 0 (by decide)), hc⟩

/-- A WORLD FOR THE WITNESS: the settled one, the variable (block 0) holding what its initialiser lays. -/
noncomputable def laidWorld (os : Os) : World :=
  { World.holding Tryz.prog os ⟨#[], #[], []⟩ with heap := (World.holding Tryz.prog os ⟨#[], #[], []⟩).heap.modify 0 fun
      | .cells _ t frozen => .cells (numsI.map fun z => Value.int .u32 z).toArray t frozen
      | o => o }

end Go.Proofs.YteejldddgogbkaaGreatDoor
/- Tables in plain words. -/
set_option linter.unusedVariables false
set_option maxRecDepth 100000
namespace Go.Proofs.YteejldddgogbkaaGreatDoor
open Go.RowKit

def crcd (l : List UInt8) : List UInt8 := l ++ four (sumL l)
/-- A block's bytes. -/
def blkB (T : List Ent) : List UInt8 := crcd (listB T)
theorem blkB_eq (T : List Ent) : listB T ++ four (sumL (listB T)) = blkB T := by unfold blkB crcd; rfl
theorem crcd_len (l : List UInt8) : (crcd l).length = l.length + 4 := by unfold crcd; rw [List.length_append, four_len]
theorem blkB_len {T : List Ent} (hs : smallE T) (hl : T.length ≤ 65536) : (blkB T).length ≤ T.length * 140000 + 15 := by
  unfold blkB listB
  rw [crcd_len, List.length_append]
  have h0 := (whole_len (n := ((T.length : Nat) : Int)) (by omega) (by omega)).1
  have h1 := entsB_len T [] hs
  omega
theorem blkB_pos (T : List Ent) : 4 ≤ (blkB T).length := by unfold blkB; rw [crcd_len]; omega

/-- Entries in parts of k. -/
def parts : Nat → Nat → List Ent → List (List Ent)
  | 0, _, _ => []
  | f + 1, k, T => if T.isEmpty then [] else T.take k :: parts f k (T.drop k)
def chunks (k : Nat) (T : List Ent) : List (List Ent) := parts T.length k T
def last1 (P : List Ent) : List (List Ent) := if P.isEmpty then [] else [P]
theorem parts_of {k : Nat} (hk : 0 < k) : ∀ (C : List (List Ent)) (P : List Ent) (f : Nat), (∀ c ∈ C, c.length = k) → P.length ≤ k → (C.flatten ++ P).length ≤ f → parts f k (C.flatten ++ P) = C ++ last1 P
  | [], P, f, _, hP, hf => by
    simp only [List.flatten_nil, List.nil_append] at hf ⊢
    unfold last1
    cases f with
    | zero =>
      obtain rfl : P = [] := List.eq_nil_of_length_eq_zero (by omega)
      rfl
    | succ f =>
      unfold parts
      cases P with
      | nil => rfl
      | cons x P =>
        simp only [List.isEmpty_cons, Bool.false_eq_true, if_false]
        rw [List.take_of_length_le hP, List.drop_eq_nil_of_le hP]
        cases f <;> rfl
  | c :: C, P, f, hC, hP, hf => by
    have hc : c.length = k := hC c (by simp)
    rw [List.flatten_cons, List.append_assoc] at hf ⊢
    rw [List.length_append] at hf
    cases f with
    | zero => omega
    | succ f =>
      unfold parts
      rw [if_neg (by cases c with
        | nil => simp at hc; omega
        | cons x c => simp)]
      rw [← hc, List.take_left, List.drop_left, hc, parts_of hk C P f (fun d hd => hC d (List.mem_cons_of_mem _ hd)) hP (by omega)]
      rfl
theorem chunks_of {k : Nat} (hk : 0 < k) {C : List (List Ent)} {P : List Ent} (hC : ∀ c ∈ C, c.length = k) (hP : P.length ≤ k) : chunks k (C.flatten ++ P) = C ++ last1 P := parts_of hk C P _ hC hP (Nat.le_refl _)

def keyE : List Ent → List UInt8
  | [] => []
  | x :: _ => x.key
def idxE (n : Nat) (c : List Ent) : Ent := ⟨keyE c, whole (n : Int) ++ whole ((blkB c).length : Int), false⟩
def idxs : Nat → List (List Ent) → List Ent
  | _, [] => []
  | n, c :: C => idxE n c :: idxs (n + (blkB c).length) C
def blksB (C : List (List Ent)) : List UInt8 := C.flatMap blkB
theorem blksB_snoc (C : List (List Ent)) (c : List Ent) : blksB (C ++ [c]) = blksB C ++ blkB c := by simp [blksB]
theorem idxs_snoc : ∀ (C : List (List Ent)) (c : List Ent) (n : Nat), idxs n (C ++ [c]) = idxs n C ++ [idxE (n + (blksB C).length) c]
  | [], c, n => by simp [idxs, blksB]
  | d :: C, c, n => by
    simp only [List.cons_append, idxs]
    rw [idxs_snoc C c]
    simp only [blksB, List.flatMap_cons, List.length_append, Nat.add_assoc]
theorem idxs_len : ∀ (C : List (List Ent)) (n : Nat), (idxs n C).length = C.length
  | [], _ => rfl
  | _ :: C, n => by simp [idxs, idxs_len C]
/-- How long blocks and their places are. -/
theorem blks_len : ∀ (C : List (List Ent)), (∀ c ∈ C, smallE c ∧ 1 ≤ c.length ∧ c.length ≤ 65536) → (blksB C).length ≤ C.flatten.length * 140015 ∧ C.length ≤ C.flatten.length
  | [], _ => by simp [blksB]
  | c :: C, h => by
    have hc := h c (by simp)
    have hC := blks_len C (fun d hd => h d (List.mem_cons_of_mem _ hd))
    have h1 := blkB_len hc.1 hc.2.2
    simp only [blksB, List.flatMap_cons, List.length_append, List.flatten_cons, List.length_cons] at hC ⊢
    rw [Nat.add_mul]
    omega
theorem idxE_small {n : Nat} {c : List Ent} (hc : smallE c) (hl : c.length ≤ 65536) (hn : n ≤ 9223372036854775807) : (idxE n c).key.length ≤ 65536 ∧ (idxE n c).val.length ≤ 65536 := by
  constructor
  · cases c with
    | nil => simp [idxE, keyE]
    | cons x c => exact (hc x (by simp)).1
  · have h1 := blkB_len hc hl
    have a := (whole_len (n := (n : Int)) (by omega) (by omega)).1
    have b := (whole_len (n := ((blkB c).length : Int)) (by omega) (by omega)).1
    show (whole (n : Int) ++ whole ((blkB c).length : Int)).length ≤ 65536
    rw [List.length_append]
    omega
theorem smallE.snoc {T : List Ent} {x : Ent} (h : smallE T) (hx : x.key.length ≤ 65536 ∧ x.val.length ≤ 65536) : smallE (T ++ [x]) := fun y hy => by
  rcases List.mem_append.1 hy with hy | hy
  · exact h y hy
  · rw [List.mem_singleton.1 hy]; exact hx
theorem idxs_small : ∀ (C : List (List Ent)) (n : Nat), (∀ c ∈ C, smallE c ∧ 1 ≤ c.length ∧ c.length ≤ 65536) → n + (blksB C).length ≤ 9223372036854775807 → smallE (idxs n C)
  | [], _, _, _ => fun x hx => by simp [idxs] at hx
  | c :: C, n, h, hn => by
    have hb : (blksB (c :: C)).length = (blkB c).length + (blksB C).length := by simp [blksB]
    intro x hx
    rcases List.mem_cons.1 hx with hx | hx
    · rw [hx]; exact idxE_small (h c (by simp)).1 (h c (by simp)).2.2 (by omega)
    · exact idxs_small C _ (fun d hd => h d (List.mem_cons_of_mem _ hd)) (by omega) x hx
/-- The filter's bytes, the foot, a table's bytes. -/
def filB (per : Nat) (T : List Ent) : List UInt8 := packF (hashesOf per) (bytesOf (made (hashesOf per) (wordsOf per T.length * 64) (T.map (·.key))) (wordsOf per T.length * 8))
theorem filB_len {per : Nat} {T : List Ent} (h3 : 1 ≤ per) (h4 : per ≤ 32) (hl : T.length ≤ 65536) : (filB per T).length ≤ 300000 := by
  have hw : wordsOf per T.length ≤ 32769 := by
    have := Nat.mul_le_mul h4 hl
    unfold wordsOf
    omega
  have hh := hashesOf_le per
  unfold filB packF text
  rw [List.length_append, List.length_append, bytesOf_len]
  have a := (whole_len (n := ((hashesOf per : Nat) : Int)) (by omega) (by omega)).1
  have b := (whole_len (n := ((wordsOf per T.length * 8 : Nat) : Int)) (by omega) (by omega)).1
  omega
def footB (a b n : Nat) : List UInt8 := four a ++ four b ++ four n
def tabC (C : List (List Ent)) (per : Nat) (T : List Ent) : List UInt8 :=
  blksB C ++ blkB (idxs 0 C) ++ crcd (filB per T) ++ crcd (footB (blksB C).length ((blksB C).length + (blkB (idxs 0 C)).length) T.length)
def tabB (each per : Nat) (T : List Ent) : List UInt8 := tabC (chunks each T) per T

/-- Where building stands: C are the whole parts, P is the one under way. -/
structure Cut (k : Nat) (T : List Ent) (i : Nat) (C : List (List Ent)) (P : List Ent) : Prop where
  all : C.flatten ++ P = T.take i
  each : i < T.length → ∀ c ∈ C, c.length = k
  few : P.length < k
  done : i = T.length → P = [] ∧ C = chunks k T
  ok : ∀ c ∈ C, 1 ≤ c.length ∧ c.length ≤ k
theorem Cut.start {k : Nat} (hk : 0 < k) (T : List Ent) : Cut k T 0 [] [] where
  all := by simp
  each := fun _ c hc => by simp at hc
  few := by simpa using hk
  done := fun h => ⟨rfl, by rw [List.eq_nil_of_length_eq_zero h.symm]; rfl⟩
  ok := fun c hc => by simp at hc
/-- One more, and the part is not full. -/
theorem Cut.more {k i : Nat} {T : List Ent} {C : List (List Ent)} {P : List Ent} {x : Ent} (h : Cut k T i C P) (hx : T[i]? = some x) (hf : P.length + 1 ≠ k) (hl : i + 1 ≠ T.length) : Cut k T (i + 1) C (P ++ [x]) where
  all := by rw [take_ent hx, ← h.all, List.append_assoc]
  each := fun hi => h.each (by omega)
  few := by have := h.few; rw [List.length_append]; simp; omega
  done := fun e => absurd e hl
  ok := h.ok
/-- One more, and the part is full, or the last. -/
theorem Cut.full {k i : Nat} {T : List Ent} {C : List (List Ent)} {P : List Ent} {x : Ent} (h : Cut k T i C P) (hk : 0 < k) (hx : T[i]? = some x) (hf : P.length + 1 = k ∨ i + 1 = T.length) : Cut k T (i + 1) (C ++ [P ++ [x]]) [] where
  all := by rw [take_ent hx, ← h.all]; simp
  each := fun hi c hc => by
    rcases List.mem_append.1 hc with hc | hc
    · exact h.each (by omega) c hc
    · rw [List.mem_singleton.1 hc, List.length_append]
      rcases hf with hf | hf
      · simpa using hf
      · omega
  few := by simpa using hk
  done := fun e => ⟨rfl, by
    have hi : i < T.length := by omega
    have hP : (P ++ [x]).length ≤ k := by have := h.few; rw [List.length_append]; simp; omega
    have hT : C.flatten ++ (P ++ [x]) = T := by rw [← List.append_assoc, h.all, ← take_ent hx, e, List.take_length]
    have := chunks_of hk (h.each hi) hP
    rw [hT] at this
    rw [this]
    unfold last1
    rw [if_neg (by simp)]⟩
  ok := fun c hc => by
    rcases List.mem_append.1 hc with hc | hc
    · exact h.ok c hc
    · rw [List.mem_singleton.1 hc, List.length_append]
      have := h.few
      simp
      omega
theorem Cut.small {k i : Nat} {T : List Ent} {C : List (List Ent)} {P : List Ent} (h : Cut k T i C P) (hs : smallE T) : (∀ c ∈ C, smallE c) ∧ smallE P := by
  have hm : ∀ x, x ∈ C.flatten ++ P → x ∈ T := fun x hx => by rw [h.all] at hx; exact List.mem_of_mem_take hx
  exact ⟨fun c hc x hx => hs x (hm x (List.mem_append_left _ (List.mem_flatten.2 ⟨c, hc, hx⟩))), fun x hx => hs x (hm x (List.mem_append_right _ hx))⟩
theorem Cut.len {k i : Nat} {T : List Ent} {C : List (List Ent)} {P : List Ent} (h : Cut k T i C P) (hi : i ≤ T.length) : C.flatten.length + P.length = i := by
  rw [← List.length_append, h.all, List.length_take]; omega
end Go.Proofs.YteejldddgogbkaaGreatDoor
/- How a table is told again, in plain words: the places of its blocks. -/
set_option linter.unusedVariables false
set_option maxRecDepth 100000
namespace Go.Proofs.YteejldddgogbkaaGreatDoor
open Go.RowKit

/-- The places of the blocks that an index tells, n being where the next one must begin, a where they end. -/
def placesL (a : Nat) : Nat → List Ent → Int × List (Nat × Nat)
  | n, [] => if n = a then (0, []) else (3, [])
  | n, x :: X =>
    let v := x.val
    if ce v ≠ 0 then (ce v, []) else
    let r := v.drop (ck v)
    if ce r ≠ 0 then (ce r, []) else
    if ck v + ck r < v.length ∨ cn v ≠ (n : Int) ∨ cn r > (a : Int) - cn v then (3, []) else
    let p := placesL a (n + (cn r).toNat) X
    (p.1, if p.1 = 0 then (n, (cn r).toNat) :: p.2 else [])
def offs : Nat → List (List Ent) → List (Nat × Nat)
  | _, [] => []
  | n, c :: C => (n, (blkB c).length) :: offs (n + (blkB c).length) C
theorem offs_len : ∀ (C : List (List Ent)) (n : Nat), (offs n C).length = C.length
  | [], _ => rfl
  | _ :: C, n => by simp [offs, offs_len C]
theorem places_idxs {a : Nat} (ha : a ≤ 9223372036854775807) : ∀ (C : List (List Ent)) (n : Nat), n + (blksB C).length = a → placesL a n (idxs n C) = (0, offs n C)
  | [], n, h => by
    have : n = a := by simpa [blksB] using h
    simp [idxs, placesL, offs, this]
  | c :: C, n, h => by
    have hb : (blksB (c :: C)).length = (blkB c).length + (blksB C).length := by simp [blksB]
    have h1 := cd_whole (n := n) (by omega) (whole ((blkB c).length : Int))
    have h2 := cd_whole (n := (blkB c).length) (by omega) []
    rw [List.append_nil] at h2
    have ih := places_idxs ha C (n + (blkB c).length) (by omega)
    have hd : (whole (n : Int) ++ whole ((blkB c).length : Int)).drop (ck (whole (n : Int) ++ whole ((blkB c).length : Int))) = whole ((blkB c).length : Int) := by rw [h1.2.2, List.drop_left]
    have hv : (idxE n c).val = whole (n : Int) ++ whole ((blkB c).length : Int) := rfl
    unfold idxs placesL offs
    simp only [hv, hd, h1.1, h2.1, h1.2.1, h2.2.1, Int.toNat_natCast, ih]
    rw [if_neg (by simp), if_neg (by simp), if_neg (by rw [h1.2.2, h2.2.2, List.length_append]; omega)]
    simp
theorem chunks_flat {k : Nat} (hk : 0 < k) (T : List Ent) : ∃ (C : List (List Ent)) (P : List Ent), (∀ c ∈ C, c.length = k) ∧ P.length < k ∧ C.flatten ++ P = T ∧ chunks k T = C ++ last1 P := by
  have h : ∀ (n : Nat) (T : List Ent), T.length ≤ n → ∃ (C : List (List Ent)) (P : List Ent), (∀ c ∈ C, c.length = k) ∧ P.length < k ∧ C.flatten ++ P = T := by
    intro n
    induction n with
    | zero => intro T h; exact ⟨[], T, by simp, by omega, by simp⟩
    | succ n ih =>
      intro T h
      by_cases hT : T.length < k
      · exact ⟨[], T, by simp, hT, by simp⟩
      · obtain ⟨C, P, h1, h2, h3⟩ := ih (T.drop k) (by rw [List.length_drop]; omega)
        refine ⟨T.take k :: C, P, ?_, h2, ?_⟩
        · intro c hc
          rcases List.mem_cons.1 hc with hc | hc
          · rw [hc, List.length_take]; omega
          · exact h1 c hc
        · rw [List.flatten_cons, List.append_assoc, h3, List.take_append_drop]
  obtain ⟨C, P, h1, h2, h3⟩ := h T.length T (Nat.le_refl _)
  exact ⟨C, P, h1, h2, h3, by rw [← h3]; exact chunks_of hk h1 (by omega)⟩
/-- The parts of k: none is empty, together they are all. -/
theorem chunks_all {k : Nat} (hk : 0 < k) (T : List Ent) : (chunks k T).flatten = T ∧ ∀ c ∈ chunks k T, 1 ≤ c.length ∧ c.length ≤ k := by
  obtain ⟨C, P, h1, h2, h3, h4⟩ := chunks_flat hk T
  rw [h4]
  unfold last1
  cases P with
  | nil =>
    rw [if_pos (by rfl), List.append_nil]
    rw [List.append_nil] at h3
    exact ⟨h3, fun c hc => by rw [h1 c hc]; omega⟩
  | cons x P =>
    rw [if_neg (by simp)]
    refine ⟨by simpa using h3, fun c hc => ?_⟩
    rcases List.mem_append.1 hc with hc | hc
    · rw [h1 c hc]; omega
    · rw [List.mem_singleton.1 hc]
      simp at h2 ⊢
      omega
theorem rises_app : ∀ {A D : List Ent}, rises (A ++ D) → rises A ∧ rises D ∧ ∀ x ∈ A, ∀ y ∈ D, ltB x.key y.key = true
  | [], D, h => ⟨trivial, h, fun _ hx => by cases hx⟩
  | x :: A, D, ⟨h1, h2⟩ => by
    obtain ⟨a, b, c⟩ := rises_app h2
    refine ⟨⟨fun y hy => h1 y (List.mem_append_left _ hy), a⟩, b, fun z hz y hy => ?_⟩
    rcases List.mem_cons.1 hz with rfl | hz
    · exact h1 y (List.mem_append_right _ hy)
    · exact c z hz y hy
theorem keyE_mem {c : List Ent} (h : 1 ≤ c.length) : ∃ x ∈ c, keyE c = x.key := by
  cases c with
  | nil => simp at h
  | cons x c => exact ⟨x, by simp, rfl⟩
theorem idxs_mem : ∀ {C : List (List Ent)} {n : Nat} {x : Ent}, x ∈ idxs n C → ∃ c ∈ C, x.key = keyE c ∧ x.gone = false
  | [], _, _, h => by simp [idxs] at h
  | c :: C, n, x, h => by
    rcases List.mem_cons.1 h with h | h
    · exact ⟨c, by simp, by rw [h]; rfl, by rw [h]; rfl⟩
    · obtain ⟨d, hd, e⟩ := idxs_mem h
      exact ⟨d, by simp [hd], e⟩
theorem idxs_rises : ∀ (C : List (List Ent)) (n : Nat), rises C.flatten → (∀ c ∈ C, 1 ≤ c.length) → rises (idxs n C)
  | [], _, _, _ => trivial
  | c :: C, n, h, hc => by
    rw [List.flatten_cons] at h
    obtain ⟨a, b, d⟩ := rises_app h
    refine ⟨fun y hy => ?_, idxs_rises C _ b fun e he => hc e (by simp [he])⟩
    obtain ⟨e, he, hk, _⟩ := idxs_mem hy
    obtain ⟨x, hx, hkx⟩ := keyE_mem (hc c (by simp))
    obtain ⟨z, hz, hkz⟩ := keyE_mem (hc e (by simp [he]))
    show ltB (keyE c) y.key = true
    rw [hk, hkx, hkz]
    exact d x hx z (List.mem_flatten.2 ⟨e, he, hz⟩)
/-- An index of rising parts may be packed, and is opened as it was. -/
theorem idxs_ok {C : List (List Ent)} (h : rises C.flatten) (hs : ∀ c ∈ C, smallE c ∧ 1 ≤ c.length ∧ c.length ≤ 65536) (hl : C.length ≤ 65536) (hn : (blksB C).length ≤ 9223372036854775807) : chkE (idxs 0 C) = 0 := by
  refine (chkE_ok _).2 ⟨okEs_of_rises true [] (idxs_rises C 0 h fun c hc => (hs c hc).2.1) (fun x hx => ?_) (fun hf => by cases hf), by rw [idxs_len]; exact hl⟩
  have := idxs_small C 0 hs (by omega) x hx
  exact ⟨this.1, this.2, fun hg => by obtain ⟨_, _, _, e⟩ := idxs_mem hx; rw [e] at hg; cases hg⟩
theorem opnS_blk {T : List Ent} (h : chkE T = 0) : opnS (blkB T) = (0, T) := by
  have := opened_pack h
  unfold packB at this
  rw [if_pos h] at this
  exact this
end Go.Proofs.YteejldddgogbkaaGreatDoor
