/- Texts put together: TableNum, TableRead, TableRefGet, TableRefScan, TableRefNum -/
import Derived.Test.YteejldddgogbkaaGreatDoorTOp17
import Derived.Test.YteejldddgogbkaaGreatDoorTOp03
import Derived.Test.YteejldddgogbkaaGreatDoorTOp01
import Derived.Test.YteejldddgogbkaaGreatDoorTOp15
import Derived.Test.YteejldddgogbkaaGreatDoorTOp12
import Derived.Test.YteejldddgogbkaaGreatDoorTOp06
import Derived.Test.YteejldddgogbkaaGreatDoorTOp14
import Derived.BigQuiet
/- The foot's numbers: four bytes, the highest first, read and written. -/
set_option linter.unusedVariables false
set_option maxRecDepth 100000
namespace Go.Proofs.YteejldddgogbkaaGreatDoor
open Go.RowKit

def numG (l : List UInt8) : Nat := l.foldl (fun n b => n * 256 + b.toNat) 0
theorem numG_snoc (l : List UInt8) (b : UInt8) : numG (l ++ [b]) = numG l * 256 + b.toNat := by simp [numG]
theorem numG_go : ∀ (l : List UInt8) (n : Nat), l.foldl (fun n b => n * 256 + b.toNat) n < (n + 1) * 256 ^ l.length
  | [], n => by simp
  | b :: l, n => by
    have h := numG_go l (n * 256 + b.toNat)
    have hb := b.toNat_lt
    have h2 : (n * 256 + b.toNat + 1) * 256 ^ l.length ≤ ((n + 1) * 256) * 256 ^ l.length := Nat.mul_le_mul_right _ (by omega)
    rw [List.foldl_cons, List.length_cons, Nat.pow_succ, Nat.mul_comm (256 ^ l.length) 256, ← Nat.mul_assoc]
    omega
theorem numG_lt (l : List UInt8) : numG l < 256 ^ l.length := by
  have := numG_go l 0
  rw [Nat.zero_add, Nat.one_mul] at this
  exact this
theorem numG_four {l : List UInt8} (h : l.length = 4) : numG l = num4 l := by
  match l, h with
  | [a, b, c, d], _ => simp [numG, num4]
theorem get_bs4 (l : List UInt8) (n : Nat) (h : n < (bs l).size) : ∃ x : UInt8, l[n]? = some x ∧ (bs l)[n] = x := by
  have hl : n < l.length := by rw [← bs_size]; exact h
  exact ⟨l[n], List.getElem?_eq_getElem hl, rfl⟩
theorem or_b256 (n b : Nat) (hn : n < 16777216) (hb : b < 256) : bits .or .i64 ((n : Int) * 256) (b : Int) = ((n * 256 + b : Nat) : Int) := by
  have h := bits_join .i64 63 (by decide) (fun n h0 h1 => by rw [IntKind.wrap_i64]; omega) 8 ((n : Int) * 256) (b : Int) (by omega) (by omega) (by omega) (by omega) (by omega) (by omega)
  rw [h]
  omega
set_option maxHeartbeats 1000000 in
theorem table_number (l : List UInt8) (w : World) (hl : l.length = 4) :
    Calls Tryz.prog 71 #[.string (bs l)] w fun e w' => e = .returned (.int .i64 ((num4 l : Nat) : Int)) ∧ Below w.heap.size w w' := by
  have z1 : (bs l).size = 4 := by rw [bs_size, hl]
  have HL := Lib.hid hl
  clear hl
  go_enter Tryz.func71, Tryz.ntmps71
  go_wp2_with fail
  go_loopw [3, 7] (fun vn vi wr => ∃ i : Nat, i ≤ 4 ∧ vi = .int .i64 i ∧ vn = .int .i64 ((numG (l.take i) : Nat) : Int) ∧ Hid (Below w.heap.size w wr)) (fun vn vi wr => 4 - (intOf vi).toNat)
  case atStart => exact ⟨0, by omega, rfl, rfl, Lib.hid (Below.refl _ _)⟩
  case round =>
    obtain ⟨i, hi, rfl, rfl, hB⟩ := hrel
    rcases Nat.lt_or_ge i 4 with h4 | h4
    · obtain ⟨b, hb, hbb⟩ := get_bs4 l i (by rw [z1]; exact h4)
      have hlt := numG_lt (l.take i)
      rw [List.length_take, HL.out, Nat.min_eq_left hi] at hlt
      have hlt2 : numG (l.take i) < 16777216 := by
        have : 256 ^ i ≤ 256 ^ 3 := Nat.pow_le_pow_right (by decide) (by omega)
        omega
      have hn : numG (l.take (i + 1)) = numG (l.take i) * 256 + b.toNat := by rw [List.take_add_one, hb]; exact numG_snoc _ _
      have hb8 := b.toNat_lt
      obtain ⟨n, hnn⟩ : ∃ n, n = numG (l.take i) := ⟨_, rfl⟩
      rw [← hnn] at hlt2 hn ⊢
      have hor := or_b256 n b.toNat hlt2 hb8
      have hwr : IntKind.i64.wrap ((n : Int) * 256) = (n : Int) * 256 := by rw [IntKind.wrap_i64]; omega
      have HN := Lib.hid hn
      clear hlt hnn hb hn
      go_wp2_with fail
      go_roundw
      case rel => exact ⟨i + 1, by omega, by go_num, by rw [HN.out]; go_num, hB⟩
      case measure => simp [intOf]; omega
    · obtain rfl : i = 4 := by omega
      have hf := Lib.hid (show num4 l = numG (l.take 4) by rw [List.take_of_length_le (by rw [HL.out]; exact Nat.le_refl _), numG_four HL.out])
      rw [show ((4 : Nat) : Int) = 4 from rfl]
      go_wp2_with fail
      go_ret
      exact ⟨ret1 (by rw [hf.out]), hB.out⟩
end Go.Proofs.YteejldddgogbkaaGreatDoor
/- A table's parts, read: the foot, a piece of the index, the filter. -/
set_option linter.unusedVariables false
set_option maxRecDepth 100000
namespace Go.Proofs.YteejldddgogbkaaGreatDoor
open Go.RowKit

/-- A variable of three cells. -/
def C3 (b : Nat) (ty : TypeId) (v0 v1 v2 : Value) (w : World) : Prop := w.heap[b]? = some (.cells #[v0, v1, v2] ty (0, 0))
namespace C3
variable {b : Nat} {ty : TypeId} {v0 v1 v2 : Value} {w w' : World}
theorem c0 (h : C3 b ty v0 v1 v2 w) : w.cell? ⟨b, 0, none⟩ = some v0 := by unfold C3 at h; simp [World.cell?, h]
theorem c1 (h : C3 b ty v0 v1 v2 w) : w.cell? ⟨b, 1, none⟩ = some v1 := by unfold C3 at h; simp [World.cell?, h]
theorem c2 (h : C3 b ty v0 v1 v2 w) : w.cell? ⟨b, 2, none⟩ = some v2 := by unfold C3 at h; simp [World.cell?, h]
theorem free (h : C3 b ty v0 v1 v2 w) (j : Nat) : w.frozen? ⟨b, j, none⟩ = false := by unfold C3 at h; simp [World.frozen?, h]
theorem below (h : C3 b ty v0 v1 v2 w) (k : Below w.heap.size w w') : C3 b ty v0 v1 v2 w' := (k.block b (heap_lt h)).trans h
theorem put (h : C3 b ty v0 v1 v2 w) (u0 u1 u2 : Value) : C3 b ty u0 u1 u2 (((w.setCell ⟨b, 0, none⟩ u0).setCell ⟨b, 1, none⟩ u1).setCell ⟨b, 2, none⟩ u2) := by
  have h1 := heap_set (o := 0) h u0
  have h2 := heap_set (o := 1) h1 u1
  exact heap_set (o := 2) h2 u2
theorem range (h : C3 b ty v0 v1 v2 w) : w.rangeAt b 0 [v0, v1, v2] := fun j v hj => by
  match j, hj with
  | 0, hj => cases hj; exact h.c0
  | 1, hj => cases hj; exact h.c1
  | 2, hj => cases hj; exact h.c2
  | n + 3, hj => cases hj
end C3
theorem results_c3 {fn : Func} {p u : Tmp} {ty ty' : TypeId} (h : fn.results = #[.cell p ty, .tmp u]) (tmps : Array Value) (w : World) (b : Nat) (v0 v1 v2 x : Value) (d : TypeDesc) (hp : tmps.getD p undef = .pointer (some ⟨b, 0, none⟩)) (hx : tmps.getD u undef = x) (hc : C3 b ty' v0 v1 v2 w)
    (hu : Tryz.prog.underlying ty = some d) (hd : d.isRow = true) (hi : (Tryz.prog.info? ty).map (·.size) = some 3) : (results fn tmps).run Tryz.prog w = .ok (.tuple #[.agg #[v0, v1, v2], x]) w :=
  results_cell_bool h tmps Tryz.prog w b 0 [v0, v1, v2] d x hp hx hc.range hu hd hi
theorem results_c3b {fn : Func} {p u r : Tmp} {ty ty' : TypeId} (h : fn.results = #[.cell p ty, .tmp u, .tmp r]) (tmps : Array Value) (w : World) (b : Nat) (v0 v1 v2 x y : Value) (d : TypeDesc) (hp : tmps.getD p undef = .pointer (some ⟨b, 0, none⟩)) (hx : tmps.getD u undef = x) (hy : tmps.getD r undef = y) (hc : C3 b ty' v0 v1 v2 w)
    (hu : Tryz.prog.underlying ty = some d) (hd : d.isRow = true) (hi : (Tryz.prog.info? ty).map (·.size) = some 3) : (results fn tmps).run Tryz.prog w = .ok (.tuple #[.agg #[v0, v1, v2], x, y]) w := by
  have hl := run_loadVar_mid w b 0 ty [v0, v1, v2] d hc.range hu hd hi
  have hp' : tmps[p]?.getD undef = .pointer (some ⟨b, 0, none⟩) := by simpa using hp
  have hx' : tmps[u]?.getD undef = x := by simpa using hx
  have hy' : tmps[r]?.getD undef = y := by simpa using hy
  simp only [results, h]
  simp [Sem.run_bind, Result.andThen, hp', hx', hy', asAddr, hl]
theorem below_put3' {B g : Nat} {a w : World} (h : Below B a w) (hB : B ≤ g) (v0 v1 v2 : Value) : Below B a (((w.setCell ⟨g, 0, none⟩ v0).setCell ⟨g, 1, none⟩ v1).setCell ⟨g, 2, none⟩ v2) :=
  ((h.setCell (p := ⟨g, 0, none⟩) hB v0).setCell (p := ⟨g, 1, none⟩) hB v1).setCell (p := ⟨g, 2, none⟩) hB v2
theorem sizeFoot : (Tryz.prog.info? 67).map (·.size) = some 3 := by kernel_rfl
theorem sizePiece : (Tryz.prog.info? 131).map (·.size) = some 3 := by kernel_rfl
theorem sizeEnt : (Tryz.prog.info? 49).map (·.size) = some 3 := by kernel_rfl
def fv3 (a b c : Nat) : Value := .agg #[.int .i64 (a : Int), .int .i64 (b : Int), .int .i64 (c : Int)]
theorem num4_lt (l : List UInt8) : num4 l < 4294967296 := by
  unfold num4
  split
  · rename_i a b c d _
    have := a.toNat_lt; have := b.toNat_lt; have := c.toNat_lt; have := d.toNat_lt
    omega
  · omega
theorem num4_take (l : List UInt8) : num4 (l.take 4) = num4 l := by
  match l with
  | [] => rfl
  | [_] => rfl
  | [_, _] => rfl
  | [_, _, _] => rfl
  | a :: b :: c :: d :: t => rfl
theorem takeT_twelve {s : List UInt8} (hl : s.length = 16) (h : takeE s = 0) : (takeT s).length = 12 := by
  unfold takeE at h
  rw [if_neg (by omega)] at h
  have hk : okT s := by
    by_cases hk : okT s
    · exact hk
    · rw [if_neg hk] at h; cases h
  unfold takeT
  rw [if_pos ⟨by omega, hk⟩, List.length_take]
  omega
set_option maxHeartbeats 2000000 in
theorem readFoot_no (n F : Nat) (c : Array Value) (K : List (Nat × Obj)) (d z : Int) (L : List UInt8) (w : World) (hs : Hid (Src F c K d L)) (hk : Hid (Keep K w)) (hn : n + 16 = L.length) (hl : L.length ≤ 9223372036854775807) (hz : Hid (d ≠ 0 ∧ z = d ∨ d = 0 ∧ takeE (L.drop n) = z ∧ z ≠ 0)) :
    Calls Tryz.prog 38 #[.int .i64 (n : Int), srcV F c] w fun e w' => e = .returned (.tuple #[fv3 0 0 0, .int .i64 z]) ∧ Below w.heap.size w w' := by
  obtain ⟨w1, hw1⟩ : ∃ w1, w1 = w.alloc (.cells #[.int .i64 0, .int .i64 0, .int .i64 0] 67) := ⟨_, rfl⟩
  have K1 := Lib.hid (show Below w.heap.size w w1 by rw [hw1]; exact (Below.refl _ _).alloc (Nat.le_refl _) _)
  have C1 := Lib.hid (show C3 w.heap.size 67 (.int .i64 0) (.int .i64 0) (.int .i64 0) w1 by rw [hw1]; exact heap_new w _)
  have HC := Lib.hid (hs.out.calls w1 (hk.out.below K1.out) n 16 (by omega))
  have eF := hs.out.enters
  have HW1 := Lib.hid hw1
  have hz0 : (z == 0) = false := beq_eq_false_iff_ne.2 (by rcases hz.out with ⟨h1, h2⟩ | ⟨_, _, h2⟩; (rw [h2]; exact h1); (exact h2))
  unfold Enters at eF
  unfold srcV fv3
  clear hw1
  rcases hz.out with ⟨hd, rfl⟩ | ⟨rfl, htk, hzn⟩
  · have hC := HC.out
    rw [if_neg hd] at hC
    clear HC hz
    go_enter Tryz.func38, Tryz.ntmps38
    go_upto_region 1 with (fail)
    rw [← HW1.out]
    go_wp2_with fail
    refine hC.mono ?_
    rintro e w2 ⟨rfl, k2⟩
    have c2 := C1.out.below k2
    have q0 := c2.c0
    have q1 := c2.c1
    have q2 := c2.c2
    have qf := c2.free
    have C2 := Lib.hid c2
    have K2 := Lib.hid (K1.out.trans (k2.mono K1.out.size))
    clear k2 c2 hC eF
    go_wp2_with fail
    refine bodyPost_ret (results_c3 rfl _ _ w.heap.size _ _ _ _ _ rfl rfl (C2.out.put _ _ _) Tryz.underlying67 rfl sizeFoot) rfl ?_
    exact ⟨rfl, below_put3' K2.out (Nat.le_refl _) _ _ _⟩
  · have hC := HC.out
    rw [if_pos rfl] at hC
    obtain ⟨s, hs'⟩ : ∃ s, s = (L.drop n).take 16 := ⟨_, rfl⟩
    have hse : s = L.drop n := by rw [hs']; exact List.take_of_length_le (by rw [List.length_drop]; omega)
    rw [← hs'] at hC
    have htk2 := fun W => crc_Take (bs s) W (by rw [bs_size, hse, List.length_drop]; omega)
    simp only [bs_list] at htk2
    rw [hse, htk, ← hse] at htk2
    have HT := Lib.hid htk2
    clear HC hz hs' hse htk htk2
    go_enter Tryz.func38, Tryz.ntmps38
    go_upto_region 1 with (fail)
    rw [← HW1.out]
    go_wp2_with fail
    refine hC.mono ?_
    rintro e w2 ⟨rfl, k2⟩
    have C2 := Lib.hid (C1.out.below k2)
    have K2 := Lib.hid (K1.out.trans (k2.mono K1.out.size))
    clear k2 hC eF
    go_wp2_with fail
    refine (HT.out w2).mono ?_
    rintro e w3 ⟨rfl, k3⟩
    have c3 := C2.out.below k3
    have q0 := c3.c0
    have q1 := c3.c1
    have q2 := c3.c2
    have qf := c3.free
    have C3' := Lib.hid c3
    have K3 := Lib.hid (K2.out.trans (k3.mono K2.out.size))
    clear k3 c3
    go_wp2_with fail
    refine bodyPost_ret (results_c3 rfl _ _ w.heap.size _ _ _ _ _ rfl rfl (C3'.out.put _ _ _) Tryz.underlying67 rfl sizeFoot) rfl ?_
    exact ⟨rfl, below_put3' K3.out (Nat.le_refl _) _ _ _⟩
end Go.Proofs.YteejldddgogbkaaGreatDoor
/- The document's Get. -/
set_option linter.unusedVariables false
set_option maxRecDepth 100000
namespace Go.Proofs.YteejldddgogbkaaGreatDoor
open Go.RowKit

/-- What the document's Get answers: h, N and f are the filter, keys those of the index, blk the blocks, read. -/
def getR (h N : Nat) (f : Nat → Bool) (keys : List (List UInt8)) (blk : Nat → Int × List Ent) (k : List UInt8) : Ent × Bool × Int × Nat :=
  let n := fromN k keys
  if hasB h N f k = false ∨ n = 0 then (⟨[], [], false⟩, false, 0, 0) else
  match (blk (n - 1)).2.find? (isKey k) with
  | some x => (x, true, 0, 1)
  | none => (⟨[], [], false⟩, false, (blk (n - 1)).1, 1)
theorem getR_t (t : Tab) (k : List UInt8) : getR t.h (t.bits.length * 8) (bitAt t.bits) (t.index.map (·.key)) (blockT t) k = getT t k := rfl
structure RGetPost (R : Ent × Bool × Int × Nat) (w : World) (e : Ending) (w' : World) : Prop where
  out : e = .returned (.tuple #[EV R.1, .bool R.2.1, .int .i64 R.2.2.1, .int .i64 (R.2.2.2 : Int)])
  bel : Below w.heap.size w w'
theorem RGetPost.mk' {R : Ent × Bool × Int × Nat} {w w' : World} {x : Ent} {b : Bool} {z : Int} {r : Nat} (h : R = (x, b, z, r)) (hB : Below w.heap.size w w') : RGetPost R w (.returned (.tuple #[EV x, .bool b, .int .i64 z, .int .i64 (r : Int)])) w' :=
  ⟨by rw [h], hB⟩
theorem find_snoc {k : List UInt8} {T : List Ent} {i : Nat} {x : Ent} (hx : T[i]? = some x) (h : (T.take i).find? (isKey k) = none) : (x.key = k → T.find? (isKey k) = some x) ∧ (x.key ≠ k → (T.take (i + 1)).find? (isKey k) = none) := by
  have hl := List.getElem?_eq_some_iff.1 hx
  have ht : T.take (i + 1) = T.take i ++ [x] := by rw [List.take_add_one, hx]; rfl
  have hn : (T.take (i + 1)).find? (isKey k) = if x.key = k then some x else none := by
    rw [ht, List.find?_append, h, Option.none_or]
    by_cases e : x.key = k
    · simp [isKey, e]
    · simp [isKey, e]
  constructor
  · intro e
    rw [if_pos e] at hn
    conv => lhs; rw [← List.take_append_drop (i + 1) T]
    rw [List.find?_append, hn]
    rfl
  · intro e
    rw [hn, if_neg e]
theorem results_c3c {fn : Func} {p u r t : Tmp} {ty ty' : TypeId} (h : fn.results = #[.cell p ty, .tmp u, .tmp r, .tmp t]) (tmps : Array Value) (w : World) (b : Nat) (v0 v1 v2 x y z : Value) (d : TypeDesc) (hp : tmps.getD p undef = .pointer (some ⟨b, 0, none⟩)) (hx : tmps.getD u undef = x) (hy : tmps.getD r undef = y) (hz : tmps.getD t undef = z) (hc : C3 b ty' v0 v1 v2 w)
    (hu : Tryz.prog.underlying ty = some d) (hd : d.isRow = true) (hi : (Tryz.prog.info? ty).map (·.size) = some 3) : (results fn tmps).run Tryz.prog w = .ok (.tuple #[.agg #[v0, v1, v2], x, y, z]) w := by
  have hl := run_loadVar_mid w b 0 ty [v0, v1, v2] d hc.range hu hd hi
  have hp' : tmps[p]?.getD undef = .pointer (some ⟨b, 0, none⟩) := by simpa using hp
  have hx' : tmps[u]?.getD undef = x := by simpa using hx
  have hy' : tmps[r]?.getD undef = y := by simpa using hy
  have hz' : tmps[t]?.getD undef = z := by simpa using hz
  simp only [results, h]
  simp [Sem.run_bind, Result.andThen, hp', hx', hy', hz', asAddr, hl]
set_option maxHeartbeats 4000000 in
theorem ref_Get (s : List UInt8) (ia : Option Addr) (il ic : Nat) (aa : Option Addr) (al ac : Nat) (sa : Option Addr) (sl sc : Nat) (h g N cap : Nat) (count : Int) (f : Nat → Bool) (X : List Ent) (A S : List Nat) (key : List UInt8) (w : World)
    (hX : Hid (IsE w ia il X)) (hA : Hid (IsI w aa al A)) (hS : Hid (IsI w sa sl S)) (hF : Hid (RowB g f N w)) (hal : al = il) (hsl : sl = il) (hl : il ≤ 100000) (hb : Hid (∀ i, i < il → A.getD i 0 + S.getD i 0 ≤ s.length)) (hs : s.length ≤ 100000000000)
    (h1 : 1 ≤ h) (h8 : h ≤ 8) (hN : 0 < N) (hN2 : N ≤ 1000000000) (hk : key.length ≤ 140737488351232) (hO : Hid (∀ i, i < il → (blkR (opnS ((s.drop (A.getD i 0)).take (S.getD i 0))) ((X.map (·.key)).getD i [])).2.length ≤ 65536)) :
    Calls Tryz.prog 15 #[mV s ia il ic aa al ac sa sl sc h g N cap count, .string (bs key)] w (RGetPost (getR h N f (X.map (·.key)) (fun i => blkR (opnS ((s.drop (A.getD i 0)).take (S.getD i 0))) ((X.map (·.key)).getD i [])) key) w) := by
  obtain ⟨w1, hw1⟩ : ∃ w1, w1 = (w.alloc (.cells #[.string (bs s), .slice ia il ic, .slice aa al ac, .slice sa sl sc, .int .i64 (h : Int), .slice (some ⟨g, 0, none⟩) N cap, .int .i64 count] 45)).alloc (.cells #[.string ⟨#[]⟩, .string ⟨#[]⟩, .bool false] 49) := ⟨_, rfl⟩
  obtain ⟨Z, hZ⟩ : ∃ Z, Z = w.heap.size := ⟨_, rfl⟩
  have K1 := Lib.hid (show Below w.heap.size w w1 by rw [hw1]; exact ((Below.refl _ _).alloc (Nat.le_refl _) _).alloc (by simp) _)
  have C1 := Lib.hid (show C3 (Z + 1) 49 (.string ⟨#[]⟩) (.string ⟨#[]⟩) (.bool false) w1 by
    have hh := heap_new (w.alloc (.cells #[.string (bs s), .slice ia il ic, .slice aa al ac, .slice sa sl sc, .int .i64 (h : Int), .slice (some ⟨g, 0, none⟩) N cap, .int .i64 count] 45)) (.cells #[.string ⟨#[]⟩, .string ⟨#[]⟩, .bool false] 49)
    rw [show (w.alloc (.cells #[.string (bs s), .slice ia il ic, .slice aa al ac, .slice sa sl sc, .int .i64 (h : Int), .slice (some ⟨g, 0, none⟩) N cap, .int .i64 count] 45)).heap.size = Z + 1 by simp [hZ]] at hh
    rw [hw1]; exact hh)
  have T1 := Lib.hid (show w1.heap[Z]? = some (.cells #[.string (bs s), .slice ia il ic, .slice aa al ac, .slice sa sl sc, .int .i64 (h : Int), .slice (some ⟨g, 0, none⟩) N cap, .int .i64 count] 45 (0, 0)) by
    rw [hw1, hZ]
    exact (Below.heap_alloc _ _ _ (by simp)).trans (heap_new w _))
  have X1 := Lib.hid (hX.out.below K1.out)
  have A1 := Lib.hid (hA.out.below K1.out)
  have S1 := Lib.hid (hS.out.below K1.out)
  have F1 := Lib.hid (hF.out.below K1.out)
  have HZ := Lib.hid hZ
  have HW1 := Lib.hid hw1
  clear hw1 hZ
  subst hal hsl
  have c0 : w1.cell? ⟨Z, 0, none⟩ = some (.string (bs s)) := by simp [World.cell?, T1.out]
  have c1 : w1.cell? ⟨Z, 1, none⟩ = some (.slice ia sl ic) := by simp [World.cell?, T1.out]
  have c2 : w1.cell? ⟨Z, 2, none⟩ = some (.slice aa sl ac) := by simp [World.cell?, T1.out]
  have c3 : w1.cell? ⟨Z, 3, none⟩ = some (.slice sa sl sc) := by simp [World.cell?, T1.out]
  have c4 : w1.cell? ⟨Z, 4, none⟩ = some (.int .i64 (h : Int)) := by simp [World.cell?, T1.out]
  have c5 : w1.cell? ⟨Z, 5, none⟩ = some (.slice (some ⟨g, 0, none⟩) N cap) := by simp [World.cell?, T1.out]
  have c6 : w1.cell? ⟨Z, 6, none⟩ = some (.int .i64 count) := by simp [World.cell?, T1.out]
  have hbl : ∀ l : List UInt8, (bs l).data.toList = l := fun l => bs_list l
  have HFR := Lib.hid (ref_from s ia sl ic aa sl ac sa sl sc h g N cap count X key w1 X1 hl)
  obtain ⟨Y, hY⟩ : ∃ Y, Y = X.map (·.key) := ⟨_, rfl⟩
  have hyl : Y.length = sl := by rw [hY, List.length_map]; exact hX.out.1.symm
  rw [← hY] at hO HFR ⊢
  obtain ⟨q, hq⟩ : ∃ q, q = fromN key Y := ⟨_, rfl⟩
  have hql : q ≤ sl := by rw [hq, ← hyl]; exact fromN_le key Y
  rw [← hq] at HFR
  obtain ⟨hb', hhb⟩ : ∃ hb', hb' = hasB h N f key := ⟨_, rfl⟩
  obtain ⟨blk, hblk⟩ : ∃ blk : Nat → Int × List Ent, blk = fun i => blkR (opnS ((s.drop (A.getD i 0)).take (S.getD i 0))) (Y.getD i []) := ⟨_, rfl⟩
  rw [← hblk]
  have hG : getR h N f Y blk key = if hb' = false ∨ q = 0 then (⟨[], [], false⟩, false, 0, 0) else
      match (blk (q - 1)).2.find? (isKey key) with
      | some x => (x, true, 0, 1)
      | none => (⟨[], [], false⟩, false, (blk (q - 1)).1, 1) := by rw [hq, hhb]; rfl
  obtain ⟨GR, hGR⟩ : ∃ GR, GR = getR h N f Y blk key := ⟨_, rfl⟩
  rw [← hGR] at hG ⊢
  have HHAS := Lib.hid (fun (W : World) (hF : RowB g f N W) => ref_has h g N cap f (bs key) W (Lib.hid hF) h1 h8 hN hN2 (by rw [bs_size]; exact hk))
  rw [bs_list, ← hhb] at HHAS
  have HBK := Lib.hid (fun (i : Nat) (hi : i < sl) (W : World) (hB : Below w1.heap.size w1 W) => ref_Block s ia sl ic aa sl ac sa sl sc h g N cap count X A S i W (Lib.hid (X1.out.below hB)) (Lib.hid (A1.out.below hB)) (Lib.hid (S1.out.below hB)) rfl rfl hi hl (Lib.hid (hb.out i hi)) hs)
  have HBLK := Lib.hid (fun i => congrFun hblk i)
  rw [← hY] at HBK
  have HG := Lib.hid hG
  clear hY hyl hq hhb hGR hG hblk hbl
  have HCS := Lib.hid (fun (W : World) (hB : Below w1.heap.size w1 W) => (show W.cell? ⟨Z, 0, none⟩ = some (.string (bs s)) ∧ W.cell? ⟨Z, 1, none⟩ = some (.slice ia sl ic) ∧ W.cell? ⟨Z, 2, none⟩ = some (.slice aa sl ac) ∧ W.cell? ⟨Z, 3, none⟩ = some (.slice sa sl sc) ∧ W.cell? ⟨Z, 4, none⟩ = some (.int .i64 (h : Int)) ∧ W.cell? ⟨Z, 5, none⟩ = some (.slice (some ⟨g, 0, none⟩) N cap) ∧ W.cell? ⟨Z, 6, none⟩ = some (.int .i64 count) from by
    have hh := (hB.block Z (heap_lt T1.out)).trans T1.out
    simp [World.cell?, hh]))
  unfold mV at HFR HBK ⊢
  unfold fv at HHAS
  go_enter Tryz.func15, Tryz.ntmps15
  go_upto_region 1 with (fail)
  rw [← HW1.out, ← HZ.out]
  go_wp2_with fail
  refine HFR.out.mono ?_
  rintro e w2 ⟨rfl, k2⟩
  have B2 := Lib.hid k2
  obtain ⟨d0, d1, d2, d3, d4, d5, d6⟩ := HCS.out w2 k2
  clear c0 c1 c2 c3 c4 c5 c6 k2
  have E2 := Lib.hid (C1.out.below B2.out)
  cases hb' with
  | false =>
    have HG2 := Lib.hid (HG.out.trans (if_pos (.inl rfl)))
    clear HG
    go_wp2_with fail
    refine (HHAS.out w2 (F1.out.below B2.out)).mono ?_
    rintro e w3 ⟨rfl, k3⟩
    have B3 := Lib.hid (K1.out.trans ((B2.out.trans (k3.mono B2.out.size)).mono K1.out.size))
    have E3 := Lib.hid (E2.out.below k3)
    clear k3 d0 d1 d2 d3 d4 d5 d6
    have q0 := E3.out.c0
    have q1 := E3.out.c1
    have q2 := E3.out.c2
    have qf := E3.out.free
    go_wp2_with fail
    refine bodyPost_ret (results_c3c rfl _ _ (Z + 1) _ _ _ _ _ _ _ rfl rfl rfl rfl (E3.out.put _ _ _) Tryz.underlying49 rfl sizeEnt) rfl ?_
    exact RGetPost.mk' HG2.out (below_put3' B3.out (by have := HZ.out; omega) _ _ _)
  | true =>
    by_cases h0 : q = 0
    · have HG2 := Lib.hid (HG.out.trans (if_pos (.inr h0)))
      clear HG
      subst h0
      go_wp2_with fail
      refine (HHAS.out w2 (F1.out.below B2.out)).mono ?_
      rintro e w3 ⟨rfl, k3⟩
      have B3 := Lib.hid (K1.out.trans ((B2.out.trans (k3.mono B2.out.size)).mono K1.out.size))
      have E3 := Lib.hid (E2.out.below k3)
      have hneg : (((0 : Nat) : Int) - 1) = -1 := rfl
      clear k3 d0 d1 d2 d3 d4 d5 d6
      have q0 := E3.out.c0
      have q1 := E3.out.c1
      have q2 := E3.out.c2
      have qf := E3.out.free
      go_wp2_with fail
      refine bodyPost_ret (results_c3c rfl _ _ (Z + 1) _ _ _ _ _ _ _ rfl rfl rfl rfl (E3.out.put _ _ _) Tryz.underlying49 rfl sizeEnt) rfl ?_
      exact RGetPost.mk' HG2.out (below_put3' B3.out (by have := HZ.out; omega) _ _ _)
    · obtain ⟨i, hi⟩ : ∃ i, q = i + 1 := ⟨q - 1, by omega⟩
      subst hi
      have hi1 : (((i + 1 : Nat) : Int) - 1) = (i : Int) := by omega
      rw [hi1]
      have HG1 := Lib.hid (HG.out.trans (if_neg (by rintro (h | h); (cases h); (exact h0 h))))
      rw [Nat.add_sub_cancel] at HG1
      clear HG h0
      have hil : i < sl := by omega
      have hi5 : i ≤ 100000 := by omega
      have hnlt : ¬ ((i : Int) < 0) := by omega
      go_wp2_with fail
      refine (HHAS.out w2 (F1.out.below B2.out)).mono ?_
      rintro e w3 ⟨rfl, k3⟩
      have B3' := Lib.hid (B2.out.trans (k3.mono B2.out.size))
      have E3 := Lib.hid (E2.out.below k3)
      obtain ⟨d0, d1, d2, d3, d4, d5, d6⟩ := HCS.out w3 B3'.out
      clear k3
      go_wp2_with fail
      refine (HBK.out i hil w3 B3'.out).mono ?_
      rintro e w4 ⟨⟨xa, xc, rfl, hxc, hxe⟩, k4, hn4⟩
      clear hn4
      have hbi : blkR (opnS ((s.drop (A.getD i 0)).take (S.getD i 0))) (Y.getD i []) = blk i := (HBLK.out i).symm
      have hTl := hO.out i hil
      rw [hbi] at hxc hxe hTl ⊢
      have B4 := Lib.hid (K1.out.trans ((B3'.out.trans (k4.mono B3'.out.size)).mono K1.out.size))
      have E4 := Lib.hid (E3.out.below k4)
      clear hbi k4 d0 d1 d2 d3 d4 d5 d6 HFR HBK HCS HHAS HBLK
      obtain ⟨z, hz⟩ : ∃ z, z = (blk i).1 := ⟨_, rfl⟩
      obtain ⟨T, hT⟩ : ∃ T, T = (blk i).2 := ⟨_, rfl⟩
      obtain ⟨m, hm⟩ : ∃ m, m = T.length := ⟨_, rfl⟩
      rw [← hz, ← hT] at HG1
      rw [← hT, ← hm] at hxc hxe hTl
      rw [← hz, ← hT, ← hm]
      have HM := Lib.hid hm
      have HXE := Lib.hid hxe
      clear hz hT hm hxe
      have q0 := E4.out.c0
      have q1 := E4.out.c1
      have q2 := E4.out.c2
      have qf := E4.out.free
      go_wp2_with fail
      go_loopw [11] (fun vi wr => ∃ j : Nat, j ≤ m ∧ vi = .int .i64 (j : Int) ∧ Hid ((T.take j).find? (isKey key) = none) ∧ wr = w4) (fun vi wr => m - (intOf vi).toNat)
      case atStart => exact ⟨0, by omega, rfl, Lib.hid rfl, rfl⟩
      case round =>
        obtain ⟨j, hj, rfl, hfj, rfl⟩ := hrel
        rcases Nat.lt_or_ge j m with hlt | hge
        · obtain ⟨xb, xo, x, rfl, hx, -, hcx⟩ := HXE.out.at hlt
          obtain ⟨f1, f2⟩ := find_snoc hx hfj.out
          have x0 := hcx.c0
          have x1 := hcx.c1
          have x2 := hcx.c2
          have hjI : (j : Int) < (m : Int) := by omega
          clear hx hcx
          by_cases hkk : x.key = key
          · have HF := Lib.hid (f1 hkk)
            have hcm : ((bs x.key).toList == (bs key).toList) = true := by rw [hkk]; simp
            have HG2 := Lib.hid (show GR = (x, true, 0, 1) by rw [HG1.out, HF.out])
            clear f1 f2 hkk
            go_wp2_with fail
            refine bodyPost_ret (results_c3c rfl _ _ (Z + 1) _ _ _ _ _ _ _ rfl rfl rfl rfl (E4.out.put _ _ _) Tryz.underlying49 rfl sizeEnt) rfl ?_
            exact RGetPost.mk' HG2.out (below_put3' B4.out (by have := HZ.out; omega) _ _ _)
          · have HF := Lib.hid (f2 hkk)
            have hcm : ((bs x.key).toList == (bs key).toList) = false := by rw [Lib.toList_data, Lib.toList_data, bs_list, bs_list]; simpa using hkk
            clear f1 f2 hkk
            go_wp2_with fail
            go_roundw
            case rel => exact ⟨j + 1, by omega, by go_num, HF, trivial⟩
            case measure => simp [intOf]; omega
        · obtain rfl : j = m := by omega
          have HG2 := Lib.hid (show GR = (⟨[], [], false⟩, false, z, 1) by
            have := hfj.out
            rw [List.take_of_length_le (by rw [← HM.out]; exact Nat.le_refl _)] at this
            rw [HG1.out, this])
          go_wp2_with fail
          refine bodyPost_ret (results_c3c rfl _ _ (Z + 1) _ _ _ _ _ _ _ rfl rfl rfl rfl (E4.out.put _ _ _) Tryz.underlying49 rfl sizeEnt) rfl ?_
          exact RGetPost.mk' HG2.out (below_put3' B4.out (by have := HZ.out; omega) _ _ _)
end Go.Proofs.YteejldddgogbkaaGreatDoor
/- The document's Scan. -/
set_option linter.unusedVariables false
set_option maxRecDepth 100000
namespace Go.Proofs.YteejldddgogbkaaGreatDoor
open Go.RowKit

/-- f blocks from the i-th on, up to the first error: blk are the blocks, read. -/
def scanR (blk : Nat → Int × List Ent) (k : List UInt8) : Nat → Nat → Int × List Ent
  | 0, _ => (0, [])
  | f + 1, i => if (blk i).1 ≠ 0 then ((blk i).1, []) else ((scanR blk k f (i + 1)).1, fromE k (blk i).2 ++ (scanR blk k f (i + 1)).2)
theorem scanR_t (t : Tab) (k : List UInt8) : ∀ f i, scanR (blockT t) k f i = scanG t k f i
  | 0, _ => rfl
  | f + 1, i => by unfold scanR scanG; rw [scanR_t t k f (i + 1)]
theorem fromE_snoc {k : List UInt8} {T : List Ent} {i : Nat} {x : Ent} (hx : T[i]? = some x) : fromE k (T.take (i + 1)) = fromE k (T.take i) ++ (if ltB x.key k then [] else [x]) := by
  have ht : T.take (i + 1) = T.take i ++ [x] := by rw [List.take_add_one, hx]; rfl
  rw [ht]
  unfold fromE
  rw [List.filter_append]
  congr 1
  by_cases h : ltB x.key k = true
  · simp [h]
  · simp [h]
theorem fromE_len (k : List UInt8) (T : List Ent) : (fromE k T).length ≤ T.length := List.length_filter_le _ _
theorem scanR_step {blk : Nat → Int × List Ent} {key : List UInt8} {n i : Nat} (h : i < n) : scanR blk key (n - i) i = if (blk i).1 ≠ 0 then ((blk i).1, []) else ((scanR blk key (n - (i + 1)) (i + 1)).1, fromE key (blk i).2 ++ (scanR blk key (n - (i + 1)) (i + 1)).2) := by
  obtain ⟨f, hf⟩ : ∃ f, n - i = f + 1 := ⟨n - i - 1, by omega⟩
  rw [hf, show n - (i + 1) = f by omega]
  rfl
theorem BlockPost.mk' {R : Int × List Ent} {w w' : World} {z : Int} {L : List Ent} {B n c : Nat} {a : Option Addr} (h : R = (z, L)) (hn : n = L.length) (hO : OwnE w' B (.slice a n c) L) (hB : Below w.heap.size w w') (hw : w.heap.size ≤ B) : BlockPost R w (.returned (.tuple #[.slice a n c, .int .i64 z])) w' := by
  subst h
  subst hn
  exact ⟨⟨a, c, rfl, hO.len_cap, hO.is rfl⟩, hB, NewE.of fun b off e => by subst e; exact Nat.le_trans hw (OffRow.lt hO b rfl).1⟩
/-- What lies in the blocks from lo to those of v is as it was there. -/
structure Mid (lo : Nat) (v w : World) : Prop where
  size : v.heap.size ≤ w.heap.size
  same : ∀ b, lo ≤ b → b < v.heap.size → w.heap[b]? = v.heap[b]?
theorem Mid.cell {lo : Nat} {v w : World} (h : Mid lo v w) {b o : Nat} {x : Value} (h1 : lo ≤ b) (h2 : b < v.heap.size) (hc : v.cell? ⟨b, o, none⟩ = some x) : w.cell? ⟨b, o, none⟩ = some x := by
  rw [← hc]
  exact World.cell?_of_block (h.same b h1 h2)
set_option maxHeartbeats 4000000 in
theorem ref_Scan (s : List UInt8) (ia : Option Addr) (il ic : Nat) (aa : Option Addr) (al ac : Nat) (sa : Option Addr) (sl sc : Nat) (h g N cap : Nat) (count : Int) (X : List Ent) (A S : List Nat) (key : List UInt8) (w : World)
    (hX : Hid (IsE w ia il X)) (hA : Hid (IsI w aa al A)) (hS : Hid (IsI w sa sl S)) (hal : al = il) (hsl : sl = il) (hl : il ≤ 100000) (hb : Hid (∀ i, i < il → A.getD i 0 + S.getD i 0 ≤ s.length)) (hs : s.length ≤ 100000000000)
    (hO : Hid (∀ i, i < il → (blkR (opnS ((s.drop (A.getD i 0)).take (S.getD i 0))) ((X.map (·.key)).getD i [])).2.length ≤ 65536)) :
    Calls Tryz.prog 18 #[mV s ia il ic aa al ac sa sl sc h g N cap count, .string (bs key)] w (BlockPost (scanR (fun i => blkR (opnS ((s.drop (A.getD i 0)).take (S.getD i 0))) ((X.map (·.key)).getD i [])) key (il - (fromN key (X.map (·.key)) - 1)) (fromN key (X.map (·.key)) - 1)) w) := by
  obtain ⟨i0, hi, hz0, hz1, hz2⟩ := info_parts infoE
  have HI := Lib.hid (And.intro hi (And.intro hz0 (And.intro hz1 hz2)))
  clear hi hz0 hz1 hz2
  obtain ⟨w1, hw1⟩ : ∃ w1, w1 = w.alloc (.cells #[.string (bs s), .slice ia il ic, .slice aa al ac, .slice sa sl sc, .int .i64 (h : Int), .slice (some ⟨g, 0, none⟩) N cap, .int .i64 count] 45) := ⟨_, rfl⟩
  obtain ⟨Z, hZ⟩ : ∃ Z, Z = w.heap.size := ⟨_, rfl⟩
  have K1 := Lib.hid (show Below w.heap.size w w1 by rw [hw1]; exact (Below.refl _ _).alloc (Nat.le_refl _) _)
  have T1 := Lib.hid (show w1.heap[Z]? = some (.cells #[.string (bs s), .slice ia il ic, .slice aa al ac, .slice sa sl sc, .int .i64 (h : Int), .slice (some ⟨g, 0, none⟩) N cap, .int .i64 count] 45 (0, 0)) by
    rw [hw1, hZ]
    exact heap_new w _)
  have X1 := Lib.hid (hX.out.below K1.out)
  have A1 := Lib.hid (hA.out.below K1.out)
  have S1 := Lib.hid (hS.out.below K1.out)
  have HZ := Lib.hid hZ
  have HW1 := Lib.hid hw1
  clear hw1 hZ
  subst hal hsl
  have c0 : w1.cell? ⟨Z, 0, none⟩ = some (.string (bs s)) := by simp [World.cell?, T1.out]
  have c1 : w1.cell? ⟨Z, 1, none⟩ = some (.slice ia sl ic) := by simp [World.cell?, T1.out]
  have c2 : w1.cell? ⟨Z, 2, none⟩ = some (.slice aa sl ac) := by simp [World.cell?, T1.out]
  have c3 : w1.cell? ⟨Z, 3, none⟩ = some (.slice sa sl sc) := by simp [World.cell?, T1.out]
  have c4 : w1.cell? ⟨Z, 4, none⟩ = some (.int .i64 (h : Int)) := by simp [World.cell?, T1.out]
  have c5 : w1.cell? ⟨Z, 5, none⟩ = some (.slice (some ⟨g, 0, none⟩) N cap) := by simp [World.cell?, T1.out]
  have c6 : w1.cell? ⟨Z, 6, none⟩ = some (.int .i64 count) := by simp [World.cell?, T1.out]
  have HFR := Lib.hid (ref_from s ia sl ic aa sl ac sa sl sc h g N cap count X key w1 X1 hl)
  obtain ⟨Y, hY⟩ : ∃ Y, Y = X.map (·.key) := ⟨_, rfl⟩
  have hyl : Y.length = sl := by rw [hY, List.length_map]; exact hX.out.1.symm
  rw [← hY] at hO HFR ⊢
  obtain ⟨q, hq⟩ : ∃ q, q = fromN key Y := ⟨_, rfl⟩
  have hql : q ≤ sl := by rw [hq, ← hyl]; exact fromN_le key Y
  rw [← hq] at HFR ⊢
  obtain ⟨blk, hblk⟩ : ∃ blk : Nat → Int × List Ent, blk = fun i => blkR (opnS ((s.drop (A.getD i 0)).take (S.getD i 0))) (Y.getD i []) := ⟨_, rfl⟩
  rw [← hblk]
  have HBK := Lib.hid (fun (i : Nat) (hi : i < sl) (W : World) (hB : Below w1.heap.size w1 W) => ref_Block s ia sl ic aa sl ac sa sl sc h g N cap count X A S i W (Lib.hid (X1.out.below hB)) (Lib.hid (A1.out.below hB)) (Lib.hid (S1.out.below hB)) rfl rfl hi hl (Lib.hid (hb.out i hi)) hs)
  have HBLK := Lib.hid (fun i => congrFun hblk i)
  rw [← hY] at HBK
  obtain ⟨i1, hi1⟩ : ∃ i1, i1 = q - 1 := ⟨_, rfl⟩
  rw [← hi1]
  obtain ⟨RR, hRR⟩ : ∃ RR, RR = scanR blk key (sl - i1) i1 := ⟨_, rfl⟩
  rw [← hRR]
  have HRR := Lib.hid hRR
  have hil1 : i1 ≤ sl := by omega
  clear hY hyl hq hblk hRR
  have HCS := Lib.hid (fun (W : World) (hB : Below w1.heap.size w1 W) => (show W.cell? ⟨Z, 0, none⟩ = some (.string (bs s)) ∧ W.cell? ⟨Z, 1, none⟩ = some (.slice ia sl ic) ∧ W.cell? ⟨Z, 2, none⟩ = some (.slice aa sl ac) ∧ W.cell? ⟨Z, 3, none⟩ = some (.slice sa sl sc) ∧ W.cell? ⟨Z, 4, none⟩ = some (.int .i64 (h : Int)) ∧ W.cell? ⟨Z, 5, none⟩ = some (.slice (some ⟨g, 0, none⟩) N cap) ∧ W.cell? ⟨Z, 6, none⟩ = some (.int .i64 count) from by
    have hh := (hB.block Z (heap_lt T1.out)).trans T1.out
    simp [World.cell?, hh]))
  obtain ⟨B, hB⟩ : ∃ B, B = w1.heap.size := ⟨_, rfl⟩
  have HB := Lib.hid hB
  rw [← hB] at HBK HCS HFR
  clear hB
  unfold mV at HFR HBK ⊢
  go_enter Tryz.func18, Tryz.ntmps18
  go_upto_region 2 with (fail)
  rw [← HW1.out, ← HZ.out]
  go_wp2_with fail
  refine HFR.out.mono ?_
  rintro e w2 ⟨rfl, k2⟩
  have B2 := Lib.hid k2
  clear c0 c1 c2 c3 c4 c5 c6 k2
  by_cases h0 : q = 0
  · have hneg : ((q : Int) - 1 < 0) := by omega
    have hi10 : i1 = 0 := by omega
    clear h0 hi1
    go_wp2_with fail
    go_loopw [6, 7] (fun ov iv wr => ∃ (i : Nat) (L : List Ent), i ≤ sl ∧ iv = .int .i64 (i : Int) ∧ Hid (OwnE wr B ov L) ∧ Hid (RR = ((scanR blk key (sl - i) i).1, L ++ (scanR blk key (sl - i) i).2)) ∧ Hid (L.length ≤ 65536 * i) ∧ Hid (Below B w1 wr)) (fun ov iv wr => sl - (intOf iv).toNat)
    case atStart => exact ⟨i1, [], hil1, congrArg (Value.int .i64) (by omega), Lib.hid (OwnE.nil _ _), Lib.hid (by rw [HRR.out]; rfl), Lib.hid (Nat.zero_le _), B2⟩
    case round =>
      obtain ⟨i, L, hil, rfl, hO6, hR6, hL6, hB6⟩ := hrel
      obtain ⟨wo, hwo⟩ : ∃ wo, wo = wr := ⟨_, rfl⟩
      subst hwo
      obtain ⟨a6, p6, rfl⟩ := hO6.out.slice
      obtain ⟨d0, d1, d2, d3, d4, d5, d6⟩ := HCS.out wo hB6.out
      rcases Nat.lt_or_ge i sl with hlt | hge
      · have hltI : (i : Int) < (sl : Int) := by omega
        have hTl := hO.out i hlt
        obtain ⟨ln, hln⟩ : ∃ ln, ln = L.length := ⟨_, rfl⟩
        rw [← hln]
        have HLN := Lib.hid hln
        clear hln
        go_wp2_with fail
        refine (HBK.out i hlt wo hB6.out).mono ?_
        rintro e w4 ⟨⟨xa, xc, rfl, hxc, hxe⟩, k4, hn4⟩
        have HN4 := Lib.hid (show ∀ b off, xa = some ⟨b, off, none⟩ → wo.heap.size ≤ b from fun b off h => newE_at hn4 b off h)
        clear hn4
        have hbi : blkR (opnS ((s.drop (A.getD i 0)).take (S.getD i 0))) (Y.getD i []) = blk i := (HBLK.out i).symm
        rw [hbi] at hxc hxe hTl ⊢
        have hst := scanR_step (blk := blk) (key := key) hlt
        obtain ⟨z, hz⟩ : ∃ z, z = (blk i).1 := ⟨_, rfl⟩
        obtain ⟨T, hT⟩ : ∃ T, T = (blk i).2 := ⟨_, rfl⟩
        obtain ⟨m, hm⟩ : ∃ m, m = T.length := ⟨_, rfl⟩
        rw [← hz, ← hT] at hst
        rw [← hT, ← hm] at hxc hxe hTl
        rw [← hz, ← hT, ← hm]
        have HM := Lib.hid hm
        have HXE := Lib.hid hxe
        have HST := Lib.hid hst
        have O4 := Lib.hid (hO6.out.below k4)
        have B4 := Lib.hid (hB6.out.trans (k4.mono (by have := hB6.out.size; have := HB.out; omega)))
        have HOB := Lib.hid (fun j hj => (OffRow.lt hO6.out j hj) : ∀ j, (Value.slice a6 L.length p6).ownBlock = some j → B ≤ j ∧ j < wo.heap.size)
        have HSZ := Lib.hid k4.size
        rw [← HLN.out] at HOB O4
        clear hbi hst hz hT hm hxe k4 d0 d1 d2 d3 d4 d5 d6
        by_cases hz0 : z = 0
        · subst hz0
          have HS0 := Lib.hid (HST.out.trans (if_neg (by simp)))
          clear HST
          go_wp2_with fail
          go_loopw [6, 10] (fun ov jv wq => ∃ j : Nat, j ≤ m ∧ jv = .int .i64 (j : Int) ∧ Hid (OwnE wq B ov (L ++ fromE key (T.take j))) ∧ Hid (∀ k, ov.ownBlock = some k → k < wo.heap.size ∨ w4.heap.size ≤ k) ∧ Hid (Mid wo.heap.size w4 wq) ∧ Hid (Below B w1 wq)) (fun ov jv wq => m - (intOf jv).toNat)
          case atStart => exact ⟨0, by omega, rfl, Lib.hid (by rw [List.take_zero]; show OwnE w4 B _ (L ++ []); rw [List.append_nil]; exact O4.out), Lib.hid (fun k hk => .inl (HOB.out k hk).2), Lib.hid ⟨Nat.le_refl _, fun _ _ _ => rfl⟩, B4⟩
          case round =>
            obtain ⟨j, hj, rfl, hO7, hK7, hM7, hB7⟩ := hrel
            obtain ⟨a7, p7, rfl⟩ := hO7.out.slice
            obtain ⟨tn, htn⟩ : ∃ tn, tn = (L ++ fromE key (T.take j)).length := ⟨_, rfl⟩
            have htl : tn ≤ 6553600000 := by
              have e1 := fromE_len key (T.take j)
              have e2 := hL6.out
              rw [htn, List.length_append]
              rw [List.length_take] at e1
              omega
            rw [← htn] at hO7 hK7 ⊢
            have HTN := Lib.hid htn
            clear htn
            rcases Nat.lt_or_ge j m with hjm | hjm
            · obtain ⟨xb, xo, x, rfl, hx, -, hcx⟩ := HXE.out.at hjm
              have hxb := HN4.out xb xo rfl
              have hxl := hcx.lt
              have HFS := Lib.hid (fromE_snoc (k := key) hx)
              have x0 := hM7.out.cell hxb hxl hcx.c0
              have x1 := hM7.out.cell hxb hxl hcx.c1
              have x2 := hM7.out.cell hxb hxl hcx.c2
              have hjI : (j : Int) < (m : Int) := by omega
              have hless : Op.bytesLess (bs x.key).toList (bs key).toList = ltB x.key key := by rw [Lib.toList_data, Lib.toList_data, bs_list, bs_list, ltB_less]
              clear hx hcx
              cases hc : ltB x.key key with
              | true =>
                rw [hc, if_pos rfl, List.append_nil] at HFS
                rw [hc] at hless
                clear hc
                go_wp2_with fail
                go_roundw
                case rel => exact ⟨j + 1, by omega, by go_num, by rw [HFS.out]; exact hO7, hK7, hM7, hB7⟩
                case measure => simp [intOf]; omega
              | false =>
                rw [hc, if_neg (by simp)] at HFS
                rw [hc] at hless
                clear hc
                obtain ⟨hi, hz0, hz1, hz2⟩ := HI.out
                go_wp2_with (at_builtin; refine wpList_append_off rfl (.tmp 46) (.tmp 51) 22 rfl B 49 i0 _ 3 40 Tryz.underlying22 hi hz0 hz1 hz2 rfl (.slice a7 tn p7) tn (ecells (L ++ fromE key (T.take j))) rfl ?c1 (.slice (some ⟨wr.heap.size, 0, none⟩) 1 1) rfl 1 (Ent.vals x) ?c2 ?c3 ?c4 ?c5 ?_)
                case c1 => have := hO7.out; unfold OwnE at this; rw [← HTN.out] at this; exact OffRow.allocd this _
                case c2 => exact src_block (size := 3) (cs := #[.string (bs x.key), .string (bs x.val), .bool x.gone]) Tryz.underlying22 (heap_new _ _) 1 1 rfl (by intro u hu; simp at hu; rcases hu with rfl | rfl | rfl <;> rfl)
                case c3 => unfold maxLen; omega
                case c4 => omega
                case c5 => have := hB7.out.size; have := HB.out; simp; omega
                intro v7 w7 hr7 hg7 hw7
                have O8 := Lib.hid (show OwnE w7 B v7 ((L ++ fromE key (T.take j)) ++ [x]) by
                  unfold OwnE
                  rw [ecells_append, List.length_append, ← HTN.out]
                  exact hr7)
                have M8 := Lib.hid (show Mid wo.heap.size w4 w7 from ⟨by have := hM7.out.size; have := hg7.size; simp at this; omega, fun b h1 h2 => by
                  have hbl : b < wr.heap.size := Nat.lt_of_lt_of_le h2 hM7.out.size
                  rw [hg7.block b (by simp; omega) (fun e => by rcases hK7.out b e.symm with h | h <;> omega), Below.heap_alloc _ _ _ hbl]
                  exact hM7.out.same b h1 h2⟩)
                have K8 := Lib.hid (show ∀ k, v7.ownBlock = some k → k < wo.heap.size ∨ w4.heap.size ≤ k from fun k hk => by
                  rcases hw7 with h | h
                  · exact hK7.out k (by rw [← h]; exact hk)
                  · rw [h] at hk
                    have hk2 := Option.some.inj hk
                    have := hM7.out.size
                    right
                    first | omega | (rw [← hk2]; simp; omega))
                have B8 := Lib.hid ((hB7.out.alloc (by have := hB7.out.size; have := HB.out; omega) _).grown hg7 (by have := hB7.out.size; have := HB.out; simp; omega) (fun k hk => (OffRow.lt hO7.out k hk).1))
                clear hr7 hg7 hw7 hi hz0 hz1 hz2
                go_wp2_with fail
                go_roundw
                case rel => exact ⟨j + 1, by omega, by go_num, by rw [HFS.out, ← List.append_assoc]; exact O8, K8, M8, B8⟩
                case measure => simp [intOf]; omega
            · obtain rfl : j = m := by omega
              rw [List.take_of_length_le (by rw [← HM.out]; exact Nat.le_refl _)] at hO7 HTN
              have HR := Lib.hid (show RR = ((scanR blk key (sl - (i + 1)) (i + 1)).1, (L ++ fromE key T) ++ (scanR blk key (sl - (i + 1)) (i + 1)).2) by rw [hR6.out, HS0.out, List.append_assoc])
              have HL := Lib.hid (show (L ++ fromE key T).length ≤ 65536 * (i + 1) by
                have e1 := fromE_len key T
                have e2 := hL6.out
                have e3 := HM.out
                rw [List.length_append]
                omega)
              go_wp2_with fail
              go_roundw
              case rel => exact ⟨i + 1, L ++ fromE key T, by omega, by go_num, hO7, HR, HL, hB7⟩
              case measure => simp [intOf]; omega
        · have hzb : (z != 0) = true := by simpa using hz0
          have hzb2 : (z == 0) = false := by simpa using hz0
          have HRR2 := Lib.hid (show RR = (z, L) by rw [hR6.out, HST.out, if_pos hz0, List.append_nil])
          go_wp2_with fail
          go_ret2
          exact BlockPost.mk' HRR2.out HLN.out O4.out (K1.out.trans (B4.out.mono (by have := HB.out; have := K1.out.size; omega))) (by have := HB.out; have := K1.out.size; omega)
      · obtain rfl : i = sl := by omega
        have HRR2 := Lib.hid (show RR = (0, L) by rw [hR6.out, Nat.sub_self]; show (0, L ++ []) = _; rw [List.append_nil])
        go_wp2_with fail
        go_ret2
        exact BlockPost.mk' HRR2.out rfl hO6.out (K1.out.trans (hB6.out.mono (by have := HB.out; have := K1.out.size; omega))) (by have := HB.out; have := K1.out.size; omega)
  · have hneg : ¬ ((q : Int) - 1 < 0) := by omega
    have hqi : (q : Int) - 1 = (i1 : Int) := by omega
    rw [hqi]
    have hi1n : ¬ ((i1 : Int) < 0) := by omega
    clear hqi hneg hi1 h0
    go_wp2_with fail
    go_loopw [6, 7] (fun ov iv wr => ∃ (i : Nat) (L : List Ent), i ≤ sl ∧ iv = .int .i64 (i : Int) ∧ Hid (OwnE wr B ov L) ∧ Hid (RR = ((scanR blk key (sl - i) i).1, L ++ (scanR blk key (sl - i) i).2)) ∧ Hid (L.length ≤ 65536 * i) ∧ Hid (Below B w1 wr)) (fun ov iv wr => sl - (intOf iv).toNat)
    case atStart => exact ⟨i1, [], hil1, congrArg (Value.int .i64) (by omega), Lib.hid (OwnE.nil _ _), Lib.hid (by rw [HRR.out]; rfl), Lib.hid (Nat.zero_le _), B2⟩
    case round =>
      obtain ⟨i, L, hil, rfl, hO6, hR6, hL6, hB6⟩ := hrel
      obtain ⟨wo, hwo⟩ : ∃ wo, wo = wr := ⟨_, rfl⟩
      subst hwo
      obtain ⟨a6, p6, rfl⟩ := hO6.out.slice
      obtain ⟨d0, d1, d2, d3, d4, d5, d6⟩ := HCS.out wo hB6.out
      rcases Nat.lt_or_ge i sl with hlt | hge
      · have hltI : (i : Int) < (sl : Int) := by omega
        have hTl := hO.out i hlt
        obtain ⟨ln, hln⟩ : ∃ ln, ln = L.length := ⟨_, rfl⟩
        rw [← hln]
        have HLN := Lib.hid hln
        clear hln
        go_wp2_with fail
        refine (HBK.out i hlt wo hB6.out).mono ?_
        rintro e w4 ⟨⟨xa, xc, rfl, hxc, hxe⟩, k4, hn4⟩
        have HN4 := Lib.hid (show ∀ b off, xa = some ⟨b, off, none⟩ → wo.heap.size ≤ b from fun b off h => newE_at hn4 b off h)
        clear hn4
        have hbi : blkR (opnS ((s.drop (A.getD i 0)).take (S.getD i 0))) (Y.getD i []) = blk i := (HBLK.out i).symm
        rw [hbi] at hxc hxe hTl ⊢
        have hst := scanR_step (blk := blk) (key := key) hlt
        obtain ⟨z, hz⟩ : ∃ z, z = (blk i).1 := ⟨_, rfl⟩
        obtain ⟨T, hT⟩ : ∃ T, T = (blk i).2 := ⟨_, rfl⟩
        obtain ⟨m, hm⟩ : ∃ m, m = T.length := ⟨_, rfl⟩
        rw [← hz, ← hT] at hst
        rw [← hT, ← hm] at hxc hxe hTl
        rw [← hz, ← hT, ← hm]
        have HM := Lib.hid hm
        have HXE := Lib.hid hxe
        have HST := Lib.hid hst
        have O4 := Lib.hid (hO6.out.below k4)
        have B4 := Lib.hid (hB6.out.trans (k4.mono (by have := hB6.out.size; have := HB.out; omega)))
        have HOB := Lib.hid (fun j hj => (OffRow.lt hO6.out j hj) : ∀ j, (Value.slice a6 L.length p6).ownBlock = some j → B ≤ j ∧ j < wo.heap.size)
        have HSZ := Lib.hid k4.size
        rw [← HLN.out] at HOB O4
        clear hbi hst hz hT hm hxe k4 d0 d1 d2 d3 d4 d5 d6
        by_cases hz0 : z = 0
        · subst hz0
          have HS0 := Lib.hid (HST.out.trans (if_neg (by simp)))
          clear HST
          go_wp2_with fail
          go_loopw [6, 10] (fun ov jv wq => ∃ j : Nat, j ≤ m ∧ jv = .int .i64 (j : Int) ∧ Hid (OwnE wq B ov (L ++ fromE key (T.take j))) ∧ Hid (∀ k, ov.ownBlock = some k → k < wo.heap.size ∨ w4.heap.size ≤ k) ∧ Hid (Mid wo.heap.size w4 wq) ∧ Hid (Below B w1 wq)) (fun ov jv wq => m - (intOf jv).toNat)
          case atStart => exact ⟨0, by omega, rfl, Lib.hid (by rw [List.take_zero]; show OwnE w4 B _ (L ++ []); rw [List.append_nil]; exact O4.out), Lib.hid (fun k hk => .inl (HOB.out k hk).2), Lib.hid ⟨Nat.le_refl _, fun _ _ _ => rfl⟩, B4⟩
          case round =>
            obtain ⟨j, hj, rfl, hO7, hK7, hM7, hB7⟩ := hrel
            obtain ⟨a7, p7, rfl⟩ := hO7.out.slice
            obtain ⟨tn, htn⟩ : ∃ tn, tn = (L ++ fromE key (T.take j)).length := ⟨_, rfl⟩
            have htl : tn ≤ 6553600000 := by
              have e1 := fromE_len key (T.take j)
              have e2 := hL6.out
              rw [htn, List.length_append]
              rw [List.length_take] at e1
              omega
            rw [← htn] at hO7 hK7 ⊢
            have HTN := Lib.hid htn
            clear htn
            rcases Nat.lt_or_ge j m with hjm | hjm
            · obtain ⟨xb, xo, x, rfl, hx, -, hcx⟩ := HXE.out.at hjm
              have hxb := HN4.out xb xo rfl
              have hxl := hcx.lt
              have HFS := Lib.hid (fromE_snoc (k := key) hx)
              have x0 := hM7.out.cell hxb hxl hcx.c0
              have x1 := hM7.out.cell hxb hxl hcx.c1
              have x2 := hM7.out.cell hxb hxl hcx.c2
              have hjI : (j : Int) < (m : Int) := by omega
              have hless : Op.bytesLess (bs x.key).toList (bs key).toList = ltB x.key key := by rw [Lib.toList_data, Lib.toList_data, bs_list, bs_list, ltB_less]
              clear hx hcx
              cases hc : ltB x.key key with
              | true =>
                rw [hc, if_pos rfl, List.append_nil] at HFS
                rw [hc] at hless
                clear hc
                go_wp2_with fail
                go_roundw
                case rel => exact ⟨j + 1, by omega, by go_num, by rw [HFS.out]; exact hO7, hK7, hM7, hB7⟩
                case measure => simp [intOf]; omega
              | false =>
                rw [hc, if_neg (by simp)] at HFS
                rw [hc] at hless
                clear hc
                obtain ⟨hi, hz0, hz1, hz2⟩ := HI.out
                go_wp2_with (at_builtin; refine wpList_append_off rfl (.tmp 46) (.tmp 51) 22 rfl B 49 i0 _ 3 40 Tryz.underlying22 hi hz0 hz1 hz2 rfl (.slice a7 tn p7) tn (ecells (L ++ fromE key (T.take j))) rfl ?c1 (.slice (some ⟨wr.heap.size, 0, none⟩) 1 1) rfl 1 (Ent.vals x) ?c2 ?c3 ?c4 ?c5 ?_)
                case c1 => have := hO7.out; unfold OwnE at this; rw [← HTN.out] at this; exact OffRow.allocd this _
                case c2 => exact src_block (size := 3) (cs := #[.string (bs x.key), .string (bs x.val), .bool x.gone]) Tryz.underlying22 (heap_new _ _) 1 1 rfl (by intro u hu; simp at hu; rcases hu with rfl | rfl | rfl <;> rfl)
                case c3 => unfold maxLen; omega
                case c4 => omega
                case c5 => have := hB7.out.size; have := HB.out; simp; omega
                intro v7 w7 hr7 hg7 hw7
                have O8 := Lib.hid (show OwnE w7 B v7 ((L ++ fromE key (T.take j)) ++ [x]) by
                  unfold OwnE
                  rw [ecells_append, List.length_append, ← HTN.out]
                  exact hr7)
                have M8 := Lib.hid (show Mid wo.heap.size w4 w7 from ⟨by have := hM7.out.size; have := hg7.size; simp at this; omega, fun b h1 h2 => by
                  have hbl : b < wr.heap.size := Nat.lt_of_lt_of_le h2 hM7.out.size
                  rw [hg7.block b (by simp; omega) (fun e => by rcases hK7.out b e.symm with h | h <;> omega), Below.heap_alloc _ _ _ hbl]
                  exact hM7.out.same b h1 h2⟩)
                have K8 := Lib.hid (show ∀ k, v7.ownBlock = some k → k < wo.heap.size ∨ w4.heap.size ≤ k from fun k hk => by
                  rcases hw7 with h | h
                  · exact hK7.out k (by rw [← h]; exact hk)
                  · rw [h] at hk
                    have hk2 := Option.some.inj hk
                    have := hM7.out.size
                    right
                    first | omega | (rw [← hk2]; simp; omega))
                have B8 := Lib.hid ((hB7.out.alloc (by have := hB7.out.size; have := HB.out; omega) _).grown hg7 (by have := hB7.out.size; have := HB.out; simp; omega) (fun k hk => (OffRow.lt hO7.out k hk).1))
                clear hr7 hg7 hw7 hi hz0 hz1 hz2
                go_wp2_with fail
                go_roundw
                case rel => exact ⟨j + 1, by omega, by go_num, by rw [HFS.out, ← List.append_assoc]; exact O8, K8, M8, B8⟩
                case measure => simp [intOf]; omega
            · obtain rfl : j = m := by omega
              rw [List.take_of_length_le (by rw [← HM.out]; exact Nat.le_refl _)] at hO7 HTN
              have HR := Lib.hid (show RR = ((scanR blk key (sl - (i + 1)) (i + 1)).1, (L ++ fromE key T) ++ (scanR blk key (sl - (i + 1)) (i + 1)).2) by rw [hR6.out, HS0.out, List.append_assoc])
              have HL := Lib.hid (show (L ++ fromE key T).length ≤ 65536 * (i + 1) by
                have e1 := fromE_len key T
                have e2 := hL6.out
                have e3 := HM.out
                rw [List.length_append]
                omega)
              go_wp2_with fail
              go_roundw
              case rel => exact ⟨i + 1, L ++ fromE key T, by omega, by go_num, hO7, HR, HL, hB7⟩
              case measure => simp [intOf]; omega
        · have hzb : (z != 0) = true := by simpa using hz0
          have hzb2 : (z == 0) = false := by simpa using hz0
          have HRR2 := Lib.hid (show RR = (z, L) by rw [hR6.out, HST.out, if_pos hz0, List.append_nil])
          go_wp2_with fail
          go_ret2
          exact BlockPost.mk' HRR2.out HLN.out O4.out (K1.out.trans (B4.out.mono (by have := HB.out; have := K1.out.size; omega))) (by have := HB.out; have := K1.out.size; omega)
      · obtain rfl : i = sl := by omega
        have HRR2 := Lib.hid (show RR = (0, L) by rw [hR6.out, Nat.sub_self]; show (0, L ++ []) = _; rw [List.append_nil])
        go_wp2_with fail
        go_ret2
        exact BlockPost.mk' HRR2.out rfl hO6.out (K1.out.trans (hB6.out.mono (by have := HB.out; have := K1.out.size; omega))) (by have := HB.out; have := K1.out.size; omega)
end Go.Proofs.YteejldddgogbkaaGreatDoor
/- The document's numbers of the foot. -/
set_option linter.unusedVariables false
set_option maxRecDepth 100000
namespace Go.Proofs.YteejldddgogbkaaGreatDoor
open Go.RowKit

theorem run_byte (l : List UInt8) (i : Nat) (b : UInt8) (h : i < (bs l).size) (hb : (bs l)[i] = b) (w : World) : (Instr.index 9 (.string (bs l)) (.int .i64 (i : Int))).run Tryz.prog w = .ok (.int .u8 (b.toNat : Int)) w := by
  rw [run_index_string _ _ _ _ _ (by kernel_rfl), dif_pos ⟨by omega, by omega⟩]
  have e : (bs l)[(i : Int).toNat]'(by simpa using h) = b := hb
  rw [e]
set_option maxHeartbeats 2000000 in
theorem ref_number (l : List UInt8) (w : World) (hl : 4 ≤ l.length) (hl2 : l.length ≤ 100000000000) :
    Calls Tryz.prog 43 #[.string (bs l)] w fun e w' => e = .returned (.int .i64 ((num4 l : Nat) : Int)) ∧ ∃ n, w' = w.drewN n := by
  have hL : ∃ a b c d t, l = a :: b :: c :: d :: t := by
    match l, hl with
    | a :: b :: c :: d :: t, _ => exact ⟨a, b, c, d, t, rfl⟩
  obtain ⟨a, b, c, d, t, hL⟩ := hL
  obtain ⟨m, hm⟩ : ∃ m, m = (bs l).size := ⟨_, rfl⟩
  have hm4 : 4 ≤ m := by rw [hm, bs_size]; exact hl
  have hmb : m ≤ 100000000000 := by rw [hm, bs_size]; exact hl2
  obtain ⟨a', e0, b0⟩ := get_bs4 l 0 (by rw [← hm]; omega)
  obtain ⟨b', e1, b1⟩ := get_bs4 l 1 (by rw [← hm]; omega)
  obtain ⟨c', e2, b2⟩ := get_bs4 l 2 (by rw [← hm]; omega)
  obtain ⟨d', e3, b3⟩ := get_bs4 l 3 (by rw [← hm]; omega)
  rw [hL] at e0 e1 e2 e3
  obtain rfl : a = a' := Option.some.inj e0
  obtain rfl : b = b' := Option.some.inj e1
  obtain rfl : c = c' := Option.some.inj e2
  obtain rfl : d = d' := Option.some.inj e3
  have i0 := fun w => show (Instr.index 9 (.string (bs l)) (.int .i64 0)).run Tryz.prog w = .ok (.int .u8 (a.toNat : Int)) w from run_byte l 0 a (by omega) b0 w
  have i1 := fun w => show (Instr.index 9 (.string (bs l)) (.int .i64 1)).run Tryz.prog w = .ok (.int .u8 (b.toNat : Int)) w from run_byte l 1 b (by omega) b1 w
  have i2 := fun w => show (Instr.index 9 (.string (bs l)) (.int .i64 2)).run Tryz.prog w = .ok (.int .u8 (c.toNat : Int)) w from run_byte l 2 c (by omega) b2 w
  have i3 := fun w => show (Instr.index 9 (.string (bs l)) (.int .i64 3)).run Tryz.prog w = .ok (.int .u8 (d.toNat : Int)) w from run_byte l 3 d (by omega) b3 w
  have HN := Lib.hid (show num4 l = ((a.toNat * 256 + b.toNat) * 256 + c.toNat) * 256 + d.toNat by rw [hL]; rfl)
  have la := a.toNat_lt
  have lb := b.toNat_lt
  have lc := c.toNat_lt
  have ld := d.toNat_lt
  have hsz : (bs l).size = m := hm.symm
  clear hL hl hl2 e0 e1 e2 e3 b0 b1 b2 b3
  go_enter Tryz.func43, Tryz.ntmps43
  go_wp2_with fail
  go_quiet (fail)
  go_wp2_with fail
  go_ret
  exact ⟨by rw [HN.out]; go_num, _, rfl⟩
end Go.Proofs.YteejldddgogbkaaGreatDoor
