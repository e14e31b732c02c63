/- Texts for layer 9, put together: TableAt, TableNum, TableRead, TableBlock, TableGet, TableWalkPlain -/
import Derived.Test.YteejldddgogbkaaDoorTSca13
import Derived.Test.YteejldddgogbkaaDoorTSca03
import Derived.Test.YteejldddgogbkaaDoorTSca01
import Derived.Test.YteejldddgogbkaaDoorTSca12
import Derived.Test.YteejldddgogbkaaDoorTSca08
import Derived.Test.YteejldddgogbkaaDoorTSca06
import Derived.Test.YteejldddgogbkaaDoorTSca11
/- In which block a key would stand. -/
set_option linter.unusedVariables false
set_option maxRecDepth 100000
namespace Go.Proofs.YteejldddgogbkaaDoor
open Go.RowKit

def risesK : List Pc → Prop := fun P => ∀ (i j : Nat) (x y : Pc), i < j → P[i]? = some x → P[j]? = some y → ltB x.1 y.1 = true
theorem from_zero {k : List UInt8} : ∀ {Y : List (List UInt8)}, (∀ y ∈ Y, ltB k y = true) → fromN k Y = 0
  | [], _ => rfl
  | y :: Y, h => by
    rw [fromN_cons, from_zero fun z hz => h z (List.mem_cons_of_mem _ hz), if_neg (fun e => e rfl), if_pos (h y (by simp))]
theorem from_app {k : List UInt8} : ∀ {A B : List (List UInt8)} {y : List UInt8}, fromN k B = 0 → ltB k y = false → fromN k (A ++ y :: B) = A.length + 1
  | [], B, y, h, hy => by
    rw [List.nil_append, fromN_cons, h, if_neg (fun e => e rfl), if_neg (by rw [hy]; decide)]
    rfl
  | z :: A, B, y, h, hy => by
    rw [List.cons_append, fromN_cons, from_app (A := A) h hy, if_pos (by omega), List.length_cons]
/-- What a search of the first block above a key finds. -/
theorem from_found {k : List UInt8} {P : List Pc} (hP : risesK P) {r : Nat} (hr : r ≤ P.length) (h1 : ∀ x, 0 < r → P[r - 1]? = some x → ltB k x.1 = false) (h2 : ∀ x, P[r]? = some x → ltB k x.1 = true) : fromN k (P.map (·.1)) = r := by
  have hB : fromN k ((P.drop r).map (·.1)) = 0 := from_zero fun y hy => by
    obtain ⟨x, hx, rfl⟩ := List.mem_map.1 hy
    obtain ⟨i, hi⟩ := List.mem_iff_getElem?.1 hx
    rw [List.getElem?_drop] at hi
    by_cases h0 : i = 0
    · subst h0
      exact h2 x (by simpa using hi)
    · have hl := (List.getElem?_eq_some_iff.1 hi).1
      obtain ⟨z, hz⟩ : ∃ z, P[r]? = some z := ⟨_, List.getElem?_eq_getElem (by omega)⟩
      exact ltB_trans (h2 z hz) (hP r (r + i) z x (by omega) hz hi)
  rcases Nat.eq_zero_or_pos r with h0 | h0
  · subst h0
    simpa using hB
  · obtain ⟨x, hx⟩ : ∃ x, P[r - 1]? = some x := ⟨_, List.getElem?_eq_getElem (by omega)⟩
    have hsp : P = P.take (r - 1) ++ x :: P.drop r := by
      have h3 := List.getElem?_eq_some_iff.1 hx
      have h4 : P.drop (r - 1) = x :: P.drop r := by rw [List.drop_eq_getElem_cons h3.1, h3.2, Nat.sub_add_cancel h0]
      rw [← h4, List.take_append_drop]
    have h5 := from_app (k := k) (A := (P.take (r - 1)).map (·.1)) (B := (P.drop r).map (·.1)) hB (h1 x h0 hx)
    have h6 : P.map (·.1) = (P.take (r - 1)).map (·.1) ++ x.1 :: (P.drop r).map (·.1) := by
      conv => lhs; rw [hsp]
      simp
    rw [h6, h5, List.length_map, List.length_take]
    omega
/-- A variable that holds a pointer to a table. -/
def BxP (c : Nat) (p : Nat) (w : World) : Prop := w.heap[c]? = some (.cells #[.pointer (some ⟨p, 0, none⟩)] 30 (0, 0))
theorem BxP.cell {c p : Nat} {w : World} (h : BxP c p w) : w.cell? ⟨c, 0, none⟩ = some (.pointer (some ⟨p, 0, none⟩)) := by unfold BxP at h; simp [World.cell?, h]
set_option maxHeartbeats 1000000 in
theorem at_look (b1 b2 p q : Nat) (a : Option Addr) (len cap : Nat) (P : List Pc) (key : List UInt8) (i : Nat) (x : Pc) (w : World) (h1 : BxP b1 p w) (h2 : Bx b2 key w) (hc : w.cell? ⟨p, 1, none⟩ = some (.slice a len cap)) (hP : Hid (IsP w q a len P)) (hi : i < len) (hx : Hid (P[i]? = some x)) :
    Calls Tryd.prog 59 #[.int .i64 (i : Int), .pointer (some ⟨b1, 0, none⟩), .pointer (some ⟨b2, 0, none⟩)] w fun e w' => e = .returned (.bool (ltB key x.1)) ∧ Below w.heap.size w w' := by
  obtain ⟨b, off, y, rfl, hy, hcl⟩ := hP.out.at hi
  have hxy : x = y := by have := hx.out; rw [hy] at this; injection this with this; exact this.symm
  have c0 := hcl.c0
  have k1 := h1.cell
  have k2 := h2.cell
  rw [hxy]
  obtain ⟨A, hA⟩ : ∃ A, Op.bytesLess (bs y.1).toList (bs key).toList = A := ⟨_, rfl⟩
  obtain ⟨B, hB⟩ : ∃ B, ((bs y.1).toList == (bs key).toList) = B := ⟨_, rfl⟩
  obtain ⟨z, hz⟩ : ∃ z, z = ltB key y.1 := ⟨_, rfl⟩
  rw [← hz]
  have HZ := Lib.hid (show z = (!A && !B) by
    rw [hz, ← hA, ← hB]
    rcases cmp3 y.1 key with ⟨e1, e2, e3⟩ | ⟨e1, e2, e3⟩ | ⟨e1, e2, e3⟩ <;> rw [e1, e2, e3] <;> rfl)
  clear hxy hx hy h1 h2 hcl hz
  go_enter Tryd.func59, Tryd.ntmps59
  go_wp2_with fail
  go_quiet (fail)
  go_wp2_with fail
  go_ret
  exact ⟨by rw [HZ.out]; rfl, below_drewN (Below.refl _ _) _⟩
structure AtPost (P : List Pc) (key : List UInt8) (w : World) (e : Ending) (w' : World) : Prop where
  out : ∃ r, e = .returned (.int .i64 ((r : Nat) : Int)) ∧ r ≤ P.length ∧ (∀ x, 0 < r → P[r - 1]? = some x → ltB key x.1 = false) ∧ (∀ x, P[r]? = some x → ltB key x.1 = true)
  bel : Below w.heap.size w w'
set_option maxHeartbeats 2000000 in
theorem at_search (b1 b2 p q : Nat) (a : Option Addr) (len cap : Nat) (P : List Pc) (key : List UInt8) (w : World) (h1 : BxP b1 p w) (h2 : Bx b2 key w) (hc : Hid (w.cell? ⟨p, 1, none⟩ = some (.slice a len cap))) (hP : Hid (IsP w q a len P)) (hl : len ≤ 100000) :
    Calls Tryd.prog 58 #[.int .i64 (len : Int), .func (.func 59) #[] #[.pointer (some ⟨b1, 0, none⟩), .pointer (some ⟨b2, 0, none⟩)]] w (AtPost P key w) := by
  have H1 := Lib.hid h1
  have H2 := Lib.hid h2
  clear h1 h2
  go_enter Tryd.func58, Tryd.ntmps58
  go_wp2_with fail
  go_loopw [5, 6] (fun iv jv wr => ∃ i j : Nat, i ≤ j ∧ j ≤ len ∧ iv = .int .i64 i ∧ jv = .int .i64 j ∧ Hid (∀ x, 0 < i → P[i - 1]? = some x → ltB key x.1 = false) ∧ Hid (∀ x, P[j]? = some x → ltB key x.1 = true) ∧ Hid (Below w.heap.size w wr)) (fun iv jv wr => (intOf jv).toNat - (intOf iv).toNat)
  case atStart => exact ⟨0, len, by omega, by omega, rfl, rfl, Lib.hid (fun x h => absurd h (by omega)), Lib.hid (fun x h => by have := (List.getElem?_eq_some_iff.1 h).1; have := hP.out.1; omega), Lib.hid (Below.refl _ _)⟩
  case round =>
    obtain ⟨i, j, hij, hj, rfl, rfl, hA, hZ, hB⟩ := hrel
    by_cases hlt : i < j
    · obtain ⟨m, hm⟩ : ∃ m, m = (i + j) / 2 := ⟨_, rfl⟩
      obtain ⟨s, hs⟩ : ∃ s : Int, s = (i : Int) + (j : Int) := ⟨_, rfl⟩
      have hs1 : IntKind.i64.wrap ((i : Int) + (j : Int)) = s := by rw [IntWalk.i64_in _ (by omega), hs]
      have hm1 : s / 2 = (m : Int) := by omega
      have hmi : i ≤ m := by omega
      have hmj : m < j := by omega
      have hml : m < len := by omega
      have hs0 : 0 ≤ s := by omega
      have hs2 : s ≤ 200000 := by omega
      have hs3 : (i : Int) + (j : Int) = s := hs.symm
      obtain ⟨x, hx⟩ : ∃ x, P[m]? = some x := ⟨_, List.getElem?_eq_getElem (by have := hP.out.1; omega)⟩
      have HL := Lib.hid (at_look b1 b2 p q a len cap P key m x wr ((hB.out.block b1 (heap_lt H1.out)).trans H1.out) ((hB.out.block b2 (heap_lt H2.out)).trans H2.out) (by rw [hB.out.cell (cell_block hc.out)]; exact hc.out) (Lib.hid (hP.out.keep fun j _ hj => hB.out.block j hj)) hml (Lib.hid hx))
      have HX := Lib.hid hx
      have HM := Lib.hid (And.intro hmi hmj)
      clear hs hm hx
      cases hcs : ltB key x.1 with
      | false =>
        rw [hcs] at HL
        have HC := Lib.hid hcs
        clear hcs
        go_wp2_with fail
        refine HL.out.mono ?_
        rintro e w2 ⟨rfl, k2⟩
        have HB2 := Lib.hid (hB.out.trans (k2.mono hB.out.size))
        clear k2
        go_wp2_with fail
        go_roundw
        case rel => exact ⟨m + 1, j, by omega, hj, by go_num, rfl, Lib.hid (fun y _ hy => by rw [Nat.add_sub_cancel, HX.out] at hy; injection hy with hy; rw [← hy]; exact HC.out), hZ, HB2⟩
        case measure => simp [intOf]; omega
      | true =>
        rw [hcs] at HL
        have HC := Lib.hid hcs
        clear hcs
        go_wp2_with fail
        refine HL.out.mono ?_
        rintro e w2 ⟨rfl, k2⟩
        have HB2 := Lib.hid (hB.out.trans (k2.mono hB.out.size))
        clear k2
        go_wp2_with fail
        go_roundw
        case rel => exact ⟨i, m, hmi, by omega, rfl, rfl, hA, Lib.hid (fun y hy => by rw [HX.out] at hy; injection hy with hy; rw [← hy]; exact HC.out), HB2⟩
        case measure => simp [intOf]; omega
    · obtain rfl : i = j := by omega
      go_wp2_with fail
      go_ret
      exact ⟨⟨i, rfl, by have := hP.out.1; omega, hA.out, hZ.out⟩, hB.out⟩
set_option maxHeartbeats 1000000 in
theorem table_blockOf (p q : Nat) (a : Option Addr) (len cap : Nat) (P : List Pc) (key : List UInt8) (w : World) (hc : Hid (w.cell? ⟨p, 1, none⟩ = some (.slice a len cap))) (hP : Hid (IsP w q a len P)) (hr : Hid (risesK P)) (hl : len ≤ 100000) :
    Calls Tryd.prog 37 #[.pointer (some ⟨p, 0, none⟩), .string (bs key)] w fun e w' => e = .returned (.int .i64 ((fromN key (P.map (·.1)) : Int) - 1)) ∧ Below w.heap.size w w' := by
  obtain ⟨w0, hw0⟩ : ∃ w0, (w.alloc (.cells #[.pointer (some ⟨p, 0, none⟩)] 30)).alloc (.cells #[.string (bs key)] 9) = w0 := ⟨_, rfl⟩
  have K0 := Lib.hid (show Below w.heap.size w w0 by rw [← hw0]; exact ((Below.refl _ _).alloc (Nat.le_refl _) _).alloc (by simp) _)
  have S0 := Lib.hid (show BxP w.heap.size p w0 by rw [← hw0]; exact (Below.heap_alloc _ _ _ (by simp)).trans (heap_new w _))
  have S1 := Lib.hid (show Bx (w.heap.size + 1) key w0 by
    have h := heap_new (w.alloc (.cells #[.pointer (some ⟨p, 0, none⟩)] 30)) (.cells #[.string (bs key)] 9)
    rw [show (w.alloc (.cells #[.pointer (some ⟨p, 0, none⟩)] 30)).heap.size = w.heap.size + 1 by simp] at h
    rw [← hw0]; exact h)
  have hc0 : w0.cell? ⟨p, 1, none⟩ = some (.slice a len cap) := by rw [K0.out.cell (cell_block hc.out)]; exact hc.out
  have HS := Lib.hid (at_search w.heap.size (w.heap.size + 1) p q a len cap P key w0 S0.out S1.out (Lib.hid hc0) (Lib.hid (hP.out.keep fun j _ hj => K0.out.block j hj)) hl)
  have c0 : w0.cell? ⟨w.heap.size, 0, none⟩ = some (.pointer (some ⟨p, 0, none⟩)) := S0.out.cell
  have HW0 := Lib.hid hw0
  clear hw0
  go_enter Tryd.func37, Tryd.ntmps37
  go_upto_region 1 with (fail)
  rw [HW0.out]
  go_wp2_with fail
  refine HS.out.mono ?_
  rintro e w1 ⟨⟨r, rfl, h1, h2, h3⟩, k1⟩
  have hf := Lib.hid (from_found hr.out h1 h2 h3)
  have hrl : r ≤ 100000 := by have := hP.out.1; omega
  clear h2 h3
  go_wp2_with fail
  go_ret
  exact ⟨ret1 (by rw [hf.out]), K0.out.trans (k1.mono K0.out.size)⟩
end Go.Proofs.YteejldddgogbkaaDoor
/- The foot's numbers: four bytes, the highest first, read and written. -/
set_option linter.unusedVariables false
set_option maxRecDepth 100000
namespace Go.Proofs.YteejldddgogbkaaDoor
open Go.RowKit

def numG (l : List UInt8) : Nat := l.foldl (fun n b => n * 256 + b.toNat) 0
theorem numG_snoc (l : List UInt8) (b : UInt8) : numG (l ++ [b]) = numG l * 256 + b.toNat := by simp [numG]
theorem numG_go : ∀ (l : List UInt8) (n : Nat), l.foldl (fun n b => n * 256 + b.toNat) n < (n + 1) * 256 ^ l.length
  | [], n => by simp
  | b :: l, n => by
    have h := numG_go l (n * 256 + b.toNat)
    have hb := b.toNat_lt
    have h2 : (n * 256 + b.toNat + 1) * 256 ^ l.length ≤ ((n + 1) * 256) * 256 ^ l.length := Nat.mul_le_mul_right _ (by omega)
    rw [List.foldl_cons, List.length_cons, Nat.pow_succ, Nat.mul_comm (256 ^ l.length) 256, ← Nat.mul_assoc]
    omega
theorem numG_lt (l : List UInt8) : numG l < 256 ^ l.length := by
  have := numG_go l 0
  rw [Nat.zero_add, Nat.one_mul] at this
  exact this
theorem numG_four {l : List UInt8} (h : l.length = 4) : numG l = num4 l := by
  match l, h with
  | [a, b, c, d], _ => simp [numG, num4]
theorem get_bs4 (l : List UInt8) (n : Nat) (h : n < (bs l).size) : ∃ x : UInt8, l[n]? = some x ∧ (bs l)[n] = x := by
  have hl : n < l.length := by rw [← bs_size]; exact h
  exact ⟨l[n], List.getElem?_eq_getElem hl, rfl⟩
theorem or_b256 (n b : Nat) (hn : n < 16777216) (hb : b < 256) : bits .or .i64 ((n : Int) * 256) (b : Int) = ((n * 256 + b : Nat) : Int) := by
  have h := bits_join .i64 63 (by decide) (fun n h0 h1 => by rw [IntKind.wrap_i64]; omega) 8 ((n : Int) * 256) (b : Int) (by omega) (by omega) (by omega) (by omega) (by omega) (by omega)
  rw [h]
  omega
set_option maxHeartbeats 1000000 in
theorem table_number (l : List UInt8) (w : World) (hl : l.length = 4) :
    Calls Tryd.prog 54 #[.string (bs l)] w fun e w' => e = .returned (.int .i64 ((num4 l : Nat) : Int)) ∧ Below w.heap.size w w' := by
  have z1 : (bs l).size = 4 := by rw [bs_size, hl]
  have HL := Lib.hid hl
  clear hl
  go_enter Tryd.func54, Tryd.ntmps54
  go_wp2_with fail
  go_loopw [3, 7] (fun vn vi wr => ∃ i : Nat, i ≤ 4 ∧ vi = .int .i64 i ∧ vn = .int .i64 ((numG (l.take i) : Nat) : Int) ∧ Hid (Below w.heap.size w wr)) (fun vn vi wr => 4 - (intOf vi).toNat)
  case atStart => exact ⟨0, by omega, rfl, rfl, Lib.hid (Below.refl _ _)⟩
  case round =>
    obtain ⟨i, hi, rfl, rfl, hB⟩ := hrel
    rcases Nat.lt_or_ge i 4 with h4 | h4
    · obtain ⟨b, hb, hbb⟩ := get_bs4 l i (by rw [z1]; exact h4)
      have hlt := numG_lt (l.take i)
      rw [List.length_take, HL.out, Nat.min_eq_left hi] at hlt
      have hlt2 : numG (l.take i) < 16777216 := by
        have : 256 ^ i ≤ 256 ^ 3 := Nat.pow_le_pow_right (by decide) (by omega)
        omega
      have hn : numG (l.take (i + 1)) = numG (l.take i) * 256 + b.toNat := by rw [List.take_add_one, hb]; exact numG_snoc _ _
      have hb8 := b.toNat_lt
      obtain ⟨n, hnn⟩ : ∃ n, n = numG (l.take i) := ⟨_, rfl⟩
      rw [← hnn] at hlt2 hn ⊢
      have hor := or_b256 n b.toNat hlt2 hb8
      have hwr : IntKind.i64.wrap ((n : Int) * 256) = (n : Int) * 256 := by rw [IntKind.wrap_i64]; omega
      have HN := Lib.hid hn
      clear hlt hnn hb hn
      go_wp2_with fail
      go_roundw
      case rel => exact ⟨i + 1, by omega, by go_num, by rw [HN.out]; go_num, hB⟩
      case measure => simp [intOf]; omega
    · obtain rfl : i = 4 := by omega
      have hf := Lib.hid (show num4 l = numG (l.take 4) by rw [List.take_of_length_le (by rw [HL.out]; exact Nat.le_refl _), numG_four HL.out])
      rw [show ((4 : Nat) : Int) = 4 from rfl]
      go_wp2_with fail
      go_ret
      exact ⟨ret1 (by rw [hf.out]), hB.out⟩
end Go.Proofs.YteejldddgogbkaaDoor
/- A table's parts, read: the foot, a piece of the index, the filter. -/
set_option linter.unusedVariables false
set_option maxRecDepth 100000
namespace Go.Proofs.YteejldddgogbkaaDoor
open Go.RowKit

/-- A variable of three cells. -/
def C3 (b : Nat) (ty : TypeId) (v0 v1 v2 : Value) (w : World) : Prop := w.heap[b]? = some (.cells #[v0, v1, v2] ty (0, 0))
namespace C3
variable {b : Nat} {ty : TypeId} {v0 v1 v2 : Value} {w w' : World}
theorem c0 (h : C3 b ty v0 v1 v2 w) : w.cell? ⟨b, 0, none⟩ = some v0 := by unfold C3 at h; simp [World.cell?, h]
theorem c1 (h : C3 b ty v0 v1 v2 w) : w.cell? ⟨b, 1, none⟩ = some v1 := by unfold C3 at h; simp [World.cell?, h]
theorem c2 (h : C3 b ty v0 v1 v2 w) : w.cell? ⟨b, 2, none⟩ = some v2 := by unfold C3 at h; simp [World.cell?, h]
theorem free (h : C3 b ty v0 v1 v2 w) (j : Nat) : w.frozen? ⟨b, j, none⟩ = false := by unfold C3 at h; simp [World.frozen?, h]
theorem below (h : C3 b ty v0 v1 v2 w) (k : Below w.heap.size w w') : C3 b ty v0 v1 v2 w' := (k.block b (heap_lt h)).trans h
theorem put (h : C3 b ty v0 v1 v2 w) (u0 u1 u2 : Value) : C3 b ty u0 u1 u2 (((w.setCell ⟨b, 0, none⟩ u0).setCell ⟨b, 1, none⟩ u1).setCell ⟨b, 2, none⟩ u2) := by
  have h1 := heap_set (o := 0) h u0
  have h2 := heap_set (o := 1) h1 u1
  exact heap_set (o := 2) h2 u2
theorem range (h : C3 b ty v0 v1 v2 w) : w.rangeAt b 0 [v0, v1, v2] := fun j v hj => by
  match j, hj with
  | 0, hj => cases hj; exact h.c0
  | 1, hj => cases hj; exact h.c1
  | 2, hj => cases hj; exact h.c2
  | n + 3, hj => cases hj
end C3
theorem results_c3 {fn : Func} {p u : Tmp} {ty ty' : TypeId} (h : fn.results = #[.cell p ty, .tmp u]) (tmps : Array Value) (w : World) (b : Nat) (v0 v1 v2 x : Value) (d : TypeDesc) (hp : tmps.getD p undef = .pointer (some ⟨b, 0, none⟩)) (hx : tmps.getD u undef = x) (hc : C3 b ty' v0 v1 v2 w)
    (hu : Tryd.prog.underlying ty = some d) (hd : d.isRow = true) (hi : (Tryd.prog.info? ty).map (·.size) = some 3) : (results fn tmps).run Tryd.prog w = .ok (.tuple #[.agg #[v0, v1, v2], x]) w :=
  results_cell_bool h tmps Tryd.prog w b 0 [v0, v1, v2] d x hp hx hc.range hu hd hi
theorem results_c3b {fn : Func} {p u r : Tmp} {ty ty' : TypeId} (h : fn.results = #[.cell p ty, .tmp u, .tmp r]) (tmps : Array Value) (w : World) (b : Nat) (v0 v1 v2 x y : Value) (d : TypeDesc) (hp : tmps.getD p undef = .pointer (some ⟨b, 0, none⟩)) (hx : tmps.getD u undef = x) (hy : tmps.getD r undef = y) (hc : C3 b ty' v0 v1 v2 w)
    (hu : Tryd.prog.underlying ty = some d) (hd : d.isRow = true) (hi : (Tryd.prog.info? ty).map (·.size) = some 3) : (results fn tmps).run Tryd.prog w = .ok (.tuple #[.agg #[v0, v1, v2], x, y]) w := by
  have hl := run_loadVar_mid w b 0 ty [v0, v1, v2] d hc.range hu hd hi
  have hp' : tmps[p]?.getD undef = .pointer (some ⟨b, 0, none⟩) := by simpa using hp
  have hx' : tmps[u]?.getD undef = x := by simpa using hx
  have hy' : tmps[r]?.getD undef = y := by simpa using hy
  simp only [results, h]
  simp [Sem.run_bind, Result.andThen, hp', hx', hy', asAddr, hl]
theorem below_put3' {B g : Nat} {a w : World} (h : Below B a w) (hB : B ≤ g) (v0 v1 v2 : Value) : Below B a (((w.setCell ⟨g, 0, none⟩ v0).setCell ⟨g, 1, none⟩ v1).setCell ⟨g, 2, none⟩ v2) :=
  ((h.setCell (p := ⟨g, 0, none⟩) hB v0).setCell (p := ⟨g, 1, none⟩) hB v1).setCell (p := ⟨g, 2, none⟩) hB v2
theorem sizeFoot : (Tryd.prog.info? 59).map (·.size) = some 3 := by kernel_rfl
theorem sizePiece : (Tryd.prog.info? 107).map (·.size) = some 3 := by kernel_rfl
theorem sizeEnt : (Tryd.prog.info? 38).map (·.size) = some 3 := by kernel_rfl
def fv3 (a b c : Nat) : Value := .agg #[.int .i64 (a : Int), .int .i64 (b : Int), .int .i64 (c : Int)]
theorem num4_lt (l : List UInt8) : num4 l < 4294967296 := by
  unfold num4
  split
  · rename_i a b c d _
    have := a.toNat_lt; have := b.toNat_lt; have := c.toNat_lt; have := d.toNat_lt
    omega
  · omega
theorem num4_take (l : List UInt8) : num4 (l.take 4) = num4 l := by
  match l with
  | [] => rfl
  | [_] => rfl
  | [_, _] => rfl
  | [_, _, _] => rfl
  | a :: b :: c :: d :: t => rfl
theorem takeT_twelve {s : List UInt8} (hl : s.length = 16) (h : takeE s = 0) : (takeT s).length = 12 := by
  unfold takeE at h
  rw [if_neg (by omega)] at h
  have hk : okT s := by
    by_cases hk : okT s
    · exact hk
    · rw [if_neg hk] at h; cases h
  unfold takeT
  rw [if_pos ⟨by omega, hk⟩, List.length_take]
  omega
set_option maxHeartbeats 2000000 in
theorem readFoot_no (n F : Nat) (c : Array Value) (K : List (Nat × Obj)) (d z : Int) (L : List UInt8) (w : World) (hs : Hid (Src F c K d L)) (hk : Hid (Keep K w)) (hn : n + 16 = L.length) (hl : L.length ≤ 9223372036854775807) (hz : Hid (d ≠ 0 ∧ z = d ∨ d = 0 ∧ takeE (L.drop n) = z ∧ z ≠ 0)) :
    Calls Tryd.prog 32 #[.int .i64 (n : Int), srcV F c] w fun e w' => e = .returned (.tuple #[fv3 0 0 0, .int .i64 z]) ∧ Below w.heap.size w w' := by
  obtain ⟨w1, hw1⟩ : ∃ w1, w1 = w.alloc (.cells #[.int .i64 0, .int .i64 0, .int .i64 0] 59) := ⟨_, rfl⟩
  have K1 := Lib.hid (show Below w.heap.size w w1 by rw [hw1]; exact (Below.refl _ _).alloc (Nat.le_refl _) _)
  have C1 := Lib.hid (show C3 w.heap.size 59 (.int .i64 0) (.int .i64 0) (.int .i64 0) w1 by rw [hw1]; exact heap_new w _)
  have HC := Lib.hid (hs.out.calls w1 (hk.out.below K1.out) n 16 (by omega))
  have eF := hs.out.enters
  have HW1 := Lib.hid hw1
  have hz0 : (z == 0) = false := beq_eq_false_iff_ne.2 (by rcases hz.out with ⟨h1, h2⟩ | ⟨_, _, h2⟩; (rw [h2]; exact h1); (exact h2))
  unfold Enters at eF
  unfold srcV fv3
  clear hw1
  rcases hz.out with ⟨hd, rfl⟩ | ⟨rfl, htk, hzn⟩
  · have hC := HC.out
    rw [if_neg hd] at hC
    clear HC hz
    go_enter Tryd.func32, Tryd.ntmps32
    go_upto_region 1 with (fail)
    rw [← HW1.out]
    go_wp2_with fail
    refine hC.mono ?_
    rintro e w2 ⟨rfl, k2⟩
    have c2 := C1.out.below k2
    have q0 := c2.c0
    have q1 := c2.c1
    have q2 := c2.c2
    have qf := c2.free
    have C2 := Lib.hid c2
    have K2 := Lib.hid (K1.out.trans (k2.mono K1.out.size))
    clear k2 c2 hC eF
    go_wp2_with fail
    refine bodyPost_ret (results_c3 rfl _ _ w.heap.size _ _ _ _ _ rfl rfl (C2.out.put _ _ _) Tryd.underlying59 rfl sizeFoot) rfl ?_
    exact ⟨rfl, below_put3' K2.out (Nat.le_refl _) _ _ _⟩
  · have hC := HC.out
    rw [if_pos rfl] at hC
    obtain ⟨s, hs'⟩ : ∃ s, s = (L.drop n).take 16 := ⟨_, rfl⟩
    have hse : s = L.drop n := by rw [hs']; exact List.take_of_length_le (by rw [List.length_drop]; omega)
    rw [← hs'] at hC
    have htk2 := fun W => crc_Take (bs s) W (by rw [bs_size, hse, List.length_drop]; omega)
    simp only [bs_list] at htk2
    rw [hse, htk, ← hse] at htk2
    have HT := Lib.hid htk2
    clear HC hz hs' hse htk htk2
    go_enter Tryd.func32, Tryd.ntmps32
    go_upto_region 1 with (fail)
    rw [← HW1.out]
    go_wp2_with fail
    refine hC.mono ?_
    rintro e w2 ⟨rfl, k2⟩
    have C2 := Lib.hid (C1.out.below k2)
    have K2 := Lib.hid (K1.out.trans (k2.mono K1.out.size))
    clear k2 hC eF
    go_wp2_with fail
    refine (HT.out w2).mono ?_
    rintro e w3 ⟨rfl, k3⟩
    have c3 := C2.out.below k3
    have q0 := c3.c0
    have q1 := c3.c1
    have q2 := c3.c2
    have qf := c3.free
    have C3' := Lib.hid c3
    have K3 := Lib.hid (K2.out.trans (k3.mono K2.out.size))
    clear k3 c3
    go_wp2_with fail
    refine bodyPost_ret (results_c3 rfl _ _ w.heap.size _ _ _ _ _ rfl rfl (C3'.out.put _ _ _) Tryd.underlying59 rfl sizeFoot) rfl ?_
    exact ⟨rfl, below_put3' K3.out (Nat.le_refl _) _ _ _⟩
end Go.Proofs.YteejldddgogbkaaDoor
/- A block of a table, read. -/
set_option linter.unusedVariables false
set_option maxRecDepth 100000
namespace Go.Proofs.YteejldddgogbkaaDoor
open Go.RowKit

/-- A block's entries, or the error; the source refuses with d. -/
def blockD (t : Tab) (d : Int) (i : Nat) : Int × List Ent := if d ≠ 0 then (d, []) else blockT t i
theorem seen_of' {F : FuncId} {args : Array Value} {v : Value} {K : List (Nat × Obj)} {W : World} (h : ∀ W, Keep K W → Calls Tryd.prog F args W fun e w' => e = .returned v ∧ Below W.heap.size W w') (hK : Keep K W) (m : Seen W) : Calls Tryd.prog F args m.val fun e w'' => e = .returned v ∧ ∃ q : Seen W, w'' = q.val :=
  (h m.val (hK.below m.below)).mono fun _ w'' ⟨h1, h2⟩ => ⟨h1, ⟨⟨w'', m.below.trans (h2.mono m.below.size)⟩, rfl⟩⟩
structure BlkPost (p : Nat) (v : Value) (t : Tab) (n : Int) (R : Int × List Ent) (w : World) (e : Ending) (w' : World) : Prop where
  out : ∃ a cap, e = .returned (.tuple #[.slice a R.2.length cap, .int .i64 R.1]) ∧ R.2.length ≤ cap ∧ IsE w' a R.2.length R.2
  tab : TabM p v (n + 1) t w'
  only : Only (fun j => j = p) w w'
  new : NewE w e
theorem BlkPost.bad {p : Nat} {v : Value} {t : Tab} {n : Int} {R : Int × List Ent} {w w' : World} {z : Int} (h : R = (z, [])) (ht : TabM p v (n + 1) t w') (ho : Only (fun j => j = p) w w') : BlkPost p v t n R w (.returned (.tuple #[.slice none 0 0, .int .i64 z])) w' :=
  ⟨⟨none, 0, by rw [h]; rfl, by rw [h]; exact Nat.le_refl _, by rw [h]; exact IsE.nil _ _⟩, ht, ho, NewE.none _ _ _ _⟩
theorem Only.of_below' {B : Nat} {S : Nat → Prop} {w w' : World} (h : Below B w w') (hB : B = w.heap.size) : Only S w w' := ⟨h.os, h.tape, h.output, h.size, fun k hk _ => h.block k (by omega)⟩
theorem opn_err {l : List UInt8} (h : (opn l).1 ≠ 0) : (opn l).2 = [] := by
  unfold opn at h ⊢
  simp only at h ⊢
  split
  · rfl
  split
  · rfl
  split
  · rfl
  split
  · rfl
  · rename_i h1 h2 h3 h4
    rw [if_neg h1, if_neg h2, if_neg h3, if_neg h4] at h
    exact absurd rfl h
theorem opnS_few (s : List UInt8) : (opnS s).2.length ≤ 65536 := by
  by_cases h : (opnS s).1 = 0
  · exact ((chkE_ok _).1 (pack_open h).1).2
  · unfold opnS at h ⊢
    split
    · exact Nat.zero_le _
    · rename_i h1
      rw [if_neg h1] at h
      rw [opn_err h]
      exact Nat.zero_le _
set_option maxHeartbeats 4000000 in
theorem table_readBlock (p F : Nat) (c : Array Value) (K : List (Nat × Obj)) (d : Int) (t : Tab) (n : Int) (i : Nat) (w : World) (hM : Hid (TabM p (srcV F c) n t w)) (hf : Hid (FineT t)) (hs : Hid (Src F c K d t.bytes)) (hk : Hid (Keep K w)) (hKp : Hid (∀ q ∈ K, q.1 ≠ p)) (hi : i < t.index.length) (hn1 : -1000000000000000000 ≤ n) (hn2 : n ≤ 1000000000000000000) (hl : t.bytes.length ≤ 100000000000) :
    Calls Tryd.prog 38 #[.pointer (some ⟨p, 0, none⟩), .int .i64 (i : Int)] w (BlkPost p (srcV F c) t n (blockD t d i) w) := by
  obtain ⟨a, cap, fb, fg, h1, h2, h3, h4, h5⟩ := hM.out.ex
  obtain ⟨w1, hw1⟩ : ∃ w1, w1 = w.setCell ⟨p, 4, none⟩ (.int .i64 (n + 1)) := ⟨_, rfl⟩
  have M1 := Lib.hid (show TabM p (srcV F c) (n + 1) t w1 by rw [hw1]; exact hM.out.reads (n + 1))
  have O1 := Lib.hid (show Only (fun j => j = p) w w1 by rw [hw1]; exact (Only.refl (fun j => j = p) w).setCell (p := ⟨p, 4, none⟩) (.inl rfl) _)
  have K1 := Lib.hid (hk.out.only O1.out fun q hq => hKp.out q hq)
  have e4 : w.cell? ⟨p, 4, none⟩ = some (.int .i64 n) := by simp [World.cell?, h1]
  have f4 : w.frozen? ⟨p, 4, none⟩ = false := by simp [World.frozen?, h1]
  obtain ⟨a1, cap1, fb1, fg1, g1, g2, g3, g4, g5⟩ := M1.out.ex
  obtain ⟨len, hlen⟩ : ∃ len, len = t.index.length := ⟨_, rfl⟩
  rw [← hlen] at g1 g2 hi
  have c0 : w1.cell? ⟨p, 0, none⟩ = some (srcV F c) := by simp [World.cell?, g1]
  have c1 : w1.cell? ⟨p, 1, none⟩ = some (.slice a1 len cap1) := by simp [World.cell?, g1]
  obtain ⟨b, off, x, rfl, hx, hcl⟩ := g2.at hi
  rw [piecesOf_at hf.out (by rw [← hlen]; exact hi)] at hx
  obtain ⟨ky, hky⟩ : ∃ ky, ky = (t.index.map (·.key)).getD i [] := ⟨_, rfl⟩
  obtain ⟨at_, hat⟩ : ∃ at_, at_ = (t.places.getD i (0, 0)).1 := ⟨_, rfl⟩
  obtain ⟨sz, hsz⟩ : ∃ sz, sz = (t.places.getD i (0, 0)).2 := ⟨_, rfl⟩
  have hxe : x = (ky, at_, sz) := by injection hx with hx; rw [hky, hat, hsz, ← hx]
  rw [hxe] at hcl
  have hin : at_ + sz ≤ t.bytes.length := by
    rw [hat, hsz]
    refine hf.out.inn _ ?_
    rw [List.getD_eq_getElem?_getD, List.getElem?_eq_getElem (by rw [hf.out.pl, ← hlen]; exact hi)]
    exact List.getElem_mem _
  have p0 := hcl.c0
  have p1 := hcl.c1
  have p2 := hcl.c2
  have hC := hs.out.calls
  have eF := hs.out.enters
  have hbl := hf.out.few
  rw [← hlen] at hbl
  unfold Enters at eF
  unfold srcV at c0 ⊢
  obtain ⟨s, hsd⟩ : ∃ s, s = (t.bytes.drop at_).take sz := ⟨_, rfl⟩
  have hsl : s.length ≤ 100000000000 := by rw [hsd, List.length_take, List.length_drop]; omega
  have hnw : IntKind.i64.wrap (n + 1) = n + 1 := IntWalk.i64_in _ (by omega)
  have HC := Lib.hid (fun (W : World) (hW : Keep K W) => by have h := hC W hW at_ sz hin; rw [← hsd] at h; exact h)
  obtain ⟨y, hy⟩ : ∃ y, y = (if d = 0 then s else []) := ⟨_, rfl⟩
  have HC2 := Lib.hid (fun m : Seen w1 => by have h := seen_of' (fun W hW => by have h := HC.out W hW; rw [← hy] at h; exact h) K1.out m; exact h)
  have HBT := Lib.hid (show blockD t d i = if d ≠ 0 then (d, []) else if (opnS s).1 ≠ 0 then ((opnS s).1, []) else if (opnS s).2.isEmpty = true ∨ keyE (opnS s).2 ≠ ky then (3, []) else (0, (opnS s).2) by unfold blockD blockT; simp only [← hat, ← hsz, ← hky, ← hsd])
  have HW1 := Lib.hid hw1
  have HY := Lib.hid hy
  clear hw1 hlen hky hat hsz hxe hx hcl hC hsd h1 h2 h3 h4 h5 g1 g2 g3 g4 g5 hin HC hM hk hy
  by_cases hd : d = 0
  · subst hd
    have hys : y = s := by rw [HY.out, if_pos rfl]
    subst hys
    have hop := fun W => block_Open_new y W hsl
    have hBT := HBT.out
    rw [if_neg (fun h => h rfl)] at hBT
    obtain ⟨o, ho⟩ : ∃ o, o = opnS y := ⟨_, rfl⟩
    rw [← ho] at hBT
    have HO := Lib.hid ho
    have HOP := Lib.hid hop
    have HBT2 := Lib.hid hBT
    clear hBT ho hop HBT HY
    go_enter Tryd.func38, Tryd.ntmps38
    go_upto_region 2 with (fail)
    rw [← HW1.out]
    clear e4 f4
    have nc0 : ∀ m : Seen w1, m.val.cell? ⟨p, 0, none⟩ = some (.func (.func F) #[] c) := fun m => by rw [m.below.cell (cell_block c0)]; exact c0
    have nc1 : ∀ m : Seen w1, m.val.cell? ⟨p, 1, none⟩ = some (.slice (some ⟨b, off, none⟩) len cap1) := fun m => by rw [m.below.cell (cell_block c1)]; exact c1
    have np1 : ∀ m : Seen w1, m.val.cell? ⟨b, off + i * 3 + 1, none⟩ = some (.int .i64 (at_ : Int)) := fun m => by rw [m.below.cell (cell_block p1)]; exact p1
    have np2 : ∀ m : Seen w1, m.val.cell? ⟨b, off + i * 3 + 2, none⟩ = some (.int .i64 (sz : Int)) := fun m => by rw [m.below.cell (cell_block p2)]; exact p2
    refine region_seen (by kernel_rfl) (by kernel_rfl) ?_
    repeat go_big_quiet_step (first | (with_reducible exact HC2.out _))
    refine wpQuiet_nil ?_
    rintro _ ⟨m1, rfl⟩
    have M2 := Lib.hid (M1.out.below m1.below)
    have O2 := Lib.hid (O1.out.trans (Only.of_below' (S := fun j => j = p) m1.below rfl))
    obtain ⟨w2, hw2⟩ : ∃ w2, w2 = m1.val := ⟨_, rfl⟩
    rw [← hw2] at M2 O2 ⊢
    have nc1' := nc1 m1
    have np0' : m1.val.cell? ⟨b, off + i * 3, none⟩ = some (.string (bs ky)) := by rw [m1.below.cell (cell_block p0)]; exact p0
    rw [← hw2] at nc1' np0'
    clear hw2 nc0 nc1 np1 np2 c0 c1 p0 p1 p2 HC2 eF
    go_wp2_with fail
    refine (HOP.out w2).mono ?_
    rintro e w3 ⟨⟨⟨xa, xc, he, hxc, hxe⟩, k3⟩, hnew⟩
    rw [← HO.out] at he hxc hxe
    have M3 := Lib.hid (M2.out.below k3)
    have O3 := Lib.hid (O2.out.trans (Only.of_below' (S := fun j => j = p) k3 rfl))
    have q1 : w3.cell? ⟨p, 1, none⟩ = some (.slice (some ⟨b, off, none⟩) len cap1) := by rw [k3.cell (cell_block nc1')]; exact nc1'
    have q0 : w3.cell? ⟨b, off + i * 3, none⟩ = some (.string (bs ky)) := by rw [k3.cell (cell_block np0')]; exact np0'
    clear k3 nc1' np0'
    obtain ⟨z, hz⟩ : ∃ z, z = o.1 := ⟨_, rfl⟩
    obtain ⟨T, hT⟩ : ∃ T, T = o.2 := ⟨_, rfl⟩
    obtain ⟨m, hm⟩ : ∃ m, m = T.length := ⟨_, rfl⟩
    rw [← hz, ← hT, ← hm] at he
    rw [← hT, ← hm] at hxc hxe
    have hB := HBT2.out
    rw [← hz, ← hT] at hB
    have HNew := Lib.hid (show NewE w e from fun b off n c z h => Nat.le_trans O2.out.size (hnew b off n c z h))
    clear hnew
    have hmb : m ≤ 100000000000 := by rw [hm, hT, HO.out]; exact Nat.le_trans (opnS_few y) (by decide)
    subst he
    by_cases h1 : z = 0
    · rw [if_neg (fun h => h h1)] at hB
      subst h1
      by_cases h2 : m = 0
      · rw [if_pos (.inl (by rw [List.isEmpty_iff, ← List.length_eq_zero_iff, ← hm]; exact h2))] at hB
        have HB := Lib.hid hB
        subst h2
        clear hB hz hT hm hxc hxe
        go_wp2_with fail
        go_quiet (fail)
        go_wp2_with fail
        go_ret2
        exact BlkPost.bad HB.out (M3.out.below (below_drewN (Below.refl _ _) _)) (O3.out.drewN _)
      · obtain ⟨b2, off2, x0, rfl, hx0, _, hc0⟩ := hxe.at (k := 0) (by omega)
        have d0 := hc0.c0
        rw [Nat.zero_mul, Nat.add_zero] at d0
        have hke : keyE T = x0.key := by cases T with
          | nil => simp at hx0
          | cons y Q => simp at hx0; rw [← hx0]; rfl
        have hem : T.isEmpty = false := by cases T with
          | nil => simp at hx0
          | cons y Q => rfl
        rw [hem, hke] at hB
        have hmi : ¬ (m : Int) = 0 := by omega
        have hmb0 : ((m : Int) == 0) = false := beq_eq_false_iff_ne.2 hmi
        have h0m : (0 : Int) < (m : Int) := by omega
        by_cases hkk : x0.key = ky
        · rw [if_neg (by rintro (h | h); (cases h); (exact h hkk))] at hB
          have hcm : ((bs x0.key).toList == (bs ky).toList) = true := (same_bytes _ _).2 hkk
          have hcp : (bs x0.key).toList = (bs ky).toList := by rw [hkk]
          have HB := Lib.hid hB
          have HT := Lib.hid (show m = T.length from hm)
          have HXC := Lib.hid hxc
          have HXE := Lib.hid hxe
          clear hB hz hT hm hxc hxe hkk h2 hem hke hx0 hc0
          go_wp2_with fail
          go_quiet (fail)
          go_wp2_with fail
          go_ret2
          refine ⟨⟨some ⟨b2, off2, none⟩, xc, ?_, ?_, ?_⟩, M3.out.below (below_drewN (Below.refl _ _) _), O3.out.drewN _, HNew.out⟩
          · rw [HB.out, HT.out]; rfl
          · rw [HB.out]; show T.length ≤ xc; rw [← HT.out]; exact HXC.out
          · rw [HB.out]
            have h := HXE.out.below (below_drewN (Below.refl w3.heap.size w3) nq)
            rw [HT.out] at h
            exact h
        · rw [if_pos (.inr hkk)] at hB
          have hcm : ((bs x0.key).toList == (bs ky).toList) = false := by
            cases h : ((bs x0.key).toList == (bs ky).toList) with
            | false => rfl
            | true => exact absurd ((same_bytes _ _).1 h) hkk
          have hcp : ¬ (bs x0.key).toList = (bs ky).toList := fun h => by rw [h] at hcm; simp at hcm
          have HB := Lib.hid hB
          clear hB hz hT hm hxc hxe hkk h2 hem hke hx0 hc0
          go_wp2_with fail
          go_quiet (fail)
          go_wp2_with fail
          go_ret2
          exact BlkPost.bad HB.out (M3.out.below (below_drewN (Below.refl _ _) _)) (O3.out.drewN _)
    · have hzb : (z == 0) = false := beq_eq_false_iff_ne.2 h1
      rw [if_pos h1] at hB
      have HB := Lib.hid hB
      clear hB hz hT hm hxc hxe
      go_wp2_with fail
      go_ret2
      exact BlkPost.bad HB.out M3.out O3.out
  · have hB := HBT.out
    rw [if_pos hd] at hB
    have HB := Lib.hid hB
    have hdb : (d == 0) = false := beq_eq_false_iff_ne.2 hd
    clear hB HBT
    go_enter Tryd.func38, Tryd.ntmps38
    go_upto_region 2 with (fail)
    rw [← HW1.out]
    clear e4 f4
    have nc0 : ∀ m : Seen w1, m.val.cell? ⟨p, 0, none⟩ = some (.func (.func F) #[] c) := fun m => by rw [m.below.cell (cell_block c0)]; exact c0
    have nc1 : ∀ m : Seen w1, m.val.cell? ⟨p, 1, none⟩ = some (.slice (some ⟨b, off, none⟩) len cap1) := fun m => by rw [m.below.cell (cell_block c1)]; exact c1
    have np1 : ∀ m : Seen w1, m.val.cell? ⟨b, off + i * 3 + 1, none⟩ = some (.int .i64 (at_ : Int)) := fun m => by rw [m.below.cell (cell_block p1)]; exact p1
    have np2 : ∀ m : Seen w1, m.val.cell? ⟨b, off + i * 3 + 2, none⟩ = some (.int .i64 (sz : Int)) := fun m => by rw [m.below.cell (cell_block p2)]; exact p2
    refine region_seen (by kernel_rfl) (by kernel_rfl) ?_
    repeat go_big_quiet_step (first | (with_reducible exact HC2.out _))
    refine wpQuiet_nil ?_
    rintro _ ⟨m1, rfl⟩
    have M2 := Lib.hid (M1.out.below m1.below)
    have O2 := Lib.hid (O1.out.trans (Only.of_below' (S := fun j => j = p) m1.below rfl))
    clear nc0 nc1 np1 np2 c0 c1 p0 p1 p2 HC2 eF
    go_wp2_with fail
    go_ret2
    exact BlkPost.bad HB.out M2.out O2.out
end Go.Proofs.YteejldddgogbkaaDoor
/- The program's Get; how many entries there are, how many blocks were read. -/
set_option linter.unusedVariables false
set_option maxRecDepth 100000
namespace Go.Proofs.YteejldddgogbkaaDoor
open Go.RowKit

theorem table_Count (p : Nat) (v : Value) (n : Int) (t : Tab) (w : World) (h : TabM p v n t w) : Calls Tryd.prog 13 #[.pointer (some ⟨p, 0, none⟩)] w fun e w' => e = .returned (.int .i64 (t.count : Int)) ∧ w = w' := by
  obtain ⟨a, cap, fb, fg, h1, _⟩ := h.ex
  have c3 : w.cell? ⟨p, 3, none⟩ = some (.int .i64 (t.count : Int)) := by simp [World.cell?, h1]
  clear h1
  go_enter Tryd.func13, Tryd.ntmps13
  go_wp2
  go_ret
  exact ⟨rfl, rfl⟩
theorem table_Count_nil (w : World) : Calls Tryd.prog 13 #[.pointer none] w fun e w' => e = .returned (.int .i64 0) ∧ w = w' := by
  go_enter Tryd.func13, Tryd.ntmps13
  go_wp2
  go_ret
  exact ⟨rfl, rfl⟩
theorem table_Reads (p : Nat) (v : Value) (n : Int) (t : Tab) (w : World) (h : TabM p v n t w) : Calls Tryd.prog 14 #[.pointer (some ⟨p, 0, none⟩)] w fun e w' => e = .returned (.int .i64 n) ∧ w = w' := by
  obtain ⟨a, cap, fb, fg, h1, _⟩ := h.ex
  have c3 : w.cell? ⟨p, 4, none⟩ = some (.int .i64 n) := by simp [World.cell?, h1]
  clear h1
  go_enter Tryd.func14, Tryd.ntmps14
  go_wp2
  go_ret
  exact ⟨rfl, rfl⟩
theorem table_Reads_nil (w : World) : Calls Tryd.prog 14 #[.pointer none] w fun e w' => e = .returned (.int .i64 0) ∧ w = w' := by
  go_enter Tryd.func14, Tryd.ntmps14
  go_wp2
  go_ret
  exact ⟨rfl, rfl⟩
theorem pieces_keys {t : Tab} (h : FineT t) : (piecesOf t).map (·.1) = t.index.map (·.key) := by
  unfold piecesOf
  rw [List.map_fst_zip]
  rw [List.length_map, h.pl]
  exact Nat.le_refl _
theorem pieces_rise {t : Tab} (h : FineT t) : risesK (piecesOf t) := fun i j x y hij hx hy => by
  have hl : (piecesOf t).length = t.index.length := piecesOf_len h
  have hi := (List.getElem?_eq_some_iff.1 hx).1
  have hj := (List.getElem?_eq_some_iff.1 hy).1
  rw [piecesOf_at h (by omega)] at hx hy
  injection hx with hx
  injection hy with hy
  rw [← hx, ← hy]
  have hi' : i < t.index.length := by omega
  have hj' : j < t.index.length := by omega
  have := rises_at h.idx i j _ _ hij (List.getElem?_eq_getElem hi') (List.getElem?_eq_getElem hj')
  simpa [List.getD_eq_getElem?_getD, hi', hj'] using this
/-- The entry that a search finds. -/
theorem find_at {T : List Ent} {k : List UInt8} (hT : rises T) {r : Nat} (h1 : r ≤ T.length) (h2 : ∀ x, 0 < r → T[r - 1]? = some x → ltB x.key k = true) (h3 : ∀ x, T[r]? = some x → ltB x.key k = false) :
    (∀ x, T[r]? = some x → x.key = k → T.find? (isKey k) = some x) ∧ ((∀ x, T[r]? = some x → x.key ≠ k) → T.find? (isKey k) = none) := by
  have hpl := find_place hT h1 h2 h3
  have hle : ∀ i x, T[i]? = some x → x.key = k → i = r := fun i x hx hk => by
    have h4 := place_iff k hT i x hx
    rw [hpl] at h4
    rw [hk, ltB_irrefl] at h4
    have hir : ¬ i < r := by intro h; rw [decide_eq_true h] at h4; cases h4
    by_cases e : i = r
    · exact e
    · have hil := (List.getElem?_eq_some_iff.1 hx).1
      obtain ⟨y, hy⟩ : ∃ y, T[r]? = some y := ⟨_, List.getElem?_eq_getElem (by omega)⟩
      have h5 := rises_at hT r i y x (by omega) hy hx
      rw [hk, h3 y hy] at h5
      cases h5
  refine ⟨fun x hx hk => ?_, fun h => ?_⟩
  · rw [List.find?_eq_some_iff_getElem]
    have hl := List.getElem?_eq_some_iff.1 hx
    refine ⟨by simp [isKey, hk], r, hl.1, hl.2, fun j hj => ?_⟩
    have hjT : j < T.length := by omega
    have : T[j].key ≠ k := fun e => by have := hle j T[j] (List.getElem?_eq_getElem hjT) e; omega
    simp [isKey, this]
  · rw [List.find?_eq_none]
    intro x hx
    obtain ⟨i, hi⟩ := List.mem_iff_getElem?.1 hx
    simp only [isKey, decide_eq_true_eq]
    intro e
    have := hle i x hi e
    subst this
    exact h x hi e
def noEnt' : Ent := ⟨[], [], false⟩
structure GetPost (p : Nat) (v : Value) (t : Tab) (n : Int) (k : List UInt8) (w : World) (e : Ending) (w' : World) : Prop where
  out : e = .returned (.tuple #[EV (getT t k).1, .bool (getT t k).2.1, .int .i64 (getT t k).2.2.1])
  tab : TabM p v (n + ((getT t k).2.2.2 : Int)) t w'
  only : Only (fun j => j = p) w w'
theorem GetPost.mk' {p : Nat} {v : Value} {t : Tab} {n : Int} {k : List UInt8} {w w' : World} {x : Ent} {b : Bool} {z : Int} {r : Nat} (h : getT t k = (x, b, z, r)) (ht : TabM p v (n + (r : Int)) t w') (ho : Only (fun j => j = p) w w') : GetPost p v t n k w (.returned (.tuple #[EV x, .bool b, .int .i64 z])) w' :=
  ⟨by rw [h], by rw [h]; exact ht, ho⟩
theorem only_put3 {S : Nat → Prop} {a w : World} {g : Nat} (h : Only S a w) (hB : a.heap.size ≤ g) (v0 v1 v2 : Value) : Only S a (((w.setCell ⟨g, 0, none⟩ v0).setCell ⟨g, 1, none⟩ v1).setCell ⟨g, 2, none⟩ v2) :=
  ((h.setCell (p := ⟨g, 0, none⟩) (.inr hB) v0).setCell (p := ⟨g, 1, none⟩) (.inr hB) v1).setCell (p := ⟨g, 2, none⟩) (.inr hB) v2
theorem TabM.put3 {p g : Nat} {v : Value} {n : Int} {t : Tab} {a w : World} (h : TabM p v n t w) (hB : a.heap.size ≤ g) (hp : p < a.heap.size) (v0 v1 v2 : Value) : TabM p v n t (((w.setCell ⟨g, 0, none⟩ v0).setCell ⟨g, 1, none⟩ v1).setCell ⟨g, 2, none⟩ v2) := by
  obtain ⟨aa, cap, fb, fg, h1, h2, h3, h4, h5⟩ := h.ex
  have k : ∀ j, j ≤ p → (((w.setCell ⟨g, 0, none⟩ v0).setCell ⟨g, 1, none⟩ v1).setCell ⟨g, 2, none⟩ v2).heap[j]? = w.heap[j]? := fun j hj => by
    rw [heap_set_other (by omega), heap_set_other (by omega), heap_set_other (by omega)]
  exact ⟨aa, cap, fb, fg, (k p (Nat.le_refl _)).trans h1, h2.keep fun j hj _ => k j (by omega), h3.blocks (k fb (by omega)) (k fg (by omega)), h4, h5⟩
theorem table_Get_nil (key : ByteArray) (w : World) : Calls Tryd.prog 15 #[.pointer none, .string key] w fun e w' => e = .returned (.tuple #[EV ⟨[], [], false⟩, .bool false, .int .i64 0]) ∧ Below w.heap.size w w' := by
  obtain ⟨w1, hw1⟩ : ∃ w1, w1 = w.alloc (.cells #[.string ⟨#[]⟩, .string ⟨#[]⟩, .bool false] 38) := ⟨_, rfl⟩
  have K1 := Lib.hid (show Below w.heap.size w w1 by rw [hw1]; exact (Below.refl _ _).alloc (Nat.le_refl _) _)
  have C1 := Lib.hid (show C3 w.heap.size 38 (.string ⟨#[]⟩) (.string ⟨#[]⟩) (.bool false) w1 by rw [hw1]; exact heap_new w _)
  have HW1 := Lib.hid hw1
  have q0 := C1.out.c0
  have q1 := C1.out.c1
  have q2 := C1.out.c2
  have qf := C1.out.free
  clear hw1
  go_enter Tryd.func15, Tryd.ntmps15
  go_upto_region 1 with (fail)
  rw [← HW1.out]
  go_wp2_with fail
  refine bodyPost_ret (results_c3b rfl _ _ w.heap.size _ _ _ _ _ _ rfl rfl rfl (C1.out.put _ _ _) Tryd.underlying38 rfl sizeEnt) rfl ?_
  exact ⟨rfl, below_put3' K1.out (Nat.le_refl _) _ _ _⟩
theorem opnS_rises (s : List UInt8) : rises (opnS s).2 := by
  by_cases h : (opnS s).1 = 0
  · exact (rises_of_okEs true [] ((chkE_ok _).1 (pack_open h).1).1).1
  · unfold opnS at h ⊢
    split
    · trivial
    · rename_i h1
      rw [if_neg h1] at h
      rw [opn_err h]
      trivial
theorem block_rises (t : Tab) (i : Nat) : rises (blockT t i).2 := by
  unfold blockT
  simp only
  split
  · trivial
  split
  · trivial
  · exact opnS_rises _
theorem block_few (t : Tab) (i : Nat) : (blockT t i).2.length ≤ 65536 := by
  unfold blockT
  simp only
  split
  · exact Nat.zero_le _
  split
  · exact Nat.zero_le _
  · exact opnS_few _
theorem block_err (t : Tab) (i : Nat) : (blockT t i).1 ≠ 0 → (blockT t i).2 = [] := by
  unfold blockT
  simp only
  split
  · exact fun _ => rfl
  split
  · exact fun _ => rfl
  · exact fun h => absurd rfl h
theorem C3.table {b p : Nat} {ty : TypeId} {v0 v1 v2 : Value} {w w' : World} (h : C3 b ty v0 v1 v2 w) (k : Only (fun j => j = p) w w') (hp : b ≠ p) : C3 b ty v0 v1 v2 w' := (k.block b (heap_lt h) hp).trans h
set_option maxHeartbeats 4000000 in
theorem table_Get (p F : Nat) (c : Array Value) (K : List (Nat × Obj)) (t : Tab) (n : Int) (key : List UInt8) (w : World) (hM : Hid (TabM p (srcV F c) n t w)) (hf : Hid (FineT t)) (hs : Hid (Src F c K 0 t.bytes)) (hk : Hid (Keep K w)) (hKp : Hid (∀ q ∈ K, q.1 ≠ p)) (hg : Hid (Glob w)) (hn1 : -1000000000000000000 ≤ n) (hn2 : n ≤ 1000000000000000000) (hl : t.bytes.length ≤ 100000000000) (hb8 : t.bits.length ≤ 100000000) (hkl : Hid (key.length ≤ 900000000000000)) :
    Calls Tryd.prog 15 #[.pointer (some ⟨p, 0, none⟩), .string (bs key)] w (GetPost p (srcV F c) t n key w) := by
  obtain ⟨w1, hw1⟩ : ∃ w1, w1 = w.alloc (.cells #[.string ⟨#[]⟩, .string ⟨#[]⟩, .bool false] 38) := ⟨_, rfl⟩
  have A1 : Below w.heap.size w w1 := by rw [hw1]; exact (Below.refl _ _).alloc (Nat.le_refl _) _
  have C1 := Lib.hid (show C3 w.heap.size 38 (.string ⟨#[]⟩) (.string ⟨#[]⟩) (.bool false) w1 by rw [hw1]; exact heap_new w _)
  have M1 := Lib.hid (hM.out.below A1)
  have K1 := Lib.hid (hk.out.below A1)
  have O1 := Lib.hid (show Only (fun j => j = p) w w1 from Only.of_below' A1 rfl)
  have G1 := Lib.hid (hg.out.keep A1 hg.out.1)
  have HP := Lib.hid (show p < w.heap.size from hM.out.lt)
  have hpn := Lib.hid (show w.heap.size ≠ p by have := HP.out; omega)
  obtain ⟨a, cap, fb, fg, h1, h2, h3, h4, h5⟩ := M1.out.ex
  have e2 : w1.cell? ⟨p, 2, none⟩ = some (.pointer (some ⟨fb, 0, none⟩)) := by simp [World.cell?, h1]
  have HHAS := Lib.hid (flt_has fb fg t.h t.bits.length (t.bits.length * 8) t.bits key w1 (Lib.hid h3) G1 (Lib.hid rfl) hb8 (Lib.hid rfl) (by have := hf.out.bits.1; omega) hf.out.h8 hkl)
  have hG : getT t key = if hasB t.h (t.bits.length * 8) (bitAt t.bits) key = false ∨ fromN key (t.index.map (·.key)) = 0 then (⟨[], [], false⟩, false, 0, 0) else
    match (blockT t (fromN key (t.index.map (·.key)) - 1)).2.find? (isKey key) with
    | some x => (x, true, 0, 1)
    | none => (⟨[], [], false⟩, false, (blockT t (fromN key (t.index.map (·.key)) - 1)).1, 1) := rfl
  have HBO := Lib.hid (fun (W : World) (hW : TabM p (srcV F c) n t W) => by
    obtain ⟨a, cap, fb, fg, h1, h2, _⟩ := hW.ex
    have := table_blockOf p p a t.index.length cap (piecesOf t) key W (Lib.hid (by simp [World.cell?, h1])) (Lib.hid h2) (Lib.hid (pieces_rise hf.out)) (by have := hf.out.few; omega)
    rw [pieces_keys hf.out] at this
    exact this)
  obtain ⟨r, hr⟩ : ∃ r, r = fromN key (t.index.map (·.key)) := ⟨_, rfl⟩
  have hrl : r ≤ t.index.length := by rw [hr]; have := fromN_le key (t.index.map (·.key)); rwa [List.length_map] at this
  have hrl2 : r ≤ 65536 := Nat.le_trans hrl hf.out.few
  rw [← hr] at hG HBO
  obtain ⟨hb, hhb⟩ : ∃ hb, hb = hasB t.h (t.bits.length * 8) (bitAt t.bits) key := ⟨_, rfl⟩
  rw [← hhb] at hG HHAS
  have HW1 := Lib.hid hw1
  clear hw1 A1 h1 h2 h3 h4 h5 hr hhb hM hk hg
  cases hb with
  | false =>
    rw [if_pos (.inl rfl)] at hG
    have HG := Lib.hid hG
    have M0 := Lib.hid (show (0 : Int) = ((0 : Nat) : Int) from rfl)
    clear hG
    go_enter Tryd.func15, Tryd.ntmps15
    go_upto_region 1 with (fail)
    rw [← HW1.out]
    go_wp2_with fail
    refine HHAS.out.mono ?_
    rintro e w2 ⟨rfl, k2⟩
    have M2 := Lib.hid (M1.out.below k2)
    have C2 := Lib.hid (C1.out.below k2)
    have K2 := Lib.hid (K1.out.below k2)
    have O2 := Lib.hid (O1.out.trans (Only.of_below' (S := fun j => j = p) k2 rfl))
    clear k2 HHAS e2
    have q0 := C2.out.c0
    have q1 := C2.out.c1
    have q2 := C2.out.c2
    have qf := C2.out.free
    have M2' := Lib.hid (show TabM p (srcV F c) (n + ((0 : Nat) : Int)) t w2 by have := M2.out; rwa [show n + ((0 : Nat) : Int) = n by omega])
    go_wp2_with fail
    refine bodyPost_ret (results_c3b rfl _ _ w.heap.size _ _ _ _ _ _ rfl rfl rfl (C2.out.put _ _ _) Tryd.underlying38 rfl sizeEnt) rfl ?_
    exact GetPost.mk' HG.out (M2'.out.put3 (a := w) (Nat.le_refl _) HP.out _ _ _) (only_put3 O2.out (Nat.le_refl _) _ _ _)
  | true =>
    by_cases h0 : r = 0
    · rw [if_pos (.inr h0)] at hG
      have HG := Lib.hid hG
      subst h0
      clear hG
      go_enter Tryd.func15, Tryd.ntmps15
      go_upto_region 1 with (fail)
      rw [← HW1.out]
      go_wp2_with fail
      refine HHAS.out.mono ?_
      rintro e w2 ⟨rfl, k2⟩
      have M2 := Lib.hid (M1.out.below k2)
      have C2 := Lib.hid (C1.out.below k2)
      have K2 := Lib.hid (K1.out.below k2)
      have O2 := Lib.hid (O1.out.trans (Only.of_below' (S := fun j => j = p) k2 rfl))
      clear k2 HHAS e2
      go_wp2_with fail
      refine (HBO.out w2 M2.out).mono ?_
      rintro e w3 ⟨rfl, k3⟩
      have M3 := Lib.hid (M2.out.below k3)
      have C3' := Lib.hid (C2.out.below k3)
      have O3 := Lib.hid (O2.out.trans (Only.of_below' (S := fun j => j = p) k3 rfl))
      have M3' := Lib.hid (show TabM p (srcV F c) (n + ((0 : Nat) : Int)) t w3 by have := M3.out; rwa [show n + ((0 : Nat) : Int) = n by omega])
      clear k3
      have q0 := C3'.out.c0
      have q1 := C3'.out.c1
      have q2 := C3'.out.c2
      have qf := C3'.out.free
      have hneg : (((0 : Nat) : Int) - 1) = -1 := rfl
      go_wp2_with fail
      refine bodyPost_ret (results_c3b rfl _ _ w.heap.size _ _ _ _ _ _ rfl rfl rfl (C3'.out.put _ _ _) Tryd.underlying38 rfl sizeEnt) rfl ?_
      exact GetPost.mk' HG.out (M3'.out.put3 (a := w) (Nat.le_refl _) HP.out _ _ _) (only_put3 O3.out (Nat.le_refl _) _ _ _)
    · rw [if_neg (by rintro (h | h); (cases h); (exact h0 h))] at hG
      obtain ⟨i, hi⟩ : ∃ i, r = i + 1 := ⟨r - 1, by omega⟩
      subst hi
      rw [Nat.add_sub_cancel] at hG
      have hi1 : (((i + 1 : Nat) : Int) - 1) = (i : Int) := by omega
      have HRB := Lib.hid (fun (W : World) (hW : TabM p (srcV F c) n t W) (hKW : Keep K W) => table_readBlock p F c K 0 t n i W (Lib.hid hW) hf hs (Lib.hid hKW) hKp (by omega) hn1 hn2 hl)
      obtain ⟨R, hR⟩ : ∃ R, R = blockD t 0 i := ⟨_, rfl⟩
      have hRT : blockT t i = R := by rw [hR]; rfl
      rw [hRT] at hG
      rw [← hR] at HRB
      have hRr := Lib.hid (show rises R.2 from by rw [← hRT]; exact block_rises t i)
      have hRf := Lib.hid (show R.2.length ≤ 65536 from by rw [← hRT]; exact block_few t i)
      have hRe := Lib.hid (show R.1 ≠ 0 → R.2 = [] from by rw [← hRT]; exact block_err t i)
      have HG := Lib.hid hG
      have hdec : ¬ ((i + 1 : Nat) : Int) - 1 < 0 := by omega
      clear hG hR hRT h0
      go_enter Tryd.func15, Tryd.ntmps15
      go_upto_region 1 with (fail)
      rw [← HW1.out]
      go_wp2_with fail
      refine HHAS.out.mono ?_
      rintro e w2 ⟨rfl, k2⟩
      have M2 := Lib.hid (M1.out.below k2)
      have C2 := Lib.hid (C1.out.below k2)
      have K2 := Lib.hid (K1.out.below k2)
      have O2 := Lib.hid (O1.out.trans (Only.of_below' (S := fun j => j = p) k2 rfl))
      clear k2 HHAS e2
      go_wp2_with fail
      refine (HBO.out w2 M2.out).mono ?_
      rw [hi1]
      rintro e w3 ⟨rfl, k3⟩
      have M3 := Lib.hid (M2.out.below k3)
      have K3 := Lib.hid (K2.out.below k3)
      have C3' := Lib.hid (C2.out.below k3)
      have O3 := Lib.hid (O2.out.trans (Only.of_below' (S := fun j => j = p) k3 rfl))
      have hi2 : i ≤ 65536 := by omega
      clear k3 hi1 hdec
      go_wp2_with fail
      refine (HRB.out w3 M3.out K3.out).mono ?_
      rintro e w4 ⟨⟨xa, xc, rfl, hxc, hxe⟩, hM4, hO4, _⟩
      have M4 := Lib.hid hM4
      have C4 := Lib.hid (C3'.out.table hO4 hpn.out)
      have O4 := Lib.hid (O3.out.trans hO4)
      have HXE := Lib.hid hxe
      clear hM4 hO4 hxc hxe
      obtain ⟨z, hz⟩ : ∃ z, z = R.1 := ⟨_, rfl⟩
      obtain ⟨T, hT⟩ : ∃ T, T = R.2 := ⟨_, rfl⟩
      rw [← hz, ← hT] at HG
      rw [← hz, ← hT] at hRe
      rw [← hT] at hRr hRf HXE
      rw [← hz, ← hT]
      obtain ⟨m, hm⟩ : ∃ m, m = T.length := ⟨_, rfl⟩
      rw [← hm] at hRf HXE ⊢
      have HMl := Lib.hid hm
      have hmf := hRf.out
      clear hz hT hm
      by_cases hz0 : z = 0
      · subst hz0
        go_wp2_with fail
        refine (block_Find xa m xc T key w4 HXE (by omega)).mono ?_
        rintro e w5 ⟨⟨r, rfl, hr1, hr2, hr3⟩, k5⟩
        have M5 := Lib.hid (M4.out.below k5)
        have C5 := Lib.hid (C4.out.below k5)
        have O5 := Lib.hid (O4.out.trans (Only.of_below' (S := fun j => j = p) k5 rfl))
        have X5 := Lib.hid (HXE.out.below k5)
        obtain ⟨f1, f2⟩ := find_at hRr.out hr1 hr2 hr3
        have F1 := Lib.hid f1
        have F2 := Lib.hid f2
        have hrm : r ≤ m := by rw [HMl.out]; exact hr1
        clear k5 hr1 hr2 hr3 f1 f2
        by_cases hrm2 : r = m
        · have HG2 := Lib.hid (show getT t key = (⟨[], [], false⟩, false, 0, 1) by
            rw [HG.out, F2.out (fun x hx => by have := (List.getElem?_eq_some_iff.1 hx).1; rw [← HMl.out] at this; omega)])
          have hrmi : (r : Int) = (m : Int) := by omega
          have hrmb : ((r : Int) == (m : Int)) = true := beq_iff_eq.2 hrmi
          clear hrm2 hrm
          have q0 := C5.out.c0
          have q1 := C5.out.c1
          have q2 := C5.out.c2
          have qf := C5.out.free
          go_wp2_with fail
          refine bodyPost_ret (results_c3b rfl _ _ w.heap.size _ _ _ _ _ _ rfl rfl rfl (C5.out.put _ _ _) Tryd.underlying38 rfl sizeEnt) rfl ?_
          exact GetPost.mk' HG2.out (M5.out.put3 (a := w) (Nat.le_refl _) HP.out _ _ _) (only_put3 O5.out (Nat.le_refl _) _ _ _)
        · obtain ⟨b2, off2, x, rfl, hx, _, hcx⟩ := X5.out.at (k := r) (by omega)
          have d0 := hcx.c0
          have d1 := hcx.c1
          have d2 := hcx.c2
          have hrmi : ¬ (r : Int) = (m : Int) := by omega
          have hrmb : ((r : Int) == (m : Int)) = false := beq_eq_false_iff_ne.2 hrmi
          have hrlt : (r : Int) < (m : Int) := by omega
          by_cases hkk : x.key = key
          · have HG2 := Lib.hid (show getT t key = (x, true, 0, 1) by rw [HG.out, F1.out x hx hkk])
            have hcm : ((bs x.key).toList == (bs key).toList) = true := (same_bytes _ _).2 hkk
            have hcp : (bs x.key).toList = (bs key).toList := by rw [hkk]
            clear hrm2 hrm hx hkk
            have q0 := C5.out.c0
            have q1 := C5.out.c1
            have q2 := C5.out.c2
            have qf := C5.out.free
            go_wp2_with fail
            refine bodyPost_ret (results_c3b rfl _ _ w.heap.size _ _ _ _ _ _ rfl rfl rfl (C5.out.put _ _ _) Tryd.underlying38 rfl sizeEnt) rfl ?_
            exact GetPost.mk' HG2.out (M5.out.put3 (a := w) (Nat.le_refl _) HP.out _ _ _) (only_put3 O5.out (Nat.le_refl _) _ _ _)
          · have HG2 := Lib.hid (show getT t key = (⟨[], [], false⟩, false, 0, 1) by
              rw [HG.out, F2.out (fun y hy => by rw [hx] at hy; injection hy with hy; rw [← hy]; exact hkk)])
            have hcm : ((bs x.key).toList == (bs key).toList) = false := by
              cases h : ((bs x.key).toList == (bs key).toList) with
              | false => rfl
              | true => exact absurd ((same_bytes _ _).1 h) hkk
            have hcp : ¬ (bs x.key).toList = (bs key).toList := fun h => by rw [h] at hcm; simp at hcm
            clear hrm2 hrm hx hkk
            have q0 := C5.out.c0
            have q1 := C5.out.c1
            have q2 := C5.out.c2
            have qf := C5.out.free
            go_wp2_with fail
            refine bodyPost_ret (results_c3b rfl _ _ w.heap.size _ _ _ _ _ _ rfl rfl rfl (C5.out.put _ _ _) Tryd.underlying38 rfl sizeEnt) rfl ?_
            exact GetPost.mk' HG2.out (M5.out.put3 (a := w) (Nat.le_refl _) HP.out _ _ _) (only_put3 O5.out (Nat.le_refl _) _ _ _)
      · have hTe := hRe.out hz0
        have hzb : (z == 0) = false := beq_eq_false_iff_ne.2 hz0
        have HG2 := Lib.hid (show getT t key = (⟨[], [], false⟩, false, z, 1) by rw [HG.out, hTe]; rfl)
        clear hTe hz0
        have q0 := C4.out.c0
        have q1 := C4.out.c1
        have q2 := C4.out.c2
        have qf := C4.out.free
        go_wp2_with fail
        refine bodyPost_ret (results_c3b rfl _ _ w.heap.size _ _ _ _ _ _ rfl rfl rfl (C4.out.put _ _ _) Tryd.underlying38 rfl sizeEnt) rfl ?_
        exact GetPost.mk' HG2.out (M4.out.put3 (a := w) (Nat.le_refl _) HP.out _ _ _) (only_put3 O4.out (Nat.le_refl _) _ _ _)
end Go.Proofs.YteejldddgogbkaaDoor
/- What a walk tells, in plain words. -/
set_option linter.unusedVariables false
set_option maxRecDepth 100000
namespace Go.Proofs.YteejldddgogbkaaDoor
open Go.RowKit

/-- f blocks from the i-th on, up to the first error; the source refuses with d. -/
def scanD (t : Tab) (d : Int) (k : List UInt8) : Nat → Nat → Int × List Ent
  | 0, _ => (0, [])
  | f + 1, i => if (blockD t d i).1 ≠ 0 then ((blockD t d i).1, []) else ((scanD t d k f (i + 1)).1, fromE k (blockD t d i).2 ++ (scanD t d k f (i + 1)).2)
theorem scanD_zero (t : Tab) (k : List UInt8) : ∀ f i, scanD t 0 k f i = scanG t k f i
  | 0, _ => rfl
  | f + 1, i => by
    unfold scanD scanG
    rw [scanD_zero t k f (i + 1)]
    rfl
/-- What a walk tells from where it stands: R is what is left of the block, z the error, i the block that is next. -/
def restW (t : Tab) (d : Int) (k : List UInt8) (R : List Ent) (z : Int) (i : Nat) : Int × List Ent :=
  if z ≠ 0 then (z, R) else ((scanD t d k (t.index.length - i) i).1, R ++ (scanD t d k (t.index.length - i) i).2)
theorem fromE_drop {k : List UInt8} {T : List Ent} (hT : rises T) {r : Nat} (h1 : r ≤ T.length) (h2 : ∀ x, 0 < r → T[r - 1]? = some x → ltB x.key k = true) (h3 : ∀ x, T[r]? = some x → ltB x.key k = false) : T.drop r = fromE k T := by
  have hpl := find_place hT h1 h2 h3
  have hA : fromE k (T.take r) = [] := by
    unfold fromE
    rw [List.filter_eq_nil_iff]
    intro x hx
    obtain ⟨i, hi⟩ := List.mem_iff_getElem?.1 hx
    have hir : i < r := by have := (List.getElem?_eq_some_iff.1 hi).1; rw [List.length_take] at this; omega
    rw [List.getElem?_take, if_pos hir] at hi
    have := place_iff k hT i x hi
    rw [hpl, decide_eq_true hir] at this
    rw [this]
    decide
  have hB : fromE k (T.drop r) = T.drop r := by
    unfold fromE
    rw [List.filter_eq_self]
    intro x hx
    obtain ⟨i, hi⟩ := List.mem_iff_getElem?.1 hx
    rw [List.getElem?_drop] at hi
    have := place_iff k hT (r + i) x hi
    rw [hpl, decide_eq_false (by omega)] at this
    rw [this]
    rfl
  conv => rhs; rw [← List.take_append_drop r T]
  rw [fromE_app, hA, hB, List.nil_append]
theorem blockD_err (t : Tab) (d : Int) (i : Nat) : (blockD t d i).1 ≠ 0 → (blockD t d i).2 = [] := by
  unfold blockD
  split
  · exact fun _ => rfl
  · exact block_err t i
theorem blockD_rises (t : Tab) (d : Int) (i : Nat) : rises (blockD t d i).2 := by
  unfold blockD
  split
  · trivial
  · exact block_rises t i
theorem blockD_few (t : Tab) (d : Int) (i : Nat) : (blockD t d i).2.length ≤ 65536 := by
  unfold blockD
  split
  · exact Nat.zero_le _
  · exact block_few t i
/-- One block more is read. -/
theorem rest_next {t : Tab} {d : Int} {k : List UInt8} {i : Nat} (hi : i < t.index.length) : restW t d k [] 0 i = restW t d k (if (blockD t d i).1 ≠ 0 then [] else fromE k (blockD t d i).2) (blockD t d i).1 (i + 1) := by
  obtain ⟨f, hf⟩ : ∃ f, t.index.length - i = f + 1 := ⟨t.index.length - i - 1, by omega⟩
  have hf2 : t.index.length - (i + 1) = f := by omega
  have hs : scanD t d k (f + 1) i = (if (blockD t d i).1 ≠ 0 then ((blockD t d i).1, []) else ((scanD t d k f (i + 1)).1, fromE k (blockD t d i).2 ++ (scanD t d k f (i + 1)).2)) := rfl
  unfold restW
  rw [if_neg (fun h => h rfl), hf, hf2, List.nil_append, hs]
  by_cases h : (blockD t d i).1 = 0 <;> simp [h]
theorem rest_end {t : Tab} {d : Int} {k : List UInt8} {i : Nat} (hi : t.index.length ≤ i) : restW t d k [] 0 i = (0, []) := by
  unfold restW
  rw [if_neg (fun h => h rfl), show t.index.length - i = 0 by omega]
  rfl
theorem rest_bad {t : Tab} {d : Int} {k : List UInt8} {i : Nat} {z : Int} (hz : z ≠ 0) : restW t d k [] z i = (z, []) := by unfold restW; rw [if_pos hz]
theorem rest_cons {t : Tab} {d : Int} {k : List UInt8} {i : Nat} {z Z : Int} {x : Ent} {R L : List Ent} (h : restW t d k (x :: R) z i = (Z, L)) : ∃ L1, L = x :: L1 ∧ restW t d k R z i = (Z, L1) := by
  unfold restW at h ⊢
  split at h
  · injection h with h1 h2
    rename_i hz
    rw [if_pos hz]
    exact ⟨R, h2.symm, by rw [h1]⟩
  · injection h with h1 h2
    rename_i hz
    rw [if_neg hz, h1]
    exact ⟨_, h2.symm, rfl⟩
end Go.Proofs.YteejldddgogbkaaDoor
