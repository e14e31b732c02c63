/- The document's own answers over keys: words, order, digits. -/
import Derived.Test.YthgbjanefljjcaaDoorShaRefSum
import Derived.Deep.QuietTactic
import Derived.BigQuiet
set_option linter.unusedVariables false
namespace Go.Proofs.YthgbjanefljjcaaDoor
open Go.RowKit

/-- A key's cells. -/
def keyA (l : List UInt8) : Array Value := (l.map fun b => Value.int .u8 (b.toNat : Int)).toArray
theorem keyA_new (w : World) (l : List UInt8) (hl : l.length = 32) (t : TypeId) : Key8 w.heap.size (byteAt l) (w.alloc (.cells (keyA l) t)) := by
  refine ⟨by show w.heap.size < (w.heap.push _).size; simp, fun j hj => ⟨?_, ?_⟩⟩
  · rw [World.cell?_alloc_mark]
    simp [keyA, byteAt, hl, hj, List.getD_eq_getElem?_getD]
  · rw [World.frozen?_alloc_mark]
    simp

theorem ret_u32' {a b : Nat} (h : b = a) : Ending.returned (.int .u32 (a : Int)) = Ending.returned (.int .u32 (b : Int)) := by rw [h]
theorem ret_bool {a b : Bool} (h : b = a) : Ending.returned (.bool a) = Ending.returned (.bool b) := by rw [h]
theorem word_index (n : Int) (h1 : -9223372036854775808 ≤ n) (h2 : n ≤ 9223372036854775807) : (wrap64 (n.tmod 8 + 8)).tmod 8 = (((n % 8).toNat : Nat) : Int) := by
  have e : wrap64 (n.tmod 8 + 8) = n.tmod 8 + 8 ∧ 0 ≤ n.tmod 8 + 8 ∧ (n.tmod 8 + 8) % 8 = n % 8 := by
    rcases Int.le_total 0 n with h | h
    · rw [Int.tmod_eq_emod_of_nonneg h]
      unfold wrap64
      omega
    · obtain ⟨m, rfl⟩ : ∃ m, n = -m := ⟨-n, by omega⟩
      rw [Int.neg_tmod, Int.tmod_eq_emod_of_nonneg (by omega)]
      unfold wrap64
      omega
  rw [e.1, Int.tmod_eq_emod_of_nonneg e.2.1, e.2.2]
  omega

set_option maxHeartbeats 400000 in
theorem ref_Word (l : List UInt8) (n : Int) (w : World) (hl : Hid (l.length = 32)) (h1 : -9223372036854775808 ≤ n) (h2 : n ≤ 9223372036854775807) :
    Calls Tryd.prog 17 #[.agg (keyA l), .int .i64 n] w fun e w' => e = .returned (.int .u32 (wordAt l (4 * (n % 8).toNat))) ∧ Below w.heap.size w w' := by
  have hm := word_index n h1 h2
  have hm8 : (n % 8).toNat < 8 := by omega
  have HKEY := Lib.hid (keyA_new w l hl.out 25)
  have HB := Lib.hid (((Below.refl w.heap.size w).alloc (Nat.le_refl _) (.cells (keyA l) 25)))
  generalize (n % 8).toNat = m at *
  go_enter Tryd.func17, Tryd.ntmps17
  go_wp2_with fail
  generalize w.alloc (.cells (keyA l) 25) = w1 at *
  have HM := Lib.hid hm
  clear hm
  go_loopw [5, 6] (fun x i wr => ∃ j : Nat, j ≤ 4 ∧ i = .int .i64 j ∧ x = .int .u32 (partW l (4 * m) j) ∧ wr = w1) (fun x i wr => 4 - (intOf i).toNat)
  case atStart => exact ⟨0, by omega, rfl, rfl, rfl⟩
  case round =>
    obtain ⟨j, hj, rfl, rfl, rfl⟩ := hrel
    by_cases hj4 : j < 4
    · have hXl := partW_lt l (4 * m) j hj4
      have HX := Lib.hid (show partW l (4 * m) (j + 1) = 256 * partW l (4 * m) j + byteAt l (4 * m + j) from rfl)
      obtain ⟨o, ho⟩ : ∃ o, o = 4 * m + j := ⟨_, rfl⟩
      have ho' : 4 * (m : Int) + (j : Int) = (o : Int) := by omega
      have ho2 : (o : Int) < 32 := by omega
      have c1 := (HKEY.out.2 o (by omega)).1
      have hbl := byteAt_lt l o
      rw [← ho] at HX
      generalize partW l (4 * m) j = X at *
      generalize byteAt l o = y at *
      clear ho
      go_wp2_with fail
      go_roundw
      case rel => exact ⟨j + 1, by omega, by go_num, by rw [HX.out]; go_num, trivial⟩
      case measure => simp [intOf]; omega
    · obtain rfl : j = 4 := by omega
      have HX := Lib.hid (partW_four l (4 * m))
      go_wp2_with fail
      go_ret
      exact ⟨ret_u32' HX.out.symm, HB.out⟩

/-! ### Order -/
def lessL : List UInt8 → List UInt8 → Bool
  | a :: l, b :: m => if a = b then lessL l m else decide (a.toNat < b.toNat)
  | _, _ => false
theorem lessL_at : ∀ (l m : List UInt8) (i : Nat) (hl : i < l.length) (hm : i < m.length), l.take i = m.take i → l[i] ≠ m[i] → lessL l m = decide (l[i].toNat < m[i].toNat)
  | a :: l, b :: m, 0, _, _, _, h => by simp at h; simp [lessL, h]
  | a :: l, b :: m, i + 1, hl, hm, ht, h => by
    simp at ht
    simp only [lessL, ht.1, if_true]
    exact lessL_at l m i (by simpa using hl) (by simpa using hm) ht.2 (by simpa using h)
theorem lessL_same : ∀ l, lessL l l = false
  | [] => rfl
  | a :: l => by simp [lessL, lessL_same l]

theorem take_same {l m : List UInt8} {i : Nat} (h : l.take i = m.take i) (hl : i < l.length) (hm : i < m.length) (he : l[i] = m[i]) : l.take (i + 1) = m.take (i + 1) := by
  rw [List.take_add_one, List.take_add_one, h, List.getElem?_eq_getElem hl, List.getElem?_eq_getElem hm, he]
theorem byteAt_get (l : List UInt8) (i : Nat) (h : i < l.length) : byteAt l i = l[i].toNat := by
  unfold byteAt
  rw [List.getD_eq_getElem?_getD, List.getElem?_eq_getElem h]
  rfl

set_option maxHeartbeats 400000 in
theorem ref_Less (l m : List UInt8) (w : World) (hl : Hid (l.length = 32)) (hm : Hid (m.length = 32)) :
    Calls Tryd.prog 15 #[.agg (keyA l), .agg (keyA m)] w fun e w' => e = .returned (.bool (lessL l m)) ∧ Below w.heap.size w w' := by
  have HK1 := Lib.hid ((keyA_new w l hl.out 25).keep ((Below.refl (w.heap.size + 1) (w.alloc (.cells (keyA l) 25))).alloc (by simp) (.cells (keyA m) 25)) (by omega))
  have HK2 := Lib.hid (show Key8 (w.heap.size + 1) (byteAt m) ((w.alloc (.cells (keyA l) 25)).alloc (.cells (keyA m) 25)) by
    have h := keyA_new (w.alloc (.cells (keyA l) 25)) m hm.out 25
    rwa [show (w.alloc (.cells (keyA l) 25)).heap.size = w.heap.size + 1 by simp] at h)
  have HB := Lib.hid ((((Below.refl w.heap.size w).alloc (Nat.le_refl _) (.cells (keyA l) 25))).alloc (by simp) (.cells (keyA m) 25))
  go_enter Tryd.func15, Tryd.ntmps15
  go_wp2_with fail
  generalize (w.alloc (.cells (keyA l) 25)).alloc (.cells (keyA m) 25) = w2 at *
  go_loopw [5] (fun vi wr => ∃ i : Nat, i ≤ 32 ∧ vi = .int .i64 i ∧ Hid (l.take i = m.take i) ∧ Hid (∃ n, wr = w2.drewN n)) (fun vi wr => 32 - (intOf vi).toNat)
  case atStart => exact ⟨0, by omega, rfl, Lib.hid rfl, Lib.hid ⟨0, rfl⟩⟩
  case round =>
    obtain ⟨i, hi, rfl, ht, hd⟩ := hrel
    by_cases hi32 : i < 32
    · have K1 := Lib.hid (show Key8 w.heap.size (byteAt l) wr by obtain ⟨n, hn⟩ := hd.out; rw [hn]; exact ⟨HK1.out.1, HK1.out.2⟩)
      have K2 := Lib.hid (show Key8 (w.heap.size + 1) (byteAt m) wr by obtain ⟨n, hn⟩ := hd.out; rw [hn]; exact ⟨HK2.out.1, HK2.out.2⟩)
      have c1 := (K1.out.2 i hi32).1
      have c2 := (K2.out.2 i hi32).1
      have HE1 := Lib.hid (byteAt_get l i (by rw [hl.out]; exact hi32))
      have HE2 := Lib.hid (byteAt_get m i (by rw [hm.out]; exact hi32))
      obtain ⟨y1, hy1⟩ : ∃ y, y = byteAt l i := ⟨_, rfl⟩
      obtain ⟨y2, hy2⟩ : ∃ y, y = byteAt m i := ⟨_, rfl⟩
      rw [← hy1] at c1 HE1
      rw [← hy2] at c2 HE2
      clear hy1 hy2
      by_cases he : y1 = y2
      · have hb : ((y1 : Int) == (y2 : Int)) = true := beq_iff_eq.2 (by omega)
        have HT := Lib.hid (take_same ht.out (by rw [hl.out]; exact hi32) (by rw [hm.out]; exact hi32) (UInt8.toNat_inj.1 (by rw [← HE1.out, ← HE2.out, he])))
        clear he
        go_wp2_with fail
        go_quiet (fail)
        have HD := Lib.hid (show ∃ n, wr.drewN nq = w2.drewN n by obtain ⟨n, hn⟩ := hd.out; exact ⟨n + nq, by rw [hn, World.drewN_drewN]⟩)
        generalize wr.drewN nq = wq at *
        go_wp2_with fail
        go_roundw
        case rel => exact ⟨i + 1, by omega, by go_num, HT, HD⟩
        case measure => simp [intOf]; omega
      · have hb : ((y1 : Int) == (y2 : Int)) = false := beq_eq_false_iff_ne.2 (by omega)
        have HL := Lib.hid (lessL_at l m i (by rw [hl.out]; exact hi32) (by rw [hm.out]; exact hi32) ht.out (fun h => he (by rw [HE1.out, HE2.out, h])))
        go_wp2_with fail
        go_quiet (fail)
        go_wp2_with fail
        go_quiet (fail)
        go_wp2_with fail
        have HLY := Lib.hid (show lessL l m = decide (y1 < y2) by rw [HL.out, HE1.out, HE2.out])
        have HW := Lib.hid (show Below w.heap.size w wr by obtain ⟨n, hn⟩ := hd.out; rw [hn]; exact below_drewN HB.out n)
        go_ret
        exact ⟨ret_bool HLY.out, below_drewN (below_drewN HW.out _) _⟩
    · obtain rfl : i = 32 := by omega
      have HS : l = m := by
        have h := ht.out
        rw [List.take_of_length_le (by rw [hl.out]; exact Nat.le_refl _), List.take_of_length_le (by rw [hm.out]; exact Nat.le_refl _)] at h
        exact h
      have HL := Lib.hid (show lessL l m = false by rw [HS]; exact lessL_same m)
      have HW := Lib.hid (show Below w.heap.size w wr by obtain ⟨n, hn⟩ := hd.out; rw [hn]; exact below_drewN HB.out n)
      clear HS
      go_wp2_with fail
      go_ret
      exact ⟨ret_bool HL.out, HW.out⟩

/-! ### Digits -/
def digN (k : Nat) : Nat := if k < 10 then 48 + k else 87 + k
def digO (c : Nat) : Nat := if 48 ≤ c ∧ c ≤ 57 then c - 48 else if 97 ≤ c ∧ c ≤ 102 then c - 87 else 16
theorem hex_at (k : Nat) (h : k < 16) : (({ data := #[48, 49, 50, 51, 52, 53, 54, 55, 56, 57, 97, 98, 99, 100, 101, 102] } : ByteArray)[k]'(by exact h)).toNat = digN k := by
  have : k = 0 ∨ k = 1 ∨ k = 2 ∨ k = 3 ∨ k = 4 ∨ k = 5 ∨ k = 6 ∨ k = 7 ∨ k = 8 ∨ k = 9 ∨ k = 10 ∨ k = 11 ∨ k = 12 ∨ k = 13 ∨ k = 14 ∨ k = 15 := by omega
  rcases this with rfl | rfl | rfl | rfl | rfl | rfl | rfl | rfl | rfl | rfl | rfl | rfl | rfl | rfl | rfl | rfl <;> rfl

theorem digO_at (k : Nat) (h : k < 16) : digO (digN k) = k := by unfold digO digN; split <;> split <;> (try split) <;> omega
theorem digO_none (c : Nat) (h : ∀ j, j < 16 → digN j ≠ c) : digO c = 16 := by
  unfold digO
  by_cases h1 : 48 ≤ c ∧ c ≤ 57
  · exact absurd (show digN (c - 48) = c by unfold digN; rw [if_pos (by omega)]; omega) (h _ (by omega))
  · rw [if_neg h1]
    by_cases h2 : 97 ≤ c ∧ c ≤ 102
    · exact absurd (show digN (c - 87) = c by unfold digN; rw [if_neg (by omega)]; omega) (h _ (by omega))
    · rw [if_neg h2]
theorem ret_u8 {a b : Nat} (h : b = a) : Ending.returned (.int .u8 (a : Int)) = Ending.returned (.int .u8 (b : Int)) := by rw [h]
theorem ret_u8i {a : Int} {b : Nat} (h : (b : Int) = a) : Ending.returned (.int .u8 a) = Ending.returned (.int .u8 (b : Int)) := by rw [h]

set_option maxHeartbeats 400000 in
theorem ref_digit (c : Nat) (w : World) (hc : c < 256) :
    Calls Tryd.prog 26 #[.int .u8 c] w fun e w' => e = .returned (.int .u8 (digO c)) ∧ w = w' := by
  go_enter Tryd.func26, Tryd.ntmps26
  go_wp2_with fail
  go_loopw [3] (fun vi wr => ∃ k : Nat, k ≤ 16 ∧ vi = .int .i64 k ∧ Hid (∀ j, j < k → digN j ≠ c) ∧ wr = w) (fun vi wr => 16 - (intOf vi).toNat)
  case atStart => exact ⟨0, by omega, rfl, Lib.hid (fun j h => by omega), rfl⟩
  case round =>
    obtain ⟨k, hk, rfl, hn, rfl⟩ := hrel
    by_cases hk16 : k < 16
    · have hx := hex_at k hk16
      have HO := Lib.hid (digO_at k hk16)
      obtain ⟨D, hD⟩ : ∃ D, D = digN k := ⟨_, rfl⟩
      rw [← hD] at hx HO
      have HD := Lib.hid hD
      clear hD
      by_cases he : D = c
      · subst he
        have hb : ((D : Int) == (D : Int)) = true := beq_iff_eq.2 rfl
        go_wp2_with fail
        go_ret
        exact ⟨ret_u8 HO.out, rfl⟩
      · have hb : ((D : Int) == (c : Int)) = false := beq_eq_false_iff_ne.2 (by omega)
        have HN := Lib.hid (show ∀ j, j < k + 1 → digN j ≠ c from fun j hj => by
          by_cases hjk : j = k
          · subst hjk; rw [← HD.out]; exact he
          · exact hn.out j (by omega))
        go_wp2_with fail
        go_roundw
        case rel => exact ⟨k + 1, by omega, by go_num, HN, trivial⟩
        case measure => simp [intOf]; omega
    · obtain rfl : k = 16 := by omega
      have HO := Lib.hid (digO_none c hn.out)
      go_wp2_with fail
      go_ret
      exact ⟨ret_u8i (by rw [HO.out]; rfl), rfl⟩

def digB (k : Nat) : UInt8 := UInt8.ofNat (digN k)
def hexL (l : List UInt8) : List UInt8 := l.flatMap fun b => [digB (b.toNat / 16), digB (b.toNat % 16)]
theorem hexL_len (l : List UInt8) : (hexL l).length = 2 * l.length := by
  induction l with
  | nil => rfl
  | cons b l ih => unfold hexL at ih ⊢; simp only [List.flatMap_cons, List.length_append, List.length_cons, List.length_nil, ih]; omega
theorem hexL_next (l : List UInt8) (i : Nat) (h : i < l.length) : hexL (l.take (i + 1)) = hexL (l.take i) ++ [digB (byteAt l i / 16)] ++ [digB (byteAt l i % 16)] := by
  unfold hexL
  rw [List.take_add_one, List.flatMap_append, List.getElem?_eq_getElem h, byteAt_get l i h]
  simp
theorem hex_piece (k : Nat) (h : k < 16) : ({ data := #[48, 49, 50, 51, 52, 53, 54, 55, 56, 57, 97, 98, 99, 100, 101, 102] } : ByteArray).extract k (k + 1) = bs [digB k] := by
  have : k = 0 ∨ k = 1 ∨ k = 2 ∨ k = 3 ∨ k = 4 ∨ k = 5 ∨ k = 6 ∨ k = 7 ∨ k = 8 ∨ k = 9 ∨ k = 10 ∨ k = 11 ∨ k = 12 ∨ k = 13 ∨ k = 14 ∨ k = 15 := by omega
  rcases this with rfl | rfl | rfl | rfl | rfl | rfl | rfl | rfl | rfl | rfl | rfl | rfl | rfl | rfl | rfl | rfl <;> rfl

set_option maxHeartbeats 1000000 in
set_option maxRecDepth 100000 in
theorem ref_Hex (l : List UInt8) (w : World) (hl : Hid (l.length = 32)) :
    Calls Tryd.prog 13 #[.agg (keyA l)] w fun e w' => e = .returned (.string (bs (hexL l))) ∧ Below w.heap.size w w' := by
  have HKEY := Lib.hid (keyA_new w l hl.out 25)
  have HB := Lib.hid (((Below.refl w.heap.size w).alloc (Nat.le_refl _) (.cells (keyA l) 25)))
  go_enter Tryd.func13, Tryd.ntmps13
  go_wp2_with fail
  generalize w.alloc (.cells (keyA l) 25) = w2 at *
  go_loopw [3, 4] (fun vs vi wr => ∃ i : Nat, i ≤ 32 ∧ vi = .int .i64 i ∧ vs = .string (bs (hexL (l.take i))) ∧ Hid (∃ n, wr = w2.drewN n)) (fun vs vi wr => 32 - (intOf vi).toNat)
  case atStart => exact ⟨0, by omega, rfl, rfl, Lib.hid ⟨0, rfl⟩⟩
  case round =>
    obtain ⟨i, hi, rfl, rfl, hd⟩ := hrel
    by_cases hi32 : i < 32
    · have K1 := Lib.hid (show Key8 w.heap.size (byteAt l) wr by obtain ⟨n, hn⟩ := hd.out; rw [hn]; exact ⟨HKEY.out.1, HKEY.out.2⟩)
      have c1 := (K1.out.2 i hi32).1
      have HN := Lib.hid (hexL_next l i (by rw [hl.out]; exact hi32))
      have hlen := hexL_len (l.take i)
      rw [List.length_take] at hlen
      have hyl := byteAt_lt l i
      obtain ⟨L, hL⟩ : ∃ L, L = hexL (l.take i) := ⟨_, rfl⟩
      obtain ⟨y, hy⟩ : ∃ y, y = byteAt l i := ⟨_, rfl⟩
      rw [← hy] at c1 HN hyl
      rw [← hL] at hlen HN ⊢
      obtain ⟨n1, hn1⟩ : ∃ n, n = y / 16 := ⟨_, rfl⟩
      obtain ⟨n2, hn2⟩ : ∃ n, n = y % 16 := ⟨_, rfl⟩
      have e1 : (y : Int) / 16 = (n1 : Int) := by omega
      have e2 : (y : Int) % 16 = (n2 : Int) := by omega
      have l1 : n1 < 16 := by omega
      have l2 : n2 < 16 := by omega
      rw [← hn1, ← hn2] at HN
      have p1 := hex_piece n1 l1
      have p2 := hex_piece n2 l2
      obtain ⟨d1, hd1⟩ : ∃ d, d = bs [digB n1] := ⟨_, rfl⟩
      obtain ⟨d2, hd2⟩ : ∃ d, d = bs [digB n2] := ⟨_, rfl⟩
      obtain ⟨L1, hL1⟩ : ∃ x, x = bs (L ++ [digB n1]) := ⟨_, rfl⟩
      obtain ⟨L2, hL2⟩ : ∃ x, x = bs (L ++ [digB n1] ++ [digB n2]) := ⟨_, rfl⟩
      obtain ⟨L0, hL0⟩ : ∃ x, x = bs L := ⟨_, rfl⟩
      rw [← hd1] at p1
      rw [← hd2] at p2
      have hcat1 : L0 ++ d1 = L1 := by rw [hL0, hd1, hL1, bs_cat, bs_list]
      have hcat2 : L1 ++ d2 = L2 := by rw [hL1, hd2, hL2, bs_cat, bs_list]
      have hs1 : (L0.size : Int) + (d1.size : Int) ≤ 9223372036854775807 := by rw [hL0, hd1, bs_size, bs_size]; simp; omega
      have hs2 : (L1.size : Int) + (d2.size : Int) ≤ 9223372036854775807 := by rw [hL1, hd2, bs_size, bs_size]; simp; omega
      have HL2 := Lib.hid (show L2 = bs (hexL (l.take (i + 1))) by rw [hL2, HN.out])
      rw [← hL0]
      clear hd1 hd2 hL0 hL1 hL2 HN
      clear hL hy hn1 hn2 hlen
      go_wp2_with fail
      go_quiet (fail)
      have HD := Lib.hid (show ∃ n, wr.drewN nq = w2.drewN n by obtain ⟨n, hn⟩ := hd.out; exact ⟨n + nq, by rw [hn, World.drewN_drewN]⟩)
      generalize wr.drewN nq = wq at *
      clear e1 e2 p1 p2 hcat1 hcat2 hs1 hs2 c1
      go_wp2_with fail
      go_roundw
      case rel => exact ⟨i + 1, by omega, by go_num, by rw [HL2.out], HD⟩
      case measure => simp [intOf]; omega
    · obtain rfl : i = 32 := by omega
      have hall : l.take 32 = l := List.take_of_length_le (by rw [hl.out]; exact Nat.le_refl _)
      have HW := Lib.hid (show Below w.heap.size w wr by obtain ⟨n, hn⟩ := hd.out; rw [hn]; exact below_drewN HB.out n)
      rw [hall]
      clear hall
      go_wp2_with fail
      go_ret
      exact ⟨rfl, HW.out⟩

/-! ### Parse -/
def zeroL : List UInt8 := List.replicate 32 0
def dg (s : List UInt8) (j : Nat) : Nat := digO (byteAt s j)
theorem digO_le (c : Nat) : digO c ≤ 16 := by unfold digO; split <;> (try split) <;> omega
def parseK (s : List UInt8) : List UInt8 := (List.range 32).map fun m => UInt8.ofNat (16 * dg s (2 * m) + dg s (2 * m + 1))
def fine (s : List UInt8) : Prop := s.length = 64 ∧ ∀ j, j < 64 → dg s j ≠ 16
/-- A key's bytes where so many digits are gone over. -/
def pfill (s : List UInt8) (i m : Nat) : Nat := if m < i / 2 then 16 * dg s (2 * m) + dg s (2 * m + 1) else if m = i / 2 ∧ i % 2 = 1 then dg s (2 * m) else 0
theorem pfill_zero (s : List UInt8) (m : Nat) : pfill s 0 m = 0 := by unfold pfill; rw [if_neg (by omega), if_neg (by omega)]
theorem pfill_next (s : List UInt8) (i m : Nat) : (if m = i / 2 then 16 * pfill s i (i / 2) + dg s i else pfill s i m) = pfill s (i + 1) m := by
  unfold pfill
  by_cases hm : m = i / 2
  · subst hm
    rw [if_pos rfl, if_neg (by omega)]
    rcases Nat.mod_two_eq_zero_or_one i with h | h
    · rw [if_neg (by omega), if_neg (by omega), if_pos (by omega), show 2 * (i / 2) = i by omega]
      omega
    · rw [if_pos (by omega), if_pos (by omega), show 2 * (i / 2) + 1 = i by omega]
  · rw [if_neg hm]
    by_cases h : m < i / 2
    · rw [if_pos h, if_pos (by omega)]
    · rw [if_neg h, if_neg (by omega), if_neg (by omega), if_neg (by omega)]
theorem pfill_small (s : List UInt8) (i : Nat) (h : ∀ j, j < i → dg s j ≠ 16) (hi : dg s i ≠ 16) : 16 * pfill s i (i / 2) + dg s i < 256 := by
  have h1 := digO_le (byteAt s i)
  have h0 : dg s i ≤ 15 := by unfold dg at hi ⊢; omega
  unfold pfill
  rw [if_neg (by omega)]
  by_cases ho : i / 2 = i / 2 ∧ i % 2 = 1
  · rw [if_pos ho]
    have h2 := digO_le (byteAt s (2 * (i / 2)))
    have h3 := h (2 * (i / 2)) (by omega)
    unfold dg at h3 ⊢
    unfold dg at h0
    omega
  · rw [if_neg ho]; omega
theorem parseK_len (s : List UInt8) : (parseK s).length = 32 := by simp [parseK]
theorem parseK_at (s : List UInt8) (h : ∀ j, j < 64 → dg s j ≠ 16) (m : Nat) (hm : m < 32) : byteAt (parseK s) m = pfill s 64 m := by
  have h1 := h (2 * m) (by omega)
  have h2 := h (2 * m + 1) (by omega)
  have h3 := digO_le (byteAt s (2 * m))
  have h4 := digO_le (byteAt s (2 * m + 1))
  rw [byteAt_get _ m (by rw [parseK_len]; exact hm)]
  unfold pfill
  rw [if_pos (by omega)]
  simp only [parseK, List.getElem_map, List.getElem_range, ofNat_toNat]
  unfold dg at *
  omega

theorem range_of {b : Nat} {g : Nat → Nat} {l : List UInt8} {w : World} (h : Key8 b g w) (hl : l.length = 32) (hg : ∀ m, m < 32 → g m = byteAt l m) : w.rangeAt b 0 (keyA l).toList := by
  intro j v hj
  have hlt : j < 32 := by
    have := (List.getElem?_eq_some_iff.1 hj).1
    simp [keyA, hl] at this
    exact this
  rw [Nat.zero_add, (h.2 j hlt).1, hg j hlt, byteAt_get l j (by omega)]
  simp [keyA] at hj
  obtain ⟨x, hx, rfl⟩ := hj
  have : l[j]'(by omega) = x := by
    rw [List.getElem?_eq_getElem (by omega)] at hx
    exact Option.some.inj hx
  rw [this]
theorem keyA_size (l : List UInt8) : (keyA l).size = l.length := by simp [keyA]
theorem keyA_one (l : List UInt8) : (keyA l).all (·.oneCell') = true := by
  rw [Array.all_eq_true_iff_forall_mem]
  intro v hv
  unfold keyA at hv
  simp at hv
  obtain ⟨b, _, rfl⟩ := hv
  rfl
theorem results_cell_bool {fn : Func} {p u : Tmp} {ty : TypeId} (h : fn.results = #[.cell p ty, .tmp u]) (tmps : Array Value) (P : Program) (w : World) (b o : Nat) (cs : List Value) (d : TypeDesc) (x : Value) (hp : tmps.getD p undef = .pointer (some ⟨b, o, none⟩)) (hx : tmps.getD u undef = x) (hc : w.rangeAt b o cs)
    (hu : P.underlying ty = some d) (hd : d.isRow = true) (hi : (P.info? ty).map (·.size) = some cs.length) :
    (results fn tmps).run P w = .ok (.tuple #[.agg cs.toArray, x]) w := by
  have hl := run_loadVar_mid w b o ty cs d hc hu hd hi
  have hp' : tmps[p]?.getD undef = .pointer (some ⟨b, o, none⟩) := by simpa using hp
  have hx' : tmps[u]?.getD undef = x := by simpa using hx
  simp only [results, h]
  simp [Sem.run_bind, Result.andThen, hp', hx', asAddr, hl]
theorem results_key {fn : Func} {p u : Tmp} {ty : TypeId} (h : fn.results = #[.cell p ty, .tmp u]) (tmps : Array Value) (P : Program) (w : World) (b : Nat) (l : List UInt8) (d : TypeDesc) (x : Value) (hp : tmps.getD p undef = .pointer (some ⟨b, 0, none⟩)) (hx : tmps.getD u undef = x) (hc : w.there b 0 (keyA l).size)
    (hu : P.underlying ty = some d) (hd : d.isRow = true) (hi : (P.info? ty).map (·.size) = some (keyA l).toList.length) :
    (results fn tmps).run P (w.setCells b 0 (keyA l).toList) = .ok (.tuple #[.agg (keyA l), x]) (w.setCells b 0 (keyA l).toList) := by
  have := results_cell_bool h tmps P (w.setCells b 0 (keyA l).toList) b 0 (keyA l).toList d x hp hx (World.rangeAt_setCells_same w b 0 _ (by simpa using hc)) hu hd hi
  simpa using this
theorem info25n : (Tryd.prog.info? 25).map (·.size) = some 32 := by kernel_rfl
theorem info25 (l : List UInt8) (hl : l.length = 32) : (Tryd.prog.info? 25).map (·.size) = some (keyA l).toList.length := by
  have : (keyA l).toList.length = 32 := by simp [keyA, hl]
  rw [this]
  exact info25n
theorem info25s (l : List UInt8) (hl : l.length = 32) : (Tryd.prog.info? 25).map (·.size) = some (keyA l).size := by
  rw [keyA_size, hl]
  exact info25n

/-- What Parse answers. -/
def Parsed (s : List UInt8) (w : World) (e : Ending) (w' : World) : Prop := ∃ (l : List UInt8) (ok : Bool), e = .returned (.tuple #[.agg (keyA l), .bool ok]) ∧ (ok = true ↔ fine s) ∧ (ok = true → l = parseK s) ∧ (ok = false → l = zeroL) ∧ Below w.heap.size w w'

set_option maxHeartbeats 2000000 in
set_option maxRecDepth 100000 in
theorem ref_Parse (s : ByteArray) (w : World) (hs : s.size ≤ 9223372036854775807) :
    Calls Tryd.prog 11 #[.string s] w (Parsed s.data.toList w) := by
  have hl : s.data.toList.length = s.size := by rw [← Lib.size_eq]
  obtain ⟨R, hR⟩ : ∃ R, R = w.heap.size := ⟨_, rfl⟩
  have hz : zeroL.length = 32 := rfl
  have hbyte : ∀ m, m < 32 → (0 : Nat) = byteAt zeroL m := by decide
  obtain ⟨W2, hW2⟩ : ∃ W2, W2 = (w.alloc (.cells (Array.replicate 32 (.int .u8 0)) 25)).alloc (.cells (Array.replicate 32 (.int .u8 0)) 25) := ⟨_, rfl⟩
  have HK := Lib.hid (show Key8 (R + 1) (fun _ => 0) W2 by
    have h := key8_new (w.alloc (.cells (Array.replicate 32 (.int .u8 0)) 25)) 25
    rw [hW2]
    rwa [show (w.alloc (.cells (Array.replicate 32 (.int .u8 0)) 25)).heap.size = R + 1 by rw [hR]; simp] at h)
  have HRR := Lib.hid (show Key8 R (fun _ => 0) W2 by
    rw [hR, hW2]
    exact (key8_new w 25).keep ((Below.refl (w.heap.size + 1) (w.alloc (.cells (Array.replicate 32 (.int .u8 0)) 25))).alloc (by simp) (.cells (Array.replicate 32 (.int .u8 0)) 25)) (by omega))
  have HB := Lib.hid (show Below w.heap.size w W2 by rw [hW2]; exact (((Below.refl w.heap.size w).alloc (Nat.le_refl _) (.cells (Array.replicate 32 (.int .u8 0)) 25))).alloc (by simp) (.cells (Array.replicate 32 (.int .u8 0)) 25))
  have HW2 := Lib.hid hW2
  have HR := Lib.hid hR
  have HBY := Lib.hid hbyte
  have HLS := Lib.hid hl
  clear hW2 hbyte hl hR
  by_cases h64 : s.size = 64
  · have hb : ((s.size : Int) == 64) = true := beq_iff_eq.2 (by omega)
    have H64 := Lib.hid h64
    clear h64
    go_enter Tryd.func11, Tryd.ntmps11
    go_upto_region 4 with (fail)
    change Code.wp _ _ _ _ ((w.alloc (.cells (Array.replicate 32 (.int .u8 0)) 25)).alloc (.cells (Array.replicate 32 (.int .u8 0)) 25))
    rw [← HW2.out, ← HR.out]
    rw [show ((s.size : Int) != 64) = false by unfold bne; rw [hb]; rfl]
    clear hb
    go_wp2_with fail
    go_loopw [5] (fun vi wr => ∃ i : Nat, i ≤ 64 ∧ vi = .int .i64 i ∧ Hid (∀ j, j < i → dg s.data.toList j ≠ 16) ∧ Key8 (R + 1) (pfill s.data.toList i) wr ∧ Key8 R (fun _ => 0) wr ∧ Below R w wr) (fun vi wr => 64 - (intOf vi).toNat)
    case atStart => exact ⟨0, by omega, rfl, Lib.hid (fun j h => by omega), HK.out.same (fun m _ => (pfill_zero _ m).symm), HRR.out, by rw [HR.out]; exact HB.out⟩
    case round =>
      obtain ⟨i, hi, rfl, hd, hk1, hk2, hbw⟩ := hrel
      have KK := Lib.hid hk1
      have KR := Lib.hid hk2
      have HBW := Lib.hid hbw
      clear hk1 hk2 hbw
      by_cases hi64 : i < 64
      · have hib : i < s.size := by rw [H64.out]; exact hi64
        have hsi : (s[i]).toNat = byteAt s.data.toList i := by
          rw [byteAt_get _ i (by rw [HLS.out]; exact hib)]
          rfl
        have hyl := byteAt_lt s.data.toList i
        have HDG := Lib.hid (show dg s.data.toList i = digO (byteAt s.data.toList i) from rfl)
        generalize byteAt s.data.toList i = y at *
        go_wp2_with fail
        refine (ref_digit y wr hyl).mono ?_
        rintro e' w9 ⟨rfl, rfl⟩
        rw [← HDG.out]
        by_cases h16 : dg s.data.toList i = 16
        · have HNF := Lib.hid (show ¬ fine s.data.toList from fun h => h.2 i hi64 h16)
          rw [h16]
          have hth := Lib.hid (show wr.there R 0 (keyA zeroL).size from key_there KR.out)
          go_wp2_with (first | (refine wpList_store_mid rfl 25 (.tmp 2) (.tmp 21) rfl R 0 (keyA zeroL) rfl rfl hth.out (info25s zeroL hz) (keyA_one zeroL) ?_))
          refine bodyPost_ret (v := .tuple #[.agg (keyA zeroL), .bool false]) (results_key rfl _ _ _ R zeroL _ (.bool false) rfl rfl hth.out Tryd.underlying25 rfl (info25 zeroL hz)) rfl ⟨zeroL, false, rfl, ⟨(fun h => by cases h), (fun h => absurd h HNF.out)⟩, (fun h => by cases h), fun _ => rfl, ?_⟩
          rw [← HR.out]
          exact below_setCells (Nat.le_refl _) _ 0 HBW.out
        · have hne : ((dg s.data.toList i : Int) == 16) = false := beq_eq_false_iff_ne.2 (by omega)
          have HSM := Lib.hid (pfill_small s.data.toList i hd.out h16)
          have HD1 := Lib.hid (show ∀ j, j < i + 1 → dg s.data.toList j ≠ 16 from fun j hj => by
            by_cases hji : j = i
            · subst hji; exact h16
            · exact hd.out j (by omega))
          have HNX := Lib.hid (fun m => pfill_next s.data.toList i m)
          obtain ⟨q, hq⟩ : ∃ q, q = i / 2 := ⟨_, rfl⟩
          have hq' : (i : Int) / 2 = (q : Int) := by omega
          have hq32 : (q : Int) < 32 := by omega
          have c1 := (KK.out.2 q (by omega)).1
          have c2 := (KK.out.2 q (by omega)).2
          rw [← hq] at HSM HNX
          obtain ⟨old, hold⟩ : ∃ o, o = pfill s.data.toList i q := ⟨_, rfl⟩
          rw [← hold] at c1 HSM HNX
          obtain ⟨D, hD⟩ : ∃ D, D = dg s.data.toList i := ⟨_, rfl⟩
          rw [← hD] at hne HSM HNX ⊢
          have hsm := HSM.out
          have KS := Lib.hid (show Key8 (R + 1) (pfill s.data.toList (i + 1)) (wr.setCell ⟨R + 1, q, none⟩ (.int .u8 ((16 * old + D : Nat) : Int))) from (KK.out.set (i := q) (by omega) (16 * old + D)).same (fun m _ => HNX.out m))
          have KRS := Lib.hid (KR.out.other (a := ⟨R + 1, q, none⟩) (by show R + 1 ≠ R; omega) (.int .u8 ((16 * old + D : Nat) : Int)))
          have HBS := Lib.hid (HBW.out.setCell (p := ⟨R + 1, q, none⟩) (by show R ≤ R + 1; omega) (.int .u8 ((16 * old + D : Nat) : Int)))
          have hsum : 16 * (old : Int) + (D : Int) = ((16 * old + D : Nat) : Int) := by omega
          generalize 16 * old + D = Z at *
          clear hq hold hD h16
          go_wp2_with fail
          go_roundw
          case rel => exact ⟨i + 1, by omega, by go_num, HD1, KS.out, KRS.out, HBS.out⟩
          case measure => simp [intOf]; omega
      · obtain rfl : i = 64 := by omega
        have hfine : fine s.data.toList := ⟨by rw [HLS.out, H64.out], hd.out⟩
        have HF := Lib.hid hfine
        have hlen := parseK_len s.data.toList
        have hld := Lib.hid (range_of KK.out hlen (fun m hm => (parseK_at s.data.toList hd.out m hm).symm))
        have hth := Lib.hid (show wr.there R 0 (keyA (parseK s.data.toList)).size by rw [keyA_size, hlen]; exact key_there KR.out)
        have HI := Lib.hid (info25 _ hlen)
        have HIS := Lib.hid (info25s _ hlen)
        clear hfine hlen
        go_wp2_with (first | (refine wpList_load_mid rfl 25 (.tmp 4) rfl (R + 1) 0 rfl (keyA (parseK s.data.toList)).toList _ hld.out Tryd.underlying25 rfl HI.out ?_) | (refine wpList_store_mid rfl 25 (.tmp 2) (.tmp 32) rfl R 0 (keyA (parseK s.data.toList)) rfl rfl hth.out HIS.out (keyA_one _) ?_))
        refine bodyPost_ret (v := .tuple #[.agg (keyA (parseK s.data.toList)), .bool true]) (results_key rfl _ _ _ R _ _ (.bool true) rfl rfl hth.out Tryd.underlying25 rfl HI.out) rfl ⟨_, true, rfl, ⟨(fun _ => HF.out), (fun _ => rfl)⟩, (fun _ => rfl), (fun h => by cases h), ?_⟩
        rw [← HR.out]
        exact below_setCells (Nat.le_refl _) _ 0 HBW.out
  · have hb : ((s.size : Int) == 64) = false := beq_eq_false_iff_ne.2 (by omega)
    have HF := Lib.hid (show ¬ fine s.data.toList from fun h => h64 (by rw [← HLS.out]; exact h.1))
    clear h64
    go_enter Tryd.func11, Tryd.ntmps11
    go_upto_region 3 with (fail)
    change Code.wp _ _ _ _ ((w.alloc (.cells (Array.replicate 32 (.int .u8 0)) 25)).alloc (.cells (Array.replicate 32 (.int .u8 0)) 25))
    rw [← HW2.out, ← HR.out]
    have hld := Lib.hid (range_of HK.out hz HBY.out)
    have hth := Lib.hid (show W2.there R 0 (keyA zeroL).size from key_there HRR.out)
    go_wp2_with (first | (refine wpList_load_mid rfl 25 (.tmp 4) rfl (R + 1) 0 rfl (keyA zeroL).toList _ hld.out Tryd.underlying25 rfl (info25 zeroL hz) ?_) | (refine wpList_store_mid rfl 25 (.tmp 2) (.tmp 10) rfl R 0 (keyA zeroL) rfl rfl hth.out (info25s zeroL hz) (keyA_one zeroL) ?_))
    refine bodyPost_ret (v := .tuple #[.agg (keyA zeroL), .bool false]) (results_key rfl _ _ _ R zeroL _ (.bool false) rfl rfl hth.out Tryd.underlying25 rfl (info25 zeroL hz)) rfl ⟨zeroL, false, rfl, ⟨(fun h => by cases h), (fun h => absurd h HF.out)⟩, (fun h => by cases h), fun _ => rfl, ?_⟩
    exact below_setCells (by rw [HR.out]; exact Nat.le_refl _) _ 0 HB.out
end Go.Proofs.YthgbjanefljjcaaDoor
