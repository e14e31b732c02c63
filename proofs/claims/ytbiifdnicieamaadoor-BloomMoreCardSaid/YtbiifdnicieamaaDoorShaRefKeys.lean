/- The document's own answers over keys: words, order, digits. -/
import Derived.Test.YtbiifdnicieamaaDoorShaRefSum
import Derived.Deep.QuietTactic
import Derived.BigQuiet
set_option linter.unusedVariables false
set_option maxRecDepth 100000
namespace Go.Proofs.YtbiifdnicieamaaDoor
open Go.RowKit

/-- A key's cells. -/
def keyA (l : List UInt8) : Array Value := (l.map fun b => Value.int .u8 (b.toNat : Int)).toArray
theorem keyA_new (w : World) (l : List UInt8) (hl : l.length = 32) (t : TypeId) : Key8 w.heap.size (byteAt l) (w.alloc (.cells (keyA l) t)) := by
  refine ⟨by show w.heap.size < (w.heap.push _).size; simp, fun j hj => ⟨?_, ?_⟩⟩
  · rw [World.cell?_alloc_mark]
    simp [keyA, byteAt, hl, hj, List.getD_eq_getElem?_getD]
  · rw [World.frozen?_alloc_mark]
    simp

theorem ret_u32' {a b : Nat} (h : b = a) : Ending.returned (.int .u32 (a : Int)) = Ending.returned (.int .u32 (b : Int)) := by rw [h]
theorem ret_bool {a b : Bool} (h : b = a) : Ending.returned (.bool a) = Ending.returned (.bool b) := by rw [h]
theorem word_index (n : Int) (h1 : -9223372036854775808 ≤ n) (h2 : n ≤ 9223372036854775807) : (wrap64 (n.tmod 8 + 8)).tmod 8 = (((n % 8).toNat : Nat) : Int) := by
  have e : wrap64 (n.tmod 8 + 8) = n.tmod 8 + 8 ∧ 0 ≤ n.tmod 8 + 8 ∧ (n.tmod 8 + 8) % 8 = n % 8 := by
    rcases Int.le_total 0 n with h | h
    · rw [Int.tmod_eq_emod_of_nonneg h]
      unfold wrap64
      omega
    · obtain ⟨m, rfl⟩ : ∃ m, n = -m := ⟨-n, by omega⟩
      rw [Int.neg_tmod, Int.tmod_eq_emod_of_nonneg (by omega)]
      unfold wrap64
      omega
  rw [e.1, Int.tmod_eq_emod_of_nonneg e.2.1, e.2.2]
  omega

set_option maxHeartbeats 400000 in
theorem ref_Word (l : List UInt8) (n : Int) (w : World) (hl : Hid (l.length = 32)) (h1 : -9223372036854775808 ≤ n) (h2 : n ≤ 9223372036854775807) :
    Calls Tryd.prog 40 #[.agg (keyA l), .int .i64 n] w fun e w' => e = .returned (.int .u32 (wordAt l (4 * (n % 8).toNat))) ∧ Below w.heap.size w w' := by
  have hm := word_index n h1 h2
  have hm8 : (n % 8).toNat < 8 := by omega
  have HKEY := Lib.hid (keyA_new w l hl.out 70)
  have HB := Lib.hid (((Below.refl w.heap.size w).alloc (Nat.le_refl _) (.cells (keyA l) 70)))
  generalize (n % 8).toNat = m at *
  go_enter Tryd.func40, Tryd.ntmps40
  go_wp2_with fail
  generalize w.alloc (.cells (keyA l) 70) = w1 at *
  have HM := Lib.hid hm
  clear hm
  go_loopw [5, 6] (fun x i wr => ∃ j : Nat, j ≤ 4 ∧ i = .int .i64 j ∧ x = .int .u32 (partW l (4 * m) j) ∧ wr = w1) (fun x i wr => 4 - (intOf i).toNat)
  case atStart => exact ⟨0, by omega, rfl, rfl, rfl⟩
  case round =>
    obtain ⟨j, hj, rfl, rfl, rfl⟩ := hrel
    by_cases hj4 : j < 4
    · have hXl := partW_lt l (4 * m) j hj4
      have HX := Lib.hid (show partW l (4 * m) (j + 1) = 256 * partW l (4 * m) j + byteAt l (4 * m + j) from rfl)
      obtain ⟨o, ho⟩ : ∃ o, o = 4 * m + j := ⟨_, rfl⟩
      have ho' : 4 * (m : Int) + (j : Int) = (o : Int) := by omega
      have ho2 : (o : Int) < 32 := by omega
      have c1 := (HKEY.out.2 o (by omega)).1
      have hbl := byteAt_lt l o
      rw [← ho] at HX
      generalize partW l (4 * m) j = X at *
      generalize byteAt l o = y at *
      clear ho
      go_wp2_with fail
      go_roundw
      case rel => exact ⟨j + 1, by omega, by go_num, by rw [HX.out]; go_num, trivial⟩
      case measure => simp [intOf]; omega
    · obtain rfl : j = 4 := by omega
      have HX := Lib.hid (partW_four l (4 * m))
      go_wp2_with fail
      go_ret
      exact ⟨ret_u32' HX.out.symm, HB.out⟩

/-! ### Order -/
def lessL : List UInt8 → List UInt8 → Bool
  | a :: l, b :: m => if a = b then lessL l m else decide (a.toNat < b.toNat)
  | _, _ => false
theorem lessL_at : ∀ (l m : List UInt8) (i : Nat) (hl : i < l.length) (hm : i < m.length), l.take i = m.take i → l[i] ≠ m[i] → lessL l m = decide (l[i].toNat < m[i].toNat)
  | a :: l, b :: m, 0, _, _, _, h => by simp at h; simp [lessL, h]
  | a :: l, b :: m, i + 1, hl, hm, ht, h => by
    simp at ht
    simp only [lessL, ht.1, if_true]
    exact lessL_at l m i (by simpa using hl) (by simpa using hm) ht.2 (by simpa using h)
theorem lessL_same : ∀ l, lessL l l = false
  | [] => rfl
  | a :: l => by simp [lessL, lessL_same l]

theorem take_same {l m : List UInt8} {i : Nat} (h : l.take i = m.take i) (hl : i < l.length) (hm : i < m.length) (he : l[i] = m[i]) : l.take (i + 1) = m.take (i + 1) := by
  rw [List.take_add_one, List.take_add_one, h, List.getElem?_eq_getElem hl, List.getElem?_eq_getElem hm, he]
theorem byteAt_get (l : List UInt8) (i : Nat) (h : i < l.length) : byteAt l i = l[i].toNat := by
  unfold byteAt
  rw [List.getD_eq_getElem?_getD, List.getElem?_eq_getElem h]
  rfl

/-! ### Digits -/
def digN (k : Nat) : Nat := if k < 10 then 48 + k else 87 + k
def digO (c : Nat) : Nat := if 48 ≤ c ∧ c ≤ 57 then c - 48 else if 97 ≤ c ∧ c ≤ 102 then c - 87 else 16
theorem hex_at (k : Nat) (h : k < 16) : (({ data := #[48, 49, 50, 51, 52, 53, 54, 55, 56, 57, 97, 98, 99, 100, 101, 102] } : ByteArray)[k]'(by exact h)).toNat = digN k := by
  have : k = 0 ∨ k = 1 ∨ k = 2 ∨ k = 3 ∨ k = 4 ∨ k = 5 ∨ k = 6 ∨ k = 7 ∨ k = 8 ∨ k = 9 ∨ k = 10 ∨ k = 11 ∨ k = 12 ∨ k = 13 ∨ k = 14 ∨ k = 15 := by omega
  rcases this with rfl | rfl | rfl | rfl | rfl | rfl | rfl | rfl | rfl | rfl | rfl | rfl | rfl | rfl | rfl | rfl <;> rfl

theorem digO_at (k : Nat) (h : k < 16) : digO (digN k) = k := by unfold digO digN; split <;> split <;> (try split) <;> omega
theorem digO_none (c : Nat) (h : ∀ j, j < 16 → digN j ≠ c) : digO c = 16 := by
  unfold digO
  by_cases h1 : 48 ≤ c ∧ c ≤ 57
  · exact absurd (show digN (c - 48) = c by unfold digN; rw [if_pos (by omega)]; omega) (h _ (by omega))
  · rw [if_neg h1]
    by_cases h2 : 97 ≤ c ∧ c ≤ 102
    · exact absurd (show digN (c - 87) = c by unfold digN; rw [if_neg (by omega)]; omega) (h _ (by omega))
    · rw [if_neg h2]
theorem ret_u8 {a b : Nat} (h : b = a) : Ending.returned (.int .u8 (a : Int)) = Ending.returned (.int .u8 (b : Int)) := by rw [h]
theorem ret_u8i {a : Int} {b : Nat} (h : (b : Int) = a) : Ending.returned (.int .u8 a) = Ending.returned (.int .u8 (b : Int)) := by rw [h]

def digB (k : Nat) : UInt8 := UInt8.ofNat (digN k)
def hexL (l : List UInt8) : List UInt8 := l.flatMap fun b => [digB (b.toNat / 16), digB (b.toNat % 16)]
theorem hexL_len (l : List UInt8) : (hexL l).length = 2 * l.length := by
  induction l with
  | nil => rfl
  | cons b l ih => unfold hexL at ih ⊢; simp only [List.flatMap_cons, List.length_append, List.length_cons, List.length_nil, ih]; omega
theorem hexL_next (l : List UInt8) (i : Nat) (h : i < l.length) : hexL (l.take (i + 1)) = hexL (l.take i) ++ [digB (byteAt l i / 16)] ++ [digB (byteAt l i % 16)] := by
  unfold hexL
  rw [List.take_add_one, List.flatMap_append, List.getElem?_eq_getElem h, byteAt_get l i h]
  simp
theorem hex_piece (k : Nat) (h : k < 16) : ({ data := #[48, 49, 50, 51, 52, 53, 54, 55, 56, 57, 97, 98, 99, 100, 101, 102] } : ByteArray).extract k (k + 1) = bs [digB k] := by
  have : k = 0 ∨ k = 1 ∨ k = 2 ∨ k = 3 ∨ k = 4 ∨ k = 5 ∨ k = 6 ∨ k = 7 ∨ k = 8 ∨ k = 9 ∨ k = 10 ∨ k = 11 ∨ k = 12 ∨ k = 13 ∨ k = 14 ∨ k = 15 := by omega
  rcases this with rfl | rfl | rfl | rfl | rfl | rfl | rfl | rfl | rfl | rfl | rfl | rfl | rfl | rfl | rfl | rfl <;> rfl

/-! ### Parse -/
def zeroL : List UInt8 := List.replicate 32 0
def dg (s : List UInt8) (j : Nat) : Nat := digO (byteAt s j)
theorem digO_le (c : Nat) : digO c ≤ 16 := by unfold digO; split <;> (try split) <;> omega
def parseK (s : List UInt8) : List UInt8 := (List.range 32).map fun m => UInt8.ofNat (16 * dg s (2 * m) + dg s (2 * m + 1))
def fine (s : List UInt8) : Prop := s.length = 64 ∧ ∀ j, j < 64 → dg s j ≠ 16
/-- A key's bytes where so many digits are gone over. -/
def pfill (s : List UInt8) (i m : Nat) : Nat := if m < i / 2 then 16 * dg s (2 * m) + dg s (2 * m + 1) else if m = i / 2 ∧ i % 2 = 1 then dg s (2 * m) else 0
theorem pfill_zero (s : List UInt8) (m : Nat) : pfill s 0 m = 0 := by unfold pfill; rw [if_neg (by omega), if_neg (by omega)]
theorem pfill_next (s : List UInt8) (i m : Nat) : (if m = i / 2 then 16 * pfill s i (i / 2) + dg s i else pfill s i m) = pfill s (i + 1) m := by
  unfold pfill
  by_cases hm : m = i / 2
  · subst hm
    rw [if_pos rfl, if_neg (by omega)]
    rcases Nat.mod_two_eq_zero_or_one i with h | h
    · rw [if_neg (by omega), if_neg (by omega), if_pos (by omega), show 2 * (i / 2) = i by omega]
      omega
    · rw [if_pos (by omega), if_pos (by omega), show 2 * (i / 2) + 1 = i by omega]
  · rw [if_neg hm]
    by_cases h : m < i / 2
    · rw [if_pos h, if_pos (by omega)]
    · rw [if_neg h, if_neg (by omega), if_neg (by omega), if_neg (by omega)]
theorem pfill_small (s : List UInt8) (i : Nat) (h : ∀ j, j < i → dg s j ≠ 16) (hi : dg s i ≠ 16) : 16 * pfill s i (i / 2) + dg s i < 256 := by
  have h1 := digO_le (byteAt s i)
  have h0 : dg s i ≤ 15 := by unfold dg at hi ⊢; omega
  unfold pfill
  rw [if_neg (by omega)]
  by_cases ho : i / 2 = i / 2 ∧ i % 2 = 1
  · rw [if_pos ho]
    have h2 := digO_le (byteAt s (2 * (i / 2)))
    have h3 := h (2 * (i / 2)) (by omega)
    unfold dg at h3 ⊢
    unfold dg at h0
    omega
  · rw [if_neg ho]; omega
theorem parseK_len (s : List UInt8) : (parseK s).length = 32 := by simp [parseK]
theorem parseK_at (s : List UInt8) (h : ∀ j, j < 64 → dg s j ≠ 16) (m : Nat) (hm : m < 32) : byteAt (parseK s) m = pfill s 64 m := by
  have h1 := h (2 * m) (by omega)
  have h2 := h (2 * m + 1) (by omega)
  have h3 := digO_le (byteAt s (2 * m))
  have h4 := digO_le (byteAt s (2 * m + 1))
  rw [byteAt_get _ m (by rw [parseK_len]; exact hm)]
  unfold pfill
  rw [if_pos (by omega)]
  simp only [parseK, List.getElem_map, List.getElem_range, ofNat_toNat]
  unfold dg at *
  omega

theorem range_of {b : Nat} {g : Nat → Nat} {l : List UInt8} {w : World} (h : Key8 b g w) (hl : l.length = 32) (hg : ∀ m, m < 32 → g m = byteAt l m) : w.rangeAt b 0 (keyA l).toList := by
  intro j v hj
  have hlt : j < 32 := by
    have := (List.getElem?_eq_some_iff.1 hj).1
    simp [keyA, hl] at this
    exact this
  rw [Nat.zero_add, (h.2 j hlt).1, hg j hlt, byteAt_get l j (by omega)]
  simp [keyA] at hj
  obtain ⟨x, hx, rfl⟩ := hj
  have : l[j]'(by omega) = x := by
    rw [List.getElem?_eq_getElem (by omega)] at hx
    exact Option.some.inj hx
  rw [this]
theorem keyA_size (l : List UInt8) : (keyA l).size = l.length := by simp [keyA]
theorem keyA_one (l : List UInt8) : (keyA l).all (·.oneCell') = true := by
  rw [Array.all_eq_true_iff_forall_mem]
  intro v hv
  unfold keyA at hv
  simp at hv
  obtain ⟨b, _, rfl⟩ := hv
  rfl
theorem results_cell_bool {fn : Func} {p u : Tmp} {ty : TypeId} (h : fn.results = #[.cell p ty, .tmp u]) (tmps : Array Value) (P : Program) (w : World) (b o : Nat) (cs : List Value) (d : TypeDesc) (x : Value) (hp : tmps.getD p undef = .pointer (some ⟨b, o, none⟩)) (hx : tmps.getD u undef = x) (hc : w.rangeAt b o cs)
    (hu : P.underlying ty = some d) (hd : d.isRow = true) (hi : (P.info? ty).map (·.size) = some cs.length) :
    (results fn tmps).run P w = .ok (.tuple #[.agg cs.toArray, x]) w := by
  have hl := run_loadVar_mid w b o ty cs d hc hu hd hi
  have hp' : tmps[p]?.getD undef = .pointer (some ⟨b, o, none⟩) := by simpa using hp
  have hx' : tmps[u]?.getD undef = x := by simpa using hx
  simp only [results, h]
  simp [Sem.run_bind, Result.andThen, hp', hx', asAddr, hl]
theorem results_key {fn : Func} {p u : Tmp} {ty : TypeId} (h : fn.results = #[.cell p ty, .tmp u]) (tmps : Array Value) (P : Program) (w : World) (b : Nat) (l : List UInt8) (d : TypeDesc) (x : Value) (hp : tmps.getD p undef = .pointer (some ⟨b, 0, none⟩)) (hx : tmps.getD u undef = x) (hc : w.there b 0 (keyA l).size)
    (hu : P.underlying ty = some d) (hd : d.isRow = true) (hi : (P.info? ty).map (·.size) = some (keyA l).toList.length) :
    (results fn tmps).run P (w.setCells b 0 (keyA l).toList) = .ok (.tuple #[.agg (keyA l), x]) (w.setCells b 0 (keyA l).toList) := by
  have := results_cell_bool h tmps P (w.setCells b 0 (keyA l).toList) b 0 (keyA l).toList d x hp hx (World.rangeAt_setCells_same w b 0 _ (by simpa using hc)) hu hd hi
  simpa using this
theorem info25n : (Tryd.prog.info? 70).map (·.size) = some 32 := by kernel_rfl
theorem info25 (l : List UInt8) (hl : l.length = 32) : (Tryd.prog.info? 70).map (·.size) = some (keyA l).toList.length := by
  have : (keyA l).toList.length = 32 := by simp [keyA, hl]
  rw [this]
  exact info25n
theorem info25s (l : List UInt8) (hl : l.length = 32) : (Tryd.prog.info? 70).map (·.size) = some (keyA l).size := by
  rw [keyA_size, hl]
  exact info25n

/-- What Parse answers. -/
def Parsed (s : List UInt8) (w : World) (e : Ending) (w' : World) : Prop := ∃ (l : List UInt8) (ok : Bool), e = .returned (.tuple #[.agg (keyA l), .bool ok]) ∧ (ok = true ↔ fine s) ∧ (ok = true → l = parseK s) ∧ (ok = false → l = zeroL) ∧ Below w.heap.size w w'

end Go.Proofs.YtbiifdnicieamaaDoor
