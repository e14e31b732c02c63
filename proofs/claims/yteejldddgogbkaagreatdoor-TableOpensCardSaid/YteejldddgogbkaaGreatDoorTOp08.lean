/- Texts put together: BlockOwn, SixRefWrites, CrcRefSum, CrcRefPuts, BlockRefPack -/
import Derived.Test.YteejldddgogbkaaGreatDoorTOp07
import Derived.Test.YteejldddgogbkaaGreatDoorTOp00
import Derived.Laws.IdiomStrings
import Derived.Test.YteejldddgogbkaaGreatDoorTOp03
import Derived.RegionTactic
/- Rows of entries of the call's own: what stands in them, one entry overwritten, one more. -/
set_option linter.unusedVariables false
set_option maxRecDepth 100000
set_option maxRecDepth 100000
namespace Go.Proofs.YteejldddgogbkaaGreatDoor
open Go.RowKit

def ecells (R : List Ent) : List Value := R.flatMap Ent.vals
theorem ecells_len : ∀ R : List Ent, (ecells R).length = R.length * 3
  | [] => rfl
  | x :: R => by
    show (x.vals ++ ecells R).length = _
    rw [List.length_append, ecells_len R]
    simp [Ent.vals]
    omega
theorem ecells_append (R S : List Ent) : ecells (R ++ S) = ecells R ++ ecells S := List.flatMap_append
theorem ecells_at : ∀ (R : List Ent) (i q : Nat) (x : Ent), q < 3 → R[i]? = some x → (ecells R)[i * 3 + q]? = x.vals[q]?
  | [], i, q, x, _, h => by cases h
  | z :: R, 0, q, x, hq, h => by
    injection h with h
    subst h
    show (z.vals ++ ecells R)[0 * 3 + q]? = _
    rw [List.getElem?_append_left (by simp [Ent.vals]; omega)]
    simp
  | z :: R, i + 1, q, x, hq, h => by
    show (z.vals ++ ecells R)[(i + 1) * 3 + q]? = _
    rw [List.getElem?_append_right (by simp [Ent.vals]; omega), ← ecells_at R i q x hq h]
    congr 1
    simp [Ent.vals]
    omega
/-- A row of entries of the call's own. -/
def OwnE (w : World) (B : Nat) (v : Value) (R : List Ent) : Prop := OffRow w B 49 3 v R.length (ecells R)
theorem OwnE.ent {w : World} {B : Nat} {a : Option Addr} {n cap : Nat} {R : List Ent} (h : OwnE w B (.slice a n cap) R) {k : Nat} {x : Ent} (hx : R[k]? = some x) :
    ∃ g off, a = some ⟨g, off, none⟩ ∧ B ≤ g ∧ CellE g (off + k * 3) x w := by
  have hk : k < R.length := (List.getElem?_eq_some_iff.1 hx).1
  obtain ⟨g, off, cp, cur, e1, hB, hg, hc⟩ := OffRow.form h (by omega)
  injection e1 with e1 _ _
  have hq := fun q (hq : q < 3) => (hc (k * 3 + q) (by omega)).trans (ecells_at R k q x hq hx)
  exact ⟨g, off, e1, hB, heap_lt hg, hq 0 (by omega), by have := hq 1 (by omega); rwa [← Nat.add_assoc] at this, by have := hq 2 (by omega); rwa [← Nat.add_assoc] at this⟩
theorem OwnE.is {w : World} {B : Nat} {a : Option Addr} {n cap : Nat} {R : List Ent} (h : OwnE w B (.slice a n cap) R) (hn : n = R.length) : IsE w a n R := by
  cases R with
  | nil => subst hn; exact IsE.nil _ _
  | cons y R =>
    obtain ⟨g, off, ha, _, _⟩ := h.ent (k := 0) (x := y) rfl
    refine ⟨hn, g, off, .inr ha, fun k hk => ?_⟩
    obtain ⟨g', off', ha', _, hc⟩ := h.ent (List.getElem?_eq_getElem hk)
    rw [ha] at ha'
    injection ha' with ha'
    injection ha' with e1 e2
    rw [e1, e2]
    exact hc
theorem OwnE.below {w w' : World} {B : Nat} {v : Value} {R : List Ent} (h : OwnE w B v R) (k : Below w.heap.size w w') : OwnE w' B v R := OffRow.kept h fun j hj => k.block j (OffRow.lt h j hj).2
theorem OwnE.len_cap {w : World} {B : Nat} {a : Option Addr} {n cap : Nat} {R : List Ent} (h : OwnE w B (.slice a n cap) R) : R.length ≤ cap := by
  rcases h.2 with ⟨h1, h2⟩ | ⟨g, off, c, cur, h1, _, _, h3, _⟩
  · omega
  · injection h1 with _ _ h1
    rw [h1]; exact h3
theorem OwnE.nil (w : World) (B : Nat) : OwnE w B (.slice none 0 0) [] := OffRow.nil _ _ _ _
theorem OwnE.slice {w : World} {B : Nat} {v : Value} {R : List Ent} (h : OwnE w B v R) : ∃ a cap, v = .slice a R.length cap := OffRow.slice h
/-- Where an entry stands it may be overwritten. -/
theorem OwnE.room {w : World} {B : Nat} {g off n cap : Nat} {R : List Ent} (h : OwnE w B (.slice (some ⟨g, off, none⟩) n cap) R) : (∃ cur, w.heap[g]? = some (.cells cur 49 (0, 0))) ∧ ∀ j, w.frozen? ⟨g, j, none⟩ = false := by
  obtain ⟨cur, hc⟩ := OffRow.tag h (k := g) rfl
  exact ⟨⟨cur, hc⟩, fun j => by simp [World.frozen?, hc]⟩
theorem OwnE.set {w : World} {B : Nat} {g off n cap : Nat} {R : List Ent} (h : OwnE w B (.slice (some ⟨g, off, none⟩) n cap) R) {k : Nat} (hk : k < R.length) (x : Ent) :
    OwnE (((w.setCell ⟨g, off + k * 3, none⟩ (.string (bs x.key))).setCell ⟨g, off + k * 3 + 1, none⟩ (.string (bs x.val))).setCell ⟨g, off + k * 3 + 2, none⟩ (.bool x.gone)) B (.slice (some ⟨g, off, none⟩) n cap) (R.set k x) := by
  rcases OffRow.form h (by omega) with ⟨g', off', cp, cur, e1, hB, hg, hc⟩
  rcases h.2 with ⟨h0, _⟩ | ⟨g2, off2, cap2, cur2, h0, hB2, hg2, h1, h2, h3, h4⟩
  · cases h0
  · injection h0 with e2 e3 e4
    injection e2 with e2
    injection e2 with e2 e5
    subst e2 e4 e5
    have s1 := heap_set (o := off + k * 3) hg2 (.string (bs x.key))
    have s2 := heap_set (o := off + k * 3 + 1) s1 (.string (bs x.val))
    have s3 := heap_set (o := off + k * 3 + 2) s2 (.bool x.gone)
    have hle : k * 3 + 3 ≤ cap * 3 := by omega
    refine ⟨by rw [ecells_len], .inr ⟨g, off, cap, _, by rw [List.length_set, e3], hB2, s3, by rw [List.length_set]; exact h1, h2, by simp only [Array.size_setIfInBounds]; exact h3, fun j hj => ?_⟩⟩
    rw [List.length_set] at hj
    obtain ⟨i, q, hq, rfl⟩ : ∃ i q, q < 3 ∧ j = i * 3 + q := ⟨j / 3, j % 3, by omega, by omega⟩
    have hi : i < R.length := by omega
    obtain ⟨y, hy⟩ : ∃ y, (R.set k x)[i]? = some y := ⟨_, List.getElem?_eq_getElem (by rw [List.length_set]; exact hi)⟩
    rw [ecells_at (R.set k x) i q y hq hy]
    simp only [Array.getElem?_setIfInBounds, Array.size_setIfInBounds]
    by_cases hik : i = k
    · subst hik
      rw [List.getElem?_set_self hk] at hy
      injection hy with hy
      subst hy
      match q, hq with
      | 0, _ => rw [if_neg (by omega), if_neg (by omega), if_pos (by omega), if_pos (by omega)]; rfl
      | 1, _ => rw [if_neg (by omega), if_pos (by omega), if_pos (by omega)]; rfl
      | 2, _ => rw [if_pos (by omega), if_pos (by omega)]; rfl
    · rw [List.getElem?_set_ne (Ne.symm hik)] at hy
      rw [if_neg (by omega), if_neg (by omega), if_neg (by omega), h4 _ hj, ecells_at R i q y hq hy]
theorem below_put3 {B g : Nat} {a w : World} (h : Below B a w) (hB : B ≤ g) (o1 o2 o3 : Nat) (v1 v2 v3 : Value) : Below B a (((w.setCell ⟨g, o1, none⟩ v1).setCell ⟨g, o2, none⟩ v2).setCell ⟨g, o3, none⟩ v3) :=
  ((h.setCell (p := ⟨g, o1, none⟩) hB v1).setCell (p := ⟨g, o2, none⟩) hB v2).setCell (p := ⟨g, o3, none⟩) hB v3
/-- The place is the first one that isn't below. -/
theorem place_first {key : List UInt8} : ∀ {R : List Ent} {p : Nat}, p ≤ R.length → (∀ j y, j < p → R[j]? = some y → ltB y.key key = true) → (∀ y, R[p]? = some y → ltB y.key key = false) → place key R = p
  | [], p, h, _, _ => by simp at h; subst h; rfl
  | z :: R, 0, _, _, h => by rw [place_cons, h z rfl]; rfl
  | z :: R, p + 1, hp, h1, h2 => by
    rw [place_cons, h1 0 z (by omega) rfl, if_pos rfl, place_first (by simpa using hp) (fun j y hj hy => h1 (j + 1) y (by omega) hy) (fun y hy => h2 y hy)]
/-- One entry moved up. -/
theorem shift_step {R : List Ent} {z y : Ent} {k : Nat} (hk : 0 < k) (hkl : k ≤ R.length) (hy : R[k - 1]? = some y) : ((R ++ [z]).take (k + 1) ++ R.drop k).set k y = (R ++ [z]).take k ++ R.drop (k - 1) := by
  apply List.ext_getElem?
  intro j
  have hl : ((R ++ [z]).take (k + 1)).length = k + 1 := by simp; omega
  have hl2 : ((R ++ [z]).take k).length = k := by simp; omega
  rw [List.getElem?_set]
  by_cases hj : k = j
  · subst hj
    rw [if_pos rfl, if_pos (by rw [List.length_append, hl]; omega), List.getElem?_append_right (by omega), hl2, Nat.sub_self, List.getElem?_drop, Nat.add_zero, hy]
  · rw [if_neg hj]
    rcases Nat.lt_or_ge j k with h | h
    · rw [List.getElem?_append_left (by omega), List.getElem?_append_left (by omega), List.getElem?_take, List.getElem?_take, if_pos (by omega), if_pos h]
    · rw [List.getElem?_append_right (by omega), List.getElem?_append_right (by omega), hl, hl2, List.getElem?_drop, List.getElem?_drop]
      congr 1
      omega
theorem shift_end {R : List Ent} {z x : Ent} {k : Nat} (hkl : k ≤ R.length) : ((R ++ [z]).take (k + 1) ++ R.drop k).set k x = R.take k ++ x :: R.drop k := by
  apply List.ext_getElem?
  intro j
  have hl : ((R ++ [z]).take (k + 1)).length = k + 1 := by simp; omega
  have hl2 : (R.take k).length = k := by simp; omega
  rw [List.getElem?_set]
  by_cases hj : k = j
  · subst hj
    rw [if_pos rfl, if_pos (by rw [List.length_append, hl]; omega), List.getElem?_append_right (by omega), hl2, Nat.sub_self]
    rfl
  · rw [if_neg hj]
    rcases Nat.lt_or_ge j k with h | h
    · rw [List.getElem?_append_left (by omega), List.getElem?_append_left (by omega), List.getElem?_take, List.getElem?_take, if_pos (by omega), if_pos h, List.getElem?_append_left (by omega)]
    · rw [List.getElem?_append_right (by omega), List.getElem?_append_right (by omega), hl, hl2]
      obtain ⟨m, rfl⟩ : ∃ m, j = k + 1 + m := ⟨j - k - 1, by omega⟩
      rw [show k + 1 + m - (k + 1) = m by omega, show k + 1 + m - k = m + 1 by omega, List.getElem?_cons_succ]
end Go.Proofs.YteejldddgogbkaaGreatDoor
/- The document's own answers: how siloref01 writes numbers and texts. -/
set_option linter.unusedVariables false
set_option maxRecDepth 100000
namespace Go.Proofs.YteejldddgogbkaaGreatDoor
open Go.RowKit

theorem conv_one (W : World) (c : Nat) (hc : c ≤ 255) : (convert 62 9 (.slice (some ⟨W.heap.size, 0, none⟩) 1 1)).run Tryz.prog (W.alloc (.cells #[.int .u8 (c : Int)] 5)) = .ok (.string (bs [UInt8.ofNat c])) (W.alloc (.cells #[.int .u8 (c : Int)] 5)) := by
  refine run_convert_bytes_back (P := Tryz.prog) _ 62 9 5 ⟨W.heap.size, 0, none⟩ 1 [UInt8.ofNat c] Tryz.underlying62 Tryz.underlying5 Tryz.underlying9 ?_
  intro j hj
  have hj0 : j = 0 := by simpa using hj
  subst hj0
  have hn : (UInt8.ofNat c).toNat = c := toNat_ofNat (by omega)
  simp only [List.getElem_cons_zero, hn]
  exact cell_one_new W (.int .u8 (c : Int)) 5 0 _ rfl

theorem rets {a a' : ByteArray} (h : a' = a) : Ending.returned (.string a) = Ending.returned (.string a') := by rw [h]

theorem lead_tail_len {q : Nat} {t g : List UInt8} (h : lead q ++ t = g) (hg : g.length ≤ 11) : t.length ≤ 11 := by
  rw [← h, List.length_append] at hg
  omega

set_option maxHeartbeats 400000 in
theorem ref_groups (x mark : Nat) (w : World) (hx : x ≤ 9223372036854775807) (hm : mark = 64 ∨ mark = 128) :
    Calls Tryz.prog 68 #[.int .u64 x, .int .i64 mark] w fun e w' => e = .returned (.string (bs (grp x mark))) ∧ Below w.heap.size w w' := by
  have HM := Lib.hid hm
  have hm1 : (mark : Int) ≤ 128 := by omega
  have hm2 : (0 : Int) ≤ mark := by omega
  obtain ⟨c, hc⟩ : ∃ c, c = mark + x % 64 := ⟨_, rfl⟩
  have hcv : ((mark : Int) + (x : Int) % 64) = (c : Int) := by omega
  have hc1 : c ≤ 255 := by omega
  have hconv := fun W : World => conv_one W c hc1
  have HC := Lib.hid hc
  clear hm hc
  have hlen := (grp_len (n := x) (mark := mark) (by omega)).1
  obtain ⟨g, hg⟩ : ∃ g, g = grp x mark := ⟨_, rfl⟩
  rw [← hg] at hlen ⊢
  have HL := Lib.hid hlen
  have h0 : lead (x / 64) ++ [UInt8.ofNat c] = g := by rw [hg, HC.out]; rfl
  have H0 := Lib.hid h0
  clear hlen hg h0
  go_enter Tryz.func68, Tryz.ntmps68
  go_wp2_with fail
  go_loopw [0, 5] (fun y s wr => ∃ (q : Nat) (t : List UInt8), q ≤ 9223372036854775807 ∧ y = .int .u64 q ∧ s = .string (bs t) ∧ Hid (lead q ++ t = g) ∧ Below w.heap.size w wr) (fun y s wr => (intOf y).toNat)
  case atStart => exact ⟨x / 64, [UInt8.ofNat c], by omega, by go_num, rfl, H0, (Below.refl _ _).alloc (Nat.le_refl _) _⟩
  case round =>
    obtain ⟨q, t, hq, rfl, rfl, ht, hbw⟩ := hrel
    have HB := Lib.hid hbw
    clear hbw hconv hcv hc1
    by_cases hq0 : 0 < (q : Int)
    · obtain ⟨d, hd⟩ : ∃ d, d = q % 64 := ⟨_, rfl⟩
      have hdv : ((q : Int) % 64) = (d : Int) := by omega
      have hd1 : d ≤ 255 := by omega
      have hconv := fun W : World => conv_one W d hd1
      have hcat : bs [UInt8.ofNat d] ++ bs t = bs (UInt8.ofNat d :: t) := bs_eq (by simp [bs])
      have hsum : ((bs [UInt8.ofNat d]).size : Int) + ((bs t).size : Int) ≤ 9223372036854775807 := by
        rw [bs_size, bs_size]
        have := lead_tail_len ht.out HL.out
        simp
        omega
      have HD := Lib.hid hd
      clear hd
      go_wp2
      go_roundw
      case rel =>
        refine ⟨q / 64, UInt8.ofNat d :: t, by omega, by go_num, rfl, ?_, HB.out.alloc HB.out.size _⟩
        have := ht.out
        rw [lead_pos (by omega), ← HD.out] at this
        show lead (q / 64) ++ (UInt8.ofNat d :: t) = g
        rw [← this]
        simp
      case measure => simp [intOf]; omega
    · go_wp2
      go_ret
      have hq1 : q = 0 := by omega
      have := ht.out
      rw [hq1, lead_zero, List.nil_append] at this
      exact ⟨rets (by rw [this]), HB.out⟩

set_option maxHeartbeats 400000 in
theorem ref_Whole (n : Int) (w : World) (hn1 : -9223372036854775808 ≤ n) (hn2 : n ≤ 9223372036854775807) :
    Calls Tryz.prog 33 #[.int .i64 n] w fun e w' => e = .returned (.string (bs (whole n))) ∧ Below w.heap.size w w' := by
  by_cases h0 : n < 0
  · obtain ⟨m, hm⟩ : ∃ m : Nat, -1 - n = m := ⟨(-1 - n).toNat, by omega⟩
    have hg := Lib.hid (show whole n = grp m 128 by unfold whole; rw [if_pos h0, hm]; rfl)
    have hm1 : m ≤ 9223372036854775807 := by omega
    have hv : -(n + 1) = (m : Int) := by omega
    have hv2 : IntKind.i64.wrap (n + 1) = n + 1 := IntWalk.i64_in _ (by omega)
    clear hm
    go_enter Tryz.func33, Tryz.ntmps33
    go_wp2_with fail
    refine (ref_groups m 128 w hm1 (.inr rfl)).mono ?_
    rintro e w2 ⟨rfl, k2⟩
    have K2 := Lib.hid k2
    clear k2
    go_wp2
    go_ret
    exact ⟨rets (by rw [hg.out]), K2.out⟩
  · obtain ⟨m, rfl⟩ : ∃ m : Nat, n = m := ⟨n.toNat, by omega⟩
    have hg := Lib.hid (show whole m = grp m 64 by unfold whole; rw [if_neg (by omega)]; rfl)
    go_enter Tryz.func33, Tryz.ntmps33
    go_wp2_with fail
    refine (ref_groups m 64 w (by omega) (.inl rfl)).mono ?_
    rintro e w2 ⟨rfl, k2⟩
    have K2 := Lib.hid k2
    clear k2
    go_wp2
    go_ret
    exact ⟨rets (by rw [hg.out]), K2.out⟩

set_option maxHeartbeats 400000 in
theorem ref_Text (s : ByteArray) (w : World) (hs : s.size ≤ 140737488355328) :
    Calls Tryz.prog 67 #[.string s] w fun e w' => e = .returned (.string (bs (text s.data.toList))) ∧ Below w.heap.size w w' := by
  have hl := (whole_len (n := (s.size : Int)) (by omega) (by omega)).1
  have hcat : bs (whole (s.size : Int)) ++ s = bs (text s.data.toList) := bs_eq (by unfold text; rw [← Lib.size_eq]; obtain ⟨⟨x⟩⟩ := s; simp [bs])
  have hsum : ((bs (whole (s.size : Int))).size : Int) + (s.size : Int) ≤ 9223372036854775807 := by rw [bs_size]; omega
  clear hl
  go_enter Tryz.func67, Tryz.ntmps67
  go_wp2_with fail
  refine (ref_Whole (s.size : Int) w (by omega) (by omega)).mono ?_
  rintro e w2 ⟨rfl, k2⟩
  have K2 := Lib.hid k2
  clear k2
  go_wp2
  go_ret
  exact ⟨rfl, K2.out⟩

end Go.Proofs.YteejldddgogbkaaGreatDoor
/- The document's own sum: bit by bit, as a list of bits. -/
set_option linter.unusedVariables false
set_option maxRecDepth 100000
namespace Go.Proofs.YteejldddgogbkaaGreatDoor
open Go.RowKit

/-- In block B stand 32 bits. -/
def Regs (B : Nat) (g : Nat → Bool) (w : World) : Prop := ∀ j, j < 32 → w.cell? ⟨B, j, none⟩ = some (.bool (g j)) ∧ w.frozen? ⟨B, j, none⟩ = false

theorem Regs.same {B : Nat} {g g' : Nat → Bool} {w : World} (h : Regs B g w) (e : ∀ j, j < 32 → g j = g' j) : Regs B g' w := fun j hj => by rw [← e j hj]; exact h j hj
theorem Regs.set {B : Nat} {g : Nat → Bool} {w : World} (h : Regs B g w) {i : Nat} (hi : i < 32) (v : Bool) : Regs B (fun j => if j = i then v else g j) (w.setCell ⟨B, i, none⟩ (.bool v)) := by
  intro j hj
  refine ⟨?_, by rw [World.frozen?_setCell]; exact (h j hj).2⟩
  by_cases hji : j = i
  · subst hji
    rw [World.cell?_setCell_same w _ _ (h j hj).1]
    simp
  · rw [World.cell?_setCell_other w _ _ _ (fun e => hji (by injection e with _ e2; exact e2.symm)), (h j hj).1]
    simp [hji]
theorem regs_new (w : World) (t : TypeId) : Regs w.heap.size (fun _ => false) (w.alloc (.cells (Array.replicate 32 (.bool false)) t)) := by
  intro j hj
  refine ⟨?_, ?_⟩
  · rw [World.cell?_alloc_mark]
    simp [hj]
  · rw [World.frozen?_alloc_mark]
    simp

theorem down_next (x k j : Nat) : (if j = k then down x k (k + 1) else down x k j) = down x (k + 1) j := by
  unfold down
  by_cases hjk : j = k
  · subst hjk; rw [if_pos rfl, if_neg (by omega), if_pos (by omega)]
  · by_cases hl : j < k
    · simp [hjk, hl, show j < k + 1 by omega]
    · simp [hjk, hl, show ¬ j < k + 1 by omega]
theorem added_yes (y k j : Nat) (h : (2197175160 : Nat).testBit k = true) : (if j = k then !(added y k k) else added y k j) = added y (k + 1) j := by
  unfold added
  by_cases hjk : j = k
  · subst hjk
    rw [if_pos rfl, if_neg (by omega), if_pos (by omega), Nat.testBit_xor, h, Bool.xor_true]
  · by_cases hl : j < k
    · simp [hjk, hl, show j < k + 1 by omega]
    · simp [hjk, hl, show ¬ j < k + 1 by omega]
theorem added_no (y k j : Nat) (h : (2197175160 : Nat).testBit k = false) : added y k j = added y (k + 1) j := by
  unfold added
  by_cases hjk : j = k
  · subst hjk
    rw [if_neg (by omega), if_pos (by omega), Nat.testBit_xor, h, Bool.xor_false]
  · by_cases hl : j < k
    · simp [hl, show j < k + 1 by omega]
    · simp [hl, show ¬ j < k + 1 by omega]
theorem pow32 (k : Nat) (h : k < 32) : ∃ p : Nat, IntKind.u32.wrap ((2 : Int) ^ k) = (p : Int) ∧ 1 ≤ p ∧ ((p : Int) == 0) = false ∧ ∃ d : Nat, (2197175160 : Int) / (p : Int) = (d : Int) ∧ d ≤ 2197175160 ∧ ((d : Int) % 2 == 1) = (2197175160 : Nat).testBit k := by
  have hp : 2 ^ k < 2 ^ 32 := Nat.pow_lt_pow_right (by decide) h
  have h1 : 1 ≤ 2 ^ k := Nat.one_le_two_pow
  refine ⟨2 ^ k, ?_, h1, beq_eq_false_iff_ne.2 (by omega), 2197175160 / 2 ^ k, (Int.natCast_ediv 2197175160 (2 ^ k)).symm, Nat.div_le_self _ _, ?_⟩
  · rw [IntKind.wrap_u32', show ((2 : Int) ^ k) = ((2 ^ k : Nat) : Int) by simp]
    omega
  · rw [Nat.testBit_eq_decide_div_mod_eq]
    show decide _ = _
    apply decide_eq_decide.2
    omega
theorem ret_u32 {a b : Nat} (h : b = a) : Ending.returned (.int .u32 (a : Int)) = Ending.returned (.int .u32 (b : Int)) := by rw [h]
theorem beq_eq_decide (a b : Int) : (a == b) = decide (a = b) := rfl
theorem pow8 (k : Nat) (h : k < 8) : ∃ p : Nat, IntKind.u8.wrap ((2 : Int) ^ k) = (p : Int) ∧ 1 ≤ p ∧ ((p : Int) == 0) = false ∧ ∀ c : Nat, decide (((c / p : Nat) : Int) % 2 = 1) = c.testBit k := by
  have hp : 2 ^ k < 2 ^ 8 := Nat.pow_lt_pow_right (by decide) h
  have h1 : 1 ≤ 2 ^ k := Nat.one_le_two_pow
  refine ⟨2 ^ k, ?_, h1, beq_eq_false_iff_ne.2 (by omega), fun c => ?_⟩
  · rw [IntKind.wrap_u8', show ((2 : Int) ^ k) = ((2 ^ k : Nat) : Int) by simp]
    omega
  · rw [Nat.testBit_eq_decide_div_mod_eq]
    apply decide_eq_decide.2
    omega
theorem quo8 (c p : Nat) (hc : c < 256) (hp : 1 ≤ p) : (c : Int) / (p : Int) = ((c / p : Nat) : Int) := by omega

set_option maxHeartbeats 1000000 in
theorem ref_SumC (s : ByteArray) (w : World) (hs : s.size ≤ 140737488355328) :
    Calls Tryz.prog 37 #[.string s] w fun e w' => e = .returned (.int .u32 (sumL s.data.toList)) ∧ Below w.heap.size w w' := by
  go_enter Tryz.func37, Tryz.ntmps37
  go_wp2_with fail
  go_loopw [4] (fun i wr => ∃ k : Nat, k ≤ 32 ∧ i = .int .i64 k ∧ Regs w.heap.size (fun j => decide (j < k)) wr ∧ Below w.heap.size w wr) (fun i wr => 32 - (intOf i).toNat)
  case atStart => exact ⟨0, by omega, rfl, (regs_new w 127).same (fun j _ => by simp), (Below.refl _ _).alloc (Nat.le_refl _) _⟩
  case round =>
    obtain ⟨k, hk, rfl, hreg, hbw⟩ := hrel
    have HB := Lib.hid hbw
    have HR := Lib.hid hreg
    clear hbw hreg
    by_cases hlt : k < 32
    · obtain ⟨c1, c2⟩ := HR.out k hlt
      go_wp2_with fail
      go_roundw
      case rel => exact ⟨k + 1, by omega, by go_num, (HR.out.set hlt true).same (fun j _ => by by_cases hj : j = k <;> simp [hj] <;> omega), HB.out.setCell (Nat.le_refl _) _⟩
      case measure => simp [intOf]; omega
    · obtain rfl : k = 32 := by omega
      have HR1 := Lib.hid (show Regs w.heap.size (fun j => (4294967295 : Nat).testBit j) wr from HR.out.same (fun j hj => by
        have := Nat.testBit_two_pow_sub_one 32 j
        rw [show (2 : Nat) ^ 32 - 1 = 4294967295 by decide] at this
        rw [this]))
      clear HR
      go_wp2_with fail
      go_loopw [5] (fun i wo => ∃ k : Nat, k ≤ s.size ∧ i = .int .i64 k ∧ Regs w.heap.size (fun j => (feedL 4294967295 (s.data.toList.take k)).testBit j) wo ∧ Below w.heap.size w wo) (fun i wr => s.size - (intOf i).toNat)
      case atStart => exact ⟨0, by omega, rfl, HR1.out, HB.out⟩
      case round =>
        obtain ⟨i, hi, rfl, hreg, hbw⟩ := hrel
        have HO := Lib.hid hbw
        have HRO := Lib.hid hreg
        clear hbw hreg HB HR1
        by_cases hit : i < s.size
        · have hfn := Lib.hid (feedS_next 4294967295 s i hit)
          have hq := Lib.hid (feedL_lt' (s.data.toList.take i) (r := 4294967295) (by decide))
          generalize feedL 4294967295 (s.data.toList.take i) = R at *
          have hc := Lib.hid (s[i]).toNat_lt
          go_wp2_with fail
          go_loopw [6] (fun y wp => ∃ k : Nat, k ≤ 8 ∧ y = .int .i64 k ∧ Regs w.heap.size (fun j => (feedB R ((bitsN 8 (s[i]).toNat).take k)).testBit j) wp ∧ Below w.heap.size w wp) (fun y wr => 8 - (intOf y).toNat)
          case atStart => exact ⟨0, by omega, rfl, HRO.out, HO.out⟩
          case round =>
            obtain ⟨k, hk, rfl, hreg, hbw⟩ := hrel
            have HP := Lib.hid hbw
            have HRP := Lib.hid hreg
            clear hbw hreg HO HRO hlt
            by_cases hk8 : k < 8
            · go_wp2_with fail
              obtain ⟨pw, h1, h2, h3, h4⟩ := pow8 k hk8
              have hbit := Lib.hid (h4 (s[i]).toNat)
              have hd := quo8 (s[i]).toNat pw hc.out h2
              have hfnext := Lib.hid (feed_next R (s[i]).toNat k hk8)
              have hxl := Lib.hid (show feedB R ((bitsN 8 (s[i]).toNat).take k) < 4294967296 from feedB_lt _ hq.out)
              generalize feedB R ((bitsN 8 (s[i]).toNat).take k) = x at *
              obtain ⟨d, hd1⟩ : ∃ d, d = (s[i]).toNat / pw := ⟨_, rfl⟩
              rw [← hd1] at hbit hd
              clear hd1 h4
              go_quiet (fail)
              have HRQ := Lib.hid (show Regs w.heap.size (fun j => x.testBit j) (wr.drewN nq) from HRP.out)
              have HQ := Lib.hid (below_drewN HP.out nq)
              have hbe : ((d : Int) % 2 == 1) = (s[i]).toNat.testBit k := by rw [← hbit.out]; exact beq_eq_decide _ _
              rw [hbe]
              generalize (s[i]).toNat.testBit k = bit at *
              generalize wr.drewN nq = wq at *
              clear HRP HP hbe hbit
              have c0 : wq.cell? ⟨w.heap.size, 0, none⟩ = some (.bool (x.testBit 0)) := (HRQ.out 0 (by omega)).1
              obtain ⟨low, hlow⟩ : ∃ low, low = x.testBit 0 := ⟨_, rfl⟩
              rw [← hlow] at c0
              have HLOW := Lib.hid hlow
              clear hlow
              go_wp2_with fail
              obtain ⟨out, hout⟩ : ∃ out, out = !(low == bit) := ⟨_, rfl⟩
              rw [← hout]
              have HOUT := Lib.hid (show stepB x bit = x / 2 ^^^ (if out = true then 2197175160 else 0) by rw [hout, HLOW.out]; rfl)
              clear hout HLOW c0
              go_loopw [9] (fun y wl => ∃ j : Nat, j ≤ 31 ∧ y = .int .i64 j ∧ Regs w.heap.size (down x j) wl ∧ Below w.heap.size w wl) (fun y wl => 31 - (intOf y).toNat)
              case atStart => exact ⟨0, by omega, rfl, HRQ.out.same (fun j _ => by simp [down]), HQ.out⟩
              case round =>
                obtain ⟨j, hj, rfl, hreg, hbw⟩ := hrel
                have HL := Lib.hid hbw
                have HRL := Lib.hid hreg
                clear hbw hreg HRQ HQ
                by_cases hj31 : j < 31
                · obtain ⟨c1, _⟩ := HRL.out (j + 1) (by omega)
                  obtain ⟨c2, c3⟩ := HRL.out j (by omega)
                  obtain ⟨nx, hnx⟩ : ∃ nx, nx = down x j (j + 1) := ⟨_, rfl⟩
                  obtain ⟨ol, hol⟩ : ∃ ol, ol = down x j j := ⟨_, rfl⟩
                  rw [← hnx] at c1
                  rw [← hol] at c2
                  have HN := Lib.hid hnx
                  clear hnx hol
                  go_wp2_with fail
                  go_roundw
                  case rel =>
                    refine ⟨j + 1, by omega, by go_num, (HRL.out.set (by omega) nx).same (fun i hi => ?_), HL.out.setCell (Nat.le_refl _) _⟩
                    rw [HN.out]
                    exact down_next x j i
                  case measure => simp [intOf]; omega
                · obtain rfl : j = 31 := by omega
                  obtain ⟨c2, c3⟩ := HRL.out 31 (by omega)
                  obtain ⟨ol, hol⟩ : ∃ ol, ol = down x 31 31 := ⟨_, rfl⟩
                  rw [← hol] at c2
                  clear hol
                  go_wp2_with fail
                  have HR5 := Lib.hid (show Regs w.heap.size (added (x / 2) 0) (wr.setCell ⟨w.heap.size, 31, none⟩ (.bool false)) from (HRL.out.set (i := 31) (by omega) false).same (fun i hi => by
                    rw [show added (x / 2) 0 i = (x / 2).testBit i by simp [added]]
                    exact down_all x i hxl.out hi))
                  have HB5 := Lib.hid (HL.out.setCell (p := ⟨w.heap.size, 31, none⟩) (Nat.le_refl _) (.bool false))
                  clear HRL HL c2 c3
                  generalize wr.setCell ⟨w.heap.size, 31, none⟩ (.bool false) = ws at *
                  cases out with
                  | false =>
                    go_loopw [10] (fun y wl => y = .int .i64 0 ∧ Regs w.heap.size (added (x / 2) 0) wl ∧ Below w.heap.size w wl) (fun y wl => 0)
                    case atStart => exact ⟨rfl, HR5.out, HB5.out⟩
                    case round =>
                      obtain ⟨rfl, hreg, hbw⟩ := hrel
                      have HL := Lib.hid hbw
                      have HRL := Lib.hid hreg
                      clear hbw hreg HR5 HB5
                      go_wp2_with fail
                      go_roundw
                      case rel =>
                        refine ⟨k + 1, by omega, by go_num, HRL.out.same (fun i hi => ?_), HL.out⟩
                        rw [hfnext.out, HOUT.out]
                        simp [added]
                      case measure => simp [intOf]; omega
                  | true =>
                    go_loopw [10] (fun y wl => ∃ j : Nat, j ≤ 32 ∧ y = .int .i64 j ∧ Regs w.heap.size (added (x / 2) j) wl ∧ Below w.heap.size w wl) (fun y wl => 32 - (intOf y).toNat)
                    case atStart => exact ⟨0, by omega, rfl, HR5.out, HB5.out⟩
                    case round =>
                      obtain ⟨j, hj, rfl, hreg, hbw⟩ := hrel
                      have HL := Lib.hid hbw
                      have HRL := Lib.hid hreg
                      clear hbw hreg HR5 HB5
                      by_cases hj32 : j < 32
                      · obtain ⟨c2, c3⟩ := HRL.out j (by omega)
                        obtain ⟨ol, hol⟩ : ∃ ol, ol = added (x / 2) j j := ⟨_, rfl⟩
                        rw [← hol] at c2
                        have HOL := Lib.hid hol
                        obtain ⟨pq, p1, p2, p3, dd, p4, p5, p6⟩ := pow32 j hj32
                        clear hol
                        cases htap : (2197175160 : Nat).testBit j with
                        | true =>
                          rw [htap] at p6
                          have HTAP := Lib.hid htap
                          clear htap
                          go_wp2_with fail
                          go_roundw
                          case rel =>
                            refine ⟨j + 1, by omega, by go_num, (HRL.out.set (by omega) (!ol)).same (fun i hi => ?_), HL.out.setCell (Nat.le_refl _) _⟩
                            rw [HOL.out]
                            exact added_yes (x / 2) j i HTAP.out
                          case measure => simp [intOf]; omega
                        | false =>
                          rw [htap] at p6
                          have HTAP := Lib.hid htap
                          clear htap
                          go_wp2_with fail
                          go_roundw
                          case rel =>
                            refine ⟨j + 1, by omega, by go_num, HRL.out.same (fun i hi => added_no (x / 2) j i HTAP.out), HL.out⟩
                          case measure => simp [intOf]; omega
                      · obtain rfl : j = 32 := by omega
                        go_wp2_with fail
                        go_roundw
                        case rel =>
                          refine ⟨k + 1, by omega, by go_num, HRL.out.same (fun i hi => ?_), HL.out⟩
                          rw [hfnext.out, HOUT.out]
                          simp [added, hi]
                        case measure => simp [intOf]; omega
            · obtain rfl : k = 8 := by omega
              rw [feed_all R _ hc.out, ← hfn.out] at HRP
              go_wp2_with fail
              go_roundw
              case rel => exact ⟨i + 1, by omega, by go_num, HRP.out, HP.out⟩
              case measure => simp [intOf]; omega
        · obtain rfl : i = s.size := by omega
          rw [feedS_all] at HRO
          have hrl := feedL_lt' s.data.toList (r := 4294967295) (by decide)
          have hsum : sumL s.data.toList = turnedFrom (feedL 4294967295 s.data.toList) 0 := by unfold sumL turnedFrom; simp
          generalize feedL 4294967295 s.data.toList = r at *
          have HRr := Lib.hid hrl
          have HSUM := Lib.hid hsum
          clear hrl hsum
          go_wp2_with fail
          go_loopw [11, 12] (fun x y wl => ∃ j : Nat, j ≤ 32 ∧ y = .int .i64 ((j : Int) - 1) ∧ x = .int .u32 (turnedFrom r j) ∧ Regs w.heap.size (fun j => r.testBit j) wl ∧ Below w.heap.size w wl) (fun x y wl => (intOf y + 1).toNat)
          case atStart => exact ⟨32, by omega, rfl, by rw [turned_top]; rfl, HRO.out, HO.out⟩
          case round =>
            obtain ⟨j, hj, rfl, rfl, hreg, hbw⟩ := hrel
            have HL := Lib.hid hbw
            have HRL := Lib.hid hreg
            clear hbw hreg HRO HO
            rcases Nat.eq_zero_or_pos j with rfl | hpos
            · rw [show ((0 : Nat) : Int) - 1 = -1 from rfl]
              go_wp2_with fail
              go_ret
              exact ⟨ret_u32 HSUM.out, HL.out⟩
            · obtain ⟨m, rfl⟩ : ∃ m, j = m + 1 := ⟨j - 1, by omega⟩
              rw [show ((m + 1 : Nat) : Int) - 1 = (m : Int) by omega]
              have hnx := turned_next r m HRr.out (by omega)
              have hle : turnedFrom r m ≤ 4294967295 := by unfold turnedFrom; exact Nat.le_trans (Nat.div_le_self _ _) (by omega)
              have c1 : wr.cell? ⟨w.heap.size, m, none⟩ = some (.bool (r.testBit m)) := (HRL.out m (by omega)).1
              generalize turnedFrom r (m + 1) = X at *
              obtain ⟨Y, hYd⟩ : ∃ Y, Y = turnedFrom r m := ⟨_, rfl⟩
              rw [← hYd] at hnx hle
              have HYD := Lib.hid hYd
              clear hYd
              cases hb : r.testBit m with
              | true =>
                rw [hb] at hnx c1
                rw [if_pos rfl] at hnx
                have hY : (2 : Int) * (X : Int) = (Y : Int) := by omega
                clear hnx hb
                go_wp2_with fail
                go_roundw
                case rel => exact ⟨m, by omega, rfl, by rw [HYD.out], HRL.out, HL.out⟩
                case measure => simp [intOf]
              | false =>
                rw [hb] at hnx c1
                rw [if_neg (by simp)] at hnx
                have hY : (2 : Int) * (X : Int) + 1 = (Y : Int) := by omega
                clear hnx hb
                go_wp2_with fail
                go_roundw
                case rel => exact ⟨m, by omega, rfl, by rw [HYD.out], HRL.out, HL.out⟩
                case measure => simp [intOf]
end Go.Proofs.YteejldddgogbkaaGreatDoor
/- The document's own answers: a text with its sum, put and taken. -/
set_option linter.unusedVariables false
set_option maxRecDepth 100000
namespace Go.Proofs.YteejldddgogbkaaGreatDoor
open Go.RowKit

set_option maxHeartbeats 400000 in
theorem ref_Four (x : Nat) (w : World) (hx : x < 4294967296) :
    Calls Tryz.prog 35 #[.int .u32 x] w fun e w' => e = .returned (.string (bs (four x))) ∧ Below w.heap.size w w' := by
  have hconv := conv_four w w.heap.size x rfl ((x : Int) / 16777216) ((x : Int) / 65536 % 256) ((x : Int) / 256 % 256) ((x : Int) % 256) (by omega) (by omega) (by omega) (by omega)
  go_enter Tryz.func35, Tryz.ntmps35
  go_wp2
  go_ret
  exact ⟨rfl, (Below.refl _ _).alloc (Nat.le_refl _) _⟩

set_option maxHeartbeats 400000 in
theorem ref_Put (s : ByteArray) (w : World) (hs : s.size ≤ 140737488351232) :
    Calls Tryz.prog 10 #[.string s] w fun e w' => e = .returned (.string (bs (s.data.toList ++ four (sumL s.data.toList)))) ∧ Below w.heap.size w w' := by
  have hcat := cat_bs s (four (sumL s.data.toList))
  have hsum : (s.size : Int) + ((bs (four (sumL s.data.toList))).size : Int) ≤ 9223372036854775807 := by rw [bs_size, four_len]; omega
  have hlt := sumL_lt s.data.toList
  go_enter Tryz.func10, Tryz.ntmps10
  go_wp2_with fail
  refine (ref_SumC s w (by omega)).mono ?_
  rintro e w1 ⟨rfl, k1⟩
  go_wp2_with fail
  refine (ref_Four _ w1 hlt).mono ?_
  rintro e w2 ⟨rfl, k2⟩
  go_wp2
  go_ret
  exact ⟨rfl, k1.trans (k2.mono k1.size)⟩

theorem seen_refSum (W : World) (s : ByteArray) (hs : s.size ≤ 140737488355328) (n : Seen W) : Calls Tryz.prog 37 #[.string s] n.val fun e w'' => e = .returned (.int .u32 (sumL s.data.toList)) ∧ ∃ m : Seen W, w'' = m.val :=
  (ref_SumC s n.val hs).mono fun _ w'' ⟨h1, h2⟩ => ⟨h1, ⟨⟨w'', n.below.trans (h2.mono n.below.size)⟩, rfl⟩⟩
theorem seen_refFour (W : World) (x : Nat) (hx : x < 4294967296) (n : Seen W) : Calls Tryz.prog 35 #[.int .u32 x] n.val fun e w'' => e = .returned (.string (bs (four x))) ∧ ∃ m : Seen W, w'' = m.val :=
  (ref_Four x n.val hx).mono fun _ w'' ⟨h1, h2⟩ => ⟨h1, ⟨⟨w'', n.below.trans (h2.mono n.below.size)⟩, rfl⟩⟩

set_option maxHeartbeats 400000 in
theorem ref_Take (s : ByteArray) (w : World) (hs : s.size ≤ 140737488355328) :
    Calls Tryz.prog 42 #[.string s] w fun e w' => e = .returned (.tuple #[.string (bs (takeT s.data.toList)), .int .i64 (takeE s.data.toList)]) ∧ Below w.heap.size w w' := by
  have hl : s.data.toList.length = s.size := by rw [← Lib.size_eq]
  by_cases h4 : s.size < 4
  · have e1 : takeT s.data.toList = [] := by unfold takeT; rw [if_neg (by omega)]
    have e2 : takeE s.data.toList = 2 := by unfold takeE; rw [if_pos (by omega)]
    rw [e1, e2]
    clear e1 e2
    go_enter Tryz.func42, Tryz.ntmps42
    go_wp2
    go_ret2
    exact ⟨rfl, Below.refl _ _⟩
  · obtain ⟨n, hn⟩ : ∃ n : Nat, s.size = n + 4 := ⟨s.size - 4, by omega⟩
    obtain ⟨x1, x2⟩ := take_split (s := s) (n := n) (by omega)
    have hok : okT s.data.toList ↔ s.data.toList.drop n = four (sumL (s.data.toList.take n)) := by unfold okT; rw [hl, hn, Nat.add_sub_cancel]
    have e1 : takeT s.data.toList = if okT s.data.toList then s.data.toList.take n else [] := by
      unfold takeT
      rw [hl, hn, Nat.add_sub_cancel]
      by_cases h : okT s.data.toList
      · rw [if_pos ⟨by omega, h⟩, if_pos h]
      · rw [if_neg (fun x => h x.2), if_neg h]
    have e2 : takeE s.data.toList = if okT s.data.toList then 0 else 4 := by unfold takeE; rw [if_neg (by omega)]
    have hsz : ((s.size : Int) - 4) = (n : Int) := by omega
    have hle : n ≤ s.size := by omega
    have hlen : (s.data.toList.take n).length ≤ 140737488355328 := by rw [List.length_take]; omega
    have HN := Lib.hid hn
    clear hn
    go_enter Tryz.func42, Tryz.ntmps42
    go_wp2_with fail
    refine region_seen (by kernel_rfl) (by kernel_rfl) ?_
    repeat (go_big_quiet_step (first | (go_at_call 37; exact seen_refSum _ _ (by rw [bs_size]; exact hlen) _) | (go_at_call 35; exact seen_refFour _ _ (sumL_lt _) _)))
    refine wpQuiet_nil ?_
    rintro _ ⟨m, rfl⟩
    go_wp2_with fail
    · rename_i h
      rw [Bool.not_eq_true', Bool.eq_false_iff, Ne, same_bytes, bs_list, ← hok] at h
      go_ret2
      exact ⟨ret2s (by rw [e1, if_neg h]; rfl) (by rw [e2, if_neg h]), m.below⟩
    · rename_i h
      rw [Bool.not_eq_false', same_bytes, bs_list, ← hok] at h
      go_ret2
      exact ⟨ret2s (by rw [e1, if_pos h]) (by rw [e2, if_pos h]), m.below⟩
end Go.Proofs.YteejldddgogbkaaGreatDoor
/- The document's Pack. -/
set_option linter.unusedVariables false
set_option maxRecDepth 100000
set_option maxRecDepth 100000
namespace Go.Proofs.YteejldddgogbkaaGreatDoor
open Go.RowKit

theorem seen_call {P : Program} {F : FuncId} {args : Array Value} {r : Value} {W : World} (h : ∀ w, Calls P F args w fun e w' => e = .returned r ∧ Below w.heap.size w w') (n : Seen W) : Calls P F args n.val fun e w'' => e = .returned r ∧ ∃ m : Seen W, w'' = m.val :=
  (h n.val).mono fun _ w'' ⟨h1, h2⟩ => ⟨h1, ⟨⟨w'', n.below.trans (h2.mono n.below.size)⟩, rfl⟩⟩
theorem bs_sum (l m : List UInt8) (h : l.length + m.length ≤ 9223372036854775807) : ((bs l).size : Int) + ((bs m).size : Int) ≤ 9223372036854775807 := by rw [bs_size, bs_size]; omega
theorem bs_join (l m : List UInt8) : bs l ++ bs m = bs (l ++ m) := by rw [bs_cat, bs_list]

set_option maxHeartbeats 4000000 in
theorem ref_Pack (a : Option Addr) (len cap : Nat) (T : List Ent) (w : World) (hT : Hid (IsE w a len T)) (hl : len ≤ 65536) (hs : Hid (smallE T)) :
    Calls Tryz.prog 32 #[.slice a len cap] w fun e w' => e = .returned (.string (bs (listB T ++ four (sumL (listB T))))) ∧ Below w.heap.size w w' := by
  have hlen := Lib.hid hT.out.1
  go_enter Tryz.func32, Tryz.ntmps32
  go_wp2_with fail
  refine (ref_Whole (len : Int) w (by omega) (by omega)).mono ?_
  rintro e w1 ⟨rfl, k1⟩
  have K1 := Lib.hid k1
  clear k1
  go_wp2_with fail
  go_loopw [3, 4, 5] (fun sv lv iv wr => ∃ i : Nat, i ≤ len ∧ iv = .int .i64 i ∧ sv = .string (bs (whole (len : Int) ++ entsB [] (T.take i))) ∧ lv = .string (bs (lastK [] (T.take i))) ∧ Hid (Below w.heap.size w wr)) (fun sv lv iv wr => len - (intOf iv).toNat)
  case atStart => exact ⟨0, Nat.zero_le _, rfl, by simp [entsB], rfl, K1⟩
  case round =>
    obtain ⟨i, hi, rfl, rfl, rfl, hB⟩ := hrel
    by_cases hlt : i < len
    · obtain ⟨b, off, x, rfl, hx, _, hc⟩ := (hT.out.below hB.out).at hlt
      have hsx := hs.out x (List.mem_of_getElem? hx)
      have c0 := hc.c0
      have c1 := hc.c1
      have c2 := hc.c2
      have hnext := Lib.hid (show entsB [] (T.take (i + 1)) = entsB [] (T.take i) ++ entB (lastK [] (T.take i)) x by rw [take_ent hx, entsB_snoc])
      have hlast := Lib.hid (show lastK [] (T.take (i + 1)) = x.key by rw [take_ent hx, lastK_snoc])
      have hll := Lib.hid (show (whole (len : Int) ++ entsB [] (T.take i)).length ≤ 10000000000 by
        have h0 := (whole_len (n := (len : Int)) (by omega) (by omega)).1
        have h1 := entsB_len (T.take i) [] (hs.out.take i)
        rw [List.length_take] at h1
        rw [List.length_append]
        omega)
      have hlk : (lastK [] (T.take i)).length ≤ 65536 := lastK_le _ _ (by simp) (hs.out.take i)
      obtain ⟨S, hS⟩ : ∃ S, S = whole (len : Int) ++ entsB [] (T.take i) := ⟨_, rfl⟩
      obtain ⟨last, hla⟩ : ∃ last, last = lastK [] (T.take i) := ⟨_, rfl⟩
      have hnext2 := Lib.hid (show whole (len : Int) ++ entsB [] (T.take (i + 1)) = S ++ entB last x by rw [hnext.out, hS, hla, List.append_assoc])
      rw [← hS] at hll ⊢
      rw [← hla] at hlk ⊢
      obtain ⟨n, hn⟩ : ∃ n, n = sharedL last x.key := ⟨_, rfl⟩
      have hnk : n ≤ x.key.length := by rw [hn]; exact (shared_le _ _).2
      obtain ⟨rest, hrest⟩ : ∃ rest, rest = x.key.drop n := ⟨_, rfl⟩
      have HE := Lib.hid (show entB last x = whole (n : Int) ++ text rest ++ (if x.gone then whole 0 else whole ((x.val.length + 1 : Nat) : Int) ++ x.val) by rw [hrest, hn]; rfl)
      have hrl : rest.length ≤ 65536 := by rw [hrest, List.length_drop]; omega
      have hr := rest_bs x.key n
      rw [← hrest, bs_size] at hr
      have z1 : (bs x.key).size = x.key.length := bs_size _
      have z2 : (bs x.val).size = x.val.length := bs_size _
      obtain ⟨W0, hW0⟩ : ∃ W0, wr.alloc (.cells #[.string (bs x.key), .string (bs x.val), .bool x.gone] 49) = W0 := ⟨_, rfl⟩
      have P0 := Lib.hid (show Bx3 wr.heap.size x W0 ∧ Below w.heap.size w W0 by rw [← hW0]; exact ⟨heap_new wr _, hB.out.alloc hB.out.size _⟩)
      have HW0 := Lib.hid hW0
      have HN := Lib.hid hn
      clear hx hc hnext hS hla hn hrest hW0 hB
      go_upto_region 7 with (fail)
      rw [HW0.out]
      obtain ⟨Z, hZ⟩ : ∃ Z, Z = wr.heap.size := ⟨_, rfl⟩
      rw [← hZ] at P0 ⊢
      clear HW0 c0 c1 c2 hZ
      obtain ⟨d0, d1, d2⟩ := P0.out.1.cells
      go_wp2_with fail
      refine (ref_Shared last x.key W0 (by omega) (by omega)).mono ?_
      rintro e W1 ⟨rfl, k1⟩
      rw [← HN.out]
      have P1 := Lib.hid (show Bx3 Z x W1 ∧ Below w.heap.size w W1 from ⟨(k1.block Z (heap_lt P0.out.1)).trans P0.out.1, P0.out.2.trans (k1.mono P0.out.2.size)⟩)
      clear k1 P0 d0 d1 d2
      obtain ⟨A, hA⟩ : ∃ A, A = whole (n : Int) := ⟨_, rfl⟩
      obtain ⟨X, hX⟩ : ∃ X, X = text rest := ⟨_, rfl⟩
      have hAl : A.length ≤ 11 := by rw [hA]; exact (whole_len (by omega) (by omega)).1
      have hXl : X.length ≤ 70000 := by
        rw [hX]
        unfold text
        rw [List.length_append]
        have := (whole_len (n := (rest.length : Int)) (by omega) (by omega)).1
        omega
      have H24 := Lib.hid (fun n : Seen W1 => by
        have h := seen_call (fun W => ref_Whole (n := ((sharedL last x.key : Nat) : Int)) W (by have := (shared_le last x.key).2; omega) (by have := (shared_le last x.key).2; omega)) n
        rw [← HN.out, ← hA] at h
        exact h)
      have H26 := Lib.hid (fun n : Seen W1 => by
        have h := seen_call (fun W => ref_Text (bs rest) W (by rw [bs_size]; omega)) n
        rw [bs_list, ← hX] at h
        exact h)
      have n0 : ∀ n : Seen W1, n.val.cell? ⟨Z, 0, none⟩ = some (.string (bs x.key)) := fun n => by rw [n.below.cell (p := ⟨Z, 0, none⟩) (heap_lt P1.out.1)]; exact P1.out.1.cells.1
      obtain ⟨S1, hS1⟩ : ∃ S1, S1 = S ++ A := ⟨_, rfl⟩
      obtain ⟨S2, hS2⟩ : ∃ S2, S2 = S1 ++ X := ⟨_, rfl⟩
      have j1 : bs S ++ bs A = bs S1 := by rw [bs_join, hS1]
      have j2 : bs S1 ++ bs X = bs S2 := by rw [bs_join, hS2]
      have s1 := bs_sum S A (by have := hll.out; omega)
      have hS1l : S1.length ≤ 10000000100 := by rw [hS1, List.length_append]; have := hll.out; omega
      have s2 := bs_sum S1 X (by omega)
      have hS2l : S2.length ≤ 10000080000 := by rw [hS2, List.length_append]; omega
      have HS2 := Lib.hid (show S2 = S ++ (whole (n : Int) ++ text rest) by rw [hS2, hS1, hA, hX, List.append_assoc])
      clear hA hX hS1 hS2
      go_wp2_with fail
      refine region_seen (by kernel_rfl) (by kernel_rfl) ?_
      repeat go_big_quiet_step (first | (go_at_call 33; with_reducible exact H24.out _) | (go_at_call 67; with_reducible exact H26.out _))
      refine wpQuiet_nil ?_
      rintro _ ⟨m1, rfl⟩
      have P2 := Lib.hid (show Bx3 Z x m1.val ∧ Below w.heap.size w m1.val from ⟨(m1.below.block Z (heap_lt P1.out.1)).trans P1.out.1, P1.out.2.trans (m1.below.mono P1.out.2.size)⟩)
      clear H24 H26 n0 j1 j2 s1 s2 P1
      generalize m1.val = W2 at *
      obtain ⟨d0, d1, d2⟩ := P2.out.1.cells
      rcases Bool.eq_false_or_eq_true x.gone with hg | hg
      · rw [hg] at d2
        have HE2 := Lib.hid (show S ++ entB last x = S2 ++ whole 0 by rw [HE.out, if_pos hg, HS2.out]; simp only [List.append_assoc])
        obtain ⟨O, hO⟩ : ∃ O, O = whole 0 := ⟨_, rfl⟩
        have hOl : O.length ≤ 11 := by rw [hO]; exact (whole_len (n := (0 : Int)) (by omega) (by omega)).1
        have h24 := ref_Whole 0 W2 (by decide) (by decide)
        rw [← hO] at h24 HE2
        have H24 := Lib.hid h24
        obtain ⟨S3, hS3⟩ : ∃ S3, S3 = S2 ++ O := ⟨_, rfl⟩
        have j1 : bs S2 ++ bs O = bs S3 := by rw [bs_join, hS3]
        have s1 := bs_sum S2 O (by omega)
        rw [← hS3] at HE2
        clear hO h24 hS3 hg
        go_wp2_with fail
        refine H24.out.mono ?_
        rintro e W3 ⟨rfl, k3⟩
        have P3 := Lib.hid (show Bx3 Z x W3 ∧ Below w.heap.size w W3 from ⟨(k3.block Z (heap_lt P2.out.1)).trans P2.out.1, P2.out.2.trans (k3.mono P2.out.2.size)⟩)
        clear k3 d0 d1 d2
        obtain ⟨d0, d1, d2⟩ := P3.out.1.cells
        go_wp2_with fail
        go_roundw
        case rel => exact ⟨i + 1, by omega, by go_num, by rw [hnext2.out, HE2.out], by rw [hlast.out], Lib.hid P3.out.2⟩
        case measure => simp [intOf]; omega
      · rw [hg] at d2
        obtain ⟨O, hO⟩ : ∃ O, O = whole ((x.val.length + 1 : Nat) : Int) := ⟨_, rfl⟩
        have HE2 := Lib.hid (show S ++ entB last x = (S2 ++ O) ++ x.val by rw [HE.out, if_neg (by rw [hg]; decide), HS2.out, hO]; simp only [List.append_assoc])
        have hOl : O.length ≤ 11 := by rw [hO]; exact (whole_len (by omega) (by omega)).1
        have H24 := Lib.hid (fun n : Seen W2 => by
          have h := seen_call (fun W => ref_Whole ((x.val.length + 1 : Nat) : Int) W (by omega) (by omega)) n
          rw [← hO] at h
          rw [show ((x.val.length + 1 : Nat) : Int) = (x.val.length : Int) + 1 by omega] at h
          exact h)
        have n1 : ∀ n : Seen W2, n.val.cell? ⟨Z, 1, none⟩ = some (.string (bs x.val)) := fun n => by rw [n.below.cell (p := ⟨Z, 1, none⟩) (heap_lt P2.out.1)]; exact P2.out.1.cells.2.1
        obtain ⟨S3, hS3⟩ : ∃ S3, S3 = S2 ++ O := ⟨_, rfl⟩
        obtain ⟨S4, hS4⟩ : ∃ S4, S4 = S3 ++ x.val := ⟨_, rfl⟩
        have j1 : bs S2 ++ bs O = bs S3 := by rw [bs_join, hS3]
        have j2 : bs S3 ++ bs x.val = bs S4 := by rw [bs_join, hS4]
        have s1 := bs_sum S2 O (by omega)
        have hS3l : S3.length ≤ 10000080100 := by rw [hS3, List.length_append]; omega
        have s2 := bs_sum S3 x.val (by omega)
        rw [← hS3, ← hS4] at HE2
        clear hO hS3 hS4 hg
        go_wp2_with fail
        refine region_seen (by kernel_rfl) (by kernel_rfl) ?_
        repeat go_big_quiet_step (first | (go_at_call 33; with_reducible exact H24.out _))
        refine wpQuiet_nil ?_
        rintro _ ⟨m2, rfl⟩
        have P3 := Lib.hid (show Bx3 Z x m2.val ∧ Below w.heap.size w m2.val from ⟨(m2.below.block Z (heap_lt P2.out.1)).trans P2.out.1, P2.out.2.trans (m2.below.mono P2.out.2.size)⟩)
        clear H24 n1 j1 j2 s1 s2 P2 d0 d1 d2
        generalize m2.val = W3 at *
        obtain ⟨d0, d1, d2⟩ := P3.out.1.cells
        go_wp2_with fail
        go_roundw
        case rel => exact ⟨i + 1, by omega, by go_num, by rw [hnext2.out, HE2.out], by rw [hlast.out], Lib.hid P3.out.2⟩
        case measure => simp [intOf]; omega
    · have hall := Lib.hid (show whole (len : Int) ++ entsB [] (T.take i) = listB T by
        rw [List.take_of_length_le (by rw [← hlen.out]; omega), hlen.out]
        rfl)
      have hbl := Lib.hid (listB_len hs.out (by rw [← hlen.out]; exact hl))
      obtain ⟨S, hS⟩ : ∃ S, S = listB T := ⟨_, rfl⟩
      rw [hall.out, ← hS]
      rw [← hS] at hbl
      have HS := Lib.hid hS
      clear hS
      go_wp2_with fail
      refine (ref_Put (bs S) wr (by rw [bs_size]; have := hbl.out; omega)).mono ?_
      rintro e W2 ⟨rfl, k2⟩
      rw [bs_list]
      have K2 := Lib.hid (hB.out.trans (k2.mono hB.out.size))
      clear k2
      go_wp2_with fail
      go_ret
      exact ⟨rets (by rw [HS.out]), K2.out⟩
end Go.Proofs.YteejldddgogbkaaGreatDoor
