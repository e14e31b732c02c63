/- Texts put together: WalFramesWalk, WalNum, ByteOrder, ManPlain, ManRow, ManAtE, ManNums -/
import Derived.Test.YtgljjdldhnajdaaGreatMPac04
import Derived.Test.YtgljjdldhnajdaaGreatMPac00
import Derived.Test.YtgljjdldhnajdaaGreatMPac02
import Derived.Test.YtgljjdldhnajdaaGreatMPac01
/- WalFrames, walked: records have the document's frames, and any bytes bear the records that it says. -/
set_option linter.unusedVariables false
set_option maxRecDepth 100000
set_option maxRecDepth 100000
namespace Go.Proofs.YtgljjdldhnajdaaGreat
open Go.RowKit

/-- Texts that came in. -/
theorem txv_in {w : World} {a : Option Addr} {len cap : Nat} {T : List ByteArray} (h : IsTexts w a len T) : TxV w (.slice a len cap) (T.map fun t => t.data.toList) := by
  obtain ⟨h1, b, off, h2, h3⟩ := h
  refine ⟨a, cap, by rw [List.length_map, h1], b, off, ?_, fun k hk => ?_⟩
  · rw [List.length_map, ← h1]; exact h2
  · rw [List.length_map] at hk
    obtain ⟨h4, h5⟩ := h3 k hk
    refine ⟨h4, ?_⟩
    rw [h5, List.getElem_map, List.getD_eq_getElem?_getD, List.getElem?_eq_getElem hk]
    simp only [Option.getD_some]
    rw [bs_eq (s := T[k]) rfl]
    rfl
theorem in_small {T : List ByteArray} (h : ∀ t ∈ T, t.size ≤ 140737488351232) : ∀ t ∈ (T.map fun t => t.data.toList), t.length ≤ 9223372036854775807 := by
  intro t ht
  obtain ⟨u, hu, rfl⟩ := List.mem_map.1 ht
  have := h u hu
  rw [← Lib.size_eq]
  omega

end Go.Proofs.YtgljjdldhnajdaaGreat
/- Rows of numbers, bytes of a row, the beginning of a slice of texts: what the law of frames that are cut off wants. -/
set_option linter.unusedVariables false
set_option maxRecDepth 100000
set_option maxRecDepth 100000
namespace Go.Proofs.YtgljjdldhnajdaaGreat
open Go.RowKit

theorem infoInt : (Tryz.prog.info? 3).map (fun i => (i.zero, i.size, i.bytes)) = some (some (.int .i64 0), 1, 8) := by kernel_rfl
/-- A row of numbers of the call's own; a slice of numbers. -/
def ncells (L : List Nat) : List Value := L.map fun (n : Nat) => Value.int .i64 (n : Int)
theorem ncells_snoc (L : List Nat) (n : Nat) : ncells (L ++ [n]) = ncells L ++ [.int .i64 (n : Int)] := by simp [ncells]
def OwnN (w : World) (B : Nat) (v : Value) (L : List Nat) : Prop := OffRow w B 3 1 v L.length (ncells L)
def NsV (w : World) (v : Value) (L : List Nat) : Prop := ∃ a cap, v = .slice a L.length cap ∧ ∃ b off, (L.length = 0 ∨ a = some ⟨b, off, none⟩) ∧ ∀ k (hk : k < L.length), b < w.heap.size ∧ w.cell? ⟨b, off + k, none⟩ = some (.int .i64 (L[k] : Int))
theorem NsV.below {w w' : World} {v : Value} {L : List Nat} (h : NsV w v L) (k : Below w.heap.size w w') : NsV w' v L := by
  obtain ⟨a, cap, rfl, b, off, h1, h2⟩ := h
  refine ⟨a, cap, rfl, b, off, h1, fun j hj => ?_⟩
  obtain ⟨h3, h4⟩ := h2 j hj
  exact ⟨Nat.lt_of_lt_of_le h3 k.size, by rw [k.cell (p := ⟨b, off + j, none⟩) h3]; exact h4⟩
theorem NsV.at {w : World} {a : Option Addr} {n cap : Nat} {L : List Nat} (h : NsV w (.slice a n cap) L) {i t : Nat} (hi : L[i]? = some t) : ∃ b off, a = some ⟨b, off, none⟩ ∧ b < w.heap.size ∧ w.cell? ⟨b, off + i, none⟩ = some (.int .i64 (t : Int)) := by
  obtain ⟨hl, ht⟩ := List.getElem?_eq_some_iff.1 hi
  obtain ⟨a', cap', e, b, off, h1, h2⟩ := h
  simp only [Value.slice.injEq] at e
  obtain ⟨rfl, rfl, rfl⟩ := e
  obtain ⟨h3, h4⟩ := h2 i hl
  rw [ht] at h4
  exact ⟨b, off, by rcases h1 with h1 | h1; (omega); (exact h1), h3, h4⟩
theorem NsV.len {w : World} {a : Option Addr} {n cap : Nat} {L : List Nat} (h : NsV w (.slice a n cap) L) : n = L.length := by
  obtain ⟨a', cap', e, _⟩ := h
  simp only [Value.slice.injEq] at e
  exact e.2.1
theorem OwnN.ns {w : World} {B : Nat} {v : Value} {L : List Nat} (h : OwnN w B v L) : NsV w v L := by
  unfold OwnN at h
  rcases Nat.eq_zero_or_pos L.length with h0 | h0
  · obtain ⟨a, cap, rfl⟩ := OffRow.slice h
    exact ⟨a, cap, rfl, 0, 0, .inl h0, fun k hk => absurd hk (by omega)⟩
  · obtain ⟨g, off, cap, cur, rfl, hB, hg, hc⟩ := OffRow.form h h0
    refine ⟨_, cap, rfl, g, off, .inr rfl, fun k hk => ⟨heap_lt hg, ?_⟩⟩
    rw [hc k (by omega)]
    simp [ncells, hk]
theorem TxV.take {w : World} {a : Option Addr} {n cap : Nat} {T : List (List UInt8)} (h : TxV w (.slice a n cap) T) {j : Nat} (hj : j ≤ T.length) : TxV w (.slice a j cap) (T.take j) := by
  have hl : (T.take j).length = j := by rw [List.length_take]; omega
  obtain ⟨a', cap', e, b, off, h1, h2⟩ := h
  simp only [Value.slice.injEq] at e
  obtain ⟨rfl, rfl, rfl⟩ := e
  refine ⟨a, cap, by rw [hl], b, off, ?_, fun k hk => ?_⟩
  · rw [hl]
    rcases h1 with h1 | h1
    · exact .inl (by omega)
    · exact .inr h1
  · rw [hl] at hk
    obtain ⟨h3, h4⟩ := h2 k (by omega)
    exact ⟨h3, by rw [h4, List.getElem_take]⟩
theorem OffRow.cap_ge {w : World} {B n size cap : Nat} {e : TypeId} {a : Option Addr} {xs : List Value} (h : OffRow w B e size (.slice a n cap) n xs) : n ≤ cap := by
  rcases h.2 with ⟨h0, h1⟩ | ⟨g, off, cap', cur, h0, _, _, h1, _⟩
  · omega
  · injection h0 with _ _ h0
    omega

/-- Where each frame ends. -/
def endsN (T : List (List UInt8)) (i : Nat) : List Nat := (List.range i).map fun j => (framesL (T.take (j + 1))).length
theorem endsN_len (T : List (List UInt8)) (i : Nat) : (endsN T i).length = i := by simp [endsN]
theorem endsN_snoc (T : List (List UInt8)) (i : Nat) : endsN T (i + 1) = endsN T i ++ [(framesL (T.take (i + 1))).length] := by simp [endsN, List.range_succ]
theorem endsN_at (T : List (List UInt8)) {i j : Nat} (h : j < i) : (endsN T i)[j]? = some (framesL (T.take (j + 1))).length := by simp [endsN, h]

/-- In block B stand these bytes. -/
def Bytes8 (B : Nat) (L : List UInt8) (w : World) : Prop := ∀ j, j < L.length → w.cell? ⟨B, j, none⟩ = some (.int .u8 ((L.getD j 0).toNat : Int)) ∧ w.frozen? ⟨B, j, none⟩ = false
theorem bytes_new (w : World) (s : ByteArray) (cap : Nat) (t : TypeId) : Bytes8 w.heap.size s.data.toList (w.drew.alloc (.cells (bytesRow s cap) t ((bytesRow s cap).size, (bytesRow s cap).size + 1))) := by
  intro j hj
  have hs : j < s.data.size := by simpa using hj
  have hlen : j < (bytesRow s cap).size := by
    have h := (Array.getElem?_eq_some_iff.1 (bytesRow_at s cap j hs)).1
    exact h
  refine ⟨?_, ?_⟩
  · have h := World.cell?_alloc_mark w.drew (bytesRow s cap) t ((bytesRow s cap).size, (bytesRow s cap).size + 1) j
    refine h.trans ?_
    rw [bytesRow_at s cap j hs, List.getD_eq_getElem?_getD, List.getElem?_eq_getElem hj]
    rfl
  · have h := World.frozen?_alloc_mark w.drew (bytesRow s cap) t (bytesRow s cap).size ((bytesRow s cap).size + 1) j
    refine h.trans ?_
    rw [decide_eq_false (by omega), Bool.false_and]
theorem conv_out (w : World) (P : List UInt8) (n : Nat) (hP : P.length = n) : ∃ (w2 : World) (cap : Nat), (convert 9 110 (.string (bs P))).run Tryz.prog w = .ok (.slice (some ⟨w.heap.size, 0, none⟩) n cap) w2 ∧ Bytes8 w.heap.size P w2 ∧ Below w.heap.size w w2 := by
  have h := run_bytes_of_string (P := Tryz.prog) w 9 110 5 (bs P) Tryz.underlying9 Tryz.underlying110 Tryz.underlying5
  rw [bs_size, hP] at h
  exact ⟨_, _, h, bytes_new w (bs P) _ 5, ((Below.refl _ _).drew).alloc (Nat.le_refl _) _⟩
theorem conv_back (w : World) (B : Nat) (L : List UInt8) (n cap : Nat) (hn : n = L.length) (h : Bytes8 B L w) : (convert 110 9 (.slice (some ⟨B, 0, none⟩) n cap)).run Tryz.prog w = .ok (.string (bs L)) w := by
  subst hn
  refine run_convert_bytes_back (P := Tryz.prog) _ 110 9 5 ⟨B, 0, none⟩ cap L Tryz.underlying110 Tryz.underlying5 Tryz.underlying9 ?_
  intro j hj
  rw [addr_add, Nat.zero_add, (h j hj).1, List.getD_eq_getElem?_getD, List.getElem?_eq_getElem hj, Option.getD_some]
theorem Bytes8.set {B : Nat} {L : List UInt8} {w : World} (h : Bytes8 B L w) {i : Nat} (hi : i < L.length) (c : UInt8) : Bytes8 B (L.set i c) (w.setCell ⟨B, i, none⟩ (.int .u8 (c.toNat : Int))) := by
  intro j hj
  rw [List.length_set] at hj
  refine ⟨?_, by rw [World.frozen?_setCell]; exact (h j hj).2⟩
  by_cases hji : j = i
  · subst hji
    rw [World.cell?_setCell_same w _ _ (h _ hj).1, List.getD_eq_getElem?_getD, List.getElem?_set_self hj]
    rfl
  · rw [World.cell?_setCell_other w _ _ _ (fun e => hji (by injection e with _ e2; exact e2.symm)), (h j hj).1, List.getD_eq_getElem?_getD, List.getD_eq_getElem?_getD, List.getElem?_set_ne (by omega)]
end Go.Proofs.YtgljjdldhnajdaaGreat
/- The order of texts. -/
set_option linter.unusedVariables false
set_option maxRecDepth 100000
namespace Go.Proofs.YtgljjdldhnajdaaGreat

/-- The order of texts. -/
def ltB : List UInt8 → List UInt8 → Bool
  | [], [] => false
  | [], _ :: _ => true
  | _ :: _, [] => false
  | x :: a, y :: b => if x = y then ltB a b else decide (x.toNat < y.toNat)

theorem ltB_less : ∀ a b : List UInt8, Op.bytesLess a b = ltB a b
  | [], [] => rfl
  | [], _ :: _ => rfl
  | _ :: _, [] => rfl
  | x :: a, y :: b => by
    have := ltB_less a b
    simp only [Op.bytesLess, ltB]
    by_cases h : x = y
    · subst h
      simp [this]
    · have h2 : x.toNat ≠ y.toNat := fun e => h (UInt8.toNat.inj e)
      simp [h, UInt8.lt_iff_toNat_lt]
theorem ltB_irrefl : ∀ a : List UInt8, ltB a a = false
  | [] => rfl
  | x :: a => by simp [ltB, ltB_irrefl a]
theorem ltB_total : ∀ a b : List UInt8, ltB a b = true ∨ a = b ∨ ltB b a = true
  | [], [] => .inr (.inl rfl)
  | [], _ :: _ => .inl rfl
  | _ :: _, [] => .inr (.inr rfl)
  | x :: a, y :: b => by
    by_cases h : x = y
    · subst h
      rcases ltB_total a b with e | e | e
      · exact .inl (by simp [ltB, e])
      · exact .inr (.inl (by rw [e]))
      · exact .inr (.inr (by simp [ltB, e]))
    · have h2 : x.toNat ≠ y.toNat := fun e => h (UInt8.toNat.inj e)
      rcases Nat.lt_or_ge x.toNat y.toNat with e | e
      · exact .inl (by simp [ltB, h, e])
      · exact .inr (.inr (by simp [ltB, Ne.symm h]; omega))
theorem ltB_trans : ∀ {a b c : List UInt8}, ltB a b = true → ltB b c = true → ltB a c = true
  | [], [], _, h, _ => by cases h
  | [], _ :: _, [], _, h => by cases h
  | [], _ :: _, _ :: _, _, _ => rfl
  | _ :: _, [], _, h, _ => by cases h
  | _ :: _, _ :: _, [], _, h => by cases h
  | x :: a, y :: b, z :: c, h1, h2 => by
    simp only [ltB] at h1 h2 ⊢
    by_cases e1 : x = y
    · subst e1
      rw [if_pos rfl] at h1
      by_cases e2 : x = z
      · subst e2
        rw [if_pos rfl] at h2 ⊢
        exact ltB_trans h1 h2
      · rw [if_neg e2] at h2 ⊢
        exact h2
    · rw [if_neg e1] at h1
      by_cases e2 : y = z
      · subst e2
        rw [if_neg e1]
        exact h1
      · rw [if_neg e2] at h2
        have a1 := of_decide_eq_true h1
        have a2 := of_decide_eq_true h2
        rw [if_neg (by rintro rfl; omega)]
        exact decide_eq_true (by omega)
theorem ltB_asymm {a b : List UInt8} (h : ltB a b = true) : ltB b a = false := by
  cases e : ltB b a with
  | false => rfl
  | true => have := ltB_trans h e; rw [ltB_irrefl] at this; cases this
theorem ltB_ne {a b : List UInt8} (h : ltB a b = true) : a ≠ b := by
  rintro rfl
  rw [ltB_irrefl] at h
  cases h
end Go.Proofs.YtgljjdldhnajdaaGreat
/- States, edits, and what becomes of a state: in plain words. -/
set_option linter.unusedVariables false
set_option maxRecDepth 100000
namespace Go.Proofs.YtgljjdldhnajdaaGreat

/-- A table, a store, an edit, a state. -/
structure Tb where
  file : Int
  lev : Int
  cnt : Int
  low : List UInt8
  high : List UInt8
structure So where
  file : Int
  tier : Int
structure Ed where
  kind : Int
  file : Int
  lev : Int
  cnt : Int
  low : List UInt8
  high : List UInt8
structure St where
  tabs : List Tb
  stos : List So
  logs : List Int
  next : Int
instance : Inhabited Tb := ⟨⟨0, 0, 0, [], []⟩⟩
instance : Inhabited So := ⟨⟨0, 0⟩⟩
def St.zero : St := ⟨[], [], [], 0⟩
def Ed.tab (x : Ed) : Tb := ⟨x.file, x.lev, x.cnt, x.low, x.high⟩
def Ed.sto (x : Ed) : So := ⟨x.file, x.lev⟩
theorem Ed.ext' {a b : Ed} (h1 : a.kind = b.kind) (h2 : a.file = b.file) (h3 : a.lev = b.lev) (h4 : a.cnt = b.cnt) (h5 : a.low = b.low) (h6 : a.high = b.high) : a = b := by cases a; cases b; simp_all

/-! ### the order of tables -/
def tlt (a b : Tb) : Bool := if a.lev = b.lev then (if a.lev = 0 then decide (b.file < a.file) else ltB a.low b.low) else decide (a.lev < b.lev)
theorem tlt_lev {a b : Tb} (h : tlt a b = true) : a.lev ≤ b.lev := by
  unfold tlt at h; split at h
  · omega
  · simp at h; omega
theorem tlt_irrefl (a : Tb) : tlt a a = false := by unfold tlt; simp [ltB_irrefl]
theorem tlt_trans {a b c : Tb} (h1 : tlt a b = true) (h2 : tlt b c = true) : tlt a c = true := by
  have l1 := tlt_lev h1; have l2 := tlt_lev h2
  unfold tlt at *
  by_cases e1 : a.lev = b.lev
  · by_cases e2 : b.lev = c.lev
    · rw [if_pos e1] at h1; rw [if_pos e2] at h2; rw [if_pos (e1.trans e2)]
      by_cases z : a.lev = 0
      · rw [if_pos z] at h1 ⊢; rw [if_pos (e1 ▸ z)] at h2; simp at *; omega
      · rw [if_neg z] at h1 ⊢; rw [if_neg (e1 ▸ z)] at h2; exact ltB_trans h1 h2
    · rw [if_neg (by omega)]; simp; omega
  · rw [if_neg (by omega)]; simp; omega
theorem ltB_ntrans {a b c : List UInt8} (h1 : ltB a b = false) (h2 : ltB b c = false) : ltB a c = false := by
  cases h : ltB a c with
  | false => rfl
  | true =>
    rcases ltB_total b c with x | x | x
    · rw [x] at h2; cases h2
    · subst x; rw [h] at h1; cases h1
    · have := ltB_trans h x; rw [h1] at this; cases this
theorem ltB_le_lt {a b c : List UInt8} (h1 : ltB b a = false) (h2 : ltB b c = true) : ltB a c = true := by
  cases h : ltB a c with
  | true => rfl
  | false => have := ltB_ntrans h1 h; rw [h2] at this; cases this
theorem ltB_lt_le {a b c : List UInt8} (h1 : ltB a b = true) (h2 : ltB c b = false) : ltB a c = true := by
  cases h : ltB a c with
  | true => rfl
  | false => have := ltB_ntrans h h2; rw [h1] at this; cases this
theorem tlt_ntrans {a b c : Tb} (h1 : tlt a b = false) (h2 : tlt b c = false) : tlt a c = false := by
  unfold tlt at *
  by_cases e1 : a.lev = b.lev
  · by_cases e2 : b.lev = c.lev
    · rw [if_pos e1] at h1; rw [if_pos e2] at h2; rw [if_pos (e1.trans e2)]
      by_cases z : a.lev = 0
      · rw [if_pos z] at h1 ⊢; rw [if_pos (e1 ▸ z)] at h2; simp at *; omega
      · rw [if_neg z] at h1 ⊢; rw [if_neg (e1 ▸ z)] at h2; exact ltB_ntrans h1 h2
    · rw [if_neg e2] at h2; rw [if_neg (by omega)]; simp at *; omega
  · rw [if_neg e1] at h1
    by_cases e2 : b.lev = c.lev
    · rw [if_neg (by omega)]; simp at *; omega
    · rw [if_neg e2] at h2
      simp at h1 h2
      rw [if_neg (by omega)]; simp; omega
theorem tlt_asymm {a b : Tb} (h : tlt a b = true) : tlt b a = false := by
  cases e : tlt b a with
  | false => rfl
  | true => have := tlt_trans h e; rw [tlt_irrefl] at this; cases this

/-! ### an element put into its place -/
def insT (t : Tb) : List Tb → List Tb
  | [] => [t]
  | u :: L => if tlt t u then t :: u :: L else u :: insT t L
def insS (t : So) : List So → List So
  | [] => [t]
  | u :: L => if t.file < u.file then t :: u :: L else u :: insS t L
/-- The place of the first that isn't ahead. -/
def lbT (t : Tb) (L : List Tb) : Nat := L.findIdx fun u => !tlt u t
def lbS (t : So) (L : List So) : Nat := L.findIdx fun u => !decide (u.file < t.file)
theorem lbT_cons (t u : Tb) (L : List Tb) : lbT t (u :: L) = if tlt u t then lbT t L + 1 else 0 := by
  unfold lbT; rw [List.findIdx_cons]; cases tlt u t <;> simp
theorem lbS_cons (t u : So) (L : List So) : lbS t (u :: L) = if u.file < t.file then lbS t L + 1 else 0 := by
  unfold lbS; rw [List.findIdx_cons]; by_cases h : u.file < t.file <;> simp [h]
theorem lbT_le (t : Tb) (L : List Tb) : lbT t L ≤ L.length := List.findIdx_le_length
theorem lbS_le (t : So) (L : List So) : lbS t L ≤ L.length := List.findIdx_le_length
theorem insT_lb (t : Tb) : ∀ L : List Tb, (∀ u ∈ L, tlt u t = true ∨ tlt t u = true) → insT t L = L.take (lbT t L) ++ t :: L.drop (lbT t L)
  | [], _ => rfl
  | u :: L, h => by
    rw [lbT_cons]
    rcases h u (List.mem_cons_self ..) with x | x
    · rw [if_pos x]
      unfold insT
      rw [if_neg (by rw [tlt_asymm x]; simp), insT_lb t L fun v hv => h v (List.mem_cons_of_mem _ hv)]
      rfl
    · rw [if_neg (by rw [tlt_asymm x]; simp)]
      unfold insT
      rw [if_pos x]
      rfl
theorem insS_lb (t : So) : ∀ L : List So, (∀ u ∈ L, u.file ≠ t.file) → insS t L = L.take (lbS t L) ++ t :: L.drop (lbS t L)
  | [], _ => rfl
  | u :: L, h => by
    rw [lbS_cons]
    have hu := h u (List.mem_cons_self ..)
    by_cases x : u.file < t.file
    · rw [if_pos x]
      unfold insS
      rw [if_neg (by omega), insS_lb t L fun v hv => h v (List.mem_cons_of_mem _ hv)]
      rfl
    · rw [if_neg x]
      unfold insS
      rw [if_pos (by omega)]
      rfl
theorem mem_insT {t v : Tb} : ∀ {L : List Tb}, v ∈ insT t L ↔ v = t ∨ v ∈ L
  | [] => by simp [insT]
  | u :: L => by
    unfold insT
    split
    · simp
    · rw [List.mem_cons, mem_insT, List.mem_cons]; constructor <;> (rintro (h | h | h) <;> simp [h])
theorem mem_insS {t v : So} : ∀ {L : List So}, v ∈ insS t L ↔ v = t ∨ v ∈ L
  | [] => by simp [insS]
  | u :: L => by
    unfold insS
    split
    · simp
    · rw [List.mem_cons, mem_insS, List.mem_cons]; constructor <;> (rintro (h | h | h) <;> simp [h])
theorem insT_perm (t : Tb) : ∀ L : List Tb, (insT t L).Perm (t :: L)
  | [] => .refl _
  | u :: L => by
    unfold insT
    split
    · exact .refl _
    · exact ((insT_perm t L).cons u).trans (.swap ..)
theorem insS_perm (t : So) : ∀ L : List So, (insS t L).Perm (t :: L)
  | [] => .refl _
  | u :: L => by
    unfold insS
    split
    · exact .refl _
    · exact ((insS_perm t L).cons u).trans (.swap ..)
theorem insT_pair {R : Tb → Tb → Prop} {t : Tb} : ∀ {L : List Tb}, L.Pairwise R → (∀ u ∈ L, tlt t u = true → R t u) → (∀ u ∈ L, tlt t u = false → R u t) → (L.Pairwise fun a b => tlt a b = true) → (insT t L).Pairwise R
  | [], _, _, _, _ => by simp [insT]
  | u :: L, h, h1, h2, hs => by
    unfold insT
    rw [List.pairwise_cons] at h hs
    split
    · rename_i htu
      refine List.pairwise_cons.2 ⟨fun v hv => ?_, List.pairwise_cons.2 h⟩
      rcases List.mem_cons.1 hv with rfl | hv
      · exact h1 _ (List.mem_cons_self ..) htu
      · exact h1 _ (List.mem_cons_of_mem _ hv) (tlt_trans htu (hs.1 v hv))
    · rename_i htu
      refine List.pairwise_cons.2 ⟨fun v hv => ?_, insT_pair h.2 (fun v hv => h1 v (List.mem_cons_of_mem _ hv)) (fun v hv => h2 v (List.mem_cons_of_mem _ hv)) hs.2⟩
      rcases mem_insT.1 hv with rfl | hv
      · exact h2 _ (List.mem_cons_self ..) (by simpa using htu)
      · exact h.1 v hv
theorem insS_pair {t : So} : ∀ {L : List So}, (L.Pairwise fun a b => a.file < b.file) → (∀ u ∈ L, u.file ≠ t.file) → (insS t L).Pairwise fun a b => a.file < b.file
  | [], _, _ => by simp [insS]
  | u :: L, h, h1 => by
    unfold insS
    rw [List.pairwise_cons] at h
    have hu := h1 u (List.mem_cons_self ..)
    split
    · rename_i htu
      refine List.pairwise_cons.2 ⟨fun v hv => ?_, List.pairwise_cons.2 h⟩
      rcases List.mem_cons.1 hv with rfl | hv
      · exact htu
      · have := h.1 v hv; omega
    · rename_i htu
      refine List.pairwise_cons.2 ⟨fun v hv => ?_, insS_pair h.2 fun v hv => h1 v (List.mem_cons_of_mem _ hv)⟩
      rcases mem_insS.1 hv with rfl | hv
      · omega
      · exact h.1 v hv

/-! ### one edit -/
def St.files (s : St) : List Int := s.tabs.map (·.file) ++ s.stos.map (·.file) ++ s.logs
/-- Two tables of one level above 0 that may have a key in common. -/
def meets (t u : Tb) : Bool := decide (u.lev = t.lev) && !ltB u.high t.low && !ltB t.high u.low
def badTab (x : Ed) : Bool := decide (x.lev < 0) || decide (5 < x.lev) || decide (x.cnt < 1) || ltB x.high x.low
/-- The error of an edit; 0: none. -/
def oneE (s : St) (x : Ed) : Int :=
  if x.kind = 1 then
    if badTab x = true ∨ x.file < 1 then 1 else if x.file ∈ s.files then 10 else if 0 < x.lev ∧ s.tabs.any (meets x.tab) = true then 11 else 0
  else if x.kind = 2 then if x.file ∈ s.tabs.map (·.file) then 0 else 9
  else if x.kind = 3 then if x.file < 1 ∨ ¬ (x.lev = 0 ∨ x.lev = 1) then 1 else if x.file ∈ s.files then 10 else 0
  else if x.kind = 4 then if x.file ∈ s.stos.map (·.file) then 0 else 9
  else if x.kind = 5 then if x.file < 1 then 1 else if x.file ∈ s.files then 10 else 0
  else if x.kind = 6 then if x.file ∈ s.logs then 0 else 9
  else if x.kind = 7 then if x.file < 1 ∨ x.file < s.next then 1 else 0
  else 1
/-- The state behind an edit that has no error. -/
def oneS (s : St) (x : Ed) : St :=
  if x.kind = 1 then { s with tabs := insT x.tab s.tabs }
  else if x.kind = 2 then { s with tabs := s.tabs.filter fun t => decide (t.file ≠ x.file) }
  else if x.kind = 3 then { s with stos := insS x.sto s.stos }
  else if x.kind = 4 then { s with stos := s.stos.filter fun t => decide (t.file ≠ x.file) }
  else if x.kind = 5 then { s with logs := s.logs ++ [x.file] }
  else if x.kind = 6 then { s with logs := s.logs.filter fun f => decide (f ≠ x.file) }
  else { s with next := x.file }
/-- The edits one behind the other: the error of the first that has one, else the state. -/
def app : St → List Ed → Int × St
  | s, [] => (0, s)
  | s, x :: L => if oneE s x = 0 then app (oneS s x) L else (oneE s x, St.zero)
theorem app_zero : ∀ (L : List Ed) (s : St), (app s L).1 ≠ 0 → (app s L).2 = St.zero
  | [], s, h => absurd rfl h
  | x :: L, s, h => by
    unfold app at h ⊢
    split
    · rename_i h0; rw [if_pos h0] at h; exact app_zero L _ h
    · rfl
theorem app_cons_ok {s : St} {x : Ed} {L : List Ed} (h : oneE s x = 0) : app s (x :: L) = app (oneS s x) L := by rw [app, if_pos h]
theorem app_cons_no {s : St} {x : Ed} {L : List Ed} (h : ¬ oneE s x = 0) : app s (x :: L) = (oneE s x, St.zero) := by rw [app, if_neg h]
theorem app_append : ∀ (L M : List Ed) (s : St), (app s L).1 = 0 → app s (L ++ M) = app (app s L).2 M
  | [], M, s, _ => rfl
  | x :: L, M, s, h => by
    by_cases h0 : oneE s x = 0
    · rw [app_cons_ok h0] at h ⊢
      rw [List.cons_append, app_cons_ok h0]
      exact app_append L M _ h
    · rw [app_cons_no h0] at h; exact absurd h h0

/-- A state that may be. -/
structure St.Ok (s : St) : Prop where
  rise : s.tabs.Pairwise fun a b => tlt a b = true
  apart : s.tabs.Pairwise fun a b => a.lev = b.lev → 0 < a.lev → ltB a.high b.low = true
  tab : ∀ t ∈ s.tabs, 0 ≤ t.lev ∧ t.lev ≤ 5 ∧ 1 ≤ t.cnt ∧ ltB t.high t.low = false
  stos : s.stos.Pairwise fun a b => a.file < b.file
  tier : ∀ t ∈ s.stos, t.tier = 0 ∨ t.tier = 1
  nod : s.files.Nodup
  pos : ∀ f ∈ s.files, 1 ≤ f
  next : 0 ≤ s.next
theorem St.Ok.zero : St.zero.Ok := ⟨List.Pairwise.nil, List.Pairwise.nil, (fun t h => absurd h (by simp [St.zero])), List.Pairwise.nil, (fun t h => absurd h (by simp [St.zero])), List.Pairwise.nil, (fun t h => absurd h (by simp [St.zero, St.files])), Int.le_refl _⟩
theorem mem_files {s : St} {f : Int} : f ∈ s.files ↔ f ∈ s.tabs.map (·.file) ∨ f ∈ s.stos.map (·.file) ∨ f ∈ s.logs := by
  unfold St.files; simp [List.mem_append, or_assoc]
theorem badTab_no {x : Ed} (h : ¬ (badTab x = true ∨ x.file < 1)) : 0 ≤ x.lev ∧ x.lev ≤ 5 ∧ 1 ≤ x.cnt ∧ ltB x.high x.low = false ∧ 1 ≤ x.file := by
  unfold badTab at h
  simp only [not_or, Bool.or_eq_true, decide_eq_true_eq] at h
  obtain ⟨⟨⟨⟨h1, h2⟩, h3⟩, h4⟩, h5⟩ := h
  exact ⟨by omega, by omega, by omega, by simpa using h4, by omega⟩
/-- A table that meets no other has no equal. -/
theorem no_tie {s : St} {x : Ed} (ht : ltB x.high x.low = false) (hf : ¬ x.file ∈ s.files) (hm : ¬ (0 < x.lev ∧ s.tabs.any (meets x.tab) = true)) (h0 : 0 ≤ x.lev) (hs : ∀ t ∈ s.tabs, ltB t.high t.low = false) : ∀ u ∈ s.tabs, tlt u x.tab = true ∨ tlt x.tab u = true := by
  intro u hu
  unfold tlt
  by_cases e : u.lev = x.tab.lev
  · rw [if_pos e, if_pos e.symm]
    by_cases z : u.lev = 0
    · rw [if_pos z, if_pos (e ▸ z)]
      have : u.file ≠ x.file := fun y => hf (mem_files.2 (.inl (List.mem_map.2 ⟨u, hu, y⟩)))
      simp only [decide_eq_true_eq]
      show x.file < u.file ∨ u.file < x.file
      omega
    · rw [if_neg z, if_neg (e ▸ z)]
      rcases ltB_total u.low x.tab.low with a | a | a
      · exact .inl a
      · exfalso
        refine hm ⟨by have : x.tab.lev = x.lev := rfl; omega, List.any_eq_true.2 ⟨u, hu, ?_⟩⟩
        unfold meets
        have h1 := hs u hu
        have h2 : ltB x.tab.high x.tab.low = false := ht
        rw [a] at h1
        rw [decide_eq_true e, h1, a, h2]
        rfl
      · exact .inr a
  · rw [if_neg e, if_neg (Ne.symm e)]
    simp only [decide_eq_true_eq]
    omega
theorem nodup_insert {α : Type} {f : α → Int} {A A' : List α} {t : α} {B C : List Int} (hp : A'.Perm (t :: A)) (h : (A.map f ++ B ++ C).Nodup) (ht : ¬ f t ∈ A.map f ++ B ++ C) : (A'.map f ++ B ++ C).Nodup := by
  have : (A'.map f ++ B ++ C).Perm (f t :: (A.map f ++ B ++ C)) := by
    have := ((hp.map f).append_right B).append_right C
    simpa using this
  rw [this.nodup_iff]
  exact List.nodup_cons.2 ⟨ht, h⟩
theorem oneS_ok {s : St} {x : Ed} (h : s.Ok) (he : oneE s x = 0) : (oneS s x).Ok := by
  unfold oneE at he
  unfold oneS
  by_cases k1 : x.kind = 1
  · rw [if_pos k1] at he; rw [if_pos k1]
    split at he
    · cases he
    rename_i hb
    split at he
    · cases he
    rename_i hf
    split at he
    · cases he
    rename_i hm
    obtain ⟨b1, b2, b3, b4, b5⟩ := badTab_no hb
    have ht := no_tie b4 hf hm b1 (fun t ht => (h.tab t ht).2.2.2)
    have hap : ∀ u ∈ s.tabs, u.lev = x.lev → 0 < x.lev → ltB u.high x.low = true ∨ ltB x.high u.low = true := by
      intro u hu e z
      rcases hh : ltB u.high x.low with _ | _
      · rcases hh2 : ltB x.high u.low with _ | _
        · exfalso
          refine hm ⟨z, List.any_eq_true.2 ⟨u, hu, ?_⟩⟩
          unfold meets
          show (decide (u.lev = x.lev) && !ltB u.high x.low && !ltB x.high u.low) = true
          rw [hh, hh2, decide_eq_true e]; rfl
        · exact .inr rfl
      · exact .inl rfl
    refine ⟨?_, ?_, ?_, h.stos, h.tier, ?_, ?_, h.next⟩
    · refine insT_pair h.rise (fun u hu x => x) (fun u hu e => ?_) h.rise
      rcases ht u hu with a | a
      · exact a
      · rw [a] at e; cases e
    · refine insT_pair h.apart (fun u hu a e z => ?_) (fun u hu a e z => ?_) h.rise
      · have e' : u.lev = x.lev := e.symm
        have z' : 0 < x.lev := z
        rcases hap u hu e' z' with b | b
        · exfalso
          unfold tlt at a
          rw [if_pos e, if_neg (by show ¬ x.lev = 0; omega)] at a
          have c1 : ltB x.low u.low = true := a
          have := ltB_trans b c1
          rw [(h.tab u hu).2.2.2] at this
          cases this
        · exact b
      · have e' : u.lev = x.lev := e
        rcases hap u hu e' (e' ▸ z) with b | b
        · exact b
        · exfalso
          rcases ht u hu with c | c
          · unfold tlt at c
            rw [if_pos e, if_neg (by show ¬ u.lev = 0; omega)] at c
            have c1 : ltB u.low x.low = true := c
            have := ltB_trans b c1
            rw [b4] at this; cases this
          · rw [c] at a; cases a
    · intro t hm
      rcases mem_insT.1 hm with rfl | hm
      · exact ⟨b1, b2, b3, b4⟩
      · exact h.tab t hm
    · exact nodup_insert (f := Tb.file) (insT_perm x.tab s.tabs) h.nod hf
    · intro f hfm
      rcases mem_files.1 hfm with a | a | a
      · obtain ⟨t, ht, rfl⟩ := List.mem_map.1 a
        rcases mem_insT.1 ht with rfl | ht
        · exact b5
        · exact h.pos _ (mem_files.2 (.inl (List.mem_map.2 ⟨t, ht, rfl⟩)))
      · exact h.pos _ (mem_files.2 (.inr (.inl a)))
      · exact h.pos _ (mem_files.2 (.inr (.inr a)))
  rw [if_neg k1] at he; rw [if_neg k1]
  by_cases k2 : x.kind = 2
  · rw [if_pos k2]
    have hsub : (s.tabs.filter fun t => decide (t.file ≠ x.file)).Sublist s.tabs := List.filter_sublist
    have hfs : ({ s with tabs := s.tabs.filter fun t => decide (t.file ≠ x.file) } : St).files.Sublist s.files := (((hsub.map _).append (.refl _)).append (.refl _))
    exact ⟨h.rise.sublist hsub, h.apart.sublist hsub, fun t ht => h.tab t (hsub.subset ht), h.stos, h.tier, h.nod.sublist hfs, fun f hf => h.pos f (hfs.subset hf), h.next⟩
  rw [if_neg k2] at he; rw [if_neg k2]
  by_cases k3 : x.kind = 3
  · rw [if_pos k3] at he; rw [if_pos k3]
    split at he
    · cases he
    rename_i hb
    split at he
    · cases he
    rename_i hf
    have hn : ∀ u ∈ s.stos, u.file ≠ x.sto.file := fun u hu e => hf (mem_files.2 (.inr (.inl (List.mem_map.2 ⟨u, hu, e⟩))))
    refine ⟨h.rise, h.apart, h.tab, insS_pair h.stos hn, ?_, ?_, ?_, h.next⟩
    · intro t hm
      rcases mem_insS.1 hm with rfl | hm
      · show x.lev = 0 ∨ x.lev = 1
        omega
      · exact h.tier t hm
    · have hp : (s.tabs.map (·.file) ++ (insS x.sto s.stos).map (·.file) ++ s.logs).Perm ((insS x.sto s.stos).map (·.file) ++ s.tabs.map (·.file) ++ s.logs) := (List.perm_append_comm).append_right _
      have hq : (s.tabs.map (·.file) ++ s.stos.map (·.file) ++ s.logs).Perm (s.stos.map (·.file) ++ s.tabs.map (·.file) ++ s.logs) := (List.perm_append_comm).append_right _
      show (s.tabs.map (·.file) ++ (insS x.sto s.stos).map (·.file) ++ s.logs).Nodup
      rw [hp.nodup_iff]
      exact nodup_insert (f := So.file) (insS_perm x.sto s.stos) (hq.nodup_iff.1 h.nod) (fun hm => hf (hq.mem_iff.2 hm))
    · intro f hfm
      rcases mem_files.1 hfm with a | a | a
      · exact h.pos _ (mem_files.2 (.inl a))
      · obtain ⟨t, ht, rfl⟩ := List.mem_map.1 a
        rcases mem_insS.1 ht with rfl | ht
        · show 1 ≤ x.file
          omega
        · exact h.pos _ (mem_files.2 (.inr (.inl (List.mem_map.2 ⟨t, ht, rfl⟩))))
      · exact h.pos _ (mem_files.2 (.inr (.inr a)))
  rw [if_neg k3] at he; rw [if_neg k3]
  by_cases k4 : x.kind = 4
  · rw [if_pos k4]
    have hsub : (s.stos.filter fun t => decide (t.file ≠ x.file)).Sublist s.stos := List.filter_sublist
    have hfs : ({ s with stos := s.stos.filter fun t => decide (t.file ≠ x.file) } : St).files.Sublist s.files := (((List.Sublist.refl _).append (hsub.map _)).append (.refl _))
    exact ⟨h.rise, h.apart, h.tab, h.stos.sublist hsub, fun t ht => h.tier t (hsub.subset ht), h.nod.sublist hfs, fun f hf => h.pos f (hfs.subset hf), h.next⟩
  rw [if_neg k4] at he; rw [if_neg k4]
  by_cases k5 : x.kind = 5
  · rw [if_pos k5] at he; rw [if_pos k5]
    split at he
    · cases he
    rename_i hb
    split at he
    · cases he
    rename_i hf
    refine ⟨h.rise, h.apart, h.tab, h.stos, h.tier, ?_, ?_, h.next⟩
    · show (s.tabs.map (·.file) ++ s.stos.map (·.file) ++ (s.logs ++ [x.file])).Nodup
      rw [← List.append_assoc]
      have : (s.files ++ [x.file]).Perm (x.file :: s.files) := List.perm_append_comm
      show (s.files ++ [x.file]).Nodup
      rw [this.nodup_iff]
      exact List.nodup_cons.2 ⟨hf, h.nod⟩
    · intro f hfm
      have : f ∈ s.files ∨ f = x.file := by
        rcases mem_files.1 hfm with a | a | a
        · exact .inl (mem_files.2 (.inl a))
        · exact .inl (mem_files.2 (.inr (.inl a)))
        · rcases List.mem_append.1 a with a | a
          · exact .inl (mem_files.2 (.inr (.inr a)))
          · exact .inr (by simpa using a)
      rcases this with a | a
      · exact h.pos f a
      · omega
  rw [if_neg k5] at he; rw [if_neg k5]
  by_cases k6 : x.kind = 6
  · rw [if_pos k6]
    have hsub : (s.logs.filter fun f => decide (f ≠ x.file)).Sublist s.logs := List.filter_sublist
    have hfs : ({ s with logs := s.logs.filter fun f => decide (f ≠ x.file) } : St).files.Sublist s.files := ((List.Sublist.refl _).append hsub)
    exact ⟨h.rise, h.apart, h.tab, h.stos, h.tier, h.nod.sublist hfs, fun f hf => h.pos f (hfs.subset hf), h.next⟩
  rw [if_neg k6] at he; rw [if_neg k6]
  by_cases k7 : x.kind = 7
  · rw [if_pos k7] at he
    split at he
    · cases he
    exact ⟨h.rise, h.apart, h.tab, h.stos, h.tier, h.nod, h.pos, by show 0 ≤ x.file; omega⟩
  · rw [if_neg k7] at he; cases he
theorem app_ok : ∀ (L : List Ed) {s : St}, s.Ok → (app s L).2.Ok
  | [], s, h => h
  | x :: L, s, h => by
    by_cases h0 : oneE s x = 0
    · rw [app_cons_ok h0]; exact app_ok L (oneS_ok h h0)
    · rw [app_cons_no h0]; exact St.Ok.zero
end Go.Proofs.YtgljjdldhnajdaaGreat
/- Rows of tables, of stores, of numbers in memory. -/
set_option linter.unusedVariables false
set_option maxRecDepth 100000
namespace Go.Proofs.YtgljjdldhnajdaaGreat
open Go.RowKit

def tcell (t : Tb) : List Value := [.int .i64 t.file, .int .i64 t.lev, .int .i64 t.cnt, .string (bs t.low), .string (bs t.high)]
def socell (t : So) : List Value := [.int .i64 t.file, .int .i64 t.tier]
def ecell (x : Ed) : List Value := [.int .i64 x.kind, .int .i64 x.file, .int .i64 x.lev, .int .i64 x.cnt, .string (bs x.low), .string (bs x.high)]
def icell (n : Int) : List Value := [.int .i64 n]
def flat {α : Type} (enc : α → List Value) (L : List α) : List Value := L.flatMap enc
section
variable {α : Type} {enc : α → List Value} {k : Nat}
theorem flat_len (hk : ∀ x, (enc x).length = k) : ∀ L : List α, (flat enc L).length = L.length * k
  | [] => by simp [flat]
  | x :: L => by
    have := flat_len hk L
    unfold flat at this ⊢
    rw [List.flatMap_cons, List.length_append, this, hk, List.length_cons, Nat.add_mul, Nat.one_mul, Nat.add_comm]
theorem flat_append (L M : List α) : flat enc (L ++ M) = flat enc L ++ flat enc M := List.flatMap_append ..
theorem flat_cons (x : α) (L : List α) : flat enc (x :: L) = enc x ++ flat enc L := List.flatMap_cons ..
theorem flat_one (x : α) : flat enc [x] = enc x := by simp [flat]
theorem flat_at (hk : ∀ x, (enc x).length = k) : ∀ {L : List α} {j : Nat} {x : α}, L[j]? = some x → ∀ {i : Nat}, i < k → (flat enc L)[j * k + i]? = (enc x)[i]?
  | y :: L, 0, x, h, i, hi => by
    obtain rfl : y = x := by simpa using h
    rw [flat_cons, Nat.zero_mul, Nat.zero_add, List.getElem?_append_left (by rw [hk]; exact hi)]
  | y :: L, j + 1, x, h, i, hi => by
    have h' : L[j]? = some x := by simpa using h
    rw [flat_cons, List.getElem?_append_right (by rw [hk, Nat.add_mul]; omega), hk, ← flat_at hk h' hi]
    congr 1
    rw [Nat.add_mul]
    omega
theorem flat_split (hk : ∀ x, (enc x).length = k) (L : List α) (j : Nat) (hj : j ≤ L.length) : (flat enc L).take (j * k) = flat enc (L.take j) ∧ (flat enc L).drop (j * k) = flat enc (L.drop j) := by
  have e : flat enc L = flat enc (L.take j) ++ flat enc (L.drop j) := by rw [← flat_append, List.take_append_drop]
  have hl : (flat enc (L.take j)).length = j * k := by rw [flat_len hk, List.length_take, Nat.min_eq_left hj]
  rw [e, ← hl]
  exact ⟨List.take_left .., List.drop_left ..⟩
end
theorem tcell_len (t : Tb) : (tcell t).length = 5 := rfl
theorem socell_len (t : So) : (socell t).length = 2 := rfl
theorem ecell_len (t : Ed) : (ecell t).length = 6 := rfl
theorem icell_len (t : Int) : (icell t).length = 1 := rfl
theorem tcell_one (t : Tb) : ∀ v ∈ tcell t, v.oneCell' = true := by intro v hv; simp [tcell] at hv; rcases hv with rfl | rfl | rfl | rfl | rfl <;> rfl
theorem socell_one (t : So) : ∀ v ∈ socell t, v.oneCell' = true := by intro v hv; simp [socell] at hv; rcases hv with rfl | rfl <;> rfl
theorem ecell_one (t : Ed) : ∀ v ∈ ecell t, v.oneCell' = true := by intro v hv; simp [ecell] at hv; rcases hv with rfl | rfl | rfl | rfl | rfl | rfl <;> rfl
theorem icell_one (t : Int) : ∀ v ∈ icell t, v.oneCell' = true := by intro v hv; simp [icell] at hv; rcases hv with rfl; rfl
theorem flat_one' {α : Type} {enc : α → List Value} (h : ∀ x, ∀ v ∈ enc x, v.oneCell' = true) (L : List α) : ∀ v ∈ flat enc L, v.oneCell' = true := by
  intro v hv
  obtain ⟨x, _, hx⟩ := List.mem_flatMap.1 hv
  exact h x v hx

/-- A slice that reads as n elements' cells, in a block with T. -/
def RdL (T : Nat → Prop) (w : World) (v : Value) (n : Nat) (xs : List Value) : Prop :=
  ∃ a cap, v = .slice a n cap ∧ n ≤ maxLen ∧ ((a = none ∧ n = 0 ∧ xs = []) ∨ ∃ b off, a = some ⟨b, off, none⟩ ∧ T b ∧ b < w.heap.size ∧ ∀ j u, xs[j]? = some u → w.cell? ⟨b, off + j, none⟩ = some u)
namespace RdL
variable {T T' S : Nat → Prop} {w w' : World} {v : Value} {n : Nat} {xs : List Value}
theorem only (h : RdL T w v n xs) (k : Only S w w') (hT : ∀ j, j < w.heap.size → T j → ¬ S j) : RdL T w' v n xs := by
  obtain ⟨a, cap, rfl, hn, h⟩ := h
  refine ⟨a, cap, rfl, hn, ?_⟩
  rcases h with h | ⟨b, off, rfl, ht, hb, hc⟩
  · exact .inl h
  · exact .inr ⟨b, off, rfl, ht, Nat.lt_of_lt_of_le hb k.size, fun j u hj => by rw [← hc j u hj]; simp only [World.cell?, k.block b hb (hT b hb ht)]⟩
theorem below (h : RdL T w v n xs) (k : Below w.heap.size w w') : RdL T w' v n xs :=
  h.only (S := fun _ => False) ⟨k.os, k.tape, k.output, k.size, fun j hj _ => k.block j hj⟩ (fun _ _ _ x => x)
theorem mono (h : RdL T w v n xs) (hT : ∀ b, b < w.heap.size → T b → T' b) : RdL T' w v n xs := by
  obtain ⟨a, cap, rfl, hn, h⟩ := h
  refine ⟨a, cap, rfl, hn, ?_⟩
  rcases h with h | ⟨b, off, rfl, ht, hb, hc⟩
  · exact .inl h
  · exact .inr ⟨b, off, rfl, hT b hb ht, hb, hc⟩
theorem slice (h : RdL T w v n xs) : ∃ a cap, v = .slice a n cap := by obtain ⟨a, cap, e, _⟩ := h; exact ⟨a, cap, e⟩
theorem none' (w : World) (T : Nat → Prop) : RdL T w (.slice none 0 0) 0 [] := ⟨none, 0, rfl, Nat.zero_le _, .inl ⟨rfl, rfl, rfl⟩⟩
end RdL
theorem OffRow.rdL {w : World} {B : Nat} {e : TypeId} {size : Nat} {v : Value} {n : Nat} {xs : List Value} (h : OffRow w B e size v n xs) : RdL (fun b => B ≤ b) w v n xs := by
  have hn := h.cap_le
  rcases h with ⟨hl, ⟨rfl, rfl⟩ | ⟨g, off, cap, cur, rfl, hB, hg, h1, h2, h3, h4⟩⟩
  · exact ⟨none, 0, rfl, hn, .inl ⟨rfl, rfl, List.eq_nil_of_length_eq_zero (by simpa using hl)⟩⟩
  · refine ⟨_, cap, rfl, hn, .inr ⟨g, off, rfl, hB, heap_lt hg, fun j u hj => ?_⟩⟩
    have hj' : j < n * size := by rw [← hl]; exact (List.getElem?_eq_some_iff.1 hj).1
    rw [← hj, ← h4 j hj']
    simp [World.cell?, hg]
/-- Rows of the call's own. -/
def OwnTb (w : World) (B : Nat) (v : Value) (L : List Tb) : Prop := OffRow w B 119 5 v L.length (flat tcell L)
def OwnSo (w : World) (B : Nat) (v : Value) (L : List So) : Prop := OffRow w B 121 2 v L.length (flat socell L)
def OwnI (w : World) (B : Nat) (v : Value) (L : List Int) : Prop := OffRow w B 3 1 v L.length (flat icell L)
theorem infoTb : (Tryz.prog.info? 119).map (fun i => (i.zero, i.size, i.bytes)) = some (some (.agg #[.int .i64 0, .int .i64 0, .int .i64 0, .string ⟨#[]⟩, .string ⟨#[]⟩]), 5, 56) := by kernel_rfl
theorem infoSo : (Tryz.prog.info? 121).map (fun i => (i.zero, i.size, i.bytes)) = some (some (.agg #[.int .i64 0, .int .i64 0]), 2, 16) := by kernel_rfl
theorem infoEd : (Tryz.prog.info? 31).map (fun i => (i.zero, i.size, i.bytes)) = some (some (.agg #[.int .i64 0, .int .i64 0, .int .i64 0, .int .i64 0, .string ⟨#[]⟩, .string ⟨#[]⟩]), 6, 64) := by kernel_rfl
end Go.Proofs.YtgljjdldhnajdaaGreat
/- An element of a list that reads. -/
set_option linter.unusedVariables false
set_option maxRecDepth 100000
namespace Go.Proofs.YtgljjdldhnajdaaGreat
open Go.RowKit

theorem RdL.atE {T : Nat → Prop} {w : World} {a : Option Addr} {n cap : Nat} {L : List Ed} (h : RdL T w (.slice a n cap) n (flat ecell L)) {m : Nat} {x : Ed} (hx : L[m]? = some x) (hm : m < n) :
    ∃ b off, a = some ⟨b, off, none⟩ ∧ T b ∧ b < w.heap.size ∧ ∀ i u, (ecell x)[i]? = some u → w.cell? ⟨b, off + m * 6 + i, none⟩ = some u := by
  obtain ⟨a', cap', e, _, h⟩ := h
  injection e with e1 e2 e3
  subst e1
  rcases h with ⟨_, h0, _⟩ | ⟨b, off, rfl, ht, hb, hc⟩
  · omega
  · refine ⟨b, off, rfl, ht, hb, fun i u hi => ?_⟩
    have hik : i < 6 := by rw [← ecell_len x]; exact (List.getElem?_eq_some_iff.1 hi).1
    have := flat_at ecell_len hx hik
    rw [hi] at this
    rw [Nat.add_assoc]
    exact hc _ _ this

end Go.Proofs.YtgljjdldhnajdaaGreat
/- An edit written. -/
set_option linter.unusedVariables false
set_option maxRecDepth 100000
namespace Go.Proofs.YtgljjdldhnajdaaGreat
open Go.RowKit

set_option maxHeartbeats 400000 in
theorem six_WholeO (B b : Nat) (l : List UInt8) (n : Int) (w : World) (h : Wt B b l w) (hn1 : -9223372036854775808 ≤ n) (hn2 : n ≤ 9223372036854775807) (hlen : l.length + 11 ≤ 140737488355328) :
    Calls Tryz.prog 72 #[.pointer (some ⟨b, 0, none⟩), .int .i64 n] w fun e w' => e = .returned (.int .i64 0) ∧ Wt B b (l ++ whole n) w' ∧ Wb B b w w' := by
  have HW := Lib.hid h
  clear h
  by_cases h0 : n < 0
  · obtain ⟨m, hm⟩ : ∃ m : Nat, -1 - n = m := ⟨(-1 - n).toNat, by omega⟩
    have hg := Lib.hid (show whole n = grp m 128 by unfold whole; rw [if_pos h0, hm]; rfl)
    have hm1 : m ≤ 9223372036854775807 := by omega
    have hsub : -1 - n = (m : Int) := hm
    clear hm
    go_enter Tryz.func72, Tryz.ntmps72
    go_wp2_with fail
    refine (six_groupsO B b l m 128 w HW.out hm1 (.inr rfl) hlen).mono ?_
    rintro e w2 ⟨rfl, h2, k2⟩
    have H2 := Lib.hid h2
    have K2 := Lib.hid k2
    clear h2 k2
    go_wp2
    go_ret
    exact ⟨rfl, by rw [hg.out]; exact H2.out, K2.out⟩
  · obtain ⟨m, rfl⟩ : ∃ m : Nat, n = m := ⟨n.toNat, by omega⟩
    have hg := Lib.hid (show whole m = grp m 64 by unfold whole; rw [if_neg (by omega)]; rfl)
    go_enter Tryz.func72, Tryz.ntmps72
    go_wp2_with fail
    refine (six_groupsO B b l m 64 w HW.out (by omega) (.inl rfl) hlen).mono ?_
    rintro e w2 ⟨rfl, h2, k2⟩
    have H2 := Lib.hid h2
    have K2 := Lib.hid k2
    clear h2 k2
    go_wp2
    go_ret
    exact ⟨rfl, by rw [hg.out]; exact H2.out, K2.out⟩

/-- A new row of pointers to the cells of a variable. -/
def PtrPost (eb : Nat) (offs : List Nat) (ty : TypeId) (w : World) (e : Ending) (w' : World) : Prop :=
  ∃ nb, e = .returned (.slice (some ⟨nb, 0, none⟩) offs.length offs.length) ∧ w.heap.size ≤ nb ∧ w'.heap[nb]? = some (.cells (offs.map fun o => Value.pointer (some ⟨eb, o, none⟩)).toArray ty (0, 0)) ∧ Below w.heap.size w w'
set_option maxHeartbeats 1000000 in
theorem numbers_1 (eb : Nat) (x : Ed) (w : World) (h : w.heap[eb]? = some (.cells #[.int .i64 x.kind, .int .i64 x.file, .int .i64 x.lev, .int .i64 x.cnt, .string (bs x.low), .string (bs x.high)] 31 (0, 0))) (hk : x.kind = 1) :
    Calls Tryz.prog 73 #[.pointer (some ⟨eb, 0, none⟩)] w (PtrPost eb [1, 2, 3] 141 w) := by
  obtain ⟨kd, hkd⟩ : ∃ kd, kd = x.kind := ⟨_, rfl⟩
  have c0 : w.cell? ⟨eb, 0, none⟩ = some (.int .i64 kd) := by simp [World.cell?, h, hkd]
  have hk1 : kd = 1 := by omega
  clear hk
  subst hk1
  clear h hkd
  go_enter Tryz.func73, Tryz.ntmps73
  go_wp2_with fail
  refine wp_region_seen_tail 9 (by kernel_rfl) (by kernel_rfl) ?_
  simp only [List.take_succ_cons, List.take_zero, List.drop_succ_cons, List.drop_zero]
  repeat go_big_quiet_step (fail)
  refine wpQuiet_nil ?_
  rintro _ ⟨m1, rfl⟩
  have K1 := Lib.hid m1.below
  generalize m1.val = w1 at *
  go_wp2
  go_ret
  exact ⟨w1.heap.size, rfl, K1.out.size, heap_new w1 _, K1.out.alloc K1.out.size _⟩
set_option maxHeartbeats 1000000 in
theorem numbers_3 (eb : Nat) (x : Ed) (w : World) (h : w.heap[eb]? = some (.cells #[.int .i64 x.kind, .int .i64 x.file, .int .i64 x.lev, .int .i64 x.cnt, .string (bs x.low), .string (bs x.high)] 31 (0, 0))) (hk : x.kind = 3) :
    Calls Tryz.prog 73 #[.pointer (some ⟨eb, 0, none⟩)] w (PtrPost eb [1, 2] 141 w) := by
  obtain ⟨kd, hkd⟩ : ∃ kd, kd = x.kind := ⟨_, rfl⟩
  have c0 : w.cell? ⟨eb, 0, none⟩ = some (.int .i64 kd) := by simp [World.cell?, h, hkd]
  have hk1 : kd = 3 := by omega
  clear hk
  subst hk1
  clear h hkd
  go_enter Tryz.func73, Tryz.ntmps73
  go_wp2_with fail
  refine wp_region_seen_tail 6 (by kernel_rfl) (by kernel_rfl) ?_
  simp only [List.take_succ_cons, List.take_zero, List.drop_succ_cons, List.drop_zero]
  repeat go_big_quiet_step (fail)
  refine wpQuiet_nil ?_
  rintro _ ⟨m1, rfl⟩
  have K1 := Lib.hid m1.below
  generalize m1.val = w1 at *
  go_wp2
  go_ret
  exact ⟨w1.heap.size, rfl, K1.out.size, heap_new w1 _, K1.out.alloc K1.out.size _⟩
set_option maxHeartbeats 1000000 in
theorem numbers_0 (eb : Nat) (x : Ed) (w : World) (h : w.heap[eb]? = some (.cells #[.int .i64 x.kind, .int .i64 x.file, .int .i64 x.lev, .int .i64 x.cnt, .string (bs x.low), .string (bs x.high)] 31 (0, 0))) (h1 : ¬ x.kind = 1) (h3 : ¬ x.kind = 3) :
    Calls Tryz.prog 73 #[.pointer (some ⟨eb, 0, none⟩)] w (PtrPost eb [1] 141 w) := by
  obtain ⟨kd, hkd⟩ : ∃ kd, kd = x.kind := ⟨_, rfl⟩
  have c0 : w.cell? ⟨eb, 0, none⟩ = some (.int .i64 kd) := by simp [World.cell?, h, hkd]
  have k1 : (kd == 1) = false := by simpa [hkd] using h1
  have k3 : (kd == 3) = false := by simpa [hkd] using h3
  clear h1 h3
  clear h hkd
  go_enter Tryz.func73, Tryz.ntmps73
  go_wp2_with fail
  go_wp2
  go_ret
  exact ⟨w.heap.size, rfl, Nat.le_refl _, heap_new w _, (Below.refl _ _).alloc (Nat.le_refl _) _⟩
set_option maxHeartbeats 1000000 in
theorem texts_1 (eb : Nat) (x : Ed) (w : World) (h : w.heap[eb]? = some (.cells #[.int .i64 x.kind, .int .i64 x.file, .int .i64 x.lev, .int .i64 x.cnt, .string (bs x.low), .string (bs x.high)] 31 (0, 0))) (hk : x.kind = 1) :
    Calls Tryz.prog 74 #[.pointer (some ⟨eb, 0, none⟩)] w (PtrPost eb [4, 5] 144 w) := by
  obtain ⟨kd, hkd⟩ : ∃ kd, kd = x.kind := ⟨_, rfl⟩
  have c0 : w.cell? ⟨eb, 0, none⟩ = some (.int .i64 kd) := by simp [World.cell?, h, hkd]
  have hk1 : kd = 1 := by omega
  clear hk
  subst hk1
  clear h hkd
  go_enter Tryz.func74, Tryz.ntmps74
  go_wp2_with fail
  refine wp_region_seen_tail 6 (by kernel_rfl) (by kernel_rfl) ?_
  simp only [List.take_succ_cons, List.take_zero, List.drop_succ_cons, List.drop_zero]
  repeat go_big_quiet_step (fail)
  refine wpQuiet_nil ?_
  rintro _ ⟨m1, rfl⟩
  have K1 := Lib.hid m1.below
  generalize m1.val = w1 at *
  go_wp2
  go_ret
  exact ⟨w1.heap.size, rfl, K1.out.size, heap_new w1 _, K1.out.alloc K1.out.size _⟩
set_option maxHeartbeats 1000000 in
theorem texts_0 (eb : Nat) (x : Ed) (w : World) (h : w.heap[eb]? = some (.cells #[.int .i64 x.kind, .int .i64 x.file, .int .i64 x.lev, .int .i64 x.cnt, .string (bs x.low), .string (bs x.high)] 31 (0, 0))) (h1 : ¬ x.kind = 1) :
    Calls Tryz.prog 74 #[.pointer (some ⟨eb, 0, none⟩)] w fun e w' => e = .returned (.slice none 0 0) ∧ w = w' := by
  obtain ⟨kd, hkd⟩ : ∃ kd, kd = x.kind := ⟨_, rfl⟩
  have c0 : w.cell? ⟨eb, 0, none⟩ = some (.int .i64 kd) := by simp [World.cell?, h, hkd]
  have k1 : (kd == 1) = false := by simpa [hkd] using h1
  clear h hkd h1
  go_enter Tryz.func74, Tryz.ntmps74
  go_wp2
  go_ret
  exact ⟨rfl, rfl⟩
end Go.Proofs.YtgljjdldhnajdaaGreat
