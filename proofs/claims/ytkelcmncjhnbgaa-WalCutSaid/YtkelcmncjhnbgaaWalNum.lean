/- Rows of numbers, bytes of a row, the beginning of a slice of texts: what the law of frames that are cut off wants. -/
import Derived.Test.YtkelcmncjhnbgaaWalFramesWalk
set_option linter.unusedVariables false
set_option maxRecDepth 100000
namespace Go.Proofs.Ytkelcmncjhnbgaa
open Go.RowKit

theorem infoInt : (Try.prog.info? 3).map (fun i => (i.zero, i.size, i.bytes)) = some (some (.int .i64 0), 1, 8) := by kernel_rfl
/-- A row of numbers of the call's own; a slice of numbers. -/
def ncells (L : List Nat) : List Value := L.map fun (n : Nat) => Value.int .i64 (n : Int)
theorem ncells_snoc (L : List Nat) (n : Nat) : ncells (L ++ [n]) = ncells L ++ [.int .i64 (n : Int)] := by simp [ncells]
def OwnN (w : World) (B : Nat) (v : Value) (L : List Nat) : Prop := OffRow w B 3 1 v L.length (ncells L)
def NsV (w : World) (v : Value) (L : List Nat) : Prop := ∃ a cap, v = .slice a L.length cap ∧ ∃ b off, (L.length = 0 ∨ a = some ⟨b, off, none⟩) ∧ ∀ k (hk : k < L.length), b < w.heap.size ∧ w.cell? ⟨b, off + k, none⟩ = some (.int .i64 (L[k] : Int))
theorem NsV.below {w w' : World} {v : Value} {L : List Nat} (h : NsV w v L) (k : Below w.heap.size w w') : NsV w' v L := by
  obtain ⟨a, cap, rfl, b, off, h1, h2⟩ := h
  refine ⟨a, cap, rfl, b, off, h1, fun j hj => ?_⟩
  obtain ⟨h3, h4⟩ := h2 j hj
  exact ⟨Nat.lt_of_lt_of_le h3 k.size, by rw [k.cell (p := ⟨b, off + j, none⟩) h3]; exact h4⟩
theorem NsV.at {w : World} {a : Option Addr} {n cap : Nat} {L : List Nat} (h : NsV w (.slice a n cap) L) {i t : Nat} (hi : L[i]? = some t) : ∃ b off, a = some ⟨b, off, none⟩ ∧ b < w.heap.size ∧ w.cell? ⟨b, off + i, none⟩ = some (.int .i64 (t : Int)) := by
  obtain ⟨hl, ht⟩ := List.getElem?_eq_some_iff.1 hi
  obtain ⟨a', cap', e, b, off, h1, h2⟩ := h
  simp only [Value.slice.injEq] at e
  obtain ⟨rfl, rfl, rfl⟩ := e
  obtain ⟨h3, h4⟩ := h2 i hl
  rw [ht] at h4
  exact ⟨b, off, by rcases h1 with h1 | h1; (omega); (exact h1), h3, h4⟩
theorem NsV.len {w : World} {a : Option Addr} {n cap : Nat} {L : List Nat} (h : NsV w (.slice a n cap) L) : n = L.length := by
  obtain ⟨a', cap', e, _⟩ := h
  simp only [Value.slice.injEq] at e
  exact e.2.1
theorem OwnN.ns {w : World} {B : Nat} {v : Value} {L : List Nat} (h : OwnN w B v L) : NsV w v L := by
  unfold OwnN at h
  rcases Nat.eq_zero_or_pos L.length with h0 | h0
  · obtain ⟨a, cap, rfl⟩ := OffRow.slice h
    exact ⟨a, cap, rfl, 0, 0, .inl h0, fun k hk => absurd hk (by omega)⟩
  · obtain ⟨g, off, cap, cur, rfl, hB, hg, hc⟩ := OffRow.form h h0
    refine ⟨_, cap, rfl, g, off, .inr rfl, fun k hk => ⟨heap_lt hg, ?_⟩⟩
    rw [hc k (by omega)]
    simp [ncells, hk]
theorem TxV.take {w : World} {a : Option Addr} {n cap : Nat} {T : List (List UInt8)} (h : TxV w (.slice a n cap) T) {j : Nat} (hj : j ≤ T.length) : TxV w (.slice a j cap) (T.take j) := by
  have hl : (T.take j).length = j := by rw [List.length_take]; omega
  obtain ⟨a', cap', e, b, off, h1, h2⟩ := h
  simp only [Value.slice.injEq] at e
  obtain ⟨rfl, rfl, rfl⟩ := e
  refine ⟨a, cap, by rw [hl], b, off, ?_, fun k hk => ?_⟩
  · rw [hl]
    rcases h1 with h1 | h1
    · exact .inl (by omega)
    · exact .inr h1
  · rw [hl] at hk
    obtain ⟨h3, h4⟩ := h2 k (by omega)
    exact ⟨h3, by rw [h4, List.getElem_take]⟩
theorem OffRow.cap_ge {w : World} {B n size cap : Nat} {e : TypeId} {a : Option Addr} {xs : List Value} (h : OffRow w B e size (.slice a n cap) n xs) : n ≤ cap := by
  rcases h.2 with ⟨h0, h1⟩ | ⟨g, off, cap', cur, h0, _, _, h1, _⟩
  · omega
  · injection h0 with _ _ h0
    omega

/-- Where each frame ends. -/
def endsN (T : List (List UInt8)) (i : Nat) : List Nat := (List.range i).map fun j => (framesL (T.take (j + 1))).length
theorem endsN_len (T : List (List UInt8)) (i : Nat) : (endsN T i).length = i := by simp [endsN]
theorem endsN_snoc (T : List (List UInt8)) (i : Nat) : endsN T (i + 1) = endsN T i ++ [(framesL (T.take (i + 1))).length] := by simp [endsN, List.range_succ]
theorem endsN_at (T : List (List UInt8)) {i j : Nat} (h : j < i) : (endsN T i)[j]? = some (framesL (T.take (j + 1))).length := by simp [endsN, h]

set_option maxHeartbeats 1000000 in
theorem law_end {a : Option Addr} {n cap : Nat} {L : List Nat} {w : World} {j e : Nat} (h : Hid (NsV w (.slice a n cap) L)) (hj : Hid (j = 0 ∧ e = 0 ∨ ∃ i, j = i + 1 ∧ L[i]? = some e)) (hjl : j ≤ 1000) :
    Calls Try.prog 16 #[.slice a n cap, .int .i64 (j : Int)] w fun r w' => r = .returned (.int .i64 (e : Int)) ∧ w = w' := by
  have HL := Lib.hid h.out.len
  rcases hj.out with ⟨rfl, rfl⟩ | ⟨i, hji, he⟩
  · go_enter Try.func16, Try.ntmps16
    go_wp2_with fail
    go_ret
    exact ⟨rfl, rfl⟩
  · obtain ⟨b, off, rfl, hb, hc⟩ := h.out.at he
    have hin : i < n := by rw [HL.out]; exact (List.getElem?_eq_some_iff.1 he).1
    have hin' : (i : Int) < (n : Int) := by omega
    have hsub : ((j : Int) - 1) = (i : Int) := by omega
    have hne : ((j : Int) == 0) = false := beq_eq_false_iff_ne.2 (by omega)
    clear hj hji he
    go_enter Try.func16, Try.ntmps16
    go_wp2_with fail
    go_ret
    exact ⟨rfl, rfl⟩

/-- In block B stand these bytes. -/
def Bytes8 (B : Nat) (L : List UInt8) (w : World) : Prop := ∀ j, j < L.length → w.cell? ⟨B, j, none⟩ = some (.int .u8 ((L.getD j 0).toNat : Int)) ∧ w.frozen? ⟨B, j, none⟩ = false
theorem bytes_new (w : World) (s : ByteArray) (cap : Nat) (t : TypeId) : Bytes8 w.heap.size s.data.toList (w.drew.alloc (.cells (bytesRow s cap) t ((bytesRow s cap).size, (bytesRow s cap).size + 1))) := by
  intro j hj
  have hs : j < s.data.size := by simpa using hj
  have hlen : j < (bytesRow s cap).size := by
    have h := (Array.getElem?_eq_some_iff.1 (bytesRow_at s cap j hs)).1
    exact h
  refine ⟨?_, ?_⟩
  · have h := World.cell?_alloc_mark w.drew (bytesRow s cap) t ((bytesRow s cap).size, (bytesRow s cap).size + 1) j
    refine h.trans ?_
    rw [bytesRow_at s cap j hs, List.getD_eq_getElem?_getD, List.getElem?_eq_getElem hj]
    rfl
  · have h := World.frozen?_alloc_mark w.drew (bytesRow s cap) t (bytesRow s cap).size ((bytesRow s cap).size + 1) j
    refine h.trans ?_
    rw [decide_eq_false (by omega), Bool.false_and]
theorem conv_out (w : World) (P : List UInt8) (n : Nat) (hP : P.length = n) : ∃ (w2 : World) (cap : Nat), (convert 9 34 (.string (bs P))).run Try.prog w = .ok (.slice (some ⟨w.heap.size, 0, none⟩) n cap) w2 ∧ Bytes8 w.heap.size P w2 ∧ Below w.heap.size w w2 := by
  have h := run_bytes_of_string (P := Try.prog) w 9 34 5 (bs P) Try.underlying9 Try.underlying34 Try.underlying5
  rw [bs_size, hP] at h
  exact ⟨_, _, h, bytes_new w (bs P) _ 5, ((Below.refl _ _).drew).alloc (Nat.le_refl _) _⟩
theorem conv_back (w : World) (B : Nat) (L : List UInt8) (n cap : Nat) (hn : n = L.length) (h : Bytes8 B L w) : (convert 34 9 (.slice (some ⟨B, 0, none⟩) n cap)).run Try.prog w = .ok (.string (bs L)) w := by
  subst hn
  refine run_convert_bytes_back (P := Try.prog) _ 34 9 5 ⟨B, 0, none⟩ cap L Try.underlying34 Try.underlying5 Try.underlying9 ?_
  intro j hj
  rw [addr_add, Nat.zero_add, (h j hj).1, List.getD_eq_getElem?_getD, List.getElem?_eq_getElem hj, Option.getD_some]
theorem Bytes8.set {B : Nat} {L : List UInt8} {w : World} (h : Bytes8 B L w) {i : Nat} (hi : i < L.length) (c : UInt8) : Bytes8 B (L.set i c) (w.setCell ⟨B, i, none⟩ (.int .u8 (c.toNat : Int))) := by
  intro j hj
  rw [List.length_set] at hj
  refine ⟨?_, by rw [World.frozen?_setCell]; exact (h j hj).2⟩
  by_cases hji : j = i
  · subst hji
    rw [World.cell?_setCell_same w _ _ (h _ hj).1, List.getD_eq_getElem?_getD, List.getElem?_set_self hj]
    rfl
  · rw [World.cell?_setCell_other w _ _ _ (fun e => hji (by injection e with _ e2; exact e2.symm)), (h j hj).1, List.getD_eq_getElem?_getD, List.getD_eq_getElem?_getD, List.getElem?_set_ne (by omega)]
end Go.Proofs.Ytkelcmncjhnbgaa
