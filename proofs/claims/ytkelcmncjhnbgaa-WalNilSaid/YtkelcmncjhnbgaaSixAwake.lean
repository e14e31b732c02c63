/- The laws' own first look: answers that the document fixes. -/
import Derived.Test.YtkelcmncjhnbgaaSixWriter
import Derived.Test.YtkelcmncjhnbgaaSixTexts
set_option linter.unusedVariables false
set_option maxRecDepth 100000
namespace Go.Proofs.Ytkelcmncjhnbgaa
open Go.RowKit

theorem six_CountI (B b : Nat) (l : List UInt8) (n : Int) (w : World) (h : Wt B b l w) (h0 : 0 ≤ n) (hn : n ≤ 9223372036854775807) (hlen : l.length + 11 ≤ 140737488355328) :
    Calls Try.prog 52 #[.pointer (some ⟨b, 0, none⟩), .int .i64 n] w fun e w' => e = .returned (.int .i64 0) ∧ Wt B b (l ++ whole n) w' ∧ Below B w w' := by
  obtain ⟨m, rfl⟩ : ∃ m : Nat, n = m := ⟨n.toNat, by omega⟩
  exact six_Count B b l m w h (by omega) hlen

def abL : List UInt8 := [1, 64, 1, 128, 66, 97, 98]
theorem whole64 : whole 64 = [1, 64] := by
  unfold whole grp
  rw [if_neg (by decide), show (64 : Int).toNat / 64 = 1 from rfl, lead_pos (by decide), show 1 / 64 = 0 from rfl, lead_zero]
  rfl
theorem whole65 : whole (-65) = [1, 128] := by
  unfold whole grp
  rw [if_pos (by decide), show (-1 - (-65) : Int).toNat / 64 = 1 from rfl, lead_pos (by decide), show 1 / 64 = 0 from rfl, lead_zero]
  rfl
theorem text_ab : text [97, 98] = [66, 97, 98] := by
  unfold text whole grp
  rw [if_neg (by decide), show (([97, 98] : List UInt8).length : Int).toNat / 64 = 0 from rfl, lead_zero]
  rfl

theorem abSize : (bs abL).size = 7 := rfl
theorem ab1 : (bs abL).extract 2 (bs abL).size = bs [1, 128, 66, 97, 98] := rfl
theorem ab2 : (bs [1, 128, 66, 97, 98]).extract 2 (bs [1, 128, 66, 97, 98]).size = bs [66, 97, 98] := rfl
theorem ab3 : (bs [66, 97, 98]).extract 3 (bs [66, 97, 98]).size = bs [] := rfl

theorem Rd.mk' {r : Nat} {s : ByteArray} {a b : Value} {w w' : World} {e : Ending} (h : Rd r s a b w e w') : e = .returned (.tuple #[a, b]) ∧ Rt r s w' ∧ Only (fun k => k = r) w w' := h

theorem rd_ab1 (r : Nat) (w : World) (h : Rt r (bs abL) w) : Calls Try.prog 72 #[.pointer (some ⟨r, 0, none⟩)] w (Rd r (bs [1, 128, 66, 97, 98]) (.int .i64 64) (.int .i64 0) w) := by
  have := six_ReadCount r (bs abL) w h (by decide)
  exact this
theorem rd_ab2 (r : Nat) (w : World) (h : Rt r (bs [1, 128, 66, 97, 98]) w) : Calls Try.prog 78 #[.pointer (some ⟨r, 0, none⟩)] w (Rd r (bs [66, 97, 98]) (.int .i64 (-65)) (.int .i64 0) w) := by
  have := six_ReadWhole r (bs [1, 128, 66, 97, 98]) w h (by decide)
  exact this
theorem rd_ab3 (r : Nat) (w : World) (h : Rt r (bs [66, 97, 98]) w) : Calls Try.prog 57 #[.pointer (some ⟨r, 0, none⟩)] w (Rd r (bs []) (.string (bs [97, 98])) (.int .i64 0) w) := by
  have := six_ReadText r (bs [66, 97, 98]) w h (by decide)
  exact this

theorem Wt.same {B b : Nat} {l : List UInt8} {w w' : World} (h : Wt B b l w) (k : ∀ j, j < w.heap.size → (∀ s, ¬ Rt j s w) → w'.heap[j]? = w.heap[j]?) : Wt B b l w' := by
  have core : ∀ p, Lib.BuilderAtF 101 5 B b p (Lib.byteCells l) w → Lib.BuilderAtF 101 5 B b p (Lib.byteCells l) w' := by
    rintro p ⟨hB, v, hb, hown, hne⟩
    have hlt : b < w.heap.size := Lib.BuilderAtF.lt ⟨hB, v, hb, hown, hne⟩
    refine ⟨hB, v, ?_, ⟨hown.1, ?_⟩, hne⟩
    · rw [k b hlt (fun s hs => by unfold Rt at hs; rw [hb] at hs; simp at hs), hb]
    · rcases hown.2 with hn | ⟨g, cap, cur, fz, hv, hbg, hg, rest⟩
      · exact .inl hn
      · refine .inr ⟨g, cap, cur, fz, hv, hbg, ?_, rest⟩
        rw [k g (Array.getElem?_eq_some_iff.1 hg).1 (fun s hs => by unfold Rt at hs; rw [hg] at hs; simp at hs), hg]
  rcases h with h | h
  · exact .inl (core _ h)
  · exact .inr (core _ h)
theorem Wt.alloc {B b : Nat} {l : List UInt8} {w : World} (h : Wt B b l w) (o : Obj) : Wt B b l (w.alloc o) := h.same (fun j hj _ => Below.heap_alloc w o j hj)
theorem Wt.keep {B b : Nat} {l : List UInt8} {w w' : World} (h : Wt B b l w) (k : Below w.heap.size w w') : Wt B b l w' := h.same (fun j hj _ => k.block j hj)
theorem Wt.read {B b r : Nat} {l : List UInt8} {s : ByteArray} {w w' : World} (h : Wt B b l w) (hr : Rt r s w) (k : Only (fun k => k = r) w w') : Wt B b l w' :=
  h.same (fun j hj hs => k.block j hj (fun e => by subst e; exact hs s hr))
theorem Rt.new (s : ByteArray) (w : World) : Rt w.heap.size s (w.alloc (.cells #[.string s] 125)) := by
  show (w.heap.push _)[w.heap.size]? = _
  simp
theorem Rt.below {r B : Nat} {s : ByteArray} {w w' : World} (h : Rt r s w) (k : Below B w w') (hr : r < B) : Rt r s w' := by
  unfold Rt at h ⊢
  rw [k.block r hr, h]

theorem Rt.others {r b : Nat} {s : ByteArray} {w w' : World} (h : Rt r s w) (k : Lib.OthersKept 5 (some b) w w') (hb : r ≠ b) : Rt r s w' :=
  k r _ h (fun e => hb (Option.some.inj e)) (fun c fz e => by simp at e)

/-- A new block that a call has laid, kept by all that lies above it. -/
theorem below_new {B : Nat} {w w' : World} (h : Below B w w') (hB : B ≤ w.heap.size) {o : Obj} {k : Nat} (hk : k < B) (ho : w.heap[k]? = some o) : w'.heap[k]? = some o := by rw [h.block k hk, ho]

end Go.Proofs.Ytkelcmncjhnbgaa
