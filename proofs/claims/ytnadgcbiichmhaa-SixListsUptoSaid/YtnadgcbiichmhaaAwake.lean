/- The laws' own first look: answers that the document fixes. -/
import Derived.Test.YtnadgcbiichmhaaWriter
import Derived.Test.YtnadgcbiichmhaaTexts
set_option linter.unusedVariables false
namespace Go.Proofs.Ytnadgcbiichmhaa
open Go.RowKit

theorem six_CountI (B b : Nat) (l : List UInt8) (n : Int) (w : World) (h : Wt B b l w) (h0 : 0 ≤ n) (hn : n ≤ 9223372036854775807) (hlen : l.length + 11 ≤ 140737488355328) :
    Calls Try.prog 10 #[.pointer (some ⟨b, 0, none⟩), .int .i64 n] w fun e w' => e = .returned (.int .i64 0) ∧ Wt B b (l ++ whole n) w' ∧ Below B w w' := by
  obtain ⟨m, rfl⟩ : ∃ m : Nat, n = m := ⟨n.toNat, by omega⟩
  exact six_Count B b l m w h (by omega) hlen

def abL : List UInt8 := [1, 64, 1, 128, 66, 97, 98]
theorem whole64 : whole 64 = [1, 64] := by
  unfold whole grp
  rw [if_neg (by decide), show (64 : Int).toNat / 64 = 1 from rfl, lead_pos (by decide), show 1 / 64 = 0 from rfl, lead_zero]
  rfl
theorem whole65 : whole (-65) = [1, 128] := by
  unfold whole grp
  rw [if_pos (by decide), show (-1 - (-65) : Int).toNat / 64 = 1 from rfl, lead_pos (by decide), show 1 / 64 = 0 from rfl, lead_zero]
  rfl
theorem text_ab : text [97, 98] = [66, 97, 98] := by
  unfold text whole grp
  rw [if_neg (by decide), show (([97, 98] : List UInt8).length : Int).toNat / 64 = 0 from rfl, lead_zero]
  rfl

theorem abSize : (bs abL).size = 7 := rfl
theorem ab1 : (bs abL).extract 2 (bs abL).size = bs [1, 128, 66, 97, 98] := rfl
theorem ab2 : (bs [1, 128, 66, 97, 98]).extract 2 (bs [1, 128, 66, 97, 98]).size = bs [66, 97, 98] := rfl
theorem ab3 : (bs [66, 97, 98]).extract 3 (bs [66, 97, 98]).size = bs [] := rfl

theorem Rd.mk' {r : Nat} {s : ByteArray} {a b : Value} {w w' : World} {e : Ending} (h : Rd r s a b w e w') : e = .returned (.tuple #[a, b]) ∧ Rt r s w' ∧ Only (fun k => k = r) w w' := h

theorem rd_ab1 (r : Nat) (w : World) (h : Rt r (bs abL) w) : Calls Try.prog 30 #[.pointer (some ⟨r, 0, none⟩)] w (Rd r (bs [1, 128, 66, 97, 98]) (.int .i64 64) (.int .i64 0) w) := by
  have := six_ReadCount r (bs abL) w h (by decide)
  exact this
theorem rd_ab2 (r : Nat) (w : World) (h : Rt r (bs [1, 128, 66, 97, 98]) w) : Calls Try.prog 22 #[.pointer (some ⟨r, 0, none⟩)] w (Rd r (bs [66, 97, 98]) (.int .i64 (-65)) (.int .i64 0) w) := by
  have := six_ReadWhole r (bs [1, 128, 66, 97, 98]) w h (by decide)
  exact this
theorem rd_ab3 (r : Nat) (w : World) (h : Rt r (bs [66, 97, 98]) w) : Calls Try.prog 23 #[.pointer (some ⟨r, 0, none⟩)] w (Rd r (bs []) (.string (bs [97, 98])) (.int .i64 0) w) := by
  have := six_ReadText r (bs [66, 97, 98]) w h (by decide)
  exact this

theorem Wt.same {B b : Nat} {l : List UInt8} {w w' : World} (h : Wt B b l w) (k : ∀ j, j < w.heap.size → (∀ s, ¬ Rt j s w) → w'.heap[j]? = w.heap[j]?) : Wt B b l w' := by
  have core : ∀ p, Lib.BuilderAtF 65 5 B b p (Lib.byteCells l) w → Lib.BuilderAtF 65 5 B b p (Lib.byteCells l) w' := by
    rintro p ⟨hB, v, hb, hown, hne⟩
    have hlt : b < w.heap.size := Lib.BuilderAtF.lt ⟨hB, v, hb, hown, hne⟩
    refine ⟨hB, v, ?_, ⟨hown.1, ?_⟩, hne⟩
    · rw [k b hlt (fun s hs => by unfold Rt at hs; rw [hb] at hs; simp at hs), hb]
    · rcases hown.2 with hn | ⟨g, cap, cur, fz, hv, hbg, hg, rest⟩
      · exact .inl hn
      · refine .inr ⟨g, cap, cur, fz, hv, hbg, ?_, rest⟩
        rw [k g (Array.getElem?_eq_some_iff.1 hg).1 (fun s hs => by unfold Rt at hs; rw [hg] at hs; simp at hs), hg]
  rcases h with h | h
  · exact .inl (core _ h)
  · exact .inr (core _ h)
theorem Wt.alloc {B b : Nat} {l : List UInt8} {w : World} (h : Wt B b l w) (o : Obj) : Wt B b l (w.alloc o) := h.same (fun j hj _ => Below.heap_alloc w o j hj)
theorem Wt.keep {B b : Nat} {l : List UInt8} {w w' : World} (h : Wt B b l w) (k : Below w.heap.size w w') : Wt B b l w' := h.same (fun j hj _ => k.block j hj)
theorem Wt.read {B b r : Nat} {l : List UInt8} {s : ByteArray} {w w' : World} (h : Wt B b l w) (hr : Rt r s w) (k : Only (fun k => k = r) w w') : Wt B b l w' :=
  h.same (fun j hj hs => k.block j hj (fun e => by subst e; exact hs s hr))
theorem Rt.new (s : ByteArray) (w : World) : Rt w.heap.size s (w.alloc (.cells #[.string s] 74)) := by
  show (w.heap.push _)[w.heap.size]? = _
  simp
theorem Rt.below {r B : Nat} {s : ByteArray} {w w' : World} (h : Rt r s w) (k : Below B w w') (hr : r < B) : Rt r s w' := by
  unfold Rt at h ⊢
  rw [k.block r hr, h]

theorem Rt.others {r b : Nat} {s : ByteArray} {w w' : World} (h : Rt r s w) (k : Lib.OthersKept 5 (some b) w w') (hb : r ≠ b) : Rt r s w' :=
  k r _ h (fun e => hb (Option.some.inj e)) (fun c fz e => by simp at e)

/-- A new block that a call has laid, kept by all that lies above it. -/
theorem below_new {B : Nat} {w w' : World} (h : Below B w w') (hB : B ≤ w.heap.size) {o : Obj} {k : Nat} (hk : k < B) (ho : w.heap[k]? = some o) : w'.heap[k]? = some o := by rw [h.block k hk, ho]

set_option maxHeartbeats 1000000 in
set_option maxRecDepth 100000 in
theorem law_awake (w : World) : Calls Try.prog 13 #[] w fun e w' => e = .returned (.bool true) ∧ Below w.heap.size w w' := by
  go_enter Try.func13, Try.ntmps13
  go_wp2_with fail
  refine (six_New w).mono ?_
  rintro e w1 ⟨rfl, hw1⟩
  have h1 := wt_new w
  rw [hw1] at h1
  have k1 : Below w.heap.size w w1 := by rw [← hw1]; exact (Below.refl _ _).alloc (Nat.le_refl _) _
  have H1 := Lib.hid h1
  have K1 := Lib.hid k1
  clear h1 k1 hw1
  generalize hBB : w.heap.size = B at *
  have HBB := Lib.hid hBB
  clear hBB
  go_wp2_with fail
  refine (six_CountI B B _ 64 w1 H1.out (by decide) (by decide) (by decide)).mono ?_
  rintro e w2 ⟨rfl, h2, k2⟩
  have H2 := Lib.hid h2
  have K2 := Lib.hid k2
  clear h2 k2
  go_wp2_with fail
  refine (six_Whole B B _ (-65) w2 H2.out (by decide) (by decide) (by rw [whole64]; decide)).mono ?_
  rintro e w3 ⟨rfl, h3, k3⟩
  have H3 := Lib.hid h3
  have K3 := Lib.hid k3
  clear h3 k3
  go_wp2_with fail
  refine (six_Text B B _ ⟨#[97, 98]⟩ w3 H3.out (by rw [whole64, whole65]; decide)).mono ?_
  rintro e w4 ⟨rfl, h4, k4⟩
  have e4 : [] ++ whole 64 ++ whole (-65) ++ text (⟨#[97, 98]⟩ : ByteArray).data.toList = abL := by
    rw [whole64, whole65, show (⟨#[97, 98]⟩ : ByteArray).data.toList = [97, 98] from rfl, text_ab]; rfl
  rw [e4] at h4
  have H4 := Lib.hid h4
  have K4 := Lib.hid k4
  clear h4 k4 e4
  go_wp2_with fail
  refine (six_Bytes B B _ w4 H4.out).mono ?_
  rintro e w5 ⟨rfl, h5, k5, _⟩
  have H5 := Lib.hid h5
  have K5 := Lib.hid k5
  clear h5 k5
  go_wp2_with fail
  refine (six_Over _ w5).mono ?_
  rintro e w6 ⟨rfl, hw6⟩
  have h6 := Rt.new (bs abL) w5
  rw [hw6] at h6
  have g6 : Wt B B abL w6 := by rw [← hw6]; exact H5.out.alloc _
  have k6 : Below B w5 w6 := by rw [← hw6]; exact (Below.refl _ _).alloc (by have := H5.out.lt; omega) _
  have hr : B ≤ w5.heap.size := by have := H5.out.lt; omega
  have HRB := Lib.hid (show w5.heap.size ≠ B by have := H5.out.lt; omega)
  have H6 := Lib.hid h6
  have G6 := Lib.hid g6
  have K6 := Lib.hid k6
  have HR := Lib.hid hr
  clear h6 g6 k6 hr hw6
  generalize w5.heap.size = r at *
  go_wp2_with fail
  refine (rd_ab1 r w6 H6.out).mono ?_
  rintro e w7 ⟨rfl, h7, k7⟩
  have H7 := Lib.hid h7
  have G7 := Lib.hid (G6.out.read H6.out k7)
  have K7 := Lib.hid k7
  clear h7 k7
  go_wp2_with fail
  refine (rd_ab2 r w7 H7.out).mono ?_
  rintro e w8 ⟨rfl, h8, k8⟩
  have H8 := Lib.hid h8
  have G8 := Lib.hid (G7.out.read H7.out k8)
  have K8 := Lib.hid k8
  clear h8 k8
  go_wp2_with fail
  refine (rd_ab3 r w8 H8.out).mono ?_
  rintro e w9 ⟨rfl, h9, k9⟩
  have H9 := Lib.hid h9
  have G9 := Lib.hid (G8.out.read H8.out k9)
  have K9 := Lib.hid k9
  clear h9 k9
  go_wp2_with fail
  refine (six_Bytes B B _ w9 G9.out).mono ?_
  rintro e w10 ⟨rfl, h10, k10, o10⟩
  have K10 := Lib.hid k10
  have H10 := Lib.hid (H9.out.others o10 (by have := HR.out; have := HRB.out; omega))
  clear h10 k10 o10
  have he : ((bs abL).toList == [1, 64, 1, 128, 66, 97, 98]) = true := by rw [Lib.toList_data]; decide
  have he2 : ((bs [97, 98]).toList == [97, 98]) = true := by rw [Lib.toList_data]; decide
  go_wp2_with fail
  refine (six_End r (bs []) w10 H10.out).mono ?_
  rintro e w11 ⟨rfl, rfl⟩
  have hE : endE (bs []).data.toList = 0 := rfl
  rw [hE]
  go_wp2
  go_ret
  have hro : ∀ {a b : World}, Only (fun k => k = r) a b → B ≤ a.heap.size → Below B a b := fun h hB => h.below (fun k _ e => by have := HR.out; omega) hB
  refine ⟨rfl, ?_⟩
  have q5 := (((K1.out.trans K2.out).trans K3.out).trans K4.out).trans K5.out
  have q6 := q5.trans K6.out
  have s6 : B ≤ w6.heap.size := by have := G6.out.lt; have := G6.out.le; omega
  have q7 := q6.trans (hro K7.out s6)
  have s7 : B ≤ w7.heap.size := by have := G7.out.lt; have := G7.out.le; omega
  have q8 := q7.trans (hro K8.out s7)
  have s8 : B ≤ w8.heap.size := by have := G8.out.lt; have := G8.out.le; omega
  rw [HBB.out]
  exact (q8.trans (hro K9.out s8)).trans K10.out

end Go.Proofs.Ytnadgcbiichmhaa
