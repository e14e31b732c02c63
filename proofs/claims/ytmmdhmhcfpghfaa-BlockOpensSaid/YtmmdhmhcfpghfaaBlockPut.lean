/- The program's Pack: the closure that adds an entry, the list, the sum. -/
import Derived.Test.YtmmdhmhcfpghfaaSixOther
import Derived.Test.YtmmdhmhcfpghfaaBlockShared
import Derived.Test.YtmmdhmhcfpghfaaBlockCheck
import Derived.Test.YtmmdhmhcfpghfaaCrcPuts
set_option linter.unusedVariables false
set_option maxRecDepth 100000
namespace Go.Proofs.Ytmmdhmhcfpghfaa
open Go.RowKit

theorem rest_bs (l : List UInt8) (k : Nat) : (bs l).extract k (bs l).size = bs (l.drop k) := bs_eq (by rw [extract_rest, bs_list])
/-- A variable that holds a text. -/
def Bx (c : Nat) (s : List UInt8) (w : World) : Prop := w.heap[c]? = some (.cells #[.string (bs s)] 9 (0, 0))
theorem Bx.cell {c : Nat} {s : List UInt8} {w : World} (h : Bx c s w) : w.cell? ⟨c, 0, none⟩ = some (.string (bs s)) := by unfold Bx at h; simp [World.cell?, h]
theorem Bx.free {c : Nat} {s : List UInt8} {w : World} (h : Bx c s w) : w.frozen? ⟨c, 0, none⟩ = false := by unfold Bx at h; simp [World.frozen?, h]
theorem Bx.put {c : Nat} {s : List UInt8} {w : World} (h : Bx c s w) (t : List UInt8) : Bx c t (w.setCell ⟨c, 0, none⟩ (.string (bs t))) := heap_set (o := 0) h _
/-- A variable that holds an entry. -/
def Bx3 (c : Nat) (x : Ent) (w : World) : Prop := w.heap[c]? = some (.cells #[.string (bs x.key), .string (bs x.val), .bool x.gone] 44 (0, 0))
theorem Bx3.cells {c : Nat} {x : Ent} {w : World} (h : Bx3 c x w) : w.cell? ⟨c, 0, none⟩ = some (.string (bs x.key)) ∧ w.cell? ⟨c, 1, none⟩ = some (.string (bs x.val)) ∧ w.cell? ⟨c, 2, none⟩ = some (.bool x.gone) := by unfold Bx3 at h; simp [World.cell?, h]

/-- The writer is kept where a variable of another kind is written. -/
theorem Wt.beside {B b c : Nat} {l : List UInt8} {w w' : World} {cs : Array Value} {t : TypeId} {z : Nat × Nat} (h : Wt B b l w) (hc : w.heap[c]? = some (.cells cs t z)) (hb : c ≠ b) (ht : t ≠ 5) (k : ∀ j, j < w.heap.size → j ≠ c → w'.heap[j]? = w.heap[j]?) : Wt B b l w' := by
  have core : ∀ p, Lib.BuilderAtF 81 5 B b p (Lib.byteCells l) w → Lib.BuilderAtF 81 5 B b p (Lib.byteCells l) w' := by
    rintro p ⟨hB, v, hbk, hown, hne⟩
    have hlt : b < w.heap.size := Lib.BuilderAtF.lt ⟨hB, v, hbk, hown, hne⟩
    refine ⟨hB, v, ?_, ⟨hown.1, ?_⟩, hne⟩
    · rw [k b hlt (Ne.symm hb), hbk]
    · rcases hown.2 with hn | ⟨g, cap, cur, fz, hv, hbg, hg, rest⟩
      · exact .inl hn
      · refine .inr ⟨g, cap, cur, fz, hv, hbg, ?_, rest⟩
        rw [k g (Array.getElem?_eq_some_iff.1 hg).1 (fun e => ?_), hg]
        subst e
        rw [hg] at hc
        injection hc with hc
        injection hc with _ hc
        exact ht hc.symm
  rcases h with h | h
  · exact .inl (core _ h)
  · exact .inr (core _ h)
set_option maxHeartbeats 2000000 in
theorem put_entry (B b c : Nat) (l last : List UInt8) (x : Ent) (w : World) (h : Wt B b l w) (hc : Bx c last w) (hbc : c ≠ b) (hBc : B ≤ c) (hlen : l.length ≤ 100000000000000) (hlast : last.length ≤ 65536) (hk : x.key.length ≤ 65536) (hv : x.val.length ≤ 65536) :
    Calls Try.prog 41 #[.pointer (some ⟨b, 0, none⟩), .agg #[.string (bs x.key), .string (bs x.val), .bool x.gone], .pointer (some ⟨c, 0, none⟩)] w fun e w' => e = .returned (.tuple #[]) ∧ Wt B b (l ++ entB last x) w' ∧ Bx c x.key w' ∧ Below B w w' := by
  have hcw : c < w.heap.size := heap_lt hc
  have hbw : b < w.heap.size := h.lt
  have hBw : B ≤ w.heap.size := by have := h.le; omega
  have HD := Lib.hid (show w.heap.size ≠ b ∧ w.heap.size ≠ c by omega)
  have H0 := Lib.hid (h.alloc (.cells #[.string (bs x.key), .string (bs x.val), .bool x.gone] 44))
  have C0 := Lib.hid (show Bx c last (w.alloc (.cells #[.string (bs x.key), .string (bs x.val), .bool x.gone] 44)) from (Below.heap_alloc w _ c hcw).trans hc)
  have D0 := Lib.hid (show Bx3 w.heap.size x (w.alloc (.cells #[.string (bs x.key), .string (bs x.val), .bool x.gone] 44)) from heap_new w _)
  have K0 := Lib.hid ((Below.refl B w).alloc hBw (.cells #[.string (bs x.key), .string (bs x.val), .bool x.gone] 44))
  have HBC := Lib.hid (And.intro hbc (And.intro hBc hBw))
  have cc0 : (w.alloc (.cells #[.string (bs x.key), .string (bs x.val), .bool x.gone] 44)).cell? ⟨c, 0, none⟩ = some (.string (bs last)) := C0.out.cell
  clear h hc hbc hBc hcw hbw hBw
  obtain ⟨n, hn⟩ : ∃ n, n = sharedL last x.key := ⟨_, rfl⟩
  have hnk : n ≤ x.key.length := by rw [hn]; exact (shared_le _ _).2
  have HE := Lib.hid (show entB last x = whole (n : Int) ++ text (x.key.drop n) ++ (if x.gone then whole ((0 : Nat) : Int) else whole ((x.val.length + 1 : Nat) : Int) ++ x.val) by rw [hn]; rfl)
  have HN := Lib.hid hn
  have z1 : (bs x.key).size = x.key.length := bs_size _
  have z2 : (bs x.val).size = x.val.length := bs_size _
  have hr := rest_bs x.key n
  rw [z1] at hr
  have hdl : (x.key.drop n).length ≤ 65536 := by rw [List.length_drop]; omega
  clear hn
  go_enter Try.func41, Try.ntmps41
  go_wp2_with fail
  refine (block_shared last x.key _ (by omega) (by omega)).mono ?_
  rintro e w1 ⟨rfl, k1⟩
  rw [← HN.out]
  have hs1 := k1.size
  have H1 := Lib.hid (H0.out.keep k1)
  have C1 := Lib.hid (show Bx c last w1 from (k1.block c (heap_lt C0.out)).trans C0.out)
  have D1 := Lib.hid (show Bx3 w.heap.size x w1 from (k1.block _ (heap_lt D0.out)).trans D0.out)
  have K1 := Lib.hid (K0.out.trans (k1.mono (Nat.le_trans HBC.out.2.2 K0.out.size)))
  clear k1 H0 C0 D0 K0 cc0
  obtain ⟨d0, d1, d2⟩ := D1.out.cells
  have hw0 := Lib.hid (whole_len (n := (n : Int)) (by omega) (by omega)).1
  have hw1 := Lib.hid (whole_len (n := ((x.key.drop n).length : Int)) (by omega) (by omega)).1
  have ht1 := Lib.hid (show (text (x.key.drop n)).length ≤ 70000 by unfold text; rw [List.length_append]; have := hw1.out; omega)
  go_wp2_with fail
  refine (six_CountO B b l n w1 H1.out (by omega) (by omega)).mono ?_
  rintro e w2 ⟨rfl, h2, k2⟩
  have H2 := Lib.hid h2
  have C2 := Lib.hid (show Bx c last w2 from k2.keeps C1.out HBC.out.1 (by decide))
  have D2 := Lib.hid (show Bx3 w.heap.size x w2 from k2.keeps D1.out HD.out.1 (by decide))
  have K2 := Lib.hid (K1.out.trans k2.bel)
  clear h2 k2 H1 C1 D1 K1 d0 d1 d2
  obtain ⟨d0, d1, d2⟩ := D2.out.cells
  go_wp2_with fail
  refine (six_TextO B b _ (bs (x.key.drop n)) w2 H2.out (by rw [bs_size, List.length_append]; have := hw0.out; omega)).mono ?_
  rintro e w3 ⟨rfl, h3, k3⟩
  rw [bs_list] at h3
  have H3 := Lib.hid h3
  have C3 := Lib.hid (show Bx c last w3 from k3.keeps C2.out HBC.out.1 (by decide))
  have D3 := Lib.hid (show Bx3 w.heap.size x w3 from k3.keeps D2.out HD.out.1 (by decide))
  have K3 := Lib.hid (K2.out.trans k3.bel)
  clear h3 k3 H2 C2 D2 K2 d0 d1 d2
  obtain ⟨d0, d1, d2⟩ := D3.out.cells
  have hl3 := Lib.hid (show (l ++ whole (n : Int) ++ text (x.key.drop n)).length ≤ 100000000100000 by rw [List.length_append, List.length_append]; have := hw0.out; have := ht1.out; omega)
  cases hg : x.gone with
  | true =>
    rw [hg] at d2
    have HG := Lib.hid hg
    clear hg
    go_wp2_with fail
    refine (six_CountO B b _ 0 w3 H3.out (by omega) (by have := hl3.out; omega)).mono ?_
    rintro e w4 ⟨rfl, h4, k4⟩
    have H4 := Lib.hid h4
    have C4 := Lib.hid (show Bx c last w4 from k4.keeps C3.out HBC.out.1 (by decide))
    have D4 := Lib.hid (show Bx3 w.heap.size x w4 from k4.keeps D3.out HD.out.1 (by decide))
    have K4 := Lib.hid (K3.out.trans k4.bel)
    clear h4 k4 H3 C3 D3 K3 d0 d1 d2
    obtain ⟨d0, _, _⟩ := D4.out.cells
    have cf := C4.out.free
    have cc := C4.out.cell
    go_wp2_with fail
    go_end0
    refine ⟨rfl, ?_, C4.out.put _, K4.out.setCell (p := ⟨c, 0, none⟩) HBC.out.2.1 _⟩
    rw [HE.out, if_pos HG.out, ← List.append_assoc, ← List.append_assoc]
    exact H4.out.beside C4.out HBC.out.1 (by decide) fun j _ hj => heap_set_other hj _
  | false =>
    rw [hg] at d2
    have HG := Lib.hid hg
    clear hg
    go_wp2_with fail
    refine (six_CountO B b _ (x.val.length + 1) w3 H3.out (by omega) (by have := hl3.out; omega)).mono ?_
    rintro e w4 ⟨rfl, h4, k4⟩
    have H4 := Lib.hid h4
    have C4 := Lib.hid (show Bx c last w4 from k4.keeps C3.out HBC.out.1 (by decide))
    have D4 := Lib.hid (show Bx3 w.heap.size x w4 from k4.keeps D3.out HD.out.1 (by decide))
    have K4 := Lib.hid (K3.out.trans k4.bel)
    clear h4 k4 H3 C3 D3 K3 d0 d1 d2
    obtain ⟨d0, d1, _⟩ := D4.out.cells
    have hw4 := Lib.hid (whole_len (n := ((x.val.length + 1 : Nat) : Int)) (by omega) (by omega)).1
    go_wp2_with fail
    refine (six_RawO B b _ (bs x.val) w4 H4.out (by rw [bs_size, List.length_append]; have := hl3.out; have := hw4.out; omega)).mono ?_
    rintro e w5 ⟨rfl, h5, k5⟩
    rw [bs_list] at h5
    have H5 := Lib.hid h5
    have C5 := Lib.hid (show Bx c last w5 from k5.keeps C4.out HBC.out.1 (by decide))
    have D5 := Lib.hid (show Bx3 w.heap.size x w5 from k5.keeps D4.out HD.out.1 (by decide))
    have K5 := Lib.hid (K4.out.trans k5.bel)
    clear h5 k5 H4 C4 D4 K4 d0 d1
    obtain ⟨d0, _, _⟩ := D5.out.cells
    have cf := C5.out.free
    have cc := C5.out.cell
    go_wp2_with fail
    go_end0
    refine ⟨rfl, ?_, C5.out.put _, K5.out.setCell (p := ⟨c, 0, none⟩) HBC.out.2.1 _⟩
    rw [HE.out, if_neg (by rw [HG.out]; decide), ← List.append_assoc, ← List.append_assoc, ← List.append_assoc]
    exact H5.out.beside C5.out HBC.out.1 (by decide) fun j _ hj => heap_set_other hj _
end Go.Proofs.Ytmmdhmhcfpghfaa
