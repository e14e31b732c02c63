/- The closure that goes over one entry after the other: what it does. -/
import Derived.Test.YtmmdhmhcfpghfaaBlockTaker
set_option linter.unusedVariables false
set_option maxRecDepth 100000
namespace Go.Proofs.Ytmmdhmhcfpghfaa
open Go.RowKit

theorem Rt.ne_told {r c : Nat} {s : ByteArray} {t : Tld} {w : World} (h : Rt r s w) (k : BxT c t w) : c ≠ r := by
  rintro rfl
  unfold Rt at h
  unfold BxT at k
  rw [h] at k
  injection k with k
  injection k with _ k
  cases k
theorem Tb.put4 {B : Nat} {a w : World} {c : Nat} (h : Tb B a w) (hB : B ≤ a.heap.size) (hc : a.heap.size ≤ c) (v0 v1 v2 v3 : Value) : Tb B a ((((w.setCell ⟨c, 0, none⟩ v0).setCell ⟨c, 1, none⟩ v1).setCell ⟨c, 2, none⟩ v2).setCell ⟨c, 3, none⟩ v3) :=
  ⟨(((h.bel.setCell (p := ⟨c, 0, none⟩) (by show B ≤ c; omega) v0).setCell (p := ⟨c, 1, none⟩) (by show B ≤ c; omega) v1).setCell (p := ⟨c, 2, none⟩) (by show B ≤ c; omega) v2).setCell (p := ⟨c, 3, none⟩) (by show B ≤ c; omega) v3,
    fun k cs z hk => by
      have hne : k ≠ c := by have := heap_lt hk; omega
      rw [heap_set_other hne, heap_set_other hne, heap_set_other hne, heap_set_other hne]
      exact h.keep k cs z hk⟩
theorem taker_no {B r c1 c2 Z : Nat} {first : Bool} {last l : List UInt8} {w w1 : World} {s : List UInt8} {z : Int} {t0 : Tld} (hk : (rdE first last l).1 = z) (hz : z ≠ 0) (hr : Rt r (bs s) w1) (ho : Tb B w w1) (hb : BxT Z t0 w1) (hZ : Z = w.heap.size) (hrZ : r < w.heap.size) (hB : B ≤ w.heap.size) :
    TakerPost B r c1 c2 first last l w (.returned (.tuple #[noTld.V, .int .i64 z])) ((((w1.setCell ⟨Z, 0, none⟩ (.int .i64 ((0 : Nat) : Int))).setCell ⟨Z, 1, none⟩ (.string (bs []))).setCell ⟨Z, 2, none⟩ (.string (bs []))).setCell ⟨Z, 3, none⟩ (.bool false)) :=
  ⟨⟨noTld, s, by rw [hk], hr.put4 (by omega) _ _ _ _, fun h => absurd (hk.symm.trans h) hz⟩, ho.put4 hB (by omega) _ _ _ _⟩

theorem Tb.put2 {B : Nat} {a w : World} {c : Nat} (h : Tb B a w) (hB : B ≤ a.heap.size) (hc : a.heap.size ≤ c) (v0 v1 : Value) : Tb B a ((w.setCell ⟨c, 2, none⟩ v0).setCell ⟨c, 3, none⟩ v1) :=
  ⟨(h.bel.setCell (p := ⟨c, 2, none⟩) (by show B ≤ c; omega) v0).setCell (p := ⟨c, 3, none⟩) (by show B ≤ c; omega) v1,
    fun k cs z hk => by
      have hne : k ≠ c := by have := heap_lt hk; omega
      rw [heap_set_other hne, heap_set_other hne]
      exact h.keep k cs z hk⟩
theorem BxT.put2 {c : Nat} {t : Tld} {w : World} (h : BxT c t w) (u : List UInt8) (g : Bool) : BxT c ⟨t.sh, t.rest, u, g⟩ ((w.setCell ⟨c, 2, none⟩ (.string (bs u))).setCell ⟨c, 3, none⟩ (.bool g)) := by
  have h1 := heap_set (o := 2) h (.string (bs u))
  exact heap_set (o := 3) h1 (.bool g)
theorem Ahd.put2 {B c1 c2 c : Nat} {first : Bool} {last : List UInt8} {t : Tld} {w : World} (h : Ahd B c1 c2 first last w) (hc : BxT c t w) (v0 v1 : Value) : Ahd B c1 c2 first last ((w.setCell ⟨c, 2, none⟩ v0).setCell ⟨c, 3, none⟩ v1) :=
  h.keep fun j cs ty z hj ht => by
    have hne : j ≠ c := by
      rintro rfl
      unfold BxT at hc
      rw [hc] at hj
      injection hj with hj
      injection hj with _ hj
      subst hj
      rcases ht with h | h | h <;> cases h
    rw [heap_set_other hne, heap_set_other hne]
    exact hj
/-- Bytes appended: what is of another kind is kept. -/
theorem grown_other {w w' : World} {B n : Nat} {v : Value} {xs : List Value} (hO : OffRow w B 5 1 v n xs) (hg : w.grownBy w' v.ownBlock) {j : Nat} {cs : Array Value} {t : TypeId} {z : Nat × Nat} (hj : w.heap[j]? = some (.cells cs t z)) (ht : t ≠ 5) : w'.heap[j]? = some (.cells cs t z) := by
  rw [hg.block j (heap_lt hj) fun e => ?_, hj]
  obtain ⟨cur, hc⟩ := hO.tag e.symm
  rw [hc] at hj
  injection hj with hj
  injection hj with _ hj
  exact ht hj.symm
theorem tag_ne {w : World} {a b : Nat} {cs ds : Array Value} {t u : TypeId} {y z : Nat × Nat} (ha : w.heap[a]? = some (.cells cs t y)) (hb : w.heap[b]? = some (.cells ds u z)) (h : t ≠ u) : a ≠ b := by
  rintro rfl
  rw [ha] at hb
  injection hb with hb
  injection hb with _ hb
  exact h hb
/-- What the closure remembers, when it has gone over an entry. -/
theorem Ahd.next {B c1 c2 : Nat} {first : Bool} {last key : List UInt8} {w w' : World} {a : Option Addr} {n cap k : Nat} {v' : Value} (h : Ahd B c1 c2 first last w) (hc : w.heap[c1]? = some (.cells #[.slice a n cap] 39 (0, 0))) (hO : OffRow w B 5 1 (.slice a k cap) k (((last.map fun b => Value.int .u8 b.toNat)).take (k * 1)))
    (hg : w.grownBy w' (Value.slice a k cap).ownBlock) (hr : OffRow w' B 5 1 v' key.length (key.map fun b => Value.int .u8 b.toNat)) :
    Ahd B c1 c2 false key ((w'.setCell ⟨c1, 0, none⟩ v').setCell ⟨c2, 0, none⟩ (.bool false)) := by
  have g1 := grown_other hO hg hc (by decide)
  have g2 := grown_other hO hg h.flag (by decide)
  have n12 : c2 ≠ c1 := tag_ne g2 g1 (by decide)
  have s1 := heap_set (o := 0) g1 v'
  refine ⟨⟨v', (heap_set_other n12.symm _).trans s1, hr.kept fun j hj => ?_⟩, ?_, h.b1, h.b2⟩
  · obtain ⟨cur, ht⟩ := hr.tag hj
    rw [heap_set_other (tag_ne ht g2 (by decide)), heap_set_other (tag_ne ht g1 (by decide))]
  · exact heap_set (o := 0) ((heap_set_other n12 _).trans g2) (.bool false)
set_option maxHeartbeats 4000000 in
theorem take_entry (B r c1 c2 : Nat) (first : Bool) (last l : List UInt8) (w : World) (h : Rt r (bs l) w) (hBr : B ≤ r) (ha : Ahd B c1 c2 first last w) (hl : l.length ≤ 100000000000) (hlast : last.length ≤ 65536) :
    Calls Try.prog 50 #[.pointer (some ⟨r, 0, none⟩), .pointer (some ⟨c1, 0, none⟩), .pointer (some ⟨c2, 0, none⟩)] w (TakerPost B r c1 c2 first last l w) := by
  have hrw := h.lt
  have hBw : B ≤ w.heap.size := by omega
  obtain ⟨w0, hw0⟩ : ∃ w0, w.alloc (.cells #[.int .i64 0, .string ⟨#[]⟩, .string ⟨#[]⟩, .bool false] 64) = w0 := ⟨_, rfl⟩
  have A := Lib.hid (show Rt r (bs l) w0 ∧ Tb B w w0 ∧ Ahd B c1 c2 first last w0 ∧ BxT w.heap.size noTld w0 ∧ w.heap.size ≤ w0.heap.size from by
    have hb : Below w.heap.size w w0 := by rw [← hw0]; exact (Below.refl _ _).alloc (Nat.le_refl _) _
    exact ⟨(hb.block r h.lt).trans h, Tb.of_below hb hBw, ha.below hb, by rw [← hw0]; exact heap_new w _, hb.size⟩)
  have HL := Lib.hid (And.intro hrw (And.intro hBw hBr))
  obtain ⟨v, hcv, hv⟩ := A.out.2.2.1.by
  have HV := Lib.hid hv
  have hkey := Lib.hid (take_key r last l v w0 A.out.1 HV hl hlast)
  clear h ha hv hrw hBw hBr
  rcases rdE_parts first last l with ⟨hk, hrd⟩ | ⟨hk, k, rest, l2, hkn, hrest, hl2, hkl, hsh, h65, hrd⟩
  · have hb : (kE last l == 0) = false := beq_eq_false_iff_ne.2 hk
    have HK := Lib.hid hk
    have HRD := Lib.hid hrd
    clear hk hrd
    go_enter Try.func50, Try.ntmps50
    go_wp2_with fail
    refine hkey.out.mono ?_
    rintro e w1 ⟨⟨t, s, rfl, hr1, _⟩, o1⟩
    generalize kE last l = z at *
    obtain ⟨w2, hw2⟩ : ∃ w2, w1.alloc (.cells #[.int .i64 (t.sh : Int), .string (bs t.rest), .string (bs t.val), .bool t.gone] 64) = w2 := ⟨_, rfl⟩
    have T1 := A.out.2.2.2.1.keep o1 (A.out.1.ne_told A.out.2.2.2.1)
    have B2 : Below w1.heap.size w1 w2 := by rw [← hw2]; exact (Below.refl _ _).alloc (Nat.le_refl _) _
    have T2 := T1.below B2
    have R2 := Lib.hid (show Rt r (bs s) w2 from (B2.block r hr1.lt).trans hr1)
    have K2 := Lib.hid ((A.out.2.1.trans (Tb.of_read o1 A.out.1 HL.out.2.2)).trans (Tb.of_below B2 (by have := hr1.lt; have := HL.out; omega)))
    have q0 := T2.c0
    have q1 := T2.c1
    have q2 := T2.c2
    have q3 := T2.c3
    have qf := T2.free
    have T3 := Lib.hid T2
    have HW2 := Lib.hid hw2
    clear T1 T2 B2 hr1 o1 hw2
    unfold Tld.V
    go_upto_region 2 with (fail)
    rw [HW2.out]
    go_wp2_with fail
    refine bodyPost_ret (results_told rfl _ _ w.heap.size noTld _ rfl rfl (T3.out.put noTld)) rfl ?_
    exact taker_no HRD.out HK.out R2.out K2.out T3.out rfl HL.out.1 HL.out.2.1
  · have hk64 : k ≤ 65536 := by omega
    have hl2l : l2.length ≤ 100000000000 := by rw [hl2, List.length_drop, List.length_drop]; omega
    have HKP := Lib.hid (show ∀ t s, (kE last l = 0 → t = (⟨(cn l).toNat, ts (l.drop (ck l)), [], false⟩ : Tld) ∧ s = (l.drop (ck l)).drop (tk (l.drop (ck l)))) → t = ⟨k, rest, [], false⟩ ∧ s = l2 from fun t s h => by
      obtain ⟨a, b⟩ := h hk
      exact ⟨by rw [a, hkn, hrest], by rw [b, hl2]⟩)
    have HK := Lib.hid hk
    have HSH := Lib.hid hsh
    have HRD := Lib.hid hrd
    clear hkn hrest hl2 hk hsh hrd
    go_enter Try.func50, Try.ntmps50
    go_wp2_with fail
    refine hkey.out.mono ?_
    rintro e w1 ⟨⟨t, s, rfl, hr1, hts⟩, o1⟩
    obtain ⟨rfl, rfl⟩ := HKP.out t s hts
    rw [HK.out]
    have hb1 := hr1.lt
    obtain ⟨w2, hw2⟩ : ∃ w2, w1.alloc (.cells #[.int .i64 (k : Int), .string (bs rest), .string (bs []), .bool false] 64) = w2 := ⟨_, rfl⟩
    have T1 := A.out.2.2.2.1.keep o1 (A.out.1.ne_told A.out.2.2.2.1)
    have B2 : Below w1.heap.size w1 w2 := by rw [← hw2]; exact (Below.refl _ _).alloc (Nat.le_refl _) _
    have K1 := A.out.2.1.trans (Tb.of_read o1 A.out.1 HL.out.2.2)
    have P2 := Lib.hid (show Rt r (bs s) w2 ∧ Tb B w w2 ∧ Ahd B c1 c2 first last w2 ∧ BxT w.heap.size noTld w2 ∧ BxT w1.heap.size ⟨k, rest, [], false⟩ w2 from
      ⟨(B2.block r hr1.lt).trans hr1, K1.trans (Tb.of_below B2 (by have := HL.out; omega)), (A.out.2.2.1.read A.out.1 o1).below B2, T1.below B2, by rw [← hw2]; exact heap_new w1 _⟩)
    have Z1 := Lib.hid (show w.heap.size < w1.heap.size from Nat.lt_of_lt_of_le (heap_lt A.out.2.2.2.1) o1.size)
    have HW2 := Lib.hid hw2
    clear T1 B2 K1 hr1 o1 hw2 hts hkey hcv HV hb1
    unfold Tld.V
    go_upto_region 2 with (fail)
    rw [HW2.out]
    clear HW2
    go_wp2_with fail
    refine (take_val r s w2 P2.out.1 hl2l).mono ?_
    rintro e w3 ⟨⟨val, g, s2, rfl, hr3, hvs⟩, o3⟩
    obtain ⟨z1, hz1⟩ : ∃ z1, z1 = w1.heap.size := ⟨_, rfl⟩
    rw [← hz1] at P2 Z1 ⊢
    have HVS := Lib.hid hvs
    have T3 := P2.out.2.2.2.2.keep o3 (P2.out.1.ne_told P2.out.2.2.2.2)
    have T0 := P2.out.2.2.2.1.keep o3 (P2.out.1.ne_told P2.out.2.2.2.1)
    obtain ⟨w4, hw4⟩ : ∃ w4, (w3.setCell ⟨z1, 2, none⟩ (.string (bs val))).setCell ⟨z1, 3, none⟩ (.bool g) = w4 := ⟨_, rfl⟩
    have q0 := T3.c2
    have q1 := T3.c3
    have qf := T3.free
    have P4 := Lib.hid (show Rt r (bs s2) w4 ∧ Tb B w w4 ∧ Ahd B c1 c2 first last w4 ∧ BxT w.heap.size noTld w4 ∧ BxT z1 ⟨k, rest, val, g⟩ w4 by
      rw [← hw4]
      have hne : w.heap.size ≠ z1 := by have := Z1.out; omega
      have hner : r ≠ z1 := by have := Z1.out; have := HL.out; omega
      refine ⟨?_, (P2.out.2.1.trans (Tb.of_read o3 P2.out.1 HL.out.2.2)).put2 HL.out.2.1 (by have := Z1.out; omega) _ _, (P2.out.2.2.1.read P2.out.1 o3).put2 T3 _ _, ?_, T3.put2 val g⟩
      · unfold Rt at hr3 ⊢
        rw [heap_set_other hner, heap_set_other hner, hr3]
      · unfold BxT at T0 ⊢
        rw [heap_set_other hne, heap_set_other hne, T0])
    have HW4 := Lib.hid hw4
    clear hw4 T0 T3 hz1 P2 o3 hr3 hvs
    rcases HRD.out with ⟨hv, hrd⟩ | ⟨hv, hrd⟩
    · have hb : (vE s == 0) = false := beq_eq_false_iff_ne.2 hv
      have HVE := Lib.hid hv
      have HRD2 := Lib.hid hrd
      clear hv hrd
      generalize vE s = z at *
      go_upto_region 5 with (fail)
      rw [HW4.out]
      clear q0 q1 qf HW4
      have q0 := P4.out.2.2.2.1.c0
      have q1 := P4.out.2.2.2.1.c1
      have q2 := P4.out.2.2.2.1.c2
      have q3 := P4.out.2.2.2.1.c3
      have qf := P4.out.2.2.2.1.free
      go_wp2_with fail
      refine bodyPost_ret (results_told rfl _ _ w.heap.size noTld _ rfl rfl (P4.out.2.2.2.1.put noTld)) rfl ?_
      exact taker_no HRD2.out HVE.out P4.out.1 P4.out.2.1 P4.out.2.2.2.1 rfl HL.out.1 HL.out.2.1
    · rw [hv]
      have HVS2 := Lib.hid (HVS.out hv)
      clear hv HVS
      go_upto_region 5 with (fail)
      rw [HW4.out]
      clear q0 q1 qf HW4
      obtain ⟨v4, hc4, hO4⟩ := P4.out.2.2.1.row
      obtain ⟨a4, cap4, rfl⟩ := hO4.slice
      have cf1 : w4.frozen? ⟨c1, 0, none⟩ = false := by simp [World.frozen?, hc4]
      have cc1 : w4.cell? ⟨c1, 0, none⟩ = some (.slice a4 last.length cap4) := by simp [World.cell?, hc4]
      have hfl := P4.out.2.2.1.flag
      have cc2 : w4.cell? ⟨c2, 0, none⟩ = some (.bool first) := by simp [World.cell?, hfl]
      have HO4 := Lib.hid hO4
      have HC4 := Lib.hid hc4
      have g0 := P4.out.2.2.2.2.c0
      have g1 := P4.out.2.2.2.2.c1
      have g2 := P4.out.2.2.2.2.c2
      have g3 := P4.out.2.2.2.2.c3
      have HAB := Lib.hid (told_above k rest val last g _ w4 (Lib.hid hO4.by) hkl (by omega) (by omega) HSH)
      clear hO4 hc4 hfl HRD
      rcases hrd with ⟨hf, hlt, hrd⟩ | ⟨hnot, n, hrd, hdn⟩
      · subst hf
        rw [hlt] at HAB
        have HRD2 := Lib.hid hrd
        clear hlt hrd cf1
        go_wp2_with fail
        refine HAB.out.mono ?_
        rintro e w5 ⟨rfl, k5⟩
        have T5 := Lib.hid (P4.out.2.2.2.1.below k5)
        have P5 := Lib.hid (show Rt r (bs s2) w5 ∧ Tb B w w5 from ⟨(k5.block r P4.out.1.lt).trans P4.out.1, P4.out.2.1.trans (Tb.of_below k5 (by have := P4.out.1.lt; have := HL.out; omega))⟩)
        clear k5 cc1 cc2 g0 g1 g2 g3
        have q0 := T5.out.c0
        have q1 := T5.out.c1
        have q2 := T5.out.c2
        have q3 := T5.out.c3
        have qf := T5.out.free
        go_wp2_with fail
        refine bodyPost_ret (results_told rfl _ _ w.heap.size noTld _ rfl rfl (T5.out.put noTld)) rfl ?_
        exact taker_no HRD2.out (by decide) P5.out.1 P5.out.2 T5.out rfl HL.out.1 HL.out.2.1
      · have HN := Lib.hid hdn
        have HRD2 := Lib.hid hrd
        clear hdn hrd
        obtain ⟨i0, hi, hz0, hz1, hz2⟩ := info_parts info5
        obtain ⟨le1, le2, le3, le4⟩ := HO4.out.le
        have hsl := slice_to (P := Try.prog) (n := last.length) Try.underlying39 hi (show k ≤ cap4 by omega) le4 le3
        have HSL := Lib.hid hsl
        have HI := Lib.hid (And.intro hi (And.intro hz0 (And.intro hz1 hz2)))
        clear hsl hi hz0 hz1 hz2 cf1 le1 le2 le3 le4
        rcases Bool.eq_false_or_eq_true first with hfirst | hfirst
        rw [hfirst] at cc2
        clear hfirst HAB hnot
        go_wp2_with fail
        clear cc1 cc2 g0 g1 g2 g3
        rotate_left
        have hlt : ltB last (last.take k ++ rest) = true := by
          cases hq : ltB last (last.take k ++ rest) with
          | true => rfl
          | false => exact absurd ⟨hfirst, hq⟩ hnot
        rw [hfirst] at cc2
        rw [hlt] at HAB
        clear hfirst hnot hlt
        go_wp2_with fail
        refine HAB.out.mono ?_
        rintro e w5 ⟨rfl, k5⟩
        have P5 := Lib.hid (show Rt r (bs s2) w5 ∧ Tb B w w5 ∧ Ahd B c1 c2 first last w5 ∧ BxT w.heap.size noTld w5 ∧ BxT z1 ⟨k, rest, val, g⟩ w5 from
          ⟨(k5.block r P4.out.1.lt).trans P4.out.1, P4.out.2.1.trans (Tb.of_below k5 (by have := P4.out.1.lt; have := HL.out; omega)), P4.out.2.2.1.below k5, P4.out.2.2.2.1.below k5, P4.out.2.2.2.2.below k5⟩)
        have HC5 := Lib.hid ((k5.block c1 (heap_lt HC4.out)).trans HC4.out)
        have HO5 := Lib.hid (HO4.out.kept fun j hj => k5.block j (HO4.out.lt j hj).2)
        clear k5 cc1 cc2 g0 g1 g2 g3 P4 HC4 HO4 HAB
        have P4 := P5
        have HC4 := HC5
        have HO4 := HO5
        clear P5 HC5 HO5
        generalize w5 = w4 at *
        go_wp2_with fail
        all_goals
          have hsl := HSL.out
          obtain ⟨hi, hz0, hz1, hz2⟩ := HI.out
          have n1 : ∀ n : Seen w4, n.val.cell? ⟨c1, 0, none⟩ = some (.slice a4 last.length cap4) := fun n => by rw [n.below.cell (p := ⟨c1, 0, none⟩) (heap_lt HC4.out)]; simp [World.cell?, HC4.out]
          have n2 : ∀ n : Seen w4, n.val.cell? ⟨z1, 0, none⟩ = some (.int .i64 (k : Int)) := fun n => by rw [n.below.cell (p := ⟨z1, 0, none⟩) (heap_lt P4.out.2.2.2.2)]; exact P4.out.2.2.2.2.c0
          have n3 : ∀ n : Seen w4, n.val.cell? ⟨z1, 1, none⟩ = some (.string (bs rest)) := fun n => by rw [n.below.cell (p := ⟨z1, 1, none⟩) (heap_lt P4.out.2.2.2.2)]; exact P4.out.2.2.2.2.c1
          refine wp_region_seen_tail 6 (by kernel_rfl) (by kernel_rfl) ?_
          simp only [List.take_succ_cons, List.take_zero, List.drop_succ_cons, List.drop_zero]
          repeat go_big_quiet_step (fail)
          refine wpQuiet_nil ?_
          rintro _ ⟨m1, rfl⟩
          have P5 := Lib.hid (show Rt r (bs s2) m1.val ∧ Tb B w m1.val ∧ Ahd B c1 c2 first last m1.val ∧ BxT w.heap.size noTld m1.val ∧ BxT z1 ⟨k, rest, val, g⟩ m1.val from
            ⟨(m1.below.block r P4.out.1.lt).trans P4.out.1, P4.out.2.1.trans (Tb.of_below m1.below (by have := P4.out.1.lt; have := HL.out; omega)), P4.out.2.2.1.below m1.below, P4.out.2.2.2.1.below m1.below, P4.out.2.2.2.2.below m1.below⟩)
          have HC5 := Lib.hid ((m1.below.block c1 (heap_lt HC4.out)).trans HC4.out)
          have HO5 := Lib.hid ((HO4.out.kept fun j hj => m1.below.block j (HO4.out.lt j hj).2).take hkl)
          clear n1 n2 n3 P4 HC4 HO4 hsl
          generalize m1.val = w5 at *
          refine (wpList_append_offS rfl (.tmp 42) (.tmp 44) 39 9 rfl B 5 i0 _ 1 1 Try.underlying39 hi hz0 hz1 hz2 rfl (.slice a4 k cap4) k _ rfl HO5.out (.string (bs rest)) rfl (bs rest).size _ (Src.ofString _ Try.underlying9 (bs rest)) ?c3 ?c4 ?c5 ?_)
          case c3 => rw [bs_size]; unfold maxLen; omega
          case c4 => rw [bs_size]; omega
          case c5 => have := P5.out.1.lt; have := HL.out; omega
          intro v' w6 hr6 hg6 _
          have hkey : (last.take k ++ rest).length = k + (bs rest).size := by rw [List.length_append, List.length_take, bs_size]; omega
          have hmap : ((last.take k ++ rest).map fun b => Value.int .u8 b.toNat) = ((last.map fun b => Value.int .u8 b.toNat).take (k * 1)) ++ byteCells (bs rest) := by
            rw [List.map_append, Nat.mul_one, List.map_take]; rfl
          rw [← hkey, ← hmap] at hr6
          obtain ⟨key, hk0⟩ : ∃ key, key = last.take k ++ rest := ⟨_, rfl⟩
          rw [← hk0] at hr6
          have HA := Lib.hid (P5.out.2.2.1.next HC5.out HO5.out hg6 hr6)
          obtain ⟨nk, hnk⟩ : ∃ nk, nk = key.length := ⟨_, rfl⟩
          rw [← hnk] at hr6
          have gc1 := grown_other HO5.out hg6 HC5.out (by decide)
          have gc2 := grown_other HO5.out hg6 P5.out.2.2.1.flag (by decide)
          have n21 : c2 ≠ c1 := tag_ne gc2 gc1 (by decide)
          have e1 : w6.cell? ⟨c1, 0, none⟩ = some (.slice a4 last.length cap4) := by simp [World.cell?, gc1]
          have e1f : w6.frozen? ⟨c1, 0, none⟩ = false := by simp [World.frozen?, gc1]
          have gc3 : ∀ u, (w6.setCell ⟨c1, 0, none⟩ u).heap[c2]? = some (.cells #[.bool first] 4 (0, 0)) := fun u => (heap_set_other n21 u).trans gc2
          have e2 : ∀ u, (w6.setCell ⟨c1, 0, none⟩ u).cell? ⟨c2, 0, none⟩ = some (.bool first) := fun u => by simp [World.cell?, gc3 u]
          have e2f : ∀ u, (w6.setCell ⟨c1, 0, none⟩ u).frozen? ⟨c2, 0, none⟩ = false := fun u => by simp [World.frozen?, gc3 u]
          obtain ⟨a6, cap6, rfl⟩ := hr6.slice
          obtain ⟨w7, hw7⟩ : ∃ w7, (w6.setCell ⟨c1, 0, none⟩ (.slice a6 nk cap6)).setCell ⟨c2, 0, none⟩ (.bool false) = w7 := ⟨_, rfl⟩
          have P7 := Lib.hid (show Rt r (bs s2) w7 ∧ Tb B w w7 ∧ Ahd B c1 c2 false key w7 ∧ BxT w.heap.size noTld w7 ∧ BxT z1 ⟨k, rest, val, g⟩ w7 by
            have keep : ∀ (j : Nat) (cs : Array Value) (t : TypeId) (z : Nat × Nat), w5.heap[j]? = some (.cells cs t z) → t ≠ 5 → t ≠ 39 → t ≠ 4 → w7.heap[j]? = some (.cells cs t z) := fun j cs t z hj h1 h2 h3 => by
              have h6 := grown_other HO5.out hg6 hj h1
              rw [← hw7, heap_set_other (tag_ne h6 gc2 h3), heap_set_other (tag_ne h6 gc1 h2), h6]
            refine ⟨keep _ _ _ _ P5.out.1 (by decide) (by decide) (by decide), ?_, ?_, keep _ _ _ _ P5.out.2.2.2.1 (by decide) (by decide) (by decide), keep _ _ _ _ P5.out.2.2.2.2 (by decide) (by decide) (by decide)⟩
            · refine P5.out.2.1.trans ⟨?_, fun j cs z hj => keep _ _ _ _ hj (by decide) (by decide) (by decide)⟩
              rw [← hw7]
              exact (((Below.refl B w5).grown hg6 (by have := P5.out.1.lt; have := HL.out; omega) fun j hj => (HO5.out.lt j hj).1).setCell (p := ⟨c1, 0, none⟩) P5.out.2.2.1.b1 _).setCell (p := ⟨c2, 0, none⟩) P5.out.2.2.1.b2 _
            · rw [← hw7]; exact HA.out)
          have HW7 := Lib.hid hw7
          have HK0 := Lib.hid hk0
          clear HA hr6 hg6 hmap hkey hk0 hnk gc1 gc2 gc3 n21 hw7 P5 HC5 HO5
          go_upto_region 10 with (fail)
          rw [HW7.out]
          clear HW7 e1 e1f e2 e2f
          have q0 := P7.out.2.2.2.1.c0
          have q1 := P7.out.2.2.2.1.c1
          have q2 := P7.out.2.2.2.1.c2
          have q3 := P7.out.2.2.2.1.c3
          have qf := P7.out.2.2.2.1.free
          have g0 := P7.out.2.2.2.2.c0
          have g1 := P7.out.2.2.2.2.c1
          have g2 := P7.out.2.2.2.2.c2
          have g3 := P7.out.2.2.2.2.c3
          go_wp2_with fail
          refine bodyPost_ret (results_told rfl _ _ w.heap.size ⟨k, rest, val, g⟩ _ rfl rfl (P7.out.2.2.2.1.put ⟨k, rest, val, g⟩)) rfl ?_
          obtain ⟨hv1, hv2, hv3⟩ := HVS2.out
          have hx : rdE first last l = (0, ⟨key, val, g⟩, n) := by rw [HRD2.out, HK0.out, hv1, hv2]
          have hshx : sharedL last key = k := by rw [HK0.out]; exact HSH.out
          have hdrop : key.drop k = rest := by
            rw [HK0.out]
            have := List.drop_left (l₁ := last.take k) (l₂ := rest)
            rwa [List.length_take, Nat.min_eq_left hkl] at this
          have hne := HL.out
          refine ⟨⟨⟨k, rest, val, g⟩, s2, by rw [hx]; rfl, P7.out.1.put4 (by omega) _ _ _ _, fun _ => ?_⟩, P7.out.2.1.put4 HL.out.2.1 (Nat.le_refl _) _ _ _ _⟩
          rw [hx]
          refine ⟨by simp only [tldOf, hshx, hdrop], by simp only; rw [HN.out, hv3], ?_⟩
          exact P7.out.2.2.1.keep fun j cs ty z hj ht => by
            have hj2 := tag_ne hj P7.out.2.2.2.1 (by rcases ht with h | h | h <;> subst h <;> decide)
            rw [heap_set_other hj2, heap_set_other hj2, heap_set_other hj2, heap_set_other hj2, hj]
end Go.Proofs.Ytmmdhmhcfpghfaa
