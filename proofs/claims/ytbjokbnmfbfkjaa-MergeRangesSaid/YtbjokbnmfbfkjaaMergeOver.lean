/- The program's Over: a cursor over a list of entries. -/
import Derived.Test.YtbjokbnmfbfkjaaMergeMake
set_option linter.unusedVariables false
set_option maxRecDepth 100000
namespace Go.Proofs.Ytbjokbnmfbfkjaa
open Go.RowKit

theorem BxS.cell {c : Nat} {v : Value} {w : World} (h : BxS c v w) : w.cell? ⟨c, 0, none⟩ = some v := by unfold BxS at h; simp [World.cell?, h]
theorem BxS.free {c : Nat} {v : Value} {w : World} (h : BxS c v w) : w.frozen? ⟨c, 0, none⟩ = false := by unfold BxS at h; simp [World.frozen?, h]
theorem BxS.put {c : Nat} {v : Value} {w : World} (h : BxS c v w) (u : Value) : BxS c u (w.setCell ⟨c, 0, none⟩ u) := heap_set (o := 0) h _
theorem BxS.only {c : Nat} {v : Value} {w w' : World} {S : Nat → Prop} (h : BxS c v w) (k : Only S w w') (hS : ¬ S c) : BxS c v w' := (k.block c (heap_lt h) hS).trans h
theorem OwnE.only {w w' : World} {B : Nat} {v : Value} {R : List Ent} {S : Nat → Prop} (h : OwnE w B v R) (k : Only S w w') (hS : ∀ j, v.ownBlock = some j → ¬ S j) : OwnE w' B v R := OffRow.kept h fun j hj => k.block j (OffRow.lt h j hj).2 (hS j hj)
/-- What is known of a list of which R is left. -/
def ListI (p g B n : Nat) (R : List Ent) (e : Int) (w : World) : Prop :=
  e = 0 ∧ n ≤ w.heap.size ∧ ∃ v, BxS p v w ∧ OwnE w B v R ∧ ∀ j, v.ownBlock = some j → j = g ∧ j ≠ p
set_option maxHeartbeats 2000000 in
theorem over_next (p g B n : Nat) (hpn : p < n) (hgn : g < n) (R : List Ent) (e : Int) (w : World) (hI : Hid (ListI p g B n R e w)) :
    Calls Try.prog 26 #[.pointer (some ⟨p, 0, none⟩)] w fun en w' => Ans R e en ∧ (R ≠ [] → ListI p g B n R.tail e w') ∧ Only (fun k => k = p ∨ k = g) w w' := by
  obtain ⟨he, hn, v, hb, ho, hg⟩ := hI.out
  subst he
  obtain ⟨a, cap, rfl⟩ := ho.slice
  obtain ⟨w1, hw1⟩ : ∃ w1, w1 = w.alloc (.cells #[.string ⟨#[]⟩, .string ⟨#[]⟩, .bool false] 32) := ⟨_, rfl⟩
  have K1 := Lib.hid (show Below w.heap.size w w1 by rw [hw1]; exact (Below.refl _ _).alloc (Nat.le_refl _) _)
  have R1 := Lib.hid (show C3 w.heap.size 32 (.string ⟨#[]⟩) (.string ⟨#[]⟩) (.bool false) w1 by rw [hw1]; exact heap_new w _)
  have B1 := Lib.hid (show BxS p (.slice a R.length cap) w1 from hb.only (S := fun _ => False) (Only.of_below' K1.out rfl) fun h => h)
  have Q1 := Lib.hid (ho.below K1.out)
  have HG := Lib.hid hg
  have HN := Lib.hid hn
  have HW1 := Lib.hid hw1
  have x0 := B1.out.cell
  have d0 := R1.out.c0
  have d1 := R1.out.c1
  have d2 := R1.out.c2
  have df := R1.out.free
  clear hw1 hb ho hg hn
  cases R with
  | nil =>
    simp only [List.length_nil] at x0
    go_enter Try.func26, Try.ntmps26
    go_upto_region 1 with (fail)
    rw [← HW1.out]
    go_wp2_with fail
    refine bodyPost_ret (results_c3b rfl _ _ w.heap.size _ _ _ _ _ _ rfl rfl rfl (R1.out.put _ _ _) Try.underlying32 rfl sizeEnt) rfl ?_
    exact ⟨Ans.ends 0, fun h => absurd rfl h, only_put3 (Only.of_below' K1.out rfl) (Nat.le_refl _) _ _ _⟩
  | cons x t =>
    obtain ⟨b, off, rfl, _, hc⟩ := Q1.out.ent (k := 0) (x := x) rfl
    obtain ⟨i0, hi, hz0, hz1, hz2⟩ := info_parts infoE
    obtain ⟨a2, hsl, hO2, hB2⟩ := slice_off Try.underlying22 hi hz1 Q1.out (g := 1) (by simp)
    obtain ⟨m, hm⟩ : ∃ m, (x :: t).length = m := ⟨_, rfl⟩
    rw [hm] at x0 B1 Q1 hsl hO2 hB2
    have hmp : 0 < m := by rw [← hm]; simp
    have hm1 : m - 1 = t.length := by rw [← hm]; simp
    rw [hm1] at hsl hO2 hB2
    have hmz : ((m : Int) == 0) = false := by simp; omega
    have HO2 := Lib.hid (show OwnE w1 B (.slice a2 t.length (cap - 1)) t by
      have h := hO2
      rw [show (ecells (x :: t)).drop (1 * 3) = ecells t from rfl] at h
      exact h)
    have HB2 := Lib.hid hB2
    have HSL := Lib.hid hsl
    rw [Nat.zero_mul, Nat.add_zero] at hc
    have c0 := hc.c0
    have c1 := hc.c1
    have c2 := hc.c2
    have HC := Lib.hid hc
    have hsl1 : ∀ W, (Instr.slice 22 (.slice (some ⟨b, off, none⟩) m cap) (some (.int .i64 1)) none none).run Try.prog W = .ok (.slice a2 t.length (cap - 1)) W := hsl
    clear hc hsl hO2 hB2 hm hm1 hi hz0 hz1 hz2
    go_enter Try.func26, Try.ntmps26
    go_upto_region 1 with (fail)
    rw [← HW1.out]
    obtain ⟨w3, hw3⟩ : ∃ w3, w3 = w1.alloc (.cells #[.string (bs x.key), .string (bs x.val), .bool x.gone] 32) := ⟨_, rfl⟩
    have K3 := Lib.hid (show Below w1.heap.size w1 w3 by rw [hw3]; exact (Below.refl _ _).alloc (Nat.le_refl _) _)
    have X3 := Lib.hid (show C3 w1.heap.size 32 (.string (bs x.key)) (.string (bs x.val)) (.bool x.gone) w3 by rw [hw3]; exact heap_new w1 _)
    have R3 := Lib.hid (R1.out.below K3.out)
    have B3 := Lib.hid (B1.out.only (S := fun _ => False) (Only.of_below' K3.out rfl) fun h => h)
    have O3 := Lib.hid (HO2.out.below K3.out)
    have HW3 := Lib.hid hw3
    clear hw3
    go_upto_region 4 with (fail)
    rw [← HW3.out]
    obtain ⟨w4, hw4⟩ : ∃ w4, w4 = w3.setCell ⟨p, 0, none⟩ (.slice a2 t.length (cap - 1)) := ⟨_, rfl⟩
    have o4 := Lib.hid (show Only (fun k => k = p) w3 w4 by rw [hw4]; exact (Only.refl (fun k => k = p) w3).setCell (p := ⟨p, 0, none⟩) (.inl rfl) _)
    have B4 := Lib.hid (show BxS p (.slice a2 t.length (cap - 1)) w4 by rw [hw4]; exact B3.out.put _)
    have hpz := Lib.hid (show p < w.heap.size by have := HN.out; omega)
    have hz1 := Lib.hid (heap_lt R1.out)
    have X4 := Lib.hid (X3.out.only o4.out (by have := hpz.out; have := hz1.out; omega))
    have R4 := Lib.hid (R3.out.only o4.out (by have := hpz.out; omega))
    have O4 := Lib.hid (O3.out.only o4.out fun j hj h => by
      have := HG.out j (HB2.out j hj)
      omega)
    have y0 := B3.out.cell
    have yf := B3.out.free
    have HW4 := Lib.hid hw4
    clear hw4
    go_upto_region 5 with (fail)
    rw [← HW4.out]
    clear x0 c0 c1 c2 y0 yf d0 d1 d2 df hsl1
    have x0 := X4.out.c0
    have x1 := X4.out.c1
    have x2 := X4.out.c2
    have d0 := R4.out.c0
    have d1 := R4.out.c1
    have d2 := R4.out.c2
    have df := R4.out.free
    go_wp2_with fail
    refine bodyPost_ret (results_c3b rfl _ _ w.heap.size _ _ _ _ _ _ rfl rfl rfl (R4.out.put _ _ _) Try.underlying32 rfl sizeEnt) rfl ?_
    have o5 := put3_only w4 w.heap.size (.string (bs x.key)) (.string (bs x.val)) (.bool x.gone)
    have o : Only (fun k => k = p ∨ k = g) w w4 := ((Only.of_below' K1.out rfl).trans (Only.of_below' K3.out rfl)).trans (o4.out.mono fun _ _ h => .inl h)
    refine ⟨Ans.next x t 0, fun _ => ⟨rfl, Nat.le_trans HN.out (Nat.le_trans o.size o5.size), _, B4.out.only o5 (by have := hpz.out; omega), O4.out.only o5 fun j hj h => ?_, fun j hj => HG.out j (HB2.out j hj)⟩, only_put3 o (Nat.le_refl _) _ _ _⟩
    have := HG.out j (HB2.out j hj)
    have := HN.out
    omega
/-- A list is such a function. -/
theorem raw_list {p g B n : Nat} (hpn : p < n) (hgn : g < n) : Raw 26 #[] #[.pointer (some ⟨p, 0, none⟩)] n (fun k => k = p ∨ k = g) (ListI p g B n) where
  enter := fun args w => by kernel_rfl
  low := fun k h => by rcases h with rfl | rfl <;> assumption
  size := fun R e w h => h.2.1
  keep := fun R e w w' ⟨h0, h1, v, h2, h3, h4⟩ hs k => ⟨h0, Nat.le_trans h1 hs, v, (k p (.inl rfl)).trans h2, OffRow.kept h3 fun j hj => k j (.inr (h4 j hj).1), h4⟩
  next := fun R e w h => over_next p g B n hpn hgn R e w (Lib.hid h)
set_option maxHeartbeats 1000000 in
theorem over_run (a : Option Addr) (n c : Nat) (T : List Ent) (w : World) (h : Hid (IsE w a n T)) (hn : n ≤ 1000000) :
    Calls Try.prog 11 #[.slice a n c] w (GotC w (fun _ => False) (toldP 0 none T).1 (toldP 0 none T).2) := by
  go_enter Try.func11, Try.ntmps11
  go_wp2_with fail
  refine (clone_ents a n c T w h hn).mono ?_
  rintro en w1 ⟨⟨v, rfl, hO⟩, k1⟩
  obtain ⟨a1, cap1, rfl⟩ := hO.slice
  obtain ⟨w2, hw2⟩ : ∃ w2, w2 = w1.alloc (.cells #[.slice a1 T.length cap1] 22) := ⟨_, rfl⟩
  have K2 := Lib.hid (show Below w1.heap.size w1 w2 by rw [hw2]; exact (Below.refl _ _).alloc (Nat.le_refl _) _)
  have B2 := Lib.hid (show BxS w1.heap.size (.slice a1 T.length cap1) w2 by rw [hw2]; exact heap_new w1 _)
  have hs2 : w2.heap.size = w1.heap.size + 1 := by rw [hw2]; simp
  have O2 := Lib.hid (hO.below K2.out)
  have hlt := Lib.hid (OffRow.lt hO)
  have K1 := Lib.hid k1
  have HW2 := Lib.hid hw2
  have HS2 := Lib.hid hs2
  obtain ⟨g, hg⟩ : ∃ g, g = match (Value.slice a1 T.length cap1).ownBlock with | none => w1.heap.size | some j => j := ⟨_, rfl⟩
  have HG := Lib.hid (show (∀ j, (Value.slice a1 T.length cap1).ownBlock = some j → j = g ∧ j ≠ w1.heap.size) ∧ w.heap.size ≤ g ∧ g < w1.heap.size + 1 by
    have hk := k1.size
    rw [hg]
    cases h : (Value.slice a1 T.length cap1).ownBlock with
    | none => exact ⟨fun j hj => (by cases hj), hk, Nat.lt_succ_self _⟩
    | some j =>
      have := hlt.out j h
      exact ⟨fun i hi => by injection hi with hi; exact ⟨hi.symm, by omega⟩, this.1, by have := this.2; simp; omega⟩)
  have HF := Lib.hid (merge_From (raw_list (p := w1.heap.size) (g := g) (B := w.heap.size) (n := w1.heap.size + 1) (by omega) HG.out.2.2) (R := T) (e := 0) (w := w2) ⟨rfl, by rw [hs2]; exact Nat.le_refl _, _, B2.out, O2.out, HG.out.1⟩)
  clear hO k1 hw2 hs2 hg
  go_upto_region 2 with (fail)
  rw [← HW2.out]
  go_wp2_with fail
  refine HF.out.mono ?_
  rintro en w3 ⟨c, hC⟩
  obtain ⟨a3, ha3⟩ := hC.ptr
  obtain ⟨e1, -, e3, e4, e5⟩ := hC
  rw [ha3] at e1
  subst e1
  have HC := Lib.hid (And.intro e3 (And.intro e4 e5))
  clear e3 e4 e5
  go_wp2_with fail
  go_ret
  refine ⟨c, by rw [ha3]; rfl, ⟨a3, ha3⟩, HC.out.1, fun k hk => .inr ?_, K1.out.trans ((K2.out.trans (HC.out.2.2.mono K2.out.size)).mono K1.out.size)⟩
  rcases HC.out.2.1 k hk with (rfl | rfl) | h
  · exact K1.out.size
  · exact HG.out.2.1
  · have := K1.out.size; have := HS2.out; omega
end Go.Proofs.Ytbjokbnmfbfkjaa
