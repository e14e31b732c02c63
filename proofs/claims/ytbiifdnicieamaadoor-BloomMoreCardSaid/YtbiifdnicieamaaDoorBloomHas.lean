/- Has: whether all bits of a key are 1. -/
import Derived.Test.YtbiifdnicieamaaDoorBloomBits
set_option linter.unusedVariables false
set_option maxRecDepth 100000
namespace Go.Proofs.YtbiifdnicieamaaDoor
open Go.RowKit Go.Shelf
attribute [local go_sem] Oper.semAt_some

/-- THE ITERATOR'S CONTRACT. -/
theorem bits_stops (n kb fb b g h m cap X N : Nat) (hN : 0 < N) (key : List UInt8) (w : World) (hNm : Hid (N = m * 8))
    (ck : w.cell? ⟨kb, 0, none⟩ = some (.string (bs key))) (cf : Hid (w.cell? ⟨fb, 0, none⟩ = some (.pointer (some ⟨b, 0, none⟩)))) (c0 : Hid (w.cell? ⟨b, 0, none⟩ = some (.int .i64 (h : Int)))) (c1 : Hid (w.cell? ⟨b, 1, none⟩ = some (.slice (some ⟨g, 0, none⟩) m cap)))
    (hg : Hid (Glob w)) (hX : Hid (fb ≠ X ∧ b ≠ X ∧ X < w.heap.size)) (hk : Hid (key.length ≤ 900000)) (hh : h ≤ 8) (hm : m ≤ 100000000) :
    SeqStopsK Fence.wide n Tryd.prog 36 #[.pointer (some ⟨kb, 0, none⟩), .pointer (some ⟨fb, 0, none⟩)] (fun x : Num N => #[Value.int .i64 (x.1 : Int)]) (KeepsCells X) (fun xs => xs = nosF h N hN key) (fun pre => ∃ k, k ≤ h ∧ pre = nosF k N hN key) h w := fun l J Jx W hW hJ hJx hY h0 =>
  callsIn_wide.2 (bits_in n l kb fb b g h m cap X N hN key J Jx W hNm (Lib.hid hJ) (Lib.hid hY) (by rw [hW.cell (cell_block ck)]; exact ck) (Lib.hid (by rw [hW.cell (cell_block cf.out)]; exact cf.out)) (Lib.hid (by rw [hW.cell (cell_block c0.out)]; exact c0.out)) (Lib.hid (by rw [hW.cell (cell_block c1.out)]; exact c1.out))
    (Lib.hid (hg.out.keep hW hg.out.1)) (Lib.hid ⟨hX.out.1, hX.out.2.1, Nat.lt_of_lt_of_le hX.out.2.2 hW.size⟩) hk hh hm (Lib.hid h0))

theorem has_pre (h N : Nat) (hN : 0 < N) (f : Nat → Bool) (k : List UInt8) : hasB h N f k = (nosF h N hN k).all fun x => f x.1 := by
  unfold hasB
  rw [← nosF_val h N hN k, List.all_map]
  rfl

theorem and_bit (c r : Nat) (hc : c < 256) : bits .and .u8 ((c : Int) / 2 ^ r) 1 = ((c / 2 ^ r % 2 : Nat) : Int) := by
  have h1 : c / 2 ^ r < 256 := Nat.lt_of_le_of_lt (Nat.div_le_self _ _) hc
  have h2 : (c : Int) / 2 ^ r = ((c / 2 ^ r : Nat) : Int) := by rw [Int.natCast_ediv, Int.natCast_pow]; rfl
  rw [h2, show (1 : Int) = ((1 : Nat) : Int) from rfl, u8_and_nat _ _ h1 (by omega), Nat.and_one_is_mod]
theorem flt_has_nil (s : ByteArray) (w : World) : Calls Tryd.prog 15 #[.pointer none, .string s] w fun e w' => e = .returned (.bool false) ∧ Below w.heap.size w w' := by
  refine (callsIn_wide (n := 5)).1 ?_
  refine callsIn_of_wp_marks Tryd.func15 rfl trivial ?_ rfl
  simp only [Tryd.ntmps15, List.size_toArray, List.length_cons, List.length_nil, Nat.reduceAdd, Nat.reduceSub, Array.replicate_succ, Array.replicate_zero, List.push_toArray, List.append_toArray, List.nil_append, List.cons_append]
  gi_wp2
  have hb : Below w.heap.size w ((w.alloc (.cells #[.pointer none] 25)).alloc (.cells #[.bool false] 4)) := ((Below.refl _ w).alloc (Nat.le_refl _) _).alloc (by simp) _
  have hc := box_new (w.alloc (.cells #[.pointer none] 25)) (.bool false) 4
  simp only [World.size_alloc] at hc
  refine ⟨.bool false, ?_, rfl, hb⟩
  simp [results, Tryd.f15, go_sem, hc]

set_option maxHeartbeats 2000000 in
theorem flt_has (b g h m N : Nat) (L key : List UInt8) (w : World) (hf : Hid (Flt b g h L w)) (hg : Hid (Glob w)) (hml : Hid (m = L.length)) (hm : m ≤ 100000000) (hNm : Hid (N = m * 8)) (hN : 0 < N) (hh : h ≤ 8) (hk : Hid (key.length ≤ 900000)) :
    Calls Tryd.prog 15 #[.pointer (some ⟨b, 0, none⟩), .string (bs key)] w fun e w' => e = .returned (.bool (hasB h N (bitAt L) key)) ∧ Below w.heap.size w w' := by
  obtain ⟨cap, hc1⟩ := hf.out.c1
  rw [← hml.out] at hc1
  obtain ⟨Z, hZ⟩ : ∃ Z, Z = w.heap.size := ⟨_, rfl⟩
  obtain ⟨w2, hw2⟩ : ∃ w2, w2 = (((w.alloc (.cells #[.pointer (some ⟨b, 0, none⟩)] 25)).alloc (.cells #[.bool false] 4)).alloc (.cells #[.pointer (some ⟨b, 0, none⟩)] 25)).alloc (.cells #[.string (bs key)] 9) := ⟨_, rfl⟩
  have B2 := Lib.hid (show Below w.heap.size w w2 by rw [hw2]; exact ((((Below.refl _ w).alloc (Nat.le_refl _) _).alloc (by simp) _).alloc (by simp; omega) _).alloc (by simp; omega) _)
  have S2 := Lib.hid (show w2.heap.size = Z + 1 + 1 + 1 + 1 by rw [hw2, hZ]; simp)
  have d0 := box_new w (.pointer (some ⟨b, 0, none⟩)) 25
  have d1 := box_new (w.alloc (.cells #[.pointer (some ⟨b, 0, none⟩)] 25)) (.bool false) 4
  have d1f := box_free (w.alloc (.cells #[.pointer (some ⟨b, 0, none⟩)] 25)) (.bool false) 4
  have d2 := box_new ((w.alloc (.cells #[.pointer (some ⟨b, 0, none⟩)] 25)).alloc (.cells #[.bool false] 4)) (.pointer (some ⟨b, 0, none⟩)) 25
  have d3 := box_new (((w.alloc (.cells #[.pointer (some ⟨b, 0, none⟩)] 25)).alloc (.cells #[.bool false] 4)).alloc (.cells #[.pointer (some ⟨b, 0, none⟩)] 25)) (.string (bs key)) 9
  simp only [World.size_alloc, ← hZ] at d0 d1 d1f d2 d3
  have e0 := Lib.hid (show w2.cell? ⟨Z, 0, none⟩ = some (.pointer (some ⟨b, 0, none⟩)) by rw [hw2]; exact cell_on _ (cell_on _ (cell_on _ d0)))
  have e1 := Lib.hid (show w2.cell? ⟨Z + 1, 0, none⟩ = some (.bool false) ∧ w2.frozen? ⟨Z + 1, 0, none⟩ = false by rw [hw2]; exact ⟨cell_on _ (cell_on _ d1), free_on _ (cell_on _ d1) (free_on _ d1 d1f)⟩)
  have e2 := Lib.hid (show w2.cell? ⟨Z + 1 + 1, 0, none⟩ = some (.pointer (some ⟨b, 0, none⟩)) by rw [hw2]; exact cell_on _ d2)
  have e3 := Lib.hid (show w2.cell? ⟨Z + 1 + 1 + 1, 0, none⟩ = some (.string (bs key)) by rw [hw2]; exact d3)
  have F2 := Lib.hid (hf.out.below B2.out)
  have hlt := Lib.hid (show b < Z ∧ g < Z by rw [hZ]; exact ⟨hf.out.lt, hf.out.row.1⟩)
  have G2 := Lib.hid (hg.out.keep B2.out hg.out.1)
  have C1 := Lib.hid (show w2.cell? ⟨b, 1, none⟩ = some (.slice (some ⟨g, 0, none⟩) m cap) by rw [B2.out.cell hf.out.lt]; exact hc1)
  have Hw2 := Lib.hid hw2
  have HZ := Lib.hid hZ
  clear d0 d1 d1f d2 d3 hw2 hc1 hZ
  refine (callsIn_wide (n := 5)).1 ?_
  refine callsIn_of_wp_marks Tryd.func15 rfl trivial ?_ rfl
  simp only [Tryd.ntmps15, List.size_toArray, List.length_cons, List.length_nil, Nat.reduceAdd, Nat.reduceSub, Array.replicate_succ, Array.replicate_zero, List.push_toArray, List.append_toArray, List.nil_append, List.cons_append]
  gi_wp2_with (refine ⟨trivial, ?_⟩; gi_at_call 19; refine (callsIn_wide.2 (flt_bitsOf b (bs key) _)).mono ?_; rintro e w' ⟨rfl, rfl⟩)
  rw [← Hw2.out, ← HZ.out]
  have hX := Lib.hid (show Z + 1 + 1 ≠ Z + 1 ∧ b ≠ Z + 1 ∧ Z + 1 < w2.heap.size from ⟨by omega, by have := hlt.out; omega, by rw [S2.out]; omega⟩)
  refine wpIn_rangeFunc_ownF (α := Num N) rfl (by omega) (gf := 36) (lb := #[.pointer (some ⟨Z + 1 + 1 + 1, 0, none⟩), .pointer (some ⟨Z + 1 + 1, 0, none⟩)]) rfl trivial (enters_of Tryd.func36 (by kernel_rfl) rfl)
    (bits_stops _ (Z + 1 + 1 + 1) (Z + 1 + 1) b g h m cap (Z + 1) N hN key w2 hNm e3.out e2 (Lib.hid F2.out.c0) C1 G2 hX hk hh hm) KeepsCells.trans (fun W l o o' _ h1 h2 _ => KeepsCells.putObj W l o o' h1 h2) (Below.refl _ _) (fun _ => rfl)
    (fun pre W => (((∀ y ∈ pre, bitAt L y.1 = true) ∧ W.cell? ⟨Z + 1, 0, none⟩ = some (.bool false) ∧ W.frozen? ⟨Z + 1, 0, none⟩ = false) ∧ KeepsCells (Z + 1) w2 W) ∧ Below Z w W)
    (fun c pre W => (c = .ret ∧ (∃ y ∈ pre, bitAt L y.1 = false) ∧ W.cell? ⟨Z + 1, 0, none⟩ = some (.bool false)) ∧ Below Z w W)
    (OwnFrom.and (OwnFrom.and (Own.from (fun s A B row hs hg hr => ⟨hs.1, cell_kept hs.2.1 hg hr, (frozen_kept hs.2.1 hg hr).trans hs.2.2⟩) _) (keeps_own _ _ _)) (ownFrom_below (by rw [HZ.out]; exact Nat.le_refl _) (by rw [S2.out]; omega)))
    (fun c => OwnFrom.and (Own.from (fun s A B row hs hg hr => ⟨hs.1, hs.2.1, cell_kept hs.2.2 hg hr⟩) _) (ownFrom_below (by rw [HZ.out]; exact Nat.le_refl _) (by rw [S2.out]; omega)))
    ⟨⟨⟨by simp, e1.out⟩, KeepsCells.refl _ _⟩, by rw [HZ.out]; exact B2.out⟩
    (fun x => { tmps := #[.pointer (some ⟨b, 0, none⟩), .string (bs key), .pointer (some ⟨Z, 0, none⟩), undef, .pointer (some ⟨Z + 1, 0, none⟩), .int .i64 (x.1 : Int), .pointer (some ⟨b, 0, none⟩), .bool false, .pointer (some ⟨b, 0, none⟩), .string (bs key), .func (.func 36) #[] #[.pointer (some ⟨Z + 1 + 1 + 1, 0, none⟩), .pointer (some ⟨Z + 1 + 1, 0, none⟩)], .int .i64 (x.1 : Int), undef, undef, undef, undef, undef, undef, undef, undef, undef, undef, undef, undef, undef], defers := [] }) ?assign ?body ?done ?stop
  case assign =>
    intro l x W K hK
    gi_wp2
    exact hK
  case body =>
    rintro l pre x W ⟨⟨⟨hp, hcx, hfx⟩, hKC⟩, hB⟩ _
    obtain ⟨q, hq⟩ : ∃ q, q = x.1 / 8 := ⟨_, rfl⟩
    obtain ⟨r, hr⟩ : ∃ r, r = x.1 % 8 := ⟨_, rfl⟩
    obtain ⟨c, hc⟩ : ∃ c, c = byteAt L q := ⟨_, rfl⟩
    have hqm : q < m := by have := x.2; have := hNm.out; omega
    have hr8 : r < 8 := by omega
    have hc256 : c < 256 := by rw [hc]; exact byteAt_lt _ _
    have hquo : ((x.1 : Nat) : Int).tdiv 8 = (q : Int) := by rw [Int.tdiv_eq_ediv_of_nonneg (by omega)]; omega
    have hrem : ((x.1 : Nat) : Int).tmod 8 = (r : Int) := by rw [Int.tmod_eq_emod_of_nonneg (by omega)]; omega
    have cZ : W.cell? ⟨Z, 0, none⟩ = some (.pointer (some ⟨b, 0, none⟩)) := hKC.cell (by omega) e0.out
    have cL : W.cell? ⟨b, 1, none⟩ = some (.slice (some ⟨g, 0, none⟩) m cap) := hKC.cell hX.out.2.1 C1.out
    have cQ : W.cell? ⟨g, q, none⟩ = some (.int .u8 (c : Int)) := by rw [hc]; exact hKC.cell (by have := hlt.out; omega) (F2.out.row.2 q (by rw [← hml.out]; exact hqm)).1
    have HB := Lib.hid (show bitAt L x.1 = (c / 2 ^ r % 2 == 1) by unfold bitAt; rw [← hq, ← hr, ← hc])
    clear hq hr hc
    gi_wp2
    · rename_i hx
      have hx' : bitAt L x.1 = false := by
        rw [HB.out]
        rw [and_bit c r hc256] at hx
        generalize c / 2 ^ r % 2 = z at *
        rcases Nat.eq_zero_or_pos z with rfl | hz
        · rfl
        · exfalso; simp at hx; omega
      exact ⟨KeepsOthers.setCell _ _ _, ⟨rfl, ⟨x, by simp, hx'⟩, World.cell?_setCell_same' _ _ _ (by rw [hcx]; rfl)⟩, hB.setCell (p := ⟨Z + 1, 0, none⟩) (by simp) _⟩
    · rename_i hx
      have hx' : bitAt L x.1 = true := by
        rw [HB.out]
        rw [and_bit c r hc256] at hx
        have hz : c / 2 ^ r % 2 < 2 := Nat.mod_lt _ (by decide)
        generalize c / 2 ^ r % 2 = z at *
        have : z = 1 := by
          rcases Nat.eq_zero_or_pos z with rfl | hz
          · exfalso; simp at hx
          · omega
        rw [this]; rfl
      exact ⟨KeepsOthers.refl _, KeepsCells.refl _ _, ⟨⟨fun y hy => by rcases List.mem_append.1 hy with h | h; (exact hp y h); (obtain rfl := List.mem_singleton.1 h; exact hx'), hcx, hfx⟩, hKC⟩, hB⟩
  case done =>
    rintro D ys W hD rfl ⟨⟨⟨hall, hcx, hfx⟩, hKC⟩, hB⟩ hK
    have hres : hasB h N (bitAt L) key = true := by rw [has_pre h N hN]; exact List.all_eq_true.2 hall
    gi_wp2
    have hK' := (KeepsOthers.setCell W ⟨Z + 1, 0, none⟩ (.bool true)).same D _ hK rfl
    refine ⟨by simp, .inl ⟨_, _, rfl, run_takeDeferred hK', ?_⟩⟩
    have hc5 := cell_kept (World.cell?_setCell_same' W ⟨Z + 1, 0, none⟩ (.bool true) (by rw [hcx]; rfl)) (grownBy_putObj' _ D (.deferred none)) (fun r e => by cases e; exact ⟨_, hK', rfl⟩)
    refine ⟨.bool true, ?_, by rw [hres], (by rw [← HZ.out]; exact (hB.setCell (p := ⟨Z + 1, 0, none⟩) (by simp) _).trans (belowK_b (w := w2) (by rw [S2.out]; omega) _ D _ _ hD hK' rfl rfl))⟩
    simp [results, Tryd.f15, go_sem, hc5]
  case stop =>
    rintro D c pre W hD ⟨k, hkh, rfl⟩ ⟨⟨rfl, ⟨y, hy, hyf⟩, hcx⟩, hB⟩ hK
    have hres : hasB h N (bitAt L) key = false := by
      rw [has_pre h N hN, List.all_eq_false]
      refine ⟨y, ?_, by simp [hyf]⟩
      simp only [nosF, List.mem_map, List.mem_range] at hy ⊢
      obtain ⟨i, hi, e⟩ := hy
      exact ⟨i, by omega, e⟩
    gi_wp2
    refine ⟨by simp, .inl ⟨_, _, rfl, run_takeDeferred hK, ?_⟩⟩
    have hc5 := cell_kept hcx (grownBy_putObj' _ D (.deferred none)) (fun r e => by cases e; exact ⟨_, hK, rfl⟩)
    refine ⟨.bool false, ?_, by rw [hres], (by rw [← HZ.out]; exact hB.trans (belowK_b (w := w2) (by rw [S2.out]; omega) W D _ _ hD hK rfl rfl))⟩
    simp [results, Tryd.f15, go_sem, hc5]
end Go.Proofs.YtbiifdnicieamaaDoor
