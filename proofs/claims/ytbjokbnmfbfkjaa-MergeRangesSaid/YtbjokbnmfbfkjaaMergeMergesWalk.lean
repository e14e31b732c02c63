/- The law that rows are merged as the document says: the walk. -/
import Derived.Test.YtbjokbnmfbfkjaaMergeRefMerge
set_option linter.unusedVariables false
set_option maxRecDepth 100000
namespace Go.Proofs.Ytbjokbnmfbfkjaa
open Go.RowKit

theorem OffRow.set1 {w : World} {B : Nat} {e : TypeId} {g off n m cap : Nat} {xs : List Value} (h : OffRow w B e 1 (.slice (some ⟨g, off, none⟩) n cap) m xs) {k : Nat} (hk : k < m) (u : Value) :
    OffRow (w.setCell ⟨g, off + k, none⟩ u) B e 1 (.slice (some ⟨g, off, none⟩) n cap) m (xs.set k u) := by
  rcases h.2 with ⟨h0, _⟩ | ⟨g2, off2, cap2, cur2, h0, hB2, hg2, h1, h2, h3, h4⟩
  · cases h0
  · injection h0 with e2 e3 e4
    injection e2 with e2
    injection e2 with e2 e5
    subst e2 e4 e5
    have s1 := heap_set (o := off + k) hg2 u
    refine ⟨by rw [List.length_set]; exact h.1, .inr ⟨g, off, cap, _, by rw [e3], hB2, s1, h1, h2, by simp only [Array.size_setIfInBounds]; exact h3, fun j hj => ?_⟩⟩
    have hl := h.1
    simp only [Array.getElem?_setIfInBounds]
    by_cases hjk : j = k
    · subst hjk
      rw [if_pos rfl, if_pos (by omega), List.getElem?_set_self (by omega)]
    · rw [if_neg (by omega), h4 j hj, List.getElem?_set_ne (Ne.symm hjk)]
theorem OffRow.at1 {w : World} {B : Nat} {e : TypeId} {a : Option Addr} {n m cap : Nat} {xs : List Value} (h : OffRow w B e 1 (.slice a n cap) m xs) {k : Nat} (hk : k < m) :
    ∃ g off x, a = some ⟨g, off, none⟩ ∧ w.cell? ⟨g, off + k, none⟩ = some x ∧ ∀ j, w.frozen? ⟨g, j, none⟩ = false := by
  obtain ⟨g, off, cp, cur, e1, hB, hg, hc⟩ := OffRow.form h (by omega)
  injection e1 with e1 _ _
  have := hc k (by omega)
  rw [List.getElem?_eq_getElem (by rw [h.1]; omega)] at this
  exact ⟨g, off, _, e1, this, fun j => by simp [World.frozen?, hg]⟩
theorem IsRows.new {w0 w w' : World} {a : Option Addr} {n : Nat} {Rs : List Rw} {F : Nat → Prop} (h : IsRows w a n Rs) (h0 : IsRows w0 a n Rs) (k : Only F w w') (hF : ∀ j, F j → w0.heap.size ≤ j) : IsRows w' a n Rs := by
  obtain ⟨h1, ⟨b, off, h2, h3⟩, h4⟩ := h
  obtain ⟨g1, ⟨b', off', g2, g3⟩, g4⟩ := h0
  refine ⟨h1, ⟨b, off, h2, fun i r hr => ?_⟩, fun r hr => ⟨(h4 r hr).1.only k (NotIn.new (g4 r hr).1 hF), (h4 r hr).2⟩⟩
  obtain ⟨x, y, z⟩ := h3 i r hr
  obtain ⟨x', _, _⟩ := g3 i r hr
  have hn : 0 < n := by have := (List.getElem?_eq_some_iff.1 hr).1; omega
  have e1 := h2.resolve_left (by omega)
  rw [g2.resolve_left (by omega)] at e1
  injection e1 with e1
  injection e1 with e1 _
  subst e1
  have hb := k.block _ x fun h => by have := hF _ h; omega
  exact ⟨Nat.lt_of_lt_of_le x k.size, cell_same y hb, cell_same z hb⟩
theorem mergeN_len : ∀ (n : Nat) (ps : List (List Ent × Int)), (mergeN n ps).1.length ≤ n
  | 0, ps => Nat.le_refl _
  | n + 1, ps => by
    unfold mergeN
    split
    · exact Nat.zero_le _
    · rename_i x e h
      have := mergeN_len n (passP x.key ps)
      simp only [List.length_cons]
      omega
theorem mergeP_len (ps : List (List Ent × Int)) : (mergeP ps).1.length ≤ total ps := mergeN_len _ _
/-- What stays: the rows, the box of the document's answer, its list. -/
structure MSt (a : Option Addr) (n : Nat) (Rs : List Rw) (z3 : Nat) (e3 : Int) (l3 : Lst) (w : World) : Prop where
  rows : IsRows w a n Rs
  r3 : BxR z3 (.slice l3.a l3.n l3.cap) e3 w
  i3 : IsE w l3.a l3.n l3.T
theorem MSt.new {a : Option Addr} {n : Nat} {Rs : List Rw} {z3 : Nat} {e3 : Int} {l3 : Lst} {w0 w w' : World} {F : Nat → Prop} (h : MSt a n Rs z3 e3 l3 w) (h0 : MSt a n Rs z3 e3 l3 w0) (k : Only F w w') (hF : ∀ j, F j → w0.heap.size ≤ j) : MSt a n Rs z3 e3 l3 w' :=
  ⟨h.rows.new h0.rows k hF, h.r3.only k fun hh => by (have := hF _ hh; have := heap_lt h0.r3; omega), h.i3.only k (NotIn.new h0.i3 hF)⟩
theorem MSt.below {a : Option Addr} {n : Nat} {Rs : List Rw} {z3 : Nat} {e3 : Int} {l3 : Lst} {w w' : World} (h : MSt a n Rs z3 e3 l3 w) (k : Below w.heap.size w w') : MSt a n Rs z3 e3 l3 w' := h.new h (F := fun _ => False) (Only.of_below' k rfl) fun _ h => h.elim
theorem MSt.pos {a : Option Addr} {n : Nat} {Rs : List Rw} {z3 : Nat} {e3 : Int} {l3 : Lst} {w : World} (h : MSt a n Rs z3 e3 l3 w) : 0 < w.heap.size := by have := heap_lt h.r3; omega
theorem CursAt.low {B : Nat} {v : Value} {cs : List Cu} {ss : List (List Ent × Int)} {w : World} (h : CursAt B v cs ss w) : ∀ j, FAll cs j → B ≤ j := h.2.1.low
/-- Cursors, merged. -/
theorem merge_of {B : Nat} {v : Value} {cs : List Cu} {ss : List (List Ent × Int)} {w : World} (h : CursAt B v cs ss w) (hn : cs.length ≤ 100000) (hz : 0 < w.heap.size) :
    Calls Try.prog 18 #[v] w fun en w' => ∃ p, en = .returned (.pointer p) ∧ Hid (∃ cu : Cu, cu.v = .pointer p ∧ cu.I (mergeP ss).1 (mergeP ss).2 false w' ∧ (∀ k, cu.F k → FAll cs k ∨ w.heap.size ≤ k) ∧ Below w.heap.size w w') := by
  obtain ⟨a, cap, rfl⟩ := h.1.slice
  obtain ⟨g, -, -, hI⟩ := h.1.is rfl hz
  refine (merge_Merge a cs.length cap g cs ss w h.2.1.ptr hI hn h.2.1.apart h.2.1.has).mono ?_
  rintro en w' ⟨cu, h1, ⟨p, h2⟩, h3, h4, h5⟩
  exact ⟨p, by rw [h1, h2], Lib.hid ⟨cu, h2, h3, h4, h5⟩⟩
/-- The law's cursors over the rows that stay. -/
theorem mst_overs {a : Option Addr} {n : Nat} {Rs : List Rw} {z3 : Nat} {e3 : Int} {l3 : Lst} {W : World} (cap : Nat) (h : Hid (MSt a n Rs z3 e3 l3 W)) (hn : n ≤ 1000) (hl : Hid (∀ r ∈ Rs, r.len ≤ 1000000)) :
    Calls Try.prog 17 #[.slice a n cap] W fun en w' => ∃ v, en = .returned v ∧ Hid (∃ cs, CursAt W.heap.size v cs (Rs.map Rw.told) w' ∧ cs.length = n ∧ Below W.heap.size W w' ∧ MSt a n Rs z3 e3 l3 w') := by
  refine (law_overs a n cap Rs W (Lib.hid h.out.rows) hn hl).mono ?_
  rintro en w' ⟨⟨v, cs, h1, h2⟩, h3⟩
  exact ⟨v, h1, Lib.hid ⟨cs, h2, by rw [← h2.2.1.has.1, List.length_map, ← h.out.rows.len], h3, h.out.below h3⟩⟩
set_option maxHeartbeats 4000000 in
theorem merges_walk (a : Option Addr) (n c : Nat) (Rs : List Rw) (w : World) (h : Hid (IsRows w a n Rs)) (hn : n ≤ 9223372036854775807) :
    Calls Try.prog 4 #[.slice a n c] w fun en w' => en = .returned (.bool true) ∧ Below w.heap.size w w' := by
  have HAW := Lib.hid (law_awake w)
  go_enter Try.func4, Try.ntmps4
  go_wp2_with fail
  refine HAW.out.mono ?_
  rintro en w2 ⟨rfl, k2⟩
  have K2 := Lib.hid k2
  have R2 := Lib.hid (h.out.below k2)
  have HFW := Lib.hid (law_fewR a n c Rs w2 R2 hn)
  clear k2
  cases hfw : fewR Rs with
  | false =>
    rw [hfw] at HFW
    clear hfw
    go_wp2_with fail
    refine HFW.out.mono ?_
    rintro en w4 ⟨rfl, k4⟩
    have HAW := Lib.hid (law_awake w4)
    have K4 := Lib.hid (K2.out.trans (k4.mono K2.out.size))
    clear k4
    go_wp2_with fail
    refine HAW.out.mono ?_
    rintro en w5 ⟨rfl, k5⟩
    have K5 := Lib.hid (K4.out.trans (k5.mono K4.out.size))
    clear k5
    go_wp2_with fail
    go_ret
    exact ⟨rfl, K5.out⟩
  | true =>
    obtain ⟨hf1, hf2, hf3⟩ := fewR_of hfw
    have hn12 : n ≤ 12 := by rw [h.out.len]; exact hf1
    have HL := Lib.hid (show ∀ r ∈ Rs, r.len ≤ 3001 from fun r hr => by rw [(h.out.is r hr).1.1]; exact (few_of (hf3 r hr)).1)
    have HL2 := Lib.hid (show ∀ r ∈ Rs, r.len ≤ 1000000 from fun r hr => by have := HL.out r hr; omega)
    have HTN := Lib.hid (show total (Rs.map Rw.told) ≤ 36012 by
      have := told_total Rs 3001 fun r hr => (few_of (hf3 r hr)).1
      have h12 : Rs.length * 3001 ≤ 12 * 3001 := Nat.mul_le_mul_right _ hf1
      omega)
    rw [hfw] at HFW
    clear hfw hn hf1 hf2 hf3
    go_wp2_with fail
    refine HFW.out.mono ?_
    rintro en w4 ⟨rfl, k4⟩
    have K4 := Lib.hid (K2.out.trans (k4.mono K2.out.size))
    have R4 := Lib.hid (R2.out.below k4)
    have HT4 := Lib.hid (ref_Merge a n c Rs w4 R4 hn12 HL)
    clear k4
    go_wp2_with fail
    refine HT4.out.mono ?_
    rintro en w5 ⟨⟨v5, rfl, hO5⟩, k5⟩
    obtain ⟨a5, cap5, rfl⟩ := hO5.slice
    obtain ⟨L, hL⟩ : ∃ L, L = (mergeP (Rs.map Rw.told)).1 := ⟨_, rfl⟩
    obtain ⟨e5, he5⟩ : ∃ e5, e5 = (mergeP (Rs.map Rw.told)).2 := ⟨_, rfl⟩
    rw [← hL] at hO5
    rw [← hL, ← he5]
    obtain ⟨m, hm⟩ : ∃ m, m = L.length := ⟨_, rfl⟩
    rw [← hm] at hO5 ⊢
    have HLE := Lib.hid (show mergeP (Rs.map Rw.told) = (L, e5) by rw [hL, he5])
    obtain ⟨w6, hw6⟩ : ∃ w6, w6 = w5.alloc (.cells #[.slice a5 m cap5, .int .i64 e5] 24) := ⟨_, rfl⟩
    have K6' : Below w5.heap.size w5 w6 := by rw [hw6]; exact (Below.refl _ _).alloc (Nat.le_refl _) _
    have Z6 : BxR w5.heap.size (.slice a5 m cap5) e5 w6 := by rw [hw6]; exact heap_new w5 _
    have TS6 := Lib.hid (show MSt a n Rs w5.heap.size e5 ⟨a5, m, cap5, L⟩ w6 from ⟨(R4.out.below k5).below K6', Z6, (hO5.below K6').is hm⟩)
    have K6 := Lib.hid (K4.out.trans ((k5.trans (K6'.mono k5.size)).mono K4.out.size))
    have HW6 := Lib.hid hw6
    have HM := Lib.hid hm
    have hm5 : m ≤ 36012 := by have := mergeP_len (Rs.map Rw.told); rw [hm, hL]; have := HTN.out; omega
    clear hw6 hO5 K6' Z6 k5 hL he5 hm
    have HOV6 := Lib.hid (mst_overs c TS6 (by omega) HL2)
    go_upto_region 4 with (fail)
    rw [← HW6.out]
    go_wp2_with fail
    refine HOV6.out.mono ?_
    rintro en w8 ⟨v8, rfl, hx8⟩
    obtain ⟨cs8, hC8, hl8, k8, ts8⟩ := hx8.out
    obtain ⟨a8, cap8, rfl⟩ := hC8.1.slice
    rw [hl8] at hC8 ⊢
    have C8 := Lib.hid hC8
    have TS8 := Lib.hid ts8
    have K8 := Lib.hid (K6.out.trans (k8.mono K6.out.size))
    have s68 := Lib.hid k8.size
    have hz8 : 0 < w8.heap.size := by have := heap_lt ts8.r3; omega
    have HMG := Lib.hid (merge_of hC8 (by omega) hz8)
    clear hx8 hC8 ts8 k8 hz8
    go_wp2_with fail
    refine HMG.out.mono ?_
    rintro en w9 ⟨p9, rfl, hx9⟩
    obtain ⟨c9, v9, i9, f9, k9⟩ := hx9.out
    rw [HLE.out] at i9
    have V9 := Lib.hid v9
    have I9 := Lib.hid i9
    have F9 := Lib.hid f9
    have TS9 := Lib.hid (TS8.out.below k9)
    have K9 := Lib.hid (K8.out.trans (k9.mono K8.out.size))
    have O9 := Lib.hid (C8.out.1.below k9)
    have s89 := Lib.hid k9.size
    have HL8 := Lib.hid hl8
    have HV8 := Lib.hid (fun j hj => OffRow.lt C8.out.1 j hj : ∀ j, (Value.slice a8 n cap8).ownBlock = some j → w6.heap.size ≤ j ∧ j < w8.heap.size)
    clear hx9 v9 i9 f9 k9 hl8
    go_wp2_with fail
    go_loopw [6] (fun iv wr => ∃ k : Nat, k ≤ n ∧ iv = .int .i64 k ∧ Hid (∃ xs, OffRow wr w6.heap.size 29 1 (.slice a8 n cap8) n xs) ∧ Hid (Only (fun j => (Value.slice a8 n cap8).ownBlock = some j) w9 wr)) (fun iv wr => n - (intOf iv).toNat)
    case atStart => exact ⟨0, Nat.zero_le _, rfl, Lib.hid ⟨_, by have := O9.out; unfold OwnC at this; rw [HL8.out] at this; exact this⟩, Lib.hid (Only.refl _ _)⟩
    case round =>
      obtain ⟨k, hk, rfl, hR, hOn⟩ := hrel
      rcases Nat.lt_or_ge k n with hlt | hge
      · obtain ⟨xs, hxs⟩ := hR.out
        obtain ⟨g, off, x, rfl, hc, hfz⟩ := hxs.at1 hlt
        have HN := Lib.hid (show ∃ ys, OffRow (wr.setCell ⟨g, off + k, none⟩ (.pointer none)) w6.heap.size 29 1 (.slice (some ⟨g, off, none⟩) n cap8) n ys from ⟨_, hxs.set1 hlt _⟩)
        have HOn2 := Lib.hid (hOn.out.setCell (p := ⟨g, off + k, none⟩) (.inl rfl) (.pointer none))
        clear hxs
        go_wp2_with fail
        go_roundw
        case rel => exact ⟨k + 1, by omega, by go_num, HN, HOn2⟩
        case measure => simp [intOf]; omega
      · obtain rfl : n = k := by omega
        have TS10 := Lib.hid (TS9.out.new TS6.out hOn.out fun j hj => (HV8.out j hj).1)
        have I10 := Lib.hid (c9.ok.only I9.out hOn.out fun j hj h => by
          rcases F9.out j hj with h1 | h1
          · exact C8.out.2.2 j h h1
          · have := (HV8.out _ h).2; omega)
        have K10 := Lib.hid (K9.out.trans (hOn.out.below2 (fun j hj => by have := (HV8.out _ hj).1; have := K6.out.size; omega) K9.out.size))
        have F10 := Lib.hid (show ∀ j, c9.F j → w6.heap.size ≤ j from fun j hj => (F9.out j hj).elim (C8.out.2.1.low j) fun h => Nat.le_trans s68.out h)
        have TS0 := Lib.hid (show MSt a n Rs w5.heap.size e5 ⟨a5, m, cap5, L⟩ wr.drew from TS10.out.new TS10.out (F := fun _ => False) (Only.refl _ _).drew fun _ h => h.elim)
        have I0 := Lib.hid (show c9.I L e5 false wr.drew from c9.ok.only I10.out (S := fun _ => False) (Only.refl _ _).drew fun _ _ h => h)
        have K0 := Lib.hid (show Below w.heap.size w wr.drew from K10.out.drew)
        have t0 := Lib.hid (And.intro TS0.out.r3.c0 TS0.out.r3.c1)
        have s0 := Lib.hid (show w6.heap.size ≤ wr.drew.heap.size from Nat.le_trans s68.out (Nat.le_trans s89.out hOn.out.size))
        have s06 := Lib.hid (show w.heap.size ≤ w6.heap.size from K6.out.size)
        have h1 := Lib.hid (law_is_not c9 V9.out (cap := cap5) I0.out TS0.out.i3 (NotIn.new TS6.out.i3 F10.out) (by show m ≤ 1000000; omega))
        clear HT4 HFW HAW HW6 HMG HOV6
        go_wp2_with fail
        go_region_held3 (fun w' => w'.cell? ⟨w5.heap.size, 0, none⟩ = some (.slice a5 m cap5) ∧ w'.cell? ⟨w5.heap.size, 1, none⟩ = some (.int .i64 e5))
          (first | exact t0.out | exact t1.out | exact t2.out | exact t3.out | exact t4.out | exact t5.out | exact t6.out)
          (first
          | (go_at_call 12; with_reducible refine h1.out.mono ?_; rintro en x1 ⟨rfl, hk1⟩; have ts1 := TS0.out.new TS6.out hk1.out F10.out; have t1 := Lib.hid (And.intro ts1.r3.c0 ts1.r3.c1); have TS1 := Lib.hid ts1; have s1 := Lib.hid (Nat.le_trans s0.out hk1.out.size); have h2 := Lib.hid (mst_overs c TS1 (by omega) HL2); clear ts1)
          | (go_at_call 17; with_reducible refine h2.out.mono ?_; rintro en x2 ⟨v2, rfl, hx2⟩; obtain ⟨cs2, q2, l2, b2, ts2⟩ := hx2.out; have t2 := Lib.hid (And.intro ts2.r3.c0 ts2.r3.c1); have TS2 := Lib.hid ts2; have B2 := Lib.hid b2; have Q2 := Lib.hid q2; have h3 := Lib.hid (merge_of q2 (by omega) ts2.pos); clear hx2 q2 l2 b2 ts2)
          | (go_at_call 18; with_reducible refine h3.out.mono ?_; rintro en x3 ⟨p3, rfl, hx3⟩; obtain ⟨c3, v3, i3, f3, b3⟩ := hx3.out; rw [HLE.out] at i3; have ts3 := TS2.out.below b3; have t3 := Lib.hid (And.intro ts3.r3.c0 ts3.r3.c1); have TS3 := Lib.hid ts3; have B3 := Lib.hid b3; have h4 := Lib.hid (live_of c3 v3 i3 (B := x1.heap.size) (fun j hj => (f3 j hj).elim (CursAt.low Q2.out j) (fun hh => Nat.le_trans B2.out.size hh)) (Nat.le_trans B2.out.size b3.size)); clear hx3 v3 i3 f3 b3 ts3)
          | (go_at_call 14; with_reducible refine h4.out.mono ?_; rintro en x4 ⟨p4, rfl, hx4⟩; obtain ⟨c4, v4, i4, f4, b4⟩ := hx4.out; have ts4 := TS3.out.below b4; have t4 := Lib.hid (And.intro ts4.r3.c0 ts4.r3.c1); have TS4 := Lib.hid ts4; have B4 := Lib.hid b4; have F4 := Lib.hid f4; have V4 := Lib.hid v4; have I4 := Lib.hid i4; have h5 := Lib.hid (ref_Live a5 m cap5 L x4 (Lib.hid ts4.i3) (by show m ≤ 1000000; omega)); clear hx4 v4 i4 f4 b4 ts4)
          | (go_at_call 15; with_reducible refine h5.out.mono ?_; rintro en x5 ⟨⟨v5, rfl, o5⟩, b5⟩; obtain ⟨a6, cap6, rfl⟩ := o5.slice; have ts5 := TS4.out.below b5; have t5 := Lib.hid (And.intro ts5.r3.c0 ts5.r3.c1); have TS5 := Lib.hid ts5; have B5 := Lib.hid b5; have h6 := Lib.hid (law_is_not c4 V4.out (cap := cap6) (c4.ok.below I4.out b5) (o5.is rfl) (NotIn.own o5 fun j hj => Nat.lt_of_lt_of_le (c4.ok.low j hj) (c4.ok.size _ _ _ _ I4.out)) (by have hll := liveL_len L; rw [← HM.out] at hll; omega)); clear o5 b5 ts5)
          | (go_at_call 12; with_reducible refine h6.out.mono ?_; rintro en x6 ⟨rfl, hk6⟩; have b15 : Below x1.heap.size x1 x5 := B2.out.trans ((B3.out.trans ((B4.out.trans (B5.out.mono B4.out.size)).mono B3.out.size)).mono B2.out.size); have b1' : Below w.heap.size w x1 := K0.out.trans (hk1.out.below2 (fun j hj => Nat.le_trans s06.out (F10.out j hj)) K0.out.size); have b7 := Lib.hid (show Below w.heap.size w x6 from (b1'.trans (b15.mono b1'.size)).trans (hk6.out.below2 (fun j hj => Nat.le_trans b1'.size (F4.out j hj)) (Nat.le_trans b1'.size b15.size))); have t6 := Lib.hid (let q := TS5.out.new TS1.out hk6.out F4.out; And.intro q.r3.c0 q.r3.c1)))
        go_wp2_with fail
        go_ret
        exact ⟨rfl, b7.out⟩
end Go.Proofs.Ytbjokbnmfbfkjaa
