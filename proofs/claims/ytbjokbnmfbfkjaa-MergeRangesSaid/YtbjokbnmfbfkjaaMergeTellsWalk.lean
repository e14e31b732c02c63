/- The law that a cursor tells its row: the walk. -/
import Derived.Test.YtbjokbnmfbfkjaaMergeRefLive
set_option linter.unusedVariables false
set_option maxRecDepth 100000
namespace Go.Proofs.Ytbjokbnmfbfkjaa
open Go.RowKit

/-- A slice's block is none of these. -/
def NotIn (a : Option Addr) (n : Nat) (F : Nat → Prop) : Prop := n = 0 ∨ ∀ b off, a = some ⟨b, off, none⟩ → ¬ F b
theorem IsE.only {w w' : World} {a : Option Addr} {n : Nat} {T : List Ent} {F : Nat → Prop} (h : IsE w a n T) (k : Only F w w') (hN : NotIn a n F) : IsE w' a n T := by
  obtain ⟨h1, b, off, h2, h3⟩ := h
  refine ⟨h1, b, off, h2, fun j hj => ?_⟩
  obtain ⟨q1, q2, q3, q4⟩ := h3 j hj
  have ha := h2.resolve_left (by omega)
  have hb := k.block _ q1 ((hN.resolve_left (by omega)) b off ha)
  exact ⟨Nat.lt_of_lt_of_le q1 k.size, cell_same q2 hb, cell_same q3 hb, cell_same q4 hb⟩
/-- A slice that is there, and blocks that are newer. -/
theorem NotIn.new {w : World} {a : Option Addr} {n : Nat} {T : List Ent} {F : Nat → Prop} (h : IsE w a n T) (hF : ∀ k, F k → w.heap.size ≤ k) : NotIn a n F := by
  obtain ⟨h1, b, off, h2, h3⟩ := h
  rcases Nat.eq_zero_or_pos n with h0 | h0
  · exact .inl h0
  · refine .inr fun b' off' ha hb => ?_
    have ha' := h2.resolve_left (by omega)
    rw [ha] at ha'
    injection ha' with ha'
    injection ha' with e1 e2
    subst e1
    have := (h3 0 (by omega)).lt
    have := hF _ hb
    omega
/-- A row of the call's own, and blocks that are older. -/
theorem NotIn.own {w : World} {B : Nat} {a : Option Addr} {n cap : Nat} {R : List Ent} {F : Nat → Prop} (h : OwnE w B (.slice a n cap) R) (hF : ∀ k, F k → k < B) : NotIn a n F := by
  rcases Nat.eq_zero_or_pos n with h0 | h0
  · exact .inl h0
  · refine .inr fun b off ha hb => ?_
    have := (OffRow.lt h b (by rw [ha]; rfl)).1
    have := hF _ hb
    omega
/-- What a list of a law may be. -/
structure Lst where
  a : Option Addr
  n : Nat
  cap : Nat
  T : List Ent
/-- Lists and boxes that stay. -/
structure TSt (r z3 z7 : Nat) (e e3 e7 : Int) (l0 l3 l7 : Lst) (w : World) : Prop where
  r : BxR r (.slice l0.a l0.n l0.cap) e w
  r3 : BxR z3 (.slice l3.a l3.n l3.cap) e3 w
  r7 : BxR z7 (.slice l7.a l7.n l7.cap) e7 w
  i0 : IsE w l0.a l0.n l0.T
  i3 : IsE w l3.a l3.n l3.T
  i7 : IsE w l7.a l7.n l7.T
theorem TSt.only {r z3 z7 : Nat} {e e3 e7 : Int} {l0 l3 l7 : Lst} {w w' : World} {F : Nat → Prop} (h : TSt r z3 z7 e e3 e7 l0 l3 l7 w) (k : Only F w w') (hr : ¬ F r) (h3 : ¬ F z3) (h7 : ¬ F z7) (n0 : NotIn l0.a l0.n F) (n3 : NotIn l3.a l3.n F) (n7 : NotIn l7.a l7.n F) : TSt r z3 z7 e e3 e7 l0 l3 l7 w' :=
  ⟨h.r.only k hr, h.r3.only k h3, h.r7.only k h7, h.i0.only k n0, h.i3.only k n3, h.i7.only k n7⟩
/-- Newer blocks are turned. -/
theorem TSt.new {r z3 z7 : Nat} {e e3 e7 : Int} {l0 l3 l7 : Lst} {w w' : World} {F : Nat → Prop} (h : TSt r z3 z7 e e3 e7 l0 l3 l7 w) {w0 : World} (h0 : TSt r z3 z7 e e3 e7 l0 l3 l7 w0) (k : Only F w w') (hF : ∀ j, F j → w0.heap.size ≤ j) : TSt r z3 z7 e e3 e7 l0 l3 l7 w' :=
  h.only k (fun hh => by have := hF _ hh; have := heap_lt h0.r; omega) (fun hh => by have := hF _ hh; have := heap_lt h0.r3; omega) (fun hh => by have := hF _ hh; have := heap_lt h0.r7; omega)
    (NotIn.new h0.i0 hF) (NotIn.new h0.i3 hF) (NotIn.new h0.i7 hF)
/-- The cells that the law's last statement looks at. -/
def TCells (r z3 z7 : Nat) (e e3 e7 : Int) (l0 l3 l7 : Lst) (w : World) : Prop :=
  w.cell? ⟨r, 0, none⟩ = some (.slice l0.a l0.n l0.cap) ∧ w.cell? ⟨r, 1, none⟩ = some (.int .i64 e) ∧ w.cell? ⟨z3, 0, none⟩ = some (.slice l3.a l3.n l3.cap) ∧ w.cell? ⟨z3, 1, none⟩ = some (.int .i64 e3) ∧ w.cell? ⟨z7, 0, none⟩ = some (.slice l7.a l7.n l7.cap) ∧ w.cell? ⟨z7, 1, none⟩ = some (.int .i64 e7)
theorem TSt.cells {r z3 z7 : Nat} {e e3 e7 : Int} {l0 l3 l7 : Lst} {w : World} (h : TSt r z3 z7 e e3 e7 l0 l3 l7 w) : TCells r z3 z7 e e3 e7 l0 l3 l7 w := ⟨h.r.c0, h.r.c1, h.r3.c0, h.r3.c1, h.r7.c0, h.r7.c1⟩
theorem told_len (e : Int) : ∀ (T : List Ent) (k : Option (List UInt8)), (toldP e k T).1.length ≤ T.length
  | [], _ => Nat.le_refl _
  | x :: T, k => by
    unfold toldP
    split
    · exact Nat.zero_le _
    · simpa using told_len e T _
/-- The law's cursor over the row that stays. -/
theorem tst_over {r z3 z7 : Nat} {e e3 e7 : Int} {l0 l3 l7 : Lst} {W : World} (h : Hid (TSt r z3 z7 e e3 e7 l0 l3 l7 W)) (hn : l0.n ≤ 1000000) {L : List Ent} {d : Int} (hL : Hid (toldP e none l0.T = (L, d))) :
    Calls Try.prog 13 #[.agg #[.slice l0.a l0.n l0.cap, .int .i64 e]] W fun en w' => ∃ p, en = .returned (.pointer p) ∧ Hid (∃ cu : Cu, cu.v = .pointer p ∧ cu.I L d false w' ∧ (∀ k, cu.F k → W.heap.size ≤ k) ∧ Below W.heap.size W w' ∧ TSt r z3 z7 e e3 e7 l0 l3 l7 w') := by
  refine (law_over l0.a l0.n l0.cap l0.T e W (Lib.hid h.out.i0) hn).mono ?_
  rintro en w' ⟨cu, h1, ⟨p, h2⟩, h3, h4, h5⟩
  rw [hL.out] at h3
  exact ⟨p, by rw [h1, h2], Lib.hid ⟨cu, h2, h3, fun k hk => (h4 k hk).resolve_left fun h => h, h5, h.out.new h.out (F := fun _ => False) (Only.of_below' h5 rfl) fun _ h => h.elim⟩⟩
theorem law_is_not (c : Cu) {p : Option Addr} (hv : c.v = .pointer p) {a : Option Addr} {len cap : Nat} {l : List Ent} {e : Int} {b : Bool} {w : World} (hI : c.I l e b w) (hw : IsE w a len l) (hN : NotIn a len c.F) (hl : len ≤ 1000000) :
    Calls Try.prog 12 #[.pointer p, .agg #[.slice a len cap, .int .i64 e]] w fun en w' => en = .returned (.bool true) ∧ Hid (Only c.F w w') := by
  have := law_is c ⟨p, hv⟩ a len cap l e b w (Lib.hid hI) (Lib.hid fun w' k => hw.only k hN) hl
  rw [hv] at this
  exact this.mono fun en w' ⟨h1, h2⟩ => ⟨h1, Lib.hid h2⟩
theorem live_of (c : Cu) {p : Option Addr} (hv : c.v = .pointer p) {l : List Ent} {e : Int} {w : World} (hI : c.I l e false w) {B : Nat} (hF : ∀ k, c.F k → B ≤ k) (hB : B ≤ w.heap.size) :
    Calls Try.prog 14 #[.pointer p] w fun en w' => ∃ p', en = .returned (.pointer p') ∧ Hid (∃ cu : Cu, cu.v = .pointer p' ∧ cu.I (liveL l) e false w' ∧ (∀ k, cu.F k → B ≤ k) ∧ Below w.heap.size w w') := by
  have := merge_Live c ⟨p, hv⟩ hI
  rw [hv] at this
  refine this.mono ?_
  rintro en w' ⟨cu, h1, ⟨p', h2⟩, h3, h4, h5⟩
  exact ⟨p', by rw [h1, h2], Lib.hid ⟨cu, h2, h3, fun k hk => (h4 k hk).elim (hF k) fun h => Nat.le_trans hB h, h5⟩⟩
set_option maxHeartbeats 4000000 in
theorem tells_walk (a : Option Addr) (n c : Nat) (T : List Ent) (e : Int) (w : World) (h : Hid (IsE w a n T)) (hn : n ≤ 9223372036854775807) (hf : Hid (fitE T)) :
    Calls Try.prog 3 #[.agg #[.slice a n c, .int .i64 e]] w fun en w' => en = .returned (.bool true) ∧ Below w.heap.size w w' := by
  obtain ⟨w1, hw1⟩ : ∃ w1, w1 = w.alloc (.cells #[.slice a n c, .int .i64 e] 24) := ⟨_, rfl⟩
  have K1 := Lib.hid (show Below w.heap.size w w1 by rw [hw1]; exact (Below.refl _ _).alloc (Nat.le_refl _) _)
  have R1 := Lib.hid (show BxR w.heap.size (.slice a n c) e w1 by rw [hw1]; exact heap_new w _)
  have E1 := Lib.hid (h.out.below K1.out)
  have HAW1 := Lib.hid (law_awake w1)
  have HW1 := Lib.hid hw1
  clear hw1
  go_enter Try.func3, Try.ntmps3
  go_upto_region 1 with (fail)
  rw [← HW1.out]
  go_wp2_with fail
  refine HAW1.out.mono ?_
  rintro en w2 ⟨rfl, k2⟩
  have K2 := Lib.hid (K1.out.trans (k2.mono K1.out.size))
  have R2 := Lib.hid (R1.out.only (S := fun _ => False) (Only.of_below' k2 rfl) fun h => h)
  have E2 := Lib.hid (E1.out.below k2)
  have r0 := R2.out.c0
  have r1 := R2.out.c1
  obtain ⟨w3, hw3⟩ : ∃ w3, w3 = w2.alloc (.cells #[.slice a n c, .int .i64 e] 24) := ⟨_, rfl⟩
  have K3 : Below w2.heap.size w2 w3 := by rw [hw3]; exact (Below.refl _ _).alloc (Nat.le_refl _) _
  have Q3 : BxR w2.heap.size (.slice a n c) e w3 := by rw [hw3]; exact heap_new w2 _
  have IR : IsRows w3 (some ⟨w2.heap.size, 0, none⟩) 1 [⟨a, n, c, T, e⟩] := by
    refine ⟨rfl, ⟨w2.heap.size, 0, .inr rfl, fun k r hr => ?_⟩, fun r hr => ?_⟩
    · match k, hr with
      | 0, hr =>
        injection hr with hr
        subst hr
        exact ⟨heap_lt Q3, Q3.c0, Q3.c1⟩
      | k + 1, hr => cases hr
    · rw [List.mem_singleton.1 hr]
      exact ⟨E2.out.below K3, hn, hf.out⟩
  have HFW := Lib.hid (show Calls Try.prog 9 #[.slice (some ⟨w2.heap.size, 0, none⟩) 1 1] (w2.alloc (.cells #[.slice a n c, .int .i64 e] 24)) (fun en w' => en = .returned (.bool (fewR [⟨a, n, c, T, e⟩])) ∧ Below w3.heap.size w3 w') by
    rw [← hw3]; exact law_fewR _ 1 1 _ w3 (Lib.hid IR) (by omega))
  have K30 := Lib.hid (K2.out.trans (K3.mono K2.out.size))
  have R3 := Lib.hid (R2.out.only (S := fun _ => False) (Only.of_below' K3 rfl) fun h => h)
  have E3 := Lib.hid (E2.out.below K3)
  have HLEN := Lib.hid h.out.1
  clear hw3 K3 Q3 IR k2
  cases hfw : fewR [⟨a, n, c, T, e⟩] with
  | false =>
    rw [hfw] at HFW
    clear hfw
    go_wp2_with fail
    refine HFW.out.mono ?_
    rintro en w4 ⟨rfl, k4⟩
    have HAW := Lib.hid (law_awake w4)
    have K4 := Lib.hid (K30.out.trans (k4.mono K30.out.size))
    clear k4
    go_wp2_with fail
    refine HAW.out.mono ?_
    rintro en w5 ⟨rfl, k5⟩
    have K5 := Lib.hid (K4.out.trans (k5.mono K4.out.size))
    clear k5
    go_wp2_with fail
    go_ret
    exact ⟨rfl, K5.out⟩
  | true =>
    have hn3 : n ≤ 3001 := by
      have := (few_of ((fewR_of hfw).2.2 _ List.mem_cons_self)).1
      rw [← HLEN.out] at this
      exact this
    rw [hfw] at HFW
    clear hfw hn
    go_wp2_with fail
    refine HFW.out.mono ?_
    rintro en w4 ⟨rfl, k4⟩
    have K4 := Lib.hid (K30.out.trans (k4.mono K30.out.size))
    have R4 := Lib.hid (R3.out.only (S := fun _ => False) (Only.of_below' k4 rfl) fun h => h)
    have E4 := Lib.hid (E3.out.below k4)
    have HT4 := Lib.hid (ref_Told a n c T e w4 E4 (by omega))
    clear k4 r0 r1
    have r0 := R4.out.c0
    have r1 := R4.out.c1
    go_wp2_with fail
    refine HT4.out.mono ?_
    rintro en w5 ⟨⟨v5, rfl, hO5⟩, k5⟩
    obtain ⟨a5, cap5, rfl⟩ := hO5.slice
    obtain ⟨L, hL⟩ : ∃ L, L = (toldP e none T).1 := ⟨_, rfl⟩
    obtain ⟨e5, he5⟩ : ∃ e5, e5 = (toldP e none T).2 := ⟨_, rfl⟩
    rw [← hL] at hO5
    rw [← hL, ← he5]
    obtain ⟨m, hm⟩ : ∃ m, m = L.length := ⟨_, rfl⟩
    have hmn : m ≤ 3001 := by rw [hm, hL]; have := told_len e T none; rw [← HLEN.out] at this; omega
    rw [← hm] at hO5 ⊢
    have HLE := Lib.hid (show toldP e none T = (L, e5) by rw [hL, he5])
    obtain ⟨w6, hw6⟩ : ∃ w6, w6 = w5.alloc (.cells #[.slice a5 m cap5, .int .i64 e5] 24) := ⟨_, rfl⟩
    have K6' : Below w5.heap.size w5 w6 := by rw [hw6]; exact (Below.refl _ _).alloc (Nat.le_refl _) _
    have Z6 := Lib.hid (show BxR w5.heap.size (.slice a5 m cap5) e5 w6 by rw [hw6]; exact heap_new w5 _)
    have O6 := Lib.hid (hO5.below K6')
    have n56 : Only (fun _ => False) w4 w6 := (Only.of_below' k5 rfl).trans (Only.of_below' K6' rfl)
    have R6 := Lib.hid (R4.out.only n56 fun h => h)
    have E6 := Lib.hid (E4.out.only n56 (NotIn.new (F := fun _ => False) E4.out fun _ h => h.elim))
    have K6 := Lib.hid (K4.out.trans ((k5.trans (K6'.mono k5.size)).mono K4.out.size))
    have s56 := Lib.hid (show w5.heap.size < w6.heap.size from heap_lt Z6.out)
    have HW6 := Lib.hid hw6
    have HM := Lib.hid hm
    clear hw6 hO5 K6' n56 k5 hL he5 r0 r1 hm
    have r0 := R6.out.c0
    have r0' : (w6.alloc (.cells #[] 32)).cell? ⟨w.heap.size, 0, none⟩ = some (.slice a n c) := cell_same r0 (Below.heap_alloc w6 _ _ (heap_lt R6.out))
    obtain ⟨i0, hi, hz0, hz1, hz2⟩ := info_parts infoE
    go_upto_region 4 with (fail)
    rw [← HW6.out]
    go_wp2_with (at_builtin; refine wpList_append_off rfl (.tmp 19) (.tmp 21) 22 rfl w6.heap.size 32 i0 _ 3 40 Try.underlying22 hi hz0 hz1 hz2 rfl (.slice (some ⟨w6.heap.size, 0, none⟩) 0 0) 0 [] rfl (off_empty w6 (Nat.le_refl _) _ _) (.slice a n c) rfl n (ecells T) ?c2 ?c3 ?c4 ?c5 ?_)
    case c2 => exact src_ents' c E6.out _
    case c3 => unfold maxLen; omega
    case c4 => omega
    case c5 => simp
    intro v8 w8 hr8 hg8 _
    have O8 := Lib.hid (show OwnE w8 w6.heap.size v8 T by
      unfold OwnE
      rw [← HLEN.out]
      simpa using hr8)
    have k8 : Below w6.heap.size w6 w8 := ((Below.refl _ _).alloc (Nat.le_refl _) _).grown hg8 (by simp) (fun k hk => by simp [Value.ownBlock] at hk; omega)
    have n68 : Only (fun _ => False) w6 w8 := Only.of_below' k8 rfl
    have R8 := Lib.hid (R6.out.only n68 fun h => h)
    have Z8 := Lib.hid (Z6.out.only n68 fun h => h)
    have E8 := Lib.hid (E6.out.below k8)
    have P8 := Lib.hid (O6.out.below k8)
    have K8 := Lib.hid (K6.out.trans (k8.mono K6.out.size))
    have s68 := Lib.hid k8.size
    obtain ⟨a8, cap8, rfl⟩ := O8.out.slice
    rw [← HLEN.out] at O8 ⊢
    have HV8 := Lib.hid (fun j hj => OffRow.lt O8.out j hj : ∀ j, (Value.slice a8 n cap8).ownBlock = some j → w6.heap.size ≤ j ∧ j < w8.heap.size)
    have HOv := Lib.hid (over_run a8 n cap8 T w8 (Lib.hid (O8.out.is HLEN.out)) (by omega))
    clear hr8 hg8 k8 n68 hi hz0 hz1 hz2 r0 r0'
    go_wp2_with fail
    refine HOv.out.mono ?_
    rintro en w9 ⟨c9, hG⟩
    obtain ⟨p9, hp9⟩ := hG.ptr
    obtain ⟨e1, -, e3, e4, e5'⟩ := hG
    rw [hp9] at e1
    subst e1
    have HP9 := Lib.hid hp9
    have I9 := Lib.hid e3
    have F9 := Lib.hid (show ∀ k, c9.F k → w8.heap.size ≤ k from fun k hk => (e4 k hk).resolve_left fun h => h)
    have n89 : Only (fun _ => False) w8 w9 := Only.of_below' e5' rfl
    have O9 := Lib.hid (O8.out.below e5')
    have K9 := Lib.hid (K8.out.trans (e5'.mono K8.out.size))
    have R9 := Lib.hid (R8.out.only n89 fun h => h)
    have Z9 := Lib.hid (Z8.out.only n89 fun h => h)
    have E9 := Lib.hid (E8.out.below e5')
    have P9 := Lib.hid (P8.out.below e5')
    have s89 := Lib.hid e5'.size
    clear hp9 e3 e4 e5' n89 HOv
    go_wp2_with fail
    go_loopw [6] (fun iv wr => ∃ k : Nat, k ≤ n ∧ iv = .int .i64 k ∧ Hid (∃ R', R'.length = n ∧ OwnE wr w6.heap.size (.slice a8 n cap8) R') ∧ Hid (Only (fun j => (Value.slice a8 n cap8).ownBlock = some j) w9 wr)) (fun iv wr => n - (intOf iv).toNat)
    case atStart => exact ⟨0, Nat.zero_le _, rfl, Lib.hid ⟨T, HLEN.out.symm, O9.out⟩, Lib.hid (Only.refl _ _)⟩
    case round =>
      obtain ⟨k, hk, rfl, hR, hOn⟩ := hrel
      rcases Nat.lt_or_ge k n with hlt | hge
      · obtain ⟨R', hRl, hRo⟩ := hR.out
        obtain ⟨y, hy⟩ : ∃ y, R'[k]? = some y := ⟨_, List.getElem?_eq_getElem (by rw [hRl]; exact hlt)⟩
        obtain ⟨g, off, rfl, -, hc⟩ := hRo.ent hy
        have f0 := hc.c0
        have f1 := hc.c1
        have f2 := hc.c2
        have fz := hRo.room.2
        have HN := Lib.hid (show ∃ R2 : List Ent, R2.length = n ∧ OwnE (((wr.setCell ⟨g, off + k * 3, none⟩ (.string ⟨#[]⟩)).setCell ⟨g, off + k * 3 + 1, none⟩ (.string ⟨#[]⟩)).setCell ⟨g, off + k * 3 + 2, none⟩ (.bool false)) w6.heap.size (.slice (some ⟨g, off, none⟩) n cap8) R2 from ⟨R'.set k noEnt, by rw [List.length_set]; exact hRl, hRo.set (by rw [hRl]; exact hlt) noEnt⟩)
        have HOn2 := Lib.hid (((hOn.out.setCell (p := ⟨g, off + k * 3, none⟩) (.inl rfl) (.string ⟨#[]⟩)).setCell (p := ⟨g, off + k * 3 + 1, none⟩) (.inl rfl) (.string ⟨#[]⟩)).setCell (p := ⟨g, off + k * 3 + 2, none⟩) (.inl rfl) (.bool false))
        clear hRl hRo hy hc
        go_wp2_with fail
        go_roundw
        case rel => exact ⟨k + 1, by omega, by go_num, HN, HOn2⟩
        case measure => simp [intOf]; omega
      · obtain rfl : k = n := by omega
        have hw8 := Lib.hid (show w.heap.size < w8.heap.size from heap_lt R8.out)
        have R10 := Lib.hid (R9.out.only hOn.out fun h => by have := (HV8.out _ h).1; have := heap_lt R6.out; omega)
        have Z10 := Lib.hid (Z9.out.only hOn.out fun h => by have := (HV8.out _ h).1; have := s56.out; omega)
        have hnew : ∀ j, (Value.slice a8 k cap8).ownBlock = some j → w6.heap.size ≤ j := fun j hj => (HV8.out _ hj).1
        have E10 := Lib.hid (E9.out.only hOn.out (NotIn.new E6.out hnew))
        have P10 := Lib.hid ((P9.out.is HM.out).only hOn.out (NotIn.new (O6.out.is HM.out) hnew))
        have I10 := Lib.hid (c9.ok.only I9.out hOn.out fun j hj h => by have := (HV8.out _ h).2; have := F9.out j hj; omega)
        have K10 := Lib.hid (K9.out.trans (hOn.out.below (fun j _ hj => by have := (HV8.out _ hj).1; have := K6.out.size; omega) K9.out.size))
        have s10 := Lib.hid hOn.out.size
        have HT10 := Lib.hid (ref_Told a k c T 0 wr E10 (by omega))
        have r0 := R10.out.c0
        clear hnew
        go_wp2_with fail
        refine HT10.out.mono ?_
        rintro en w11 ⟨⟨v11, rfl, hO11⟩, k11⟩
        obtain ⟨a11, cap11, rfl⟩ := hO11.slice
        obtain ⟨L7, hL7⟩ : ∃ L7, L7 = (toldP 0 none T).1 := ⟨_, rfl⟩
        obtain ⟨e7, he7⟩ : ∃ e7, e7 = (toldP 0 none T).2 := ⟨_, rfl⟩
        rw [← hL7] at hO11
        rw [← hL7, ← he7]
        obtain ⟨q, hq⟩ : ∃ q, q = L7.length := ⟨_, rfl⟩
        have hqn : q ≤ 3001 := by rw [hq, hL7]; have := told_len 0 T none; rw [← HLEN.out] at this; omega
        rw [← hq] at hO11 ⊢
        obtain ⟨w12, hw12⟩ : ∃ w12, w12 = w11.alloc (.cells #[.slice a11 q cap11, .int .i64 e7] 24) := ⟨_, rfl⟩
        have k12 : Below w11.heap.size w11 w12 := by rw [hw12]; exact (Below.refl _ _).alloc (Nat.le_refl _) _
        have n12 : Only (fun _ => False) wr w12 := (Only.of_below' k11 rfl).trans (Only.of_below' k12 rfl)
        have Y12 : BxR w11.heap.size (.slice a11 q cap11) e7 w12 := by rw [hw12]; exact heap_new w11 _
        have TS := Lib.hid (show TSt w.heap.size w5.heap.size w11.heap.size e e5 e7 ⟨a, k, c, T⟩ ⟨a5, m, cap5, L⟩ ⟨a11, q, cap11, L7⟩ w12 from
          ⟨R10.out.only n12 fun h => h, Z10.out.only n12 fun h => h, Y12, E10.out.only n12 (.inr fun _ _ _ h => h), P10.out.only n12 (.inr fun _ _ _ h => h), (hO11.below k12).is hq⟩)
        have I12 := Lib.hid (show c9.I L7 e7 false w12 by rw [hL7, he7]; exact c9.ok.only I10.out n12 fun _ _ h => h)
        have hF9lt : ∀ k, c9.F k → k < w9.heap.size := fun k hk => Nat.lt_of_lt_of_le (c9.ok.low k hk) (c9.ok.size _ _ _ _ I9.out)
        have N9 := Lib.hid (show ¬ c9.F w.heap.size ∧ ¬ c9.F w5.heap.size ∧ ¬ c9.F w11.heap.size ∧ NotIn a k c9.F ∧ NotIn a5 m c9.F ∧ NotIn a11 q c9.F from
          ⟨fun h => by have := F9.out _ h; have := hw8.out; omega, fun h => by have := F9.out _ h; have := s56.out; have := s68.out; omega,
            fun h => by have := hF9lt _ h; have := s10.out; have := k11.size; omega, NotIn.new E8.out F9.out, NotIn.new (P8.out.is HM.out) F9.out, NotIn.own hO11 fun j hj => by have := hF9lt j hj; have := s10.out; omega⟩)
        have K12 := Lib.hid (K10.out.trans ((k11.trans (k12.mono k11.size)).mono K10.out.size))
        have HW12 := Lib.hid hw12
        have F9' := Lib.hid (show ∀ j, c9.F j → w.heap.size ≤ j from fun j hj => by have := F9.out j hj; have := hw8.out; omega)
        clear hw12 hO11 k11 k12 n12 Y12 hL7 he7 hq hF9lt r0
        go_upto_region 11 with (fail)
        rw [← HW12.out]
        have TS0 := Lib.hid (show TSt w.heap.size w5.heap.size w11.heap.size e e5 e7 ⟨a, k, c, T⟩ ⟨a5, m, cap5, L⟩ ⟨a11, q, cap11, L7⟩ w12.drew from TS.out.new TS.out (F := fun _ => False) (Only.refl _ _).drew fun _ h => h.elim)
        have I0 := Lib.hid (show c9.I L7 e7 false w12.drew from c9.ok.only I12.out (S := fun _ => False) (Only.refl _ _).drew fun _ _ h => h)
        have K0 := Lib.hid (show Below w.heap.size w w12.drew from K12.out.drew)
        have t0 := Lib.hid TS0.out.cells
        have HOV := Lib.hid (tst_over TS0 (by show k ≤ 1000000; omega) HLE)
        clear HT10 HT4 HFW HAW1 HW12 HW6 HW1
        go_region_held3 (fun w' => w'.cell? ⟨w.heap.size, 0, none⟩ = some (.slice a k c) ∧ w'.cell? ⟨w.heap.size, 1, none⟩ = some (.int .i64 e) ∧ w'.cell? ⟨w5.heap.size, 0, none⟩ = some (.slice a5 m cap5) ∧ w'.cell? ⟨w5.heap.size, 1, none⟩ = some (.int .i64 e5) ∧ w'.cell? ⟨w11.heap.size, 0, none⟩ = some (.slice a11 q cap11) ∧ w'.cell? ⟨w11.heap.size, 1, none⟩ = some (.int .i64 e7))
          (first | exact t0.out | exact t1.out | exact t2.out | exact t3.out | exact t4.out | exact t5.out | exact t6.out | exact t7.out)
          (first
          | (go_at_call 13; with_reducible refine HOV.out.mono ?_; rintro en x1 ⟨p1, rfl, hx1⟩; obtain ⟨c1, v1, i1, f1, b1, ts1⟩ := hx1.out; have t1 := Lib.hid ts1.cells; have TS1 := Lib.hid ts1; have F1 := Lib.hid f1; have B1 := Lib.hid b1; have h2 := Lib.hid (law_is_not c1 v1 (cap := cap5) i1 ts1.i3 (NotIn.new TS0.out.i3 f1) (by show m ≤ 1000000; omega)); clear hx1 v1 i1 f1 b1 ts1)
          | (go_at_call 12; with_reducible refine h2.out.mono ?_; rintro en x2 ⟨rfl, hk2⟩; have ts2 := TS1.out.new TS0.out hk2.out F1.out; have t2 := Lib.hid ts2.cells; have TS2 := Lib.hid ts2; have I2 := Lib.hid (c9.ok.only (c9.ok.below I0.out B1.out) hk2.out fun j hj h => by have hlo := F1.out j h; have hhi := Nat.lt_of_lt_of_le (c9.ok.low j hj) (c9.ok.size _ _ _ _ I0.out); omega); have h3 := Lib.hid (law_is_not c9 HP9.out (cap := cap11) I2.out ts2.i7 N9.out.2.2.2.2.2 (by show q ≤ 1000000; omega)); clear ts2)
          | (go_at_call 12; with_reducible refine h3.out.mono ?_; rintro en x3 ⟨rfl, hk3⟩; have ts3 := TS2.out.only hk3.out N9.out.1 N9.out.2.1 N9.out.2.2.1 N9.out.2.2.2.1 N9.out.2.2.2.2.1 N9.out.2.2.2.2.2; have t3 := Lib.hid ts3.cells; have TS3 := Lib.hid ts3; have HOV3 := Lib.hid (tst_over TS3 (by show k ≤ 1000000; omega) HLE); clear ts3)
          | (go_at_call 13; with_reducible refine HOV3.out.mono ?_; rintro en x4 ⟨p4, rfl, hx4⟩; obtain ⟨c4, v4, i4, f4, b4, ts4⟩ := hx4.out; have t4 := Lib.hid ts4.cells; have TS4 := Lib.hid ts4; have B4 := Lib.hid b4; have h5 := Lib.hid (live_of c4 v4 i4 f4 b4.size); clear hx4 v4 i4 f4 b4 ts4)
          | (go_at_call 14; with_reducible refine h5.out.mono ?_; rintro en x5 ⟨p5, rfl, hx5⟩; obtain ⟨c5, v5, i5, f5, b5⟩ := hx5.out; have ts5 := TS4.out.new TS4.out (F := fun _ => False) (Only.of_below' b5 rfl) (fun _ h => h.elim); have t5 := Lib.hid ts5.cells; have TS5 := Lib.hid ts5; have B5 := Lib.hid b5; have F5 := Lib.hid f5; have V5 := Lib.hid v5; have I5 := Lib.hid i5; have h6 := Lib.hid (ref_Live a5 m cap5 L x5 (Lib.hid ts5.i3) (by show m ≤ 1000000; omega)); clear hx5 v5 i5 f5 b5 ts5)
          | (go_at_call 15; with_reducible refine h6.out.mono ?_; rintro en x6 ⟨⟨v6, rfl, o6⟩, b6⟩; obtain ⟨a6, cap6, rfl⟩ := o6.slice; have ts6 := TS5.out.new TS5.out (F := fun _ => False) (Only.of_below' b6 rfl) (fun _ h => h.elim); have t6 := Lib.hid ts6.cells; have TS6 := Lib.hid ts6; have B6 := Lib.hid b6; have h7 := Lib.hid (law_is_not c5 V5.out (cap := cap6) (c5.ok.below I5.out b6) (o6.is rfl) (NotIn.own o6 fun j hj => Nat.lt_of_lt_of_le (c5.ok.low j hj) (c5.ok.size _ _ _ _ I5.out)) (by have hll := liveL_len L; rw [← HM.out] at hll; omega)); clear o6 b6 ts6)
          | (go_at_call 12; with_reducible refine h7.out.mono ?_; rintro en x7 ⟨rfl, hk7⟩; have b6' : Below x3.heap.size x3 x6 := B4.out.trans ((B5.out.trans (B6.out.mono B5.out.size)).mono B4.out.size); have b3' : Below w.heap.size w x3 := (K0.out.trans (B1.out.mono K0.out.size)).trans (((Only.refl _ x1).trans hk2.out).below2 (fun j hj => Nat.le_trans K0.out.size (F1.out j hj)) (Nat.le_trans K0.out.size B1.out.size) |>.trans (hk3.out.below2 F9'.out (Nat.le_trans (Nat.le_trans K0.out.size B1.out.size) hk2.out.size))); have b7 := Lib.hid (show Below w.heap.size w x7 from (b3'.trans (b6'.mono b3'.size)).trans (hk7.out.below2 (fun j hj => Nat.le_trans b3'.size (F5.out j hj)) (Nat.le_trans b3'.size b6'.size))); have t7 := Lib.hid (TS6.out.new TS3.out hk7.out F5.out).cells))
        go_wp2_with fail
        go_ret
        exact ⟨rfl, b7.out⟩
end Go.Proofs.Ytbjokbnmfbfkjaa
