/- The law that rows merged in parts are what they are at once: the walk. -/
import Derived.Test.YtbjokbnmfbfkjaaMergePartsPlain
import Derived.Test.YtbjokbnmfbfkjaaMergeAwakePos
set_option linter.unusedVariables false
set_option maxRecDepth 100000
namespace Go.Proofs.Ytbjokbnmfbfkjaa
open Go.RowKit

theorem pairs_ris {R : List Rw} {Ls : List Lst} (h : pairs R = Ls.map risP) : (∀ r ∈ R, rises r.T ∧ r.e = 0) ∧ R.map Rw.told = pairs R := by
  have h1 : ∀ r ∈ R, rises r.T ∧ r.e = 0 := fun r hr => by
    have : (r.T, r.e) ∈ pairs R := List.mem_map.2 ⟨r, hr, rfl⟩
    rw [h] at this
    exact good_ris Ls _ this
  refine ⟨h1, ?_⟩
  unfold pairs
  apply List.map_congr_left
  intro r hr
  unfold Rw.told
  rw [told_rising r.e (h1 r hr).1]
theorem fit_ris {T : List Ent} (h : fewB T = true) : fitE (rising T) := fun x hx => by
  obtain ⟨y, hy, rfl⟩ := rising_mem hx
  have h1 := (few_of h).2 y hy
  have h2 := norm_val y
  rw [norm_key]
  omega
theorem overs_of {a : Option Addr} {n : Nat} {Rs : List Rw} {W : World} {ss : List (List Ent × Int)} (cap : Nat) (h : Hid (IsRows W a n Rs)) (hn : n ≤ 1000) (hl : Hid (∀ r ∈ Rs, r.len ≤ 1000000)) (hT : Hid (Rs.map Rw.told = ss)) :
    Calls Try.prog 17 #[.slice a n cap] W fun en w' => ∃ v, en = .returned v ∧ Hid (∃ cs, CursAt W.heap.size v cs ss w' ∧ cs.length = n ∧ Below W.heap.size W w') := by
  refine (law_overs a n cap Rs W h hn hl).mono ?_
  rintro en w' ⟨⟨v, cs, h1, h2⟩, h3⟩
  rw [hT.out] at h2
  exact ⟨v, h1, Lib.hid ⟨cs, h2, by rw [← h2.2.1.has.1, ← hT.out, List.length_map, ← h.out.len], h3⟩⟩
theorem from_nil_of (W : World) : Calls Try.prog 23 #[.nilFunc] W fun en w' => ∃ p, en = .returned (.pointer p) ∧ Hid (∃ cu : Cu, cu.v = .pointer p ∧ cu.I [] 0 false w' ∧ (∀ k, cu.F k → W.heap.size ≤ k) ∧ Below W.heap.size W w') := by
  refine (merge_From_nil W).mono ?_
  rintro en w' ⟨cu, h1, ⟨p, h2⟩, h3, h4, h5⟩
  exact ⟨p, by rw [h1, h2], Lib.hid ⟨cu, h2, h3, fun k hk => (h4 k hk).resolve_left fun h => h, h5⟩⟩
/-- Four cursors, merged. -/
theorem merge_four {B : Nat} {c0 c1 c2 c3 : Cu} {p0 p1 p2 p3 : Option Addr} {ss : List (List Ent × Int)} {w : World} (h : Curs B [c0, c1, c2, c3] ss w) (h0 : c0.v = .pointer p0) (h1 : c1.v = .pointer p1) (h2 : c2.v = .pointer p2) (h3 : c3.v = .pointer p3) (hB : B ≤ w.heap.size) :
    Calls Try.prog 18 #[.slice (some ⟨w.heap.size, 0, none⟩) 4 4] (w.alloc (.cells #[.pointer p0, .pointer p1, .pointer p2, .pointer p3] 29)) fun en w' => ∃ p, en = .returned (.pointer p) ∧ Hid (∃ cu : Cu, cu.v = .pointer p ∧ cu.I (mergeP ss).1 (mergeP ss).2 false w' ∧ (∀ k, cu.F k → B ≤ k) ∧ Below w.heap.size w w') := by
  obtain ⟨w4, hw4⟩ : ∃ w4, w4 = w.alloc (.cells #[.pointer p0, .pointer p1, .pointer p2, .pointer p3] 29) := ⟨_, rfl⟩
  have K4 : Below w.heap.size w w4 := by rw [hw4]; exact (Below.refl _ _).alloc (Nat.le_refl _) _
  have D4 := h.below K4
  have hh4 : w4.heap[w.heap.size]? = some (.cells #[.pointer p0, .pointer p1, .pointer p2, .pointer p3] 29 (0, 0)) := by rw [hw4]; exact heap_new w _
  have HC4 : IsC w4 w.heap.size (some ⟨w.heap.size, 0, none⟩) 4 [c0, c1, c2, c3] := by
    refine ⟨rfl, heap_lt hh4, 0, .inr rfl, fun k c hc => ?_⟩
    match k, hc with
    | 0, hc => injection hc with hc; subst hc; rw [h0]; simp [World.cell?, hh4]
    | 1, hc => injection hc with hc; subst hc; rw [h1]; simp [World.cell?, hh4]
    | 2, hc => injection hc with hc; subst hc; rw [h2]; simp [World.cell?, hh4]
    | 3, hc => injection hc with hc; subst hc; rw [h3]; simp [World.cell?, hh4]
    | k + 4, hc => cases hc
  rw [← hw4]
  refine (merge_Merge _ 4 4 w.heap.size [c0, c1, c2, c3] ss w4 D4.ptr HC4 (by omega) D4.apart D4.has).mono ?_
  rintro en w' ⟨cu, h1, ⟨p, h2⟩, h3, h4, h5⟩
  exact ⟨p, by rw [h1, h2], Lib.hid ⟨cu, h2, h3, fun k hk => (h4 k hk).elim (D4.low k) fun hh => Nat.le_trans hB (Nat.le_trans K4.size hh), K4.trans (h5.mono K4.size)⟩⟩
/-- Curs of the law's four. -/
theorem curs_four {x0 x2 x3 x5 : World} {c1 c2 c3 : Cu} {l1 l3 : List Ent} {e1 e3 : Int} {p1 p2 p3 : Option Addr} (b02 : Below x0.heap.size x0 x2) (v1 : c1.v = .pointer p1) (i1 : c1.I l1 e1 false x2) (f1 : ∀ k, c1.F k → x0.heap.size ≤ k)
    (b23 : Below x2.heap.size x2 x3) (v2 : c2.v = .pointer p2) (i2 : c2.I [] 0 false x3) (f2 : ∀ k, c2.F k → x2.heap.size ≤ k) (b35 : Below x3.heap.size x3 x5) (v3 : c3.v = .pointer p3) (i3 : c3.I l3 e3 false x5) (f3 : ∀ k, c3.F k → x3.heap.size ≤ k) :
    Curs x0.heap.size [cuNil, c1, c2, c3] [([], 0), (l1, e1), ([], 0), (l3, e3)] x5 :=
  ((((Curs.nil x0.heap.size x0).snoc (Nat.le_refl _) (Below.refl _ _) ⟨none, rfl⟩ (c := cuNil) ⟨rfl, rfl⟩ fun k h => h.elim).snoc (Nat.le_refl _) b02 ⟨p1, v1⟩ i1 f1).snoc b02.size b23 ⟨p2, v2⟩ i2 f2).snoc (Nat.le_trans b02.size b23.size) b35 ⟨p3, v3⟩ i3 f3
set_option maxHeartbeats 8000000 in
theorem parts_walk (a : Option Addr) (n c : Nat) (Ls : List Lst) (cut : Int) (w : World) (h : Hid (IsLists w a n Ls)) (hn : n ≤ 9223372036854775807) (hcut : -9223372036854775808 ≤ cut ∧ cut ≤ 9223372036854775807) :
    Calls Try.prog 5 #[.slice a n c, .int .i64 cut] w fun en w' => en = .returned (.bool true) ∧ Below w.heap.size w w' := by
  have HAW := Lib.hid (law_awake_pos w)
  have HCUT := Lib.hid hcut
  clear hcut
  go_enter Try.func5, Try.ntmps5
  go_wp2_with fail
  refine HAW.out.mono ?_
  rintro en w2 ⟨rfl, k2, hp2⟩
  have K2 := Lib.hid k2
  have HP2 := Lib.hid hp2
  have L2 := Lib.hid (h.out.below k2)
  have HAW2 := Lib.hid (law_awake w2)
  clear k2 hp2
  by_cases h12 : 12 < n
  · go_wp2_with fail
    refine HAW2.out.mono ?_
    rintro en w5 ⟨rfl, k5⟩
    have K5 := Lib.hid (K2.out.trans (k5.mono K2.out.size))
    clear k5
    go_wp2_with fail
    go_ret
    exact ⟨rfl, K5.out⟩
  · obtain ⟨i0, hi, hz0, hz1, hz2⟩ := info_parts infoRow
    have HI := Lib.hid (And.intro hi (And.intro hz0 (And.intro hz1 hz2)))
    obtain ⟨j0, hj, hy0, hy1, hy2⟩ := info_parts infoE
    have HJ := Lib.hid (And.intro hj (And.intro hy0 (And.intro hy1 hy2)))
    clear hi hz0 hz1 hz2 hj hy0 hy1 hy2
    go_wp2_with fail
    go_loopw [5, 6] (fun v iv wr => ∃ (k : Nat) (Rs : List Rw), k ≤ n ∧ iv = .int .i64 k ∧ Rs.length = k ∧ Hid (OwnR wr w2.heap.size v Rs) ∧ Hid (EachAt wr w2.heap.size wr.heap.size Rs) ∧ Hid (pairs Rs = (Ls.take k).map risP) ∧ Hid (∀ r ∈ Rs, r.len ≤ 300 ∧ fitE r.T) ∧ Hid (∀ l ∈ Ls.take k, l.T.length ≤ 300) ∧ Hid (Below w2.heap.size w2 wr)) (fun v iv wr => n - (intOf iv).toNat)
    case atStart => exact ⟨0, [], Nat.zero_le _, rfl, rfl, Lib.hid (OwnR.nil _ _), Lib.hid (fun r hr => by cases hr), Lib.hid (by simp [pairs]), Lib.hid (fun r hr => by cases hr), Lib.hid (fun l hl => by simp at hl), Lib.hid (Below.refl _ _)⟩
    case round =>
      obtain ⟨k, Rs, hk, rfl, hRs, hO, hE, hP, hF, hF3, hBl⟩ := hrel
      obtain ⟨wo, hwo⟩ : ∃ wo, wo = wr := ⟨_, rfl⟩
      subst hwo
      obtain ⟨a3, cap3, rfl⟩ := hO.out.slice
      have HRS := Lib.hid hRs
      rw [hRs] at hO ⊢
      clear hRs
      have hBr := Lib.hid hBl.out.size
      have hLr := Lib.hid (L2.out.below hBl.out)
      have HKB := Lib.hid (show Below w.heap.size w wo from K2.out.trans (hBl.out.mono K2.out.size))
      rcases Nat.lt_or_ge k n with hlt | hge
      · obtain ⟨b, off, l, rfl, hl, hbw, hc, hEl⟩ := hLr.out.get hlt
        obtain ⟨la, ln, lc, lT⟩ := l
        simp only at hc hEl
        have HL := Lib.hid hl
        have HE := Lib.hid hEl
        have HBW := Lib.hid hbw
        have hln := hEl.big
        have HFW := Lib.hid (law_few la ln lc lT wo (Lib.hid hEl.is) hEl.big (Lib.hid hEl.fit))
        clear hl hEl hbw
        cases hfw : fewB lT with
        | false =>
          rw [hfw] at HFW
          clear hfw
          go_wp2_with fail
          refine HFW.out.mono ?_
          rintro en w5 ⟨rfl, k5⟩
          have K5 := Lib.hid k5
          clear k5
          go_wp2_with fail
          go_ret
          exact ⟨rfl, HKB.out.trans (K5.out.mono HKB.out.size)⟩
        | true =>
          rw [hfw] at HFW
          have HFIT := Lib.hid (fit_ris hfw)
          clear hfw
          by_cases h300 : 300 < ln
          · go_wp2_with fail
            refine HFW.out.mono ?_
            rintro en w5 ⟨rfl, k5⟩
            have K5 := Lib.hid k5
            have hc : w5.cell? ⟨b, off + k, none⟩ = some (.slice la ln lc) := by rw [k5.cell HBW.out]; exact hc
            clear k5
            go_wp2_with fail
            go_ret
            exact ⟨rfl, HKB.out.trans (K5.out.mono HKB.out.size)⟩
          · go_wp2_with fail
            refine HFW.out.mono ?_
            rintro en w5 ⟨rfl, k5⟩
            have K5 := Lib.hid k5
            have hc : w5.cell? ⟨b, off + k, none⟩ = some (.slice la ln lc) := by rw [k5.cell HBW.out]; exact hc
            have E5 := Lib.hid (HE.out.is.below k5)
            have HLN := Lib.hid E5.out.1
            have HRI := Lib.hid (law_rising_any la ln lc lT w5 E5 (by omega))
            clear k5
            go_wp2_with fail
            refine HRI.out.mono ?_
            rintro en w8 ⟨⟨v8, rfl, hO8⟩, k8⟩
            obtain ⟨a8, cap8, rfl⟩ := hO8.slice
            obtain ⟨R, hR⟩ : ∃ R, R = rising lT := ⟨_, rfl⟩
            rw [← hR] at hO8 ⊢
            obtain ⟨m, hm⟩ : ∃ m, m = R.length := ⟨_, rfl⟩
            have hm300 : m ≤ 300 := by
              rw [hm, hR]
              have h1 := rising_len lT
              rw [← HLN.out] at h1
              omega
            rw [← hm] at hO8 ⊢
            have P8 := Lib.hid hO8
            have K8 := Lib.hid (show Below wo.heap.size wo w8 from K5.out.trans (k8.mono K5.out.size))
            have O8 := Lib.hid (hO.out.only (S := fun _ => False) (Only.of_below' K8.out rfl) fun _ _ h => h)
            have E8 := Lib.hid (hE.out.only (S := fun _ => False) (Only.of_below' K8.out rfl) fun _ _ _ _ h => h)
            have s58 := Lib.hid k8.size
            have HR := Lib.hid hR
            have HM := Lib.hid hm
            clear hO8 k8 hR hm HRI HFW hc
            obtain ⟨hi, hz0, hz1, hz2⟩ := HI.out
            go_wp2_with (at_builtin; refine wpList_append_off rfl (.tmp 44) (.tmp 51) 27 rfl w2.heap.size 24 i0 _ 2 32 Try.underlying27 hi hz0 hz1 hz2 rfl (.slice a3 k cap3) k (rcells Rs) rfl ?c1 (.slice (some ⟨w8.heap.size, 0, none⟩) 1 1) rfl 1 [.slice a8 m cap8, .int .i64 0] ?c2 ?c3 ?c4 ?c5 ?_)
            case c1 => have := O8.out; unfold OwnR at this; rw [HRS.out] at this; exact OffRow.allocd this _
            case c2 => exact src_block (size := 2) (cs := #[.slice a8 m cap8, .int .i64 0]) Try.underlying27 (heap_new _ _) 1 1 rfl (by intro u hu; simp at hu; rcases hu with rfl | rfl <;> rfl)
            case c3 => unfold maxLen; omega
            case c4 => omega
            case c5 => have := K8.out.size; have := hBr.out; simp; omega
            intro v9 w9 hr9 hg9 hat9
            have O9 := Lib.hid (show OwnR w9 w2.heap.size v9 (Rs ++ [⟨a8, m, cap8, R, 0⟩]) by
              unfold OwnR
              rw [rcells_append, List.length_append, HRS.out]
              exact hr9)
            have g9 : Only (fun j => (Value.slice a3 k cap3).ownBlock = some j) w8 w9 := ((Only.refl _ w8).alloc _).grown hg9 fun j hj => .inl hj
            have hE8 : EachAt w8 w2.heap.size w8.heap.size (Rs ++ [⟨a8, m, cap8, R, 0⟩]) := fun r hr => by
              rcases List.mem_append.1 hr with hr | hr
              · obtain ⟨x1, x2, x3⟩ := E8.out r hr
                exact ⟨x1, x2, fun j hj => Nat.lt_of_lt_of_le (x3 j hj) K8.out.size⟩
              · rw [List.mem_singleton.1 hr]
                exact ⟨OwnE.wide (Nat.le_trans hBr.out K5.out.size) P8.out, HM.out, fun j hj => (OffRow.lt P8.out j hj).2⟩
            have E9 := Lib.hid (show EachAt w9 w2.heap.size w9.heap.size (Rs ++ [⟨a8, m, cap8, R, 0⟩]) from fun r hr => by
              obtain ⟨x1, x2, x3⟩ := (hE8.only g9 fun r hr j hj hg => by
                obtain ⟨cur, hc⟩ := OffRow.tag O8.out hg
                exact hE8.tag hc r hr j hj rfl) r hr
              exact ⟨x1, x2, fun j hj => Nat.lt_of_lt_of_le (x3 j hj) g9.size⟩)
            have B9 := Lib.hid (show Below w2.heap.size w2 w9 from (hBl.out.trans (K8.out.mono hBr.out)).trans (g9.below2 (fun j hj => (OffRow.lt O8.out j hj).1) (by have := K8.out.size; have := hBr.out; omega)))
            have P9 := Lib.hid (show pairs (Rs ++ [⟨a8, m, cap8, R, 0⟩]) = (Ls.take (k + 1)).map risP by
              rw [List.take_add_one, HL.out, List.map_append, ← hP.out]
              simp [pairs, risP, HR.out])
            have F9 := Lib.hid (show ∀ r ∈ Rs ++ [⟨a8, m, cap8, R, 0⟩], r.len ≤ 300 ∧ fitE r.T from fun r hr => by
              rcases List.mem_append.1 hr with hr | hr
              · exact hF.out r hr
              · rw [List.mem_singleton.1 hr]
                exact ⟨hm300, by rw [HR.out]; exact HFIT.out⟩)
            have F93 := Lib.hid (show ∀ l ∈ Ls.take (k + 1), l.T.length ≤ 300 by
              rw [List.take_add_one, HL.out]
              intro l hl
              rcases List.mem_append.1 hl with hl | hl
              · exact hF3.out l hl
              · have := List.mem_singleton.1 (by simpa using hl)
                rw [this]
                have := HLN.out
                simp only
                omega)
            clear hr9 hg9 hat9 g9 hE8 hi hz0 hz1 hz2
            go_wp2_with fail
            go_roundw
            case rel => exact ⟨k + 1, _, by omega, by go_num, by rw [List.length_append, HRS.out]; rfl, O9, E9, P9, F9, F93, B9⟩
            case measure => simp [intOf]; omega
      · obtain rfl : n = k := by omega
        have HTK := Lib.hid (show Ls.take n = Ls from List.take_of_length_le (by rw [h.out.len]; exact Nat.le_refl _))
        rw [HTK.out] at hP hF3
        have HT := Lib.hid (show Rs.map Rw.told = Ls.map risP from (pairs_ris hP.out).2.trans hP.out)
        have hgm := good_merge (good_ris Ls)
        obtain ⟨M, hM⟩ : ∃ M, M = (mergeP (Ls.map risP)).1 := ⟨_, rfl⟩
        have HMG := Lib.hid (show mergeP (Ls.map risP) = (M, 0) from Prod.ext hM.symm hgm.1)
        have HRM := Lib.hid (show rising M = M by rw [hM]; exact rising_self hgm.2.1 fun x hx => ris_norm Ls hx)
        have HML := Lib.hid (show M.length ≤ 4000 by
          have h1 := mergeP_len (Ls.map risP)
          have h2 := ris_total Ls hF3.out
          rw [← h.out.len] at h2
          have h3 : n * 300 ≤ 12 * 300 := Nat.mul_le_mul_right _ (by omega)
          rw [hM]
          omega)
        have HIR := Lib.hid (hO.out.rows HRS.out.symm hE.out fun r hr => ⟨by have := (hF.out r hr).1; omega, (hF.out r hr).2⟩)
        clear hgm hM
        have HLN := Lib.hid (show ∀ r ∈ Rs, r.len ≤ 1000000 from fun r hr => by have := (hF.out r hr).1; omega)
        have HOV := Lib.hid (law_overs a3 n cap3 Rs wo HIR (by omega) HLN)
        rw [HT.out] at HOV
        obtain ⟨qv, hqv⟩ : ∃ qv, qv = wrap64 ((IntKind.u64.wrap cut).tmod ((n : Int) + 1)) := ⟨_, rfl⟩
        obtain ⟨q, hqn, hq⟩ : ∃ q : Nat, q ≤ n ∧ qv = (q : Int) := by
          have h0 : 0 ≤ IntKind.u64.wrap cut := by
            rw [IntKind.wrap]
            simp only [IntKind.signed, IntKind.bits, Bool.false_eq_true, if_false]
            exact Int.emod_nonneg _ (by decide)
          have h1 : (IntKind.u64.wrap cut).tmod ((n : Int) + 1) = (IntKind.u64.wrap cut) % ((n : Int) + 1) := Int.tmod_eq_emod_of_nonneg h0
          have h2 := Int.emod_nonneg (IntKind.u64.wrap cut) (show (n : Int) + 1 ≠ 0 by omega)
          have h3 := Int.emod_lt_of_pos (IntKind.u64.wrap cut) (show 0 < (n : Int) + 1 by omega)
          refine ⟨((IntKind.u64.wrap cut) % ((n : Int) + 1)).toNat, by omega, ?_⟩
          rw [hqv, h1]
          rw [Int.toNat_of_nonneg h2]
          exact IntWalk.wrap64_in _ (by omega)
        subst hq
        have HQ := Lib.hid hqv
        clear hqv
        go_wp2_with fail
        rw [← HQ.out]
        refine HOV.out.mono ?_
        rintro en w10 ⟨⟨v10, cs10, rfl, hC10⟩, k10⟩
        obtain ⟨a10, cap10, rfl⟩ := hC10.1.slice
        have hcl10 : cs10.length = n := by rw [← hC10.2.1.has.1, List.length_map, ← h.out.len]
        have HME := Lib.hid (merge_of hC10 (by omega) (by have := k10.size; have := hBr.out; have := HP2.out; omega))
        have HCL := Lib.hid hcl10
        have C10 := Lib.hid hC10
        have K10 := Lib.hid k10
        rw [hcl10] at HME ⊢
        clear hC10 k10 hcl10
        go_wp2_with fail
        refine HME.out.mono ?_
        rintro en w12 ⟨p12, rfl, hx⟩
        obtain ⟨c12, v12, i12, f12, b12⟩ := hx.out
        rw [HMG.out] at i12
        have V12 := Lib.hid v12
        have I12 := Lib.hid i12
        have F12 := Lib.hid (show ∀ j, c12.F j → wo.heap.size ≤ j from fun j hj => (f12 j hj).elim (C10.out.2.1.low j) fun h => Nat.le_trans K10.out.size h)
        have K12 := Lib.hid (show Below wo.heap.size wo w12 from K10.out.trans (b12.mono K10.out.size))
        clear hx v12 i12 f12 b12
        go_wp2_with fail
        go_loopw [9, 10] (fun lv iv wq => ∃ j : Nat, j ≤ M.length ∧ iv = .int .i64 j ∧ Hid (OwnE wq w12.heap.size lv (M.take j)) ∧ Hid (c12.I (M.drop j) 0 false wq) ∧ Hid (Only c12.F w12 wq)) (fun lv iv wq => M.length - (intOf iv).toNat)
        case atStart => exact ⟨0, Nat.zero_le _, rfl, Lib.hid (OwnE.nil _ _), Lib.hid (by rw [List.drop_zero]; exact I12.out), Lib.hid (Only.refl _ _)⟩
        case round =>
          obtain ⟨j, hj, rfl, hOl, hI, hOn⟩ := hrel
          obtain ⟨wq, hwq⟩ : ∃ wq, wq = wr := ⟨_, rfl⟩
          subst hwq
          have hj4 : j ≤ 4000 := by have := HML.out; omega
          have HJM := Lib.hid hj
          have HN := Lib.hid (cur_next (Lib.hid c12.ok) _ _ _ _ hI)
          rw [V12.out] at HN
          obtain ⟨al, capl, rfl⟩ := hOl.out.slice
          obtain ⟨ml, hml⟩ : ∃ ml, ml = (M.take j).length := ⟨_, rfl⟩
          have hmlj : ml = j := by rw [hml, List.length_take]; omega
          rw [← hml] at hOl ⊢
          have HLM := Lib.hid hml
          subst hmlj
          have HF12lt := Lib.hid (show ∀ k, c12.F k → k < w12.heap.size from fun k hk => Nat.lt_of_lt_of_le (c12.ok.low k hk) (c12.ok.size _ _ _ _ I12.out))
          clear hml hj
          rcases Nat.lt_or_ge ml M.length with hlt2 | hge2
          · obtain ⟨x, hx⟩ : ∃ x, M[ml]? = some x := ⟨_, List.getElem?_eq_getElem hlt2⟩
            have hdr : M.drop ml = x :: M.drop (ml + 1) := by
              rw [List.drop_eq_getElem_cons hlt2]
              rw [List.getElem?_eq_getElem hlt2] at hx
              injection hx with hx
              rw [hx]
            rw [hdr] at HN
            have HTX := Lib.hid (off_take hx)
            have HLT := Lib.hid hlt2
            clear hdr hx hlt2
            go_wp2_with fail
            refine HN.out.mono ?_
            rintro en w21 ⟨hA, hI2, k21⟩
            simp only [List.tail_cons, List.isEmpty_cons] at hI2
            have I21 := Lib.hid hI2
            have k21' : Only c12.F wq w21 := k21
            have On21 := Lib.hid (hOn.out.trans k21')
            have Ol21 := Lib.hid (hOl.out.only k21' fun j hj h => by have := (OffRow.lt hOl.out j hj).1; have := HF12lt.out j h; omega)
            clear hI2 k21 k21'
            cases hA with
            | next =>
              obtain ⟨w22, hw22⟩ : ∃ w22, w22 = w21.alloc (.cells #[.string (bs x.key), .string (bs x.val), .bool x.gone] 32) := ⟨_, rfl⟩
              have K22 := Lib.hid (show Below w21.heap.size w21 w22 by rw [hw22]; exact (Below.refl _ _).alloc (Nat.le_refl _) _)
              have Y22 := Lib.hid (show C3 w21.heap.size 32 (.string (bs x.key)) (.string (bs x.val)) (.bool x.gone) w22 by rw [hw22]; exact heap_new w21 _)
              have I22 := Lib.hid (c12.ok.below I21.out K22.out)
              have Ol22 := Lib.hid (Ol21.out.below K22.out)
              have On22 := Lib.hid (On21.out.trans (Only.of_below' K22.out rfl))
              have HW22 := Lib.hid hw22
              have y0 := Y22.out.c0
              have y1 := Y22.out.c1
              have y2 := Y22.out.c2
              clear hw22
              obtain ⟨hj, hy0, hy1, hy2⟩ := HJ.out
              go_upto_region 17 with (fail)
              rw [← HW22.out]
              go_wp2_with (at_builtin; refine wpList_append_off rfl (.tmp 78) (.tmp 80) 22 rfl w12.heap.size 32 j0 _ 3 40 Try.underlying22 hj hy0 hy1 hy2 rfl (.slice al ml capl) ml (ecells (M.take ml)) rfl ?c1 (.slice (some ⟨w22.heap.size, 0, none⟩) 1 1) rfl 1 x.vals ?c2 ?c3 ?c4 ?c5 ?_)
              case c1 => have := Ol22.out; unfold OwnE at this; rw [← HLM.out] at this; exact OffRow.allocd this _
              case c2 => exact src_block (size := 3) (cs := #[.string (bs x.key), .string (bs x.val), .bool x.gone]) Try.underlying22 (heap_new _ _) 1 1 rfl (by intro u hu; simp at hu; rcases hu with rfl | rfl | rfl <;> rfl)
              case c3 => unfold maxLen; omega
              case c4 => omega
              case c5 => have := On22.out.size; simp; omega
              intro v9 w9 hr9 hg9 hat9
              have g9 : Only (fun j => (Value.slice al ml capl).ownBlock = some j) w22 w9 := ((Only.refl _ w22).alloc _).grown hg9 fun j hj => .inl hj
              have hown : ∀ j, (Value.slice al ml capl).ownBlock = some j → w12.heap.size ≤ j := fun j hj => (OffRow.lt hOl.out j hj).1
              have O9 := Lib.hid (show OwnE w9 w12.heap.size v9 (M.take (ml + 1)) by
                rw [HTX.out]
                unfold OwnE
                rw [ecells_append, List.length_append, ← HLM.out]
                exact hr9)
              have I9 := Lib.hid (c12.ok.only I22.out g9 fun j hj h => by have := hown j h; have := HF12lt.out j hj; omega)
              have On9 := Lib.hid (show Only c12.F w12 w9 from On22.out.andThen g9 fun j hj h => by have := hown j h; omega)
              clear hr9 hg9 hat9 g9 hown hj hy0 hy1 hy2
              go_wp2_with fail
              go_roundw
              case rel => exact ⟨ml + 1, HLT.out, by go_num, O9, I9, On9⟩
              case measure => have := HLT.out; simp [intOf]; omega
          · have hdr : M.drop ml = [] := List.drop_eq_nil_of_le hge2
            rw [hdr] at HN
            have HMT := Lib.hid (show M.take ml = M from List.take_of_length_le hge2)
            rw [HMT.out] at hOl HLM
            clear hdr
            go_wp2_with fail
            refine HN.out.mono ?_
            rintro en w21 ⟨hA, hI2, k21⟩
            have On21 := Lib.hid (hOn.out.trans k21)
            have Ol21 := Lib.hid (hOl.out.only k21 fun j hj h => by have := (OffRow.lt hOl.out j hj).1; have := HF12lt.out j h; omega)
            clear hI2 k21
            cases hA with
            | ends =>
              obtain ⟨w22, hw22⟩ : ∃ w22, w22 = w21.alloc (.cells #[.string ⟨#[]⟩, .string ⟨#[]⟩, .bool false] 32) := ⟨_, rfl⟩
              have K22 := Lib.hid (show Below w21.heap.size w21 w22 by rw [hw22]; exact (Below.refl _ _).alloc (Nat.le_refl _) _)
              have Ol22 := Lib.hid (Ol21.out.below K22.out)
              have On22 := Lib.hid (On21.out.trans (Only.of_below' K22.out rfl))
              have HW22 := Lib.hid hw22
              have HRI := Lib.hid (law_rising_any al ml capl M w22 (Lib.hid (Ol22.out.is HLM.out)) (by omega))
              rw [HRM.out] at HRI
              clear hw22
              go_upto_region 17 with (fail)
              rw [← HW22.out]
              go_wp2_with fail
              refine HRI.out.mono ?_
              rintro en w23 ⟨⟨v23, rfl, hO23⟩, k23⟩
              obtain ⟨a23, cap23, rfl⟩ := hO23.slice
              rw [← HLM.out] at hO23 ⊢
              have HSM := Lib.hid (ref_Same al a23 ml capl cap23 M w23 (Lib.hid ((Ol22.out.below k23).is HLM.out)) (Lib.hid (hO23.is HLM.out)) (by omega))
              have K23 := Lib.hid k23
              have Ol23 := Lib.hid (Ol22.out.below k23)
              clear hO23 k23
              go_wp2_with fail
              refine HSM.out.mono ?_
              rintro en w24 ⟨rfl, k24⟩
              have Ol24 := Lib.hid (Ol23.out.below k24)
              have K24 := Lib.hid (show Only c12.F w12 w24 from (On22.out.trans (Only.of_below' K23.out rfl)).trans (Only.of_below' k24 rfl))
              clear k24
              have O24 := Lib.hid ((hO.out.only (S := fun _ => False) (Only.of_below' K12.out rfl) fun _ _ h => h).only K24.out fun j hj h => by have := (OffRow.lt hO.out j hj).2; have := F12.out j h; omega)
              have E24 := Lib.hid ((hE.out.only (S := fun _ => False) (Only.of_below' K12.out rfl) fun _ _ _ _ h => h).only K24.out fun r hr j hj h => by have := (hE.out r hr).2.2 j hj; have := F12.out j h; omega)
              have hO24 : OffRow w24 w2.heap.size 24 2 (.slice a3 n cap3) n (rcells Rs) := by have := O24.out; unfold OwnR at this; rwa [HRS.out] at this
              obtain ⟨hi, hz0, hz1, hz2⟩ := HI.out
              have hto := slice_to Try.underlying27 hi hO24 hqn
              obtain ⟨ad, hfrom, hOd, -⟩ := slice_off Try.underlying27 hi hz1 hO24 hqn
              have HFT := Lib.hid (show ∀ r ∈ Rs, r.len ≤ 9223372036854775807 ∧ fitE r.T from fun r hr => ⟨by have := (hF.out r hr).1; omega, (hF.out r hr).2⟩)
              have hqt : (Rs.take q).length = q := by rw [List.length_take, HRS.out]; omega
              have hqd : (Rs.drop q).length = n - q := by rw [List.length_drop, HRS.out]
              have IT := Lib.hid (show IsRows w24 a3 q (Rs.take q) from by
                have h1 : OwnR w24 w2.heap.size (.slice a3 q cap3) (Rs.take q) := by
                  have := hO24.take hqn
                  rw [rcells_take] at this
                  unfold OwnR
                  rwa [hqt]
                exact h1.rows hqt.symm (E24.out.sub fun r hr => List.mem_of_mem_take hr) fun r hr => HFT.out r (List.mem_of_mem_take hr))
              have ID := Lib.hid (show IsRows w24 ad (n - q) (Rs.drop q) from by
                have h1 : OwnR w24 w2.heap.size (.slice ad (n - q) (cap3 - q)) (Rs.drop q) := by
                  have := hOd
                  rw [rcells_drop] at this
                  unfold OwnR
                  rwa [hqd]
                exact h1.rows hqd.symm (E24.out.sub fun r hr => List.mem_of_mem_drop hr) fun r hr => HFT.out r (List.mem_of_mem_drop hr))
              have IA := Lib.hid (show IsRows w24 a3 n Rs from O24.out.rows HRS.out.symm E24.out HFT.out)
              have HTT := Lib.hid (show (Rs.take q).map Rw.told = (Ls.take q).map risP by rw [List.map_take, HT.out, ← List.map_take])
              have HTD := Lib.hid (show (Rs.drop q).map Rw.told = (Ls.drop q).map risP by rw [List.map_drop, HT.out, ← List.map_drop])
              have HLT := Lib.hid (show ∀ r ∈ Rs.take q, r.len ≤ 1000000 from fun r hr => HLN.out r (List.mem_of_mem_take hr))
              have HLD := Lib.hid (show ∀ r ∈ Rs.drop q, r.len ≤ 1000000 from fun r hr => HLN.out r (List.mem_of_mem_drop hr))
              have HPP := Lib.hid (show mergeP [([], 0), mergeP ((Ls.take q).map risP), ([], 0), mergeP ((Ls.drop q).map risP)] = (M, 0) by
                rw [merge_parts (good_ris _) (good_ris _), ← List.map_append, List.take_append_drop, HMG.out])
              have HPT := Lib.hid (show mergeP (Ls.map risP ++ Ls.map risP) = (M, 0) by rw [merge_twice (good_ris _), HMG.out])
              have hsw := Lib.hid (show w2.heap.size ≤ w24.heap.size from Nat.le_trans hBr.out (Nat.le_trans K12.out.size K24.out.size))
              have hpz := Lib.hid (show 0 < w24.heap.size by have := HP2.out; have := hsw.out; omega)
              have IT0 := Lib.hid (IT.out.below (Below.refl _ _).drew)
              have h1 := Lib.hid (overs_of (W := w24.drew) cap3 IT0 (by omega) HLT HTT)
              have kw : True := trivial
              clear hO24 hOd hi hz0 hz1 hz2 hqt hqd HSM HRI HN
              go_wp2_with fail
              have hpz0 := Lib.hid (show 0 < w24.drew.heap.size from hpz.out)
              have ID0 := Lib.hid (ID.out.below (Below.refl _ _).drew)
              go_region_held3 (fun w' => True) (trivial)
          (first
          | (go_at_call 17; with_reducible refine h1.out.mono ?_; rintro en x1 ⟨v1, rfl, hx1⟩; obtain ⟨cs1, q1, l1, b1⟩ := hx1.out; have B1 := Lib.hid b1; have Q1 := Lib.hid q1; have h2 := Lib.hid (merge_of q1 (by omega) (Nat.lt_of_lt_of_le hpz0.out b1.size)); clear hx1 q1 l1 b1)
          | (go_at_call 18; with_reducible refine h2.out.mono ?_; rintro en x2 ⟨p2, rfl, hx2⟩; obtain ⟨c2, v2, i2, f2, b2⟩ := hx2.out; have V2 := Lib.hid v2; have I2 := Lib.hid i2; have B2 := Lib.hid (B1.out.trans (b2.mono B1.out.size)); have F2 := Lib.hid (fun k hk => (f2 k hk).elim (CursAt.low Q1.out k) (fun hh => Nat.le_trans B1.out.size hh) : ∀ k, c2.F k → w24.drew.heap.size ≤ k); have h3 := Lib.hid (from_nil_of x2); clear hx2 v2 i2 f2 b2)
          | (go_at_call 23; with_reducible refine h3.out.mono ?_; rintro en x3 ⟨p3, rfl, hx3⟩; obtain ⟨c3, v3, i3, f3, b3⟩ := hx3.out; have V3 := Lib.hid v3; have I3 := Lib.hid i3; have F3 := Lib.hid f3; have B3 := Lib.hid b3; have B03 := Lib.hid (B2.out.trans (b3.mono B2.out.size)); have h4 := Lib.hid (overs_of (W := x3) (cap3 - q) (Lib.hid (ID0.out.below B03.out)) (by omega) HLD HTD); clear hx3 v3 i3 f3 b3)
          | (go_at_call 17; with_reducible refine h4.out.mono ?_; rintro en x4 ⟨v4, rfl, hx4⟩; obtain ⟨cs4, q4, l4, b4⟩ := hx4.out; have B4 := Lib.hid b4; have Q4 := Lib.hid q4; have h5 := Lib.hid (merge_of q4 (by omega) (Nat.lt_of_lt_of_le (Nat.lt_of_lt_of_le hpz0.out B03.out.size) b4.size)); clear hx4 q4 l4 b4)
          | (go_at_call 18; with_reducible refine h5.out.mono ?_; rintro en x5 ⟨p5, rfl, hx5⟩; obtain ⟨c5, v5, i5, f5, b5⟩ := hx5.out; have B35 := Lib.hid (B4.out.trans (b5.mono B4.out.size)); have B05 := Lib.hid (B03.out.trans (B35.out.mono B03.out.size)); have D5 := curs_four B2.out V2.out I2.out F2.out B3.out V3.out I3.out F3.out B35.out v5 i5 (fun k hk => (f5 k hk).elim (CursAt.low Q4.out k) (fun hh => Nat.le_trans B4.out.size hh)); have h6 := Lib.hid (merge_four D5 (p0 := none) rfl V2.out V3.out v5 B05.out.size); clear hx5 v5 i5 f5 b5 D5)
          | (go_at_call 18; with_reducible refine h6.out.mono ?_; rintro en x6 ⟨p6, rfl, hx6⟩))
              obtain ⟨c6, v6, i6, f6, b6⟩ := hx6.out
              have hpe : mergeP [([], 0), ((mergeP ((Ls.take q).map risP)).1, (mergeP ((Ls.take q).map risP)).2), ([], 0), ((mergeP ((Ls.drop q).map risP)).1, (mergeP ((Ls.drop q).map risP)).2)] = (M, 0) := HPP.out
              rw [hpe] at i6
              have V6 := Lib.hid v6
              have I6 := Lib.hid i6
              have F6 := Lib.hid (show ∀ k, c6.F k → w24.heap.size ≤ k from f6)
              have B06 := Lib.hid (show Below w24.heap.size w24 x6 from (Below.refl _ _).drew.trans (B05.out.trans (b6.mono B05.out.size)))
              have h8 := Lib.hid (overs_of (W := x6) cap3 (Lib.hid (IA.out.below B06.out)) (by omega) HLN HT)
              obtain ⟨e0, hi, hz0, hz1, hz2⟩ := info_parts infoC
              clear hpe v6 i6 f6 b6 hx6 hto hfrom h1 kw
              go_wp2_with fail
              refine h8.out.mono ?_
              rintro en x8 ⟨v8, rfl, hx8⟩
              obtain ⟨cs8, q8, l8, b8⟩ := hx8.out
              obtain ⟨a8, cap8, rfl⟩ := q8.1.slice
              rw [l8] at q8 ⊢
              have Q8 := Lib.hid q8
              have HL8 := Lib.hid l8
              have B8 := Lib.hid b8
              have B08 := Lib.hid (B06.out.trans (b8.mono B06.out.size))
              have h9 := Lib.hid (overs_of (W := x8) cap3 (Lib.hid (IA.out.below B08.out)) (by omega) HLN HT)
              clear hx8 q8 l8 b8
              go_wp2_with fail
              refine h9.out.mono ?_
              rintro en x9 ⟨v9, rfl, hx9⟩
              obtain ⟨cs9, q9, l9, b9⟩ := hx9.out
              obtain ⟨a9, cap9, rfl⟩ := q9.1.slice
              rw [l9] at q9 ⊢
              obtain ⟨g9, -, -, hI9⟩ := q9.1.is l9.symm (Nat.lt_of_lt_of_le (Nat.lt_of_lt_of_le hpz.out B08.out.size) b9.size)
              have Q9 := Lib.hid q9
              have HL9 := Lib.hid l9
              have B9 := Lib.hid b9
              have HI9 := Lib.hid hI9
              have O8 := Lib.hid (Q8.out.1.below b9)
              have C8 := Lib.hid (Q8.out.2.1.below b9)
              clear hx9 q9 l9 b9 hI9
              go_wp2_with (at_builtin; refine wpList_append_off rfl (.tmp 101) (.tmp 103) 39 rfl x6.heap.size 29 e0 _ 1 8 Try.underlying39 hi hz0 hz1 hz2 rfl (.slice a8 n cap8) n (cs8.map (·.v)) rfl ?c1 (.slice a9 n cap9) rfl n (cs9.map (·.v)) ?c2 ?c3 ?c4 ?c5 ?_)
              case c1 => have := O8.out; unfold OwnC at this; rwa [HL8.out] at this
              case c2 => exact src_curs cap9 Q9.out.2.1.ptr HI9.out
              case c3 => unfold maxLen; omega
              case c4 => omega
              case c5 => have := B8.out.size; have := B9.out.size; omega
              intro v11 w11 hr11 hg11 hat11
              have g11 : Only (fun j => (Value.slice a8 n cap8).ownBlock = some j) x9 w11 := (Only.refl _ x9).grown hg11 fun j hj => .inl hj
              have hown : ∀ j, (Value.slice a8 n cap8).ownBlock = some j → j < x8.heap.size := fun j hj => (OffRow.lt Q8.out.1 j hj).2
              have hAll : Curs x6.heap.size (cs8 ++ cs9) (Ls.map risP ++ Ls.map risP) x9 := C8.out.append Q9.out.2.1 (fun j hj => Q8.out.2.1.lt j hj) B8.out.size
              have hsp : ∀ j, FAll (cs8 ++ cs9) j → FAll cs8 j ∨ FAll cs9 j := fun j ⟨x, hx, hj⟩ => (List.mem_append.1 hx).imp (fun h => ⟨x, h, hj⟩) fun h => ⟨x, h, hj⟩
              have hnot : ∀ j, (Value.slice a8 n cap8).ownBlock = some j → ¬ FAll (cs8 ++ cs9) j := fun j hj h => by
                rcases hsp j h with h | h
                · exact Q8.out.2.2 j hj h
                · have := hown j hj
                  have := Q9.out.2.1.low j h
                  omega
              have C11 := Lib.hid (show CursAt x6.heap.size v11 (cs8 ++ cs9) (Ls.map risP ++ Ls.map risP) w11 from by
                refine ⟨?_, hAll.only g11 fun j hj h => hnot j h hj, fun j hj h => ?_⟩
                · unfold OwnC
                  rw [List.length_append, HL8.out, HL9.out, List.map_append]
                  exact hr11
                · rcases hat11 with e | e
                  · exact hnot j (e.symm.trans hj) h
                  · rw [e] at hj
                    injection hj with hj
                    have := hAll.lt j h
                    omega)
              have B11 := Lib.hid (show Below w24.heap.size w24 w11 from (B08.out.trans (B9.out.mono B08.out.size)).trans (g11.below2 (fun j hj => by have := (OffRow.lt Q8.out.1 j hj).1; have := B06.out.size; omega) (by have := B08.out.size; have := B9.out.size; omega)))
              have hcl : (cs8 ++ cs9).length = n + n := by rw [List.length_append, HL8.out, HL9.out]
              obtain ⟨a11, cap11, rfl⟩ := C11.out.1.slice
              rw [hcl]
              have HM11 := Lib.hid (merge_of C11.out (by rw [hcl]; omega) (Nat.lt_of_lt_of_le hpz.out B11.out.size))
              rw [hcl] at HM11
              have s611 := Lib.hid (show x6.heap.size ≤ w11.heap.size from Nat.le_trans (Nat.le_trans B8.out.size B9.out.size) g11.size)
              have I6b := Lib.hid (show c6.I M 0 false w11 from c6.ok.only ((c6.ok.below (c6.ok.below I6.out B8.out) B9.out)) g11 fun j hj h => by have := (OffRow.lt Q8.out.1 j h).1; have := Nat.lt_of_lt_of_le (c6.ok.low j hj) (c6.ok.size _ _ _ _ I6.out); omega)
              clear hr11 hg11 hat11 g11 hown hAll hsp hnot hcl hi hz0 hz1 hz2
              go_wp2_with fail
              refine HM11.out.mono ?_
              rintro en w15 ⟨p15, rfl, hx15⟩
              obtain ⟨c15, v15, i15, f15, b15⟩ := hx15.out
              rw [HPT.out] at i15
              have V15 := Lib.hid v15
              have I15 := Lib.hid i15
              have F15 := Lib.hid (show ∀ j, c15.F j → x6.heap.size ≤ j from fun j hj => (f15 j hj).elim (C11.out.2.1.low j) fun h => Nat.le_trans s611.out h)
              have B15 := Lib.hid (show Below w24.heap.size w24 w15 from B11.out.trans (b15.mono B11.out.size))
              have I6c := Lib.hid (c6.ok.below I6b.out b15)
              have L24 := Lib.hid (Ol24.out.is HLM.out)
              have L15 := Lib.hid (L24.out.below B15.out)
              have h16 := Lib.hid (law_is_not c6 V6.out (cap := capl) I6c.out L15.out (NotIn.new L24.out F6.out) (by omega))
              clear hx15 v15 i15 f15 b15
              go_wp2_with fail
              refine h16.out.mono ?_
              rintro en w16 ⟨rfl, hk16⟩
              have L16 := Lib.hid (L15.out.only hk16.out (NotIn.new L24.out F6.out))
              have I16 := Lib.hid (c15.ok.only I15.out hk16.out fun j hj h => by have := F15.out j hj; have := Nat.lt_of_lt_of_le (c6.ok.low j h) (c6.ok.size _ _ _ _ I6.out); omega)
              have F15' := Lib.hid (show ∀ j, c15.F j → w24.heap.size ≤ j from fun j hj => Nat.le_trans B06.out.size (F15.out j hj))
              have B16 := Lib.hid (show Below w24.heap.size w24 w16 from B15.out.trans (hk16.out.below2 F6.out B15.out.size))
              have h17 := Lib.hid (law_is_not c15 V15.out (cap := capl) I16.out L16.out (NotIn.new L24.out F15'.out) (by omega))
              go_wp2_with fail
              refine h17.out.mono ?_
              rintro en w17 ⟨rfl, hk17⟩
              have K24w := Lib.hid (show Below w.heap.size w w24 from (HKB.out.trans (K12.out.mono HKB.out.size)).trans (K24.out.below2 (fun j hj => Nat.le_trans HKB.out.size (F12.out j hj)) (Nat.le_trans HKB.out.size K12.out.size)))
              have K17 := Lib.hid (show Below w.heap.size w w17 from K24w.out.trans ((B16.out.trans (hk17.out.below2 F15'.out B16.out.size)).mono K24w.out.size))
              go_wp2_with fail
              go_ret
              exact ⟨rfl, K17.out⟩
end Go.Proofs.Ytbjokbnmfbfkjaa
