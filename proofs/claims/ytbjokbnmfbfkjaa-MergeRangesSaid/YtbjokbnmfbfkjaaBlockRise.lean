/- Entries by rising keys, made of any. -/
import Derived.Test.YtbjokbnmfbfkjaaBlockOwn
set_option linter.unusedVariables false
set_option maxRecDepth 100000
set_option maxRecDepth 100000
namespace Go.Proofs.Ytbjokbnmfbfkjaa
open Go.RowKit

theorem Bx3.below {c : Nat} {x : Ent} {w w' : World} (h : Bx3 c x w) (k : Below w.heap.size w w') : Bx3 c x w' := (k.block c (heap_lt h)).trans h
def noEnt : Ent := ⟨[], [], false⟩
set_option maxHeartbeats 4000000 in
theorem law_rising_cap (a : Option Addr) (len cap : Nat) (T : List Ent) (w : World) (hT : Hid (IsE w a len T)) (hl : len ≤ 100000) (hs : Hid (∀ x ∈ T, x.key.length ≤ 60000 ∧ x.val.length ≤ 60000)) :
    Calls Try.prog 20 #[.slice a len cap] w fun e w' => (∃ a' c, e = .returned (.slice a' (rising T).length c) ∧ IsE w' a' (rising T).length (rising T) ∧ (rising T).length ≤ c) ∧ Below w.heap.size w w' := by
  obtain ⟨i0, hi, hz0, hz1, hz2⟩ := info_parts infoE
  have HI := Lib.hid (And.intro hi (And.intro hz0 (And.intro hz1 hz2)))
  obtain ⟨B, hB⟩ : ∃ B, B = w.heap.size := ⟨_, rfl⟩
  rw [← hB]
  have HBW := Lib.hid hB
  clear hB hi hz0 hz1 hz2
  go_enter Try.func20, Try.ntmps20
  go_wp2_with fail
  go_loopw [3, 4] (fun v iv wr => ∃ i : Nat, i ≤ len ∧ iv = .int .i64 i ∧ Hid (OwnE wr B v (rising (T.take i))) ∧ Hid (Below B w wr)) (fun v iv wr => len - (intOf iv).toNat)
  case atStart => exact ⟨0, Nat.zero_le _, rfl, Lib.hid (OwnE.nil _ _), Lib.hid (Below.refl _ _)⟩
  case round =>
    obtain ⟨i, hi, rfl, hO, hBl⟩ := hrel
    rcases Nat.lt_or_ge i len with hlt | hge
    · obtain ⟨b, off, x, rfl, hx, _, hc⟩ := (hT.out.below (by rw [← HBW.out]; exact hBl.out)).at hlt
      have hnx := Lib.hid (show rising (T.take (i + 1)) = put (norm x) (rising (T.take i)) by rw [take_ent hx, rising_snoc])
      have hrl := Lib.hid (show (rising (T.take i)).length ≤ 100000 by have := rising_len (T.take i); rw [List.length_take] at this; omega)
      have hsx := Lib.hid (hs.out x (List.mem_of_getElem? hx))
      have hBwr := Lib.hid (show B ≤ wr.heap.size by rw [HBW.out]; exact hBl.out.size)
      generalize rising (T.take i) = R at *
      have c0 := hc.c0
      have c1 := hc.c1
      have c2 := hc.c2
      clear hx hc
      obtain ⟨W1, hW1⟩ : ∃ W1, wr.alloc (.cells #[.string (bs (norm x).key), .string (bs (norm x).val), .bool (norm x).gone] 32) = W1 := ⟨_, rfl⟩
      have P1 := Lib.hid (show OwnE W1 B u3 R ∧ Below B w W1 ∧ Bx3 wr.heap.size (norm x) W1 from by
        have hb : Below wr.heap.size wr W1 := by rw [← hW1]; exact (Below.refl _ _).alloc (Nat.le_refl _) _
        exact ⟨hO.out.below hb, hBl.out.trans (hb.mono hBwr.out), by rw [← hW1]; exact heap_new wr _⟩)
      have HW1 := Lib.hid hW1
      obtain ⟨a3, cap3, rfl⟩ := P1.out.1.slice
      obtain ⟨n, hn⟩ : ∃ n, n = R.length := ⟨_, rfl⟩
      have hnk : (norm x).key = x.key := by unfold norm; split <;> rfl
      have hnorm := Lib.hid (show (x.gone = true → wr.alloc (.cells #[.string (bs x.key), .string ⟨#[]⟩, .bool true] 32) = W1) ∧ (x.gone = false → wr.alloc (.cells #[.string (bs x.key), .string (bs x.val), .bool false] 32) = W1) from
        ⟨fun h => by rw [← HW1.out]; unfold norm; rw [if_pos h, h]; rfl, fun h => by rw [← HW1.out]; unfold norm; rw [if_neg (by rw [h]; decide), h]⟩)
      have hok := Lib.hid (show (norm x).key.length ≤ 60000 ∧ (norm x).val.length ≤ 60000 by
        unfold norm
        split
        · exact ⟨hsx.out.1, by simp⟩
        · exact hsx.out)
      rw [← hn]
      have HN := Lib.hid hn
      have hn3 : n ≤ 100000 := by rw [hn]; exact hrl.out
      have hO2 := hO.out
      rw [← hn] at hO2 P1
      obtain ⟨x', hx'⟩ : ∃ x', x' = norm x := ⟨_, rfl⟩
      rw [← hx'] at P1 hnx hok
      have HVZ := Lib.hid (fun k hk => (OffRow.lt hO2 k hk).2 : ∀ k, (Value.slice a3 n cap3).ownBlock = some k → k < wr.heap.size)
      clear hW1 HW1 hn hx' hnk hO hO2
      have zk : x'.key.length ≤ 60000 := hok.out.1
      rcases Bool.eq_false_or_eq_true x.gone with hg | hg
      rw [hg] at c2
      have HG := Lib.hid (hnorm.out.1 hg)
      clear hg hnorm
      go_upto_region 8 with (fail)
      rw [HG.out]
      clear HG c0 c1 c2
      rotate_left
      rw [hg] at c2
      have HG := Lib.hid (hnorm.out.2 hg)
      clear hg hnorm
      go_upto_region 8 with (fail)
      rw [HG.out]
      clear HG c0 c1 c2
      all_goals
        obtain ⟨Z, hZ⟩ : ∃ Z, Z = wr.heap.size := ⟨_, rfl⟩
        rw [← hZ] at P1 hBwr HVZ ⊢
        have HZ := Lib.hid hZ
        clear hZ
        go_wp2_with fail
        go_loopw [6] (fun pv wq => ∃ p : Nat, p ≤ n ∧ pv = .int .i64 p ∧ Hid (∀ j y, j < p → R[j]? = some y → ltB y.key x'.key = true) ∧ Hid (Below W1.heap.size W1 wq)) (fun pv wq => n - (intOf pv).toNat)
        case atStart => exact ⟨0, Nat.zero_le _, rfl, Lib.hid (fun j y h => absurd h (by omega)), Lib.hid (Below.refl _ _)⟩
        case round =>
          obtain ⟨p, hp, rfl, hA, hQ⟩ := hrel
          obtain ⟨wq, hwq⟩ : ∃ wq, wq = wr := ⟨_, rfl⟩
          subst hwq
          have PQ := Lib.hid (show OwnE wq B (.slice a3 n cap3) R ∧ Below B w wq ∧ Bx3 Z x' wq from ⟨P1.out.1.below hQ.out, P1.out.2.1.trans (hQ.out.mono (by rw [HBW.out]; exact P1.out.2.1.size)), P1.out.2.2.below hQ.out⟩)
          obtain ⟨d0, d1, d2⟩ := PQ.out.2.2.cells
          by_cases hpn : p < n
          · obtain ⟨y, hy⟩ : ∃ y, R[p]? = some y := ⟨_, List.getElem?_eq_getElem (by rw [← HN.out]; exact hpn)⟩
            obtain ⟨g, off, rfl, hBg, hcy⟩ := PQ.out.1.ent hy
            have e0 := hcy.c0
            have hlt2 : Op.bytesLess (bs y.key).toList (bs x'.key).toList = ltB y.key x'.key := by rw [Lib.toList_data, Lib.toList_data, bs_list, bs_list, ltB_less]
            have HY := Lib.hid hy
            clear hcy hy
            cases hc : ltB y.key x'.key with
            | true =>
              rw [hc] at hlt2
              have HA2 := Lib.hid (show ∀ j z, j < p + 1 → R[j]? = some z → ltB z.key x'.key = true from fun j z hj hz => by
                by_cases e : j < p
                · exact hA.out j z e hz
                · obtain rfl : j = p := by omega
                  rw [HY.out] at hz
                  injection hz with hz
                  rw [← hz]
                  exact hc)
              clear hc
              go_wp2_with fail
              go_quiet (fail)
              go_wp2_with fail
              go_roundw
              case rel => exact ⟨p + 1, by omega, by go_num, HA2, Lib.hid (below_drewN hQ.out _)⟩
              case measure => simp [intOf]; omega
            | false =>
              rw [hc] at hlt2
              have HP := Lib.hid (place_first (key := x'.key) (R := R) (p := p) (by rw [← HN.out]; exact hp) hA.out (fun z hz => by rw [HY.out] at hz; injection hz with hz; rw [← hz]; exact hc))
              have heq : ((bs y.key).toList == (bs x'.key).toList) = decide (y.key = x'.key) := by rw [Bool.eq_iff_iff, same_bytes, decide_eq_true_iff]
              clear hc
              go_wp2_with fail
              go_quiet (fail)
              obtain ⟨w5, hw5⟩ : ∃ w5, w5 = wq.drewN nq := ⟨_, rfl⟩
              have P5 := Lib.hid (show OwnE w5 B (.slice (some ⟨g, off, none⟩) n cap3) R ∧ Below B w w5 ∧ Bx3 Z x' w5 by rw [hw5]; exact ⟨PQ.out.1.below (below_drewN (Below.refl _ _) _), below_drewN PQ.out.2.1 _, PQ.out.2.2.below (below_drewN (Below.refl _ _) _)⟩)
              have e5 : w5.cell? ⟨g, off + p * 3, none⟩ = some (.string (bs y.key)) := by rw [hw5]; exact e0
              rw [← hw5]
              clear hw5 e0 d0 d1 d2 PQ
              obtain ⟨d0, d1, d2⟩ := P5.out.2.2.cells
              by_cases hs : y.key = x'.key
              · rw [decide_eq_true hs] at heq
                have HRS := Lib.hid (show put x' R = R.set p x' by have := put_same (x := x') (y := y) (R := R) (by rw [HP.out]; exact HY.out) hs; rwa [HP.out] at this)
                clear hs
                go_wp2_with fail
                go_quiet (fail)
                obtain ⟨w6, hw6⟩ : ∃ w6, w6 = w5.drewN nq := ⟨_, rfl⟩
                have P6 := Lib.hid (show OwnE w6 B (.slice (some ⟨g, off, none⟩) n cap3) R ∧ Below B w w6 ∧ Bx3 Z x' w6 by rw [hw6]; exact ⟨P5.out.1.below (below_drewN (Below.refl _ _) _), below_drewN P5.out.2.1 _, P5.out.2.2.below (below_drewN (Below.refl _ _) _)⟩)
                rw [← hw6]
                clear hw6 e5 d0 d1 d2 P5 hlt2 heq
                obtain ⟨d0, d1, d2⟩ := P6.out.2.2.cells
                obtain ⟨g', off', e, _, hcz⟩ := P6.out.1.ent HY.out
                injection e with e
                injection e with e1 e2
                subst e1 e2
                have f0 := hcz.c0
                have f1 := hcz.c1
                have f2 := hcz.c2
                have fz := P6.out.1.room.2
                clear hcz
                go_wp2_with fail
                go_roundw
                case rel => exact ⟨i + 1, by omega, by go_num, Lib.hid (by rw [hnx.out, HRS.out]; exact P6.out.1.set (by rw [← HN.out]; exact hpn) x'), Lib.hid (below_put3 P6.out.2.1 hBg _ _ _ _ _ _)⟩
                case measure => simp [intOf]; omega
              · rw [decide_eq_false hs] at heq
                have HRS := Lib.hid (show put x' R = R.take p ++ x' :: R.drop p by
                  have := put_new (x := x') (R := R) (fun z hz => by rw [HP.out, HY.out] at hz; injection hz with hz; rw [← hz]; exact hs)
                  rwa [HP.out] at this)
                clear hs
                go_wp2_with fail
                go_quiet (fail)
                obtain ⟨w6, hw6⟩ : ∃ w6, w6 = w5.drewN nq := ⟨_, rfl⟩
                have P6 := Lib.hid (show OwnE w6 B (.slice (some ⟨g, off, none⟩) n cap3) R ∧ Below B w w6 ∧ Bx3 Z x' w6 by rw [hw6]; exact ⟨P5.out.1.below (below_drewN (Below.refl _ _) _), below_drewN P5.out.2.1 _, P5.out.2.2.below (below_drewN (Below.refl _ _) _)⟩)
                rw [← hw6]
                clear hw6 e5 d0 d1 d2 P5 hlt2 heq
                obtain ⟨hi, hz0, hz1, hz2⟩ := HI.out
                go_wp2_with (at_builtin; refine wpList_append_off rfl (.tmp 55) (.tmp 57) 22 rfl B 32 i0 _ 3 40 Try.underlying22 hi hz0 hz1 hz2 rfl (.slice (some ⟨g, off, none⟩) n cap3) n (ecells R) rfl ?c1 (.slice (some ⟨w6.heap.size, 0, none⟩) 1 1) rfl 1 noEnt.vals ?c2 ?c3 ?c4 ?c5 ?_)
                case c1 => have := P6.out.1; unfold OwnE at this; rw [← HN.out] at this; exact OffRow.allocd this _
                case c2 => exact src_block (size := 3) (cs := #[.string (bs []), .string (bs []), .bool false]) Try.underlying22 (heap_new _ _) 1 1 rfl (by intro u hu; simp at hu; rcases hu with rfl | rfl | rfl <;> rfl)
                case c3 => unfold maxLen; omega
                case c4 => omega
                case c5 => have := P6.out.2.1.size; rw [← HBW.out] at this; simp; omega
                intro v7 w7 hr7 hg7 hat7
                have O7 : OwnE w7 B v7 (R ++ [noEnt]) := by
                  unfold OwnE
                  rw [ecells_append, List.length_append, ← HN.out]
                  exact hr7
                obtain ⟨a7, cap7, hv7⟩ := O7.slice
                rw [List.length_append, ← HN.out] at hv7
                simp only [List.length_cons, List.length_nil, Nat.zero_add] at hv7
                subst hv7
                obtain ⟨y7, hy7⟩ : ∃ y7, (R ++ [noEnt])[p]? = some y7 := ⟨_, List.getElem?_eq_getElem (by rw [List.length_append, ← HN.out]; simp; omega)⟩
                obtain ⟨g7, off7, rfl, hBg7, _⟩ := O7.ent hy7
                have hZt : Z < w6.heap.size := heap_lt P6.out.2.2
                have hgZ : g7 ≠ Z := by
                  rcases hat7 with h | h
                  · have := HVZ.out g7 h.symm
                    omega
                  · injection h with h
                    simp at h
                    omega
                have Q7 := Lib.hid (show OwnE w7 B (.slice (some ⟨g7, off7, none⟩) (n + 1) cap7) ((R ++ [noEnt]).take (n + 1) ++ R.drop n) ∧ Below B w w7 ∧ Bx3 Z x' w7 by
                  refine ⟨?_, ?_, ?_⟩
                  · rw [List.take_of_length_le (by rw [List.length_append, ← HN.out]; simp), List.drop_eq_nil_of_le (by rw [← HN.out]; exact Nat.le_refl _), List.append_nil]
                    exact O7
                  · exact (P6.out.2.1.alloc (by have := P6.out.2.1.size; rw [← HBW.out] at this; exact this) _).grown hg7 (by have := P6.out.2.1.size; rw [← HBW.out] at this; simp; omega) (fun k hk => (OffRow.lt P6.out.1 k hk).1)
                  · unfold Bx3
                    rw [hg7.block Z (by simp; omega) (fun e => by have := HVZ.out Z e.symm; omega), Below.heap_alloc _ _ _ hZt]
                    exact P6.out.2.2)
                have HG7 := Lib.hid (And.intro hgZ hBg7)
                clear hr7 hg7 hat7 O7 hy7 hBg7 hgZ hi hz0 hz1 hz2 hZt
                go_wp2_with fail
                go_loopw [7] (fun kv wk => ∃ k : Nat, p ≤ k ∧ k ≤ n ∧ kv = .int .i64 k ∧ Hid (OwnE wk B (.slice (some ⟨g7, off7, none⟩) (n + 1) cap7) ((R ++ [noEnt]).take (k + 1) ++ R.drop k)) ∧ Hid (Below B w wk) ∧ Hid (Bx3 Z x' wk)) (fun kv wk => (intOf kv).toNat)
                case atStart => exact ⟨n, by omega, Nat.le_refl _, by go_num, Lib.hid Q7.out.1, Lib.hid Q7.out.2.1, Lib.hid Q7.out.2.2⟩
                case round =>
                  obtain ⟨k, hpk, hkn, rfl, hOk, hBk, hXk⟩ := hrel
                  obtain ⟨wk, hwk⟩ : ∃ wk, wk = wr := ⟨_, rfl⟩
                  subst hwk
                  have hlk := Lib.hid (show ((R ++ [noEnt]).take (k + 1) ++ R.drop k).length = n + 1 by
                    rw [List.length_append, List.length_take, List.length_append, List.length_drop, ← HN.out]; simp; omega)
                  obtain ⟨y8, hy8⟩ : ∃ y8, ((R ++ [noEnt]).take (k + 1) ++ R.drop k)[k]? = some y8 := ⟨_, List.getElem?_eq_getElem (by rw [hlk.out]; omega)⟩
                  obtain ⟨g8, off8, e8, _, hc8⟩ := hOk.out.ent hy8
                  injection e8 with e8
                  injection e8 with e1 e2
                  subst e1 e2
                  have f0 := hc8.c0
                  have f1 := hc8.c1
                  have f2 := hc8.c2
                  have fz := hOk.out.room.2
                  obtain ⟨d0, d1, d2⟩ := hXk.out.cells
                  clear hc8 hy8
                  by_cases hkp : p < k
                  · obtain ⟨j, hj⟩ : ∃ j : Nat, (k : Int) - 1 = (j : Int) := ⟨k - 1, by omega⟩
                    have hjk := Lib.hid (show k - 1 = j ∧ 0 < k from ⟨by omega, by omega⟩)
                    have hjn : j < n + 1 := by omega
                    have hjw : IntKind.i64.wrap (j : Int) = (j : Int) := IntWalk.i64_in _ (by omega)
                    obtain ⟨y9, hy9⟩ : ∃ y9, R[j]? = some y9 := ⟨_, List.getElem?_eq_getElem (by rw [← HN.out]; omega)⟩
                    have hy9' : ((R ++ [noEnt]).take (k + 1) ++ R.drop k)[j]? = some y9 := by
                      rw [List.getElem?_append_left (by rw [List.length_take, List.length_append, ← HN.out]; simp; omega), List.getElem?_take, if_pos (by omega), List.getElem?_append_left (by rw [← HN.out]; omega), hy9]
                    obtain ⟨g9, off9, e9, _, hc9⟩ := hOk.out.ent hy9'
                    injection e9 with e9
                    injection e9 with e1 e2
                    subst e1 e2
                    have h0 := hc9.c0
                    have h1 := hc9.c1
                    have h2 := hc9.c2
                    have HST := Lib.hid (shift_step (R := R) (z := noEnt) (y := y9) hjk.out.2 (by rw [← HN.out]; exact hkn) (by rw [hjk.out.1]; exact hy9))
                    clear hc9 hy9 hy9'
                    go_wp2_with fail
                    go_roundw
                    case rel => exact ⟨j, by omega, by omega, by go_num, Lib.hid (by
                      have := hOk.out.set (k := k) (by rw [hlk.out]; omega) y9
                      rw [HST.out] at this
                      rw [show j + 1 = k by have := hjk.out; omega]
                      rw [show k - 1 = j by have := hjk.out; omega] at this
                      exact this), Lib.hid (below_put3 hBk.out HG7.out.2 _ _ _ _ _ _), Lib.hid (by
                      unfold Bx3
                      rw [heap_set_other HG7.out.1.symm, heap_set_other HG7.out.1.symm, heap_set_other HG7.out.1.symm]
                      exact hXk.out)⟩
                    case measure => simp [intOf]; omega
                  · obtain rfl : k = p := by omega
                    have HEN := Lib.hid (shift_end (R := R) (z := noEnt) (x := x') (k := k) (by rw [← HN.out]; exact hkn))
                    have hkn1 : k < n + 1 := by omega
                    go_wp2_with fail
                    go_roundw
                    case rel => exact ⟨i + 1, by omega, by go_num, Lib.hid (by
                      have := hOk.out.set (k := k) (by rw [hlk.out]; omega) x'
                      rw [HEN.out, ← HRS.out, ← hnx.out] at this
                      exact this), Lib.hid (below_put3 hBk.out HG7.out.2 _ _ _ _ _ _)⟩
                    case measure => simp [intOf]; omega
          · have HP := Lib.hid (place_first (key := x'.key) (R := R) (p := p) (by rw [← HN.out]; exact hp) hA.out (fun z hz => by have := (List.getElem?_eq_some_iff.1 hz).1; have := HN.out; omega))
            have HRS := Lib.hid (show put x' R = R.take p ++ x' :: R.drop p by
              have := put_new (x := x') (R := R) (fun z hz => by rw [HP.out] at hz; have := (List.getElem?_eq_some_iff.1 hz).1; have := HN.out; omega)
              rwa [HP.out] at this)
            have hpn' : decide ((p : Int) < (n : Int)) = false := decide_eq_false (by omega)
            go_wp2_with fail
            go_quiet (fail)
            obtain ⟨w5, hw5⟩ : ∃ w5, w5 = wq.drewN nq := ⟨_, rfl⟩
            have P5 := Lib.hid (show OwnE w5 B (.slice a3 n cap3) R ∧ Below B w w5 ∧ Bx3 Z x' w5 by rw [hw5]; exact ⟨PQ.out.1.below (below_drewN (Below.refl _ _) _), below_drewN PQ.out.2.1 _, PQ.out.2.2.below (below_drewN (Below.refl _ _) _)⟩)
            rw [← hw5]
            clear hw5 d0 d1 d2 PQ
            go_wp2_with fail
            go_quiet (fail)
            obtain ⟨w6, hw6⟩ : ∃ w6, w6 = w5.drewN nq := ⟨_, rfl⟩
            have P6 := Lib.hid (show OwnE w6 B (.slice a3 n cap3) R ∧ Below B w w6 ∧ Bx3 Z x' w6 by rw [hw6]; exact ⟨P5.out.1.below (below_drewN (Below.refl _ _) _), below_drewN P5.out.2.1 _, P5.out.2.2.below (below_drewN (Below.refl _ _) _)⟩)
            rw [← hw6]
            clear hw6 P5 hpn'
            obtain ⟨hi, hz0, hz1, hz2⟩ := HI.out
            go_wp2_with (at_builtin; refine wpList_append_off rfl (.tmp 55) (.tmp 57) 22 rfl B 32 i0 _ 3 40 Try.underlying22 hi hz0 hz1 hz2 rfl (.slice a3 n cap3) n (ecells R) rfl ?c1 (.slice (some ⟨w6.heap.size, 0, none⟩) 1 1) rfl 1 noEnt.vals ?c2 ?c3 ?c4 ?c5 ?_)
            case c1 => have := P6.out.1; unfold OwnE at this; rw [← HN.out] at this; exact OffRow.allocd this _
            case c2 => exact src_block (size := 3) (cs := #[.string (bs []), .string (bs []), .bool false]) Try.underlying22 (heap_new _ _) 1 1 rfl (by intro u hu; simp at hu; rcases hu with rfl | rfl | rfl <;> rfl)
            case c3 => unfold maxLen; omega
            case c4 => omega
            case c5 => have := P6.out.2.1.size; rw [← HBW.out] at this; simp; omega
            intro v7 w7 hr7 hg7 hat7
            have O7 : OwnE w7 B v7 (R ++ [noEnt]) := by
              unfold OwnE
              rw [ecells_append, List.length_append, ← HN.out]
              exact hr7
            obtain ⟨a7, cap7, hv7⟩ := O7.slice
            rw [List.length_append, ← HN.out] at hv7
            simp only [List.length_cons, List.length_nil, Nat.zero_add] at hv7
            subst hv7
            obtain ⟨y7, hy7⟩ : ∃ y7, (R ++ [noEnt])[p]? = some y7 := ⟨_, List.getElem?_eq_getElem (by rw [List.length_append, ← HN.out]; simp; omega)⟩
            obtain ⟨g7, off7, rfl, hBg7, _⟩ := O7.ent hy7
            have hZt : Z < w6.heap.size := heap_lt P6.out.2.2
            have hgZ : g7 ≠ Z := by
              rcases hat7 with h | h
              · have := HVZ.out g7 h.symm
                omega
              · injection h with h
                simp at h
                omega
            have Q7 := Lib.hid (show OwnE w7 B (.slice (some ⟨g7, off7, none⟩) (n + 1) cap7) ((R ++ [noEnt]).take (n + 1) ++ R.drop n) ∧ Below B w w7 ∧ Bx3 Z x' w7 by
              refine ⟨?_, ?_, ?_⟩
              · rw [List.take_of_length_le (by rw [List.length_append, ← HN.out]; simp), List.drop_eq_nil_of_le (by rw [← HN.out]; exact Nat.le_refl _), List.append_nil]
                exact O7
              · exact (P6.out.2.1.alloc (by have := P6.out.2.1.size; rw [← HBW.out] at this; exact this) _).grown hg7 (by have := P6.out.2.1.size; rw [← HBW.out] at this; simp; omega) (fun k hk => (OffRow.lt P6.out.1 k hk).1)
              · unfold Bx3
                rw [hg7.block Z (by simp; omega) (fun e => by have := HVZ.out Z e.symm; omega), Below.heap_alloc _ _ _ hZt]
                exact P6.out.2.2)
            have HG7 := Lib.hid (And.intro hgZ hBg7)
            clear hr7 hg7 hat7 O7 hy7 hBg7 hgZ hi hz0 hz1 hz2 hZt
            go_wp2_with fail
            go_loopw [7] (fun kv wk => ∃ k : Nat, p ≤ k ∧ k ≤ n ∧ kv = .int .i64 k ∧ Hid (OwnE wk B (.slice (some ⟨g7, off7, none⟩) (n + 1) cap7) ((R ++ [noEnt]).take (k + 1) ++ R.drop k)) ∧ Hid (Below B w wk) ∧ Hid (Bx3 Z x' wk)) (fun kv wk => (intOf kv).toNat)
            case atStart => exact ⟨n, by omega, Nat.le_refl _, by go_num, Lib.hid Q7.out.1, Lib.hid Q7.out.2.1, Lib.hid Q7.out.2.2⟩
            case round =>
              obtain ⟨k, hpk, hkn, rfl, hOk, hBk, hXk⟩ := hrel
              obtain ⟨wk, hwk⟩ : ∃ wk, wk = wr := ⟨_, rfl⟩
              subst hwk
              have hlk := Lib.hid (show ((R ++ [noEnt]).take (k + 1) ++ R.drop k).length = n + 1 by
                rw [List.length_append, List.length_take, List.length_append, List.length_drop, ← HN.out]; simp; omega)
              obtain ⟨y8, hy8⟩ : ∃ y8, ((R ++ [noEnt]).take (k + 1) ++ R.drop k)[k]? = some y8 := ⟨_, List.getElem?_eq_getElem (by rw [hlk.out]; omega)⟩
              obtain ⟨g8, off8, e8, _, hc8⟩ := hOk.out.ent hy8
              injection e8 with e8
              injection e8 with e1 e2
              subst e1 e2
              have f0 := hc8.c0
              have f1 := hc8.c1
              have f2 := hc8.c2
              have fz := hOk.out.room.2
              obtain ⟨d0, d1, d2⟩ := hXk.out.cells
              clear hc8 hy8
              by_cases hkp : p < k
              · exact absurd hkp (by omega)
              · obtain rfl : k = p := by omega
                have HEN := Lib.hid (shift_end (R := R) (z := noEnt) (x := x') (k := k) (by rw [← HN.out]; exact hkn))
                have hkn1 : k < n + 1 := by omega
                go_wp2_with fail
                go_roundw
                case rel => exact ⟨i + 1, by omega, by go_num, Lib.hid (by
                  have := hOk.out.set (k := k) (by rw [hlk.out]; omega) x'
                  rw [HEN.out, ← HRS.out, ← hnx.out] at this
                  exact this), Lib.hid (below_put3 hBk.out HG7.out.2 _ _ _ _ _ _)⟩
                case measure => simp [intOf]; omega
    · obtain rfl : i = len := by omega
      have hR := Lib.hid (show rising (T.take i) = rising T by rw [List.take_of_length_le (by rw [hT.out.1]; exact Nat.le_refl _)])
      obtain ⟨a3, cap3, rfl⟩ := hO.out.slice
      go_wp2_with fail
      go_ret
      have h1 := hO.out
      rw [hR.out] at h1 ⊢
      exact ⟨⟨a3, cap3, rfl, h1.is rfl, h1.len_cap⟩, hBl.out⟩
theorem law_rising (a : Option Addr) (len cap : Nat) (T : List Ent) (w : World) (hT : Hid (IsE w a len T)) (hl : len ≤ 100000) (hs : Hid (∀ x ∈ T, x.key.length ≤ 60000 ∧ x.val.length ≤ 60000)) :
    Calls Try.prog 20 #[.slice a len cap] w fun e w' => (∃ a' c, e = .returned (.slice a' (rising T).length c) ∧ IsE w' a' (rising T).length (rising T)) ∧ Below w.heap.size w w' :=
  (law_rising_cap a len cap T w hT hl hs).mono fun _ _ ⟨⟨a', c, h1, h2, _⟩, h3⟩ => ⟨⟨a', c, h1, h2⟩, h3⟩
end Go.Proofs.Ytbjokbnmfbfkjaa
