/- The document's Merge. -/
import Derived.Test.YtbjokbnmfbfkjaaMergeLeft
set_option linter.unusedVariables false
set_option maxRecDepth 100000
namespace Go.Proofs.Ytbjokbnmfbfkjaa
open Go.RowKit

theorem infoRow : (Try.prog.info? 24).map (fun i => (i.zero, i.size, i.bytes)) = some (some (.agg #[.slice none 0 0, .int .i64 0]), 2, 32) := by kernel_rfl
theorem told_total (Rs : List Rw) : ∀ M, (∀ r ∈ Rs, r.T.length ≤ M) → total (Rs.map Rw.told) ≤ Rs.length * M := by
  intro M
  induction Rs with
  | nil => intro _; simp [total]
  | cons r Rs ih =>
    intro h
    have h1 := ih fun x hx => h x (List.mem_cons_of_mem _ hx)
    have h2 := h r List.mem_cons_self
    have h3 := told_len r.e r.T none
    simp only [total, List.map_cons, List.sum_cons, List.length_cons, Rw.told, Nat.add_mul] at *
    omega
set_option maxHeartbeats 8000000 in
theorem ref_Merge (a : Option Addr) (n cap : Nat) (Rs : List Rw) (w : World) (h : Hid (IsRows w a n Rs)) (hn : n ≤ 12) (hl : Hid (∀ r ∈ Rs, r.len ≤ 3001)) :
    Calls Try.prog 16 #[.slice a n cap] w fun en w' => RowPost w.heap.size (mergeP (Rs.map Rw.told)).1 (mergeP (Rs.map Rw.told)).2 en w' ∧ Below w.heap.size w w' := by
  obtain ⟨i0, hi, hz0, hz1, hz2⟩ := info_parts infoRow
  have HI := Lib.hid (And.intro hi (And.intro hz0 (And.intro hz1 hz2)))
  obtain ⟨j0, hj, hy0, hy1, hy2⟩ := info_parts infoE
  have HJ := Lib.hid (And.intro hj (And.intro hy0 (And.intro hy1 hy2)))
  obtain ⟨B, hB⟩ : ∃ B, B = w.heap.size := ⟨_, rfl⟩
  obtain ⟨w1, hw1⟩ : ∃ w1, w1 = w.alloc (.cells #[.slice none 0 0, .int .i64 0] 24) := ⟨_, rfl⟩
  have s1 : w1.heap.size = B + 1 := by rw [hw1, hB]; simp
  have K1 := Lib.hid (show Below B w w1 by rw [hw1, hB]; exact (Below.refl _ _).alloc (Nat.le_refl _) _)
  have Z1 := Lib.hid (show BxR B (.slice none 0 0) 0 w1 by rw [hw1, hB]; exact heap_new w _)
  have HW1 := Lib.hid hw1
  have HS1 := Lib.hid s1
  have HBW := Lib.hid hB
  have HR1 := Lib.hid (h.out.below (by rw [← hB]; exact K1.out))
  have HN : Hid (total (Rs.map Rw.told) ≤ 36012) := Lib.hid (by
    have := told_total Rs 3001 fun r hr => by rw [← (h.out.is r hr).1.1]; exact hl.out r hr
    rw [← h.out.len] at this
    have h12 : n * 3001 ≤ 12 * 3001 := Nat.mul_le_mul_right _ hn
    omega)
  obtain ⟨N, hNN⟩ : ∃ N, N = total (Rs.map Rw.told) := ⟨_, rfl⟩
  rw [← hNN] at HN
  have hN := HN.out
  have HNN := Lib.hid hNN
  rw [← hB]
  clear hB hi hz0 hz1 hz2 hj hy0 hy1 hy2 hw1 s1 hNN
  go_enter Try.func16, Try.ntmps16
  go_upto_region 1 with (fail)
  rw [← HW1.out, ← HBW.out]
  go_wp2_with fail
  go_loopw [3, 4] (fun v iv wr => ∃ (k : Nat) (Ls : List Rw), k ≤ n ∧ iv = .int .i64 k ∧ Ls.length = k ∧ Hid (OwnR wr (B + 1) v Ls) ∧ Hid (EachAt wr (B + 1) wr.heap.size Ls) ∧ Hid (pairs Ls = (Rs.take k).map Rw.told) ∧ Hid (Below (B + 1) w1 wr)) (fun v iv wr => n - (intOf iv).toNat)
  case atStart => exact ⟨0, [], Nat.zero_le _, rfl, rfl, Lib.hid (OwnR.nil _ _), Lib.hid (fun r hr => by cases hr), Lib.hid (by simp [pairs]), Lib.hid (Below.refl _ _)⟩
  case round =>
    obtain ⟨k, Ls, hk, rfl, hLs, hO, hE, hP, hBl⟩ := hrel
    obtain ⟨a3, cap3, rfl⟩ := hO.out.slice
    have HLS := Lib.hid hLs
    rw [hLs] at hO ⊢
    clear hLs
    have hBwr := Lib.hid (show B + 1 ≤ wr.heap.size by have := hBl.out.size; rw [HS1.out] at this; exact this)
    rcases Nat.lt_or_ge k n with hlt | hge
    · obtain ⟨b, off, r, rfl, hr, -, c0, c1, hEr, -, -⟩ := (HR1.out.below (by rw [HS1.out]; exact hBl.out)).get hlt
      have HT := Lib.hid (ref_Told r.a r.len r.cap r.T r.e wr (Lib.hid hEr) (by have := hl.out r (List.mem_of_getElem? hr); omega))
      obtain ⟨L, hL⟩ : ∃ L, L = (toldP r.e none r.T).1 := ⟨_, rfl⟩
      obtain ⟨d, hd⟩ : ∃ d, d = (toldP r.e none r.T).2 := ⟨_, rfl⟩
      have HRT := Lib.hid (show (Rs.take (k + 1)).map Rw.told = (Rs.take k).map Rw.told ++ [(L, d)] by rw [List.take_add_one, hr, hL, hd]; simp [Rw.told])
      rw [← hL, ← hd] at HT
      clear hr hEr hL hd
      go_wp2_with fail
      refine HT.out.mono ?_
      rintro en w2 ⟨⟨v2, rfl, hO2⟩, k2⟩
      obtain ⟨a2, cap2, rfl⟩ := hO2.slice
      obtain ⟨m2, hm2⟩ : ∃ m2, m2 = L.length := ⟨_, rfl⟩
      rw [← hm2] at hO2 ⊢
      have O2 := Lib.hid (hO.out.only (S := fun _ => False) (Only.of_below' k2 rfl) fun _ _ h => h)
      have E2 := Lib.hid (hE.out.only (S := fun _ => False) (Only.of_below' k2 rfl) fun _ _ _ _ h => h)
      have P2 := Lib.hid hO2
      have HM2 := Lib.hid hm2
      have K2 := Lib.hid k2
      clear hO2 hm2 k2 c0 c1
      obtain ⟨hi, hz0, hz1, hz2⟩ := HI.out
      go_wp2_with (at_builtin; refine wpList_append_off rfl (.tmp 16) (.tmp 22) 27 rfl (B + 1) 24 i0 _ 2 32 Try.underlying27 hi hz0 hz1 hz2 rfl (.slice a3 k cap3) k (rcells Ls) rfl ?c1 (.slice (some ⟨w2.heap.size, 0, none⟩) 1 1) rfl 1 [.slice a2 m2 cap2, .int .i64 d] ?c2 ?c3 ?c4 ?c5 ?_)
      case c1 => have := O2.out; unfold OwnR at this; rw [HLS.out] at this; exact OffRow.allocd this _
      case c2 => exact src_block (size := 2) (cs := #[.slice a2 m2 cap2, .int .i64 d]) Try.underlying27 (heap_new _ _) 1 1 rfl (by intro u hu; simp at hu; rcases hu with rfl | rfl <;> rfl)
      case c3 => unfold maxLen; omega
      case c4 => omega
      case c5 => have := K2.out.size; have := hBwr.out; simp; omega
      intro v7 w7 hr7 hg7 hat7
      have O7 := Lib.hid (show OwnR w7 (B + 1) v7 (Ls ++ [⟨a2, m2, cap2, L, d⟩]) by
        unfold OwnR
        rw [rcells_append, List.length_append, HLS.out]
        exact hr7)
      have g7 : Only (fun j => (Value.slice a3 k cap3).ownBlock = some j) w2 w7 := ((Only.refl _ w2).alloc _).grown hg7 fun j hj => .inl hj
      have hE2 : EachAt w2 (B + 1) w2.heap.size (Ls ++ [⟨a2, m2, cap2, L, d⟩]) := fun r hr => by
        rcases List.mem_append.1 hr with hr | hr
        · obtain ⟨x1, x2, x3⟩ := E2.out r hr
          exact ⟨x1, x2, fun j hj => Nat.lt_of_lt_of_le (x3 j hj) K2.out.size⟩
        · rw [List.mem_singleton.1 hr]
          exact ⟨OwnE.wide hBwr.out P2.out, HM2.out, fun j hj => (OffRow.lt P2.out j hj).2⟩
      have E7 := Lib.hid (show EachAt w7 (B + 1) w7.heap.size (Ls ++ [⟨a2, m2, cap2, L, d⟩]) from fun r hr => by
        obtain ⟨x1, x2, x3⟩ := (hE2.only g7 fun r hr j hj hg => by
          obtain ⟨cur, hc⟩ := OffRow.tag O2.out hg
          exact hE2.tag hc r hr j hj rfl) r hr
        exact ⟨x1, x2, fun j hj => Nat.lt_of_lt_of_le (x3 j hj) g7.size⟩)
      have B7 := Lib.hid (show Below (B + 1) w1 w7 from (hBl.out.trans (K2.out.mono hBwr.out)).trans (g7.below2 (fun j hj => (OffRow.lt O2.out j hj).1) (by have := K2.out.size; have := hBwr.out; omega)))
      have P7 := Lib.hid (show pairs (Ls ++ [⟨a2, m2, cap2, L, d⟩]) = (Rs.take (k + 1)).map Rw.told by rw [HRT.out, ← hP.out]; simp [pairs])
      clear hr7 hg7 hat7 g7 hE2 hi hz0 hz1 hz2
      go_wp2_with fail
      go_roundw
      case rel => exact ⟨k + 1, _, by omega, by go_num, by rw [List.length_append, HLS.out]; rfl, O7, E7, P7, B7⟩
      case measure => simp [intOf]; omega
    · obtain rfl : k = n := by omega
      have HP := Lib.hid (show pairs Ls = Rs.map Rw.told by have := hP.out; rwa [List.take_of_length_le (by rw [h.out.len]; exact Nat.le_refl _)] at this)
      obtain ⟨wM, hwM⟩ : ∃ wM, wM = wr := ⟨_, rfl⟩
      subst hwM
      obtain ⟨M, hM⟩ : ∃ M, M = wM.heap.size := ⟨_, rfl⟩
      rw [← hM] at hE hBwr
      have HV3 := Lib.hid (fun j hj => by have := OffRow.lt hO.out j hj; rw [← hM] at this; exact this : ∀ j, (Value.slice a3 k cap3).ownBlock = some j → B + 1 ≤ j ∧ j < M)
      have HM := Lib.hid hM
      clear hM hP
      go_wp2_with fail
      go_loopw [5] (fun ov ws => ∃ (out : List Ent) (Ls : List Rw), Ls.length = k ∧ Hid (OwnE ws M ov out) ∧ Hid (OwnR ws (B + 1) (.slice a3 k cap3) Ls) ∧ Hid (EachAt ws (B + 1) M Ls) ∧ Hid (mergeP (Rs.map Rw.told) = (out ++ (mergeP (pairs Ls)).1, (mergeP (pairs Ls)).2)) ∧ Hid (out.length + total (pairs Ls) ≤ N) ∧ Hid (Below (B + 1) w1 ws) ∧ Hid (M ≤ ws.heap.size)) (fun ov ws => N - lenOf ov)
      case atStart => exact ⟨[], Ls, HLS.out, Lib.hid (OwnE.nil _ _), hO, hE, Lib.hid (by rw [HP.out]; rfl), Lib.hid (by rw [HP.out, ← HNN.out]; simp), hBl, Lib.hid (by rw [HM.out]; exact Nat.le_refl _)⟩
      case round =>
        obtain ⟨out, Lt, hLt, hOut, hOr, hEa, hMg, hTot, hBs, hMs⟩ := hrel
        obtain ⟨ws, hws⟩ : ∃ ws, ws = wr := ⟨_, rfl⟩
        subst hws
        obtain ⟨ao, capo, rfl⟩ := hOut.out.slice
        obtain ⟨mo, hmo⟩ : ∃ mo, mo = out.length := ⟨_, rfl⟩
        have hmoN : mo ≤ N := by have := hTot.out; omega
        have HMO := Lib.hid hmo
        have HLT := Lib.hid hLt
        rw [← hmo] at hOut ⊢
        clear hmo hLt
        go_wp2_with fail
        go_loopw [6, 7] (fun bv iv wq => ∃ (i : Nat) (z : Int) (best : Option Ent), i ≤ k ∧ iv = .int .i64 i ∧ bv = .int .i64 z ∧ Hid (BestAt Lt i z best) ∧ Hid (leastGo best ((pairs Lt).drop i) = leastGo none (pairs Lt)) ∧ Hid (Below ws.heap.size ws wq)) (fun bv iv wq => k - (intOf iv).toNat)
        case atStart => exact ⟨0, -1, none, Nat.zero_le _, rfl, rfl, Lib.hid (.inl ⟨rfl, rfl⟩), Lib.hid (by rw [List.drop_zero]), Lib.hid (Below.refl _ _)⟩
        case round =>
          obtain ⟨i, z, best, hi, rfl, rfl, hBest, hLe, hQ⟩ := hrel
          obtain ⟨wq, hwq⟩ : ∃ wq, wq = wr := ⟨_, rfl⟩
          subst hwq
          have onq := Lib.hid (show Only (fun _ => False) ws wq from Only.of_below' hQ.out rfl)
          have Oq := Lib.hid (hOr.out.only onq.out fun _ _ h => h)
          have Eq := Lib.hid (hEa.out.only onq.out fun _ _ _ _ h => h)
          rcases Nat.lt_or_ge i k with hlt | hge
          · obtain ⟨r, hr⟩ : ∃ r, Lt[i]? = some r := ⟨_, List.getElem?_eq_getElem (by rw [HLT.out]; exact hlt)⟩
            obtain ⟨g, off, rfl, -, c0, c1, -, -⟩ := Oq.out.get hr
            obtain ⟨hOi, hli, -⟩ := Eq.out r (List.mem_of_getElem? hr)
            have hdr := pairs_get hr
            obtain ⟨ra, rl, rc, rT, re⟩ := r
            simp only at c0 c1 hOi hli hdr
            have Zq := Lib.hid (Z1.out.only (S := fun _ => False) ((Only.of_below' hBs.out HS1.out.symm).trans onq.out) fun h => h)
            have BBq := Lib.hid (show Below (B + 1) w1 wq from hBs.out.trans (hQ.out.mono (by have := hMs.out; have := hBwr.out; omega)))
            have Outq := Lib.hid (hOut.out.only onq.out fun _ _ h => h)
            cases rT with
            | nil =>
              obtain rfl : rl = 0 := by simpa using hli
              have hL2 := hLe.out
              rw [hdr] at hL2
              simp only [leastGo] at hL2
              have HL2 := Lib.hid hL2
              clear hL2 hdr hli hOi hr
              by_cases h0 : re = 0
              · have hnx := Lib.hid (show leastGo best ((pairs Lt).drop (i + 1)) = leastGo none (pairs Lt) by have := HL2.out; rwa [if_pos h0] at this)
                have hB2 := Lib.hid (show BestAt Lt (i + 1) z best from hBest.out.imp id fun ⟨b, r, x, t, q1, q2, q3⟩ => ⟨b, r, x, t, q1, by omega, q3⟩)
                subst h0
                go_wp2_with fail
                go_roundw
                case rel => exact ⟨i + 1, z, best, by omega, by go_num, rfl, hB2, hnx, hQ⟩
                case measure => simp [intOf]; omega
              · have HEND := Lib.hid (show mergeP (Rs.map Rw.told) = (out, re) by
                  have h1 := HL2.out
                  rw [if_neg h0] at h1
                  have h2 := hMg.out
                  rw [mergeP_none h1.symm] at h2
                  simpa using h2)
                have h1 : (re == 0) = false := by simpa using h0
                have h2 : (re != 0) = true := by simpa using h0
                have z0 := Zq.out.c0
                have z1 := Zq.out.c1
                have zf := Zq.out.free
                clear h0
                go_wp2_with fail
                refine bodyPost_ret (results_row rfl _ _ B (.slice ao mo capo) re rfl (Zq.out.put _ _)) rfl ?_
                have o := (((Only.refl (fun j => j = B) wq).setCell (p := ⟨B, 0, none⟩) (.inl rfl) (.slice ao mo capo)).setCell (p := ⟨B, 1, none⟩) (.inl rfl) (.int .i64 re))
                rw [HEND.out]
                refine ⟨⟨_, rfl, ?_⟩, ((K1.out.trans (BBq.out.mono (Nat.le_succ B))).setCell (p := ⟨B, 0, none⟩) (Nat.le_refl _) (.slice ao mo capo)).setCell (p := ⟨B, 1, none⟩) (Nat.le_refl _) (.int .i64 re)⟩
                exact OwnE.wide (by have := hBwr.out; omega) (Outq.out.only o fun j hj h => by have := (OffRow.lt Outq.out j hj).1; have := hBwr.out; omega)
            | cons x t =>
              have hnx := Lib.hid (show leastGo (if better best x then some x else best) ((pairs Lt).drop (i + 1)) = leastGo none (pairs Lt) by have := hLe.out; rw [hdr] at this; exact this)
              have hl0 : ((rl : Int) == 0) = false := by simp at hli; simp; omega
              have hlp : 0 < rl := by simp at hli; omega
              obtain ⟨g2, off2, rfl, -, hc2⟩ := hOi.ent (k := 0) (x := x) rfl
              rw [Nat.zero_mul, Nat.add_zero] at hc2
              have d0 := hc2.c0
              have HRI := Lib.hid hr
              clear hdr hli hOi hc2 c1 hr
              rcases hBest.out with ⟨rfl, rfl⟩ | ⟨b, r, y, u, rfl, hbi, hrb, hrT, rfl⟩
              · have hB2 := Lib.hid (show BestAt Lt (i + 1) (i : Int) (some x) from .inr ⟨i, _, x, t, rfl, by omega, HRI.out, rfl, rfl⟩)
                have hnx2 := Lib.hid (show leastGo (some x) ((pairs Lt).drop (i + 1)) = leastGo none (pairs Lt) from hnx.out)
                go_wp2_with fail
                go_quiet (fail)
                go_wp2_with fail
                go_roundw
                case rel => exact ⟨i + 1, i, some x, by omega, by go_num, rfl, hB2, hnx2, Lib.hid (below_drewN hQ.out _)⟩
                case measure => simp [intOf]; omega
              · obtain ⟨g', off', e', -, b0, -, -, -⟩ := Oq.out.get hrb
                injection e' with e'
                injection e' with e1 e2
                subst e1 e2
                obtain ⟨hOb, hlb, -⟩ := Eq.out r (List.mem_of_getElem? hrb)
                obtain ⟨ra', rl', rc', rT', re'⟩ := r
                simp only at hrT b0 hOb hlb
                subst hrT
                have hlp' : 0 < rl' := by simp at hlb; omega
                obtain ⟨g3, off3, rfl, -, hc3⟩ := hOb.ent (k := 0) (x := y) rfl
                rw [Nat.zero_mul, Nat.add_zero] at hc3
                have f0 := hc3.c0
                have hbk : b < k := by omega
                have hcmp : Op.bytesLess (bs x.key).toList (bs y.key).toList = ltB x.key y.key := by rw [Lib.toList_data, Lib.toList_data, bs_list, bs_list, ltB_less]
                have HRB := Lib.hid hrb
                have HBI := Lib.hid hbi
                clear hlb hOb hc3 hrb hbi
                cases hxy : ltB x.key y.key with
                | true =>
                  have hB2 := Lib.hid (show BestAt Lt (i + 1) (i : Int) (some x) from .inr ⟨i, _, x, t, rfl, by omega, HRI.out, rfl, rfl⟩)
                  have hnx2 := Lib.hid (show leastGo (some x) ((pairs Lt).drop (i + 1)) = leastGo none (pairs Lt) by have := hnx.out; simp only [better, hxy, if_true] at this; exact this)
                  rw [hxy] at hcmp
                  clear hxy
                  go_wp2_with fail
                  go_quiet (fail)
                  go_wp2_with fail
                  go_roundw
                  case rel => exact ⟨i + 1, i, some x, by omega, by go_num, rfl, hB2, hnx2, Lib.hid (below_drewN hQ.out _)⟩
                  case measure => simp [intOf]; omega
                | false =>
                  have hB2 := Lib.hid (show BestAt Lt (i + 1) (b : Int) (some y) from .inr ⟨b, _, y, u, rfl, by have := HBI.out; omega, HRB.out, rfl, rfl⟩)
                  have hnx2 := Lib.hid (show leastGo (some y) ((pairs Lt).drop (i + 1)) = leastGo none (pairs Lt) by have := hnx.out; simp only [better, hxy, Bool.false_eq_true, if_false] at this; exact this)
                  rw [hxy] at hcmp
                  clear hxy
                  go_wp2_with fail
                  go_quiet (fail)
                  go_wp2_with fail
                  go_roundw
                  case rel => exact ⟨i + 1, b, some y, by omega, by go_num, rfl, hB2, hnx2, Lib.hid (below_drewN hQ.out _)⟩
                  case measure => simp [intOf]; omega
          · obtain rfl : k = i := by omega
            have Zq := Lib.hid (Z1.out.only (S := fun _ => False) ((Only.of_below' hBs.out HS1.out.symm).trans onq.out) fun h => h)
            have BBq := Lib.hid (show Below (B + 1) w1 wq from hBs.out.trans (hQ.out.mono (by have := hMs.out; have := hBwr.out; omega)))
            have Outq := Lib.hid (hOut.out.only onq.out fun _ _ h => h)
            have hLz := Lib.hid (show leastGo none (pairs Lt) = (best, 0) by
              have := hLe.out
              rw [List.drop_eq_nil_of_le (by rw [pairs_len, HLT.out]; exact Nat.le_refl _)] at this
              exact this.symm)
            rcases hBest.out with ⟨rfl, rfl⟩ | ⟨b, r, x, t, rfl, hbi, hrb, hrT, rfl⟩
            · have HEND := Lib.hid (show mergeP (Rs.map Rw.told) = (out, 0) by
                have h2 := hMg.out
                rw [mergeP_none hLz.out] at h2
                simpa using h2)
              have z0 := Zq.out.c0
              have z1 := Zq.out.c1
              have zf := Zq.out.free
              go_wp2_with fail
              refine bodyPost_ret (results_row rfl _ _ B (.slice ao mo capo) 0 rfl (Zq.out.put _ _)) rfl ?_
              have o := (((Only.refl (fun j => j = B) wq).setCell (p := ⟨B, 0, none⟩) (.inl rfl) (.slice ao mo capo)).setCell (p := ⟨B, 1, none⟩) (.inl rfl) (.int .i64 0))
              rw [HEND.out]
              refine ⟨⟨_, rfl, ?_⟩, ((K1.out.trans (BBq.out.mono (Nat.le_succ B))).setCell (p := ⟨B, 0, none⟩) (Nat.le_refl _) (.slice ao mo capo)).setCell (p := ⟨B, 1, none⟩) (Nat.le_refl _) (.int .i64 0)⟩
              exact OwnE.wide (by have := hBwr.out; omega) (Outq.out.only o fun j hj h => by have := (OffRow.lt Outq.out j hj).1; have := hBwr.out; omega)
            · obtain ⟨g, off, rfl, -, b0, -, hgf, curg, hcg⟩ := Oq.out.get hrb
              obtain ⟨hOb, hlb, -⟩ := Eq.out r (List.mem_of_getElem? hrb)
              have hms := Lib.hid (mergeP_some hLz.out)
              have htl := Lib.hid (least_pos hLz.out)
              obtain ⟨ra, rl, rc, rT, re⟩ := r
              simp only at hrT b0 hOb hlb
              subst hrT
              have hlp : 0 < rl := by simp at hlb; omega
              obtain ⟨g3, off3, rfl, -, hc3⟩ := hOb.ent (k := 0) (x := x) rfl
              rw [Nat.zero_mul, Nat.add_zero] at hc3
              have f0 := hc3.c0
              have f1 := hc3.c1
              have f2 := hc3.c2
              obtain ⟨wz, hwz⟩ : ∃ wz, wz = wq.alloc (.cells #[.string (bs x.key), .string (bs x.val), .bool x.gone] 32) := ⟨_, rfl⟩
              have Kz := Lib.hid (show Below wq.heap.size wq wz by rw [hwz]; exact (Below.refl _ _).alloc (Nat.le_refl _) _)
              have Xz := Lib.hid (show C3 wq.heap.size 32 (.string (bs x.key)) (.string (bs x.val)) (.bool x.gone) wz by rw [hwz]; exact heap_new wq _)
              have onz := Lib.hid (show Only (fun _ => False) ws wz from onq.out.trans (Only.of_below' Kz.out rfl))
              have Oz := Lib.hid (hOr.out.only onz.out fun _ _ h => h)
              have Ez := Lib.hid (hEa.out.only onz.out fun _ _ _ _ h => h)
              have HWZ := Lib.hid hwz
              have hsz := Lib.hid (show M ≤ wq.heap.size by have := hMs.out; have := onq.out.size; omega)
              clear hwz hlb hOb hc3 hrb hcg hgf
              go_upto_region 19 with (fail)
              rw [← HWZ.out]
              clear b0 f0 f1 f2
              go_wp2_with fail
              go_loopw [9] (fun iv wp => ∃ (i : Nat) (L2 : List Rw), i ≤ k ∧ iv = .int .i64 i ∧ Hid (Passed Lt L2 x.key i) ∧ Hid (OwnR wp (B + 1) (.slice (some ⟨g, off, none⟩) k cap3) L2) ∧ Hid (EachAt wp (B + 1) M L2) ∧ Hid (Only (fun j => j = g) wz wp)) (fun iv wp => k - (intOf iv).toNat)
              case atStart => exact ⟨0, Lt, Nat.zero_le _, rfl, Lib.hid (passed_zero _ _), Oz, Ez, Lib.hid (Only.refl _ _)⟩
              case round =>
                obtain ⟨i, L2, hi, rfl, hPs, hO2, hE2, hOn⟩ := hrel
                obtain ⟨wp, hwp⟩ : ∃ wp, wp = wr := ⟨_, rfl⟩
                subst hwp
                have hgM := Lib.hid (show B + 1 ≤ g ∧ g < M from HV3.out g rfl)
                have Xp := Lib.hid (Xz.out.only hOn.out (by have := hgM.out; have := hsz.out; omega))
                rcases Nat.lt_or_ge i k with hlt | hge
                · have hl2 := passed_len hPs.out
                  obtain ⟨r2, hr2⟩ : ∃ r2, L2[i]? = some r2 := ⟨_, List.getElem?_eq_getElem (by rw [hl2, HLT.out]; exact hlt)⟩
                  obtain ⟨r0, hr0⟩ : ∃ r0, Lt[i]? = some r0 := ⟨_, List.getElem?_eq_getElem (by rw [HLT.out]; exact hlt)⟩
                  have hTe := passed_get hPs.out hr2 hr0
                  obtain ⟨g', off', e', -, b0, -, hgf, curg, hcg⟩ := hO2.out.get hr2
                  injection e' with e'
                  injection e' with e1 e2
                  subst e1 e2
                  obtain ⟨hOb, hlb, hMb⟩ := hE2.out r2 (List.mem_of_getElem? hr2)
                  obtain ⟨qa, ql, qc, qT, qe⟩ := r2
                  simp only at hTe b0 hOb hlb hMb
                  have xk := Xp.out.c0
                  have HR2 := Lib.hid hr2
                  have HTAG := Lib.hid (hE2.out.tag hcg)
                  clear hr2 hcg hl2
                  cases qT with
                  | nil =>
                    obtain rfl : ql = 0 := by simpa using hlb
                    have HPn := Lib.hid (show Passed Lt L2 x.key (i + 1) by
                      injection hTe with h1 h2
                      have := passed_next hPs.out hr0 (r' := ⟨qa, 0, qc, [], qe⟩) (by simp only; rw [← h1, h2]; rfl)
                      rwa [set_self' HR2.out] at this)
                    clear hTe hr0 hOb hlb hMb
                    go_wp2_with fail
                    go_quiet (fail)
                    go_wp2_with fail
                    go_roundw
                    case rel => exact ⟨i + 1, L2, by omega, by go_num, HPn, Lib.hid (hO2.out.only (S := fun _ => False) ((Only.refl _ _).drewN _) fun _ _ h => h), Lib.hid (hE2.out.only (S := fun _ => False) ((Only.refl _ _).drewN _) fun _ _ _ _ h => h), Lib.hid (hOn.out.drewN _)⟩
                    case measure => simp [intOf]; omega
                  | cons y u =>
                    have hlp2 : 0 < ql := by simp at hlb; omega
                    obtain ⟨g4, off4, rfl, -, hc4⟩ := hOb.ent (k := 0) (x := y) rfl
                    rw [Nat.zero_mul, Nat.add_zero] at hc4
                    have y0 := hc4.c0
                    have heq : ((bs y.key).toList == (bs x.key).toList) = decide (y.key = x.key) := by rw [Bool.eq_iff_iff, same_bytes, decide_eq_true_iff]
                    clear hc4
                    by_cases hs : y.key = x.key
                    · rw [decide_eq_true hs] at heq
                      obtain ⟨hj, hy0, hy1, hy2⟩ := HJ.out
                      have hql : ql = (y :: u).length := hlb
                      have hOb' := hOb
                      rw [hql] at hOb'
                      obtain ⟨a5, hsl, hO5, hB5⟩ := slice_off Try.underlying22 hj hy1 hOb' (g := 1) (by simp)
                      rw [← hql] at hsl hO5 hB5
                      have hq1 : ql - 1 = u.length := by rw [hql]; simp
                      rw [hq1] at hsl hO5 hB5
                      have hsl1 : ∀ W, (Instr.slice 22 (.slice (some ⟨g4, off4, none⟩) ql qc) (some (.int .i64 1)) none none).run Try.prog W = .ok (.slice a5 u.length (qc - 1)) W := hsl
                      have HO5 := Lib.hid (show OwnE wp (B + 1) (.slice a5 u.length (qc - 1)) u by
                        rw [show (ecells (y :: u)).drop (1 * 3) = ecells u from rfl] at hO5
                        exact hO5)
                      have HB5 := Lib.hid (fun j hj => hMb j (hB5 j hj) : ∀ j, (Value.slice a5 u.length (qc - 1)).ownBlock = some j → j < M)
                      have HG5 := Lib.hid (fun j hj => HTAG.out _ (List.mem_of_getElem? HR2.out) j (hB5 j hj) : ∀ j, (Value.slice a5 u.length (qc - 1)).ownBlock = some j → j ≠ g)
                      have HPn := Lib.hid (show Passed Lt (L2.set i ⟨a5, u.length, qc - 1, u, qe⟩) x.key (i + 1) by
                        injection hTe with h1 h2
                        exact passed_next hPs.out hr0 (r' := ⟨a5, u.length, qc - 1, u, qe⟩) (by simp only; rw [← h1, h2]; simp [passL, hs]))
                      clear hTe hr0 hOb hOb' hlb hMb hql hq1 hsl hO5 hB5 hj hy0 hy1 hy2 hs
                      go_wp2_with fail
                      go_quiet (fail)
                      obtain ⟨w5, hw5⟩ : ∃ w5, w5 = wp.drewN nq := ⟨_, rfl⟩
                      have K5 := Lib.hid (show Below wp.heap.size wp w5 by rw [hw5]; exact below_drewN (Below.refl _ _) _)
                      have on5 := Lib.hid (show Only (fun _ => False) wp w5 from Only.of_below' K5.out rfl)
                      have b0 : w5.cell? ⟨g, off + i * 2, none⟩ = some (.slice (some ⟨g4, off4, none⟩) ql qc) := by rw [hw5]; exact b0
                      have hgf : ∀ j, w5.frozen? ⟨g, j, none⟩ = false := by rw [hw5]; exact hgf
                      rw [← hw5]
                      clear hw5
                      have o6 := Lib.hid (show Only (fun j => j = g) w5 (w5.setCell ⟨g, off + i * 2, none⟩ (.slice a5 u.length (qc - 1))) from (Only.refl (fun j => j = g) w5).setCell (p := ⟨g, off + i * 2, none⟩) (.inl rfl) _)
                      have O6 := Lib.hid ((hO2.out.only on5.out fun _ _ h => h).set HR2.out a5 u.length (qc - 1) u)
                      have E6 := Lib.hid (show EachAt (w5.setCell ⟨g, off + i * 2, none⟩ (.slice a5 u.length (qc - 1))) (B + 1) M (L2.set i ⟨a5, u.length, qc - 1, u, qe⟩) from fun r hr => by
                        rcases List.mem_or_eq_of_mem_set hr with hr | rfl
                        · exact ((hE2.out.only on5.out fun _ _ _ _ h => h).only o6.out fun r hr j hj => HTAG.out r hr j hj) r hr
                        · exact ⟨(HO5.out.only on5.out fun _ _ h => h).only o6.out fun j hj => HG5.out j hj, rfl, HB5.out⟩)
                      go_wp2_with fail
                      go_roundw
                      case rel => exact ⟨i + 1, _, by omega, by go_num, HPn, O6, E6, Lib.hid (hOn.out.trans ((on5.out.mono fun _ _ h => h.elim).trans o6.out))⟩
                      case measure => simp [intOf]; omega
                    · rw [decide_eq_false hs] at heq
                      have HPn := Lib.hid (show Passed Lt L2 x.key (i + 1) by
                        injection hTe with h1 h2
                        have := passed_next hPs.out hr0 (r' := ⟨some ⟨g4, off4, none⟩, ql, qc, y :: u, qe⟩) (by simp only; rw [← h1, h2]; simp [passL, hs])
                        rwa [set_self' HR2.out] at this)
                      clear hTe hr0 hOb hlb hMb hs
                      go_wp2_with fail
                      go_quiet (fail)
                      go_wp2_with fail
                      go_roundw
                      case rel => exact ⟨i + 1, L2, by omega, by go_num, HPn, Lib.hid (hO2.out.only (S := fun _ => False) ((Only.refl _ _).drewN _) fun _ _ h => h), Lib.hid (hE2.out.only (S := fun _ => False) ((Only.refl _ _).drewN _) fun _ _ _ _ h => h), Lib.hid (hOn.out.drewN _)⟩
                      case measure => simp [intOf]; omega
                · obtain rfl : k = i := by omega
                  have hPe := Lib.hid (passed_end hPs.out (by rw [HLT.out]; exact Nat.le_refl _))
                  have hL2 := Lib.hid ((passed_len hPs.out).trans HLT.out)
                  have x0 := Xp.out.c0
                  have x1 := Xp.out.c1
                  have x2 := Xp.out.c2
                  have Op := Lib.hid ((hOut.out.only onz.out fun _ _ h => h).only hOn.out fun j hj h => by have := (OffRow.lt hOut.out j hj).1; have := hgM.out; omega)
                  have Kp := Lib.hid (show Below (B + 1) w1 wp from BBq.out.trans ((Kz.out.mono (by have := hsz.out; have := hBwr.out; omega)).trans (hOn.out.below2 (fun j hj => by have := hgM.out; omega) (by have := Kz.out.size; have := hsz.out; have := hBwr.out; omega))))
                  have hpz := Lib.hid (show M ≤ wp.heap.size by have := hsz.out; have := Kz.out.size; have := hOn.out.size; omega)
                  have hmo1 : mo < N := by
                    have h1 := hTot.out
                    have h2 := htl.out
                    rw [← HMO.out] at h1
                    omega
                  obtain ⟨hj, hy0, hy1, hy2⟩ := HJ.out
                  go_wp2_with (at_builtin; refine wpList_append_off rfl (.tmp 119) (.tmp 121) 22 rfl M 32 j0 _ 3 40 Try.underlying22 hj hy0 hy1 hy2 rfl (.slice ao mo capo) mo (ecells out) rfl ?c1 (.slice (some ⟨wp.heap.size, 0, none⟩) 1 1) rfl 1 x.vals ?c2 ?c3 ?c4 ?c5 ?_)
                  case c1 => have := Op.out; unfold OwnE at this; rw [← HMO.out] at this; exact OffRow.allocd this _
                  case c2 => exact src_block (size := 3) (cs := #[.string (bs x.key), .string (bs x.val), .bool x.gone]) Try.underlying22 (heap_new _ _) 1 1 rfl (by intro u hu; simp at hu; rcases hu with rfl | rfl | rfl <;> rfl)
                  case c3 => unfold maxLen; omega
                  case c4 => omega
                  case c5 => have := hpz.out; simp; omega
                  intro v9 w9 hr9 hg9 hat9
                  have g9 : Only (fun j => (Value.slice ao mo capo).ownBlock = some j) wp w9 := ((Only.refl _ wp).alloc _).grown hg9 fun j hj => .inl hj
                  have O9 := Lib.hid (show OwnE w9 M v9 (out ++ [x]) by
                    unfold OwnE
                    rw [ecells_append, List.length_append, ← HMO.out]
                    exact hr9)
                  have hown : ∀ j, (Value.slice ao mo capo).ownBlock = some j → M ≤ j := fun j hj => (OffRow.lt hOut.out j hj).1
                  have R9 := Lib.hid (hO2.out.only g9 fun j hj h => by have := hown j h; have := (HV3.out j hj).2; omega)
                  have E9 := Lib.hid (hE2.out.only g9 fun r hr j hj h => by have := hown j h; have := (hE2.out r hr).2.2 j hj; omega)
                  have K9 := Lib.hid (show Below (B + 1) w1 w9 from Kp.out.trans (g9.below2 (fun j hj => by have := hown j hj; have := hBwr.out; omega) (by have := hpz.out; have := hBwr.out; omega)))
                  have hs9 := Lib.hid (show M ≤ w9.heap.size from Nat.le_trans hpz.out g9.size)
                  have HMg := Lib.hid (show mergeP (Rs.map Rw.told) = ((out ++ [x]) ++ (mergeP (pairs L2)).1, (mergeP (pairs L2)).2) by
                    rw [hMg.out, hms.out, hPe.out]
                    simp)
                  have HTt := Lib.hid (show (out ++ [x]).length + total (pairs L2) ≤ N by
                    have h1 := hTot.out
                    have h2 := htl.out
                    rw [hPe.out, List.length_append]
                    simp only [List.length_singleton]
                    omega)
                  obtain ⟨a9, cap9, hv9⟩ := O9.out.slice
                  rw [List.length_append, ← HMO.out] at hv9
                  simp only [List.length_cons, List.length_nil, Nat.zero_add] at hv9
                  subst hv9
                  clear hr9 hg9 hat9 g9 hown hj hy0 hy1 hy2
                  go_wp2_with fail
                  go_roundw
                  case rel => exact ⟨out ++ [x], L2, hL2.out, O9, R9, E9, HMg, HTt, K9, hs9⟩
                  case measure =>
                    show N - (mo + 1) < N - mo
                    omega
end Go.Proofs.Ytbjokbnmfbfkjaa
