/- The digest, as the program reckons it. -/
import Derived.Test.YtbiifdnicieamaaDoorShaEnd
set_option linter.unusedVariables false
set_option maxRecDepth 100000
namespace Go.Proofs.YtbiifdnicieamaaDoor
open Go.RowKit

theorem laid_none (l : List UInt8) (h : l.length = 64) : Tail [] l := ⟨h, rfl⟩
theorem Laid.keep {R C B K : Nat} {L : List UInt8} {w w' : World} (h : Laid R C B L w) (k : Below K w w') (hR : R < K) (hC : C < K) (hB : B < K) : Laid R C B L w' := by
  obtain ⟨⟨l, hT, h8⟩, ⟨h1, h2⟩, hs, hg⟩ := h
  exact ⟨⟨l, hT, h8.keep k hB⟩, ⟨by rw [k.cell hC]; exact h1, by rw [YtbiifdnicieamaaDoor.Below.frozen k hC]; exact h2⟩, hs.keep k hR, hg.keep k (by omega)⟩
/-- What each law hands to the digest. -/
theorem RowS.keepIn {b off B : Nat} {T : List ByteArray} {w w' : World} (h : RowS b off T w) (k : Below B w w') (hb : b < B) : RowS b off T w' := by
  intro i hi
  obtain ⟨h1, h2⟩ := h i hi
  exact ⟨Nat.lt_of_lt_of_le h1 k.size, by rw [k.cell hb]; exact h2⟩

set_option maxHeartbeats 2000000 in
set_option maxRecDepth 100000 in
theorem sha_Sum (a : Option Addr) (b off len cap : Nat) (T : List ByteArray) (w : World) (hlen : Hid (len = T.length)) (hl : len ≤ 9223372036854775807) (hz : Hid (RowS b off T w)) (hs : Hid ((joined T).length ≤ 900000)) (hab : Hid (len = 0 ∨ a = some ⟨b, off, none⟩)) (hg : Hid (Glob w)) :
    Calls Tryd.prog 37 #[.slice a len cap] w fun e w' => e = .returned (.agg (keyA (digest (joined T)))) ∧ Below w.heap.size w w' := by
  obtain ⟨H, hH⟩ : ∃ H, H = w.heap.size := ⟨_, rfl⟩
  obtain ⟨W4, hW4⟩ : ∃ W4, W4 = (((w.alloc (.cells (Array.replicate 32 (.int .u8 0)) 70)).alloc (.cells (words32 start.list) 89)).alloc (.cells (Array.replicate 64 (.int .u8 0)) 90)).alloc (.cells #[.int .u64 0] 91) := ⟨_, rfl⟩
  have e1 : (w.alloc (.cells (Array.replicate 32 (.int .u8 0)) 70)).heap.size = H + 1 := by rw [hH]; simp
  have e2 : ((w.alloc (.cells (Array.replicate 32 (.int .u8 0)) 70)).alloc (.cells (words32 start.list) 89)).heap.size = H + 1 + 1 := by rw [hH]; simp
  have e3 : (((w.alloc (.cells (Array.replicate 32 (.int .u8 0)) 70)).alloc (.cells (words32 start.list) 89)).alloc (.cells (Array.replicate 64 (.int .u8 0)) 90)).heap.size = H + 1 + 1 + 1 := by rw [hH]; simp
  have HB := Lib.hid (show Below H w W4 by rw [hW4, hH]; exact ((((Below.refl _ _).alloc (Nat.le_refl _) _).alloc (by simp) _).alloc (by simp; omega) _).alloc (by simp; omega) _)
  have HRR := Lib.hid (show Key8 H (fun _ => 0) W4 by
    have h := key8_new w 70
    rw [← hH] at h
    have k : Below (H + 1) (w.alloc (.cells (Array.replicate 32 (.int .u8 0)) 70)) W4 := by rw [hW4]; exact (((Below.refl _ _).alloc (by rw [e1]; exact Nat.le_refl _) _).alloc (by rw [e2]; omega) _).alloc (by rw [e3]; omega) _
    exact h.keep k (by omega))
  have HST := Lib.hid (show Row32 (H + 1) start.list W4 by
    have h := row32_new (w.alloc (.cells (Array.replicate 32 (.int .u8 0)) 70)) start.list 89
    rw [e1] at h
    have k : Below (H + 1 + 1) ((w.alloc (.cells (Array.replicate 32 (.int .u8 0)) 70)).alloc (.cells (words32 start.list) 89)) W4 := by rw [hW4]; exact ((Below.refl _ _).alloc (by rw [e2]; exact Nat.le_refl _) _).alloc (by rw [e3]; omega) _
    exact h.keep k (by omega))
  have HBK := Lib.hid (show Row8 (H + 1 + 1) (List.replicate 64 0) W4 by
    have h := row8_zero ((w.alloc (.cells (Array.replicate 32 (.int .u8 0)) 70)).alloc (.cells (words32 start.list) 89)) 64 90
    rw [e2] at h
    have k : Below (H + 1 + 1 + 1) (((w.alloc (.cells (Array.replicate 32 (.int .u8 0)) 70)).alloc (.cells (words32 start.list) 89)).alloc (.cells (Array.replicate 64 (.int .u8 0)) 90)) W4 := by rw [hW4]; exact (Below.refl _ _).alloc (by rw [e3]; exact Nat.le_refl _) _
    exact h.keep k (by omega))
  have HNM := Lib.hid (show W4.cell? ⟨H + 1 + 1 + 1, 0, none⟩ = some (.int .u64 0) ∧ W4.frozen? ⟨H + 1 + 1 + 1, 0, none⟩ = false by
    rw [hW4, ← e3]
    exact ⟨by rw [World.cell?_alloc_mark]; rfl, by rw [World.frozen?_alloc_mark]; simp⟩)
  have HW4 := Lib.hid hW4
  clear e1 e2 e3
  have HH := Lib.hid hH
  clear hH hW4
  go_enter Tryd.func37, Tryd.ntmps37
  go_upto_region 4 with (fail)
  change Code.wp _ _ _ _ ((((w.alloc (.cells (Array.replicate 32 (.int .u8 0)) 70)).alloc (.cells (words32 start.list) 89)).alloc (.cells (Array.replicate 64 (.int .u8 0)) 90)).alloc (.cells #[.int .u64 0] 91))
  rw [← HW4.out, ← HH.out]
  go_wp2_with fail
  obtain ⟨R, hR⟩ : ∃ x, x = H + 1 := ⟨_, rfl⟩
  rw [← hR] at HST HBK HNM ⊢
  obtain ⟨B, hB⟩ : ∃ x, x = R + 1 := ⟨_, rfl⟩
  rw [← hB] at HBK HNM ⊢
  obtain ⟨C, hC⟩ : ∃ x, x = B + 1 := ⟨_, rfl⟩
  rw [← hC] at HNM ⊢
  have HRB := Lib.hid (show H < R ∧ R < B ∧ B < C by omega)
  have HKK := Lib.hid (show 0 < R ∧ R ≤ R ∧ R ≤ C ∧ R ≤ B ∧ R ≠ C ∧ R ≠ B ∧ C ≠ B by omega)
  have H1R := Lib.hid hR
  clear hR hB hC
  have HG4 := Lib.hid (show Glob W4 from hg.out.keep HB.out (by rw [HH.out]; exact hg.out.1))
  have HL0 := Lib.hid (show Laid R C B (joined (T.take 0)) W4 by
    rw [show joined (T.take 0) = [] from rfl]
    exact ⟨⟨List.replicate 64 0, laid_none _ (by simp), HBK.out⟩, HNM.out, HST.out, HG4.out⟩)
  go_loopw [13] (fun vi wr => ∃ k : Nat, k ≤ len ∧ vi = .int .i64 k ∧ Laid R C B (joined (T.take k)) wr ∧ Hid ((joined (T.take k)).length ≤ 900000) ∧ Key8 H (fun _ => 0) wr ∧ Below H w wr) (fun vi wr => len - (intOf vi).toNat)
  case atStart => exact ⟨0, by omega, rfl, HL0.out, Lib.hid (by simp [joined]), HRR.out, HB.out⟩
  case round =>
    obtain ⟨k, hk, rfl, hla, hjl, hky, hbw⟩ := hrel
    have LA := Lib.hid hla
    have KY := Lib.hid hky
    have BW := Lib.hid hbw
    clear hla hky hbw
    by_cases hlt : k < len
    · have hkT : k < T.length := by rw [← hlen.out]; exact hlt
      obtain ⟨hb, c0⟩ := hz.out k hkT
      have c1 : wr.cell? ⟨b, off + k, none⟩ = some (.string (T.getD k ByteArray.empty)) := by rw [BW.out.cell (by rw [HH.out]; exact hb)]; exact c0
      have ha : a = some ⟨b, off, none⟩ := by rcases hab.out with h | h; (omega); (exact h)
      have hnext := joined_next T k hkT
      have hjn : (joined (T.take (k + 1))).length ≤ (joined T).length := by
        unfold joined
        conv => rhs; rw [← List.take_append_drop (k + 1) T, List.flatMap_append, List.length_append]
        omega
      clear hb c0
      generalize T.getD k ByteArray.empty = s at *
      have hsl : s.data.toList.length = s.size := by rw [← Lib.size_eq]
      have HJN := Lib.hid (show (joined (T.take (k + 1))).length ≤ 900000 by have := hs.out; omega)
      have hbd : (joined (T.take k)).length + s.size ≤ 1000000 := by rw [hnext, List.length_append, hsl] at hjn; have := hs.out; omega
      have HNX := Lib.hid hnext
      have HBD := Lib.hid hbd
      clear hnext hjn hbd hsl
      subst ha
      go_wp2_with fail
      refine (sha_lay R R C B (joined (T.take k)) s wr HBD.out LA HKK).mono ?_
      rintro e w5 ⟨rfl, la5, k5⟩
      have LA5 := Lib.hid (show Laid R C B (joined (T.take (k + 1))) w5 by rw [HNX.out]; exact la5)
      have KY5 := Lib.hid (KY.out.keep k5 (by rw [H1R.out]; omega))
      have BW5 := Lib.hid (BW.out.trans (k5.mono (by rw [H1R.out]; omega)))
      clear la5 k5
      go_wp2_with fail
      go_roundw
      case rel => exact ⟨k + 1, by omega, by go_num, LA5.out, HJN, KY5.out, BW5.out⟩
      case measure => simp [intOf]; omega
    · obtain rfl : k = len := by omega
      have hall : T.take k = T := by rw [hlen.out, List.take_length]
      rw [hall] at LA
      have hn1 := LA.out.num.1
      have HNL := Lib.hid (endOf_len (joined T).length)
      obtain ⟨N, hN⟩ : ∃ N, N = (joined T).length := ⟨_, rfl⟩
      rw [← hN] at hn1 HNL
      have HN := Lib.hid hN
      have HN9 := Lib.hid (show N ≤ 900000 by rw [hN]; exact hs.out)
      clear hall hN hjl
      go_wp2_with fail
      have hC : C < wr.heap.size := World.block_lt_of_cell? wr ⟨C, 0, none⟩ hn1
      refine (sha_ending N wr (Nat.le_trans HN9.out (by omega))).mono ?_
      rintro e w5 ⟨rfl, k5⟩
      have hR : R < wr.heap.size := LA.out.st.1
      have hBb : B < wr.heap.size := by obtain ⟨l, _, h8⟩ := LA.out.row; exact h8.1
      have LA5 := Lib.hid (LA.out.keep k5 hR hC hBb)
      have KY5 := Lib.hid (KY.out.keep k5 (by have := HRB.out; omega))
      have BW5 := Lib.hid (BW.out.trans (k5.mono (by have := HRB.out; omega)))
      have HBS := Lib.hid (show (bs (endOf N)).data.toList = endOf N from bs_list _)
      have HBZ := Lib.hid (show (joined T).length + (bs (endOf N)).size ≤ 1000000 by rw [bs_size, ← HN.out]; have := HNL.out; have := HN9.out; omega)
      clear hR hBb hC k5 hn1
      go_wp2_with fail
      refine (sha_lay R R C B (joined T) (bs (endOf N)) w5 HBZ.out LA5 HKK).mono ?_
      rintro e w6 ⟨rfl, la6, k6⟩
      rw [HBS.out, HN.out] at la6
      have KY6 := Lib.hid (KY5.out.keep k6 (by rw [H1R.out]; omega))
      have BW6 := Lib.hid (BW5.out.trans (k6.mono (by rw [H1R.out]; omega)))
      have hst6 := la6.st
      rw [← digestE_all] at hst6
      have HDG := Lib.hid (show digest (joined T) = keyOf (digestE (joined T)) from rfl)
      have HOK := Lib.hid (show (digestE (joined T)).ok from blks_ok _ _)
      have hR6 : R < w6.heap.size := hst6.1
      clear la6 k6
      obtain ⟨s, hs⟩ : ∃ s, s = digestE (joined T) := ⟨_, rfl⟩
      rw [← hs] at hst6 HDG HOK
      clear hs
      have H45 := Lib.hid (show (Tryd.prog.info? 89).map (·.size) = some (words32 s.list).toList.length by simpa [words32, show s.list.length = 8 from rfl] using info45)
      have HRA := Lib.hid (range32 hst6)
      clear hst6
      go_wp2_with (first | (refine wpList_load_mid rfl 89 (.tmp 3) rfl R 0 rfl (words32 s.list).toList _ HRA.out Tryd.underlying89 rfl H45.out ?_))
      refine (sha_keyOf s w6 HOK).mono ?_
      rintro e w7 ⟨rfl, k7⟩
      have KY7 := Lib.hid (KY6.out.keep k7 (by have := HRB.out; omega))
      have BW7 := Lib.hid (BW6.out.trans (k7.mono (by have := HRB.out; omega)))
      have hlen := keyOf_len s
      have HTH := Lib.hid (show w7.there H 0 (keyA (keyOf s)).size by rw [keyA_size, hlen]; exact key_there KY7.out)
      have HI := Lib.hid (info25 _ hlen)
      have HIS := Lib.hid (info25s _ hlen)
      have HON := Lib.hid (keyA_one (keyOf s))
      obtain ⟨cs, hcs⟩ : ∃ cs, cs = keyA (keyOf s) := ⟨_, rfl⟩
      rw [← hcs] at HI HIS HTH HON
      rw [← hcs]
      have HCS := Lib.hid hcs
      clear hcs hlen k7 hR6
      go_wp2_with (first | (refine wpList_store_mid rfl 70 (.tmp 2) (.tmp 26) rfl H 0 cs rfl rfl HTH.out HIS.out HON.out ?_))
      refine bodyPost_ret (v := .agg cs) (results_arr rfl _ _ _ H cs _ rfl HTH.out Tryd.underlying70 rfl HI.out) rfl ⟨by rw [HCS.out, HDG.out], ?_⟩
      rw [← HH.out]
      exact below_setCells (Nat.le_refl _) _ 0 BW7.out
end Go.Proofs.YtbiifdnicieamaaDoor
