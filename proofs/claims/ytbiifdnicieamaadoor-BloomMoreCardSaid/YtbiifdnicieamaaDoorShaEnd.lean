/- What stands behind a text, as the program lays it; the digest's bytes. -/
import Derived.Test.YtbiifdnicieamaaDoorShaLay
set_option linter.unusedVariables false
set_option maxRecDepth 100000
namespace Go.Proofs.YtbiifdnicieamaaDoor
open Go.RowKit

set_option maxHeartbeats 2000000 in
theorem sha_ending (N : Nat) (w : World) (hN : N ≤ 1000000) :
    Calls Tryd.prog 53 #[.int .u64 (N : Int)] w fun e w' => e = .returned (.string (bs (endOf N))) ∧ Below w.heap.size w w' := by
  obtain ⟨i0, hi, hz0, hz1, hz2⟩ := info_parts info5
  have own0 := Lib.hid (World.ownsRow_made (base := w.heap.size) (e := 5) (size := 1) w (Array.replicate 128 (.int .u8 0)) 128 (Nat.le_refl _) (by unfold maxLen; omega) (by simp))
  have K0 := Lib.hid ((Below.refl w.heap.size w).alloc (Nat.le_refl _) (.cells (Array.replicate 128 (.int .u8 0)) 5))
  have hmk : ∀ w, (Instr.makeSlice 48 (.int .i64 0) (.int .i64 128)).run Tryd.prog w = .ok (.slice (some ⟨w.heap.size, 0, none⟩) 0 128) (w.alloc (.cells (Array.replicate 128 (.int .u8 0)) 5)) := fun _ => by kernel_rfl
  go_enter Tryd.func53, Tryd.ntmps53
  go_wp2_with (at_builtin; refine wpList_append_own _ rfl _ _ 48 rfl w.heap.size 5 i0 (.int .u8 0) 1 1 Tryd.underlying48 hi hz0 hz1 hz2 rfl (by decide) _ _ _ rfl (own0.out.alloc _) ⟨w.heap.size + 1, 0, none⟩ 1 1 [.int .u8 128] rfl rfl ?c1 ?c2 ?c3 ?c4 ?c5 ?_)
  case c1 => have h := cell_one_new (w.alloc (.cells (Array.replicate 128 (.int .u8 0)) 5)) (.int .u8 128) 5; simpa using h
  case c2 => intro u hu; simp at hu; subst hu; rfl
  case c3 => unfold maxLen; omega
  case c4 => omega
  case c5 => have := K0.out.size; simp; omega
  intro v2 w2 hown2 hg2 _
  have O2 := Lib.hid (Own8.push (l := []) (b := 128) hown2 rfl)
  have K2 := Lib.hid ((K0.out.alloc K0.out.size _).grown hg2 (by have := K0.out.size; simp; omega) (fun k hk => (own0.out.lt k hk).1))
  clear hown2 hg2 K0 own0 hmk
  go_wp2_with fail
  go_loopw [3] (fun v wr => ∃ z : Nat, z ≤ zerosOf N ∧ Own8 w.heap.size v ([128] ++ List.replicate z 0) wr ∧ Below w.heap.size w wr) (fun v wr => zerosOf N + 1 - sliceLen v)
  case atStart => exact ⟨0, by omega, by simpa using O2.out, K2.out⟩
  case round =>
    obtain ⟨z, hz, hown, hbw⟩ := hrel
    clear O2 K2
    obtain ⟨n, hn⟩ : ∃ n, n = 1 + z := ⟨_, rfl⟩
    have hln : ([128] ++ List.replicate z 0 : List UInt8).length = n := by rw [List.length_append, List.length_replicate, hn]; rfl
    obtain ⟨g, cap, rfl, hBg, hgl⟩ := hown.formN hln (by omega)
    have hZ : zerosOf N = (119 - N % 64) % 64 := rfl
    obtain ⟨Q, hQ⟩ : ∃ Q, Q = N + n := ⟨_, rfl⟩
    have hsum : (N : Int) + (n : Int) = (Q : Int) := by omega
    obtain ⟨L, hL⟩ : ∃ L : List UInt8, L = [128] ++ List.replicate z 0 := ⟨_, rfl⟩
    rw [← hL] at hown hln
    have HO := Lib.hid hown
    have HB := Lib.hid hbw
    have HLN := Lib.hid hln
    have HLD := Lib.hid hL
    have hn100 : n ≤ 100 := by omega
    clear hown hbw hln hL
    by_cases hlt : z < zerosOf N
    · have hne : ((Q : Int) % 64 == 56) = false := beq_eq_false_iff_ne.2 (by omega)
      have HNZ := Lib.hid hn
      have HZ := Lib.hid hZ
      clear hn hZ hQ
      go_wp2_with (at_builtin; refine wpList_append_own _ rfl _ _ 48 rfl w.heap.size 5 i0 (.int .u8 0) 1 1 Tryd.underlying48 hi hz0 hz1 hz2 rfl (by decide) _ _ _ rfl (HO.out.alloc _) ⟨wr.heap.size, 0, none⟩ 1 1 [.int .u8 0] rfl rfl ?e1 ?e2 ?e3 ?e4 ?e5 ?_)
      case e1 => exact cell_one_new _ _ _
      case e2 => intro u hu; simp at hu; subst hu; rfl
      case e3 => unfold maxLen; have := HLN.out; omega
      case e4 => have := HLN.out; omega
      case e5 => have := HB.out.size; simp; omega
      intro v3 w3 hown3 hg3 _
      have O3 := Lib.hid (Own8.push (b := 0) hown3 rfl)
      have K3 := Lib.hid ((HB.out.alloc HB.out.size _).grown hg3 (by have := HB.out.size; simp; omega) (fun k hk => (HO.out.lt k hk).1))
      clear hown3 hg3
      go_wp2_with fail
      go_roundw
      case rel => exact ⟨z + 1, by omega, by rw [List.replicate_succ', ← List.append_assoc, ← HLD.out]; exact O3.out, K3.out⟩
      case measure =>
        obtain ⟨g3, cap3, h3, _⟩ := O3.out.formN (n := n + 1) (by rw [List.length_append, HLN.out]; rfl) (by omega)
        have := HNZ.out
        simp [sliceLen, h3]
        omega
    · obtain rfl : z = zerosOf N := by omega
      have heq : ((Q : Int) % 64 == 56) = true := beq_iff_eq.2 (by omega)
      have HNZ := Lib.hid hn
      have HZ := Lib.hid hZ
      clear hn hZ hQ
      obtain ⟨M, hM⟩ : ∃ M, M = 8 * N := ⟨_, rfl⟩
      have hM' : 8 * (N : Int) = (M : Int) := by omega
      have HM := Lib.hid hM
      clear hM
      go_wp2_with fail
      rw [show ((Q : Int) % 64 != 56) = false by unfold bne; rw [heq]; rfl]
      clear heq hM'
      go_loopw [3, 4, 5] (fun v x i wr => ∃ j : Nat, j ≤ 8 ∧ i = .int .i64 (56 + (j : Int)) ∧ x = .int .u64 ((M * 256 ^ j % 18446744073709551616 : Nat) : Int) ∧ Own8 w.heap.size v (L ++ (len8 M).take j) wr ∧ Below w.heap.size w wr) (fun v x i wr => (64 - intOf i).toNat)
      case atStart => exact ⟨0, by omega, rfl, congrArg (Value.int .u64) (by have := HM.out; omega), by simpa using HO.out, HB.out⟩
      case round =>
        obtain ⟨j, hj, rfl, rfl, hown, hbw⟩ := hrel
        have hln2 : (L ++ (len8 M).take j).length = n + j := by rw [List.length_append, HLN.out, List.length_take]; have : (len8 M).length = 8 := rfl; omega
        obtain ⟨L2, hL2⟩ : ∃ L2, L2 = L ++ (len8 M).take j := ⟨_, rfl⟩
        rw [← hL2] at hown hln2
        have HL2 := Lib.hid hL2
        have HO2 := Lib.hid hown
        have HB2 := Lib.hid hbw
        clear hown hbw HO HB hL2
        have HLN2 := Lib.hid hln2
        obtain ⟨g2, cap2, rfl, _, _⟩ := HO2.out.formN hln2 (by have := HNZ.out; omega)
        clear hln2
        rcases Nat.lt_or_ge j 8 with hj8 | hj8
        · have hmv := moved_byte M j hj8
          have hmn := moved_next M j
          have hql : M * 256 ^ j % 18446744073709551616 < 18446744073709551616 := Nat.mod_lt _ (by decide)
          obtain ⟨X, hX⟩ : ∃ X, X = M * 256 ^ j % 18446744073709551616 := ⟨_, rfl⟩
          rw [← hX] at hmv hmn hql ⊢
          have HMN := Lib.hid hmn
          have HMV := Lib.hid hmv
          have HQL := Lib.hid hql
          clear hmv hmn hX hql
          obtain ⟨b, hb⟩ : ∃ b, b = X / 72057594037927936 := ⟨_, rfl⟩
          have hbl : b < 256 := by have := HQL.out; omega
          have hb1 : (X : Int) / 72057594037927936 = (b : Int) := by omega
          have hb2 : (b : Int) % 256 = (b : Int) := by omega
          have HBV := Lib.hid (show b = M / 256 ^ (7 - j) % 256 by rw [hb]; exact HMV.out)
          clear hb
          go_upto_region 9 with (at_builtin; refine wpList_append_own _ rfl _ _ 48 rfl w.heap.size 5 i0 (.int .u8 0) 1 1 Tryd.underlying48 hi hz0 hz1 hz2 rfl (by decide) _ _ _ rfl (HO2.out.alloc _) ⟨wr.heap.size, 0, none⟩ 1 1 [.int .u8 (b : Int)] rfl rfl ?f1 ?f2 ?f3 ?f4 ?f5 ?_)
          case f1 => exact cell_one_new _ _ _
          case f2 => intro u hu; simp at hu; subst hu; rfl
          case f3 => unfold maxLen; have := HLN2.out; omega
          case f4 => have := HLN2.out; omega
          case f5 => have := HB2.out.size; simp; omega
          intro v3 w3 hown3 hg3 _
          have O3 := Lib.hid (Own8.push (b := UInt8.ofNat (M / 256 ^ (7 - j))) hown3 (by rw [UInt8.toNat_ofNat', HBV.out]))
          have K3 := Lib.hid ((HB2.out.alloc HB2.out.size _).grown hg3 (by have := HB2.out.size; simp; omega) (fun k hk => (HO2.out.lt k hk).1))
          clear hown3 hg3
          go_wp2_with fail
          go_roundw
          case rel =>
            have h8 := len8_get M j hj8
            exact ⟨j + 1, by omega, by go_num, congrArg (Value.int .u64) (by rw [← HMN.out, wrap_u64i]; omega), by rw [h8, ← List.append_assoc, ← HL2.out]; exact O3.out, K3.out⟩
          case measure => simp [intOf]; omega
        · obtain rfl : j = 8 := by omega
          have hcv := run_convert_bytes_back (P := Tryd.prog) wr 48 9 5 ⟨g2, 0, none⟩ cap2 L2 Tryd.underlying48 Tryd.underlying5 Tryd.underlying9 HO2.out.cell
          rw [HLN2.out] at hcv
          have hres : (⟨L2.toArray⟩ : ByteArray) = bs (endOf N) := by
            unfold endOf bs
            rw [HL2.out, ← HLD.out, ← HM.out]
            rfl
          rw [hres] at hcv
          rw [show (56 : Int) + ((8 : Nat) : Int) = 64 from rfl]
          clear hres
          go_wp2
          go_ret
          exact ⟨rfl, HB2.out⟩

theorem shr_byte (x q : Nat) (hq : q < 4) : (x : Int) / 2 ^ (24 - 8 * q) % 256 = ((x / 256 ^ (3 - q) % 256 : Nat) : Int) := by
  have : q = 0 ∨ q = 1 ∨ q = 2 ∨ q = 3 := by omega
  rcases this with rfl | rfl | rfl | rfl <;> simp
theorem info25t (w : World) : True := trivial

set_option maxHeartbeats 1000000 in
set_option maxRecDepth 100000 in
theorem sha_keyOf (s : Eight) (w : World) (hs : Hid s.ok) :
    Calls Tryd.prog 54 #[.agg (words32 s.list)] w fun e w' => e = .returned (.agg (keyA (keyOf s))) ∧ Below w.heap.size w w' := by
  obtain ⟨H, hH⟩ : ∃ H, H = w.heap.size := ⟨_, rfl⟩
  obtain ⟨W2, hW2⟩ : ∃ W2, W2 = ((w.alloc (.cells (words32 s.list) 89)).alloc (.cells (Array.replicate 32 (.int .u8 0)) 70)).alloc (.cells (Array.replicate 32 (.int .u8 0)) 70) := ⟨_, rfl⟩
  have b2 : Below (H + 1) (w.alloc (.cells (words32 s.list) 89)) W2 := by rw [hW2]; exact ((Below.refl _ _).alloc (by rw [hH]; simp) _).alloc (by rw [hH]; simp) _
  have b3 : Below (H + 1 + 1) ((w.alloc (.cells (words32 s.list) 89)).alloc (.cells (Array.replicate 32 (.int .u8 0)) 70)) W2 := by rw [hW2]; exact (Below.refl _ _).alloc (by rw [hH]; simp) _
  have HS := Lib.hid (show Row32 H s.list W2 by
    have h := row32_new w s.list 89
    rw [← hH] at h
    exact h.keep b2 (by omega))
  have HR := Lib.hid (show Key8 (H + 1) (fun _ => 0) W2 by
    have h := key8_new (w.alloc (.cells (words32 s.list) 89)) 70
    rw [show (w.alloc (.cells (words32 s.list) 89)).heap.size = H + 1 by rw [hH]; simp] at h
    exact h.keep b3 (by omega))
  have HK := Lib.hid (show Key8 (H + 1 + 1) (fun _ => 0) W2 by
    have h := key8_new ((w.alloc (.cells (words32 s.list) 89)).alloc (.cells (Array.replicate 32 (.int .u8 0)) 70)) 70
    rw [show ((w.alloc (.cells (words32 s.list) 89)).alloc (.cells (Array.replicate 32 (.int .u8 0)) 70)).heap.size = H + 1 + 1 by rw [hH]; simp] at h
    rw [hW2]
    exact h)
  have HB := Lib.hid (show Below H w W2 by rw [hW2, hH]; exact (((Below.refl _ _).alloc (Nat.le_refl _) _).alloc (by simp) _).alloc (by simp; omega) _)
  have HW2 := Lib.hid hW2
  have HH := Lib.hid hH
  clear b2 b3 hW2 hH
  go_enter Tryd.func54, Tryd.ntmps54
  go_upto_region 2 with (fail)
  change Code.wp _ _ _ _ (((w.alloc (.cells (words32 s.list) 89)).alloc (.cells (Array.replicate 32 (.int .u8 0)) 70)).alloc (.cells (Array.replicate 32 (.int .u8 0)) 70))
  rw [← HW2.out, ← HH.out]
  go_wp2_with fail
  obtain ⟨Kb, hKb⟩ : ∃ x, x = H + 1 + 1 := ⟨_, rfl⟩
  rw [← hKb] at HK ⊢
  have HKB := Lib.hid hKb
  clear hKb
  go_loopw [5] (fun vi wr => ∃ i : Nat, i ≤ 32 ∧ vi = .int .i64 i ∧ Key8 Kb (fun m => if m < i then keyN s m else 0) wr ∧ Row32 H s.list wr ∧ Key8 (H + 1) (fun _ => 0) wr ∧ Below H w wr) (fun vi wr => 32 - (intOf vi).toNat)
  case atStart => exact ⟨0, by omega, rfl, HK.out.same (fun m _ => by rw [if_neg (by omega)]), HS.out, HR.out, HB.out⟩
  case round =>
    obtain ⟨i, hi, rfl, h1, h2, h3, h4⟩ := hrel
    have K1 := Lib.hid h1
    have S1 := Lib.hid h2
    have R1 := Lib.hid h3
    have B1 := Lib.hid h4
    clear h1 h2 h3 h4
    rcases Nat.lt_or_ge i 32 with hi32 | hi32
    · obtain ⟨q, hq⟩ : ∃ q, q = i / 4 := ⟨_, rfl⟩
      obtain ⟨p, hp⟩ : ∃ p, p = i % 4 := ⟨_, rfl⟩
      have eq1 : (i : Int) / 4 = (q : Int) := by omega
      have eq2 : (i : Int) % 4 = (p : Int) := by omega
      have lq : (q : Int) < 8 := by omega
      have hkn := keyN_at s q p (by omega) (by omega)
      rw [show 4 * q + p = i by omega] at hkn
      have c1 := (S1.out.2 q (by show q < 8; omega)).1
      have c2 := (K1.out.2 i hi32).1
      have c3 := (K1.out.2 i hi32).2
      have hx := getD_lt (w := s.list) (by
        obtain ⟨a1, a2, a3, a4, a5, a6, a7, a8⟩ := hs.out
        intro x hx
        simp only [Eight.list, List.mem_cons, List.not_mem_nil, or_false] at hx
        rcases hx with rfl | rfl | rfl | rfl | rfl | rfl | rfl | rfl <;> assumption) q
      generalize s.list.getD q 0 = x at *
      have hsh := shr_byte x p (by omega)
      rw [← hkn] at hsh
      obtain ⟨k, hk⟩ : ∃ k, k = keyN s i := ⟨_, rfl⟩
      rw [← hk] at hsh
      have KS := Lib.hid (K1.out.set (i := i) hi32 k)
      have KS' := Lib.hid (show Key8 Kb (fun m => if m < i + 1 then keyN s m else 0) (wr.setCell ⟨Kb, i, none⟩ (.int .u8 (k : Int))) from KS.out.same (fun m _ => by
        by_cases hm : m = i
        · subst hm; rw [if_pos rfl, if_pos (by omega), hk]
        · rw [if_neg hm]
          by_cases hm2 : m < i
          · rw [if_pos hm2, if_pos (by omega)]
          · rw [if_neg hm2, if_neg (by omega)]))
      have S2 := Lib.hid (S1.out.other (a := ⟨Kb, i, none⟩) (by show Kb ≠ H; have := HKB.out; omega) (.int .u8 (k : Int)))
      have R2 := Lib.hid (R1.out.other (a := ⟨Kb, i, none⟩) (by show Kb ≠ H + 1; have := HKB.out; omega) (.int .u8 (k : Int)))
      have B2 := Lib.hid (B1.out.setCell (p := ⟨Kb, i, none⟩) (by show H ≤ Kb; have := HKB.out; omega) (.int .u8 (k : Int)))
      clear hkn hk hq hp
      go_wp2_with fail
      generalize wr.setCell ⟨Kb, i, none⟩ (.int .u8 (k : Int)) = wz at *
      go_wp2_with fail
      go_roundw
      case rel => exact ⟨i + 1, by omega, by go_num, KS'.out, S2.out, R2.out, B2.out⟩
      case measure => simp [intOf]; omega
    · obtain rfl : i = 32 := by omega
      have hlen := keyOf_len s
      have HRG := Lib.hid (range_of K1.out hlen (fun m hm => by rw [if_pos hm]; rfl))
      have HTH := Lib.hid (show wr.there (H + 1) 0 (keyA (keyOf s)).size by rw [keyA_size, hlen]; exact key_there R1.out)
      have HI := Lib.hid (info25 _ hlen)
      have HIS := Lib.hid (info25s _ hlen)
      have HON := Lib.hid (keyA_one (keyOf s))
      obtain ⟨cs, hcs⟩ : ∃ cs, cs = keyA (keyOf s) := ⟨_, rfl⟩
      rw [← hcs] at HI HIS HRG HTH HON
      have HCS := Lib.hid hcs
      clear hcs hlen
      go_wp2_with (first | (refine wpList_load_mid rfl 70 (.tmp 3) rfl Kb 0 rfl cs.toList _ HRG.out Tryd.underlying70 rfl HI.out ?_) | (refine wpList_store_mid rfl 70 (.tmp 2) (.tmp 21) rfl (H + 1) 0 cs rfl rfl HTH.out HIS.out HON.out ?_))
      refine bodyPost_ret (v := .agg cs) (results_arr rfl _ _ _ (H + 1) cs _ rfl HTH.out Tryd.underlying70 rfl HI.out) rfl ⟨by rw [HCS.out], ?_⟩
      rw [← HH.out]
      exact below_setCells (by omega) _ 0 B1.out
end Go.Proofs.YtbiifdnicieamaaDoor
