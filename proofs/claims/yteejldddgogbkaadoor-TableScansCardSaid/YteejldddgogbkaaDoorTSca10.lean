/- Texts for layer 9, put together: ShaEnd, ShaSum, ShaLaws, ShaKeys, SixRefWrites, BloomFilter, BlockFind -/
import Derived.Test.YteejldddgogbkaaDoorTSca09
import Derived.Test.YteejldddgogbkaaDoorTSca08
import Derived.Laws.Slices
import Derived.Lib.Bytealg
import Derived.Test.YteejldddgogbkaaDoorTSca00
import Derived.Laws.IdiomStrings
import Derived.Test.YteejldddgogbkaaDoorTSca07
import Derived.Test.YteejldddgogbkaaDoorTSca04
import Derived.Test.YteejldddgogbkaaDoorTSca01
/- What stands behind a text, as the program lays it; the digest's bytes. -/
set_option linter.unusedVariables false
set_option maxRecDepth 100000
namespace Go.Proofs.YteejldddgogbkaaDoor
open Go.RowKit

set_option maxHeartbeats 2000000 in
theorem sha_ending (N : Nat) (w : World) (hN : N ≤ 1000000000000000) :
    Calls Tryd.prog 84 #[.int .u64 (N : Int)] w fun e w' => e = .returned (.string (bs (endOf N))) ∧ Below w.heap.size w w' := by
  obtain ⟨i0, hi, hz0, hz1, hz2⟩ := info_parts info5
  have own0 := Lib.hid (World.ownsRow_made (base := w.heap.size) (e := 5) (size := 1) w (Array.replicate 128 (.int .u8 0)) 128 (Nat.le_refl _) (by unfold maxLen; omega) (by simp))
  have K0 := Lib.hid ((Below.refl w.heap.size w).alloc (Nat.le_refl _) (.cells (Array.replicate 128 (.int .u8 0)) 5))
  have hmk : ∀ w, (Instr.makeSlice 45 (.int .i64 0) (.int .i64 128)).run Tryd.prog w = .ok (.slice (some ⟨w.heap.size, 0, none⟩) 0 128) (w.alloc (.cells (Array.replicate 128 (.int .u8 0)) 5)) := fun _ => by kernel_rfl
  go_enter Tryd.func84, Tryd.ntmps84
  go_wp2_with (at_builtin; refine wpList_append_own _ rfl _ _ 45 rfl w.heap.size 5 i0 (.int .u8 0) 1 1 Tryd.underlying45 hi hz0 hz1 hz2 rfl (by decide) _ _ _ rfl (own0.out.alloc _) ⟨w.heap.size + 1, 0, none⟩ 1 1 [.int .u8 128] rfl rfl ?c1 ?c2 ?c3 ?c4 ?c5 ?_)
  case c1 => have h := cell_one_new (w.alloc (.cells (Array.replicate 128 (.int .u8 0)) 5)) (.int .u8 128) 5; simpa using h
  case c2 => intro u hu; simp at hu; subst hu; rfl
  case c3 => unfold maxLen; omega
  case c4 => omega
  case c5 => have := K0.out.size; simp; omega
  intro v2 w2 hown2 hg2 _
  have O2 := Lib.hid (Own8.push (l := []) (b := 128) hown2 rfl)
  have K2 := Lib.hid ((K0.out.alloc K0.out.size _).grown hg2 (by have := K0.out.size; simp; omega) (fun k hk => (own0.out.lt k hk).1))
  clear hown2 hg2 K0 own0 hmk
  go_wp2_with fail
  go_loopw [3] (fun v wr => ∃ z : Nat, z ≤ zerosOf N ∧ Own8 w.heap.size v ([128] ++ List.replicate z 0) wr ∧ Below w.heap.size w wr) (fun v wr => zerosOf N + 1 - sliceLen v)
  case atStart => exact ⟨0, by omega, by simpa using O2.out, K2.out⟩
  case round =>
    obtain ⟨z, hz, hown, hbw⟩ := hrel
    clear O2 K2
    obtain ⟨n, hn⟩ : ∃ n, n = 1 + z := ⟨_, rfl⟩
    have hln : ([128] ++ List.replicate z 0 : List UInt8).length = n := by rw [List.length_append, List.length_replicate, hn]; rfl
    obtain ⟨g, cap, rfl, hBg, hgl⟩ := hown.formN hln (by omega)
    have hZ : zerosOf N = (119 - N % 64) % 64 := rfl
    obtain ⟨Q, hQ⟩ : ∃ Q, Q = N + n := ⟨_, rfl⟩
    have hsum : (N : Int) + (n : Int) = (Q : Int) := by omega
    obtain ⟨L, hL⟩ : ∃ L : List UInt8, L = [128] ++ List.replicate z 0 := ⟨_, rfl⟩
    rw [← hL] at hown hln
    have HO := Lib.hid hown
    have HB := Lib.hid hbw
    have HLN := Lib.hid hln
    have HLD := Lib.hid hL
    have hn100 : n ≤ 100 := by omega
    clear hown hbw hln hL
    by_cases hlt : z < zerosOf N
    · have hne : ((Q : Int) % 64 == 56) = false := beq_eq_false_iff_ne.2 (by omega)
      have HNZ := Lib.hid hn
      have HZ := Lib.hid hZ
      clear hn hZ hQ
      go_wp2_with (at_builtin; refine wpList_append_own _ rfl _ _ 45 rfl w.heap.size 5 i0 (.int .u8 0) 1 1 Tryd.underlying45 hi hz0 hz1 hz2 rfl (by decide) _ _ _ rfl (HO.out.alloc _) ⟨wr.heap.size, 0, none⟩ 1 1 [.int .u8 0] rfl rfl ?e1 ?e2 ?e3 ?e4 ?e5 ?_)
      case e1 => exact cell_one_new _ _ _
      case e2 => intro u hu; simp at hu; subst hu; rfl
      case e3 => unfold maxLen; have := HLN.out; omega
      case e4 => have := HLN.out; omega
      case e5 => have := HB.out.size; simp; omega
      intro v3 w3 hown3 hg3 _
      have O3 := Lib.hid (Own8.push (b := 0) hown3 rfl)
      have K3 := Lib.hid ((HB.out.alloc HB.out.size _).grown hg3 (by have := HB.out.size; simp; omega) (fun k hk => (HO.out.lt k hk).1))
      clear hown3 hg3
      go_wp2_with fail
      go_roundw
      case rel => exact ⟨z + 1, by omega, by rw [List.replicate_succ', ← List.append_assoc, ← HLD.out]; exact O3.out, K3.out⟩
      case measure =>
        obtain ⟨g3, cap3, h3, _⟩ := O3.out.formN (n := n + 1) (by rw [List.length_append, HLN.out]; rfl) (by omega)
        have := HNZ.out
        simp [sliceLen, h3]
        omega
    · obtain rfl : z = zerosOf N := by omega
      have heq : ((Q : Int) % 64 == 56) = true := beq_iff_eq.2 (by omega)
      have HNZ := Lib.hid hn
      have HZ := Lib.hid hZ
      clear hn hZ hQ
      obtain ⟨M, hM⟩ : ∃ M, M = 8 * N := ⟨_, rfl⟩
      have hM' : 8 * (N : Int) = (M : Int) := by omega
      have HM := Lib.hid hM
      clear hM
      go_wp2_with fail
      rw [show ((Q : Int) % 64 != 56) = false by unfold bne; rw [heq]; rfl]
      clear heq hM'
      go_loopw [3, 4, 5] (fun v x i wr => ∃ j : Nat, j ≤ 8 ∧ i = .int .i64 (56 + (j : Int)) ∧ x = .int .u64 ((M * 256 ^ j % 18446744073709551616 : Nat) : Int) ∧ Own8 w.heap.size v (L ++ (len8 M).take j) wr ∧ Below w.heap.size w wr) (fun v x i wr => (64 - intOf i).toNat)
      case atStart => exact ⟨0, by omega, rfl, congrArg (Value.int .u64) (by have := HM.out; omega), by simpa using HO.out, HB.out⟩
      case round =>
        obtain ⟨j, hj, rfl, rfl, hown, hbw⟩ := hrel
        have hln2 : (L ++ (len8 M).take j).length = n + j := by rw [List.length_append, HLN.out, List.length_take]; have : (len8 M).length = 8 := rfl; omega
        obtain ⟨L2, hL2⟩ : ∃ L2, L2 = L ++ (len8 M).take j := ⟨_, rfl⟩
        rw [← hL2] at hown hln2
        have HL2 := Lib.hid hL2
        have HO2 := Lib.hid hown
        have HB2 := Lib.hid hbw
        clear hown hbw HO HB hL2
        have HLN2 := Lib.hid hln2
        obtain ⟨g2, cap2, rfl, _, _⟩ := HO2.out.formN hln2 (by have := HNZ.out; omega)
        clear hln2
        rcases Nat.lt_or_ge j 8 with hj8 | hj8
        · have hmv := moved_byte M j hj8
          have hmn := moved_next M j
          have hql : M * 256 ^ j % 18446744073709551616 < 18446744073709551616 := Nat.mod_lt _ (by decide)
          obtain ⟨X, hX⟩ : ∃ X, X = M * 256 ^ j % 18446744073709551616 := ⟨_, rfl⟩
          rw [← hX] at hmv hmn hql ⊢
          have HMN := Lib.hid hmn
          have HMV := Lib.hid hmv
          have HQL := Lib.hid hql
          clear hmv hmn hX hql
          obtain ⟨b, hb⟩ : ∃ b, b = X / 72057594037927936 := ⟨_, rfl⟩
          have hbl : b < 256 := by have := HQL.out; omega
          have hb1 : (X : Int) / 72057594037927936 = (b : Int) := by omega
          have hb2 : (b : Int) % 256 = (b : Int) := by omega
          have HBV := Lib.hid (show b = M / 256 ^ (7 - j) % 256 by rw [hb]; exact HMV.out)
          clear hb
          go_upto_region 9 with (at_builtin; refine wpList_append_own _ rfl _ _ 45 rfl w.heap.size 5 i0 (.int .u8 0) 1 1 Tryd.underlying45 hi hz0 hz1 hz2 rfl (by decide) _ _ _ rfl (HO2.out.alloc _) ⟨wr.heap.size, 0, none⟩ 1 1 [.int .u8 (b : Int)] rfl rfl ?f1 ?f2 ?f3 ?f4 ?f5 ?_)
          case f1 => exact cell_one_new _ _ _
          case f2 => intro u hu; simp at hu; subst hu; rfl
          case f3 => unfold maxLen; have := HLN2.out; omega
          case f4 => have := HLN2.out; omega
          case f5 => have := HB2.out.size; simp; omega
          intro v3 w3 hown3 hg3 _
          have O3 := Lib.hid (Own8.push (b := UInt8.ofNat (M / 256 ^ (7 - j))) hown3 (by rw [UInt8.toNat_ofNat', HBV.out]))
          have K3 := Lib.hid ((HB2.out.alloc HB2.out.size _).grown hg3 (by have := HB2.out.size; simp; omega) (fun k hk => (HO2.out.lt k hk).1))
          clear hown3 hg3
          go_wp2_with fail
          go_roundw
          case rel =>
            have h8 := len8_get M j hj8
            exact ⟨j + 1, by omega, by go_num, congrArg (Value.int .u64) (by rw [← HMN.out, wrap_u64i]; omega), by rw [h8, ← List.append_assoc, ← HL2.out]; exact O3.out, K3.out⟩
          case measure => simp [intOf]; omega
        · obtain rfl : j = 8 := by omega
          have hcv := run_convert_bytes_back (P := Tryd.prog) wr 45 9 5 ⟨g2, 0, none⟩ cap2 L2 Tryd.underlying45 Tryd.underlying5 Tryd.underlying9 HO2.out.cell
          rw [HLN2.out] at hcv
          have hres : (⟨L2.toArray⟩ : ByteArray) = bs (endOf N) := by
            unfold endOf bs
            rw [HL2.out, ← HLD.out, ← HM.out]
            rfl
          rw [hres] at hcv
          rw [show (56 : Int) + ((8 : Nat) : Int) = 64 from rfl]
          clear hres
          go_wp2
          go_ret
          exact ⟨rfl, HB2.out⟩

theorem shr_byte (x q : Nat) (hq : q < 4) : (x : Int) / 2 ^ (24 - 8 * q) % 256 = ((x / 256 ^ (3 - q) % 256 : Nat) : Int) := by
  have : q = 0 ∨ q = 1 ∨ q = 2 ∨ q = 3 := by omega
  rcases this with rfl | rfl | rfl | rfl <;> simp
theorem info25t (w : World) : True := trivial

set_option maxHeartbeats 1000000 in
set_option maxRecDepth 100000 in
theorem sha_keyOf (s : Eight) (w : World) (hs : Hid s.ok) :
    Calls Tryd.prog 85 #[.agg (words32 s.list)] w fun e w' => e = .returned (.agg (keyA (keyOf s))) ∧ Below w.heap.size w w' := by
  obtain ⟨H, hH⟩ : ∃ H, H = w.heap.size := ⟨_, rfl⟩
  obtain ⟨W2, hW2⟩ : ∃ W2, W2 = ((w.alloc (.cells (words32 s.list) 141)).alloc (.cells (Array.replicate 32 (.int .u8 0)) 120)).alloc (.cells (Array.replicate 32 (.int .u8 0)) 120) := ⟨_, rfl⟩
  have b2 : Below (H + 1) (w.alloc (.cells (words32 s.list) 141)) W2 := by rw [hW2]; exact ((Below.refl _ _).alloc (by rw [hH]; simp) _).alloc (by rw [hH]; simp) _
  have b3 : Below (H + 1 + 1) ((w.alloc (.cells (words32 s.list) 141)).alloc (.cells (Array.replicate 32 (.int .u8 0)) 120)) W2 := by rw [hW2]; exact (Below.refl _ _).alloc (by rw [hH]; simp) _
  have HS := Lib.hid (show Row32 H s.list W2 by
    have h := row32_new w s.list 141
    rw [← hH] at h
    exact h.keep b2 (by omega))
  have HR := Lib.hid (show Key8 (H + 1) (fun _ => 0) W2 by
    have h := key8_new (w.alloc (.cells (words32 s.list) 141)) 120
    rw [show (w.alloc (.cells (words32 s.list) 141)).heap.size = H + 1 by rw [hH]; simp] at h
    exact h.keep b3 (by omega))
  have HK := Lib.hid (show Key8 (H + 1 + 1) (fun _ => 0) W2 by
    have h := key8_new ((w.alloc (.cells (words32 s.list) 141)).alloc (.cells (Array.replicate 32 (.int .u8 0)) 120)) 120
    rw [show ((w.alloc (.cells (words32 s.list) 141)).alloc (.cells (Array.replicate 32 (.int .u8 0)) 120)).heap.size = H + 1 + 1 by rw [hH]; simp] at h
    rw [hW2]
    exact h)
  have HB := Lib.hid (show Below H w W2 by rw [hW2, hH]; exact (((Below.refl _ _).alloc (Nat.le_refl _) _).alloc (by simp) _).alloc (by simp; omega) _)
  have HW2 := Lib.hid hW2
  have HH := Lib.hid hH
  clear b2 b3 hW2 hH
  go_enter Tryd.func85, Tryd.ntmps85
  go_upto_region 2 with (fail)
  change Code.wp _ _ _ _ (((w.alloc (.cells (words32 s.list) 141)).alloc (.cells (Array.replicate 32 (.int .u8 0)) 120)).alloc (.cells (Array.replicate 32 (.int .u8 0)) 120))
  rw [← HW2.out, ← HH.out]
  go_wp2_with fail
  obtain ⟨Kb, hKb⟩ : ∃ x, x = H + 1 + 1 := ⟨_, rfl⟩
  rw [← hKb] at HK ⊢
  have HKB := Lib.hid hKb
  clear hKb
  go_loopw [5] (fun vi wr => ∃ i : Nat, i ≤ 32 ∧ vi = .int .i64 i ∧ Key8 Kb (fun m => if m < i then keyN s m else 0) wr ∧ Row32 H s.list wr ∧ Key8 (H + 1) (fun _ => 0) wr ∧ Below H w wr) (fun vi wr => 32 - (intOf vi).toNat)
  case atStart => exact ⟨0, by omega, rfl, HK.out.same (fun m _ => by rw [if_neg (by omega)]), HS.out, HR.out, HB.out⟩
  case round =>
    obtain ⟨i, hi, rfl, h1, h2, h3, h4⟩ := hrel
    have K1 := Lib.hid h1
    have S1 := Lib.hid h2
    have R1 := Lib.hid h3
    have B1 := Lib.hid h4
    clear h1 h2 h3 h4
    rcases Nat.lt_or_ge i 32 with hi32 | hi32
    · obtain ⟨q, hq⟩ : ∃ q, q = i / 4 := ⟨_, rfl⟩
      obtain ⟨p, hp⟩ : ∃ p, p = i % 4 := ⟨_, rfl⟩
      have eq1 : (i : Int) / 4 = (q : Int) := by omega
      have eq2 : (i : Int) % 4 = (p : Int) := by omega
      have lq : (q : Int) < 8 := by omega
      have hkn := keyN_at s q p (by omega) (by omega)
      rw [show 4 * q + p = i by omega] at hkn
      have c1 := (S1.out.2 q (by show q < 8; omega)).1
      have c2 := (K1.out.2 i hi32).1
      have c3 := (K1.out.2 i hi32).2
      have hx := getD_lt (w := s.list) (by
        obtain ⟨a1, a2, a3, a4, a5, a6, a7, a8⟩ := hs.out
        intro x hx
        simp only [Eight.list, List.mem_cons, List.not_mem_nil, or_false] at hx
        rcases hx with rfl | rfl | rfl | rfl | rfl | rfl | rfl | rfl <;> assumption) q
      generalize s.list.getD q 0 = x at *
      have hsh := shr_byte x p (by omega)
      rw [← hkn] at hsh
      obtain ⟨k, hk⟩ : ∃ k, k = keyN s i := ⟨_, rfl⟩
      rw [← hk] at hsh
      have KS := Lib.hid (K1.out.set (i := i) hi32 k)
      have KS' := Lib.hid (show Key8 Kb (fun m => if m < i + 1 then keyN s m else 0) (wr.setCell ⟨Kb, i, none⟩ (.int .u8 (k : Int))) from KS.out.same (fun m _ => by
        by_cases hm : m = i
        · subst hm; rw [if_pos rfl, if_pos (by omega), hk]
        · rw [if_neg hm]
          by_cases hm2 : m < i
          · rw [if_pos hm2, if_pos (by omega)]
          · rw [if_neg hm2, if_neg (by omega)]))
      have S2 := Lib.hid (S1.out.other (a := ⟨Kb, i, none⟩) (by show Kb ≠ H; have := HKB.out; omega) (.int .u8 (k : Int)))
      have R2 := Lib.hid (R1.out.other (a := ⟨Kb, i, none⟩) (by show Kb ≠ H + 1; have := HKB.out; omega) (.int .u8 (k : Int)))
      have B2 := Lib.hid (B1.out.setCell (p := ⟨Kb, i, none⟩) (by show H ≤ Kb; have := HKB.out; omega) (.int .u8 (k : Int)))
      clear hkn hk hq hp
      go_wp2_with fail
      generalize wr.setCell ⟨Kb, i, none⟩ (.int .u8 (k : Int)) = wz at *
      go_wp2_with fail
      go_roundw
      case rel => exact ⟨i + 1, by omega, by go_num, KS'.out, S2.out, R2.out, B2.out⟩
      case measure => simp [intOf]; omega
    · obtain rfl : i = 32 := by omega
      have hlen := keyOf_len s
      have HRG := Lib.hid (range_of K1.out hlen (fun m hm => by rw [if_pos hm]; rfl))
      have HTH := Lib.hid (show wr.there (H + 1) 0 (keyA (keyOf s)).size by rw [keyA_size, hlen]; exact key_there R1.out)
      have HI := Lib.hid (info25 _ hlen)
      have HIS := Lib.hid (info25s _ hlen)
      have HON := Lib.hid (keyA_one (keyOf s))
      obtain ⟨cs, hcs⟩ : ∃ cs, cs = keyA (keyOf s) := ⟨_, rfl⟩
      rw [← hcs] at HI HIS HRG HTH HON
      have HCS := Lib.hid hcs
      clear hcs hlen
      go_wp2_with (first | (refine wpList_load_mid rfl 120 (.tmp 3) rfl Kb 0 rfl cs.toList _ HRG.out Tryd.underlying120 rfl HI.out ?_) | (refine wpList_store_mid rfl 120 (.tmp 2) (.tmp 21) rfl (H + 1) 0 cs rfl rfl HTH.out HIS.out HON.out ?_))
      refine bodyPost_ret (v := .agg cs) (results_arr rfl _ _ _ (H + 1) cs _ rfl HTH.out Tryd.underlying120 rfl HI.out) rfl ⟨by rw [HCS.out], ?_⟩
      rw [← HH.out]
      exact below_setCells (by omega) _ 0 B1.out
end Go.Proofs.YteejldddgogbkaaDoor
/- The digest, as the program reckons it. -/
set_option linter.unusedVariables false
set_option maxRecDepth 100000
namespace Go.Proofs.YteejldddgogbkaaDoor
open Go.RowKit

theorem laid_none (l : List UInt8) (h : l.length = 64) : Tail [] l := ⟨h, rfl⟩
theorem Laid.keep {R C B K : Nat} {L : List UInt8} {w w' : World} (h : Laid R C B L w) (k : Below K w w') (hR : R < K) (hC : C < K) (hB : B < K) : Laid R C B L w' := by
  obtain ⟨⟨l, hT, h8⟩, ⟨h1, h2⟩, hs, hg⟩ := h
  exact ⟨⟨l, hT, h8.keep k hB⟩, ⟨by rw [k.cell hC]; exact h1, by rw [YteejldddgogbkaaDoor.Below.frozen k hC]; exact h2⟩, hs.keep k hR, hg.keep k (by omega)⟩
/-- What each law hands to the digest. -/
theorem RowS.keepIn {b off B : Nat} {T : List ByteArray} {w w' : World} (h : RowS b off T w) (k : Below B w w') (hb : b < B) : RowS b off T w' := by
  intro i hi
  obtain ⟨h1, h2⟩ := h i hi
  exact ⟨Nat.lt_of_lt_of_le h1 k.size, by rw [k.cell hb]; exact h2⟩

set_option maxHeartbeats 2000000 in
set_option maxRecDepth 100000 in
theorem sha_Sum (a : Option Addr) (b off len cap : Nat) (T : List ByteArray) (w : World) (hlen : Hid (len = T.length)) (hl : len ≤ 9223372036854775807) (hz : Hid (RowS b off T w)) (hs : Hid ((joined T).length ≤ 900000000000000)) (hab : Hid (len = 0 ∨ a = some ⟨b, off, none⟩)) (hg : Hid (Glob w)) :
    Calls Tryd.prog 69 #[.slice a len cap] w fun e w' => e = .returned (.agg (keyA (digest (joined T)))) ∧ Below w.heap.size w w' := by
  obtain ⟨H, hH⟩ : ∃ H, H = w.heap.size := ⟨_, rfl⟩
  obtain ⟨W4, hW4⟩ : ∃ W4, W4 = (((w.alloc (.cells (Array.replicate 32 (.int .u8 0)) 120)).alloc (.cells (words32 start.list) 141)).alloc (.cells (Array.replicate 64 (.int .u8 0)) 142)).alloc (.cells #[.int .u64 0] 143) := ⟨_, rfl⟩
  have e1 : (w.alloc (.cells (Array.replicate 32 (.int .u8 0)) 120)).heap.size = H + 1 := by rw [hH]; simp
  have e2 : ((w.alloc (.cells (Array.replicate 32 (.int .u8 0)) 120)).alloc (.cells (words32 start.list) 141)).heap.size = H + 1 + 1 := by rw [hH]; simp
  have e3 : (((w.alloc (.cells (Array.replicate 32 (.int .u8 0)) 120)).alloc (.cells (words32 start.list) 141)).alloc (.cells (Array.replicate 64 (.int .u8 0)) 142)).heap.size = H + 1 + 1 + 1 := by rw [hH]; simp
  have HB := Lib.hid (show Below H w W4 by rw [hW4, hH]; exact ((((Below.refl _ _).alloc (Nat.le_refl _) _).alloc (by simp) _).alloc (by simp; omega) _).alloc (by simp; omega) _)
  have HRR := Lib.hid (show Key8 H (fun _ => 0) W4 by
    have h := key8_new w 120
    rw [← hH] at h
    have k : Below (H + 1) (w.alloc (.cells (Array.replicate 32 (.int .u8 0)) 120)) W4 := by rw [hW4]; exact (((Below.refl _ _).alloc (by rw [e1]; exact Nat.le_refl _) _).alloc (by rw [e2]; omega) _).alloc (by rw [e3]; omega) _
    exact h.keep k (by omega))
  have HST := Lib.hid (show Row32 (H + 1) start.list W4 by
    have h := row32_new (w.alloc (.cells (Array.replicate 32 (.int .u8 0)) 120)) start.list 141
    rw [e1] at h
    have k : Below (H + 1 + 1) ((w.alloc (.cells (Array.replicate 32 (.int .u8 0)) 120)).alloc (.cells (words32 start.list) 141)) W4 := by rw [hW4]; exact ((Below.refl _ _).alloc (by rw [e2]; exact Nat.le_refl _) _).alloc (by rw [e3]; omega) _
    exact h.keep k (by omega))
  have HBK := Lib.hid (show Row8 (H + 1 + 1) (List.replicate 64 0) W4 by
    have h := row8_zero ((w.alloc (.cells (Array.replicate 32 (.int .u8 0)) 120)).alloc (.cells (words32 start.list) 141)) 64 142
    rw [e2] at h
    have k : Below (H + 1 + 1 + 1) (((w.alloc (.cells (Array.replicate 32 (.int .u8 0)) 120)).alloc (.cells (words32 start.list) 141)).alloc (.cells (Array.replicate 64 (.int .u8 0)) 142)) W4 := by rw [hW4]; exact (Below.refl _ _).alloc (by rw [e3]; exact Nat.le_refl _) _
    exact h.keep k (by omega))
  have HNM := Lib.hid (show W4.cell? ⟨H + 1 + 1 + 1, 0, none⟩ = some (.int .u64 0) ∧ W4.frozen? ⟨H + 1 + 1 + 1, 0, none⟩ = false by
    rw [hW4, ← e3]
    exact ⟨by rw [World.cell?_alloc_mark]; rfl, by rw [World.frozen?_alloc_mark]; simp⟩)
  have HW4 := Lib.hid hW4
  clear e1 e2 e3
  have HH := Lib.hid hH
  clear hH hW4
  go_enter Tryd.func69, Tryd.ntmps69
  go_upto_region 4 with (fail)
  change Code.wp _ _ _ _ ((((w.alloc (.cells (Array.replicate 32 (.int .u8 0)) 120)).alloc (.cells (words32 start.list) 141)).alloc (.cells (Array.replicate 64 (.int .u8 0)) 142)).alloc (.cells #[.int .u64 0] 143))
  rw [← HW4.out, ← HH.out]
  go_wp2_with fail
  obtain ⟨R, hR⟩ : ∃ x, x = H + 1 := ⟨_, rfl⟩
  rw [← hR] at HST HBK HNM ⊢
  obtain ⟨B, hB⟩ : ∃ x, x = R + 1 := ⟨_, rfl⟩
  rw [← hB] at HBK HNM ⊢
  obtain ⟨C, hC⟩ : ∃ x, x = B + 1 := ⟨_, rfl⟩
  rw [← hC] at HNM ⊢
  have HRB := Lib.hid (show H < R ∧ R < B ∧ B < C by omega)
  have HKK := Lib.hid (show 0 < R ∧ R ≤ R ∧ R ≤ C ∧ R ≤ B ∧ R ≠ C ∧ R ≠ B ∧ C ≠ B by omega)
  have H1R := Lib.hid hR
  clear hR hB hC
  have HG4 := Lib.hid (show Glob W4 from hg.out.keep HB.out (by rw [HH.out]; exact hg.out.1))
  have HL0 := Lib.hid (show Laid R C B (joined (T.take 0)) W4 by
    rw [show joined (T.take 0) = [] from rfl]
    exact ⟨⟨List.replicate 64 0, laid_none _ (by simp), HBK.out⟩, HNM.out, HST.out, HG4.out⟩)
  go_loopw [13] (fun vi wr => ∃ k : Nat, k ≤ len ∧ vi = .int .i64 k ∧ Laid R C B (joined (T.take k)) wr ∧ Hid ((joined (T.take k)).length ≤ 900000000000000) ∧ Key8 H (fun _ => 0) wr ∧ Below H w wr) (fun vi wr => len - (intOf vi).toNat)
  case atStart => exact ⟨0, by omega, rfl, HL0.out, Lib.hid (by simp [joined]), HRR.out, HB.out⟩
  case round =>
    obtain ⟨k, hk, rfl, hla, hjl, hky, hbw⟩ := hrel
    have LA := Lib.hid hla
    have KY := Lib.hid hky
    have BW := Lib.hid hbw
    clear hla hky hbw
    by_cases hlt : k < len
    · have hkT : k < T.length := by rw [← hlen.out]; exact hlt
      obtain ⟨hb, c0⟩ := hz.out k hkT
      have c1 : wr.cell? ⟨b, off + k, none⟩ = some (.string (T.getD k ByteArray.empty)) := by rw [BW.out.cell (by rw [HH.out]; exact hb)]; exact c0
      have ha : a = some ⟨b, off, none⟩ := by rcases hab.out with h | h; (omega); (exact h)
      have hnext := joined_next T k hkT
      have hjn : (joined (T.take (k + 1))).length ≤ (joined T).length := by
        unfold joined
        conv => rhs; rw [← List.take_append_drop (k + 1) T, List.flatMap_append, List.length_append]
        omega
      clear hb c0
      generalize T.getD k ByteArray.empty = s at *
      have hsl : s.data.toList.length = s.size := by rw [← Lib.size_eq]
      have HJN := Lib.hid (show (joined (T.take (k + 1))).length ≤ 900000000000000 by have := hs.out; omega)
      have hbd : (joined (T.take k)).length + s.size ≤ 1000000000000000 := by rw [hnext, List.length_append, hsl] at hjn; have := hs.out; omega
      have HNX := Lib.hid hnext
      have HBD := Lib.hid hbd
      clear hnext hjn hbd hsl
      subst ha
      go_wp2_with fail
      refine (sha_lay R R C B (joined (T.take k)) s wr HBD.out LA HKK).mono ?_
      rintro e w5 ⟨rfl, la5, k5⟩
      have LA5 := Lib.hid (show Laid R C B (joined (T.take (k + 1))) w5 by rw [HNX.out]; exact la5)
      have KY5 := Lib.hid (KY.out.keep k5 (by rw [H1R.out]; omega))
      have BW5 := Lib.hid (BW.out.trans (k5.mono (by rw [H1R.out]; omega)))
      clear la5 k5
      go_wp2_with fail
      go_roundw
      case rel => exact ⟨k + 1, by omega, by go_num, LA5.out, HJN, KY5.out, BW5.out⟩
      case measure => simp [intOf]; omega
    · obtain rfl : k = len := by omega
      have hall : T.take k = T := by rw [hlen.out, List.take_length]
      rw [hall] at LA
      have hn1 := LA.out.num.1
      have HNL := Lib.hid (endOf_len (joined T).length)
      obtain ⟨N, hN⟩ : ∃ N, N = (joined T).length := ⟨_, rfl⟩
      rw [← hN] at hn1 HNL
      have HN := Lib.hid hN
      have HN9 := Lib.hid (show N ≤ 900000000000000 by rw [hN]; exact hs.out)
      clear hall hN hjl
      go_wp2_with fail
      have hC : C < wr.heap.size := World.block_lt_of_cell? wr ⟨C, 0, none⟩ hn1
      refine (sha_ending N wr (Nat.le_trans HN9.out (by omega))).mono ?_
      rintro e w5 ⟨rfl, k5⟩
      have hR : R < wr.heap.size := LA.out.st.1
      have hBb : B < wr.heap.size := by obtain ⟨l, _, h8⟩ := LA.out.row; exact h8.1
      have LA5 := Lib.hid (LA.out.keep k5 hR hC hBb)
      have KY5 := Lib.hid (KY.out.keep k5 (by have := HRB.out; omega))
      have BW5 := Lib.hid (BW.out.trans (k5.mono (by have := HRB.out; omega)))
      have HBS := Lib.hid (show (bs (endOf N)).data.toList = endOf N from bs_list _)
      have HBZ := Lib.hid (show (joined T).length + (bs (endOf N)).size ≤ 1000000000000000 by rw [bs_size, ← HN.out]; have := HNL.out; have := HN9.out; omega)
      clear hR hBb hC k5 hn1
      go_wp2_with fail
      refine (sha_lay R R C B (joined T) (bs (endOf N)) w5 HBZ.out LA5 HKK).mono ?_
      rintro e w6 ⟨rfl, la6, k6⟩
      rw [HBS.out, HN.out] at la6
      have KY6 := Lib.hid (KY5.out.keep k6 (by rw [H1R.out]; omega))
      have BW6 := Lib.hid (BW5.out.trans (k6.mono (by rw [H1R.out]; omega)))
      have hst6 := la6.st
      rw [← digestE_all] at hst6
      have HDG := Lib.hid (show digest (joined T) = keyOf (digestE (joined T)) from rfl)
      have HOK := Lib.hid (show (digestE (joined T)).ok from blks_ok _ _)
      have hR6 : R < w6.heap.size := hst6.1
      clear la6 k6
      obtain ⟨s, hs⟩ : ∃ s, s = digestE (joined T) := ⟨_, rfl⟩
      rw [← hs] at hst6 HDG HOK
      clear hs
      have H45 := Lib.hid (show (Tryd.prog.info? 141).map (·.size) = some (words32 s.list).toList.length by simpa [words32, show s.list.length = 8 from rfl] using info45)
      have HRA := Lib.hid (range32 hst6)
      clear hst6
      go_wp2_with (first | (refine wpList_load_mid rfl 141 (.tmp 3) rfl R 0 rfl (words32 s.list).toList _ HRA.out Tryd.underlying141 rfl H45.out ?_))
      refine (sha_keyOf s w6 HOK).mono ?_
      rintro e w7 ⟨rfl, k7⟩
      have KY7 := Lib.hid (KY6.out.keep k7 (by have := HRB.out; omega))
      have BW7 := Lib.hid (BW6.out.trans (k7.mono (by have := HRB.out; omega)))
      have hlen := keyOf_len s
      have HTH := Lib.hid (show w7.there H 0 (keyA (keyOf s)).size by rw [keyA_size, hlen]; exact key_there KY7.out)
      have HI := Lib.hid (info25 _ hlen)
      have HIS := Lib.hid (info25s _ hlen)
      have HON := Lib.hid (keyA_one (keyOf s))
      obtain ⟨cs, hcs⟩ : ∃ cs, cs = keyA (keyOf s) := ⟨_, rfl⟩
      rw [← hcs] at HI HIS HTH HON
      rw [← hcs]
      have HCS := Lib.hid hcs
      clear hcs hlen k7 hR6
      go_wp2_with (first | (refine wpList_store_mid rfl 120 (.tmp 2) (.tmp 26) rfl H 0 cs rfl rfl HTH.out HIS.out HON.out ?_))
      refine bodyPost_ret (v := .agg cs) (results_arr rfl _ _ _ H cs _ rfl HTH.out Tryd.underlying120 rfl HI.out) rfl ⟨by rw [HCS.out, HDG.out], ?_⟩
      rw [← HH.out]
      exact below_setCells (Nat.le_refl _) _ 0 BW7.out
end Go.Proofs.YteejldddgogbkaaDoor
/- Plain mathematics of the statements over keys: one order; words are all of a key; digits tell a key. -/
set_option linter.unusedVariables false
set_option maxRecDepth 100000
namespace Go.Proofs.YteejldddgogbkaaDoor

theorem lessL_trans : ∀ (a b c : List UInt8), a.length = b.length → b.length = c.length → lessL a b = true → lessL b c = true → lessL a c = true
  | [], [], [], _, _, h, _ => h
  | x :: a, y :: b, z :: c, h1, h2, h3, h4 => by
    simp only [lessL] at h3 h4 ⊢
    by_cases hxy : x = y
    · subst hxy
      rw [if_pos rfl] at h3
      by_cases hyz : x = z
      · subst hyz
        rw [if_pos rfl] at h4 ⊢
        exact lessL_trans a b c (by simpa using h1) (by simpa using h2) h3 h4
      · rw [if_neg hyz] at h4 ⊢
        exact h4
    · rw [if_neg hxy] at h3
      have h3 := of_decide_eq_true h3
      by_cases hyz : y = z
      · subst hyz
        rw [if_neg hxy]
        exact decide_eq_true h3
      · rw [if_neg hyz] at h4
        have h4 := of_decide_eq_true h4
        rw [if_neg (fun h => by rw [h] at h3; omega)]
        exact decide_eq_true (by omega)
theorem lessL_two : ∀ (a b : List UInt8), a.length = b.length → lessL a b = false → lessL b a = false → a = b
  | [], [], _, _, _ => rfl
  | x :: a, y :: b, h1, h2, h3 => by
    simp only [lessL] at h2 h3
    by_cases hxy : x = y
    · subst hxy
      rw [if_pos rfl] at h2 h3
      rw [lessL_two a b (by simpa using h1) h2 h3]
    · rw [if_neg hxy] at h2
      rw [if_neg (fun h => hxy h.symm)] at h3
      have h2 := of_decide_eq_false h2
      have h3 := of_decide_eq_false h3
      exact absurd (UInt8.toNat_inj.1 (by omega)) hxy
theorem lessL_iff (a b : List UInt8) (h : a.length = b.length) : (a = b) ↔ (lessL a b = false ∧ lessL b a = false) :=
  ⟨fun e => by subst e; exact ⟨lessL_same _, lessL_same _⟩, fun e => lessL_two a b h e.1 e.2⟩

theorem word_bytes {a b : List UInt8} {o : Nat} (h : wordAt a o = wordAt b o) : ∀ j, j < 4 → byteAt a (o + j) = byteAt b (o + j) := by
  have h1 := byteAt_lt a o
  have h2 := byteAt_lt a (o + 1)
  have h3 := byteAt_lt a (o + 2)
  have h4 := byteAt_lt a (o + 3)
  have g1 := byteAt_lt b o
  have g2 := byteAt_lt b (o + 1)
  have g3 := byteAt_lt b (o + 2)
  have g4 := byteAt_lt b (o + 3)
  unfold wordAt at h
  intro j hj
  have : j = 0 ∨ j = 1 ∨ j = 2 ∨ j = 3 := by omega
  rcases this with rfl | rfl | rfl | rfl
  · rw [Nat.add_zero]; omega
  · omega
  · omega
  · omega
theorem bytes_same {a b : List UInt8} (h : a.length = b.length) (hb : ∀ j, j < a.length → byteAt a j = byteAt b j) : a = b := by
  apply List.ext_getElem h
  intro j h1 h2
  have := hb j h1
  rw [byteAt_get a j h1, byteAt_get b j h2] at this
  exact UInt8.toNat_inj.1 this
theorem words_same {a b : List UInt8} (ha : a.length = 32) (hb : b.length = 32) : (∀ n, n < 8 → wordAt a (4 * n) = wordAt b (4 * n)) ↔ a = b := by
  constructor
  · intro h
    apply bytes_same (by omega)
    intro j hj
    have := word_bytes (h (j / 4) (by omega)) (j % 4) (by omega)
    rwa [show 4 * (j / 4) + j % 4 = j by omega] at this
  · intro h n _
    rw [h]

theorem digN_lt {k : Nat} (h : k < 16) : digN k < 256 := by unfold digN; split <;> omega
theorem digB_at {k : Nat} (h : k < 16) : digO (digB k).toNat = k := by
  unfold digB
  rw [ofNat_toNat, Nat.mod_eq_of_lt (digN_lt h), digO_at k h]
theorem hexL_at : ∀ (l : List UInt8) (m : Nat), m < l.length → byteAt (hexL l) (2 * m) = (digB (byteAt l m / 16)).toNat ∧ byteAt (hexL l) (2 * m + 1) = (digB (byteAt l m % 16)).toNat
  | b :: l, 0, _ => ⟨rfl, rfl⟩
  | b :: l, m + 1, h => by
    have hm : m < l.length := by simpa using h
    have h2 := hexL_at l m hm
    have e : ∀ j, byteAt (hexL (b :: l)) (j + 2) = byteAt (hexL l) j := fun j => rfl
    have e2 : byteAt (b :: l) (m + 1) = byteAt l m := rfl
    rw [show 2 * (m + 1) = 2 * m + 2 by omega, show 2 * m + 2 + 1 = (2 * m + 1) + 2 by omega, e, e, e2]
    exact h2
theorem hex_fine {l : List UInt8} (h : l.length = 32) : fine (hexL l) ∧ parseK (hexL l) = l := by
  have hd : ∀ m, m < 32 → dg (hexL l) (2 * m) = byteAt l m / 16 ∧ dg (hexL l) (2 * m + 1) = byteAt l m % 16 := by
    intro m hm
    have hb := byteAt_lt l m
    obtain ⟨h1, h2⟩ := hexL_at l m (by omega)
    unfold dg
    rw [h1, h2, digB_at (by omega), digB_at (by omega)]
    exact ⟨rfl, rfl⟩
  have hne : ∀ j, j < 64 → dg (hexL l) j ≠ 16 := by
    intro j hj
    have hb := byteAt_lt l (j / 2)
    obtain ⟨h1, h2⟩ := hd (j / 2) (by omega)
    rcases Nat.mod_two_eq_zero_or_one j with h0 | h0
    · rw [show 2 * (j / 2) = j by omega] at h1; omega
    · rw [show 2 * (j / 2) + 1 = j by omega] at h2; omega
  refine ⟨⟨by rw [hexL_len, h], hne⟩, ?_⟩
  apply bytes_same (by rw [parseK_len, h])
  intro m hm
  rw [parseK_len] at hm
  rw [parseK_at _ hne m hm]
  obtain ⟨h1, h2⟩ := hd m hm
  unfold pfill
  rw [if_pos (by omega), h1, h2]
  omega

theorem digB_back {c : Nat} (hc : c < 256) (h : digO c ≠ 16) : digN (digO c) = c ∧ digO c < 16 := by
  unfold digO at h ⊢
  by_cases h1 : 48 ≤ c ∧ c ≤ 57
  · rw [if_pos h1]; unfold digN; rw [if_pos (by omega)]; omega
  · rw [if_neg h1] at h ⊢
    by_cases h2 : 97 ≤ c ∧ c ≤ 102
    · rw [if_pos h2]; unfold digN; rw [if_neg (by omega)]; omega
    · rw [if_neg h2] at h; omega
theorem parse_back {s : List UInt8} (h : fine s) : hexL (parseK s) = s := by
  have hl := hexL_len (parseK s)
  rw [parseK_len] at hl
  apply bytes_same (by rw [hl, h.1])
  intro j hj
  have hj64 : j < 64 := by omega
  obtain ⟨h1, h2⟩ := hexL_at (parseK s) (j / 2) (by rw [parseK_len]; omega)
  have hp := parseK_at s h.2 (j / 2) (by omega)
  have e : pfill s 64 (j / 2) = 16 * dg s (2 * (j / 2)) + dg s (2 * (j / 2) + 1) := by unfold pfill; rw [if_pos (by omega)]
  obtain ⟨a1, a2⟩ := digB_back (byteAt_lt s (2 * (j / 2))) (h.2 (2 * (j / 2)) (by omega))
  obtain ⟨b1, b2⟩ := digB_back (byteAt_lt s (2 * (j / 2) + 1)) (h.2 (2 * (j / 2) + 1) (by omega))
  have f1 : dg s (2 * (j / 2)) = digO (byteAt s (2 * (j / 2))) := rfl
  have f2 : dg s (2 * (j / 2) + 1) = digO (byteAt s (2 * (j / 2) + 1)) := rfl
  rw [← f1] at a1 a2
  rw [← f2] at b1 b2
  have q1 : (16 * dg s (2 * (j / 2)) + dg s (2 * (j / 2) + 1)) / 16 = dg s (2 * (j / 2)) := by omega
  have q2 : (16 * dg s (2 * (j / 2)) + dg s (2 * (j / 2) + 1)) % 16 = dg s (2 * (j / 2) + 1) := by omega
  rw [hp, e, q1] at h1
  rw [hp, e, q2] at h2
  rcases Nat.mod_two_eq_zero_or_one j with h0 | h0
  · rw [show 2 * (j / 2) = j by omega] at h1 a1 a2
    rw [h1]
    unfold digB
    rw [ofNat_toNat, Nat.mod_eq_of_lt (digN_lt a2), a1]
  · rw [show 2 * (j / 2) + 1 = j by omega] at h2 b1 b2
    rw [h2]
    unfold digB
    rw [ofNat_toNat, Nat.mod_eq_of_lt (digN_lt b2), b1]

/-- The laws' own first look. -/
theorem awake_hex : hexL (digest [97, 98, 99]) = [98, 97, 55, 56, 49, 54, 98, 102, 56, 102, 48, 49, 99, 102, 101, 97, 52, 49, 52, 49, 52, 48, 100, 101, 53, 100, 97, 101, 50, 50, 50, 51, 98, 48, 48, 51, 54, 49, 97, 51, 57, 54, 49, 55, 55, 97, 57, 99, 98, 52, 49, 48, 102, 102, 54, 49, 102, 50, 48, 48, 49, 53, 97, 100] := by decide +kernel
end Go.Proofs.YteejldddgogbkaaDoor
/- Keys, as the program goes over them. -/
set_option linter.unusedVariables false
set_option maxRecDepth 100000
namespace Go.Proofs.YteejldddgogbkaaDoor
open Go.RowKit

/-! ### Words -/
theorem and7 (n : Int) : bits .and .i64 n 7 = (((n % 8).toNat : Nat) : Int) := by
  have h7 : (BitVec.ofInt 64 7).toNat = 2 ^ 3 - 1 := by decide
  have key : (BitVec.ofInt 64 n &&& BitVec.ofInt 64 7).toNat = (n % ((2 ^ 64 : Nat) : Int)).toNat % 2 ^ 3 := by
    rw [BitVec.toNat_and, BitVec.toNat_ofInt, h7, Nat.and_two_pow_sub_one_eq_mod]
  show IntKind.i64.wrap ((BitVec.ofInt 64 n &&& BitVec.ofInt 64 7).toNat : Nat) = _
  rw [key, IntKind.wrap_i64]
  omega
theorem len25 : Tryd.prog.arrayLen 120 = 32 := by kernel_rfl
theorem elem25 : Tryd.prog.elem 120 = 5 := by kernel_rfl
theorem arr25 : Tryd.prog.underlying 120 = some (.array 32 5) := by kernel_rfl
/-- Four bytes of a key. -/
theorem run_slice4 (B o : Nat) (ho : o + 4 ≤ 32) (w : World) : (Instr.sliceAt 120 (.pointer (some ⟨B, 0, none⟩)) (some (.int .i64 (o : Int))) (some (.int .i64 ((o : Int) + 4))) none).run Tryd.prog w = .ok (.slice (some ⟨B, o, none⟩) 4 (32 - o)) w := by
  rw [run_sliceAt_array_lh w 120 ⟨B, 0, none⟩ (by rw [len25, elem25]; exact arr25) .i64 .i64 _ _ (by omega) (by omega) (by rw [len25]; omega), elem25, size5]
  simp only [Result.andThen, slicedAt, len25, Int.toNat_natCast, Nat.mul_one]
  rw [if_neg (by omega), addr_add, Nat.zero_add, show ((o : Int) + 4).toNat - o = 4 by omega]

set_option maxHeartbeats 400000 in
theorem sha_Word (l : List UInt8) (n : Int) (w : World) (hl : Hid (l.length = 32)) :
    Calls Tryd.prog 70 #[.agg (keyA l), .int .i64 n] w fun e w' => e = .returned (.int .u32 (wordAt l (4 * (n % 8).toNat))) ∧ Below w.heap.size w w' := by
  have hm := and7 n
  have hm8 : (n % 8).toNat < 8 := by omega
  have HKEY := Lib.hid (keyA_new w l hl.out 120)
  have HB := Lib.hid (((Below.refl w.heap.size w).alloc (Nat.le_refl _) (.cells (keyA l) 120)))
  generalize (n % 8).toNat = m at *
  obtain ⟨o, ho⟩ : ∃ o, o = 4 * m := ⟨_, rfl⟩
  have ho' : 4 * (m : Int) = (o : Int) := by omega
  have hsl := run_slice4 w.heap.size o (by omega)
  have HO := Lib.hid ho
  have ho28 : o ≤ 28 := by omega
  clear ho hm8
  go_enter Tryd.func70, Tryd.ntmps70
  go_wp2_with fail
  generalize w.alloc (.cells (keyA l) 120) = w1 at *
  clear hm ho' hsl
  go_loopw [6, 17] (fun x i wr => ∃ j : Nat, j ≤ 4 ∧ i = .int .i64 j ∧ x = .int .u32 (partW l o j) ∧ wr = w1) (fun x i wr => 4 - (intOf i).toNat)
  case atStart => exact ⟨0, by omega, rfl, rfl, rfl⟩
  case round =>
    obtain ⟨j, hj, rfl, rfl, rfl⟩ := hrel
    by_cases hj4 : j < 4
    · have hXl := partW_lt l o j hj4
      have HX := Lib.hid (show partW l o (j + 1) = 256 * partW l o j + byteAt l (o + j) from rfl)
      have c1 := (HKEY.out.2 (o + j) (by omega)).1
      have hbl := byteAt_lt l (o + j)
      generalize partW l o j = X at *
      generalize byteAt l (o + j) = y at *
      have hor := or_byte X y hXl hbl
      go_wp2_with fail
      go_roundw
      case rel => exact ⟨j + 1, by omega, by go_num, by rw [HX.out]; go_num, trivial⟩
      case measure => simp [intOf]; omega
    · obtain rfl : j = 4 := by omega
      have HX := Lib.hid (partW_four l o)
      go_wp2_with fail
      go_ret
      exact ⟨ret_u32' (by rw [HX.out, HO.out]), HB.out⟩

/-! ### Digits of a key -/
def hfill (l : List UInt8) (i : Nat) : List UInt8 := hexL (l.take i) ++ List.replicate (64 - 2 * i) 0
theorem hfill_len (l : List UInt8) (i : Nat) (hl : l.length = 32) (hi : i ≤ 32) : (hfill l i).length = 64 := by
  unfold hfill
  rw [List.length_append, hexL_len, List.length_take, List.length_replicate]
  omega
theorem hfill_next (l : List UInt8) (i : Nat) (hl : l.length = 32) (hi : i < 32) : ((hfill l i).set (2 * i) (digB (byteAt l i / 16))).set (2 * i + 1) (digB (byteAt l i % 16)) = hfill l (i + 1) := by
  have h1 : (hexL (l.take i)).length = 2 * i := by rw [hexL_len, List.length_take]; omega
  unfold hfill
  rw [hexL_next l i (by omega)]
  obtain ⟨k, hk⟩ : ∃ k, 64 - 2 * i = k + 1 + 1 := ⟨62 - 2 * i, by omega⟩
  rw [hk, show 64 - 2 * (i + 1) = k by omega, List.replicate_succ, List.replicate_succ]
  rw [List.set_append_right _ _ (by omega), h1, Nat.sub_self, List.set_cons_zero, List.set_append_right _ _ (by omega), h1, show 2 * i + 1 - 2 * i = 0 + 1 by omega, List.set_cons_succ, List.set_cons_zero]
  simp
theorem hfill_all (l : List UInt8) (hl : l.length = 32) : hfill l 32 = hexL l := by
  unfold hfill
  rw [List.take_of_length_le (by omega)]
  simp
theorem Row8.set {b : Nat} {l : List UInt8} {w : World} (h : Row8 b l w) {i : Nat} (hi : i < l.length) (v : UInt8) : Row8 b (l.set i v) (w.setCell ⟨b, i, none⟩ (.int .u8 (v.toNat : Int))) := by
  refine ⟨by simpa using h.1, fun j hj => ?_⟩
  rw [List.length_set] at hj
  refine ⟨?_, by rw [World.frozen?_setCell]; exact (h.2 j hj).2⟩
  by_cases hji : j = i
  · subst hji
    rw [World.cell?_setCell_same w _ _ (h.2 j hj).1]
    simp [byteAt, List.getD_eq_getElem?_getD, hj]
  · rw [World.cell?_setCell_other w _ _ _ (fun e => hji (by injection e with _ e2; exact e2.symm)), (h.2 j hj).1]
    simp [byteAt, List.getD_eq_getElem?_getD, List.getElem?_set_ne (fun e => hji e.symm)]
theorem mask15 (y : Nat) (h : y < 256) : bits .and .u8 (y : Int) 15 = ((y % 16 : Nat) : Int) := by
  rw [show (15 : Int) = ((15 : Nat) : Int) from rfl, u8_and_nat _ _ h (by omega), nat_mask4]
theorem digB_nat (k : Nat) (h : k < 16) : ((digB k).toNat : Int) = (digN k : Int) := by
  unfold digB
  rw [ofNat_toNat, Nat.mod_eq_of_lt (digN_lt h)]
theorem slice64_all (B : Nat) (w : World) : (Instr.sliceAt 142 (.pointer (some ⟨B, 0, none⟩)) none none none).run Tryd.prog w = .ok (.slice (some ⟨B, 0, none⟩) 64 64) w := by
  rw [run_sliceAt_array_all w 142 ⟨B, 0, none⟩ (by rw [len46, elem46]; exact arr46), elem46, size5]
  simp only [Result.andThen, slicedAt, len46]
  rw [if_neg (by omega), addr_add]

end Go.Proofs.YteejldddgogbkaaDoor
/- The document's own answers: how siloref01 writes numbers and texts. -/
set_option linter.unusedVariables false
set_option maxRecDepth 100000
namespace Go.Proofs.YteejldddgogbkaaDoor
open Go.RowKit

theorem conv_one (W : World) (c : Nat) (hc : c ≤ 255) : (convert 45 9 (.slice (some ⟨W.heap.size, 0, none⟩) 1 1)).run Tryd.prog (W.alloc (.cells #[.int .u8 (c : Int)] 5)) = .ok (.string (bs [UInt8.ofNat c])) (W.alloc (.cells #[.int .u8 (c : Int)] 5)) := by
  refine run_convert_bytes_back (P := Tryd.prog) _ 45 9 5 ⟨W.heap.size, 0, none⟩ 1 [UInt8.ofNat c] Tryd.underlying45 Tryd.underlying5 Tryd.underlying9 ?_
  intro j hj
  have hj0 : j = 0 := by simpa using hj
  subst hj0
  have hn : (UInt8.ofNat c).toNat = c := toNat_ofNat (by omega)
  simp only [List.getElem_cons_zero, hn]
  exact cell_one_new W (.int .u8 (c : Int)) 5 0 _ rfl

theorem rets {a a' : ByteArray} (h : a' = a) : Ending.returned (.string a) = Ending.returned (.string a') := by rw [h]

theorem lead_tail_len {q : Nat} {t g : List UInt8} (h : lead q ++ t = g) (hg : g.length ≤ 11) : t.length ≤ 11 := by
  rw [← h, List.length_append] at hg
  omega

end Go.Proofs.YteejldddgogbkaaDoor
/- A filter in memory, and what only reads it: its size, its ones, its shape; a nil filter. -/
set_option linter.unusedVariables false
set_option maxRecDepth 100000
set_option maxRecDepth 100000
namespace Go.Proofs.YteejldddgogbkaaDoor
open Go.RowKit

/-- In block b there is a filter with h hashes, whose bytes L are in block g. -/
structure Flt (b g h : Nat) (L : List UInt8) (w : World) : Prop where
  c0 : w.cell? ⟨b, 0, none⟩ = some (.int .i64 (h : Int))
  c1 : ∃ cap, w.cell? ⟨b, 1, none⟩ = some (.slice (some ⟨g, 0, none⟩) L.length cap)
  row : Row8 g L w
  lt : b < w.heap.size
theorem Flt.keep {b g h B : Nat} {L : List UInt8} {w w' : World} (f : Flt b g h L w) (k : Below B w w') (hb : b < B) (hg : g < B) : Flt b g h L w' :=
  ⟨by rw [k.cell hb]; exact f.c0, by obtain ⟨cap, c⟩ := f.c1; exact ⟨cap, by rw [k.cell hb]; exact c⟩, f.row.keep k hg, Nat.lt_of_lt_of_le f.lt k.size⟩
theorem Flt.below {b g h : Nat} {L : List UInt8} {w w' : World} (f : Flt b g h L w) (k : Below w.heap.size w w') : Flt b g h L w' := f.keep k f.lt f.row.1
theorem Flt.seen {b g h : Nat} {L : List UInt8} {W : World} (f : Flt b g h L W) (n : Seen W) : Flt b g h L n.val := f.below n.below

theorem flt_size (b g m cap : Nat) (w : World) (c1 : w.cell? ⟨b, 1, none⟩ = some (.slice (some ⟨g, 0, none⟩) m cap)) (hl : m ≤ 100000000) :
    Calls Tryd.prog 71 #[.pointer (some ⟨b, 0, none⟩)] w fun e w' => e = .returned (.int .i64 ((m : Int) * 8)) ∧ w = w' := by
  go_enter Tryd.func71, Tryd.ntmps71
  go_wp2_with fail
  go_ret
  exact ⟨rfl, rfl⟩

def popTab : ByteArray := ⟨#[0, 1, 1, 2, 1, 2, 2, 3, 1, 2, 2, 3, 2, 3, 3, 4, 1, 2, 2, 3, 2, 3, 3, 4, 2, 3, 3, 4, 3, 4, 4, 5, 1, 2, 2, 3, 2, 3, 3, 4, 2, 3, 3, 4, 3, 4, 4, 5, 2, 3, 3, 4, 3, 4, 4, 5, 3, 4, 4, 5, 4, 5, 5, 6, 1, 2, 2, 3, 2, 3, 3, 4, 2, 3, 3, 4, 3, 4, 4, 5, 2, 3, 3, 4, 3, 4, 4, 5, 3, 4, 4, 5, 4, 5, 5, 6, 2, 3, 3, 4, 3, 4, 4, 5, 3, 4, 4, 5, 4, 5, 5, 6, 3, 4, 4, 5, 4, 5, 5, 6, 4, 5, 5, 6, 5, 6, 6, 7, 1, 2, 2, 3, 2, 3, 3, 4, 2, 3, 3, 4, 3, 4, 4, 5, 2, 3, 3, 4, 3, 4, 4, 5, 3, 4, 4, 5, 4, 5, 5, 6, 2, 3, 3, 4, 3, 4, 4, 5, 3, 4, 4, 5, 4, 5, 5, 6, 3, 4, 4, 5, 4, 5, 5, 6, 4, 5, 5, 6, 5, 6, 6, 7, 2, 3, 3, 4, 3, 4, 4, 5, 3, 4, 4, 5, 4, 5, 5, 6, 3, 4, 4, 5, 4, 5, 5, 6, 4, 5, 5, 6, 5, 6, 6, 7, 3, 4, 4, 5, 4, 5, 5, 6, 4, 5, 5, 6, 5, 6, 6, 7, 4, 5, 5, 6, 5, 6, 6, 7, 5, 6, 6, 7, 6, 7, 7, 8]⟩
theorem popTab_at : ∀ (x : Nat) (h : x < 256), (popTab[x]'(by exact h)).toNat = pop8 x := by decide +kernel
theorem popTab_ret (x : Nat) (h : x < 256) : ((pop8 x : Nat) : Int) = wrap64 ((popTab[x]'(by exact h)).toNat : Int) := by
  rw [popTab_at x h]
  have : pop8 x ≤ 8 := by unfold pop8; omega
  unfold wrap64
  omega

theorem flt_pack_nil (w : World) : Calls Tryd.prog 29 #[.pointer none] w fun e w' => e = .returned (.string (bs [])) ∧ w = w' := by
  go_enter Tryd.func29, Tryd.ntmps29
  go_wp2_with fail
  go_ret
  exact ⟨rfl, rfl⟩
end Go.Proofs.YteejldddgogbkaaDoor
/- The program's Find. -/
set_option linter.unusedVariables false
set_option maxRecDepth 100000
set_option maxRecDepth 100000
namespace Go.Proofs.YteejldddgogbkaaDoor
open Go.RowKit

/-- A variable that holds a slice. -/
def BxS (c : Nat) (v : Value) (w : World) : Prop := w.heap[c]? = some (.cells #[v] 22 (0, 0))
set_option maxHeartbeats 1000000 in
theorem find_look (b1 b2 : Nat) (a : Option Addr) (len cap : Nat) (T : List Ent) (key : List UInt8) (i : Nat) (x : Ent) (w : World) (h1 : BxS b1 (.slice a len cap) w) (h2 : Bx b2 key w) (hT : Hid (IsE w a len T)) (hi : i < len) (hx : Hid (T[i]? = some x)) :
    Calls Tryd.prog 60 #[.int .i64 (i : Int), .pointer (some ⟨b1, 0, none⟩), .pointer (some ⟨b2, 0, none⟩)] w fun e w' => e = .returned (.bool (!ltB x.key key)) ∧ Below w.heap.size w w' := by
  obtain ⟨b, off, y, rfl, hy, _, hc⟩ := hT.out.at hi
  have hxy : x = y := by have := hx.out; rw [hy] at this; injection this with this; exact this.symm
  have c0 := hc.c0
  have k1 : w.cell? ⟨b1, 0, none⟩ = some (.slice (some ⟨b, off, none⟩) len cap) := by unfold BxS at h1; simp [World.cell?, h1]
  have k2 := h2.cell
  have hlt : Op.bytesLess (bs y.key).toList (bs key).toList = ltB y.key key := by rw [Lib.toList_data, Lib.toList_data, bs_list, bs_list, ltB_less]
  rw [hxy]
  clear hxy hx hy h1 h2 hc
  obtain ⟨z, hz⟩ : ∃ z, z = ltB y.key key := ⟨_, rfl⟩
  rw [← hz] at hlt ⊢
  clear hz
  go_enter Tryd.func60, Tryd.ntmps60
  go_wp2_with fail
  go_quiet (fail)
  go_wp2_with fail
  go_ret
  exact ⟨rfl, below_drewN (Below.refl _ _) _⟩
/-- What Find answers. -/
structure FindPost (T : List Ent) (key : List UInt8) (w : World) (e : Ending) (w' : World) : Prop where
  out : ∃ r, e = .returned (.int .i64 ((r : Nat) : Int)) ∧ r ≤ T.length ∧ (∀ x, 0 < r → T[r - 1]? = some x → ltB x.key key = true) ∧ (∀ x, T[r]? = some x → ltB x.key key = false)
  bel : Below w.heap.size w w'
set_option maxHeartbeats 2000000 in
theorem find_search (b1 b2 : Nat) (a : Option Addr) (len cap : Nat) (T : List Ent) (key : List UInt8) (w : World) (h1 : BxS b1 (.slice a len cap) w) (h2 : Bx b2 key w) (hT : Hid (IsE w a len T)) (hl : len ≤ 100000) :
    Calls Tryd.prog 58 #[.int .i64 (len : Int), .func (.func 60) #[] #[.pointer (some ⟨b1, 0, none⟩), .pointer (some ⟨b2, 0, none⟩)]] w (FindPost T key w) := by
  have H1 := Lib.hid h1
  have H2 := Lib.hid h2
  clear h1 h2
  go_enter Tryd.func58, Tryd.ntmps58
  go_wp2_with fail
  go_loopw [5, 6] (fun iv jv wr => ∃ i j : Nat, i ≤ j ∧ j ≤ len ∧ iv = .int .i64 i ∧ jv = .int .i64 j ∧ Hid (∀ x, 0 < i → T[i - 1]? = some x → ltB x.key key = true) ∧ Hid (∀ x, T[j]? = some x → ltB x.key key = false) ∧ Hid (Below w.heap.size w wr)) (fun iv jv wr => (intOf jv).toNat - (intOf iv).toNat)
  case atStart => exact ⟨0, len, by omega, by omega, rfl, rfl, Lib.hid (fun x h => absurd h (by omega)), Lib.hid (fun x h => by have := (List.getElem?_eq_some_iff.1 h).1; have := hT.out.1; omega), Lib.hid (Below.refl _ _)⟩
  case round =>
    obtain ⟨i, j, hij, hj, rfl, rfl, hA, hZ, hB⟩ := hrel
    by_cases hlt : i < j
    · obtain ⟨m, hm⟩ : ∃ m, m = (i + j) / 2 := ⟨_, rfl⟩
      obtain ⟨s, hs⟩ : ∃ s : Int, s = (i : Int) + (j : Int) := ⟨_, rfl⟩
      have hs1 : IntKind.i64.wrap ((i : Int) + (j : Int)) = s := by rw [IntWalk.i64_in _ (by omega), hs]
      have hm1 : s / 2 = (m : Int) := by omega
      have hmi : i ≤ m := by omega
      have hmj : m < j := by omega
      have hml : m < len := by omega
      have hs0 : 0 ≤ s := by omega
      have hs2 : s ≤ 200000 := by omega
      have hs3 : (i : Int) + (j : Int) = s := hs.symm
      obtain ⟨x, hx⟩ : ∃ x, T[m]? = some x := ⟨_, List.getElem?_eq_getElem (by have := hT.out.1; omega)⟩
      have HL := Lib.hid (find_look b1 b2 a len cap T key m x wr ((hB.out.block b1 (heap_lt H1.out)).trans H1.out) ((hB.out.block b2 (heap_lt H2.out)).trans H2.out) (Lib.hid (hT.out.below hB.out)) hml (Lib.hid hx))
      have HX := Lib.hid hx
      have HM := Lib.hid (And.intro hmi hmj)
      clear hs hm hx
      cases hc : ltB x.key key with
      | true =>
        rw [hc, Bool.not_true] at HL
        have HC := Lib.hid hc
        clear hc
        go_wp2_with fail
        refine HL.out.mono ?_
        rintro e w2 ⟨rfl, k2⟩
        have HB2 := Lib.hid (hB.out.trans (k2.mono hB.out.size))
        clear k2
        go_wp2_with fail
        go_roundw
        case rel => exact ⟨m + 1, j, by omega, hj, by go_num, rfl, Lib.hid (fun y _ hy => by rw [Nat.add_sub_cancel, HX.out] at hy; injection hy with hy; rw [← hy]; exact HC.out), hZ, HB2⟩
        case measure => simp [intOf]; omega
      | false =>
        rw [hc, Bool.not_false] at HL
        have HC := Lib.hid hc
        clear hc
        go_wp2_with fail
        refine HL.out.mono ?_
        rintro e w2 ⟨rfl, k2⟩
        have HB2 := Lib.hid (hB.out.trans (k2.mono hB.out.size))
        clear k2
        go_wp2_with fail
        go_roundw
        case rel => exact ⟨i, m, hmi, by omega, rfl, rfl, hA, Lib.hid (fun y hy => by rw [HX.out] at hy; injection hy with hy; rw [← hy]; exact HC.out), HB2⟩
        case measure => simp [intOf]; omega
    · obtain rfl : i = j := by omega
      go_wp2_with fail
      go_ret
      exact ⟨⟨i, rfl, by have := hT.out.1; omega, hA.out, hZ.out⟩, hB.out⟩
theorem block_Find (a : Option Addr) (len cap : Nat) (T : List Ent) (key : List UInt8) (w : World) (hT : Hid (IsE w a len T)) (hl : len ≤ 100000) :
    Calls Tryd.prog 39 #[.slice a len cap, .string (bs key)] w (FindPost T key w) := by
  obtain ⟨w0, hw0⟩ : ∃ w0, (w.alloc (.cells #[.slice a len cap] 22)).alloc (.cells #[.string (bs key)] 9) = w0 := ⟨_, rfl⟩
  have K0 := Lib.hid (show Below w.heap.size w w0 by rw [← hw0]; exact ((Below.refl _ _).alloc (Nat.le_refl _) _).alloc (by simp) _)
  have S0 := Lib.hid (show BxS w.heap.size (.slice a len cap) w0 by rw [← hw0]; exact (Below.heap_alloc _ _ _ (by simp)).trans (heap_new w _))
  have S1 := Lib.hid (show Bx (w.heap.size + 1) key w0 by
    have h := heap_new (w.alloc (.cells #[.slice a len cap] 22)) (.cells #[.string (bs key)] 9)
    rw [show (w.alloc (.cells #[.slice a len cap] 22)).heap.size = w.heap.size + 1 by simp] at h
    rw [← hw0]; exact h)
  have HS := Lib.hid (find_search w.heap.size (w.heap.size + 1) a len cap T key w0 S0.out S1.out (Lib.hid (hT.out.below K0.out)) hl)
  have c0 : w0.cell? ⟨w.heap.size, 0, none⟩ = some (.slice a len cap) := by have := S0.out; unfold BxS at this; simp [World.cell?, this]
  have HW0 := Lib.hid hw0
  clear hw0
  go_enter Tryd.func39, Tryd.ntmps39
  go_upto_region 1 with (fail)
  rw [HW0.out]
  go_wp2_with fail
  refine HS.out.mono ?_
  rintro e w1 ⟨⟨r, rfl, hr⟩, k1⟩
  go_wp2_with fail
  go_ret
  exact ⟨⟨r, rfl, hr⟩, K0.out.trans (k1.mono K0.out.size)⟩
/-- In rising entries it is the place. -/
theorem find_place {T : List Ent} {key : List UInt8} (hT : rises T) {r : Nat} (h1 : r ≤ T.length) (h2 : ∀ x, 0 < r → T[r - 1]? = some x → ltB x.key key = true) (h3 : ∀ x, T[r]? = some x → ltB x.key key = false) : place key T = r := by
  refine place_of hT h1 (fun i x hi hx => ?_) (fun i x hi hx => ?_)
  · obtain ⟨y, hy⟩ : ∃ y, T[r - 1]? = some y := ⟨_, List.getElem?_eq_getElem (by omega)⟩
    have hy2 := h2 y (by omega) hy
    by_cases e : i = r - 1
    · subst e
      rw [hx] at hy
      injection hy with hy
      rw [hy]
      exact hy2
    · exact ltB_trans (rises_at hT i (r - 1) x y (by omega) hx hy) hy2
  · by_cases e : i = r
    · subst e
      exact h3 x hx
    · have hil := (List.getElem?_eq_some_iff.1 hx).1
      obtain ⟨y, hy⟩ : ∃ y, T[r]? = some y := ⟨_, List.getElem?_eq_getElem (by omega)⟩
      have hyx := rises_at hT r i y x (by omega) hy hx
      have hyf := h3 y hy
      cases hb : ltB x.key key with
      | false => rfl
      | true => rw [ltB_trans hyx hb] at hyf; cases hyf
end Go.Proofs.YteejldddgogbkaaDoor
