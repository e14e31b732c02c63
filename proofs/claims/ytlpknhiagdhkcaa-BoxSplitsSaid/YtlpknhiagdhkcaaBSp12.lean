/- Texts put together: BoxRefSplit, BoxFew -/
import Derived.Test.YtlpknhiagdhkcaaBSp11
import Derived.Test.YtlpknhiagdhkcaaBSp10
/- The document splits bytes into records. -/
set_option linter.unusedVariables false
set_option maxRecDepth 100000
namespace Go.Proofs.Ytlpknhiagdhkcaa
open Go.RowKit

def endsL : List (RecB × Nat) → Nat → List Nat
  | [], _ => []
  | x :: L, a => (a + x.2) :: endsL L (a + x.2)
theorem endsL_len : ∀ L a, (endsL L a).length = L.length
  | [], _ => rfl
  | x :: L, a => by show (endsL L (a + x.2)).length + 1 = L.length + 1; rw [endsL_len L]
theorem endsL_snoc : ∀ (L : List (RecB × Nat)) (x : RecB × Nat) (a : Nat), endsL (L ++ [x]) a = endsL L a ++ [a + sumK L + x.2]
  | [], x, a => rfl
  | y :: L, x, a => by
    show (a + y.2) :: endsL (L ++ [x]) (a + y.2) = (a + y.2) :: (endsL L (a + y.2) ++ [a + (y.2 + sumK L) + x.2])
    rw [endsL_snoc L x (a + y.2), show a + y.2 + sumK L + x.2 = a + (y.2 + sumK L) + x.2 by omega]
def fsts (L : List (RecB × Nat)) : List RecB := L.map (·.1)
theorem fsts_len (L : List (RecB × Nat)) : (fsts L).length = L.length := by simp [fsts]
theorem fsts_snoc (L : List (RecB × Nat)) (r : RecB) (k : Nat) : fsts (L ++ [(r, k)]) = fsts L ++ [r] := by simp [fsts]
def flatR (L : List RecB) : List Value := L.flatMap recC
theorem flatR_snoc (L : List RecB) (r : RecB) : flatR (L ++ [r]) = flatR L ++ recC r := by simp [flatR]
def OwnRc (w : World) (B : Nat) (v : Value) (L : List RecB) : Prop := OffRow w B 25 66 v L.length (flatR L)
def intsV (L : List Nat) : List Value := L.map fun (n : Nat) => Value.int .i64 (n : Int)
def OwnNs (w : World) (B : Nat) (v : Value) (L : List Nat) : Prop := OffRow w B 3 1 v L.length (intsV L)
theorem infoR0 : (Try.prog.info? 25).map (fun i => (i.zero, i.size, i.bytes)) = some (some (.agg (recA RecB.zero)), 66, 88) := by kernel_rfl
theorem infoR : ∃ i, Try.prog.info? 25 = some i ∧ i.zero = some (.agg (recA RecB.zero)) ∧ i.size = 66 ∧ i.bytes = 88 := by
  have h := infoR0
  cases hi : Try.prog.info? 25 with
  | none => simp [hi] at h
  | some i =>
    rw [hi] at h
    injection h with h
    injection h with h1 h2
    injection h2 with h2 h3
    exact ⟨i, rfl, h1, h2, h3⟩
theorem infoN0 : (Try.prog.info? 3).map (fun i => (i.zero, i.size, i.bytes)) = some (some (.int .i64 0), 1, 8) := by kernel_rfl
theorem infoN : ∃ i, Try.prog.info? 3 = some i ∧ i.zero = some (.int .i64 0) ∧ i.size = 1 ∧ i.bytes = 8 := by
  have h := infoN0
  cases hi : Try.prog.info? 3 with
  | none => simp [hi] at h
  | some i =>
    rw [hi] at h
    injection h with h
    injection h with h1 h2
    injection h2 with h2 h3
    exact ⟨i, rfl, h1, h2, h3⟩
/-- Rows of records and of numbers lie apart. -/
theorem rows_apart {w : World} {B C : Nat} {v u : Value} {L : List RecB} {M : List Nat} (h : OwnRc w B v L) (k : OwnNs w C u M) : ∀ j, v.ownBlock = some j → u.ownBlock ≠ some j := by
  intro j hj hu
  obtain ⟨c1, h1⟩ := OffRow.tag h hj
  obtain ⟨c2, h2⟩ := OffRow.tag k hu
  rw [h1] at h2
  injection h2 with h2
  injection h2 with _ h2
  exact absurd h2 (by decide)

set_option maxHeartbeats 16000000 in
theorem ref_Split (s : ByteArray) (w : World) (hs : s.size ≤ 1000000000) :
    Calls Try.prog 18 #[.string s] w fun e w' => ∃ v u, e = .returned (.tuple #[v, u, .int .i64 ((splitR s.data.toList).2 : Int)]) ∧ OwnRc w' w.heap.size v (fsts (splitR s.data.toList).1) ∧ OwnNs w' w.heap.size u (endsL (splitR s.data.toList).1 0) ∧ Below w.heap.size w w' := by
  have HLEN := Lib.hid (show s.data.toList.length = s.size by rw [← Lib.size_eq])
  obtain ⟨ii, hi1, hi2, hi3, hi4⟩ := infoR
  have HI1 := Lib.hid hi1
  have HI2 := Lib.hid hi2
  have HI3 := Lib.hid hi3
  have HI4 := Lib.hid hi4
  obtain ⟨ij, hj1, hj2, hj3, hj4⟩ := infoN
  have HJ1 := Lib.hid hj1
  have HJ2 := Lib.hid hj2
  have HJ3 := Lib.hid hj3
  have HJ4 := Lib.hid hj4
  have HZ := Lib.hid zeroA_ref
  clear hi1 hi2 hi3 hi4 hj1 hj2 hj3 hj4
  go_enter Try.func18, Try.ntmps18
  go_wp2_with fail
  go_loopw [5, 6, 7] (fun vv uu vi wr => ∃ (at_ : Nat) (pre : List (RecB × Nat)), vi = .int .i64 (at_ : Int) ∧ Hid (SplitAt s.data.toList pre at_) ∧ Hid (OwnRc wr w.heap.size vv (fsts pre)) ∧ Hid (OwnNs wr w.heap.size uu (endsL pre 0)) ∧ Hid (Below w.heap.size w wr)) (fun vv uu vi wr => s.size - (intOf vi).toNat)
  case atStart => exact ⟨0, [], rfl, Lib.hid (SplitAt.start _), Lib.hid (OffRow.nil _ _ _ _), Lib.hid (OffRow.nil _ _ _ _), Lib.hid (Below.refl _ _)⟩
  case round =>
    obtain ⟨at_, pre, rfl, HSA, HO, HP, HK⟩ := hrel
    have hat : at_ ≤ s.size := by have := HSA.out.1; rw [HLEN.out] at this; exact this
    obtain ⟨va, vc, rfl⟩ := OffRow.slice HO.out
    obtain ⟨ua, uc, rfl⟩ := OffRow.slice HP.out
    obtain ⟨s1, hs1⟩ : ∃ s1, s1 = s.extract at_ s.size := ⟨_, rfl⟩
    have hx1 : s.extract at_ s.size = s1 := hs1.symm
    obtain ⟨l1, hl1⟩ : ∃ l1, l1 = s.data.toList.drop at_ := ⟨_, rfl⟩
    have HS1 := Lib.hid (show s1.data.toList = l1 by rw [hs1, ext_list, hl1])
    have HZ1 := Lib.hid (show s1.size = s.size - at_ by rw [hs1, extract_size])
    have HL1 := Lib.hid hl1
    have HLL := Lib.hid (show l1.length = s.size - at_ by rw [hl1, List.length_drop, HLEN.out])
    clear hs1 hl1
    go_wp2_with fail
    refine (ref_begin s1 wr (by rw [HZ1.out]; unfold maxLen; omega)).mono ?_
    rintro e w3 ⟨rfl, k3⟩
    rw [HS1.out]
    have HO3 := Lib.hid (show OwnRc w3 w.heap.size (.slice va (fsts pre).length vc) (fsts pre) from OffRow.kept HO.out (fun j hj => k3.block j (OffRow.lt HO.out j hj).2))
    have HP3 := Lib.hid (show OwnNs w3 w.heap.size (.slice ua (endsL pre 0).length uc) (endsL pre 0) from OffRow.kept HP.out (fun j hj => k3.block j (OffRow.lt HP.out j hj).2))
    have HK3 := Lib.hid (HK.out.trans (k3.mono HK.out.size))
    clear k3
    have HOK := Lib.hid (rdR_ok l1)
    obtain ⟨q, hq⟩ : ∃ x, x = rdR l1 := ⟨_, rfl⟩
    obtain ⟨k, hk⟩ : ∃ x, x = rdK l1 := ⟨_, rfl⟩
    obtain ⟨e1, he1⟩ : ∃ x, x = rdE l1 := ⟨_, rfl⟩
    rw [← hq] at HOK
    rw [← hq, ← hk, ← he1]
    have HQ := Lib.hid hq
    have HKR := Lib.hid hk
    have HE1 := Lib.hid he1
    have hkl : k ≤ s.size - at_ := by
      rw [hk, ← HLL.out]
      by_cases h0 : rdE l1 = 0
      · exact (rdK_le h0).2
      · rw [(rdR_no h0).2]; omega
    have HKL := Lib.hid hkl
    clear hq hk he1
    obtain ⟨X, hX⟩ : ∃ X, X = w3.heap.size := ⟨_, rfl⟩
    obtain ⟨w4, hw4⟩ : ∃ x, x = laidR 25 w3 q := ⟨_, rfl⟩
    have KL := Lib.hid (laidR_below 25 w3 q)
    have HO4 := Lib.hid (show OwnRc w4 w.heap.size (.slice va (fsts pre).length vc) (fsts pre) by rw [hw4]; exact OffRow.kept HO3.out (fun j hj => KL.out.block j (OffRow.lt HO3.out j hj).2))
    have HP4 := Lib.hid (show OwnNs w4 w.heap.size (.slice ua (endsL pre 0).length uc) (endsL pre 0) by rw [hw4]; exact OffRow.kept HP3.out (fun j hj => KL.out.block j (OffRow.lt HP3.out j hj).2))
    have HK4 := Lib.hid (show Below w.heap.size w w4 by rw [hw4]; exact HK3.out.trans (KL.out.mono HK3.out.size))
    have T3 := Lib.hid (show (w3.alloc (.cells Try.zeroCells25 25)).there w3.heap.size 0 (recA q).size by rw [← zeroA_ref]; exact laidR_there 25 w3 HOK.out)
    have I3 := Lib.hid (info_refA HOK.out)
    have HX := Lib.hid hX
    have HW4 := Lib.hid (show (w3.alloc (.cells Try.zeroCells25 25)).setCells w3.heap.size 0 (recA q).toList = w4 by rw [← zeroA_ref, hw4]; rfl)
    clear hX hw4 KL
    go_upto_region 5 with (first | (with_reducible refine wpList_store_mid rfl 25 (.tmp 8) (.tmp 17) rfl w3.heap.size 0 (recA q) rfl rfl T3.out I3.out (recA_one _) ?_; rw [HW4.out, ← HX.out]) | fail)
    clear hx1
    by_cases h1 : e1 = 0
    · have b1 : (e1 != 0) = false := by simp [h1]
      have Z1 := Lib.hid (show rdE l1 = 0 by rw [← HE1.out]; exact h1)
      clear h1
      by_cases h2 : s.size - at_ - k < 4
      · have b2 : (s.size : Int) - (at_ : Int) - (k : Int) < 4 := by omega
        have HF := Lib.hid (HSA.out.done (by rw [← HL1.out]; exact fst_no (fun hh => by have h3 := hh.2.1; rw [HLL.out, ← HKR.out] at h3; omega)))
        clear h2
        go_wp2
        go_ret3
        exact ⟨_, _, by rw [HF.out]; rfl, by rw [HF.out]; exact HO4.out, by rw [HF.out]; exact HP4.out, HK4.out⟩
      · have b2 : ¬ (s.size : Int) - (at_ : Int) - (k : Int) < 4 := by omega
        have h4l : k + 4 ≤ s.size - at_ := by omega
        obtain ⟨kk, hkk⟩ : ∃ kk, kk = k + 4 := ⟨_, rfl⟩
        have hks : (k : Int) + 4 = (kk : Int) := by omega
        have hkkl : kk ≤ s.size - at_ := by omega
        go_upto_region 7 with (fail)
        clear b2 h2
        obtain ⟨s1', hs1'⟩ : ∃ s1, s1 = s.extract at_ s.size := ⟨_, rfl⟩
        have hx1 : s.extract at_ s.size = s1' := hs1'.symm
        have hz1' : s1'.size = s.size - at_ := by rw [hs1', extract_size]
        have hl1' : s1'.data.toList = l1 := by rw [hs1', ext_list, HL1.out]
        obtain ⟨T, hT⟩ : ∃ T, T = l1.take kk := ⟨_, rfl⟩
        have hx2 : s1'.extract 0 kk = bs T := by rw [(take_split (s := s1') (n := kk) (by omega)).1, hl1', hT]
        have hkk1 : kk ≤ s1'.size := by omega
        have HT := Lib.hid hT
        have HKK := Lib.hid hkk
        have HTL := Lib.hid (show (bs T).size ≤ 140737488355328 by rw [bs_size, hT, List.length_take]; omega)
        clear hs1' hl1' hT hkk hz1'
        go_wp2_with fail
        refine (ref_Open (bs T) w4 HTL.out).mono ?_
        rintro e w5 ⟨rfl, k5⟩
        rw [bs_list]
        have HO5 := Lib.hid (show OwnRc w5 w.heap.size (.slice va (fsts pre).length vc) (fsts pre) from OffRow.kept HO4.out (fun j hj => k5.block j (OffRow.lt HO4.out j hj).2))
        have HP5 := Lib.hid (show OwnNs w5 w.heap.size (.slice ua (endsL pre 0).length uc) (endsL pre 0) from OffRow.kept HP4.out (fun j hj => k5.block j (OffRow.lt HP4.out j hj).2))
        have HK5 := Lib.hid (HK4.out.trans (k5.mono HK4.out.size))
        clear k5
        have HOT := Lib.hid (openR_ok T)
        obtain ⟨p, hp⟩ : ∃ x, x = openR T := ⟨_, rfl⟩
        obtain ⟨e2, he2⟩ : ∃ x, x = openE T := ⟨_, rfl⟩
        rw [← hp] at HOT
        rw [← hp, ← he2]
        have HPP := Lib.hid hp
        have HE2 := Lib.hid he2
        clear hp he2 hx1 hx2 hkk1
        obtain ⟨Y, hY⟩ : ∃ X, X = w5.heap.size := ⟨_, rfl⟩
        obtain ⟨w6, hw6⟩ : ∃ x, x = laidR 25 w5 p := ⟨_, rfl⟩
        have KL := Lib.hid (laidR_below 25 w5 p)
        have Y6 := Lib.hid (show RecIn Y 25 p w6 by rw [hw6, hY]; exact laidR_in _ _ HOT.out)
        have HO6 := Lib.hid (show OwnRc w6 w.heap.size (.slice va (fsts pre).length vc) (fsts pre) by rw [hw6]; exact OffRow.kept HO5.out (fun j hj => KL.out.block j (OffRow.lt HO5.out j hj).2))
        have HP6 := Lib.hid (show OwnNs w6 w.heap.size (.slice ua (endsL pre 0).length uc) (endsL pre 0) by rw [hw6]; exact OffRow.kept HP5.out (fun j hj => KL.out.block j (OffRow.lt HP5.out j hj).2))
        have HK6 := Lib.hid (show Below w.heap.size w w6 by rw [hw6]; exact HK5.out.trans (KL.out.mono HK5.out.size))
        have T5 := Lib.hid (show (w5.alloc (.cells Try.zeroCells25 25)).there w5.heap.size 0 (recA p).size by rw [← zeroA_ref]; exact laidR_there 25 w5 HOT.out)
        have I5 := Lib.hid (info_refA HOT.out)
        have HY := Lib.hid hY
        have HW6 := Lib.hid (show (w5.alloc (.cells Try.zeroCells25 25)).setCells w5.heap.size 0 (recA p).toList = w6 by rw [← zeroA_ref, hw6]; rfl)
        clear hY hw6 KL
        go_upto_region 8 with (first | (with_reducible refine wpList_store_mid rfl 25 (.tmp 11) (.tmp 42) rfl w5.heap.size 0 (recA p) rfl rfl T5.out I5.out (recA_one _) ?_; rw [HW6.out, ← HY.out]) | fail)
        rcases hf : fstR l1 with _ | ⟨q2, k2⟩
        · have b3 : (e2 != 0) = true := by
            have := fst_open_no Z1.out (by rw [← HKR.out, HLL.out]; exact h4l) hf
            rw [HE2.out, HT.out, HKK.out, HKR.out, this]; rfl
          have HF := Lib.hid (HSA.out.done (by rw [← HL1.out]; exact hf))
          clear hf
          go_wp2
          go_ret3
          exact ⟨_, _, by rw [HF.out]; rfl, by rw [HF.out]; exact HO6.out, by rw [HF.out]; exact HP6.out, HK6.out⟩
        · obtain ⟨o1, o2⟩ := fst_open hf
          obtain ⟨-, -, -, -, hk2⟩ := fst_some hf
          have hkk2 : k2 = kk := by rw [hk2, HKK.out, HKR.out]
          rw [hkk2, ← HT.out] at o1 o2
          rw [← HE2.out] at o1
          rw [← HPP.out] at o2
          have b3 : (e2 != 0) = false := by rw [o1]; rfl
          have HNX := Lib.hid (HSA.out.next (k := kk) (r := p) (by rw [← HL1.out, hf, o2, hkk2]))
          have HSN := Lib.hid (show fsts (pre ++ [(p, kk)]) = fsts pre ++ [p] from fsts_snoc _ _ _)
          have HEN := Lib.hid (show endsL (pre ++ [(p, kk)]) 0 = endsL pre 0 ++ [at_ + kk] by rw [endsL_snoc, Nat.zero_add, ← HSA.out.2.1])
          have HNL := Lib.hid (show pre.length ≤ at_ from HSA.out.2.2.1)
          have hkpos : 4 ≤ kk := by rw [HKK.out]; omega
          clear hf o1 o2 hk2 hkk2 hks
          obtain ⟨a2, ha2⟩ : ∃ a2, a2 = at_ + kk := ⟨_, rfl⟩
          obtain ⟨a1, ha1⟩ : ∃ a1, a1 = at_ + k := ⟨_, rfl⟩
          have hsum1 : (at_ : Int) + (k : Int) = (a1 : Int) := by omega
          have hsum2 : (a1 : Int) + 4 = (a2 : Int) := by have := HKK.out; omega
          have ha1l : a1 ≤ 1000000000 := by omega
          have ha2l : a2 ≤ 1000000000 := by omega
          have HA2 := Lib.hid ha2
          clear ha1 ha2 h4l hkl
          go_upto_region 11 with (fail)
          clear hsum1 hsum2 ha1l
          have RY := Lib.hid (show w6.rangeAt Y 0 (recA p).toList from Y6.out.range)
          have ILY := Lib.hid (show (Try.prog.info? 25).map (·.size) = some (recA p).toList.length by simpa using I5.out)
          obtain ⟨Z, hZ⟩ : ∃ Y, Y = w6.heap.size := ⟨_, rfl⟩
          obtain ⟨w7, hw7⟩ : ∃ x, x = w6.alloc (.cells (recA p) 25) := ⟨_, rfl⟩
          have k7 : Below Z w6 w7 := by rw [hw7, hZ]; exact (Below.refl _ w6).alloc (Nat.le_refl _) _
          have HO7 := Lib.hid (show OffRow w7 w.heap.size 25 66 (.slice va (fsts pre).length vc) (fsts pre).length (flatR (fsts pre)) from OffRow.kept HO6.out (fun j hj => k7.block j (by rw [hZ]; exact (OffRow.lt HO6.out j hj).2)))
          have HP7 := Lib.hid (show OwnNs w7 w.heap.size (.slice ua (endsL pre 0).length uc) (endsL pre 0) from OffRow.kept HP6.out (fun j hj => k7.block j (by rw [hZ]; exact (OffRow.lt HP6.out j hj).2)))
          have HK7 := Lib.hid (show Below w.heap.size w w7 from HK6.out.trans (k7.mono (by rw [hZ]; exact HK6.out.size)))
          have HSR := Lib.hid (show Src Try.prog 66 41 (.slice (some ⟨Z, 0, none⟩) 1 1) 1 (recC p) w7 from
            src_block (cs := (recC p).toArray) Try.underlying41 (by rw [hw7, hZ]; exact heap_new w6 _) 1 1 (show (recC p).toArray.size = 1 * 66 by rw [List.size_toArray, recC_len HOT.out]) (fun u hu => recC_one p u (by rwa [List.toList_toArray] at hu)))
          have HW7 := Lib.hid (show w6.alloc (.cells (recC p).toArray 25) = w7 from hw7.symm)
          have HZZ := Lib.hid hZ
          have HL66 := Lib.hid (recC_len HOT.out)
          have HB7 := Lib.hid (show w.heap.size ≤ w7.heap.size from HK7.out.size)
          have HAP := Lib.hid (rows_apart (show OwnRc w7 w.heap.size _ _ from HO7.out) HP7.out)
          clear hZ hw7 k7
          obtain ⟨n, hn⟩ : ∃ n, n = (fsts pre).length := ⟨_, rfl⟩
          obtain ⟨m, hm⟩ : ∃ m, m = (endsL pre 0).length := ⟨_, rfl⟩
          have hnl : n ≤ at_ := by rw [hn, fsts_len]; exact HNL.out
          have hml : m ≤ at_ := by rw [hm, endsL_len]; exact HNL.out
          rw [← hn] at HO7 HAP ⊢
          rw [← hm] at HP7 HAP ⊢
          have HN := Lib.hid hn
          have HM := Lib.hid hm
          clear hn hm
          go_wp2_with (first
            | (with_reducible refine wpList_load_mid rfl 25 (.tmp 11) rfl Y 0 rfl (recA p).toList _ RY.out Try.underlying25 rfl ILY.out ?_; rw [Array.toArray_toList])
            | (refine wpList_buildOne rfl 41 25 (.tmp 54) rfl (recC p) rfl ii _ Try.underlying41 HI1.out HI2.out (by rw [HI3.out, HL66.out]) (by rw [HL66.out]; omega) (by rw [HL66.out]; omega) ?_; rw [HW7.out, ← HZZ.out])
            | (at_builtin; refine wpList_append_off rfl (.tmp 53) (.tmp 55) 41 rfl w.heap.size 25 ii _ 66 88 Try.underlying41 HI1.out HI2.out HI3.out HI4.out (by show (recA RecB.zero).size = 66; exact recA_size RecB.zero_ok) (.slice va n vc) n (flatR (fsts pre)) rfl HO7.out (.slice (some ⟨Z, 0, none⟩) 1 1) rfl 1 (recC p) HSR.out (by unfold maxLen; omega) (by omega) HB7.out ?_)
            | fail)
          intro v8 w8 g1 g2 g3
          have HO8 := Lib.hid (show OwnRc w8 w.heap.size v8 (fsts (pre ++ [(p, kk)])) by
            unfold OwnRc
            rw [HSN.out, flatR_snoc, List.length_append, ← HN.out]
            exact g1)
          have HP8 := Lib.hid (show OffRow w8 w.heap.size 3 1 (.slice ua m uc) m (intsV (endsL pre 0)) from by
            have := HP7.out
            unfold OwnNs at this
            rw [← HM.out] at this
            exact OffRow.kept this (fun j hj => g2.block j (OffRow.lt this j hj).2 (fun e => HAP.out j e.symm hj)))
          have HK8 := Lib.hid (show Below w.heap.size w w8 from HK7.out.grown g2 HB7.out (fun j hj => (OffRow.lt HO7.out j hj).1))
          obtain ⟨v8a, v8c, rfl⟩ := OffRow.slice HO8.out
          clear g1 g2 g3 RY ILY HSR HW7 HZZ
          go_upto_region 12 with (fail)
          obtain ⟨Q, hQ⟩ : ∃ Y, Y = w8.heap.size := ⟨_, rfl⟩
          obtain ⟨w9, hw9⟩ : ∃ x, x = w8.alloc (.cells #[.int .i64 (a2 : Int)] 3) := ⟨_, rfl⟩
          have k9 : Below Q w8 w9 := by rw [hw9, hQ]; exact (Below.refl _ w8).alloc (Nat.le_refl _) _
          have HO9 := Lib.hid (show OwnRc w9 w.heap.size (.slice v8a (fsts (pre ++ [(p, kk)])).length v8c) (fsts (pre ++ [(p, kk)])) from OffRow.kept HO8.out (fun j hj => k9.block j (by rw [hQ]; exact (OffRow.lt HO8.out j hj).2)))
          have HP9 := Lib.hid (show OffRow w9 w.heap.size 3 1 (.slice ua m uc) m (intsV (endsL pre 0)) from OffRow.kept HP8.out (fun j hj => k9.block j (by rw [hQ]; exact (OffRow.lt HP8.out j hj).2)))
          have HK9 := Lib.hid (show Below w.heap.size w w9 from HK8.out.trans (k9.mono (by rw [hQ]; exact HK8.out.size)))
          have HSQ := Lib.hid (show Src Try.prog 1 46 (.slice (some ⟨Q, 0, none⟩) 1 1) 1 [.int .i64 (a2 : Int)] w9 from
            src_block (cs := #[.int .i64 (a2 : Int)]) Try.underlying46 (by rw [hw9, hQ]; exact heap_new w8 _) 1 1 rfl (fun u hu => by simp at hu; subst hu; rfl))
          have HW9 := Lib.hid (show w8.alloc (.cells #[.int .i64 (a2 : Int)] 3) = w9 from hw9.symm)
          have HQQ := Lib.hid hQ
          have HB9 := Lib.hid (show w.heap.size ≤ w9.heap.size from HK9.out.size)
          have HAP9 := Lib.hid (fun j (hj : (Value.slice ua m uc).ownBlock = some j) (hu : (Value.slice v8a (fsts (pre ++ [(p, kk)])).length v8c).ownBlock = some j) => rows_apart HO9.out (M := endsL pre 0) (u := .slice ua m uc) (by unfold OwnNs; rw [← HM.out]; exact HP9.out) j hu hj)
          clear hQ hw9 k9
          go_wp2_with (first
            | (rw [HW9.out, ← HQQ.out]; at_builtin; refine wpList_append_off rfl (.tmp 57) (.tmp 59) 46 rfl w.heap.size 3 ij _ 1 8 Try.underlying46 HJ1.out HJ2.out HJ3.out HJ4.out rfl (.slice ua m uc) m (intsV (endsL pre 0)) rfl HP9.out (.slice (some ⟨Q, 0, none⟩) 1 1) rfl 1 [.int .i64 (a2 : Int)] HSQ.out (by unfold maxLen; omega) (by omega) HB9.out ?_)
            | fail)
          intro v10 wb g1 g2 g3
          have HPb := Lib.hid (show OwnNs wb w.heap.size v10 (endsL (pre ++ [(p, kk)]) 0) by
            unfold OwnNs
            rw [HEN.out, List.length_append, ← HM.out, ← HA2.out]
            unfold intsV at g1 ⊢
            rw [List.map_append]
            exact g1)
          have HOb := Lib.hid (show OwnRc wb w.heap.size (.slice v8a (fsts (pre ++ [(p, kk)])).length v8c) (fsts (pre ++ [(p, kk)])) from OffRow.kept HO9.out (fun j hj => g2.block j (OffRow.lt HO9.out j hj).2 (fun e => HAP9.out j e.symm hj)))
          have HKb := Lib.hid (show Below w.heap.size w wb from HK9.out.grown g2 HB9.out (fun j hj => (OffRow.lt HP9.out j hj).1))
          clear g1 g2 g3
          go_wp2_with fail
          go_roundw
          case rel => exact ⟨a2, pre ++ [(p, kk)], by go_num, Lib.hid (by rw [HA2.out]; exact HNX.out), HOb, HPb, HKb⟩
          case measure => simp [intOf]; have := HA2.out; have := HKL.out; omega
    · have b1 : (e1 != 0) = true := by simp [h1]
      have HF := Lib.hid (HSA.out.done (by rw [← HL1.out]; exact fst_no (fun hh => h1 (by rw [HE1.out]; exact hh.1))))
      clear h1
      go_wp2
      go_ret3
      exact ⟨_, _, by rw [HF.out]; rfl, by rw [HF.out]; exact HO4.out, by rw [HF.out]; exact HP4.out, HK4.out⟩
end Go.Proofs.Ytlpknhiagdhkcaa
/- The law's few: which records are looked at. -/
set_option linter.unusedVariables false
set_option maxRecDepth 100000
namespace Go.Proofs.Ytlpknhiagdhkcaa
open Go.RowKit

def fewL : List RecB → Nat → Nat → Bool
  | [], i, n => decide (n ≤ 60000)
  | r :: T, i, n => if 200 ≤ i ∨ 30000 < r.body.length ∨ 30000 < n then false else fewL T (i + 1) (n + r.body.length + 80)
def fewB (T : List RecB) : Bool := fewL T 0 0
def sumB : List RecB → Nat
  | [] => 0
  | r :: T => r.body.length + 80 + sumB T
theorem fewL_of : ∀ (T : List RecB) (i n : Nat), i ≤ 200 → fewL T i n = true → i + T.length ≤ 200 ∧ n + sumB T ≤ 60000
  | [], i, n, hi, h => by
    unfold fewL at h
    have := of_decide_eq_true h
    exact ⟨hi, this⟩
  | r :: T, i, n, hi, h => by
    unfold fewL at h
    split at h
    · cases h
    · rename_i hc
      obtain ⟨h1, h2⟩ := fewL_of T (i + 1) _ (by omega) h
      constructor
      · simp; omega
      · show n + (r.body.length + 80 + sumB T) ≤ 60000
        omega
theorem few_of {T : List RecB} (h : fewB T = true) : T.length ≤ 200 ∧ sumB T ≤ 60000 := by
  obtain ⟨h1, h2⟩ := fewL_of T 0 0 (by omega) h
  omega
theorem fewL_drop {T : List RecB} {i : Nat} {r : RecB} (h : T[i]? = some r) (n : Nat) : fewL (T.drop i) i n = if 200 ≤ i ∨ 30000 < r.body.length ∨ 30000 < n then false else fewL (T.drop (i + 1)) (i + 1) (n + r.body.length + 80) := by
  have hi : i < T.length := (List.getElem?_eq_some_iff.1 h).1
  rw [List.drop_eq_getElem_cons hi, (List.getElem?_eq_some_iff.1 h).2]
  rfl
theorem body_at {w : World} {b o : Nat} {r : RecB} (h : w.rangeAt b o (recC r)) (hr : r.Ok) : w.cell? ⟨b, o + 65, none⟩ = some (.string (bs r.body)) := h 65 _ (rec_65 hr)

set_option maxHeartbeats 4000000 in
theorem law_few17 (a : Option Addr) (len cap : Nat) (T : List RecB) (w : World) (h : InR w a len cap T) :
    Calls Try.prog 16 #[.slice a len cap] w fun e w' => e = .returned (.bool (fewB T)) ∧ w = w' := by
  have HI := Lib.hid h
  have hbig := h.big
  have HB := Lib.hid (show fewB T = fewL (T.drop 0) 0 0 by rw [List.drop_zero]; rfl)
  clear h
  go_enter Try.func16, Try.ntmps16
  go_wp2_with fail
  go_loop [3, 4] (fun vn vi => ∃ i n : Nat, i ≤ len ∧ vi = .int .i64 i ∧ vn = .int .i64 n ∧ n ≤ 100000 ∧ Hid (fewB T = fewL (T.drop i) i n)) (fun vn vi => len - (intOf vi).toNat)
  case atStart => exact ⟨0, 0, Nat.zero_le _, rfl, rfl, by omega, HB⟩
  case round =>
    obtain ⟨i, n, hi, rfl, rfl, hn, HE⟩ := hrel
    by_cases hil : i < len
    · obtain ⟨b, off, r, rfl, hTi, hbw, hrg, hok, hbl⟩ := HI.out.at hil
      have HS := Lib.hid (fewL_drop hTi n)
      have c65 := body_at hrg hok
      have hsz : ((bs r.body).size : Int) = (r.body.length : Int) := by rw [bs_size]
      have hbw' := Lib.hid hbw
      clear hTi hbw hrg hok
      by_cases h1 : 200 ≤ i
      · have h1' : (200 : Int) ≤ (i : Int) := by omega
        have HF := Lib.hid (show fewB T = false by rw [HE.out, HS.out, if_pos (.inl h1)])
        clear h1
        go_wp2
        go_ret
        exact ⟨by rw [HF.out]; rfl, rfl⟩
      · have h1' : ¬ (200 : Int) ≤ (i : Int) := by omega
        by_cases h2 : 30000 < r.body.length
        · have h2' : (30000 : Int) < ((bs r.body).size : Int) := by omega
          have HF := Lib.hid (show fewB T = false by rw [HE.out, HS.out, if_pos (.inr (.inl h2))])
          clear h1 h2 hsz
          go_wp2
          go_ret
          exact ⟨by rw [HF.out]; rfl, rfl⟩
        · have h2' : ¬ (30000 : Int) < ((bs r.body).size : Int) := by omega
          by_cases h3 : 30000 < n
          · have h3' : (30000 : Int) < (n : Int) := by omega
            have HF := Lib.hid (show fewB T = false by rw [HE.out, HS.out, if_pos (.inr (.inr h3))])
            clear h1 h2 h3 hsz
            go_wp2
            go_ret
            exact ⟨by rw [HF.out]; rfl, rfl⟩
          · have h3' : ¬ (30000 : Int) < (n : Int) := by omega
            have HF := Lib.hid (show fewB T = fewL (T.drop (i + 1)) (i + 1) (n + r.body.length + 80) by rw [HE.out, HS.out, if_neg (by omega)])
            obtain ⟨m, hm⟩ : ∃ m, m = r.body.length := ⟨_, rfl⟩
            rw [← hm] at HF hsz h2
            have hzz : (bs r.body).size = m := by rw [bs_size, hm]
            obtain ⟨n1, hn1⟩ : ∃ n1, n1 = n + m := ⟨_, rfl⟩
            obtain ⟨n2, hn2⟩ : ∃ n2, n2 = n1 + 80 := ⟨_, rfl⟩
            have hs1 : (n : Int) + (m : Int) = (n1 : Int) := by omega
            have hs2 : (n1 : Int) + 80 = (n2 : Int) := by omega
            have hn2l : n2 ≤ 100000 := by omega
            rw [← hn1, ← hn2] at HF
            clear h1 h2 h3 hm hn1 hn2 hsz
            go_wp2
            go_round
            case rel => exact ⟨i + 1, n2, by omega, by go_num, rfl, hn2l, HF⟩
            case measure => simp [intOf]; omega
    · obtain rfl : i = len := by omega
      have HF := Lib.hid (show fewB T = decide (n ≤ 60000) by rw [HE.out, HI.out.lenT, List.drop_length]; rfl)
      have hd : decide ((n : Int) ≤ 60000) = decide (n ≤ 60000) := decide_eq_decide.2 (by omega)
      go_wp2
      go_ret
      exact ⟨by rw [HF.out, ← hd]; rfl, rfl⟩
end Go.Proofs.Ytlpknhiagdhkcaa
