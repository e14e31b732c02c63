/- The document's example. -/
import Derived.Test.YtbiifdnicieamaaDoorBloomFew
set_option linter.unusedVariables false
set_option maxRecDepth 100000
namespace Go.Proofs.YtbiifdnicieamaaDoor
open Go.RowKit

theorem word_abc : wordAt (digest [97, 98, 99]) 0 = 3128432319 := by decide +kernel
theorem nos_abc (N : Nat) : nos 1 N [97, 98, 99] = [3128432319 % N] := by
  simp only [nos, List.range_succ, List.range_zero, List.nil_append, List.map_cons, List.map_nil]
  rw [show 4 * 0 = 0 from rfl, word_abc]
theorem shape1 : hashesOf 1 = 1 ∧ wordsOf 1 1 = 1 := by decide
theorem shape10 : hashesOf 10 = 7 ∧ wordsOf 10 0 = 1 := by decide
theorem bytes_abc : bytesOf (made 1 64 [[97, 98, 99]]) 8 = [0, 0, 0, 0, 0, 0, 0, 128] := by
  have h : made 1 64 [[97, 98, 99]] = fun x => x == 63 := by
    funext x
    rw [made_iff]
    simp [nos_abc]
    rw [Bool.eq_iff_iff]
    simp
  rw [h]
  decide +kernel
theorem pack_abc : packF 1 [0, 0, 0, 0, 0, 0, 0, 128] = [65, 72, 0, 0, 0, 0, 0, 0, 0, 128] := by
  unfold packF text whole grp
  rw [if_neg (by decide), if_neg (by decide), show ((1 : Nat) : Int).toNat / 64 = 0 from rfl, show (([0, 0, 0, 0, 0, 0, 0, 128] : List UInt8).length : Int).toNat / 64 = 0 from rfl, lead_zero]
  rfl
theorem has_abc : hasB 1 64 (bitAt [0, 0, 0, 0, 0, 0, 0, 128]) [97, 98, 99] = true := by
  unfold hasB
  rw [nos_abc]
  decide +kernel
theorem has_none {h N : Nat} (f : Nat → Bool) (k : List UInt8) (hh : 1 ≤ h) (hf : ∀ x, f x = false) : hasB h N f k = false := by
  unfold hasB
  rw [List.all_eq_false]
  have hl := nos_len h N k
  cases hn : nos h N k with
  | nil => rw [hn] at hl; simp at hl; omega
  | cons x l => exact ⟨x, by simp, by rw [hf]; decide⟩
theorem bit_zeros (m x : Nat) : bitAt (List.replicate m 0) x = false := by
  unfold bitAt byteAt
  rw [List.getD_eq_getElem?_getD, List.getElem?_replicate]
  split <;> simp

set_option maxHeartbeats 2000000 in
theorem law_awake (w : World) (hg : Hid (Glob w)) : Calls Tryd.prog 8 #[] w fun e w' => e = .returned (.bool true) ∧ Below w.heap.size w w' := by
  obtain ⟨Z, hZ⟩ : ∃ Z, Z = w.heap.size := ⟨_, rfl⟩
  have hrow := Lib.hid (row_new w [bs [97, 98, 99]] 9)
  have hk1 := Lib.hid ((Below.refl w.heap.size w).alloc (Nat.le_refl _) (.cells (([bs [97, 98, 99]] : List ByteArray).map Value.string).toArray 9))
  have hg1 := Lib.hid (hg.out.keep hk1.out hg.out.1)
  have HM1 := Lib.hid (flt_Make 1 (some ⟨w.heap.size, 0, none⟩) 1 1 w.heap.size 0 [bs [97, 98, 99]] _ (by decide) (by decide) (Lib.hid rfl) (by decide) hrow (Lib.hid (.inr rfl)) (Lib.hid (by simp [bs_size])) hg1)
  go_enter Tryd.func8, Tryd.ntmps8
  go_wp2_with fail
  refine HM1.out.mono ?_
  rintro e w1 ⟨rfl, F1, k1⟩
  have e1 : ([bs [97, 98, 99]] : List ByteArray).map (·.data.toList) = [[97, 98, 99]] := rfl
  rw [e1, shape1.1, shape1.2, show 1 * 8 * 8 = 64 from rfl, show 1 * 8 = 8 from rfl, bytes_abc] at F1
  have K1 := Lib.hid (hk1.out.trans (k1.mono hk1.out.size))
  have G1 := Lib.hid (hg.out.keep K1.out hg.out.1)
  obtain ⟨b1, hb1⟩ : ∃ b1, b1 = (w.alloc (.cells (([bs [97, 98, 99]] : List ByteArray).map Value.string).toArray 9)).heap.size := ⟨_, rfl⟩
  rw [← hb1] at F1
  have hb1' : w.heap.size + 1 = b1 := by rw [hb1]; simp
  have HF1 := Lib.hid F1
  clear F1 k1 hb1 HM1 hrow hk1 hg1
  have HM2 := Lib.hid (flt_Make 10 none 0 0 0 0 [] w1 (by decide) (by decide) (Lib.hid rfl) (by decide) (Lib.hid (fun k hk => absurd hk (by simp))) (Lib.hid (.inl rfl)) (Lib.hid (by simp)) G1)
  go_wp2_with fail
  refine HM2.out.mono ?_
  rintro e w2 ⟨rfl, F2, k2⟩
  rw [shape10.1, shape10.2, List.map_nil, show 1 * 8 * 8 = 64 from rfl, show 1 * 8 = 8 from rfl, made_none] at F2
  have K2 := Lib.hid k2
  have G2 := Lib.hid (G1.out.keep K2.out G1.out.1)
  have HF2 := Lib.hid F2
  have HF1b := Lib.hid (HF1.out.below K2.out)
  clear F2 k2 HM2
  obtain ⟨p1, hp1⟩ : ∃ p1, p1 = b1 + 1 := ⟨_, rfl⟩
  obtain ⟨p2, hp2⟩ : ∃ p2, p2 = w1.heap.size + 1 := ⟨_, rfl⟩
  rw [← hp1] at HF1b ⊢
  rw [← hp2] at HF2 ⊢
  have hsame : (bs [65, 72, 0, 0, 0, 0, 0, 0, 0, 128]).toList = [65, 72, 0, 0, 0, 0, 0, 0, 0, 128] := by rw [Lib.toList_data, bs_list]
  clear hp1 hp2 hb1'
  go_wp2_with fail
  refine (flt_pack p1 b1 1 8 [0, 0, 0, 0, 0, 0, 0, 128] w2 HF1b (Lib.hid rfl) (by decide) (by decide)).mono ?_
  rintro e w3 ⟨rfl, k3⟩
  rw [pack_abc]
  have K3 := Lib.hid k3
  have G3 := Lib.hid (G2.out.keep K3.out G2.out.1)
  clear k3
  go_wp2_with fail
  refine (flt_has p1 b1 1 8 64 [0, 0, 0, 0, 0, 0, 0, 128] [97, 98, 99] w3 (Lib.hid (HF1b.out.below K3.out)) G3 (Lib.hid rfl) (by decide) (Lib.hid rfl) (by decide) (by decide) (Lib.hid (by decide))).mono ?_
  rintro e w4 ⟨rfl, k4⟩
  rw [has_abc]
  have K4 := Lib.hid k4
  have G4 := Lib.hid (G3.out.keep K4.out G3.out.1)
  clear k4
  go_wp2_with fail
  refine (flt_has p2 w1.heap.size 7 8 64 (List.replicate 8 0) [97, 98, 99] w4 (Lib.hid ((HF2.out.below K3.out).below K4.out)) G4 (Lib.hid rfl) (by decide) (Lib.hid rfl) (by decide) (by decide) (Lib.hid (by decide))).mono ?_
  rintro e w5 ⟨rfl, k5⟩
  rw [has_none _ _ (by decide) (bit_zeros 8)]
  have K5 := Lib.hid k5
  clear k5
  go_wp2_with fail
  go_ret
  refine ⟨rfl, ?_⟩
  have a2 := K1.out.trans (K2.out.mono K1.out.size)
  have a3 := a2.trans (K3.out.mono a2.size)
  have a4 := a3.trans (K4.out.mono a3.size)
  exact a4.trans (K5.out.mono a4.size)
end Go.Proofs.YtbiifdnicieamaaDoor
