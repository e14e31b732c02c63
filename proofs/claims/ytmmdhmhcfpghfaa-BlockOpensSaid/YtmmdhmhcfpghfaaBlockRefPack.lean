/- The document's Pack. -/
import Derived.Test.YtmmdhmhcfpghfaaBlockOwn
import Derived.Test.YtmmdhmhcfpghfaaSixRefWrites
import Derived.Test.YtmmdhmhcfpghfaaCrcRefPuts
set_option linter.unusedVariables false
set_option maxRecDepth 100000
namespace Go.Proofs.Ytmmdhmhcfpghfaa
open Go.RowKit

theorem seen_call {P : Program} {F : FuncId} {args : Array Value} {r : Value} {W : World} (h : ∀ w, Calls P F args w fun e w' => e = .returned r ∧ Below w.heap.size w w') (n : Seen W) : Calls P F args n.val fun e w'' => e = .returned r ∧ ∃ m : Seen W, w'' = m.val :=
  (h n.val).mono fun _ w'' ⟨h1, h2⟩ => ⟨h1, ⟨⟨w'', n.below.trans (h2.mono n.below.size)⟩, rfl⟩⟩
theorem bs_sum (l m : List UInt8) (h : l.length + m.length ≤ 9223372036854775807) : ((bs l).size : Int) + ((bs m).size : Int) ≤ 9223372036854775807 := by rw [bs_size, bs_size]; omega
theorem bs_join (l m : List UInt8) : bs l ++ bs m = bs (l ++ m) := by rw [bs_cat, bs_list]

set_option maxHeartbeats 4000000 in
theorem ref_Pack (a : Option Addr) (len cap : Nat) (T : List Ent) (w : World) (hT : Hid (IsE w a len T)) (hl : len ≤ 65536) (hs : Hid (smallE T)) :
    Calls Try.prog 13 #[.slice a len cap] w fun e w' => e = .returned (.string (bs (listB T ++ four (sumL (listB T))))) ∧ Below w.heap.size w w' := by
  have hlen := Lib.hid hT.out.1
  go_enter Try.func13, Try.ntmps13
  go_wp2_with fail
  refine (ref_Whole (len : Int) w (by omega) (by omega)).mono ?_
  rintro e w1 ⟨rfl, k1⟩
  have K1 := Lib.hid k1
  clear k1
  go_wp2_with fail
  go_loopw [3, 4, 5] (fun sv lv iv wr => ∃ i : Nat, i ≤ len ∧ iv = .int .i64 i ∧ sv = .string (bs (whole (len : Int) ++ entsB [] (T.take i))) ∧ lv = .string (bs (lastK [] (T.take i))) ∧ Hid (Below w.heap.size w wr)) (fun sv lv iv wr => len - (intOf iv).toNat)
  case atStart => exact ⟨0, Nat.zero_le _, rfl, by simp [entsB], rfl, K1⟩
  case round =>
    obtain ⟨i, hi, rfl, rfl, rfl, hB⟩ := hrel
    by_cases hlt : i < len
    · obtain ⟨b, off, x, rfl, hx, _, hc⟩ := (hT.out.below hB.out).at hlt
      have hsx := hs.out x (List.mem_of_getElem? hx)
      have c0 := hc.c0
      have c1 := hc.c1
      have c2 := hc.c2
      have hnext := Lib.hid (show entsB [] (T.take (i + 1)) = entsB [] (T.take i) ++ entB (lastK [] (T.take i)) x by rw [take_ent hx, entsB_snoc])
      have hlast := Lib.hid (show lastK [] (T.take (i + 1)) = x.key by rw [take_ent hx, lastK_snoc])
      have hll := Lib.hid (show (whole (len : Int) ++ entsB [] (T.take i)).length ≤ 10000000000 by
        have h0 := (whole_len (n := (len : Int)) (by omega) (by omega)).1
        have h1 := entsB_len (T.take i) [] (hs.out.take i)
        rw [List.length_take] at h1
        rw [List.length_append]
        omega)
      have hlk : (lastK [] (T.take i)).length ≤ 65536 := lastK_le _ _ (by simp) (hs.out.take i)
      obtain ⟨S, hS⟩ : ∃ S, S = whole (len : Int) ++ entsB [] (T.take i) := ⟨_, rfl⟩
      obtain ⟨last, hla⟩ : ∃ last, last = lastK [] (T.take i) := ⟨_, rfl⟩
      have hnext2 := Lib.hid (show whole (len : Int) ++ entsB [] (T.take (i + 1)) = S ++ entB last x by rw [hnext.out, hS, hla, List.append_assoc])
      rw [← hS] at hll ⊢
      rw [← hla] at hlk ⊢
      obtain ⟨n, hn⟩ : ∃ n, n = sharedL last x.key := ⟨_, rfl⟩
      have hnk : n ≤ x.key.length := by rw [hn]; exact (shared_le _ _).2
      obtain ⟨rest, hrest⟩ : ∃ rest, rest = x.key.drop n := ⟨_, rfl⟩
      have HE := Lib.hid (show entB last x = whole (n : Int) ++ text rest ++ (if x.gone then whole 0 else whole ((x.val.length + 1 : Nat) : Int) ++ x.val) by rw [hrest, hn]; rfl)
      have hrl : rest.length ≤ 65536 := by rw [hrest, List.length_drop]; omega
      have hr := rest_bs x.key n
      rw [← hrest, bs_size] at hr
      have z1 : (bs x.key).size = x.key.length := bs_size _
      have z2 : (bs x.val).size = x.val.length := bs_size _
      obtain ⟨W0, hW0⟩ : ∃ W0, wr.alloc (.cells #[.string (bs x.key), .string (bs x.val), .bool x.gone] 44) = W0 := ⟨_, rfl⟩
      have P0 := Lib.hid (show Bx3 wr.heap.size x W0 ∧ Below w.heap.size w W0 by rw [← hW0]; exact ⟨heap_new wr _, hB.out.alloc hB.out.size _⟩)
      have HW0 := Lib.hid hW0
      have HN := Lib.hid hn
      clear hx hc hnext hS hla hn hrest hW0 hB
      go_upto_region 7 with (fail)
      rw [HW0.out]
      obtain ⟨Z, hZ⟩ : ∃ Z, Z = wr.heap.size := ⟨_, rfl⟩
      rw [← hZ] at P0 ⊢
      clear HW0 c0 c1 c2 hZ
      obtain ⟨d0, d1, d2⟩ := P0.out.1.cells
      go_wp2_with fail
      refine (ref_Shared last x.key W0 (by omega) (by omega)).mono ?_
      rintro e W1 ⟨rfl, k1⟩
      rw [← HN.out]
      have P1 := Lib.hid (show Bx3 Z x W1 ∧ Below w.heap.size w W1 from ⟨(k1.block Z (heap_lt P0.out.1)).trans P0.out.1, P0.out.2.trans (k1.mono P0.out.2.size)⟩)
      clear k1 P0 d0 d1 d2
      obtain ⟨A, hA⟩ : ∃ A, A = whole (n : Int) := ⟨_, rfl⟩
      obtain ⟨X, hX⟩ : ∃ X, X = text rest := ⟨_, rfl⟩
      have hAl : A.length ≤ 11 := by rw [hA]; exact (whole_len (by omega) (by omega)).1
      have hXl : X.length ≤ 70000 := by
        rw [hX]
        unfold text
        rw [List.length_append]
        have := (whole_len (n := (rest.length : Int)) (by omega) (by omega)).1
        omega
      have H24 := Lib.hid (fun n : Seen W1 => by
        have h := seen_call (fun W => ref_Whole (n := ((sharedL last x.key : Nat) : Int)) W (by have := (shared_le last x.key).2; omega) (by have := (shared_le last x.key).2; omega)) n
        rw [← HN.out, ← hA] at h
        exact h)
      have H26 := Lib.hid (fun n : Seen W1 => by
        have h := seen_call (fun W => ref_Text (bs rest) W (by rw [bs_size]; omega)) n
        rw [bs_list, ← hX] at h
        exact h)
      have n0 : ∀ n : Seen W1, n.val.cell? ⟨Z, 0, none⟩ = some (.string (bs x.key)) := fun n => by rw [n.below.cell (p := ⟨Z, 0, none⟩) (heap_lt P1.out.1)]; exact P1.out.1.cells.1
      obtain ⟨S1, hS1⟩ : ∃ S1, S1 = S ++ A := ⟨_, rfl⟩
      obtain ⟨S2, hS2⟩ : ∃ S2, S2 = S1 ++ X := ⟨_, rfl⟩
      have j1 : bs S ++ bs A = bs S1 := by rw [bs_join, hS1]
      have j2 : bs S1 ++ bs X = bs S2 := by rw [bs_join, hS2]
      have s1 := bs_sum S A (by have := hll.out; omega)
      have hS1l : S1.length ≤ 10000000100 := by rw [hS1, List.length_append]; have := hll.out; omega
      have s2 := bs_sum S1 X (by omega)
      have hS2l : S2.length ≤ 10000080000 := by rw [hS2, List.length_append]; omega
      have HS2 := Lib.hid (show S2 = S ++ (whole (n : Int) ++ text rest) by rw [hS2, hS1, hA, hX, List.append_assoc])
      clear hA hX hS1 hS2
      go_wp2_with fail
      refine region_seen (by kernel_rfl) (by kernel_rfl) ?_
      repeat go_big_quiet_step (first | (go_at_call 24; with_reducible exact H24.out _) | (go_at_call 26; with_reducible exact H26.out _))
      refine wpQuiet_nil ?_
      rintro _ ⟨m1, rfl⟩
      have P2 := Lib.hid (show Bx3 Z x m1.val ∧ Below w.heap.size w m1.val from ⟨(m1.below.block Z (heap_lt P1.out.1)).trans P1.out.1, P1.out.2.trans (m1.below.mono P1.out.2.size)⟩)
      clear H24 H26 n0 j1 j2 s1 s2 P1
      generalize m1.val = W2 at *
      obtain ⟨d0, d1, d2⟩ := P2.out.1.cells
      rcases Bool.eq_false_or_eq_true x.gone with hg | hg
      · rw [hg] at d2
        have HE2 := Lib.hid (show S ++ entB last x = S2 ++ whole 0 by rw [HE.out, if_pos hg, HS2.out]; simp only [List.append_assoc])
        obtain ⟨O, hO⟩ : ∃ O, O = whole 0 := ⟨_, rfl⟩
        have hOl : O.length ≤ 11 := by rw [hO]; exact (whole_len (n := (0 : Int)) (by omega) (by omega)).1
        have h24 := ref_Whole 0 W2 (by decide) (by decide)
        rw [← hO] at h24 HE2
        have H24 := Lib.hid h24
        obtain ⟨S3, hS3⟩ : ∃ S3, S3 = S2 ++ O := ⟨_, rfl⟩
        have j1 : bs S2 ++ bs O = bs S3 := by rw [bs_join, hS3]
        have s1 := bs_sum S2 O (by omega)
        rw [← hS3] at HE2
        clear hO h24 hS3 hg
        go_wp2_with fail
        refine H24.out.mono ?_
        rintro e W3 ⟨rfl, k3⟩
        have P3 := Lib.hid (show Bx3 Z x W3 ∧ Below w.heap.size w W3 from ⟨(k3.block Z (heap_lt P2.out.1)).trans P2.out.1, P2.out.2.trans (k3.mono P2.out.2.size)⟩)
        clear k3 d0 d1 d2
        obtain ⟨d0, d1, d2⟩ := P3.out.1.cells
        go_wp2_with fail
        go_roundw
        case rel => exact ⟨i + 1, by omega, by go_num, by rw [hnext2.out, HE2.out], by rw [hlast.out], Lib.hid P3.out.2⟩
        case measure => simp [intOf]; omega
      · rw [hg] at d2
        obtain ⟨O, hO⟩ : ∃ O, O = whole ((x.val.length + 1 : Nat) : Int) := ⟨_, rfl⟩
        have HE2 := Lib.hid (show S ++ entB last x = (S2 ++ O) ++ x.val by rw [HE.out, if_neg (by rw [hg]; decide), HS2.out, hO]; simp only [List.append_assoc])
        have hOl : O.length ≤ 11 := by rw [hO]; exact (whole_len (by omega) (by omega)).1
        have H24 := Lib.hid (fun n : Seen W2 => by
          have h := seen_call (fun W => ref_Whole ((x.val.length + 1 : Nat) : Int) W (by omega) (by omega)) n
          rw [← hO] at h
          rw [show ((x.val.length + 1 : Nat) : Int) = (x.val.length : Int) + 1 by omega] at h
          exact h)
        have n1 : ∀ n : Seen W2, n.val.cell? ⟨Z, 1, none⟩ = some (.string (bs x.val)) := fun n => by rw [n.below.cell (p := ⟨Z, 1, none⟩) (heap_lt P2.out.1)]; exact P2.out.1.cells.2.1
        obtain ⟨S3, hS3⟩ : ∃ S3, S3 = S2 ++ O := ⟨_, rfl⟩
        obtain ⟨S4, hS4⟩ : ∃ S4, S4 = S3 ++ x.val := ⟨_, rfl⟩
        have j1 : bs S2 ++ bs O = bs S3 := by rw [bs_join, hS3]
        have j2 : bs S3 ++ bs x.val = bs S4 := by rw [bs_join, hS4]
        have s1 := bs_sum S2 O (by omega)
        have hS3l : S3.length ≤ 10000080100 := by rw [hS3, List.length_append]; omega
        have s2 := bs_sum S3 x.val (by omega)
        rw [← hS3, ← hS4] at HE2
        clear hO hS3 hS4 hg
        go_wp2_with fail
        refine region_seen (by kernel_rfl) (by kernel_rfl) ?_
        repeat go_big_quiet_step (first | (go_at_call 24; with_reducible exact H24.out _))
        refine wpQuiet_nil ?_
        rintro _ ⟨m2, rfl⟩
        have P3 := Lib.hid (show Bx3 Z x m2.val ∧ Below w.heap.size w m2.val from ⟨(m2.below.block Z (heap_lt P2.out.1)).trans P2.out.1, P2.out.2.trans (m2.below.mono P2.out.2.size)⟩)
        clear H24 n1 j1 j2 s1 s2 P2 d0 d1 d2
        generalize m2.val = W3 at *
        obtain ⟨d0, d1, d2⟩ := P3.out.1.cells
        go_wp2_with fail
        go_roundw
        case rel => exact ⟨i + 1, by omega, by go_num, by rw [hnext2.out, HE2.out], by rw [hlast.out], Lib.hid P3.out.2⟩
        case measure => simp [intOf]; omega
    · have hall := Lib.hid (show whole (len : Int) ++ entsB [] (T.take i) = listB T by
        rw [List.take_of_length_le (by rw [← hlen.out]; omega), hlen.out]
        rfl)
      have hbl := Lib.hid (listB_len hs.out (by rw [← hlen.out]; exact hl))
      obtain ⟨S, hS⟩ : ∃ S, S = listB T := ⟨_, rfl⟩
      rw [hall.out, ← hS]
      rw [← hS] at hbl
      have HS := Lib.hid hS
      clear hS
      go_wp2_with fail
      refine (ref_Put (bs S) wr (by rw [bs_size]; have := hbl.out; omega)).mono ?_
      rintro e W2 ⟨rfl, k2⟩
      rw [bs_list]
      have K2 := Lib.hid (hB.out.trans (k2.mono hB.out.size))
      clear k2
      go_wp2_with fail
      go_ret
      exact ⟨rets (by rw [HS.out]), K2.out⟩
end Go.Proofs.Ytmmdhmhcfpghfaa
