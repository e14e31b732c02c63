/- Frames: the program's and the document's; the record of the frame that bytes begin with. -/
import Derived.Test.YtkelcmncjhnbgaaWalPlain
import Derived.Test.YtkelcmncjhnbgaaSixAwake
import Derived.Test.YtkelcmncjhnbgaaSixRefWrites
import Derived.Test.YtkelcmncjhnbgaaCrcRefPuts
set_option linter.unusedVariables false
set_option maxRecDepth 100000
namespace Go.Proofs.Ytkelcmncjhnbgaa
open Go.RowKit

set_option maxHeartbeats 1000000 in
theorem wal_Frame (s : List UInt8) (w : World) (hs : s.length ≤ 1000000000) :
    Calls Try.prog 11 #[.string (bs s)] w fun e w' => e = .returned (.string (bs (frameL s))) ∧ Below w.heap.size w w' := by
  have hz : (bs s).size = s.length := bs_size s
  have ht := Lib.hid (text_le (r := s) (by omega))
  go_enter Try.func11, Try.ntmps11
  go_wp2_with fail
  refine (six_New w).mono ?_
  rintro e w1 ⟨rfl, h1⟩
  have H1 : Hid (Wt w.heap.size w.heap.size [] w1) := Lib.hid (h1 ▸ wt_new w)
  have K1 : Hid (Below w.heap.size w w1) := Lib.hid (h1 ▸ (Below.refl _ _).alloc (Nat.le_refl _) _)
  clear h1
  go_wp2_with fail
  refine (six_Text w.heap.size w.heap.size [] (bs s) w1 H1.out (by rw [hz]; simp; omega)).mono ?_
  rintro e w2 ⟨rfl, h2, k2⟩
  rw [List.nil_append, bs_list] at h2
  have H2 := Lib.hid h2
  have K2 := Lib.hid (K1.out.trans k2)
  clear h2 k2
  go_wp2_with fail
  refine (six_Bytes w.heap.size w.heap.size _ w2 H2.out).mono ?_
  rintro e w3 ⟨rfl, h3, k3, _⟩
  have K3 := Lib.hid (K2.out.trans k3)
  clear h3 k3
  go_wp2_with fail
  refine (crc_Put (bs (text s)) w3 (by rw [bs_size]; have := ht.out; omega)).mono ?_
  rintro e w4 ⟨rfl, k4⟩
  have K4 := Lib.hid (K3.out.trans (k4.mono K3.out.size))
  clear k4
  rw [bs_list]
  go_wp2
  go_ret
  exact ⟨rfl, K4.out⟩
set_option maxHeartbeats 1000000 in
theorem ref_Frame (s : List UInt8) (w : World) (hs : s.length ≤ 1000000000) :
    Calls Try.prog 25 #[.string (bs s)] w fun e w' => e = .returned (.string (bs (frameL s))) ∧ Below w.heap.size w w' := by
  have hz : (bs s).size = s.length := bs_size s
  have ht := Lib.hid (text_le (r := s) (by omega))
  go_enter Try.func25, Try.ntmps25
  go_wp2_with fail
  refine (ref_Text (bs s) w (by omega)).mono ?_
  rintro e w1 ⟨rfl, k1⟩
  rw [bs_list]
  go_wp2_with fail
  refine (ref_Put (bs (text s)) w1 (by rw [bs_size]; have := ht.out; omega)).mono ?_
  rintro e w4 ⟨rfl, k4⟩
  have K4 := Lib.hid (k1.trans (k4.mono k1.size))
  clear k4
  rw [bs_list]
  go_wp2
  go_ret
  exact ⟨rfl, K4.out⟩

/-- What first answers. -/
def firstV (l : List UInt8) : Value := match firstL l with
  | some (r, k) => .tuple #[.string (bs r), .int .i64 (k : Int), .bool true]
  | none => .tuple #[.string ⟨#[]⟩, .int .i64 0, .bool false]
theorem firstV_none {l : List UInt8} (h : firstL l = none) : firstV l = .tuple #[.string ⟨#[]⟩, .int .i64 0, .bool false] := by unfold firstV; rw [h]
theorem firstV_some {l r : List UInt8} {k : Nat} (h : firstL l = some (r, k)) : firstV l = .tuple #[.string (bs r), .int .i64 (k : Int), .bool true] := by unfold firstV; rw [h]
theorem take_err (l : List UInt8) (h : 4 ≤ l.length) : takeE l = if okT l then 0 else 4 := by unfold takeE; rw [if_neg (by omega)]
theorem bs_from (l : List UInt8) (k : Nat) (h : k ≤ l.length) : (bs l).extract k (bs l).size = bs (l.drop k) := (take_split (s := bs l) (by rw [bs_size]; exact h)).2
theorem bs_upto (l : List UInt8) (k : Nat) (h : k ≤ l.length) : (bs l).extract 0 k = bs (l.take k) := (take_split (s := bs l) (by rw [bs_size]; exact h)).1

set_option maxHeartbeats 2000000 in
theorem wal_first (l : List UInt8) (w : World) (hl : l.length ≤ 1000000000) :
    Calls Try.prog 37 #[.string (bs l)] w fun e w' => e = .returned (firstV l) ∧ Below w.heap.size w w' := by
  have hz : (bs l).size = l.length := bs_size l
  have hT : ∀ w1, Rt w.heap.size (bs l) w1 → _ := fun w1 h => six_ReadText w.heap.size (bs l) w1 h (by rw [hz]; unfold maxLen; omega)
  rw [bs_list] at hT
  have bad : ∀ e : Int, (e = 2 ∨ e = 3) → te l = e → ts l = [] → firstL l = none := fun e he h _ => first_no (by omega)
  rcases td_cases l with ⟨b1, b2, b3, b4, b5, b6, b7⟩ | ⟨b1 | b1, b2, b3⟩
  · have hk1 : tk l ≤ l.length := by rw [b6]; exact b4
    rw [b1, bs_from l _ hk1] at hT
    obtain ⟨t, ht⟩ : ∃ t, t = ts l := ⟨_, rfl⟩
    obtain ⟨k, hk⟩ : ∃ k, k = tk l := ⟨_, rfl⟩
    obtain ⟨q, hq⟩ : ∃ q, q = t.length := ⟨_, rfl⟩
    have htz : (bs t).size = q := by rw [bs_size, hq]
    have hql : q ≤ l.length := by rw [hq, ht, b7, List.length_take, List.length_drop]; omega
    rw [← ht, ← hk] at hT
    rw [← hk] at hk1
    have HT := Lib.hid (And.intro b1 (And.intro ht (And.intro hk hq)))
    clear b1 b2 b3 b4 b5 b6 b7 bad ht hk hq
    by_cases hbig : q ≤ 1048576
    · have hbig' : (q : Int) ≤ 1048576 := by omega
      have hR : ∀ w1, Rt w.heap.size (bs (l.drop k)) w1 → _ := fun w1 h => six_ReadRaw w.heap.size (bs (l.drop k)) 4 w1 h (by rw [bs_size, List.length_drop]; unfold maxLen; omega) (by omega) (by omega)
      rw [bs_list] at hR
      by_cases h4 : k + 4 ≤ l.length
      · have hw1 : wk (l.drop k) 4 = 4 := by unfold wk; rw [if_neg (by rw [List.length_drop]; omega)]; rfl
        have hw2 : we (l.drop k) 4 = 0 := by unfold we; rw [if_neg (by omega), if_neg (by rw [List.length_drop]; omega)]
        rw [hw1, hw2, bs_from _ 4 (by rw [List.length_drop]; omega), List.drop_drop] at hR
        obtain ⟨m, hm⟩ : ∃ m, m + (k + 4) = l.length := ⟨l.length - (k + 4), by omega⟩
        have hrz : (bs (l.drop (k + 4))).size = m := by rw [bs_size, List.length_drop]; omega
        have hsub : ((l.length : Int) - (m : Int)) = ((k + 4 : Nat) : Int) := by omega
        obtain ⟨n, hn⟩ : ∃ n, n = k + 4 := ⟨_, rfl⟩
        rw [← hn] at hrz hsub hR
        obtain ⟨cut, hcut⟩ : ∃ cut, cut = l.take n := ⟨_, rfl⟩
        have hex : (bs l).extract 0 n = bs cut := by rw [hcut]; exact bs_upto l n (by omega)
        have hcl : cut.length = n := by rw [hcut, List.length_take]; omega
        have hcs : (bs cut).size ≤ 140737488355328 := by rw [bs_size]; omega
        have hnl : n ≤ l.length := by omega
        have hnl' : (n : Int) ≤ (l.length : Int) := by omega
        by_cases hok : okT cut
        · have hE := Lib.hid (show takeE cut = 0 by rw [take_err cut (by omega), if_pos hok])
          have HF := Lib.hid (show firstV l = _ from firstV_some (by
            have := first_yes HT.out.1 (by rw [← HT.out.2.1, ← HT.out.2.2.2]; exact hbig) (by rw [← HT.out.2.2.1]; exact h4) (by rw [← HT.out.2.2.1, ← hn, ← hcut]; exact hok)
            rw [this, ← HT.out.2.1, ← HT.out.2.2.1, ← hn]))
          clear hok HT hcut hn
          rw [HF.out]
          go_enter Try.func37, Try.ntmps37
          go_wp2_with fail
          refine (six_Over (bs l) w).mono ?_
          rintro e w1 ⟨rfl, h1⟩
          have R1 : Hid (Rt w.heap.size (bs l) w1) := Lib.hid (h1 ▸ Rt.new (bs l) w)
          have K1 : Hid (Below w.heap.size w w1) := Lib.hid (h1 ▸ (Below.refl _ _).alloc (Nat.le_refl _) _)
          clear h1
          go_wp2_with fail
          refine (hT w1 R1.out).mono ?_
          rintro e w2 ⟨rfl, h2, k2⟩
          have R2 := Lib.hid h2
          have K2 := Lib.hid (K1.out.trans (k2.below (fun k _ hk => Nat.le_of_eq hk.symm) K1.out.size))
          clear h2 k2 K1 R1
          go_wp2_with fail
          refine (hR w2 R2.out).mono ?_
          rintro e w3 ⟨rfl, h3, k3⟩
          have R3 := Lib.hid h3
          have K3 := Lib.hid (K2.out.trans (k3.below (fun k _ hk => Nat.le_of_eq hk.symm) K2.out.size))
          clear h3 k3 K2 R2
          go_wp2_with fail
          refine (six_Rest w.heap.size _ w3 R3.out).mono ?_
          rintro e w4 ⟨rfl, rfl⟩
          go_wp2_with fail
          refine (crc_Take (bs cut) w3 hcs).mono ?_
          rintro e w4 ⟨rfl, k4⟩
          have K4 := Lib.hid (K3.out.trans (k4.mono K3.out.size))
          clear k4 K3
          rw [bs_list, hE.out]
          go_wp2
          go_ret3
          exact ⟨rfl, K4.out⟩
        · have hE := Lib.hid (show takeE cut = 4 by rw [take_err cut (by omega), if_neg hok])
          have HF := Lib.hid (show firstV l = _ from firstV_none (first_no (by
            intro hh
            have := hh.2.2.2
            rw [← HT.out.2.2.1, ← hn, ← hcut] at this
            exact hok this)))
          clear hok HT hcut hn
          rw [HF.out]
          go_enter Try.func37, Try.ntmps37
          go_wp2_with fail
          refine (six_Over (bs l) w).mono ?_
          rintro e w1 ⟨rfl, h1⟩
          have R1 : Hid (Rt w.heap.size (bs l) w1) := Lib.hid (h1 ▸ Rt.new (bs l) w)
          have K1 : Hid (Below w.heap.size w w1) := Lib.hid (h1 ▸ (Below.refl _ _).alloc (Nat.le_refl _) _)
          clear h1
          go_wp2_with fail
          refine (hT w1 R1.out).mono ?_
          rintro e w2 ⟨rfl, h2, k2⟩
          have R2 := Lib.hid h2
          have K2 := Lib.hid (K1.out.trans (k2.below (fun k _ hk => Nat.le_of_eq hk.symm) K1.out.size))
          clear h2 k2 K1 R1
          go_wp2_with fail
          refine (hR w2 R2.out).mono ?_
          rintro e w3 ⟨rfl, h3, k3⟩
          have R3 := Lib.hid h3
          have K3 := Lib.hid (K2.out.trans (k3.below (fun k _ hk => Nat.le_of_eq hk.symm) K2.out.size))
          clear h3 k3 K2 R2
          go_wp2_with fail
          refine (six_Rest w.heap.size _ w3 R3.out).mono ?_
          rintro e w4 ⟨rfl, rfl⟩
          go_wp2_with fail
          refine (crc_Take (bs cut) w3 hcs).mono ?_
          rintro e w4 ⟨rfl, k4⟩
          have K4 := Lib.hid (K3.out.trans (k4.mono K3.out.size))
          clear k4 K3
          rw [bs_list, hE.out]
          go_wp2
          go_ret3
          exact ⟨rfl, K4.out⟩
      · have hw2 : we (l.drop k) 4 = 2 := by unfold we; rw [if_neg (by omega), if_pos (by rw [List.length_drop]; omega)]
        rw [hw2] at hR
        have HF := Lib.hid (show firstV l = _ from firstV_none (first_no (by
          intro hh
          have := hh.2.2.1
          rw [← HT.out.2.2.1] at this
          exact h4 this)))
        clear HT
        rw [HF.out]
        go_enter Try.func37, Try.ntmps37
        go_wp2_with fail
        refine (six_Over (bs l) w).mono ?_
        rintro e w1 ⟨rfl, h1⟩
        have R1 : Hid (Rt w.heap.size (bs l) w1) := Lib.hid (h1 ▸ Rt.new (bs l) w)
        have K1 : Hid (Below w.heap.size w w1) := Lib.hid (h1 ▸ (Below.refl _ _).alloc (Nat.le_refl _) _)
        clear h1
        go_wp2_with fail
        refine (hT w1 R1.out).mono ?_
        rintro e w2 ⟨rfl, h2, k2⟩
        have R2 := Lib.hid h2
        have K2 := Lib.hid (K1.out.trans (k2.below (fun k _ hk => Nat.le_of_eq hk.symm) K1.out.size))
        clear h2 k2 K1 R1
        go_wp2_with fail
        refine (hR w2 R2.out).mono ?_
        rintro e w3 ⟨rfl, h3, k3⟩
        have R3 := Lib.hid h3
        have K3 := Lib.hid (K2.out.trans (k3.below (fun k _ hk => Nat.le_of_eq hk.symm) K2.out.size))
        clear h3 k3 K2 R2
        go_wp2
        go_ret3
        exact ⟨rfl, K3.out⟩
    · have hbig' : (1048576 : Int) < (q : Int) := by omega
      have HF := Lib.hid (show firstV l = _ from firstV_none (first_no (by
        intro hh
        have := hh.2.1
        rw [← HT.out.2.1, ← HT.out.2.2.2] at this
        exact hbig this)))
      clear HT
      rw [HF.out]
      go_enter Try.func37, Try.ntmps37
      go_wp2_with fail
      refine (six_Over (bs l) w).mono ?_
      rintro e w1 ⟨rfl, h1⟩
      have R1 : Hid (Rt w.heap.size (bs l) w1) := Lib.hid (h1 ▸ Rt.new (bs l) w)
      have K1 : Hid (Below w.heap.size w w1) := Lib.hid (h1 ▸ (Below.refl _ _).alloc (Nat.le_refl _) _)
      clear h1
      go_wp2_with fail
      refine (hT w1 R1.out).mono ?_
      rintro e w2 ⟨rfl, h2, k2⟩
      have R2 := Lib.hid h2
      have K2 := Lib.hid (K1.out.trans (k2.below (fun k _ hk => Nat.le_of_eq hk.symm) K1.out.size))
      clear h2 k2 K1 R1
      go_wp2
      go_ret3
      exact ⟨rfl, K2.out⟩
  · rw [b1] at hT
    rw [firstV_none (bad 2 (.inl rfl) b1 b2)]
    clear b1 b2 b3 bad
    go_enter Try.func37, Try.ntmps37
    go_wp2_with fail
    refine (six_Over (bs l) w).mono ?_
    rintro e w1 ⟨rfl, h1⟩
    have R1 : Hid (Rt w.heap.size (bs l) w1) := Lib.hid (h1 ▸ Rt.new (bs l) w)
    have K1 : Hid (Below w.heap.size w w1) := Lib.hid (h1 ▸ (Below.refl _ _).alloc (Nat.le_refl _) _)
    clear h1
    go_wp2_with fail
    refine (hT w1 R1.out).mono ?_
    rintro e w2 ⟨rfl, h2, k2⟩
    have R2 := Lib.hid h2
    have K2 := Lib.hid (K1.out.trans (k2.below (fun k _ hk => Nat.le_of_eq hk.symm) K1.out.size))
    clear h2 k2 K1 R1
    go_wp2
    go_ret3
    exact ⟨rfl, K2.out⟩
  · rw [b1] at hT
    rw [firstV_none (bad 3 (.inr rfl) b1 b2)]
    clear b1 b2 b3 bad
    go_enter Try.func37, Try.ntmps37
    go_wp2_with fail
    refine (six_Over (bs l) w).mono ?_
    rintro e w1 ⟨rfl, h1⟩
    have R1 : Hid (Rt w.heap.size (bs l) w1) := Lib.hid (h1 ▸ Rt.new (bs l) w)
    have K1 : Hid (Below w.heap.size w w1) := Lib.hid (h1 ▸ (Below.refl _ _).alloc (Nat.le_refl _) _)
    clear h1
    go_wp2_with fail
    refine (hT w1 R1.out).mono ?_
    rintro e w2 ⟨rfl, h2, k2⟩
    have R2 := Lib.hid h2
    have K2 := Lib.hid (K1.out.trans (k2.below (fun k _ hk => Nat.le_of_eq hk.symm) K1.out.size))
    clear h2 k2 K1 R1
    go_wp2
    go_ret3
    exact ⟨rfl, K2.out⟩
end Go.Proofs.Ytkelcmncjhnbgaa
