/- Texts put together: TableOpensWalk -/
import Derived.Test.YteejldddgogbkaaGreatDoorTOp21
import Derived.Test.YteejldddgogbkaaGreatDoorTOp24
import Derived.Test.YteejldddgogbkaaGreatDoorTOp26
import Derived.Test.YteejldddgogbkaaGreatDoorTOp16
import Derived.Test.YteejldddgogbkaaGreatDoorTOp08
/- TableOpens: the program opens any bytes as the document does, and tells of each key, and from each key on, what the document tells. -/
set_option linter.unusedVariables false
set_option maxRecDepth 100000
namespace Go.Proofs.YteejldddgogbkaaGreatDoor
open Go.RowKit

set_option maxHeartbeats 4000000 in
theorem topens_walk (s : ByteArray) (foot : Bool) (ka : Option Addr) (klen kcap : Nat) (Ks : List ByteArray) (w : World) (hs : s.size ≤ maxLen)
    (hks : IsTexts w ka klen Ks ∧ klen ≤ 9223372036854775807 ∧ ∀ t ∈ Ks, t.size ≤ 140737488351232) (hg : Hid (Glob w)) :
    Calls Tryz.prog 4 #[.string s, .bool foot, .slice ka klen kcap] w fun e w' => e = .returned (.bool true) ∧ Below w.heap.size w w' := by
  obtain ⟨sl, hsl⟩ : ∃ sl, sl = s.data.toList := ⟨_, rfl⟩
  obtain rfl : s = bs sl := by rw [hsl]; exact bs_eq rfl
  obtain ⟨m, hm⟩ : ∃ m, m = sl.length := ⟨_, rfl⟩
  have zs : (bs sl).size = m := by rw [bs_size, hm]
  have hm63 : m ≤ 9223372036854775807 := by rw [← zs]; exact hs
  have HM := Lib.hid hm
  obtain ⟨hks, hkl, hkt⟩ := hks
  have HKS := Lib.hid hks
  have HKT := Lib.hid hkt
  clear hsl hs hks hkt hm
  by_cases hlong : 60000 < m
  · have hlong' : (60000 : Int) < (m : Int) := by omega
    go_enter Tryz.func4, Tryz.ntmps4
    go_wp2_with fail
    refine (law_awake09 w hg).mono ?_
    rintro e w1 ⟨rfl, k1⟩
    have K1 := Lib.hid k1
    clear k1
    go_wp2_with fail
    refine (law_awake09 w1 (Lib.hid (hg.out.keep K1.out hg.out.1))).mono ?_
    rintro e w2 ⟨rfl, k2⟩
    have K2 := Lib.hid (K1.out.trans (k2.mono K1.out.size))
    clear k2
    go_wp2_with fail
    go_ret
    exact ⟨rfl, K2.out⟩
  · have hshort : m ≤ 60000 := by omega
    have hshort' : ¬ ((60000 : Int) < (m : Int)) := by omega
    clear hlong
    go_enter Tryz.func4, Tryz.ntmps4
    go_wp2_with fail
    refine (law_awake09 w hg).mono ?_
    rintro e w1 ⟨rfl, k1⟩
    have K1 := Lib.hid k1
    clear k1
    by_cases hfm : foot = true ∧ 16 ≤ m
    case' pos =>
      obtain ⟨hf1, h16⟩ := hfm
      subst hf1
      have h16' : (16 : Int) ≤ (m : Int) := by omega
      obtain ⟨n, hn⟩ : ∃ n, n + 16 = m := ⟨m - 16, by omega⟩
      have hmn : (m : Int) - 16 = (n : Int) := by omega
      have hn0 : ¬ ((n : Int) < 0) := by omega
      have hnm : (n : Int) ≤ (m : Int) := by omega
      obtain ⟨q, hq⟩ : ∃ q, q + 4 = m := ⟨m - 4, by omega⟩
      have hmq : (m : Int) - 4 = (q : Int) := by omega
      have hnq : (n : Int) ≤ (q : Int) := by omega
      have hqm : (q : Int) ≤ (m : Int) := by omega
      obtain ⟨x, hx⟩ : ∃ x, x = sl.take n := ⟨_, rfl⟩
      obtain ⟨y, hy⟩ : ∃ y, y = (sl.take q).drop n := ⟨_, rfl⟩
      have hexx : (bs sl).extract 0 n = bs x := by
        rw [hx]
        exact bs_eq (by rw [Lib.extract_data]; rw [bs_list]; simp)
      have hexy : (bs sl).extract n q = bs y := by
        rw [hy]
        exact bs_eq (by rw [Lib.extract_data]; rw [bs_list]; exact List.drop_take.symm)
      have hsl := HM.out
      have hxl : x.length = n := by rw [hx, List.length_take]; omega
      have hyl : y.length = 12 := by rw [hy, List.length_drop, List.length_take]; omega
      obtain ⟨pz, hpz⟩ : ∃ pz, pz = y ++ four (sumL y) := ⟨_, rfl⟩
      have hpl : pz.length = 16 := by rw [hpz, List.length_append, four_len]; omega
      have hP : ∀ W, Calls Tryz.prog 10 #[.string (bs y)] W fun e w' => e = .returned (.string (bs pz)) ∧ Below W.heap.size W w' := fun W => by
        have h := ref_Put (bs y) W (by rw [bs_size]; omega)
        rw [bs_list, ← hpz] at h
        exact h
      have PUT := Lib.hid (fun n : Seen w1 => seen_of hP w1 n)
      obtain ⟨L, hL⟩ : ∃ L, L = x ++ pz := ⟨_, rfl⟩
      have HLM := Lib.hid (show m = L.length by rw [hL, List.length_append]; omega)
      have hcat : bs x ++ bs pz = bs L := by have h := cat_bs (bs x) pz; rw [bs_list, ← hL] at h; exact h
      have hsum : ((bs x).size : Int) + ((bs pz).size : Int) ≤ 9223372036854775807 := by rw [bs_size, bs_size]; omega
      clear hx hy hpz hP hL hn hq hsl
      go_upto_region 4 with (fail)
      refine region_seen (by kernel_rfl) (by kernel_rfl) ?_
      repeat go_big_quiet_step (first | (go_at_call 10; with_reducible exact PUT.out _))
      refine wpQuiet_nil ?_
      rintro _ ⟨m3, rfl⟩
      have K2 := Lib.hid (K1.out.trans (m3.below.mono K1.out.size))
      generalize m3.val = w2 at *
      clear hmn hn0 hnm hmq hnq hqm hexx hexy hxl hyl hpl PUT hsum zs K1 h16 h16'
      try rw [hcat]
      clear hcat
      go_upto_region 5 with (fail)
    case' neg =>
      by_cases hf1 : foot = true
      case' pos =>
        have h16 : ¬ 16 ≤ m := fun h => hfm ⟨hf1, h⟩
        clear hfm
        subst hf1
        have h16' : ¬ ((16 : Int) ≤ (m : Int)) := by omega
        go_upto_region 5 with (fail)
        obtain ⟨w2, hw2⟩ : ∃ w2, w2 = w1 := ⟨_, rfl⟩
        have K2 := Lib.hid (show Below w.heap.size w w2 by rw [hw2]; exact K1.out)
        rw [← hw2]
        obtain ⟨L, hLs⟩ : ∃ L, L = sl := ⟨_, rfl⟩
        have HLM := Lib.hid (show m = L.length by rw [hLs]; exact HM.out)
        rw [← hLs]
        clear hw2 hLs zs K1
      case' neg =>
        obtain hf2 : foot = false := Bool.eq_false_iff.2 hf1
        subst hf2
        clear hf1 hfm
        go_upto_region 5 with (fail)
        obtain ⟨w2, hw2⟩ : ∃ w2, w2 = w1 := ⟨_, rfl⟩
        have K2 := Lib.hid (show Below w.heap.size w w2 by rw [hw2]; exact K1.out)
        rw [← hw2]
        obtain ⟨L, hLs⟩ : ∃ L, L = sl := ⟨_, rfl⟩
        have HLM := Lib.hid (show m = L.length by rw [hLs]; exact HM.out)
        rw [← hLs]
        clear hw2 hLs zs K1
    all_goals
      have hL8 : L.length ≤ 100000000000 := by rw [← HLM.out]; omega
      have HLL := Lib.hid hL8
      have zL : (bs L).size = m := by rw [bs_size, ← HLM.out]
      clear hL8
      go_wp2_with fail
      refine (law_over (bs L) w2).mono ?_
      rintro e w6 ⟨rfl, hw6⟩
      have b6 : Below w2.heap.size w2 w6 := by rw [hw6]; exact (Below.refl _ _).alloc (Nat.le_refl _) _
      have K6 := Lib.hid (K2.out.trans (b6.mono K2.out.size))
      have Q6 := Lib.hid (show Keep (overK w2.heap.size L) w6 from fun q hq => by
        simp only [overK, List.mem_singleton] at hq
        subst hq
        rw [hw6]; exact heap_new w2 _)
      obtain ⟨b, hb⟩ : ∃ b, b = w2.heap.size := ⟨_, rfl⟩
      have hb6 := Lib.hid (show w2.heap.size ≤ b ∧ b < w6.heap.size from ⟨by omega, by rw [hw6, hb]; simp⟩)
      have HSrc := Lib.hid (over_src b L HLL.out)
      rw [← hb] at Q6 ⊢
      have HOp := Lib.hid (table_Open _ _ _ L w6 HSrc Q6 HLL.out)
      rw [← HLM.out] at HOp
      have ROP := Lib.hid (fun W : World => ref_OpenTab L W (by rw [← HLM.out]; omega))
      clear hw6 b6 hb
      go_wp2_with fail
      refine HOp.out.mono ?_
      rintro e w7 ⟨hcase, k7⟩
      have K7 := Lib.hid (K6.out.trans (k7.mono K6.out.size))
      have Q7 := Lib.hid (Q6.out.below k7)
      clear HOp k7 zL
      rcases hcase with ⟨hz, rfl⟩ | ⟨hz, p, hp, rfl, hT⟩
      · obtain ⟨z, hzz⟩ : ∃ z, z = (openTab L).1 := ⟨_, rfl⟩
        rw [← hzz] at hz ⊢
        have hzb : (z == 0) = false := beq_eq_false_iff_ne.2 hz
        have hni : ¬ z = 0 := hz
        have hbe : (z != 0) = true := by rw [bne, hzb]; rfl
        have HZZ := Lib.hid hzz
        have HZ := Lib.hid hz
        clear hzz hz
        go_wp2_with fail
        refine (ROP.out w7).mono ?_
        rintro e w8 ⟨hcase, k8⟩
        rcases hcase with ⟨_, rfl⟩ | ⟨h0, _⟩
        · rw [← HZZ.out]
          have K8 := Lib.hid (K7.out.trans (k8.mono K7.out.size))
          unfold noV
          clear k8
          go_wp2_with fail
          go_ret
          exact ⟨rfl, K8.out.alloc K8.out.size _⟩
        · exact absurd (HZZ.out.trans h0) HZ.out
      · obtain ⟨t, ht⟩ : ∃ t, t = (openTab L).2 := ⟨_, rfl⟩
        have hot : openTab L = (0, t) := by rw [ht, ← hz]
        have hff := open_fine hot
        have HF := Lib.hid hff.1
        have hbt : t.bytes = L := hff.2
        have HBT := Lib.hid hbt
        have HOT := Lib.hid hot
        rw [← ht] at hT
        have T7 := Lib.hid hT
        have HP := Lib.hid (show w2.heap.size ≤ p ∧ p < w7.heap.size ∧ b < p from ⟨by have := hb6.out; omega, hT.lt, by have := hb6.out; omega⟩)
        have HKp := Lib.hid (show ∀ q ∈ overK b L, q.1 ≠ p from fun q hq => by
          simp only [overK, List.mem_singleton] at hq
          subst hq
          have := HP.out
          show b ≠ p
          omega)
        have HSt := Lib.hid (show Go.Proofs.YteejldddgogbkaaGreatDoor.Src 41 #[.pointer (some ⟨b, 0, none⟩)] (overK b L) 0 t.bytes by rw [HBT.out]; exact HSrc.out)
        clear hff hot hbt ht hz hT hp
        go_wp2_with fail
        refine (ROP.out w7).mono ?_
        rintro e w8 ⟨hcase, k8⟩
        rw [HOT.out] at hcase
        rcases hcase with ⟨h0, _⟩ | ⟨_, il, ia, ic, aa, ac, sa, sc, g, cap, rfl, hP8⟩
        · exact absurd rfl h0
        · have T8 := Lib.hid (T7.out.below k8)
          have Q8 := Lib.hid (Q7.out.below k8)
          have K8 := Lib.hid (K7.out.trans (k8.mono K7.out.size))
          obtain ⟨w9, hw9⟩ : ∃ w9, w9 = w8.alloc (.cells #[.string (bs L), .slice ia il ic, .slice aa il ac, .slice sa il sc, .int .i64 (t.h : Int), .slice (some ⟨g, 0, none⟩) (8 * t.bits.length) cap, .int .i64 (t.count : Int)] 45) := ⟨_, rfl⟩
          obtain ⟨q, hq⟩ : ∃ q, q = w8.heap.size := ⟨_, rfl⟩
          have b9 : Below w8.heap.size w8 w9 := by rw [hw9]; exact (Below.refl _ _).alloc (Nat.le_refl _) _
          have C9 := Lib.hid (show C7 q 45 (.string (bs L)) (.slice ia il ic) (.slice aa il ac) (.slice sa il sc) (.int .i64 (t.h : Int)) (.slice (some ⟨g, 0, none⟩) (8 * t.bits.length) cap) (.int .i64 (t.count : Int)) w9 by rw [hw9, hq]; exact heap_new w8 _)
          have P9 := Lib.hid (show RParts w7.heap.size il t.index t.places t.bits ia aa ac sa sc g w9 from RParts.below hP8 b9)
          have T9 := Lib.hid (T8.out.below b9)
          have Q9 := Lib.hid (Q8.out.below b9)
          have K9 := Lib.hid (K8.out.trans (b9.mono K8.out.size))
          have HQQ := Lib.hid (show p < q by rw [hq]; exact T8.out.lt)
          have HW9 := Lib.hid hw9
          have HQ := Lib.hid hq
          have HP := Lib.hid (show w2.heap.size ≤ p ∧ p < w7.heap.size from ⟨HP.out.1, HP.out.2.1⟩)
          have HTH := Lib.hid (open_hash HOT.out)
          unfold mV
          clear hw9 hq b9 hP8 k8 T8 Q8 T7 Q7
          go_upto_region 7 with (fail)
          rw [← HW9.out, ← HQ.out]
          clear HW9
          go_wp2_with fail
          go_loopw [11, 12] (fun rv iv wr => ∃ (i : Nat) (nr : Int), i ≤ klen ∧ i ≤ 20 ∧ iv = .int .i64 (i : Int) ∧ rv = .int .i64 nr ∧ -((i : Int) * 70000) ≤ nr ∧ nr ≤ (i : Int) * 70000 ∧ Hid (TabM p (srcV 41 #[.pointer (some ⟨b, 0, none⟩)]) nr t wr) ∧ Hid (Only (fun k => k = p) w9 wr)) (fun rv iv wr => 20 - (intOf iv).toNat)
          case atStart => exact ⟨0, 0, Nat.zero_le _, by omega, rfl, rfl, by omega, by omega, T9, Lib.hid (Only.refl _ _)⟩
          case round =>
            obtain ⟨i, nr, hi, hi20, rfl, rfl, hn0, hn1, hTq, hOq⟩ := hrel
            have KB := Lib.hid (show Below w.heap.size w wr from K9.out.trans (hOq.out.below (B := w.heap.size) (fun k _ hk => by rw [hk]; have := HP.out; have := K2.out.size; omega) K9.out.size))
            by_cases hgo : i < klen ∧ i < 20
            · obtain ⟨hlt2, hlt20⟩ := hgo
              have hl1 : (i : Int) < (klen : Int) := by omega
              have hl2 : (i : Int) < 20 := by omega
              obtain ⟨hkn, kb, koff, hka, hkr⟩ := HKS.out
              have HKR := Lib.hid hkr
              have HKN := Lib.hid hkn
              obtain ⟨kl, hkd⟩ : ∃ kl, kl = (Ks.getD i ByteArray.empty).data.toList := ⟨_, rfl⟩
              have hkb : Ks.getD i ByteArray.empty = bs kl := bs_eq hkd.symm
              have hka : ka = some ⟨kb, koff, none⟩ := hka.resolve_left (by omega)
              subst hka
              have hk63 : kl.length ≤ 140737488351232 := by
                have hlt3 : i < Ks.length := by rw [← HKN.out]; exact hlt2
                have := HKT.out (Ks.getD i ByteArray.empty) (by rw [List.getD_eq_getElem?_getD, List.getElem?_eq_getElem hlt3]; exact List.getElem_mem hlt3)
                rw [hkb, bs_size] at this
                exact this
              have HKC := Lib.hid (show ∀ W, Below w.heap.size w W → W.cell? ⟨kb, koff + i, none⟩ = some (.string (bs kl)) from fun W hW => by
                have h := HKR.out i (by rw [← HKN.out]; exact hlt2)
                have h3 := hW.cell (p := ⟨kb, koff + i, none⟩) h.1
                rw [h3, h.2, hkb])
              have kc := HKC.out wr KB.out
              have HK63 := Lib.hid hk63
              have hbl : t.bytes.length ≤ 60000 := by rw [HBT.out, ← HLM.out]; exact hshort
              have HGet := Lib.hid (table_Get p _ _ _ t nr kl wr hTq HF HSt (Lib.hid (Q9.out.only hOq.out fun q hq => HKp.out q hq)) HKp (Lib.hid (hg.out.keep KB.out hg.out.1)) (by omega) (by omega) (by omega) (by have := HF.out.bits; omega) (Lib.hid (by omega)))
              clear hkd hkb hk63 hkr hkn
              go_wp2_with fail
              refine HGet.out.mono ?_
              rintro e w10 ⟨he10, hT10, hO10⟩
              obtain ⟨y, hy⟩ : ∃ y, y = (getT t kl).1 := ⟨_, rfl⟩
              obtain ⟨f, hf⟩ : ∃ f, f = (getT t kl).2.1 := ⟨_, rfl⟩
              obtain ⟨gz, hgz⟩ : ∃ gz, gz = (getT t kl).2.2.1 := ⟨_, rfl⟩
              obtain ⟨r, hr⟩ : ∃ r, r = (getT t kl).2.2.2 := ⟨_, rfl⟩
              have hr1 : r ≤ 1 := by rw [hr]; exact get_reads t kl
              have hget : getT t kl = (y, f, gz, r) := by rw [hy, hf, hgz, hr]
              rw [hget] at he10 hT10
              have he : e = .returned (.tuple #[.agg #[.string (bs y.key), .string (bs y.val), .bool y.gone], .bool f, .int .i64 gz]) := he10
              clear he10
              subst he
              have HGT := Lib.hid hget
              have T10 := Lib.hid (show TabM p (srcV 41 #[.pointer (some ⟨b, 0, none⟩)]) (nr + (r : Int)) t w10 from hT10)
              have O10 := Lib.hid (hOq.out.trans (hO10.mono fun j _ h => h))
              clear hT10 hO10 hy hf hgz hr hget HGet kc
              obtain ⟨w11, hw11⟩ : ∃ w11, w11 = w10.alloc (.cells #[.string (bs y.key), .string (bs y.val), .bool y.gone] 49) := ⟨_, rfl⟩
              obtain ⟨xb, hxb⟩ : ∃ xb, xb = w10.heap.size := ⟨_, rfl⟩
              have D11 := Lib.hid (show C3 xb 49 (.string (bs y.key)) (.string (bs y.val)) (.bool y.gone) w11 by rw [hw11, hxb]; exact heap_new w10 _)
              have b11 : Below w10.heap.size w10 w11 := by rw [hw11]; exact (Below.refl _ _).alloc (Nat.le_refl _) _
              have T11 := Lib.hid (T10.out.below b11)
              have O11 := Lib.hid (show Only (fun k => k = p) w9 w11 by rw [hw11]; exact O10.out.alloc _)
              have P11 := Lib.hid (P9.out.only HP.out.2 O11.out)
              have C11 := Lib.hid (show C7 q 45 _ _ _ _ _ _ _ w11 from (O11.out.block q (heap_lt C9.out) (by have := HP.out; have := HQQ.out; omega)).trans C9.out)
              have KB11 := Lib.hid (show Below w.heap.size w w11 from K9.out.trans (O11.out.below (B := w.heap.size) (fun k _ hk => by rw [hk]; have := HP.out; have := K2.out.size; omega) K9.out.size))
              have Q11 := Lib.hid (Q9.out.only O11.out fun q hq => HKp.out q hq)
              have HW11 := Lib.hid hw11
              have HXB := Lib.hid hxb
              have HXBL := Lib.hid (show xb < w11.heap.size from heap_lt D11.out)
              clear b11 hw11 hxb
              go_upto_region 16 with (fail)
              rw [← HW11.out, ← HXB.out]
              clear HW11 T10 O10
              refine wp_region_kept (fun W => Below w11.heap.size w11 W) (by kernel_rfl) ?_
              change wpAnyE _ _ _ _ _ _ _ _ _ w11.drew
              have hS : Below w11.heap.size w11 w11.drew := (Below.refl _ _).drew
              generalize w11.drew = w12 at *
              refine kept_take (i := 1) (d := 100) (v := .slice (some ⟨kb, koff, none⟩) klen kcap) rfl rfl (by kernel_rfl) (by kernel_rfl) (by kernel_rfl) (fun _ _ _ h => h) (Or.inl ⟨by rfl, ?_⟩) hS ?_
              · intro w' hw'
                go_simp
              try go_frame
              refine kept_take (i := 2) (d := 101) (v := .int .i64 (i : Int)) rfl rfl (by kernel_rfl) (by kernel_rfl) (by kernel_rfl) (fun _ _ _ h => h) (Or.inl ⟨by rfl, ?_⟩) hS ?_
              · intro w' hw'
                go_simp
              try go_frame
              refine kept_take (i := 3) (d := 102) (v := .pointer (some ⟨kb, koff + i, none⟩)) rfl rfl (by kernel_rfl) (by kernel_rfl) (by kernel_rfl) (fun _ _ _ h => h) (Or.inl ⟨by rfl, ?_⟩) hS ?_
              · intro w' hw'
                go_simp
              try go_frame
              refine kept_take (i := 4) (d := 103) (v := .string (bs kl)) rfl rfl (by kernel_rfl) (by kernel_rfl) (by kernel_rfl) (fun _ _ _ h => h) (Or.inl ⟨by rfl, ?_⟩) hS ?_
              · intro w' hw'
                have kc := HKC.out w' (KB11.out.trans (hw'.mono KB11.out.size))
                go_simp
              try go_frame
              refine kept_take (i := 0) (d := 99) (v := .agg #[.string (bs L), .slice ia il ic, .slice aa il ac, .slice sa il sc, .int .i64 (t.h : Int), .slice (some ⟨g, 0, none⟩) (8 * t.bits.length) cap, .int .i64 (t.count : Int)]) rfl rfl (by kernel_rfl) (by kernel_rfl) (by kernel_rfl) (fun _ _ _ h => h) (Or.inl ⟨by rfl, ?_⟩) hS ?_
              · intro w' hw'
                obtain ⟨z0, z1, z2, z3, z4, z5, z6⟩ := (C11.out.below hw').c0
                go_simp
              try go_frame
              refine wpAnyE_ready (rs := [5, 11]) (by kernel_rfl) (by simp) (AllE.cons rfl (fun K hK => ?_) (AllE.cons rfl (fun K hK => ?_) AllE.nil))
              · go_simp
                refine Calls.mono (ref_getT HOT.out (by rw [← HLM.out]; omega) _ kl HK63.out _ (Lib.hid (P11.out.below hS))) ?_
                rintro e w13 ⟨he13, k13⟩
                rw [HGT.out] at he13
                have he : e = .returned (.tuple #[.agg #[.string (bs y.key), .string (bs y.val), .bool y.gone], .bool f, .int .i64 gz, .int .i64 (r : Int)]) := he13
                clear he13
                subst he
                have hS2 : Below w11.heap.size w11 w13 := hS.trans (k13.mono hS.size)
                refine hK.out _ _ (fun _ => hS2) (fun _ => ?_)
                clear hK K hS
                have hS := hS2
                clear hS2
                try go_frame
                refine kept_take (i := 6) (d := 98) (v := .tuple #[.agg #[.string (bs y.key), .string (bs y.val), .bool y.gone], .bool f, .int .i64 gz, .int .i64 (r : Int)]) rfl rfl (by kernel_rfl) (by kernel_rfl) (by kernel_rfl) (fun _ _ _ h => h) (Or.inl ⟨by rfl, ?_⟩) hS ?_
                · intro w' hw'
                  go_simp
                try go_frame
                refine kept_take (i := 7) (d := 105) (v := .agg #[.string (bs y.key), .string (bs y.val), .bool y.gone]) rfl rfl (by kernel_rfl) (by kernel_rfl) (by kernel_rfl) (fun _ _ _ h => h) (Or.inl ⟨by rfl, ?_⟩) hS ?_
                · intro w' hw'
                  go_simp
                try go_frame
                refine kept_take (i := 8) (d := 106) (v := .bool f) rfl rfl (by kernel_rfl) (by kernel_rfl) (by kernel_rfl) (fun _ _ _ h => h) (Or.inl ⟨by rfl, ?_⟩) hS ?_
                · intro w' hw'
                  go_simp
                try go_frame
                refine kept_take (i := 9) (d := 107) (v := .int .i64 gz) rfl rfl (by kernel_rfl) (by kernel_rfl) (by kernel_rfl) (fun _ _ _ h => h) (Or.inl ⟨by rfl, ?_⟩) hS ?_
                · intro w' hw'
                  go_simp
                try go_frame
                refine kept_take (i := 10) (d := 108) (v := .int .i64 (r : Int)) rfl rfl (by kernel_rfl) (by kernel_rfl) (by kernel_rfl) (fun _ _ _ h => h) (Or.inl ⟨by rfl, ?_⟩) hS ?_
                · intro w' hw'
                  go_simp
                try go_frame
                refine wpAnyE_ready (rs := [11]) (by kernel_rfl) (by simp) (AllE.cons rfl (fun K hK => ?_) AllE.nil)
                go_simp
                have hS14 : Below w11.heap.size w11 (w13.alloc (.cells #[.string ⟨#[]⟩, .string ⟨#[]⟩, .bool false] 49)) := hS.alloc hS.size _
                have D14 := Lib.hid (show C3 w13.heap.size 49 (.string ⟨#[]⟩) (.string ⟨#[]⟩) (.bool false) (w13.alloc (.cells #[.string ⟨#[]⟩, .string ⟨#[]⟩, .bool false] 49)) from heap_new w13 _)
                have hyl := Lib.hid (show w11.heap.size ≤ w13.heap.size from hS.size)
                refine hK.out _ _ (fun _ => hS14) (fun _ => ?_)
                clear hK K hS
                have hS := hS14
                clear hS14
                try go_frame
                generalize w13.alloc (.cells #[.string ⟨#[]⟩, .string ⟨#[]⟩, .bool false] 49) = w14 at *
                generalize w13.heap.size = yb at *
                have z0 : w14.cell? ⟨yb, 0, none⟩ = some (.string ⟨#[]⟩) := D14.out.c0
                have z1 : w14.cell? ⟨yb, 1, none⟩ = some (.string ⟨#[]⟩) := D14.out.c1
                have z2 : w14.cell? ⟨yb, 2, none⟩ = some (.bool false) := D14.out.c2
                have zf : ∀ j, w14.frozen? ⟨yb, j, none⟩ = false := D14.out.free
                refine wpAnyE_ready (rs := [12]) (by kernel_rfl) (by simp) (AllE.cons rfl (fun K hK => ?_) AllE.nil)
                go_simp
                have hS15 : Below w11.heap.size w11 (((w14.setCell ⟨yb, 0, none⟩ (.string (bs y.key))).setCell ⟨yb, 1, none⟩ (.string (bs y.val))).setCell ⟨yb, 2, none⟩ (.bool y.gone)) := below_put3' hS hyl.out _ _ _
                have D15 := Lib.hid (show C3 yb 49 (.string (bs y.key)) (.string (bs y.val)) (.bool y.gone) (((w14.setCell ⟨yb, 0, none⟩ (.string (bs y.key))).setCell ⟨yb, 1, none⟩ (.string (bs y.val))).setCell ⟨yb, 2, none⟩ (.bool y.gone)) from D14.out.put _ _ _)
                refine hK.out _ _ (fun _ => hS15) (fun _ => ?_)
                clear hK K hS z0 z1 z2 zf
                have hS := hS15
                clear hS15
                try go_frame
                generalize ((w14.setCell ⟨yb, 0, none⟩ (.string (bs y.key))).setCell ⟨yb, 1, none⟩ (.string (bs y.val))).setCell ⟨yb, 2, none⟩ (.bool y.gone) = w15 at *
                refine kept_take (i := 13) (d := 17) (v := .bool f) rfl rfl (by kernel_rfl) (by kernel_rfl) (by kernel_rfl) (fun _ _ _ h => h) (Or.inl ⟨by rfl, ?_⟩) hS ?_
                · intro w' hw'
                  go_simp
                try go_frame
                refine kept_take (i := 14) (d := 18) (v := .int .i64 gz) rfl rfl (by kernel_rfl) (by kernel_rfl) (by kernel_rfl) (fun _ _ _ h => h) (Or.inl ⟨by rfl, ?_⟩) hS ?_
                · intro w' hw'
                  go_simp
                try go_frame
                refine kept_take (i := 15) (d := 19) (v := .int .i64 (r : Int)) rfl rfl (by kernel_rfl) (by kernel_rfl) (by kernel_rfl) (fun _ _ _ h => h) (Or.inl ⟨by rfl, ?_⟩) hS ?_
                · intro w' hw'
                  go_simp
                try go_frame
                refine wpAnyE_done (by kernel_rfl) ?_ _
                clear k13
                have KB15 := Lib.hid (KB11.out.trans (hS.mono KB11.out.size))
                have T15 := Lib.hid (T11.out.below hS)
                have Q15 := Lib.hid (Q11.out.below hS)
                have O15 := Lib.hid (O11.out.trans (Only.of_below' (S := fun k => k = p) hS rfl))
                have x0 := (D11.out.below hS).c0
                have x1 := (D11.out.below hS).c1
                have x2 := (D11.out.below hS).c2
                have y0 := D15.out.c0
                have y1 := D15.out.c1
                have y2 := D15.out.c2
                have hsame := ent_same (bs y.key) (bs y.val) y.gone
                have hff : (f == f) = true := beq_self_eq_true f
                have HRd := Lib.hid (table_Reads p _ (nr + (r : Int)) t w15 T15.out)
                go_wp2_with fail
                refine HRd.out.mono ?_
                rintro e w16 ⟨rfl, rfl⟩
                clear x0 x1 x2 y0 y1 y2 hsame HRd hS
                obtain ⟨Z, hZ⟩ : ∃ Z, Z = (scanT t kl).1 := ⟨_, rfl⟩
                obtain ⟨M, hM⟩ : ∃ M, M = (scanT t kl).2 := ⟨_, rfl⟩
                have hlM : M.length ≤ 60000 := by rw [hM]; have := scanT_len HOT.out kl; rw [← HLM.out] at this; omega
                have HSC := Lib.hid (show scanT t kl = (Z, M) by rw [hZ, hM])
                have HAll := Lib.hid (all_tab p _ _ _ t 0 (nr + (r : Int)) kl w15 T15 HF HSt Q15 HKp (by omega) (by omega) (by omega) (by rw [scanU_zero, HSC.out]; show M.length < 100000; omega))
                rw [scanU_zero, HSC.out] at HAll
                have kc := HKC.out w15 KB15.out
                clear hZ hM
                go_wp2_with fail
                refine HAll.out.mono ?_
                rintro e w17 ⟨⟨a17, c17, rfl, hE17⟩, hTS, hO17⟩
                obtain ⟨n17, g1, g2, g3⟩ := hTS.ex
                have hbd : -(((i : Int) + 1) * 70000) ≤ n17 ∧ n17 ≤ ((i : Int) + 1) * 70000 := by
                  have h1 := firstB_le t kl
                  have h2 := HF.out.few
                  unfold readLo at g1
                  unfold readHi at g2
                  split at g1
                  · rename_i h; rw [if_pos h] at g2; omega
                  · rename_i h; rw [if_neg h] at g2; omega
                have E17 := Lib.hid (show IsE w17 a17 M.length M from hE17)
                have T17 := Lib.hid (show TabM p (srcV 41 #[.pointer (some ⟨b, 0, none⟩)]) n17 t w17 from g3)
                have O17 := Lib.hid (O15.out.trans (hO17.mono fun j _ h => h))
                have P17 := Lib.hid (P9.out.only HP.out.2 O17.out)
                have C17 := Lib.hid (show C7 q 45 _ _ _ _ _ _ _ w17 from (O17.out.block q (heap_lt C9.out) (by have := HP.out; have := HQQ.out; omega)).trans C9.out)
                have KB17 := Lib.hid (show Below w.heap.size w w17 from K9.out.trans (O17.out.below (B := w.heap.size) (fun k _ hk => by rw [hk]; have := HP.out; have := K2.out.size; omega) K9.out.size))
                obtain ⟨hb1, hb2⟩ := hbd
                clear hE17 hTS hO17 g1 g2 g3 HAll kc
                go_upto_region 21 with (fail)
                refine wp_region_kept (fun W => Below w17.heap.size w17 W) (by kernel_rfl) ?_
                change wpAnyE _ _ _ _ _ _ _ _ _ w17.drew
                have hS : Below w17.heap.size w17 w17.drew := (Below.refl _ _).drew
                generalize w17.drew = w18 at *
                refine kept_take (i := 1) (d := 142) (v := .slice (some ⟨kb, koff, none⟩) klen kcap) rfl rfl (by kernel_rfl) (by kernel_rfl) (by kernel_rfl) (fun _ _ _ h => h) (Or.inl ⟨by rfl, ?_⟩) hS ?_
                · intro w' hw'
                  go_simp
                try go_frame
                refine kept_take (i := 2) (d := 143) (v := .int .i64 (i : Int)) rfl rfl (by kernel_rfl) (by kernel_rfl) (by kernel_rfl) (fun _ _ _ h => h) (Or.inl ⟨by rfl, ?_⟩) hS ?_
                · intro w' hw'
                  go_simp
                try go_frame
                refine kept_take (i := 3) (d := 144) (v := .pointer (some ⟨kb, koff + i, none⟩)) rfl rfl (by kernel_rfl) (by kernel_rfl) (by kernel_rfl) (fun _ _ _ h => h) (Or.inl ⟨by rfl, ?_⟩) hS ?_
                · intro w' hw'
                  go_simp
                try go_frame
                refine kept_take (i := 4) (d := 145) (v := .string (bs kl)) rfl rfl (by kernel_rfl) (by kernel_rfl) (by kernel_rfl) (fun _ _ _ h => h) (Or.inl ⟨by rfl, ?_⟩) hS ?_
                · intro w' hw'
                  have kc := HKC.out w' (KB17.out.trans (hw'.mono KB17.out.size))
                  go_simp
                try go_frame
                refine kept_take (i := 0) (d := 141) (v := .agg #[.string (bs L), .slice ia il ic, .slice aa il ac, .slice sa il sc, .int .i64 (t.h : Int), .slice (some ⟨g, 0, none⟩) (8 * t.bits.length) cap, .int .i64 (t.count : Int)]) rfl rfl (by kernel_rfl) (by kernel_rfl) (by kernel_rfl) (fun _ _ _ h => h) (Or.inl ⟨by rfl, ?_⟩) hS ?_
                · intro w' hw'
                  obtain ⟨z0, z1, z2, z3, z4, z5, z6⟩ := (C17.out.below hw').c0
                  go_simp
                try go_frame
                refine wpAnyE_ready (rs := [5]) (by kernel_rfl) (by simp) (AllE.cons rfl (fun K hK => ?_) AllE.nil)
                go_simp
                have HRS := ref_scanT (cap := cap) (ic := ic) HOT.out (by rw [← HLM.out]; omega) (t.count : Int) kl w18 (Lib.hid (P17.out.below hS))
                rw [HSC.out] at HRS
                refine Calls.mono HRS ?_
                rintro e w19 ⟨⟨a19, c19, rfl, hc19, hE19⟩, k19, _⟩
                have hS2 : Below w17.heap.size w17 w19 := hS.trans (k19.mono hS.size)
                refine hK.out _ _ (fun _ => hS2) (fun _ => ?_)
                clear hK K hS k19 HRS
                have hS := hS2
                clear hS2
                have E19 := Lib.hid (show IsE w19 a19 M.length M from hE19)
                clear hE19 hc19
                try go_frame
                refine kept_take (i := 6) (d := 140) (v := .tuple #[.slice a19 M.length c19, .int .i64 Z]) rfl rfl (by kernel_rfl) (by kernel_rfl) (by kernel_rfl) (fun _ _ _ h => h) (Or.inl ⟨by rfl, ?_⟩) hS ?_
                · intro w' hw'
                  go_simp
                try go_frame
                refine kept_take (i := 7) (d := 147) (v := .slice a19 M.length c19) rfl rfl (by kernel_rfl) (by kernel_rfl) (by kernel_rfl) (fun _ _ _ h => h) (Or.inl ⟨by rfl, ?_⟩) hS ?_
                · intro w' hw'
                  go_simp
                try go_frame
                refine kept_take (i := 8) (d := 148) (v := .int .i64 Z) rfl rfl (by kernel_rfl) (by kernel_rfl) (by kernel_rfl) (fun _ _ _ h => h) (Or.inl ⟨by rfl, ?_⟩) hS ?_
                · intro w' hw'
                  go_simp
                try go_frame
                refine kept_take (i := 9) (d := 22) (v := .slice a19 M.length c19) rfl rfl (by kernel_rfl) (by kernel_rfl) (by kernel_rfl) (fun _ _ _ h => h) (Or.inl ⟨by rfl, ?_⟩) hS ?_
                · intro w' hw'
                  go_simp
                try go_frame
                refine kept_take (i := 10) (d := 23) (v := .int .i64 Z) rfl rfl (by kernel_rfl) (by kernel_rfl) (by kernel_rfl) (fun _ _ _ h => h) (Or.inl ⟨by rfl, ?_⟩) hS ?_
                · intro w' hw'
                  go_simp
                try go_frame
                refine wpAnyE_done (by kernel_rfl) ?_ _
                have E17b := Lib.hid (E17.out.below hS)
                have T19 := Lib.hid (T17.out.below hS)
                have O19 := Lib.hid (O17.out.trans (Only.of_below' (S := fun k => k = p) hS rfl))
                have HRd := Lib.hid (table_Reads p _ n17 t w19 T19.out)
                have hzz : (Z == Z) = true := beq_self_eq_true Z
                clear hS
                go_wp2_with fail
                refine HRd.out.mono ?_
                rintro e w20 ⟨rfl, rfl⟩
                go_wp2_with fail
                refine (ref_Same a17 a19 M.length c17 c19 M w19 E17b E19 (by omega)).mono ?_
                rintro e w20 ⟨rfl, k20⟩
                have T20 := Lib.hid (T19.out.below k20)
                have O20 := Lib.hid (O19.out.trans (Only.of_below' (S := fun k => k = p) k20 rfl))
                clear k20 HRd
                go_wp2_with fail
                go_roundw
                case rel => exact ⟨i + 1, n17, by omega, by omega, by go_num, rfl, by omega, by omega, T20, O20⟩
                case measure => simp [intOf]; omega
              · go_simp
                have hS14 : Below w11.heap.size w11 (w12.alloc (.cells #[.string ⟨#[]⟩, .string ⟨#[]⟩, .bool false] 49)) := hS.alloc hS.size _
                have D14 := Lib.hid (show C3 w12.heap.size 49 (.string ⟨#[]⟩) (.string ⟨#[]⟩) (.bool false) (w12.alloc (.cells #[.string ⟨#[]⟩, .string ⟨#[]⟩, .bool false] 49)) from heap_new w12 _)
                have hyl := Lib.hid (show w11.heap.size ≤ w12.heap.size from hS.size)
                refine hK.out _ _ (fun _ => hS14) (fun _ => ?_)
                clear hK K hS
                have hS := hS14
                clear hS14
                try go_frame
                generalize w12.alloc (.cells #[.string ⟨#[]⟩, .string ⟨#[]⟩, .bool false] 49) = w14 at *
                generalize w12.heap.size = yb at *
                refine wpAnyE_ready (rs := [5]) (by kernel_rfl) (by simp) (AllE.cons rfl (fun K hK => ?_) AllE.nil)
                go_simp
                refine Calls.mono (ref_getT HOT.out (by rw [← HLM.out]; omega) _ kl HK63.out _ (Lib.hid (P11.out.below hS))) ?_
                rintro e w13 ⟨he13, k13⟩
                rw [HGT.out] at he13
                have he : e = .returned (.tuple #[.agg #[.string (bs y.key), .string (bs y.val), .bool y.gone], .bool f, .int .i64 gz, .int .i64 (r : Int)]) := he13
                clear he13
                subst he
                have hS2 : Below w11.heap.size w11 w13 := hS.trans (k13.mono hS.size)
                refine hK.out _ _ (fun _ => hS2) (fun _ => ?_)
                clear hK K hS
                have hS := hS2
                clear hS2
                try go_frame
                have D13 := Lib.hid (D14.out.below k13)
                refine kept_take (i := 6) (d := 98) (v := .tuple #[.agg #[.string (bs y.key), .string (bs y.val), .bool y.gone], .bool f, .int .i64 gz, .int .i64 (r : Int)]) rfl rfl (by kernel_rfl) (by kernel_rfl) (by kernel_rfl) (fun _ _ _ h => h) (Or.inl ⟨by rfl, ?_⟩) hS ?_
                · intro w' hw'
                  go_simp
                try go_frame
                refine kept_take (i := 7) (d := 105) (v := .agg #[.string (bs y.key), .string (bs y.val), .bool y.gone]) rfl rfl (by kernel_rfl) (by kernel_rfl) (by kernel_rfl) (fun _ _ _ h => h) (Or.inl ⟨by rfl, ?_⟩) hS ?_
                · intro w' hw'
                  go_simp
                try go_frame
                refine kept_take (i := 8) (d := 106) (v := .bool f) rfl rfl (by kernel_rfl) (by kernel_rfl) (by kernel_rfl) (fun _ _ _ h => h) (Or.inl ⟨by rfl, ?_⟩) hS ?_
                · intro w' hw'
                  go_simp
                try go_frame
                refine kept_take (i := 9) (d := 107) (v := .int .i64 gz) rfl rfl (by kernel_rfl) (by kernel_rfl) (by kernel_rfl) (fun _ _ _ h => h) (Or.inl ⟨by rfl, ?_⟩) hS ?_
                · intro w' hw'
                  go_simp
                try go_frame
                refine kept_take (i := 10) (d := 108) (v := .int .i64 (r : Int)) rfl rfl (by kernel_rfl) (by kernel_rfl) (by kernel_rfl) (fun _ _ _ h => h) (Or.inl ⟨by rfl, ?_⟩) hS ?_
                · intro w' hw'
                  go_simp
                try go_frame
                have z0 : w13.cell? ⟨yb, 0, none⟩ = some (.string ⟨#[]⟩) := D13.out.c0
                have z1 : w13.cell? ⟨yb, 1, none⟩ = some (.string ⟨#[]⟩) := D13.out.c1
                have z2 : w13.cell? ⟨yb, 2, none⟩ = some (.bool false) := D13.out.c2
                have zf : ∀ j, w13.frozen? ⟨yb, j, none⟩ = false := D13.out.free
                refine wpAnyE_ready (rs := [12]) (by kernel_rfl) (by simp) (AllE.cons rfl (fun K hK => ?_) AllE.nil)
                go_simp
                have hS15 : Below w11.heap.size w11 (((w13.setCell ⟨yb, 0, none⟩ (.string (bs y.key))).setCell ⟨yb, 1, none⟩ (.string (bs y.val))).setCell ⟨yb, 2, none⟩ (.bool y.gone)) := below_put3' hS hyl.out _ _ _
                have D15 := Lib.hid (show C3 yb 49 (.string (bs y.key)) (.string (bs y.val)) (.bool y.gone) (((w13.setCell ⟨yb, 0, none⟩ (.string (bs y.key))).setCell ⟨yb, 1, none⟩ (.string (bs y.val))).setCell ⟨yb, 2, none⟩ (.bool y.gone)) from D13.out.put _ _ _)
                refine hK.out _ _ (fun _ => hS15) (fun _ => ?_)
                clear hK K hS z0 z1 z2 zf
                have hS := hS15
                clear hS15
                try go_frame
                generalize ((w13.setCell ⟨yb, 0, none⟩ (.string (bs y.key))).setCell ⟨yb, 1, none⟩ (.string (bs y.val))).setCell ⟨yb, 2, none⟩ (.bool y.gone) = w15 at *
                refine kept_take (i := 13) (d := 17) (v := .bool f) rfl rfl (by kernel_rfl) (by kernel_rfl) (by kernel_rfl) (fun _ _ _ h => h) (Or.inl ⟨by rfl, ?_⟩) hS ?_
                · intro w' hw'
                  go_simp
                try go_frame
                refine kept_take (i := 14) (d := 18) (v := .int .i64 gz) rfl rfl (by kernel_rfl) (by kernel_rfl) (by kernel_rfl) (fun _ _ _ h => h) (Or.inl ⟨by rfl, ?_⟩) hS ?_
                · intro w' hw'
                  go_simp
                try go_frame
                refine kept_take (i := 15) (d := 19) (v := .int .i64 (r : Int)) rfl rfl (by kernel_rfl) (by kernel_rfl) (by kernel_rfl) (fun _ _ _ h => h) (Or.inl ⟨by rfl, ?_⟩) hS ?_
                · intro w' hw'
                  go_simp
                try go_frame
                refine wpAnyE_done (by kernel_rfl) ?_ _
                clear k13
                have KB15 := Lib.hid (KB11.out.trans (hS.mono KB11.out.size))
                have T15 := Lib.hid (T11.out.below hS)
                have Q15 := Lib.hid (Q11.out.below hS)
                have O15 := Lib.hid (O11.out.trans (Only.of_below' (S := fun k => k = p) hS rfl))
                have x0 := (D11.out.below hS).c0
                have x1 := (D11.out.below hS).c1
                have x2 := (D11.out.below hS).c2
                have y0 := D15.out.c0
                have y1 := D15.out.c1
                have y2 := D15.out.c2
                have hsame := ent_same (bs y.key) (bs y.val) y.gone
                have hff : (f == f) = true := beq_self_eq_true f
                have HRd := Lib.hid (table_Reads p _ (nr + (r : Int)) t w15 T15.out)
                go_wp2_with fail
                refine HRd.out.mono ?_
                rintro e w16 ⟨rfl, rfl⟩
                clear x0 x1 x2 y0 y1 y2 hsame HRd hS
                obtain ⟨Z, hZ⟩ : ∃ Z, Z = (scanT t kl).1 := ⟨_, rfl⟩
                obtain ⟨M, hM⟩ : ∃ M, M = (scanT t kl).2 := ⟨_, rfl⟩
                have hlM : M.length ≤ 60000 := by rw [hM]; have := scanT_len HOT.out kl; rw [← HLM.out] at this; omega
                have HSC := Lib.hid (show scanT t kl = (Z, M) by rw [hZ, hM])
                have HAll := Lib.hid (all_tab p _ _ _ t 0 (nr + (r : Int)) kl w15 T15 HF HSt Q15 HKp (by omega) (by omega) (by omega) (by rw [scanU_zero, HSC.out]; show M.length < 100000; omega))
                rw [scanU_zero, HSC.out] at HAll
                have kc := HKC.out w15 KB15.out
                clear hZ hM
                go_wp2_with fail
                refine HAll.out.mono ?_
                rintro e w17 ⟨⟨a17, c17, rfl, hE17⟩, hTS, hO17⟩
                obtain ⟨n17, g1, g2, g3⟩ := hTS.ex
                have hbd : -(((i : Int) + 1) * 70000) ≤ n17 ∧ n17 ≤ ((i : Int) + 1) * 70000 := by
                  have h1 := firstB_le t kl
                  have h2 := HF.out.few
                  unfold readLo at g1
                  unfold readHi at g2
                  split at g1
                  · rename_i h; rw [if_pos h] at g2; omega
                  · rename_i h; rw [if_neg h] at g2; omega
                have E17 := Lib.hid (show IsE w17 a17 M.length M from hE17)
                have T17 := Lib.hid (show TabM p (srcV 41 #[.pointer (some ⟨b, 0, none⟩)]) n17 t w17 from g3)
                have O17 := Lib.hid (O15.out.trans (hO17.mono fun j _ h => h))
                have P17 := Lib.hid (P9.out.only HP.out.2 O17.out)
                have C17 := Lib.hid (show C7 q 45 _ _ _ _ _ _ _ w17 from (O17.out.block q (heap_lt C9.out) (by have := HP.out; have := HQQ.out; omega)).trans C9.out)
                have KB17 := Lib.hid (show Below w.heap.size w w17 from K9.out.trans (O17.out.below (B := w.heap.size) (fun k _ hk => by rw [hk]; have := HP.out; have := K2.out.size; omega) K9.out.size))
                obtain ⟨hb1, hb2⟩ := hbd
                clear hE17 hTS hO17 g1 g2 g3 HAll kc
                go_upto_region 21 with (fail)
                refine wp_region_kept (fun W => Below w17.heap.size w17 W) (by kernel_rfl) ?_
                change wpAnyE _ _ _ _ _ _ _ _ _ w17.drew
                have hS : Below w17.heap.size w17 w17.drew := (Below.refl _ _).drew
                generalize w17.drew = w18 at *
                refine kept_take (i := 1) (d := 142) (v := .slice (some ⟨kb, koff, none⟩) klen kcap) rfl rfl (by kernel_rfl) (by kernel_rfl) (by kernel_rfl) (fun _ _ _ h => h) (Or.inl ⟨by rfl, ?_⟩) hS ?_
                · intro w' hw'
                  go_simp
                try go_frame
                refine kept_take (i := 2) (d := 143) (v := .int .i64 (i : Int)) rfl rfl (by kernel_rfl) (by kernel_rfl) (by kernel_rfl) (fun _ _ _ h => h) (Or.inl ⟨by rfl, ?_⟩) hS ?_
                · intro w' hw'
                  go_simp
                try go_frame
                refine kept_take (i := 3) (d := 144) (v := .pointer (some ⟨kb, koff + i, none⟩)) rfl rfl (by kernel_rfl) (by kernel_rfl) (by kernel_rfl) (fun _ _ _ h => h) (Or.inl ⟨by rfl, ?_⟩) hS ?_
                · intro w' hw'
                  go_simp
                try go_frame
                refine kept_take (i := 4) (d := 145) (v := .string (bs kl)) rfl rfl (by kernel_rfl) (by kernel_rfl) (by kernel_rfl) (fun _ _ _ h => h) (Or.inl ⟨by rfl, ?_⟩) hS ?_
                · intro w' hw'
                  have kc := HKC.out w' (KB17.out.trans (hw'.mono KB17.out.size))
                  go_simp
                try go_frame
                refine kept_take (i := 0) (d := 141) (v := .agg #[.string (bs L), .slice ia il ic, .slice aa il ac, .slice sa il sc, .int .i64 (t.h : Int), .slice (some ⟨g, 0, none⟩) (8 * t.bits.length) cap, .int .i64 (t.count : Int)]) rfl rfl (by kernel_rfl) (by kernel_rfl) (by kernel_rfl) (fun _ _ _ h => h) (Or.inl ⟨by rfl, ?_⟩) hS ?_
                · intro w' hw'
                  obtain ⟨z0, z1, z2, z3, z4, z5, z6⟩ := (C17.out.below hw').c0
                  go_simp
                try go_frame
                refine wpAnyE_ready (rs := [5]) (by kernel_rfl) (by simp) (AllE.cons rfl (fun K hK => ?_) AllE.nil)
                go_simp
                have HRS := ref_scanT (cap := cap) (ic := ic) HOT.out (by rw [← HLM.out]; omega) (t.count : Int) kl w18 (Lib.hid (P17.out.below hS))
                rw [HSC.out] at HRS
                refine Calls.mono HRS ?_
                rintro e w19 ⟨⟨a19, c19, rfl, hc19, hE19⟩, k19, _⟩
                have hS2 : Below w17.heap.size w17 w19 := hS.trans (k19.mono hS.size)
                refine hK.out _ _ (fun _ => hS2) (fun _ => ?_)
                clear hK K hS k19 HRS
                have hS := hS2
                clear hS2
                have E19 := Lib.hid (show IsE w19 a19 M.length M from hE19)
                clear hE19 hc19
                try go_frame
                refine kept_take (i := 6) (d := 140) (v := .tuple #[.slice a19 M.length c19, .int .i64 Z]) rfl rfl (by kernel_rfl) (by kernel_rfl) (by kernel_rfl) (fun _ _ _ h => h) (Or.inl ⟨by rfl, ?_⟩) hS ?_
                · intro w' hw'
                  go_simp
                try go_frame
                refine kept_take (i := 7) (d := 147) (v := .slice a19 M.length c19) rfl rfl (by kernel_rfl) (by kernel_rfl) (by kernel_rfl) (fun _ _ _ h => h) (Or.inl ⟨by rfl, ?_⟩) hS ?_
                · intro w' hw'
                  go_simp
                try go_frame
                refine kept_take (i := 8) (d := 148) (v := .int .i64 Z) rfl rfl (by kernel_rfl) (by kernel_rfl) (by kernel_rfl) (fun _ _ _ h => h) (Or.inl ⟨by rfl, ?_⟩) hS ?_
                · intro w' hw'
                  go_simp
                try go_frame
                refine kept_take (i := 9) (d := 22) (v := .slice a19 M.length c19) rfl rfl (by kernel_rfl) (by kernel_rfl) (by kernel_rfl) (fun _ _ _ h => h) (Or.inl ⟨by rfl, ?_⟩) hS ?_
                · intro w' hw'
                  go_simp
                try go_frame
                refine kept_take (i := 10) (d := 23) (v := .int .i64 Z) rfl rfl (by kernel_rfl) (by kernel_rfl) (by kernel_rfl) (fun _ _ _ h => h) (Or.inl ⟨by rfl, ?_⟩) hS ?_
                · intro w' hw'
                  go_simp
                try go_frame
                refine wpAnyE_done (by kernel_rfl) ?_ _
                have E17b := Lib.hid (E17.out.below hS)
                have T19 := Lib.hid (T17.out.below hS)
                have O19 := Lib.hid (O17.out.trans (Only.of_below' (S := fun k => k = p) hS rfl))
                have HRd := Lib.hid (table_Reads p _ n17 t w19 T19.out)
                have hzz : (Z == Z) = true := beq_self_eq_true Z
                clear hS
                go_wp2_with fail
                refine HRd.out.mono ?_
                rintro e w20 ⟨rfl, rfl⟩
                go_wp2_with fail
                refine (ref_Same a17 a19 M.length c17 c19 M w19 E17b E19 (by omega)).mono ?_
                rintro e w20 ⟨rfl, k20⟩
                have T20 := Lib.hid (T19.out.below k20)
                have O20 := Lib.hid (O19.out.trans (Only.of_below' (S := fun k => k = p) k20 rfl))
                clear k20 HRd
                go_wp2_with fail
                go_roundw
                case rel => exact ⟨i + 1, n17, by omega, by omega, by go_num, rfl, by omega, by omega, T20, O20⟩
                case measure => simp [intOf]; omega
            · have CR := Lib.hid (show C7 q 45 _ _ _ _ _ _ _ wr from (hOq.out.block q (heap_lt C9.out) (by have := HP.out; have := HQQ.out; omega)).trans C9.out)
              have HCm := Lib.hid (fun m : Seen wr => (table_Count p _ nr t m.val (hTq.out.below m.below)).mono (R' := fun e w' => e = .returned (.int .i64 (t.count : Int)) ∧ ∃ q : Seen wr, w' = q.val) fun e w' h => ⟨h.1, ⟨m, h.2.symm⟩⟩)
              have n6 : ∀ m : Seen wr, m.val.cell? ⟨q, 6, none⟩ = some (.int .i64 (t.count : Int)) := fun m => by obtain ⟨z0, z1, z2, z3, z4, z5, z6⟩ := (CR.out.below m.below).c0; exact z6
              have hcc : ((t.count : Int) == (t.count : Int)) = true := beq_self_eq_true _
              have hfin : (i : Int) < (klen : Int) ∧ ¬ (i : Int) < 20 ∨ ¬ (i : Int) < (klen : Int) := by omega
              clear hgo
              rcases hfin with ⟨h1, h2⟩ | h1
              · go_upto_region 25 with (fail)
                refine region_seen (by kernel_rfl) (by kernel_rfl) ?_
                repeat go_big_quiet_step (first | (go_at_call 19; with_reducible exact HCm.out _))
                refine wpQuiet_nil ?_
                rintro _ ⟨m1, rfl⟩
                have KM := Lib.hid (KB.out.trans (m1.below.mono KB.out.size))
                clear n6
                go_wp2_with fail
                go_ret
                exact ⟨rfl, KM.out⟩
              · go_upto_region 25 with (fail)
                refine region_seen (by kernel_rfl) (by kernel_rfl) ?_
                repeat go_big_quiet_step (first | (go_at_call 19; with_reducible exact HCm.out _))
                refine wpQuiet_nil ?_
                rintro _ ⟨m1, rfl⟩
                have KM := Lib.hid (KB.out.trans (m1.below.mono KB.out.size))
                clear n6
                go_wp2_with fail
                go_ret
                exact ⟨rfl, KM.out⟩
end Go.Proofs.YteejldddgogbkaaGreatDoor
