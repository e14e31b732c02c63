/- WalCut, walked: of frames that are cut off anywhere the whole ones are told, and no more; with a bit turned, those ahead of it. -/
import Derived.Test.YtkelcmncjhnbgaaWalNum
set_option linter.unusedVariables false
set_option maxRecDepth 100000
namespace Go.Proofs.Ytkelcmncjhnbgaa
open Go.RowKit

theorem TxV.form {w : World} {v : Value} {T : List (List UInt8)} (h : TxV w v T) {n : Nat} (hn : T.length = n) : ∃ a cap, v = .slice a n cap := by
  obtain ⟨a, cap, rfl, _⟩ := h
  exact ⟨a, cap, by rw [hn]⟩
theorem turn_bit (bit : Int) (h : 0 ≤ bit ∧ bit ≤ 255) : ∃ bn : Nat, (2 : Int) ^ (bit % 8).toNat % 256 = (bn : Int) ∧ bn < 256 := ⟨((2 : Int) ^ (bit % 8).toNat % 256).toNat, by omega, by omega⟩
theorem seen_Same {W : World} {va vb : Value} {T : List (List UInt8)} (ha : TxV W va T) (hb : TxV W vb T) (hl : T.length ≤ 1000000000) (n : Seen W) : Calls Try.prog 15 #[va, vb] n.val fun e w'' => e = .returned (.bool true) ∧ ∃ m : Seen W, w'' = m.val :=
  (ref_Same (ha.below n.below) (hb.below n.below) hl).mono fun _ w'' ⟨h1, h2⟩ => ⟨h1, ⟨⟨w'', n.below.trans (h2.mono n.below.size)⟩, rfl⟩⟩
set_option maxHeartbeats 8000000 in
theorem cut_walk {a : Option Addr} {len cap : Nat} {T : List (List UInt8)} {w : World} (h : Hid (TxV w (.slice a len cap) T)) (hbig : len ≤ 9223372036854775807) (hroom : len ≤ cap) (hs : Hid (∀ t ∈ T, t.length ≤ 9223372036854775807)) (at_ bit : Int) (hat : -9223372036854775808 ≤ at_ ∧ at_ ≤ 9223372036854775807) (hbit : 0 ≤ bit ∧ bit ≤ 255) :
    Calls Try.prog 4 #[.slice a len cap, .int .i64 at_, .int .u8 bit] w fun e w' => e = .returned (.bool true) ∧ Below w.heap.size w w' := by
  obtain ⟨i0, hi, hz0, hz1, hz2⟩ := info_parts infoInt
  have HI := Lib.hid (And.intro hi (And.intro hz0 (And.intro hz1 hz2)))
  clear hi hz0 hz1 hz2
  go_enter Try.func4, Try.ntmps4
  go_wp2_with fail
  refine (law_awake w).mono ?_
  rintro e w1 ⟨rfl, k1⟩
  have K1 := Lib.hid k1
  clear k1
  go_wp2_with fail
  refine (law_few (Lib.hid (h.out.below K1.out)) hbig hs).mono ?_
  rintro e w2 ⟨b, rfl, hb, rfl⟩
  have HB := Lib.hid hb
  clear hb
  cases b with
  | false =>
    go_wp2_with fail
    refine (law_awake w1).mono ?_
    rintro e w3 ⟨rfl, k3⟩
    go_wp2
    go_ret
    exact ⟨rfl, K1.out.trans (k3.mono K1.out.size)⟩
  | true =>
    have HF := Lib.hid (HB.out rfl)
    have HL := Lib.hid h.out.len
    have hlen : len ≤ 200 := by rw [HL.out]; exact HF.out.len
    clear HB
    go_wp2_with fail
    go_loopw [7, 8, 9] (fun av ev iv wr => ∃ i : Nat, i ≤ len ∧ iv = .int .i64 (i : Int) ∧ av = .string (bs (framesL (T.take i))) ∧ Hid (Below w.heap.size w wr ∧ OwnN wr w.heap.size ev (endsN T i))) (fun av ev iv wr => len - (intOf iv).toNat)
    case atStart => exact ⟨0, Nat.zero_le _, rfl, rfl, Lib.hid ⟨K1.out, OffRow.nil _ _ _ _⟩⟩
    case round =>
      clear K1
      obtain ⟨i, hi, rfl, rfl, hK⟩ := hrel
      obtain ⟨a1, cap1, hev⟩ := OffRow.slice hK.out.2
      rw [endsN_len] at hev
      subst hev
      rcases Nat.lt_or_ge i len with hlt | hge
      · obtain ⟨t, ht⟩ : ∃ t, T[i]? = some t := ⟨_, List.getElem?_eq_getElem (by have := HL.out; omega)⟩
        obtain ⟨b, off, rfl, hbl, hc⟩ := (h.out.below hK.out.1).at ht
        have hlt2 : (i : Int) < (len : Int) := by omega
        have htl : t.length ≤ 1000000000 := by have := HF.out.mem (List.mem_of_getElem? ht); omega
        obtain ⟨F, hF⟩ : ∃ F, F = framesL (T.take (i + 1)) := ⟨_, rfl⟩
        have hcat : bs (framesL (T.take i)) ++ bs (frameL t) = bs F := by rw [hF, frames_snoc ht, bs_cat, bs_list]
        obtain ⟨m, hm⟩ : ∃ m, m = (framesL (T.take (i + 1))).length := ⟨_, rfl⟩
        have hsz3 : (bs F).size = m := by rw [bs_size, hF, hm]
        have hm2 : m ≤ 33000 := by have := frames_take T (i + 1); have := HF.out.frames; omega
        have HM := Lib.hid hm
        have HFF := Lib.hid hF
        have hsz2 : ((bs (framesL (T.take i))).size : Int) + ((bs (frameL t)).size : Int) ≤ 9223372036854775807 := by
          have := frames_take T i
          have := frameL_le (r := t) (by omega)
          have := HF.out.frames
          rw [bs_size, bs_size]
          omega
        clear ht hm hF
        go_wp2_with fail
        refine (wal_Frame t wr htl).mono ?_
        rintro e w3 ⟨rfl, k3⟩
        have K3 := Lib.hid (hK.out.1.trans (k3.mono hK.out.1.size))
        have O3 := Lib.hid (show OffRow w3 w.heap.size 3 1 (.slice a1 i cap1) i (ncells (endsN T i)) from by have := OffRow.kept hK.out.2 fun j hj => k3.block j (OffRow.lt hK.out.2 j hj).2; rw [endsN_len] at this; exact this)
        clear k3
        obtain ⟨hi, hz0, hz1, hz2⟩ := HI.out
        go_wp2_with (at_builtin; refine wpList_append_off rfl (.tmp 36) (.tmp 39) 31 rfl w.heap.size 3 i0 _ 1 8 Try.underlying31 hi hz0 hz1 hz2 rfl (.slice a1 i cap1) i (ncells (endsN T i)) rfl ?c1 (.slice (some ⟨w3.heap.size, 0, none⟩) 1 1) rfl 1 [.int .i64 (m : Int)] ?c2 ?c3 ?c4 ?c5 ?_)
        case c1 => exact O3.out.allocd _
        case c2 => exact src_block (size := 1) (cs := #[.int .i64 (m : Int)]) Try.underlying31 (heap_new _ _) 1 1 rfl (by intro u hu; simp at hu; subst hu; rfl)
        case c3 => unfold maxLen; omega
        case c4 => omega
        case c5 => have := K3.out.size; simp; omega
        intro v7 w7 hr7 hg7 hat7
        have O7 := Lib.hid (show OwnN w7 w.heap.size v7 (endsN T (i + 1)) from by unfold OwnN; rw [endsN_len, endsN_snoc, ncells_snoc, ← HM.out]; exact hr7)
        have K7 := Lib.hid ((K3.out.alloc K3.out.size _).grown hg7 (by have := K3.out.size; simp; omega) (fun j hj => ((O3.out.allocd (.cells #[.int .i64 (m : Int)] 3)).lt j hj).1))
        clear hr7 hg7 hat7 hi hz0 hz1 hz2
        go_wp2_with fail
        go_roundw
        case rel => exact ⟨i + 1, by omega, by go_num, by rw [HFF.out], Lib.hid ⟨K7.out, O7.out⟩⟩
        case measure => simp [intOf]; omega
      · obtain rfl : i = len := by omega
        have HE := Lib.hid (show T.take i = T by rw [HL.out]; exact List.take_length)
        rw [HE.out]
        have KB := Lib.hid hK.out.1
        have NB := Lib.hid (OwnN.ns hK.out.2)
        obtain ⟨n, hn⟩ : ∃ n, n = (framesL T).length := ⟨_, rfl⟩
        obtain ⟨A, hA⟩ : ∃ A, A = framesL T := ⟨_, rfl⟩
        have hn2 : n ≤ 33000 := by have := HF.out.frames; omega
        have hAz : (bs A).size = n := by rw [bs_size, hA, hn]
        have hAl : A.length = n := by rw [hA, hn]
        have HN := Lib.hid hn
        have HA := Lib.hid hA
        rw [← hA]
        clear hn hA hK hge hi
        obtain ⟨u, hu⟩ : ∃ u : Int, IntKind.u64.wrap at_ = u := ⟨_, rfl⟩
        have hu1 : 0 ≤ u ∧ u ≤ 18446744073709551615 := by rw [← hu]; simp [IntKind.wrap, IntKind.signed, IntKind.bits]; omega
        obtain ⟨k, hk⟩ : ∃ k : Nat, u % ((n : Int) + 1) = (k : Int) := ⟨(u % ((n : Int) + 1)).toNat, by have := Int.emod_nonneg u (b := (n : Int) + 1) (by omega); omega⟩
        have hkn : k ≤ n := by have := Int.emod_lt_of_pos u (b := (n : Int) + 1) (by omega); omega
        obtain ⟨hu2, hu3⟩ := hu1
        go_wp2_with fail
        go_loopw [11] (fun jv wx => ∃ j : Nat, j ≤ i ∧ jv = .int .i64 (j : Int) ∧ Hid ((framesL (T.take j)).length ≤ k) ∧ wr = wx) (fun jv wx => i - (intOf jv).toNat)
        case atStart => exact ⟨0, Nat.zero_le _, rfl, Lib.hid (Nat.zero_le _), rfl⟩
        case round =>
          obtain ⟨j, hj, rfl, hjk, rfl⟩ := hrel
          rcases Nat.lt_or_ge j i with hji | hji
          · obtain ⟨e, he⟩ : ∃ e, e = (framesL (T.take (j + 1))).length := ⟨_, rfl⟩
            obtain ⟨be, offe, hbe0, hbe, hce⟩ := NB.out.at (endsN_at T hji)
            rw [← he] at hce
            have HEE := Lib.hid he
            have hji2 : (j : Int) < (i : Int) := by omega
            subst hbe0
            clear he
            by_cases hek : e ≤ k
            · have hek' : (e : Int) ≤ (k : Int) := by omega
              go_wp2_with fail
              go_roundw
              case rel => exact ⟨j + 1, by omega, by go_num, Lib.hid (by rw [← HEE.out]; exact hek), trivial⟩
              case measure => simp [intOf]; omega
            · have hek' : ¬ (e : Int) ≤ (k : Int) := by omega
              have HW := Lib.hid (show wholeN T k = j from whole_is (by have := HL.out; omega) hjk.out (fun _ => by rw [← HEE.out]; omega))
              have hkn4 : k < n := by
                have h1 := frames_take T (j + 1)
                rw [← HEE.out, ← HA.out, hAl] at h1
                omega
              have hkn5 : ((k : Int) == (n : Int)) = false := beq_eq_false_iff_ne.2 (by omega)
              obtain ⟨cut, hcut⟩ : ∃ cut, cut = A.take k := ⟨_, rfl⟩
              have hex : (bs A).extract 0 k = bs cut := by rw [hcut]; exact bs_upto A k (by omega)
              have hcl : cut.length ≤ 1000000000 := by rw [hcut, List.length_take]; omega
              obtain ⟨f, hf⟩ : ∃ f, f = (framesL (T.take j)).length := ⟨_, rfl⟩
              have HSPL := Lib.hid (show splitL cut = (T.take j, f) by rw [hcut, HA.out, split_cut T k HF.out.split, HW.out, ← hf])
              have hfk : f ≤ k := by rw [hf, ← HW.out]; exact whole_in T k
              have hkn3 : (k : Int) ≤ (n : Int) := by omega
              have hjcap : (j : Int) ≤ (cap : Int) := by omega
              have hji3 : (j : Int) ≤ (i : Int) := by omega
              have HFJ := Lib.hid hf
              clear hcut hf
              go_wp2_with fail
              refine (wal_Split cut wr hcl).mono ?_
              rintro e w3 ⟨v3, rfl, o3, k3⟩
              rw [HSPL.out] at o3 ⊢
              have K3 := Lib.hid (KB.out.trans (k3.mono KB.out.size))
              have T3 := Lib.hid (OwnT.txs o3)
              have N3 := Lib.hid (NB.out.below k3)
              have X3 := Lib.hid ((h.out.below K3.out).take (j := j) (by have := HL.out; omega))
              have hlt3 : (T.take j).length = j := by rw [List.length_take]; have := HL.out; omega
              obtain ⟨a3, c3, rfl⟩ := T3.out.form hlt3
              clear o3 k3 hlt3
              go_wp2_with fail
              refine (ref_Same T3.out X3.out (by rw [List.length_take]; have := HL.out; omega)).mono ?_
              rintro e WW ⟨rfl, k4⟩
              have KW := Lib.hid (K3.out.trans (k4.mono K3.out.size))
              have N4 := Lib.hid (N3.out.below k4)
              clear k4 K3 T3 N3 X3 NB KB
              rcases Nat.eq_zero_or_pos j with hj0 | hj0
              · skip
                have hf0 : f = 0 := by rw [HFJ.out, hj0]; rfl
                subst hf0
                subst hj0
                go_wp2_with fail
                refine (law_end (j := 0) (e := 0) N4 (Lib.hid (.inl ⟨rfl, rfl⟩)) (by omega)).mono ?_
                rintro e w5 ⟨rfl, rfl⟩
                obtain ⟨t, ht⟩ : ∃ t, T[0]? = some t := ⟨_, List.getElem?_eq_getElem (by have := HL.out; omega)⟩
                obtain ⟨bt, offt, hat', hbt, hct⟩ := (h.out.below KW.out).at ht
                subst hat'
                simp only [Nat.add_zero] at hct
                obtain ⟨q, hq⟩ : ∃ q, q = t.length := ⟨_, rfl⟩
                have hqz : (bs t).size = q := by rw [bs_size, hq]
                have hq9 : q ≤ 30000 := by rw [hq]; exact HF.out.mem (List.mem_of_getElem? ht)
                clear ht hq
                by_cases hkf : k = 0
                · have hkf' : ((k : Int) == 0) = true := by rw [hkf]; exact beq_self_eq_true _
                  have hkf2 := Lib.hid hkf
                  clear hkf
                  by_cases hq63 : q ≤ 63
                  · have hq63' : (q : Int) ≤ 63 := by omega
                    obtain ⟨w8, cap8, hconv, hb8, k8⟩ := conv_out WW A n hAl
                    obtain ⟨B, hB⟩ : ∃ B, B = WW.heap.size := ⟨_, rfl⟩
                    have HBW := Lib.hid (show w.heap.size ≤ B by rw [hB]; exact KW.out.size)
                    have K8 := Lib.hid (KW.out.trans (k8.mono KW.out.size))
                    have HB8 := Lib.hid (show Bytes8 B A w8 by rw [hB]; exact hb8)
                    rw [← hB] at hconv
                    clear hb8 k8 hB
                    obtain ⟨c8, f8⟩ := HB8.out k (by omega)
                    obtain ⟨pj, hpj⟩ : ∃ pj, pj = A.getD k 0 := ⟨_, rfl⟩
                    rw [← hpj] at c8
                    have hpj8 : pj.toNat < 256 := pj.toNat_lt
                    obtain ⟨bn, hbn, hbn8⟩ := turn_bit bit hbit
                    have hx8 : pj.toNat ^^^ bn < 256 := by
                      have : pj.toNat ^^^ bn < 2 ^ 8 := Nat.xor_lt_two_pow (by omega) (by omega)
                      omega
                    have hxor := u8_xor_nat pj.toNat bn hpj8 hbn8
                    obtain ⟨c, hc⟩ : ∃ c : UInt8, c = UInt8.ofNat (pj.toNat ^^^ bn) := ⟨_, rfl⟩
                    have hcn : c.toNat = pj.toNat ^^^ bn := by rw [hc, UInt8.toNat_ofNat', Nat.mod_eq_of_lt hx8]
                    rw [← hcn] at hxor
                    clear hc hcn hx8 hpj
                    obtain ⟨L, hL⟩ : ∃ L, L = A.set k c := ⟨_, rfl⟩
                    have hLl : L.length = n := by rw [hL, List.length_set, hAl]
                    obtain ⟨w9, hw9⟩ : ∃ w9, w8.setCell ⟨B, k, none⟩ (.int .u8 (c.toNat : Int)) = w9 := ⟨_, rfl⟩
                    have hb9 : Bytes8 B L w9 := by rw [← hw9, hL]; exact HB8.out.set (by omega) c
                    have hback := conv_back w9 B L n cap8 hLl.symm hb9
                    have K9 := Lib.hid (show Below w.heap.size w w9 by rw [← hw9]; exact K8.out.setCell (p := ⟨B, k, none⟩) HBW.out _)
                    have HLL := Lib.hid (show L.length ≤ 1000000000 by omega)
                    have HSP := Lib.hid (show ∃ M, (splitL L).1 = T.take 0 ++ M by
                      rw [← HW.out]
                      exact split_turned HF.out.split (by rw [hL, HA.out, List.take_set_of_le (Nat.le_refl k)]))
                    have HW9 := Lib.hid hw9
                    clear hL hLl hw9 hb9
                    go_upto_region 21 with (fail)
                    rw [HW9.out]
                    clear HW9 hconv c8 f8 hxor hbn
                    go_wp2_with fail
                    refine (wal_Split L w9 HLL.out).mono ?_
                    rintro e w10 ⟨v10, rfl, o10, k10⟩
                    obtain ⟨M, hM⟩ := HSP.out
                    obtain ⟨R, hR⟩ : ∃ R, R = (splitL L).1 := ⟨_, rfl⟩
                    rw [← hR] at o10 hM
                    have hjR : 0 ≤ R.length := by rw [hM, List.length_append, List.length_take]; have := HL.out; omega
                    have htR : R.take 0 = T.take 0 := by rw [hM, List.take_append_of_le_length (by rw [List.length_take]; have := HL.out; omega), List.take_take, Nat.min_self]
                    obtain ⟨rl, hrl⟩ : ∃ rl, rl = R.length := ⟨_, rfl⟩
                    obtain ⟨a10, c10, rfl⟩ := OffRow.slice o10
                    have hjc : 0 ≤ c10 := by have := OffRow.cap_ge o10; omega
                    have S10 := (OwnT.txs o10).take hjR
                    rw [htR] at S10
                    have S10 := Lib.hid S10
                    rw [← hrl] at hjR ⊢
                    have K10 := Lib.hid (K9.out.trans (k10.mono K9.out.size))
                    have hjR' : (0 : Int) ≤ (rl : Int) := by omega
                    have hjc' : (0 : Int) ≤ (c10 : Int) := by omega
                    have X10 := Lib.hid ((h.out.below K10.out).take (j := 0) (by have := HL.out; omega))
                    have HSM := fun z : Seen w10 => Lib.hid (seen_Same S10.out X10.out (by rw [List.length_take]; have := HL.out; omega) z)
                    clear o10 k10 hR hM htR hrl
                    go_wp2_with fail
                    go_simp
                    refine region_seen (by kernel_rfl) (by kernel_rfl) ?_
                    repeat go_big_quiet_step (first | (go_at_call 15; with_reducible exact (HSM _).out))
                    refine wpQuiet_nil ?_
                    rintro _ ⟨z1, rfl⟩
                    go_wp2_with fail
                    go_ret
                    exact ⟨rfl, K10.out.trans (z1.below.mono K10.out.size)⟩
                  · have hq63' : (63 : Int) < (q : Int) := by omega
                    go_wp2_with fail
                    go_ret
                    exact ⟨rfl, KW.out⟩
                · have hkf' : ((k : Int) == 0) = false := beq_eq_false_iff_ne.2 (by omega)
                  obtain ⟨w8, cap8, hconv, hb8, k8⟩ := conv_out WW A n hAl
                  obtain ⟨B, hB⟩ : ∃ B, B = WW.heap.size := ⟨_, rfl⟩
                  have HBW := Lib.hid (show w.heap.size ≤ B by rw [hB]; exact KW.out.size)
                  have K8 := Lib.hid (KW.out.trans (k8.mono KW.out.size))
                  have HB8 := Lib.hid (show Bytes8 B A w8 by rw [hB]; exact hb8)
                  rw [← hB] at hconv
                  clear hb8 k8 hB
                  obtain ⟨c8, f8⟩ := HB8.out k (by omega)
                  obtain ⟨pj, hpj⟩ : ∃ pj, pj = A.getD k 0 := ⟨_, rfl⟩
                  rw [← hpj] at c8
                  have hpj8 : pj.toNat < 256 := pj.toNat_lt
                  obtain ⟨bn, hbn, hbn8⟩ := turn_bit bit hbit
                  have hx8 : pj.toNat ^^^ bn < 256 := by
                    have : pj.toNat ^^^ bn < 2 ^ 8 := Nat.xor_lt_two_pow (by omega) (by omega)
                    omega
                  have hxor := u8_xor_nat pj.toNat bn hpj8 hbn8
                  obtain ⟨c, hc⟩ : ∃ c : UInt8, c = UInt8.ofNat (pj.toNat ^^^ bn) := ⟨_, rfl⟩
                  have hcn : c.toNat = pj.toNat ^^^ bn := by rw [hc, UInt8.toNat_ofNat', Nat.mod_eq_of_lt hx8]
                  rw [← hcn] at hxor
                  clear hc hcn hx8 hpj
                  obtain ⟨L, hL⟩ : ∃ L, L = A.set k c := ⟨_, rfl⟩
                  have hLl : L.length = n := by rw [hL, List.length_set, hAl]
                  obtain ⟨w9, hw9⟩ : ∃ w9, w8.setCell ⟨B, k, none⟩ (.int .u8 (c.toNat : Int)) = w9 := ⟨_, rfl⟩
                  have hb9 : Bytes8 B L w9 := by rw [← hw9, hL]; exact HB8.out.set (by omega) c
                  have hback := conv_back w9 B L n cap8 hLl.symm hb9
                  have K9 := Lib.hid (show Below w.heap.size w w9 by rw [← hw9]; exact K8.out.setCell (p := ⟨B, k, none⟩) HBW.out _)
                  have HLL := Lib.hid (show L.length ≤ 1000000000 by omega)
                  have HSP := Lib.hid (show ∃ M, (splitL L).1 = T.take 0 ++ M by
                    rw [← HW.out]
                    exact split_turned HF.out.split (by rw [hL, HA.out, List.take_set_of_le (Nat.le_refl k)]))
                  have HW9 := Lib.hid hw9
                  clear hL hLl hw9 hb9
                  go_upto_region 21 with (fail)
                  rw [HW9.out]
                  clear HW9 hconv c8 f8 hxor hbn
                  go_wp2_with fail
                  refine (wal_Split L w9 HLL.out).mono ?_
                  rintro e w10 ⟨v10, rfl, o10, k10⟩
                  obtain ⟨M, hM⟩ := HSP.out
                  obtain ⟨R, hR⟩ : ∃ R, R = (splitL L).1 := ⟨_, rfl⟩
                  rw [← hR] at o10 hM
                  have hjR : 0 ≤ R.length := by rw [hM, List.length_append, List.length_take]; have := HL.out; omega
                  have htR : R.take 0 = T.take 0 := by rw [hM, List.take_append_of_le_length (by rw [List.length_take]; have := HL.out; omega), List.take_take, Nat.min_self]
                  obtain ⟨rl, hrl⟩ : ∃ rl, rl = R.length := ⟨_, rfl⟩
                  obtain ⟨a10, c10, rfl⟩ := OffRow.slice o10
                  have hjc : 0 ≤ c10 := by have := OffRow.cap_ge o10; omega
                  have S10 := (OwnT.txs o10).take hjR
                  rw [htR] at S10
                  have S10 := Lib.hid S10
                  rw [← hrl] at hjR ⊢
                  have K10 := Lib.hid (K9.out.trans (k10.mono K9.out.size))
                  have hjR' : (0 : Int) ≤ (rl : Int) := by omega
                  have hjc' : (0 : Int) ≤ (c10 : Int) := by omega
                  have X10 := Lib.hid ((h.out.below K10.out).take (j := 0) (by have := HL.out; omega))
                  have HSM := fun z : Seen w10 => Lib.hid (seen_Same S10.out X10.out (by rw [List.length_take]; have := HL.out; omega) z)
                  clear o10 k10 hR hM htR hrl
                  go_wp2_with fail
                  go_simp
                  refine region_seen (by kernel_rfl) (by kernel_rfl) ?_
                  repeat go_big_quiet_step (first | (go_at_call 15; with_reducible exact (HSM _).out))
                  refine wpQuiet_nil ?_
                  rintro _ ⟨z1, rfl⟩
                  go_wp2_with fail
                  go_ret
                  exact ⟨rfl, K10.out.trans (z1.below.mono K10.out.size)⟩
              · obtain ⟨jp, hjp⟩ : ∃ jp, j = jp + 1 := ⟨j - 1, by omega⟩
                have hend : (endsN T i)[jp]? = some f := by rw [endsN_at T (show jp < i by omega), HFJ.out, hjp]
                have HCASE := Lib.hid (show j = 0 ∧ f = 0 ∨ ∃ i', j = i' + 1 ∧ (endsN T i)[i']? = some f from .inr ⟨jp, hjp, hend⟩)
                obtain ⟨bj, offj, hbj0, hbj, hcj⟩ := N4.out.at hend
                first
                  | subst hbj0
                  | (simp only [Option.some.injEq, Addr.mk.injEq] at hbj0; obtain ⟨rfl, rfl, -⟩ := hbj0)
                have hsubj : ((j : Int) - 1) = (jp : Int) := by omega
                have hjpos : (0 : Int) < (j : Int) := by omega
                have hjne : ((j : Int) == 0) = false := beq_eq_false_iff_ne.2 (by omega)
                have hjpi : (jp : Int) < (i : Int) := by omega
                clear hj0 hend hjp
                go_wp2_with fail
                refine (law_end N4 HCASE (by omega)).mono ?_
                rintro e w5 ⟨rfl, rfl⟩
                obtain ⟨t, ht⟩ : ∃ t, T[j]? = some t := ⟨_, List.getElem?_eq_getElem (by have := HL.out; omega)⟩
                obtain ⟨bt, offt, hat', hbt, hct⟩ := (h.out.below KW.out).at ht
                subst hat'
                obtain ⟨q, hq⟩ : ∃ q, q = t.length := ⟨_, rfl⟩
                have hqz : (bs t).size = q := by rw [bs_size, hq]
                have hq9 : q ≤ 30000 := by rw [hq]; exact HF.out.mem (List.mem_of_getElem? ht)
                clear ht hq
                by_cases hkf : k = f
                · have hkf' : ((k : Int) == (f : Int)) = true := by rw [hkf]; exact beq_self_eq_true _
                  have hkf2 := Lib.hid hkf
                  clear hkf
                  by_cases hq63 : q ≤ 63
                  · have hq63' : (q : Int) ≤ 63 := by omega
                    obtain ⟨w8, cap8, hconv, hb8, k8⟩ := conv_out WW A n hAl
                    obtain ⟨B, hB⟩ : ∃ B, B = WW.heap.size := ⟨_, rfl⟩
                    have HBW := Lib.hid (show w.heap.size ≤ B by rw [hB]; exact KW.out.size)
                    have K8 := Lib.hid (KW.out.trans (k8.mono KW.out.size))
                    have HB8 := Lib.hid (show Bytes8 B A w8 by rw [hB]; exact hb8)
                    rw [← hB] at hconv
                    clear hb8 k8 hB
                    obtain ⟨c8, f8⟩ := HB8.out k (by omega)
                    obtain ⟨pj, hpj⟩ : ∃ pj, pj = A.getD k 0 := ⟨_, rfl⟩
                    rw [← hpj] at c8
                    have hpj8 : pj.toNat < 256 := pj.toNat_lt
                    obtain ⟨bn, hbn, hbn8⟩ := turn_bit bit hbit
                    have hx8 : pj.toNat ^^^ bn < 256 := by
                      have : pj.toNat ^^^ bn < 2 ^ 8 := Nat.xor_lt_two_pow (by omega) (by omega)
                      omega
                    have hxor := u8_xor_nat pj.toNat bn hpj8 hbn8
                    obtain ⟨c, hc⟩ : ∃ c : UInt8, c = UInt8.ofNat (pj.toNat ^^^ bn) := ⟨_, rfl⟩
                    have hcn : c.toNat = pj.toNat ^^^ bn := by rw [hc, UInt8.toNat_ofNat', Nat.mod_eq_of_lt hx8]
                    rw [← hcn] at hxor
                    clear hc hcn hx8 hpj
                    obtain ⟨L, hL⟩ : ∃ L, L = A.set k c := ⟨_, rfl⟩
                    have hLl : L.length = n := by rw [hL, List.length_set, hAl]
                    obtain ⟨w9, hw9⟩ : ∃ w9, w8.setCell ⟨B, k, none⟩ (.int .u8 (c.toNat : Int)) = w9 := ⟨_, rfl⟩
                    have hb9 : Bytes8 B L w9 := by rw [← hw9, hL]; exact HB8.out.set (by omega) c
                    have hback := conv_back w9 B L n cap8 hLl.symm hb9
                    have K9 := Lib.hid (show Below w.heap.size w w9 by rw [← hw9]; exact K8.out.setCell (p := ⟨B, k, none⟩) HBW.out _)
                    have HLL := Lib.hid (show L.length ≤ 1000000000 by omega)
                    have HSP := Lib.hid (show ∃ M, (splitL L).1 = T.take j ++ M by
                      rw [← HW.out]
                      exact split_turned HF.out.split (by rw [hL, HA.out, List.take_set_of_le (Nat.le_refl k)]))
                    have HW9 := Lib.hid hw9
                    clear hL hLl hw9 hb9
                    go_upto_region 21 with (fail)
                    rw [HW9.out]
                    clear HW9 hconv c8 f8 hxor hbn
                    go_wp2_with fail
                    refine (wal_Split L w9 HLL.out).mono ?_
                    rintro e w10 ⟨v10, rfl, o10, k10⟩
                    obtain ⟨M, hM⟩ := HSP.out
                    obtain ⟨R, hR⟩ : ∃ R, R = (splitL L).1 := ⟨_, rfl⟩
                    rw [← hR] at o10 hM
                    have hjR : j ≤ R.length := by rw [hM, List.length_append, List.length_take]; have := HL.out; omega
                    have htR : R.take j = T.take j := by rw [hM, List.take_append_of_le_length (by rw [List.length_take]; have := HL.out; omega), List.take_take, Nat.min_self]
                    obtain ⟨rl, hrl⟩ : ∃ rl, rl = R.length := ⟨_, rfl⟩
                    obtain ⟨a10, c10, rfl⟩ := OffRow.slice o10
                    have hjc : j ≤ c10 := by have := OffRow.cap_ge o10; omega
                    have S10 := (OwnT.txs o10).take hjR
                    rw [htR] at S10
                    have S10 := Lib.hid S10
                    rw [← hrl] at hjR ⊢
                    have K10 := Lib.hid (K9.out.trans (k10.mono K9.out.size))
                    have hjR' : (j : Int) ≤ (rl : Int) := by omega
                    have hjc' : (j : Int) ≤ (c10 : Int) := by omega
                    have X10 := Lib.hid ((h.out.below K10.out).take (j := j) (by have := HL.out; omega))
                    have HSM := fun z : Seen w10 => Lib.hid (seen_Same S10.out X10.out (by rw [List.length_take]; have := HL.out; omega) z)
                    clear o10 k10 hR hM htR hrl
                    go_wp2_with fail
                    go_simp
                    refine region_seen (by kernel_rfl) (by kernel_rfl) ?_
                    repeat go_big_quiet_step (first | (go_at_call 15; with_reducible exact (HSM _).out))
                    refine wpQuiet_nil ?_
                    rintro _ ⟨z1, rfl⟩
                    go_wp2_with fail
                    go_ret
                    exact ⟨rfl, K10.out.trans (z1.below.mono K10.out.size)⟩
                  · have hq63' : (63 : Int) < (q : Int) := by omega
                    go_wp2_with fail
                    go_ret
                    exact ⟨rfl, KW.out⟩
                · have hkf' : ((k : Int) == (f : Int)) = false := beq_eq_false_iff_ne.2 (by omega)
                  obtain ⟨w8, cap8, hconv, hb8, k8⟩ := conv_out WW A n hAl
                  obtain ⟨B, hB⟩ : ∃ B, B = WW.heap.size := ⟨_, rfl⟩
                  have HBW := Lib.hid (show w.heap.size ≤ B by rw [hB]; exact KW.out.size)
                  have K8 := Lib.hid (KW.out.trans (k8.mono KW.out.size))
                  have HB8 := Lib.hid (show Bytes8 B A w8 by rw [hB]; exact hb8)
                  rw [← hB] at hconv
                  clear hb8 k8 hB
                  obtain ⟨c8, f8⟩ := HB8.out k (by omega)
                  obtain ⟨pj, hpj⟩ : ∃ pj, pj = A.getD k 0 := ⟨_, rfl⟩
                  rw [← hpj] at c8
                  have hpj8 : pj.toNat < 256 := pj.toNat_lt
                  obtain ⟨bn, hbn, hbn8⟩ := turn_bit bit hbit
                  have hx8 : pj.toNat ^^^ bn < 256 := by
                    have : pj.toNat ^^^ bn < 2 ^ 8 := Nat.xor_lt_two_pow (by omega) (by omega)
                    omega
                  have hxor := u8_xor_nat pj.toNat bn hpj8 hbn8
                  obtain ⟨c, hc⟩ : ∃ c : UInt8, c = UInt8.ofNat (pj.toNat ^^^ bn) := ⟨_, rfl⟩
                  have hcn : c.toNat = pj.toNat ^^^ bn := by rw [hc, UInt8.toNat_ofNat', Nat.mod_eq_of_lt hx8]
                  rw [← hcn] at hxor
                  clear hc hcn hx8 hpj
                  obtain ⟨L, hL⟩ : ∃ L, L = A.set k c := ⟨_, rfl⟩
                  have hLl : L.length = n := by rw [hL, List.length_set, hAl]
                  obtain ⟨w9, hw9⟩ : ∃ w9, w8.setCell ⟨B, k, none⟩ (.int .u8 (c.toNat : Int)) = w9 := ⟨_, rfl⟩
                  have hb9 : Bytes8 B L w9 := by rw [← hw9, hL]; exact HB8.out.set (by omega) c
                  have hback := conv_back w9 B L n cap8 hLl.symm hb9
                  have K9 := Lib.hid (show Below w.heap.size w w9 by rw [← hw9]; exact K8.out.setCell (p := ⟨B, k, none⟩) HBW.out _)
                  have HLL := Lib.hid (show L.length ≤ 1000000000 by omega)
                  have HSP := Lib.hid (show ∃ M, (splitL L).1 = T.take j ++ M by
                    rw [← HW.out]
                    exact split_turned HF.out.split (by rw [hL, HA.out, List.take_set_of_le (Nat.le_refl k)]))
                  have HW9 := Lib.hid hw9
                  clear hL hLl hw9 hb9
                  go_upto_region 21 with (fail)
                  rw [HW9.out]
                  clear HW9 hconv c8 f8 hxor hbn
                  go_wp2_with fail
                  refine (wal_Split L w9 HLL.out).mono ?_
                  rintro e w10 ⟨v10, rfl, o10, k10⟩
                  obtain ⟨M, hM⟩ := HSP.out
                  obtain ⟨R, hR⟩ : ∃ R, R = (splitL L).1 := ⟨_, rfl⟩
                  rw [← hR] at o10 hM
                  have hjR : j ≤ R.length := by rw [hM, List.length_append, List.length_take]; have := HL.out; omega
                  have htR : R.take j = T.take j := by rw [hM, List.take_append_of_le_length (by rw [List.length_take]; have := HL.out; omega), List.take_take, Nat.min_self]
                  obtain ⟨rl, hrl⟩ : ∃ rl, rl = R.length := ⟨_, rfl⟩
                  obtain ⟨a10, c10, rfl⟩ := OffRow.slice o10
                  have hjc : j ≤ c10 := by have := OffRow.cap_ge o10; omega
                  have S10 := (OwnT.txs o10).take hjR
                  rw [htR] at S10
                  have S10 := Lib.hid S10
                  rw [← hrl] at hjR ⊢
                  have K10 := Lib.hid (K9.out.trans (k10.mono K9.out.size))
                  have hjR' : (j : Int) ≤ (rl : Int) := by omega
                  have hjc' : (j : Int) ≤ (c10 : Int) := by omega
                  have X10 := Lib.hid ((h.out.below K10.out).take (j := j) (by have := HL.out; omega))
                  have HSM := fun z : Seen w10 => Lib.hid (seen_Same S10.out X10.out (by rw [List.length_take]; have := HL.out; omega) z)
                  clear o10 k10 hR hM htR hrl
                  go_wp2_with fail
                  go_simp
                  refine region_seen (by kernel_rfl) (by kernel_rfl) ?_
                  repeat go_big_quiet_step (first | (go_at_call 15; with_reducible exact (HSM _).out))
                  refine wpQuiet_nil ?_
                  rintro _ ⟨z1, rfl⟩
                  go_wp2_with fail
                  go_ret
                  exact ⟨rfl, K10.out.trans (z1.below.mono K10.out.size)⟩
          · obtain rfl : j = i := by omega
            have HW := Lib.hid (show wholeN T k = j from whole_is (by have := HL.out; omega) hjk.out (fun h => absurd h (by have := HL.out; omega)))
            have hkn4 : k = n := by
              have h1 := hjk.out
              rw [HE.out, ← HA.out, hAl] at h1
              omega
            have hkn5 : ((k : Int) == (n : Int)) = true := by rw [hkn4]; exact beq_self_eq_true _
            clear hkn4
            obtain ⟨cut, hcut⟩ : ∃ cut, cut = A.take k := ⟨_, rfl⟩
            have hex : (bs A).extract 0 k = bs cut := by rw [hcut]; exact bs_upto A k (by omega)
            have hcl : cut.length ≤ 1000000000 := by rw [hcut, List.length_take]; omega
            obtain ⟨f, hf⟩ : ∃ f, f = (framesL (T.take j)).length := ⟨_, rfl⟩
            have HSPL := Lib.hid (show splitL cut = (T.take j, f) by rw [hcut, HA.out, split_cut T k HF.out.split, HW.out, ← hf])
            have hfk : f ≤ k := by rw [hf, ← HW.out]; exact whole_in T k
            have hkn3 : (k : Int) ≤ (n : Int) := by omega
            have hjcap : (j : Int) ≤ (cap : Int) := by omega
            have hji3 : (j : Int) ≤ (j : Int) := by omega
            have HFJ := Lib.hid hf
            clear hcut hf
            go_wp2_with fail
            refine (wal_Split cut wr hcl).mono ?_
            rintro e w3 ⟨v3, rfl, o3, k3⟩
            rw [HSPL.out] at o3 ⊢
            have K3 := Lib.hid (KB.out.trans (k3.mono KB.out.size))
            have T3 := Lib.hid (OwnT.txs o3)
            have N3 := Lib.hid (NB.out.below k3)
            have X3 := Lib.hid ((h.out.below K3.out).take (j := j) (by have := HL.out; omega))
            have hlt3 : (T.take j).length = j := by rw [List.length_take]; have := HL.out; omega
            obtain ⟨a3, c3, rfl⟩ := T3.out.form hlt3
            clear o3 k3 hlt3
            go_wp2_with fail
            refine (ref_Same T3.out X3.out (by rw [List.length_take]; have := HL.out; omega)).mono ?_
            rintro e WW ⟨rfl, k4⟩
            have KW := Lib.hid (K3.out.trans (k4.mono K3.out.size))
            have N4 := Lib.hid (N3.out.below k4)
            clear k4 K3 T3 N3 X3 NB KB
            rcases Nat.eq_zero_or_pos j with hj0 | hj0
            · skip
              have hf0 : f = 0 := by rw [HFJ.out, hj0]; rfl
              subst hf0
              subst hj0
              go_wp2_with fail
              go_ret
              exact ⟨rfl, KW.out⟩
            · obtain ⟨jp, hjp⟩ : ∃ jp, j = jp + 1 := ⟨j - 1, by omega⟩
              have hend : (endsN T j)[jp]? = some f := by rw [endsN_at T (show jp < j by omega), HFJ.out, hjp]
              have HCASE := Lib.hid (show j = 0 ∧ f = 0 ∨ ∃ i', j = i' + 1 ∧ (endsN T j)[i']? = some f from .inr ⟨jp, hjp, hend⟩)
              obtain ⟨bj, offj, hbj0, hbj, hcj⟩ := N4.out.at hend
              first
                | subst hbj0
                | (simp only [Option.some.injEq, Addr.mk.injEq] at hbj0; obtain ⟨rfl, rfl, -⟩ := hbj0)
              have hsubj : ((j : Int) - 1) = (jp : Int) := by omega
              have hjpos : (0 : Int) < (j : Int) := by omega
              have hjne : ((j : Int) == 0) = false := beq_eq_false_iff_ne.2 (by omega)
              have hjpi : (jp : Int) < (j : Int) := by omega
              clear hj0 hend hjp
              go_wp2_with fail
              go_ret
              exact ⟨rfl, KW.out⟩

end Go.Proofs.Ytkelcmncjhnbgaa
