/- CrcBursts: bits turned within 32 in a row, all of them in the text or all in its sum, are told. For every input; no condition. -/
import Derived.Test.YtmpmkjanpnolaaaRows
import Derived.Test.YtmpmkjanpnolaaaAwake
import Derived.ChangeOld
import Derived.Below
import Derived.RegionTactic
import Derived.Deep.RegionWith
import Derived.WalkKit
import Derived.ProofKit
import Derived.OpenShut
import Derived.ShutString
namespace Go.Proofs.Ytmpmkjanpnolaaa.crcBursts
open Go.ChangeShapes Go.WideShapes Go.ChangeAt Go.RowKit
open Go.ChangeMaps (open_string shut_string)
set_option linter.unusedVariables false      -- a walk need not use every 'w<i>' (that an integer argument fits its kind)

theorem own : ownKnob Try.prog.godebug = none := by kernel_rfl
theorem laidOut : laidOutB Try.prog = true := by kernel_rfl

/-- In block B stand these bytes. -/
def Bytes8 (B : Nat) (L : List UInt8) (w : World) : Prop := ∀ j, j < L.length → w.cell? ⟨B, j, none⟩ = some (.int .u8 ((L.getD j 0).toNat : Int)) ∧ w.frozen? ⟨B, j, none⟩ = false

theorem bytes_new (w : World) (s : ByteArray) (cap : Nat) (t : TypeId) : Bytes8 w.heap.size s.data.toList (w.drew.alloc (.cells (bytesRow s cap) t ((bytesRow s cap).size, (bytesRow s cap).size + 1))) := by
  intro j hj
  have hs : j < s.data.size := by simpa using hj
  have hlen : j < (bytesRow s cap).size := by
    have h := (Array.getElem?_eq_some_iff.1 (bytesRow_at s cap j hs)).1
    exact h
  refine ⟨?_, ?_⟩
  · have h := World.cell?_alloc_mark w.drew (bytesRow s cap) t ((bytesRow s cap).size, (bytesRow s cap).size + 1) j
    refine h.trans ?_
    rw [bytesRow_at s cap j hs, List.getD_eq_getElem?_getD, List.getElem?_eq_getElem hj]
    rfl
  · have h := World.frozen?_alloc_mark w.drew (bytesRow s cap) t (bytesRow s cap).size ((bytesRow s cap).size + 1) j
    refine h.trans ?_
    rw [decide_eq_false (by omega), Bool.false_and]

theorem xor_lt8 (a : UInt8) (r : Nat) (h : r < 8) : a.toNat ^^^ 2 ^ r < 256 := by
  have hp : 2 ^ r < 2 ^ 8 := Nat.pow_lt_pow_right (by decide) h
  exact Nat.xor_lt_two_pow (n := 8) a.toNat_lt hp
theorem Bytes8.flip {B : Nat} {L : List UInt8} {w : World} (h : Bytes8 B L w) {i : Nat} (hi : i < 8 * L.length) :
    Bytes8 B (flip L i) (w.setCell ⟨B, i / 8, none⟩ (.int .u8 (((L.getD (i / 8) 0).toNat ^^^ 2 ^ (i % 8) : Nat) : Int))) := by
  intro j hj
  rw [flip_len] at hj
  refine ⟨?_, by rw [World.frozen?_setCell]; exact (h j hj).2⟩
  unfold Ytmpmkjanpnolaaa.flip
  by_cases hji : j = i / 8
  · subst hji
    rw [World.cell?_setCell_same w _ _ (h _ hj).1]
    have hg : (L.set (i / 8) (UInt8.ofNat ((L.getD (i / 8) 0).toNat ^^^ 2 ^ (i % 8)))).getD (i / 8) 0 = UInt8.ofNat ((L.getD (i / 8) 0).toNat ^^^ 2 ^ (i % 8)) := by
      rw [List.getD_eq_getElem?_getD, List.getElem?_set_self hj]; rfl
    rw [hg, UInt8.toNat_ofNat', Nat.mod_eq_of_lt (xor_lt8 _ _ (by omega))]
  · rw [World.cell?_setCell_other w _ _ _ (fun e => hji (by injection e with _ e2; exact e2.symm)), (h j hj).1, List.getD_eq_getElem?_getD, List.getD_eq_getElem?_getD, List.getElem?_set_ne (by omega)]

theorem conv_out (w : World) (P : List UInt8) (n : Nat) (hP : P.length = n + 4) : ∃ (w2 : World) (cap : Nat), (convert 9 36 (.string (bs P))).run Try.prog w = .ok (.slice (some ⟨w.heap.size, 0, none⟩) (n + 4) cap) w2 ∧ Bytes8 w.heap.size P w2 ∧ Below w.heap.size w w2 := by
  have h := run_bytes_of_string (P := Try.prog) w 9 36 5 (bs P) Try.underlying9 Try.underlying36 Try.underlying5
  rw [bs_size, hP] at h
  exact ⟨_, _, h, bytes_new w (bs P) _ 5, ((Below.refl _ _).drew).alloc (Nat.le_refl _) _⟩
theorem conv_back (w : World) (B : Nat) (L : List UInt8) (n cap : Nat) (hn : n = L.length) (h : Bytes8 B L w) : (convert 36 9 (.slice (some ⟨B, 0, none⟩) n cap)).run Try.prog w = .ok (.string (bs L)) w := by
  subst hn
  refine run_convert_bytes_back (P := Try.prog) _ 36 9 5 ⟨B, 0, none⟩ cap L Try.underlying36 Try.underlying5 Try.underlying9 ?_
  intro j hj
  rw [add_plain, Nat.zero_add, (h j hj).1, List.getD_eq_getElem?_getD, List.getElem?_eq_getElem hj, Option.getD_some]

theorem taken_turned {l L : List UInt8} {f m k : Nat} {t : Bool} (h : Turned (l ++ four (sumL l)) f m k L t) (hk : k ≤ 32) (hf : f + k ≤ 8 * l.length ∨ 8 * l.length ≤ f ∧ f + k ≤ 8 * (l.length + 4)) :
    takeE L = if t = true then 4 else 0 := by
  have hs := turned_said h hk hf
  have hL : L.length = l.length + 4 := by rw [h.len, List.length_append, four_len]
  have hok : okT L ↔ L.drop l.length = four (sumL (L.take l.length)) := by unfold okT; rw [hL, Nat.add_sub_cancel]
  unfold takeE
  rw [if_neg (by omega)]
  by_cases ht : t = true
  · rw [if_pos ht, if_neg (fun h => hs.1 ht (hok.1 h))]
  · rw [if_neg ht, if_pos (hok.2 (Classical.byContradiction fun h => ht (hs.2 h)))]

set_option maxHeartbeats 400000 in
theorem big (a0 : ByteArray) (a1 a2 : Int) (w : World) (h : a2 = 0 ∨ 1048576 < a0.size) :
    Calls Try.prog 6 #[.string a0, .int .i64 a1, .int .u32 a2] w fun e w' => e = .returned (.bool true) ∧ Below w.heap.size w w' := by
  by_cases h0 : a2 = 0
  · subst h0
    go_enter Try.func6, Try.ntmps6
    go_wp2_with fail
    refine (law_awake w).mono ?_
    rintro e w1 ⟨rfl, k1⟩
    go_wp2
    go_ret
    exact ⟨rfl, k1⟩
  · have h1 : 1048576 < a0.size := by omega
    have hne : (a2 == 0) = false := beq_eq_false_iff_ne.2 h0
    clear h
    go_enter Try.func6, Try.ntmps6
    go_wp2_with fail
    refine (law_awake w).mono ?_
    rintro e w1 ⟨rfl, k1⟩
    go_wp2
    go_ret
    exact ⟨rfl, k1⟩

theorem pow8w (r : Nat) (h : r < 8) : IntKind.u8.wrap ((2 : Int) ^ r) = ((2 ^ r : Nat) : Int) := by
  have hp : 2 ^ r < 2 ^ 8 := Nat.pow_lt_pow_right (by decide) h
  rw [IntKind.wrap_u8', show ((2 : Int) ^ r) = ((2 ^ r : Nat) : Int) by simp]
  generalize 2 ^ r = p at *
  omega
theorem xor8 (c : UInt8) (r : Nat) (h : r < 8) : bits BinOp.xor IntKind.u8 (c.toNat : Int) ((2 ^ r : Nat) : Int) = ((c.toNat ^^^ 2 ^ r : Nat) : Int) := by
  have hp : 2 ^ r < 2 ^ 8 := Nat.pow_lt_pow_right (by decide) h
  exact u8_xor_nat _ _ c.toNat_lt (by omega)
theorem mask_bit (m k : Nat) (hm : m < 4294967296) : (bits BinOp.and IntKind.u32 ((m : Int) / 2 ^ k) 1 == 1) = m.testBit k := by
  have hle : m / 2 ^ k ≤ m := Nat.div_le_self _ _
  have e : ((m : Int) / 2 ^ k) = ((m / 2 ^ k : Nat) : Int) := by simp
  obtain ⟨x, hx⟩ : ∃ x, m / 2 ^ k = x := ⟨_, rfl⟩
  rw [hx] at hle e
  rw [e, u32_and _ _ (by omega) (by omega) (by omega) (by omega), Int.toNat_natCast, show (1 : Int).toNat = 1 from rfl, nat_mask1, Nat.testBit_eq_decide_div_mod_eq, hx]
  show decide _ = _
  apply decide_eq_decide.2
  omega

set_option maxHeartbeats 1000000 in
theorem core (l : List UInt8) (a1 : Int) (m f nv : Nat) (w : World) (hl : l.length ≤ 1048576) (hm0 : ((m : Int) == 0) = false) (hm : m < 4294967296) (h1 : -9223372036854775808 ≤ a1) (h2 : a1 ≤ 9223372036854775807)
    (hrem : wrap64 ((IntKind.u64.wrap a1).tmod (8 * ((l.length : Int) + 4))) = (f : Int)) (hnv : Hid (f < 8 * l.length ∧ nv = 8 * l.length ∨ 8 * l.length ≤ f ∧ nv = 8 * (l.length + 4))) (hfn : Hid (f < nv)) :
    Calls Try.prog 6 #[.string (bs l), .int .i64 a1, .int .u32 m] w fun e w' => e = .returned (.bool true) ∧ Below w.heap.size w w' := by
  have hsz2 : ((bs l).size : Int) = (l.length : Int) := by rw [bs_size]
  obtain ⟨P, hP⟩ : ∃ P, P = l ++ four (sumL l) := ⟨_, rfl⟩
  have hPl : P.length = l.length + 4 := by rw [hP, List.length_append, four_len]
  have hPs : ((bs P).size : Int) = (l.length : Int) + 4 := by rw [bs_size, hPl]; rfl
  have HP := Lib.hid hP
  have HPL := Lib.hid hPl
  clear hP hPl
  go_enter Try.func6, Try.ntmps6
  go_wp2_with fail
  refine (crc_Put (bs l) w (by rw [bs_size]; omega)).mono ?_
  rintro e w1 ⟨rfl, k1⟩
  rw [bs_list, ← HP.out]
  have K1 := Lib.hid k1
  clear k1
  obtain ⟨w2, cap, hconv, hb, hk⟩ := conv_out w1 P l.length HPL.out
  obtain ⟨B, hB⟩ : ∃ B, B = w1.heap.size := ⟨_, rfl⟩
  rw [← hB] at hconv hb
  have HB := Lib.hid (show w.heap.size ≤ B by rw [hB]; exact K1.out.size)
  have HBY := Lib.hid hb
  have K2 := Lib.hid (K1.out.trans (hk.mono K1.out.size))
  clear hb hk hB K1
  generalize hN : l.length = N at *
  have HNL := Lib.hid hN
  clear hN
  have HM := Lib.hid hm
  clear hm
  rcases hnv.out with ⟨hc, hv⟩ | ⟨hc, hv⟩
  case' inl =>
    have hn8 : (8 * (N : Int)) = (nv : Int) := by omega
    have hc' : (f : Int) < (nv : Int) := by omega
    have hbound := Lib.hid (show nv ≤ 8 * (N + 4) by omega)
    clear hv hc
    go_wp2_with fail
    repeat (first | rw [hrem] | rw [hn8])
    rw [decide_eq_false (show ¬ nv ≤ f by omega)]
  case' inr =>
    have hn8 : (8 * ((N : Int) + 4)) = (nv : Int) := by omega
    have hc' : 8 * (N : Int) ≤ (f : Int) := by omega
    rw [hn8] at hrem
    have hbound := Lib.hid (show nv ≤ 8 * (N + 4) by omega)
    clear hv hc
    go_wp2_with fail
    repeat (first | rw [hrem] | rw [hn8])
  all_goals
    go_loopw [10, 11] (fun u i wr => ∃ (k : Nat) (L : List UInt8) (t : Bool), k ≤ 32 ∧ f + k ≤ nv ∧ i = .int .i64 k ∧ u = .bool t ∧ Turned P f m k L t ∧ Bytes8 B L wr ∧ Below w.heap.size w wr) (fun u i wr => 32 - (intOf i).toNat)
    case atStart => exact ⟨0, P, false, by omega, by have := hfn.out; omega, rfl, rfl, Turned.start P f m, HBY.out, K2.out⟩
    case round =>
      obtain ⟨k, L, t, hk, hfk, rfl, rfl, htu, hby, hbw⟩ := hrel
      have HT := Lib.hid htu
      have HY := Lib.hid hby
      have HW := Lib.hid hbw
      clear htu hby hbw
      by_cases hgo : k < 32 ∧ f + k < nv
      · obtain ⟨g1, g2⟩ := hgo
        have hbit := mask_bit m k HM.out
        cases hb : m.testBit k with
        | true =>
          rw [hb] at hbit
          have HBIT := Lib.hid hb
          clear hb
          go_wp2_with fail
          have hLN := HT.out.len
          rw [HPL.out] at hLN
          have hfk2 : f + k < 8 * L.length := by have := hbound.out; omega
          have HFK := Lib.hid hfk2
          obtain ⟨q, hq⟩ : ∃ q, q = (f + k) / 8 := ⟨_, rfl⟩
          obtain ⟨r, hr⟩ : ∃ r, r = (f + k) % 8 := ⟨_, rfl⟩
          obtain ⟨c1, c2⟩ := HY.out q (by omega)
          have e1 : ((f : Int) + (k : Int)) / 8 = (q : Int) := by omega
          have e2 : ((f : Int) + (k : Int)) % 8 = (r : Int) := by omega
          have e5 : (q : Int) < (N : Int) + 4 := by omega
          have e6 : r < 8 := by omega
          have hpw := pow8w r e6
          have hxor := xor8 (L.getD q 0) r e6
          have hfl := HY.out.flip hfk2
          rw [← hq, ← hr] at hfl
          have HFL := Lib.hid hfl
          clear hfl hfk2 hLN hq hr
          generalize (L.getD q 0).toNat = c at *
          generalize (2 : Nat) ^ r = pw at *
          go_region
          have HFD := Lib.hid (show Bytes8 B (flip L (f + k)) ((wr.setCell ⟨B, q, none⟩ (.int .u8 ((c ^^^ pw : Nat) : Int))).drew) from HFL.out)
          have HWD := Lib.hid ((HW.out.setCell (p := ⟨B, q, none⟩) HB.out (.int .u8 ((c ^^^ pw : Nat) : Int))).drew)
          generalize (wr.setCell ⟨B, q, none⟩ (.int .u8 ((c ^^^ pw : Nat) : Int))).drew = wz at *
          clear c1 c2 hxor HFL
          go_wp2_with fail
          go_roundw
          case rel => exact ⟨k + 1, flip L (f + k), true, by omega, by omega, by go_num, rfl, HT.out.yes HBIT.out (by rw [← HT.out.len]; exact HFK.out), HFD.out, HWD.out⟩
          case measure => simp [intOf]; omega
        | false =>
          rw [hb] at hbit
          have HBIT := Lib.hid hb
          clear hb
          go_wp2_with fail
          go_roundw
          case rel => exact ⟨k + 1, L, t, by omega, by omega, by go_num, rfl, HT.out.no HBIT.out, HY.out, HW.out⟩
          case measure => simp [intOf]; omega
      · have hend := taken_turned (l := l) (by rw [← HP.out]; exact HT.out) hk (by rw [HNL.out]; have := hnv.out; omega)
        have hback := conv_back wr B L (N + 4) cap (by rw [HT.out.len, HPL.out]) HY.out
        have hLs := Lib.hid (show (bs L).size ≤ 140737488355328 by rw [bs_size, HT.out.len, HPL.out]; omega)
        cases t
        all_goals
          simp only [if_true, if_false, Bool.false_eq_true] at hend
          have HEND := Lib.hid hend
          clear hend
          by_cases g1 : k < 32
          · have g2 : ¬ ((f : Int) + (k : Int) < (nv : Int)) := by omega
            go_wp2_with fail
            refine (crc_Take (bs L) wr hLs.out).mono ?_
            rintro e w5 ⟨rfl, k5⟩
            rw [bs_list, HEND.out]
            have K5 := Lib.hid (HW.out.trans (k5.mono HW.out.size))
            clear k5
            go_wp2_with fail
            refine (law_awake w5).mono ?_
            rintro e w6 ⟨rfl, k6⟩
            have K6 := Lib.hid (K5.out.trans (k6.mono K5.out.size))
            clear k6
            go_wp2
            go_ret
            exact ⟨rfl, K6.out⟩
          · obtain rfl : k = 32 := by omega
            go_wp2_with fail
            refine (crc_Take (bs L) wr hLs.out).mono ?_
            rintro e w5 ⟨rfl, k5⟩
            rw [bs_list, HEND.out]
            have K5 := Lib.hid (HW.out.trans (k5.mono HW.out.size))
            clear k5
            go_wp2_with fail
            refine (law_awake w5).mono ?_
            rintro e w6 ⟨rfl, k6⟩
            have K6 := Lib.hid (K5.out.trans (k6.mono K5.out.size))
            clear k6
            go_wp2
            go_ret
            exact ⟨rfl, K6.out⟩

theorem walk (a0 : ByteArray) (a1 : Int) (a2 : Int) (w0 : a0.size ≤ maxLen) (w1 : (Lit.int .i64 a1).wf = true) (w2 : (Lit.int .u32 a2).wf = true) (w : World) :
    Calls Try.prog 6 #[.string a0, .int .i64 a1, .int .u32 a2] w fun e w' => e = .returned (.bool true) ∧ Below w.heap.size w w' := by
  by_cases hb : a2 = 0 ∨ 1048576 < a0.size
  · exact big a0 a1 a2 w hb
  · have h1 := bounds_i64 w1
    have h2 := bounds_u32 w2
    have e0 : a0 = bs a0.data.toList := bs_eq rfl
    have hl : a0.data.toList.length = a0.size := by rw [← Lib.size_eq]
    obtain ⟨m, hm⟩ : ∃ m : Nat, a2 = m := ⟨a2.toNat, by omega⟩
    generalize a0.data.toList = l at *
    subst hm
    have hpos : (0 : Int) < 8 * ((l.length : Int) + 4) := by omega
    have hn := wrap_u64_nonneg a1
    have ht : (IntKind.u64.wrap a1).tmod (8 * ((l.length : Int) + 4)) = IntKind.u64.wrap a1 % (8 * ((l.length : Int) + 4)) := Int.tmod_eq_emod_of_nonneg hn
    have hlo := Int.emod_nonneg (IntKind.u64.wrap a1) (show 8 * ((l.length : Int) + 4) ≠ 0 by omega)
    have hhi := Int.emod_lt_of_pos (IntKind.u64.wrap a1) hpos
    obtain ⟨x, hx⟩ : ∃ x, IntKind.u64.wrap a1 % (8 * ((l.length : Int) + 4)) = x := ⟨_, rfl⟩
    rw [hx] at ht hlo hhi
    obtain ⟨f, hf⟩ : ∃ f : Nat, x = f := ⟨x.toNat, by omega⟩
    subst hf
    have hrem : wrap64 ((IntKind.u64.wrap a1).tmod (8 * ((l.length : Int) + 4))) = (f : Int) := by rw [ht]; unfold wrap64; omega
    subst e0
    rw [bs_size] at hl hb
    by_cases hc : f < 8 * l.length
    · exact core l a1 m f (8 * l.length) w (by omega) (beq_eq_false_iff_ne.2 (by omega)) (by omega) h1.1 h1.2 hrem (Lib.hid (.inl ⟨hc, rfl⟩)) (Lib.hid hc)
    · exact core l a1 m f (8 * (l.length + 4)) w (by omega) (beq_eq_false_iff_ne.2 (by omega)) (by omega) h1.1 h1.2 hrem (Lib.hid (.inr ⟨by omega, rfl⟩)) (Lib.hid (by omega))

/-! ### THE ROW's STEP: WRITTEN OUT: LEAVE IT -/
set_option maxRecDepth 100000 in
theorem lifted (os : Os) (started : os.Started) (H : Type) (enc : TypeId × Value → H) :
    ReturnsInHanded {} Try.checked os 6 .any (Rows.crcBurstsSpec.pre6 enc Try.prog Try.f6 Rows.crcBurstsRow.domain false) (Rows.crcBurstsSpec.post enc Try.prog Try.f6 false true false false) := by
  refine returnsInHanded_of_change (C := Try.checked) own started (by kernel_rfl) Try.func6
    (ChangeSpec.witness6 (enc := enc) (C := Try.checked) false ⟨#[], #[.string ByteArray.empty, .int .i64 0, .int .u32 0], []⟩ 8 (by kernel_rfl) (by kernel_rfl) (by kernel_rfl) (by kernel_rfl)) ?_
  intro W base args ds gs before hval0 hW hcnd _
  have hval : ∀ (j : Nat) t v, Try.f6.params[j]? = some t → args[j]? = some v → Value.okWide Try.prog W .any base t v := hval0
  have hW' := hW
  obtain ⟨p, q, hA0, hV, rfl, hfz, hnd⟩ := hW
  have hA : DataW.TrodAll enc Try.prog W 0 (fun _ => true) true Try.f6.params.toList args.toList ds p := hA0
  rw [Try.params6] at hA hval
  obtain ⟨v0, vs0, d0, ds0, p0, q0, hargs, rfl, rfl, h0, r0⟩ := trodAll_cons hA
  obtain ⟨v1, vs1, d1, ds1, p1, q1, rfl, rfl, rfl, h1, r1⟩ := trodAll_cons r0
  obtain ⟨v2, vs2, d2, ds2, p2, q2, rfl, rfl, rfl, h2, r2⟩ := trodAll_cons r1
  obtain ⟨rfl, rfl, rfl⟩ := trodAll_nil r2
  obtain rfl : args = #[v0, v1, v2] := by cases args; simp_all
  obtain ⟨rfl, rfl⟩ := trodVars_none hV
  obtain ⟨a0, rfl, rfl, rfl, w0⟩ := open_string Try.underlying9 (hval 0 9 v0 rfl rfl) h0
  obtain ⟨a1, rfl, rfl, rfl, w1⟩ := open_int Try.underlying3 (hval 1 3 v1 rfl rfl) h1
  obtain ⟨a2, rfl, rfl, rfl, w2⟩ := open_int Try.underlying24 (hval 2 24 v2 rfl rfl) h2
  clear hA0 hval0
  simp only [List.append_nil] at hW'
  refine (walk a0 a1 a2 w0 w1 w2 W).mono fun e W' ⟨he, bel⟩ => ?_
  subst he
  exact ⟨_, rfl, _, _, _, [], _, [], hW', trodAll_mk1 (shut_bool Try.underlying4 _), (trodAll_cons_mk (shut_string Try.underlying9 w0) (trodAll_cons_mk (shut_int Try.underlying3 w1) (trodAll_cons_mk (shut_int Try.underlying24 w2) trodAll_mk0))), rfl, bel.frame _, fun h => by cases h⟩

theorem over : Rows.crcBurstsRow.holds Try.pinned (OpenSpec.ofChange Rows.crcBurstsSpec) :=
  OpenClaim.holds_of_wide 6 Try.f6 rfl rfl rfl rfl rfl rfl rfl ⟨rfl, rfl, rfl, rfl, rfl⟩ rfl rfl rfl rfl rfl (by kernel_rfl) Try.func6 (by kernel_rfl)
    (of_decide_eq_true (by kernel_rfl)) (by unfold Func.isWrapper; first | (rw [if_pos (by decide +kernel)]; kernel_rfl) | (rw [if_neg (by decide +kernel)]; exact ⟨rfl, rfl⟩))
    (fun os started H enc _ => lifted os started H enc)

/-- ████ THE STATEMENT ████ -/
theorem proved : Rows.CrcBurstsSaid :=
  over
#print axioms proved
end Go.Proofs.Ytmpmkjanpnolaaa.crcBursts
