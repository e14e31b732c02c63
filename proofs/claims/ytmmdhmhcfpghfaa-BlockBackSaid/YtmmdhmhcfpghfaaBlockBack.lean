/- BlockBack: entries by rising keys come back as they were; with a byte turned they are refused. For every input; no condition. -/
import Derived.Test.YtmmdhmhcfpghfaaRows
import Derived.Test.YtmmdhmhcfpghfaaBlockIn
import Derived.Test.YtmmdhmhcfpghfaaBlockTurn
import Derived.Test.YtmmdhmhcfpghfaaBlockSame
import Derived.SliceStrings
import Derived.ChangeOld
import Derived.ShutString
import Derived.ProofKit
import Derived.OpenShut
import Derived.WalkKit
import Derived.Below
set_option linter.unusedVariables false
set_option maxRecDepth 100000
namespace Go.Proofs.Ytmmdhmhcfpghfaa.blockBack
open Go.ChangeShapes Go.WideShapes Go.ChangeAt Go.RowKit
open Go.ChangeMaps (open_string shut_string)

/-- In block B stand these bytes. -/
def Bytes8 (B : Nat) (L : List UInt8) (w : World) : Prop := ∀ j, j < L.length → w.cell? ⟨B, j, none⟩ = some (.int .u8 ((L.getD j 0).toNat : Int)) ∧ w.frozen? ⟨B, j, none⟩ = false
theorem bytes_new (w : World) (s : ByteArray) (cap : Nat) (t : TypeId) : Bytes8 w.heap.size s.data.toList (w.drew.alloc (.cells (bytesRow s cap) t ((bytesRow s cap).size, (bytesRow s cap).size + 1))) := by
  intro j hj
  have hs : j < s.data.size := by simpa using hj
  have hlen : j < (bytesRow s cap).size := by
    have h := (Array.getElem?_eq_some_iff.1 (bytesRow_at s cap j hs)).1
    exact h
  refine ⟨?_, ?_⟩
  · have h := World.cell?_alloc_mark w.drew (bytesRow s cap) t ((bytesRow s cap).size, (bytesRow s cap).size + 1) j
    refine h.trans ?_
    rw [bytesRow_at s cap j hs, List.getD_eq_getElem?_getD, List.getElem?_eq_getElem hj]
    rfl
  · have h := World.frozen?_alloc_mark w.drew (bytesRow s cap) t (bytesRow s cap).size ((bytesRow s cap).size + 1) j
    refine h.trans ?_
    rw [decide_eq_false (by omega), Bool.false_and]
theorem conv_out (w : World) (P : List UInt8) (n : Nat) (hP : P.length = n) : ∃ (w2 : World) (cap : Nat), (convert 9 39 (.string (bs P))).run Try.prog w = .ok (.slice (some ⟨w.heap.size, 0, none⟩) n cap) w2 ∧ Bytes8 w.heap.size P w2 ∧ Below w.heap.size w w2 := by
  have h := run_bytes_of_string (P := Try.prog) w 9 39 5 (bs P) Try.underlying9 Try.underlying39 Try.underlying5
  rw [bs_size, hP] at h
  exact ⟨_, _, h, bytes_new w (bs P) _ 5, ((Below.refl _ _).drew).alloc (Nat.le_refl _) _⟩
theorem conv_back (w : World) (B : Nat) (L : List UInt8) (n cap : Nat) (hn : n = L.length) (h : Bytes8 B L w) : (convert 39 9 (.slice (some ⟨B, 0, none⟩) n cap)).run Try.prog w = .ok (.string (bs L)) w := by
  subst hn
  refine run_convert_bytes_back (P := Try.prog) _ 39 9 5 ⟨B, 0, none⟩ cap L Try.underlying39 Try.underlying5 Try.underlying9 ?_
  intro j hj
  rw [addr_add, Nat.zero_add, (h j hj).1, List.getD_eq_getElem?_getD, List.getElem?_eq_getElem hj, Option.getD_some]
theorem Bytes8.set {B : Nat} {L : List UInt8} {w : World} (h : Bytes8 B L w) {i : Nat} (hi : i < L.length) (c : UInt8) : Bytes8 B (L.set i c) (w.setCell ⟨B, i, none⟩ (.int .u8 (c.toNat : Int))) := by
  intro j hj
  rw [List.length_set] at hj
  refine ⟨?_, by rw [World.frozen?_setCell]; exact (h j hj).2⟩
  by_cases hji : j = i
  · subst hji
    rw [World.cell?_setCell_same w _ _ (h _ hj).1, List.getD_eq_getElem?_getD, List.getElem?_set_self hj]
    rfl
  · rw [World.cell?_setCell_other w _ _ _ (fun e => hji (by injection e with _ e2; exact e2.symm)), (h j hj).1, List.getD_eq_getElem?_getD, List.getD_eq_getElem?_getD, List.getElem?_set_ne (by omega)]
/-- Rising entries may be packed. -/
theorem rising_ok {T : List Ent} (h : ∀ x ∈ T, x.key.length ≤ 60000 ∧ x.val.length ≤ 60000) (hl : T.length ≤ 3001) : chkE (rising T) = 0 := by
  refine (chkE_ok _).2 ⟨okEs_of_rises true [] (rising_rises T) (fun y hy => ?_) (fun h => by cases h), by have := rising_len T; omega⟩
  obtain ⟨x, hx, rfl⟩ := rising_mem hy
  have := h x hx
  unfold norm
  split
  · exact ⟨by simp only; omega, by simp, fun _ => rfl⟩
  · rename_i hg
    exact ⟨by omega, by omega, fun g => absurd g hg⟩
/-- With a byte turned it is refused. -/
theorem turned_open {B : List UInt8} {j : Nat} {c : UInt8} (hj : j < B.length + 4) (hc : c ≠ (B ++ four (sumL B)).getD j 0) : opnS ((B ++ four (sumL B)).set j c) = (4, []) := by
  have ht := turned_byte hj hc
  have hl : ((B ++ four (sumL B)).set j c).length = B.length + 4 := by rw [List.length_set, List.length_append, four_len]
  have hE : takeE ((B ++ four (sumL B)).set j c) = 4 := by
    unfold takeE
    rw [if_neg (by omega), if_neg]
    unfold okT
    rw [hl, Nat.add_sub_cancel]
    exact ht
  unfold opnS
  rw [if_pos (by rw [hE]; decide), hE]

set_option maxHeartbeats 4000000 in
theorem core (a : Option Addr) (len cap : Nat) (T : List Ent) (at_ : Int) (by_ : Int) (w : World) (h : InE w a len cap T) (hat : -9223372036854775808 ≤ at_ ∧ at_ ≤ 9223372036854775807) (hby : 0 ≤ by_ ∧ by_ ≤ 255) :
    Calls Try.prog 5 #[.slice a len cap, .int .i64 at_, .int .u8 by_] w fun e w' => e = .returned (.bool true) ∧ Below w.heap.size w w' := by
  obtain ⟨his, hbig, hroom, hfit⟩ := h
  have HIS := Lib.hid his
  have HFIT := Lib.hid hfit
  clear his hfit
  go_enter Try.func5, Try.ntmps5
  go_wp2_with fail
  refine (law_awake w).mono ?_
  rintro e w1 ⟨rfl, k1⟩
  have K1 := Lib.hid k1
  clear k1
  go_wp2_with fail
  refine (law_few a len cap T w1 (Lib.hid (HIS.out.below K1.out)) hbig HFIT).mono ?_
  rintro e w2 ⟨rfl, k2⟩
  have K2 := Lib.hid (K1.out.trans (k2.mono K1.out.size))
  clear k2
  obtain ⟨r, hr⟩ : ∃ r, r = fewB T := ⟨_, rfl⟩
  rw [← hr]
  have HR := Lib.hid hr
  clear hr
  cases r with
  | false =>
    go_wp2_with fail
    refine (law_awake w2).mono ?_
    rintro e w3 ⟨rfl, k3⟩
    have K3 := Lib.hid k3
    clear k3
    go_wp2_with fail
    go_ret
    exact ⟨rfl, K2.out.trans (K3.out.mono K2.out.size)⟩
  | true =>
    have hfew := Lib.hid (few_of HR.out.symm)
    have hlen : len ≤ 3001 := by rw [HIS.out.1]; exact hfew.out.1
    go_wp2_with fail
    refine (law_rising a len cap T w2 (Lib.hid (HIS.out.below K2.out)) hlen (Lib.hid hfew.out.2)).mono ?_
    rintro e w4 ⟨⟨a4, c4, rfl, hE4⟩, k4⟩
    have HE4 := Lib.hid hE4
    have K4 := Lib.hid (K2.out.trans (k4.mono K2.out.size))
    have HCHK := Lib.hid (rising_ok hfew.out.2 hfew.out.1)
    have hRl : (rising T).length ≤ 3001 := Nat.le_trans (rising_len T) hfew.out.1
    clear hE4 k4
    generalize rising T = R at *
    obtain ⟨n, hn⟩ : ∃ n, n = R.length := ⟨_, rfl⟩
    rw [← hn] at hRl HE4 ⊢
    have HN := Lib.hid hn
    clear hn
    have hpk := block_Pack a4 n c4 R w4 HE4 (by omega) (Lib.hid (fit_of_small (smallE_of ((chkE_ok R).1 HCHK.out).1)))
    rw [HCHK.out] at hpk
    obtain ⟨P, hP⟩ : ∃ P, P = packB R := ⟨_, rfl⟩
    have HOP := Lib.hid (show opnS P = (0, R) by rw [hP]; exact open_pack HCHK.out)
    have HPL := Lib.hid (show P = listB R ++ four (sumL (listB R)) by rw [hP]; unfold packB; rw [if_pos HCHK.out])
    have hPlen : P.length ≤ 10000000100 := by rw [hP]; exact packB_len
    rw [← hP] at hpk
    have HPK := Lib.hid hpk
    clear hpk hP
    have hP5 : 5 ≤ P.length := by
      rw [HPL.out, List.length_append, four_len]
      have := (whole_len (n := (R.length : Int)) (by omega) (by have := HN.out; omega)).2
      unfold listB
      rw [List.length_append]
      omega
    obtain ⟨m, hm⟩ : ∃ m, m = P.length := ⟨_, rfl⟩
    have hzP : (bs P).size = m := by rw [bs_size, hm]
    have hm5 : 5 ≤ m := by omega
    have hmb : m ≤ 10000000100 := by omega
    have HM := Lib.hid hm
    clear hm hP5 hPlen
    go_wp2_with fail
    refine HPK.out.mono ?_
    rintro e w5 ⟨rfl, k5⟩
    have E5 := Lib.hid (HE4.out.below k5)
    have K5 := Lib.hid (K4.out.trans (k5.mono K4.out.size))
    clear k5
    go_wp2_with fail
    refine (block_Open P w5 (by rw [← HM.out]; omega)).mono ?_
    rintro e w6 ⟨⟨a6, c6, rfl, hE6⟩, k6⟩
    rw [HOP.out] at hE6 ⊢
    simp only at hE6 ⊢
    rw [← HN.out] at hE6 ⊢
    have E6 := Lib.hid hE6
    have E6b := Lib.hid (E5.out.below k6)
    have K6 := Lib.hid (K5.out.trans (k6.mono K5.out.size))
    clear k6 hE6
    go_wp2_with fail
    refine (ref_Same a6 a4 n c6 c4 R w6 E6 E6b (by omega)).mono ?_
    rintro e w7 ⟨rfl, k7⟩
    have E7 := Lib.hid (E6b.out.below k7)
    have K7 := Lib.hid (K6.out.trans (k7.mono K6.out.size))
    clear k7
    obtain ⟨w8, cap8, hconv, hb8, k8⟩ := conv_out w7 P m HM.out.symm
    obtain ⟨B, hB⟩ : ∃ B, B = w7.heap.size := ⟨_, rfl⟩
    have HBW := Lib.hid (show w.heap.size ≤ B by rw [hB]; exact K7.out.size)
    have E8 := Lib.hid (E7.out.below k8)
    have K8 := Lib.hid (K7.out.trans (k8.mono K7.out.size))
    have HB8 := Lib.hid (show Bytes8 B P w8 by rw [hB]; exact hb8)
    have HBE := Lib.hid (show ∀ v, IsE (w8.setCell v (.int .u8 0)) a4 n R → True from fun _ _ => trivial)
    rw [← hB] at hconv
    have HKB := Lib.hid (show Below B w7 w8 by rw [hB]; exact k8)
    have HE7 := Lib.hid (show w7.heap.size = B from hB.symm)
    clear hb8 k8 hB HBE
    obtain ⟨u, hu⟩ : ∃ u : Int, IntKind.u64.wrap at_ = u := ⟨_, rfl⟩
    have hu1 : 0 ≤ u ∧ u ≤ 18446744073709551615 := by rw [← hu]; simp [IntKind.wrap, IntKind.signed, IntKind.bits]; omega
    obtain ⟨j, hj⟩ : ∃ j : Nat, u % (m : Int) = (j : Int) := ⟨(u % (m : Int)).toNat, by have := Int.emod_nonneg u (b := (m : Int)) (by omega); omega⟩
    have hjm : j < m := by have := Int.emod_lt_of_pos u (b := (m : Int)) (by omega); omega
    obtain ⟨hu2, hu3⟩ := hu1
    obtain ⟨c8, f8⟩ := HB8.out j (by rw [← HM.out]; exact hjm)
    obtain ⟨pj, hpj⟩ : ∃ pj, pj = P.getD j 0 := ⟨_, rfl⟩
    rw [← hpj] at c8
    have HPJ := Lib.hid hpj
    obtain ⟨bn, hbn⟩ : ∃ bn : Nat, by_ = (bn : Int) := ⟨by_.toNat, by omega⟩
    subst hbn
    have hbn8 : bn < 256 := by omega
    have hpj8 : pj.toNat < 256 := pj.toNat_lt
    have hx8 : pj.toNat ^^^ bn < 256 := by
      have : pj.toNat ^^^ bn < 2 ^ 8 := Nat.xor_lt_two_pow (by omega) (by omega)
      omega
    have hxor := u8_xor_nat pj.toNat bn hpj8 hbn8
    obtain ⟨c, hc⟩ : ∃ c : UInt8, c = UInt8.ofNat (pj.toNat ^^^ bn) := ⟨_, rfl⟩
    have hcn : c.toNat = pj.toNat ^^^ bn := by rw [hc, UInt8.toNat_ofNat', Nat.mod_eq_of_lt hx8]
    rw [← hcn] at hxor
    have HCN := Lib.hid hcn
    clear hc hcn hx8 hpj
    obtain ⟨L, hL⟩ : ∃ L, L = P.set j c := ⟨_, rfl⟩
    have hPj : j < P.length := by rw [← HM.out]; exact hjm
    have hLl : L.length = m := by rw [hL, List.length_set, HM.out]
    obtain ⟨w9, hw9⟩ : ∃ w9, w8.setCell ⟨B, j, none⟩ (.int .u8 (c.toNat : Int)) = w9 := ⟨_, rfl⟩
    have hb9 : Bytes8 B L w9 := by rw [← hw9, hL]; exact HB8.out.set hPj c
    have hback := conv_back w9 B L m cap8 hLl.symm hb9
    have K9 := Lib.hid (show Below w.heap.size w w9 by rw [← hw9]; exact K8.out.setCell (p := ⟨B, j, none⟩) HBW.out _)
    have E9 := Lib.hid (show IsE w9 a4 n R from E7.out.below (by rw [← hw9, HE7.out]; exact (HKB.out.setCell (p := ⟨B, j, none⟩) (Nat.le_refl _) _)))
    have HLL := Lib.hid (show L.length ≤ 100000000000 by omega)
    have hres : (bn = 0 → opnS L = (0, R)) ∧ (bn ≠ 0 → opnS L = (4, [])) := by
      have hne : bn ≠ 0 → c ≠ P.getD j 0 := fun h0 e => by
        rw [← HPJ.out] at e
        have h1 := HCN.out
        rw [e] at h1
        have h2 : pj.toNat ^^^ (pj.toNat ^^^ bn) = pj.toNat ^^^ pj.toNat := by rw [← h1]
        rw [← Nat.xor_assoc, Nat.xor_self, Nat.zero_xor] at h2
        exact h0 h2
      refine ⟨fun h0 => ?_, fun h0 => ?_⟩
      · have hce : c = pj := UInt8.toNat_inj.1 (by rw [HCN.out, h0, Nat.xor_zero])
        have : L = P := by
          rw [hL, hce, HPJ.out, List.getD_eq_getElem?_getD, List.getElem?_eq_getElem hPj, Option.getD_some]
          exact List.set_getElem_self hPj
        rw [this, HOP.out]
      · have h4 : P.length = (listB R).length + 4 := by rw [HPL.out, List.length_append, four_len]
        have := turned_open (B := listB R) (j := j) (c := c) (by omega) (by rw [← HPL.out]; exact hne h0)
        rw [hL, HPL.out]
        exact this
    have HRES := Lib.hid hres
    have HW9 := Lib.hid hw9
    clear hL hPj hLl hw9 hb9 hres
    go_upto_region 10 with (fail)
    rw [HW9.out]
    clear HW9 hconv c8 f8 hxor hu hj
    go_wp2_with fail
    refine (block_Open L w9 HLL.out).mono ?_
    rintro e w10 ⟨⟨a10, c10, rfl, hE10⟩, k10⟩
    have E10b := Lib.hid (E9.out.below k10)
    have K10 := Lib.hid (K9.out.trans (k10.mono K9.out.size))
    clear k10
    by_cases h0 : bn = 0
    · rw [HRES.out.1 h0] at hE10 ⊢
      simp only at hE10 ⊢
      rw [← HN.out] at hE10 ⊢
      have E10 := Lib.hid hE10
      subst h0
      clear hE10
      go_wp2_with fail
      refine (ref_Same a10 a4 n c10 c4 R w10 E10 E10b (by omega)).mono ?_
      rintro e w11 ⟨rfl, k11⟩
      have K11 := Lib.hid (K10.out.trans (k11.mono K10.out.size))
      clear k11
      go_wp2_with fail
      go_ret
      exact ⟨rfl, K11.out⟩
    · have hb0 : ((bn : Int) == 0) = false := beq_eq_false_iff_ne.2 (by omega)
      rw [HRES.out.2 h0] at hE10 ⊢
      clear hE10 h0
      go_wp2_with fail
      go_ret
      exact ⟨rfl, K10.out⟩

theorem own : ownKnob Try.prog.godebug = none := by kernel_rfl
theorem laidOut : laidOutB Try.prog = true := by kernel_rfl
theorem contract (H : Type) (enc : TypeId × Value → H) (W : World) (base : Nat) (args : Array Value) (ds gs : List (DataW H)) (before : List MemPlace)
    (hval : ∀ (j : Nat) t v, Try.f5.params[j]? = some t → args[j]? = some v → Value.okWide Try.prog W .any base t v)
    (hW : DataW.Whole enc Try.prog Try.f5.params.toList Rows.blockBackSpec.vars false W args.toList ds gs before) :
    Calls Try.prog 5 args W fun e W' => ∃ v, e = .returned v ∧ Rows.blockBackSpec.post enc Try.prog Try.f5 false true false false W args v W' := by
  have hW' := hW
  obtain ⟨p, q, hA0, hV, rfl, hfz, hnd⟩ := hW
  have hA : DataW.TrodAll enc Try.prog W 0 (fun _ => true) true Try.f5.params.toList args.toList ds p := hA0
  rw [Try.params5] at hA hval
  obtain ⟨v0, vs0, d0, ds0, p0, q0, hargs0, rfl, rfl, h0, r0⟩ := trodAll_cons hA
  obtain ⟨v1, vs1, d1, ds1, p1, q1, rfl, rfl, rfl, h1, r1⟩ := trodAll_cons r0
  obtain ⟨v2, vs2, d2, ds2, p2, q2, rfl, rfl, rfl, h2, r2⟩ := trodAll_cons r1
  obtain ⟨rfl, rfl, rfl⟩ := trodAll_nil r2
  obtain rfl : args = #[v0, v1, v2] := by cases args; simp_all
  obtain ⟨rfl, rfl⟩ := trodVars_none hV
  obtain ⟨a0, len0, cap0, rfl⟩ := okWide_slice Try.underlying22 (hval 0 22 v0 rfl rfl)
  have k0 := h0
  have lt0 : ∀ x ∈ p0, x.block < W.heap.size := by obtain ⟨m, hm⟩ := k0; exact DataW.trod_lt m _ _ _ hm
  obtain ⟨T0, i0⟩ := open_ents h0
  obtain ⟨x1, rfl, rfl, rfl, w1⟩ := open_int Try.underlying3 (hval 1 3 v1 rfl rfl) h1
  have b1 : -9223372036854775808 ≤ x1 ∧ x1 ≤ 9223372036854775807 := by have hw := w1; simp [Lit.wf, IntKind.min, IntKind.max, IntKind.signed, IntKind.bits] at hw; omega
  obtain ⟨x2, rfl, rfl, rfl, w2⟩ := open_int Try.underlying5 (hval 2 5 v2 rfl rfl) h2
  have b2 : 0 ≤ x2 ∧ x2 ≤ 255 := by have hw := w2; simp [Lit.wf, IntKind.min, IntKind.max, IntKind.signed, IntKind.bits] at hw; omega
  clear hA0
  simp only [List.append_nil] at hW'
  refine (core a0 len0 cap0 T0 x1 x2 W i0 b1 b2).mono fun e W' ⟨he, bel⟩ => ?_
  subst he
  exact ⟨_, rfl, _, _, _, [], _, [], hW', trodAll_mk1 (shut_bool Try.underlying4 _), (trodAll_cons_mk (Below.trod laidOut (by kernel_rfl) (of_decide_eq_true (by kernel_rfl)) k0 bel lt0) (trodAll_cons_mk (shut_int Try.underlying3 w1) (trodAll_cons_mk (shut_int Try.underlying5 w2) trodAll_mk0))), rfl, bel.frame _, fun h => by cases h⟩

set_option maxRecDepth 100000 in
theorem lifted (os : Os) (started : os.Started) (H : Type) (enc : TypeId × Value → H) :
    ReturnsInHanded {} Try.checked os 5 .any (Rows.blockBackSpec.pre6 enc Try.prog Try.f5 Rows.blockBackRow.domain false) (Rows.blockBackSpec.post enc Try.prog Try.f5 false true false false) := by
  refine returnsInHanded_of_change (C := Try.checked) own started (by kernel_rfl) Try.func5
    (ChangeSpec.witness6 (enc := enc) (C := Try.checked) false ⟨#[], #[.slice none 0 0, .int .i64 0, .int .u8 0], []⟩ 8 (by kernel_rfl) (by kernel_rfl) (by kernel_rfl) (by kernel_rfl)) ?_
  intro W base args ds gs before hval hW _ _
  exact contract H enc W base args ds gs before hval hW

theorem over : Rows.blockBackRow.holds Try.pinned (OpenSpec.ofChange Rows.blockBackSpec) :=
  OpenClaim.holds_of_wide 5 Try.f5 rfl rfl rfl rfl rfl rfl rfl ⟨rfl, rfl, rfl, rfl, rfl⟩ rfl rfl rfl rfl rfl (by kernel_rfl) Try.func5 (by kernel_rfl)
    (of_decide_eq_true (by kernel_rfl)) (by unfold Func.isWrapper; first | (rw [if_pos (by decide +kernel)]; kernel_rfl) | (rw [if_neg (by decide +kernel)]; exact ⟨rfl, rfl⟩))
    (fun os started H enc _ => lifted os started H enc)

/-- ████ THE STATEMENT ████ -/
theorem proved : Rows.BlockBackSaid :=
  over
#print axioms proved
end Go.Proofs.Ytmmdhmhcfpghfaa.blockBack
