/- TableSpoilt -/
import Derived.Test.YteejldddgogbkaaDoorSp20
import Derived.Test.YteejldddgogbkaaDoorSp21
import Derived.Test.YteejldddgogbkaaDoorSp12
import Derived.Test.YteejldddgogbkaaDoorSp13
import Derived.SliceStrings
import Derived.ChangeOld
import Derived.ShutString
import Derived.ChangeMaps5
import Derived.ProofKit
import Derived.OpenShut
/- TableSpoilt: where one byte of a table is another one, opening it, or going through it, tells an error. For every input; no condition beside the round numbers that the program lays (tied). -/
set_option linter.unusedVariables false
set_option maxRecDepth 100000
namespace Go.Proofs.YteejldddgogbkaaDoor.tableSpoilt
open Go.ChangeShapes Go.WideShapes Go.ChangeAt Go.RowKit
open Go.ChangeMaps (open_string shut_string)

/-- In block B stand these bytes. -/
def Bytes8 (B : Nat) (L : List UInt8) (w : World) : Prop := ∀ j, j < L.length → w.cell? ⟨B, j, none⟩ = some (.int .u8 ((L.getD j 0).toNat : Int)) ∧ w.frozen? ⟨B, j, none⟩ = false
theorem bytes_new (w : World) (s : ByteArray) (cap : Nat) (t : TypeId) : Bytes8 w.heap.size s.data.toList (w.drew.alloc (.cells (bytesRow s cap) t ((bytesRow s cap).size, (bytesRow s cap).size + 1))) := by
  intro j hj
  have hs : j < s.data.size := by simpa using hj
  have hlen : j < (bytesRow s cap).size := by
    have h := (Array.getElem?_eq_some_iff.1 (bytesRow_at s cap j hs)).1
    exact h
  refine ⟨?_, ?_⟩
  · have h := World.cell?_alloc_mark w.drew (bytesRow s cap) t ((bytesRow s cap).size, (bytesRow s cap).size + 1) j
    refine h.trans ?_
    rw [bytesRow_at s cap j hs, List.getD_eq_getElem?_getD, List.getElem?_eq_getElem hj]
    rfl
  · have h := World.frozen?_alloc_mark w.drew (bytesRow s cap) t (bytesRow s cap).size ((bytesRow s cap).size + 1) j
    refine h.trans ?_
    rw [decide_eq_false (by omega), Bool.false_and]
theorem conv_out (w : World) (P : List UInt8) (n : Nat) (hP : P.length = n) : ∃ (w2 : World) (cap : Nat), (convert 9 45 (.string (bs P))).run Tryd.prog w = .ok (.slice (some ⟨w.heap.size, 0, none⟩) n cap) w2 ∧ Bytes8 w.heap.size P w2 ∧ Below w.heap.size w w2 := by
  have h := run_bytes_of_string (P := Tryd.prog) w 9 45 5 (bs P) Tryd.underlying9 Tryd.underlying45 Tryd.underlying5
  rw [bs_size, hP] at h
  exact ⟨_, _, h, bytes_new w (bs P) _ 5, ((Below.refl _ _).drew).alloc (Nat.le_refl _) _⟩
theorem conv_back (w : World) (B : Nat) (L : List UInt8) (n cap : Nat) (hn : n = L.length) (h : Bytes8 B L w) : (convert 45 9 (.slice (some ⟨B, 0, none⟩) n cap)).run Tryd.prog w = .ok (.string (bs L)) w := by
  subst hn
  refine run_convert_bytes_back (P := Tryd.prog) _ 45 9 5 ⟨B, 0, none⟩ cap L Tryd.underlying45 Tryd.underlying5 Tryd.underlying9 ?_
  intro j hj
  rw [addr_add, Nat.zero_add, (h j hj).1, List.getD_eq_getElem?_getD, List.getElem?_eq_getElem hj, Option.getD_some]
theorem Bytes8.set {B : Nat} {L : List UInt8} {w : World} (h : Bytes8 B L w) {i : Nat} (hi : i < L.length) (c : UInt8) : Bytes8 B (L.set i c) (w.setCell ⟨B, i, none⟩ (.int .u8 (c.toNat : Int))) := by
  intro j hj
  rw [List.length_set] at hj
  refine ⟨?_, by rw [World.frozen?_setCell]; exact (h j hj).2⟩
  by_cases hji : j = i
  · subst hji
    rw [World.cell?_setCell_same w _ _ (h _ hj).1, List.getD_eq_getElem?_getD, List.getElem?_set_self hj]
    rfl
  · rw [World.cell?_setCell_other w _ _ _ (fun e => hji (by injection e with _ e2; exact e2.symm)), (h j hj).1, List.getD_eq_getElem?_getD, List.getD_eq_getElem?_getD, List.getElem?_set_ne (by omega)]
/-- Rising entries may be packed. -/
theorem rising_ok {T : List Ent} (h : ∀ x ∈ T, x.key.length ≤ 60000 ∧ x.val.length ≤ 60000) (hl : T.length ≤ 3001) : chkE (rising T) = 0 := by
  refine (chkE_ok _).2 ⟨okEs_of_rises true [] (rising_rises T) (fun y hy => ?_) (fun h => by cases h), by have := rising_len T; omega⟩
  obtain ⟨x, hx, rfl⟩ := rising_mem hy
  have := h x hx
  unfold norm
  split
  · exact ⟨by simp only; omega, by simp, fun _ => rfl⟩
  · rename_i hg
    exact ⟨by omega, by omega, fun g => absurd g hg⟩

theorem from_all (R : List Ent) : fromE [] R = R := by
  unfold fromE
  rw [List.filter_eq_self]
  intro x _
  rw [ltB_nil]
  rfl
/-- What is known of the table's bytes, one of them turned or not. -/
structure Turned (R : List Ent) (bn : Nat) (L : List UInt8) : Prop where
  same : bn = 0 → (openTab L).1 = 0 ∧ scanT (openTab L).2 [] = (0, R)
  bad : bn ≠ 0 → (openTab L).1 = 0 → (scanT (openTab L).2 []).1 ≠ 0
  few : (openTab L).1 = 0 → (scanT (openTab L).2 []).2.length < 100000
set_option maxHeartbeats 4000000 in
theorem core (a : Option Addr) (len cap : Nat) (T : List Ent) (ea : Int) (at_ : Int) (by_ : Int) (w : World) (h : InE w a len cap T) (he1 : 0 ≤ ea) (he2 : ea ≤ 255) (hat1 : -9223372036854775808 ≤ at_) (hat2 : at_ ≤ 9223372036854775807) (hby1 : 0 ≤ by_) (hby2 : by_ ≤ 255) (hg : Hid (Glob w)) :
    Calls Tryd.prog 4 #[.slice a len cap, .int .u8 ea, .int .i64 at_, .int .u8 by_] w fun e w' => e = .returned (.bool true) ∧ Below w.heap.size w w' := by
  obtain ⟨his, hbig, hroom, hfit⟩ := h
  have HIS := Lib.hid his
  have HFIT := Lib.hid hfit
  clear his hfit
  go_enter Tryd.func4, Tryd.ntmps4
  go_wp2_with fail
  refine (law_awake09 w hg).mono ?_
  rintro e w1 ⟨rfl, k1⟩
  have K1 := Lib.hid k1
  clear k1
  go_wp2_with fail
  refine (law_few a len cap T w1 (Lib.hid (HIS.out.below K1.out)) hbig HFIT).mono ?_
  rintro e w2 ⟨rfl, k2⟩
  have K2 := Lib.hid (K1.out.trans (k2.mono K1.out.size))
  clear k2
  obtain ⟨r, hr⟩ : ∃ r, r = fewB T := ⟨_, rfl⟩
  rw [← hr]
  have HR := Lib.hid hr
  clear hr
  cases r with
  | false =>
    go_wp2_with fail
    refine (law_awake09 w2 (Lib.hid (hg.out.keep K2.out hg.out.1))).mono ?_
    rintro e w3 ⟨rfl, k3⟩
    have K3 := Lib.hid k3
    clear k3
    go_wp2_with fail
    go_ret
    exact ⟨rfl, K2.out.trans (K3.out.mono K2.out.size)⟩
  | true =>
    have hfew := Lib.hid (few_of HR.out.symm)
    have hlen : len ≤ 3001 := by rw [HIS.out.1]; exact hfew.out.1
    go_wp2_with fail
    refine (law_rising_cap a len cap T w2 (Lib.hid (HIS.out.below K2.out)) hlen (Lib.hid hfew.out.2)).mono ?_
    rintro e w4 ⟨⟨a4, c4, rfl, hE4, hc4⟩, k4⟩
    have HE4 := Lib.hid hE4
    have K4 := Lib.hid (K2.out.trans (k4.mono K2.out.size))
    have HCHK := Lib.hid (rising_ok hfew.out.2 hfew.out.1)
    have hRl : (rising T).length ≤ 3001 := Nat.le_trans (rising_len T) hfew.out.1
    clear hE4 k4
    generalize rising T = R at *
    obtain ⟨n, hn⟩ : ∃ n, n = R.length := ⟨_, rfl⟩
    rw [← hn] at hRl HE4 hc4 ⊢
    have HN := Lib.hid hn
    clear hn
    obtain ⟨en, hen⟩ : ∃ en : Nat, ea = (en : Int) := ⟨ea.toNat, by omega⟩
    subst hen
    have hen2 : en ≤ 255 := by omega
    have G4 := Lib.hid (hg.out.keep K4.out hg.out.1)
    have hb0 : buildE' (1 + (en : Int)) 10 R = 0 := by unfold buildE'; rw [if_neg (by omega)]; exact HCHK.out
    have HBD := Lib.hid (table_Build a4 n c4 R (1 + (en : Int)) 10 w4 HE4 hRl hc4 (Lib.hid (smallE_of ((chkE_ok R).1 HCHK.out).1)) G4)
    rw [hb0, if_pos rfl] at HBD
    obtain ⟨P, hP⟩ : ∃ P, P = tabB (1 + (en : Int)).toNat (Int.toNat 10) R := ⟨_, rfl⟩
    have hto : (1 + (en : Int)).toNat = 1 + en := by omega
    rw [← hP] at HBD
    have hP2 : P = tabB (1 + en) 10 R := by rw [hP, hto]; rfl
    obtain ⟨t0, ht0⟩ := built_tab (each := 1 + en) (per := 10) (T := R) (by omega) (by omega) (by decide) (by decide) (by rw [← HN.out]; exact hRl) HCHK.out
    rw [← hP2] at ht0
    have HT0 := Lib.hid ht0
    have HP2 := Lib.hid hP2
    obtain ⟨m, hm⟩ : ∃ m, m = P.length := ⟨_, rfl⟩
    have hzP : (bs P).size = m := by rw [bs_size, hm]
    have hm16 : 16 ≤ m := by rw [hm]; exact ht0.least
    have hmb : m ≤ 10000000100 := by rw [hm]; exact Nat.le_trans ht0.len (by decide)
    have HM := Lib.hid hm
    clear hm hP hP2 hto ht0 hb0
    go_wp2_with fail
    refine HBD.out.mono ?_
    rintro e w5 ⟨rfl, k5⟩
    have E5 := Lib.hid (HE4.out.below k5)
    have K5 := Lib.hid (K4.out.trans (k5.mono K4.out.size))
    clear k5 HBD
    have hm16' : ¬ (m : Int) < 16 := by omega
    obtain ⟨w8, cap8, hconv, hb8, k8⟩ := conv_out w5 P m HM.out.symm
    obtain ⟨B, hB⟩ : ∃ B, B = w5.heap.size := ⟨_, rfl⟩
    have HBW := Lib.hid (show w.heap.size ≤ B by rw [hB]; exact K5.out.size)
    have K8 := Lib.hid (K5.out.trans (k8.mono K5.out.size))
    have HB8 := Lib.hid (show Bytes8 B P w8 by rw [hB]; exact hb8)
    rw [← hB] at hconv
    have HKB := Lib.hid (show Below B w5 w8 by rw [hB]; exact k8)
    have HE7 := Lib.hid (show w5.heap.size = B from hB.symm)
    clear hb8 k8 hB
    obtain ⟨u, hu⟩ : ∃ u : Int, IntKind.u64.wrap at_ = u := ⟨_, rfl⟩
    have hu1 : 0 ≤ u ∧ u ≤ 18446744073709551615 := by rw [← hu]; simp [IntKind.wrap, IntKind.signed, IntKind.bits]; omega
    obtain ⟨j, hj⟩ : ∃ j : Nat, u % (m : Int) = (j : Int) := ⟨(u % (m : Int)).toNat, by have := Int.emod_nonneg u (b := (m : Int)) (by omega); omega⟩
    have hjm : j < m := by have := Int.emod_lt_of_pos u (b := (m : Int)) (by omega); omega
    obtain ⟨hu2, hu3⟩ := hu1
    obtain ⟨c8, f8⟩ := HB8.out j (by rw [← HM.out]; exact hjm)
    obtain ⟨pj, hpj⟩ : ∃ pj, pj = P.getD j 0 := ⟨_, rfl⟩
    rw [← hpj] at c8
    have HPJ := Lib.hid hpj
    obtain ⟨bn, hbn⟩ : ∃ bn : Nat, by_ = (bn : Int) := ⟨by_.toNat, by omega⟩
    subst hbn
    have hbn8 : bn < 256 := by omega
    have hpj8 : pj.toNat < 256 := pj.toNat_lt
    have hx8 : pj.toNat ^^^ bn < 256 := by
      have : pj.toNat ^^^ bn < 2 ^ 8 := Nat.xor_lt_two_pow (by omega) (by omega)
      omega
    have hxor := u8_xor_nat pj.toNat bn hpj8 hbn8
    obtain ⟨c, hc⟩ : ∃ c : UInt8, c = UInt8.ofNat (pj.toNat ^^^ bn) := ⟨_, rfl⟩
    have hcn : c.toNat = pj.toNat ^^^ bn := by rw [hc, UInt8.toNat_ofNat', Nat.mod_eq_of_lt hx8]
    rw [← hcn] at hxor
    have HCN := Lib.hid hcn
    clear hc hcn hx8 hpj
    obtain ⟨L, hL⟩ : ∃ L, L = P.set j c := ⟨_, rfl⟩
    have hPj : j < P.length := by rw [← HM.out]; exact hjm
    have hLl : L.length = m := by rw [hL, List.length_set, HM.out]
    obtain ⟨w9, hw9⟩ : ∃ w9, w8.setCell ⟨B, j, none⟩ (.int .u8 (c.toNat : Int)) = w9 := ⟨_, rfl⟩
    have hb9 : Bytes8 B L w9 := by rw [← hw9, hL]; exact HB8.out.set hPj c
    have hback := conv_back w9 B L m cap8 hLl.symm hb9
    have K9 := Lib.hid (show Below w.heap.size w w9 by rw [← hw9]; exact K8.out.setCell (p := ⟨B, j, none⟩) HBW.out _)
    have E9 := Lib.hid (show IsE w9 a4 n R from E5.out.below (by rw [← hw9, HE7.out]; exact (HKB.out.setCell (p := ⟨B, j, none⟩) (Nat.le_refl _) _)))
    have HLL := Lib.hid (show L.length ≤ 100000000000 by omega)
    have HLM := Lib.hid (show m = L.length from hLl.symm)
    have HTU := Lib.hid (show Turned R bn L by
      have hR : R.length ≤ 3001 := by rw [← HN.out]; exact hRl
      by_cases h0 : bn = 0
      · have hce : c = pj := UInt8.toNat_inj.1 (by rw [HCN.out, h0, Nat.xor_zero])
        have hLP : L = P := by
          rw [hL, hce, HPJ.out, List.getD_eq_getElem?_getD, List.getElem?_eq_getElem hPj, Option.getD_some]
          exact List.set_getElem_self hPj
        have hs : scanT (openTab L).2 [] = (0, R) := by rw [hLP, HT0.out.opened]; show scanT t0 [] = _; rw [HT0.out.scan, from_all]
        exact ⟨fun _ => ⟨by rw [hLP, HT0.out.opened], hs⟩, fun h => absurd h0 h, fun _ => by rw [hs]; show R.length < 100000; omega⟩
      · have hne : c ≠ P.getD j 0 := fun e => by
          rw [← HPJ.out] at e
          have h1 := HCN.out
          rw [e] at h1
          have h2 : pj.toNat ^^^ (pj.toNat ^^^ bn) = pj.toNat ^^^ pj.toNat := by rw [← h1]
          rw [← Nat.xor_assoc, Nat.xor_self, Nat.zero_xor] at h2
          exact h0 h2
        have hsp : Spoilt (tabB (1 + en) 10 R) L j := by
          rw [← HP2.out]
          refine ⟨by rw [hLl, HM.out], hPj, fun i hi => ?_, ?_⟩
          · rw [hL, List.getElem?_set_ne (Ne.symm hi)]
          · rw [hL, List.getElem?_set_self hPj, List.getElem?_eq_getElem hPj]
            intro e
            injection e with e
            apply hne
            rw [e, List.getD_eq_getElem?_getD, List.getElem?_eq_getElem hPj, Option.getD_some]
        rcases spoilt_short (by omega) (by omega) (by decide) (by decide) hR HCHK.out hsp with h1 | ⟨h1, h2, h3⟩
        · exact ⟨fun h => absurd h h0, fun _ h => absurd h h1, fun h => absurd h h1⟩
        · exact ⟨fun h => absurd h h0, fun _ _ => h2, fun _ => by omega⟩)
    have HW9 := Lib.hid hw9
    clear hL hPj hLl hw9 hb9
    go_upto_region 9 with (fail)
    rw [HW9.out]
    clear HW9 hconv c8 f8 hxor hu hj
    have hback2 := hback
    go_wp2_with fail
    refine (law_over (bs L) w9).mono ?_
    rintro e w10 ⟨rfl, hw10⟩
    have b10 : Below w9.heap.size w9 w10 := by rw [hw10]; exact (Below.refl _ _).alloc (Nat.le_refl _) _
    have K10 := Lib.hid (show Below w9.heap.size w9 w10 from b10)
    have Q10 := Lib.hid (show Keep (overK w9.heap.size L) w10 from fun q hq => by
      simp only [overK, List.mem_singleton] at hq
      subst hq
      rw [hw10]; exact heap_new w9 _)
    have hb10 := Lib.hid (show w9.heap.size < w10.heap.size by rw [hw10]; simp)
    have HSrc := Lib.hid (over_src w9.heap.size L HLL.out)
    have HOp := Lib.hid (table_Open _ _ _ L w10 HSrc Q10 HLL.out)
    rw [← HLM.out] at HOp
    clear hw10 b10 hback hback2
    go_wp2_with fail
    refine HOp.out.mono ?_
    rintro e w11 ⟨hcase, k11⟩
    have K11 := Lib.hid (K10.out.trans (k11.mono K10.out.size))
    have Q11 := Lib.hid (Q10.out.below k11)
    clear HOp
    rcases hcase with ⟨hz, rfl⟩ | ⟨hz, p, hp, rfl, hT⟩
    · obtain ⟨z, hzz⟩ : ∃ z, z = (openTab L).1 := ⟨_, rfl⟩
      rw [← hzz] at hz ⊢
      have hbn0 : bn ≠ 0 := fun h0 => hz (by rw [hzz]; exact (HTU.out.same h0).1)
      have hzb : (z == 0) = false := beq_eq_false_iff_ne.2 hz
      have hbb : ((bn : Int) == 0) = false := beq_eq_false_iff_ne.2 (by omega)
      have hni : ¬ (bn : Int) = 0 := by omega
      have hbe : ((bn : Int) != 0) = true := by rw [bne, hbb]; rfl
      clear hzz hz hbn0 k11
      go_wp2_with fail
      go_ret
      exact ⟨rfl, K9.out.trans (K11.out.mono K9.out.size)⟩
    · obtain ⟨t, ht⟩ : ∃ t, t = (openTab L).2 := ⟨_, rfl⟩
      have hot : openTab L = (0, t) := by rw [ht, ← hz]
      have hff := open_fine hot
      have HF := Lib.hid hff.1
      have hbt : t.bytes = L := hff.2
      have HBT := Lib.hid hbt
      rw [← ht] at hT
      have T11 := Lib.hid hT
      have hp10 := Lib.hid (show w9.heap.size < p by have := hb10.out; omega)
      have HKp := Lib.hid (show ∀ q ∈ overK w9.heap.size L, q.1 ≠ p from fun q hq => by
        simp only [overK, List.mem_singleton] at hq
        subst hq
        have := hp10.out
        show w9.heap.size ≠ p
        omega)
      have hSt := Lib.hid (show Go.Proofs.YteejldddgogbkaaDoor.Src 35 #[.pointer (some ⟨w9.heap.size, 0, none⟩)] (overK w9.heap.size L) 0 t.bytes by rw [HBT.out]; exact HSrc.out)
      obtain ⟨Z, hZ⟩ : ∃ Z, Z = (scanU t 0 []).1 := ⟨_, rfl⟩
      obtain ⟨M, hM⟩ : ∃ M, M = (scanU t 0 []).2 := ⟨_, rfl⟩
      have hsu : scanU t 0 [] = scanT (openTab L).2 [] := by rw [scanU_zero, ht]
      have HZ := Lib.hid (show (bn = 0 → Z = 0 ∧ M = R) ∧ (bn ≠ 0 → Z ≠ 0) from ⟨fun h0 => by
        have := (HTU.out.same h0).2
        rw [hZ, hM, hsu, this]
        exact ⟨rfl, rfl⟩, fun h0 => by rw [hZ, hsu]; exact HTU.out.bad h0 hz⟩)
      have hlM : M.length < 100000 := by rw [hM, hsu]; exact HTU.out.few hz
      have HAll := Lib.hid (all_tab p _ _ _ t 0 0 [] w11 T11 HF hSt Q11 HKp (by decide) (by decide) (by rw [HBT.out]; exact HLL.out) (by rw [← hM]; exact hlM))
      rw [← hZ, ← hM] at HAll
      clear hsu hZ hM hT hot hff hbt ht hz k11 hp
      go_wp2_with fail
      refine HAll.out.mono ?_
      rintro e w12 ⟨⟨a12, cap12, rfl, hE12⟩, _, hO12⟩
      have E12 := Lib.hid hE12
      have B12 := Lib.hid (show Below w9.heap.size w9 w12 from K11.out.trans (hO12.below (fun k _ e => by have e2 : k = p := e; have := hp10.out; omega) K11.out.size))
      have E12b := Lib.hid (E9.out.below B12.out)
      have K12 := Lib.hid (K9.out.trans (B12.out.mono K9.out.size))
      clear hE12 hO12 HAll
      by_cases h0 : bn = 0
      · obtain ⟨hZ0, hMR⟩ := HZ.out.1 h0
        subst h0 hZ0
        have hMl : M.length = n := by rw [hMR, HN.out]
        have E13 := Lib.hid (show IsE w12 a12 n R by have := E12.out; rw [hMl, hMR] at this; exact this)
        rw [hMl]
        clear hMR hMl HZ
        go_wp2_with fail
        refine (ref_Same a12 a4 n cap12 c4 R w12 E13 E12b (by omega)).mono ?_
        rintro e w13 ⟨rfl, k13⟩
        have K13 := Lib.hid (K12.out.trans (k13.mono K12.out.size))
        clear k13
        go_wp2_with fail
        go_ret
        exact ⟨rfl, K13.out⟩
      · have hZ0 := HZ.out.2 h0
        have hzb : (Z == 0) = false := beq_eq_false_iff_ne.2 hZ0
        have hbb : ((bn : Int) == 0) = false := beq_eq_false_iff_ne.2 (by omega)
        have hni : ¬ (bn : Int) = 0 := by omega
        have hbe : ((bn : Int) != 0) = true := by rw [bne, hbb]; rfl
        clear HZ hZ0 h0
        go_wp2_with fail
        go_ret
        exact ⟨rfl, K12.out⟩

theorem laidOut : laidOutB Tryd.prog = true := by kernel_rfl
theorem contract (H : Type) (enc : TypeId × Value → H) (W : World) (base : Nat) (args : Array Value) (ds gs : List (DataW H)) (before : List MemPlace)
    (hval : ∀ (j : Nat) t v, Tryd.f4.params[j]? = some t → args[j]? = some v → Value.okWide Tryd.prog W .any base t v)
    (hW : DataW.Whole enc Tryd.prog Tryd.f4.params.toList Rows.tableSpoiltSpec.vars false W args.toList ds gs before) (hL : laidMetH Tryd.prog Rows.tableSpoiltRow.laid W) :
    Calls Tryd.prog 4 args W fun e W' => ∃ v, e = .returned v ∧ Rows.tableSpoiltSpec.post enc Tryd.prog Tryd.f4 false true false false W args v W' := by
  have hW' := hW
  obtain ⟨p, q, hA0, hV, rfl, hfz, hnd⟩ := hW
  have hA : DataW.TrodAll enc Tryd.prog W 0 (fun _ => true) true Tryd.f4.params.toList args.toList ds p := hA0
  rw [Tryd.params4] at hA hval
  obtain ⟨v0, vs0, d0, ds0, p0, q0, hargs0, rfl, rfl, h0, r0⟩ := trodAll_cons hA
  obtain ⟨v1, vs1, d1, ds1, p1, q1, rfl, rfl, rfl, h1, r1⟩ := trodAll_cons r0
  obtain ⟨v2, vs2, d2, ds2, p2, q2, rfl, rfl, rfl, h2, r2⟩ := trodAll_cons r1
  obtain ⟨v3, vs3, d3, ds3, p3, q3, rfl, rfl, rfl, h3, r3⟩ := trodAll_cons r2
  obtain ⟨rfl, rfl, rfl⟩ := trodAll_nil r3
  obtain rfl : args = #[v0, v1, v2, v3] := by cases args; simp_all
  obtain ⟨rfl, rfl⟩ := trodVars_none hV
  obtain ⟨a0, len0, cap0, rfl⟩ := okWide_slice Tryd.underlying22 (hval 0 22 v0 rfl rfl)
  obtain ⟨T0, i0⟩ := open_ents h0
  have k1s := h1
  obtain ⟨n1, rfl, ed1, ep1, wf1⟩ := open_int Tryd.underlying5 (hval 1 5 v1 rfl rfl) k1s
  obtain ⟨lo1, hi1⟩ : 0 ≤ n1 ∧ n1 ≤ 255 := by simp [Lit.wf, IntKind.min, IntKind.max, IntKind.signed, IntKind.bits] at wf1; omega
  have k2s := h2
  obtain ⟨n2, rfl, ed2, ep2, wf2⟩ := open_int Tryd.underlying3 (hval 2 3 v2 rfl rfl) k2s
  obtain ⟨lo2, hi2⟩ : -9223372036854775808 ≤ n2 ∧ n2 ≤ 9223372036854775807 := by simp [Lit.wf, IntKind.min, IntKind.max, IntKind.signed, IntKind.bits] at wf2; omega
  have k3s := h3
  obtain ⟨n3, rfl, ed3, ep3, wf3⟩ := open_int Tryd.underlying5 (hval 3 5 v3 rfl rfl) k3s
  obtain ⟨lo3, hi3⟩ : 0 ≤ n3 ∧ n3 ≤ 255 := by simp [Lit.wf, IntKind.min, IntKind.max, IntKind.signed, IntKind.bits] at wf3; omega
  have lt0 : ∀ x ∈ p0, x.block < W.heap.size := by obtain ⟨m, hm⟩ := h0; exact DataW.trod_lt m _ _ _ hm
  have lt1 : ∀ x ∈ p1, x.block < W.heap.size := by obtain ⟨m, hm⟩ := h1; exact DataW.trod_lt m _ _ _ hm
  have lt2 : ∀ x ∈ p2, x.block < W.heap.size := by obtain ⟨m, hm⟩ := h2; exact DataW.trod_lt m _ _ _ hm
  have lt3 : ∀ x ∈ p3, x.block < W.heap.size := by obtain ⟨m, hm⟩ := h3; exact DataW.trod_lt m _ _ _ hm
  clear hA0
  simp only [List.append_nil] at hW'
  refine (core a0 len0 cap0 T0 n1 n2 n3 W i0 lo1 hi1 lo2 hi2 lo3 hi3 (Lib.hid (glob_of hL))).mono fun e W' ⟨he, bel⟩ => ?_
  subst he
  exact ⟨_, rfl, _, _, _, [], _, [], hW', trodAll_mk1 (shut_bool Tryd.underlying4 _), (trodAll_cons_mk (Below.trod laidOut (by kernel_rfl) (of_decide_eq_true (by kernel_rfl)) h0 bel lt0) (trodAll_cons_mk (Below.trod laidOut (by kernel_rfl) (of_decide_eq_true (by kernel_rfl)) h1 bel lt1) (trodAll_cons_mk (Below.trod laidOut (by kernel_rfl) (of_decide_eq_true (by kernel_rfl)) h2 bel lt2) (trodAll_cons_mk (Below.trod laidOut (by kernel_rfl) (of_decide_eq_true (by kernel_rfl)) h3 bel lt3) trodAll_mk0)))), rfl, bel.frame _, fun h => by cases h⟩

theorem laid_met (os : Os) : laidMet Tryd.prog Rows.tableSpoiltRow.laid ((laidWorld os).forCall (fun _ _ => 0) ⟨#[], #[.slice none 0 0, .int .u8 0, .int .i64 0, .int .u8 0], []⟩).memory :=
  laidMet_of_run' 8 (by kernel_rfl) (by kernel_rfl)
theorem reads (os : Os) {H : Type} (enc : TypeId × Value → H) : ∃ places, DataW.whole enc Tryd.prog ((laidWorld os).forCall (fun _ _ => 0) ⟨#[], #[.slice none 0 0, .int .u8 0, .int .i64 0, .int .u8 0], []⟩).memory Tryd.f4.params.toList Rows.tableSpoiltSpec.vars false #[Value.slice none 0 0, Value.int .u8 0, Value.int .i64 0, Value.int .u8 0].toList 8 = some ([.nil, .lit (.int .u8 0), .lit (.int .i64 0), .lit (.int .u8 0)], [], places) :=
  ⟨[], by kernel_rfl⟩

set_option maxRecDepth 100000 in
theorem lifted (os : Os) (started : os.Started) (H : Type) (enc : TypeId × Value → H) (F : Stop.Interp) :
    ReturnsInHanded {} Tryd.checked os 4 .any ((OpenSpec.ofChange Rows.tableSpoiltSpec).preRow enc Tryd.prog Tryd.f4 Rows.tableSpoiltRow.domain false Rows.tableSpoiltRow.laid) (((OpenSpec.ofChange Rows.tableSpoiltSpec).at F).post enc Tryd.prog Tryd.f4 false true false false) := by
  obtain ⟨places, hx⟩ := reads os enc
  refine returnsInHanded_of_row (C := Tryd.checked) (s := OpenSpec.ofChange Rows.tableSpoiltSpec) own started (by kernel_rfl) Tryd.func4
    (witness_row_at (enc := enc) (C := Tryd.checked) false (laidWorld os) #[.slice none 0 0, .int .u8 0, .int .i64 0, .int .u8 0] rfl (by kernel_rfl) (by kernel_rfl) (by kernel_rfl)
      (OpenSpec.preRow_of_cond 8 hx (by kernel_rfl) (fun k hk => by cases hk) (by kernel_rfl) (laid_met os))) ?_
  intro W base args ds gs before hval hW _ _ _ hL _ _
  exact contract H enc W base args ds gs before hval hW hL

theorem said : Rows.TableSpoiltSaid :=
  OpenClaim.holds_of_cond 4 Tryd.f4 rfl rfl rfl rfl rfl rfl rfl ⟨rfl, rfl, rfl, rfl, rfl⟩ rfl rfl rfl rfl rfl (by kernel_rfl) Tryd.func4 (by kernel_rfl)
    (of_decide_eq_true (by kernel_rfl)) (by unfold Func.isWrapper; first | (rw [if_pos (by decide +kernel)]; kernel_rfl) | (rw [if_neg (by decide +kernel)]; exact ⟨rfl, rfl⟩))
    (fun os started H enc _ F => by rw [OpenClaim.pre_eq_preRow]; exact lifted os started H enc F)

/-- No parameter wants a stand-in; the program's own looks are off. -/
theorem plain (f : FuncId) (fn : Func) (hf : Tryd.pinned.checked.prog.funcNamed "silo/silolaw09.TableSpoilt" = some f) (hfn : Tryd.pinned.checked.prog.funcs[f]? = some fn) :
    false = Tryd.pinned.checked.prog.looks [] ∧ ∀ (j : Nat) t, fn.params[j]? = some t → Tryd.pinned.checked.prog.wantsStandIn t = false := by
  obtain rfl : f = 4 := Option.some.inj ((show Tryd.prog.funcNamed "silo/silolaw09.TableSpoilt" = some 4 by kernel_rfl).symm.trans hf) |>.symm
  obtain rfl : fn = Tryd.f4 := (Option.some.inj (Tryd.func4.symm.trans hfn)).symm
  refine ⟨by kernel_rfl, fun j t ht => ?_⟩
  rw [Tryd.params4] at ht
  have hm : t ∈ [22, 5, 3, 5] := by simpa using Array.mem_of_getElem? ht
  have hall : ([22, 5, 3, 5].all fun u => !Tryd.prog.wantsStandIn u) = true := by kernel_rfl
  exact (show Tryd.prog.wantsStandIn t = false by simpa using List.all_eq_true.1 hall t hm)

/-- ████ THE CARD ████ -/
theorem proved : Rows.TableSpoiltCardSaid :=
  Claim7.holds_tied_plain_at .later [] _ _ _ _ said (fun _ h => by cases h) (by kernel_rfl) (fun _ h => by cases h) tableSpoilt_row_tie rfl ⟨rfl, rfl⟩ (by kernel_rfl) rfl plain (by kernel_rfl)
#print axioms proved
end Go.Proofs.YteejldddgogbkaaDoor.tableSpoilt
