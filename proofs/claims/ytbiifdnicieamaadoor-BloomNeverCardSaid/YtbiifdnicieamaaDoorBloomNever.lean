/- BloomNever: a key of the filter is never denied, before and after it is packed, and the filter's shape keeps its bound, for every input; no condition beside the round numbers that the program lays (tied). -/
import Derived.Test.YtbiifdnicieamaaDoorBloomOpen
import Derived.Test.YtbiifdnicieamaaDoorBloomSame
set_option linter.unusedVariables false
set_option maxRecDepth 100000
namespace Go.Proofs.YtbiifdnicieamaaDoor.bloomNever
open Go.ChangeShapes Go.WideShapes Go.ChangeAt Go.RowKit
open Go.ChangeMaps (open_string shut_string)

/-- A call from a world that is not known in each of its words. -/
theorem seen_call {F : FuncId} {args : Array Value} {v : Value} {w : World} (h : ∀ n : Seen w, Calls Tryd.prog F args n.val fun e w' => e = .returned v ∧ Below n.val.heap.size n.val w') (n : Seen w) :
    Calls Tryd.prog F args n.val fun e w'' => e = .returned v ∧ ∃ q : Seen w, w'' = q.val :=
  (h n).mono fun _ w'' ⟨h1, h2⟩ => ⟨h1, ⟨⟨w'', n.below.trans (h2.mono n.below.size)⟩, rfl⟩⟩

set_option maxHeartbeats 2000000 in
theorem core (per : Int) (a : Option Addr) (len cap : Nat) (T : List ByteArray) (w : World) (lo : 0 ≤ per) (hi' : per ≤ 255) (hx : Tx w a len T) (hg : Hid (Glob w)) :
    Calls Tryd.prog 4 #[.int .u8 per, .slice a len cap] w fun e w' => e = .returned (.bool true) ∧ Below w.heap.size w w' := by
  obtain ⟨⟨hlen, kb, koff, hab, hz⟩, hl, hts⟩ := hx
  have HZ := Lib.hid hz
  have HAB := Lib.hid hab
  have HLEN := Lib.hid hlen
  have HTS := Lib.hid hts
  clear hz hab hlen hts
  go_enter Tryd.func4, Tryd.ntmps4
  go_wp2_with fail
  refine (law_awake w hg).mono ?_
  rintro e w1 ⟨rfl, k1⟩
  have K1 := Lib.hid k1
  have G1 := Lib.hid (hg.out.keep k1 hg.out.1)
  have HZ1 := Lib.hid (HZ.out.below k1)
  clear k1
  go_wp2_with fail
  refine (law_few a kb koff len cap T w1 HLEN hl HZ1 HAB HTS).mono ?_
  rintro e _ ⟨rfl, rfl⟩
  obtain ⟨r, hr⟩ : ∃ r, r = fewB T := ⟨_, rfl⟩
  rw [← hr]
  have HR := Lib.hid hr
  clear hr
  cases r with
  | false =>
    go_wp2_with fail
    refine (law_awake w1 G1).mono ?_
    rintro e w2 ⟨rfl, k2⟩
    have K2 := Lib.hid k2
    clear k2
    go_wp2_with fail
    go_ret
    exact ⟨rfl, K1.out.trans (K2.out.mono K1.out.size)⟩
  | true =>
    have hfew := Lib.hid (few_of HR.out.symm)
    have hl20 : len ≤ 2000 := by rw [HLEN.out]; exact hfew.out.1
    obtain ⟨p, hp⟩ : ∃ p : Nat, p = (per % 32).toNat + 1 := ⟨_, rfl⟩
    have hp1 : 1 ≤ p := by omega
    have hp2 : p ≤ 32 := by omega
    clear HR
    go_wp2_with fail
    have hpm : 1 + per % 32 = (p : Int) := by omega
    rw [hpm]
    obtain ⟨q, hq⟩ : ∃ q, q = per % 32 := ⟨_, rfl⟩
    rw [← hq]
    clear hpm hq hp
    refine (flt_Make p a len cap kb koff T w1 hp1 hp2 HLEN (by omega) HZ1 HAB (Lib.hid fun t ht => Nat.le_trans (hfew.out.2 t ht) (by omega)) G1).mono ?_
    rintro e w2 ⟨rfl, hF, k2⟩
    have K2 := Lib.hid (K1.out.trans (k2.mono K1.out.size))
    have G2 := Lib.hid (G1.out.keep k2 G1.out.1)
    have HZ2 := Lib.hid (HZ1.out.below k2)
    clear k2
    have hm1 := wordsOf_pos p len
    have hm2 : wordsOf p len * 8 ≤ 300000 := by
      have h2 : p * len ≤ 32 * 65536 := Nat.mul_le_mul hp2 (by omega)
      unfold wordsOf
      omega
    obtain ⟨h, hh⟩ : ∃ h, h = hashesOf p := ⟨_, rfl⟩
    obtain ⟨o, ho⟩ : ∃ o, o = wordsOf p len := ⟨_, rfl⟩
    have h18 := hashesOf_le p
    rw [← hh] at h18
    rw [← ho] at hm1 hm2
    obtain ⟨m, hm⟩ : ∃ m, m = o * 8 := ⟨_, rfl⟩
    obtain ⟨N, hN⟩ : ∃ N, N = m * 8 := ⟨_, rfl⟩
    obtain ⟨f, hf⟩ : ∃ f, f = made h N (T.map (·.data.toList)) := ⟨_, rfl⟩
    obtain ⟨L, hL⟩ : ∃ L, L = bytesOf f m := ⟨_, rfl⟩
    rw [← hh, ← ho, ← hm, ← hN, ← hf, ← hL] at hF
    have HF := Lib.hid hF
    have hLm := Lib.hid (show m = L.length by rw [hL, bytesOf_len])
    have hm1' : 8 ≤ m := by omega
    have hm2' : m ≤ 300000 := by omega
    have hN0 : 0 < N := by omega
    have HNm := Lib.hid hN
    have hbit : ∀ x, x < N → bitAt L x = f x := fun x hx => by rw [hL]; exact bitAt_bytesOf f m x (by omega)
    have HAS := Lib.hid (show ∀ t ∈ T, hasB h N (bitAt L) t.data.toList = true from fun t ht => by
      rw [hasB_congr hN0 hbit, hf]
      exact has_made (List.mem_map.2 ⟨t, ht, rfl⟩))
    obtain ⟨u, hu⟩ : ∃ u, u = ones (bitAt L) (8 * m) := ⟨_, rfl⟩
    have hu1 : u ≤ h * len := by
      rw [hu, show 8 * m = N by omega, ones_congr hbit, hf, HLEN.out]
      exact Nat.le_trans (ones_made h N N _) (by simp)
    have hu2 : u ≤ m * 8 := by rw [hu]; exact Nat.le_trans (ones_le _ _) (by omega)
    obtain ⟨P, hP⟩ : ∃ P, P = packF h L := ⟨_, rfl⟩
    have hop := open_pack (h := h) (L := L) h18.1 h18.2 (by intro h0; rw [h0] at hLm; have := hLm.out; simp at this; omega) (by rw [← hLm.out, hm]; omega) (by rw [← hLm.out]; omega)
    have hPs : P.length ≤ maxLen := by
      rw [hP, packF, List.length_append]
      have k1 := (whole_len (n := (h : Int)) (by omega) (by omega)).1
      have k2 := (whole_len (n := (L.length : Int)) (by omega) (by rw [← hLm.out]; omega)).1
      have k3 := hLm.out
      simp only [text, List.length_append]
      unfold maxLen
      omega
    rw [← hP] at hop
    obtain ⟨e, he⟩ : ∃ e, e = h * len := ⟨_, rfl⟩
    have he1 : (h : Int) * (len : Int) = (e : Int) := by rw [he]; exact (Int.natCast_mul _ _).symm
    have he2 : e ≤ 16000 := by rw [he]; exact Nat.mul_le_mul h18.2 hl20
    rw [← he] at hu1
    have HPK := Lib.hid (fun (b gb : Nat) (W : World) (hW : Flt b gb h L W) => by
      have h := flt_pack b gb h m L W (Lib.hid hW) hLm (by omega) h18.2
      rw [← hP] at h
      exact h)
    have HU := Lib.hid hu
    have HOP := Lib.hid hop
    obtain ⟨h1, h8⟩ := h18
    clear hF hh ho hm hN hf hL hbit hop hu hP he hm1 hm2
    go_wp2_with fail
    refine (HPK.out _ _ w2 HF.out).mono ?_
    rintro e' w3 ⟨rfl, k3⟩
    have K3 := Lib.hid (K2.out.trans (k3.mono K2.out.size))
    have G3 := Lib.hid (G2.out.keep k3 G2.out.1)
    have HZ3 := Lib.hid (HZ2.out.below k3)
    have HF3 := Lib.hid (HF.out.below k3)
    clear k3 HF
    go_wp2_with fail
    refine (flt_Open (bs P) w3 (by rw [bs_size]; exact hPs)).mono ?_
    rintro e' w4 ⟨k4, hO⟩
    rw [bs_list] at hO
    have K4 := Lib.hid (K3.out.trans (k4.mono K3.out.size))
    have G4 := Lib.hid (G3.out.keep k4 G3.out.1)
    have HZ4 := Lib.hid (HZ3.out.below k4)
    have HF4 := Lib.hid (HF3.out.below k4)
    clear k4 HF3
    rcases hO with ⟨hE, _⟩ | ⟨hE, b, gb, hbB, hgB, rfl, hFg⟩
    · exact absurd HOP.out.1 hE
    · rw [HOP.out.2.1, HOP.out.2.2] at hFg
      have HFg := Lib.hid hFg
      clear hFg hE hbB hgB
      go_wp2_with fail
      refine (HPK.out _ _ w4 HFg.out).mono ?_
      rintro e' w5 ⟨rfl, k5⟩
      have K5 := Lib.hid (K4.out.trans (k5.mono K4.out.size))
      have G5 := Lib.hid (G4.out.keep k5 G4.out.1)
      have HZ5 := Lib.hid (HZ4.out.below k5)
      have HF5 := Lib.hid (HF4.out.below k5)
      have HFg5 := Lib.hid (HFg.out.below k5)
      clear k5 HF4 HFg
      go_wp2_with fail
      refine (HPK.out _ _ w5 HF5.out).mono ?_
      rintro e' w6 ⟨rfl, k6⟩
      have K6 := Lib.hid (K5.out.trans (k6.mono K5.out.size))
      have G6 := Lib.hid (G5.out.keep k6 G5.out.1)
      have HZ6 := Lib.hid (HZ5.out.below k6)
      have HF6 := Lib.hid (HF5.out.below k6)
      have HFg6 := Lib.hid (HFg5.out.below k6)
      clear k6 HF5 HFg5
      obtain ⟨c, hc⟩ : ∃ c, c = w1.heap.size + 1 := ⟨_, rfl⟩
      rw [← hc] at HF6 ⊢
      clear hc
      have HB6 := Lib.hid (Below.refl w6.heap.size w6)
      go_wp2_with fail
      go_loopw [8] (fun vi wr => ∃ k : Nat, k ≤ len ∧ vi = .int .i64 k ∧ Hid (Below w6.heap.size w6 wr)) (fun vi wr => len - (intOf vi).toNat)
      case atStart => exact ⟨0, by omega, rfl, HB6⟩
      case round =>
        obtain ⟨k, hk, rfl, hB⟩ := hrel
        rcases Nat.lt_or_ge k len with hlt | hge
        · have hkT : k < T.length := by rw [← HLEN.out]; exact hlt
          have ha : a = some ⟨kb, koff, none⟩ := by rcases HAB.out with h | h; (omega); (exact h)
          obtain ⟨t, ht⟩ : ∃ t, t = T.getD k ByteArray.empty := ⟨_, rfl⟩
          have htk : t = T[k] := by rw [ht, List.getD_eq_getElem?_getD, List.getElem?_eq_getElem hkT]; rfl
          have htT : t ∈ T := by rw [htk]; exact List.getElem_mem hkT
          have hts : t.size ≤ 100000 := hfew.out.2 t htT
          have hbt : t = bs t.data.toList := bs_eq rfl
          have hsz : t.data.toList.length ≤ 100000 := by rw [← Lib.size_eq]; exact hts
          have HTr := Lib.hid (fun (W : World) (kk : Below wr.heap.size wr W) => (show W.cell? ⟨kb, koff + k, none⟩ = some (.string t) by rw [ht]; exact (((HZ6.out.below hB.out).below kk) k hkT).2))
          have HH := Lib.hid (fun (b gb : Nat) (W : World) (hW : Flt b gb h L W) (hG : Glob W) => by
            have h := flt_has b gb h m N L t.data.toList W (Lib.hid hW) (Lib.hid hG) hLm (by omega) HNm hN0 h8 (Lib.hid (by omega))
            rw [HAS.out t htT, ← hbt] at h
            exact h)
          have FF := Lib.hid (HF6.out.below hB.out)
          have FG := Lib.hid (HFg6.out.below hB.out)
          have GG := Lib.hid (G6.out.keep hB.out G6.out.1)
          have e0 : wr.cell? ⟨kb, koff + k, none⟩ = some (.string t) := HTr.out wr (Below.refl _ _)
          subst ha
          clear ht htk htT hbt hts
          go_wp2_with fail
          refine (HH.out _ _ wr FF.out GG.out).mono ?_
          rintro e' w7 ⟨rfl, k7⟩
          have K7 := Lib.hid k7
          have e1 : w7.cell? ⟨kb, koff + k, none⟩ = some (.string t) := HTr.out w7 k7
          have FG7 := Lib.hid (FG.out.below k7)
          have GG7 := Lib.hid (GG.out.keep k7 GG.out.1)
          clear k7 e0
          go_wp2_with fail
          refine (HH.out _ _ w7 FG7.out GG7.out).mono ?_
          rintro e' w8 ⟨rfl, k8⟩
          have K8 := Lib.hid (hB.out.trans ((K7.out.trans (k8.mono K7.out.size)).mono hB.out.size))
          clear k8 e1
          go_wp2_with fail
          go_roundw
          case rel => exact ⟨k + 1, by omega, by go_num, K8⟩
          case measure => simp [intOf]; omega
        · obtain rfl : k = len := by omega
          have FF := Lib.hid (HF6.out.below hB.out)
          go_wp2_with fail
          refine (flt_shape c w1.heap.size h m L wr FF hLm (by omega)).mono ?_
          rintro e' w7 ⟨rfl, k7⟩
          rw [← HU.out]
          have K7 := Lib.hid (K6.out.trans ((hB.out.trans (k7.mono hB.out.size)).mono K6.out.size))
          clear k7
          have hd1 : ((u : Nat) : Int) ≤ (e : Int) := by omega
          have hd2 : ((u : Nat) : Int) ≤ (m : Int) * 8 := by omega
          go_wp2_with fail
          go_ret
          exact ⟨by first | rfl | simp, K7.out⟩

theorem laidOut : laidOutB Tryd.prog = true := by kernel_rfl
theorem contract (H : Type) (enc : TypeId × Value → H) (W : World) (base : Nat) (args : Array Value) (ds gs : List (DataW H)) (before : List MemPlace)
    (hval : ∀ (j : Nat) t v, Tryd.f4.params[j]? = some t → args[j]? = some v → Value.okWide Tryd.prog W .any base t v)
    (hW : DataW.Whole enc Tryd.prog Tryd.f4.params.toList Rows.bloomNeverSpec.vars false W args.toList ds gs before) (hL : laidMetH Tryd.prog Rows.bloomNeverRow.laid W) :
    Calls Tryd.prog 4 args W fun e W' => ∃ v, e = .returned v ∧ Rows.bloomNeverSpec.post enc Tryd.prog Tryd.f4 false true false false W args v W' := by
  have hW' := hW
  obtain ⟨p, q, hA0, hV, rfl, hfz, hnd⟩ := hW
  have hA : DataW.TrodAll enc Tryd.prog W 0 (fun _ => true) true Tryd.f4.params.toList args.toList ds p := hA0
  rw [Tryd.params4] at hA hval
  obtain ⟨v0, vs0, d0, ds0, p0, q0, hargs0, rfl, rfl, h0, r0⟩ := trodAll_cons hA
  obtain ⟨v1, vs1, d1, ds1, p1, q1, rfl, rfl, rfl, h1, r1⟩ := trodAll_cons r0
  obtain ⟨rfl, rfl, rfl⟩ := trodAll_nil r1
  obtain rfl : args = #[v0, v1] := by cases args; simp_all
  obtain ⟨rfl, rfl⟩ := trodVars_none hV
  have k0s := h0
  obtain ⟨n0, rfl, ed0, ep0, wf0⟩ := open_int Tryd.underlying5 (hval 0 5 v0 rfl rfl) k0s
  obtain ⟨lo0, hi0⟩ : 0 ≤ n0 ∧ n0 ≤ 255 := by simp [Lit.wf, IntKind.min, IntKind.max, IntKind.signed, IntKind.bits] at wf0; omega
  obtain ⟨a1, len1, cap1, rfl⟩ := okWide_slice Tryd.underlying22 (hval 1 22 v1 rfl rfl)
  obtain ⟨T1, i1⟩ := open_tx h1
  have lt0 : ∀ x ∈ p0, x.block < W.heap.size := by obtain ⟨m, hm⟩ := h0; exact DataW.trod_lt m _ _ _ hm
  have lt1 : ∀ x ∈ p1, x.block < W.heap.size := by obtain ⟨m, hm⟩ := h1; exact DataW.trod_lt m _ _ _ hm
  clear hA0
  simp only [List.append_nil] at hW'
  refine (core n0 a1 len1 cap1 T1 W lo0 hi0 i1 (Lib.hid (glob_of hL))).mono fun e W' ⟨he, bel⟩ => ?_
  subst he
  exact ⟨_, rfl, _, _, _, [], _, [], hW', trodAll_mk1 (shut_bool Tryd.underlying4 _), (trodAll_cons_mk (Below.trod laidOut (by kernel_rfl) (of_decide_eq_true (by kernel_rfl)) h0 bel lt0) (trodAll_cons_mk (Below.trod laidOut (by kernel_rfl) (of_decide_eq_true (by kernel_rfl)) h1 bel lt1) trodAll_mk0)), rfl, bel.frame _, fun h => by cases h⟩

theorem laid_met (os : Os) : laidMet Tryd.prog Rows.bloomNeverRow.laid ((laidWorld os).forCall (fun _ _ => 0) ⟨#[], #[.int .u8 0, .slice none 0 0], []⟩).memory :=
  laidMet_of_run' 8 (by kernel_rfl) (by kernel_rfl)
theorem reads (os : Os) {H : Type} (enc : TypeId × Value → H) : ∃ places, DataW.whole enc Tryd.prog ((laidWorld os).forCall (fun _ _ => 0) ⟨#[], #[.int .u8 0, .slice none 0 0], []⟩).memory Tryd.f4.params.toList Rows.bloomNeverSpec.vars false #[Value.int .u8 0, Value.slice none 0 0].toList 8 = some ([.lit (.int .u8 0), .nil], [], places) :=
  ⟨[], by kernel_rfl⟩

set_option maxRecDepth 100000 in
theorem lifted (os : Os) (started : os.Started) (H : Type) (enc : TypeId × Value → H) (F : Stop.Interp) :
    ReturnsInHanded {} Tryd.checked os 4 .any ((OpenSpec.ofChange Rows.bloomNeverSpec).preRow enc Tryd.prog Tryd.f4 Rows.bloomNeverRow.domain false Rows.bloomNeverRow.laid) (((OpenSpec.ofChange Rows.bloomNeverSpec).at F).post enc Tryd.prog Tryd.f4 false true false false) := by
  obtain ⟨places, hx⟩ := reads os enc
  refine returnsInHanded_of_row (C := Tryd.checked) (s := OpenSpec.ofChange Rows.bloomNeverSpec) own started (by kernel_rfl) Tryd.func4
    (witness_row_at (enc := enc) (C := Tryd.checked) false (laidWorld os) #[.int .u8 0, .slice none 0 0] rfl (by kernel_rfl) (by kernel_rfl) (by kernel_rfl)
      (OpenSpec.preRow_of_cond 8 hx (by kernel_rfl) (fun k hk => by cases hk) (by kernel_rfl) (laid_met os))) ?_
  intro W base args ds gs before hval hW _ _ _ hL _ _
  exact contract H enc W base args ds gs before hval hW hL

theorem said : Rows.BloomNeverSaid :=
  OpenClaim.holds_of_cond 4 Tryd.f4 rfl rfl rfl rfl rfl rfl rfl ⟨rfl, rfl, rfl, rfl, rfl⟩ rfl rfl rfl rfl rfl (by kernel_rfl) Tryd.func4 (by kernel_rfl)
    (of_decide_eq_true (by kernel_rfl)) (by unfold Func.isWrapper; first | (rw [if_pos (by decide +kernel)]; kernel_rfl) | (rw [if_neg (by decide +kernel)]; exact ⟨rfl, rfl⟩))
    (fun os started H enc _ F => by rw [OpenClaim.pre_eq_preRow]; exact lifted os started H enc F)

/-- No parameter wants a stand-in; the program's own looks are off. -/
theorem plain (f : FuncId) (fn : Func) (hf : Tryd.pinned.checked.prog.funcNamed "silo/silolaw07.BloomNever" = some f) (hfn : Tryd.pinned.checked.prog.funcs[f]? = some fn) :
    false = Tryd.pinned.checked.prog.looks [] ∧ ∀ (j : Nat) t, fn.params[j]? = some t → Tryd.pinned.checked.prog.wantsStandIn t = false := by
  obtain rfl : f = 4 := Option.some.inj ((show Tryd.prog.funcNamed "silo/silolaw07.BloomNever" = some 4 by kernel_rfl).symm.trans hf) |>.symm
  obtain rfl : fn = Tryd.f4 := (Option.some.inj (Tryd.func4.symm.trans hfn)).symm
  refine ⟨by kernel_rfl, fun j t ht => ?_⟩
  rw [Tryd.params4] at ht
  have hm : t ∈ [5, 22] := by simpa using Array.mem_of_getElem? ht
  have hall : ([5, 22].all fun u => !Tryd.prog.wantsStandIn u) = true := by kernel_rfl
  exact (show Tryd.prog.wantsStandIn t = false by simpa using List.all_eq_true.1 hall t hm)

/-- ████ THE CARD ████ -/
theorem proved : Rows.BloomNeverCardSaid :=
  Claim7.holds_tied_plain_at .later [] _ _ _ _ said (fun _ h => by cases h) (by kernel_rfl) (fun _ h => by cases h) bloomNever_row_tie rfl ⟨rfl, rfl⟩ (by kernel_rfl) rfl plain (by kernel_rfl)
#print axioms proved
end Go.Proofs.YtbiifdnicieamaaDoor.bloomNever
