/- BloomOpens: any bytes are a filter, or refused, as the document says. For every input; no condition beside the round numbers that the program lays (tied). -/
import Derived.Test.YtbiifdnicieamaaDoorBloomOpen
import Derived.Test.YtbiifdnicieamaaDoorBloomSame
set_option linter.unusedVariables false
set_option maxRecDepth 100000
namespace Go.Proofs.YtbiifdnicieamaaDoor.bloomOpens
open Go.ChangeShapes Go.WideShapes Go.ChangeAt Go.RowKit
open Go.ChangeMaps (open_string shut_string)

set_option maxHeartbeats 2000000 in
theorem core (s : ByteArray) (a : Option Addr) (len cap : Nat) (T : List ByteArray) (w : World) (hs : s.size ≤ 9223372036854775807) (hx : Tx w a len T) (hg : Hid (Glob w)) : Calls Tryd.prog 5 #[.string s, .slice a len cap] w fun e w' => e = .returned (.bool true) ∧ Below w.heap.size w w' := by
  obtain ⟨⟨hlen, kb, koff, hab, hz⟩, hl, hts⟩ := hx
  have HZ := Lib.hid hz
  have HAB := Lib.hid hab
  have HLEN := Lib.hid hlen
  have HTS := Lib.hid hts
  clear hz hab hlen hts
  go_enter Tryd.func5, Tryd.ntmps5
  go_wp2_with fail
  refine (law_awake w hg).mono ?_
  rintro e w1 ⟨rfl, k1⟩
  have K1 := Lib.hid k1
  have G1 := Lib.hid (hg.out.keep k1 hg.out.1)
  clear k1
  go_wp2_with fail
  refine (law_few a kb koff len cap T w1 HLEN hl (Lib.hid (HZ.out.below K1.out)) HAB HTS).mono ?_
  rintro e _ ⟨rfl, rfl⟩
  obtain ⟨r, hr⟩ : ∃ r, r = fewB T := ⟨_, rfl⟩
  rw [← hr]
  have HR := Lib.hid hr
  clear hr
  cases r with
  | false =>
    go_wp2_with fail
    refine (law_awake w1 G1).mono ?_
    rintro e w2 ⟨rfl, k2⟩
    have K2 := Lib.hid k2
    clear k2
    go_wp2_with fail
    go_ret
    exact ⟨rfl, K1.out.trans (K2.out.mono K1.out.size)⟩
  | true =>
    have hfew := Lib.hid (few_of HR.out.symm)
    by_cases hs1 : 100000 < s.size
    · go_wp2_with fail
      refine (law_awake w1 G1).mono ?_
      rintro e w2 ⟨rfl, k2⟩
      have K2 := Lib.hid k2
      clear k2
      go_wp2_with fail
      go_ret
      exact ⟨rfl, K1.out.trans (K2.out.mono K1.out.size)⟩
    · have hsz : s.size ≤ 100000 := by omega
      obtain ⟨l, hl'⟩ : ∃ l, l = s.data.toList := ⟨_, rfl⟩
      have HL := Lib.hid hl'
      have Hll := Lib.hid (show l.length ≤ 100000 by rw [hl', ← Lib.size_eq]; exact hsz)
      go_wp2_with fail
      refine (flt_Open s w1 (by unfold maxLen; omega)).mono ?_
      rintro e w2 ⟨k2, hO⟩
      have K2 := Lib.hid (K1.out.trans (k2.mono K1.out.size))
      have K12 := Lib.hid k2
      have G2 := Lib.hid (G1.out.keep k2 G1.out.1)
      rw [← HL.out] at hO
      clear k2
      rcases hO with ⟨hE, rfl⟩ | ⟨hE, b, gb, hbB, hgB, rfl, hF⟩
      · obtain ⟨E, hE'⟩ : ∃ E, E = openE l := ⟨_, rfl⟩
        have HE := Lib.hid hE
        have HE' := Lib.hid hE'
        rw [← hE']
        have hb0 : (E == 0) = false := by rw [hE', beq_eq_false_iff_ne]; exact hE
        have hbn : (E != 0) = true := by rw [bne, hb0]; rfl
        clear hE hE'
        go_wp2_with fail
        refine (ref_Open s w2 (by omega)).mono ?_
        rintro e w3 ⟨k3, hO3⟩
        rw [← HL.out] at hO3
        have K3 := Lib.hid (K2.out.trans (k3.mono K2.out.size))
        clear k3
        rcases hO3 with ⟨_, rfl⟩ | ⟨h0, _⟩
        · rw [← HE'.out]
          unfold noF
          go_wp2_with fail
          go_ret
          exact ⟨rfl, K3.out.alloc K3.out.size _⟩
        · exact absurd h0 HE.out
      · have HE := Lib.hid hE
        clear hE
        have HF := Lib.hid hF
        clear hF
        obtain ⟨hpk, ho1, ho8, hne, hm8, hle⟩ := open_ok HE.out
        go_wp2_with fail
        refine (ref_Open s w2 (by omega)).mono ?_
        rintro e w3 ⟨k3, hO3⟩
        rw [← HL.out] at hO3
        have K3 := Lib.hid (K2.out.trans (k3.mono K2.out.size))
        have G3 := Lib.hid (G2.out.keep k3 G2.out.1)
        have HF3 := Lib.hid (HF.out.below k3)
        have K13 := Lib.hid (K12.out.trans (k3.mono K12.out.size))
        clear k3
        rcases hO3 with ⟨h0, _⟩ | ⟨_, g, cp, hgB3, rfl, hR⟩
        · exact absurd HE.out h0
        · obtain ⟨m, hm⟩ : ∃ m, m = (openT l).length := ⟨_, rfl⟩
          obtain ⟨h, hh⟩ : ∃ h, h = openH l := ⟨_, rfl⟩
          obtain ⟨L, hL⟩ : ∃ L, L = openT l := ⟨_, rfl⟩
          obtain ⟨N, hN⟩ : ∃ N, N = 8 * m := ⟨_, rfl⟩
          have hmL : m = L.length := by rw [hm, hL]
          have hm1 : 1 ≤ m := by
            rw [hmL, hL]
            cases h0 : openT l with
            | nil => exact absurd h0 hne
            | cons x y => simp
          have hm5 : m ≤ 100000 := by rw [hm]; exact Nat.le_trans hle Hll.out
          rw [← hh] at ho1 ho8 hpk
          rw [← hL] at hpk
          rw [← hm, ← hL, ← hN] at hR
          rw [← hh, ← hL] at HF3
          rw [← hh, ← hm, ← hN]
          unfold fv
          have hsb : s = bs l := by rw [HL.out]; exact bs_eq rfl
          obtain ⟨W4, hW4⟩ : ∃ W4, W4 = w3.alloc (.cells #[.int .i64 (h : Int), .slice (some ⟨g, 0, none⟩) N cp] 31) := ⟨_, rfl⟩
          have B4 := Lib.hid (show Below w3.heap.size w3 W4 by rw [hW4]; exact (Below.refl _ _).alloc (Nat.le_refl _) _)
          have HS := Lib.hid (law_same b gb h m N g cp (bitAt L) L a kb koff len cap T W4 (Lib.hid (HF3.out.below B4.out)) (Lib.hid (by rw [hmL]; exact (bytesOf_bitAt L).symm)) (Lib.hid (hR.below B4.out)) (Lib.hid (G3.out.keep B4.out G3.out.1)) (Lib.hid (by rw [hN]; omega)) ho1 ho8 hm1 (by omega) HLEN hl
            (Lib.hid (((HZ.out.below K1.out).below K13.out).below B4.out)) HAB (Lib.hid hfew.out.2))
          unfold fv at HS
          have HPK := Lib.hid (fun (W : World) (k : Below W4.heap.size W4 W) => flt_pack b gb h m L W (Lib.hid ((HF3.out.below B4.out).below k)) (Lib.hid hmL) (by omega) ho8)
          rw [hpk, ← hsb] at HPK
          have HW4 := Lib.hid hW4
          have K4 := Lib.hid (K3.out.trans (B4.out.mono K3.out.size))
          clear hm hh hL hN hmL hm1 hm5 hR hW4 ho1 ho8 hpk hne hm8 hle hsb
          go_wp2_with fail
          rw [← HW4.out]
          refine HS.out.mono ?_
          rintro e w5 ⟨rfl, k5⟩
          have K5 := Lib.hid k5
          clear k5
          go_wp2_with fail
          refine (HPK.out w5 K5.out).mono ?_
          rintro e w6 ⟨rfl, k6⟩
          have K6 := Lib.hid ((K4.out.trans (K5.out.mono K4.out.size)).trans (k6.mono (K4.out.trans (K5.out.mono K4.out.size)).size))
          clear k6
          go_wp2_with fail
          go_ret
          exact ⟨by first | rfl | simp, K6.out⟩

theorem laidOut : laidOutB Tryd.prog = true := by kernel_rfl
theorem contract (H : Type) (enc : TypeId × Value → H) (W : World) (base : Nat) (args : Array Value) (ds gs : List (DataW H)) (before : List MemPlace)
    (hval : ∀ (j : Nat) t v, Tryd.f5.params[j]? = some t → args[j]? = some v → Value.okWide Tryd.prog W .any base t v)
    (hW : DataW.Whole enc Tryd.prog Tryd.f5.params.toList Rows.bloomOpensSpec.vars false W args.toList ds gs before) (hL : laidMetH Tryd.prog Rows.bloomOpensRow.laid W) :
    Calls Tryd.prog 5 args W fun e W' => ∃ v, e = .returned v ∧ Rows.bloomOpensSpec.post enc Tryd.prog Tryd.f5 false true false false W args v W' := by
  have hW' := hW
  obtain ⟨p, q, hA0, hV, rfl, hfz, hnd⟩ := hW
  have hA : DataW.TrodAll enc Tryd.prog W 0 (fun _ => true) true Tryd.f5.params.toList args.toList ds p := hA0
  rw [Tryd.params5] at hA hval
  obtain ⟨v0, vs0, d0, ds0, p0, q0, hargs0, rfl, rfl, h0, r0⟩ := trodAll_cons hA
  obtain ⟨v1, vs1, d1, ds1, p1, q1, rfl, rfl, rfl, h1, r1⟩ := trodAll_cons r0
  obtain ⟨rfl, rfl, rfl⟩ := trodAll_nil r1
  obtain rfl : args = #[v0, v1] := by cases args; simp_all
  obtain ⟨rfl, rfl⟩ := trodVars_none hV
  have k0s := h0
  obtain ⟨s0, rfl, ed0, ep0, ws0⟩ := open_string Tryd.underlying9 (hval 0 9 v0 rfl rfl) k0s
  obtain ⟨a1, len1, cap1, rfl⟩ := okWide_slice Tryd.underlying22 (hval 1 22 v1 rfl rfl)
  obtain ⟨T1, i1⟩ := open_tx h1
  have lt0 : ∀ x ∈ p0, x.block < W.heap.size := by obtain ⟨m, hm⟩ := h0; exact DataW.trod_lt m _ _ _ hm
  have lt1 : ∀ x ∈ p1, x.block < W.heap.size := by obtain ⟨m, hm⟩ := h1; exact DataW.trod_lt m _ _ _ hm
  clear hA0
  simp only [List.append_nil] at hW'
  refine (core s0 a1 len1 cap1 T1 W ws0 i1 (Lib.hid (glob_of hL))).mono fun e W' ⟨he, bel⟩ => ?_
  subst he
  exact ⟨_, rfl, _, _, _, [], _, [], hW', trodAll_mk1 (shut_bool Tryd.underlying4 _), (trodAll_cons_mk (Below.trod laidOut (by kernel_rfl) (of_decide_eq_true (by kernel_rfl)) h0 bel lt0) (trodAll_cons_mk (Below.trod laidOut (by kernel_rfl) (of_decide_eq_true (by kernel_rfl)) h1 bel lt1) trodAll_mk0)), rfl, bel.frame _, fun h => by cases h⟩

theorem laid_met (os : Os) : laidMet Tryd.prog Rows.bloomOpensRow.laid ((laidWorld os).forCall (fun _ _ => 0) ⟨#[], #[.string ⟨#[]⟩, .slice none 0 0], []⟩).memory :=
  laidMet_of_run' 8 (by kernel_rfl) (by kernel_rfl)
theorem reads (os : Os) {H : Type} (enc : TypeId × Value → H) : ∃ places, DataW.whole enc Tryd.prog ((laidWorld os).forCall (fun _ _ => 0) ⟨#[], #[.string ⟨#[]⟩, .slice none 0 0], []⟩).memory Tryd.f5.params.toList Rows.bloomOpensSpec.vars false #[Value.string ⟨#[]⟩, Value.slice none 0 0].toList 8 = some ([.lit (.string []), .nil], [], places) :=
  ⟨[], by kernel_rfl⟩

set_option maxRecDepth 100000 in
theorem lifted (os : Os) (started : os.Started) (H : Type) (enc : TypeId × Value → H) (F : Stop.Interp) :
    ReturnsInHanded {} Tryd.checked os 5 .any ((OpenSpec.ofChange Rows.bloomOpensSpec).preRow enc Tryd.prog Tryd.f5 Rows.bloomOpensRow.domain false Rows.bloomOpensRow.laid) (((OpenSpec.ofChange Rows.bloomOpensSpec).at F).post enc Tryd.prog Tryd.f5 false true false false) := by
  obtain ⟨places, hx⟩ := reads os enc
  refine returnsInHanded_of_row (C := Tryd.checked) (s := OpenSpec.ofChange Rows.bloomOpensSpec) own started (by kernel_rfl) Tryd.func5
    (witness_row_at (enc := enc) (C := Tryd.checked) false (laidWorld os) #[.string ⟨#[]⟩, .slice none 0 0] rfl (by kernel_rfl) (by kernel_rfl) (by kernel_rfl)
      (OpenSpec.preRow_of_cond 8 hx (by kernel_rfl) (fun k hk => by cases hk) (by kernel_rfl) (laid_met os))) ?_
  intro W base args ds gs before hval hW _ _ _ hL _ _
  exact contract H enc W base args ds gs before hval hW hL

theorem said : Rows.BloomOpensSaid :=
  OpenClaim.holds_of_cond 5 Tryd.f5 rfl rfl rfl rfl rfl rfl rfl ⟨rfl, rfl, rfl, rfl, rfl⟩ rfl rfl rfl rfl rfl (by kernel_rfl) Tryd.func5 (by kernel_rfl)
    (of_decide_eq_true (by kernel_rfl)) (by unfold Func.isWrapper; first | (rw [if_pos (by decide +kernel)]; kernel_rfl) | (rw [if_neg (by decide +kernel)]; exact ⟨rfl, rfl⟩))
    (fun os started H enc _ F => by rw [OpenClaim.pre_eq_preRow]; exact lifted os started H enc F)

/-- No parameter wants a stand-in; the program's own looks are off. -/
theorem plain (f : FuncId) (fn : Func) (hf : Tryd.pinned.checked.prog.funcNamed "silo/silolaw07.BloomOpens" = some f) (hfn : Tryd.pinned.checked.prog.funcs[f]? = some fn) :
    false = Tryd.pinned.checked.prog.looks [] ∧ ∀ (j : Nat) t, fn.params[j]? = some t → Tryd.pinned.checked.prog.wantsStandIn t = false := by
  obtain rfl : f = 5 := Option.some.inj ((show Tryd.prog.funcNamed "silo/silolaw07.BloomOpens" = some 5 by kernel_rfl).symm.trans hf) |>.symm
  obtain rfl : fn = Tryd.f5 := (Option.some.inj (Tryd.func5.symm.trans hfn)).symm
  refine ⟨by kernel_rfl, fun j t ht => ?_⟩
  rw [Tryd.params5] at ht
  have hm : t ∈ [9, 22] := by simpa using Array.mem_of_getElem? ht
  have hall : ([9, 22].all fun u => !Tryd.prog.wantsStandIn u) = true := by kernel_rfl
  exact (show Tryd.prog.wantsStandIn t = false by simpa using List.all_eq_true.1 hall t hm)

/-- ████ THE CARD ████ -/
theorem proved : Rows.BloomOpensCardSaid :=
  Claim7.holds_tied_plain_at .later [] _ _ _ _ said (fun _ h => by cases h) (by kernel_rfl) (fun _ h => by cases h) bloomOpens_row_tie rfl ⟨rfl, rfl⟩ (by kernel_rfl) rfl plain (by kernel_rfl)
#print axioms proved
end Go.Proofs.YtbiifdnicieamaaDoor.bloomOpens
