/- BloomMakes: what Make gives, beside the document's own bits, for every input; no condition beside the round numbers that the program lays (tied). -/
import Derived.Test.YtbiifdnicieamaaDoorBloomOpen
import Derived.Test.YtbiifdnicieamaaDoorBloomRow
set_option linter.unusedVariables false
set_option maxRecDepth 100000
namespace Go.Proofs.YtbiifdnicieamaaDoor.bloomMakes
open Go.ChangeShapes Go.WideShapes Go.ChangeAt Go.RowKit
open Go.ChangeMaps (open_string shut_string)

set_option maxHeartbeats 2000000 in
theorem core (per : Int) (a : Option Addr) (len cap : Nat) (T : List ByteArray) (a2 : Option Addr) (len2 cap2 : Nat) (T2 : List ByteArray) (w : World) (lo : -9223372036854775808 ≤ per) (hi' : per ≤ 9223372036854775807) (hx : Tx w a len T) (hx2 : Tx w a2 len2 T2) (hg : Hid (Glob w)) :
    Calls Tryd.prog 3 #[.int .i64 per, .slice a len cap, .slice a2 len2 cap2] w fun e w' => e = .returned (.bool true) ∧ Below w.heap.size w w' := by
  obtain ⟨⟨hlen, kb, koff, hab, hz⟩, hl, hts⟩ := hx
  obtain ⟨⟨hlen2, kb2, koff2, hab2, hz2⟩, hl2, hts2⟩ := hx2
  have HZ := Lib.hid hz
  have HAB := Lib.hid hab
  have HLEN := Lib.hid hlen
  have HTS := Lib.hid hts
  have HZ2 := Lib.hid hz2
  have HAB2 := Lib.hid hab2
  have HLEN2 := Lib.hid hlen2
  have HTS2 := Lib.hid hts2
  clear hz hab hlen hts hz2 hab2 hlen2 hts2
  go_enter Tryd.func3, Tryd.ntmps3
  go_wp2_with fail
  refine (law_awake w hg).mono ?_
  rintro e w1 ⟨rfl, k1⟩
  have K1 := Lib.hid k1
  have G1 := Lib.hid (hg.out.keep k1 hg.out.1)
  have HZ1 := Lib.hid (HZ.out.below k1)
  have HZ21 := Lib.hid (HZ2.out.below k1)
  clear k1
  go_wp2_with fail
  refine (law_few a kb koff len cap T w1 HLEN hl HZ1 HAB HTS).mono ?_
  rintro e _ ⟨rfl, rfl⟩
  obtain ⟨r, hr⟩ : ∃ r, r = fewB T := ⟨_, rfl⟩
  rw [← hr]
  have HR := Lib.hid hr
  clear hr
  cases r with
  | false =>
    go_wp2_with fail
    refine (law_awake w1 G1).mono ?_
    rintro e w2 ⟨rfl, k2⟩
    have K2 := Lib.hid k2
    clear k2
    go_wp2_with fail
    go_ret
    exact ⟨rfl, K1.out.trans (K2.out.mono K1.out.size)⟩
  | true =>
    have hfew := Lib.hid (few_of HR.out.symm)
    go_wp2_with fail
    refine (law_few a2 kb2 koff2 len2 cap2 T2 w1 HLEN2 hl2 HZ21 HAB2 HTS2).mono ?_
    rintro e _ ⟨rfl, rfl⟩
    obtain ⟨r2, hr2⟩ : ∃ r, r = fewB T2 := ⟨_, rfl⟩
    rw [← hr2]
    have HR2 := Lib.hid hr2
    clear hr2
    cases r2 with
    | false =>
      go_wp2_with fail
      refine (law_awake w1 G1).mono ?_
      rintro e w2 ⟨rfl, k2⟩
      have K2 := Lib.hid k2
      clear k2
      go_wp2_with fail
      go_ret
      exact ⟨rfl, K1.out.trans (K2.out.mono K1.out.size)⟩
    | true =>
      have hfew2 := Lib.hid (few_of HR2.out.symm)
      have hl20 : len ≤ 2000 := by rw [HLEN.out]; exact hfew.out.1
      have HSRC := Lib.hid (src_texts cap HLEN.out HAB.out (HZ1.out.below ((Below.refl _ w1).alloc (Nat.le_refl _) (.cells #[] 9))))
      obtain ⟨i0, hi, hz0, hz1, hz2⟩ := info_parts info9
      clear HR HR2
      go_wp2_with (at_builtin; refine wpList_append_off rfl (.tmp 26) (.tmp 27) 22 rfl w1.heap.size 9 i0 _ 1 16 Tryd.underlying22 hi hz0 hz1 hz2 rfl (.slice (some ⟨w1.heap.size, 0, none⟩) 0 0) 0 [] rfl (off_empty w1 (Nat.le_refl _) 9 1) _ rfl len (T.map Value.string) HSRC.out ?c3 ?c4 ?c5 ?_)
      case c3 => unfold maxLen; omega
      case c4 => omega
      case c5 => simp
      intro v5 w5 hown hg5 hat
      try simp only [Nat.zero_add, List.nil_append] at hown
      obtain ⟨a5, c5, rfl, hl5, kb5, koff5, hab5, hz5⟩ := hown.texts
      have hb5 : Below w1.heap.size w1 w5 := ⟨hg5.os, hg5.tape, hg5.output, by have := hg5.size; simp at this; omega, fun j hj => (hg5.block j (by simp; omega) (by simp [Value.ownBlock]; omega)).trans (Below.heap_alloc w1 _ j hj)⟩
      have HZ5 := Lib.hid hz5
      have HAB5 := Lib.hid hab5
      have K5 := Lib.hid (K1.out.trans (hb5.mono K1.out.size))
      have G5 := Lib.hid (G1.out.keep hb5 G1.out.1)
      have HZ15 := Lib.hid (HZ1.out.below hb5)
      have HZ25 := Lib.hid (HZ21.out.below hb5)
      try simp only [Nat.zero_add]
      clear hown hg5 hat hb5 hl5 hab5 hz5 hi hz0 hz1 hz2
      by_cases hper : per < 1 ∨ 32 < per
      · go_wp2_with fail
        refine (flt_Make_arg per a5 len c5 w5 hper).mono ?_
        rintro e _ ⟨rfl, rfl⟩
        go_wp2_with fail
        refine (ref_Make_arg per a len cap w5 hper).mono ?_
        rintro e w6 ⟨rfl, k6⟩
        have K6 := Lib.hid (K5.out.trans (k6.mono K5.out.size))
        clear k6
        unfold noF
        go_wp2_with fail
        go_ret
        exact ⟨rfl, K6.out.alloc K6.out.size _⟩
      · obtain ⟨p, rfl⟩ : ∃ p : Nat, per = (p : Int) := ⟨per.toNat, by omega⟩
        have hp1 : 1 ≤ p := by omega
        have hp2 : p ≤ 32 := by omega
        go_wp2_with fail
        refine (flt_Make p a5 len c5 kb5 koff5 T w5 hp1 hp2 HLEN (by omega) HZ5 HAB5 (Lib.hid fun t ht => Nat.le_trans (hfew.out.2 t ht) (by omega)) G5).mono ?_
        rintro e w6 ⟨rfl, hF, k6⟩
        have HF := Lib.hid hF
        have K6 := Lib.hid (K5.out.trans (k6.mono K5.out.size))
        have G6 := Lib.hid (G5.out.keep k6 G5.out.1)
        have HZ16 := Lib.hid (HZ15.out.below k6)
        have HZ26 := Lib.hid (HZ25.out.below k6)
        clear k6 hF
        go_wp2_with fail
        refine (ref_Make p a len cap kb koff T w6 hp1 hp2 HLEN (by omega) HZ16 HAB (Lib.hid fun t ht => Nat.le_trans (hfew.out.2 t ht) (by omega))).mono ?_
        rintro e w7 ⟨g, rfl, hR, hg7, k7⟩
        have K7 := Lib.hid (K6.out.trans (k7.mono K6.out.size))
        have G7 := Lib.hid (G6.out.keep k7 G6.out.1)
        have HF7 := Lib.hid (HF.out.below k7)
        have HZ27 := Lib.hid (HZ26.out.below k7)
        clear k7 hg7
        have hm1 := wordsOf_pos p len
        have hm2 : wordsOf p len * 8 ≤ 100000000 := by
          have h2 : p * len ≤ 32 * 65536 := Nat.mul_le_mul hp2 (by omega)
          unfold wordsOf
          omega
        obtain ⟨h, hh⟩ : ∃ h, h = hashesOf p := ⟨_, rfl⟩
        obtain ⟨o, ho⟩ : ∃ o, o = wordsOf p len := ⟨_, rfl⟩
        have h18 := hashesOf_le p
        rw [← hh] at h18
        rw [← ho] at hm1 hm2
        obtain ⟨N, hN⟩ : ∃ N, N = o * 64 := ⟨_, rfl⟩
        obtain ⟨f, hf⟩ : ∃ f, f = made h N (T.map (·.data.toList)) := ⟨_, rfl⟩
        obtain ⟨L, hL⟩ : ∃ L, L = bytesOf f (o * 8) := ⟨_, rfl⟩
        have hN8 : o * 8 * 8 = N := by omega
        rw [← hh, ← ho, hN8, ← hf, ← hL] at HF7
        rw [← hh, ← ho, ← hN, ← hf] at hR
        rw [← hh, ← ho, ← hN]
        unfold fv
        obtain ⟨W4, hW4⟩ : ∃ W4, W4 = w7.alloc (.cells #[.int .i64 (h : Int), .slice (some ⟨g, 0, none⟩) N N] 31) := ⟨_, rfl⟩
        have B4 := Lib.hid (show Below w7.heap.size w7 W4 by rw [hW4]; exact (Below.refl _ _).alloc (Nat.le_refl _) _)
        have HS := Lib.hid (law_same (w5.heap.size + 1) w5.heap.size h (o * 8) N g N f L a2 kb2 koff2 len2 cap2 T2 W4 (Lib.hid (HF7.out.below B4.out)) (Lib.hid hL) (Lib.hid (hR.below B4.out)) (Lib.hid (G7.out.keep B4.out G7.out.1)) (Lib.hid (by rw [hN]; omega)) h18.1 h18.2 (by omega) hm2 HLEN2 hl2
          (Lib.hid (HZ27.out.below B4.out)) HAB2 (Lib.hid hfew2.out.2))
        unfold fv at HS
        have HW4 := Lib.hid hW4
        have K4 := Lib.hid (K7.out.trans (B4.out.mono K7.out.size))
        clear hh ho hN hN8 hf hL hR hW4 h18 hm1 hm2
        go_wp2_with fail
        rw [← HW4.out]
        refine HS.out.mono ?_
        rintro e w8 ⟨rfl, k8⟩
        have K8 := Lib.hid (K4.out.trans (k8.mono K4.out.size))
        clear k8
        go_wp2_with fail
        go_ret
        exact ⟨rfl, K8.out⟩

theorem laidOut : laidOutB Tryd.prog = true := by kernel_rfl
theorem contract (H : Type) (enc : TypeId × Value → H) (W : World) (base : Nat) (args : Array Value) (ds gs : List (DataW H)) (before : List MemPlace)
    (hval : ∀ (j : Nat) t v, Tryd.f3.params[j]? = some t → args[j]? = some v → Value.okWide Tryd.prog W .any base t v)
    (hW : DataW.Whole enc Tryd.prog Tryd.f3.params.toList Rows.bloomMakesSpec.vars false W args.toList ds gs before) (hL : laidMetH Tryd.prog Rows.bloomMakesRow.laid W) :
    Calls Tryd.prog 3 args W fun e W' => ∃ v, e = .returned v ∧ Rows.bloomMakesSpec.post enc Tryd.prog Tryd.f3 false true false false W args v W' := by
  have hW' := hW
  obtain ⟨p, q, hA0, hV, rfl, hfz, hnd⟩ := hW
  have hA : DataW.TrodAll enc Tryd.prog W 0 (fun _ => true) true Tryd.f3.params.toList args.toList ds p := hA0
  rw [Tryd.params3] at hA hval
  obtain ⟨v0, vs0, d0, ds0, p0, q0, hargs0, rfl, rfl, h0, r0⟩ := trodAll_cons hA
  obtain ⟨v1, vs1, d1, ds1, p1, q1, rfl, rfl, rfl, h1, r1⟩ := trodAll_cons r0
  obtain ⟨v2, vs2, d2, ds2, p2, q2, rfl, rfl, rfl, h2, r2⟩ := trodAll_cons r1
  obtain ⟨rfl, rfl, rfl⟩ := trodAll_nil r2
  obtain rfl : args = #[v0, v1, v2] := by cases args; simp_all
  obtain ⟨rfl, rfl⟩ := trodVars_none hV
  have k0s := h0
  obtain ⟨n0, rfl, ed0, ep0, wf0⟩ := open_int Tryd.underlying3 (hval 0 3 v0 rfl rfl) k0s
  obtain ⟨lo0, hi0⟩ : -9223372036854775808 ≤ n0 ∧ n0 ≤ 9223372036854775807 := by simp [Lit.wf, IntKind.min, IntKind.max, IntKind.signed, IntKind.bits] at wf0; omega
  obtain ⟨a1, len1, cap1, rfl⟩ := okWide_slice Tryd.underlying22 (hval 1 22 v1 rfl rfl)
  obtain ⟨T1, i1⟩ := open_tx h1
  obtain ⟨a2, len2, cap2, rfl⟩ := okWide_slice Tryd.underlying22 (hval 2 22 v2 rfl rfl)
  obtain ⟨T2, i2⟩ := open_tx h2
  have lt0 : ∀ x ∈ p0, x.block < W.heap.size := by obtain ⟨m, hm⟩ := h0; exact DataW.trod_lt m _ _ _ hm
  have lt1 : ∀ x ∈ p1, x.block < W.heap.size := by obtain ⟨m, hm⟩ := h1; exact DataW.trod_lt m _ _ _ hm
  have lt2 : ∀ x ∈ p2, x.block < W.heap.size := by obtain ⟨m, hm⟩ := h2; exact DataW.trod_lt m _ _ _ hm
  clear hA0
  simp only [List.append_nil] at hW'
  refine (core n0 a1 len1 cap1 T1 a2 len2 cap2 T2 W lo0 hi0 i1 i2 (Lib.hid (glob_of hL))).mono fun e W' ⟨he, bel⟩ => ?_
  subst he
  exact ⟨_, rfl, _, _, _, [], _, [], hW', trodAll_mk1 (shut_bool Tryd.underlying4 _), (trodAll_cons_mk (Below.trod laidOut (by kernel_rfl) (of_decide_eq_true (by kernel_rfl)) h0 bel lt0) (trodAll_cons_mk (Below.trod laidOut (by kernel_rfl) (of_decide_eq_true (by kernel_rfl)) h1 bel lt1) (trodAll_cons_mk (Below.trod laidOut (by kernel_rfl) (of_decide_eq_true (by kernel_rfl)) h2 bel lt2) trodAll_mk0))), rfl, bel.frame _, fun h => by cases h⟩

theorem laid_met (os : Os) : laidMet Tryd.prog Rows.bloomMakesRow.laid ((laidWorld os).forCall (fun _ _ => 0) ⟨#[], #[.int .i64 0, .slice none 0 0, .slice none 0 0], []⟩).memory :=
  laidMet_of_run' 8 (by kernel_rfl) (by kernel_rfl)
theorem reads (os : Os) {H : Type} (enc : TypeId × Value → H) : ∃ places, DataW.whole enc Tryd.prog ((laidWorld os).forCall (fun _ _ => 0) ⟨#[], #[.int .i64 0, .slice none 0 0, .slice none 0 0], []⟩).memory Tryd.f3.params.toList Rows.bloomMakesSpec.vars false #[Value.int .i64 0, Value.slice none 0 0, Value.slice none 0 0].toList 8 = some ([.lit (.int .i64 0), .nil, .nil], [], places) :=
  ⟨[], by kernel_rfl⟩

set_option maxRecDepth 100000 in
theorem lifted (os : Os) (started : os.Started) (H : Type) (enc : TypeId × Value → H) (F : Stop.Interp) :
    ReturnsInHanded {} Tryd.checked os 3 .any ((OpenSpec.ofChange Rows.bloomMakesSpec).preRow enc Tryd.prog Tryd.f3 Rows.bloomMakesRow.domain false Rows.bloomMakesRow.laid) (((OpenSpec.ofChange Rows.bloomMakesSpec).at F).post enc Tryd.prog Tryd.f3 false true false false) := by
  obtain ⟨places, hx⟩ := reads os enc
  refine returnsInHanded_of_row (C := Tryd.checked) (s := OpenSpec.ofChange Rows.bloomMakesSpec) own started (by kernel_rfl) Tryd.func3
    (witness_row_at (enc := enc) (C := Tryd.checked) false (laidWorld os) #[.int .i64 0, .slice none 0 0, .slice none 0 0] rfl (by kernel_rfl) (by kernel_rfl) (by kernel_rfl)
      (OpenSpec.preRow_of_cond 8 hx (by kernel_rfl) (fun k hk => by cases hk) (by kernel_rfl) (laid_met os))) ?_
  intro W base args ds gs before hval hW _ _ _ hL _ _
  exact contract H enc W base args ds gs before hval hW hL

theorem said : Rows.BloomMakesSaid :=
  OpenClaim.holds_of_cond 3 Tryd.f3 rfl rfl rfl rfl rfl rfl rfl ⟨rfl, rfl, rfl, rfl, rfl⟩ rfl rfl rfl rfl rfl (by kernel_rfl) Tryd.func3 (by kernel_rfl)
    (of_decide_eq_true (by kernel_rfl)) (by unfold Func.isWrapper; first | (rw [if_pos (by decide +kernel)]; kernel_rfl) | (rw [if_neg (by decide +kernel)]; exact ⟨rfl, rfl⟩))
    (fun os started H enc _ F => by rw [OpenClaim.pre_eq_preRow]; exact lifted os started H enc F)

/-- No parameter wants a stand-in; the program's own looks are off. -/
theorem plain (f : FuncId) (fn : Func) (hf : Tryd.pinned.checked.prog.funcNamed "silo/silolaw07.BloomMakes" = some f) (hfn : Tryd.pinned.checked.prog.funcs[f]? = some fn) :
    false = Tryd.pinned.checked.prog.looks [] ∧ ∀ (j : Nat) t, fn.params[j]? = some t → Tryd.pinned.checked.prog.wantsStandIn t = false := by
  obtain rfl : f = 3 := Option.some.inj ((show Tryd.prog.funcNamed "silo/silolaw07.BloomMakes" = some 3 by kernel_rfl).symm.trans hf) |>.symm
  obtain rfl : fn = Tryd.f3 := (Option.some.inj (Tryd.func3.symm.trans hfn)).symm
  refine ⟨by kernel_rfl, fun j t ht => ?_⟩
  rw [Tryd.params3] at ht
  have hm : t ∈ [3, 22, 22] := by simpa using Array.mem_of_getElem? ht
  have hall : ([3, 22, 22].all fun u => !Tryd.prog.wantsStandIn u) = true := by kernel_rfl
  exact (show Tryd.prog.wantsStandIn t = false by simpa using List.all_eq_true.1 hall t hm)

/-- ████ THE CARD ████ -/
theorem proved : Rows.BloomMakesCardSaid :=
  Claim7.holds_tied_plain_at .later [] _ _ _ _ said (fun _ h => by cases h) (by kernel_rfl) (fun _ h => by cases h) bloomMakes_row_tie rfl ⟨rfl, rfl⟩ (by kernel_rfl) rfl plain (by kernel_rfl)
#print axioms proved
end Go.Proofs.YtbiifdnicieamaaDoor.bloomMakes
