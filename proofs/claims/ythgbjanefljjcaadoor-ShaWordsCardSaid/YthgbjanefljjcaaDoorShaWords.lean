/- ShaWords: the eight words of a key are all of it: keys of the same words are one key. For every input; no condition beside the round numbers that the program lays (tied). -/
import Derived.Test.YthgbjanefljjcaaDoorShaLaid
import Derived.ChangeOld
set_option linter.unusedVariables false
namespace Go.Proofs.YthgbjanefljjcaaDoor.shaWords
open Go.ChangeShapes Go.WideShapes Go.ChangeAt Go.RowKit

def sameW (a b : List UInt8) : Nat → Bool
  | 0 => true
  | n + 1 => sameW a b n && decide (wordAt a (4 * n) = wordAt b (4 * n))
theorem sameW_iff (a b : List UInt8) : ∀ n, sameW a b n = true ↔ ∀ m, m < n → wordAt a (4 * m) = wordAt b (4 * m)
  | 0 => by simp [sameW]
  | n + 1 => by
    simp only [sameW, Bool.and_eq_true, decide_eq_true_eq, sameW_iff a b n]
    constructor
    · intro h m hm
      by_cases hmn : m = n
      · subst hmn; exact h.2
      · exact h.1 m (by omega)
    · intro h
      exact ⟨fun m hm => h m (by omega), h n (by omega)⟩
theorem sameW_keys {a b : List UInt8} (ha : a.length = 32) (hb : b.length = 32) : sameW a b 8 = (a == b) := by
  rw [Bool.eq_iff_iff, sameW_iff, beq_iff_eq]
  exact words_same ha hb
theorem mod8 (k : Nat) (h : k < 8) : (((k : Nat) : Int) % 8).toNat = k ∧ (((k : Nat) : Int) + 8).emod 8 = k ∧ (((k : Nat) : Int) - 8).emod 8 = k := by
  refine ⟨by omega, ?_, ?_⟩
  · show ((k : Int) + 8) % 8 = k; omega
  · show ((k : Int) - 8) % 8 = k; omega

set_option maxHeartbeats 2000000 in
set_option maxRecDepth 100000 in
theorem core (a b : List UInt8) (w : World) (ha : Hid (a.length = 32)) (hb : Hid (b.length = 32)) (hg : Hid (Glob w)) :
    Calls Tryd.prog 6 #[.agg (keyA a), .agg (keyA b)] w fun e w' => e = .returned (.bool true) ∧ Below w.heap.size w w' := by
  obtain ⟨H, hH⟩ : ∃ H, H = w.heap.size := ⟨_, rfl⟩
  obtain ⟨W2, hW2⟩ : ∃ W2, W2 = (w.alloc (.cells (keyA a) 25)).alloc (.cells (keyA b) 25) := ⟨_, rfl⟩
  have e1 : (w.alloc (.cells (keyA a) 25)).heap.size = H + 1 := by rw [hH]; simp
  have HA := Lib.hid (show W2.rangeAt H 0 (keyA a).toList by
    have h := keyA_range w a 25
    rw [← hH] at h
    exact rangeAt_below h (show Below (H + 1) (w.alloc (.cells (keyA a) 25)) W2 by rw [hW2]; exact (Below.refl _ _).alloc (by rw [e1]; exact Nat.le_refl _) _) (by omega))
  have HB := Lib.hid (show W2.rangeAt (H + 1) 0 (keyA b).toList by
    have h := keyA_range (w.alloc (.cells (keyA a) 25)) b 25
    rw [e1] at h
    rw [hW2]
    exact h)
  have HS2 := Lib.hid (show W2.heap.size = H + 1 + 1 by rw [hW2, hH]; simp)
  have HBW := Lib.hid (show Below w.heap.size w W2 by rw [hW2]; exact ((Below.refl _ _).alloc (Nat.le_refl _) _).alloc (by simp) _)
  have HG := Lib.hid (hg.out.keep HBW.out hg.out.1)
  have HLA := Lib.hid (fun m : World => fun (k : Below W2.heap.size W2 m) => rangeAt_below HA.out k (by rw [HS2.out]; omega))
  have HLB := Lib.hid (fun m : World => fun (k : Below W2.heap.size W2 m) => rangeAt_below HB.out k (by rw [HS2.out]; omega))
  obtain ⟨ka, hka⟩ : ∃ x, x = keyA a := ⟨_, rfl⟩
  obtain ⟨kb, hkb⟩ : ∃ x, x = keyA b := ⟨_, rfl⟩
  have HIA := Lib.hid (info25 a ha.out)
  have HIB := Lib.hid (info25 b hb.out)
  rw [← hka] at hW2 HLA HIA
  rw [← hkb] at hW2 HLB HIB
  rw [← hka, ← hkb]
  have HKA := Lib.hid hka
  have HKB := Lib.hid hkb
  have HW2 := Lib.hid hW2
  have HH := Lib.hid hH
  clear e1 hW2 hH hka hkb HA HB
  go_enter Tryd.func6, Tryd.ntmps6
  go_upto_region 1 with (fail)
  change Code.wp _ _ _ _ ((w.alloc (.cells ka 25)).alloc (.cells kb 25))
  rw [← HW2.out, ← HH.out]
  go_wp2_with fail
  go_loopw [5, 6] (fun vs vi wr => ∃ k : Nat, k ≤ 8 ∧ vi = .int .i64 k ∧ vs = .bool (sameW a b k) ∧ Hid (Below W2.heap.size W2 wr)) (fun vs vi wr => 8 - (intOf vi).toNat)
  case atStart => exact ⟨0, by omega, rfl, rfl, Lib.hid (Below.refl _ _)⟩
  case round =>
    obtain ⟨k, hk, rfl, rfl, hbw⟩ := hrel
    rcases Nat.lt_or_ge k 8 with hk8 | hk8
    · obtain ⟨X, hX⟩ : ∃ X, X = wordAt a (4 * k) := ⟨_, rfl⟩
      obtain ⟨Y, hY⟩ : ∃ Y, Y = wordAt b (4 * k) := ⟨_, rfl⟩
      have mk0 : ((k : Int) % 8).toNat = k := by omega
      have mk1 : (((k : Int) + 8) % 8).toNat = k := by omega
      have mk2 : (((k : Int) - 8) % 8).toNat = k := by omega
      have HA0 := Lib.hid (fun (W : World) (n : Seen W) => by have h := seen_Word a (k : Int) ha W n; rw [mk0, ← hX, ← HKA.out] at h; exact h)
      have HB0 := Lib.hid (fun (W : World) (n : Seen W) => by have h := seen_Word b (k : Int) hb W n; rw [mk0, ← hY, ← HKB.out] at h; exact h)
      have HA8 := Lib.hid (fun (W : World) (n : Seen W) => by have h := seen_Word a ((k : Int) + 8) ha W n; rw [mk1, ← hX, ← HKA.out] at h; exact h)
      have HB8 := Lib.hid (fun (W : World) (n : Seen W) => by have h := seen_Word b ((k : Int) - 8) hb W n; rw [mk2, ← hY, ← HKB.out] at h; exact h)
      have HNX := Lib.hid (show sameW a b (k + 1) = (sameW a b k && decide (X = Y)) by rw [hX, hY]; rfl)
      clear mk0 mk1 mk2 hX hY
      generalize hsk : sameW a b k = S at *
      clear hsk
      cases S with
      | true =>
        by_cases hxy : X = Y
        · have hbq : ((X : Int) == (Y : Int)) = true := beq_iff_eq.2 (by omega)
          rw [decide_eq_true hxy] at HNX
          clear hxy
          go_wp2_with fail
          refine region_seen (by kernel_rfl) (by kernel_rfl) ?_
          repeat (first | (go_big_quiet_want; refine quiet_load_arr 25 (.tmp 2) rfl H 0 rfl ka _ (seen_range HLA.out hbw.out) Tryd.underlying25 rfl HIA.out ?_; go_big_quiet_on; try go_frame) | (go_big_quiet_want; refine quiet_load_arr 25 (.tmp 3) rfl (H + 1) 0 rfl kb _ (seen_range HLB.out hbw.out) Tryd.underlying25 rfl HIB.out ?_; go_big_quiet_on; try go_frame) | go_big_quiet_step (first | (go_at_call 16; with_reducible exact HA0.out _ _) | (go_at_call 16; with_reducible exact HB0.out _ _)))
          refine wpQuiet_nil ?_
          rintro _ ⟨m1, rfl⟩
          have HQ1 := Lib.hid (hbw.out.trans (m1.below.mono hbw.out.size))
          clear hbq
          go_wp2_with fail
          refine region_seen (by kernel_rfl) (by kernel_rfl) ?_
          repeat (first | (go_big_quiet_want; refine quiet_load_arr 25 (.tmp 2) rfl H 0 rfl ka _ (seen_range HLA.out HQ1.out) Tryd.underlying25 rfl HIA.out ?_; go_big_quiet_on; try go_frame) | (go_big_quiet_want; refine quiet_load_arr 25 (.tmp 3) rfl (H + 1) 0 rfl kb _ (seen_range HLB.out HQ1.out) Tryd.underlying25 rfl HIB.out ?_; go_big_quiet_on; try go_frame) | go_big_quiet_step (first | (go_at_call 16; with_reducible exact HA0.out _ _) | (go_at_call 16; with_reducible exact HA8.out _ _) | (go_at_call 16; with_reducible exact HB0.out _ _) | (go_at_call 16; with_reducible exact HB8.out _ _)))
          refine wpQuiet_nil ?_
          rintro _ ⟨m2, rfl⟩
          have HQ2 := Lib.hid (HQ1.out.trans (m2.below.mono HQ1.out.size))
          go_wp2_with fail
          go_roundw
          case rel => exact ⟨k + 1, by omega, by go_num, by rw [HNX.out]; rfl, HQ2⟩
          case measure => simp [intOf]; omega
        · have hbq : ((X : Int) == (Y : Int)) = false := beq_eq_false_iff_ne.2 (by omega)
          rw [decide_eq_false hxy] at HNX
          clear hxy
          go_wp2_with fail
          refine region_seen (by kernel_rfl) (by kernel_rfl) ?_
          repeat (first | (go_big_quiet_want; refine quiet_load_arr 25 (.tmp 2) rfl H 0 rfl ka _ (seen_range HLA.out hbw.out) Tryd.underlying25 rfl HIA.out ?_; go_big_quiet_on; try go_frame) | (go_big_quiet_want; refine quiet_load_arr 25 (.tmp 3) rfl (H + 1) 0 rfl kb _ (seen_range HLB.out hbw.out) Tryd.underlying25 rfl HIB.out ?_; go_big_quiet_on; try go_frame) | go_big_quiet_step (first | (go_at_call 16; with_reducible exact HA0.out _ _) | (go_at_call 16; with_reducible exact HB0.out _ _)))
          refine wpQuiet_nil ?_
          rintro _ ⟨m1, rfl⟩
          have HQ1 := Lib.hid (hbw.out.trans (m1.below.mono hbw.out.size))
          clear hbq
          go_wp2_with fail
          refine region_seen (by kernel_rfl) (by kernel_rfl) ?_
          repeat (first | (go_big_quiet_want; refine quiet_load_arr 25 (.tmp 2) rfl H 0 rfl ka _ (seen_range HLA.out HQ1.out) Tryd.underlying25 rfl HIA.out ?_; go_big_quiet_on; try go_frame) | (go_big_quiet_want; refine quiet_load_arr 25 (.tmp 3) rfl (H + 1) 0 rfl kb _ (seen_range HLB.out HQ1.out) Tryd.underlying25 rfl HIB.out ?_; go_big_quiet_on; try go_frame) | go_big_quiet_step (first | (go_at_call 16; with_reducible exact HA0.out _ _) | (go_at_call 16; with_reducible exact HA8.out _ _) | (go_at_call 16; with_reducible exact HB0.out _ _) | (go_at_call 16; with_reducible exact HB8.out _ _)))
          refine wpQuiet_nil ?_
          rintro _ ⟨m2, rfl⟩
          have HQ2 := Lib.hid (HQ1.out.trans (m2.below.mono HQ1.out.size))
          go_wp2_with fail
          go_roundw
          case rel => exact ⟨k + 1, by omega, by go_num, by rw [HNX.out]; rfl, HQ2⟩
          case measure => simp [intOf]; omega
      | false =>
        go_wp2_with fail
        refine region_seen (by kernel_rfl) (by kernel_rfl) ?_
        repeat (go_big_quiet_step (fail))
        refine wpQuiet_nil ?_
        rintro _ ⟨m1, rfl⟩
        have HQ1 := Lib.hid (hbw.out.trans (m1.below.mono hbw.out.size))
        go_wp2_with fail
        refine region_seen (by kernel_rfl) (by kernel_rfl) ?_
        repeat (first | (go_big_quiet_want; refine quiet_load_arr 25 (.tmp 2) rfl H 0 rfl ka _ (seen_range HLA.out HQ1.out) Tryd.underlying25 rfl HIA.out ?_; go_big_quiet_on; try go_frame) | (go_big_quiet_want; refine quiet_load_arr 25 (.tmp 3) rfl (H + 1) 0 rfl kb _ (seen_range HLB.out HQ1.out) Tryd.underlying25 rfl HIB.out ?_; go_big_quiet_on; try go_frame) | go_big_quiet_step (first | (go_at_call 16; with_reducible exact HA0.out _ _) | (go_at_call 16; with_reducible exact HA8.out _ _) | (go_at_call 16; with_reducible exact HB0.out _ _) | (go_at_call 16; with_reducible exact HB8.out _ _)))
        refine wpQuiet_nil ?_
        rintro _ ⟨m2, rfl⟩
        have HQ2 := Lib.hid (HQ1.out.trans (m2.below.mono HQ1.out.size))
        go_wp2_with fail
        go_roundw
        case rel => exact ⟨k + 1, by omega, by go_num, by rw [HNX.out]; rfl, HQ2⟩
        case measure => simp [intOf]; omega
    · obtain rfl : k = 8 := by omega
      have heq := sameW_keys ha.out hb.out
      have hek := eq_keys a b ha.out hb.out
      rw [← heq, ← HKA.out, ← HKB.out] at hek
      generalize sameW a b 8 = S at *
      go_wp2_with fail
      refine (law_awake wr (Lib.hid (HG.out.keep hbw.out HG.out.1))).mono ?_
      rintro e w5 ⟨rfl, k5⟩
      have HQ5 := Lib.hid (hbw.out.trans (k5.mono hbw.out.size))
      have HRA := Lib.hid (HLA.out w5 HQ5.out)
      have HRB := Lib.hid (HLB.out w5 HQ5.out)
      clear k5
      go_wp2_with (first | (refine wpList_load_arr (by rfl) 25 (.tmp 2) rfl H 0 rfl ka _ HRA.out Tryd.underlying25 rfl HIA.out ?_) | (refine wpList_load_arr (by rfl) 25 (.tmp 3) rfl (H + 1) 0 rfl kb _ HRB.out Tryd.underlying25 rfl HIB.out ?_))
      go_ret
      exact ⟨rfl, HBW.out.trans (HQ5.out.mono HBW.out.size)⟩

theorem laidOut : laidOutB Tryd.prog = true := by kernel_rfl
theorem contract (H : Type) (enc : TypeId × Value → H) (W : World) (base : Nat) (args : Array Value) (ds gs : List (DataW H)) (before : List MemPlace)
    (hval : ∀ (j : Nat) t v, Tryd.f6.params[j]? = some t → args[j]? = some v → Value.okWide Tryd.prog W .any base t v)
    (hW : DataW.Whole enc Tryd.prog Tryd.f6.params.toList Rows.shaWordsSpec.vars false W args.toList ds gs before) (hL : laidMetH Tryd.prog Rows.shaWordsRow.laid W) :
    Calls Tryd.prog 6 args W fun e W' => ∃ v, e = .returned v ∧ Rows.shaWordsSpec.post enc Tryd.prog Tryd.f6 false true false false W args v W' := by
  have hW' := hW
  obtain ⟨p, q, hA0, hV, rfl, hfz, hnd⟩ := hW
  have hA : DataW.TrodAll enc Tryd.prog W 0 (fun _ => true) true Tryd.f6.params.toList args.toList ds p := hA0
  rw [Tryd.params6] at hA hval
  obtain ⟨v0, vs0, d0, ds0, p0, q0, hargs0, rfl, rfl, h0, r0⟩ := trodAll_cons hA
  obtain ⟨v1, vs1, d1, ds1, p1, q1, rfl, rfl, rfl, h1, r1⟩ := trodAll_cons r0
  obtain ⟨rfl, rfl, rfl⟩ := trodAll_nil r1
  obtain rfl : args = #[v0, v1] := by cases args; simp_all
  obtain ⟨rfl, rfl⟩ := trodVars_none hV
  obtain ⟨l0, hl0, rfl⟩ := open_key (hval 0 25 v0 rfl rfl) h0
  obtain ⟨l1, hl1, rfl⟩ := open_key (hval 1 25 v1 rfl rfl) h1
  have lt0 : ∀ x ∈ p0, x.block < W.heap.size := by obtain ⟨m, hm⟩ := h0; exact DataW.trod_lt m _ _ _ hm
  have lt1 : ∀ x ∈ p1, x.block < W.heap.size := by obtain ⟨m, hm⟩ := h1; exact DataW.trod_lt m _ _ _ hm
  clear hA0
  simp only [List.append_nil] at hW'
  refine (core l0 l1 W (Lib.hid hl0) (Lib.hid hl1) (Lib.hid (glob_of hL))).mono fun e W' ⟨he, bel⟩ => ?_
  subst he
  exact ⟨_, rfl, _, _, _, [], _, [], hW', trodAll_mk1 (shut_bool Tryd.underlying4 _), (trodAll_cons_mk (Below.trod laidOut (by kernel_rfl) (of_decide_eq_true (by kernel_rfl)) h0 bel lt0) (trodAll_cons_mk (Below.trod laidOut (by kernel_rfl) (of_decide_eq_true (by kernel_rfl)) h1 bel lt1) trodAll_mk0)), rfl, bel.frame _, fun h => by cases h⟩

theorem laid_met (os : Os) : laidMet Tryd.prog Rows.shaWordsRow.laid ((laidWorld os).forCall (fun _ _ => 0) ⟨#[], #[.agg (Array.replicate 32 (.int .u8 0)), .agg (Array.replicate 32 (.int .u8 0))], []⟩).memory :=
  laidMet_of_run' 8 (by kernel_rfl) (by kernel_rfl)
theorem reads (os : Os) {H : Type} (enc : TypeId × Value → H) : ∃ places, DataW.whole enc Tryd.prog ((laidWorld os).forCall (fun _ _ => 0) ⟨#[], #[.agg (Array.replicate 32 (.int .u8 0)), .agg (Array.replicate 32 (.int .u8 0))], []⟩).memory Tryd.f6.params.toList Rows.shaWordsSpec.vars false #[Value.agg (Array.replicate 32 (Value.int .u8 0)), Value.agg (Array.replicate 32 (Value.int .u8 0))].toList 8 = some ([.agg (List.replicate 32 (.lit (.int .u8 0))), .agg (List.replicate 32 (.lit (.int .u8 0)))], [], places) :=
  ⟨[], by kernel_rfl⟩

set_option maxRecDepth 100000 in
theorem lifted (os : Os) (started : os.Started) (H : Type) (enc : TypeId × Value → H) (F : Stop.Interp) :
    ReturnsInHanded {} Tryd.checked os 6 .any ((OpenSpec.ofChange Rows.shaWordsSpec).preRow enc Tryd.prog Tryd.f6 Rows.shaWordsRow.domain false Rows.shaWordsRow.laid) (((OpenSpec.ofChange Rows.shaWordsSpec).at F).post enc Tryd.prog Tryd.f6 false true false false) := by
  obtain ⟨places, hx⟩ := reads os enc
  refine returnsInHanded_of_row (C := Tryd.checked) (s := OpenSpec.ofChange Rows.shaWordsSpec) own started (by kernel_rfl) Tryd.func6
    (witness_row_at (enc := enc) (C := Tryd.checked) false (laidWorld os) #[.agg (Array.replicate 32 (.int .u8 0)), .agg (Array.replicate 32 (.int .u8 0))] rfl (by kernel_rfl) (by kernel_rfl) (by kernel_rfl)
      (OpenSpec.preRow_of_cond 8 hx (by kernel_rfl) (fun k hk => by cases hk) (by kernel_rfl) (laid_met os))) ?_
  intro W base args ds gs before hval hW _ _ _ hL _ _
  exact contract H enc W base args ds gs before hval hW hL

theorem said : Rows.ShaWordsSaid :=
  OpenClaim.holds_of_cond 6 Tryd.f6 rfl rfl rfl rfl rfl rfl rfl ⟨rfl, rfl, rfl, rfl, rfl⟩ rfl rfl rfl rfl rfl (by kernel_rfl) Tryd.func6 (by kernel_rfl)
    (of_decide_eq_true (by kernel_rfl)) (by unfold Func.isWrapper; first | (rw [if_pos (by decide +kernel)]; kernel_rfl) | (rw [if_neg (by decide +kernel)]; exact ⟨rfl, rfl⟩))
    (fun os started H enc _ F => by rw [OpenClaim.pre_eq_preRow]; exact lifted os started H enc F)

/-- No parameter wants a stand-in; the program's own looks are off. -/
theorem plain (f : FuncId) (fn : Func) (hf : Tryd.pinned.checked.prog.funcNamed "silo/silolaw03.ShaWords" = some f) (hfn : Tryd.pinned.checked.prog.funcs[f]? = some fn) :
    false = Tryd.pinned.checked.prog.looks [] ∧ ∀ (j : Nat) t, fn.params[j]? = some t → Tryd.pinned.checked.prog.wantsStandIn t = false := by
  obtain rfl : f = 6 := Option.some.inj ((show Tryd.prog.funcNamed "silo/silolaw03.ShaWords" = some 6 by kernel_rfl).symm.trans hf) |>.symm
  obtain rfl : fn = Tryd.f6 := (Option.some.inj (Tryd.func6.symm.trans hfn)).symm
  refine ⟨by kernel_rfl, fun j t ht => ?_⟩
  rw [Tryd.params6] at ht
  have hm : t ∈ [25, 25] := by simpa using Array.mem_of_getElem? ht
  have hall : ([25, 25].all fun u => !Tryd.prog.wantsStandIn u) = true := by kernel_rfl
  exact (show Tryd.prog.wantsStandIn t = false by simpa using List.all_eq_true.1 hall t hm)

/-- ████ THE CARD ████ -/
theorem proved : Rows.ShaWordsCardSaid :=
  Claim7.holds_tied_plain_at .later [] _ _ _ _ said (fun _ h => by cases h) (by kernel_rfl) (fun _ h => by cases h) shaWords_row_tie rfl ⟨rfl, rfl⟩ (by kernel_rfl) rfl plain (by kernel_rfl)
#print axioms proved
end Go.Proofs.YthgbjanefljjcaaDoor.shaWords
