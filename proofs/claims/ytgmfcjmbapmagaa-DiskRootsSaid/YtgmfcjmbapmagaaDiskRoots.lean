/- DiskRoots: the root is a file that is there, and surely, behind whatever losses of power. For every input; no condition. -/
import Derived.Test.YtgmfcjmbapmagaaRows
import Derived.Test.YtgmfcjmbapmagaaDiskLaws
import Derived.Below
import Derived.WalkKit
import Derived.ProofKit
import Derived.OpenShut
import Derived.ShutString
namespace Go.Proofs.Ytgmfcjmbapmagaa.diskRoots
open Go.ChangeShapes Go.WideShapes Go.ChangeAt Go.RowKit
set_option linter.unusedVariables false

theorem own : ownKnob Try.prog.godebug = none := by kernel_rfl
theorem laidOut : laidOutB Try.prog = true := by kernel_rfl

set_option maxHeartbeats 4000000 in
set_option maxRecDepth 100000 in
theorem walk (a : Option Addr) (len cap : Nat) (os : List OP) (w : World) (h : IsOps w a len os) : Calls Try.prog 6 #[.slice a len cap] w fun e w' => e = .returned (.bool true) ∧ Below w.heap.size w w' := by
  have hA := law_awake w
  have HI := Lib.hid h
  clear h
  go_enter Try.func6, Try.ntmps6
  go_wp2_with fail
  refine hA.mono ?_
  rintro e w1 ⟨rfl, b1⟩
  have B1 := Lib.hid b1
  have I1 := Lib.hid (HI.out.below b1)
  clear b1 hA
  go_wp2_with fail
  refine (law_few a len cap os w1 I1.out).mono ?_
  rintro e w2 ⟨fb, rfl, hfew, rfl⟩
  cases fb with
  | false =>
    clear hfew
    have hA := law_awake w1
    go_wp2_with fail
    refine hA.mono ?_
    rintro e w2 ⟨rfl, b2⟩
    have B2 := Lib.hid (B1.out.trans (b2.mono B1.out.size))
    clear b2 hA
    go_wp2
    go_ret
    exact ⟨rfl, B2.out⟩
  | true =>
    have FEW := Lib.hid (hfew rfl)
    clear hfew
    have hN := at_New 5000 5000 w1 (by omega) (by omega)
    go_wp2_with fail
    refine hN.mono ?_
    rintro e w2 ⟨d, rfl, at2, b2⟩
    have A2 := Lib.hid at2
    have B2 := Lib.hid b2
    clear b2 at2 hN
    go_wp2_with fail
    go_loopw [5] (fun i wr => ∃ k : Nat, k ≤ len ∧ i = .int .i64 k ∧ ∃ s, At w1.heap.size wr d s ∧ Calm s ∧ s.steps ≤ k ∧ Below w1.heap.size w1 wr) (fun i _ => len - (RowKit.intOf i).toNat)
    case atStart => exact ⟨0, Nat.zero_le _, rfl, _, A2.out, calm_new _ _, Nat.le_refl _, B2.out⟩
    case round =>
      obtain ⟨k, hk, rfl, s, hat, hcalm, hst, hbr⟩ := hrel
      have hlen200 := FEW.out.len
      have hmax := HI.out.2.1
      by_cases hlt : k < len
      · obtain ⟨hlen, _, b, off, ha, hrow⟩ := I1.out
        have hlt0 : k < os.length := by omega
        obtain ⟨r1, r2, r3⟩ := hrow k hlt0
        obtain rfl : a = some ⟨b, off, none⟩ := by rcases ha with x | x; (omega); (exact x)
        obtain ⟨t1, t2⟩ := FEW.out.text os[k] (List.getElem_mem hlt0)
        obtain ⟨o, ho⟩ : ∃ o, o = os[k] := ⟨_, rfl⟩
        rw [← ho] at r2 r3 t1 t2
        obtain ⟨kd, tr, fl, ap, sz, tx, ka, kl, kc, ks⟩ := o
        have hin : ∀ W, Below w1.heap.size w1 W → ∀ j, j < 7 → W.cell? ⟨b, off + k * 7 + j, none⟩ = (OP.vals ⟨kd, tr, fl, ap, sz, tx, ka, kl, kc, ks⟩)[j]? := fun W hb j hj => by rw [hb.cell r1]; exact r2 j hj
        have c0 : wr.cell? ⟨b, off + k * 7, none⟩ = some (.int .i64 kd) := hin wr hbr 0 (by omega)
        have c1 : wr.cell? ⟨b, off + k * 7 + 1, none⟩ = some (.int .i64 tr) := hin wr hbr 1 (by omega)
        have c2 : wr.cell? ⟨b, off + k * 7 + 2, none⟩ = some (.int .i64 fl) := hin wr hbr 2 (by omega)
        have c3 : wr.cell? ⟨b, off + k * 7 + 3, none⟩ = some (.int .i64 ap) := hin wr hbr 3 (by omega)
        have c4 : wr.cell? ⟨b, off + k * 7 + 4, none⟩ = some (.int .i64 sz) := hin wr hbr 4 (by omega)
        have c5 : wr.cell? ⟨b, off + k * 7 + 5, none⟩ = some (.string (bs tx)) := hin wr hbr 5 (by omega)
        have c6 : wr.cell? ⟨b, off + k * 7 + 6, none⟩ = some (.slice ka kl kc) := hin wr hbr 6 (by omega)
        have HIN := Lib.hid hin
        have hokr := r3.below hbr
        have hroot := disk_Root hat.1
        have hdo := at_do hat ⟨kd, tr, fl, ap, sz, tx, ka, kl, kc, ks⟩ (r3.below (hbr.mono (Nat.le_refl _))) (by omega) (by show tx.length ≤ _; have : tx.length ≤ 100000 := t1; omega)
        obtain ⟨q1, q2, q3, q4, q5, q6⟩ := do_calm hcalm ⟨kd, tr, fl, ap, sz, tx, ka, kl, kc, ks⟩
        obtain ⟨s2, e2, hse⟩ : ∃ s2 e2, doS s ⟨kd, tr, fl, ap, sz, tx, ka, kl, kc, ks⟩ = (s2, e2) := ⟨_, _, rfl⟩
        rw [hse] at hdo q1 q2 q6
        simp only [OP.vals] at hdo
        simp only at q1 q2 q6 hdo
        have HC := Lib.hid q1
        have HST := Lib.hid (Nat.le_trans q2 (Nat.succ_le_succ hst))
        have hFit := hat.1.1
        have hpt : e2 = 0 → kd = 5 → ∃ f, findL fl s.fs = some f := fun x1 x2 => by
          rw [doS, if_neg (by simp only; omega), if_neg (by simp only; omega), if_neg (by simp only; omega), if_neg (by simp only; omega), if_pos x2] at hse
          rcases point_calm hcalm fl with ⟨e, _⟩ | ⟨f, hf, _⟩
          · simp only at hse; rw [e] at hse; injection hse with _ h2; omega
          · exact ⟨f, hf⟩
        have hpos : e2 = 0 → kd = 5 → 1 ≤ fl := fun x1 x2 => by
          obtain ⟨f, hf⟩ := hpt x1 x2
          exact file_pos hFit hf
        clear hpt
        obtain ⟨R, hR⟩ : ∃ R, R = s.root := ⟨_, rfl⟩
        rw [← hR] at hroot q6
        have hlt' : (k : Int) < len := by omega
        have hk200 : k < 200 := by omega
        have HBR := Lib.hid hbr
        clear hse q1 q2 q3 q4 q5 hat hcalm hst hbr r1 r2 r3 ho hlen ha hrow hR hin hokr t1 t2 hlt0
        by_cases hsame : s2.root = R
        · by_cases hR0 : R = 0
          · subst hR0
            go_wp2_with (first
              | (go_at_call 23; refine hroot.mono ?_; rintro e w' ⟨rfl, rfl⟩)
              | (go_at_call 11; refine hdo.mono ?_; rintro e w3 ⟨rfl, at3, b3⟩; have HX := Lib.hid at3; have HB := Lib.hid (HBR.out.trans b3); have hroot2 := disk_Root at3.1; rw [hsame] at hroot2; clear at3 b3 hroot)
              | (go_at_call 23; refine hroot2.mono ?_; rintro e w' ⟨rfl, rfl⟩))
            go_roundw
            case rel => exact ⟨k + 1, by omega, by go_num, s2, HX.out, HC.out, by have := HST.out; omega, HB.out⟩
            case measure => simp [RowKit.intOf]; omega
          · have hR1 : (R == 0) = false := by simpa using hR0
            have hR2 := hsame
            go_wp2_with (first
              | (go_at_call 23; refine hroot.mono ?_; rintro e w' ⟨rfl, rfl⟩)
              | (go_at_call 11; refine hdo.mono ?_; rintro e w3 ⟨rfl, at3, b3⟩; have HX := Lib.hid at3; have HB := Lib.hid (HBR.out.trans b3); have hroot2 := disk_Root at3.1; obtain ⟨f, hf⟩ := root_there at3.1.1 (by rw [hsame]; exact hR0); have hsz := disk_Size at3.1 s2.root (root_wf at3.1.1); rw [size_there HC.out hf] at hsz; have hdr := fun m => at_Drop (at3.drewN m) s2.root (root_wf at3.1.1) (by have := HST.out; omega); rw [drop_root HC.out at3.1.1 (by rw [hsame]; exact hR0)] at hdr; rw [hsame] at hroot2 hsz hdr; clear at3 b3 hroot hf)
              | (go_at_call 23; refine hroot2.mono ?_; rintro e w' ⟨rfl, rfl⟩)
              | (go_at_call 14; refine hsz.mono ?_; rintro e w' ⟨rfl, m, rfl⟩)
              | (go_at_call 24; refine (hdr _).mono ?_; rintro e w4 ⟨rfl, at4, b4⟩))
            go_roundw
            case rel => exact ⟨k + 1, by omega, by go_num, s2, at4, HC.out, by have := HST.out; omega, HB.out.trans (by exact ⟨b4.os, b4.tape, b4.output, b4.size, b4.block⟩)⟩
            case measure => simp [RowKit.intOf]; omega
        · obtain ⟨hk5, he0, hrf⟩ := q6.resolve_left hsame
          subst hk5
          subst he0
          have hfl1 : 1 ≤ fl := hpos rfl rfl
          have hfl0 : (fl == 0) = false := by simp; omega
          have hflR : (fl == R) = false := by simpa using fun e => hsame (hrf.trans e)
          have hflR' : (fl != R) = true := by simp [bne, hflR]
          have hne : ¬ fl = R := fun e => hsame (hrf.trans e)
          clear q6 hsame
          go_wp2_with (first
            | (go_at_call 23; refine hroot.mono ?_; rintro e w' ⟨rfl, rfl⟩)
            | (go_at_call 11; refine hdo.mono ?_; rintro e w3 ⟨rfl, at3, b3⟩; have HX := Lib.hid at3; have HB := Lib.hid (HBR.out.trans b3); have d0 : w3.cell? ⟨b, off + k * 7, none⟩ = some (.int .i64 5) := HIN.out w3 HB.out 0 (by omega); have d2 : w3.cell? ⟨b, off + k * 7 + 2, none⟩ = some (.int .i64 fl) := HIN.out w3 HB.out 2 (by omega); have hroot2 := disk_Root at3.1; have hnz : s2.root ≠ 0 := (by rw [hrf]; omega); obtain ⟨f, hf⟩ := root_there at3.1.1 hnz; have hsz := disk_Size at3.1 s2.root (root_wf at3.1.1); rw [size_there HC.out hf] at hsz; have hdr := fun m => at_Drop (at3.drewN m) s2.root (root_wf at3.1.1) (by have := HST.out; omega); rw [drop_root HC.out at3.1.1 hnz] at hdr; rw [hrf] at hroot2 hsz hdr; clear at3 b3 hroot hf hnz)
            | (go_at_call 23; refine hroot2.mono ?_; rintro e w' ⟨rfl, rfl⟩)
            | (go_at_call 14; refine hsz.mono ?_; rintro e w' ⟨rfl, m, rfl⟩)
            | (go_at_call 24; refine (hdr _).mono ?_; rintro e w4 ⟨rfl, at4, b4⟩))
          go_roundw
          case rel => exact ⟨k + 1, by omega, by go_num, s2, at4, HC.out, by have := HST.out; omega, HB.out.trans (by exact ⟨b4.os, b4.tape, b4.output, b4.size, b4.block⟩)⟩
          case measure => simp [RowKit.intOf]; omega
      · go_wp2
        go_ret
        exact ⟨rfl, B1.out.trans (hbr.mono B1.out.size)⟩

theorem contract (H : Type) (enc : TypeId × Value → H) (W : World) (base : Nat) (args : Array Value) (ds gs : List (DataW H)) (before : List MemPlace)
    (hval : ∀ (j : Nat) t v, Try.f6.params[j]? = some t → args[j]? = some v → Value.okWide Try.prog W .any base t v)
    (hW : DataW.Whole enc Try.prog Try.f6.params.toList Rows.diskRootsSpec.vars false W args.toList ds gs before) :
    Calls Try.prog 6 args W fun e W' => ∃ v, e = .returned v ∧ Rows.diskRootsSpec.post enc Try.prog Try.f6 false true false false W args v W' := by
  have hW' := hW
  obtain ⟨p, q, hA0, hV, rfl, hfz, hnd⟩ := hW
  have hA : DataW.TrodAll enc Try.prog W 0 (fun _ => true) true Try.f6.params.toList args.toList ds p := hA0
  rw [Try.params6] at hA hval
  obtain ⟨v0, vs0, d0, ds0, p0, q0, hargs, rfl, rfl, h0, r0⟩ := trodAll_cons hA
  obtain ⟨rfl, rfl, rfl⟩ := trodAll_nil r0
  obtain rfl : args = #[v0] := by cases args; simp_all
  obtain ⟨rfl, rfl⟩ := trodVars_none hV
  obtain ⟨a0, len0, cap0, rfl⟩ := okWide_slice Try.underlying22 (hval 0 22 v0 rfl rfl)
  have k0 := h0
  have lt0 : ∀ x ∈ p0, x.block < W.heap.size := by obtain ⟨m, hm⟩ := k0; exact DataW.trod_lt m _ _ _ hm
  obtain ⟨os, i0⟩ : ∃ os, IsOps W a0 len0 os := by
    obtain ⟨fuel, hf⟩ := h0
    obtain ⟨a, len, cap, os, hcs, hi⟩ := ops_read hf
    simp [Value.cells] at hcs
    obtain ⟨rfl, rfl, rfl⟩ := hcs
    exact ⟨os, hi⟩
  clear hA0
  simp only [List.append_nil] at hW'
  refine (walk a0 len0 cap0 os W i0).mono fun e W' ⟨he, bel⟩ => ?_
  subst he
  exact ⟨_, rfl, _, _, _, [], _, [], hW', trodAll_mk1 (shut_bool Try.underlying4 _), (trodAll_cons_mk (Below.trod laidOut (by kernel_rfl) (of_decide_eq_true (by kernel_rfl)) k0 bel lt0) trodAll_mk0), rfl, bel.frame _, fun h => by cases h⟩

set_option maxRecDepth 100000 in
theorem lifted (os : Os) (started : os.Started) (H : Type) (enc : TypeId × Value → H) :
    ReturnsInHanded {} Try.checked os 6 .any (Rows.diskRootsSpec.pre6 enc Try.prog Try.f6 Rows.diskRootsRow.domain false) (Rows.diskRootsSpec.post enc Try.prog Try.f6 false true false false) := by
  refine returnsInHanded_of_change (C := Try.checked) own started (by kernel_rfl) Try.func6
    (ChangeSpec.witness6 (enc := enc) (C := Try.checked) false ⟨#[], #[.slice none 0 0], []⟩ 8 (by kernel_rfl) (by kernel_rfl) (by kernel_rfl) (by kernel_rfl)) ?_
  intro W base args ds gs before hval hW _ _
  exact contract H enc W base args ds gs before hval hW

theorem over : Rows.diskRootsRow.holds Try.pinned (OpenSpec.ofChange Rows.diskRootsSpec) :=
  OpenClaim.holds_of_wide 6 Try.f6 rfl rfl rfl rfl rfl rfl rfl ⟨rfl, rfl, rfl, rfl, rfl⟩ rfl rfl rfl rfl rfl (by kernel_rfl) Try.func6 (by kernel_rfl)
    (of_decide_eq_true (by kernel_rfl)) (by unfold Func.isWrapper; first | (rw [if_pos (by decide +kernel)]; kernel_rfl) | (rw [if_neg (by decide +kernel)]; exact ⟨rfl, rfl⟩))
    (fun os started H enc _ => lifted os started H enc)

/-- ████ THE STATEMENT ████ -/
theorem proved : Rows.DiskRootsSaid :=
  over
#print axioms proved
end Go.Proofs.Ytgmfcjmbapmagaa.diskRoots
