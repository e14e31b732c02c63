/- TableBuilds -/
import Derived.Test.YteejldddgogbkaaGreatDoorBu23
import Derived.Test.YteejldddgogbkaaGreatDoorBu24
import Derived.Test.YteejldddgogbkaaGreatDoorBu15
import Derived.Test.YteejldddgogbkaaGreatDoorBu13
import Derived.Test.YteejldddgogbkaaGreatDoorBu16
import Derived.SliceStrings
import Derived.ChangeOld
import Derived.ShutString
import Derived.ChangeMaps5
import Derived.ProofKit
import Derived.OpenShut
/- TableBuilds: any entries are the document's bytes, or refused as it says. For every input; no condition beside the round numbers that the program lays (tied). -/
set_option linter.unusedVariables false
set_option maxRecDepth 100000
namespace Go.Proofs.YteejldddgogbkaaGreatDoor.tableBuilds
open Go.ChangeShapes Go.WideShapes Go.ChangeAt Go.RowKit
open Go.ChangeMaps (open_string shut_string)

/-- A slice of entries that came in, as the source of an append. -/
theorem src_ents {w : World} {a : Option Addr} {n : Nat} (c : Nat) {T : List Ent} (h : IsE w a n T) : Go.Src Tryz.prog 3 22 (.slice a n c) n (ecells T) w := by
  obtain ⟨hn, b, off, hab, hz⟩ := h
  cases a with
  | none =>
    have h0 : n = 0 := hab.resolve_right (by simp)
    subst h0
    obtain rfl : T = [] := List.eq_nil_of_length_eq_zero hn.symm
    exact Go.Src.ofNil w Tryz.underlying22 c
  | some x =>
    refine Go.Src.ofSlice w Tryz.underlying22 x n c _ (by rw [ecells_len, hn]) (fun j u hu => ?_) (fun v hv => ?_)
    · have hj : j < T.length * 3 := by rw [← ecells_len]; exact (List.getElem?_eq_some_iff.1 hu).1
      obtain ⟨i, q, hq, rfl⟩ : ∃ i q, q < 3 ∧ j = i * 3 + q := ⟨j / 3, j % 3, by omega, by omega⟩
      have hi : i < T.length := by omega
      have hx := List.getElem?_eq_getElem hi
      rw [ecells_at T i q _ hq hx] at hu
      have := hab.resolve_left (by omega)
      injection this with this
      subst this
      rw [addr_add, ← Nat.add_assoc]
      have hc := hz i hi
      match q, hq with
      | 0, _ => rw [← hu]; exact hc.c0
      | 1, _ => rw [← hu]; exact hc.c1
      | 2, _ => rw [← hu]; exact hc.c2
    · obtain ⟨e, _, hv⟩ := List.mem_flatMap.1 hv
      simp [Ent.vals] at hv
      rcases hv with rfl | rfl | rfl <;> rfl
theorem off_empty (w : World) {B : Nat} (hB : B ≤ w.heap.size) (e : TypeId) (size : Nat) : OffRow (w.alloc (.cells #[] e)) B e size (.slice (some ⟨w.heap.size, 0, none⟩) 0 0) 0 [] :=
  ⟨by simp, .inr ⟨w.heap.size, 0, 0, #[], rfl, hB, heap_new w _, Nat.le_refl _, by unfold maxLen; omega, by simp, fun j hj => by simp at hj⟩⟩

set_option maxHeartbeats 4000000 in
theorem core (a : Option Addr) (len cap : Nat) (T : List Ent) (each per : Int) (w : World) (h : InE w a len cap T) (le1 : -9223372036854775808 ≤ each) (le2 : each ≤ 9223372036854775807) (lp1 : -9223372036854775808 ≤ per) (lp2 : per ≤ 9223372036854775807) (hg : Hid (Glob w)) :
    Calls Tryz.prog 3 #[.slice a len cap, .int .i64 each, .int .i64 per] w fun e w' => e = .returned (.bool true) ∧ Below w.heap.size w w' := by
  obtain ⟨his, hbig, hroom, hfit⟩ := h
  obtain ⟨i0, hi, hz0, hz1, hz2⟩ := info_parts infoE
  have HIS := Lib.hid his
  have HFIT := Lib.hid hfit
  clear his hfit
  go_enter Tryz.func3, Tryz.ntmps3
  go_wp2_with fail
  refine (law_awake09 w hg).mono ?_
  rintro e w1 ⟨rfl, k1⟩
  have K1 := Lib.hid k1
  clear k1
  go_wp2_with fail
  refine (law_few a len cap T w1 (Lib.hid (HIS.out.below K1.out)) hbig HFIT).mono ?_
  rintro e w2 ⟨rfl, k2⟩
  have K2 := Lib.hid (K1.out.trans (k2.mono K1.out.size))
  clear k2
  obtain ⟨r, hr⟩ : ∃ r, r = fewB T := ⟨_, rfl⟩
  rw [← hr]
  have HR := Lib.hid hr
  clear hr
  cases r with
  | false =>
    go_wp2_with fail
    refine (law_awake09 w2 (Lib.hid (hg.out.keep K2.out hg.out.1))).mono ?_
    rintro e w3 ⟨rfl, k3⟩
    have K3 := Lib.hid k3
    clear k3
    go_wp2_with fail
    go_ret
    exact ⟨rfl, K2.out.trans (K3.out.mono K2.out.size)⟩
  | true =>
    have hfew := Lib.hid (few_of HR.out.symm)
    have hlen : len ≤ 3001 := by rw [HIS.out.1]; exact hfew.out.1
    have HSM := Lib.hid (show smallE T from fun x hx => by have := hfew.out.2 x hx; constructor <;> omega)
    have HLEN := Lib.hid HIS.out.1
    go_wp2_with (at_builtin; refine wpList_append_off rfl (.tmp 20) (.tmp 21) 22 rfl w.heap.size 49 i0 _ 3 40 Tryz.underlying22 hi hz0 hz1 hz2 rfl (.slice (some ⟨w2.heap.size, 0, none⟩) 0 0) 0 [] rfl (off_empty w2 K2.out.size _ _) (.slice a len cap) rfl len (ecells T) ?c2 ?c3 ?c4 ?c5 ?_)
    case c2 => exact src_ents cap (HIS.out.below (K2.out.alloc K2.out.size _))
    case c3 => unfold maxLen; omega
    case c4 => omega
    case c5 => have := K2.out.size; simp; omega
    intro v3 w3 hr3 hg3 _
    have O3 : OwnE w3 w.heap.size v3 T := by
      unfold OwnE
      rw [← HLEN.out]
      exact hr3
    obtain ⟨a3, cap3, hv3⟩ := O3.slice
    rw [← HLEN.out] at hv3
    subst hv3
    have E3 := Lib.hid (O3.is HLEN.out)
    have hc3 : len ≤ cap3 := by have := O3.len_cap; rwa [← HLEN.out] at this
    have K3 := Lib.hid ((K2.out.alloc K2.out.size (.cells #[] 49)).grown hg3 (by have := K2.out.size; simp; omega) (fun k hk => by
      injection hk with hk
      rw [← hk]
      exact K2.out.size))
    have G3 := Lib.hid (hg.out.keep K3.out hg.out.1)
    have HBD := Lib.hid (table_Build a3 len cap3 T each per w3 E3 hlen hc3 HSM G3)
    have HRB := Lib.hid (fun (W : World) (hW : IsE W a len T) => ref_Build a len cap T each per W (Lib.hid hW) hlen HSM)
    clear hr3 hg3 O3 hi hz0 hz1 hz2
    have hbb : buildE each per T = buildE' each per T := rfl
    obtain ⟨P, hP⟩ : ∃ P, P = (if buildE' each per T = 0 then tabB each.toNat per.toNat T else []) := ⟨_, rfl⟩
    rw [hbb] at HRB
    rw [← hP] at HBD HRB
    obtain ⟨z, hz⟩ : ∃ z, z = buildE' each per T := ⟨_, rfl⟩
    rw [← hz] at HBD HRB
    clear hbb hP hz
    go_wp2_with fail
    refine HBD.out.mono ?_
    rintro e w4 ⟨rfl, k4⟩
    have E4 := Lib.hid (E3.out.below k4)
    have K4 := Lib.hid (K3.out.trans (k4.mono K3.out.size))
    clear k4
    go_wp2_with fail
    refine (HRB.out w4 (HIS.out.below K4.out)).mono ?_
    rintro e w5 ⟨rfl, k5⟩
    have E5 := Lib.hid (E4.out.below k5)
    have K5 := Lib.hid (K4.out.trans (k5.mono K4.out.size))
    clear k5
    have heq : ((bs P).toList == (bs P).toList) = true := by simp
    have hzz : (z == z) = true := beq_self_eq_true z
    go_wp2_with fail
    refine (ref_Same a3 a len cap3 cap T w5 E5 (Lib.hid (HIS.out.below K5.out)) hbig).mono ?_
    rintro e w6 ⟨rfl, k6⟩
    have K6 := Lib.hid (K5.out.trans (k6.mono K5.out.size))
    clear k6
    go_wp2_with fail
    go_ret
    exact ⟨rfl, K6.out⟩

theorem laidOut : laidOutB Tryz.prog = true := by kernel_rfl
theorem contract (H : Type) (enc : TypeId × Value → H) (W : World) (base : Nat) (args : Array Value) (ds gs : List (DataW H)) (before : List MemPlace)
    (hval : ∀ (j : Nat) t v, Tryz.f3.params[j]? = some t → args[j]? = some v → Value.okWide Tryz.prog W .any base t v)
    (hW : DataW.Whole enc Tryz.prog Tryz.f3.params.toList Rows.tableBuildsSpec.vars false W args.toList ds gs before) (hL : laidMetH Tryz.prog Rows.tableBuildsRow.laid W) :
    Calls Tryz.prog 3 args W fun e W' => ∃ v, e = .returned v ∧ Rows.tableBuildsSpec.post enc Tryz.prog Tryz.f3 false true false false W args v W' := by
  have hW' := hW
  obtain ⟨p, q, hA0, hV, rfl, hfz, hnd⟩ := hW
  have hA : DataW.TrodAll enc Tryz.prog W 0 (fun _ => true) true Tryz.f3.params.toList args.toList ds p := hA0
  rw [Tryz.params3] at hA hval
  obtain ⟨v0, vs0, d0, ds0, p0, q0, hargs0, rfl, rfl, h0, r0⟩ := trodAll_cons hA
  obtain ⟨v1, vs1, d1, ds1, p1, q1, rfl, rfl, rfl, h1, r1⟩ := trodAll_cons r0
  obtain ⟨v2, vs2, d2, ds2, p2, q2, rfl, rfl, rfl, h2, r2⟩ := trodAll_cons r1
  obtain ⟨rfl, rfl, rfl⟩ := trodAll_nil r2
  obtain rfl : args = #[v0, v1, v2] := by cases args; simp_all
  obtain ⟨rfl, rfl⟩ := trodVars_none hV
  obtain ⟨a0, len0, cap0, rfl⟩ := okWide_slice Tryz.underlying22 (hval 0 22 v0 rfl rfl)
  obtain ⟨T0, i0⟩ := open_ents h0
  have k1s := h1
  obtain ⟨n1, rfl, ed1, ep1, wf1⟩ := open_int Tryz.underlying3 (hval 1 3 v1 rfl rfl) k1s
  obtain ⟨lo1, hi1⟩ : -9223372036854775808 ≤ n1 ∧ n1 ≤ 9223372036854775807 := by simp [Lit.wf, IntKind.min, IntKind.max, IntKind.signed, IntKind.bits] at wf1; omega
  have k2s := h2
  obtain ⟨n2, rfl, ed2, ep2, wf2⟩ := open_int Tryz.underlying3 (hval 2 3 v2 rfl rfl) k2s
  obtain ⟨lo2, hi2⟩ : -9223372036854775808 ≤ n2 ∧ n2 ≤ 9223372036854775807 := by simp [Lit.wf, IntKind.min, IntKind.max, IntKind.signed, IntKind.bits] at wf2; omega
  have lt0 : ∀ x ∈ p0, x.block < W.heap.size := by obtain ⟨m, hm⟩ := h0; exact DataW.trod_lt m _ _ _ hm
  have lt1 : ∀ x ∈ p1, x.block < W.heap.size := by obtain ⟨m, hm⟩ := h1; exact DataW.trod_lt m _ _ _ hm
  have lt2 : ∀ x ∈ p2, x.block < W.heap.size := by obtain ⟨m, hm⟩ := h2; exact DataW.trod_lt m _ _ _ hm
  clear hA0
  simp only [List.append_nil] at hW'
  refine (core a0 len0 cap0 T0 n1 n2 W i0 lo1 hi1 lo2 hi2 (Lib.hid (glob_of hL))).mono fun e W' ⟨he, bel⟩ => ?_
  subst he
  exact ⟨_, rfl, _, _, _, [], _, [], hW', trodAll_mk1 (shut_bool Tryz.underlying4 _), (trodAll_cons_mk (Below.trod laidOut (by kernel_rfl) (of_decide_eq_true (by kernel_rfl)) h0 bel lt0) (trodAll_cons_mk (Below.trod laidOut (by kernel_rfl) (of_decide_eq_true (by kernel_rfl)) h1 bel lt1) (trodAll_cons_mk (Below.trod laidOut (by kernel_rfl) (of_decide_eq_true (by kernel_rfl)) h2 bel lt2) trodAll_mk0))), rfl, bel.frame _, fun h => by cases h⟩

theorem laid_met (os : Os) : laidMet Tryz.prog Rows.tableBuildsRow.laid ((laidWorld os).forCall (fun _ _ => 0) ⟨#[], #[.slice none 0 0, .int .i64 0, .int .i64 0], []⟩).memory :=
  laidMet_of_run' 8 (by kernel_rfl) (by kernel_rfl)
theorem reads (os : Os) {H : Type} (enc : TypeId × Value → H) : ∃ places, DataW.whole enc Tryz.prog ((laidWorld os).forCall (fun _ _ => 0) ⟨#[], #[.slice none 0 0, .int .i64 0, .int .i64 0], []⟩).memory Tryz.f3.params.toList Rows.tableBuildsSpec.vars false #[Value.slice none 0 0, Value.int .i64 0, Value.int .i64 0].toList 8 = some ([.nil, .lit (.int .i64 0), .lit (.int .i64 0)], [], places) :=
  ⟨[], by kernel_rfl⟩

set_option maxRecDepth 100000 in
theorem lifted (os : Os) (started : os.Started) (H : Type) (enc : TypeId × Value → H) (F : Stop.Interp) :
    ReturnsInHanded {} Tryz.checked os 3 .any ((OpenSpec.ofChange Rows.tableBuildsSpec).preRow enc Tryz.prog Tryz.f3 Rows.tableBuildsRow.domain false Rows.tableBuildsRow.laid) (((OpenSpec.ofChange Rows.tableBuildsSpec).at F).post enc Tryz.prog Tryz.f3 false true false false) := by
  obtain ⟨places, hx⟩ := reads os enc
  refine returnsInHanded_of_row (C := Tryz.checked) (s := OpenSpec.ofChange Rows.tableBuildsSpec) own started (by kernel_rfl) Tryz.func3
    (witness_row_at (enc := enc) (C := Tryz.checked) false (laidWorld os) #[.slice none 0 0, .int .i64 0, .int .i64 0] rfl (by kernel_rfl) (by kernel_rfl) (by kernel_rfl)
      (OpenSpec.preRow_of_cond 8 hx (by kernel_rfl) (fun k hk => by cases hk) (by kernel_rfl) (laid_met os))) ?_
  intro W base args ds gs before hval hW _ _ _ hL _ _
  exact contract H enc W base args ds gs before hval hW hL

theorem said : Rows.TableBuildsSaid :=
  OpenClaim.holds_of_cond 3 Tryz.f3 rfl rfl rfl rfl rfl rfl rfl ⟨rfl, rfl, rfl, rfl, rfl⟩ rfl rfl rfl rfl rfl (by kernel_rfl) Tryz.func3 (by kernel_rfl)
    (of_decide_eq_true (by kernel_rfl)) (by unfold Func.isWrapper; first | (rw [if_pos (by decide +kernel)]; kernel_rfl) | (rw [if_neg (by decide +kernel)]; exact ⟨rfl, rfl⟩))
    (fun os started H enc _ F => by rw [OpenClaim.pre_eq_preRow]; exact lifted os started H enc F)

/-- No parameter wants a stand-in; the program's own looks are off. -/
theorem plain (f : FuncId) (fn : Func) (hf : Tryz.pinned.checked.prog.funcNamed "silo/silolaw09.TableBuilds" = some f) (hfn : Tryz.pinned.checked.prog.funcs[f]? = some fn) :
    false = Tryz.pinned.checked.prog.looks [] ∧ ∀ (j : Nat) t, fn.params[j]? = some t → Tryz.pinned.checked.prog.wantsStandIn t = false := by
  obtain rfl : f = 3 := Option.some.inj ((show Tryz.prog.funcNamed "silo/silolaw09.TableBuilds" = some 3 by kernel_rfl).symm.trans hf) |>.symm
  obtain rfl : fn = Tryz.f3 := (Option.some.inj (Tryz.func3.symm.trans hfn)).symm
  refine ⟨by kernel_rfl, fun j t ht => ?_⟩
  rw [Tryz.params3] at ht
  have hm : t ∈ [22, 3, 3] := by simpa using Array.mem_of_getElem? ht
  have hall : ([22, 3, 3].all fun u => !Tryz.prog.wantsStandIn u) = true := by kernel_rfl
  exact (show Tryz.prog.wantsStandIn t = false by simpa using List.all_eq_true.1 hall t hm)

/-- ████ THE CARD ████ -/
theorem proved : Rows.TableBuildsCardSaid :=
  Claim7.holds_tied_plain_at .later [] _ _ _ _ said (fun _ h => by cases h) (by kernel_rfl) (fun _ h => by cases h) tableBuilds_row_tie rfl ⟨rfl, rfl⟩ (by kernel_rfl) rfl plain (by kernel_rfl)
#print axioms proved
end Go.Proofs.YteejldddgogbkaaGreatDoor.tableBuilds
