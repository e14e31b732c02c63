/- TableNil -/
import Derived.Test.YteejldddgogbkaaDoorNi16
import Derived.Test.YteejldddgogbkaaDoorNi20
import Derived.Test.YteejldddgogbkaaDoorNi12
import Derived.SliceStrings
import Derived.ChangeOld
import Derived.ShutString
import Derived.ChangeMaps5
import Derived.ProofKit
import Derived.OpenShut
/- TableNil: sources that are none, sizes that may not be, what a source refuses, and a nil table. For every input; no condition beside the round numbers that the program lays (tied). -/
set_option linter.unusedVariables false
set_option maxRecDepth 100000
namespace Go.Proofs.YteejldddgogbkaaDoor.tableNil
open Go.ChangeShapes Go.WideShapes Go.ChangeAt Go.RowKit
open Go.ChangeMaps (open_string shut_string)

/-- A source that refuses. -/
theorem bad_src (b : Nat) (z : Int) (hz : z ≠ 0) (L : List UInt8) : Go.Proofs.YteejldddgogbkaaDoor.Src 20 #[.pointer (some ⟨b, 0, none⟩)] [(b, .cells #[.int .i64 z] 27 (0, 0))] z L where
  enters := enters_of Tryd.func20 (by kernel_rfl) rfl
  calls W hK n k hnk := by
    have h0 : W.heap[b]? = some (.cells #[.int .i64 z] 27 (0, 0)) := hK (b, _) (by simp)
    have c0 : W.cell? ⟨b, 0, none⟩ = some (.int .i64 z) := by simp [World.cell?, h0]
    have d0 : W.drew.cell? ⟨b, 0, none⟩ = some (.int .i64 z) := c0
    clear hK h0
    rw [if_neg hz]
    go_enter Tryd.func20, Tryd.ntmps20
    go_upto_region 1 with (fail)
    go_quiet (fail)
    go_wp2_with fail
    go_ret2
    exact ⟨rfl, below_drewN (Below.refl _ _) _⟩
/-- The error that is wanted. -/
def wantN (size z : Int) : Int := if size < 0 then 1 else if size < 16 then 2 else z
theorem open_bad (size z : Int) (b : Nat) (w : World) (hz : z ≠ 0) (hb : Hid (w.heap[b]? = some (.cells #[.int .i64 z] 27 (0, 0)))) (h2 : size ≤ 9223372036854775807) :
    Calls Tryd.prog 11 #[.int .i64 size, .func (.func 20) #[] #[.pointer (some ⟨b, 0, none⟩)]] w fun e w' => e = .returned (.tuple #[.pointer none, .int .i64 (wantN size z)]) ∧ Below w.heap.size w w' := by
  unfold wantN
  by_cases h : size < 0
  · rw [if_pos h]; exact open_neg size _ w h
  rw [if_neg h]
  by_cases h1 : size < 16
  · rw [if_pos h1]; exact open_short size _ _ w (by omega) h1
  rw [if_neg h1]
  obtain ⟨n, hn⟩ : ∃ n : Nat, size = (n : Int) + 16 := ⟨(size - 16).toNat, by omega⟩
  have hl : n + 16 ≤ 9223372036854775807 := by omega
  rw [hn]
  have hlen : (List.replicate (n + 16) (0 : UInt8)).length = n + 16 := List.length_replicate
  obtain ⟨L, hL⟩ : ∃ L : List UInt8, L.length = n + 16 := ⟨_, hlen⟩
  exact open_nofoot n _ _ [(b, .cells #[.int .i64 z] 27 (0, 0))] z z L w (Lib.hid (bad_src b z hz L)) (Lib.hid fun q hq => by
    simp only [List.mem_singleton] at hq
    subst hq
    exact hb.out) hL.symm (by omega) (Lib.hid (.inl ⟨hz, rfl⟩)) (Lib.hid hz)
theorem wrap_small (x : Int) : True := trivial
set_option maxHeartbeats 4000000 in
theorem core (size : Int) (key : ByteArray) (e0 : Int) (w : World) (ls1 : -9223372036854775808 ≤ size) (ls2 : size ≤ 9223372036854775807) (hk : key.size ≤ 9223372036854775807) (le1 : -9223372036854775808 ≤ e0) (le2 : e0 ≤ 9223372036854775807) (hg : Hid (Glob w)) :
    Calls Tryd.prog 6 #[.int .i64 size, .string key, .int .i64 e0] w fun e w' => e = .returned (.bool true) ∧ Below w.heap.size w w' := by
  obtain ⟨z, hz⟩ : ∃ z : Int, z = if e0 = 0 then 8 else e0 := ⟨_, rfl⟩
  have hz0 : z ≠ 0 := by rw [hz]; split <;> omega
  obtain ⟨w1, hw1⟩ : ∃ w1, w1 = w.alloc (.cells #[.int .i64 e0] 27) := ⟨_, rfl⟩
  have b1 : Below w.heap.size w w1 := by rw [hw1]; exact (Below.refl _ _).alloc (Nat.le_refl _) _
  have t1 : w1.heap[w.heap.size]? = some (.cells #[.int .i64 e0] 27 (0, 0)) := by rw [hw1]; exact heap_new w _
  have c1 : w1.cell? ⟨w.heap.size, 0, none⟩ = some (.int .i64 e0) := by simp [World.cell?, t1]
  have f1 : w1.frozen? ⟨w.heap.size, 0, none⟩ = false := by simp [World.frozen?, t1]
  obtain ⟨w2, hw2⟩ : ∃ w2, w2 = if e0 = 0 then w1.setCell ⟨w.heap.size, 0, none⟩ (.int .i64 8) else w1 := ⟨_, rfl⟩
  have K2 := Lib.hid (show Below w.heap.size w w2 by
    rw [hw2]
    split
    · exact b1.setCell (p := ⟨w.heap.size, 0, none⟩) (Nat.le_refl _) _
    · exact b1)
  have T2 := Lib.hid (show w2.heap[w.heap.size]? = some (.cells #[.int .i64 z] 27 (0, 0)) by
    rw [hw2, hz]
    split
    · rw [heap_set (o := 0) t1]; rfl
    · exact t1)
  have HB := Lib.hid (fun (W : World) (hW : W.heap[w.heap.size]? = some (.cells #[.int .i64 z] 27 (0, 0))) => open_bad size z w.heap.size W hz0 (Lib.hid hW) ls2)
  have HW1 := Lib.hid hw1
  have hkey : key = bs key.data.toList := bs_eq rfl
  obtain ⟨kl, hkl⟩ : ∃ kl, kl = key.data.toList := ⟨_, rfl⟩
  rw [← hkl] at hkey
  subst hkey
  obtain ⟨want, hwant⟩ : ∃ want, want = wantN size z := ⟨_, rfl⟩
  rw [← hwant] at HB
  have HWant := Lib.hid hwant
  have HWr : wantN size z = if size < 0 then 1 else if size < 16 then 2 else z := rfl
  rw [← hwant] at HWr
  have hsame := ent_same ⟨#[]⟩ ⟨#[]⟩ false
  have hww : (want == want) = true := beq_self_eq_true want
  clear hw1 b1 t1 hkl hwant
  have HIF := Lib.hid HWr
  have HZ := Lib.hid hz
  clear HWr
  -- what comes behind the box of the error
  have REST := Lib.hid hsame
  by_cases he : e0 = 0
  case' pos =>
    subst he
    rw [if_pos rfl] at hw2
    have HW2 := Lib.hid hw2
    clear hw2 hz
    go_enter Tryd.func6, Tryd.ntmps6
    go_upto_region 2 with (fail)
    rw [← HW1.out]
    go_upto_region 4 with (fail)
    rw [← HW2.out]
    clear c1 f1
  case' neg =>
    have heb : (e0 == 0) = false := beq_eq_false_iff_ne.2 he
    rw [if_neg he] at hw2
    have HW2 := Lib.hid hw2
    clear hw2 hz
    go_enter Tryd.func6, Tryd.ntmps6
    go_upto_region 2 with (fail)
    rw [← HW1.out]
    go_upto_region 4 with (fail)
    rw [← HW2.out]
    clear c1 f1 heb he
  all_goals
    go_wp2_with fail
    refine (open_none size w2).mono ?_
    rintro e w3 ⟨rfl, k3⟩
    have K3 := Lib.hid (K2.out.trans (k3.mono K2.out.size))
    have T3 := Lib.hid ((k3.block _ (heap_lt T2.out)).trans T2.out)
    clear k3
    go_wp2_with fail
    refine (HB.out w3 T3.out).mono ?_
    rintro e w4 ⟨rfl, k4⟩
    have K4 := Lib.hid (K3.out.trans (k4.mono K3.out.size))
    have t4 := (k4.block _ (heap_lt T3.out)).trans T3.out
    have c4 : w4.cell? ⟨w.heap.size, 0, none⟩ = some (.int .i64 z) := by simp [World.cell?, t4]
    clear k4 t4 HB
    have HGN := Lib.hid (fun (W : World) => (table_Get_nil (bs kl) W).mono (R' := fun e w' => e = .returned (.tuple #[.agg #[.string ⟨#[]⟩, .string ⟨#[]⟩, .bool false], .bool false, .int .i64 0]) ∧ Below W.heap.size W w') fun e w' h => ⟨h.1, h.2⟩)
    have hc : size < 0 ∧ want = 1 ∨ ¬ size < 0 ∧ size < 16 ∧ want = 2 ∨ ¬ size < 0 ∧ ¬ size < 16 ∧ want = z := by
      have h := HIF.out
      by_cases h1 : size < 0
      · rw [if_pos h1] at h; exact .inl ⟨h1, h⟩
      · rw [if_neg h1] at h
        by_cases h2 : size < 16
        · rw [if_pos h2] at h; exact .inr (.inl ⟨h1, h2, h⟩)
        · rw [if_neg h2] at h; exact .inr (.inr ⟨h1, h2, h⟩)
    rcases hc with ⟨h, hw⟩ | ⟨h, h16, hw⟩ | ⟨h, h16, hw⟩
    all_goals
      rw [hw]
      rw [hw] at hww
      clear HIF HWant hw
      go_upto_region 12 with (fail)
    all_goals
      clear c4
      go_wp2_with fail
      refine (HGN.out w4).mono ?_
      rintro e w5 ⟨rfl, k5⟩
      have K5 := Lib.hid (K4.out.trans (k5.mono K4.out.size))
      clear k5
      obtain ⟨w6, hw6⟩ : ∃ w6, w6 = w5.alloc (.cells #[.string ⟨#[]⟩, .string ⟨#[]⟩, .bool false] 38) := ⟨_, rfl⟩
      have B6 := Lib.hid (show Below w5.heap.size w5 w6 by rw [hw6]; exact (Below.refl _ _).alloc (Nat.le_refl _) _)
      have C6 := Lib.hid (show C3 w5.heap.size 38 (.string ⟨#[]⟩) (.string ⟨#[]⟩) (.bool false) w6 by rw [hw6]; exact heap_new w5 _)
      have K6 := Lib.hid (K5.out.trans (B6.out.mono K5.out.size))
      have HW6 := Lib.hid hw6
      clear hw6
      go_upto_region 13 with (fail)
      rw [← HW6.out]
      go_wp2_with fail
      refine (all_nil kl w6).mono ?_
      rintro e w7 ⟨⟨a7, cap7, rfl, _⟩, _, hO7⟩
      have B7 := Lib.hid (show Below w6.heap.size w6 w7 from hO7.below (fun k _ e => by have e' : k = w6.heap.size := e; omega) (Nat.le_refl _))
      have C7 := Lib.hid (C6.out.below B7.out)
      have K7 := Lib.hid (K6.out.trans (B7.out.mono K6.out.size))
      clear hO7
      go_wp2_with fail
      refine (law_awake09 w7 (Lib.hid (hg.out.keep K7.out hg.out.1))).mono ?_
      rintro e w8 ⟨rfl, k8⟩
      have C8 := Lib.hid (C7.out.below k8)
      have K8 := Lib.hid (K7.out.trans (k8.mono K7.out.size))
      clear k8
      have x0 := C8.out.c0
      have x1 := C8.out.c1
      have x2 := C8.out.c2
      go_wp2_with fail
      refine (table_Count_nil w8).mono ?_
      rintro e w9 ⟨rfl, rfl⟩
      go_wp2_with fail
      refine (table_Reads_nil w8).mono ?_
      rintro e w9 ⟨rfl, rfl⟩
      go_wp2_with fail
      go_ret
      exact ⟨rfl, K8.out⟩

theorem laidOut : laidOutB Tryd.prog = true := by kernel_rfl
theorem contract (H : Type) (enc : TypeId × Value → H) (W : World) (base : Nat) (args : Array Value) (ds gs : List (DataW H)) (before : List MemPlace)
    (hval : ∀ (j : Nat) t v, Tryd.f6.params[j]? = some t → args[j]? = some v → Value.okWide Tryd.prog W .any base t v)
    (hW : DataW.Whole enc Tryd.prog Tryd.f6.params.toList Rows.tableNilSpec.vars false W args.toList ds gs before) (hL : laidMetH Tryd.prog Rows.tableNilRow.laid W) :
    Calls Tryd.prog 6 args W fun e W' => ∃ v, e = .returned v ∧ Rows.tableNilSpec.post enc Tryd.prog Tryd.f6 false true false false W args v W' := by
  have hW' := hW
  obtain ⟨p, q, hA0, hV, rfl, hfz, hnd⟩ := hW
  have hA : DataW.TrodAll enc Tryd.prog W 0 (fun _ => true) true Tryd.f6.params.toList args.toList ds p := hA0
  rw [Tryd.params6] at hA hval
  obtain ⟨v0, vs0, d0, ds0, p0, q0, hargs0, rfl, rfl, h0, r0⟩ := trodAll_cons hA
  obtain ⟨v1, vs1, d1, ds1, p1, q1, rfl, rfl, rfl, h1, r1⟩ := trodAll_cons r0
  obtain ⟨v2, vs2, d2, ds2, p2, q2, rfl, rfl, rfl, h2, r2⟩ := trodAll_cons r1
  obtain ⟨rfl, rfl, rfl⟩ := trodAll_nil r2
  obtain rfl : args = #[v0, v1, v2] := by cases args; simp_all
  obtain ⟨rfl, rfl⟩ := trodVars_none hV
  have k0s := h0
  obtain ⟨n0, rfl, ed0, ep0, wf0⟩ := open_int Tryd.underlying3 (hval 0 3 v0 rfl rfl) k0s
  obtain ⟨lo0, hi0⟩ : -9223372036854775808 ≤ n0 ∧ n0 ≤ 9223372036854775807 := by simp [Lit.wf, IntKind.min, IntKind.max, IntKind.signed, IntKind.bits] at wf0; omega
  have k1s := h1
  obtain ⟨s1, rfl, ed1, ep1, ws1⟩ := open_string Tryd.underlying9 (hval 1 9 v1 rfl rfl) k1s
  have k2s := h2
  obtain ⟨n2, rfl, ed2, ep2, wf2⟩ := open_int Tryd.underlying3 (hval 2 3 v2 rfl rfl) k2s
  obtain ⟨lo2, hi2⟩ : -9223372036854775808 ≤ n2 ∧ n2 ≤ 9223372036854775807 := by simp [Lit.wf, IntKind.min, IntKind.max, IntKind.signed, IntKind.bits] at wf2; omega
  have lt0 : ∀ x ∈ p0, x.block < W.heap.size := by obtain ⟨m, hm⟩ := h0; exact DataW.trod_lt m _ _ _ hm
  have lt1 : ∀ x ∈ p1, x.block < W.heap.size := by obtain ⟨m, hm⟩ := h1; exact DataW.trod_lt m _ _ _ hm
  have lt2 : ∀ x ∈ p2, x.block < W.heap.size := by obtain ⟨m, hm⟩ := h2; exact DataW.trod_lt m _ _ _ hm
  clear hA0
  simp only [List.append_nil] at hW'
  refine (core n0 s1 n2 W lo0 hi0 ws1 lo2 hi2 (Lib.hid (glob_of hL))).mono fun e W' ⟨he, bel⟩ => ?_
  subst he
  exact ⟨_, rfl, _, _, _, [], _, [], hW', trodAll_mk1 (shut_bool Tryd.underlying4 _), (trodAll_cons_mk (Below.trod laidOut (by kernel_rfl) (of_decide_eq_true (by kernel_rfl)) h0 bel lt0) (trodAll_cons_mk (Below.trod laidOut (by kernel_rfl) (of_decide_eq_true (by kernel_rfl)) h1 bel lt1) (trodAll_cons_mk (Below.trod laidOut (by kernel_rfl) (of_decide_eq_true (by kernel_rfl)) h2 bel lt2) trodAll_mk0))), rfl, bel.frame _, fun h => by cases h⟩

theorem laid_met (os : Os) : laidMet Tryd.prog Rows.tableNilRow.laid ((laidWorld os).forCall (fun _ _ => 0) ⟨#[], #[.int .i64 0, .string ⟨#[]⟩, .int .i64 0], []⟩).memory :=
  laidMet_of_run' 8 (by kernel_rfl) (by kernel_rfl)
theorem reads (os : Os) {H : Type} (enc : TypeId × Value → H) : ∃ places, DataW.whole enc Tryd.prog ((laidWorld os).forCall (fun _ _ => 0) ⟨#[], #[.int .i64 0, .string ⟨#[]⟩, .int .i64 0], []⟩).memory Tryd.f6.params.toList Rows.tableNilSpec.vars false #[Value.int .i64 0, Value.string ⟨#[]⟩, Value.int .i64 0].toList 8 = some ([.lit (.int .i64 0), .lit (.string []), .lit (.int .i64 0)], [], places) :=
  ⟨[], by kernel_rfl⟩

set_option maxRecDepth 100000 in
theorem lifted (os : Os) (started : os.Started) (H : Type) (enc : TypeId × Value → H) (F : Stop.Interp) :
    ReturnsInHanded {} Tryd.checked os 6 .any ((OpenSpec.ofChange Rows.tableNilSpec).preRow enc Tryd.prog Tryd.f6 Rows.tableNilRow.domain false Rows.tableNilRow.laid) (((OpenSpec.ofChange Rows.tableNilSpec).at F).post enc Tryd.prog Tryd.f6 false true false false) := by
  obtain ⟨places, hx⟩ := reads os enc
  refine returnsInHanded_of_row (C := Tryd.checked) (s := OpenSpec.ofChange Rows.tableNilSpec) own started (by kernel_rfl) Tryd.func6
    (witness_row_at (enc := enc) (C := Tryd.checked) false (laidWorld os) #[.int .i64 0, .string ⟨#[]⟩, .int .i64 0] rfl (by kernel_rfl) (by kernel_rfl) (by kernel_rfl)
      (OpenSpec.preRow_of_cond 8 hx (by kernel_rfl) (fun k hk => by cases hk) (by kernel_rfl) (laid_met os))) ?_
  intro W base args ds gs before hval hW _ _ _ hL _ _
  exact contract H enc W base args ds gs before hval hW hL

theorem said : Rows.TableNilSaid :=
  OpenClaim.holds_of_cond 6 Tryd.f6 rfl rfl rfl rfl rfl rfl rfl ⟨rfl, rfl, rfl, rfl, rfl⟩ rfl rfl rfl rfl rfl (by kernel_rfl) Tryd.func6 (by kernel_rfl)
    (of_decide_eq_true (by kernel_rfl)) (by unfold Func.isWrapper; first | (rw [if_pos (by decide +kernel)]; kernel_rfl) | (rw [if_neg (by decide +kernel)]; exact ⟨rfl, rfl⟩))
    (fun os started H enc _ F => by rw [OpenClaim.pre_eq_preRow]; exact lifted os started H enc F)

/-- No parameter wants a stand-in; the program's own looks are off. -/
theorem plain (f : FuncId) (fn : Func) (hf : Tryd.pinned.checked.prog.funcNamed "silo/silolaw09.TableNil" = some f) (hfn : Tryd.pinned.checked.prog.funcs[f]? = some fn) :
    false = Tryd.pinned.checked.prog.looks [] ∧ ∀ (j : Nat) t, fn.params[j]? = some t → Tryd.pinned.checked.prog.wantsStandIn t = false := by
  obtain rfl : f = 6 := Option.some.inj ((show Tryd.prog.funcNamed "silo/silolaw09.TableNil" = some 6 by kernel_rfl).symm.trans hf) |>.symm
  obtain rfl : fn = Tryd.f6 := (Option.some.inj (Tryd.func6.symm.trans hfn)).symm
  refine ⟨by kernel_rfl, fun j t ht => ?_⟩
  rw [Tryd.params6] at ht
  have hm : t ∈ [3, 9, 3] := by simpa using Array.mem_of_getElem? ht
  have hall : ([3, 9, 3].all fun u => !Tryd.prog.wantsStandIn u) = true := by kernel_rfl
  exact (show Tryd.prog.wantsStandIn t = false by simpa using List.all_eq_true.1 hall t hm)

/-- ████ THE CARD ████ -/
theorem proved : Rows.TableNilCardSaid :=
  Claim7.holds_tied_plain_at .later [] _ _ _ _ said (fun _ h => by cases h) (by kernel_rfl) (fun _ h => by cases h) tableNil_row_tie rfl ⟨rfl, rfl⟩ (by kernel_rfl) rfl plain (by kernel_rfl)
#print axioms proved
end Go.Proofs.YteejldddgogbkaaDoor.tableNil
