/- EpochNil: books that may not be, and a nil book. For every input; no condition. -/
import Derived.Test.YtagadjgemgajjaaRows
import Derived.Test.YtagadjgemgajjaaEpInt
import Derived.WalkKit
import Derived.ProofKit
import Derived.OpenShut
import Derived.ShutString
namespace Go.Proofs.Ytagadjgemgajjaa.epochNil
open Go.ChangeShapes Go.WideShapes Go.ChangeAt Go.RowKit
open Go.ChangeMaps (open_string shut_string)
set_option linter.unusedVariables false

theorem own : ownKnob Try.prog.godebug = none := by kernel_rfl
theorem laidOut : laidOutB Try.prog = true := by kernel_rfl
theorem now_nil (w : World) : Calls Try.prog 26 #[.pointer none] w fun e w' => e = .returned (.int .i64 0) ∧ w = w' := by
  go_enter Try.func26, Try.ntmps26
  go_wp2
  go_ret
  exact ⟨rfl, rfl⟩
theorem held_nil (w : World) : Calls Try.prog 27 #[.pointer none] w fun e w' => e = .returned (.int .i64 0) ∧ w = w' := by
  go_enter Try.func27, Try.ntmps27
  go_wp2
  go_ret
  exact ⟨rfl, rfl⟩
theorem readers_nil (w : World) : Calls Try.prog 30 #[.pointer none] w fun e w' => e = .returned (.int .i64 0) ∧ w = w' := by
  go_enter Try.func30, Try.ntmps30
  go_wp2
  go_ret
  exact ⟨rfl, rfl⟩
theorem free_nil (w : World) : Calls Try.prog 25 #[.pointer none] w fun e w' => e = .returned (.slice none 0 0) ∧ w = w' := by
  go_enter Try.func25, Try.ntmps25
  go_wp2
  go_ret
  exact ⟨rfl, rfl⟩
theorem retire_nil (a : Option Addr) (n c : Nat) (w : World) : Calls Try.prog 24 #[.pointer none, .slice a n c] w fun e w' => e = .returned (.int .i64 1) ∧ w = w' := by
  go_enter Try.func24, Try.ntmps24
  go_wp2
  go_ret
  exact ⟨rfl, rfl⟩
theorem enter_nil (i t : Int) (w : World) : Calls Try.prog 28 #[.pointer none, .int .i64 i, .int .i64 t] w fun e w' => e = .returned (.int .i64 1) ∧ w = w' := by
  have h := iisSlot_nil i w
  go_enter Try.func28, Try.ntmps28
  go_wp2_with (go_at_call 35; refine h.mono ?_; rintro e w' ⟨rfl, rfl⟩)
  go_ret
  exact ⟨rfl, rfl⟩
theorem leave_nil (i : Int) (w : World) : Calls Try.prog 29 #[.pointer none, .int .i64 i] w fun e w' => e = .returned (.int .i64 1) ∧ w = w' := by
  have h := iisSlot_nil i w
  go_enter Try.func29, Try.ntmps29
  go_wp2_with (go_at_call 35; refine h.mono ?_; rintro e w' ⟨rfl, rfl⟩)
  go_ret
  exact ⟨rfl, rfl⟩
set_option maxHeartbeats 4000000 in
set_option maxRecDepth 100000 in
theorem walk (n slot at_ : Int) (w : World) :
    Calls Try.prog 6 #[.int .i64 n, .int .i64 slot, .int .i64 at_] w fun e w' => e = .returned (.bool true) ∧ Below w.heap.size w w' := by
  by_cases h1 : 1 ≤ n
  · by_cases h2 : n ≤ 16
    · obtain ⟨k, rfl⟩ : ∃ k : Nat, n = k := ⟨n.toNat, by omega⟩
      have hN := ibook_New k (by omega) (by omega) w
      go_enter Try.func6, Try.ntmps6
      go_wp2_with fail
      refine hN.mono ?_
      rintro e w1 ⟨rfl, -, b1⟩
      have B1 := Lib.hid b1
      clear b1 hN
      have hA := law_awake w1
      go_wp2_with fail
      refine hA.mono ?_
      rintro e w2 ⟨rfl, b2⟩
      have B2 := Lib.hid (B1.out.trans (b2.mono B1.out.size))
      clear b2 hA
      have n1 := now_nil w2
      have n2 := enter_nil slot at_ w2
      have n3 := leave_nil slot w2
      have n4 := retire_nil (some ⟨w2.heap.size, 0, none⟩) 1 1 (w2.alloc (.cells #[.int .i64 (k : Int)] 3))
      have n5 := free_nil (w2.alloc (.cells #[.int .i64 (k : Int)] 3))
      have n6 := held_nil (w2.alloc (.cells #[.int .i64 (k : Int)] 3))
      have n7 := readers_nil (w2.alloc (.cells #[.int .i64 (k : Int)] 3))
      go_wp2_with (first
        | (go_at_call 26; refine n1.mono ?_; rintro e w' ⟨rfl, rfl⟩)
        | (go_at_call 28; refine n2.mono ?_; rintro e w' ⟨rfl, rfl⟩)
        | (go_at_call 29; refine n3.mono ?_; rintro e w' ⟨rfl, rfl⟩)
        | (go_at_call 24; refine n4.mono ?_; rintro e w' ⟨rfl, rfl⟩)
        | (go_at_call 25; refine n5.mono ?_; rintro e w' ⟨rfl, rfl⟩)
        | (go_at_call 27; refine n6.mono ?_; rintro e w' ⟨rfl, rfl⟩)
        | (go_at_call 30; refine n7.mono ?_; rintro e w' ⟨rfl, rfl⟩))
      go_ret
      exact ⟨rfl, B2.out.alloc B2.out.size _⟩
    · have h2' : 16 < n := by omega
      have hN := ibook_New_not n (.inr h2') w
      go_enter Try.func6, Try.ntmps6
      go_wp2_with fail
      refine hN.mono ?_
      rintro e w1 ⟨rfl, rfl⟩
      have hA := law_awake w
      go_wp2_with fail
      refine hA.mono ?_
      rintro e w2 ⟨rfl, b2⟩
      have B2 := Lib.hid b2
      clear b2 hA
      have n1 := now_nil w2
      have n2 := enter_nil slot at_ w2
      have n3 := leave_nil slot w2
      have n4 := retire_nil (some ⟨w2.heap.size, 0, none⟩) 1 1 (w2.alloc (.cells #[.int .i64 n] 3))
      have n5 := free_nil (w2.alloc (.cells #[.int .i64 n] 3))
      have n6 := held_nil (w2.alloc (.cells #[.int .i64 n] 3))
      have n7 := readers_nil (w2.alloc (.cells #[.int .i64 n] 3))
      go_wp2_with (first
        | (go_at_call 26; refine n1.mono ?_; rintro e w' ⟨rfl, rfl⟩)
        | (go_at_call 28; refine n2.mono ?_; rintro e w' ⟨rfl, rfl⟩)
        | (go_at_call 29; refine n3.mono ?_; rintro e w' ⟨rfl, rfl⟩)
        | (go_at_call 24; refine n4.mono ?_; rintro e w' ⟨rfl, rfl⟩)
        | (go_at_call 25; refine n5.mono ?_; rintro e w' ⟨rfl, rfl⟩)
        | (go_at_call 27; refine n6.mono ?_; rintro e w' ⟨rfl, rfl⟩)
        | (go_at_call 30; refine n7.mono ?_; rintro e w' ⟨rfl, rfl⟩))
      go_ret
      exact ⟨rfl, B2.out.alloc B2.out.size _⟩
  · have h1' : n < 1 := by omega
    have hN := ibook_New_not n (.inl h1') w
    go_enter Try.func6, Try.ntmps6
    go_wp2_with fail
    refine hN.mono ?_
    rintro e w1 ⟨rfl, rfl⟩
    have hA := law_awake w
    go_wp2_with fail
    refine hA.mono ?_
    rintro e w2 ⟨rfl, b2⟩
    have B2 := Lib.hid b2
    clear b2 hA
    have n1 := now_nil w2
    have n2 := enter_nil slot at_ w2
    have n3 := leave_nil slot w2
    have n4 := retire_nil (some ⟨w2.heap.size, 0, none⟩) 1 1 (w2.alloc (.cells #[.int .i64 n] 3))
    have n5 := free_nil (w2.alloc (.cells #[.int .i64 n] 3))
    have n6 := held_nil (w2.alloc (.cells #[.int .i64 n] 3))
    have n7 := readers_nil (w2.alloc (.cells #[.int .i64 n] 3))
    go_wp2_with (first
      | (go_at_call 26; refine n1.mono ?_; rintro e w' ⟨rfl, rfl⟩)
      | (go_at_call 28; refine n2.mono ?_; rintro e w' ⟨rfl, rfl⟩)
      | (go_at_call 29; refine n3.mono ?_; rintro e w' ⟨rfl, rfl⟩)
      | (go_at_call 24; refine n4.mono ?_; rintro e w' ⟨rfl, rfl⟩)
      | (go_at_call 25; refine n5.mono ?_; rintro e w' ⟨rfl, rfl⟩)
      | (go_at_call 27; refine n6.mono ?_; rintro e w' ⟨rfl, rfl⟩)
      | (go_at_call 30; refine n7.mono ?_; rintro e w' ⟨rfl, rfl⟩))
    go_ret
    exact ⟨rfl, B2.out.alloc B2.out.size _⟩

set_option maxRecDepth 100000 in
theorem lifted (os : Os) (started : os.Started) (H : Type) (enc : TypeId × Value → H) :
    ReturnsInHanded {} Try.checked os 6 .any (Rows.epochNilSpec.pre6 enc Try.prog Try.f6 Rows.epochNilRow.domain false) (Rows.epochNilSpec.post enc Try.prog Try.f6 false true false false) := by
  refine returnsInHanded_of_change (C := Try.checked) own started (by kernel_rfl) Try.func6
    (ChangeSpec.witness6 (enc := enc) (C := Try.checked) false ⟨#[], #[.int .i64 0, .int .i64 0, .int .i64 0], []⟩ 8 (by kernel_rfl) (by kernel_rfl) (by kernel_rfl) (by kernel_rfl)) ?_
  intro W base args ds gs before hval0 hW hcnd _
  have hval : ∀ (j : Nat) t v, Try.f6.params[j]? = some t → args[j]? = some v → Value.okWide Try.prog W .any base t v := hval0
  have hW' := hW
  obtain ⟨p, q, hA0, hV, rfl, hfz, hnd⟩ := hW
  have hA : DataW.TrodAll enc Try.prog W 0 (fun _ => true) true Try.f6.params.toList args.toList ds p := hA0
  rw [Try.params6] at hA hval
  obtain ⟨v0, vs0, d0, ds0, p0, q0, hargs, rfl, rfl, h0, r0⟩ := trodAll_cons hA
  obtain ⟨v1, vs1, d1, ds1, p1, q1, rfl, rfl, rfl, h1, r1⟩ := trodAll_cons r0
  obtain ⟨v2, vs2, d2, ds2, p2, q2, rfl, rfl, rfl, h2, r2⟩ := trodAll_cons r1
  obtain ⟨rfl, rfl, rfl⟩ := trodAll_nil r2
  obtain rfl : args = #[v0, v1, v2] := by cases args; simp_all
  obtain ⟨rfl, rfl⟩ := trodVars_none hV
  obtain ⟨a0, rfl, rfl, rfl, w0⟩ := open_int Try.underlying3 (hval 0 3 v0 rfl rfl) h0
  obtain ⟨a1, rfl, rfl, rfl, w1⟩ := open_int Try.underlying3 (hval 1 3 v1 rfl rfl) h1
  obtain ⟨a2, rfl, rfl, rfl, w2⟩ := open_int Try.underlying3 (hval 2 3 v2 rfl rfl) h2
  clear hA0 hval0
  simp only [List.append_nil] at hW'
  refine (walk a0 a1 a2 W).mono fun e W' ⟨he, bel⟩ => ?_
  subst he
  exact ⟨_, rfl, _, _, _, [], _, [], hW', trodAll_mk1 (shut_bool Try.underlying4 _), (trodAll_cons_mk (shut_int Try.underlying3 w0) (trodAll_cons_mk (shut_int Try.underlying3 w1) (trodAll_cons_mk (shut_int Try.underlying3 w2) trodAll_mk0))), rfl, bel.frame _, fun h => by cases h⟩

theorem over : Rows.epochNilRow.holds Try.pinned (OpenSpec.ofChange Rows.epochNilSpec) :=
  OpenClaim.holds_of_wide 6 Try.f6 rfl rfl rfl rfl rfl rfl rfl ⟨rfl, rfl, rfl, rfl, rfl⟩ rfl rfl rfl rfl rfl (by kernel_rfl) Try.func6 (by kernel_rfl)
    (of_decide_eq_true (by kernel_rfl)) (by unfold Func.isWrapper; first | (rw [if_pos (by decide +kernel)]; kernel_rfl) | (rw [if_neg (by decide +kernel)]; exact ⟨rfl, rfl⟩))
    (fun os started H enc _ => lifted os started H enc)

/-- ████ THE STATEMENT ████ -/
theorem proved : Rows.EpochNilSaid :=
  over
#print axioms proved
end Go.Proofs.Ytagadjgemgajjaa.epochNil
