/- DiskNil: a nil disk is down, and has nothing. For every input; no condition. -/
import Derived.Test.YtgmfcjmbapmagaaRows
import Derived.Test.YtgmfcjmbapmagaaDiskOpen
import Derived.Test.YtgmfcjmbapmagaaDiskFiles
import Derived.Below
import Derived.WalkKit
import Derived.ProofKit
import Derived.OpenShut
import Derived.ShutString
namespace Go.Proofs.Ytgmfcjmbapmagaa.diskNil
open Go.ChangeShapes Go.WideShapes Go.ChangeAt Go.RowKit
set_option linter.unusedVariables false

theorem own : ownKnob Try.prog.godebug = none := by kernel_rfl
theorem laidOut : laidOutB Try.prog = true := by kernel_rfl

/-- A call of a script, at no disk. -/
def nilE (k : Int) : Int := if 1 ≤ k ∧ k ≤ 5 then 8 else 0
set_option maxRecDepth 100000 in
theorem do_nil (o : OP) (w : World) : Calls Try.prog 11 #[.pointer none, .agg o.vals] w fun e w' => e = .returned (.int .i64 (nilE o.kind)) ∧ Below w.heap.size w w' := by
  obtain ⟨k, t, f, a, z, tx, ka, kl, kc, ks⟩ := o
  unfold OP.vals
  simp only
  have hb : Below w.heap.size w (w.alloc (.cells #[.int .i64 k, .int .i64 t, .int .i64 f, .int .i64 a, .int .i64 z, .string (bs tx), .slice ka kl kc] 32)) := (Below.refl _ _).alloc (Nat.le_refl _) _
  have HB := Lib.hid hb
  clear hb
  by_cases h1 : k = 1
  · subst h1
    go_enter Try.func11, Try.ntmps11
    go_wp2_with (go_at_call 13; refine (disk_Make_nil _ _ _).mono ?_; rintro e w' ⟨rfl, rfl⟩)
    go_ret
    exact ⟨rfl, HB.out⟩
  by_cases h2 : k = 2
  · subst h2
    go_enter Try.func11, Try.ntmps11
    go_wp2_with (go_at_call 16; refine (disk_Add_nil _ _ _).mono ?_; rintro e w' ⟨rfl, rfl⟩)
    go_ret
    exact ⟨rfl, HB.out⟩
  by_cases h3 : k = 3
  · subst h3
    go_enter Try.func11, Try.ntmps11
    go_wp2_with (go_at_call 17; refine (disk_Sync_nil _ _).mono ?_; rintro e w' ⟨rfl, rfl⟩)
    go_ret
    exact ⟨rfl, HB.out⟩
  by_cases h4 : k = 4
  · subst h4
    go_enter Try.func11, Try.ntmps11
    go_wp2_with (go_at_call 24; refine (disk_Drop_nil _ _).mono ?_; rintro e w' ⟨rfl, rfl⟩)
    go_ret
    exact ⟨rfl, HB.out⟩
  by_cases h5 : k = 5
  · subst h5
    go_enter Try.func11, Try.ntmps11
    go_wp2_with (go_at_call 27; refine (disk_Point_nil _ _).mono ?_; rintro e w' ⟨rfl, rfl⟩)
    go_ret
    exact ⟨rfl, HB.out⟩
  have b1 : (k == 1) = false := by simpa using h1
  have b2 : (k == 2) = false := by simpa using h2
  have b3 : (k == 3) = false := by simpa using h3
  have b4 : (k == 4) = false := by simpa using h4
  have b5 : (k == 5) = false := by simpa using h5
  have HN := Lib.hid (show nilE k = 0 by unfold nilE; rw [if_neg (by omega)])
  by_cases h8 : k = 8
  · subst h8
    clear h1 h2 h3 h4 h5 b1 b2 b3 b4 b5
    go_enter Try.func11, Try.ntmps11
    go_wp2_with (go_at_call 12; refine (disk_Back_nil _ _).mono ?_; rintro e w' ⟨rfl, rfl⟩)
    go_ret
    exact ⟨ret1 HN.out, HB.out⟩
  · have b8 : (k == 8) = false := by simpa using h8
    clear h1 h2 h3 h4 h5 h8
    go_enter Try.func11, Try.ntmps11
    go_wp2
    go_ret
    exact ⟨ret1 HN.out, HB.out⟩

theorem box_cells {w w1 : World} {k t f a z : Int} {tx : ByteArray} {s : Value} (h : Below (w.alloc (.cells #[.int .i64 k, .int .i64 t, .int .i64 f, .int .i64 a, .int .i64 z, .string tx, s] 32)).heap.size (w.alloc (.cells #[.int .i64 k, .int .i64 t, .int .i64 f, .int .i64 a, .int .i64 z, .string tx, s] 32)) w1) :
    w1.cell? ⟨w.heap.size, 0, none⟩ = some (.int .i64 k) ∧ w1.cell? ⟨w.heap.size, 2, none⟩ = some (.int .i64 f) ∧ w1.cell? ⟨w.heap.size, 3, none⟩ = some (.int .i64 a) ∧ w1.cell? ⟨w.heap.size, 4, none⟩ = some (.int .i64 z) := by
  have hn := heap_new w (.cells #[.int .i64 k, .int .i64 t, .int .i64 f, .int .i64 a, .int .i64 z, .string tx, s] 32)
  have hl := heap_lt hn
  refine ⟨?_, ?_, ?_, ?_⟩ <;> (rw [h.cell hl]; unfold World.cell?; rw [hn]; rfl)
set_option maxHeartbeats 4000000 in
set_option maxRecDepth 100000 in
theorem walk (o : OP) (w : World) : Calls Try.prog 7 #[.agg o.vals] w fun e w' => e = .returned (.bool true) ∧ Below w.heap.size w w' := by
  obtain ⟨k, t, f, a, z, tx, ka, kl, kc, ks⟩ := o
  have hdo := fun W => do_nil ⟨k, t, f, a, z, tx, ka, kl, kc, ks⟩ W
  unfold OP.vals at hdo ⊢
  simp only at hdo ⊢
  have hR : ∀ n i m W, Calls Try.prog 15 #[.pointer none, .int .i64 n, .int .i64 i, .int .i64 m] W fun e w' => e = .returned (.tuple #[.string ⟨#[]⟩, .int .i64 8]) ∧ W = w' := disk_Read_nil
  have hx : Below w.heap.size w (w.alloc (.cells #[.int .i64 k, .int .i64 t, .int .i64 f, .int .i64 a, .int .i64 z, .string (bs tx), .slice ka kl kc] 32)) := (Below.refl _ _).alloc (Nat.le_refl _) _
  have BX := Lib.hid hx
  clear hx
  by_cases hk1 : 1 ≤ k
  · by_cases hk2 : k ≤ 5
    · rw [show nilE k = 8 by unfold nilE; rw [if_pos ⟨hk1, hk2⟩]] at hdo
      go_enter Try.func7, Try.ntmps7
      go_wp2_with fail
      refine (disk_Arm_nil _ _).mono ?_
      rintro e w1 ⟨rfl, rfl⟩
      go_wp2_with fail
      refine (hdo _).mono ?_
      rintro e w1 ⟨rfl, hb1⟩
      have B1 := Lib.hid hb1
      obtain ⟨c0, c2, c3, c4⟩ := box_cells hb1
      have C0 := Lib.hid c0
      clear hb1
      go_wp2_with fail
      refine (hR _ _ _ _).mono ?_
      rintro e w2 ⟨rfl, rfl⟩
      go_wp2_with fail
      refine (disk_Size_nil _ _).mono ?_
      rintro e w2 ⟨rfl, rfl⟩
      clear c0 c2 c3 c4
      go_wp2_with fail
      refine (law_awake _).mono ?_
      rintro e w2 ⟨rfl, hb2⟩
      have c0 : w2.cell? ⟨w.heap.size, 0, none⟩ = some (.int .i64 k) := by rw [hb2.cell (Nat.lt_of_lt_of_le (by simp) B1.out.size)]; exact C0.out
      have B2 := Lib.hid (B1.out.trans (hb2.mono B1.out.size))
      clear hb2
      go_wp2_with fail
      refine (disk_Files_nil _).mono ?_
      rintro e w3 ⟨rfl, rfl⟩
      go_wp2_with fail
      refine (disk_Root_nil _).mono ?_
      rintro e w3 ⟨rfl, rfl⟩
      go_wp2_with fail
      refine (disk_Steps_nil _).mono ?_
      rintro e w3 ⟨rfl, rfl⟩
      go_wp2_with fail
      refine (disk_Used_nil _ _).mono ?_
      rintro e w3 ⟨rfl, rfl⟩
      go_wp2_with fail
      refine (disk_Used_nil _ _).mono ?_
      rintro e w3 ⟨rfl, rfl⟩
      go_wp2_with fail
      refine (disk_Room_nil _ _).mono ?_
      rintro e w3 ⟨rfl, rfl⟩
      go_wp2_with fail
      refine (disk_Down_nil _).mono ?_
      rintro e w3 ⟨rfl, rfl⟩
      go_wp2
      go_ret
      exact ⟨rfl, BX.out.trans (B2.out.mono (by simp))⟩
    · rw [show nilE k = 0 by unfold nilE; rw [if_neg (by omega)]] at hdo
      have hk2' : 5 < k := by omega
      clear hk2
      go_enter Try.func7, Try.ntmps7
      go_wp2_with fail
      refine (disk_Arm_nil _ _).mono ?_
      rintro e w1 ⟨rfl, rfl⟩
      go_wp2_with fail
      refine (hdo _).mono ?_
      rintro e w1 ⟨rfl, hb1⟩
      have B1 := Lib.hid hb1
      obtain ⟨c0, c2, c3, c4⟩ := box_cells hb1
      have C0 := Lib.hid c0
      clear hb1
      go_wp2_with fail
      refine (hR _ _ _ _).mono ?_
      rintro e w2 ⟨rfl, rfl⟩
      go_wp2_with fail
      refine (disk_Size_nil _ _).mono ?_
      rintro e w2 ⟨rfl, rfl⟩
      clear c0 c2 c3 c4
      go_wp2_with fail
      refine (law_awake _).mono ?_
      rintro e w2 ⟨rfl, hb2⟩
      have c0 : w2.cell? ⟨w.heap.size, 0, none⟩ = some (.int .i64 k) := by rw [hb2.cell (Nat.lt_of_lt_of_le (by simp) B1.out.size)]; exact C0.out
      have B2 := Lib.hid (B1.out.trans (hb2.mono B1.out.size))
      clear hb2
      go_wp2_with fail
      refine (disk_Files_nil _).mono ?_
      rintro e w3 ⟨rfl, rfl⟩
      go_wp2_with fail
      refine (disk_Root_nil _).mono ?_
      rintro e w3 ⟨rfl, rfl⟩
      go_wp2_with fail
      refine (disk_Steps_nil _).mono ?_
      rintro e w3 ⟨rfl, rfl⟩
      go_wp2_with fail
      refine (disk_Used_nil _ _).mono ?_
      rintro e w3 ⟨rfl, rfl⟩
      go_wp2_with fail
      refine (disk_Used_nil _ _).mono ?_
      rintro e w3 ⟨rfl, rfl⟩
      go_wp2_with fail
      refine (disk_Room_nil _ _).mono ?_
      rintro e w3 ⟨rfl, rfl⟩
      go_wp2_with fail
      refine (disk_Down_nil _).mono ?_
      rintro e w3 ⟨rfl, rfl⟩
      go_wp2
      go_ret
      exact ⟨ret_bool (by simp; omega), BX.out.trans (B2.out.mono (by simp))⟩
  · rw [show nilE k = 0 by unfold nilE; rw [if_neg (by omega)]] at hdo
    have hk1' : k < 1 := by omega
    clear hk1
    go_enter Try.func7, Try.ntmps7
    go_wp2_with fail
    refine (disk_Arm_nil _ _).mono ?_
    rintro e w1 ⟨rfl, rfl⟩
    go_wp2_with fail
    refine (hdo _).mono ?_
    rintro e w1 ⟨rfl, hb1⟩
    have B1 := Lib.hid hb1
    obtain ⟨c0, c2, c3, c4⟩ := box_cells hb1
    have C0 := Lib.hid c0
    clear hb1
    go_wp2_with fail
    refine (hR _ _ _ _).mono ?_
    rintro e w2 ⟨rfl, rfl⟩
    go_wp2_with fail
    refine (disk_Size_nil _ _).mono ?_
    rintro e w2 ⟨rfl, rfl⟩
    clear c0 c2 c3 c4
    go_wp2_with fail
    refine (law_awake _).mono ?_
    rintro e w2 ⟨rfl, hb2⟩
    have c0 : w2.cell? ⟨w.heap.size, 0, none⟩ = some (.int .i64 k) := by rw [hb2.cell (Nat.lt_of_lt_of_le (by simp) B1.out.size)]; exact C0.out
    have B2 := Lib.hid (B1.out.trans (hb2.mono B1.out.size))
    clear hb2
    go_wp2_with fail
    refine (disk_Files_nil _).mono ?_
    rintro e w3 ⟨rfl, rfl⟩
    go_wp2_with fail
    refine (disk_Root_nil _).mono ?_
    rintro e w3 ⟨rfl, rfl⟩
    go_wp2_with fail
    refine (disk_Steps_nil _).mono ?_
    rintro e w3 ⟨rfl, rfl⟩
    go_wp2_with fail
    refine (disk_Used_nil _ _).mono ?_
    rintro e w3 ⟨rfl, rfl⟩
    go_wp2_with fail
    refine (disk_Used_nil _ _).mono ?_
    rintro e w3 ⟨rfl, rfl⟩
    go_wp2_with fail
    refine (disk_Room_nil _ _).mono ?_
    rintro e w3 ⟨rfl, rfl⟩
    go_wp2_with fail
    refine (disk_Down_nil _).mono ?_
    rintro e w3 ⟨rfl, rfl⟩
    go_wp2
    go_ret
    exact ⟨rfl, BX.out.trans (B2.out.mono (by simp))⟩

theorem contract (H : Type) (enc : TypeId × Value → H) (W : World) (base : Nat) (args : Array Value) (ds gs : List (DataW H)) (before : List MemPlace)
    (hval : ∀ (j : Nat) t v, Try.f7.params[j]? = some t → args[j]? = some v → Value.okWide Try.prog W .any base t v)
    (hW : DataW.Whole enc Try.prog Try.f7.params.toList Rows.diskNilSpec.vars false W args.toList ds gs before) :
    Calls Try.prog 7 args W fun e W' => ∃ v, e = .returned v ∧ Rows.diskNilSpec.post enc Try.prog Try.f7 false true false false W args v W' := by
  have hW' := hW
  obtain ⟨p, q, hA0, hV, rfl, hfz, hnd⟩ := hW
  have hA : DataW.TrodAll enc Try.prog W 0 (fun _ => true) true Try.f7.params.toList args.toList ds p := hA0
  rw [Try.params7] at hA hval
  obtain ⟨v0, vs0, d0, ds0, p0, q0, hargs, rfl, rfl, h0, r0⟩ := trodAll_cons hA
  obtain ⟨rfl, rfl, rfl⟩ := trodAll_nil r0
  obtain rfl : args = #[v0] := by cases args; simp_all
  obtain ⟨rfl, rfl⟩ := trodVars_none hV
  obtain ⟨cs, rfl, _⟩ := okWide_struct Try.underlying32 (hval 0 32 v0 rfl rfl)
  have k0 := h0
  have lt0 : ∀ x ∈ p0, x.block < W.heap.size := by obtain ⟨m, hm⟩ := k0; exact DataW.trod_lt m _ _ _ hm
  obtain ⟨o, rfl⟩ : ∃ o : OP, cs = o.vals := by
    obtain ⟨fuel, hf⟩ := h0
    obtain ⟨o, ho, _⟩ := op_read hf
    exact ⟨o, by simpa [Value.cells] using ho⟩
  clear hA0
  simp only [List.append_nil] at hW'
  refine (walk o W).mono fun e W' ⟨he, bel⟩ => ?_
  subst he
  exact ⟨_, rfl, _, _, _, [], _, [], hW', trodAll_mk1 (shut_bool Try.underlying4 _), (trodAll_cons_mk (Below.trod laidOut (by kernel_rfl) (of_decide_eq_true (by kernel_rfl)) k0 bel lt0) trodAll_mk0), rfl, bel.frame _, fun h => by cases h⟩

set_option maxRecDepth 100000 in
theorem lifted (os : Os) (started : os.Started) (H : Type) (enc : TypeId × Value → H) :
    ReturnsInHanded {} Try.checked os 7 .any (Rows.diskNilSpec.pre6 enc Try.prog Try.f7 Rows.diskNilRow.domain false) (Rows.diskNilSpec.post enc Try.prog Try.f7 false true false false) := by
  refine returnsInHanded_of_change (C := Try.checked) own started (by kernel_rfl) Try.func7
    (ChangeSpec.witness6 (enc := enc) (C := Try.checked) false ⟨#[], #[.agg #[.int .i64 0, .int .i64 0, .int .i64 0, .int .i64 0, .int .i64 0, .string ByteArray.empty, .slice none 0 0]], []⟩ 8 (by kernel_rfl) (by kernel_rfl) (by kernel_rfl) (by kernel_rfl)) ?_
  intro W base args ds gs before hval hW _ _
  exact contract H enc W base args ds gs before hval hW

theorem over : Rows.diskNilRow.holds Try.pinned (OpenSpec.ofChange Rows.diskNilSpec) :=
  OpenClaim.holds_of_wide 7 Try.f7 rfl rfl rfl rfl rfl rfl rfl ⟨rfl, rfl, rfl, rfl, rfl⟩ rfl rfl rfl rfl rfl (by kernel_rfl) Try.func7 (by kernel_rfl)
    (of_decide_eq_true (by kernel_rfl)) (by unfold Func.isWrapper; first | (rw [if_pos (by decide +kernel)]; kernel_rfl) | (rw [if_neg (by decide +kernel)]; exact ⟨rfl, rfl⟩))
    (fun os started H enc _ => lifted os started H enc)

/-- ████ THE STATEMENT ████ -/
theorem proved : Rows.DiskNilSaid :=
  over
#print axioms proved
end Go.Proofs.Ytgmfcjmbapmagaa.diskNil
