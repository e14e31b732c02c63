/- CrcBack: what is put is taken as it was; what is taken is such a text. For every input; no condition. -/
import Derived.Test.YtmpmkjanpnolaaaRows
import Derived.Test.YtmpmkjanpnolaaaAwake
import Derived.SizedLaws
import Derived.ChangeOld
import Derived.Below
import Derived.WalkKit
import Derived.ProofKit
import Derived.OpenShut
import Derived.ShutString
namespace Go.Proofs.Ytmpmkjanpnolaaa.crcBack
open Go.ChangeShapes Go.WideShapes Go.ChangeAt Go.RowKit
open Go.ChangeMaps (open_string shut_string)
set_option linter.unusedVariables false      -- a walk need not use every 'w<i>' (that an integer argument fits its kind)

theorem own : ownKnob Try.prog.godebug = none := by kernel_rfl
theorem laidOut : laidOutB Try.prog = true := by kernel_rfl

theorem taken_put (l : List UInt8) : takeT (l ++ four (sumL l)) = l ∧ takeE (l ++ four (sumL l)) = 0 := by
  have hl : (l ++ four (sumL l)).length = l.length + 4 := by rw [List.length_append, four_len]
  have hok : okT (l ++ four (sumL l)) := by
    unfold okT
    rw [hl, Nat.add_sub_cancel, List.drop_left, List.take_left]
  refine ⟨?_, ?_⟩
  · unfold takeT
    rw [if_pos ⟨by omega, hok⟩, hl, Nat.add_sub_cancel, List.take_left]
  · unfold takeE
    rw [if_neg (by omega), if_pos hok]
theorem put_taken {l : List UInt8} (h : takeE l = 0) : takeT l ++ four (sumL (takeT l)) = l := by
  unfold takeE at h
  split at h
  · cases h
  · split at h
    · rename_i h4 hok
      unfold takeT
      rw [if_pos ⟨by omega, hok⟩]
      unfold okT at hok
      rw [← hok, List.take_append_drop]
    · cases h
theorem takeE_cases (l : List UInt8) : takeE l = 0 ∨ takeE l = 2 ∨ takeE l = 4 := by
  unfold takeE
  split
  · exact .inr (.inl rfl)
  · split
    · exact .inl rfl
    · exact .inr (.inr rfl)
theorem takeT_len (l : List UInt8) : (takeT l).length ≤ l.length := by
  unfold takeT
  split
  · rw [List.length_take]; omega
  · simp

set_option maxHeartbeats 400000 in
theorem walk (a0 : ByteArray) (a1 : ByteArray) (w0 : a0.size ≤ 140737488351232) (w1 : a1.size ≤ 140737488351232) (w : World) :
    Calls Try.prog 5 #[.string a0, .string a1] w fun e w' => e = .returned (.bool true) ∧ Below w.heap.size w w' := by
  have hlen0 : a0.data.toList.length = a0.size := by rw [← Lib.size_eq]
  have hlen1 : a1.data.toList.length = a1.size := by rw [← Lib.size_eq]
  have hb0 : a0 = bs a0.data.toList := bs_eq rfl
  have hb1 : a1 = bs a1.data.toList := bs_eq rfl
  generalize a0.data.toList = l at *
  generalize a1.data.toList = m at *
  subst hb0 hb1
  clear hlen0 hlen1
  rw [bs_size] at w0 w1
  obtain ⟨t1, t2⟩ := taken_put l
  have H3 := Lib.hid (@put_taken m)
  have hc := takeE_cases m
  have ht := Lib.hid (takeT_len m)
  have hsz : ((bs (l ++ four (sumL l))).size : Int) = (l.length : Int) + 4 := by rw [bs_size, List.length_append, four_len]; rfl
  have hsz2 : ((bs l).size : Int) = (l.length : Int) := by rw [bs_size]
  obtain ⟨P, hP⟩ : ∃ P, P = bs (l ++ four (sumL l)) := ⟨_, rfl⟩
  have hPs : P.size ≤ 140737488355328 := by have := hsz; rw [← hP] at this; omega
  rw [← hP] at hsz
  have HP := Lib.hid hP
  clear hP
  have HT1 := Lib.hid t1
  have HT2 := Lib.hid t2
  clear t1 t2
  go_enter Try.func5, Try.ntmps5
  go_wp2_with fail
  refine (crc_Put (bs l) w (by rw [bs_size]; exact w0)).mono ?_
  rintro e w2 ⟨rfl, k2⟩
  rw [bs_list, ← HP.out]
  go_wp2_with fail
  refine (crc_Take P w2 hPs).mono ?_
  rintro e w3 ⟨rfl, k3⟩
  rw [HP.out, bs_list, HT1.out, HT2.out, ← HP.out]
  go_wp2_with fail
  refine (crc_Take (bs m) w3 (by rw [bs_size]; omega)).mono ?_
  rintro e w4 ⟨rfl, k4⟩
  rw [bs_list]
  generalize takeE m = E at *
  generalize hU : takeT m = U at *
  go_wp2_with fail
  refine (law_awake w4).mono ?_
  rintro e w5 ⟨rfl, k5⟩
  have K := Lib.hid (((k2.trans (k3.mono k2.size)).trans (k4.mono (by have := k2.size; have := k3.size; omega))).trans (k5.mono (by have := k2.size; have := k3.size; have := k4.size; omega)))
  clear k2 k3 k4 k5
  by_cases h0 : E = 0
  · subst h0
    have H3' := H3.out rfl
    go_wp2_with fail
    refine (crc_Put (bs U) w5 (by rw [bs_size]; have := ht.out; omega)).mono ?_
    rintro e w6 ⟨rfl, k6⟩
    rw [bs_list, H3']
    go_wp2
    go_ret
    exact ⟨rfl, K.out.trans (k6.mono K.out.size)⟩
  · have hne : (E == 0) = false := beq_eq_false_iff_ne.2 h0
    clear hc
    go_wp2
    go_ret
    exact ⟨rfl, K.out⟩

/-! ### THE ROW's STEP: WRITTEN OUT: LEAVE IT -/
set_option maxRecDepth 100000 in
theorem lifted (os : Os) (started : os.Started) (H : Type) (enc : TypeId × Value → H) :
    ReturnsInHanded {} Try.checked os 5 .any (Rows.crcBackSpec.pre6 enc Try.prog Try.f5 Rows.crcBackRow.domain false) (Rows.crcBackSpec.post enc Try.prog Try.f5 false true false false) := by
  refine returnsInHanded_of_change_sized (C := Try.checked) own started (by kernel_rfl) Try.func5
    (ChangeSpec.witness6 (enc := enc) (C := Try.checked) false ⟨#[], #[.string ByteArray.empty, .string ByteArray.empty], []⟩ 8 (by kernel_rfl) (by kernel_rfl) (by kernel_rfl) (by kernel_rfl)) ?_
  intro W base args ds gs before hval0 hW hcnd hsz0 _
  have hsz : (DataW.weightsEach Try.prog (Try.f5.params.toList ++ Rows.crcBackSpec.plain.varTypes Try.prog) (ds ++ gs)).all (· ≤ reachBytes) = true := hsz0
  have hval : ∀ (j : Nat) t v, Try.f5.params[j]? = some t → args[j]? = some v → Value.okWide Try.prog W .any base t v := hval0
  have hW' := hW
  obtain ⟨p, q, hA0, hV, rfl, hfz, hnd⟩ := hW
  have hA : DataW.TrodAll enc Try.prog W 0 (fun _ => true) true Try.f5.params.toList args.toList ds p := hA0
  rw [Try.params5] at hA hval hsz
  obtain ⟨v0, vs0, d0, ds0, p0, q0, hargs, rfl, rfl, h0, r0⟩ := trodAll_cons hA
  obtain ⟨v1, vs1, d1, ds1, p1, q1, rfl, rfl, rfl, h1, r1⟩ := trodAll_cons r0
  obtain ⟨rfl, rfl, rfl⟩ := trodAll_nil r1
  obtain rfl : args = #[v0, v1] := by cases args; simp_all
  obtain ⟨rfl, rfl⟩ := trodVars_none hV
  obtain ⟨a0, rfl, rfl, rfl, w0⟩ := open_string Try.underlying9 (hval 0 9 v0 rfl rfl) h0
  obtain ⟨a1, rfl, rfl, rfl, w1⟩ := open_string Try.underlying9 (hval 1 9 v1 rfl rfl) h1
  clear hA0 hval0
  simp only [List.append_nil] at hW'
  have r0 : a0.size ≤ 140737488351232 := by
    have h1 := sized_string hsz (j := 0) (t := 9) rfl rfl
    rw [← Lib.size_eq] at h1
    exact h1
  have r1 : a1.size ≤ 140737488351232 := by
    have h1 := sized_string hsz (j := 1) (t := 9) rfl rfl
    rw [← Lib.size_eq] at h1
    exact h1
  refine (walk a0 a1 r0 r1 W).mono fun e W' ⟨he, bel⟩ => ?_
  subst he
  exact ⟨_, rfl, _, _, _, [], _, [], hW', trodAll_mk1 (shut_bool Try.underlying4 _), (trodAll_cons_mk (shut_string Try.underlying9 w0) (trodAll_cons_mk (shut_string Try.underlying9 w1) trodAll_mk0)), rfl, bel.frame _, fun h => by cases h⟩

theorem over : Rows.crcBackRow.holds Try.pinned (OpenSpec.ofChange Rows.crcBackSpec) :=
  OpenClaim.holds_of_wide 5 Try.f5 rfl rfl rfl rfl rfl rfl rfl ⟨rfl, rfl, rfl, rfl, rfl⟩ rfl rfl rfl rfl rfl (by kernel_rfl) Try.func5 (by kernel_rfl)
    (of_decide_eq_true (by kernel_rfl)) (by unfold Func.isWrapper; first | (rw [if_pos (by decide +kernel)]; kernel_rfl) | (rw [if_neg (by decide +kernel)]; exact ⟨rfl, rfl⟩))
    (fun os started H enc _ => lifted os started H enc)

/-- ████ THE STATEMENT ████ -/
theorem proved : Rows.CrcBackSaid :=
  over
#print axioms proved
end Go.Proofs.Ytmpmkjanpnolaaa.crcBack
