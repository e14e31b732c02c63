/- SixOne: whatever a reader goes over, written again, are the bytes that it went over; where nothing was gone over, nothing was. For every input; no condition. -/
import Derived.Test.YtnadgcbiichmhaaRows
import Derived.Test.YtnadgcbiichmhaaCommon
import Derived.SizedLaws
import Derived.WalkKit
import Derived.ProofKit
import Derived.OpenShut
import Derived.ShutString
import Derived.ChangeOld
import Derived.Below
namespace Go.Proofs.Ytnadgcbiichmhaa.sixOne
open Go.ChangeShapes Go.WideShapes Go.ChangeAt Go.RowKit
open Go.ChangeMaps (open_string shut_string)
set_option linter.unusedVariables false

theorem own : ownKnob Try.prog.godebug = none := by kernel_rfl
theorem laidOut : laidOutB Try.prog = true := by kernel_rfl

/-- WHAT THE WALK IS TOLD OF A SLICE OF INTEGERS THAT CAME IN: it is nil; or it leads to a row of 'cap' cells, the numbers 'zs' (the first 'len' are its elements, the rest its spare room), each fitting its kind. -/
def IsRow (k : IntKind) (w : World) (a : Option Addr) (len cap : Nat) (zs : List Int) : Prop :=
  (a = none ∧ len = 0 ∧ cap = 0 ∧ zs = []) ∨
  ∃ x, a = some x ∧ len ≤ cap ∧ cap ≤ maxLen ∧ zs.length = cap ∧ (∀ i, i < zs.length → w.cell? (x.add i) = some (.int k (zs.getD i 0))) ∧ ∀ n ∈ zs, (Lit.int k n).wf = true

theorem cat_size {a b c : ByteArray} (h : a ++ b = c) (hc : c.size ≤ 140737488351232) : (a.size : Int) + (b.size : Int) ≤ 9223372036854775807 := by
  have : (a ++ b).size = c.size := by rw [h]
  rw [ByteArray.size_append] at this
  omega

set_option maxHeartbeats 2000000 in
set_option maxRecDepth 100000 in
theorem core (a0 : ByteArray) (a1 : Option Addr) (b off len cap : Nat) (z : Nat → Int) (w : World) (w0 : a0.size ≤ 140737488351232) (hl : len ≤ maxLen) (hz : Hid (Row8 b off len z w)) (hab : Hid (len = 0 ∨ a1 = some ⟨b, off, none⟩)) :
    Calls Try.prog 6 #[.string a0, .slice a1 len cap] w fun e w' => e = .returned (.bool true) ∧ Below w.heap.size w w' := by
  unfold maxLen at hl
  have HS := Lib.hid w0
  clear w0
  go_enter Try.func6, Try.ntmps6
  go_wp2_with fail
  refine (six_Over a0 w).mono ?_
  rintro e w1 ⟨rfl, hw1⟩
  have h1 := Rt.new a0 w
  rw [hw1] at h1
  have k1 : Below w.heap.size w w1 := by rw [← hw1]; exact (Below.refl _ _).alloc (Nat.le_refl _) _
  have H1 := Lib.hid h1
  have K1 := Lib.hid k1
  clear h1 k1 hw1
  obtain ⟨r, hr⟩ : ∃ r, r = w.heap.size := ⟨_, rfl⟩
  rw [← hr] at H1
  have HR := Lib.hid hr
  rw [← hr]
  clear hr
  go_wp2_with fail
  refine (law_awake w1).mono ?_
  rintro e w2 ⟨rfl, k2⟩
  have H2 := Lib.hid (H1.out.below k2 H1.out.lt)
  have K2 := Lib.hid (K1.out.trans (k2.mono (by have := K1.out.size; exact this)))
  clear k2
  go_wp2_with fail
  go_loopw [6] (fun i wr => ∃ k : Nat, k ≤ len ∧ i = .int .i64 k ∧ ∃ s : ByteArray, s.size ≤ 140737488351232 ∧ Rt r s wr ∧ Below w.heap.size w wr) (fun i wr => len - (intOf i).toNat)
  case atStart => exact ⟨0, Nat.zero_le _, rfl, a0, HS.out, H2.out, K2.out⟩
  case round =>
    obtain ⟨k, hk, rfl, s, hs, hrt, hbw⟩ := hrel
    have HW := Lib.hid hrt
    have HB := Lib.hid hbw
    clear hrt hbw
    by_cases hgo : k < len ∧ k < 300
    · obtain ⟨hlt, h300⟩ := hgo
      obtain ⟨hb, hc, z0, z1⟩ := hz.out k hlt
      have c1 : wr.cell? ⟨b, off + k, none⟩ = some (.int .u8 (z k)) := by rw [HB.out.cell hb]; exact hc
      have c1w := Lib.hid hc
      have ha : a1 = some ⟨b, off, none⟩ := by rcases hab.out with h | h; (omega); (exact h)
      have HBW := Lib.hid hb
      clear hb hc
      generalize z k = y at *
      subst ha
      go_wp2_with fail
      refine (six_Rest r s wr HW.out).mono ?_
      rintro e w3 ⟨rfl, rfl⟩
      go_wp2_with fail
      refine (six_New wr).mono ?_
      rintro e w4 ⟨rfl, hw4⟩
      have h4 := wt_new wr
      rw [hw4] at h4
      have hk4 : Below wr.heap.size wr w4 := by rw [← hw4]; exact (Below.refl _ _).alloc (Nat.le_refl _) _
      have HW4 := Lib.hid h4
      have HR4 := Lib.hid (HW.out.below hk4 HW.out.lt)
      have HB4 := Lib.hid (HB.out.trans (hk4.mono HB.out.size))
      have c4 : w4.cell? ⟨b, off + k, none⟩ = some (.int .u8 y) := by rw [HB4.out.cell HBW.out]; exact c1w.out
      obtain ⟨B, hB⟩ : ∃ B, B = wr.heap.size := ⟨_, rfl⟩
      rw [← hB] at HW4
      have HRB := Lib.hid (show r < B by rw [hB]; exact HW.out.lt)
      have HBB := Lib.hid (show w.heap.size ≤ B by rw [hB]; exact HB.out.size)
      rw [← hB]
      clear h4 hw4 hk4 c1 hB
      rcases Bool.eq_false_or_eq_true (y % 2 == 0) with hpar | hpar
      · obtain ⟨s1, n, e, hm1, hn1, hn2, hT, hO, hN, hle⟩ := whole_round s (by unfold maxLen; omega)
        have HT := Lib.hid hT
        clear hT
        by_cases he : e = 0
        · have heb : (e == 0) = true := beq_iff_eq.2 he
          have hcat := hO he
          have hsum := cat_size hcat (by omega)
          have HE := Lib.hid he
          clear he hO hN
          go_wp2_with fail
          refine (HT.out r w4 HR4.out).mono ?_
          rintro e w5 ⟨rfl, h5, k5⟩
          have HR5 := Lib.hid h5
          have HW5 := Lib.hid (HW4.out.read HR4.out k5)
          have HB5 := Lib.hid (HB4.out.trans (k5.below (fun j _ e => by have := HR.out; omega) (by have := HB4.out.size; exact this)))
          clear h5 k5
          go_wp2_with fail
          refine (six_Whole B B _ n w5 HW5.out hn1 hn2 (by simp)).mono ?_
          rintro e w6 ⟨rfl, h6, k6⟩
          rw [List.nil_append] at h6
          have HW6 := Lib.hid h6
          have HR6 := Lib.hid (HR5.out.below k6 HRB.out)
          have HB6 := Lib.hid (HB5.out.trans (k6.mono HBB.out))
          clear h6 k6
          go_wp2_with fail
          refine (six_Bytes B B _ w6 HW6.out).mono ?_
          rintro e w7 ⟨rfl, h7, k7, _⟩
          have HR7 := Lib.hid (HR6.out.below k7 HRB.out)
          have HB7 := Lib.hid (HB6.out.trans (k7.mono HBB.out))
          clear h7 k7
          go_wp2_with fail
          refine (six_Rest r s1 w7 HR7.out).mono ?_
          rintro e w8 ⟨rfl, rfl⟩
          go_wp2
          go_roundw
          case rel => exact ⟨k + 1, by omega, by go_num, s1, by omega, HR7.out, HB7.out⟩
          case measure => simp [intOf]; omega
        · have heb : (e == 0) = false := beq_eq_false_iff_ne.2 he
          have hcat := hN he
          have hsum := cat_size hcat (by omega)
          have HE := Lib.hid he
          clear he hO hN
          go_wp2_with fail
          refine (HT.out r w4 HR4.out).mono ?_
          rintro e w5 ⟨rfl, h5, k5⟩
          have HR5 := Lib.hid h5
          have HW5 := Lib.hid (HW4.out.read HR4.out k5)
          have HB5 := Lib.hid (HB4.out.trans (k5.below (fun j _ e => by have := HR.out; omega) (by have := HB4.out.size; exact this)))
          clear h5 k5
          go_wp2_with fail
          refine (six_Bytes B B _ w5 HW5.out).mono ?_
          rintro e w7 ⟨rfl, h7, k7, _⟩
          have HR7 := Lib.hid (HR5.out.below k7 HRB.out)
          have HB7 := Lib.hid (HB5.out.trans (k7.mono HBB.out))
          clear h7 k7
          go_wp2_with fail
          refine (six_Rest r s1 w7 HR7.out).mono ?_
          rintro e w8 ⟨rfl, rfl⟩
          go_wp2
          go_roundw
          case rel => exact ⟨k + 1, by omega, by go_num, s1, by omega, HR7.out, HB7.out⟩
          case measure => simp [intOf]; omega
      · obtain ⟨s1, t, e, hm1, htle, hT, hO, hN, hle⟩ := text_round s (by unfold maxLen; omega)
        have HT := Lib.hid hT
        clear hT
        by_cases he : e = 0
        · have heb : (e == 0) = true := beq_iff_eq.2 he
          have hcat := hO he
          have hsum := cat_size hcat (by omega)
          have HE := Lib.hid he
          clear he hO hN
          go_wp2_with fail
          refine (HT.out r w4 HR4.out).mono ?_
          rintro e w5 ⟨rfl, h5, k5⟩
          have HR5 := Lib.hid h5
          have HW5 := Lib.hid (HW4.out.read HR4.out k5)
          have HB5 := Lib.hid (HB4.out.trans (k5.below (fun j _ e => by have := HR.out; omega) (by have := HB4.out.size; exact this)))
          clear h5 k5
          go_wp2_with fail
          refine (six_Text B B _ t w5 HW5.out (by simp; omega)).mono ?_
          rintro e w6 ⟨rfl, h6, k6⟩
          rw [List.nil_append] at h6
          have HW6 := Lib.hid h6
          have HR6 := Lib.hid (HR5.out.below k6 HRB.out)
          have HB6 := Lib.hid (HB5.out.trans (k6.mono HBB.out))
          clear h6 k6
          go_wp2_with fail
          refine (six_Bytes B B _ w6 HW6.out).mono ?_
          rintro e w7 ⟨rfl, h7, k7, _⟩
          have HR7 := Lib.hid (HR6.out.below k7 HRB.out)
          have HB7 := Lib.hid (HB6.out.trans (k7.mono HBB.out))
          clear h7 k7
          go_wp2_with fail
          refine (six_Rest r s1 w7 HR7.out).mono ?_
          rintro e w8 ⟨rfl, rfl⟩
          go_wp2
          go_roundw
          case rel => exact ⟨k + 1, by omega, by go_num, s1, by omega, HR7.out, HB7.out⟩
          case measure => simp [intOf]; omega
        · have heb : (e == 0) = false := beq_eq_false_iff_ne.2 he
          have hcat := hN he
          have hsum := cat_size hcat (by omega)
          have HE := Lib.hid he
          clear he hO hN
          go_wp2_with fail
          refine (HT.out r w4 HR4.out).mono ?_
          rintro e w5 ⟨rfl, h5, k5⟩
          have HR5 := Lib.hid h5
          have HW5 := Lib.hid (HW4.out.read HR4.out k5)
          have HB5 := Lib.hid (HB4.out.trans (k5.below (fun j _ e => by have := HR.out; omega) (by have := HB4.out.size; exact this)))
          clear h5 k5
          go_wp2_with fail
          refine (six_Bytes B B _ w5 HW5.out).mono ?_
          rintro e w7 ⟨rfl, h7, k7, _⟩
          have HR7 := Lib.hid (HR5.out.below k7 HRB.out)
          have HB7 := Lib.hid (HB5.out.trans (k7.mono HBB.out))
          clear h7 k7
          go_wp2_with fail
          refine (six_Rest r s1 w7 HR7.out).mono ?_
          rintro e w8 ⟨rfl, rfl⟩
          go_wp2
          go_roundw
          case rel => exact ⟨k + 1, by omega, by go_num, s1, by omega, HR7.out, HB7.out⟩
          case measure => simp [intOf]; omega
    · have hstop : len ≤ k ∨ (k < len ∧ 300 ≤ k) := by omega
      clear hgo
      rcases hstop with hstop | ⟨hstop, h300⟩
      all_goals go_wp2
      all_goals go_ret
      all_goals exact ⟨rfl, HB.out⟩

/-! ### STEP 1: THE WALK: the Go text returns true, AND WRITES NOTHING THAT WAS THERE: 'Below w.heap.size w w'' (Derived/Below.lean: '.refl', '.alloc', '.drew', '.setCell' at a new block, '.trans'). Open each 'IsRow' by 'rcases' AHEAD of 'go_enter'; part every test ahead of the walk. -/
theorem walk (a0 : ByteArray) (a1 : Option Addr) (len1 cap1 : Nat) (z1 : List Int) (w : World) (w0 : a0.size ≤ maxLen) (w1 : IsRow .u8 w a1 len1 cap1 z1) (hreach : a0.size ≤ 140737488351232) :
    Calls Try.prog 6 #[.string a0, .slice a1 len1 cap1] w fun e w' => e = .returned (.bool true) ∧ Below w.heap.size w w' := by
  rcases w1 with ⟨rfl, rfl, rfl, rfl⟩ | ⟨x, rfl, hl, hm, hz, hcell, hwz⟩
  · exact core a0 none 0 0 0 0 (fun _ => 0) w hreach (by unfold maxLen; omega) (fun k hk => absurd hk (by omega)) (.inl rfl)
  · by_cases h0 : len1 = 0
    · subst h0
      exact core a0 (some x) 0 0 0 cap1 (fun _ => 0) w hreach (by unfold maxLen; omega) (fun k hk => absurd hk (by omega)) (.inl rfl)
    · obtain ⟨b, off, rfl, hc⟩ := ints_at hcell (by omega)
      refine core a0 _ b off len1 cap1 (fun k => z1.getD k 0) w hreach (by omega) ?_ (.inr rfl)
      intro k hk
      have h1 := hc k (by omega)
      have h2 := range_u8 hwz k
      refine ⟨cell_block h1, h1, ?_, ?_⟩
      · have := h2.1; simpa using this
      · have := h2.2; simpa using this

/-! ### THE ROW's STEP: WRITTEN OUT: LEAVE IT -/
set_option maxRecDepth 100000 in
theorem lifted (os : Os) (started : os.Started) (H : Type) (enc : TypeId × Value → H) :
    ReturnsInHanded {} Try.checked os 6 .any (Rows.sixOneSpec.pre6 enc Try.prog Try.f6 Rows.sixOneRow.domain false) (Rows.sixOneSpec.post enc Try.prog Try.f6 false true false false) := by
  refine returnsInHanded_of_change_sized (C := Try.checked) own started (by kernel_rfl) Try.func6
    (ChangeSpec.witness6 (enc := enc) (C := Try.checked) false ⟨#[], #[.string ByteArray.empty, .slice none 0 0], []⟩ 8 (by kernel_rfl) (by kernel_rfl) (by kernel_rfl) (by kernel_rfl)) ?_
  intro W base args ds gs before hval0 hW hcnd hsz0 _
  have hsz : (DataW.weightsEach Try.prog (Try.f6.params.toList ++ Rows.sixOneSpec.plain.varTypes Try.prog) (ds ++ gs)).all (· ≤ reachBytes) = true := hsz0
  have hval : ∀ (j : Nat) t v, Try.f6.params[j]? = some t → args[j]? = some v → Value.okWide Try.prog W .any base t v := hval0
  have hW' := hW
  obtain ⟨p, q, hA0, hV, rfl, hfz, hnd⟩ := hW
  have hA : DataW.TrodAll enc Try.prog W 0 (fun _ => true) true Try.f6.params.toList args.toList ds p := hA0
  rw [Try.params6] at hA hval hsz
  obtain ⟨v0, vs0, d0, ds0, p0, q0, hargs, rfl, rfl, h0, r0⟩ := trodAll_cons hA
  obtain ⟨v1, vs1, d1, ds1, p1, q1, rfl, rfl, rfl, h1, r1⟩ := trodAll_cons r0
  obtain ⟨rfl, rfl, rfl⟩ := trodAll_nil r1
  obtain rfl : args = #[v0, v1] := by cases args; simp_all
  obtain ⟨rfl, rfl⟩ := trodVars_none hV
  obtain ⟨a0, rfl, rfl, rfl, w0⟩ := open_string Try.underlying9 (hval 0 9 v0 rfl rfl) h0
  obtain ⟨a1, len1, cap1, rfl⟩ := okWide_slice Try.underlying33 (hval 1 33 v1 rfl rfl)
  have k1 := h1
  have lt1 : ∀ x ∈ p1, x.block < W.heap.size := by obtain ⟨m, hm⟩ := k1; exact DataW.trod_lt m _ _ _ hm
  obtain ⟨z1, w1⟩ : ∃ zs, IsRow .u8 W a1 len1 cap1 zs := by
    obtain ⟨fuel, hf⟩ := h1
    rcases open_ints Try.underlying33 Try.underlying5 (by kernel_rfl) hf with ⟨hcs, _⟩ | ⟨x, l, c, zs, hcs, _, hl, hm, hz, _, hcell, hwz⟩
    · simp [Value.cells] at hcs
      obtain ⟨rfl, rfl, rfl⟩ := hcs
      exact ⟨[], .inl ⟨rfl, rfl, rfl, rfl⟩⟩
    · simp [Value.cells] at hcs
      obtain ⟨rfl, rfl, rfl⟩ := hcs
      exact ⟨zs, .inr ⟨_, rfl, hl, hm, by simpa using hz, hcell, hwz⟩⟩
  clear hA0 hval0
  have hreach : a0.size ≤ 140737488351232 := by
    have h1 := sized_string hsz (j := 0) (t := 9) rfl rfl
    rw [← Lib.size_eq] at h1
    exact h1
  refine (walk a0 a1 len1 cap1 z1 W w0 w1 hreach).mono fun e W' ⟨he, bel⟩ => ?_
  subst he
  exact ⟨_, rfl, _, _, _, [], _, [], hW', trodAll_mk1 (shut_bool Try.underlying4 _), (trodAll_cons_mk (shut_string Try.underlying9 w0) (trodAll_cons_mk (Below.trod laidOut (by kernel_rfl) (of_decide_eq_true (by kernel_rfl)) k1 bel lt1) trodAll_mk0)), rfl, bel.frame _, fun h => by cases h⟩

theorem over : Rows.sixOneRow.holds Try.pinned (OpenSpec.ofChange Rows.sixOneSpec) :=
  OpenClaim.holds_of_wide 6 Try.f6 rfl rfl rfl rfl rfl rfl rfl ⟨rfl, rfl, rfl, rfl, rfl⟩ rfl rfl rfl rfl rfl (by kernel_rfl) Try.func6 (by kernel_rfl)
    (of_decide_eq_true (by kernel_rfl)) (by unfold Func.isWrapper; first | (rw [if_pos (by decide +kernel)]; kernel_rfl) | (rw [if_neg (by decide +kernel)]; exact ⟨rfl, rfl⟩))
    (fun os started H enc _ => lifted os started H enc)

/-- ████ THE STATEMENT ████ -/
theorem proved : Rows.SixOneSaid := over
#print axioms proved
end Go.Proofs.Ytnadgcbiichmhaa.sixOne
