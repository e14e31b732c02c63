/- SixReads: whatever bytes a reader goes over, by whatever calls, it answers what the document says and stands where it says. For every input; no condition. -/
import Derived.Test.YtnadgcbiichmhaaRows
import Derived.Test.YtnadgcbiichmhaaWent
import Derived.Test.YtnadgcbiichmhaaCommon
import Derived.WalkKit
import Derived.ProofKit
import Derived.OpenShut
import Derived.ShutString
import Derived.ChangeOld
import Derived.Below
namespace Go.Proofs.Ytnadgcbiichmhaa.sixReads
open Go.ChangeShapes Go.WideShapes Go.ChangeAt Go.RowKit
open Go.ChangeMaps (open_string shut_string)
set_option linter.unusedVariables false

theorem own : ownKnob Try.prog.godebug = none := by kernel_rfl
theorem laidOut : laidOutB Try.prog = true := by kernel_rfl

/-- WHAT THE WALK IS TOLD OF A SLICE OF INTEGERS THAT CAME IN: it is nil; or it leads to a row of 'cap' cells, the numbers 'zs' (the first 'len' are its elements, the rest its spare room), each fitting its kind. -/
def IsRow (k : IntKind) (w : World) (a : Option Addr) (len cap : Nat) (zs : List Int) : Prop :=
  (a = none ∧ len = 0 ∧ cap = 0 ∧ zs = []) ∨
  ∃ x, a = some x ∧ len ≤ cap ∧ cap ≤ maxLen ∧ zs.length = cap ∧ (∀ i, i < zs.length → w.cell? (x.add i) = some (.int k (zs.getD i 0))) ∧ ∀ n ∈ zs, (Lit.int k n).wf = true

set_option maxHeartbeats 1000000 in
set_option maxRecDepth 100000 in
theorem core (a0 : ByteArray) (a1 : Option Addr) (b off len cap : Nat) (z : Nat → Int) (n : Int) (w : World) (w0 : a0.size ≤ maxLen) (hl : len ≤ maxLen) (hz : Hid (Row8 b off len z w)) (hab : Hid (len = 0 ∨ a1 = some ⟨b, off, none⟩)) (hn1 : -9223372036854775808 ≤ n) (hn2 : n ≤ 9223372036854775807) :
    Calls Try.prog 4 #[.string a0, .slice a1 len cap, .int .i64 n] w fun e w' => e = .returned (.bool true) ∧ Below w.heap.size w w' := by
  unfold maxLen at hl
  have HS := Lib.hid w0
  clear w0
  go_enter Try.func4, Try.ntmps4
  go_wp2_with fail
  refine (six_Over a0 w).mono ?_
  rintro e w1 ⟨rfl, hw1⟩
  have h1 := Rt.new a0 w
  rw [hw1] at h1
  have k1 : Below w.heap.size w w1 := by rw [← hw1]; exact (Below.refl _ _).alloc (Nat.le_refl _) _
  have H1 := Lib.hid h1
  have K1 := Lib.hid k1
  clear h1 k1 hw1
  obtain ⟨r, hr⟩ : ∃ r, r = w.heap.size := ⟨_, rfl⟩
  rw [← hr] at H1
  have HR := Lib.hid hr
  rw [← hr]
  clear hr
  go_wp2_with fail
  refine (law_awake w1).mono ?_
  rintro e w2 ⟨rfl, k2⟩
  have H2 := Lib.hid (H1.out.below k2 H1.out.lt)
  have K2 := Lib.hid (K1.out.trans (k2.mono (by have := K1.out.size; exact this)))
  clear k2
  go_wp2_with fail
  refine (six_Rest r a0 w2 H2.out).mono ?_
  rintro e w3 ⟨rfl, rfl⟩
  go_wp2_with fail
  go_loopw [8] (fun i wr => ∃ k : Nat, k ≤ len ∧ i = .int .i64 k ∧ Going r w wr) (fun i wr => len - (intOf i).toNat)
  case atStart => exact ⟨0, Nat.zero_le _, rfl, ⟨a0, HS.out, H2.out⟩, K2.out⟩
  case round =>
    obtain ⟨k, hk, rfl, ⟨s, hs, hrt⟩, hbw⟩ := hrel
    have HW := Lib.hid hrt
    have HB := Lib.hid hbw
    have HZ := Lib.hid hs
    clear hrt hbw hs
    by_cases hgo : k < len ∧ k < 300
    · obtain ⟨hlt, h300⟩ := hgo
      obtain ⟨hb, hc, z0, z1⟩ := hz.out k hlt
      have c1 : wr.cell? ⟨b, off + k, none⟩ = some (.int .u8 (z k)) := by rw [HB.out.cell hb]; exact hc
      have ha : a1 = some ⟨b, off, none⟩ := by rcases hab.out with h | h; (omega); (exact h)
      clear hc hb
      generalize z k = y at *
      subst ha
      go_wp2_with fail
      refine (went_any r s y n wr HW.out HZ.out z0 z1 hn1 hn2).mono ?_
      rintro e w4 ⟨rfl, ⟨s', hs', hrt'⟩, ho⟩
      have HW2 := Lib.hid hrt'
      have HZ2 := Lib.hid hs'
      have HB2 := Lib.hid (HB.out.trans (ho.below (fun j _ e => by have := HR.out; omega) (by have := HB.out.size; exact this)))
      clear hrt' hs' ho
      go_wp2
      go_roundw
      case rel => exact ⟨k + 1, by omega, by go_num, ⟨s', HZ2.out, HW2.out⟩, HB2.out⟩
      case measure => simp [intOf]; omega
    · have hstop : len ≤ k ∨ (k < len ∧ 300 ≤ k) := by omega
      have HN := Lib.hid hgo
      clear hgo
      have fin : ∀ wf, wf = wr → Below w.heap.size w wf := fun wf e => by rw [e]; exact HB.out
      by_cases he : s.data.toList = []
      · have e1 : endE s.data.toList = 0 := by unfold endE; rw [if_pos he]
        have e2 : s.toList = [] := by rw [Lib.toList_data, he]
        have e3 : s.toList.isEmpty = true := by rw [e2]; rfl
        have HE := Lib.hid he
        have HF := Lib.hid fin
        clear he fin
        rcases hstop with hstop | ⟨hstop, h300⟩
        all_goals go_wp2_with fail
        all_goals refine (six_End r s wr HW.out).mono ?_
        all_goals rintro e w5 ⟨rfl, rfl⟩
        all_goals go_wp2_with fail
        all_goals refine (six_Rest r s wr HW.out).mono ?_
        all_goals rintro e w6 ⟨rfl, rfl⟩
        all_goals go_wp2
        all_goals go_ret
        all_goals exact ⟨rfl, HF.out _ rfl⟩
      · have e1 : endE s.data.toList = 5 := by unfold endE; rw [if_neg he]
        have e2 : ¬ s.toList = [] := by rw [Lib.toList_data]; exact he
        have e3 : s.toList.isEmpty = false := by rw [Lib.toList_data]; simpa using he
        have HE := Lib.hid he
        have HF := Lib.hid fin
        clear he fin
        rcases hstop with hstop | ⟨hstop, h300⟩
        all_goals go_wp2_with fail
        all_goals refine (six_End r s wr HW.out).mono ?_
        all_goals rintro e w5 ⟨rfl, rfl⟩
        all_goals go_wp2_with fail
        all_goals refine (six_Rest r s wr HW.out).mono ?_
        all_goals rintro e w6 ⟨rfl, rfl⟩
        all_goals go_wp2
        all_goals go_ret
        all_goals exact ⟨rfl, HF.out _ rfl⟩

/-! ### STEP 1: THE WALK: the Go text returns true, AND WRITES NOTHING THAT WAS THERE: 'Below w.heap.size w w'' (Derived/Below.lean: '.refl', '.alloc', '.drew', '.setCell' at a new block, '.trans'). Open each 'IsRow' by 'rcases' AHEAD of 'go_enter'; part every test ahead of the walk. -/
theorem walk (a0 : ByteArray) (a1 : Option Addr) (len1 cap1 : Nat) (z1 : List Int) (a2 : Int) (w : World) (w0 : a0.size ≤ maxLen) (w1 : IsRow .u8 w a1 len1 cap1 z1) (w2 : (Lit.int .i64 a2).wf = true) :
    Calls Try.prog 4 #[.string a0, .slice a1 len1 cap1, .int .i64 a2] w fun e w' => e = .returned (.bool true) ∧ Below w.heap.size w w' := by
  have wn : -9223372036854775808 ≤ a2 ∧ a2 ≤ 9223372036854775807 := by
    have := bounds_i64 w2
    omega
  rcases w1 with ⟨rfl, rfl, rfl, rfl⟩ | ⟨x, rfl, hl, hm, hz, hcell, hwz⟩
  · exact core a0 none 0 0 0 0 (fun _ => 0) a2 w w0 (by unfold maxLen; omega) (fun k hk => absurd hk (by omega)) (.inl rfl) wn.1 wn.2
  · by_cases h0 : len1 = 0
    · subst h0
      exact core a0 (some x) 0 0 0 cap1 (fun _ => 0) a2 w w0 (by unfold maxLen; omega) (fun k hk => absurd hk (by omega)) (.inl rfl) wn.1 wn.2
    · obtain ⟨b, off, rfl, hc⟩ := ints_at hcell (by omega)
      refine core a0 _ b off len1 cap1 (fun k => z1.getD k 0) a2 w w0 (by omega) ?_ (.inr rfl) wn.1 wn.2
      intro k hk
      have h1 := hc k (by omega)
      have h2 := range_u8 hwz k
      refine ⟨cell_block h1, h1, ?_, ?_⟩
      · have := h2.1; simpa using this
      · have := h2.2; simpa using this

/-! ### THE ROW's STEP: WRITTEN OUT: LEAVE IT -/
set_option maxRecDepth 100000 in
theorem lifted (os : Os) (started : os.Started) (H : Type) (enc : TypeId × Value → H) :
    ReturnsInHanded {} Try.checked os 4 .any (Rows.sixReadsSpec.pre6 enc Try.prog Try.f4 Rows.sixReadsRow.domain false) (Rows.sixReadsSpec.post enc Try.prog Try.f4 false true false false) := by
  refine returnsInHanded_of_change (C := Try.checked) own started (by kernel_rfl) Try.func4
    (ChangeSpec.witness6 (enc := enc) (C := Try.checked) false ⟨#[], #[.string ByteArray.empty, .slice none 0 0, .int .i64 0], []⟩ 8 (by kernel_rfl) (by kernel_rfl) (by kernel_rfl) (by kernel_rfl)) ?_
  intro W base args ds gs before hval0 hW hcnd _
  have hval : ∀ (j : Nat) t v, Try.f4.params[j]? = some t → args[j]? = some v → Value.okWide Try.prog W .any base t v := hval0
  have hW' := hW
  obtain ⟨p, q, hA0, hV, rfl, hfz, hnd⟩ := hW
  have hA : DataW.TrodAll enc Try.prog W 0 (fun _ => true) true Try.f4.params.toList args.toList ds p := hA0
  rw [Try.params4] at hA hval
  obtain ⟨v0, vs0, d0, ds0, p0, q0, hargs, rfl, rfl, h0, r0⟩ := trodAll_cons hA
  obtain ⟨v1, vs1, d1, ds1, p1, q1, rfl, rfl, rfl, h1, r1⟩ := trodAll_cons r0
  obtain ⟨v2, vs2, d2, ds2, p2, q2, rfl, rfl, rfl, h2, r2⟩ := trodAll_cons r1
  obtain ⟨rfl, rfl, rfl⟩ := trodAll_nil r2
  obtain rfl : args = #[v0, v1, v2] := by cases args; simp_all
  obtain ⟨rfl, rfl⟩ := trodVars_none hV
  obtain ⟨a0, rfl, rfl, rfl, w0⟩ := open_string Try.underlying9 (hval 0 9 v0 rfl rfl) h0
  obtain ⟨a1, len1, cap1, rfl⟩ := okWide_slice Try.underlying33 (hval 1 33 v1 rfl rfl)
  have k1 := h1
  have lt1 : ∀ x ∈ p1, x.block < W.heap.size := by obtain ⟨m, hm⟩ := k1; exact DataW.trod_lt m _ _ _ hm
  obtain ⟨z1, w1⟩ : ∃ zs, IsRow .u8 W a1 len1 cap1 zs := by
    obtain ⟨fuel, hf⟩ := h1
    rcases open_ints Try.underlying33 Try.underlying5 (by kernel_rfl) hf with ⟨hcs, _⟩ | ⟨x, l, c, zs, hcs, _, hl, hm, hz, _, hcell, hwz⟩
    · simp [Value.cells] at hcs
      obtain ⟨rfl, rfl, rfl⟩ := hcs
      exact ⟨[], .inl ⟨rfl, rfl, rfl, rfl⟩⟩
    · simp [Value.cells] at hcs
      obtain ⟨rfl, rfl, rfl⟩ := hcs
      exact ⟨zs, .inr ⟨_, rfl, hl, hm, by simpa using hz, hcell, hwz⟩⟩
  obtain ⟨a2, rfl, rfl, rfl, w2⟩ := open_int Try.underlying3 (hval 2 3 v2 rfl rfl) h2
  clear hA0 hval0
  refine (walk a0 a1 len1 cap1 z1 a2 W w0 w1 w2).mono fun e W' ⟨he, bel⟩ => ?_
  subst he
  exact ⟨_, rfl, _, _, _, [], _, [], hW', trodAll_mk1 (shut_bool Try.underlying4 _), (trodAll_cons_mk (shut_string Try.underlying9 w0) (trodAll_cons_mk (Below.trod laidOut (by kernel_rfl) (of_decide_eq_true (by kernel_rfl)) k1 bel lt1) (trodAll_cons_mk (shut_int Try.underlying3 w2) trodAll_mk0))), rfl, bel.frame _, fun h => by cases h⟩

theorem over : Rows.sixReadsRow.holds Try.pinned (OpenSpec.ofChange Rows.sixReadsSpec) :=
  OpenClaim.holds_of_wide 4 Try.f4 rfl rfl rfl rfl rfl rfl rfl ⟨rfl, rfl, rfl, rfl, rfl⟩ rfl rfl rfl rfl rfl (by kernel_rfl) Try.func4 (by kernel_rfl)
    (of_decide_eq_true (by kernel_rfl)) (by unfold Func.isWrapper; first | (rw [if_pos (by decide +kernel)]; kernel_rfl) | (rw [if_neg (by decide +kernel)]; exact ⟨rfl, rfl⟩))
    (fun os started H enc _ => lifted os started H enc)

/-- ████ THE STATEMENT ████ -/
theorem proved : Rows.SixReadsSaid := over
#print axioms proved
end Go.Proofs.Ytnadgcbiichmhaa.sixReads
