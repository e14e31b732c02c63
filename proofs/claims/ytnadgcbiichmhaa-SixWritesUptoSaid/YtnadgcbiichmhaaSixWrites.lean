/- SixWrites: every number and text is written as the document says; a number below 0 is no count; a refused one adds nothing. Condition: the arguments hold together at most 1048576 values and letters. -/
import Derived.Test.YtnadgcbiichmhaaRows
import Derived.Test.YtnadgcbiichmhaaCommon
import Derived.Test.YtnadgcbiichmhaaRefWrites
import Derived.JoinedCond
import Derived.Test.YtnadgcbiichmhaaBulk
import Derived.WalkKit
import Derived.ProofKit
import Derived.OpenShut
import Derived.ShutString
import Derived.ChangeOld
import Derived.Below
namespace Go.Proofs.Ytnadgcbiichmhaa.sixWrites
open Go.ChangeShapes Go.WideShapes Go.ChangeAt Go.RowKit
open Go.ChangeMaps (open_string shut_string)
set_option linter.unusedVariables false

theorem own : ownKnob Try.prog.godebug = none := by kernel_rfl
theorem laidOut : laidOutB Try.prog = true := by kernel_rfl

/-- WHAT THE WALK IS TOLD OF A SLICE OF INTEGERS THAT CAME IN: it is nil; or it leads to a row of 'cap' cells, the numbers 'zs' (the first 'len' are its elements, the rest its spare room), each fitting its kind. -/
def IsRow (k : IntKind) (w : World) (a : Option Addr) (len cap : Nat) (zs : List Int) : Prop :=
  (a = none ∧ len = 0 ∧ cap = 0 ∧ zs = []) ∨
  ∃ x, a = some x ∧ len ≤ cap ∧ cap ≤ maxLen ∧ zs.length = cap ∧ (∀ i, i < zs.length → w.cell? (x.add i) = some (.int k (zs.getD i 0))) ∧ ∀ n ∈ zs, (Lit.int k n).wf = true

/-- The row of a slice of numbers, cell by cell. -/
def Row64 (b off len : Nat) (z : Nat → Int) (w : World) : Prop := ∀ k, k < len → b < w.heap.size ∧ w.cell? ⟨b, off + k, none⟩ = some (.int .i64 (z k)) ∧ -9223372036854775808 ≤ z k ∧ z k ≤ 9223372036854775807

theorem sum_small {a b : ByteArray} {x y : Nat} (h1 : a.size ≤ x) (h2 : b.size ≤ y) (h : x + y ≤ 1000000000) : (a.size : Int) + (b.size : Int) ≤ 9223372036854775807 := by omega

set_option maxHeartbeats 2000000 in
set_option maxRecDepth 100000 in
theorem core (a0 : Option Addr) (b off len cap : Nat) (z : Nat → Int) (s : ByteArray) (w : World) (hl : len ≤ 1048576) (hs : s.size ≤ 1048576) (hz : Hid (Row64 b off len z w)) (hab : Hid (len = 0 ∨ a0 = some ⟨b, off, none⟩)) :
    Calls Try.prog 3 #[.slice a0 len cap, .string s] w fun e w' => e = .returned (.bool true) ∧ Below w.heap.size w w' := by
  go_enter Try.func3, Try.ntmps3
  go_wp2_with fail
  refine (six_New w).mono ?_
  rintro e w1 ⟨rfl, hw1⟩
  have h1 := wt_new w
  rw [hw1] at h1
  have k1 : Below w.heap.size w w1 := by rw [← hw1]; exact (Below.refl _ _).alloc (Nat.le_refl _) _
  obtain ⟨B, hB⟩ : ∃ B, B = w.heap.size := ⟨_, rfl⟩
  rw [← hB] at h1
  have H1 := Lib.hid h1
  have K1 := Lib.hid k1
  have HB := Lib.hid hB
  rw [← hB]
  clear h1 k1 hw1 hB
  go_wp2_with fail
  go_loopw [6, 7] (fun t i wr => ∃ (k : Nat) (l : List UInt8), k ≤ len ∧ i = .int .i64 k ∧ t = .string (bs l) ∧ l.length ≤ 22 * k ∧ Wt B B l wr ∧ Below w.heap.size w wr) (fun t i wr => len - (intOf i).toNat)
  case atStart => exact ⟨0, [], Nat.zero_le _, rfl, rfl, Nat.le_refl _, H1.out, K1.out⟩
  case round =>
    obtain ⟨k, l, hk, rfl, rfl, hll, hwt, hbw⟩ := hrel
    have HW := Lib.hid hwt
    have HK := Lib.hid hbw
    clear hwt hbw
    by_cases hlt : k < len
    · obtain ⟨hb, hc, z0, z1⟩ := hz.out k hlt
      have c1 : wr.cell? ⟨b, off + k, none⟩ = some (.int .i64 (z k)) := by rw [HK.out.cell hb]; exact hc
      have hcell := fun (u : World) (h : Below w.heap.size w u) => (by rw [h.cell hb]; exact hc : u.cell? ⟨b, off + k, none⟩ = some (.int .i64 (z k)))
      have HCell := Lib.hid hcell
      have ha : a0 = some ⟨b, off, none⟩ := by rcases hab.out with h | h; (omega); (exact h)
      clear hc hb hcell
      generalize z k = n at *
      subst ha
      have hwl := Lib.hid (whole_len z0 z1).1
      by_cases hn : n < 0
      · have hge : ¬ (0 ≤ n) := by omega
        go_wp2_with fail
        refine (six_Count_neg (some ⟨B, 0, none⟩) n wr hn).mono ?_
        rintro e w2 ⟨rfl, rfl⟩
        go_wp2_with fail
        refine (six_Whole B B _ n wr HW.out z0 z1 (by omega)).mono ?_
        rintro e w5 ⟨rfl, h5, k5⟩
        have HW5 := Lib.hid h5
        have HK5 := Lib.hid (HK.out.trans (k5.mono (Nat.le_of_eq HB.out.symm)))
        have c5 : w5.cell? ⟨b, off + k, none⟩ = some (.int .i64 n) := HCell.out _ HK5.out
        clear h5 k5
        go_wp2_with fail
        refine (ref_Whole n w5 z0 z1).mono ?_
        rintro e w6 ⟨rfl, k6⟩
        have HW6 := Lib.hid (HW5.out.keep k6)
        have HK6 := Lib.hid (HK5.out.trans (k6.mono HK5.out.size))
        clear k6
        have hcat : bs l ++ bs (whole n) = bs (l ++ whole n) := bs_cat l (bs (whole n))
        have hsum := sum_small (a := bs l) (b := bs (whole n)) (x := l.length) (y := 11) (by rw [bs_size]; exact Nat.le_refl _) (by rw [bs_size]; exact hwl.out) (by omega)
        go_wp2
        go_roundw
        case rel => exact ⟨k + 1, l ++ whole n, by omega, by go_num, rfl, by rw [List.length_append]; have := hwl.out; omega, HW6.out, HK6.out⟩
        case measure => simp [intOf]; omega
      · have hge : 0 ≤ n := by omega
        go_wp2_with fail
        refine (six_CountI B B l n wr HW.out hge z1 (by omega)).mono ?_
        rintro e w2 ⟨rfl, h2, k2⟩
        have HW2 := Lib.hid h2
        have HK2 := Lib.hid (HK.out.trans (k2.mono (Nat.le_of_eq HB.out.symm)))
        have c2 : w2.cell? ⟨b, off + k, none⟩ = some (.int .i64 n) := HCell.out _ HK2.out
        clear h2 k2
        go_wp2_with fail
        refine (ref_Whole n w2 z0 z1).mono ?_
        rintro e w3 ⟨rfl, k3⟩
        have HW3 := Lib.hid (HW2.out.keep k3)
        have HK3 := Lib.hid (HK2.out.trans (k3.mono HK2.out.size))
        have c3 : w3.cell? ⟨b, off + k, none⟩ = some (.int .i64 n) := HCell.out _ HK3.out
        clear k3
        have hcat : bs l ++ bs (whole n) = bs (l ++ whole n) := bs_cat l (bs (whole n))
        have hsum := sum_small (a := bs l) (b := bs (whole n)) (x := l.length) (y := 11) (by rw [bs_size]; exact Nat.le_refl _) (by rw [bs_size]; exact hwl.out) (by omega)
        have hcat2 : bs (l ++ whole n) ++ bs (whole n) = bs (l ++ whole n ++ whole n) := bs_cat _ (bs (whole n))
        have hsum2 := sum_small (a := bs (l ++ whole n)) (b := bs (whole n)) (x := l.length + 11) (y := 11) (by rw [bs_size, List.length_append]; have := hwl.out; omega) (by rw [bs_size]; exact hwl.out) (by omega)
        go_wp2_with fail
        refine (six_Whole B B _ n w3 HW3.out z0 z1 (by rw [List.length_append]; have := hwl.out; omega)).mono ?_
        rintro e w5 ⟨rfl, h5, k5⟩
        have HW5 := Lib.hid h5
        have HK5 := Lib.hid (HK3.out.trans (k5.mono (Nat.le_of_eq HB.out.symm)))
        have c5 : w5.cell? ⟨b, off + k, none⟩ = some (.int .i64 n) := HCell.out _ HK5.out
        clear h5 k5
        go_wp2_with fail
        refine (ref_Whole n w5 z0 z1).mono ?_
        rintro e w6 ⟨rfl, k6⟩
        have HW6 := Lib.hid (HW5.out.keep k6)
        have HK6 := Lib.hid (HK5.out.trans (k6.mono HK5.out.size))
        clear k6
        go_wp2
        go_roundw
        case rel => exact ⟨k + 1, l ++ whole n ++ whole n, by omega, by go_num, by rw [List.append_assoc], by rw [List.length_append, List.length_append]; have := hwl.out; omega, HW6.out, HK6.out⟩
        case measure => simp [intOf]; omega
    · have hl22 : l.length ≤ 23068672 := by omega
      clear hll
      go_wp2_with fail
      refine (law_awake wr).mono ?_
      rintro e w2 ⟨rfl, k2⟩
      have HW2 := Lib.hid (HW.out.keep k2)
      have HK2 := Lib.hid (HK.out.trans (k2.mono HK.out.size))
      clear k2
      go_wp2_with fail
      refine (six_Text B B l s w2 HW2.out (by omega)).mono ?_
      rintro e w3 ⟨rfl, h3, k3⟩
      have htl : (text s.data.toList).length ≤ 11 + s.size := by
        unfold text
        rw [List.length_append, ← Lib.size_eq]
        have := (whole_len (n := (s.size : Int)) (by omega) (by omega)).1
        omega
      have HTL := Lib.hid htl
      have HW3 := Lib.hid h3
      have HK3 := Lib.hid (HK2.out.trans (k3.mono (Nat.le_of_eq HB.out.symm)))
      clear h3 k3 htl
      go_wp2_with fail
      refine (six_Raw B B _ s w3 HW3.out (by rw [List.length_append]; have := HTL.out; omega)).mono ?_
      rintro e w4 ⟨rfl, h4, k4⟩
      have HW4 := Lib.hid h4
      have HK4 := Lib.hid (HK3.out.trans (k4.mono (Nat.le_of_eq HB.out.symm)))
      clear h4 k4
      go_wp2_with fail
      refine (six_Bytes B B _ w4 HW4.out).mono ?_
      rintro e w5 ⟨rfl, h5, k5, _⟩
      have HK5 := Lib.hid (HK4.out.trans (k5.mono (Nat.le_of_eq HB.out.symm)))
      clear h5 k5
      go_wp2_with fail
      refine (ref_Text s w5 (by omega)).mono ?_
      rintro e w6 ⟨rfl, k6⟩
      have HK6 := Lib.hid (HK5.out.trans (k6.mono HK5.out.size))
      clear k6
      have hcat : bs l ++ bs (text s.data.toList) = bs (l ++ text s.data.toList) := bs_cat l (bs (text s.data.toList))
      have hsum := sum_small (a := bs l) (b := bs (text s.data.toList)) (x := l.length) (y := 11 + s.size) (by rw [bs_size]; exact Nat.le_refl _) (by rw [bs_size]; exact HTL.out) (by omega)
      have hcat2 : bs (l ++ text s.data.toList) ++ s = bs (l ++ text s.data.toList ++ s.data.toList) := bs_cat _ s
      have hsum2 := sum_small (a := bs (l ++ text s.data.toList)) (b := s) (x := l.length + 11 + s.size) (y := s.size) (by rw [bs_size, List.length_append]; have := HTL.out; omega) (Nat.le_refl _) (by omega)
      go_wp2
      go_ret
      exact ⟨rfl, HK6.out⟩

theorem walk (a0 : Option Addr) (len0 cap0 : Nat) (z0 : List Int) (a1 : ByteArray) (w : World) (w0 : IsRow .i64 w a0 len0 cap0 z0) (hl : len0 ≤ 1048576) (hs : a1.size ≤ 1048576) :
    Calls Try.prog 3 #[.slice a0 len0 cap0, .string a1] w fun e w' => e = .returned (.bool true) ∧ Below w.heap.size w w' := by
  rcases w0 with ⟨rfl, rfl, rfl, rfl⟩ | ⟨x, rfl, hl', hm, hz, hcell, hwz⟩
  · exact core none 0 0 0 0 (fun _ => 0) a1 w (by omega) hs (fun k hk => absurd hk (by omega)) (.inl rfl)
  · by_cases h0 : len0 = 0
    · subst h0
      exact core (some x) 0 0 0 cap0 (fun _ => 0) a1 w (by omega) hs (fun k hk => absurd hk (by omega)) (.inl rfl)
    · obtain ⟨b, off, rfl, hc⟩ := ints_at hcell (by omega)
      refine core _ b off len0 cap0 (fun k => z0.getD k 0) a1 w hl hs ?_ (.inr rfl)
      intro k hk
      have h1 := hc k (by omega)
      have h2 := range_i64 hwz k
      refine ⟨cell_block h1, h1, ?_, ?_⟩
      · have := h2.1; simpa using this
      · have := h2.2; simpa using this

theorem contract (H : Type) (enc : TypeId × Value → H) (W : World) (base : Nat) (args : Array Value) (ds gs : List (DataW H)) (before : List MemPlace)
    (hval : ∀ (j : Nat) t v, Try.f3.params[j]? = some t → args[j]? = some v → Value.okWide Try.prog W .any base t v)
    (hW : DataW.Whole enc Try.prog Try.f3.params.toList Rows.sixWritesSpec.vars false W args.toList ds gs before) (hk : Rows.uptoSmall H (ds ++ gs) = true) :
    Calls Try.prog 3 args W fun e W' => ∃ v, e = .returned v ∧ Rows.sixWritesSpec.post enc Try.prog Try.f3 false true false false W args v W' := by
  have hW' := hW
  obtain ⟨p, q, hA0, hV, rfl, hfz, hnd⟩ := hW
  have hA : DataW.TrodAll enc Try.prog W 0 (fun _ => true) true Try.f3.params.toList args.toList ds p := hA0
  rw [Try.params3] at hA hval
  obtain ⟨v0, vs0, d0, ds0, p0, q0, hargs, rfl, rfl, h0, r0⟩ := trodAll_cons hA
  obtain ⟨v1, vs1, d1, ds1, p1, q1, rfl, rfl, rfl, h1, r1⟩ := trodAll_cons r0
  obtain ⟨rfl, rfl, rfl⟩ := trodAll_nil r1
  obtain rfl : args = #[v0, v1] := by cases args; simp_all
  obtain ⟨rfl, rfl⟩ := trodVars_none hV
  obtain ⟨a0, len0, cap0, rfl⟩ := okWide_slice Try.underlying22 (hval 0 22 v0 rfl rfl)
  have k0 := h0
  have lt0 : ∀ x ∈ p0, x.block < W.heap.size := by obtain ⟨m, hm⟩ := k0; exact DataW.trod_lt m _ _ _ hm
  obtain ⟨z0, w0, hl0⟩ : ∃ zs, IsRow .i64 W a0 len0 cap0 zs ∧ len0 ≤ Rows.uptoBulk d0 := by
    obtain ⟨fuel, hf⟩ := h0
    rcases open_ints Try.underlying22 Try.underlying3 (by kernel_rfl) hf with ⟨hcs, _⟩ | ⟨x, l, c, zs, hcs, _, hl, hm, hz, hx, hcell, hwz⟩
    · simp [Value.cells] at hcs
      obtain ⟨rfl, rfl, rfl⟩ := hcs
      exact ⟨[], .inl ⟨rfl, rfl, rfl, rfl⟩, by omega⟩
    · simp [Value.cells] at hcs
      obtain ⟨rfl, rfl, rfl⟩ := hcs
      have hz' : zs.length = cap0 := by simpa using hz
      refine ⟨zs, .inr ⟨_, rfl, hl, hm, hz', hcell, hwz⟩, ?_⟩
      simp only [Prod.mk.injEq] at hx
      rw [hx.1]
      have h2 := bulk_slice (lits (H := H) .i64 (zs.take len0)) (lits .i64 (zs.drop len0))
      have h3 := bulk_len (lits (H := H) .i64 (zs.take len0))
      simp only [lits, List.length_map, List.length_take] at h2 h3
      unfold lits
      omega
  obtain ⟨a1, rfl, rfl, rfl, w1⟩ := open_string Try.underlying9 (hval 1 9 v1 rfl rfl) h1
  clear hA0
  simp only [List.append_nil] at hW' hk
  have hb := bulk_two hk
  have hb1 := bulk_string (H := H) a1.data.toList
  rw [← Lib.size_eq] at hb1
  refine (walk a0 len0 cap0 z0 a1 W w0 (by omega) (by omega)).mono fun e W' ⟨he, bel⟩ => ?_
  subst he
  exact ⟨_, rfl, _, _, _, [], _, [], hW', trodAll_mk1 (shut_bool Try.underlying4 _), (trodAll_cons_mk (Below.trod laidOut (by kernel_rfl) (of_decide_eq_true (by kernel_rfl)) k0 bel lt0) (trodAll_cons_mk (shut_string Try.underlying9 w1) trodAll_mk0)), rfl, bel.frame _, fun h => by cases h⟩

set_option maxRecDepth 100000 in
theorem lifted (os : Os) (started : os.Started) (H : Type) (enc : TypeId × Value → H) (F : Stop.Interp) :
    ReturnsInHanded {} Try.checked os 3 .any ((Rows.OpenSpec.upto Rows.sixWritesSpec).pre6 enc Try.prog Try.f3 Rows.sixWritesUptoRow.domain false) (((Rows.OpenSpec.upto Rows.sixWritesSpec).at F).post enc Try.prog Try.f3 false true false false) := by
  refine returnsInHanded_of_cond (C := Try.checked) (s := Rows.OpenSpec.upto Rows.sixWritesSpec) (k := Rows.uptoSmall) rfl own started (by kernel_rfl) Try.func3
    (OpenSpec.witness (enc := enc) (C := Try.checked) (s := Rows.OpenSpec.upto Rows.sixWritesSpec) (k := Rows.uptoSmall) rfl false ⟨#[], #[.slice none 0 0, .string ByteArray.empty], []⟩ 8 (by kernel_rfl) (by kernel_rfl) (by kernel_rfl)
      (x := ([.nil, .lit (.string [])], [], [])) (by kernel_rfl) rfl (by kernel_rfl)) ?_
  intro W base args ds gs before hval hW _ hk _
  exact contract H enc W base args ds gs before hval hW hk

theorem proved : Rows.SixWritesUptoSaid :=
  OpenClaim.holds_of_cond 3 Try.f3 rfl rfl rfl rfl rfl rfl rfl ⟨rfl, rfl, rfl, rfl, rfl⟩ rfl rfl rfl rfl rfl (by kernel_rfl) Try.func3 (by kernel_rfl)
    (of_decide_eq_true (by kernel_rfl)) (by unfold Func.isWrapper; first | (rw [if_pos (by decide +kernel)]; kernel_rfl) | (rw [if_neg (by decide +kernel)]; exact ⟨rfl, rfl⟩))
    (fun os started H enc _ F => lifted os started H enc F)
#print axioms proved
end Go.Proofs.Ytnadgcbiichmhaa.sixWrites
