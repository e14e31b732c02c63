/- Lists of texts: what PutList, TakeList, ReadTexts and Same do. -/
import Derived.Test.YtnadgcbiichmhaaListsPlain
import Derived.Test.YtnadgcbiichmhaaRefWrites
import Derived.Deep.QuietTactic
import Derived.BigQuiet
import Derived.Lib.Walk
set_option linter.unusedVariables false
namespace Go.Proofs.Ytnadgcbiichmhaa
open Go.RowKit

theorem info9 : (Try.prog.info? 9).map (fun i => (i.zero, i.size, i.bytes)) = some (some (.string ⟨#[]⟩), 1, 16) := by kernel_rfl

/-- The two function values of the law. -/
def putV : Value := .func (.func 25) #[] #[]
def takeV : Value := .func (.func 26) #[] #[]

theorem put_one (B b : Nat) (l : List UInt8) (s : ByteArray) (w : World) (h : Wt B b l w) (hlen : l.length + 11 + s.size ≤ 140737488355328) :
    Calls Try.prog 25 #[.pointer (some ⟨b, 0, none⟩), .string s] w fun e w' => e = .returned (.tuple #[]) ∧ Wt B b (l ++ text s.data.toList) w' ∧ Below B w w' := by
  have HW := Lib.hid h
  clear h
  go_enter Try.func25, Try.ntmps25
  go_wp2_with fail
  refine (six_Text B b l s w HW.out hlen).mono ?_
  rintro e w2 ⟨rfl, h2, k2⟩
  have H2 := Lib.hid h2
  have K2 := Lib.hid k2
  clear h2 k2
  go_wp2
  go_end0
  exact ⟨rfl, H2.out, K2.out⟩

theorem take_one_fn (r : Nat) (s : ByteArray) (w : World) (h : Rt r s w) (hs : s.size ≤ maxLen) :
    Calls Try.prog 26 #[.pointer (some ⟨r, 0, none⟩)] w (Rd r (s.extract (tk s.data.toList) s.size) (.string (bs (ts s.data.toList))) (.int .i64 (te s.data.toList)) w) := by
  have HW := Lib.hid h
  clear h
  go_enter Try.func26, Try.ntmps26
  go_wp2_with fail
  refine (six_ReadText r s w HW.out hs).mono ?_
  rintro e w2 ⟨rfl, h2, k2⟩
  have H2 := Lib.hid h2
  have K2 := Lib.hid k2
  clear h2 k2
  go_wp2
  go_ret2
  exact ⟨rfl, H2.out, K2.out⟩

set_option maxHeartbeats 1000000 in
theorem take_one (r : Nat) (s : ByteArray) (w : World) (h : Rt r s w) (hs : s.size ≤ maxLen) :
    Calls Try.prog 43 #[.pointer (some ⟨r, 0, none⟩), .func (.func 26) #[] #[]] w (Rd r (s.extract (tk s.data.toList) s.size) (.string (bs (ts s.data.toList))) (.int .i64 (te s.data.toList)) w) := by
  have c0 := h.cell
  have HW := Lib.hid h
  clear h
  by_cases he : s.data.toList = []
  · have e2 : s.toList = [] := by rw [Lib.toList_data, he]
    have e3 : s.toList.isEmpty = true := by rw [e2]; rfl
    have HE := Lib.hid he
    clear he
    go_enter Try.func43, Try.ntmps43
    go_wp2
    go_ret2
    refine ⟨ret2s (by rw [HE.out]; rfl) (by rw [HE.out]; rfl), ?_, Only.refl _ _⟩
    rw [HE.out, tk_nil, rest0]
    exact HW.out
  · have e2 : ¬ s.toList = [] := by rw [Lib.toList_data]; exact he
    have e3 : s.toList.isEmpty = false := by rw [Lib.toList_data]; simpa using he
    clear he
    go_enter Try.func43, Try.ntmps43
    go_wp2_with fail
    refine (take_one_fn r s w HW.out hs).mono ?_
    rintro e w2 ⟨rfl, h2, k2⟩
    have H2 := Lib.hid h2
    have K2 := Lib.hid k2
    clear h2 k2
    go_wp2
    go_ret2
    exact ⟨rfl, H2.out, K2.out⟩

/-- A slice value that reads as the list of texts T. -/
def Hs (w : World) (v : Value) (T : List ByteArray) : Prop :=
  ∃ a cap, v = .slice a T.length cap ∧ (T = [] ∨ ∃ b off, a = some ⟨b, off, none⟩ ∧ ∀ k, k < T.length → b < w.heap.size ∧ w.cell? ⟨b, off + k, none⟩ = some (.string (T.getD k ByteArray.empty)))

theorem Hs.below {w w' : World} {v : Value} {T : List ByteArray} (h : Hs w v T) (k : Below w.heap.size w w') : Hs w' v T := by
  obtain ⟨a, cap, rfl, hr⟩ := h
  refine ⟨a, cap, rfl, ?_⟩
  rcases hr with hr | ⟨b, off, ha, hc⟩
  · exact .inl hr
  · refine .inr ⟨b, off, ha, fun j hj => ?_⟩
    obtain ⟨h1, h2⟩ := hc j hj
    exact ⟨Nat.lt_of_lt_of_le h1 k.size, by rw [k.cell h1]; exact h2⟩

/-- What the call's own row of texts reads as. -/
theorem Hs.own {w : World} {base : Nat} {v : Value} {T : List ByteArray} (h : w.ownsRow base 9 1 v T.length (T.map Value.string)) : Hs w v T := by
  rcases h.2 with ⟨rfl, h0⟩ | ⟨g, cap, cur, rfl, hb, hg, hn, hc, hs, ht⟩
  · exact ⟨none, 0, by rw [h0], .inl (List.length_eq_zero_iff.1 h0)⟩
  · refine ⟨_, cap, rfl, .inr ⟨g, 0, rfl, fun k hk => ⟨(Array.getElem?_eq_some_iff.1 hg).1, ?_⟩⟩⟩
    have h1 := h.cells (g := g) rfl k (.string (T.getD k ByteArray.empty)) (by simp [List.getD_eq_getElem?_getD, List.getElem?_eq_getElem hk])
    have hadd : (⟨g, 0, none⟩ : Addr).add k = ⟨g, 0 + k, none⟩ := by unfold Addr.add; split <;> simp_all
    rw [hadd] at h1
    exact h1

theorem owns_kept {w w' : World} {base : Nat} {v : Value} {n : Nat} {xs : List Value} (h : w.ownsRow base 9 1 v n xs) (k : ∀ j, base ≤ j → j < w.heap.size → w'.heap[j]? = w.heap[j]?) : w'.ownsRow base 9 1 v n xs := by
  refine ⟨h.1, ?_⟩
  rcases h.2 with hn | ⟨g, cap, cur, hv, hb, hg, rest⟩
  · exact .inl hn
  · exact .inr ⟨g, cap, cur, hv, hb, by rw [k g hb (Array.getElem?_eq_some_iff.1 hg).1]; exact hg, rest⟩

theorem Only.grown {S : Nat → Prop} {a w w' : World} {row : Option Nat} (h : Only S a w) (hg : w.grownBy w' row) (hr : ∀ k, row = some k → a.heap.size ≤ k) : Only S a w' :=
  ⟨hg.os.trans h.os, hg.tape.trans h.tape, hg.output.trans h.output, Nat.le_trans h.size hg.size, fun k hk hs => (hg.block k (Nat.lt_of_lt_of_le hk h.size) (fun e => by have := hr k e.symm; omega)).trans (h.block k hk hs)⟩

set_option maxHeartbeats 1000000 in
set_option maxRecDepth 100000 in
theorem six_PutList (B b : Nat) (T : List ByteArray) (a : Option Addr) (b1 off1 len cap : Nat) (w : World) (h : Wt B b [] w) (hlen : Hid (len = T.length)) (hl : len ≤ 1048576) (hT : Hid (total T ≤ 1048576))
    (hab : Hid (len = 0 ∨ a = some ⟨b1, off1, none⟩)) (hz : Hid (∀ k, k < T.length → b1 < B ∧ w.cell? ⟨b1, off1 + k, none⟩ = some (.string (T.getD k ByteArray.empty)))) :
    Calls Try.prog 24 #[.pointer (some ⟨b, 0, none⟩), .slice a len cap, .func (.func 25) #[] #[]] w fun e w' => e = .returned (.int .i64 0) ∧ Wt B b (whole (len : Int) ++ tt T) w' ∧ Below B w w' := by
  have hf : ∀ w : World, (binOp .eql 47 (.func (.func 25) #[] #[]) .nilFunc).run Try.prog w = .ok (.bool false) w := fun _ => by kernel_rfl
  have HW := Lib.hid h
  clear h
  go_enter Try.func24, Try.ntmps24
  go_wp2_with fail
  refine (six_Count B b [] len w HW.out (by omega) (by simp)).mono ?_
  rintro e w2 ⟨rfl, h2, k2⟩
  rw [List.nil_append] at h2
  have H2 := Lib.hid h2
  have K2 := Lib.hid k2
  clear h2 k2
  go_wp2_with fail
  go_loopw [21] (fun i wr => ∃ k : Nat, k ≤ len ∧ i = .int .i64 k ∧ Wt B b (whole (len : Int) ++ tt (T.take k)) wr ∧ Below B w wr) (fun i wr => len - (intOf i).toNat)
  case atStart => exact ⟨0, Nat.zero_le _, rfl, by simpa [tt] using H2.out, K2.out⟩
  case round =>
    obtain ⟨k, hk, rfl, hwt, hbw⟩ := hrel
    have HWr := Lib.hid hwt
    have HK := Lib.hid hbw
    clear hwt hbw
    by_cases hlt : k < len
    · have hkT := Lib.hid (show k < T.length by rw [← hlen.out]; exact hlt)
      obtain ⟨hb, hc⟩ := hz.out k hkT.out
      have c1 : wr.cell? ⟨b1, off1 + k, none⟩ = some (.string (T.getD k ByteArray.empty)) := by rw [HK.out.cell hb]; exact hc
      have ha : a = some ⟨b1, off1, none⟩ := by rcases hab.out with h | h; (omega); (exact h)
      have hnext := Lib.hid (tt_next T k hkT.out)
      have hlw := Lib.hid (show (whole (len : Int) ++ tt (T.take k)).length ≤ 40000000 by
        have h0 := (whole_len (n := (len : Int)) (by omega) (by omega)).1
        have h1 := tt_len (T.take k) (by have := total_take T k; have := hT.out; omega)
        have h2 := total_take T k
        have h3 := hT.out
        rw [List.length_take] at h1
        rw [List.length_append]
        omega)
      have hus := Lib.hid (show (T.getD k ByteArray.empty).size ≤ 1048576 by have := total_get T k; have := hT.out; omega)
      clear hc hb
      generalize T.getD k ByteArray.empty = u at *
      subst ha
      go_wp2_with fail
      refine (put_one B b _ u wr HWr.out (by have := hlw.out; have := hus.out; omega)).mono ?_
      rintro e w3 ⟨rfl, h3, k3⟩
      have HW3 := Lib.hid h3
      have HK3 := Lib.hid (HK.out.trans k3)
      clear h3 k3
      go_wp2
      go_roundw
      case rel => exact ⟨k + 1, by omega, by go_num, by rw [hnext.out, ← List.append_assoc]; exact HW3.out, HK3.out⟩
      case measure => simp [intOf]; omega
    · have hwall := Lib.hid (show Wt B b (whole (len : Int) ++ tt T) wr by have := HWr.out; rwa [List.take_of_length_le (by rw [← hlen.out]; omega)] at this)
      clear HWr
      go_wp2
      go_ret
      exact ⟨rfl, hwall.out, HK.out⟩

end Go.Proofs.Ytnadgcbiichmhaa
