/- Lists of texts gone over: TakeList and the document's ReadTexts. -/
import Derived.Test.YtnadgcbiichmhaaLists
set_option linter.unusedVariables false
namespace Go.Proofs.Ytnadgcbiichmhaa
open Go.RowKit

/-- What a going over of a list leaves. -/
def Took (l : List UInt8) (r : Nat) (w : World) (e : Ending) (w' : World) : Prop :=
  ∃ v, e = .returned (.tuple #[v, .int .i64 (fe l)]) ∧ Hs w' v (fT l) ∧ Rt r (bs (l.drop (fk l))) w' ∧ Only (fun k => k = r) w w'

theorem retv {v : Value} {a a' : Int} (h : a' = a) : Ending.returned (.tuple #[v, .int .i64 a]) = Ending.returned (.tuple #[v, .int .i64 a']) := by rw [h]

theorem hs_none (w : World) : Hs w (.slice none 0 0) [] := ⟨none, 0, rfl, .inl rfl⟩

theorem rest_bs (l : List UInt8) (k : Nat) : (bs l).extract k (bs l).size = bs (l.drop k) := bs_eq (by rw [extract_rest, bs_list])

set_option maxHeartbeats 2000000 in
set_option maxRecDepth 100000 in
theorem six_TakeList (r : Nat) (l : List UInt8) (w : World) (h : Rt r (bs l) w) (hl : l.length ≤ 50000000) :
    Calls Try.prog 27 #[.pointer (some ⟨r, 0, none⟩), .func (.func 26) #[] #[]] w (Took l r w) := by
  have hf : ∀ w : World, (binOp .eql 48 (.func (.func 26) #[] #[]) .nilFunc).run Try.prog w = .ok (.bool false) w := fun _ => by kernel_rfl
  obtain ⟨i0, hi, hz0, hz1, hz2⟩ := info_parts info9
  have c0 := h.cell
  have hs : (bs l).size ≤ maxLen := by rw [bs_size]; unfold maxLen; omega
  have hcount := Lib.hid (six_ReadCount r (bs l) w h hs)
  have HW := Lib.hid h
  clear h hs
  rcases cd_cases l with ⟨d0, d1, d2, d3, d4, _, _, _⟩ | ⟨d0, d1, d2⟩
  · obtain ⟨n, hn⟩ : ∃ n : Nat, cn l = n := ⟨(cn l).toNat, by omega⟩
    have hup := upon_start d0
    rw [hn, Int.toNat_natCast] at hup
    have hup0 := Lib.hid hup
    have hcount2 := hcount.out
    rw [bs_list, d0, hn, rest_bs] at hcount2
    have HC := Lib.hid hcount2
    have hn1 : n ≤ 9223372036854775807 := by omega
    have hk0 := Lib.hid d2
    clear hcount hcount2 hup d0 d1 d2 d3 d4 hn
    go_enter Try.func27, Try.ntmps27
    go_wp2_with fail
    refine HC.out.mono ?_
    rintro e w1 ⟨rfl, h1, k1⟩
    have H1 := Lib.hid h1
    have K1 := Lib.hid k1
    clear h1 k1
    go_wp2_with fail
    go_loopw [9, 31] (fun v i wr => ∃ (j k : Nat) (T : List ByteArray), j ≤ n ∧ i = .int .i64 j ∧ wr.ownsRow w.heap.size 9 1 v T.length (T.map Value.string) ∧ Rt r (bs (l.drop k)) wr ∧ Hid (Upon l (n - j) T k) ∧ Hid (T.length ≤ k ∧ k ≤ l.length) ∧ Only (fun k => k = r) w wr) (fun v i wr => n - (intOf i).toNat)
    case atStart => exact ⟨0, ck l, [], Nat.zero_le _, rfl, World.ownsRow_nil _ _ _ _, H1.out, hup0, ⟨Nat.zero_le _, hk0.out⟩, K1.out⟩
    case round =>
      obtain ⟨j, k, T, hj, rfl, hown, hrt, hup, hTk, hon⟩ := hrel
      have HO := Lib.hid hown
      have HR := Lib.hid hrt
      have HN := Lib.hid hon
      clear hown hrt hon
      by_cases hlt : j < n
      · have hone := take_one r (bs (l.drop k)) wr HR.out (by rw [bs_size, List.length_drop]; unfold maxLen; omega)
        rw [bs_list, rest_bs, List.drop_drop] at hone
        obtain ⟨m, hm⟩ : ∃ m, n - j = m + 1 := ⟨n - j - 1, by omega⟩
        rw [hm] at hup
        have HM := Lib.hid hm
        clear hm
        by_cases he : te (l.drop k) = 0
        · have hnext := Lib.hid (upon_next hup.out he)
          have hroom := Lib.hid (upon_room hTk.out.1 hTk.out.2 he)
          rw [he] at hone
          have HE := Lib.hid he
          clear he hup
          have hkl := hTk.out.2
          generalize bs (ts (l.drop k)) = t at *
          generalize tk (l.drop k) = d at *
          have HONE := Lib.hid hone
          clear hone
          go_wp2_with fail
          refine HONE.out.mono ?_
          rintro e w2 ⟨rfl, h2, k2⟩
          have HR2 := Lib.hid h2
          have HN2 := Lib.hid (HN.out.trans (k2.mono (fun _ _ h => h)))
          have HO2 := Lib.hid (owns_kept HO.out (fun q hq1 hq2 => k2.block q hq2 (fun e => by have := HW.out.lt; omega)))
          clear h2 k2
          go_wp2_with (at_builtin; refine wpList_append_own _ rfl _ _ 39 rfl w.heap.size 9 i0 (.string ⟨#[]⟩) 1 16 Try.underlying39 hi hz0 hz1 hz2 rfl (by decide) _ _ _ rfl (HO2.out.alloc _) ⟨w2.heap.size, 0, none⟩ 1 1 [.string t] rfl rfl ?c1 ?c2 ?c3 ?c4 ?c5 ?_)
          case c1 => exact cell_one_new _ _ _
          case c2 => intro u hu; simp at hu; subst hu; rfl
          case c3 => unfold maxLen; have := hroom.out; have := hTk.out; omega
          case c4 => have := hroom.out; have := hTk.out; omega
          case c5 => have := HN2.out.size; simp; omega
          intro v' w3 hown' hgrow _
          have HO3 := Lib.hid hown'
          have HR3 := Lib.hid (show Rt r (bs (l.drop (k + d))) w3 by
            have h1 := HR2.out
            have hlt1 := h1.lt
            have hblk : ∀ q, u9.ownBlock = some q → w.heap.size ≤ q := fun q hq => (HO2.out.lt q hq).1
            unfold Rt at h1 ⊢
            rw [hgrow.block r (by simp; omega) (fun e => by have := hblk r e.symm; have := HW.out.lt; omega), Below.heap_alloc _ _ _ hlt1]
            exact h1)
          have HN3 := Lib.hid (show Only (fun k => k = r) w w3 from (HN2.out.alloc _).grown hgrow (fun q hq => (HO2.out.lt q hq).1))
          clear hown' hgrow
          go_wp2
          go_roundw
          case rel =>
            have hL : (T ++ [t]).length = T.length + 1 := by simp
            have hR1 := hroom.out
            exact ⟨j + 1, k + d, T ++ [t], by omega, by go_num, by rw [hL, List.map_append]; exact HO3.out, HR3.out, by rw [show n - (j + 1) = m by have := HM.out; omega]; exact hnext, ⟨hR1.1, hR1.2.1⟩, HN3.out⟩
          case measure => simp [intOf]; omega
        · have hstop := Lib.hid (upon_stop hup.out he)
          have heb : (te (l.drop k) == 0) = false := beq_eq_false_iff_ne.2 he
          have HE := Lib.hid he
          clear he hup
          generalize bs (ts (l.drop k)) = t at *
          generalize te (l.drop k) = e0 at *
          generalize bs (l.drop (k + tk (l.drop k))) = sx at *
          have HONE := Lib.hid hone
          clear hone
          go_wp2_with fail
          refine HONE.out.mono ?_
          rintro e w2 ⟨rfl, h2, k2⟩
          have c2 := h2.cell
          have f2 := h2.free
          have HR2 := Lib.hid h2
          have HN2 := Lib.hid (HN.out.trans (k2.mono (fun _ _ h => h)))
          clear h2 k2
          go_wp2
          go_ret2
          obtain ⟨q1, q2, q3⟩ := hstop.out
          refine ⟨.slice none 0 0, retv q3, by rw [q1]; exact hs_none _, ?_, HN2.out.setCell (p := ⟨r, 0, none⟩) (.inl rfl) _⟩
          rw [q2, List.drop_zero]
          exact HR2.out.put _
      · have hend := Lib.hid (show Upon l 0 T k by have := hup.out; rwa [show n - j = 0 by omega] at this)
        go_wp2
        go_ret2
        obtain ⟨q1, q2, q3⟩ := upon_end hend.out
        exact ⟨u9, retv q3, by rw [q1]; exact Hs.own HO.out, by rw [q2]; exact HR.out, HN.out⟩
  · have hcount2 := hcount.out
    have hnone := Lib.hid (upon_none (l := l) (by omega))
    have hceb : (ce l == 0) = false := beq_eq_false_iff_ne.2 (by omega)
    rw [bs_list, d1, d2, rest0] at hcount2
    have HC := Lib.hid hcount2
    clear hcount hcount2 d0 d1 d2
    go_enter Try.func27, Try.ntmps27
    go_wp2_with fail
    refine HC.out.mono ?_
    rintro e w1 ⟨rfl, h1, k1⟩
    have H1 := Lib.hid h1
    have K1 := Lib.hid k1
    clear h1 k1
    go_wp2
    go_ret2
    obtain ⟨q1, q2, q3⟩ := hnone.out
    exact ⟨.slice none 0 0, retv q3, by rw [q1]; exact hs_none _, by rw [q2, List.drop_zero]; exact H1.out, K1.out⟩

end Go.Proofs.Ytnadgcbiichmhaa
