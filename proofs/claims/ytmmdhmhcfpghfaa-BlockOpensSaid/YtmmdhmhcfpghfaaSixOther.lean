/- The writer of package six: what each of its methods adds, and that it keeps every other block that is no row of bytes. -/
import Derived.Test.YtmmdhmhcfpghfaaSixAwake
set_option linter.unusedVariables false
namespace Go.Proofs.Ytmmdhmhcfpghfaa
open Go.RowKit

/-- All below B is kept, and every block that is neither b nor a row of bytes. -/
structure Wb (B b : Nat) (w w' : World) : Prop where
  bel : Below B w w'
  oth : Lib.OthersKept 5 (some b) w w'
namespace Wb
variable {B b : Nat} {a c d w w' : World}
theorem refl (B b : Nat) (w : World) : Wb B b w w := ⟨Below.refl _ _, Lib.OthersKept.refl _ _ _⟩
theorem trans (h : Wb B b a c) (k : Wb B b c d) : Wb B b a d := ⟨h.bel.trans k.bel, h.oth.trans k.oth⟩
theorem drew (h : Wb B b a w) : Wb B b a w.drew := ⟨h.bel.drew, h.oth.drew⟩
theorem size (h : Wb B b a w) : a.heap.size ≤ w.heap.size := h.bel.size
theorem alloc (h : Wb B b a w) (hB : B ≤ w.heap.size) (o : Obj) : Wb B b a (w.alloc o) := ⟨h.bel.alloc hB o, h.oth.alloc o⟩
theorem setCell (h : Wb B b a w) {p : Addr} (hB : B ≤ p.block) (hp : p.block = b) (v : Value) : Wb B b a (w.setCell p v) := ⟨h.bel.setCell hB v, h.oth.setCell p hp v⟩
theorem grown (h : Wb B b a w) {row : Option Nat} (hg : w.grownBy w' row) (hB : B ≤ w.heap.size) (hr : ∀ k, row = some k → B ≤ k) (hrow : ∀ g, row = some g → ∃ c fz, w.heap[g]? = some (.cells c 5 fz)) : Wb B b a w' := ⟨h.bel.grown hg hB hr, h.oth.grown hg hrow⟩
/-- A block of another kind is kept. -/
theorem keeps (h : Wb B b w w') {k : Nat} {cs : Array Value} {t : TypeId} {z : Nat × Nat} (hk : w.heap[k]? = some (.cells cs t z)) (hb : k ≠ b) (ht : t ≠ 5) : w'.heap[k]? = some (.cells cs t z) :=
  h.oth k _ hk (fun e => hb (Option.some.inj e)) (fun c fz e => by injection e with _ e _; exact ht e)
end Wb

theorem copyCheck_anyO (B b : Nat) (bs : List Value) (w : World) (h : Lib.IsBuilderF 81 5 B b bs w) :
    Calls Try.prog 64 #[.pointer (some ⟨b, 0, none⟩)] w fun e w' => e = .returned (.tuple #[]) ∧ (Lib.BuilderAtF 81 5 B b (.pointer (some ⟨b, 0, none⟩)) bs w' ∧ Wb B b w w') := by
  rcases h with h | h
  · refine (copyCheck_fresh b w h.cell0 h.shape h.frozen0).mono ?_
    rintro e w' ⟨rfl, rfl⟩
    exact ⟨rfl, h.used _, (Wb.refl B b w).setCell (p := ⟨b, 0, none⟩) h.1 rfl _⟩
  · refine (copyCheck_used b w h.cell0).mono ?_
    rintro e w' ⟨rfl, rfl⟩
    exact ⟨rfl, h, Wb.refl B b _⟩


set_option maxHeartbeats 2000000 in
set_option maxRecDepth 100000 in
theorem builder_WriteByteO (B b : Nat) (l : List UInt8) (c : UInt8) (w : World) (h : Wt B b l w) (hlen : l.length + 1 ≤ 140737488355328) :
    Calls Try.prog 63 #[.pointer (some ⟨b, 0, none⟩), .int .u8 c.toNat] w fun e w' => e = .returned .nilIface ∧ Wt B b (l ++ [c]) w' ∧ Wb B b w w' := by
  have hBw : B ≤ w.heap.size := by have := h.lt; have := h.le; omega
  obtain ⟨i0, hi, hz0, hz1, hz2⟩ := info_parts info5
  have HL := Lib.hid (Lib.byteCells_length l)
  have HW := Lib.hid h
  clear h
  go_enter Try.func63, Try.ntmps63
  go_wp2_with (go_at_call 64; refine (copyCheck_anyO B b _ _ HW.out).mono ?_)
  rintro e w1 ⟨rfl, h1, hb1⟩
  obtain ⟨hB, v, hbk, hown, hne⟩ := h1
  have c0 : w1.cell? ⟨b, 0, none⟩ = some (.pointer (some ⟨b, 0, none⟩)) := by rw [Lib.cell_of_heap hbk]; rfl
  have c1 : w1.cell? ⟨b, 1, none⟩ = some v := by rw [Lib.cell_of_heap hbk]; rfl
  go_wp2_with (at_builtin; refine wpList_append_ownF _ rfl _ _ 39 rfl B 5 i0 (.int .u8 0) 1 1 Try.underlying39 hi hz0 hz1 hz2 rfl (by decide) _ _ _ rfl (hown.alloc _) ⟨w1.heap.size, 0, none⟩ 1 1 [.int .u8 (c.toNat : Int)] rfl rfl ?c1 ?c2 ?c3 ?c4 ?c5 ?_)
  case c1 =>
    intro j u hj
    match j, hj with
    | 0, hj => simp at hj; subst hj; simp [Addr.add]
  case c2 => intro u hu; simp at hu; subst hu; rfl
  case c3 => unfold maxLen; have := HL.out; omega
  case c4 => have := HL.out; omega
  case c5 => have := hb1.size; simp; omega
  intro v' w2 hown' hgrow _
  have hlt : b < w1.heap.size := by
    rcases Nat.lt_or_ge b w1.heap.size with h' | h'
    · exact h'
    · simp [Array.getElem?_eq_none h'] at hbk
  have hb2 : w2.heap[b]? = some (.cells #[.pointer (some ⟨b, 0, none⟩), v] 81 (0, 0)) := by
    rw [hgrow.block b (by simp; omega) (fun e => hne e.symm)]
    exact (Lib.alloc_old w1 _ b hlt).trans hbk
  have d0 : w2.cell? ⟨b, 0, none⟩ = some (.pointer (some ⟨b, 0, none⟩)) := by rw [Lib.cell_of_heap hb2]; rfl
  have d1 : w2.cell? ⟨b, 1, none⟩ = some v := by rw [Lib.cell_of_heap hb2]; rfl
  have f1 : w2.frozen? ⟨b, 1, none⟩ = false := Lib.frozen_of_heap hb2 1
  obtain ⟨ao, n', cap, rfl⟩ : ∃ ao n' cap, v' = .slice ao n' cap := by
    rcases hown'.2 with ⟨hv, _⟩ | ⟨g, cap, cur, fz, hv, _⟩
    · exact ⟨_, _, _, hv⟩
    · exact ⟨_, _, _, hv⟩
  go_wp2
  go_ret
  refine ⟨rfl, ?_, ?_⟩
  · refine .inr ?_
    rw [byteCells_snoc]
    exact Lib.BuilderAtF.put (T := 81) (e := 5) hB hb2 (bs' := Lib.byteCells l ++ [.int .u8 (c.toNat : Int)]) (by simpa using hown') (by decide)
  · exact ((hb1.alloc (by have := hb1.size; omega) _).grown hgrow (by have := hb1.size; simp; omega) (fun k hk => (hown.lt k hk).1) (Lib.ownsRowF_kind (hown.alloc _))).setCell (p := ⟨b, 1, none⟩) hB rfl _


set_option maxHeartbeats 2000000 in
set_option maxRecDepth 100000 in
theorem builder_WriteStringO (B b : Nat) (l : List UInt8) (s : ByteArray) (w : World) (h : Wt B b l w) (hlen : l.length + s.size ≤ 140737488355328) :
    Calls Try.prog 57 #[.pointer (some ⟨b, 0, none⟩), .string s] w fun e w' => e = .returned (.tuple #[.int .i64 s.size, .nilIface]) ∧ Wt B b (l ++ s.data.toList) w' ∧ Wb B b w w' := by
  have hBw : B ≤ w.heap.size := by have := h.lt; have := h.le; omega
  obtain ⟨i0, hi, hz0, hz1, hz2⟩ := info_parts info5
  have HL := Lib.hid (Lib.byteCells_length l)
  have HW := Lib.hid h
  clear h
  go_enter Try.func57, Try.ntmps57
  go_wp2_with (go_at_call 64; refine (copyCheck_anyO B b _ _ HW.out).mono ?_)
  rintro e w1 ⟨rfl, h1, hb1⟩
  obtain ⟨hB, v, hbk, hown, hne⟩ := h1
  have c0 : w1.cell? ⟨b, 0, none⟩ = some (.pointer (some ⟨b, 0, none⟩)) := by rw [Lib.cell_of_heap hbk]; rfl
  have c1 : w1.cell? ⟨b, 1, none⟩ = some v := by rw [Lib.cell_of_heap hbk]; rfl
  go_wp2_with (at_builtin; refine Lib.wpList_append_own_stringF _ rfl _ _ 39 9 rfl B 5 i0 Try.underlying39 Try.underlying9 hi hz0 hz1 hz2 _ _ _ rfl hown s rfl ?c3 ?c4 ?c5 ?_)
  case c3 => unfold maxLen; have := HL.out; omega
  case c4 => have := HL.out; omega
  case c5 => have := hb1.size; omega
  intro v' w2 hown' hgrow _
  have hlt : b < w1.heap.size := by
    rcases Nat.lt_or_ge b w1.heap.size with h' | h'
    · exact h'
    · simp [Array.getElem?_eq_none h'] at hbk
  have hb2 : w2.heap[b]? = some (.cells #[.pointer (some ⟨b, 0, none⟩), v] 81 (0, 0)) := by
    rw [hgrow.block b hlt (fun e => hne e.symm)]
    exact hbk
  have d0 : w2.cell? ⟨b, 0, none⟩ = some (.pointer (some ⟨b, 0, none⟩)) := by rw [Lib.cell_of_heap hb2]; rfl
  have d1 : w2.cell? ⟨b, 1, none⟩ = some v := by rw [Lib.cell_of_heap hb2]; rfl
  have f1 : w2.frozen? ⟨b, 1, none⟩ = false := Lib.frozen_of_heap hb2 1
  obtain ⟨ao, n', cap, rfl⟩ : ∃ ao n' cap, v' = .slice ao n' cap := by
    rcases hown'.2 with ⟨hv, _⟩ | ⟨g, cap, cur, fz, hv, _⟩
    · exact ⟨_, _, _, hv⟩
    · exact ⟨_, _, _, hv⟩
  go_wp2
  go_ret2
  refine ⟨rfl, ?_, ?_⟩
  · refine .inr ?_
    rw [byteCells_append]
    exact Lib.BuilderAtF.put (T := 81) (e := 5) hB hb2 (bs' := Lib.byteCells l ++ Lib.strCells s) (by simpa [Lib.strCells_length] using hown') (by decide)
  · exact (hb1.grown hgrow (by have := hb1.size; omega) (fun k hk => (hown.lt k hk).1) (Lib.ownsRowF_kind hown)).setCell (p := ⟨b, 1, none⟩) hB rfl _


theorem builder_WriteNumO (B b : Nat) (l : List UInt8) (c : Int) (w : World) (h : Wt B b l w) (h1 : 0 ≤ c) (h2 : c ≤ 255) (hlen : l.length + 1 ≤ 140737488355328) :
    Calls Try.prog 63 #[.pointer (some ⟨b, 0, none⟩), .int .u8 c] w fun e w' => e = .returned .nilIface ∧ Wt B b (l ++ [UInt8.ofNat c.toNat]) w' ∧ Wb B b w w' := by
  have e : c = ((UInt8.ofNat c.toNat).toNat : Int) := by rw [toNat_ofNat (by omega)]; omega
  have := builder_WriteByteO B b l (UInt8.ofNat c.toNat) w h hlen
  rw [← e] at this
  exact this


set_option maxHeartbeats 400000 in
theorem six_groupsO (B b : Nat) (l : List UInt8) (n mark : Nat) (w : World) (h : Wt B b l w) (hn : n ≤ 9223372036854775807) (hm : mark = 64 ∨ mark = 128) (hlen : l.length + 11 ≤ 140737488355328) :
    Calls Try.prog 56 #[.pointer (some ⟨b, 0, none⟩), .int .i64 n, .int .u8 mark] w fun e w' => e = .returned (.tuple #[]) ∧ Wt B b (l ++ grp n mark) w' ∧ Wb B b w w' := by
  have HW := Lib.hid h
  have HM := Lib.hid hm
  have hm0 : (mark : Int) ≤ 128 := by omega
  clear h hm
  go_enter Try.func56, Try.ntmps56
  go_wp2_with fail
  go_loop [6] (fun x => ∃ k : Nat, k ≤ 10 ∧ x = .int .i64 (6 * k : Nat) ∧ Hid (n / 64 ^ k ≠ 0 ∨ k = 0)) (fun x => 60 - (intOf x).toNat)
  case atStart => exact ⟨0, by omega, rfl, .inr rfl⟩
  case round =>
    obtain ⟨k, hk, rfl, HK⟩ := hrel
    have hq := shift_pow n k
    obtain ⟨q, hQ⟩ : ∃ q, q = n / 64 ^ k := ⟨_, rfl⟩
    rw [← hQ] at hq HK
    have hQ' := Lib.hid hQ
    clear hQ
    by_cases ht : 63 < (q : Int)
    · go_wp2_with fail
      go_round
      case rel =>
        have e : n / 64 ^ (k + 1) = q / 64 := by rw [hQ'.out, Nat.pow_succ, Nat.div_div_eq_div_mul]
        have hk10 : k ≠ 10 := by
          intro hk10
          have := hQ'.out
          rw [hk10, show (64 : Nat) ^ 10 = 1152921504606846976 by decide] at this
          omega
        exact ⟨k + 1, by omega, by go_num, .inl (by rw [e]; omega)⟩
      case measure =>
        have hk10 : k ≠ 10 := by
          intro hk10
          have := hQ'.out
          rw [hk10, show (64 : Nat) ^ 10 = 1152921504606846976 by decide] at this
          omega
        simp [intOf]; omega
    · go_wp2_with fail
      have hq0 : (q : Int) ≤ 63 := by omega
      clear hq ht
      go_loopw [6] (fun x wr => ∃ j : Nat, j ≤ k ∧ x = .int .i64 (6 * j : Nat) ∧ Wt B b (l ++ lead (n / 64 ^ (j + 1))) wr ∧ Wb B b w wr) (fun x wr => (intOf x).toNat)
      case atStart =>
        refine ⟨k, Nat.le_refl _, by go_num, ?_, Wb.refl _ _ _⟩
        have e : n / 64 ^ (k + 1) = 0 := by rw [Nat.pow_succ, ← Nat.div_div_eq_div_mul, ← hQ'.out]; omega
        rw [e, lead_zero, List.append_nil]
        exact HW.out
      case round =>
        obtain ⟨j, hj, rfl, hw, hbw⟩ := hrel
        have HW2 := Lib.hid hw
        have HB2 := Lib.hid hbw
        clear hw hbw
        have hlen2 := Lib.hid (show (l ++ lead (n / 64 ^ (j + 1))).length + 1 ≤ 140737488355328 by rw [List.length_append]; have := lead_le n j hn; omega)
        by_cases hj0 : (j : Int) ≤ 0
        · have hj1 : j = 0 := by omega
          obtain ⟨x, hx⟩ : ∃ x, x = n % 64 := ⟨_, rfl⟩
          obtain ⟨z, hz⟩ : ∃ z, z = mark + x := ⟨_, rfl⟩
          have hand := and63_i64 n hn
          have hor := or_mark x mark (by omega) HM.out
          rw [← hx] at hand
          rw [← hz] at hor
          have hx1 : x ≤ 63 := by omega
          have hz1 : z ≤ 191 := by have := HM.out; omega
          have HX := Lib.hid hx
          have HZ := Lib.hid hz
          have HJ := Lib.hid hj1
          clear hx hz hj1
          go_wp2_with fail
          refine (builder_WriteNumO B b _ _ _ HW2.out (by omega) (by omega) hlen2.out).mono ?_
          rintro e w2 ⟨rfl, h2, k2⟩
          have H2 := Lib.hid h2
          have K2 := Lib.hid k2
          clear h2 k2
          go_wp2
          go_end0
          refine ⟨rfl, ?_, HB2.out.trans K2.out⟩
          have hg : grp n mark = lead (n / 64 ^ (j + 1)) ++ [UInt8.ofNat ((z : Int)).toNat] := by
            unfold grp
            rw [HJ.out, HZ.out, HX.out, Int.toNat_natCast, Nat.zero_add, Nat.pow_one]
          rw [hg, ← List.append_assoc]
          exact H2.out
        · have hj1 : j ≠ 0 := by omega
          obtain ⟨p, hp⟩ : ∃ p, p = n / 64 ^ j := ⟨_, rfl⟩
          obtain ⟨x, hx⟩ : ∃ x, x = p % 64 := ⟨_, rfl⟩
          have hps := shift_pow n j
          have hpn : p ≤ 9223372036854775807 := by have := Nat.div_le_self n (64 ^ j); omega
          have hand := and63_i64 p hpn
          rw [← hp] at hps
          rw [← hx] at hand
          have hx1 : x ≤ 63 := by omega
          have HP := Lib.hid hp
          have HX := Lib.hid hx
          clear hp hx
          go_wp2_with fail
          have hwr : IntKind.u8.wrap (x : Int) = x := by rw [IntKind.wrap_u8']; omega
          have htn : (6 * (j : Int)).toNat = 6 * j := by omega
          go_region_with (go_at_call 63; refine (builder_WriteNumO B b _ _ _ HW2.out.drew (by omega) (by omega) hlen2.out).mono ?_; rintro e w2 ⟨rfl, h2, k2⟩; have H2 := Lib.hid h2; have K2 := Lib.hid k2; clear h2 k2)
          clear hwr htn hand hps
          go_wp2
          go_roundw
          case rel =>
            obtain ⟨i, rfl⟩ : ∃ i, j = i + 1 := ⟨j - 1, by omega⟩
            refine ⟨i, by omega, by go_num, ?_, HB2.out.drew.trans K2.out⟩
            have hk0 : n / 64 ^ (i + 1) ≠ 0 := by
              rcases HK.out with hk1 | hk1
              · intro hz
                have h1 : 64 ^ (i + 1) ≤ 64 ^ k := Nat.pow_le_pow_right (by decide) hj
                have h2 : n / 64 ^ k ≤ n / 64 ^ (i + 1) := Nat.div_le_div_left h1 (Nat.pow_pos (by decide))
                have := hQ'.out
                omega
              · omega
            have hl : lead (n / 64 ^ (i + 1)) = lead (n / 64 ^ (i + 1 + 1)) ++ [UInt8.ofNat ((x : Int)).toNat] := by
              rw [lead_pos hk0, HX.out, HP.out, Int.toNat_natCast, Nat.pow_succ 64 (i + 1), ← Nat.div_div_eq_div_mul]
            rw [hl, ← List.append_assoc]
            exact H2.out
          case measure => simp [intOf]; omega


set_option maxHeartbeats 400000 in
theorem six_CountO (B b : Nat) (l : List UInt8) (n : Nat) (w : World) (h : Wt B b l w) (hn : n ≤ 9223372036854775807) (hlen : l.length + 11 ≤ 140737488355328) :
    Calls Try.prog 40 #[.pointer (some ⟨b, 0, none⟩), .int .i64 n] w fun e w' => e = .returned (.int .i64 0) ∧ Wt B b (l ++ whole n) w' ∧ Wb B b w w' := by
  have hg := Lib.hid (show whole n = grp n 64 by unfold whole; rw [if_neg (by omega)]; rfl)
  have HW := Lib.hid h
  clear h
  go_enter Try.func40, Try.ntmps40
  go_wp2_with fail
  refine (six_groupsO B b l n 64 w HW.out hn (.inl rfl) hlen).mono ?_
  rintro e w2 ⟨rfl, h2, k2⟩
  have H2 := Lib.hid h2
  have K2 := Lib.hid k2
  clear h2 k2
  go_wp2
  go_ret
  exact ⟨rfl, by rw [hg.out]; exact H2.out, K2.out⟩

theorem six_RawO (B b : Nat) (l : List UInt8) (s : ByteArray) (w : World) (h : Wt B b l w) (hlen : l.length + s.size ≤ 140737488355328) :
    Calls Try.prog 44 #[.pointer (some ⟨b, 0, none⟩), .string s] w fun e w' => e = .returned (.int .i64 0) ∧ Wt B b (l ++ s.data.toList) w' ∧ Wb B b w w' := by
  have HW := Lib.hid h
  clear h
  go_enter Try.func44, Try.ntmps44
  go_wp2_with fail
  refine (builder_WriteStringO B b l s w HW.out hlen).mono ?_
  rintro e w2 ⟨rfl, h2, k2⟩
  have H2 := Lib.hid h2
  have K2 := Lib.hid k2
  clear h2 k2
  go_wp2
  go_ret
  exact ⟨rfl, H2.out, K2.out⟩

theorem six_TextO (B b : Nat) (l : List UInt8) (s : ByteArray) (w : World) (h : Wt B b l w) (hlen : l.length + 11 + s.size ≤ 140737488355328) :
    Calls Try.prog 43 #[.pointer (some ⟨b, 0, none⟩), .string s] w fun e w' => e = .returned (.int .i64 0) ∧ Wt B b (l ++ text s.data.toList) w' ∧ Wb B b w w' := by
  have HW := Lib.hid h
  clear h
  have hl := Lib.hid (show (whole (s.size : Int)).length ≤ 11 from (whole_len (by omega) (by omega)).1)
  have ht := Lib.hid (show text s.data.toList = whole (s.size : Int) ++ s.data.toList by unfold text; rw [← Lib.size_eq])
  go_enter Try.func43, Try.ntmps43
  go_wp2_with fail
  refine (six_CountO B b l s.size w HW.out (by omega) (by omega)).mono ?_
  rintro e w2 ⟨rfl, h2, k2⟩
  have H2 := Lib.hid h2
  have K2 := Lib.hid k2
  clear h2 k2
  go_wp2_with fail
  refine (six_RawO B b _ s w2 H2.out (by rw [List.length_append]; have := hl.out; omega)).mono ?_
  rintro e w3 ⟨rfl, h3, k3⟩
  have H3 := Lib.hid h3
  have K3 := Lib.hid k3
  clear h3 k3
  go_wp2
  go_ret
  exact ⟨rfl, by rw [ht.out, ← List.append_assoc]; exact H3.out, K2.out.trans K3.out⟩

end Go.Proofs.Ytmmdhmhcfpghfaa
