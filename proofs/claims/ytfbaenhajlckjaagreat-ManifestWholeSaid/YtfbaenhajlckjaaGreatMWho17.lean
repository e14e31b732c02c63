/- Texts put together: SixOther, ManNums, ManPut, ManPack, ManNil, ManSame -/
import Derived.Test.YtfbaenhajlckjaaGreatMWho02
import Derived.Test.YtfbaenhajlckjaaGreatMWho04
import Derived.Test.YtfbaenhajlckjaaGreatMWho16
import Derived.Test.YtfbaenhajlckjaaGreatMWho09
import Derived.Test.YtfbaenhajlckjaaGreatMWho14
/- The writer of package six: what each of its methods adds, and that it keeps every other block that is no row of bytes. -/
set_option linter.unusedVariables false
set_option maxRecDepth 100000
namespace Go.Proofs.YtfbaenhajlckjaaGreat
open Go.RowKit

/-- All below B is kept, and every block that is neither b nor a row of bytes. -/
structure Wb (B b : Nat) (w w' : World) : Prop where
  bel : Below B w w'
  oth : Lib.OthersKept 5 (some b) w w'
namespace Wb
variable {B b : Nat} {a c d w w' : World}
theorem refl (B b : Nat) (w : World) : Wb B b w w := ⟨Below.refl _ _, Lib.OthersKept.refl _ _ _⟩
theorem trans (h : Wb B b a c) (k : Wb B b c d) : Wb B b a d := ⟨h.bel.trans k.bel, h.oth.trans k.oth⟩
theorem drew (h : Wb B b a w) : Wb B b a w.drew := ⟨h.bel.drew, h.oth.drew⟩
theorem size (h : Wb B b a w) : a.heap.size ≤ w.heap.size := h.bel.size
theorem alloc (h : Wb B b a w) (hB : B ≤ w.heap.size) (o : Obj) : Wb B b a (w.alloc o) := ⟨h.bel.alloc hB o, h.oth.alloc o⟩
theorem setCell (h : Wb B b a w) {p : Addr} (hB : B ≤ p.block) (hp : p.block = b) (v : Value) : Wb B b a (w.setCell p v) := ⟨h.bel.setCell hB v, h.oth.setCell p hp v⟩
theorem grown (h : Wb B b a w) {row : Option Nat} (hg : w.grownBy w' row) (hB : B ≤ w.heap.size) (hr : ∀ k, row = some k → B ≤ k) (hrow : ∀ g, row = some g → ∃ c fz, w.heap[g]? = some (.cells c 5 fz)) : Wb B b a w' := ⟨h.bel.grown hg hB hr, h.oth.grown hg hrow⟩
/-- A block of another kind is kept. -/
theorem keeps (h : Wb B b w w') {k : Nat} {cs : Array Value} {t : TypeId} {z : Nat × Nat} (hk : w.heap[k]? = some (.cells cs t z)) (hb : k ≠ b) (ht : t ≠ 5) : w'.heap[k]? = some (.cells cs t z) :=
  h.oth k _ hk (fun e => hb (Option.some.inj e)) (fun c fz e => by injection e with _ e _; exact ht e)
end Wb

theorem copyCheck_anyO (B b : Nat) (bs : List Value) (w : World) (h : Lib.IsBuilderF 179 5 B b bs w) :
    Calls Tryz.prog 218 #[.pointer (some ⟨b, 0, none⟩)] w fun e w' => e = .returned (.tuple #[]) ∧ (Lib.BuilderAtF 179 5 B b (.pointer (some ⟨b, 0, none⟩)) bs w' ∧ Wb B b w w') := by
  rcases h with h | h
  · refine (copyCheck_fresh b w h.cell0 h.shape h.frozen0).mono ?_
    rintro e w' ⟨rfl, rfl⟩
    exact ⟨rfl, h.used _, (Wb.refl B b w).setCell (p := ⟨b, 0, none⟩) h.1 rfl _⟩
  · refine (copyCheck_used b w h.cell0).mono ?_
    rintro e w' ⟨rfl, rfl⟩
    exact ⟨rfl, h, Wb.refl B b _⟩


set_option maxHeartbeats 2000000 in
set_option maxRecDepth 100000 in
theorem builder_WriteByteO (B b : Nat) (l : List UInt8) (c : UInt8) (w : World) (h : Wt B b l w) (hlen : l.length + 1 ≤ 140737488355328) :
    Calls Tryz.prog 197 #[.pointer (some ⟨b, 0, none⟩), .int .u8 c.toNat] w fun e w' => e = .returned .nilIface ∧ Wt B b (l ++ [c]) w' ∧ Wb B b w w' := by
  have hBw : B ≤ w.heap.size := by have := h.lt; have := h.le; omega
  obtain ⟨i0, hi, hz0, hz1, hz2⟩ := info_parts info5
  have HL := Lib.hid (Lib.byteCells_length l)
  have HW := Lib.hid h
  clear h
  go_enter Tryz.func197, Tryz.ntmps197
  go_wp2_with (go_at_call 218; refine (copyCheck_anyO B b _ _ HW.out).mono ?_)
  rintro e w1 ⟨rfl, h1, hb1⟩
  obtain ⟨hB, v, hbk, hown, hne⟩ := h1
  have c0 : w1.cell? ⟨b, 0, none⟩ = some (.pointer (some ⟨b, 0, none⟩)) := by rw [Lib.cell_of_heap hbk]; rfl
  have c1 : w1.cell? ⟨b, 1, none⟩ = some v := by rw [Lib.cell_of_heap hbk]; rfl
  go_wp2_with (at_builtin; refine wpList_append_ownF _ rfl _ _ 136 rfl B 5 i0 (.int .u8 0) 1 1 Tryz.underlying136 hi hz0 hz1 hz2 rfl (by decide) _ _ _ rfl (hown.alloc _) ⟨w1.heap.size, 0, none⟩ 1 1 [.int .u8 (c.toNat : Int)] rfl rfl ?c1 ?c2 ?c3 ?c4 ?c5 ?_)
  case c1 =>
    intro j u hj
    match j, hj with
    | 0, hj => simp at hj; subst hj; simp [Addr.add]
  case c2 => intro u hu; simp at hu; subst hu; rfl
  case c3 => unfold maxLen; have := HL.out; omega
  case c4 => have := HL.out; omega
  case c5 => have := hb1.size; simp; omega
  intro v' w2 hown' hgrow _
  have hlt : b < w1.heap.size := by
    rcases Nat.lt_or_ge b w1.heap.size with h' | h'
    · exact h'
    · simp [Array.getElem?_eq_none h'] at hbk
  have hb2 : w2.heap[b]? = some (.cells #[.pointer (some ⟨b, 0, none⟩), v] 179 (0, 0)) := by
    rw [hgrow.block b (by simp; omega) (fun e => hne e.symm)]
    exact (Lib.alloc_old w1 _ b hlt).trans hbk
  have d0 : w2.cell? ⟨b, 0, none⟩ = some (.pointer (some ⟨b, 0, none⟩)) := by rw [Lib.cell_of_heap hb2]; rfl
  have d1 : w2.cell? ⟨b, 1, none⟩ = some v := by rw [Lib.cell_of_heap hb2]; rfl
  have f1 : w2.frozen? ⟨b, 1, none⟩ = false := Lib.frozen_of_heap hb2 1
  obtain ⟨ao, n', cap, rfl⟩ : ∃ ao n' cap, v' = .slice ao n' cap := by
    rcases hown'.2 with ⟨hv, _⟩ | ⟨g, cap, cur, fz, hv, _⟩
    · exact ⟨_, _, _, hv⟩
    · exact ⟨_, _, _, hv⟩
  go_wp2
  go_ret
  refine ⟨rfl, ?_, ?_⟩
  · refine .inr ?_
    rw [byteCells_snoc]
    exact Lib.BuilderAtF.put (T := 179) (e := 5) hB hb2 (bs' := Lib.byteCells l ++ [.int .u8 (c.toNat : Int)]) (by simpa using hown') (by decide)
  · exact ((hb1.alloc (by have := hb1.size; omega) _).grown hgrow (by have := hb1.size; simp; omega) (fun k hk => (hown.lt k hk).1) (Lib.ownsRowF_kind (hown.alloc _))).setCell (p := ⟨b, 1, none⟩) hB rfl _


set_option maxHeartbeats 2000000 in
set_option maxRecDepth 100000 in
theorem builder_WriteStringO (B b : Nat) (l : List UInt8) (s : ByteArray) (w : World) (h : Wt B b l w) (hlen : l.length + s.size ≤ 140737488355328) :
    Calls Tryz.prog 198 #[.pointer (some ⟨b, 0, none⟩), .string s] w fun e w' => e = .returned (.tuple #[.int .i64 s.size, .nilIface]) ∧ Wt B b (l ++ s.data.toList) w' ∧ Wb B b w w' := by
  have hBw : B ≤ w.heap.size := by have := h.lt; have := h.le; omega
  obtain ⟨i0, hi, hz0, hz1, hz2⟩ := info_parts info5
  have HL := Lib.hid (Lib.byteCells_length l)
  have HW := Lib.hid h
  clear h
  go_enter Tryz.func198, Tryz.ntmps198
  go_wp2_with (go_at_call 218; refine (copyCheck_anyO B b _ _ HW.out).mono ?_)
  rintro e w1 ⟨rfl, h1, hb1⟩
  obtain ⟨hB, v, hbk, hown, hne⟩ := h1
  have c0 : w1.cell? ⟨b, 0, none⟩ = some (.pointer (some ⟨b, 0, none⟩)) := by rw [Lib.cell_of_heap hbk]; rfl
  have c1 : w1.cell? ⟨b, 1, none⟩ = some v := by rw [Lib.cell_of_heap hbk]; rfl
  go_wp2_with (at_builtin; refine Lib.wpList_append_own_stringF _ rfl _ _ 136 9 rfl B 5 i0 Tryz.underlying136 Tryz.underlying9 hi hz0 hz1 hz2 _ _ _ rfl hown s rfl ?c3 ?c4 ?c5 ?_)
  case c3 => unfold maxLen; have := HL.out; omega
  case c4 => have := HL.out; omega
  case c5 => have := hb1.size; omega
  intro v' w2 hown' hgrow _
  have hlt : b < w1.heap.size := by
    rcases Nat.lt_or_ge b w1.heap.size with h' | h'
    · exact h'
    · simp [Array.getElem?_eq_none h'] at hbk
  have hb2 : w2.heap[b]? = some (.cells #[.pointer (some ⟨b, 0, none⟩), v] 179 (0, 0)) := by
    rw [hgrow.block b hlt (fun e => hne e.symm)]
    exact hbk
  have d0 : w2.cell? ⟨b, 0, none⟩ = some (.pointer (some ⟨b, 0, none⟩)) := by rw [Lib.cell_of_heap hb2]; rfl
  have d1 : w2.cell? ⟨b, 1, none⟩ = some v := by rw [Lib.cell_of_heap hb2]; rfl
  have f1 : w2.frozen? ⟨b, 1, none⟩ = false := Lib.frozen_of_heap hb2 1
  obtain ⟨ao, n', cap, rfl⟩ : ∃ ao n' cap, v' = .slice ao n' cap := by
    rcases hown'.2 with ⟨hv, _⟩ | ⟨g, cap, cur, fz, hv, _⟩
    · exact ⟨_, _, _, hv⟩
    · exact ⟨_, _, _, hv⟩
  go_wp2
  go_ret2
  refine ⟨rfl, ?_, ?_⟩
  · refine .inr ?_
    rw [byteCells_append]
    exact Lib.BuilderAtF.put (T := 179) (e := 5) hB hb2 (bs' := Lib.byteCells l ++ Lib.strCells s) (by simpa [Lib.strCells_length] using hown') (by decide)
  · exact (hb1.grown hgrow (by have := hb1.size; omega) (fun k hk => (hown.lt k hk).1) (Lib.ownsRowF_kind hown)).setCell (p := ⟨b, 1, none⟩) hB rfl _


theorem builder_WriteNumO (B b : Nat) (l : List UInt8) (c : Int) (w : World) (h : Wt B b l w) (h1 : 0 ≤ c) (h2 : c ≤ 255) (hlen : l.length + 1 ≤ 140737488355328) :
    Calls Tryz.prog 197 #[.pointer (some ⟨b, 0, none⟩), .int .u8 c] w fun e w' => e = .returned .nilIface ∧ Wt B b (l ++ [UInt8.ofNat c.toNat]) w' ∧ Wb B b w w' := by
  have e : c = ((UInt8.ofNat c.toNat).toNat : Int) := by rw [toNat_ofNat (by omega)]; omega
  have := builder_WriteByteO B b l (UInt8.ofNat c.toNat) w h hlen
  rw [← e] at this
  exact this


set_option maxHeartbeats 400000 in
theorem six_groupsO (B b : Nat) (l : List UInt8) (n mark : Nat) (w : World) (h : Wt B b l w) (hn : n ≤ 9223372036854775807) (hm : mark = 64 ∨ mark = 128) (hlen : l.length + 11 ≤ 140737488355328) :
    Calls Tryz.prog 154 #[.pointer (some ⟨b, 0, none⟩), .int .i64 n, .int .u8 mark] w fun e w' => e = .returned (.tuple #[]) ∧ Wt B b (l ++ grp n mark) w' ∧ Wb B b w w' := by
  have HW := Lib.hid h
  have HM := Lib.hid hm
  have hm0 : (mark : Int) ≤ 128 := by omega
  clear h hm
  go_enter Tryz.func154, Tryz.ntmps154
  go_wp2_with fail
  go_loop [6] (fun x => ∃ k : Nat, k ≤ 10 ∧ x = .int .i64 (6 * k : Nat) ∧ Hid (n / 64 ^ k ≠ 0 ∨ k = 0)) (fun x => 60 - (intOf x).toNat)
  case atStart => exact ⟨0, by omega, rfl, .inr rfl⟩
  case round =>
    obtain ⟨k, hk, rfl, HK⟩ := hrel
    have hq := shift_pow n k
    obtain ⟨q, hQ⟩ : ∃ q, q = n / 64 ^ k := ⟨_, rfl⟩
    rw [← hQ] at hq HK
    have hQ' := Lib.hid hQ
    clear hQ
    by_cases ht : 63 < (q : Int)
    · go_wp2_with fail
      go_round
      case rel =>
        have e : n / 64 ^ (k + 1) = q / 64 := by rw [hQ'.out, Nat.pow_succ, Nat.div_div_eq_div_mul]
        have hk10 : k ≠ 10 := by
          intro hk10
          have := hQ'.out
          rw [hk10, show (64 : Nat) ^ 10 = 1152921504606846976 by decide] at this
          omega
        exact ⟨k + 1, by omega, by go_num, .inl (by rw [e]; omega)⟩
      case measure =>
        have hk10 : k ≠ 10 := by
          intro hk10
          have := hQ'.out
          rw [hk10, show (64 : Nat) ^ 10 = 1152921504606846976 by decide] at this
          omega
        simp [intOf]; omega
    · go_wp2_with fail
      have hq0 : (q : Int) ≤ 63 := by omega
      clear hq ht
      go_loopw [6] (fun x wr => ∃ j : Nat, j ≤ k ∧ x = .int .i64 (6 * j : Nat) ∧ Wt B b (l ++ lead (n / 64 ^ (j + 1))) wr ∧ Wb B b w wr) (fun x wr => (intOf x).toNat)
      case atStart =>
        refine ⟨k, Nat.le_refl _, by go_num, ?_, Wb.refl _ _ _⟩
        have e : n / 64 ^ (k + 1) = 0 := by rw [Nat.pow_succ, ← Nat.div_div_eq_div_mul, ← hQ'.out]; omega
        rw [e, lead_zero, List.append_nil]
        exact HW.out
      case round =>
        obtain ⟨j, hj, rfl, hw, hbw⟩ := hrel
        have HW2 := Lib.hid hw
        have HB2 := Lib.hid hbw
        clear hw hbw
        have hlen2 := Lib.hid (show (l ++ lead (n / 64 ^ (j + 1))).length + 1 ≤ 140737488355328 by rw [List.length_append]; have := lead_le n j hn; omega)
        by_cases hj0 : (j : Int) ≤ 0
        · have hj1 : j = 0 := by omega
          obtain ⟨x, hx⟩ : ∃ x, x = n % 64 := ⟨_, rfl⟩
          obtain ⟨z, hz⟩ : ∃ z, z = mark + x := ⟨_, rfl⟩
          have hand := and63_i64 n hn
          have hor := or_mark x mark (by omega) HM.out
          rw [← hx] at hand
          rw [← hz] at hor
          have hx1 : x ≤ 63 := by omega
          have hz1 : z ≤ 191 := by have := HM.out; omega
          have HX := Lib.hid hx
          have HZ := Lib.hid hz
          have HJ := Lib.hid hj1
          clear hx hz hj1
          go_wp2_with fail
          refine (builder_WriteNumO B b _ _ _ HW2.out (by omega) (by omega) hlen2.out).mono ?_
          rintro e w2 ⟨rfl, h2, k2⟩
          have H2 := Lib.hid h2
          have K2 := Lib.hid k2
          clear h2 k2
          go_wp2
          go_end0
          refine ⟨rfl, ?_, HB2.out.trans K2.out⟩
          have hg : grp n mark = lead (n / 64 ^ (j + 1)) ++ [UInt8.ofNat ((z : Int)).toNat] := by
            unfold grp
            rw [HJ.out, HZ.out, HX.out, Int.toNat_natCast, Nat.zero_add, Nat.pow_one]
          rw [hg, ← List.append_assoc]
          exact H2.out
        · have hj1 : j ≠ 0 := by omega
          obtain ⟨p, hp⟩ : ∃ p, p = n / 64 ^ j := ⟨_, rfl⟩
          obtain ⟨x, hx⟩ : ∃ x, x = p % 64 := ⟨_, rfl⟩
          have hps := shift_pow n j
          have hpn : p ≤ 9223372036854775807 := by have := Nat.div_le_self n (64 ^ j); omega
          have hand := and63_i64 p hpn
          rw [← hp] at hps
          rw [← hx] at hand
          have hx1 : x ≤ 63 := by omega
          have HP := Lib.hid hp
          have HX := Lib.hid hx
          clear hp hx
          go_wp2_with fail
          have hwr : IntKind.u8.wrap (x : Int) = x := by rw [IntKind.wrap_u8']; omega
          have htn : (6 * (j : Int)).toNat = 6 * j := by omega
          go_region_with (go_at_call 197; refine (builder_WriteNumO B b _ _ _ HW2.out.drew (by omega) (by omega) hlen2.out).mono ?_; rintro e w2 ⟨rfl, h2, k2⟩; have H2 := Lib.hid h2; have K2 := Lib.hid k2; clear h2 k2)
          clear hwr htn hand hps
          go_wp2
          go_roundw
          case rel =>
            obtain ⟨i, rfl⟩ : ∃ i, j = i + 1 := ⟨j - 1, by omega⟩
            refine ⟨i, by omega, by go_num, ?_, HB2.out.drew.trans K2.out⟩
            have hk0 : n / 64 ^ (i + 1) ≠ 0 := by
              rcases HK.out with hk1 | hk1
              · intro hz
                have h1 : 64 ^ (i + 1) ≤ 64 ^ k := Nat.pow_le_pow_right (by decide) hj
                have h2 : n / 64 ^ k ≤ n / 64 ^ (i + 1) := Nat.div_le_div_left h1 (Nat.pow_pos (by decide))
                have := hQ'.out
                omega
              · omega
            have hl : lead (n / 64 ^ (i + 1)) = lead (n / 64 ^ (i + 1 + 1)) ++ [UInt8.ofNat ((x : Int)).toNat] := by
              rw [lead_pos hk0, HX.out, HP.out, Int.toNat_natCast, Nat.pow_succ 64 (i + 1), ← Nat.div_div_eq_div_mul]
            rw [hl, ← List.append_assoc]
            exact H2.out
          case measure => simp [intOf]; omega


set_option maxHeartbeats 400000 in
theorem six_CountO (B b : Nat) (l : List UInt8) (n : Nat) (w : World) (h : Wt B b l w) (hn : n ≤ 9223372036854775807) (hlen : l.length + 11 ≤ 140737488355328) :
    Calls Tryz.prog 108 #[.pointer (some ⟨b, 0, none⟩), .int .i64 n] w fun e w' => e = .returned (.int .i64 0) ∧ Wt B b (l ++ whole n) w' ∧ Wb B b w w' := by
  have hg := Lib.hid (show whole n = grp n 64 by unfold whole; rw [if_neg (by omega)]; rfl)
  have HW := Lib.hid h
  clear h
  go_enter Tryz.func108, Tryz.ntmps108
  go_wp2_with fail
  refine (six_groupsO B b l n 64 w HW.out hn (.inl rfl) hlen).mono ?_
  rintro e w2 ⟨rfl, h2, k2⟩
  have H2 := Lib.hid h2
  have K2 := Lib.hid k2
  clear h2 k2
  go_wp2
  go_ret
  exact ⟨rfl, by rw [hg.out]; exact H2.out, K2.out⟩

theorem six_RawO (B b : Nat) (l : List UInt8) (s : ByteArray) (w : World) (h : Wt B b l w) (hlen : l.length + s.size ≤ 140737488355328) :
    Calls Tryz.prog 155 #[.pointer (some ⟨b, 0, none⟩), .string s] w fun e w' => e = .returned (.int .i64 0) ∧ Wt B b (l ++ s.data.toList) w' ∧ Wb B b w w' := by
  have HW := Lib.hid h
  clear h
  go_enter Tryz.func155, Tryz.ntmps155
  go_wp2_with fail
  refine (builder_WriteStringO B b l s w HW.out hlen).mono ?_
  rintro e w2 ⟨rfl, h2, k2⟩
  have H2 := Lib.hid h2
  have K2 := Lib.hid k2
  clear h2 k2
  go_wp2
  go_ret
  exact ⟨rfl, H2.out, K2.out⟩

theorem six_TextO (B b : Nat) (l : List UInt8) (s : ByteArray) (w : World) (h : Wt B b l w) (hlen : l.length + 11 + s.size ≤ 140737488355328) :
    Calls Tryz.prog 112 #[.pointer (some ⟨b, 0, none⟩), .string s] w fun e w' => e = .returned (.int .i64 0) ∧ Wt B b (l ++ text s.data.toList) w' ∧ Wb B b w w' := by
  have HW := Lib.hid h
  clear h
  have hl := Lib.hid (show (whole (s.size : Int)).length ≤ 11 from (whole_len (by omega) (by omega)).1)
  have ht := Lib.hid (show text s.data.toList = whole (s.size : Int) ++ s.data.toList by unfold text; rw [← Lib.size_eq])
  go_enter Tryz.func112, Tryz.ntmps112
  go_wp2_with fail
  refine (six_CountO B b l s.size w HW.out (by omega) (by omega)).mono ?_
  rintro e w2 ⟨rfl, h2, k2⟩
  have H2 := Lib.hid h2
  have K2 := Lib.hid k2
  clear h2 k2
  go_wp2_with fail
  refine (six_RawO B b _ s w2 H2.out (by rw [List.length_append]; have := hl.out; omega)).mono ?_
  rintro e w3 ⟨rfl, h3, k3⟩
  have H3 := Lib.hid h3
  have K3 := Lib.hid k3
  clear h3 k3
  go_wp2
  go_ret
  exact ⟨rfl, by rw [ht.out, ← List.append_assoc]; exact H3.out, K2.out.trans K3.out⟩

end Go.Proofs.YtfbaenhajlckjaaGreat
/- An edit written. -/
set_option linter.unusedVariables false
set_option maxRecDepth 100000
namespace Go.Proofs.YtfbaenhajlckjaaGreat
open Go.RowKit

set_option maxHeartbeats 400000 in
theorem six_WholeO (B b : Nat) (l : List UInt8) (n : Int) (w : World) (h : Wt B b l w) (hn1 : -9223372036854775808 ≤ n) (hn2 : n ≤ 9223372036854775807) (hlen : l.length + 11 ≤ 140737488355328) :
    Calls Tryz.prog 109 #[.pointer (some ⟨b, 0, none⟩), .int .i64 n] w fun e w' => e = .returned (.int .i64 0) ∧ Wt B b (l ++ whole n) w' ∧ Wb B b w w' := by
  have HW := Lib.hid h
  clear h
  by_cases h0 : n < 0
  · obtain ⟨m, hm⟩ : ∃ m : Nat, -1 - n = m := ⟨(-1 - n).toNat, by omega⟩
    have hg := Lib.hid (show whole n = grp m 128 by unfold whole; rw [if_pos h0, hm]; rfl)
    have hm1 : m ≤ 9223372036854775807 := by omega
    have hsub : -1 - n = (m : Int) := hm
    clear hm
    go_enter Tryz.func109, Tryz.ntmps109
    go_wp2_with fail
    refine (six_groupsO B b l m 128 w HW.out hm1 (.inr rfl) hlen).mono ?_
    rintro e w2 ⟨rfl, h2, k2⟩
    have H2 := Lib.hid h2
    have K2 := Lib.hid k2
    clear h2 k2
    go_wp2
    go_ret
    exact ⟨rfl, by rw [hg.out]; exact H2.out, K2.out⟩
  · obtain ⟨m, rfl⟩ : ∃ m : Nat, n = m := ⟨n.toNat, by omega⟩
    have hg := Lib.hid (show whole m = grp m 64 by unfold whole; rw [if_neg (by omega)]; rfl)
    go_enter Tryz.func109, Tryz.ntmps109
    go_wp2_with fail
    refine (six_groupsO B b l m 64 w HW.out (by omega) (.inl rfl) hlen).mono ?_
    rintro e w2 ⟨rfl, h2, k2⟩
    have H2 := Lib.hid h2
    have K2 := Lib.hid k2
    clear h2 k2
    go_wp2
    go_ret
    exact ⟨rfl, by rw [hg.out]; exact H2.out, K2.out⟩

/-- A new row of pointers to the cells of a variable. -/
def PtrPost (eb : Nat) (offs : List Nat) (ty : TypeId) (w : World) (e : Ending) (w' : World) : Prop :=
  ∃ nb, e = .returned (.slice (some ⟨nb, 0, none⟩) offs.length offs.length) ∧ w.heap.size ≤ nb ∧ w'.heap[nb]? = some (.cells (offs.map fun o => Value.pointer (some ⟨eb, o, none⟩)).toArray ty (0, 0)) ∧ Below w.heap.size w w'
set_option maxHeartbeats 1000000 in
theorem numbers_1 (eb : Nat) (x : Ed) (w : World) (h : w.heap[eb]? = some (.cells #[.int .i64 x.kind, .int .i64 x.file, .int .i64 x.lev, .int .i64 x.cnt, .string (bs x.low), .string (bs x.high)] 47 (0, 0))) (hk : x.kind = 1) :
    Calls Tryz.prog 110 #[.pointer (some ⟨eb, 0, none⟩)] w (PtrPost eb [1, 2, 3] 183 w) := by
  obtain ⟨kd, hkd⟩ : ∃ kd, kd = x.kind := ⟨_, rfl⟩
  have c0 : w.cell? ⟨eb, 0, none⟩ = some (.int .i64 kd) := by simp [World.cell?, h, hkd]
  have hk1 : kd = 1 := by omega
  clear hk
  subst hk1
  clear h hkd
  go_enter Tryz.func110, Tryz.ntmps110
  go_wp2_with fail
  refine wp_region_seen_tail 9 (by kernel_rfl) (by kernel_rfl) ?_
  simp only [List.take_succ_cons, List.take_zero, List.drop_succ_cons, List.drop_zero]
  repeat go_big_quiet_step (fail)
  refine wpQuiet_nil ?_
  rintro _ ⟨m1, rfl⟩
  have K1 := Lib.hid m1.below
  generalize m1.val = w1 at *
  go_wp2
  go_ret
  exact ⟨w1.heap.size, rfl, K1.out.size, heap_new w1 _, K1.out.alloc K1.out.size _⟩
set_option maxHeartbeats 1000000 in
theorem numbers_3 (eb : Nat) (x : Ed) (w : World) (h : w.heap[eb]? = some (.cells #[.int .i64 x.kind, .int .i64 x.file, .int .i64 x.lev, .int .i64 x.cnt, .string (bs x.low), .string (bs x.high)] 47 (0, 0))) (hk : x.kind = 3) :
    Calls Tryz.prog 110 #[.pointer (some ⟨eb, 0, none⟩)] w (PtrPost eb [1, 2] 183 w) := by
  obtain ⟨kd, hkd⟩ : ∃ kd, kd = x.kind := ⟨_, rfl⟩
  have c0 : w.cell? ⟨eb, 0, none⟩ = some (.int .i64 kd) := by simp [World.cell?, h, hkd]
  have hk1 : kd = 3 := by omega
  clear hk
  subst hk1
  clear h hkd
  go_enter Tryz.func110, Tryz.ntmps110
  go_wp2_with fail
  refine wp_region_seen_tail 6 (by kernel_rfl) (by kernel_rfl) ?_
  simp only [List.take_succ_cons, List.take_zero, List.drop_succ_cons, List.drop_zero]
  repeat go_big_quiet_step (fail)
  refine wpQuiet_nil ?_
  rintro _ ⟨m1, rfl⟩
  have K1 := Lib.hid m1.below
  generalize m1.val = w1 at *
  go_wp2
  go_ret
  exact ⟨w1.heap.size, rfl, K1.out.size, heap_new w1 _, K1.out.alloc K1.out.size _⟩
set_option maxHeartbeats 1000000 in
theorem numbers_0 (eb : Nat) (x : Ed) (w : World) (h : w.heap[eb]? = some (.cells #[.int .i64 x.kind, .int .i64 x.file, .int .i64 x.lev, .int .i64 x.cnt, .string (bs x.low), .string (bs x.high)] 47 (0, 0))) (h1 : ¬ x.kind = 1) (h3 : ¬ x.kind = 3) :
    Calls Tryz.prog 110 #[.pointer (some ⟨eb, 0, none⟩)] w (PtrPost eb [1] 183 w) := by
  obtain ⟨kd, hkd⟩ : ∃ kd, kd = x.kind := ⟨_, rfl⟩
  have c0 : w.cell? ⟨eb, 0, none⟩ = some (.int .i64 kd) := by simp [World.cell?, h, hkd]
  have k1 : (kd == 1) = false := by simpa [hkd] using h1
  have k3 : (kd == 3) = false := by simpa [hkd] using h3
  clear h1 h3
  clear h hkd
  go_enter Tryz.func110, Tryz.ntmps110
  go_wp2_with fail
  go_wp2
  go_ret
  exact ⟨w.heap.size, rfl, Nat.le_refl _, heap_new w _, (Below.refl _ _).alloc (Nat.le_refl _) _⟩
set_option maxHeartbeats 1000000 in
theorem texts_1 (eb : Nat) (x : Ed) (w : World) (h : w.heap[eb]? = some (.cells #[.int .i64 x.kind, .int .i64 x.file, .int .i64 x.lev, .int .i64 x.cnt, .string (bs x.low), .string (bs x.high)] 47 (0, 0))) (hk : x.kind = 1) :
    Calls Tryz.prog 111 #[.pointer (some ⟨eb, 0, none⟩)] w (PtrPost eb [4, 5] 186 w) := by
  obtain ⟨kd, hkd⟩ : ∃ kd, kd = x.kind := ⟨_, rfl⟩
  have c0 : w.cell? ⟨eb, 0, none⟩ = some (.int .i64 kd) := by simp [World.cell?, h, hkd]
  have hk1 : kd = 1 := by omega
  clear hk
  subst hk1
  clear h hkd
  go_enter Tryz.func111, Tryz.ntmps111
  go_wp2_with fail
  refine wp_region_seen_tail 6 (by kernel_rfl) (by kernel_rfl) ?_
  simp only [List.take_succ_cons, List.take_zero, List.drop_succ_cons, List.drop_zero]
  repeat go_big_quiet_step (fail)
  refine wpQuiet_nil ?_
  rintro _ ⟨m1, rfl⟩
  have K1 := Lib.hid m1.below
  generalize m1.val = w1 at *
  go_wp2
  go_ret
  exact ⟨w1.heap.size, rfl, K1.out.size, heap_new w1 _, K1.out.alloc K1.out.size _⟩
set_option maxHeartbeats 1000000 in
theorem texts_0 (eb : Nat) (x : Ed) (w : World) (h : w.heap[eb]? = some (.cells #[.int .i64 x.kind, .int .i64 x.file, .int .i64 x.lev, .int .i64 x.cnt, .string (bs x.low), .string (bs x.high)] 47 (0, 0))) (h1 : ¬ x.kind = 1) :
    Calls Tryz.prog 111 #[.pointer (some ⟨eb, 0, none⟩)] w fun e w' => e = .returned (.slice none 0 0) ∧ w = w' := by
  obtain ⟨kd, hkd⟩ : ∃ kd, kd = x.kind := ⟨_, rfl⟩
  have c0 : w.cell? ⟨eb, 0, none⟩ = some (.int .i64 kd) := by simp [World.cell?, h, hkd]
  have k1 : (kd == 1) = false := by simpa [hkd] using h1
  clear h hkd h1
  go_enter Tryz.func111, Tryz.ntmps111
  go_wp2
  go_ret
  exact ⟨rfl, rfl⟩
end Go.Proofs.YtfbaenhajlckjaaGreat
/- An edit's bytes, written. -/
set_option linter.unusedVariables false
set_option maxRecDepth 100000
namespace Go.Proofs.YtfbaenhajlckjaaGreat
open Go.RowKit

def wholes (L : List Int) : List UInt8 := L.flatMap whole
def textsB (L : List (List UInt8)) : List UInt8 := L.flatMap text
theorem wholes_snoc (L : List Int) (v : Int) : wholes (L ++ [v]) = wholes L ++ whole v := by simp [wholes]
theorem textsB_snoc (L : List (List UInt8)) (v : List UInt8) : textsB (L ++ [v]) = textsB L ++ text v := by simp [textsB]
/-- The numbers and the texts behind an edit's kind. -/
def numsOf (x : Ed) : List Int := if x.kind = 1 then [x.file, x.lev, x.cnt] else if x.kind = 3 then [x.file, x.lev] else [x.file]
def offsOf (x : Ed) : List Nat := if x.kind = 1 then [1, 2, 3] else if x.kind = 3 then [1, 2] else [1]
def textsOf (x : Ed) : List (List UInt8) := if x.kind = 1 then [x.low, x.high] else []
def toffsOf (x : Ed) : List Nat := if x.kind = 1 then [4, 5] else []
def edB (x : Ed) : List UInt8 := whole x.kind ++ wholes (numsOf x) ++ textsB (textsOf x)
/-- An edit whose numbers are int's. -/
def Ed.Fits (x : Ed) : Prop := (-9223372036854775808 ≤ x.kind ∧ x.kind ≤ 9223372036854775807) ∧ (-9223372036854775808 ≤ x.file ∧ x.file ≤ 9223372036854775807) ∧ (-9223372036854775808 ≤ x.lev ∧ x.lev ≤ 9223372036854775807) ∧ (-9223372036854775808 ≤ x.cnt ∧ x.cnt ≤ 9223372036854775807)
def EdAt (eb : Nat) (x : Ed) (w : World) : Prop := w.heap[eb]? = some (.cells #[.int .i64 x.kind, .int .i64 x.file, .int .i64 x.lev, .int .i64 x.cnt, .string (bs x.low), .string (bs x.high)] 47 (0, 0))
theorem offs_at {x : Ed} {eb : Nat} {w : World} (h : EdAt eb x w) : (numsOf x).length = (offsOf x).length ∧ ∀ (i o : Nat), (offsOf x)[i]? = some o → ∃ v, (numsOf x)[i]? = some v ∧ w.cell? ⟨eb, o, none⟩ = some (.int .i64 v) := by
  unfold EdAt at h
  unfold numsOf offsOf
  by_cases h1 : x.kind = 1
  · rw [if_pos h1, if_pos h1]
    refine ⟨rfl, fun i o ho => ?_⟩
    match i, ho with
    | 0, ho => cases ho; exact ⟨_, rfl, by simp [World.cell?, h]⟩
    | 1, ho => cases ho; exact ⟨_, rfl, by simp [World.cell?, h]⟩
    | 2, ho => cases ho; exact ⟨_, rfl, by simp [World.cell?, h]⟩
    | n + 3, ho => cases ho
  · rw [if_neg h1, if_neg h1]
    by_cases h3 : x.kind = 3
    · rw [if_pos h3, if_pos h3]
      refine ⟨rfl, fun i o ho => ?_⟩
      match i, ho with
      | 0, ho => cases ho; exact ⟨_, rfl, by simp [World.cell?, h]⟩
      | 1, ho => cases ho; exact ⟨_, rfl, by simp [World.cell?, h]⟩
      | n + 2, ho => cases ho
    · rw [if_neg h3, if_neg h3]
      refine ⟨rfl, fun i o ho => ?_⟩
      match i, ho with
      | 0, ho => cases ho; exact ⟨_, rfl, by simp [World.cell?, h]⟩
      | n + 1, ho => cases ho
theorem toffs_at {x : Ed} {eb : Nat} {w : World} (h : EdAt eb x w) : (textsOf x).length = (toffsOf x).length ∧ ∀ (i o : Nat), (toffsOf x)[i]? = some o → ∃ v, (textsOf x)[i]? = some v ∧ w.cell? ⟨eb, o, none⟩ = some (.string (bs v)) := by
  unfold EdAt at h
  unfold textsOf toffsOf
  by_cases h1 : x.kind = 1
  · rw [if_pos h1, if_pos h1]
    refine ⟨rfl, fun i o ho => ?_⟩
    match i, ho with
    | 0, ho => cases ho; exact ⟨_, rfl, by simp [World.cell?, h]⟩
    | 1, ho => cases ho; exact ⟨_, rfl, by simp [World.cell?, h]⟩
    | n + 2, ho => cases ho
  · rw [if_neg h1, if_neg h1]
    exact ⟨rfl, fun i o ho => by cases ho⟩
theorem numsOf_fit {x : Ed} (h : x.Fits) : ∀ v ∈ numsOf x, -9223372036854775808 ≤ v ∧ v ≤ 9223372036854775807 := by
  obtain ⟨h1, h2, h3, h4⟩ := h
  unfold numsOf
  intro v hv
  split at hv
  · simp at hv; rcases hv with rfl | rfl | rfl <;> assumption
  · split at hv
    · simp at hv; rcases hv with rfl | rfl <;> assumption
    · simp at hv; subst hv; assumption
theorem offs_len (x : Ed) : (offsOf x).length ≤ 3 ∧ (toffsOf x).length ≤ 2 := by
  unfold offsOf toffsOf
  constructor
  · split
    · simp
    · split <;> simp
  · split <;> simp
theorem numbers_all (eb : Nat) (x : Ed) (w : World) (h : EdAt eb x w) : Calls Tryz.prog 110 #[.pointer (some ⟨eb, 0, none⟩)] w (PtrPost eb (offsOf x) 183 w) := by
  unfold offsOf
  by_cases h1 : x.kind = 1
  · rw [if_pos h1]; exact numbers_1 eb x w h h1
  · rw [if_neg h1]
    by_cases h3 : x.kind = 3
    · rw [if_pos h3]; exact numbers_3 eb x w h h3
    · rw [if_neg h3]; exact numbers_0 eb x w h h1 h3
/-- A row of pointers, or nil. -/
def PtrNil (eb : Nat) (offs : List Nat) (ty : TypeId) (w : World) (e : Ending) (w' : World) : Prop :=
  ∃ a, e = .returned (.slice a offs.length offs.length) ∧ (offs.length = 0 ∨ ∃ nb, a = some ⟨nb, 0, none⟩ ∧ w.heap.size ≤ nb ∧ w'.heap[nb]? = some (.cells (offs.map fun o => Value.pointer (some ⟨eb, o, none⟩)).toArray ty (0, 0))) ∧ Below w.heap.size w w'
theorem texts_all (eb : Nat) (x : Ed) (w : World) (h : EdAt eb x w) : Calls Tryz.prog 111 #[.pointer (some ⟨eb, 0, none⟩)] w (PtrNil eb (toffsOf x) 186 w) := by
  unfold toffsOf
  by_cases h1 : x.kind = 1
  · rw [if_pos h1]
    refine (texts_1 eb x w h h1).mono ?_
    rintro e w' ⟨nb, rfl, h2, h3, h4⟩
    exact ⟨_, rfl, .inr ⟨nb, rfl, h2, h3⟩, h4⟩
  · rw [if_neg h1]
    refine (texts_0 eb x w h h1).mono ?_
    rintro e w' ⟨rfl, rfl⟩
    exact ⟨none, rfl, .inl rfl, Below.refl _ _⟩
theorem wb_below {B b : Nat} {w w1 w2 : World} (h : Wb B b w w1) (k : Below w1.heap.size w1 w2) (hB : B ≤ w1.heap.size) : Wb B b w w2 :=
  h.grown (row := none) ⟨k.os, k.tape, k.output, k.size, fun j hj _ => k.block j hj⟩ hB (fun _ e => by cases e) (fun _ e => by cases e)

set_option maxHeartbeats 4000000 in
theorem put_edit (B b : Nat) (l : List UInt8) (x : Ed) (w : World) (h : Wt B b l w) (hx : Hid x.Fits) (hlo : x.low.length ≤ 1000000000) (hhi : x.high.length ≤ 1000000000) (hl : l.length ≤ 100000000000000) (hBw : B ≤ w.heap.size) (hbw : b < w.heap.size) :
    Calls Tryz.prog 57 #[.pointer (some ⟨b, 0, none⟩), .agg #[.int .i64 x.kind, .int .i64 x.file, .int .i64 x.lev, .int .i64 x.cnt, .string (bs x.low), .string (bs x.high)]] w fun e w' => e = .returned (.tuple #[]) ∧ Wt B b (l ++ edB x) w' ∧ Wb B b w w' := by
  obtain ⟨w1, hw1⟩ : ∃ w1, w.alloc (.cells #[.int .i64 x.kind, .int .i64 x.file, .int .i64 x.lev, .int .i64 x.cnt, .string (bs x.low), .string (bs x.high)] 47) = w1 := ⟨_, rfl⟩
  obtain ⟨eb, heb⟩ : ∃ eb, eb = w.heap.size := ⟨_, rfl⟩
  have E1 := Lib.hid (show EdAt eb x w1 by rw [← hw1, heb]; exact heap_new w _)
  have W1 := Lib.hid (show Wt B b l w1 by rw [← hw1]; exact h.alloc _)
  have K1 := Lib.hid (show Wb B b w w1 by rw [← hw1]; exact (Wb.refl B b w).alloc hBw _)
  have HW1 := Lib.hid hw1
  have HEB := Lib.hid heb
  have hne : eb ≠ b := by omega
  have HNE := Lib.hid hne
  have c0 : w1.cell? ⟨eb, 0, none⟩ = some (.int .i64 x.kind) := by have := E1.out; unfold EdAt at this; simp [World.cell?, this]
  obtain ⟨n, hn⟩ : ∃ n, n = (offsOf x).length := ⟨_, rfl⟩
  obtain ⟨m, hm⟩ : ∃ m, m = (toffsOf x).length := ⟨_, rfl⟩
  have HN := Lib.hid (And.intro hn hm)
  have hn3 : n ≤ 3 := by have := (offs_len x).1; omega
  have hm3 : m ≤ 2 := by have := (offs_len x).2; omega
  have HH := Lib.hid h
  clear hw1 heb hn hm hne h
  go_enter Tryz.func57, Tryz.ntmps57
  go_upto_region 1 with (fail)
  rw [HW1.out, ← HEB.out]
  go_wp2_with fail
  refine (six_WholeO B b l x.kind w1 W1.out hx.out.1.1 hx.out.1.2 (by omega)).mono ?_
  rintro e w2 ⟨rfl, h2, k2⟩
  have W2 := Lib.hid h2
  have K2 := Lib.hid (K1.out.trans k2)
  have E2 := Lib.hid (show EdAt eb x w2 from k2.keeps E1.out HNE.out (by decide))
  have hBw2 := Lib.hid (show B ≤ w2.heap.size from Nat.le_trans hBw K2.out.size)
  clear h2 k2 c0
  go_wp2_with fail
  refine (numbers_all eb x w2 E2.out).mono ?_
  rintro e w3 ⟨nb, rfl, hnb, hrow, k3⟩
  rw [← HN.out.1]
  have W3 := Lib.hid (show Wt B b (l ++ whole x.kind) w3 from W2.out.keep k3)
  have K3 := Lib.hid (wb_below K2.out k3 hBw2.out)
  have E3 := Lib.hid (show EdAt eb x w3 from (k3.block eb (heap_lt E2.out)).trans E2.out)
  have R3 := Lib.hid hrow
  have HNB := Lib.hid (show nb ≠ b ∧ nb ≠ eb from ⟨by have := W2.out.lt; omega, by have := heap_lt E2.out; omega⟩)
  have hwk := Lib.hid (show (whole x.kind).length ≤ 11 from (whole_len hx.out.1.1 hx.out.1.2).1)
  clear hnb hrow k3
  go_wp2_with fail
  go_loopw [14] (fun iv wr => ∃ i : Nat, i ≤ n ∧ iv = .int .i64 (i : Int) ∧ Hid (Wt B b (l ++ whole x.kind ++ wholes ((numsOf x).take i)) wr) ∧ Hid ((wholes ((numsOf x).take i)).length ≤ 11 * i) ∧ Hid (Wb B b w wr) ∧ Hid (EdAt eb x wr) ∧ Hid (wr.heap[nb]? = some (.cells ((offsOf x).map fun o => Value.pointer (some ⟨eb, o, none⟩)).toArray 183 (0, 0)))) (fun iv wr => n - (intOf iv).toNat)
  case atStart => exact ⟨0, Nat.zero_le _, rfl, Lib.hid (by simpa [wholes] using W3.out), Lib.hid (by simp [wholes]), K3, E3, R3⟩
  case round =>
    obtain ⟨i, hi, rfl, hW, hLn, hK, hE, hR⟩ := hrel
    by_cases hlt : i < n
    · have hlt' : (i : Int) < (n : Int) := by omega
      obtain ⟨o, ho⟩ : ∃ o, (offsOf x)[i]? = some o := ⟨_, List.getElem?_eq_getElem (by have := HN.out.1; omega)⟩
      obtain ⟨v, hv, hc⟩ := (offs_at hE.out).2 i o ho
      have y0 : wr.cell? ⟨nb, i, none⟩ = some (.pointer (some ⟨eb, o, none⟩)) := by
        have := hR.out
        simp [World.cell?, this, ho]
      have HV := Lib.hid (show -9223372036854775808 ≤ v ∧ v ≤ 9223372036854775807 from numsOf_fit hx.out v (List.mem_of_getElem? hv))
      have HNX := Lib.hid (show wholes ((numsOf x).take (i + 1)) = wholes ((numsOf x).take i) ++ whole v by rw [List.take_add_one, hv]; exact wholes_snoc _ v)
      have hvl := Lib.hid (show (whole v).length ≤ 11 from (whole_len HV.out.1 HV.out.2).1)
      clear ho hv
      go_wp2_with fail
      refine (six_WholeO B b _ v wr hW.out HV.out.1 HV.out.2 (by rw [List.length_append, List.length_append]; have := hLn.out; have := hwk.out; omega)).mono ?_
      rintro e w5 ⟨rfl, h5, k5⟩
      have W5 := Lib.hid (show Wt B b (l ++ whole x.kind ++ wholes ((numsOf x).take (i + 1))) w5 by rw [HNX.out, ← List.append_assoc]; exact h5)
      have L5 := Lib.hid (show (wholes ((numsOf x).take (i + 1))).length ≤ 11 * (i + 1) by rw [HNX.out, List.length_append]; have := hLn.out; have := hvl.out; omega)
      have K5 := Lib.hid (hK.out.trans k5)
      have E5 := Lib.hid (show EdAt eb x w5 from k5.keeps hE.out HNE.out (by decide))
      have R5 := Lib.hid (k5.keeps hR.out HNB.out.1 (by decide))
      clear h5 k5 y0 hc
      go_wp2_with fail
      go_roundw
      case rel => exact ⟨i + 1, hlt, by go_num, W5, L5, K5, E5, R5⟩
      case measure => simp [intOf]; omega
    · obtain rfl : i = n := by omega
      have HALL := Lib.hid (show (numsOf x).take i = numsOf x from List.take_of_length_le (by have := (offs_at hE.out).1; have := HN.out.1; omega))
      rw [HALL.out] at hW hLn
      obtain ⟨PRE, hPRE⟩ : ∃ PRE, PRE = l ++ whole x.kind ++ wholes (numsOf x) := ⟨_, rfl⟩
      rw [← hPRE] at hW
      have HP := Lib.hid hPRE
      have hpl : PRE.length ≤ 100000000000100 := by
        rw [hPRE, List.length_append, List.length_append]
        have := hLn.out; have := hwk.out
        omega
      have hBr := Lib.hid (show B ≤ wr.heap.size from Nat.le_trans hBw hK.out.size)
      obtain ⟨wo, hwo⟩ : ∃ wo, wo = wr := ⟨_, rfl⟩
      subst hwo
      clear hPRE hR
      go_wp2_with fail
      refine (texts_all eb x wo hE.out).mono ?_
      rintro e w6 ⟨ta, rfl, hrow, k6⟩
      rw [← HN.out.2] at hrow ⊢
      have W6 := Lib.hid (hW.out.keep k6)
      have K6 := Lib.hid (wb_below hK.out k6 hBr.out)
      have E6 := Lib.hid (show EdAt eb x w6 from (k6.block eb (heap_lt hE.out)).trans hE.out)
      have R6 := Lib.hid (show m = 0 ∨ ∃ tb, ta = some ⟨tb, 0, none⟩ ∧ tb ≠ b ∧ w6.heap[tb]? = some (.cells ((toffsOf x).map fun o => Value.pointer (some ⟨eb, o, none⟩)).toArray 186 (0, 0)) from by
        rcases hrow with h0 | ⟨tb, h1, h2, h3⟩
        · exact .inl h0
        · exact .inr ⟨tb, h1, by have := hW.out.lt; omega, h3⟩)
      clear hrow k6 hW hK hE
      go_wp2_with fail
      go_loopw [26] (fun iv wq => ∃ j : Nat, j ≤ m ∧ iv = .int .i64 (j : Int) ∧ Hid (Wt B b (PRE ++ textsB ((textsOf x).take j)) wq) ∧ Hid ((textsB ((textsOf x).take j)).length ≤ 1000000011 * j) ∧ Hid (Wb B b w wq) ∧ Hid (EdAt eb x wq) ∧ Hid (m = 0 ∨ ∃ tb, ta = some ⟨tb, 0, none⟩ ∧ tb ≠ b ∧ wq.heap[tb]? = some (.cells ((toffsOf x).map fun o => Value.pointer (some ⟨eb, o, none⟩)).toArray 186 (0, 0)))) (fun iv wq => m - (intOf iv).toNat)
      case atStart => exact ⟨0, Nat.zero_le _, rfl, Lib.hid (by simpa [textsB] using W6.out), Lib.hid (by simp [textsB]), K6, E6, R6⟩
      case round =>
        obtain ⟨j, hj, rfl, hW, hLn, hK, hE, hR⟩ := hrel
        by_cases hlt : j < m
        · have hlt' : (j : Int) < (m : Int) := by omega
          obtain ⟨o, ho⟩ : ∃ o, (toffsOf x)[j]? = some o := ⟨_, List.getElem?_eq_getElem (by have := HN.out.2; omega)⟩
          obtain ⟨v, hv, hc⟩ := (toffs_at hE.out).2 j o ho
          obtain ⟨tb, rfl, htb, hrow⟩ := hR.out.resolve_left (by omega)
          have y0 : wr.cell? ⟨tb, j, none⟩ = some (.pointer (some ⟨eb, o, none⟩)) := by simp [World.cell?, hrow, ho]
          have HV := Lib.hid (show v.length ≤ 1000000000 by
            have hm := List.mem_of_getElem? hv
            unfold textsOf at hm
            split at hm
            · simp at hm; rcases hm with rfl | rfl <;> assumption
            · cases hm)
          have HNX := Lib.hid (show textsB ((textsOf x).take (j + 1)) = textsB ((textsOf x).take j) ++ text v by rw [List.take_add_one, hv]; exact textsB_snoc _ v)
          have hvl := Lib.hid (show (text v).length ≤ 1000000011 by
            have := (whole_len (n := (v.length : Int)) (by have := HV.out; omega) (by have := HV.out; omega)).1
            rw [text, List.length_append]
            have := HV.out
            omega)
          have HTB := Lib.hid htb
          have HRW := Lib.hid hrow
          clear ho hv hrow htb hR
          go_wp2_with fail
          refine (six_TextO B b _ (bs v) wr hW.out (by rw [bs_size, List.length_append]; have := hLn.out; have := HV.out; omega)).mono ?_
          rintro e w7 ⟨rfl, h7, k7⟩
          rw [bs_list] at h7
          have W7 := Lib.hid (show Wt B b (PRE ++ textsB ((textsOf x).take (j + 1))) w7 by rw [HNX.out, ← List.append_assoc]; exact h7)
          have L7 := Lib.hid (show (textsB ((textsOf x).take (j + 1))).length ≤ 1000000011 * (j + 1) by rw [HNX.out, List.length_append]; have := hLn.out; have := hvl.out; omega)
          have K7 := Lib.hid (hK.out.trans k7)
          have E7 := Lib.hid (show EdAt eb x w7 from k7.keeps hE.out HNE.out (by decide))
          have R7 := Lib.hid (k7.keeps HRW.out HTB.out (by decide))
          clear h7 k7 y0 hc
          go_wp2_with fail
          go_roundw
          case rel => exact ⟨j + 1, hlt, by go_num, W7, L7, K7, E7, Lib.hid (.inr ⟨tb, rfl, HTB.out, R7.out⟩)⟩
          case measure => simp [intOf]; omega
        · obtain rfl : j = m := by omega
          have HEND := Lib.hid (show Wt B b (l ++ edB x) wr by
            have h1 := hW.out
            rw [List.take_of_length_le (by have := (toffs_at hE.out).1; have := HN.out.2; omega), HP.out] at h1
            unfold edB
            simpa [List.append_assoc] using h1)
          go_wp2
          go_end0
          exact ⟨rfl, HEND.out, hK.out⟩
end Go.Proofs.YtfbaenhajlckjaaGreat
/- Edits' bytes. -/
set_option linter.unusedVariables false
set_option maxRecDepth 100000
namespace Go.Proofs.YtfbaenhajlckjaaGreat
open Go.RowKit

def edsB (L : List Ed) : List UInt8 := L.flatMap edB
def packL (L : List Ed) : List UInt8 := whole (L.length : Int) ++ edsB L
theorem edsB_snoc {L : List Ed} {i : Nat} {x : Ed} (h : L[i]? = some x) : edsB (L.take (i + 1)) = edsB (L.take i) ++ edB x := by
  rw [List.take_add_one, h]; simp [edsB]
theorem edsB_take (L : List Ed) (i : Nat) : (edsB (L.take i)).length ≤ (edsB L).length := by
  conv => rhs; rw [← List.take_append_drop i L]
  unfold edsB
  rw [List.flatMap_append, List.length_append]
  omega
/-- Edits of sizes that are packed. -/
def EdsFit (L : List Ed) : Prop := ∀ x ∈ L, x.Fits ∧ x.low.length ≤ 1000000000 ∧ x.high.length ≤ 1000000000
set_option maxHeartbeats 4000000 in
theorem put_edits (B b : Nat) {a : Option Addr} {n cap : Nat} {L : List Ed} {w : World} (h : Wt B b [] w) (he : Hid (RdX (fun c => c < B) w (.slice a n cap) n (flat ecell L))) (hL : Hid (n = L.length)) (hn : n ≤ 1000000000) (hf : Hid (EdsFit L)) (hsz : Hid ((packL L).length ≤ 100000000000000)) (hBw : Hid (B ≤ w.heap.size)) :
    Calls Tryz.prog 56 #[.pointer (some ⟨b, 0, none⟩), .slice a n cap, .func (.func 57) #[] #[]] w fun e w' => e = .returned (.int .i64 0) ∧ Wt B b (packL L) w' ∧ Below B w w' := by
  have hfn : ∀ w : World, (binOp .eql 113 (.func (.func 57) #[] #[]) .nilFunc).run Tryz.prog w = .ok (.bool false) w := fun _ => by kernel_rfl
  have HW := Lib.hid h
  clear h
  go_enter Tryz.func56, Tryz.ntmps56
  go_wp2_with fail
  refine (six_CountO B b [] n w HW.out (by omega) (by simp)).mono ?_
  rintro e w2 ⟨rfl, h2, k2⟩
  rw [List.nil_append] at h2
  have H2 := Lib.hid h2
  have K2 := Lib.hid k2.bel
  clear h2 k2
  go_wp2_with fail
  go_loopw [21] (fun iv wr => ∃ i : Nat, i ≤ n ∧ iv = .int .i64 (i : Int) ∧ Hid (Wt B b (whole (n : Int) ++ edsB (L.take i)) wr) ∧ Hid (Below B w wr)) (fun iv wr => n - (intOf iv).toNat)
  case atStart => exact ⟨0, Nat.zero_le _, rfl, Lib.hid (by simpa [edsB] using H2.out), K2⟩
  case round =>
    obtain ⟨i, hi, rfl, hW, hK⟩ := hrel
    by_cases hlt : i < n
    · have hlt' : (i : Int) < (n : Int) := by omega
      obtain ⟨x, hx⟩ : ∃ x, L[i]? = some x := ⟨_, List.getElem?_eq_getElem (by have := hL.out; omega)⟩
      obtain ⟨c, off, rfl, ht, hb2, hc⟩ := RdX.atE he.out hx hlt
      have hcr : ∀ i' u, (ecell x)[i']? = some u → wr.cell? ⟨c, off + i * 6 + i', none⟩ = some u := fun i' u hu => by
        rw [← hc i' u hu]
        simp only [World.cell?, hK.out.block c ht]
      have y0 : wr.cell? ⟨c, off + i * 6, none⟩ = _ := hcr 0 _ rfl
      have y1 := hcr 1 _ rfl
      have y2 := hcr 2 _ rfl
      have y3 := hcr 3 _ rfl
      have y4 := hcr 4 _ rfl
      have y5 := hcr 5 _ rfl
      obtain ⟨w1, hw1⟩ : ∃ w1, w1 = wr.alloc (.cells #[.int .i64 x.kind, .int .i64 x.file, .int .i64 x.lev, .int .i64 x.cnt, .string (bs x.low), .string (bs x.high)] 47) := ⟨_, rfl⟩
      have hBr : B ≤ wr.heap.size := Nat.le_trans hBw.out hK.out.size
      have W1 := Lib.hid (show Wt B b (whole (n : Int) ++ edsB (L.take i)) w1 by rw [hw1]; exact hW.out.alloc _)
      have K1 := Lib.hid (show Below B w w1 by rw [hw1]; exact hK.out.alloc hBr _)
      have hfx := hf.out x (List.mem_of_getElem? hx)
      have HLEN := Lib.hid (show (whole (n : Int) ++ edsB (L.take i)).length ≤ 100000000000000 by
        have := hsz.out
        have := edsB_take L i
        unfold packL at *
        rw [← hL.out] at *
        simp only [List.length_append] at *
        omega)
      have HNX := Lib.hid (edsB_snoc hx)
      have HP := Lib.hid (put_edit B b _ x w1 W1.out (Lib.hid hfx.1) hfx.2.1 hfx.2.2 HLEN.out (Nat.le_trans hBw.out K1.out.size) W1.out.lt)
      rw [hw1] at HP
      have HW1 := Lib.hid hw1
      clear hcr hc hx hfx hw1
      go_wp2_with fail
      refine HP.out.mono ?_
      rintro e w5 ⟨rfl, h5, k5⟩
      rw [← HW1.out] at k5
      have W5 := Lib.hid (show Wt B b (whole (n : Int) ++ edsB (L.take (i + 1))) w5 by rw [HNX.out, ← List.append_assoc]; exact h5)
      have K5 := Lib.hid (K1.out.trans k5.bel)
      clear h5 k5
      go_wp2_with fail
      go_roundw
      case rel => exact ⟨i + 1, hlt, by go_num, W5, K5⟩
      case measure => simp [intOf]; omega
    · obtain rfl : i = n := by omega
      have HEND := Lib.hid (show Wt B b (packL L) wr by
        have h1 := hW.out
        rw [List.take_of_length_le (by have := hL.out; omega), hL.out] at h1
        exact h1)
      go_wp2
      go_ret
      exact ⟨rfl, HEND.out, hK.out⟩
set_option maxHeartbeats 1000000 in
theorem man_Pack {a : Option Addr} {n cap : Nat} {L : List Ed} {w : World} (he : Hid (RdX (fun c => c < w.heap.size) w (.slice a n cap) n (flat ecell L))) (hL : Hid (n = L.length)) (hn : n ≤ 1000000000) (hf : Hid (EdsFit L)) (hsz : Hid ((packL L).length ≤ 100000000000000)) :
    Calls Tryz.prog 21 #[.slice a n cap] w fun e w' => e = .returned (.string (bs (packL L))) ∧ Below w.heap.size w w' := by
  obtain ⟨B, hB⟩ : ∃ B, B = w.heap.size := ⟨_, rfl⟩
  have HB := Lib.hid hB
  have HE := Lib.hid (show RdX (fun c => c < B) w (.slice a n cap) n (flat ecell L) by rw [hB]; exact he.out)
  rw [← hB]
  clear hB
  go_enter Tryz.func21, Tryz.ntmps21
  go_wp2_with fail
  refine (six_New w).mono ?_
  rintro e w1 ⟨rfl, h1⟩
  have W1 : Hid (Wt B B [] w1) := Lib.hid (by rw [← h1, HB.out]; exact wt_new w)
  have K1 : Hid (Below B w w1) := Lib.hid (by rw [← h1, HB.out]; exact (Below.refl _ _).alloc (Nat.le_refl _) _)
  rw [← HB.out]
  have HE1 := Lib.hid (HE.out.below (HB.out ▸ K1.out))
  have HP := Lib.hid (put_edits B B W1.out HE1 hL hn hf hsz (Lib.hid (by have := K1.out.size; have := HB.out; omega)))
  clear h1
  go_wp2_with fail
  refine HP.out.mono ?_
  rintro e w2 ⟨rfl, h2, k2⟩
  have W2 := Lib.hid h2
  have K2 := Lib.hid (K1.out.trans k2)
  clear h2 k2
  go_wp2_with fail
  refine (six_Bytes B B _ w2 W2.out).mono ?_
  rintro e w3 ⟨rfl, h3, k3, _⟩
  have K3 := Lib.hid (K2.out.trans k3)
  clear h3 k3
  go_wp2
  go_ret
  exact ⟨rfl, K3.out⟩
end Go.Proofs.YtfbaenhajlckjaaGreat
/- A nil book, and a disk that is none. -/
set_option linter.unusedVariables false
set_option maxRecDepth 100000
namespace Go.Proofs.YtfbaenhajlckjaaGreat
open Go.RowKit

theorem book_nil_File (w : World) : Calls Tryz.prog 42 #[.pointer none] w fun e w' => e = .returned (.int .i64 0) ∧ w = w' := by
  go_enter Tryz.func42, Tryz.ntmps42
  go_wp2
  go_ret
  exact ⟨rfl, rfl⟩
theorem book_nil_Lay (w : World) : Calls Tryz.prog 43 #[.pointer none] w fun e w' => e = .returned (.int .i64 1) ∧ w = w' := by
  go_enter Tryz.func43, Tryz.ntmps43
  go_wp2
  go_ret
  exact ⟨rfl, rfl⟩
theorem book_nil_Sync (w : World) : Calls Tryz.prog 44 #[.pointer none] w fun e w' => e = .returned (.int .i64 1) ∧ w = w' := by
  go_enter Tryz.func44, Tryz.ntmps44
  go_wp2
  go_ret
  exact ⟨rfl, rfl⟩
theorem book_nil_Point (w : World) : Calls Tryz.prog 45 #[.pointer none] w fun e w' => e = .returned (.int .i64 1) ∧ w = w' := by
  go_enter Tryz.func45, Tryz.ntmps45
  go_wp2
  go_ret
  exact ⟨rfl, rfl⟩
theorem book_nil_Undo (w : World) : Calls Tryz.prog 38 #[.pointer none] w fun e w' => e = .returned (.tuple #[]) ∧ w = w' := by
  go_enter Tryz.func38, Tryz.ntmps38
  go_wp2
  refine bodyPost_ret (results_none rfl _ _ _) rfl ?_
  exact ⟨rfl, rfl⟩
theorem book_nil_Note (a : Option Addr) (n cap : Nat) (w : World) : Calls Tryz.prog 37 #[.pointer none, .slice a n cap] w fun e w' => e = .returned (.int .i64 1) ∧ Below w.heap.size w w' := by
  go_enter Tryz.func37, Tryz.ntmps37
  go_wp2
  go_ret
  refine ⟨rfl, ?_⟩
  first | exact Below.refl _ _ | exact (Below.refl _ _).alloc (Nat.le_refl _) _ | exact ((Below.refl _ _).alloc (Nat.le_refl _) _).alloc (Nat.le_refl _) _
theorem zero_box (w : World) : C4 w.heap.size (.slice none 0 0) (.slice none 0 0) (.slice none 0 0) (.int .i64 0) (w.alloc (.cells #[.slice none 0 0, .slice none 0 0, .slice none 0 0, .int .i64 0] 29)) := heap_new w _
theorem book_nil_State (w : World) : Calls Tryz.prog 46 #[.pointer none] w fun e w' => e = .returned (.agg #[.slice none 0 0, .slice none 0 0, .slice none 0 0, .int .i64 0]) ∧ Below w.heap.size w w' := by
  obtain ⟨B, hB⟩ : ∃ B, B = w.heap.size := ⟨_, rfl⟩
  rw [← hB]
  have HB := Lib.hid hB
  obtain ⟨w1, hw1⟩ : ∃ w1, w.alloc (.cells #[.slice none 0 0, .slice none 0 0, .slice none 0 0, .int .i64 0] 29) = w1 := ⟨_, rfl⟩
  have K1 := Lib.hid (show Below B w w1 by rw [← hw1, hB]; exact (Below.refl _ _).alloc (Nat.le_refl _) _)
  have R1 := Lib.hid (show C4 B _ _ _ _ w1 by rw [← hw1, hB]; exact zero_box w)
  have HW1 := Lib.hid hw1
  clear hw1 hB
  have gr := R1.out.free
  obtain ⟨r0, r1, r2, r3⟩ := R1.out.c0
  go_enter Tryz.func46, Tryz.ntmps46
  go_upto_region 1 with (fail)
  rw [HW1.out, ← HB.out]
  go_wp2
  have KE := Lib.hid (below_put4 K1.out (Nat.le_refl B) (.slice none 0 0) (.slice none 0 0) (.slice none 0 0) (.int .i64 0))
  refine bodyPost_ret (results_st rfl _ _ B _ _ _ _ rfl (R1.out.put _ _ _ _)) rfl ?_
  exact ⟨rfl, KE.out⟩
set_option maxHeartbeats 1000000 in
theorem man_Load_nil (w : World) : Calls Tryz.prog 28 #[.pointer none] w fun e w' => e = .returned (.tuple #[.agg #[.slice none 0 0, .slice none 0 0, .slice none 0 0, .int .i64 0], .int .i64 8]) ∧ Below w.heap.size w w' := by
  obtain ⟨B, hB⟩ : ∃ B, B = w.heap.size := ⟨_, rfl⟩
  rw [← hB]
  have HB := Lib.hid hB
  obtain ⟨w1, hw1⟩ : ∃ w1, w.alloc (.cells #[.slice none 0 0, .slice none 0 0, .slice none 0 0, .int .i64 0] 29) = w1 := ⟨_, rfl⟩
  have K1 := Lib.hid (show Below B w w1 by rw [← hw1, hB]; exact (Below.refl _ _).alloc (Nat.le_refl _) _)
  have R1 := Lib.hid (show C4 B _ _ _ _ w1 by rw [← hw1, hB]; exact zero_box w)
  have HW1 := Lib.hid hw1
  clear hw1 hB
  go_enter Tryz.func28, Tryz.ntmps28
  go_upto_region 1 with (fail)
  rw [HW1.out, ← HB.out]
  go_wp2_with fail
  refine (disk_Root_nil w1).mono ?_
  rintro e w2 ⟨rfl, rfl⟩
  go_wp2_with fail
  refine (wal_Replay_nil 0 w1).mono ?_
  rintro e w2 ⟨rfl, k2⟩
  have R2 := Lib.hid (R1.out.below k2)
  have K2 := Lib.hid (K1.out.trans (k2.mono (Nat.le_of_lt (heap_lt R1.out))))
  clear k2
  have gr := R2.out.free
  obtain ⟨r0, r1, r2, r3⟩ := R2.out.c0
  go_wp2
  have KE := Lib.hid (below_put4 K2.out (Nat.le_refl B) (.slice none 0 0) (.slice none 0 0) (.slice none 0 0) (.int .i64 0))
  refine bodyPost_ret (results_st2 rfl _ _ B _ _ _ _ _ rfl rfl (R2.out.put _ _ _ _)) rfl ?_
  exact ⟨rfl, KE.out⟩
set_option maxHeartbeats 1000000 in
theorem man_Whole_zero (w : World) : Calls Tryz.prog 20 #[.agg #[.slice none 0 0, .slice none 0 0, .slice none 0 0, .int .i64 0]] w fun e w' => e = .returned (.slice none 0 0) ∧ Below w.heap.size w w' := by
  obtain ⟨B, hB⟩ : ∃ B, B = w.heap.size := ⟨_, rfl⟩
  rw [← hB]
  have HB := Lib.hid hB
  obtain ⟨w1, hw1⟩ : ∃ w1, w.alloc (.cells #[.slice none 0 0, .slice none 0 0, .slice none 0 0, .int .i64 0] 29) = w1 := ⟨_, rfl⟩
  have K1 := Lib.hid (show Below B w w1 by rw [← hw1, hB]; exact (Below.refl _ _).alloc (Nat.le_refl _) _)
  have R1 := Lib.hid (show C4 B _ _ _ _ w1 by rw [← hw1, hB]; exact zero_box w)
  have HW1 := Lib.hid hw1
  clear hw1 hB
  obtain ⟨r0, r1, r2, r3⟩ := R1.out.c0
  go_enter Tryz.func20, Tryz.ntmps20
  go_upto_region 1 with (fail)
  rw [HW1.out, ← HB.out]
  go_wp2_with fail
  go_loopw [3, 22] (fun v iv wr => v = .slice none 0 0 ∧ iv = .int .i64 0 ∧ Hid (wr = w1)) (fun _ _ _ => 0)
  case atStart => exact ⟨rfl, rfl, Lib.hid rfl⟩
  case round =>
    obtain ⟨rfl, rfl, hw⟩ := hrel
    obtain rfl := hw.out
    go_wp2_with fail
    go_loopw [3, 35] (fun v iv wq => v = .slice none 0 0 ∧ iv = .int .i64 0 ∧ Hid (wq = wr)) (fun _ _ _ => 0)
    case atStart => exact ⟨rfl, rfl, Lib.hid rfl⟩
    case round =>
      obtain ⟨rfl, rfl, hw⟩ := hrel
      obtain rfl := hw.out
      go_wp2_with fail
      go_loopw [3, 51] (fun v iv wp => v = .slice none 0 0 ∧ iv = .int .i64 0 ∧ Hid (wp = wr)) (fun _ _ _ => 0)
      case atStart => exact ⟨rfl, rfl, Lib.hid rfl⟩
      case round =>
        obtain ⟨rfl, rfl, hw⟩ := hrel
        obtain rfl := hw.out
        go_wp2
        go_ret
        exact ⟨rfl, K1.out⟩
theorem packL_nil : (packL []).length ≤ 11 := by
  have h := (whole_len (n := (([] : List Ed).length : Int)) (by simp) (by simp)).1
  unfold packL edsB
  simp only [List.flatMap_nil, List.append_nil]
  exact h
set_option maxHeartbeats 1000000 in
theorem man_Begin_nil (n : Int) (w : World) : Calls Tryz.prog 41 #[.pointer none, .int .i64 n, .agg #[.slice none 0 0, .slice none 0 0, .slice none 0 0, .int .i64 0]] w fun e w' => e = .returned (.tuple #[.pointer none, .int .i64 8]) ∧ Below w.heap.size w w' := by
  obtain ⟨B, hB⟩ : ∃ B, B = w.heap.size := ⟨_, rfl⟩
  rw [← hB]
  have HB := Lib.hid hB
  obtain ⟨w1, hw1⟩ : ∃ w1, w.alloc (.cells #[.slice none 0 0, .slice none 0 0, .slice none 0 0, .int .i64 0] 29) = w1 := ⟨_, rfl⟩
  have K1 := Lib.hid (show Below B w w1 by rw [← hw1, hB]; exact (Below.refl _ _).alloc (Nat.le_refl _) _)
  have R1 := Lib.hid (show C4 B _ _ _ _ w1 by rw [← hw1, hB]; exact zero_box w)
  have HW1 := Lib.hid hw1
  have hB1 : Hid (B ≤ w1.heap.size) := Lib.hid (Nat.le_of_lt (heap_lt R1.out))
  clear hw1 hB
  obtain ⟨r0, r1, r2, r3⟩ := R1.out.c0
  go_enter Tryz.func41, Tryz.ntmps41
  go_upto_region 1 with (fail)
  rw [HW1.out, ← HB.out]
  go_wp2_with fail
  refine (man_Whole_zero w1).mono ?_
  rintro e w2 ⟨rfl, k2⟩
  have K2 := Lib.hid (K1.out.trans (k2.mono hB1.out))
  have hB2 : Hid (B ≤ w2.heap.size) := Lib.hid (Nat.le_trans hB1.out k2.size)
  clear k2 r0 r1 r2 r3
  have HP := Lib.hid (man_Pack (a := none) (n := 0) (cap := 0) (L := []) (w := w2) (Lib.hid ⟨⟨none, 0, rfl⟩, .inl rfl⟩) (Lib.hid rfl) (by omega) (Lib.hid fun x hx => by cases hx) (Lib.hid (by have := packL_nil; omega)))
  obtain ⟨s0, hs0⟩ : ∃ s0, s0 = bs (packL []) := ⟨_, rfl⟩
  have hz : (s0.size : Int) ≤ 1048576 := by rw [hs0, show (bs (packL [])).size = (packL []).length by simp [bs, ByteArray.size]]; have := packL_nil; omega
  rw [← hs0] at HP
  clear hs0
  go_wp2_with fail
  refine HP.out.mono ?_
  rintro e w3 ⟨rfl, k3⟩
  have K3 := Lib.hid (K2.out.trans (k3.mono hB2.out))
  clear k3
  go_wp2_with fail
  refine (wal_Begin_nil 0 n w3).mono ?_
  rintro e w4 ⟨rfl, rfl⟩
  go_wp2
  go_ret2
  exact ⟨rfl, K3.out⟩
end Go.Proofs.YtfbaenhajlckjaaGreat
/- The document's side: equal lists of numbers, states that are nothing. -/
set_option linter.unusedVariables false
set_option maxRecDepth 100000
namespace Go.Proofs.YtfbaenhajlckjaaGreat
open Go.RowKit

set_option maxHeartbeats 2000000 in
theorem same_ints {T T' : Nat → Prop} {va vb : Value} {L : List Int} {w : World} (ha : RdL T w va L.length (flat icell L)) (hb : RdL T' w vb L.length (flat icell L)) (hl : L.length ≤ 1000000000) :
    Calls Tryz.prog 17 #[va, vb] w fun e w' => e = .returned (.bool true) ∧ Below w.heap.size w w' := by
  obtain ⟨a, ca, rfl⟩ := RdL.slice ha
  obtain ⟨b, cb, rfl⟩ := RdL.slice hb
  have HA := Lib.hid ha
  have HB := Lib.hid hb
  obtain ⟨len, hlen⟩ : ∃ len, len = L.length := ⟨_, rfl⟩
  rw [← hlen] at HA HB hl ⊢
  have HL := Lib.hid hlen
  clear hlen ha hb
  go_enter Tryz.func17, Tryz.ntmps17
  go_wp2_with fail
  go_loopw [5] (fun i wr => ∃ k : Nat, k ≤ len ∧ i = .int .i64 k ∧ Hid (Below w.heap.size w wr)) (fun i wr => len - (intOf i).toNat)
  case atStart => exact ⟨0, Nat.zero_le _, rfl, Lib.hid (Below.refl _ _)⟩
  case round =>
    obtain ⟨k, hk, rfl, hK⟩ := hrel
    by_cases hlt : k < len
    · obtain ⟨t, ht⟩ : ∃ t, L[k]? = some t := ⟨_, List.getElem?_eq_getElem (by have := HL.out; omega)⟩
      obtain ⟨b0, off0, rfl, _, hb0, c0'⟩ := (HA.out.below hK.out).atI ht hlt
      obtain ⟨b1, off1, rfl, _, hb1, c1'⟩ := (HB.out.below hK.out).atI ht hlt
      have c0 := c0' 0 _ rfl
      have c1 := c1' 0 _ rfl
      simp only [Nat.mul_one, Nat.add_zero] at c0 c1
      have hlt2 : (k : Int) < (len : Int) := by omega
      clear ht c0' c1'
      go_wp2_with fail
      go_quiet (fail)
      go_wp2
      go_roundw
      case rel => exact ⟨k + 1, by omega, by go_num, Lib.hid (below_drewN hK.out _)⟩
      case measure => simp [intOf]; omega
    · go_wp2
      go_ret
      exact ⟨rfl, hK.out⟩
set_option maxHeartbeats 2000000 in
theorem same_zero (w : World) :
    Calls Tryz.prog 15 #[.agg #[.slice none 0 0, .slice none 0 0, .slice none 0 0, .int .i64 0], .agg #[.slice none 0 0, .slice none 0 0, .slice none 0 0, .int .i64 0]] w fun e w' => e = .returned (.bool true) ∧ Below w.heap.size w w' := by
  obtain ⟨B, hB⟩ : ∃ B, B = w.heap.size := ⟨_, rfl⟩
  rw [← hB]
  have HB := Lib.hid hB
  obtain ⟨w1, hw1⟩ : ∃ w1, (w.alloc (.cells #[.slice none 0 0, .slice none 0 0, .slice none 0 0, .int .i64 0] 29)).alloc (.cells #[.slice none 0 0, .slice none 0 0, .slice none 0 0, .int .i64 0] 29) = w1 := ⟨_, rfl⟩
  have K1 := Lib.hid (show Below B w w1 by rw [← hw1, hB]; exact ((Below.refl _ _).alloc (Nat.le_refl _) _).alloc (by simp) _)
  have X1 := Lib.hid (show C4 B _ _ _ _ w1 by rw [← hw1, hB]; exact (Below.heap_alloc _ _ _ (by simp)).trans (zero_box w))
  have R1 := Lib.hid (show C4 (B + 1) _ _ _ _ w1 by
    rw [← hw1, hB]
    have := zero_box (w.alloc (.cells #[.slice none 0 0, .slice none 0 0, .slice none 0 0, .int .i64 0] 29))
    rw [show (w.alloc (.cells #[.slice none 0 0, .slice none 0 0, .slice none 0 0, .int .i64 0] 29)).heap.size = w.heap.size + 1 by simp] at this
    exact this)
  have HW1 := Lib.hid hw1
  clear hw1 hB
  have hB1 : B ≤ w1.heap.size := Nat.le_of_lt (heap_lt X1.out)
  obtain ⟨x0, x1, x2, x3⟩ := X1.out.c0
  obtain ⟨r0, r1, r2, r3⟩ := R1.out.c0
  have HI := Lib.hid (same_ints (L := []) (w := w1) (zero_own w1 0).stv.logs (zero_own w1 0).stv.logs (by simp))
  go_enter Tryz.func15, Tryz.ntmps15
  go_upto_region 1 with (fail)
  rw [HW1.out, ← HB.out]
  go_wp2_with fail
  refine HI.out.mono ?_
  rintro e w2 ⟨rfl, k2⟩
  have X2 := Lib.hid (X1.out.below k2)
  have R2 := Lib.hid (R1.out.below k2)
  have K2 := Lib.hid (K1.out.trans (k2.mono hB1))
  clear k2 x0 x1 x2 x3 r0 r1 r2 r3 HI
  obtain ⟨x0, x1, x2, x3⟩ := X2.out.c0
  obtain ⟨r0, r1, r2, r3⟩ := R2.out.c0
  go_wp2_with fail
  go_loopw [5] (fun iv wr => iv = .int .i64 0 ∧ Hid (wr = w2)) (fun _ _ => 0)
  case atStart => exact ⟨rfl, Lib.hid rfl⟩
  case round =>
    obtain ⟨rfl, hw⟩ := hrel
    obtain rfl := hw.out
    go_wp2_with fail
    go_loopw [6] (fun iv wq => iv = .int .i64 0 ∧ Hid (wq = wr)) (fun _ _ => 0)
    case atStart => exact ⟨rfl, Lib.hid rfl⟩
    case round =>
      obtain ⟨rfl, hw⟩ := hrel
      obtain rfl := hw.out
      go_wp2
      go_ret
      exact ⟨rfl, K2.out⟩
end Go.Proofs.YtfbaenhajlckjaaGreat
