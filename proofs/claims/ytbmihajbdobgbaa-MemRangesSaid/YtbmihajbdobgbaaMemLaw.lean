/- Lists of pairs in memory; the laws' own look whether a map has just these pairs. -/
import Derived.Test.YtbmihajbdobgbaaMemWalkI
import Derived.Test.YtbmihajbdobgbaaMemGetI
import Derived.Laws.EntriesVeiled
set_option linter.unusedVariables false
set_option maxRecDepth 100000
namespace Go.Proofs.Ytbmihajbdobgbaa.MI
open Go.RowKit

abbrev PL := List (List UInt8 × Int)
/-- The cells of pairs. -/
def pcells (L : PL) : List Value := L.flatMap fun y => [.string (bs y.1), .int .i64 y.2]
theorem pcells_len : ∀ L : PL, (pcells L).length = L.length * 2
  | [] => rfl
  | y :: L => by
    have := pcells_len L
    simp only [pcells, List.flatMap_cons, List.length_append, List.length_cons, List.length_nil] at *
    omega
theorem pcells_append (L M : PL) : pcells (L ++ M) = pcells L ++ pcells M := by simp [pcells]
theorem pcells_at : ∀ {L : PL} {i : Nat} {y : List UInt8 × Int}, L[i]? = some y → (pcells L)[i * 2]? = some (.string (bs y.1)) ∧ (pcells L)[i * 2 + 1]? = some (.int .i64 y.2)
  | [], i, y, h => by cases h
  | z :: L, 0, y, h => by
    injection h with h
    subst h
    exact ⟨rfl, rfl⟩
  | z :: L, i + 1, y, h => by
    have := pcells_at (L := L) (i := i) (y := y) h
    rw [show (i + 1) * 2 = i * 2 + 1 + 1 by omega]
    exact this
theorem infoPair : (Try.prog.info? 59).map (fun i => (i.zero, i.size, i.bytes)) = some (some (.agg #[.string ⟨#[]⟩, .int .i64 0]), 2, 24) := by kernel_rfl
/-- v is a list of these pairs. -/
def Pl (w : World) (v : Value) (L : PL) : Prop := OffRow w 0 59 2 v L.length (pcells L)
theorem Pl.below {w w' : World} {v : Value} {L : PL} (h : Pl w v L) (k : Below w.heap.size w w') : Pl w' v L := OffRow.below h k
theorem Pl.nil (w : World) : Pl w (.slice none 0 0) [] := OffRow.nil _ _ _ _
theorem Pl.at {w : World} {v : Value} {L : PL} (h : Pl w v L) {i : Nat} {y : List UInt8 × Int} (hi : L[i]? = some y) : ∃ g off cap, v = .slice (some ⟨g, off, none⟩) L.length cap ∧ w.cell? ⟨g, off + i * 2, none⟩ = some (.string (bs y.1)) ∧ w.cell? ⟨g, off + i * 2 + 1, none⟩ = some (.int .i64 y.2) := by
  have hl := (List.getElem?_eq_some_iff.1 hi).1
  obtain ⟨g, off, cap, cur, rfl, _, _, hc⟩ := h.form (by omega)
  have hp := pcells_at hi
  exact ⟨g, off, cap, rfl, by rw [hc _ (by omega), hp.1], by rw [Nat.add_assoc, hc _ (by omega), hp.2]⟩
theorem hfn (c : Nat) : ∀ w, (binOp .eql 65 (.func (.func 37) #[] #[.pointer (some ⟨c, 0, none⟩)]) Value.nilFunc).run Try.prog w = .ok (.bool false) w := by intro w; kernel_rfl

theorem fromP_drop {k : List UInt8} {L : PL} {i : Nat} {y : List UInt8 × Int} (h : L[i]? = some y) : fromP k (L.drop i) = if ltB y.1 k then fromP k (L.drop (i + 1)) else y :: fromP k (L.drop (i + 1)) := by
  obtain ⟨hi, he⟩ := List.getElem?_eq_some_iff.1 h
  rw [List.drop_eq_getElem_cons hi, he]
  unfold fromP
  rw [List.filter_cons]
  cases ltB y.1 k <;> simp
theorem fromP_len (k : List UInt8) (L : PL) : (fromP k L).length ≤ L.length := List.length_filter_le _ _
/-- The loop's rounds so far. -/
structure IsR (w0 : World) (v : Value) (L M : PL) (B c : Nat) (wr : World) : Prop where
  below : Below w0.heap.size w0 wr
  pl : Pl wr v L
  walk : ∃ vw, Wk wr B c vw M
  le : w0.heap.size ≤ B ∧ B ≤ wr.heap.size
theorem IsR.next {w0 : World} {v : Value} {L M M' : PL} {B c : Nat} {wr w' : World} {vw v' : Value} {e : Ending} (h : IsR w0 v L M B c wr) (hP : Pl w0 v L) (hw : Wk wr B c vw M) (hn : NextPost wr B c vw M e w') (h' : Wk w' B c v' M') : IsR w0 v L M' B c w' :=
  have k : Below w0.heap.size w0 w' := h.below.trans ((hn.belowB hw h.le.2).mono h.le.1)
  ⟨k, hP.below k, ⟨v', h'⟩, h.le.1, Nat.le_trans h.le.2 hn.1.size⟩
set_option maxHeartbeats 4000000 in
theorem law_is {t : Tr Int} {u : Option Addr} {k : List UInt8} {v : Value} {w : World} (h : Hid (IsM w t)) (hu : t.ptr = .pointer u) (hv : Hid (Pl w v t.prs)) (hl : t.sz ≤ 800000) :
    Calls Try.prog 13 #[.agg #[.pointer u], v, .string (bs k)] w fun e w' => e = .returned (.bool true) ∧ Below w.heap.size w w' := by
  obtain ⟨L, hL⟩ : ∃ L, L = t.prs := ⟨_, rfl⟩
  have hs := t.sz_prs
  rw [← hL] at hs
  obtain ⟨w1, hw1⟩ : ∃ w1, w1 = w.alloc (.cells #[.pointer u] 27) := ⟨_, rfl⟩
  have K1 := Lib.hid (show Below w.heap.size w w1 by rw [hw1]; exact (Below.refl _ _).alloc (Nat.le_refl _) _)
  have C1 := Lib.hid (show w1.cell? ⟨w.heap.size, 0, none⟩ = some (.pointer u) by rw [hw1, World.cell?_alloc_mark]; rfl)
  have HW := Lib.hid hw1
  have HWK := Lib.hid (map_Walk (k := k) (Lib.hid (h.out.seen K1.out)) hu (by omega))
  rw [← hL] at HWK hv
  have P0 := hv
  have P1 := Lib.hid (hv.out.below K1.out)
  obtain ⟨n, hn⟩ : ∃ n, n = L.length := ⟨_, rfl⟩
  obtain ⟨a, cap, rfl⟩ : ∃ a cap, v = .slice a n cap := by rw [hn]; exact hv.out.slice
  have HN := Lib.hid (show n = L.length ∧ n ≤ 800000 from ⟨hn, by omega⟩)
  have hn8 : n ≤ 800000 := HN.out.2
  clear hw1 hu hl hL hs hn hv h
  go_enter Try.func13, Try.ntmps13
  go_upto_region 1 with (fail)
  rw [← HW.out]
  have c1 := C1.out
  go_wp2_with fail
  refine HWK.out.mono ?_
  rintro e w2 ⟨c, vw, rfl, hW2, hB2⟩
  have R2 := Lib.hid (show IsR w (.slice a n cap) L (fromP k L) w1.heap.size c w2 from ⟨K1.out.trans (hB2.mono K1.out.size), P1.out.below hB2, ⟨vw, hW2⟩, K1.out.size, hB2.size⟩)
  have SZ := Lib.hid (show w.heap.size ≤ w1.heap.size ∧ w1.heap.size ≤ w2.heap.size from ⟨K1.out.size, hB2.size⟩)
  have hf := hfn c
  clear hW2 hB2 c1
  go_wp2_with fail
  go_loopw [8] (fun iv wr => ∃ i : Nat, i ≤ n ∧ iv = .int .i64 (i : Int) ∧ Hid (IsR w (.slice a n cap) L (fromP k (L.drop i)) w1.heap.size c wr)) (fun iv wr => n - (intOf iv).toNat)
  case atStart => exact ⟨0, Nat.zero_le _, rfl, R2⟩
  case round =>
    obtain ⟨i, hi, rfl, R⟩ := hrel
    rcases Nat.lt_or_ge i n with hlt | hge
    · obtain ⟨⟨yk, yx⟩, hy⟩ : ∃ y, L[i]? = some y := ⟨_, List.getElem?_eq_getElem (by have := HN.out.1; omega)⟩
      obtain ⟨g, off, cap', e0, d0, d1⟩ := R.out.pl.at hy
      simp only [Value.slice.injEq] at e0
      obtain ⟨rfl, -, -⟩ := e0
      have HD := Lib.hid (fromP_drop (k := k) hy)
      have hlt2 : (i : Int) < (n : Int) := by omega
      have hle : Op.bytesLess (bs yk).toList (bs k).toList = ltB yk k := by rw [Lib.toList_data, Lib.toList_data, bs_list, bs_list, ltB_less]
      have HY := Lib.hid hy
      clear hy
      cases hk : ltB yk k with
      | true =>
        rw [hk] at hle
        rw [hk, if_pos rfl] at HD
        clear hk
        go_wp2_with fail
        go_roundw
        case rel => exact ⟨i + 1, by omega, by go_num, by rw [← HD.out]; exact R⟩
        case measure => simp [intOf]; omega
      | false =>
        rw [hk] at hle
        rw [hk, if_neg (by decide)] at HD
        clear hk
        obtain ⟨vw, hwk⟩ := R.out.walk
        rw [HD.out] at hwk
        have HNX := Lib.hid (next (Lib.hid hwk) (by have := SZ.out; have := hwk.lo; have := heap_lt hwk.box; omega) (by have := fromP_len k (L.drop i); rw [HD.out, List.length_drop] at this; have := HN.out; omega))
        have HWK2 := Lib.hid hwk
        clear hwk
        go_wp2_with fail
        refine HNX.out.mono ?_
        rintro e w3 hP
        have hP' := hP
        obtain ⟨-, -, v', -, rfl, hwk'⟩ := hP'
        have R3 := Lib.hid (R.out.next P0.out (by rw [HD.out]; exact HWK2.out) (by rw [HD.out]; exact hP) hwk')
        obtain ⟨g3, off3, cap3, e3, f0, f1⟩ := R3.out.pl.at HY.out
        simp only [Value.slice.injEq, Option.some.injEq, Addr.mk.injEq] at e3
        obtain ⟨⟨rfl, rfl, -⟩, -, -⟩ := e3
        clear hP hwk' d0 d1
        go_wp2_with fail
        go_roundw
        case rel => exact ⟨i + 1, by omega, by go_num, R3⟩
        case measure => simp [intOf]; omega
    · obtain rfl : i = n := by omega
      have HE := Lib.hid (show fromP k (L.drop i) = [] by rw [HN.out.1, List.drop_length]; rfl)
      rw [HE.out] at R
      go_wp2_with fail
      go_loopw [12] (fun iv wr => ∃ j : Nat, j ≤ 2 ∧ iv = .int .i64 (j : Int) ∧ Hid (IsR w (.slice a i cap) L [] w1.heap.size c wr)) (fun iv wr => 2 - (intOf iv).toNat)
      case atStart => exact ⟨0, by omega, rfl, R⟩
      case round =>
        obtain ⟨j, hj, rfl, R4⟩ := hrel
        rcases Nat.lt_or_ge j 2 with hlt | hge
        · obtain ⟨vw, hwk⟩ := R4.out.walk
          have HNX := Lib.hid (next (Lib.hid hwk) R4.out.le.2 (by simp))
          have HWK2 := Lib.hid hwk
          have hlt2 : (j : Int) < 2 := by omega
          clear hwk
          go_wp2_with fail
          refine HNX.out.mono ?_
          rintro e w3 hP
          have hP' := hP
          obtain ⟨-, -, v', -, rfl, hwk'⟩ := hP'
          have R5 := Lib.hid (R4.out.next P0.out HWK2.out hP hwk')
          clear hP hwk'
          go_wp2_with fail
          go_roundw
          case rel => exact ⟨j + 1, by omega, by go_num, R5⟩
          case measure => simp [intOf]; omega
        · obtain rfl : j = 2 := by omega
          go_wp2_with fail
          go_ret
          exact ⟨rfl, R4.out.below⟩
end Go.Proofs.Ytbmihajbdobgbaa.MI
