/- SixBack: what was written is gone over as it was, whatever stands behind it. Condition: the arguments hold together at most 1048576 values and letters. -/
import Derived.Test.YtnadgcbiichmhaaRows
import Derived.Test.YtnadgcbiichmhaaBackPlain
import Derived.WalkKit
import Derived.ProofKit
import Derived.OpenShut
import Derived.ShutString
import Derived.ChangeOld
import Derived.Below
import Derived.JoinedCond
import Derived.SliceStrings
set_option linter.unusedVariables false
namespace Go.Proofs.Ytnadgcbiichmhaa.sixBack
open Go.ChangeShapes Go.WideShapes Go.ChangeAt Go.RowKit
open Go.ChangeMaps (open_string shut_string)

theorem own : ownKnob Try.prog.godebug = none := by kernel_rfl
theorem laidOut : laidOutB Try.prog = true := by kernel_rfl

/-- The row of a slice of numbers, and of a slice of texts, cell by cell. -/
def RowI (b off : Nat) (L : List Int) (w : World) : Prop := ∀ k, k < L.length → b < w.heap.size ∧ w.cell? ⟨b, off + k, none⟩ = some (.int .i64 (L.getD k 0))
def RowS (b off : Nat) (T : List ByteArray) (w : World) : Prop := ∀ k, k < T.length → b < w.heap.size ∧ w.cell? ⟨b, off + k, none⟩ = some (.string (T.getD k ByteArray.empty))

set_option maxHeartbeats 4000000 in
set_option maxRecDepth 100000 in
theorem core (a0 a1 : Option Addr) (b0 off0 cap0 b1 off1 cap1 len0 len1 : Nat) (L : List Int) (T : List ByteArray) (more : ByteArray) (w : World) (hlen0 : Hid (len0 = L.length)) (hlen1 : Hid (len1 = T.length)) (hl0 : len0 ≤ 1048576) (hl1 : len1 ≤ 1048576) (hm : more.size ≤ 1048576)
    (hT : Hid (total T ≤ 1048576)) (hL : Hid (Fit L)) (hz0 : Hid (RowI b0 off0 L w)) (hz1 : Hid (RowS b1 off1 T w)) (hab0 : Hid (len0 = 0 ∨ a0 = some ⟨b0, off0, none⟩)) (hab1 : Hid (len1 = 0 ∨ a1 = some ⟨b1, off1, none⟩)) :
    Calls Try.prog 5 #[.slice a0 len0 cap0, .slice a1 len1 cap1, .string more] w fun e w' => e = .returned (.bool true) ∧ Below w.heap.size w w' := by
  go_enter Try.func5, Try.ntmps5
  go_wp2_with fail
  refine (six_New w).mono ?_
  rintro e w1 ⟨rfl, hw1⟩
  have h1 := wt_new w
  rw [hw1] at h1
  have k1 : Below w.heap.size w w1 := by rw [← hw1]; exact (Below.refl _ _).alloc (Nat.le_refl _) _
  obtain ⟨B, hB⟩ : ∃ B, B = w.heap.size := ⟨_, rfl⟩
  rw [← hB] at h1
  have H1 := Lib.hid h1
  have K1 := Lib.hid k1
  have HB := Lib.hid hB
  rw [← hB]
  clear h1 k1 hw1 hB
  go_wp2_with fail
  go_loopw [8] (fun i wr => ∃ k : Nat, k ≤ len0 ∧ i = .int .i64 k ∧ Wt B B (ww (L.take k)) wr ∧ Below w.heap.size w wr) (fun i wr => len0 - (intOf i).toNat)
  case atStart => exact ⟨0, Nat.zero_le _, rfl, H1.out, K1.out⟩
  case round =>
    obtain ⟨k, hk, rfl, hwt, hbw⟩ := hrel
    have HW := Lib.hid hwt
    have HK := Lib.hid hbw
    clear hwt hbw
    by_cases hlt : k < len0
    · have hkL := Lib.hid (show k < L.length by rw [← hlen0.out]; exact hlt)
      obtain ⟨hb, hc⟩ := hz0.out k hkL.out
      have c1 : wr.cell? ⟨b0, off0 + k, none⟩ = some (.int .i64 (L.getD k 0)) := by rw [HK.out.cell hb]; exact hc
      have ha : a0 = some ⟨b0, off0, none⟩ := by rcases hab0.out with h | h; (omega); (exact h)
      have hfit := fit_get hL.out k hkL.out
      have hnext := Lib.hid (ww_next L k hkL.out)
      have hlw := Lib.hid (show (ww (L.take k)).length ≤ 11 * k by have := ww_len (L.take k) (fit_take hL.out k); rw [List.length_take] at this; omega)
      clear hc hb
      generalize L.getD k 0 = n at *
      obtain ⟨z0, z1⟩ := hfit
      subst ha
      go_wp2_with fail
      refine (six_Whole B B _ n wr HW.out z0 z1 (by have := hlw.out; omega)).mono ?_
      rintro e w2 ⟨rfl, h2, k2⟩
      have HW2 := Lib.hid h2
      have HK2 := Lib.hid (HK.out.trans (k2.mono (Nat.le_of_eq HB.out.symm)))
      clear h2 k2
      go_wp2
      go_roundw
      case rel => exact ⟨k + 1, by omega, by go_num, by rw [hnext.out]; exact HW2.out, HK2.out⟩
      case measure => simp [intOf]; omega
    · have hwall := Lib.hid (show Wt B B (ww L) wr by have := HW.out; rwa [List.take_of_length_le (by rw [← hlen0.out]; omega)] at this)
      have hwwl := Lib.hid (show (ww L).length ≤ 11534336 by have := ww_len L hL.out; have := hlen0.out; omega)
      clear HW
      go_wp2_with fail
      obtain ⟨wo, hwo⟩ : ∃ wo, wo = wr := ⟨_, rfl⟩
      subst hwo
      go_loopw [9] (fun i ws => ∃ j : Nat, j ≤ len1 ∧ i = .int .i64 j ∧ Wt B B (ww L ++ tt (T.take j)) ws ∧ Below w.heap.size w ws) (fun i ws => len1 - (intOf i).toNat)
      case atStart => exact ⟨0, Nat.zero_le _, rfl, by simpa [tt] using hwall.out, HK.out⟩
      case round =>
        obtain ⟨j, hj, rfl, hwt, hbw⟩ := hrel
        have HW := Lib.hid hwt
        have HK1 := Lib.hid hbw
        clear hwt hbw hwall HK
        by_cases hlt1 : j < len1
        · have hkT := Lib.hid (show j < T.length by rw [← hlen1.out]; exact hlt1)
          obtain ⟨hb, hc⟩ := hz1.out j hkT.out
          have c1 : wr.cell? ⟨b1, off1 + j, none⟩ = some (.string (T.getD j ByteArray.empty)) := by rw [HK1.out.cell hb]; exact hc
          have ha : a1 = some ⟨b1, off1, none⟩ := by rcases hab1.out with h | h; (omega); (exact h)
          have hnext := Lib.hid (tt_next T j hkT.out)
          have hlw := Lib.hid (show (ww L ++ tt (T.take j)).length ≤ 40000000 by
            have h1 := tt_len (T.take j) (by have := total_take T j; have := hT.out; omega)
            have h2 := total_take T j
            have h3 := hT.out
            rw [List.length_take] at h1
            rw [List.length_append]
            have := hwwl.out
            omega)
          have hus : (T.getD j ByteArray.empty).size ≤ 1048576 := by have := total_get T j; have := hT.out; omega
          clear hc hb
          generalize T.getD j ByteArray.empty = u at *
          subst ha
          go_wp2_with fail
          refine (six_Text B B _ u wr HW.out (by have := hlw.out; omega)).mono ?_
          rintro e w2 ⟨rfl, h2, k2⟩
          have HW2 := Lib.hid h2
          have HK2 := Lib.hid (HK1.out.trans (k2.mono (Nat.le_of_eq HB.out.symm)))
          clear h2 k2
          go_wp2
          go_roundw
          case rel => exact ⟨j + 1, by omega, by go_num, by rw [hnext.out, ← List.append_assoc]; exact HW2.out, HK2.out⟩
          case measure => simp [intOf]; omega
        · have hwall := Lib.hid (show Wt B B (ww L ++ tt T) wr by have := HW.out; rwa [List.take_of_length_le (by rw [← hlen1.out]; omega)] at this)
          have httl := Lib.hid (show (ww L ++ tt T).length ≤ 40000000 by
            have h1 := tt_len T hT.out
            have h3 := hT.out
            have h4 := hlen1.out
            rw [List.length_append]
            have := hwwl.out
            omega)
          clear HW
          have hcat : bs (ww L ++ tt T) ++ more = bs (ww L ++ (tt T ++ more.data.toList)) := by rw [bs_cat, List.append_assoc]
          have hsum : ((bs (ww L ++ tt T)).size : Int) + (more.size : Int) ≤ 9223372036854775807 := by rw [bs_size]; have := httl.out; omega
          have hall := Lib.hid (show (ww L ++ tt T ++ more.data.toList).length ≤ 50000000 by rw [List.length_append, ← Lib.size_eq]; have := httl.out; omega)
          go_wp2_with fail
          refine (six_Bytes B B _ wr hwall.out).mono ?_
          rintro e w3 ⟨rfl, h3, k3, _⟩
          have HK3 := Lib.hid (HK1.out.trans (k3.mono (Nat.le_of_eq HB.out.symm)))
          clear h3 k3
          go_wp2_with fail
          refine (six_Over _ w3).mono ?_
          rintro e w4 ⟨rfl, hw4⟩
          have h4 := Rt.new (bs (ww L ++ (tt T ++ more.data.toList))) w3
          rw [hw4] at h4
          have k4 : Below w.heap.size w w4 := by rw [← hw4]; exact HK3.out.alloc HK3.out.size _
          obtain ⟨r, hr⟩ : ∃ r, r = w3.heap.size := ⟨_, rfl⟩
          rw [← hr] at h4
          have hrw : w.heap.size ≤ r := by rw [hr]; exact HK3.out.size
          have HR := Lib.hid hrw
          have H4 := Lib.hid h4
          have K4 := Lib.hid k4
          rw [← hr]
          clear h4 k4 hw4 hr hrw hcat hsum
          go_wp2_with fail
          obtain ⟨wp, hwp⟩ : ∃ wp, wp = wr := ⟨_, rfl⟩
          subst hwp
          go_loopw [11] (fun i wr => ∃ k : Nat, k ≤ len0 ∧ i = .int .i64 k ∧ Rt r (bs (ww (L.drop k) ++ (tt T ++ more.data.toList))) wr ∧ Below w.heap.size w wr) (fun i ws => len0 - (intOf i).toNat)
          case atStart => exact ⟨0, Nat.zero_le _, rfl, by simpa using H4.out, K4.out⟩
          case round =>
            obtain ⟨i, hi, rfl, hrt, hbw⟩ := hrel
            have HRt := Lib.hid hrt
            have HK5 := Lib.hid hbw
            clear hrt hbw
            by_cases hlt2 : i < len0
            · have hkL := Lib.hid (show i < L.length by rw [← hlen0.out]; exact hlt2)
              obtain ⟨hb, hc⟩ := hz0.out i hkL.out
              have hcell := fun (u : World) (h : Below w.heap.size w u) => (by rw [h.cell hb]; exact hc : u.cell? ⟨b0, off0 + i, none⟩ = some (.int .i64 (L.getD i 0)))
              have HCell := Lib.hid hcell
              have ha : a0 = some ⟨b0, off0, none⟩ := by rcases hab0.out with h | h; (omega); (exact h)
              have hfit := fit_get hL.out i hkL.out
              have hstep : Rt r (bs (whole (L.getD i 0) ++ (ww (L.drop (i + 1)) ++ (tt T ++ more.data.toList)))) wr := by
                have := HRt.out
                rw [ww_drop L i hkL.out, List.append_assoc] at this
                exact this
              have hsz := Lib.hid (show (whole (L.getD i 0) ++ (ww (L.drop (i + 1)) ++ (tt T ++ more.data.toList))).length ≤ 1000000000 by
                have h1 := (whole_len hfit.1 hfit.2).1
                have h2 := ww_len (L.drop (i + 1)) (fun n hn => hL.out n (List.mem_of_mem_drop hn))
                have h3 := hall.out
                rw [List.length_drop] at h2
                simp only [List.length_append] at h3 ⊢
                have := hlen0.out
                omega)
              have HS := Lib.hid hstep
              clear hc hb hcell hstep
              generalize L.getD i 0 = n at *
              obtain ⟨z0, z1⟩ := hfit
              subst ha
              go_wp2_with fail
              refine (read_whole r n _ wr HS.out z0 z1 hsz.out).mono ?_
              rintro e w5 ⟨rfl, h5, k5⟩
              have HRt5 := Lib.hid h5
              have HK6 := Lib.hid (HK5.out.trans (k5.below (fun j _ e => by have := HR.out; omega) (by have := HK5.out.size; exact this)))
              have c5 : w5.cell? ⟨b0, off0 + i, none⟩ = some (.int .i64 n) := HCell.out _ HK6.out
              clear h5 k5
              go_wp2
              go_roundw
              case rel => exact ⟨i + 1, by omega, by go_num, HRt5.out, HK6.out⟩
              case measure => simp [intOf]; omega
            · have hrest := Lib.hid (show Rt r (bs (tt T ++ more.data.toList)) wr by
                have := HRt.out
                rwa [List.drop_of_length_le (by rw [← hlen0.out]; omega)] at this)
              clear HRt
              go_wp2_with fail
              obtain ⟨wq, hwq⟩ : ∃ wq, wq = wr := ⟨_, rfl⟩
              subst hwq
              go_loopw [14] (fun i wr => ∃ k : Nat, k ≤ len1 ∧ i = .int .i64 k ∧ Rt r (bs (tt (T.drop k) ++ more.data.toList)) wr ∧ Below w.heap.size w wr) (fun i ws => len1 - (intOf i).toNat)
              case atStart => exact ⟨0, Nat.zero_le _, rfl, by simpa using hrest.out, HK5.out⟩
              case round =>
                obtain ⟨p, hp, rfl, hrt, hbw⟩ := hrel
                have HRt := Lib.hid hrt
                have HK7 := Lib.hid hbw
                clear hrt hbw
                by_cases hlt3 : p < len1
                · have hkT := Lib.hid (show p < T.length by rw [← hlen1.out]; exact hlt3)
                  obtain ⟨hb, hc⟩ := hz1.out p hkT.out
                  have hcell := fun (u : World) (h : Below w.heap.size w u) => (by rw [h.cell hb]; exact hc : u.cell? ⟨b1, off1 + p, none⟩ = some (.string (T.getD p ByteArray.empty)))
                  have HCell := Lib.hid hcell
                  have ha : a1 = some ⟨b1, off1, none⟩ := by rcases hab1.out with h | h; (omega); (exact h)
                  have hus := Lib.hid (show (T.getD p ByteArray.empty).size ≤ 1048576 by have := total_get T p; have := hT.out; omega)
                  have hstep : Rt r (bs (text (T.getD p ByteArray.empty).data.toList ++ (tt (T.drop (p + 1)) ++ more.data.toList))) wr := by
                    have := HRt.out
                    rw [tt_drop T p hkT.out, List.append_assoc] at this
                    exact this
                  have hsz := Lib.hid (show (text (T.getD p ByteArray.empty).data.toList ++ (tt (T.drop (p + 1)) ++ more.data.toList)).length ≤ 1000000000 by
                    have h1 : (text (T.getD p ByteArray.empty).data.toList).length ≤ 11 + (T.getD p ByteArray.empty).size := by
                      unfold text
                      rw [List.length_append, ← Lib.size_eq]
                      have := (whole_len (n := ((T.getD p ByteArray.empty).size : Int)) (by omega) (by have := hus.out; omega)).1
                      omega
                    have h2 := tt_len (T.drop (p + 1)) (by have := total_drop T (p + 1); have := hT.out; omega)
                    have h3 := total_drop T (p + 1)
                    have h4 := hT.out
                    have h5 := hlen1.out
                    have h6 := hus.out
                    rw [List.length_drop] at h2
                    simp only [List.length_append]
                    rw [← Lib.size_eq]
                    omega)
                  have HS := Lib.hid hstep
                  clear hc hb hcell hstep
                  generalize T.getD p ByteArray.empty = u at *
                  subst ha
                  go_wp2_with fail
                  refine (read_text r u _ wr HS.out hus.out hsz.out).mono ?_
                  rintro e w8 ⟨rfl, h8, k8⟩
                  have HRt8 := Lib.hid h8
                  have HK8 := Lib.hid (HK7.out.trans (k8.below (fun j _ e => by have := HR.out; omega) (by have := HK7.out.size; exact this)))
                  have c8 : w8.cell? ⟨b1, off1 + p, none⟩ = some (.string u) := HCell.out _ HK8.out
                  clear h8 k8
                  go_wp2
                  go_roundw
                  case rel => exact ⟨p + 1, by omega, by go_num, HRt8.out, HK8.out⟩
                  case measure => simp [intOf]; omega
                · have hend := Lib.hid (show Rt r more wr by
                    have := HRt.out
                    rw [List.drop_of_length_le (by rw [← hlen1.out]; omega)] at this
                    rwa [show bs (tt [] ++ more.data.toList) = more from (bs_eq rfl).symm] at this)
                  clear HRt
                  go_wp2_with fail
                  refine (law_awake wr).mono ?_
                  rintro e w9 ⟨rfl, k9⟩
                  have HE := Lib.hid (hend.out.below k9 hend.out.lt)
                  have HK9 := Lib.hid (HK7.out.trans (k9.mono HK7.out.size))
                  clear k9
                  go_wp2_with fail
                  refine (six_Rest r more w9 HE.out).mono ?_
                  rintro e w10 ⟨rfl, rfl⟩
                  go_wp2
                  go_ret
                  exact ⟨rfl, HK9.out⟩

/-- WHAT IS KNOWN OF A SLICE OF NUMBERS AND OF A SLICE OF TEXTS THAT CAME IN. -/
def IsInts (w : World) (a : Option Addr) (len : Nat) (L : List Int) : Prop :=
  len = L.length ∧ Fit L ∧ ∃ b off, (len = 0 ∨ a = some ⟨b, off, none⟩) ∧ RowI b off L w
def IsTexts (w : World) (a : Option Addr) (len : Nat) (T : List ByteArray) : Prop :=
  len = T.length ∧ ∃ b off, (len = 0 ∨ a = some ⟨b, off, none⟩) ∧ RowS b off T w

theorem take_get {α : Type} (l : List α) (d : α) (n k : Nat) (h : k < n) : (l.take n).getD k d = l.getD k d := by
  simp [List.getD_eq_getElem?_getD, List.getElem?_take, h]

theorem ints_is {w : World} {x : Addr} {len cap : Nat} {zs : List Int} (hl : len ≤ cap) (hz : zs.length = cap) (hcell : ∀ i, i < zs.length → w.cell? (x.add i) = some (.int .i64 (zs.getD i 0))) (hwz : ∀ n ∈ zs, (Lit.int .i64 n).wf = true) :
    IsInts w (some x) len (zs.take len) := by
  refine ⟨by rw [List.length_take]; omega, fun n hn => bounds_i64 (hwz n (List.mem_of_mem_take hn)), ?_⟩
  by_cases h0 : len = 0
  · subst h0
    exact ⟨0, 0, .inl rfl, fun k hk => absurd hk (by simp)⟩
  · obtain ⟨b, off, rfl, hc⟩ := ints_at hcell (by omega)
    refine ⟨b, off, .inr rfl, fun k hk => ?_⟩
    have hk' : k < len := by rw [List.length_take] at hk; omega
    have h1 := hc k (by omega)
    rw [take_get zs 0 len k hk']
    exact ⟨cell_block h1, h1⟩

theorem texts_is {w : World} {x : Addr} {len cap : Nat} {ss : List ByteArray} (hl : len ≤ cap) (hz : ss.length = cap) (hcell : ∀ i, i < ss.length → w.cell? (x.add i) = some (.string (ss.getD i ByteArray.empty))) :
    IsTexts w (some x) len (ss.take len) := by
  refine ⟨by rw [List.length_take]; omega, ?_⟩
  by_cases h0 : len = 0
  · subst h0
    exact ⟨0, 0, .inl rfl, fun k hk => absurd hk (by simp)⟩
  · obtain ⟨b, off, spot⟩ := x
    have hspot : spot = none := by simpa [Addr.add] using World.cell?_spot (hcell 0 (by omega))
    subst hspot
    refine ⟨b, off, .inr rfl, fun k hk => ?_⟩
    have hk' : k < len := by rw [List.length_take] at hk; omega
    have h1 := hcell k (by omega)
    rw [add_plain] at h1
    rw [take_get ss ByteArray.empty len k hk']
    exact ⟨cell_block h1, h1⟩

theorem walk (a0 : Option Addr) (len0 cap0 : Nat) (L : List Int) (a1 : Option Addr) (len1 cap1 : Nat) (T : List ByteArray) (more : ByteArray) (w : World) (h0 : IsInts w a0 len0 L) (h1 : IsTexts w a1 len1 T)
    (hl0 : len0 ≤ 1048576) (hl1 : len1 ≤ 1048576) (hm : more.size ≤ 1048576) (hT : total T ≤ 1048576) :
    Calls Try.prog 5 #[.slice a0 len0 cap0, .slice a1 len1 cap1, .string more] w fun e w' => e = .returned (.bool true) ∧ Below w.heap.size w w' := by
  obtain ⟨e0, f0, b0, off0, hab0, hz0⟩ := h0
  obtain ⟨e1, b1, off1, hab1, hz1⟩ := h1
  exact core a0 a1 b0 off0 cap0 b1 off1 cap1 len0 len1 L T more w (Lib.hid e0) (Lib.hid e1) hl0 hl1 hm (Lib.hid hT) (Lib.hid f0) (Lib.hid hz0) (Lib.hid hz1) (Lib.hid hab0) (Lib.hid hab1)

theorem contract (H : Type) (enc : TypeId × Value → H) (W : World) (base : Nat) (args : Array Value) (ds gs : List (DataW H)) (before : List MemPlace)
    (hval : ∀ (j : Nat) t v, Try.f5.params[j]? = some t → args[j]? = some v → Value.okWide Try.prog W .any base t v)
    (hW : DataW.Whole enc Try.prog Try.f5.params.toList Rows.sixBackSpec.vars false W args.toList ds gs before) (hk : Rows.uptoSmall H (ds ++ gs) = true) :
    Calls Try.prog 5 args W fun e W' => ∃ v, e = .returned v ∧ Rows.sixBackSpec.post enc Try.prog Try.f5 false true false false W args v W' := by
  have hW' := hW
  obtain ⟨p, q, hA0, hV, rfl, hfz, hnd⟩ := hW
  have hA : DataW.TrodAll enc Try.prog W 0 (fun _ => true) true Try.f5.params.toList args.toList ds p := hA0
  rw [Try.params5] at hA hval
  obtain ⟨v0, vs0, d0, ds0, p0, q0, hargs, rfl, rfl, h0, r0⟩ := trodAll_cons hA
  obtain ⟨v1, vs1, d1, ds1, p1, q1, rfl, rfl, rfl, h1, r1⟩ := trodAll_cons r0
  obtain ⟨v2, vs2, d2, ds2, p2, q2, rfl, rfl, rfl, h2, r2⟩ := trodAll_cons r1
  obtain ⟨rfl, rfl, rfl⟩ := trodAll_nil r2
  obtain rfl : args = #[v0, v1, v2] := by cases args; simp_all
  obtain ⟨rfl, rfl⟩ := trodVars_none hV
  obtain ⟨a0, len0, cap0, rfl⟩ := okWide_slice Try.underlying22 (hval 0 22 v0 rfl rfl)
  obtain ⟨a1, len1, cap1, rfl⟩ := okWide_slice Try.underlying39 (hval 1 39 v1 rfl rfl)
  have k0 := h0
  have lt0 : ∀ x ∈ p0, x.block < W.heap.size := by obtain ⟨m, hm⟩ := k0; exact DataW.trod_lt m _ _ _ hm
  have k1 := h1
  have lt1 : ∀ x ∈ p1, x.block < W.heap.size := by obtain ⟨m, hm⟩ := k1; exact DataW.trod_lt m _ _ _ hm
  obtain ⟨L, i0, hl0⟩ : ∃ L, IsInts W a0 len0 L ∧ len0 ≤ Rows.uptoBulk d0 := by
    obtain ⟨fuel, hf⟩ := h0
    rcases open_ints Try.underlying22 Try.underlying3 (by kernel_rfl) hf with ⟨hcs, _⟩ | ⟨x, l, c, zs, hcs, _, hl, hm, hz, hx, hcell, hwz⟩
    · simp [Value.cells] at hcs
      obtain ⟨rfl, rfl, rfl⟩ := hcs
      exact ⟨[], ⟨rfl, fun n hn => absurd hn (by simp), 0, 0, .inl rfl, fun k hk => absurd hk (by simp)⟩, by omega⟩
    · simp [Value.cells] at hcs
      obtain ⟨rfl, rfl, rfl⟩ := hcs
      have hz' : zs.length = cap0 := by simpa using hz
      refine ⟨zs.take len0, ints_is hl hz' hcell hwz, ?_⟩
      simp only [Prod.mk.injEq] at hx
      rw [hx.1]
      have h2 := bulk_slice (lits (H := H) .i64 (zs.take len0)) (lits .i64 (zs.drop len0))
      have h3 := bulk_len (lits (H := H) .i64 (zs.take len0))
      simp only [lits, List.length_map, List.length_take] at h2 h3
      unfold lits
      omega
  obtain ⟨T, i1, hl1⟩ : ∃ T, IsTexts W a1 len1 T ∧ total T + len1 ≤ Rows.uptoBulk d1 := by
    obtain ⟨fuel, hf⟩ := h1
    rcases open_strings Try.underlying39 Try.underlying9 (by kernel_rfl) hf with ⟨hcs, _⟩ | ⟨x, l, c, ss, hcs, _, hl, hm, hz, hx, hcell, hws⟩
    · simp [Value.cells] at hcs
      obtain ⟨rfl, rfl, rfl⟩ := hcs
      exact ⟨[], ⟨rfl, 0, 0, .inl rfl, fun k hk => absurd hk (by simp)⟩, by simp [total]⟩
    · simp [Value.cells] at hcs
      obtain ⟨rfl, rfl, rfl⟩ := hcs
      have hz' : ss.length = cap1 := by simpa using hz
      refine ⟨ss.take len1, texts_is hl hz' hcell, ?_⟩
      simp only [Prod.mk.injEq] at hx
      rw [hx.1]
      have h2 := bulk_slice (strs (H := H) (ss.take len1)) (strs (ss.drop len1))
      have h3 := bulk_strs (H := H) (ss.take len1)
      rw [List.length_take] at h3
      have h4 : min len1 ss.length = len1 := by omega
      rw [h4] at h3
      exact Nat.le_trans h3 h2
  obtain ⟨more, rfl, rfl, rfl, w2⟩ := open_string Try.underlying9 (hval 2 9 v2 rfl rfl) h2
  clear hA0
  simp only [List.append_nil] at hW' hk
  have hb := bulk_three hk
  have hb2 := bulk_string (H := H) more.data.toList
  rw [← Lib.size_eq] at hb2
  refine (walk a0 len0 cap0 L a1 len1 cap1 T more W i0 i1 (by omega) (by omega) (by omega) (by omega)).mono fun e W' ⟨he, bel⟩ => ?_
  subst he
  exact ⟨_, rfl, _, _, _, [], _, [], hW', trodAll_mk1 (shut_bool Try.underlying4 _), (trodAll_cons_mk (Below.trod laidOut (by kernel_rfl) (of_decide_eq_true (by kernel_rfl)) k0 bel lt0) (trodAll_cons_mk (Below.trod laidOut (by kernel_rfl) (of_decide_eq_true (by kernel_rfl)) k1 bel lt1) (trodAll_cons_mk (shut_string Try.underlying9 w2) trodAll_mk0))), rfl, bel.frame _, fun h => by cases h⟩

set_option maxRecDepth 100000 in
theorem lifted (os : Os) (started : os.Started) (H : Type) (enc : TypeId × Value → H) (F : Stop.Interp) :
    ReturnsInHanded {} Try.checked os 5 .any ((Rows.OpenSpec.upto Rows.sixBackSpec).pre6 enc Try.prog Try.f5 Rows.sixBackUptoRow.domain false) (((Rows.OpenSpec.upto Rows.sixBackSpec).at F).post enc Try.prog Try.f5 false true false false) := by
  refine returnsInHanded_of_cond (C := Try.checked) (s := Rows.OpenSpec.upto Rows.sixBackSpec) (k := Rows.uptoSmall) rfl own started (by kernel_rfl) Try.func5
    (OpenSpec.witness (enc := enc) (C := Try.checked) (s := Rows.OpenSpec.upto Rows.sixBackSpec) (k := Rows.uptoSmall) rfl false ⟨#[], #[.slice none 0 0, .slice none 0 0, .string ByteArray.empty], []⟩ 8 (by kernel_rfl) (by kernel_rfl) (by kernel_rfl)
      (x := ([.nil, .nil, .lit (.string [])], [], [])) (by kernel_rfl) rfl (by kernel_rfl)) ?_
  intro W base args ds gs before hval hW _ hk _
  exact contract H enc W base args ds gs before hval hW hk

theorem proved : Rows.SixBackUptoSaid :=
  OpenClaim.holds_of_cond 5 Try.f5 rfl rfl rfl rfl rfl rfl rfl ⟨rfl, rfl, rfl, rfl, rfl⟩ rfl rfl rfl rfl rfl (by kernel_rfl) Try.func5 (by kernel_rfl)
    (of_decide_eq_true (by kernel_rfl)) (by unfold Func.isWrapper; first | (rw [if_pos (by decide +kernel)]; kernel_rfl) | (rw [if_neg (by decide +kernel)]; exact ⟨rfl, rfl⟩))
    (fun os started H enc _ F => lifted os started H enc F)
#print axioms proved
end Go.Proofs.Ytnadgcbiichmhaa.sixBack
