/- Texts put together: CrcRefSum, CrcRefPuts, WalFrame, EpRow -/
import Derived.Test.YtkelcmncjhnbgaaWPl00
import Derived.RegionTactic
import Derived.Test.YtkelcmncjhnbgaaWPl01
import Derived.Test.YtkelcmncjhnbgaaWPl02
import Derived.Laws.AppendOwn
import Derived.Deep.AppendSrc
/- The document's own sum: bit by bit, as a list of bits. -/
set_option linter.unusedVariables false
set_option maxRecDepth 100000
namespace Go.Proofs.Ytkelcmncjhnbgaa
open Go.RowKit

/-- In block B stand 32 bits. -/
def Regs (B : Nat) (g : Nat → Bool) (w : World) : Prop := ∀ j, j < 32 → w.cell? ⟨B, j, none⟩ = some (.bool (g j)) ∧ w.frozen? ⟨B, j, none⟩ = false

theorem Regs.same {B : Nat} {g g' : Nat → Bool} {w : World} (h : Regs B g w) (e : ∀ j, j < 32 → g j = g' j) : Regs B g' w := fun j hj => by rw [← e j hj]; exact h j hj
theorem Regs.set {B : Nat} {g : Nat → Bool} {w : World} (h : Regs B g w) {i : Nat} (hi : i < 32) (v : Bool) : Regs B (fun j => if j = i then v else g j) (w.setCell ⟨B, i, none⟩ (.bool v)) := by
  intro j hj
  refine ⟨?_, by rw [World.frozen?_setCell]; exact (h j hj).2⟩
  by_cases hji : j = i
  · subst hji
    rw [World.cell?_setCell_same w _ _ (h j hj).1]
    simp
  · rw [World.cell?_setCell_other w _ _ _ (fun e => hji (by injection e with _ e2; exact e2.symm)), (h j hj).1]
    simp [hji]
theorem regs_new (w : World) (t : TypeId) : Regs w.heap.size (fun _ => false) (w.alloc (.cells (Array.replicate 32 (.bool false)) t)) := by
  intro j hj
  refine ⟨?_, ?_⟩
  · rw [World.cell?_alloc_mark]
    simp [hj]
  · rw [World.frozen?_alloc_mark]
    simp

theorem down_next (x k j : Nat) : (if j = k then down x k (k + 1) else down x k j) = down x (k + 1) j := by
  unfold down
  by_cases hjk : j = k
  · subst hjk; rw [if_pos rfl, if_neg (by omega), if_pos (by omega)]
  · by_cases hl : j < k
    · simp [hjk, hl, show j < k + 1 by omega]
    · simp [hjk, hl, show ¬ j < k + 1 by omega]
theorem added_yes (y k j : Nat) (h : (2197175160 : Nat).testBit k = true) : (if j = k then !(added y k k) else added y k j) = added y (k + 1) j := by
  unfold added
  by_cases hjk : j = k
  · subst hjk
    rw [if_pos rfl, if_neg (by omega), if_pos (by omega), Nat.testBit_xor, h, Bool.xor_true]
  · by_cases hl : j < k
    · simp [hjk, hl, show j < k + 1 by omega]
    · simp [hjk, hl, show ¬ j < k + 1 by omega]
theorem added_no (y k j : Nat) (h : (2197175160 : Nat).testBit k = false) : added y k j = added y (k + 1) j := by
  unfold added
  by_cases hjk : j = k
  · subst hjk
    rw [if_neg (by omega), if_pos (by omega), Nat.testBit_xor, h, Bool.xor_false]
  · by_cases hl : j < k
    · simp [hl, show j < k + 1 by omega]
    · simp [hl, show ¬ j < k + 1 by omega]
theorem pow32 (k : Nat) (h : k < 32) : ∃ p : Nat, IntKind.u32.wrap ((2 : Int) ^ k) = (p : Int) ∧ 1 ≤ p ∧ ((p : Int) == 0) = false ∧ ∃ d : Nat, (2197175160 : Int) / (p : Int) = (d : Int) ∧ d ≤ 2197175160 ∧ ((d : Int) % 2 == 1) = (2197175160 : Nat).testBit k := by
  have hp : 2 ^ k < 2 ^ 32 := Nat.pow_lt_pow_right (by decide) h
  have h1 : 1 ≤ 2 ^ k := Nat.one_le_two_pow
  refine ⟨2 ^ k, ?_, h1, beq_eq_false_iff_ne.2 (by omega), 2197175160 / 2 ^ k, (Int.natCast_ediv 2197175160 (2 ^ k)).symm, Nat.div_le_self _ _, ?_⟩
  · rw [IntKind.wrap_u32', show ((2 : Int) ^ k) = ((2 ^ k : Nat) : Int) by simp]
    omega
  · rw [Nat.testBit_eq_decide_div_mod_eq]
    show decide _ = _
    apply decide_eq_decide.2
    omega
theorem ret_u32 {a b : Nat} (h : b = a) : Ending.returned (.int .u32 (a : Int)) = Ending.returned (.int .u32 (b : Int)) := by rw [h]
theorem beq_eq_decide (a b : Int) : (a == b) = decide (a = b) := rfl
theorem pow8 (k : Nat) (h : k < 8) : ∃ p : Nat, IntKind.u8.wrap ((2 : Int) ^ k) = (p : Int) ∧ 1 ≤ p ∧ ((p : Int) == 0) = false ∧ ∀ c : Nat, decide (((c / p : Nat) : Int) % 2 = 1) = c.testBit k := by
  have hp : 2 ^ k < 2 ^ 8 := Nat.pow_lt_pow_right (by decide) h
  have h1 : 1 ≤ 2 ^ k := Nat.one_le_two_pow
  refine ⟨2 ^ k, ?_, h1, beq_eq_false_iff_ne.2 (by omega), fun c => ?_⟩
  · rw [IntKind.wrap_u8', show ((2 : Int) ^ k) = ((2 ^ k : Nat) : Int) by simp]
    omega
  · rw [Nat.testBit_eq_decide_div_mod_eq]
    apply decide_eq_decide.2
    omega
theorem quo8 (c p : Nat) (hc : c < 256) (hp : 1 ≤ p) : (c : Int) / (p : Int) = ((c / p : Nat) : Int) := by omega

set_option maxHeartbeats 1000000 in
theorem ref_SumC (s : ByteArray) (w : World) (hs : s.size ≤ 140737488355328) :
    Calls Try.prog 64 #[.string s] w fun e w' => e = .returned (.int .u32 (sumL s.data.toList)) ∧ Below w.heap.size w w' := by
  go_enter Try.func64, Try.ntmps64
  go_wp2_with fail
  go_loopw [4] (fun i wr => ∃ k : Nat, k ≤ 32 ∧ i = .int .i64 k ∧ Regs w.heap.size (fun j => decide (j < k)) wr ∧ Below w.heap.size w wr) (fun i wr => 32 - (intOf i).toNat)
  case atStart => exact ⟨0, by omega, rfl, (regs_new w 128).same (fun j _ => by simp), (Below.refl _ _).alloc (Nat.le_refl _) _⟩
  case round =>
    obtain ⟨k, hk, rfl, hreg, hbw⟩ := hrel
    have HB := Lib.hid hbw
    have HR := Lib.hid hreg
    clear hbw hreg
    by_cases hlt : k < 32
    · obtain ⟨c1, c2⟩ := HR.out k hlt
      go_wp2_with fail
      go_roundw
      case rel => exact ⟨k + 1, by omega, by go_num, (HR.out.set hlt true).same (fun j _ => by by_cases hj : j = k <;> simp [hj] <;> omega), HB.out.setCell (Nat.le_refl _) _⟩
      case measure => simp [intOf]; omega
    · obtain rfl : k = 32 := by omega
      have HR1 := Lib.hid (show Regs w.heap.size (fun j => (4294967295 : Nat).testBit j) wr from HR.out.same (fun j hj => by
        have := Nat.testBit_two_pow_sub_one 32 j
        rw [show (2 : Nat) ^ 32 - 1 = 4294967295 by decide] at this
        rw [this]))
      clear HR
      go_wp2_with fail
      go_loopw [5] (fun i wo => ∃ k : Nat, k ≤ s.size ∧ i = .int .i64 k ∧ Regs w.heap.size (fun j => (feedL 4294967295 (s.data.toList.take k)).testBit j) wo ∧ Below w.heap.size w wo) (fun i wr => s.size - (intOf i).toNat)
      case atStart => exact ⟨0, by omega, rfl, HR1.out, HB.out⟩
      case round =>
        obtain ⟨i, hi, rfl, hreg, hbw⟩ := hrel
        have HO := Lib.hid hbw
        have HRO := Lib.hid hreg
        clear hbw hreg HB HR1
        by_cases hit : i < s.size
        · have hfn := Lib.hid (feedS_next 4294967295 s i hit)
          have hq := Lib.hid (feedL_lt' (s.data.toList.take i) (r := 4294967295) (by decide))
          generalize feedL 4294967295 (s.data.toList.take i) = R at *
          have hc := Lib.hid (s[i]).toNat_lt
          go_wp2_with fail
          go_loopw [6] (fun y wp => ∃ k : Nat, k ≤ 8 ∧ y = .int .i64 k ∧ Regs w.heap.size (fun j => (feedB R ((bitsN 8 (s[i]).toNat).take k)).testBit j) wp ∧ Below w.heap.size w wp) (fun y wr => 8 - (intOf y).toNat)
          case atStart => exact ⟨0, by omega, rfl, HRO.out, HO.out⟩
          case round =>
            obtain ⟨k, hk, rfl, hreg, hbw⟩ := hrel
            have HP := Lib.hid hbw
            have HRP := Lib.hid hreg
            clear hbw hreg HO HRO hlt
            by_cases hk8 : k < 8
            · go_wp2_with fail
              obtain ⟨pw, h1, h2, h3, h4⟩ := pow8 k hk8
              have hbit := Lib.hid (h4 (s[i]).toNat)
              have hd := quo8 (s[i]).toNat pw hc.out h2
              have hfnext := Lib.hid (feed_next R (s[i]).toNat k hk8)
              have hxl := Lib.hid (show feedB R ((bitsN 8 (s[i]).toNat).take k) < 4294967296 from feedB_lt _ hq.out)
              generalize feedB R ((bitsN 8 (s[i]).toNat).take k) = x at *
              obtain ⟨d, hd1⟩ : ∃ d, d = (s[i]).toNat / pw := ⟨_, rfl⟩
              rw [← hd1] at hbit hd
              clear hd1 h4
              go_quiet (fail)
              have HRQ := Lib.hid (show Regs w.heap.size (fun j => x.testBit j) (wr.drewN nq) from HRP.out)
              have HQ := Lib.hid (below_drewN HP.out nq)
              have hbe : ((d : Int) % 2 == 1) = (s[i]).toNat.testBit k := by rw [← hbit.out]; exact beq_eq_decide _ _
              rw [hbe]
              generalize (s[i]).toNat.testBit k = bit at *
              generalize wr.drewN nq = wq at *
              clear HRP HP hbe hbit
              have c0 : wq.cell? ⟨w.heap.size, 0, none⟩ = some (.bool (x.testBit 0)) := (HRQ.out 0 (by omega)).1
              obtain ⟨low, hlow⟩ : ∃ low, low = x.testBit 0 := ⟨_, rfl⟩
              rw [← hlow] at c0
              have HLOW := Lib.hid hlow
              clear hlow
              go_wp2_with fail
              obtain ⟨out, hout⟩ : ∃ out, out = !(low == bit) := ⟨_, rfl⟩
              rw [← hout]
              have HOUT := Lib.hid (show stepB x bit = x / 2 ^^^ (if out = true then 2197175160 else 0) by rw [hout, HLOW.out]; rfl)
              clear hout HLOW c0
              go_loopw [9] (fun y wl => ∃ j : Nat, j ≤ 31 ∧ y = .int .i64 j ∧ Regs w.heap.size (down x j) wl ∧ Below w.heap.size w wl) (fun y wl => 31 - (intOf y).toNat)
              case atStart => exact ⟨0, by omega, rfl, HRQ.out.same (fun j _ => by simp [down]), HQ.out⟩
              case round =>
                obtain ⟨j, hj, rfl, hreg, hbw⟩ := hrel
                have HL := Lib.hid hbw
                have HRL := Lib.hid hreg
                clear hbw hreg HRQ HQ
                by_cases hj31 : j < 31
                · obtain ⟨c1, _⟩ := HRL.out (j + 1) (by omega)
                  obtain ⟨c2, c3⟩ := HRL.out j (by omega)
                  obtain ⟨nx, hnx⟩ : ∃ nx, nx = down x j (j + 1) := ⟨_, rfl⟩
                  obtain ⟨ol, hol⟩ : ∃ ol, ol = down x j j := ⟨_, rfl⟩
                  rw [← hnx] at c1
                  rw [← hol] at c2
                  have HN := Lib.hid hnx
                  clear hnx hol
                  go_wp2_with fail
                  go_roundw
                  case rel =>
                    refine ⟨j + 1, by omega, by go_num, (HRL.out.set (by omega) nx).same (fun i hi => ?_), HL.out.setCell (Nat.le_refl _) _⟩
                    rw [HN.out]
                    exact down_next x j i
                  case measure => simp [intOf]; omega
                · obtain rfl : j = 31 := by omega
                  obtain ⟨c2, c3⟩ := HRL.out 31 (by omega)
                  obtain ⟨ol, hol⟩ : ∃ ol, ol = down x 31 31 := ⟨_, rfl⟩
                  rw [← hol] at c2
                  clear hol
                  go_wp2_with fail
                  have HR5 := Lib.hid (show Regs w.heap.size (added (x / 2) 0) (wr.setCell ⟨w.heap.size, 31, none⟩ (.bool false)) from (HRL.out.set (i := 31) (by omega) false).same (fun i hi => by
                    rw [show added (x / 2) 0 i = (x / 2).testBit i by simp [added]]
                    exact down_all x i hxl.out hi))
                  have HB5 := Lib.hid (HL.out.setCell (p := ⟨w.heap.size, 31, none⟩) (Nat.le_refl _) (.bool false))
                  clear HRL HL c2 c3
                  generalize wr.setCell ⟨w.heap.size, 31, none⟩ (.bool false) = ws at *
                  cases out with
                  | false =>
                    go_loopw [10] (fun y wl => y = .int .i64 0 ∧ Regs w.heap.size (added (x / 2) 0) wl ∧ Below w.heap.size w wl) (fun y wl => 0)
                    case atStart => exact ⟨rfl, HR5.out, HB5.out⟩
                    case round =>
                      obtain ⟨rfl, hreg, hbw⟩ := hrel
                      have HL := Lib.hid hbw
                      have HRL := Lib.hid hreg
                      clear hbw hreg HR5 HB5
                      go_wp2_with fail
                      go_roundw
                      case rel =>
                        refine ⟨k + 1, by omega, by go_num, HRL.out.same (fun i hi => ?_), HL.out⟩
                        rw [hfnext.out, HOUT.out]
                        simp [added]
                      case measure => simp [intOf]; omega
                  | true =>
                    go_loopw [10] (fun y wl => ∃ j : Nat, j ≤ 32 ∧ y = .int .i64 j ∧ Regs w.heap.size (added (x / 2) j) wl ∧ Below w.heap.size w wl) (fun y wl => 32 - (intOf y).toNat)
                    case atStart => exact ⟨0, by omega, rfl, HR5.out, HB5.out⟩
                    case round =>
                      obtain ⟨j, hj, rfl, hreg, hbw⟩ := hrel
                      have HL := Lib.hid hbw
                      have HRL := Lib.hid hreg
                      clear hbw hreg HR5 HB5
                      by_cases hj32 : j < 32
                      · obtain ⟨c2, c3⟩ := HRL.out j (by omega)
                        obtain ⟨ol, hol⟩ : ∃ ol, ol = added (x / 2) j j := ⟨_, rfl⟩
                        rw [← hol] at c2
                        have HOL := Lib.hid hol
                        obtain ⟨pq, p1, p2, p3, dd, p4, p5, p6⟩ := pow32 j hj32
                        clear hol
                        cases htap : (2197175160 : Nat).testBit j with
                        | true =>
                          rw [htap] at p6
                          have HTAP := Lib.hid htap
                          clear htap
                          go_wp2_with fail
                          go_roundw
                          case rel =>
                            refine ⟨j + 1, by omega, by go_num, (HRL.out.set (by omega) (!ol)).same (fun i hi => ?_), HL.out.setCell (Nat.le_refl _) _⟩
                            rw [HOL.out]
                            exact added_yes (x / 2) j i HTAP.out
                          case measure => simp [intOf]; omega
                        | false =>
                          rw [htap] at p6
                          have HTAP := Lib.hid htap
                          clear htap
                          go_wp2_with fail
                          go_roundw
                          case rel =>
                            refine ⟨j + 1, by omega, by go_num, HRL.out.same (fun i hi => added_no (x / 2) j i HTAP.out), HL.out⟩
                          case measure => simp [intOf]; omega
                      · obtain rfl : j = 32 := by omega
                        go_wp2_with fail
                        go_roundw
                        case rel =>
                          refine ⟨k + 1, by omega, by go_num, HRL.out.same (fun i hi => ?_), HL.out⟩
                          rw [hfnext.out, HOUT.out]
                          simp [added, hi]
                        case measure => simp [intOf]; omega
            · obtain rfl : k = 8 := by omega
              rw [feed_all R _ hc.out, ← hfn.out] at HRP
              go_wp2_with fail
              go_roundw
              case rel => exact ⟨i + 1, by omega, by go_num, HRP.out, HP.out⟩
              case measure => simp [intOf]; omega
        · obtain rfl : i = s.size := by omega
          rw [feedS_all] at HRO
          have hrl := feedL_lt' s.data.toList (r := 4294967295) (by decide)
          have hsum : sumL s.data.toList = turnedFrom (feedL 4294967295 s.data.toList) 0 := by unfold sumL turnedFrom; simp
          generalize feedL 4294967295 s.data.toList = r at *
          have HRr := Lib.hid hrl
          have HSUM := Lib.hid hsum
          clear hrl hsum
          go_wp2_with fail
          go_loopw [11, 12] (fun x y wl => ∃ j : Nat, j ≤ 32 ∧ y = .int .i64 ((j : Int) - 1) ∧ x = .int .u32 (turnedFrom r j) ∧ Regs w.heap.size (fun j => r.testBit j) wl ∧ Below w.heap.size w wl) (fun x y wl => (intOf y + 1).toNat)
          case atStart => exact ⟨32, by omega, rfl, by rw [turned_top]; rfl, HRO.out, HO.out⟩
          case round =>
            obtain ⟨j, hj, rfl, rfl, hreg, hbw⟩ := hrel
            have HL := Lib.hid hbw
            have HRL := Lib.hid hreg
            clear hbw hreg HRO HO
            rcases Nat.eq_zero_or_pos j with rfl | hpos
            · rw [show ((0 : Nat) : Int) - 1 = -1 from rfl]
              go_wp2_with fail
              go_ret
              exact ⟨ret_u32 HSUM.out, HL.out⟩
            · obtain ⟨m, rfl⟩ : ∃ m, j = m + 1 := ⟨j - 1, by omega⟩
              rw [show ((m + 1 : Nat) : Int) - 1 = (m : Int) by omega]
              have hnx := turned_next r m HRr.out (by omega)
              have hle : turnedFrom r m ≤ 4294967295 := by unfold turnedFrom; exact Nat.le_trans (Nat.div_le_self _ _) (by omega)
              have c1 : wr.cell? ⟨w.heap.size, m, none⟩ = some (.bool (r.testBit m)) := (HRL.out m (by omega)).1
              generalize turnedFrom r (m + 1) = X at *
              obtain ⟨Y, hYd⟩ : ∃ Y, Y = turnedFrom r m := ⟨_, rfl⟩
              rw [← hYd] at hnx hle
              have HYD := Lib.hid hYd
              clear hYd
              cases hb : r.testBit m with
              | true =>
                rw [hb] at hnx c1
                rw [if_pos rfl] at hnx
                have hY : (2 : Int) * (X : Int) = (Y : Int) := by omega
                clear hnx hb
                go_wp2_with fail
                go_roundw
                case rel => exact ⟨m, by omega, rfl, by rw [HYD.out], HRL.out, HL.out⟩
                case measure => simp [intOf]
              | false =>
                rw [hb] at hnx c1
                rw [if_neg (by simp)] at hnx
                have hY : (2 : Int) * (X : Int) + 1 = (Y : Int) := by omega
                clear hnx hb
                go_wp2_with fail
                go_roundw
                case rel => exact ⟨m, by omega, rfl, by rw [HYD.out], HRL.out, HL.out⟩
                case measure => simp [intOf]
end Go.Proofs.Ytkelcmncjhnbgaa
/- The document's own answers: a text with its sum, put and taken. -/
set_option linter.unusedVariables false
set_option maxRecDepth 100000
namespace Go.Proofs.Ytkelcmncjhnbgaa
open Go.RowKit

set_option maxHeartbeats 400000 in
theorem ref_Four (x : Nat) (w : World) (hx : x < 4294967296) :
    Calls Try.prog 63 #[.int .u32 x] w fun e w' => e = .returned (.string (bs (four x))) ∧ Below w.heap.size w w' := by
  have hconv := conv_four w w.heap.size x rfl ((x : Int) / 16777216) ((x : Int) / 65536 % 256) ((x : Int) / 256 % 256) ((x : Int) % 256) (by omega) (by omega) (by omega) (by omega)
  go_enter Try.func63, Try.ntmps63
  go_wp2
  go_ret
  exact ⟨rfl, (Below.refl _ _).alloc (Nat.le_refl _) _⟩

set_option maxHeartbeats 400000 in
theorem ref_Put (s : ByteArray) (w : World) (hs : s.size ≤ 140737488351232) :
    Calls Try.prog 49 #[.string s] w fun e w' => e = .returned (.string (bs (s.data.toList ++ four (sumL s.data.toList)))) ∧ Below w.heap.size w w' := by
  have hcat := cat_bs s (four (sumL s.data.toList))
  have hsum : (s.size : Int) + ((bs (four (sumL s.data.toList))).size : Int) ≤ 9223372036854775807 := by rw [bs_size, four_len]; omega
  have hlt := sumL_lt s.data.toList
  go_enter Try.func49, Try.ntmps49
  go_wp2_with fail
  refine (ref_SumC s w (by omega)).mono ?_
  rintro e w1 ⟨rfl, k1⟩
  go_wp2_with fail
  refine (ref_Four _ w1 hlt).mono ?_
  rintro e w2 ⟨rfl, k2⟩
  go_wp2
  go_ret
  exact ⟨rfl, k1.trans (k2.mono k1.size)⟩

theorem seen_refSum (W : World) (s : ByteArray) (hs : s.size ≤ 140737488355328) (n : Seen W) : Calls Try.prog 64 #[.string s] n.val fun e w'' => e = .returned (.int .u32 (sumL s.data.toList)) ∧ ∃ m : Seen W, w'' = m.val :=
  (ref_SumC s n.val hs).mono fun _ w'' ⟨h1, h2⟩ => ⟨h1, ⟨⟨w'', n.below.trans (h2.mono n.below.size)⟩, rfl⟩⟩
theorem seen_refFour (W : World) (x : Nat) (hx : x < 4294967296) (n : Seen W) : Calls Try.prog 63 #[.int .u32 x] n.val fun e w'' => e = .returned (.string (bs (four x))) ∧ ∃ m : Seen W, w'' = m.val :=
  (ref_Four x n.val hx).mono fun _ w'' ⟨h1, h2⟩ => ⟨h1, ⟨⟨w'', n.below.trans (h2.mono n.below.size)⟩, rfl⟩⟩

set_option maxHeartbeats 400000 in
theorem ref_Take (s : ByteArray) (w : World) (hs : s.size ≤ 140737488355328) :
    Calls Try.prog 39 #[.string s] w fun e w' => e = .returned (.tuple #[.string (bs (takeT s.data.toList)), .int .i64 (takeE s.data.toList)]) ∧ Below w.heap.size w w' := by
  have hl : s.data.toList.length = s.size := by rw [← Lib.size_eq]
  by_cases h4 : s.size < 4
  · have e1 : takeT s.data.toList = [] := by unfold takeT; rw [if_neg (by omega)]
    have e2 : takeE s.data.toList = 2 := by unfold takeE; rw [if_pos (by omega)]
    rw [e1, e2]
    clear e1 e2
    go_enter Try.func39, Try.ntmps39
    go_wp2
    go_ret2
    exact ⟨rfl, Below.refl _ _⟩
  · obtain ⟨n, hn⟩ : ∃ n : Nat, s.size = n + 4 := ⟨s.size - 4, by omega⟩
    obtain ⟨x1, x2⟩ := take_split (s := s) (n := n) (by omega)
    have hok : okT s.data.toList ↔ s.data.toList.drop n = four (sumL (s.data.toList.take n)) := by unfold okT; rw [hl, hn, Nat.add_sub_cancel]
    have e1 : takeT s.data.toList = if okT s.data.toList then s.data.toList.take n else [] := by
      unfold takeT
      rw [hl, hn, Nat.add_sub_cancel]
      by_cases h : okT s.data.toList
      · rw [if_pos ⟨by omega, h⟩, if_pos h]
      · rw [if_neg (fun x => h x.2), if_neg h]
    have e2 : takeE s.data.toList = if okT s.data.toList then 0 else 4 := by unfold takeE; rw [if_neg (by omega)]
    have hsz : ((s.size : Int) - 4) = (n : Int) := by omega
    have hle : n ≤ s.size := by omega
    have hlen : (s.data.toList.take n).length ≤ 140737488355328 := by rw [List.length_take]; omega
    have HN := Lib.hid hn
    clear hn
    go_enter Try.func39, Try.ntmps39
    go_wp2_with fail
    refine region_seen (by kernel_rfl) (by kernel_rfl) ?_
    repeat (go_big_quiet_step (first | (go_at_call 64; exact seen_refSum _ _ (by rw [bs_size]; exact hlen) _) | (go_at_call 63; exact seen_refFour _ _ (sumL_lt _) _)))
    refine wpQuiet_nil ?_
    rintro _ ⟨m, rfl⟩
    go_wp2_with fail
    · rename_i h
      rw [Bool.not_eq_true', Bool.eq_false_iff, Ne, same_bytes, bs_list, ← hok] at h
      go_ret2
      exact ⟨ret2s (by rw [e1, if_neg h]; rfl) (by rw [e2, if_neg h]), m.below⟩
    · rename_i h
      rw [Bool.not_eq_false', same_bytes, bs_list, ← hok] at h
      go_ret2
      exact ⟨ret2s (by rw [e1, if_pos h]) (by rw [e2, if_pos h]), m.below⟩
end Go.Proofs.Ytkelcmncjhnbgaa
/- Frames: the program's and the document's; the record of the frame that bytes begin with. -/
set_option linter.unusedVariables false
set_option maxRecDepth 100000
namespace Go.Proofs.Ytkelcmncjhnbgaa
open Go.RowKit

set_option maxHeartbeats 1000000 in
theorem wal_Frame (s : List UInt8) (w : World) (hs : s.length ≤ 1000000000) :
    Calls Try.prog 11 #[.string (bs s)] w fun e w' => e = .returned (.string (bs (frameL s))) ∧ Below w.heap.size w w' := by
  have hz : (bs s).size = s.length := bs_size s
  have ht := Lib.hid (text_le (r := s) (by omega))
  go_enter Try.func11, Try.ntmps11
  go_wp2_with fail
  refine (six_New w).mono ?_
  rintro e w1 ⟨rfl, h1⟩
  have H1 : Hid (Wt w.heap.size w.heap.size [] w1) := Lib.hid (h1 ▸ wt_new w)
  have K1 : Hid (Below w.heap.size w w1) := Lib.hid (h1 ▸ (Below.refl _ _).alloc (Nat.le_refl _) _)
  clear h1
  go_wp2_with fail
  refine (six_Text w.heap.size w.heap.size [] (bs s) w1 H1.out (by rw [hz]; simp; omega)).mono ?_
  rintro e w2 ⟨rfl, h2, k2⟩
  rw [List.nil_append, bs_list] at h2
  have H2 := Lib.hid h2
  have K2 := Lib.hid (K1.out.trans k2)
  clear h2 k2
  go_wp2_with fail
  refine (six_Bytes w.heap.size w.heap.size _ w2 H2.out).mono ?_
  rintro e w3 ⟨rfl, h3, k3, _⟩
  have K3 := Lib.hid (K2.out.trans k3)
  clear h3 k3
  go_wp2_with fail
  refine (crc_Put (bs (text s)) w3 (by rw [bs_size]; have := ht.out; omega)).mono ?_
  rintro e w4 ⟨rfl, k4⟩
  have K4 := Lib.hid (K3.out.trans (k4.mono K3.out.size))
  clear k4
  rw [bs_list]
  go_wp2
  go_ret
  exact ⟨rfl, K4.out⟩
set_option maxHeartbeats 1000000 in
theorem ref_Frame (s : List UInt8) (w : World) (hs : s.length ≤ 1000000000) :
    Calls Try.prog 25 #[.string (bs s)] w fun e w' => e = .returned (.string (bs (frameL s))) ∧ Below w.heap.size w w' := by
  have hz : (bs s).size = s.length := bs_size s
  have ht := Lib.hid (text_le (r := s) (by omega))
  go_enter Try.func25, Try.ntmps25
  go_wp2_with fail
  refine (ref_Text (bs s) w (by omega)).mono ?_
  rintro e w1 ⟨rfl, k1⟩
  rw [bs_list]
  go_wp2_with fail
  refine (ref_Put (bs (text s)) w1 (by rw [bs_size]; have := ht.out; omega)).mono ?_
  rintro e w4 ⟨rfl, k4⟩
  have K4 := Lib.hid (k1.trans (k4.mono k1.size))
  clear k4
  rw [bs_list]
  go_wp2
  go_ret
  exact ⟨rfl, K4.out⟩

/-- What first answers. -/
def firstV (l : List UInt8) : Value := match firstL l with
  | some (r, k) => .tuple #[.string (bs r), .int .i64 (k : Int), .bool true]
  | none => .tuple #[.string ⟨#[]⟩, .int .i64 0, .bool false]
theorem firstV_none {l : List UInt8} (h : firstL l = none) : firstV l = .tuple #[.string ⟨#[]⟩, .int .i64 0, .bool false] := by unfold firstV; rw [h]
theorem firstV_some {l r : List UInt8} {k : Nat} (h : firstL l = some (r, k)) : firstV l = .tuple #[.string (bs r), .int .i64 (k : Int), .bool true] := by unfold firstV; rw [h]
theorem take_err (l : List UInt8) (h : 4 ≤ l.length) : takeE l = if okT l then 0 else 4 := by unfold takeE; rw [if_neg (by omega)]
theorem bs_from (l : List UInt8) (k : Nat) (h : k ≤ l.length) : (bs l).extract k (bs l).size = bs (l.drop k) := (take_split (s := bs l) (by rw [bs_size]; exact h)).2
theorem bs_upto (l : List UInt8) (k : Nat) (h : k ≤ l.length) : (bs l).extract 0 k = bs (l.take k) := (take_split (s := bs l) (by rw [bs_size]; exact h)).1

set_option maxHeartbeats 2000000 in
theorem wal_first (l : List UInt8) (w : World) (hl : l.length ≤ 1000000000) :
    Calls Try.prog 37 #[.string (bs l)] w fun e w' => e = .returned (firstV l) ∧ Below w.heap.size w w' := by
  have hz : (bs l).size = l.length := bs_size l
  have hT : ∀ w1, Rt w.heap.size (bs l) w1 → _ := fun w1 h => six_ReadText w.heap.size (bs l) w1 h (by rw [hz]; unfold maxLen; omega)
  rw [bs_list] at hT
  have bad : ∀ e : Int, (e = 2 ∨ e = 3) → te l = e → ts l = [] → firstL l = none := fun e he h _ => first_no (by omega)
  rcases td_cases l with ⟨b1, b2, b3, b4, b5, b6, b7⟩ | ⟨b1 | b1, b2, b3⟩
  · have hk1 : tk l ≤ l.length := by rw [b6]; exact b4
    rw [b1, bs_from l _ hk1] at hT
    obtain ⟨t, ht⟩ : ∃ t, t = ts l := ⟨_, rfl⟩
    obtain ⟨k, hk⟩ : ∃ k, k = tk l := ⟨_, rfl⟩
    obtain ⟨q, hq⟩ : ∃ q, q = t.length := ⟨_, rfl⟩
    have htz : (bs t).size = q := by rw [bs_size, hq]
    have hql : q ≤ l.length := by rw [hq, ht, b7, List.length_take, List.length_drop]; omega
    rw [← ht, ← hk] at hT
    rw [← hk] at hk1
    have HT := Lib.hid (And.intro b1 (And.intro ht (And.intro hk hq)))
    clear b1 b2 b3 b4 b5 b6 b7 bad ht hk hq
    by_cases hbig : q ≤ 1048576
    · have hbig' : (q : Int) ≤ 1048576 := by omega
      have hR : ∀ w1, Rt w.heap.size (bs (l.drop k)) w1 → _ := fun w1 h => six_ReadRaw w.heap.size (bs (l.drop k)) 4 w1 h (by rw [bs_size, List.length_drop]; unfold maxLen; omega) (by omega) (by omega)
      rw [bs_list] at hR
      by_cases h4 : k + 4 ≤ l.length
      · have hw1 : wk (l.drop k) 4 = 4 := by unfold wk; rw [if_neg (by rw [List.length_drop]; omega)]; rfl
        have hw2 : we (l.drop k) 4 = 0 := by unfold we; rw [if_neg (by omega), if_neg (by rw [List.length_drop]; omega)]
        rw [hw1, hw2, bs_from _ 4 (by rw [List.length_drop]; omega), List.drop_drop] at hR
        obtain ⟨m, hm⟩ : ∃ m, m + (k + 4) = l.length := ⟨l.length - (k + 4), by omega⟩
        have hrz : (bs (l.drop (k + 4))).size = m := by rw [bs_size, List.length_drop]; omega
        have hsub : ((l.length : Int) - (m : Int)) = ((k + 4 : Nat) : Int) := by omega
        obtain ⟨n, hn⟩ : ∃ n, n = k + 4 := ⟨_, rfl⟩
        rw [← hn] at hrz hsub hR
        obtain ⟨cut, hcut⟩ : ∃ cut, cut = l.take n := ⟨_, rfl⟩
        have hex : (bs l).extract 0 n = bs cut := by rw [hcut]; exact bs_upto l n (by omega)
        have hcl : cut.length = n := by rw [hcut, List.length_take]; omega
        have hcs : (bs cut).size ≤ 140737488355328 := by rw [bs_size]; omega
        have hnl : n ≤ l.length := by omega
        have hnl' : (n : Int) ≤ (l.length : Int) := by omega
        by_cases hok : okT cut
        · have hE := Lib.hid (show takeE cut = 0 by rw [take_err cut (by omega), if_pos hok])
          have HF := Lib.hid (show firstV l = _ from firstV_some (by
            have := first_yes HT.out.1 (by rw [← HT.out.2.1, ← HT.out.2.2.2]; exact hbig) (by rw [← HT.out.2.2.1]; exact h4) (by rw [← HT.out.2.2.1, ← hn, ← hcut]; exact hok)
            rw [this, ← HT.out.2.1, ← HT.out.2.2.1, ← hn]))
          clear hok HT hcut hn
          rw [HF.out]
          go_enter Try.func37, Try.ntmps37
          go_wp2_with fail
          refine (six_Over (bs l) w).mono ?_
          rintro e w1 ⟨rfl, h1⟩
          have R1 : Hid (Rt w.heap.size (bs l) w1) := Lib.hid (h1 ▸ Rt.new (bs l) w)
          have K1 : Hid (Below w.heap.size w w1) := Lib.hid (h1 ▸ (Below.refl _ _).alloc (Nat.le_refl _) _)
          clear h1
          go_wp2_with fail
          refine (hT w1 R1.out).mono ?_
          rintro e w2 ⟨rfl, h2, k2⟩
          have R2 := Lib.hid h2
          have K2 := Lib.hid (K1.out.trans (k2.below (fun k _ hk => Nat.le_of_eq hk.symm) K1.out.size))
          clear h2 k2 K1 R1
          go_wp2_with fail
          refine (hR w2 R2.out).mono ?_
          rintro e w3 ⟨rfl, h3, k3⟩
          have R3 := Lib.hid h3
          have K3 := Lib.hid (K2.out.trans (k3.below (fun k _ hk => Nat.le_of_eq hk.symm) K2.out.size))
          clear h3 k3 K2 R2
          go_wp2_with fail
          refine (six_Rest w.heap.size _ w3 R3.out).mono ?_
          rintro e w4 ⟨rfl, rfl⟩
          go_wp2_with fail
          refine (crc_Take (bs cut) w3 hcs).mono ?_
          rintro e w4 ⟨rfl, k4⟩
          have K4 := Lib.hid (K3.out.trans (k4.mono K3.out.size))
          clear k4 K3
          rw [bs_list, hE.out]
          go_wp2
          go_ret3
          exact ⟨rfl, K4.out⟩
        · have hE := Lib.hid (show takeE cut = 4 by rw [take_err cut (by omega), if_neg hok])
          have HF := Lib.hid (show firstV l = _ from firstV_none (first_no (by
            intro hh
            have := hh.2.2.2
            rw [← HT.out.2.2.1, ← hn, ← hcut] at this
            exact hok this)))
          clear hok HT hcut hn
          rw [HF.out]
          go_enter Try.func37, Try.ntmps37
          go_wp2_with fail
          refine (six_Over (bs l) w).mono ?_
          rintro e w1 ⟨rfl, h1⟩
          have R1 : Hid (Rt w.heap.size (bs l) w1) := Lib.hid (h1 ▸ Rt.new (bs l) w)
          have K1 : Hid (Below w.heap.size w w1) := Lib.hid (h1 ▸ (Below.refl _ _).alloc (Nat.le_refl _) _)
          clear h1
          go_wp2_with fail
          refine (hT w1 R1.out).mono ?_
          rintro e w2 ⟨rfl, h2, k2⟩
          have R2 := Lib.hid h2
          have K2 := Lib.hid (K1.out.trans (k2.below (fun k _ hk => Nat.le_of_eq hk.symm) K1.out.size))
          clear h2 k2 K1 R1
          go_wp2_with fail
          refine (hR w2 R2.out).mono ?_
          rintro e w3 ⟨rfl, h3, k3⟩
          have R3 := Lib.hid h3
          have K3 := Lib.hid (K2.out.trans (k3.below (fun k _ hk => Nat.le_of_eq hk.symm) K2.out.size))
          clear h3 k3 K2 R2
          go_wp2_with fail
          refine (six_Rest w.heap.size _ w3 R3.out).mono ?_
          rintro e w4 ⟨rfl, rfl⟩
          go_wp2_with fail
          refine (crc_Take (bs cut) w3 hcs).mono ?_
          rintro e w4 ⟨rfl, k4⟩
          have K4 := Lib.hid (K3.out.trans (k4.mono K3.out.size))
          clear k4 K3
          rw [bs_list, hE.out]
          go_wp2
          go_ret3
          exact ⟨rfl, K4.out⟩
      · have hw2 : we (l.drop k) 4 = 2 := by unfold we; rw [if_neg (by omega), if_pos (by rw [List.length_drop]; omega)]
        rw [hw2] at hR
        have HF := Lib.hid (show firstV l = _ from firstV_none (first_no (by
          intro hh
          have := hh.2.2.1
          rw [← HT.out.2.2.1] at this
          exact h4 this)))
        clear HT
        rw [HF.out]
        go_enter Try.func37, Try.ntmps37
        go_wp2_with fail
        refine (six_Over (bs l) w).mono ?_
        rintro e w1 ⟨rfl, h1⟩
        have R1 : Hid (Rt w.heap.size (bs l) w1) := Lib.hid (h1 ▸ Rt.new (bs l) w)
        have K1 : Hid (Below w.heap.size w w1) := Lib.hid (h1 ▸ (Below.refl _ _).alloc (Nat.le_refl _) _)
        clear h1
        go_wp2_with fail
        refine (hT w1 R1.out).mono ?_
        rintro e w2 ⟨rfl, h2, k2⟩
        have R2 := Lib.hid h2
        have K2 := Lib.hid (K1.out.trans (k2.below (fun k _ hk => Nat.le_of_eq hk.symm) K1.out.size))
        clear h2 k2 K1 R1
        go_wp2_with fail
        refine (hR w2 R2.out).mono ?_
        rintro e w3 ⟨rfl, h3, k3⟩
        have R3 := Lib.hid h3
        have K3 := Lib.hid (K2.out.trans (k3.below (fun k _ hk => Nat.le_of_eq hk.symm) K2.out.size))
        clear h3 k3 K2 R2
        go_wp2
        go_ret3
        exact ⟨rfl, K3.out⟩
    · have hbig' : (1048576 : Int) < (q : Int) := by omega
      have HF := Lib.hid (show firstV l = _ from firstV_none (first_no (by
        intro hh
        have := hh.2.1
        rw [← HT.out.2.1, ← HT.out.2.2.2] at this
        exact hbig this)))
      clear HT
      rw [HF.out]
      go_enter Try.func37, Try.ntmps37
      go_wp2_with fail
      refine (six_Over (bs l) w).mono ?_
      rintro e w1 ⟨rfl, h1⟩
      have R1 : Hid (Rt w.heap.size (bs l) w1) := Lib.hid (h1 ▸ Rt.new (bs l) w)
      have K1 : Hid (Below w.heap.size w w1) := Lib.hid (h1 ▸ (Below.refl _ _).alloc (Nat.le_refl _) _)
      clear h1
      go_wp2_with fail
      refine (hT w1 R1.out).mono ?_
      rintro e w2 ⟨rfl, h2, k2⟩
      have R2 := Lib.hid h2
      have K2 := Lib.hid (K1.out.trans (k2.below (fun k _ hk => Nat.le_of_eq hk.symm) K1.out.size))
      clear h2 k2 K1 R1
      go_wp2
      go_ret3
      exact ⟨rfl, K2.out⟩
  · rw [b1] at hT
    rw [firstV_none (bad 2 (.inl rfl) b1 b2)]
    clear b1 b2 b3 bad
    go_enter Try.func37, Try.ntmps37
    go_wp2_with fail
    refine (six_Over (bs l) w).mono ?_
    rintro e w1 ⟨rfl, h1⟩
    have R1 : Hid (Rt w.heap.size (bs l) w1) := Lib.hid (h1 ▸ Rt.new (bs l) w)
    have K1 : Hid (Below w.heap.size w w1) := Lib.hid (h1 ▸ (Below.refl _ _).alloc (Nat.le_refl _) _)
    clear h1
    go_wp2_with fail
    refine (hT w1 R1.out).mono ?_
    rintro e w2 ⟨rfl, h2, k2⟩
    have R2 := Lib.hid h2
    have K2 := Lib.hid (K1.out.trans (k2.below (fun k _ hk => Nat.le_of_eq hk.symm) K1.out.size))
    clear h2 k2 K1 R1
    go_wp2
    go_ret3
    exact ⟨rfl, K2.out⟩
  · rw [b1] at hT
    rw [firstV_none (bad 3 (.inr rfl) b1 b2)]
    clear b1 b2 b3 bad
    go_enter Try.func37, Try.ntmps37
    go_wp2_with fail
    refine (six_Over (bs l) w).mono ?_
    rintro e w1 ⟨rfl, h1⟩
    have R1 : Hid (Rt w.heap.size (bs l) w1) := Lib.hid (h1 ▸ Rt.new (bs l) w)
    have K1 : Hid (Below w.heap.size w w1) := Lib.hid (h1 ▸ (Below.refl _ _).alloc (Nat.le_refl _) _)
    clear h1
    go_wp2_with fail
    refine (hT w1 R1.out).mono ?_
    rintro e w2 ⟨rfl, h2, k2⟩
    have R2 := Lib.hid h2
    have K2 := Lib.hid (K1.out.trans (k2.below (fun k _ hk => Nat.le_of_eq hk.symm) K1.out.size))
    clear h2 k2 K1 R1
    go_wp2
    go_ret3
    exact ⟨rfl, K2.out⟩
end Go.Proofs.Ytkelcmncjhnbgaa
/- A slice of the call's own that may begin behind its row's beginning: what it holds, one element more, its beginning taken off. -/
set_option linter.unusedVariables false
set_option maxRecDepth 100000
namespace Go.Proofs.Ytkelcmncjhnbgaa
open Go.RowKit

/-- v is a slice of n elements of type e, each of so many cells, in a row from block B on; its elements' cells are xs. -/
def OffRow (w : World) (B : Nat) (e : TypeId) (size : Nat) (v : Value) (n : Nat) (xs : List Value) : Prop :=
  xs.length = n * size ∧ ((v = .slice none 0 0 ∧ n = 0) ∨ ∃ g off cap cur, v = .slice (some ⟨g, off, none⟩) n cap ∧ B ≤ g ∧ w.heap[g]? = some (.cells cur e (0, 0)) ∧ n ≤ cap ∧ cap ≤ maxLen ∧ off + cap * size ≤ cur.size ∧ ∀ j, j < n * size → cur[off + j]? = xs[j]?)
namespace OffRow
variable {w w' : World} {B : Nat} {e : TypeId} {size : Nat} {v : Value} {n : Nat} {xs : List Value}
theorem nil (w : World) (B : Nat) (e : TypeId) (size : Nat) : OffRow w B e size (.slice none 0 0) 0 [] := ⟨by simp, .inl ⟨rfl, rfl⟩⟩
theorem slice (h : OffRow w B e size v n xs) : ∃ a cap, v = .slice a n cap := by
  rcases h.2 with ⟨rfl, rfl⟩ | ⟨g, off, cap, cur, rfl, _⟩
  · exact ⟨_, _, rfl⟩
  · exact ⟨_, _, rfl⟩
theorem form (h : OffRow w B e size v n xs) (hn : 0 < n) : ∃ g off cap cur, v = .slice (some ⟨g, off, none⟩) n cap ∧ B ≤ g ∧ w.heap[g]? = some (.cells cur e (0, 0)) ∧ ∀ j, j < n * size → w.cell? ⟨g, off + j, none⟩ = xs[j]? := by
  rcases h.2 with ⟨_, h0⟩ | ⟨g, off, cap, cur, rfl, hB, hg, h1, h2, h3, h4⟩
  · omega
  · exact ⟨g, off, cap, cur, rfl, hB, hg, fun j hj => by rw [← h4 j hj]; simp [World.cell?, hg]⟩
theorem lt (h : OffRow w B e size v n xs) : ∀ k, v.ownBlock = some k → B ≤ k ∧ k < w.heap.size := by
  intro k hk
  rcases h.2 with ⟨rfl, _⟩ | ⟨g, off, cap, cur, rfl, hB, hg, _⟩
  · simp [Value.ownBlock] at hk
  · simp [Value.ownBlock] at hk
    subst hk
    exact ⟨hB, heap_lt hg⟩
theorem tag (h : OffRow w B e size v n xs) {k : Nat} (hk : v.ownBlock = some k) : ∃ cur, w.heap[k]? = some (.cells cur e (0, 0)) := by
  rcases h.2 with ⟨rfl, _⟩ | ⟨g, off, cap, cur, rfl, hB, hg, _⟩
  · simp [Value.ownBlock] at hk
  · simp [Value.ownBlock] at hk
    subst hk
    exact ⟨cur, hg⟩
theorem kept (h : OffRow w B e size v n xs) (k : ∀ j, v.ownBlock = some j → w'.heap[j]? = w.heap[j]?) : OffRow w' B e size v n xs := by
  refine ⟨h.1, ?_⟩
  rcases h.2 with h0 | ⟨g, off, cap, cur, rfl, hB, hg, h1⟩
  · exact .inl h0
  · exact .inr ⟨g, off, cap, cur, rfl, hB, (k g rfl).trans hg, h1⟩
theorem of_own (h : w.ownsRow B e size v n xs) : OffRow w B e size v n xs := by
  refine ⟨h.1, ?_⟩
  rcases h.2 with h0 | ⟨g, cap, cur, rfl, hB, hg, h1, h2, h3, h4⟩
  · exact .inl h0
  · refine .inr ⟨g, 0, cap, cur, rfl, hB, hg, h1, h2, by omega, fun j hj => ?_⟩
    rw [← h4, List.getElem?_take, if_pos hj]
    simp
theorem cap_le (h : OffRow w B e size v n xs) : n ≤ maxLen := by
  rcases h.2 with ⟨_, h0⟩ | ⟨g, off, cap, cur, rfl, hB, hg, h1, h2, _⟩
  · unfold maxLen; omega
  · omega
/-- Its beginning is taken off. -/
theorem drop (h : OffRow w B e size v n xs) {a : Option Addr} {cap : Nat} (hv : v = .slice a n cap) {g : Nat} (hg : g ≤ n) : ∃ a', (g < cap → a' = a.map (·.add (g * size))) ∧ (g = cap → a' = a) ∧ OffRow w B e size (.slice a' (n - g) (cap - g)) (n - g) (xs.drop (g * size)) := by
  subst hv
  have hl : (xs.drop (g * size)).length = (n - g) * size := by rw [List.length_drop, h.1, Nat.sub_mul]
  rcases h.2 with ⟨h0, rfl⟩ | ⟨b, off, cap', cur, h0, hB, hh, h1, h2, h3, h4⟩
  · injection h0 with e1 _ e3
    subst e1 e3
    obtain rfl : g = 0 := by omega
    exact ⟨none, fun x => absurd x (by omega), fun _ => rfl, hl, .inl ⟨rfl, rfl⟩⟩
  · injection h0 with e1 _ e3
    subst e1 e3
    by_cases hc : g < cap
    · refine ⟨some ⟨b, off + g * size, none⟩, fun _ => by simp [addr_add], fun x => absurd x (by omega), hl, .inr ⟨b, off + g * size, cap - g, cur, rfl, hB, hh, by omega, by omega, ?_, fun j hj => ?_⟩⟩
      · have : g * size + (cap - g) * size = cap * size := by rw [← Nat.add_mul]; congr 1; omega
        omega
      · rw [Nat.sub_mul] at hj
        rw [List.getElem?_drop, Nat.add_assoc]
        exact h4 _ (by omega)
    · obtain rfl : g = cap := by omega
      obtain rfl : n = g := by omega
      refine ⟨some ⟨b, off, none⟩, fun x => absurd x (by omega), fun _ => rfl, hl, .inr ⟨b, off, n - n, cur, rfl, hB, hh, Nat.le_refl _, by omega, by simp; have := h3; omega, fun j hj => ?_⟩⟩
      simp at hj
end OffRow

theorem setCells_heap : ∀ (vs : List Value) (b o : Nat) (w : World) (cur : Array Value) (t : TypeId), w.heap[b]? = some (.cells cur t (0, 0)) → ∃ cur', (w.setCells b o vs).heap[b]? = some (.cells cur' t (0, 0)) ∧ cur'.size = cur.size ∧ (∀ j, j < vs.length → o + j < cur.size → cur'[o + j]? = vs[j]?) ∧ (∀ j, (j < o ∨ o + vs.length ≤ j) → cur'[j]? = cur[j]?)
  | [], b, o, w, cur, t, h => ⟨cur, h, rfl, fun j hj => absurd hj (by simp), fun _ _ => rfl⟩
  | v :: r, b, o, w, cur, t, h => by
    have h1 := heap_set (o := o) h v
    obtain ⟨cur', a1, a2, a3, a4⟩ := setCells_heap r b (o + 1) (w.setCell ⟨b, o, none⟩ v) _ t h1
    refine ⟨cur', a1, by rw [a2]; simp, fun j hj hlt => ?_, fun j hj => ?_⟩
    · cases j with
      | zero =>
        rw [a4 (o + 0) (.inl (by omega))]
        simp [Array.getElem?_setIfInBounds]
        omega
      | succ j =>
        have := a3 j (by simpa using hj) (by simp; omega)
        rw [show o + (j + 1) = o + 1 + j by omega]
        simpa using this
    · rw [a4 j (by simp at hj; omega), Array.getElem?_setIfInBounds, if_neg (by simp at hj; omega)]
theorem setCells_other : ∀ (vs : List Value) (b o : Nat) (w : World) (k : Nat), k ≠ b → (w.setCells b o vs).heap[k]? = w.heap[k]?
  | [], _, _, _, _, _ => rfl
  | v :: r, b, o, w, k, h => (setCells_other r b (o + 1) _ k h).trans (heap_set_other h v)
theorem setCells_meta : ∀ (vs : List Value) (b o : Nat) (w : World), (w.setCells b o vs).os = w.os ∧ (w.setCells b o vs).tape = w.tape ∧ (w.setCells b o vs).output = w.output ∧ (w.setCells b o vs).heap.size = w.heap.size
  | [], _, _, _ => ⟨rfl, rfl, rfl, rfl⟩
  | v :: r, b, o, w => by
    obtain ⟨h1, h2, h3, h4⟩ := setCells_meta r b (o + 1) (w.setCell ⟨b, o, none⟩ v)
    exact ⟨h1, h2, h3, h4.trans (by simp [World.setCell])⟩

/-- Elements more. -/
theorem run_append_off {P : Program} {w : World} {B : Nat} (t ty e : TypeId) (i : TypeInfo) (z : Value) (size bytes : Nat) (ht : P.underlying t = some (.slice e)) (hi : P.info? e = some i) (hz : i.zero = some z)
    (hsize : i.size = size) (hby : i.bytes = bytes) (hzs : z.cells.size = size)
    {v : Value} {n : Nat} {xs : List Value} (h : OffRow w B e size v n xs) (x : Value) (m : Nat) (news : List Value) (hs : Src P size t x m news w)
    (h63 : n + m ≤ maxLen) (hbytes : (n + m) * bytes ≤ 140737488355328) (hB : B ≤ w.heap.size) :
    ∃ v' w', (Builtin.append_ #[t, t] ty #[v, x]).run P w = .ok v' w' ∧ OffRow w' B e size v' (n + m) (xs ++ news) ∧ w.grownBy w' v.ownBlock ∧ (v'.ownBlock = v.ownBlock ∨ v'.ownBlock = some w.heap.size) := by
  subst hsize hby
  have hlen : (xs ++ news).length = (n + m) * i.size := by rw [List.length_append, h.1, hs.newsLen, Nat.add_mul]
  have hsmall : ((n + m : Nat) : Int) ≤ 9223372036854775807 := by unfold maxLen at h63; omega
  have grown : ∀ old, old < n + m → OffRow (w.drew.alloc (.cells ((xs ++ news).toArray ++ Builtin.zeroCells z.cells (grownCap w (n + m) old e - (n + m))) e)) B e i.size (.slice (some ⟨w.heap.size, 0, none⟩) (n + m) (grownCap w (n + m) old e)) (n + m) (xs ++ news) := by
    intro old ho
    refine ⟨hlen, .inr ⟨w.heap.size, 0, _, _, rfl, hB, heap_new w.drew _, grownCap_ge w (n + m) old e, grownCap_le_maxLen w (n + m) old e h63, ?_, fun j hj => ?_⟩⟩
    · have := grownCap_ge w (n + m) old e
      rw [Array.size_append, size_zeroCells, hzs, List.size_toArray, hlen, ← Nat.add_mul]
      exact Nat.le_of_eq (by rw [Nat.zero_add]; congr 1; omega)
    · rw [Nat.zero_add, Array.getElem?_append_left (by simpa [hlen] using hj)]
      simp
  rcases h.2 with ⟨rfl, rfl⟩ | ⟨g, off, cap, cur, rfl, hBg, hg, h1, h2, h3, h4⟩
  · obtain rfl : xs = [] := List.eq_nil_of_length_eq_zero (by simpa using h.1)
    by_cases hm : m = 0
    · subst hm
      obtain rfl : news = [] := List.eq_nil_of_length_eq_zero (by simpa using hs.newsLen)
      refine ⟨.slice none 0 0, w, ?_, OffRow.nil w B e i.size, ⟨rfl, rfl, rfl, Nat.le_refl _, fun _ _ _ => rfl⟩, .inl rfl⟩
      have hk := hs.kind
      simp [Builtin.append_, run_underlying ht, sizeOf, typeInfo, hi, hs.len, hs.cells]
    · have hold : (Builtin.firstCells i.size 0 (.slice none 0 0)).run P w.drew = .ok (#[] : Array Value) w.drew := rfl
      have hr := run_append_grow_src (P := P) w t t ty e i z ht hi hz none 0 0 [] (by simpa using hold) x m news hs (by omega) (by simpa using hsmall) (growslice_fits (by omega) (by simpa using hbytes))
      simp only [Nat.zero_add, List.nil_append] at hr
      have hgr := grown 0 (by omega)
      simp only [Nat.zero_add, List.nil_append] at hgr ⊢
      exact ⟨_, _, hr, hgr, ⟨rfl, rfl, rfl, by simp, fun k hk _ => Below.heap_alloc w.drew _ k hk⟩, .inr rfl⟩
  · by_cases hroom : n + m ≤ cap
    · have hbd : ∀ j, j < news.length → off + n * i.size + j < cur.size := by
        intro j hj
        rw [hs.newsLen] at hj
        have : (n + m) * i.size ≤ cap * i.size := Nat.mul_le_mul_right _ hroom
        rw [Nat.add_mul] at this
        omega
      have hr := run_append_room_src (P := P) w t t ty e i ht hi g off n cap x m news hs hroom (fun j hj => by simp [World.cell?, hg, hbd j hj]) (fun j hj => by simp [World.frozen?, hg])
      obtain ⟨cur', a1, a2, a3, a4⟩ := setCells_heap news g (off + n * i.size) w cur e hg
      obtain ⟨b1, b2, b3, b4⟩ := setCells_meta news g (off + n * i.size) w
      refine ⟨_, _, hr, ⟨hlen, .inr ⟨g, off, cap, cur', rfl, hBg, a1, hroom, h2, by omega, fun j hj => ?_⟩⟩, ⟨b1, b2, b3, by omega, fun k _ hk => setCells_other _ _ _ _ _ (fun e => hk (by simp [Value.ownBlock, e]))⟩, .inl rfl⟩
      by_cases hjo : j < n * i.size
      · rw [a4 _ (.inl (by omega)), h4 j hjo, List.getElem?_append_left (by rw [h.1]; exact hjo)]
      · have hjn : j - n * i.size < news.length := by rw [hs.newsLen]; rw [Nat.add_mul] at hj; omega
        rw [List.getElem?_append_right (by rw [h.1]; omega), h.1, ← a3 (j - n * i.size) hjn (hbd _ hjn)]
        congr 1
        omega
    · have hold : (Builtin.firstCells i.size n (.slice (some ⟨g, off, none⟩) n cap)).run P w.drew = .ok xs.toArray w.drew :=
        run_firstCells_some w.drew i.size n ⟨g, off, none⟩ n cap xs h.1 (fun j u hj => by
          have hjl : j < n * i.size := by rw [← h.1]; exact (List.getElem?_eq_some_iff.1 hj).1
          rw [addr_add]
          show w.cell? _ = _
          rw [← hj, ← h4 j hjl]
          simp [World.cell?, hg])
      have hr := run_append_grow_src (P := P) w t t ty e i z ht hi hz (some ⟨g, off, none⟩) n cap xs hold x m news hs (by omega) hsmall (growslice_fits (by omega) hbytes)
      exact ⟨_, _, hr, grown cap (by omega), ⟨rfl, rfl, rfl, by simp, fun k hk _ => Below.heap_alloc w.drew _ k hk⟩, .inr rfl⟩
theorem wp_append_off {P : Program} {w : World} {o : Oper} {a : Act} {K : Act → World → Prop} {Q : Exit → Act → World → Prop} (s x : Operand) (t : TypeId)
    (ho : o.op = .call { callee := .builtin .append, args := #[s, x], argTypes := #[t, t] })
    (B : Nat) (e : TypeId) (i : TypeInfo) (z : Value) (size bytes : Nat) (ht : P.underlying t = some (.slice e)) (hi : P.info? e = some i) (hz : i.zero = some z)
    (hsize : i.size = size) (hby : i.bytes = bytes) (hzs : z.cells.size = size)
    (v : Value) (n : Nat) (xs : List Value) (hs : a.eval s = v) (hown : OffRow w B e size v n xs) (xv : Value) (hx : a.eval x = xv) (m : Nat) (news : List Value) (hsrc : Src P size t xv m news w)
    (h63 : n + m ≤ maxLen) (hbytes : (n + m) * bytes ≤ 140737488355328) (hB : B ≤ w.heap.size)
    (h : ∀ v' w', OffRow w' B e size v' (n + m) (xs ++ news) → w.grownBy w' v.ownBlock → (v'.ownBlock = v.ownBlock ∨ v'.ownBlock = some w.heap.size) → K (a.put o.dst v') w') : o.wp P a w K Q := by
  obtain ⟨v', w', hr, h2, h3, h4⟩ := run_append_off (P := P) t o.type e i z size bytes ht hi hz hsize hby hzs hown xv m news hsrc h63 hbytes hB
  unfold Oper.wp execOp
  simp only [ho, resolve, invoke, builtin, Sem.run_bind, Sem.run_pure, Result.andThen_ok, List.map_toArray, List.map_cons, List.map_nil, hs, hx, hr]
  exact h v' w' h2 h3 h4
/-- At a plain region's list. -/
theorem wpList_append_off {P : Program} {w : World} {ops : Array Oper} {rest : List Oper} {o : Oper} {a : Act} {Q : Exit → Act → World → Prop} (hgd : o.guard = none) (s x : Operand) (t : TypeId)
    (ho : o.op = .call { callee := .builtin .append, args := #[s, x], argTypes := #[t, t] })
    (B : Nat) (e : TypeId) (i : TypeInfo) (z : Value) (size bytes : Nat) (ht : P.underlying t = some (.slice e)) (hi : P.info? e = some i) (hz : i.zero = some z)
    (hsize : i.size = size) (hby : i.bytes = bytes) (hzs : z.cells.size = size)
    (v : Value) (n : Nat) (xs : List Value) (hs : a.eval s = v) (hown : OffRow w B e size v n xs) (xv : Value) (hx : a.eval x = xv) (m : Nat) (news : List Value) (hsrc : Src P size t xv m news w)
    (h63 : n + m ≤ maxLen) (hbytes : (n + m) * bytes ≤ 140737488355328) (hB : B ≤ w.heap.size)
    (h : ∀ v' w', OffRow w' B e size v' (n + m) (xs ++ news) → w.grownBy w' v.ownBlock → (v'.ownBlock = v.ownBlock ∨ v'.ownBlock = some w.heap.size) → wpList P ops Q rest (a.put o.dst v') w') : wpList P ops Q (o :: rest) a w :=
  wpList_plain hgd fun _ hK => wp_append_off s x t ho B e i z size bytes ht hi hz hsize hby hzs v n xs hs hown xv hx m news hsrc h63 hbytes hB fun v' w' h2 h3 h4 => hK _ _ (h v' w' h2 h3 h4)
/-- At a step of a region that draws. -/
theorem step_append_off {P : Program} {w : World} {ops : Array Oper} {o : Oper} {a : Act} {K : Act → World → Prop} {Q : Exit → Act → World → Prop} {E : Prop} (hgd : o.guard = none) (s x : Operand) (t : TypeId)
    (ho : o.op = .call { callee := .builtin .append, args := #[s, x], argTypes := #[t, t] })
    (B : Nat) (e : TypeId) (i : TypeInfo) (z : Value) (size bytes : Nat) (ht : P.underlying t = some (.slice e)) (hi : P.info? e = some i) (hz : i.zero = some z)
    (hsize : i.size = size) (hby : i.bytes = bytes) (hzs : z.cells.size = size)
    (v : Value) (n : Nat) (xs : List Value) (hs : a.eval s = v) (hown : OffRow w B e size v n xs) (xv : Value) (hx : a.eval x = xv) (m : Nat) (news : List Value) (hsrc : Src P size t xv m news w)
    (h63 : n + m ≤ maxLen) (hbytes : (n + m) * bytes ≤ 140737488355328) (hB : B ≤ w.heap.size)
    (h : ∀ v' w', OffRow w' B e size v' (n + m) (xs ++ news) → w.grownBy w' v.ownBlock → (v'.ownBlock = v.ownBlock ∨ v'.ownBlock = some w.heap.size) → K (a.put o.dst v') w') :
    if Region.wanted o (yielded ops a.tmps) = true then Oper.wp P o a w K Q else E := by
  have hw : Region.wanted o (yielded ops a.tmps) = true := by simp [Region.wanted, hgd]
  rw [if_pos hw]
  exact wp_append_off s x t ho B e i z size bytes ht hi hz hsize hby hzs v n xs hs hown xv hx m news hsrc h63 hbytes hB h
/-- What a buildSlice has laid: a source of one element. -/
theorem src_block {P : Program} {size : Nat} {t e' : TypeId} (hk : P.underlying t = some (.slice e')) {w : World} {b : Nat} {cs : Array Value} {ty : TypeId} (hb : w.heap[b]? = some (.cells cs ty (0, 0))) (m c : Nat) (hl : cs.size = m * size) (h1 : ∀ u ∈ cs.toList, u.oneCell' = true) :
    Src P size t (.slice (some ⟨b, 0, none⟩) m c) m cs.toList w :=
  Src.ofSlice w hk ⟨b, 0, none⟩ m c cs.toList (by simpa using hl) (fun j u hu => by rw [addr_add, Nat.zero_add]; simp [World.cell?, hb]; simpa using hu) h1
/-- The builtin clear of the beginning of such a slice, which is taken off then. -/
theorem run_clear_off {P : Program} {w : World} {B : Nat} (t ty e : TypeId) (i : TypeInfo) (z : Value) (size : Nat) (ht : P.underlying t = some (.slice e)) (hi : P.info? e = some i) (hz : i.zero = some z) (hzs : z.cells.size = size) (hz1 : ∀ u ∈ z.cells.toList, u.oneCell' = true)
    {v : Value} {n : Nat} {xs : List Value} (h : OffRow w B e size v n xs) {a : Option Addr} {cap : Nat} (hv : v = .slice a n cap) (g : Nat) (hg : g ≤ n) (c : Nat) :
    ∃ w', (Builtin.clear_ #[t] ty #[.slice a g c]).run P w = .ok (.tuple #[]) w' ∧ w.grownBy w' v.ownBlock ∧ ∃ a', (g < cap → a' = a.map (·.add (g * size))) ∧ (g = cap → a' = a) ∧ OffRow w' B e size (.slice a' (n - g) (cap - g)) (n - g) (xs.drop (g * size)) := by
  by_cases h0 : g = 0
  · refine ⟨w, ?_, ⟨rfl, rfl, rfl, Nat.le_refl _, fun _ _ _ => rfl⟩, h.drop hv hg⟩
    subst h0
    cases a <;> simp [Builtin.clear_, run_underlying ht]
  · obtain ⟨a', d1, d2, d3⟩ := h.drop hv hg
    subst hv
    rcases h.2 with ⟨_, rfl⟩ | ⟨b, off, cap', cur, e0, hB, hh, h1, h2, h3, h4⟩
    · omega
    · injection e0 with e1 _ e3
      subst e1 e3
      have hzl : (Builtin.zeroCells z.cells g).toList.length = g * size := by rw [Array.length_toList, size_zeroCells, hzs]
      have hle : g * size ≤ cap * size := Nat.mul_le_mul_right _ (by omega)
      have hbd : ∀ j, j < (Builtin.zeroCells z.cells g).toList.length → off + 0 + j < cur.size := by intro j hj; rw [hzl] at hj; omega
      have hst := run_storeCells_cells (P := P) b off (Builtin.zeroCells z.cells g).toList 0 w (fun j hj => by simp only [World.cell?, hh]; simp [hbd j hj]; exact hbd j hj) (fun j hj => by simp [World.frozen?, hh]) (fun u hu => by
        simp [Builtin.zeroCells] at hu
        obtain ⟨k, hk, rfl⟩ := hu
        have hk2 : k % z.cells.size < z.cells.size := Nat.mod_lt _ (by rcases Nat.eq_zero_or_pos z.cells.size with x | x; (rw [x] at hk; simp at hk); (exact x))
        rw [getElem!_pos z.cells _ hk2]
        exact hz1 _ (by simp))
      obtain ⟨b1, b2, b3, b4⟩ := setCells_meta (Builtin.zeroCells z.cells g).toList b (off + 0) w
      obtain ⟨cur', q1, q2, _, q4⟩ := setCells_heap (Builtin.zeroCells z.cells g).toList b (off + 0) w cur e hh
      refine ⟨_, ?_, ⟨b1, b2, b3, by omega, fun k _ hk => setCells_other _ _ _ _ _ (fun e => hk (by simp [Value.ownBlock, e]))⟩, a', d1, d2, d3.1, ?_⟩
      · have hu : ∀ g', g = g' + 1 → (Builtin.clear_ #[t] ty #[.slice (some ⟨b, off, none⟩) g c]).run P w = .ok (.tuple #[]) (w.setCells b (off + 0) (Builtin.zeroCells z.cells g).toList) := by
          intro g' hg'
          subst hg'
          simp [Builtin.clear_, run_underlying ht, zeroValue, typeInfo, hi, hz, hst]
        exact hu (g - 1) (by omega)
      · rcases d3.2 with d | ⟨b', off', c', cu, e0, k1, k2, k3, k4, k5, k6⟩
        · exact .inl d
        · injection e0 with e1 _ e3
          have hbb : b' = b ∧ (n - g = 0 ∨ off + g * size ≤ off') := by
            rcases Nat.lt_or_ge g cap with x | x
            · rw [d1 x] at e1
              simp [addr_add] at e1
              exact ⟨e1.1.symm, .inr (by omega)⟩
            · rw [d2 (by omega)] at e1
              simp at e1
              exact ⟨e1.1.symm, .inl (by omega)⟩
          obtain ⟨rfl, hoff⟩ := hbb
          rw [hh] at k2
          injection k2 with k2
          injection k2 with k2
          subst k2
          refine .inr ⟨b', off', c', cur', by rw [e1, e3], k1, q1, k3, k4, by omega, fun j hj => ?_⟩
          rw [q4 _ (.inr ?_)]
          · exact k6 j hj
          · rcases hoff with x | x
            · rw [x] at hj; simp at hj
            · rw [hzl]; omega
/-- The slice expression 's[k:]'. -/
theorem slice_from {P : Program} {t e : TypeId} {i : TypeInfo} (ht : P.underlying t = some (.slice e)) (hi : P.info? e = some i) {size : Nat} (hs : i.size = size) {g off n cap k : Nat} (hk : k ≤ n) (hc : ¬ cap = k) (W : World) :
    (Instr.slice t (.slice (some ⟨g, off, none⟩) n cap) (some (.int .i64 (k : Int))) none none).run P W = .ok (.slice (some ⟨g, off + k * size, none⟩) (n - k) (cap - k)) W := by
  subst hs
  have h1 : (k : Int) ≤ (n : Int) := by omega
  simp [Instr.slice, run_underlying ht, Instr.sliceBounds, run_sliceBound, sizeOf, typeInfo, hi, hk, hc, addr_add]
/-- What is left when the beginning is taken off. -/
def Left (w : World) (B : Nat) (e : TypeId) (size : Nat) (a : Option Addr) (n cap g : Nat) (xs : List Value) : Prop :=
  ∃ a', (g < cap → a' = a.map (·.add (g * size))) ∧ (g = cap → a' = a) ∧ OffRow w B e size (.slice a' (n - g) (cap - g)) (n - g) (xs.drop (g * size))
theorem wpList_clear_off {P : Program} {w : World} {ops : Array Oper} {rest : List Oper} {o : Oper} {act : Act} {Q : Exit → Act → World → Prop} (hgd : o.guard = none) (s : Operand) (t : TypeId)
    (ho : o.op = .call { callee := .builtin .clear, args := #[s], argTypes := #[t] })
    (B : Nat) (e : TypeId) (i : TypeInfo) (z : Value) (size : Nat) (ht : P.underlying t = some (.slice e)) (hi : P.info? e = some i) (hz : i.zero = some z) (hzs : z.cells.size = size) (hz1 : ∀ u ∈ z.cells.toList, u.oneCell' = true)
    (v : Value) (n : Nat) (xs : List Value) (h : OffRow w B e size v n xs) (a : Option Addr) (cap : Nat) (hv : v = .slice a n cap) (g : Nat) (hg : g ≤ n) (c : Nat) (hs : act.eval s = .slice a g c)
    (hk : ∀ w', w.grownBy w' v.ownBlock → Left w' B e size a n cap g xs → wpList P ops Q rest (act.put o.dst (.tuple #[])) w') : wpList P ops Q (o :: rest) act w := by
  refine wpList_plain hgd fun K hK => ?_
  obtain ⟨w', hr, h2, h3⟩ := run_clear_off (P := P) t o.type e i z size ht hi hz hzs hz1 h hv g hg c
  unfold Oper.wp execOp
  simp only [ho, resolve, invoke, builtin, Sem.run_bind, Sem.run_pure, Result.andThen_ok, List.map_toArray, List.map_cons, List.map_nil, hs, hr]
  exact hK _ _ (hk w' h2 h3)
end Go.Proofs.Ytkelcmncjhnbgaa
