/- Texts put together: CrcRefSum, CrcRefPuts, WalFrame, WalSplit, WalLaw -/
import Derived.Test.YtgljjdldhnajdaaGreatMPac03
import Derived.RegionTactic
import Derived.Test.YtgljjdldhnajdaaGreatMPac01
import Derived.Test.YtgljjdldhnajdaaGreatMPac02
/- The document's own sum: bit by bit, as a list of bits. -/
set_option linter.unusedVariables false
set_option maxRecDepth 100000
namespace Go.Proofs.YtgljjdldhnajdaaGreat
open Go.RowKit

/-- In block B stand 32 bits. -/
def Regs (B : Nat) (g : Nat → Bool) (w : World) : Prop := ∀ j, j < 32 → w.cell? ⟨B, j, none⟩ = some (.bool (g j)) ∧ w.frozen? ⟨B, j, none⟩ = false

theorem Regs.same {B : Nat} {g g' : Nat → Bool} {w : World} (h : Regs B g w) (e : ∀ j, j < 32 → g j = g' j) : Regs B g' w := fun j hj => by rw [← e j hj]; exact h j hj
theorem Regs.set {B : Nat} {g : Nat → Bool} {w : World} (h : Regs B g w) {i : Nat} (hi : i < 32) (v : Bool) : Regs B (fun j => if j = i then v else g j) (w.setCell ⟨B, i, none⟩ (.bool v)) := by
  intro j hj
  refine ⟨?_, by rw [World.frozen?_setCell]; exact (h j hj).2⟩
  by_cases hji : j = i
  · subst hji
    rw [World.cell?_setCell_same w _ _ (h j hj).1]
    simp
  · rw [World.cell?_setCell_other w _ _ _ (fun e => hji (by injection e with _ e2; exact e2.symm)), (h j hj).1]
    simp [hji]
theorem regs_new (w : World) (t : TypeId) : Regs w.heap.size (fun _ => false) (w.alloc (.cells (Array.replicate 32 (.bool false)) t)) := by
  intro j hj
  refine ⟨?_, ?_⟩
  · rw [World.cell?_alloc_mark]
    simp [hj]
  · rw [World.frozen?_alloc_mark]
    simp

theorem down_next (x k j : Nat) : (if j = k then down x k (k + 1) else down x k j) = down x (k + 1) j := by
  unfold down
  by_cases hjk : j = k
  · subst hjk; rw [if_pos rfl, if_neg (by omega), if_pos (by omega)]
  · by_cases hl : j < k
    · simp [hjk, hl, show j < k + 1 by omega]
    · simp [hjk, hl, show ¬ j < k + 1 by omega]
theorem added_yes (y k j : Nat) (h : (2197175160 : Nat).testBit k = true) : (if j = k then !(added y k k) else added y k j) = added y (k + 1) j := by
  unfold added
  by_cases hjk : j = k
  · subst hjk
    rw [if_pos rfl, if_neg (by omega), if_pos (by omega), Nat.testBit_xor, h, Bool.xor_true]
  · by_cases hl : j < k
    · simp [hjk, hl, show j < k + 1 by omega]
    · simp [hjk, hl, show ¬ j < k + 1 by omega]
theorem added_no (y k j : Nat) (h : (2197175160 : Nat).testBit k = false) : added y k j = added y (k + 1) j := by
  unfold added
  by_cases hjk : j = k
  · subst hjk
    rw [if_neg (by omega), if_pos (by omega), Nat.testBit_xor, h, Bool.xor_false]
  · by_cases hl : j < k
    · simp [hl, show j < k + 1 by omega]
    · simp [hl, show ¬ j < k + 1 by omega]
theorem pow32 (k : Nat) (h : k < 32) : ∃ p : Nat, IntKind.u32.wrap ((2 : Int) ^ k) = (p : Int) ∧ 1 ≤ p ∧ ((p : Int) == 0) = false ∧ ∃ d : Nat, (2197175160 : Int) / (p : Int) = (d : Int) ∧ d ≤ 2197175160 ∧ ((d : Int) % 2 == 1) = (2197175160 : Nat).testBit k := by
  have hp : 2 ^ k < 2 ^ 32 := Nat.pow_lt_pow_right (by decide) h
  have h1 : 1 ≤ 2 ^ k := Nat.one_le_two_pow
  refine ⟨2 ^ k, ?_, h1, beq_eq_false_iff_ne.2 (by omega), 2197175160 / 2 ^ k, (Int.natCast_ediv 2197175160 (2 ^ k)).symm, Nat.div_le_self _ _, ?_⟩
  · rw [IntKind.wrap_u32', show ((2 : Int) ^ k) = ((2 ^ k : Nat) : Int) by simp]
    omega
  · rw [Nat.testBit_eq_decide_div_mod_eq]
    show decide _ = _
    apply decide_eq_decide.2
    omega
theorem ret_u32 {a b : Nat} (h : b = a) : Ending.returned (.int .u32 (a : Int)) = Ending.returned (.int .u32 (b : Int)) := by rw [h]
theorem beq_eq_decide (a b : Int) : (a == b) = decide (a = b) := rfl
theorem pow8 (k : Nat) (h : k < 8) : ∃ p : Nat, IntKind.u8.wrap ((2 : Int) ^ k) = (p : Int) ∧ 1 ≤ p ∧ ((p : Int) == 0) = false ∧ ∀ c : Nat, decide (((c / p : Nat) : Int) % 2 = 1) = c.testBit k := by
  have hp : 2 ^ k < 2 ^ 8 := Nat.pow_lt_pow_right (by decide) h
  have h1 : 1 ≤ 2 ^ k := Nat.one_le_two_pow
  refine ⟨2 ^ k, ?_, h1, beq_eq_false_iff_ne.2 (by omega), fun c => ?_⟩
  · rw [IntKind.wrap_u8', show ((2 : Int) ^ k) = ((2 ^ k : Nat) : Int) by simp]
    omega
  · rw [Nat.testBit_eq_decide_div_mod_eq]
    apply decide_eq_decide.2
    omega
theorem quo8 (c p : Nat) (hc : c < 256) (hp : 1 ≤ p) : (c : Int) / (p : Int) = ((c / p : Nat) : Int) := by omega

set_option maxHeartbeats 1000000 in
theorem ref_SumC (s : ByteArray) (w : World) (hs : s.size ≤ 140737488355328) :
    Calls Tryz.prog 108 #[.string s] w fun e w' => e = .returned (.int .u32 (sumL s.data.toList)) ∧ Below w.heap.size w w' := by
  go_enter Tryz.func108, Tryz.ntmps108
  go_wp2_with fail
  go_loopw [4] (fun i wr => ∃ k : Nat, k ≤ 32 ∧ i = .int .i64 k ∧ Regs w.heap.size (fun j => decide (j < k)) wr ∧ Below w.heap.size w wr) (fun i wr => 32 - (intOf i).toNat)
  case atStart => exact ⟨0, by omega, rfl, (regs_new w 206).same (fun j _ => by simp), (Below.refl _ _).alloc (Nat.le_refl _) _⟩
  case round =>
    obtain ⟨k, hk, rfl, hreg, hbw⟩ := hrel
    have HB := Lib.hid hbw
    have HR := Lib.hid hreg
    clear hbw hreg
    by_cases hlt : k < 32
    · obtain ⟨c1, c2⟩ := HR.out k hlt
      go_wp2_with fail
      go_roundw
      case rel => exact ⟨k + 1, by omega, by go_num, (HR.out.set hlt true).same (fun j _ => by by_cases hj : j = k <;> simp [hj] <;> omega), HB.out.setCell (Nat.le_refl _) _⟩
      case measure => simp [intOf]; omega
    · obtain rfl : k = 32 := by omega
      have HR1 := Lib.hid (show Regs w.heap.size (fun j => (4294967295 : Nat).testBit j) wr from HR.out.same (fun j hj => by
        have := Nat.testBit_two_pow_sub_one 32 j
        rw [show (2 : Nat) ^ 32 - 1 = 4294967295 by decide] at this
        rw [this]))
      clear HR
      go_wp2_with fail
      go_loopw [5] (fun i wo => ∃ k : Nat, k ≤ s.size ∧ i = .int .i64 k ∧ Regs w.heap.size (fun j => (feedL 4294967295 (s.data.toList.take k)).testBit j) wo ∧ Below w.heap.size w wo) (fun i wr => s.size - (intOf i).toNat)
      case atStart => exact ⟨0, by omega, rfl, HR1.out, HB.out⟩
      case round =>
        obtain ⟨i, hi, rfl, hreg, hbw⟩ := hrel
        have HO := Lib.hid hbw
        have HRO := Lib.hid hreg
        clear hbw hreg HB HR1
        by_cases hit : i < s.size
        · have hfn := Lib.hid (feedS_next 4294967295 s i hit)
          have hq := Lib.hid (feedL_lt' (s.data.toList.take i) (r := 4294967295) (by decide))
          generalize feedL 4294967295 (s.data.toList.take i) = R at *
          have hc := Lib.hid (s[i]).toNat_lt
          go_wp2_with fail
          go_loopw [6] (fun y wp => ∃ k : Nat, k ≤ 8 ∧ y = .int .i64 k ∧ Regs w.heap.size (fun j => (feedB R ((bitsN 8 (s[i]).toNat).take k)).testBit j) wp ∧ Below w.heap.size w wp) (fun y wr => 8 - (intOf y).toNat)
          case atStart => exact ⟨0, by omega, rfl, HRO.out, HO.out⟩
          case round =>
            obtain ⟨k, hk, rfl, hreg, hbw⟩ := hrel
            have HP := Lib.hid hbw
            have HRP := Lib.hid hreg
            clear hbw hreg HO HRO hlt
            by_cases hk8 : k < 8
            · go_wp2_with fail
              obtain ⟨pw, h1, h2, h3, h4⟩ := pow8 k hk8
              have hbit := Lib.hid (h4 (s[i]).toNat)
              have hd := quo8 (s[i]).toNat pw hc.out h2
              have hfnext := Lib.hid (feed_next R (s[i]).toNat k hk8)
              have hxl := Lib.hid (show feedB R ((bitsN 8 (s[i]).toNat).take k) < 4294967296 from feedB_lt _ hq.out)
              generalize feedB R ((bitsN 8 (s[i]).toNat).take k) = x at *
              obtain ⟨d, hd1⟩ : ∃ d, d = (s[i]).toNat / pw := ⟨_, rfl⟩
              rw [← hd1] at hbit hd
              clear hd1 h4
              go_quiet (fail)
              have HRQ := Lib.hid (show Regs w.heap.size (fun j => x.testBit j) (wr.drewN nq) from HRP.out)
              have HQ := Lib.hid (below_drewN HP.out nq)
              have hbe : ((d : Int) % 2 == 1) = (s[i]).toNat.testBit k := by rw [← hbit.out]; exact beq_eq_decide _ _
              rw [hbe]
              generalize (s[i]).toNat.testBit k = bit at *
              generalize wr.drewN nq = wq at *
              clear HRP HP hbe hbit
              have c0 : wq.cell? ⟨w.heap.size, 0, none⟩ = some (.bool (x.testBit 0)) := (HRQ.out 0 (by omega)).1
              obtain ⟨low, hlow⟩ : ∃ low, low = x.testBit 0 := ⟨_, rfl⟩
              rw [← hlow] at c0
              have HLOW := Lib.hid hlow
              clear hlow
              go_wp2_with fail
              obtain ⟨out, hout⟩ : ∃ out, out = !(low == bit) := ⟨_, rfl⟩
              rw [← hout]
              have HOUT := Lib.hid (show stepB x bit = x / 2 ^^^ (if out = true then 2197175160 else 0) by rw [hout, HLOW.out]; rfl)
              clear hout HLOW c0
              go_loopw [9] (fun y wl => ∃ j : Nat, j ≤ 31 ∧ y = .int .i64 j ∧ Regs w.heap.size (down x j) wl ∧ Below w.heap.size w wl) (fun y wl => 31 - (intOf y).toNat)
              case atStart => exact ⟨0, by omega, rfl, HRQ.out.same (fun j _ => by simp [down]), HQ.out⟩
              case round =>
                obtain ⟨j, hj, rfl, hreg, hbw⟩ := hrel
                have HL := Lib.hid hbw
                have HRL := Lib.hid hreg
                clear hbw hreg HRQ HQ
                by_cases hj31 : j < 31
                · obtain ⟨c1, _⟩ := HRL.out (j + 1) (by omega)
                  obtain ⟨c2, c3⟩ := HRL.out j (by omega)
                  obtain ⟨nx, hnx⟩ : ∃ nx, nx = down x j (j + 1) := ⟨_, rfl⟩
                  obtain ⟨ol, hol⟩ : ∃ ol, ol = down x j j := ⟨_, rfl⟩
                  rw [← hnx] at c1
                  rw [← hol] at c2
                  have HN := Lib.hid hnx
                  clear hnx hol
                  go_wp2_with fail
                  go_roundw
                  case rel =>
                    refine ⟨j + 1, by omega, by go_num, (HRL.out.set (by omega) nx).same (fun i hi => ?_), HL.out.setCell (Nat.le_refl _) _⟩
                    rw [HN.out]
                    exact down_next x j i
                  case measure => simp [intOf]; omega
                · obtain rfl : j = 31 := by omega
                  obtain ⟨c2, c3⟩ := HRL.out 31 (by omega)
                  obtain ⟨ol, hol⟩ : ∃ ol, ol = down x 31 31 := ⟨_, rfl⟩
                  rw [← hol] at c2
                  clear hol
                  go_wp2_with fail
                  have HR5 := Lib.hid (show Regs w.heap.size (added (x / 2) 0) (wr.setCell ⟨w.heap.size, 31, none⟩ (.bool false)) from (HRL.out.set (i := 31) (by omega) false).same (fun i hi => by
                    rw [show added (x / 2) 0 i = (x / 2).testBit i by simp [added]]
                    exact down_all x i hxl.out hi))
                  have HB5 := Lib.hid (HL.out.setCell (p := ⟨w.heap.size, 31, none⟩) (Nat.le_refl _) (.bool false))
                  clear HRL HL c2 c3
                  generalize wr.setCell ⟨w.heap.size, 31, none⟩ (.bool false) = ws at *
                  cases out with
                  | false =>
                    go_loopw [10] (fun y wl => y = .int .i64 0 ∧ Regs w.heap.size (added (x / 2) 0) wl ∧ Below w.heap.size w wl) (fun y wl => 0)
                    case atStart => exact ⟨rfl, HR5.out, HB5.out⟩
                    case round =>
                      obtain ⟨rfl, hreg, hbw⟩ := hrel
                      have HL := Lib.hid hbw
                      have HRL := Lib.hid hreg
                      clear hbw hreg HR5 HB5
                      go_wp2_with fail
                      go_roundw
                      case rel =>
                        refine ⟨k + 1, by omega, by go_num, HRL.out.same (fun i hi => ?_), HL.out⟩
                        rw [hfnext.out, HOUT.out]
                        simp [added]
                      case measure => simp [intOf]; omega
                  | true =>
                    go_loopw [10] (fun y wl => ∃ j : Nat, j ≤ 32 ∧ y = .int .i64 j ∧ Regs w.heap.size (added (x / 2) j) wl ∧ Below w.heap.size w wl) (fun y wl => 32 - (intOf y).toNat)
                    case atStart => exact ⟨0, by omega, rfl, HR5.out, HB5.out⟩
                    case round =>
                      obtain ⟨j, hj, rfl, hreg, hbw⟩ := hrel
                      have HL := Lib.hid hbw
                      have HRL := Lib.hid hreg
                      clear hbw hreg HR5 HB5
                      by_cases hj32 : j < 32
                      · obtain ⟨c2, c3⟩ := HRL.out j (by omega)
                        obtain ⟨ol, hol⟩ : ∃ ol, ol = added (x / 2) j j := ⟨_, rfl⟩
                        rw [← hol] at c2
                        have HOL := Lib.hid hol
                        obtain ⟨pq, p1, p2, p3, dd, p4, p5, p6⟩ := pow32 j hj32
                        clear hol
                        cases htap : (2197175160 : Nat).testBit j with
                        | true =>
                          rw [htap] at p6
                          have HTAP := Lib.hid htap
                          clear htap
                          go_wp2_with fail
                          go_roundw
                          case rel =>
                            refine ⟨j + 1, by omega, by go_num, (HRL.out.set (by omega) (!ol)).same (fun i hi => ?_), HL.out.setCell (Nat.le_refl _) _⟩
                            rw [HOL.out]
                            exact added_yes (x / 2) j i HTAP.out
                          case measure => simp [intOf]; omega
                        | false =>
                          rw [htap] at p6
                          have HTAP := Lib.hid htap
                          clear htap
                          go_wp2_with fail
                          go_roundw
                          case rel =>
                            refine ⟨j + 1, by omega, by go_num, HRL.out.same (fun i hi => added_no (x / 2) j i HTAP.out), HL.out⟩
                          case measure => simp [intOf]; omega
                      · obtain rfl : j = 32 := by omega
                        go_wp2_with fail
                        go_roundw
                        case rel =>
                          refine ⟨k + 1, by omega, by go_num, HRL.out.same (fun i hi => ?_), HL.out⟩
                          rw [hfnext.out, HOUT.out]
                          simp [added, hi]
                        case measure => simp [intOf]; omega
            · obtain rfl : k = 8 := by omega
              rw [feed_all R _ hc.out, ← hfn.out] at HRP
              go_wp2_with fail
              go_roundw
              case rel => exact ⟨i + 1, by omega, by go_num, HRP.out, HP.out⟩
              case measure => simp [intOf]; omega
        · obtain rfl : i = s.size := by omega
          rw [feedS_all] at HRO
          have hrl := feedL_lt' s.data.toList (r := 4294967295) (by decide)
          have hsum : sumL s.data.toList = turnedFrom (feedL 4294967295 s.data.toList) 0 := by unfold sumL turnedFrom; simp
          generalize feedL 4294967295 s.data.toList = r at *
          have HRr := Lib.hid hrl
          have HSUM := Lib.hid hsum
          clear hrl hsum
          go_wp2_with fail
          go_loopw [11, 12] (fun x y wl => ∃ j : Nat, j ≤ 32 ∧ y = .int .i64 ((j : Int) - 1) ∧ x = .int .u32 (turnedFrom r j) ∧ Regs w.heap.size (fun j => r.testBit j) wl ∧ Below w.heap.size w wl) (fun x y wl => (intOf y + 1).toNat)
          case atStart => exact ⟨32, by omega, rfl, by rw [turned_top]; rfl, HRO.out, HO.out⟩
          case round =>
            obtain ⟨j, hj, rfl, rfl, hreg, hbw⟩ := hrel
            have HL := Lib.hid hbw
            have HRL := Lib.hid hreg
            clear hbw hreg HRO HO
            rcases Nat.eq_zero_or_pos j with rfl | hpos
            · rw [show ((0 : Nat) : Int) - 1 = -1 from rfl]
              go_wp2_with fail
              go_ret
              exact ⟨ret_u32 HSUM.out, HL.out⟩
            · obtain ⟨m, rfl⟩ : ∃ m, j = m + 1 := ⟨j - 1, by omega⟩
              rw [show ((m + 1 : Nat) : Int) - 1 = (m : Int) by omega]
              have hnx := turned_next r m HRr.out (by omega)
              have hle : turnedFrom r m ≤ 4294967295 := by unfold turnedFrom; exact Nat.le_trans (Nat.div_le_self _ _) (by omega)
              have c1 : wr.cell? ⟨w.heap.size, m, none⟩ = some (.bool (r.testBit m)) := (HRL.out m (by omega)).1
              generalize turnedFrom r (m + 1) = X at *
              obtain ⟨Y, hYd⟩ : ∃ Y, Y = turnedFrom r m := ⟨_, rfl⟩
              rw [← hYd] at hnx hle
              have HYD := Lib.hid hYd
              clear hYd
              cases hb : r.testBit m with
              | true =>
                rw [hb] at hnx c1
                rw [if_pos rfl] at hnx
                have hY : (2 : Int) * (X : Int) = (Y : Int) := by omega
                clear hnx hb
                go_wp2_with fail
                go_roundw
                case rel => exact ⟨m, by omega, rfl, by rw [HYD.out], HRL.out, HL.out⟩
                case measure => simp [intOf]
              | false =>
                rw [hb] at hnx c1
                rw [if_neg (by simp)] at hnx
                have hY : (2 : Int) * (X : Int) + 1 = (Y : Int) := by omega
                clear hnx hb
                go_wp2_with fail
                go_roundw
                case rel => exact ⟨m, by omega, rfl, by rw [HYD.out], HRL.out, HL.out⟩
                case measure => simp [intOf]
end Go.Proofs.YtgljjdldhnajdaaGreat
/- The document's own answers: a text with its sum, put and taken. -/
set_option linter.unusedVariables false
set_option maxRecDepth 100000
namespace Go.Proofs.YtgljjdldhnajdaaGreat
open Go.RowKit

set_option maxHeartbeats 400000 in
theorem ref_Four (x : Nat) (w : World) (hx : x < 4294967296) :
    Calls Tryz.prog 107 #[.int .u32 x] w fun e w' => e = .returned (.string (bs (four x))) ∧ Below w.heap.size w w' := by
  have hconv := conv_four w w.heap.size x rfl ((x : Int) / 16777216) ((x : Int) / 65536 % 256) ((x : Int) / 256 % 256) ((x : Int) % 256) (by omega) (by omega) (by omega) (by omega)
  go_enter Tryz.func107, Tryz.ntmps107
  go_wp2
  go_ret
  exact ⟨rfl, (Below.refl _ _).alloc (Nat.le_refl _) _⟩

set_option maxHeartbeats 400000 in
theorem ref_Put (s : ByteArray) (w : World) (hs : s.size ≤ 140737488351232) :
    Calls Tryz.prog 83 #[.string s] w fun e w' => e = .returned (.string (bs (s.data.toList ++ four (sumL s.data.toList)))) ∧ Below w.heap.size w w' := by
  have hcat := cat_bs s (four (sumL s.data.toList))
  have hsum : (s.size : Int) + ((bs (four (sumL s.data.toList))).size : Int) ≤ 9223372036854775807 := by rw [bs_size, four_len]; omega
  have hlt := sumL_lt s.data.toList
  go_enter Tryz.func83, Tryz.ntmps83
  go_wp2_with fail
  refine (ref_SumC s w (by omega)).mono ?_
  rintro e w1 ⟨rfl, k1⟩
  go_wp2_with fail
  refine (ref_Four _ w1 hlt).mono ?_
  rintro e w2 ⟨rfl, k2⟩
  go_wp2
  go_ret
  exact ⟨rfl, k1.trans (k2.mono k1.size)⟩

theorem seen_refSum (W : World) (s : ByteArray) (hs : s.size ≤ 140737488355328) (n : Seen W) : Calls Tryz.prog 108 #[.string s] n.val fun e w'' => e = .returned (.int .u32 (sumL s.data.toList)) ∧ ∃ m : Seen W, w'' = m.val :=
  (ref_SumC s n.val hs).mono fun _ w'' ⟨h1, h2⟩ => ⟨h1, ⟨⟨w'', n.below.trans (h2.mono n.below.size)⟩, rfl⟩⟩
theorem seen_refFour (W : World) (x : Nat) (hx : x < 4294967296) (n : Seen W) : Calls Tryz.prog 107 #[.int .u32 x] n.val fun e w'' => e = .returned (.string (bs (four x))) ∧ ∃ m : Seen W, w'' = m.val :=
  (ref_Four x n.val hx).mono fun _ w'' ⟨h1, h2⟩ => ⟨h1, ⟨⟨w'', n.below.trans (h2.mono n.below.size)⟩, rfl⟩⟩

set_option maxHeartbeats 400000 in
theorem ref_Take (s : ByteArray) (w : World) (hs : s.size ≤ 140737488355328) :
    Calls Tryz.prog 93 #[.string s] w fun e w' => e = .returned (.tuple #[.string (bs (takeT s.data.toList)), .int .i64 (takeE s.data.toList)]) ∧ Below w.heap.size w w' := by
  have hl : s.data.toList.length = s.size := by rw [← Lib.size_eq]
  by_cases h4 : s.size < 4
  · have e1 : takeT s.data.toList = [] := by unfold takeT; rw [if_neg (by omega)]
    have e2 : takeE s.data.toList = 2 := by unfold takeE; rw [if_pos (by omega)]
    rw [e1, e2]
    clear e1 e2
    go_enter Tryz.func93, Tryz.ntmps93
    go_wp2
    go_ret2
    exact ⟨rfl, Below.refl _ _⟩
  · obtain ⟨n, hn⟩ : ∃ n : Nat, s.size = n + 4 := ⟨s.size - 4, by omega⟩
    obtain ⟨x1, x2⟩ := take_split (s := s) (n := n) (by omega)
    have hok : okT s.data.toList ↔ s.data.toList.drop n = four (sumL (s.data.toList.take n)) := by unfold okT; rw [hl, hn, Nat.add_sub_cancel]
    have e1 : takeT s.data.toList = if okT s.data.toList then s.data.toList.take n else [] := by
      unfold takeT
      rw [hl, hn, Nat.add_sub_cancel]
      by_cases h : okT s.data.toList
      · rw [if_pos ⟨by omega, h⟩, if_pos h]
      · rw [if_neg (fun x => h x.2), if_neg h]
    have e2 : takeE s.data.toList = if okT s.data.toList then 0 else 4 := by unfold takeE; rw [if_neg (by omega)]
    have hsz : ((s.size : Int) - 4) = (n : Int) := by omega
    have hle : n ≤ s.size := by omega
    have hlen : (s.data.toList.take n).length ≤ 140737488355328 := by rw [List.length_take]; omega
    have HN := Lib.hid hn
    clear hn
    go_enter Tryz.func93, Tryz.ntmps93
    go_wp2_with fail
    refine region_seen (by kernel_rfl) (by kernel_rfl) ?_
    repeat (go_big_quiet_step (first | (go_at_call 108; exact seen_refSum _ _ (by rw [bs_size]; exact hlen) _) | (go_at_call 107; exact seen_refFour _ _ (sumL_lt _) _)))
    refine wpQuiet_nil ?_
    rintro _ ⟨m, rfl⟩
    go_wp2_with fail
    · rename_i h
      rw [Bool.not_eq_true', Bool.eq_false_iff, Ne, same_bytes, bs_list, ← hok] at h
      go_ret2
      exact ⟨ret2s (by rw [e1, if_neg h]; rfl) (by rw [e2, if_neg h]), m.below⟩
    · rename_i h
      rw [Bool.not_eq_false', same_bytes, bs_list, ← hok] at h
      go_ret2
      exact ⟨ret2s (by rw [e1, if_pos h]) (by rw [e2, if_pos h]), m.below⟩
end Go.Proofs.YtgljjdldhnajdaaGreat
/- Frames: the program's and the document's; the record of the frame that bytes begin with. -/
set_option linter.unusedVariables false
set_option maxRecDepth 100000
set_option maxRecDepth 100000
namespace Go.Proofs.YtgljjdldhnajdaaGreat
open Go.RowKit

set_option maxHeartbeats 1000000 in
theorem wal_Frame (s : List UInt8) (w : World) (hs : s.length ≤ 1000000000) :
    Calls Tryz.prog 103 #[.string (bs s)] w fun e w' => e = .returned (.string (bs (frameL s))) ∧ Below w.heap.size w w' := by
  have hz : (bs s).size = s.length := bs_size s
  have ht := Lib.hid (text_le (r := s) (by omega))
  go_enter Tryz.func103, Tryz.ntmps103
  go_wp2_with fail
  refine (six_New w).mono ?_
  rintro e w1 ⟨rfl, h1⟩
  have H1 : Hid (Wt w.heap.size w.heap.size [] w1) := Lib.hid (h1 ▸ wt_new w)
  have K1 : Hid (Below w.heap.size w w1) := Lib.hid (h1 ▸ (Below.refl _ _).alloc (Nat.le_refl _) _)
  clear h1
  go_wp2_with fail
  refine (six_Text w.heap.size w.heap.size [] (bs s) w1 H1.out (by rw [hz]; simp; omega)).mono ?_
  rintro e w2 ⟨rfl, h2, k2⟩
  rw [List.nil_append, bs_list] at h2
  have H2 := Lib.hid h2
  have K2 := Lib.hid (K1.out.trans k2)
  clear h2 k2
  go_wp2_with fail
  refine (six_Bytes w.heap.size w.heap.size _ w2 H2.out).mono ?_
  rintro e w3 ⟨rfl, h3, k3, _⟩
  have K3 := Lib.hid (K2.out.trans k3)
  clear h3 k3
  go_wp2_with fail
  refine (crc_Put (bs (text s)) w3 (by rw [bs_size]; have := ht.out; omega)).mono ?_
  rintro e w4 ⟨rfl, k4⟩
  have K4 := Lib.hid (K3.out.trans (k4.mono K3.out.size))
  clear k4
  rw [bs_list]
  go_wp2
  go_ret
  exact ⟨rfl, K4.out⟩
set_option maxHeartbeats 1000000 in
theorem ref_Frame (s : List UInt8) (w : World) (hs : s.length ≤ 1000000000) :
    Calls Tryz.prog 46 #[.string (bs s)] w fun e w' => e = .returned (.string (bs (frameL s))) ∧ Below w.heap.size w w' := by
  have hz : (bs s).size = s.length := bs_size s
  have ht := Lib.hid (text_le (r := s) (by omega))
  go_enter Tryz.func46, Tryz.ntmps46
  go_wp2_with fail
  refine (ref_Text (bs s) w (by omega)).mono ?_
  rintro e w1 ⟨rfl, k1⟩
  rw [bs_list]
  go_wp2_with fail
  refine (ref_Put (bs (text s)) w1 (by rw [bs_size]; have := ht.out; omega)).mono ?_
  rintro e w4 ⟨rfl, k4⟩
  have K4 := Lib.hid (k1.trans (k4.mono k1.size))
  clear k4
  rw [bs_list]
  go_wp2
  go_ret
  exact ⟨rfl, K4.out⟩

/-- What first answers. -/
def firstV (l : List UInt8) : Value := match firstL l with
  | some (r, k) => .tuple #[.string (bs r), .int .i64 (k : Int), .bool true]
  | none => .tuple #[.string ⟨#[]⟩, .int .i64 0, .bool false]
theorem firstV_none {l : List UInt8} (h : firstL l = none) : firstV l = .tuple #[.string ⟨#[]⟩, .int .i64 0, .bool false] := by unfold firstV; rw [h]
theorem firstV_some {l r : List UInt8} {k : Nat} (h : firstL l = some (r, k)) : firstV l = .tuple #[.string (bs r), .int .i64 (k : Int), .bool true] := by unfold firstV; rw [h]
theorem take_err (l : List UInt8) (h : 4 ≤ l.length) : takeE l = if okT l then 0 else 4 := by unfold takeE; rw [if_neg (by omega)]
theorem bs_from (l : List UInt8) (k : Nat) (h : k ≤ l.length) : (bs l).extract k (bs l).size = bs (l.drop k) := (take_split (s := bs l) (by rw [bs_size]; exact h)).2
theorem bs_upto (l : List UInt8) (k : Nat) (h : k ≤ l.length) : (bs l).extract 0 k = bs (l.take k) := (take_split (s := bs l) (by rw [bs_size]; exact h)).1

set_option maxHeartbeats 2000000 in
theorem wal_first (l : List UInt8) (w : World) (hl : l.length ≤ 1000000000) :
    Calls Tryz.prog 109 #[.string (bs l)] w fun e w' => e = .returned (firstV l) ∧ Below w.heap.size w w' := by
  have hz : (bs l).size = l.length := bs_size l
  have hT : ∀ w1, Rt w.heap.size (bs l) w1 → _ := fun w1 h => six_ReadText w.heap.size (bs l) w1 h (by rw [hz]; unfold maxLen; omega)
  rw [bs_list] at hT
  have bad : ∀ e : Int, (e = 2 ∨ e = 3) → te l = e → ts l = [] → firstL l = none := fun e he h _ => first_no (by omega)
  rcases td_cases l with ⟨b1, b2, b3, b4, b5, b6, b7⟩ | ⟨b1 | b1, b2, b3⟩
  · have hk1 : tk l ≤ l.length := by rw [b6]; exact b4
    rw [b1, bs_from l _ hk1] at hT
    obtain ⟨t, ht⟩ : ∃ t, t = ts l := ⟨_, rfl⟩
    obtain ⟨k, hk⟩ : ∃ k, k = tk l := ⟨_, rfl⟩
    obtain ⟨q, hq⟩ : ∃ q, q = t.length := ⟨_, rfl⟩
    have htz : (bs t).size = q := by rw [bs_size, hq]
    have hql : q ≤ l.length := by rw [hq, ht, b7, List.length_take, List.length_drop]; omega
    rw [← ht, ← hk] at hT
    rw [← hk] at hk1
    have HT := Lib.hid (And.intro b1 (And.intro ht (And.intro hk hq)))
    clear b1 b2 b3 b4 b5 b6 b7 bad ht hk hq
    by_cases hbig : q ≤ 1048576
    · have hbig' : (q : Int) ≤ 1048576 := by omega
      have hR : ∀ w1, Rt w.heap.size (bs (l.drop k)) w1 → _ := fun w1 h => six_ReadRaw w.heap.size (bs (l.drop k)) 4 w1 h (by rw [bs_size, List.length_drop]; unfold maxLen; omega) (by omega) (by omega)
      rw [bs_list] at hR
      by_cases h4 : k + 4 ≤ l.length
      · have hw1 : wk (l.drop k) 4 = 4 := by unfold wk; rw [if_neg (by rw [List.length_drop]; omega)]; rfl
        have hw2 : we (l.drop k) 4 = 0 := by unfold we; rw [if_neg (by omega), if_neg (by rw [List.length_drop]; omega)]
        rw [hw1, hw2, bs_from _ 4 (by rw [List.length_drop]; omega), List.drop_drop] at hR
        obtain ⟨m, hm⟩ : ∃ m, m + (k + 4) = l.length := ⟨l.length - (k + 4), by omega⟩
        have hrz : (bs (l.drop (k + 4))).size = m := by rw [bs_size, List.length_drop]; omega
        have hsub : ((l.length : Int) - (m : Int)) = ((k + 4 : Nat) : Int) := by omega
        obtain ⟨n, hn⟩ : ∃ n, n = k + 4 := ⟨_, rfl⟩
        rw [← hn] at hrz hsub hR
        obtain ⟨cut, hcut⟩ : ∃ cut, cut = l.take n := ⟨_, rfl⟩
        have hex : (bs l).extract 0 n = bs cut := by rw [hcut]; exact bs_upto l n (by omega)
        have hcl : cut.length = n := by rw [hcut, List.length_take]; omega
        have hcs : (bs cut).size ≤ 140737488355328 := by rw [bs_size]; omega
        have hnl : n ≤ l.length := by omega
        have hnl' : (n : Int) ≤ (l.length : Int) := by omega
        by_cases hok : okT cut
        · have hE := Lib.hid (show takeE cut = 0 by rw [take_err cut (by omega), if_pos hok])
          have HF := Lib.hid (show firstV l = _ from firstV_some (by
            have := first_yes HT.out.1 (by rw [← HT.out.2.1, ← HT.out.2.2.2]; exact hbig) (by rw [← HT.out.2.2.1]; exact h4) (by rw [← HT.out.2.2.1, ← hn, ← hcut]; exact hok)
            rw [this, ← HT.out.2.1, ← HT.out.2.2.1, ← hn]))
          clear hok HT hcut hn
          rw [HF.out]
          go_enter Tryz.func109, Tryz.ntmps109
          go_wp2_with fail
          refine (six_Over (bs l) w).mono ?_
          rintro e w1 ⟨rfl, h1⟩
          have R1 : Hid (Rt w.heap.size (bs l) w1) := Lib.hid (h1 ▸ Rt.new (bs l) w)
          have K1 : Hid (Below w.heap.size w w1) := Lib.hid (h1 ▸ (Below.refl _ _).alloc (Nat.le_refl _) _)
          clear h1
          go_wp2_with fail
          refine (hT w1 R1.out).mono ?_
          rintro e w2 ⟨rfl, h2, k2⟩
          have R2 := Lib.hid h2
          have K2 := Lib.hid (K1.out.trans (k2.below (fun k _ hk => Nat.le_of_eq hk.symm) K1.out.size))
          clear h2 k2 K1 R1
          go_wp2_with fail
          refine (hR w2 R2.out).mono ?_
          rintro e w3 ⟨rfl, h3, k3⟩
          have R3 := Lib.hid h3
          have K3 := Lib.hid (K2.out.trans (k3.below (fun k _ hk => Nat.le_of_eq hk.symm) K2.out.size))
          clear h3 k3 K2 R2
          go_wp2_with fail
          refine (six_Rest w.heap.size _ w3 R3.out).mono ?_
          rintro e w4 ⟨rfl, rfl⟩
          go_wp2_with fail
          refine (crc_Take (bs cut) w3 hcs).mono ?_
          rintro e w4 ⟨rfl, k4⟩
          have K4 := Lib.hid (K3.out.trans (k4.mono K3.out.size))
          clear k4 K3
          rw [bs_list, hE.out]
          go_wp2
          go_ret3
          exact ⟨rfl, K4.out⟩
        · have hE := Lib.hid (show takeE cut = 4 by rw [take_err cut (by omega), if_neg hok])
          have HF := Lib.hid (show firstV l = _ from firstV_none (first_no (by
            intro hh
            have := hh.2.2.2
            rw [← HT.out.2.2.1, ← hn, ← hcut] at this
            exact hok this)))
          clear hok HT hcut hn
          rw [HF.out]
          go_enter Tryz.func109, Tryz.ntmps109
          go_wp2_with fail
          refine (six_Over (bs l) w).mono ?_
          rintro e w1 ⟨rfl, h1⟩
          have R1 : Hid (Rt w.heap.size (bs l) w1) := Lib.hid (h1 ▸ Rt.new (bs l) w)
          have K1 : Hid (Below w.heap.size w w1) := Lib.hid (h1 ▸ (Below.refl _ _).alloc (Nat.le_refl _) _)
          clear h1
          go_wp2_with fail
          refine (hT w1 R1.out).mono ?_
          rintro e w2 ⟨rfl, h2, k2⟩
          have R2 := Lib.hid h2
          have K2 := Lib.hid (K1.out.trans (k2.below (fun k _ hk => Nat.le_of_eq hk.symm) K1.out.size))
          clear h2 k2 K1 R1
          go_wp2_with fail
          refine (hR w2 R2.out).mono ?_
          rintro e w3 ⟨rfl, h3, k3⟩
          have R3 := Lib.hid h3
          have K3 := Lib.hid (K2.out.trans (k3.below (fun k _ hk => Nat.le_of_eq hk.symm) K2.out.size))
          clear h3 k3 K2 R2
          go_wp2_with fail
          refine (six_Rest w.heap.size _ w3 R3.out).mono ?_
          rintro e w4 ⟨rfl, rfl⟩
          go_wp2_with fail
          refine (crc_Take (bs cut) w3 hcs).mono ?_
          rintro e w4 ⟨rfl, k4⟩
          have K4 := Lib.hid (K3.out.trans (k4.mono K3.out.size))
          clear k4 K3
          rw [bs_list, hE.out]
          go_wp2
          go_ret3
          exact ⟨rfl, K4.out⟩
      · have hw2 : we (l.drop k) 4 = 2 := by unfold we; rw [if_neg (by omega), if_pos (by rw [List.length_drop]; omega)]
        rw [hw2] at hR
        have HF := Lib.hid (show firstV l = _ from firstV_none (first_no (by
          intro hh
          have := hh.2.2.1
          rw [← HT.out.2.2.1] at this
          exact h4 this)))
        clear HT
        rw [HF.out]
        go_enter Tryz.func109, Tryz.ntmps109
        go_wp2_with fail
        refine (six_Over (bs l) w).mono ?_
        rintro e w1 ⟨rfl, h1⟩
        have R1 : Hid (Rt w.heap.size (bs l) w1) := Lib.hid (h1 ▸ Rt.new (bs l) w)
        have K1 : Hid (Below w.heap.size w w1) := Lib.hid (h1 ▸ (Below.refl _ _).alloc (Nat.le_refl _) _)
        clear h1
        go_wp2_with fail
        refine (hT w1 R1.out).mono ?_
        rintro e w2 ⟨rfl, h2, k2⟩
        have R2 := Lib.hid h2
        have K2 := Lib.hid (K1.out.trans (k2.below (fun k _ hk => Nat.le_of_eq hk.symm) K1.out.size))
        clear h2 k2 K1 R1
        go_wp2_with fail
        refine (hR w2 R2.out).mono ?_
        rintro e w3 ⟨rfl, h3, k3⟩
        have R3 := Lib.hid h3
        have K3 := Lib.hid (K2.out.trans (k3.below (fun k _ hk => Nat.le_of_eq hk.symm) K2.out.size))
        clear h3 k3 K2 R2
        go_wp2
        go_ret3
        exact ⟨rfl, K3.out⟩
    · have hbig' : (1048576 : Int) < (q : Int) := by omega
      have HF := Lib.hid (show firstV l = _ from firstV_none (first_no (by
        intro hh
        have := hh.2.1
        rw [← HT.out.2.1, ← HT.out.2.2.2] at this
        exact hbig this)))
      clear HT
      rw [HF.out]
      go_enter Tryz.func109, Tryz.ntmps109
      go_wp2_with fail
      refine (six_Over (bs l) w).mono ?_
      rintro e w1 ⟨rfl, h1⟩
      have R1 : Hid (Rt w.heap.size (bs l) w1) := Lib.hid (h1 ▸ Rt.new (bs l) w)
      have K1 : Hid (Below w.heap.size w w1) := Lib.hid (h1 ▸ (Below.refl _ _).alloc (Nat.le_refl _) _)
      clear h1
      go_wp2_with fail
      refine (hT w1 R1.out).mono ?_
      rintro e w2 ⟨rfl, h2, k2⟩
      have R2 := Lib.hid h2
      have K2 := Lib.hid (K1.out.trans (k2.below (fun k _ hk => Nat.le_of_eq hk.symm) K1.out.size))
      clear h2 k2 K1 R1
      go_wp2
      go_ret3
      exact ⟨rfl, K2.out⟩
  · rw [b1] at hT
    rw [firstV_none (bad 2 (.inl rfl) b1 b2)]
    clear b1 b2 b3 bad
    go_enter Tryz.func109, Tryz.ntmps109
    go_wp2_with fail
    refine (six_Over (bs l) w).mono ?_
    rintro e w1 ⟨rfl, h1⟩
    have R1 : Hid (Rt w.heap.size (bs l) w1) := Lib.hid (h1 ▸ Rt.new (bs l) w)
    have K1 : Hid (Below w.heap.size w w1) := Lib.hid (h1 ▸ (Below.refl _ _).alloc (Nat.le_refl _) _)
    clear h1
    go_wp2_with fail
    refine (hT w1 R1.out).mono ?_
    rintro e w2 ⟨rfl, h2, k2⟩
    have R2 := Lib.hid h2
    have K2 := Lib.hid (K1.out.trans (k2.below (fun k _ hk => Nat.le_of_eq hk.symm) K1.out.size))
    clear h2 k2 K1 R1
    go_wp2
    go_ret3
    exact ⟨rfl, K2.out⟩
  · rw [b1] at hT
    rw [firstV_none (bad 3 (.inr rfl) b1 b2)]
    clear b1 b2 b3 bad
    go_enter Tryz.func109, Tryz.ntmps109
    go_wp2_with fail
    refine (six_Over (bs l) w).mono ?_
    rintro e w1 ⟨rfl, h1⟩
    have R1 : Hid (Rt w.heap.size (bs l) w1) := Lib.hid (h1 ▸ Rt.new (bs l) w)
    have K1 : Hid (Below w.heap.size w w1) := Lib.hid (h1 ▸ (Below.refl _ _).alloc (Nat.le_refl _) _)
    clear h1
    go_wp2_with fail
    refine (hT w1 R1.out).mono ?_
    rintro e w2 ⟨rfl, h2, k2⟩
    have R2 := Lib.hid h2
    have K2 := Lib.hid (K1.out.trans (k2.below (fun k _ hk => Nat.le_of_eq hk.symm) K1.out.size))
    clear h2 k2 K1 R1
    go_wp2
    go_ret3
    exact ⟨rfl, K2.out⟩
end Go.Proofs.YtgljjdldhnajdaaGreat
/- Rows of texts; Split and Frames, the program's and the document's; whether two rows are the same. -/
set_option linter.unusedVariables false
set_option maxRecDepth 100000
set_option maxRecDepth 100000
namespace Go.Proofs.YtgljjdldhnajdaaGreat
open Go.RowKit

theorem info_parts {t : TypeId} {z : Value} {s b : Nat} (h : (Tryz.prog.info? t).map (fun i => (i.zero, i.size, i.bytes)) = some (some z, s, b)) : ∃ i, Tryz.prog.info? t = some i ∧ i.zero = some z ∧ i.size = s ∧ i.bytes = b := by
  cases hi : Tryz.prog.info? t with
  | none => rw [hi] at h; cases h
  | some i =>
    rw [hi] at h
    simp only [Option.map_some, Option.some.injEq, Prod.mk.injEq] at h
    exact ⟨i, rfl, h.1, h.2.1, h.2.2⟩
theorem infoStr : (Tryz.prog.info? 9).map (fun i => (i.zero, i.size, i.bytes)) = some (some (.string ⟨#[]⟩), 1, 16) := by kernel_rfl
theorem OffRow.allocd {w : World} {B n size : Nat} {e : TypeId} {v : Value} {xs : List Value} (h : OffRow w B e size v n xs) (o : Obj) : OffRow (w.alloc o) B e size v n xs := h.kept fun j hj => Below.heap_alloc w o j (h.lt j hj).2

/-- A row of texts of the call's own. -/
def scells (T : List (List UInt8)) : List Value := T.map fun t => .string (bs t)
theorem scells_snoc (T : List (List UInt8)) (t : List UInt8) : scells (T ++ [t]) = scells T ++ [.string (bs t)] := by simp [scells]
def OwnT (w : World) (B : Nat) (v : Value) (T : List (List UInt8)) : Prop := OffRow w B 9 1 v T.length (scells T)
/-- A slice of texts. -/
def TxV (w : World) (v : Value) (T : List (List UInt8)) : Prop := ∃ a cap, v = .slice a T.length cap ∧ ∃ b off, (T.length = 0 ∨ a = some ⟨b, off, none⟩) ∧ ∀ k (hk : k < T.length), b < w.heap.size ∧ w.cell? ⟨b, off + k, none⟩ = some (.string (bs T[k]))
theorem TxV.below {w w' : World} {v : Value} {T : List (List UInt8)} (h : TxV w v T) (k : Below w.heap.size w w') : TxV w' v T := by
  obtain ⟨a, cap, rfl, b, off, h1, h2⟩ := h
  refine ⟨a, cap, rfl, b, off, h1, fun j hj => ?_⟩
  obtain ⟨h3, h4⟩ := h2 j hj
  exact ⟨Nat.lt_of_lt_of_le h3 k.size, by rw [k.cell (p := ⟨b, off + j, none⟩) h3]; exact h4⟩
theorem TxV.at {w : World} {a : Option Addr} {n cap : Nat} {T : List (List UInt8)} (h : TxV w (.slice a n cap) T) {i : Nat} {t : List UInt8} (hi : T[i]? = some t) : ∃ b off, a = some ⟨b, off, none⟩ ∧ b < w.heap.size ∧ w.cell? ⟨b, off + i, none⟩ = some (.string (bs t)) := by
  obtain ⟨hl, ht⟩ := List.getElem?_eq_some_iff.1 hi
  obtain ⟨a', cap', e, b, off, h1, h2⟩ := h
  simp only [Value.slice.injEq] at e
  obtain ⟨rfl, rfl, rfl⟩ := e
  obtain ⟨h3, h4⟩ := h2 i hl
  rw [ht] at h4
  exact ⟨b, off, by rcases h1 with h1 | h1; (omega); (exact h1), h3, h4⟩
theorem TxV.len {w : World} {a : Option Addr} {n cap : Nat} {T : List (List UInt8)} (h : TxV w (.slice a n cap) T) : n = T.length := by
  obtain ⟨a', cap', e, _⟩ := h
  simp only [Value.slice.injEq] at e
  exact e.2.1
theorem OwnT.txs {w : World} {B : Nat} {v : Value} {T : List (List UInt8)} (h : OwnT w B v T) : TxV w v T := by
  unfold OwnT at h
  rcases Nat.eq_zero_or_pos T.length with h0 | h0
  · obtain ⟨a, cap, rfl⟩ := OffRow.slice h
    exact ⟨a, cap, rfl, 0, 0, .inl h0, fun k hk => absurd hk (by omega)⟩
  · obtain ⟨g, off, cap, cur, rfl, hB, hg, hc⟩ := OffRow.form h h0
    refine ⟨_, cap, rfl, g, off, .inr rfl, fun k hk => ⟨heap_lt hg, ?_⟩⟩
    rw [hc k (by omega)]
    simp [scells, hk]

/-- What Split answers. -/
def SplitPost (l : List UInt8) (w : World) (e : Ending) (w' : World) : Prop := ∃ v, e = .returned (.tuple #[v, .int .i64 ((splitL l).2 : Int)]) ∧ OwnT w' w.heap.size v (splitL l).1 ∧ Below w.heap.size w w'
theorem split_ret {l : List UInt8} {w w' : World} {v : Value} {T : List (List UInt8)} {k : Nat} (h : splitL l = (T, k)) (o : OwnT w' w.heap.size v T) (b : Below w.heap.size w w') : SplitPost l w (.returned (.tuple #[v, .int .i64 (k : Int)])) w' := ⟨v, by rw [h], by rw [h]; exact o, b⟩
theorem split_end {l rest : List UInt8} {T : List (List UInt8)} {k : Nat} (h : splitL l = (T ++ (splitL rest).1, k + (splitL rest).2)) (hf : firstL rest = none) : splitL l = (T, k) := by rw [h, split_none hf]; simp
theorem split_more {l : List UInt8} {T : List (List UInt8)} {k n : Nat} {t : List UInt8} (h : splitL l = (T ++ (splitL (l.drop k)).1, k + (splitL (l.drop k)).2)) (hf : firstL (l.drop k) = some (t, n)) : splitL l = ((T ++ [t]) ++ (splitL (l.drop (k + n))).1, (k + n) + (splitL (l.drop (k + n))).2) := by
  rw [h, split_some hf, List.drop_drop]
  simp [Nat.add_assoc]

set_option maxHeartbeats 4000000 in
theorem wal_Split (l : List UInt8) (w : World) (hl : l.length ≤ 1000000000) : Calls Tryz.prog 85 #[.string (bs l)] w fun e w' => SplitPost l w e w' := by
  have hz : (bs l).size = l.length := bs_size l
  obtain ⟨B, hB⟩ : ∃ B, B = w.heap.size := ⟨_, rfl⟩
  have HB := Lib.hid hB
  obtain ⟨i0, hi, hz0, hz1, hz2⟩ := info_parts infoStr
  have HI := Lib.hid (And.intro hi (And.intro hz0 (And.intro hz1 hz2)))
  have HL := Lib.hid hl
  clear hi hz0 hz1 hz2 hB
  go_enter Tryz.func85, Tryz.ntmps85
  go_wp2_with fail
  go_loopw [4, 5] (fun rv kv wr => ∃ (k : Nat) (T : List (List UInt8)), k ≤ l.length ∧ kv = .int .i64 (k : Int) ∧ Hid (Below B w wr ∧ OwnT wr B rv T) ∧ Hid (4 * T.length ≤ k) ∧ Hid (splitL l = (T ++ (splitL (l.drop k)).1, k + (splitL (l.drop k)).2))) (fun rv kv wr => l.length - (intOf kv).toNat)
  case atStart => exact ⟨0, [], Nat.zero_le _, rfl, Lib.hid ⟨Below.refl _ _, OffRow.nil _ _ _ _⟩, Lib.hid (by simp), Lib.hid (by simp)⟩
  case round =>
    obtain ⟨k, T, hk, rfl, hR, hn4, hS⟩ := hrel
    have hn := Lib.hid (show T.length ≤ 1000000000 by have := hn4.out; omega)
    obtain ⟨a1, cap1, rfl⟩ := OffRow.slice hR.out.2
    obtain ⟨rest, hrest⟩ : ∃ rest, rest = l.drop k := ⟨_, rfl⟩
    have hex : (bs l).extract k l.length = bs rest := by rw [hrest, ← bs_from l k hk, hz]
    have hrl : rest.length ≤ 1000000000 := by rw [hrest, List.length_drop]; omega
    have hk2 : (k : Int) ≤ (l.length : Int) := by omega
    have HR := Lib.hid hrest
    clear hrest
    rcases hf : firstL rest with _ | ⟨t, n⟩
    · have HF := Lib.hid (firstV_none hf)
      have HE := Lib.hid (show splitL l = (T, k) from split_end (rest := rest) (by rw [HR.out]; exact hS.out) hf)
      clear hf
      go_wp2_with fail
      refine (wal_first rest wr hrl).mono ?_
      rintro e w1 ⟨rfl, k1⟩
      have K1 := Lib.hid (hR.out.1.trans (k1.mono (by have := hR.out.1.size; have := HB.out; omega)))
      have O1 := Lib.hid (show OwnT w1 B (.slice a1 T.length cap1) T from OffRow.kept hR.out.2 fun j hj => k1.block j (OffRow.lt hR.out.2 j hj).2)
      rw [HF.out]
      clear k1
      go_wp2
      go_ret2
      exact split_ret HE.out (by rw [← HB.out]; exact O1.out) (by rw [← HB.out]; exact K1.out)
    · have HF := Lib.hid (firstV_some hf)
      have HE := Lib.hid (split_more hS.out (by rw [← HR.out]; exact hf))
      have hlt := first_lt hf
      have hkn : k + n ≤ l.length := by rw [HR.out, List.length_drop] at hlt; omega
      have h4 : 4 ≤ n := by have := (first_back hf).2.2; have := frameL_pos t; omega
      clear hf hlt
      go_wp2_with fail
      refine (wal_first rest wr hrl).mono ?_
      rintro e w1 ⟨rfl, k1⟩
      have K1 := Lib.hid (hR.out.1.trans (k1.mono (by have := hR.out.1.size; have := HB.out; omega)))
      have O1 := Lib.hid (show OffRow w1 B 9 1 (.slice a1 T.length cap1) T.length (scells T) from OffRow.kept hR.out.2 fun j hj => k1.block j (OffRow.lt hR.out.2 j hj).2)
      rw [HF.out]
      clear k1
      obtain ⟨hi, hz0, hz1, hz2⟩ := HI.out
      go_wp2_with (at_builtin; refine wpList_append_off rfl (.tmp 21) (.tmp 23) 37 rfl B 9 i0 _ 1 16 Tryz.underlying37 hi hz0 hz1 hz2 rfl (.slice a1 T.length cap1) T.length (scells T) rfl ?c1 (.slice (some ⟨w1.heap.size, 0, none⟩) 1 1) rfl 1 [.string (bs t)] ?c2 ?c3 ?c4 ?c5 ?_)
      case c1 => exact O1.out.allocd _
      case c2 => exact src_block (size := 1) (cs := #[.string (bs t)]) Tryz.underlying37 (heap_new _ _) 1 1 rfl (by intro u hu; simp at hu; subst hu; rfl)
      case c3 => have := hn.out; unfold maxLen; omega
      case c4 => have := hn.out; omega
      case c5 => have := K1.out.size; have := HB.out; simp; omega
      intro v7 w7 hr7 hg7 hat7
      have O7 := Lib.hid (show OwnT w7 B v7 (T ++ [t]) from by unfold OwnT; rw [List.length_append, scells_snoc]; exact hr7)
      have K7 := Lib.hid ((K1.out.alloc (by have := K1.out.size; have := HB.out; omega) _).grown hg7 (by have := K1.out.size; have := HB.out; simp; omega) (fun j hj => ((O1.out.allocd (.cells #[.string (bs t)] 9)).lt j hj).1))
      clear hr7 hg7 hat7 hi hz0 hz1 hz2
      go_wp2_with fail
      go_roundw
      case rel => exact ⟨k + n, T ++ [t], hkn, by go_num, Lib.hid ⟨K7.out, O7.out⟩, Lib.hid (by have := hn4.out; simp; omega), HE⟩
      case measure => simp [intOf]; omega

set_option maxHeartbeats 4000000 in
theorem ref_Split (l : List UInt8) (w : World) (hl : l.length ≤ 1000000000) : Calls Tryz.prog 58 #[.string (bs l)] w fun e w' => SplitPost l w e w' := by
  have hz : (bs l).size = l.length := bs_size l
  obtain ⟨B, hB⟩ : ∃ B, B = w.heap.size := ⟨_, rfl⟩
  have HB := Lib.hid hB
  obtain ⟨i0, hi, hz0, hz1, hz2⟩ := info_parts infoStr
  have HI := Lib.hid (And.intro hi (And.intro hz0 (And.intro hz1 hz2)))
  have HL := Lib.hid hl
  clear hi hz0 hz1 hz2 hB
  go_enter Tryz.func58, Tryz.ntmps58
  go_wp2_with fail
  go_loopw [4, 5] (fun rv kv wr => ∃ (k : Nat) (T : List (List UInt8)), k ≤ l.length ∧ kv = .int .i64 (k : Int) ∧ Hid (Below B w wr ∧ OwnT wr B rv T) ∧ Hid (4 * T.length ≤ k) ∧ Hid (splitL l = (T ++ (splitL (l.drop k)).1, k + (splitL (l.drop k)).2))) (fun rv kv wr => l.length - (intOf kv).toNat)
  case atStart => exact ⟨0, [], Nat.zero_le _, rfl, Lib.hid ⟨Below.refl _ _, OffRow.nil _ _ _ _⟩, Lib.hid (by simp), Lib.hid (by simp)⟩
  case round =>
    obtain ⟨k, T, hk, rfl, hR, hn4, hS⟩ := hrel
    have hn := Lib.hid (show T.length ≤ 1000000000 by have := hn4.out; omega)
    obtain ⟨a1, cap1, rfl⟩ := OffRow.slice hR.out.2
    obtain ⟨rest, hrest⟩ : ∃ rest, rest = l.drop k := ⟨_, rfl⟩
    have hex : (bs l).extract k l.length = bs rest := by rw [hrest, ← bs_from l k hk, hz]
    obtain ⟨rl, hrl⟩ : ∃ rl, rl = rest.length := ⟨_, rfl⟩
    have hrz : (bs rest).size = rl := by rw [bs_size, hrl]
    have hkr : k + rl = l.length := by rw [hrl, hrest, List.length_drop]; omega
    have hk2 : (k : Int) ≤ (l.length : Int) := by omega
    have HR := Lib.hid hrest
    have hT := fun wr => ref_ReadText (bs rest) wr (by rw [hrz]; unfold maxLen; omega)
    rw [bs_list] at hT
    clear hrest
    rcases td_cases rest with ⟨b1, b2, b3, b4, b5, b6, b7⟩ | ⟨b1 | b1, b2, b3⟩
    · obtain ⟨t, ht⟩ : ∃ t, t = ts rest := ⟨_, rfl⟩
      obtain ⟨n, hn'⟩ : ∃ n, n = tk rest := ⟨_, rfl⟩
      obtain ⟨q, hq⟩ : ∃ q, q = t.length := ⟨_, rfl⟩
      have htz : (bs t).size = q := by rw [bs_size, hq]
      have hql : q ≤ rl := by rw [hq, ht, b7, List.length_take, List.length_drop]; omega
      have hnr : n ≤ rl := by rw [hn', b6, hrl]; exact b4
      obtain ⟨m, hm⟩ : ∃ m, m + n = rl := ⟨rl - n, by omega⟩
      rw [b1, ← ht, ← hn'] at hT
      have HT := Lib.hid (And.intro b1 (And.intro ht (And.intro hn' (And.intro hq hrl))))
      clear b1 b2 b3 b4 b5 b6 b7 ht hn' hq hrl
      have hsub1 : ((l.length : Int) - (k : Int)) = ((rl : Nat) : Int) := by omega
      have hsub2 : ((rl : Int) - (n : Int)) = ((m : Nat) : Int) := by omega
      by_cases hbig : q ≤ 1048576
      · have hbig' : (q : Int) ≤ 1048576 := by omega
        by_cases h4 : 4 ≤ m
        · have h4' : (4 : Int) ≤ (m : Int) := by omega
          obtain ⟨cut, hcut⟩ : ∃ cut, cut = rest.take (n + 4) := ⟨_, rfl⟩
          have hex2 : (bs rest).extract 0 (n + 4) = bs cut := by rw [hcut]; exact bs_upto rest (n + 4) (by rw [← HT.out.2.2.2.2]; omega)
          have hcl : cut.length = n + 4 := by rw [hcut, List.length_take, ← HT.out.2.2.2.2]; omega
          have hcs : (bs cut).size ≤ 140737488355328 := by rw [bs_size]; omega
          have hnl' : ((n : Int) + 4) ≤ (rl : Int) := by omega
          by_cases hok : okT cut
          · have hE := Lib.hid (show takeE cut = 0 by rw [take_err cut (by omega), if_pos hok])
            have hf : firstL rest = some (t, n + 4) := by
              have := first_yes HT.out.1 (by rw [← HT.out.2.1, ← HT.out.2.2.2.1]; exact hbig) (by rw [← HT.out.2.2.1, ← HT.out.2.2.2.2]; omega) (by rw [← HT.out.2.2.1, ← hcut]; exact hok)
              rw [this, ← HT.out.2.1, ← HT.out.2.2.1]
            have HE := Lib.hid (split_more hS.out (by rw [← HR.out]; exact hf))
            clear hf hok HT hcut
            go_wp2_with fail
            refine (hT wr).mono ?_
            rintro e w1 ⟨rfl, rfl⟩
            go_wp2_with fail
            refine (ref_Take (bs cut) wr hcs).mono ?_
            rintro e w1 ⟨rfl, k1⟩
            have K1 := Lib.hid (hR.out.1.trans (k1.mono (by have := hR.out.1.size; have := HB.out; omega)))
            have O1 := Lib.hid (show OffRow w1 B 9 1 (.slice a1 T.length cap1) T.length (scells T) from OffRow.kept hR.out.2 fun j hj => k1.block j (OffRow.lt hR.out.2 j hj).2)
            rw [bs_list, hE.out]
            clear k1
            obtain ⟨hi, hz0, hz1, hz2⟩ := HI.out
            go_wp2_with (at_builtin; refine wpList_append_off rfl (.tmp 51) (.tmp 53) 37 rfl B 9 i0 _ 1 16 Tryz.underlying37 hi hz0 hz1 hz2 rfl (.slice a1 T.length cap1) T.length (scells T) rfl ?c1 (.slice (some ⟨w1.heap.size, 0, none⟩) 1 1) rfl 1 [.string (bs t)] ?c2 ?c3 ?c4 ?c5 ?_)
            case c1 => exact O1.out.allocd _
            case c2 => exact src_block (size := 1) (cs := #[.string (bs t)]) Tryz.underlying37 (heap_new _ _) 1 1 rfl (by intro u hu; simp at hu; subst hu; rfl)
            case c3 => have := hn.out; unfold maxLen; omega
            case c4 => have := hn.out; omega
            case c5 => have := K1.out.size; have := HB.out; simp; omega
            intro v7 w7 hr7 hg7 hat7
            have O7 := Lib.hid (show OwnT w7 B v7 (T ++ [t]) from by unfold OwnT; rw [List.length_append, scells_snoc]; exact hr7)
            have K7 := Lib.hid ((K1.out.alloc (by have := K1.out.size; have := HB.out; omega) _).grown hg7 (by have := K1.out.size; have := HB.out; simp; omega) (fun j hj => ((O1.out.allocd (.cells #[.string (bs t)] 9)).lt j hj).1))
            clear hr7 hg7 hat7 hi hz0 hz1 hz2
            go_wp2_with fail
            go_roundw
            case rel => exact ⟨k + (n + 4), T ++ [t], by omega, by go_num, Lib.hid ⟨K7.out, O7.out⟩, Lib.hid (by have := hn4.out; simp; omega), HE⟩
            case measure => simp [intOf]; omega
          · have hE := Lib.hid (show takeE cut = 4 by rw [take_err cut (by omega), if_neg hok])
            have HE := Lib.hid (show splitL l = (T, k) from split_end (rest := rest) (by rw [HR.out]; exact hS.out) (first_no (by
              intro hh
              have := hh.2.2.2
              rw [← HT.out.2.2.1, ← hcut] at this
              exact hok this)))
            clear hok HT hcut
            go_wp2_with fail
            refine (hT wr).mono ?_
            rintro e w1 ⟨rfl, rfl⟩
            go_wp2_with fail
            refine (ref_Take (bs cut) wr hcs).mono ?_
            rintro e w1 ⟨rfl, k1⟩
            have K1 := Lib.hid (hR.out.1.trans (k1.mono (by have := hR.out.1.size; have := HB.out; omega)))
            have O1 := Lib.hid (show OwnT w1 B (.slice a1 T.length cap1) T from OffRow.kept hR.out.2 fun j hj => k1.block j (OffRow.lt hR.out.2 j hj).2)
            rw [bs_list, hE.out]
            clear k1
            go_wp2
            go_ret2
            exact split_ret HE.out (by rw [← HB.out]; exact O1.out) (by rw [← HB.out]; exact K1.out)
        · have h4' : (m : Int) < 4 := by omega
          have HE := Lib.hid (show splitL l = (T, k) from split_end (rest := rest) (by rw [HR.out]; exact hS.out) (first_no (by
            intro hh
            have := hh.2.2.1
            rw [← HT.out.2.2.1, ← HT.out.2.2.2.2] at this
            omega)))
          clear HT
          go_wp2_with fail
          refine (hT wr).mono ?_
          rintro e w1 ⟨rfl, rfl⟩
          go_wp2
          go_ret2
          exact split_ret HE.out (by rw [← HB.out]; exact hR.out.2) (by rw [← HB.out]; exact hR.out.1)
      · have hbig' : (1048576 : Int) < (q : Int) := by omega
        have HE := Lib.hid (show splitL l = (T, k) from split_end (rest := rest) (by rw [HR.out]; exact hS.out) (first_no (by
          intro hh
          have := hh.2.1
          rw [← HT.out.2.1, ← HT.out.2.2.2.1] at this
          omega)))
        clear HT
        go_wp2_with fail
        refine (hT wr).mono ?_
        rintro e w1 ⟨rfl, rfl⟩
        go_wp2
        go_ret2
        exact split_ret HE.out (by rw [← HB.out]; exact hR.out.2) (by rw [← HB.out]; exact hR.out.1)
    · rw [b1] at hT
      have HE := Lib.hid (show splitL l = (T, k) from split_end (rest := rest) (by rw [HR.out]; exact hS.out) (first_no (by omega)))
      clear b1 b2 b3
      go_wp2_with fail
      refine (hT wr).mono ?_
      rintro e w1 ⟨rfl, rfl⟩
      go_wp2
      go_ret2
      exact split_ret HE.out (by rw [← HB.out]; exact hR.out.2) (by rw [← HB.out]; exact hR.out.1)
    · rw [b1] at hT
      have HE := Lib.hid (show splitL l = (T, k) from split_end (rest := rest) (by rw [HR.out]; exact hS.out) (first_no (by omega)))
      clear b1 b2 b3
      go_wp2_with fail
      refine (hT wr).mono ?_
      rintro e w1 ⟨rfl, rfl⟩
      go_wp2
      go_ret2
      exact split_ret HE.out (by rw [← HB.out]; exact hR.out.2) (by rw [← HB.out]; exact hR.out.1)

theorem frame_ge (r : List UInt8) : r.length ≤ (frameL r).length := by rw [frameL_len, text, List.length_append]; omega
theorem frames_mem {T : List (List UInt8)} {t : List UInt8} (h : t ∈ T) : t.length ≤ (framesL T).length := by
  induction T with
  | nil => cases h
  | cons r T ih =>
    show _ ≤ (frameL r ++ framesL T).length
    rw [List.length_append]
    rcases List.mem_cons.1 h with rfl | h
    · have := frame_ge t; omega
    · have := ih h; omega
theorem frames_snoc {T : List (List UInt8)} {i : Nat} {t : List UInt8} (h : T[i]? = some t) : framesL (T.take (i + 1)) = framesL (T.take i) ++ frameL t := by
  rw [List.take_add_one, h]
  show framesL (T.take i ++ [t]) = _
  rw [framesL_append, framesL_one]
theorem frames_take (T : List (List UInt8)) (i : Nat) : (framesL (T.take i)).length ≤ (framesL T).length := by
  conv => rhs; rw [← List.take_append_drop i T, framesL_append, List.length_append]
  omega
set_option maxHeartbeats 1000000 in
theorem ref_Frames {a : Option Addr} {len cap : Nat} {T : List (List UInt8)} {w : World} (h : Hid (TxV w (.slice a len cap) T)) (hb : Hid ((framesL T).length ≤ 1000000000)) (hl : len ≤ 1000000000) :
    Calls Tryz.prog 15 #[.slice a len cap] w fun e w' => e = .returned (.string (bs (framesL T))) ∧ Below w.heap.size w w' := by
  have HL := Lib.hid h.out.len
  go_enter Tryz.func15, Tryz.ntmps15
  go_wp2_with fail
  go_loopw [3, 4] (fun sv iv wr => ∃ i : Nat, i ≤ len ∧ iv = .int .i64 (i : Int) ∧ sv = .string (bs (framesL (T.take i))) ∧ Hid (Below w.heap.size w wr)) (fun sv iv wr => len - (intOf iv).toNat)
  case atStart => exact ⟨0, Nat.zero_le _, rfl, rfl, Lib.hid (Below.refl _ _)⟩
  case round =>
    obtain ⟨i, hi, rfl, rfl, hK⟩ := hrel
    rcases Nat.lt_or_ge i len with hlt | hge
    · obtain ⟨t, ht⟩ : ∃ t, T[i]? = some t := ⟨_, List.getElem?_eq_getElem (by have := HL.out; omega)⟩
      obtain ⟨b, off, rfl, hbl, hc⟩ := (h.out.below hK.out).at ht
      have hlt2 : (i : Int) < (len : Int) := by omega
      have htl : t.length ≤ 1000000000 := Nat.le_trans (frames_mem (List.mem_of_getElem? ht)) hb.out
      have hcat : bs (framesL (T.take i)) ++ bs (frameL t) = bs (framesL (T.take (i + 1))) := by rw [frames_snoc ht, bs_cat, bs_list]
      have hsz : ((bs (framesL (T.take i))).size : Int) + ((bs (frameL t)).size : Int) ≤ 9223372036854775807 := by
        have := frames_take T i
        have := frameL_le (r := t) (by omega)
        have := hb.out
        rw [bs_size, bs_size]
        omega
      clear ht
      go_wp2_with fail
      refine (ref_Frame t wr htl).mono ?_
      rintro e w1 ⟨rfl, k1⟩
      have K1 := Lib.hid (hK.out.trans (k1.mono hK.out.size))
      clear k1
      go_wp2_with fail
      go_roundw
      case rel => exact ⟨i + 1, by omega, by go_num, rfl, K1⟩
      case measure => simp [intOf]; omega
    · obtain rfl : i = len := by omega
      have HE := Lib.hid (show T.take i = T by rw [HL.out]; exact List.take_length)
      rw [HE.out]
      go_wp2
      go_ret
      exact ⟨rfl, hK.out⟩
end Go.Proofs.YtgljjdldhnajdaaGreat
/- The law's own look: whether texts are few, the document's example. -/
set_option linter.unusedVariables false
set_option maxRecDepth 100000
set_option maxRecDepth 100000
namespace Go.Proofs.YtgljjdldhnajdaaGreat
open Go.RowKit

/-- All bytes of texts. -/
def totalT : List (List UInt8) → Nat
  | [] => 0
  | t :: T => t.length + totalT T
theorem totalT_append : ∀ A B : List (List UInt8), totalT (A ++ B) = totalT A + totalT B
  | [], B => by simp [totalT]
  | t :: A, B => by show t.length + totalT (A ++ B) = t.length + totalT A + totalT B; rw [totalT_append A B]; omega
theorem total_snoc {T : List (List UInt8)} {i : Nat} {t : List UInt8} (h : T[i]? = some t) : totalT (T.take (i + 1)) = totalT (T.take i) + t.length := by
  rw [List.take_add_one, h]
  show totalT (T.take i ++ [t]) = _
  rw [totalT_append]
  rfl
theorem total_mem {T : List (List UInt8)} {t : List UInt8} (h : t ∈ T) : t.length ≤ totalT T := by
  induction T with
  | nil => cases h
  | cons r T ih =>
    show _ ≤ r.length + totalT T
    rcases List.mem_cons.1 h with rfl | h
    · omega
    · have := ih h; omega
/-- So few texts, with so few bytes. -/
structure FewT (T : List (List UInt8)) : Prop where
  len : T.length ≤ 200
  all : totalT T ≤ 30000
theorem FewT.mem {T : List (List UInt8)} (h : FewT T) {t : List UInt8} (ht : t ∈ T) : t.length ≤ 30000 := by
  have := total_mem ht
  have := h.all
  omega
theorem frames_len : ∀ T : List (List UInt8), (∀ t ∈ T, t.length ≤ 9223372036854775807) → (framesL T).length ≤ totalT T + 15 * T.length
  | [], _ => by simp [framesL]
  | t :: T, h => by
    have h1 := frameL_le (r := t) (h t (List.mem_cons_self ..))
    have h2 := frames_len T (fun x hx => h x (List.mem_cons_of_mem _ hx))
    show (frameL t ++ framesL T).length ≤ t.length + totalT T + 15 * (T.length + 1)
    rw [List.length_append]
    omega
theorem FewT.frames {T : List (List UInt8)} (h : FewT T) : (framesL T).length ≤ 33000 := by
  have := frames_len T (fun t ht => by have := h.mem ht; omega)
  have := h.len
  have := h.all
  omega
theorem FewT.split {T : List (List UInt8)} (h : FewT T) : ∀ t ∈ T, t.length ≤ 1048576 := fun t ht => by have := h.mem ht; omega
theorem TxV.fit {w : World} {a : Option Addr} {len cap : Nat} {T : List (List UInt8)} (h : TxV w (.slice a len cap) T) : len = T.length := h.len

def FewPost (T : List (List UInt8)) (w : World) (e : Ending) (w' : World) : Prop := ∃ b, e = .returned (.bool b) ∧ (b = true → FewT T) ∧ w = w'
theorem split_ab : splitL (frameL [97, 98] ++ [66, 97]) = ([[97, 98]], 7) := by
  have h0 : firstL [66, 97] = none := first_no (by
    intro h
    have := h.2.2.1
    simp at this)
  have h7 : (frameL [97, 98]).length = 7 := by rw [frameL_len, text_ab]; rfl
  rw [split_some (frame_first (by decide) _), List.drop_left, split_none h0, h7]
  rfl
end Go.Proofs.YtgljjdldhnajdaaGreat
