/- Texts for layer 9, put together: CrcRefSum, CrcRefPuts, BlockRefPack, BlockRefCheck, QFirst -/
import Derived.Test.YteejldddgogbkaaGreatDoorBu03
import Derived.RegionTactic
import Derived.Test.YteejldddgogbkaaGreatDoorBu13
import Derived.Test.YteejldddgogbkaaGreatDoorBu12
import Derived.Test.YteejldddgogbkaaGreatDoorBu02
import Derived.Test.YteejldddgogbkaaGreatDoorBu06
/- The document's own sum: bit by bit, as a list of bits. -/
set_option linter.unusedVariables false
set_option maxRecDepth 100000
namespace Go.Proofs.YteejldddgogbkaaGreatDoor
open Go.RowKit

/-- In block B stand 32 bits. -/
def Regs (B : Nat) (g : Nat → Bool) (w : World) : Prop := ∀ j, j < 32 → w.cell? ⟨B, j, none⟩ = some (.bool (g j)) ∧ w.frozen? ⟨B, j, none⟩ = false

theorem Regs.same {B : Nat} {g g' : Nat → Bool} {w : World} (h : Regs B g w) (e : ∀ j, j < 32 → g j = g' j) : Regs B g' w := fun j hj => by rw [← e j hj]; exact h j hj
theorem Regs.set {B : Nat} {g : Nat → Bool} {w : World} (h : Regs B g w) {i : Nat} (hi : i < 32) (v : Bool) : Regs B (fun j => if j = i then v else g j) (w.setCell ⟨B, i, none⟩ (.bool v)) := by
  intro j hj
  refine ⟨?_, by rw [World.frozen?_setCell]; exact (h j hj).2⟩
  by_cases hji : j = i
  · subst hji
    rw [World.cell?_setCell_same w _ _ (h j hj).1]
    simp
  · rw [World.cell?_setCell_other w _ _ _ (fun e => hji (by injection e with _ e2; exact e2.symm)), (h j hj).1]
    simp [hji]
theorem regs_new (w : World) (t : TypeId) : Regs w.heap.size (fun _ => false) (w.alloc (.cells (Array.replicate 32 (.bool false)) t)) := by
  intro j hj
  refine ⟨?_, ?_⟩
  · rw [World.cell?_alloc_mark]
    simp [hj]
  · rw [World.frozen?_alloc_mark]
    simp

theorem down_next (x k j : Nat) : (if j = k then down x k (k + 1) else down x k j) = down x (k + 1) j := by
  unfold down
  by_cases hjk : j = k
  · subst hjk; rw [if_pos rfl, if_neg (by omega), if_pos (by omega)]
  · by_cases hl : j < k
    · simp [hjk, hl, show j < k + 1 by omega]
    · simp [hjk, hl, show ¬ j < k + 1 by omega]
theorem added_yes (y k j : Nat) (h : (2197175160 : Nat).testBit k = true) : (if j = k then !(added y k k) else added y k j) = added y (k + 1) j := by
  unfold added
  by_cases hjk : j = k
  · subst hjk
    rw [if_pos rfl, if_neg (by omega), if_pos (by omega), Nat.testBit_xor, h, Bool.xor_true]
  · by_cases hl : j < k
    · simp [hjk, hl, show j < k + 1 by omega]
    · simp [hjk, hl, show ¬ j < k + 1 by omega]
theorem added_no (y k j : Nat) (h : (2197175160 : Nat).testBit k = false) : added y k j = added y (k + 1) j := by
  unfold added
  by_cases hjk : j = k
  · subst hjk
    rw [if_neg (by omega), if_pos (by omega), Nat.testBit_xor, h, Bool.xor_false]
  · by_cases hl : j < k
    · simp [hl, show j < k + 1 by omega]
    · simp [hl, show ¬ j < k + 1 by omega]
theorem pow32 (k : Nat) (h : k < 32) : ∃ p : Nat, IntKind.u32.wrap ((2 : Int) ^ k) = (p : Int) ∧ 1 ≤ p ∧ ((p : Int) == 0) = false ∧ ∃ d : Nat, (2197175160 : Int) / (p : Int) = (d : Int) ∧ d ≤ 2197175160 ∧ ((d : Int) % 2 == 1) = (2197175160 : Nat).testBit k := by
  have hp : 2 ^ k < 2 ^ 32 := Nat.pow_lt_pow_right (by decide) h
  have h1 : 1 ≤ 2 ^ k := Nat.one_le_two_pow
  refine ⟨2 ^ k, ?_, h1, beq_eq_false_iff_ne.2 (by omega), 2197175160 / 2 ^ k, (Int.natCast_ediv 2197175160 (2 ^ k)).symm, Nat.div_le_self _ _, ?_⟩
  · rw [IntKind.wrap_u32', show ((2 : Int) ^ k) = ((2 ^ k : Nat) : Int) by simp]
    omega
  · rw [Nat.testBit_eq_decide_div_mod_eq]
    show decide _ = _
    apply decide_eq_decide.2
    omega
theorem ret_u32 {a b : Nat} (h : b = a) : Ending.returned (.int .u32 (a : Int)) = Ending.returned (.int .u32 (b : Int)) := by rw [h]
theorem beq_eq_decide (a b : Int) : (a == b) = decide (a = b) := rfl
theorem pow8 (k : Nat) (h : k < 8) : ∃ p : Nat, IntKind.u8.wrap ((2 : Int) ^ k) = (p : Int) ∧ 1 ≤ p ∧ ((p : Int) == 0) = false ∧ ∀ c : Nat, decide (((c / p : Nat) : Int) % 2 = 1) = c.testBit k := by
  have hp : 2 ^ k < 2 ^ 8 := Nat.pow_lt_pow_right (by decide) h
  have h1 : 1 ≤ 2 ^ k := Nat.one_le_two_pow
  refine ⟨2 ^ k, ?_, h1, beq_eq_false_iff_ne.2 (by omega), fun c => ?_⟩
  · rw [IntKind.wrap_u8', show ((2 : Int) ^ k) = ((2 ^ k : Nat) : Int) by simp]
    omega
  · rw [Nat.testBit_eq_decide_div_mod_eq]
    apply decide_eq_decide.2
    omega
theorem quo8 (c p : Nat) (hc : c < 256) (hp : 1 ≤ p) : (c : Int) / (p : Int) = ((c / p : Nat) : Int) := by omega

set_option maxHeartbeats 1000000 in
theorem ref_SumC (s : ByteArray) (w : World) (hs : s.size ≤ 140737488355328) :
    Calls Tryz.prog 37 #[.string s] w fun e w' => e = .returned (.int .u32 (sumL s.data.toList)) ∧ Below w.heap.size w w' := by
  go_enter Tryz.func37, Tryz.ntmps37
  go_wp2_with fail
  go_loopw [4] (fun i wr => ∃ k : Nat, k ≤ 32 ∧ i = .int .i64 k ∧ Regs w.heap.size (fun j => decide (j < k)) wr ∧ Below w.heap.size w wr) (fun i wr => 32 - (intOf i).toNat)
  case atStart => exact ⟨0, by omega, rfl, (regs_new w 127).same (fun j _ => by simp), (Below.refl _ _).alloc (Nat.le_refl _) _⟩
  case round =>
    obtain ⟨k, hk, rfl, hreg, hbw⟩ := hrel
    have HB := Lib.hid hbw
    have HR := Lib.hid hreg
    clear hbw hreg
    by_cases hlt : k < 32
    · obtain ⟨c1, c2⟩ := HR.out k hlt
      go_wp2_with fail
      go_roundw
      case rel => exact ⟨k + 1, by omega, by go_num, (HR.out.set hlt true).same (fun j _ => by by_cases hj : j = k <;> simp [hj] <;> omega), HB.out.setCell (Nat.le_refl _) _⟩
      case measure => simp [intOf]; omega
    · obtain rfl : k = 32 := by omega
      have HR1 := Lib.hid (show Regs w.heap.size (fun j => (4294967295 : Nat).testBit j) wr from HR.out.same (fun j hj => by
        have := Nat.testBit_two_pow_sub_one 32 j
        rw [show (2 : Nat) ^ 32 - 1 = 4294967295 by decide] at this
        rw [this]))
      clear HR
      go_wp2_with fail
      go_loopw [5] (fun i wo => ∃ k : Nat, k ≤ s.size ∧ i = .int .i64 k ∧ Regs w.heap.size (fun j => (feedL 4294967295 (s.data.toList.take k)).testBit j) wo ∧ Below w.heap.size w wo) (fun i wr => s.size - (intOf i).toNat)
      case atStart => exact ⟨0, by omega, rfl, HR1.out, HB.out⟩
      case round =>
        obtain ⟨i, hi, rfl, hreg, hbw⟩ := hrel
        have HO := Lib.hid hbw
        have HRO := Lib.hid hreg
        clear hbw hreg HB HR1
        by_cases hit : i < s.size
        · have hfn := Lib.hid (feedS_next 4294967295 s i hit)
          have hq := Lib.hid (feedL_lt' (s.data.toList.take i) (r := 4294967295) (by decide))
          generalize feedL 4294967295 (s.data.toList.take i) = R at *
          have hc := Lib.hid (s[i]).toNat_lt
          go_wp2_with fail
          go_loopw [6] (fun y wp => ∃ k : Nat, k ≤ 8 ∧ y = .int .i64 k ∧ Regs w.heap.size (fun j => (feedB R ((bitsN 8 (s[i]).toNat).take k)).testBit j) wp ∧ Below w.heap.size w wp) (fun y wr => 8 - (intOf y).toNat)
          case atStart => exact ⟨0, by omega, rfl, HRO.out, HO.out⟩
          case round =>
            obtain ⟨k, hk, rfl, hreg, hbw⟩ := hrel
            have HP := Lib.hid hbw
            have HRP := Lib.hid hreg
            clear hbw hreg HO HRO hlt
            by_cases hk8 : k < 8
            · go_wp2_with fail
              obtain ⟨pw, h1, h2, h3, h4⟩ := pow8 k hk8
              have hbit := Lib.hid (h4 (s[i]).toNat)
              have hd := quo8 (s[i]).toNat pw hc.out h2
              have hfnext := Lib.hid (feed_next R (s[i]).toNat k hk8)
              have hxl := Lib.hid (show feedB R ((bitsN 8 (s[i]).toNat).take k) < 4294967296 from feedB_lt _ hq.out)
              generalize feedB R ((bitsN 8 (s[i]).toNat).take k) = x at *
              obtain ⟨d, hd1⟩ : ∃ d, d = (s[i]).toNat / pw := ⟨_, rfl⟩
              rw [← hd1] at hbit hd
              clear hd1 h4
              go_quiet (fail)
              have HRQ := Lib.hid (show Regs w.heap.size (fun j => x.testBit j) (wr.drewN nq) from HRP.out)
              have HQ := Lib.hid (below_drewN HP.out nq)
              have hbe : ((d : Int) % 2 == 1) = (s[i]).toNat.testBit k := by rw [← hbit.out]; exact beq_eq_decide _ _
              rw [hbe]
              generalize (s[i]).toNat.testBit k = bit at *
              generalize wr.drewN nq = wq at *
              clear HRP HP hbe hbit
              have c0 : wq.cell? ⟨w.heap.size, 0, none⟩ = some (.bool (x.testBit 0)) := (HRQ.out 0 (by omega)).1
              obtain ⟨low, hlow⟩ : ∃ low, low = x.testBit 0 := ⟨_, rfl⟩
              rw [← hlow] at c0
              have HLOW := Lib.hid hlow
              clear hlow
              go_wp2_with fail
              obtain ⟨out, hout⟩ : ∃ out, out = !(low == bit) := ⟨_, rfl⟩
              rw [← hout]
              have HOUT := Lib.hid (show stepB x bit = x / 2 ^^^ (if out = true then 2197175160 else 0) by rw [hout, HLOW.out]; rfl)
              clear hout HLOW c0
              go_loopw [9] (fun y wl => ∃ j : Nat, j ≤ 31 ∧ y = .int .i64 j ∧ Regs w.heap.size (down x j) wl ∧ Below w.heap.size w wl) (fun y wl => 31 - (intOf y).toNat)
              case atStart => exact ⟨0, by omega, rfl, HRQ.out.same (fun j _ => by simp [down]), HQ.out⟩
              case round =>
                obtain ⟨j, hj, rfl, hreg, hbw⟩ := hrel
                have HL := Lib.hid hbw
                have HRL := Lib.hid hreg
                clear hbw hreg HRQ HQ
                by_cases hj31 : j < 31
                · obtain ⟨c1, _⟩ := HRL.out (j + 1) (by omega)
                  obtain ⟨c2, c3⟩ := HRL.out j (by omega)
                  obtain ⟨nx, hnx⟩ : ∃ nx, nx = down x j (j + 1) := ⟨_, rfl⟩
                  obtain ⟨ol, hol⟩ : ∃ ol, ol = down x j j := ⟨_, rfl⟩
                  rw [← hnx] at c1
                  rw [← hol] at c2
                  have HN := Lib.hid hnx
                  clear hnx hol
                  go_wp2_with fail
                  go_roundw
                  case rel =>
                    refine ⟨j + 1, by omega, by go_num, (HRL.out.set (by omega) nx).same (fun i hi => ?_), HL.out.setCell (Nat.le_refl _) _⟩
                    rw [HN.out]
                    exact down_next x j i
                  case measure => simp [intOf]; omega
                · obtain rfl : j = 31 := by omega
                  obtain ⟨c2, c3⟩ := HRL.out 31 (by omega)
                  obtain ⟨ol, hol⟩ : ∃ ol, ol = down x 31 31 := ⟨_, rfl⟩
                  rw [← hol] at c2
                  clear hol
                  go_wp2_with fail
                  have HR5 := Lib.hid (show Regs w.heap.size (added (x / 2) 0) (wr.setCell ⟨w.heap.size, 31, none⟩ (.bool false)) from (HRL.out.set (i := 31) (by omega) false).same (fun i hi => by
                    rw [show added (x / 2) 0 i = (x / 2).testBit i by simp [added]]
                    exact down_all x i hxl.out hi))
                  have HB5 := Lib.hid (HL.out.setCell (p := ⟨w.heap.size, 31, none⟩) (Nat.le_refl _) (.bool false))
                  clear HRL HL c2 c3
                  generalize wr.setCell ⟨w.heap.size, 31, none⟩ (.bool false) = ws at *
                  cases out with
                  | false =>
                    go_loopw [10] (fun y wl => y = .int .i64 0 ∧ Regs w.heap.size (added (x / 2) 0) wl ∧ Below w.heap.size w wl) (fun y wl => 0)
                    case atStart => exact ⟨rfl, HR5.out, HB5.out⟩
                    case round =>
                      obtain ⟨rfl, hreg, hbw⟩ := hrel
                      have HL := Lib.hid hbw
                      have HRL := Lib.hid hreg
                      clear hbw hreg HR5 HB5
                      go_wp2_with fail
                      go_roundw
                      case rel =>
                        refine ⟨k + 1, by omega, by go_num, HRL.out.same (fun i hi => ?_), HL.out⟩
                        rw [hfnext.out, HOUT.out]
                        simp [added]
                      case measure => simp [intOf]; omega
                  | true =>
                    go_loopw [10] (fun y wl => ∃ j : Nat, j ≤ 32 ∧ y = .int .i64 j ∧ Regs w.heap.size (added (x / 2) j) wl ∧ Below w.heap.size w wl) (fun y wl => 32 - (intOf y).toNat)
                    case atStart => exact ⟨0, by omega, rfl, HR5.out, HB5.out⟩
                    case round =>
                      obtain ⟨j, hj, rfl, hreg, hbw⟩ := hrel
                      have HL := Lib.hid hbw
                      have HRL := Lib.hid hreg
                      clear hbw hreg HR5 HB5
                      by_cases hj32 : j < 32
                      · obtain ⟨c2, c3⟩ := HRL.out j (by omega)
                        obtain ⟨ol, hol⟩ : ∃ ol, ol = added (x / 2) j j := ⟨_, rfl⟩
                        rw [← hol] at c2
                        have HOL := Lib.hid hol
                        obtain ⟨pq, p1, p2, p3, dd, p4, p5, p6⟩ := pow32 j hj32
                        clear hol
                        cases htap : (2197175160 : Nat).testBit j with
                        | true =>
                          rw [htap] at p6
                          have HTAP := Lib.hid htap
                          clear htap
                          go_wp2_with fail
                          go_roundw
                          case rel =>
                            refine ⟨j + 1, by omega, by go_num, (HRL.out.set (by omega) (!ol)).same (fun i hi => ?_), HL.out.setCell (Nat.le_refl _) _⟩
                            rw [HOL.out]
                            exact added_yes (x / 2) j i HTAP.out
                          case measure => simp [intOf]; omega
                        | false =>
                          rw [htap] at p6
                          have HTAP := Lib.hid htap
                          clear htap
                          go_wp2_with fail
                          go_roundw
                          case rel =>
                            refine ⟨j + 1, by omega, by go_num, HRL.out.same (fun i hi => added_no (x / 2) j i HTAP.out), HL.out⟩
                          case measure => simp [intOf]; omega
                      · obtain rfl : j = 32 := by omega
                        go_wp2_with fail
                        go_roundw
                        case rel =>
                          refine ⟨k + 1, by omega, by go_num, HRL.out.same (fun i hi => ?_), HL.out⟩
                          rw [hfnext.out, HOUT.out]
                          simp [added, hi]
                        case measure => simp [intOf]; omega
            · obtain rfl : k = 8 := by omega
              rw [feed_all R _ hc.out, ← hfn.out] at HRP
              go_wp2_with fail
              go_roundw
              case rel => exact ⟨i + 1, by omega, by go_num, HRP.out, HP.out⟩
              case measure => simp [intOf]; omega
        · obtain rfl : i = s.size := by omega
          rw [feedS_all] at HRO
          have hrl := feedL_lt' s.data.toList (r := 4294967295) (by decide)
          have hsum : sumL s.data.toList = turnedFrom (feedL 4294967295 s.data.toList) 0 := by unfold sumL turnedFrom; simp
          generalize feedL 4294967295 s.data.toList = r at *
          have HRr := Lib.hid hrl
          have HSUM := Lib.hid hsum
          clear hrl hsum
          go_wp2_with fail
          go_loopw [11, 12] (fun x y wl => ∃ j : Nat, j ≤ 32 ∧ y = .int .i64 ((j : Int) - 1) ∧ x = .int .u32 (turnedFrom r j) ∧ Regs w.heap.size (fun j => r.testBit j) wl ∧ Below w.heap.size w wl) (fun x y wl => (intOf y + 1).toNat)
          case atStart => exact ⟨32, by omega, rfl, by rw [turned_top]; rfl, HRO.out, HO.out⟩
          case round =>
            obtain ⟨j, hj, rfl, rfl, hreg, hbw⟩ := hrel
            have HL := Lib.hid hbw
            have HRL := Lib.hid hreg
            clear hbw hreg HRO HO
            rcases Nat.eq_zero_or_pos j with rfl | hpos
            · rw [show ((0 : Nat) : Int) - 1 = -1 from rfl]
              go_wp2_with fail
              go_ret
              exact ⟨ret_u32 HSUM.out, HL.out⟩
            · obtain ⟨m, rfl⟩ : ∃ m, j = m + 1 := ⟨j - 1, by omega⟩
              rw [show ((m + 1 : Nat) : Int) - 1 = (m : Int) by omega]
              have hnx := turned_next r m HRr.out (by omega)
              have hle : turnedFrom r m ≤ 4294967295 := by unfold turnedFrom; exact Nat.le_trans (Nat.div_le_self _ _) (by omega)
              have c1 : wr.cell? ⟨w.heap.size, m, none⟩ = some (.bool (r.testBit m)) := (HRL.out m (by omega)).1
              generalize turnedFrom r (m + 1) = X at *
              obtain ⟨Y, hYd⟩ : ∃ Y, Y = turnedFrom r m := ⟨_, rfl⟩
              rw [← hYd] at hnx hle
              have HYD := Lib.hid hYd
              clear hYd
              cases hb : r.testBit m with
              | true =>
                rw [hb] at hnx c1
                rw [if_pos rfl] at hnx
                have hY : (2 : Int) * (X : Int) = (Y : Int) := by omega
                clear hnx hb
                go_wp2_with fail
                go_roundw
                case rel => exact ⟨m, by omega, rfl, by rw [HYD.out], HRL.out, HL.out⟩
                case measure => simp [intOf]
              | false =>
                rw [hb] at hnx c1
                rw [if_neg (by simp)] at hnx
                have hY : (2 : Int) * (X : Int) + 1 = (Y : Int) := by omega
                clear hnx hb
                go_wp2_with fail
                go_roundw
                case rel => exact ⟨m, by omega, rfl, by rw [HYD.out], HRL.out, HL.out⟩
                case measure => simp [intOf]
end Go.Proofs.YteejldddgogbkaaGreatDoor
/- The document's own answers: a text with its sum, put and taken. -/
set_option linter.unusedVariables false
set_option maxRecDepth 100000
namespace Go.Proofs.YteejldddgogbkaaGreatDoor
open Go.RowKit

set_option maxHeartbeats 400000 in
theorem ref_Four (x : Nat) (w : World) (hx : x < 4294967296) :
    Calls Tryz.prog 35 #[.int .u32 x] w fun e w' => e = .returned (.string (bs (four x))) ∧ Below w.heap.size w w' := by
  have hconv := conv_four w w.heap.size x rfl ((x : Int) / 16777216) ((x : Int) / 65536 % 256) ((x : Int) / 256 % 256) ((x : Int) % 256) (by omega) (by omega) (by omega) (by omega)
  go_enter Tryz.func35, Tryz.ntmps35
  go_wp2
  go_ret
  exact ⟨rfl, (Below.refl _ _).alloc (Nat.le_refl _) _⟩

set_option maxHeartbeats 400000 in
theorem ref_Put (s : ByteArray) (w : World) (hs : s.size ≤ 140737488351232) :
    Calls Tryz.prog 10 #[.string s] w fun e w' => e = .returned (.string (bs (s.data.toList ++ four (sumL s.data.toList)))) ∧ Below w.heap.size w w' := by
  have hcat := cat_bs s (four (sumL s.data.toList))
  have hsum : (s.size : Int) + ((bs (four (sumL s.data.toList))).size : Int) ≤ 9223372036854775807 := by rw [bs_size, four_len]; omega
  have hlt := sumL_lt s.data.toList
  go_enter Tryz.func10, Tryz.ntmps10
  go_wp2_with fail
  refine (ref_SumC s w (by omega)).mono ?_
  rintro e w1 ⟨rfl, k1⟩
  go_wp2_with fail
  refine (ref_Four _ w1 hlt).mono ?_
  rintro e w2 ⟨rfl, k2⟩
  go_wp2
  go_ret
  exact ⟨rfl, k1.trans (k2.mono k1.size)⟩

theorem seen_refSum (W : World) (s : ByteArray) (hs : s.size ≤ 140737488355328) (n : Seen W) : Calls Tryz.prog 37 #[.string s] n.val fun e w'' => e = .returned (.int .u32 (sumL s.data.toList)) ∧ ∃ m : Seen W, w'' = m.val :=
  (ref_SumC s n.val hs).mono fun _ w'' ⟨h1, h2⟩ => ⟨h1, ⟨⟨w'', n.below.trans (h2.mono n.below.size)⟩, rfl⟩⟩
theorem seen_refFour (W : World) (x : Nat) (hx : x < 4294967296) (n : Seen W) : Calls Tryz.prog 35 #[.int .u32 x] n.val fun e w'' => e = .returned (.string (bs (four x))) ∧ ∃ m : Seen W, w'' = m.val :=
  (ref_Four x n.val hx).mono fun _ w'' ⟨h1, h2⟩ => ⟨h1, ⟨⟨w'', n.below.trans (h2.mono n.below.size)⟩, rfl⟩⟩

set_option maxHeartbeats 400000 in
theorem ref_Take (s : ByteArray) (w : World) (hs : s.size ≤ 140737488355328) :
    Calls Tryz.prog 42 #[.string s] w fun e w' => e = .returned (.tuple #[.string (bs (takeT s.data.toList)), .int .i64 (takeE s.data.toList)]) ∧ Below w.heap.size w w' := by
  have hl : s.data.toList.length = s.size := by rw [← Lib.size_eq]
  by_cases h4 : s.size < 4
  · have e1 : takeT s.data.toList = [] := by unfold takeT; rw [if_neg (by omega)]
    have e2 : takeE s.data.toList = 2 := by unfold takeE; rw [if_pos (by omega)]
    rw [e1, e2]
    clear e1 e2
    go_enter Tryz.func42, Tryz.ntmps42
    go_wp2
    go_ret2
    exact ⟨rfl, Below.refl _ _⟩
  · obtain ⟨n, hn⟩ : ∃ n : Nat, s.size = n + 4 := ⟨s.size - 4, by omega⟩
    obtain ⟨x1, x2⟩ := take_split (s := s) (n := n) (by omega)
    have hok : okT s.data.toList ↔ s.data.toList.drop n = four (sumL (s.data.toList.take n)) := by unfold okT; rw [hl, hn, Nat.add_sub_cancel]
    have e1 : takeT s.data.toList = if okT s.data.toList then s.data.toList.take n else [] := by
      unfold takeT
      rw [hl, hn, Nat.add_sub_cancel]
      by_cases h : okT s.data.toList
      · rw [if_pos ⟨by omega, h⟩, if_pos h]
      · rw [if_neg (fun x => h x.2), if_neg h]
    have e2 : takeE s.data.toList = if okT s.data.toList then 0 else 4 := by unfold takeE; rw [if_neg (by omega)]
    have hsz : ((s.size : Int) - 4) = (n : Int) := by omega
    have hle : n ≤ s.size := by omega
    have hlen : (s.data.toList.take n).length ≤ 140737488355328 := by rw [List.length_take]; omega
    have HN := Lib.hid hn
    clear hn
    go_enter Tryz.func42, Tryz.ntmps42
    go_wp2_with fail
    refine region_seen (by kernel_rfl) (by kernel_rfl) ?_
    repeat (go_big_quiet_step (first | (go_at_call 37; exact seen_refSum _ _ (by rw [bs_size]; exact hlen) _) | (go_at_call 35; exact seen_refFour _ _ (sumL_lt _) _)))
    refine wpQuiet_nil ?_
    rintro _ ⟨m, rfl⟩
    go_wp2_with fail
    · rename_i h
      rw [Bool.not_eq_true', Bool.eq_false_iff, Ne, same_bytes, bs_list, ← hok] at h
      go_ret2
      exact ⟨ret2s (by rw [e1, if_neg h]; rfl) (by rw [e2, if_neg h]), m.below⟩
    · rename_i h
      rw [Bool.not_eq_false', same_bytes, bs_list, ← hok] at h
      go_ret2
      exact ⟨ret2s (by rw [e1, if_pos h]) (by rw [e2, if_pos h]), m.below⟩
end Go.Proofs.YteejldddgogbkaaGreatDoor
/- The document's Pack. -/
set_option linter.unusedVariables false
set_option maxRecDepth 100000
set_option maxRecDepth 100000
namespace Go.Proofs.YteejldddgogbkaaGreatDoor
open Go.RowKit

theorem seen_call {P : Program} {F : FuncId} {args : Array Value} {r : Value} {W : World} (h : ∀ w, Calls P F args w fun e w' => e = .returned r ∧ Below w.heap.size w w') (n : Seen W) : Calls P F args n.val fun e w'' => e = .returned r ∧ ∃ m : Seen W, w'' = m.val :=
  (h n.val).mono fun _ w'' ⟨h1, h2⟩ => ⟨h1, ⟨⟨w'', n.below.trans (h2.mono n.below.size)⟩, rfl⟩⟩
theorem bs_sum (l m : List UInt8) (h : l.length + m.length ≤ 9223372036854775807) : ((bs l).size : Int) + ((bs m).size : Int) ≤ 9223372036854775807 := by rw [bs_size, bs_size]; omega
theorem bs_join (l m : List UInt8) : bs l ++ bs m = bs (l ++ m) := by rw [bs_cat, bs_list]

set_option maxHeartbeats 4000000 in
theorem ref_Pack (a : Option Addr) (len cap : Nat) (T : List Ent) (w : World) (hT : Hid (IsE w a len T)) (hl : len ≤ 65536) (hs : Hid (smallE T)) :
    Calls Tryz.prog 32 #[.slice a len cap] w fun e w' => e = .returned (.string (bs (listB T ++ four (sumL (listB T))))) ∧ Below w.heap.size w w' := by
  have hlen := Lib.hid hT.out.1
  go_enter Tryz.func32, Tryz.ntmps32
  go_wp2_with fail
  refine (ref_Whole (len : Int) w (by omega) (by omega)).mono ?_
  rintro e w1 ⟨rfl, k1⟩
  have K1 := Lib.hid k1
  clear k1
  go_wp2_with fail
  go_loopw [3, 4, 5] (fun sv lv iv wr => ∃ i : Nat, i ≤ len ∧ iv = .int .i64 i ∧ sv = .string (bs (whole (len : Int) ++ entsB [] (T.take i))) ∧ lv = .string (bs (lastK [] (T.take i))) ∧ Hid (Below w.heap.size w wr)) (fun sv lv iv wr => len - (intOf iv).toNat)
  case atStart => exact ⟨0, Nat.zero_le _, rfl, by simp [entsB], rfl, K1⟩
  case round =>
    obtain ⟨i, hi, rfl, rfl, rfl, hB⟩ := hrel
    by_cases hlt : i < len
    · obtain ⟨b, off, x, rfl, hx, _, hc⟩ := (hT.out.below hB.out).at hlt
      have hsx := hs.out x (List.mem_of_getElem? hx)
      have c0 := hc.c0
      have c1 := hc.c1
      have c2 := hc.c2
      have hnext := Lib.hid (show entsB [] (T.take (i + 1)) = entsB [] (T.take i) ++ entB (lastK [] (T.take i)) x by rw [take_ent hx, entsB_snoc])
      have hlast := Lib.hid (show lastK [] (T.take (i + 1)) = x.key by rw [take_ent hx, lastK_snoc])
      have hll := Lib.hid (show (whole (len : Int) ++ entsB [] (T.take i)).length ≤ 10000000000 by
        have h0 := (whole_len (n := (len : Int)) (by omega) (by omega)).1
        have h1 := entsB_len (T.take i) [] (hs.out.take i)
        rw [List.length_take] at h1
        rw [List.length_append]
        omega)
      have hlk : (lastK [] (T.take i)).length ≤ 65536 := lastK_le _ _ (by simp) (hs.out.take i)
      obtain ⟨S, hS⟩ : ∃ S, S = whole (len : Int) ++ entsB [] (T.take i) := ⟨_, rfl⟩
      obtain ⟨last, hla⟩ : ∃ last, last = lastK [] (T.take i) := ⟨_, rfl⟩
      have hnext2 := Lib.hid (show whole (len : Int) ++ entsB [] (T.take (i + 1)) = S ++ entB last x by rw [hnext.out, hS, hla, List.append_assoc])
      rw [← hS] at hll ⊢
      rw [← hla] at hlk ⊢
      obtain ⟨n, hn⟩ : ∃ n, n = sharedL last x.key := ⟨_, rfl⟩
      have hnk : n ≤ x.key.length := by rw [hn]; exact (shared_le _ _).2
      obtain ⟨rest, hrest⟩ : ∃ rest, rest = x.key.drop n := ⟨_, rfl⟩
      have HE := Lib.hid (show entB last x = whole (n : Int) ++ text rest ++ (if x.gone then whole 0 else whole ((x.val.length + 1 : Nat) : Int) ++ x.val) by rw [hrest, hn]; rfl)
      have hrl : rest.length ≤ 65536 := by rw [hrest, List.length_drop]; omega
      have hr := rest_bs x.key n
      rw [← hrest, bs_size] at hr
      have z1 : (bs x.key).size = x.key.length := bs_size _
      have z2 : (bs x.val).size = x.val.length := bs_size _
      obtain ⟨W0, hW0⟩ : ∃ W0, wr.alloc (.cells #[.string (bs x.key), .string (bs x.val), .bool x.gone] 49) = W0 := ⟨_, rfl⟩
      have P0 := Lib.hid (show Bx3 wr.heap.size x W0 ∧ Below w.heap.size w W0 by rw [← hW0]; exact ⟨heap_new wr _, hB.out.alloc hB.out.size _⟩)
      have HW0 := Lib.hid hW0
      have HN := Lib.hid hn
      clear hx hc hnext hS hla hn hrest hW0 hB
      go_upto_region 7 with (fail)
      rw [HW0.out]
      obtain ⟨Z, hZ⟩ : ∃ Z, Z = wr.heap.size := ⟨_, rfl⟩
      rw [← hZ] at P0 ⊢
      clear HW0 c0 c1 c2 hZ
      obtain ⟨d0, d1, d2⟩ := P0.out.1.cells
      go_wp2_with fail
      refine (ref_Shared last x.key W0 (by omega) (by omega)).mono ?_
      rintro e W1 ⟨rfl, k1⟩
      rw [← HN.out]
      have P1 := Lib.hid (show Bx3 Z x W1 ∧ Below w.heap.size w W1 from ⟨(k1.block Z (heap_lt P0.out.1)).trans P0.out.1, P0.out.2.trans (k1.mono P0.out.2.size)⟩)
      clear k1 P0 d0 d1 d2
      obtain ⟨A, hA⟩ : ∃ A, A = whole (n : Int) := ⟨_, rfl⟩
      obtain ⟨X, hX⟩ : ∃ X, X = text rest := ⟨_, rfl⟩
      have hAl : A.length ≤ 11 := by rw [hA]; exact (whole_len (by omega) (by omega)).1
      have hXl : X.length ≤ 70000 := by
        rw [hX]
        unfold text
        rw [List.length_append]
        have := (whole_len (n := (rest.length : Int)) (by omega) (by omega)).1
        omega
      have H24 := Lib.hid (fun n : Seen W1 => by
        have h := seen_call (fun W => ref_Whole (n := ((sharedL last x.key : Nat) : Int)) W (by have := (shared_le last x.key).2; omega) (by have := (shared_le last x.key).2; omega)) n
        rw [← HN.out, ← hA] at h
        exact h)
      have H26 := Lib.hid (fun n : Seen W1 => by
        have h := seen_call (fun W => ref_Text (bs rest) W (by rw [bs_size]; omega)) n
        rw [bs_list, ← hX] at h
        exact h)
      have n0 : ∀ n : Seen W1, n.val.cell? ⟨Z, 0, none⟩ = some (.string (bs x.key)) := fun n => by rw [n.below.cell (p := ⟨Z, 0, none⟩) (heap_lt P1.out.1)]; exact P1.out.1.cells.1
      obtain ⟨S1, hS1⟩ : ∃ S1, S1 = S ++ A := ⟨_, rfl⟩
      obtain ⟨S2, hS2⟩ : ∃ S2, S2 = S1 ++ X := ⟨_, rfl⟩
      have j1 : bs S ++ bs A = bs S1 := by rw [bs_join, hS1]
      have j2 : bs S1 ++ bs X = bs S2 := by rw [bs_join, hS2]
      have s1 := bs_sum S A (by have := hll.out; omega)
      have hS1l : S1.length ≤ 10000000100 := by rw [hS1, List.length_append]; have := hll.out; omega
      have s2 := bs_sum S1 X (by omega)
      have hS2l : S2.length ≤ 10000080000 := by rw [hS2, List.length_append]; omega
      have HS2 := Lib.hid (show S2 = S ++ (whole (n : Int) ++ text rest) by rw [hS2, hS1, hA, hX, List.append_assoc])
      clear hA hX hS1 hS2
      go_wp2_with fail
      refine region_seen (by kernel_rfl) (by kernel_rfl) ?_
      repeat go_big_quiet_step (first | (go_at_call 33; with_reducible exact H24.out _) | (go_at_call 67; with_reducible exact H26.out _))
      refine wpQuiet_nil ?_
      rintro _ ⟨m1, rfl⟩
      have P2 := Lib.hid (show Bx3 Z x m1.val ∧ Below w.heap.size w m1.val from ⟨(m1.below.block Z (heap_lt P1.out.1)).trans P1.out.1, P1.out.2.trans (m1.below.mono P1.out.2.size)⟩)
      clear H24 H26 n0 j1 j2 s1 s2 P1
      generalize m1.val = W2 at *
      obtain ⟨d0, d1, d2⟩ := P2.out.1.cells
      rcases Bool.eq_false_or_eq_true x.gone with hg | hg
      · rw [hg] at d2
        have HE2 := Lib.hid (show S ++ entB last x = S2 ++ whole 0 by rw [HE.out, if_pos hg, HS2.out]; simp only [List.append_assoc])
        obtain ⟨O, hO⟩ : ∃ O, O = whole 0 := ⟨_, rfl⟩
        have hOl : O.length ≤ 11 := by rw [hO]; exact (whole_len (n := (0 : Int)) (by omega) (by omega)).1
        have h24 := ref_Whole 0 W2 (by decide) (by decide)
        rw [← hO] at h24 HE2
        have H24 := Lib.hid h24
        obtain ⟨S3, hS3⟩ : ∃ S3, S3 = S2 ++ O := ⟨_, rfl⟩
        have j1 : bs S2 ++ bs O = bs S3 := by rw [bs_join, hS3]
        have s1 := bs_sum S2 O (by omega)
        rw [← hS3] at HE2
        clear hO h24 hS3 hg
        go_wp2_with fail
        refine H24.out.mono ?_
        rintro e W3 ⟨rfl, k3⟩
        have P3 := Lib.hid (show Bx3 Z x W3 ∧ Below w.heap.size w W3 from ⟨(k3.block Z (heap_lt P2.out.1)).trans P2.out.1, P2.out.2.trans (k3.mono P2.out.2.size)⟩)
        clear k3 d0 d1 d2
        obtain ⟨d0, d1, d2⟩ := P3.out.1.cells
        go_wp2_with fail
        go_roundw
        case rel => exact ⟨i + 1, by omega, by go_num, by rw [hnext2.out, HE2.out], by rw [hlast.out], Lib.hid P3.out.2⟩
        case measure => simp [intOf]; omega
      · rw [hg] at d2
        obtain ⟨O, hO⟩ : ∃ O, O = whole ((x.val.length + 1 : Nat) : Int) := ⟨_, rfl⟩
        have HE2 := Lib.hid (show S ++ entB last x = (S2 ++ O) ++ x.val by rw [HE.out, if_neg (by rw [hg]; decide), HS2.out, hO]; simp only [List.append_assoc])
        have hOl : O.length ≤ 11 := by rw [hO]; exact (whole_len (by omega) (by omega)).1
        have H24 := Lib.hid (fun n : Seen W2 => by
          have h := seen_call (fun W => ref_Whole ((x.val.length + 1 : Nat) : Int) W (by omega) (by omega)) n
          rw [← hO] at h
          rw [show ((x.val.length + 1 : Nat) : Int) = (x.val.length : Int) + 1 by omega] at h
          exact h)
        have n1 : ∀ n : Seen W2, n.val.cell? ⟨Z, 1, none⟩ = some (.string (bs x.val)) := fun n => by rw [n.below.cell (p := ⟨Z, 1, none⟩) (heap_lt P2.out.1)]; exact P2.out.1.cells.2.1
        obtain ⟨S3, hS3⟩ : ∃ S3, S3 = S2 ++ O := ⟨_, rfl⟩
        obtain ⟨S4, hS4⟩ : ∃ S4, S4 = S3 ++ x.val := ⟨_, rfl⟩
        have j1 : bs S2 ++ bs O = bs S3 := by rw [bs_join, hS3]
        have j2 : bs S3 ++ bs x.val = bs S4 := by rw [bs_join, hS4]
        have s1 := bs_sum S2 O (by omega)
        have hS3l : S3.length ≤ 10000080100 := by rw [hS3, List.length_append]; omega
        have s2 := bs_sum S3 x.val (by omega)
        rw [← hS3, ← hS4] at HE2
        clear hO hS3 hS4 hg
        go_wp2_with fail
        refine region_seen (by kernel_rfl) (by kernel_rfl) ?_
        repeat go_big_quiet_step (first | (go_at_call 33; with_reducible exact H24.out _))
        refine wpQuiet_nil ?_
        rintro _ ⟨m2, rfl⟩
        have P3 := Lib.hid (show Bx3 Z x m2.val ∧ Below w.heap.size w m2.val from ⟨(m2.below.block Z (heap_lt P2.out.1)).trans P2.out.1, P2.out.2.trans (m2.below.mono P2.out.2.size)⟩)
        clear H24 n1 j1 j2 s1 s2 P2 d0 d1 d2
        generalize m2.val = W3 at *
        obtain ⟨d0, d1, d2⟩ := P3.out.1.cells
        go_wp2_with fail
        go_roundw
        case rel => exact ⟨i + 1, by omega, by go_num, by rw [hnext2.out, HE2.out], by rw [hlast.out], Lib.hid P3.out.2⟩
        case measure => simp [intOf]; omega
    · have hall := Lib.hid (show whole (len : Int) ++ entsB [] (T.take i) = listB T by
        rw [List.take_of_length_le (by rw [← hlen.out]; omega), hlen.out]
        rfl)
      have hbl := Lib.hid (listB_len hs.out (by rw [← hlen.out]; exact hl))
      obtain ⟨S, hS⟩ : ∃ S, S = listB T := ⟨_, rfl⟩
      rw [hall.out, ← hS]
      rw [← hS] at hbl
      have HS := Lib.hid hS
      clear hS
      go_wp2_with fail
      refine (ref_Put (bs S) wr (by rw [bs_size]; have := hbl.out; omega)).mono ?_
      rintro e W2 ⟨rfl, k2⟩
      rw [bs_list]
      have K2 := Lib.hid (hB.out.trans (k2.mono hB.out.size))
      clear k2
      go_wp2_with fail
      go_ret
      exact ⟨rets (by rw [HS.out]), K2.out⟩
end Go.Proofs.YteejldddgogbkaaGreatDoor
/- Why entries may not be packed: the document's Check. -/
set_option linter.unusedVariables false
set_option maxRecDepth 100000
set_option maxRecDepth 100000
namespace Go.Proofs.YteejldddgogbkaaGreatDoor
open Go.RowKit

set_option maxHeartbeats 2000000 in
theorem ref_Check (a : Option Addr) (len cap : Nat) (T : List Ent) (w : World) (hT : Hid (IsE w a len T)) (hl : len ≤ 9223372036854775807) (hs : Hid (fitE T)) :
    Calls Tryz.prog 31 #[.slice a len cap] w fun e w' => e = .returned (.int .i64 (chkE T)) ∧ Below w.heap.size w w' := by
  by_cases hlong : 65536 < len
  · have hres := Lib.hid (show chkE T = 6 by unfold chkE; rw [if_pos (by rw [← hT.out.1]; exact hlong)])
    go_enter Tryz.func31, Tryz.ntmps31
    go_wp2_with fail
    go_ret
    exact ⟨ret1 hres.out, Below.refl _ _⟩
  · have hall := Lib.hid (show chkE T = chkGo true [] T by unfold chkE; rw [if_neg (by rw [← hT.out.1]; exact hlong)])
    go_enter Tryz.func31, Tryz.ntmps31
    go_wp2_with fail
    go_loopw [3] (fun vi wr => ∃ i : Nat, i ≤ len ∧ vi = .int .i64 i ∧ Hid (chkGo (decide (i = 0)) (ahead T i) (T.drop i) = chkE T) ∧ Hid (Below w.heap.size w wr)) (fun vi wr => len - (intOf vi).toNat)
    case atStart => exact ⟨0, by omega, rfl, Lib.hid hall.out.symm, Lib.hid (Below.refl _ _)⟩
    case round =>
      obtain ⟨i, hi, rfl, hgo, hB⟩ := hrel
      rcases Nat.lt_or_ge i len with hlt | hge
      · obtain ⟨b, off, x, rfl, hx, hdr, hc⟩ := (hT.out.below hB.out).at hlt
        obtain ⟨hs1, hs2⟩ := hs.out x (List.mem_of_getElem? hx)
        have c0 := hc.c0
        have c1 := hc.c1
        have c2 := hc.c2
        have hst := hgo.out
        rw [hdr] at hst
        unfold chkGo at hst
        have z1 : (bs x.key).size = x.key.length := bs_size _
        have z2 : (bs x.val).size = x.val.length := bs_size _
        have hnx := Lib.hid (ahead_next hx)
        have HST := Lib.hid hst
        clear hx hdr hc hst
        by_cases h1 : 65536 < x.key.length
        · have hres := Lib.hid (show chkE T = 6 by rw [← HST.out, if_pos (.inl h1)])
          go_wp2_with fail
          go_ret
          exact ⟨ret1 hres.out, (hB.out)⟩
        · by_cases h2 : 65536 < x.val.length
          · have hres := Lib.hid (show chkE T = 6 by rw [← HST.out, if_pos (.inr h2)])
            go_wp2_with fail
            go_ret
            exact ⟨ret1 hres.out, (hB.out)⟩
          · have HST2 := Lib.hid (show (if (decide (i = 0) = false ∧ ltB (ahead T i) x.key = false) ∨ (x.gone = true ∧ x.val ≠ []) then (1 : Int) else chkGo false x.key (T.drop (i + 1))) = chkE T by rw [← HST.out, if_neg (c := 65536 < _ ∨ _) (by omega)])
            clear HST
            obtain ⟨bad, hbad⟩ : ∃ bad : Bool, bad = (x.gone && !decide (x.val.length = 0)) := ⟨_, rfl⟩
            have hbadP := Lib.hid (show bad = true ↔ x.gone = true ∧ x.val ≠ [] by rw [hbad]; cases x.gone <;> cases x.val <;> simp)
            by_cases h0 : 0 < i
            · obtain ⟨j, hj⟩ : ∃ j : Nat, (i : Int) - 1 = (j : Int) := ⟨i - 1, by omega⟩
              have hj1 := Lib.hid (show j + 1 = i by omega)
              have hjl : j < len := by have := hj1.out; omega
              obtain ⟨b', off', y, e, hy, _, hcy⟩ := (hT.out.below hB.out).at hjl
              injection e with e
              injection e with e1 e2
              subst e1 e2
              have c3 := hcy.c0
              have HA := Lib.hid (show ahead T i = y.key by rw [← hj1.out]; exact ahead_next hy)
              have hjw : IntKind.i64.wrap (j : Int) = (j : Int) := IntWalk.i64_in _ (by omega)
              clear hcy hy
              rcases cmp3 x.key y.key with ⟨hp, hq, hc⟩ | ⟨hp, hq, hc⟩ | ⟨hp, hq, hc⟩
              case inr.inr =>
                have HN := Lib.hid (show bad = false → chkGo (decide (i + 1 = 0)) (ahead T (i + 1)) (T.drop (i + 1)) = chkE T from fun h => by
                  rw [hnx.out, ← HST2.out, if_neg, decide_eq_false (by omega)]
                  rintro (⟨_, q⟩ | q)
                  · rw [HA.out, hc] at q; cases q
                  · rw [← hbadP.out, h] at q; cases q)
                have HE := Lib.hid (show bad = true → chkE T = 1 from fun h => by rw [← HST2.out, if_pos (.inr (hbadP.out.1 h))])
                clear hc
                cases hg : x.gone with
                | true =>
                  rw [hg] at c2 hbad
                  rw [Bool.true_and] at hbad
                  cases hv : decide (x.val.length = 0) with
                  | true =>
                    rw [hv] at hbad
                    have hv1 : decide (0 < x.val.length) = false := by have := of_decide_eq_true hv; exact decide_eq_false (by omega)
                    have HN2 := Lib.hid (HN.out hbad)
                    clear hbad
                    go_wp2_with fail
                    go_quiet (fail)
                    go_wp2_with fail
                    go_roundw
                    case rel => exact ⟨i + 1, by omega, by go_num, HN2, Lib.hid (below_drewN (hB.out) _)⟩
                    case measure => simp [intOf]; omega
                  | false =>
                    rw [hv] at hbad
                    have hv1 : decide (0 < x.val.length) = true := by have := of_decide_eq_false hv; exact decide_eq_true (by omega)
                    have HE2 := Lib.hid (HE.out hbad)
                    clear hbad
                    go_wp2_with fail
                    go_quiet (fail)
                    go_wp2_with fail
                    go_ret
                    exact ⟨ret1 HE2.out, below_drewN (hB.out) _⟩
                | false => 
                  rw [hg] at c2 hbad
                  have HN2 := Lib.hid (HN.out hbad)
                  clear hbad
                  go_wp2_with fail
                  go_quiet (fail)
                  go_wp2_with fail
                  go_roundw
                  case rel => exact ⟨i + 1, by omega, by go_num, HN2, Lib.hid (below_drewN (hB.out) _)⟩
                  case measure => simp [intOf]; omega
              all_goals
                have HE2 := Lib.hid (show chkE T = 1 by rw [← HST2.out, if_pos (.inl ⟨decide_eq_false (by omega), by rw [HA.out]; exact hc⟩)])
                clear hc hbad
                go_wp2_with fail
                go_quiet (fail)
                go_wp2_with fail
                go_ret
                exact ⟨ret1 HE2.out, below_drewN (hB.out) _⟩
            · have H0 := Lib.hid (show i = 0 by omega)
              have HN := Lib.hid (show bad = false → chkGo (decide (i + 1 = 0)) (ahead T (i + 1)) (T.drop (i + 1)) = chkE T from fun h => by
                rw [hnx.out, ← HST2.out, if_neg, decide_eq_false (by omega)]
                rintro (⟨q, _⟩ | q)
                · rw [decide_eq_true H0.out] at q; cases q
                · rw [← hbadP.out, h] at q; cases q)
              have HE := Lib.hid (show bad = true → chkE T = 1 from fun h => by rw [← HST2.out, if_pos (.inr (hbadP.out.1 h))])
              cases hg : x.gone with
              | true =>
                rw [hg] at c2 hbad
                rw [Bool.true_and] at hbad
                cases hv : decide (x.val.length = 0) with
                | true =>
                  rw [hv] at hbad
                  have hv1 : decide (0 < x.val.length) = false := by have := of_decide_eq_true hv; exact decide_eq_false (by omega)
                  have HN2 := Lib.hid (HN.out hbad)
                  clear hbad
                  go_wp2_with fail
                  go_quiet (fail)
                  go_wp2_with fail
                  go_roundw
                  case rel => exact ⟨i + 1, by omega, by go_num, HN2, Lib.hid (below_drewN (hB.out) _)⟩
                  case measure => simp [intOf]; omega
                | false =>
                  rw [hv] at hbad
                  have hv1 : decide (0 < x.val.length) = true := by have := of_decide_eq_false hv; exact decide_eq_true (by omega)
                  have HE2 := Lib.hid (HE.out hbad)
                  clear hbad
                  go_wp2_with fail
                  go_quiet (fail)
                  go_wp2_with fail
                  go_ret
                  exact ⟨ret1 HE2.out, below_drewN (hB.out) _⟩
              | false => 
                rw [hg] at c2 hbad
                have HN2 := Lib.hid (HN.out hbad)
                clear hbad
                go_wp2_with fail
                go_quiet (fail)
                go_wp2_with fail
                go_roundw
                case rel => exact ⟨i + 1, by omega, by go_num, HN2, Lib.hid (below_drewN (hB.out) _)⟩
                case measure => simp [intOf]; omega
      · obtain rfl : i = len := by omega
        have hres := Lib.hid (show chkE T = 0 by
          have := hgo.out
          rw [List.drop_eq_nil_of_le (by rw [hT.out.1]; exact Nat.le_refl _)] at this
          exact this.symm)
        go_wp2_with fail
        go_ret
        exact ⟨ret1 hres.out, hB.out⟩
end Go.Proofs.YteejldddgogbkaaGreatDoor
/- A region that draws its order, whose first operation may come at any time (the slice that is appended to, looked at first), then quiet ones, then a chain. -/
set_option linter.unusedVariables false
set_option maxRecDepth 100000
namespace Go.Proofs.YteejldddgogbkaaGreatDoor
open Go.RowKit

section
variable {F : Fence} {n : Nat} {P : Program} {ops : Array Oper} {md : Region.Mode} {C : World → Prop}

/-! ### Where the first operation is awaited by the last ones alone ('l = append(l, f(x))': the slice is looked at first) -/
def HeadInv1 (md : Region.Mode) (ops : Array Oper) (m : Nat) (listed : Array Bool) : Prop := HeadInv md ops m listed ∧ listed.getD 0 false = true
theorem HeadInv1.set {m i : Nat} {listed : Array Bool} (inv : HeadInv1 md ops m listed) (hi : i ∈ Region.ready md ops listed) (him : i < m) : HeadInv1 md ops m (listed.setIfInBounds i true) :=
  ⟨inv.1.set hi him, getD_set_true inv.2⟩
def sink1B (md : Region.Mode) (ops : Array Oper) (m : Nat) : Bool :=
  (List.range m).all fun i => decide (i = 0) || (List.range (m + 1)).any fun j => decide (i < j) && Region.waitsFor md ops j i
theorem ready_waits {listed : Array Bool} {t i : Nat} (hr : t ∈ Region.ready md ops listed) (hw : Region.waitsFor md ops t i = true) : listed.getD i false = true := by
  obtain ⟨_, ot, hot, hall⟩ := mem_ready.1 hr
  obtain ⟨o, ho, e, he, hb, rfl⟩ := Region.waitsFor_spec hw
  obtain rfl := Option.some.inj (ho.symm.trans hot)
  exact hall e he hb
theorem tail_waits1 {m : Nat} {listed : Array Bool} (hs : sink1B md ops m = true) (hc : Region.chainB md ops m = true) (hn : m < ops.size) (inv : HeadInv1 md ops m listed) :
    ∀ (d i : Nat), m - i = d → i < m → listed.getD i true = false → ∀ t, m ≤ t → t ∉ Region.ready md ops listed := by
  intro d i _ hi hun t ht hr
  have htlt : t < ops.size := by obtain ⟨_, _, hot, _⟩ := mem_ready.1 hr; exact (Array.getElem?_eq_some_iff.1 hot).1
  rcases Nat.lt_or_ge m t with hmt | hmt
  · have h1 := List.all_eq_true.1 hc t (List.mem_range.2 htlt)
    simp only [Bool.or_eq_true, decide_eq_true_eq] at h1
    have h2 := ready_waits hr (h1.resolve_left (by omega))
    rw [getD_both (inv.1.tail (t - 1) (by omega) (by omega))] at h2
    cases h2
  · obtain rfl : t = m := by omega
    -- whoever waits for one that hasn't come hasn't come: up to t, which has all that it waits for
    have up : ∀ k i, t - i ≤ k → i < t → listed.getD i true = false → False := by
      intro k
      induction k with
      | zero => intro i h1 h2; omega
      | succ k ih =>
        intro i hk hi hun
        have h1 := List.all_eq_true.1 hs i (List.mem_range.2 hi)
        simp only [Bool.or_eq_true, decide_eq_true_eq, List.any_eq_true, Bool.and_eq_true, List.mem_range] at h1
        rcases h1 with rfl | ⟨j, hj, hij, hw⟩
        · have := inv.2; rw [getD_both hun] at this; cases this
        · by_cases hjt : j = t
          · subst hjt
            have := ready_waits hr hw
            rw [getD_both hun] at this
            cases this
          · cases hl : listed.getD j false with
            | true =>
              obtain ⟨o, ho, e, he, hb, hon⟩ := Region.waitsFor_spec hw
              have := inv.1.closed j o ho hl e he hb
              rw [hon, getD_both hun] at this
              cases this
            | false => exact ih j (by omega) (by omega) (getD_in (by rw [inv.1.size]; omega) hl)
    exact up (t - i) i (Nat.le_refl _) hi hun
theorem wpAnyLP1_first {m i : Nat} {oi : Oper} {v : Value} {L : Array Bool → Act → Prop} (hi : ops[i]? = some oi) (hsel : ∀ (j : Nat) (o : Oper) cs b, ops[j]? = some o → o.op ≠ .select cs b)
    (hs : sink1B md ops m = true) (hc : Region.chainB md ops m = true) (hn : m < ops.size) (hin : i < m)
    (hdone : ∀ listed a, L listed a → ∀ j ∈ Region.ready md ops listed, m ≤ j) :
    ∀ (f : Nat) (listed : Array Bool) (a : Act), HeadInv1 md ops m listed →
      (∀ j oj, ops[j]? = some oj → j ≠ i → listed.getD j true = false → (∀ e ∈ oj.after, Region.binds md e = true → e.on ≠ i) → oi.apart ops oj = true) →
      i ∈ Region.ready md ops listed → YieldsIn P ops C oi v a →
      wpAnyLP P md ops C m L f (listed.setIfInBounds i true) (a.put oi.dst v) → wpAnyLP P md ops C m L (f + 1) listed a := by
  intro f
  induction f with
  | zero =>
    intro listed a inv _ hr hy H
    have hun := (mem_ready.1 hr).1
    refine ⟨fun h => (by rw [h] at hr; cases hr), fun j hj => ?_⟩
    have hjn : j < m := by
      rcases Nat.lt_or_ge j m with h | h
      · exact h
      · exact absurd hj (tail_waits1 hs hc hn inv _ i rfl hin hun j h)
    refine ⟨hjn, ?_⟩
    by_cases hji : j = i
    · subst hji; exact hy.qOp hi H
    · have := hdone _ _ H j (ready_mono hj hji)
      omega
  | succ f ih =>
    intro listed a inv hfree hr hy H
    have hun := (mem_ready.1 hr).1
    refine ⟨fun h => (by rw [h] at hr; cases hr), fun j hj => ?_⟩
    have hjn : j < m := by
      rcases Nat.lt_or_ge j m with h | h
      · exact h
      · exact absurd hj (tail_waits1 hs hc hn inv _ i rfl hin hun j h)
    refine ⟨hjn, ?_⟩
    by_cases hji : j = i
    · subst hji; exact hy.qOp hi H
    · have h1 := (H.2 j (ready_mono hj hji)).2
      obtain ⟨hjun, oj, hoj, hall⟩ := mem_ready.1 hj
      have hnot : ∀ e ∈ oj.after, Region.binds md e = true → e.on ≠ i := fun e he hb heq => by
        have h1 := hall e he hb
        rw [heq, getD_both hun] at h1
        cases h1
      have h2 := qOp_put hoj (hfree j oj hoj hji hjun hnot) (fun cs b => hsel i oi cs b hi) (fun cs b => hsel j oj cs b hoj) hy h1
      have hfree' : ∀ k ok, ops[k]? = some ok → k ≠ i → (listed.setIfInBounds j true).getD k true = false →
          (∀ e ∈ ok.after, Region.binds md e = true → e.on ≠ i) → oi.apart ops ok = true := fun k ok hk hki hun hno => by
        refine hfree k ok hk hki ?_ hno
        by_cases hjk : j = k
        · subst hjk; exact hjun
        · rw [getD_set_ne true hjk] at hun; exact hun
      refine qOp_mono (fun a' h3 => ih (listed.setIfInBounds j true) a' (inv.set hj hjn) hfree' (ready_mono hr (Ne.symm hji)) h3.1 ?_) h2
      rw [Array.setIfInBounds_comm _ _ hji]
      exact h3.2

theorem wpAnyLP1_lex {m g : Nat} {Lq : Act → Prop} (hsel : Region.noSelect ops = true) (hs : sink1B md ops m = true) (hc : Region.chainB md ops m = true) (hn : m < ops.size) :
    ∀ (l : List Oper) (k : Nat) (listed : Array Bool) (a : Act), (∀ j, j < l.length → l[j]? = ops[k + j]?) → k + l.length = m → HeadInv1 md ops m listed →
    Region.lexHead md ops g l.length k listed = true → wpQuiet P ops C Lq l a →
    wpAnyLP P md ops C m (fun listed' a' => Region.seqB md ops g m listed' = true ∧ Lq a') l.length listed a
  | [], k, listed, a, _, hk, _, hB, h => by
    have : k = m := by simpa using hk
    subst this
    exact ⟨by simpa [Region.lexHead] using hB, h⟩
  | o :: l, k, listed, a, hl, hk, inv, hB, h => by
    have h0 : ops[k]? = some o := by simpa using (hl 0 (by simp)).symm
    simp only [List.length_cons, Region.lexHead, Bool.and_eq_true] at hB
    obtain ⟨⟨hr, hf⟩, hB'⟩ := hB
    have hkn : k < m := by simp only [List.length_cons] at hk; omega
    have hr' : k ∈ Region.ready md ops listed := by simpa using hr
    have hst : qOp P ops C k (wpQuiet P ops C Lq l) a := by unfold qOp; simp only [h0]; exact h
    obtain ⟨v, hy, hK⟩ := yieldsIn_of_qOp h0 hst
    exact wpAnyLP1_first h0 (Region.noSelect_spec hsel) hs hc hn hkn (fun listed' a' hL => seqB_ready hL.1) l.length listed a inv (Region.free_spec h0 hf) hr' hy
      (wpAnyLP1_lex hsel hs hc hn l (k + 1) _ _ (fun j hj => by have := hl (j + 1) (by simp; omega); simpa [Nat.add_assoc, Nat.add_comm 1 j] using this) (by simp only [List.length_cons] at hk; omega) (inv.set hr' hkn) hB' hK)


def first1B (md : Region.Mode) (ops : Array Oper) (m : Nat) : Bool :=
  Region.noSelect ops && decide (0 < m) && decide (m < ops.size) && Region.free md ops (Array.replicate ops.size false) 0 && (Region.ready md ops (Array.replicate ops.size false)).contains 0 && sink1B md ops m && Region.chainB md ops m &&
    Region.lexHead md ops (ops.size - m) (m - 1) 1 ((Array.replicate ops.size false).setIfInBounds 0 true) && (match ops[0]? with | some o => o.after.isEmpty | none => false)
/-- ONE OPERATION THAT MAY COME AT ANY TIME, THEN QUIET ONES, THEN A CHAIN. -/
theorem wp_region_first_tail {id : Nat} {Q : Exit → Act → World → Prop} {a : Act} {w : World} {o : Oper} {l : List Oper} (m : Nat) (v : Value) (hm : P.follows .mixedOrders = true) (hB : first1B .any (o :: l).toArray m = true)
    (hy : Yields P (o :: l).toArray o v a) (hQ : ∀ c a w, Q (.panic c) (a.put o.dst v) w → Q (.panic c) a w)
    (h : wpQuiet P (o :: l).toArray (fun w' => ∃ n : Seen w, w' = n.val) (fun a' => ∀ w', (∃ n : Seen w, w' = n.val) → wpList P (o :: l).toArray Q (l.drop (m - 1)) a' w') (l.take (m - 1)) (a.put o.dst v)) : (Code.region id (o :: l).toArray true).wp P Q a w := by
  simp only [first1B, Bool.and_eq_true, decide_eq_true_eq] at hB
  obtain ⟨⟨⟨⟨⟨⟨⟨⟨hsel, hm0⟩, hn⟩, hfr⟩, hrd⟩, hs⟩, hc⟩, hlex⟩, haft⟩ := hB
  have hsz : (o :: l).toArray.size = l.length + 1 := by simp
  have hlm : (l.take (m - 1)).length = m - 1 := by simp; simp at hn; omega
  have hdl : (l.drop (m - 1)).length = (o :: l).toArray.size - m := by simp; omega
  have h0 : (o :: l).toArray[0]? = some o := by simp
  have hrd' : 0 ∈ Region.ready .any (o :: l).toArray (Array.replicate (o :: l).toArray.size false) := by simpa using hrd
  have inv0 : HeadInv .any (o :: l).toArray m (Array.replicate (o :: l).toArray.size false) :=
    ⟨by simp, fun j oj _ hl => (by rw [getD_replicate_false] at hl; cases hl), fun t _ ht => getD_in (by simpa using ht) (getD_replicate_false _ _)⟩
  have inv1 : HeadInv1 .any (o :: l).toArray m ((Array.replicate (o :: l).toArray.size false).setIfInBounds 0 true) := ⟨inv0.set hrd' hm0, by simp⟩
  have H := wpAnyLP1_lex (md := .any) (g := (o :: l).toArray.size - m) hsel hs hc hn (l.take (m - 1)) 1 _ (a.put o.dst v) (fun j hj => by
    have hj' : j < m - 1 := by rw [hlm] at hj; exact hj
    simp [hj', Nat.add_comm 1 j]) (by rw [hlm]; omega) inv1 (by rw [hlm]; exact hlex) h
  refine wp_region_any hm ?_
  rw [show (o :: l).toArray.size = l.length + 1 from hsz]
  refine wpAny_take h0 hsel (by rw [← hsz]; exact hfr) (by rw [← hsz]; exact hrd) hQ hy ?_
  have := wpAny_of_headQ (C := fun w' => ∃ n : Seen w, w' = n.val) (Q' := Q) (g := (o :: l).toArray.size - m) (fun listed a' w' hC' hL => by
    have := wpAny_of_seq (md := .any) (Q' := Q) (l.drop (m - 1)) m listed a' w' (fun j => by
      simp only [List.getElem?_drop, List.getElem?_toArray]
      rw [show m + j = (m - 1 + j) + 1 by omega, List.getElem?_cons_succ]) (by rw [hdl]; exact hL.1) (hL.2 w' hC')
    rw [hdl] at this
    exact this) _ _ _ { w with drawn := w.drawn + 1 } ⟨⟨w.drew, (Below.refl _ _).drew⟩, rfl⟩ H
  rw [hlm, show m - 1 + ((o :: l).toArray.size - m) = l.length by rw [hsz] at hn ⊢; omega] at this
  rw [← hsz]
  exact this
end
end Go.Proofs.YteejldddgogbkaaGreatDoor
