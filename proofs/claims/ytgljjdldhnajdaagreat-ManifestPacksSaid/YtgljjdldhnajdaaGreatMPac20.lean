/- Texts put together: ManNil, ManSame, ManSameSt, ManWhole, ManWhole2, ManWhole3, ManRefEds -/
import Derived.Test.YtgljjdldhnajdaaGreatMPac17
import Derived.Test.YtgljjdldhnajdaaGreatMPac06
import Derived.Test.YtgljjdldhnajdaaGreatMPac11
import Derived.Test.YtgljjdldhnajdaaGreatMPac15
import Derived.Test.YtgljjdldhnajdaaGreatMPac13
import Derived.Test.YtgljjdldhnajdaaGreatMPac12
/- A nil book, and a disk that is none. -/
set_option linter.unusedVariables false
set_option maxRecDepth 100000
namespace Go.Proofs.YtgljjdldhnajdaaGreat
open Go.RowKit

theorem book_nil_File (w : World) : Calls Tryz.prog 64 #[.pointer none] w fun e w' => e = .returned (.int .i64 0) ∧ w = w' := by
  go_enter Tryz.func64, Tryz.ntmps64
  go_wp2
  go_ret
  exact ⟨rfl, rfl⟩
theorem book_nil_Lay (w : World) : Calls Tryz.prog 61 #[.pointer none] w fun e w' => e = .returned (.int .i64 1) ∧ w = w' := by
  go_enter Tryz.func61, Tryz.ntmps61
  go_wp2
  go_ret
  exact ⟨rfl, rfl⟩
theorem book_nil_Sync (w : World) : Calls Tryz.prog 62 #[.pointer none] w fun e w' => e = .returned (.int .i64 1) ∧ w = w' := by
  go_enter Tryz.func62, Tryz.ntmps62
  go_wp2
  go_ret
  exact ⟨rfl, rfl⟩
theorem book_nil_Point (w : World) : Calls Tryz.prog 63 #[.pointer none] w fun e w' => e = .returned (.int .i64 1) ∧ w = w' := by
  go_enter Tryz.func63, Tryz.ntmps63
  go_wp2
  go_ret
  exact ⟨rfl, rfl⟩
theorem book_nil_Undo (w : World) : Calls Tryz.prog 28 #[.pointer none] w fun e w' => e = .returned (.tuple #[]) ∧ w = w' := by
  go_enter Tryz.func28, Tryz.ntmps28
  go_wp2
  refine bodyPost_ret (results_none rfl _ _ _) rfl ?_
  exact ⟨rfl, rfl⟩
theorem book_nil_Note (a : Option Addr) (n cap : Nat) (w : World) : Calls Tryz.prog 27 #[.pointer none, .slice a n cap] w fun e w' => e = .returned (.int .i64 1) ∧ Below w.heap.size w w' := by
  go_enter Tryz.func27, Tryz.ntmps27
  go_wp2
  go_ret
  refine ⟨rfl, ?_⟩
  first | exact Below.refl _ _ | exact (Below.refl _ _).alloc (Nat.le_refl _) _ | exact ((Below.refl _ _).alloc (Nat.le_refl _) _).alloc (Nat.le_refl _) _
theorem zero_box (w : World) : C4 w.heap.size (.slice none 0 0) (.slice none 0 0) (.slice none 0 0) (.int .i64 0) (w.alloc (.cells #[.slice none 0 0, .slice none 0 0, .slice none 0 0, .int .i64 0] 46)) := heap_new w _
theorem book_nil_State (w : World) : Calls Tryz.prog 65 #[.pointer none] w fun e w' => e = .returned (.agg #[.slice none 0 0, .slice none 0 0, .slice none 0 0, .int .i64 0]) ∧ Below w.heap.size w w' := by
  obtain ⟨B, hB⟩ : ∃ B, B = w.heap.size := ⟨_, rfl⟩
  rw [← hB]
  have HB := Lib.hid hB
  obtain ⟨w1, hw1⟩ : ∃ w1, w.alloc (.cells #[.slice none 0 0, .slice none 0 0, .slice none 0 0, .int .i64 0] 46) = w1 := ⟨_, rfl⟩
  have K1 := Lib.hid (show Below B w w1 by rw [← hw1, hB]; exact (Below.refl _ _).alloc (Nat.le_refl _) _)
  have R1 := Lib.hid (show C4 B _ _ _ _ w1 by rw [← hw1, hB]; exact zero_box w)
  have HW1 := Lib.hid hw1
  clear hw1 hB
  have gr := R1.out.free
  obtain ⟨r0, r1, r2, r3⟩ := R1.out.c0
  go_enter Tryz.func65, Tryz.ntmps65
  go_upto_region 1 with (fail)
  rw [HW1.out, ← HB.out]
  go_wp2
  have KE := Lib.hid (below_put4 K1.out (Nat.le_refl B) (.slice none 0 0) (.slice none 0 0) (.slice none 0 0) (.int .i64 0))
  refine bodyPost_ret (results_st rfl _ _ B _ _ _ _ rfl (R1.out.put _ _ _ _)) rfl ?_
  exact ⟨rfl, KE.out⟩
set_option maxHeartbeats 1000000 in
theorem man_Load_nil (w : World) : Calls Tryz.prog 17 #[.pointer none] w fun e w' => e = .returned (.tuple #[.agg #[.slice none 0 0, .slice none 0 0, .slice none 0 0, .int .i64 0], .int .i64 8]) ∧ Below w.heap.size w w' := by
  obtain ⟨B, hB⟩ : ∃ B, B = w.heap.size := ⟨_, rfl⟩
  rw [← hB]
  have HB := Lib.hid hB
  obtain ⟨w1, hw1⟩ : ∃ w1, w.alloc (.cells #[.slice none 0 0, .slice none 0 0, .slice none 0 0, .int .i64 0] 46) = w1 := ⟨_, rfl⟩
  have K1 := Lib.hid (show Below B w w1 by rw [← hw1, hB]; exact (Below.refl _ _).alloc (Nat.le_refl _) _)
  have R1 := Lib.hid (show C4 B _ _ _ _ w1 by rw [← hw1, hB]; exact zero_box w)
  have HW1 := Lib.hid hw1
  clear hw1 hB
  go_enter Tryz.func17, Tryz.ntmps17
  go_upto_region 1 with (fail)
  rw [HW1.out, ← HB.out]
  go_wp2_with fail
  refine (disk_Root_nil w1).mono ?_
  rintro e w2 ⟨rfl, rfl⟩
  go_wp2_with fail
  refine (wal_Replay_nil 0 w1).mono ?_
  rintro e w2 ⟨rfl, k2⟩
  have R2 := Lib.hid (R1.out.below k2)
  have K2 := Lib.hid (K1.out.trans (k2.mono (Nat.le_of_lt (heap_lt R1.out))))
  clear k2
  have gr := R2.out.free
  obtain ⟨r0, r1, r2, r3⟩ := R2.out.c0
  go_wp2
  have KE := Lib.hid (below_put4 K2.out (Nat.le_refl B) (.slice none 0 0) (.slice none 0 0) (.slice none 0 0) (.int .i64 0))
  refine bodyPost_ret (results_st2 rfl _ _ B _ _ _ _ _ rfl rfl (R2.out.put _ _ _ _)) rfl ?_
  exact ⟨rfl, KE.out⟩
set_option maxHeartbeats 1000000 in
theorem man_Whole_zero (w : World) : Calls Tryz.prog 95 #[.agg #[.slice none 0 0, .slice none 0 0, .slice none 0 0, .int .i64 0]] w fun e w' => e = .returned (.slice none 0 0) ∧ Below w.heap.size w w' := by
  obtain ⟨B, hB⟩ : ∃ B, B = w.heap.size := ⟨_, rfl⟩
  rw [← hB]
  have HB := Lib.hid hB
  obtain ⟨w1, hw1⟩ : ∃ w1, w.alloc (.cells #[.slice none 0 0, .slice none 0 0, .slice none 0 0, .int .i64 0] 46) = w1 := ⟨_, rfl⟩
  have K1 := Lib.hid (show Below B w w1 by rw [← hw1, hB]; exact (Below.refl _ _).alloc (Nat.le_refl _) _)
  have R1 := Lib.hid (show C4 B _ _ _ _ w1 by rw [← hw1, hB]; exact zero_box w)
  have HW1 := Lib.hid hw1
  clear hw1 hB
  obtain ⟨r0, r1, r2, r3⟩ := R1.out.c0
  go_enter Tryz.func95, Tryz.ntmps95
  go_upto_region 1 with (fail)
  rw [HW1.out, ← HB.out]
  go_wp2_with fail
  go_loopw [3, 22] (fun v iv wr => v = .slice none 0 0 ∧ iv = .int .i64 0 ∧ Hid (wr = w1)) (fun _ _ _ => 0)
  case atStart => exact ⟨rfl, rfl, Lib.hid rfl⟩
  case round =>
    obtain ⟨rfl, rfl, hw⟩ := hrel
    obtain rfl := hw.out
    go_wp2_with fail
    go_loopw [3, 35] (fun v iv wq => v = .slice none 0 0 ∧ iv = .int .i64 0 ∧ Hid (wq = wr)) (fun _ _ _ => 0)
    case atStart => exact ⟨rfl, rfl, Lib.hid rfl⟩
    case round =>
      obtain ⟨rfl, rfl, hw⟩ := hrel
      obtain rfl := hw.out
      go_wp2_with fail
      go_loopw [3, 51] (fun v iv wp => v = .slice none 0 0 ∧ iv = .int .i64 0 ∧ Hid (wp = wr)) (fun _ _ _ => 0)
      case atStart => exact ⟨rfl, rfl, Lib.hid rfl⟩
      case round =>
        obtain ⟨rfl, rfl, hw⟩ := hrel
        obtain rfl := hw.out
        go_wp2
        go_ret
        exact ⟨rfl, K1.out⟩
theorem packL_nil : (packL []).length ≤ 11 := by
  have h := (whole_len (n := (([] : List Ed).length : Int)) (by simp) (by simp)).1
  unfold packL edsB
  simp only [List.flatMap_nil, List.append_nil]
  exact h
set_option maxHeartbeats 1000000 in
theorem man_Begin_nil (n : Int) (w : World) : Calls Tryz.prog 60 #[.pointer none, .int .i64 n, .agg #[.slice none 0 0, .slice none 0 0, .slice none 0 0, .int .i64 0]] w fun e w' => e = .returned (.tuple #[.pointer none, .int .i64 8]) ∧ Below w.heap.size w w' := by
  obtain ⟨B, hB⟩ : ∃ B, B = w.heap.size := ⟨_, rfl⟩
  rw [← hB]
  have HB := Lib.hid hB
  obtain ⟨w1, hw1⟩ : ∃ w1, w.alloc (.cells #[.slice none 0 0, .slice none 0 0, .slice none 0 0, .int .i64 0] 46) = w1 := ⟨_, rfl⟩
  have K1 := Lib.hid (show Below B w w1 by rw [← hw1, hB]; exact (Below.refl _ _).alloc (Nat.le_refl _) _)
  have R1 := Lib.hid (show C4 B _ _ _ _ w1 by rw [← hw1, hB]; exact zero_box w)
  have HW1 := Lib.hid hw1
  have hB1 : Hid (B ≤ w1.heap.size) := Lib.hid (Nat.le_of_lt (heap_lt R1.out))
  clear hw1 hB
  obtain ⟨r0, r1, r2, r3⟩ := R1.out.c0
  go_enter Tryz.func60, Tryz.ntmps60
  go_upto_region 1 with (fail)
  rw [HW1.out, ← HB.out]
  go_wp2_with fail
  refine (man_Whole_zero w1).mono ?_
  rintro e w2 ⟨rfl, k2⟩
  have K2 := Lib.hid (K1.out.trans (k2.mono hB1.out))
  have hB2 : Hid (B ≤ w2.heap.size) := Lib.hid (Nat.le_trans hB1.out k2.size)
  clear k2 r0 r1 r2 r3
  have HP := Lib.hid (man_Pack (a := none) (n := 0) (cap := 0) (L := []) (w := w2) (Lib.hid ⟨⟨none, 0, rfl⟩, .inl rfl⟩) (Lib.hid rfl) (by omega) (Lib.hid fun x hx => by cases hx) (Lib.hid (by have := packL_nil; omega)))
  obtain ⟨s0, hs0⟩ : ∃ s0, s0 = bs (packL []) := ⟨_, rfl⟩
  have hz : (s0.size : Int) ≤ 1048576 := by rw [hs0, show (bs (packL [])).size = (packL []).length by simp [bs, ByteArray.size]]; have := packL_nil; omega
  rw [← hs0] at HP
  clear hs0
  go_wp2_with fail
  refine HP.out.mono ?_
  rintro e w3 ⟨rfl, k3⟩
  have K3 := Lib.hid (K2.out.trans (k3.mono hB2.out))
  clear k3
  go_wp2_with fail
  refine (wal_Begin_nil 0 n w3).mono ?_
  rintro e w4 ⟨rfl, rfl⟩
  go_wp2
  go_ret2
  exact ⟨rfl, K3.out⟩
end Go.Proofs.YtgljjdldhnajdaaGreat
/- The document's side: equal lists of numbers, states that are nothing. -/
set_option linter.unusedVariables false
set_option maxRecDepth 100000
namespace Go.Proofs.YtgljjdldhnajdaaGreat
open Go.RowKit

set_option maxHeartbeats 2000000 in
theorem same_ints {T T' : Nat → Prop} {va vb : Value} {L : List Int} {w : World} (ha : RdL T w va L.length (flat icell L)) (hb : RdL T' w vb L.length (flat icell L)) (hl : L.length ≤ 1000000000) :
    Calls Tryz.prog 32 #[va, vb] w fun e w' => e = .returned (.bool true) ∧ Below w.heap.size w w' := by
  obtain ⟨a, ca, rfl⟩ := RdL.slice ha
  obtain ⟨b, cb, rfl⟩ := RdL.slice hb
  have HA := Lib.hid ha
  have HB := Lib.hid hb
  obtain ⟨len, hlen⟩ : ∃ len, len = L.length := ⟨_, rfl⟩
  rw [← hlen] at HA HB hl ⊢
  have HL := Lib.hid hlen
  clear hlen ha hb
  go_enter Tryz.func32, Tryz.ntmps32
  go_wp2_with fail
  go_loopw [5] (fun i wr => ∃ k : Nat, k ≤ len ∧ i = .int .i64 k ∧ Hid (Below w.heap.size w wr)) (fun i wr => len - (intOf i).toNat)
  case atStart => exact ⟨0, Nat.zero_le _, rfl, Lib.hid (Below.refl _ _)⟩
  case round =>
    obtain ⟨k, hk, rfl, hK⟩ := hrel
    by_cases hlt : k < len
    · obtain ⟨t, ht⟩ : ∃ t, L[k]? = some t := ⟨_, List.getElem?_eq_getElem (by have := HL.out; omega)⟩
      obtain ⟨b0, off0, rfl, _, hb0, c0'⟩ := (HA.out.below hK.out).atI ht hlt
      obtain ⟨b1, off1, rfl, _, hb1, c1'⟩ := (HB.out.below hK.out).atI ht hlt
      have c0 := c0' 0 _ rfl
      have c1 := c1' 0 _ rfl
      simp only [Nat.mul_one, Nat.add_zero] at c0 c1
      have hlt2 : (k : Int) < (len : Int) := by omega
      clear ht c0' c1'
      go_wp2_with fail
      go_quiet (fail)
      go_wp2
      go_roundw
      case rel => exact ⟨k + 1, by omega, by go_num, Lib.hid (below_drewN hK.out _)⟩
      case measure => simp [intOf]; omega
    · go_wp2
      go_ret
      exact ⟨rfl, hK.out⟩
set_option maxHeartbeats 2000000 in
theorem same_zero (w : World) :
    Calls Tryz.prog 23 #[.agg #[.slice none 0 0, .slice none 0 0, .slice none 0 0, .int .i64 0], .agg #[.slice none 0 0, .slice none 0 0, .slice none 0 0, .int .i64 0]] w fun e w' => e = .returned (.bool true) ∧ Below w.heap.size w w' := by
  obtain ⟨B, hB⟩ : ∃ B, B = w.heap.size := ⟨_, rfl⟩
  rw [← hB]
  have HB := Lib.hid hB
  obtain ⟨w1, hw1⟩ : ∃ w1, (w.alloc (.cells #[.slice none 0 0, .slice none 0 0, .slice none 0 0, .int .i64 0] 46)).alloc (.cells #[.slice none 0 0, .slice none 0 0, .slice none 0 0, .int .i64 0] 46) = w1 := ⟨_, rfl⟩
  have K1 := Lib.hid (show Below B w w1 by rw [← hw1, hB]; exact ((Below.refl _ _).alloc (Nat.le_refl _) _).alloc (by simp) _)
  have X1 := Lib.hid (show C4 B _ _ _ _ w1 by rw [← hw1, hB]; exact (Below.heap_alloc _ _ _ (by simp)).trans (zero_box w))
  have R1 := Lib.hid (show C4 (B + 1) _ _ _ _ w1 by
    rw [← hw1, hB]
    have := zero_box (w.alloc (.cells #[.slice none 0 0, .slice none 0 0, .slice none 0 0, .int .i64 0] 46))
    rw [show (w.alloc (.cells #[.slice none 0 0, .slice none 0 0, .slice none 0 0, .int .i64 0] 46)).heap.size = w.heap.size + 1 by simp] at this
    exact this)
  have HW1 := Lib.hid hw1
  clear hw1 hB
  have hB1 : B ≤ w1.heap.size := Nat.le_of_lt (heap_lt X1.out)
  obtain ⟨x0, x1, x2, x3⟩ := X1.out.c0
  obtain ⟨r0, r1, r2, r3⟩ := R1.out.c0
  have HI := Lib.hid (same_ints (L := []) (w := w1) (zero_own w1 0).stv.logs (zero_own w1 0).stv.logs (by simp))
  go_enter Tryz.func23, Tryz.ntmps23
  go_upto_region 1 with (fail)
  rw [HW1.out, ← HB.out]
  go_wp2_with fail
  refine HI.out.mono ?_
  rintro e w2 ⟨rfl, k2⟩
  have X2 := Lib.hid (X1.out.below k2)
  have R2 := Lib.hid (R1.out.below k2)
  have K2 := Lib.hid (K1.out.trans (k2.mono hB1))
  clear k2 x0 x1 x2 x3 r0 r1 r2 r3 HI
  obtain ⟨x0, x1, x2, x3⟩ := X2.out.c0
  obtain ⟨r0, r1, r2, r3⟩ := R2.out.c0
  go_wp2_with fail
  go_loopw [5] (fun iv wr => iv = .int .i64 0 ∧ Hid (wr = w2)) (fun _ _ => 0)
  case atStart => exact ⟨rfl, Lib.hid rfl⟩
  case round =>
    obtain ⟨rfl, hw⟩ := hrel
    obtain rfl := hw.out
    go_wp2_with fail
    go_loopw [6] (fun iv wq => iv = .int .i64 0 ∧ Hid (wq = wr)) (fun _ _ => 0)
    case atStart => exact ⟨rfl, Lib.hid rfl⟩
    case round =>
      obtain ⟨rfl, hw⟩ := hrel
      obtain rfl := hw.out
      go_wp2
      go_ret
      exact ⟨rfl, K2.out⟩
end Go.Proofs.YtgljjdldhnajdaaGreat
/- The document's side: two equal states. -/
set_option linter.unusedVariables false
set_option maxRecDepth 100000
namespace Go.Proofs.YtgljjdldhnajdaaGreat
open Go.RowKit

set_option maxHeartbeats 4000000 in
theorem same_st {T T' : Nat → Prop} {w : World} {tv sv lv tv' sv' lv' : Value} {s : St} (ha : Hid (StV T w tv sv lv s)) (hb : Hid (StV T' w tv' sv' lv' s)) (hs : Hid (s.small 1000000000)) :
    Calls Tryz.prog 23 #[.agg #[tv, sv, lv, .int .i64 s.next], .agg #[tv', sv', lv', .int .i64 s.next]] w fun e w' => e = .returned (.bool true) ∧ Below w.heap.size w w' := by
  obtain ⟨ta, tc, rfl⟩ := RdL.slice ha.out.tabs
  obtain ⟨sa, sc, rfl⟩ := RdL.slice ha.out.stos
  obtain ⟨la, lc, rfl⟩ := RdL.slice ha.out.logs
  obtain ⟨ta', tc', rfl⟩ := RdL.slice hb.out.tabs
  obtain ⟨sa', sc', rfl⟩ := RdL.slice hb.out.stos
  obtain ⟨la', lc', rfl⟩ := RdL.slice hb.out.logs
  have hsm := hs.out
  unfold St.small at hsm
  obtain ⟨nt, hnt⟩ : ∃ n, n = s.tabs.length := ⟨_, rfl⟩
  obtain ⟨ns, hns⟩ : ∃ n, n = s.stos.length := ⟨_, rfl⟩
  obtain ⟨nl, hnl⟩ : ∃ n, n = s.logs.length := ⟨_, rfl⟩
  obtain ⟨nx, hnx⟩ : ∃ n, n = s.next := ⟨_, rfl⟩
  have ht1 : nt ≤ 1000000000 := by omega
  have hs1 : ns ≤ 1000000000 := by omega
  have hl1 : nl ≤ 1000000000 := by omega
  have HT := Lib.hid ha.out.tabs
  have HS := Lib.hid ha.out.stos
  have HL := Lib.hid ha.out.logs
  have HT' := Lib.hid hb.out.tabs
  have HS' := Lib.hid hb.out.stos
  have HL' := Lib.hid hb.out.logs
  rw [← hnt] at HT HT' ⊢
  rw [← hns] at HS HS' ⊢
  rw [← hnl] at HL HL' ⊢
  rw [← hnx]
  have HN := Lib.hid (And.intro hnt (And.intro hns hnl))
  obtain ⟨B, hB⟩ : ∃ B, B = w.heap.size := ⟨_, rfl⟩
  rw [← hB]
  have HB := Lib.hid hB
  obtain ⟨w1, hw1⟩ : ∃ w1, (w.alloc (.cells #[.slice ta nt tc, .slice sa ns sc, .slice la nl lc, .int .i64 nx] 46)).alloc (.cells #[.slice ta' nt tc', .slice sa' ns sc', .slice la' nl lc', .int .i64 nx] 46) = w1 := ⟨_, rfl⟩
  have k1 : Below w.heap.size w w1 := by rw [← hw1]; exact ((Below.refl _ _).alloc (Nat.le_refl _) _).alloc (by simp) _
  have K1 := Lib.hid (show Below B w w1 by rw [hB]; exact k1)
  have X1 := Lib.hid (show C4 B (.slice ta nt tc) (.slice sa ns sc) (.slice la nl lc) (.int .i64 nx) w1 by rw [← hw1, hB]; exact (Below.heap_alloc _ _ _ (by simp)).trans (heap_new w _))
  have R1 := Lib.hid (show C4 (B + 1) (.slice ta' nt tc') (.slice sa' ns sc') (.slice la' nl lc') (.int .i64 nx) w1 by
    rw [← hw1, hB]
    have := heap_new (w.alloc (.cells #[.slice ta nt tc, .slice sa ns sc, .slice la nl lc, .int .i64 nx] 46)) (.cells #[.slice ta' nt tc', .slice sa' ns sc', .slice la' nl lc', .int .i64 nx] 46)
    rw [show (w.alloc (.cells #[.slice ta nt tc, .slice sa ns sc, .slice la nl lc, .int .i64 nx] 46)).heap.size = w.heap.size + 1 by simp] at this
    exact this)
  have T1 := Lib.hid (HT.out.below k1)
  have T1' := Lib.hid (HT'.out.below k1)
  have S1 := Lib.hid (HS.out.below k1)
  have S1' := Lib.hid (HS'.out.below k1)
  have HI := Lib.hid (show Calls Tryz.prog 32 #[.slice la nl lc, .slice la' nl lc'] w1 fun e w' => e = .returned (.bool true) ∧ Below w1.heap.size w1 w' by
    have h1 := HL.out.below k1
    have h2 := HL'.out.below k1
    rw [hnl] at h1 h2 ⊢
    exact same_ints h1 h2 (by omega))
  have HW1 := Lib.hid hw1
  have hB1 := Lib.hid (show B ≤ w1.heap.size from Nat.le_of_lt (heap_lt X1.out))
  clear hw1 hB k1 hnt hns hnl hnx hsm HT HS HL HT' HS' HL'
  obtain ⟨x0, x1, x2, x3⟩ := X1.out.c0
  obtain ⟨r0, r1, r2, r3⟩ := R1.out.c0
  go_enter Tryz.func23, Tryz.ntmps23
  go_upto_region 1 with (fail)
  rw [HW1.out, ← HB.out]
  go_wp2_with fail
  refine HI.out.mono ?_
  rintro e w2 ⟨rfl, k2⟩
  have X2 := Lib.hid (X1.out.below k2)
  have R2 := Lib.hid (R1.out.below k2)
  have T2 := Lib.hid (T1.out.below k2)
  have T2' := Lib.hid (T1'.out.below k2)
  have S2 := Lib.hid (S1.out.below k2)
  have S2' := Lib.hid (S1'.out.below k2)
  have K2 := Lib.hid (K1.out.trans (k2.mono hB1.out))
  clear k2 x0 x1 x2 x3 r0 r1 r2 r3 HI
  obtain ⟨x0, x1, x2, x3⟩ := X2.out.c0
  obtain ⟨r0, r1, r2, r3⟩ := R2.out.c0
  go_wp2_with fail
  clear x0 x1 x2 x3 r0 r1 r2 r3
  go_loopw [5] (fun iv wr => ∃ i : Nat, i ≤ nt ∧ iv = .int .i64 (i : Int) ∧ Hid (Below w2.heap.size w2 wr)) (fun iv wr => nt - (intOf iv).toNat)
  case atStart => exact ⟨0, Nat.zero_le _, rfl, Lib.hid (Below.refl _ _)⟩
  case round =>
    obtain ⟨i, hi, rfl, hK⟩ := hrel
    obtain ⟨x0, x1, x2, x3⟩ := (X2.out.below hK.out).c0
    obtain ⟨r0, r1, r2, r3⟩ := (R2.out.below hK.out).c0
    by_cases hlt : i < nt
    · have hlt2 : (i : Int) < (nt : Int) := by omega
      obtain ⟨t, ht⟩ : ∃ t, s.tabs[i]? = some t := ⟨_, List.getElem?_eq_getElem (by have := HN.out.1; omega)⟩
      obtain ⟨b0, o0, rfl, _, hb0, c0⟩ := (T2.out.below hK.out).atT ht hlt
      obtain ⟨b1, o1, rfl, _, hb1, c1⟩ := (T2'.out.below hK.out).atT ht hlt
      have y0 := c0 0 _ rfl
      have y1 := c0 1 _ rfl
      have y2 := c0 2 _ rfl
      have y3 := c0 3 _ rfl
      have y4 := c0 4 _ rfl
      have z0 := c1 0 _ rfl
      have z1 := c1 1 _ rfl
      have z2 := c1 2 _ rfl
      have z3 := c1 3 _ rfl
      have z4 := c1 4 _ rfl
      simp only [Nat.add_zero] at y0 z0
      clear ht c0 c1 hb0 hb1
      go_wp2_with fail
      go_quiet (fail)
      go_wp2
      go_roundw
      case rel => exact ⟨i + 1, by omega, by go_num, Lib.hid (below_drewN hK.out _)⟩
      case measure => simp [intOf]; omega
    · have hge : (nt : Int) ≤ (i : Int) := by omega
      have X3 := Lib.hid (X2.out.below hK.out)
      have R3 := Lib.hid (R2.out.below hK.out)
      have U3 := Lib.hid (S2.out.below hK.out)
      have U3' := Lib.hid (S2'.out.below hK.out)
      have K3 := Lib.hid (K2.out.trans (hK.out.mono (show B ≤ w2.heap.size from Nat.le_of_lt (heap_lt X2.out))))
      have hB3 := Lib.hid (show B ≤ wr.heap.size from Nat.le_of_lt (heap_lt X3.out))
      clear hK
      go_wp2_with fail
      clear x0 x1 x2 x3 r0 r1 r2 r3
      obtain ⟨w3, hw3⟩ : ∃ w3, w3 = wr := ⟨_, rfl⟩
      rw [← hw3] at X3 R3 U3 U3' K3 hB3 ⊢
      clear hw3 wr
      go_loopw [6] (fun iv wr => ∃ i : Nat, i ≤ ns ∧ iv = .int .i64 (i : Int) ∧ Hid (Below w3.heap.size w3 wr)) (fun iv wr => ns - (intOf iv).toNat)
      case atStart => exact ⟨0, Nat.zero_le _, rfl, Lib.hid (Below.refl _ _)⟩
      case round =>
        obtain ⟨j, hj, rfl, hK⟩ := hrel
        obtain ⟨x0, x1, x2, x3⟩ := (X3.out.below hK.out).c0
        obtain ⟨r0, r1, r2, r3⟩ := (R3.out.below hK.out).c0
        by_cases hlt : j < ns
        · have hlt2 : (j : Int) < (ns : Int) := by omega
          obtain ⟨t, ht⟩ : ∃ t, s.stos[j]? = some t := ⟨_, List.getElem?_eq_getElem (by have := HN.out.2.1; omega)⟩
          obtain ⟨b0, o0, rfl, _, hb0, c0⟩ := (U3.out.below hK.out).atS ht hlt
          obtain ⟨b1, o1, rfl, _, hb1, c1⟩ := (U3'.out.below hK.out).atS ht hlt
          have y0 := c0 0 _ rfl
          have y1 := c0 1 _ rfl
          have z0 := c1 0 _ rfl
          have z1 := c1 1 _ rfl
          simp only [Nat.add_zero] at y0 z0
          clear ht c0 c1 hb0 hb1
          go_wp2_with fail
          go_quiet (fail)
          go_wp2
          go_roundw
          case rel => exact ⟨j + 1, by omega, by go_num, Lib.hid (below_drewN hK.out _)⟩
          case measure => simp [intOf]; omega
        · have hge : (ns : Int) ≤ (j : Int) := by omega
          go_wp2
          go_ret
          exact ⟨rfl, K3.out.trans (hK.out.mono hB3.out)⟩
end Go.Proofs.YtgljjdldhnajdaaGreat
/- The program's Whole: the edits that make a state of nothing. -/
set_option linter.unusedVariables false
set_option maxRecDepth 100000
namespace Go.Proofs.YtgljjdldhnajdaaGreat
open Go.RowKit Go.Maps Go.WideShapes Go.ChangeMaps

def nextL (s : St) : List Ed := if s.next = 0 then [] else [⟨7, s.next, 0, 0, [], []⟩]
def lgEd (f : Int) : Ed := ⟨5, f, 0, 0, [], []⟩
def soEd (t : So) : Ed := ⟨3, t.file, t.tier, 0, [], []⟩
def tbEd (t : Tb) : Ed := ⟨1, t.file, t.lev, t.cnt, t.low, t.high⟩
/-- The whole of a state. -/
def wholeL (s : St) : List Ed := nextL s ++ s.logs.map lgEd ++ s.stos.map soEd ++ s.tabs.map tbEd
theorem nextL_len (s : St) : (nextL s).length ≤ 1 := by unfold nextL; split <;> simp
theorem own_ed (w : World) (B : Nat) : OffRow w B 31 6 (.slice none 0 0) ([] : List Ed).length (flat ecell []) := OffRow.nil _ _ _ _
set_option maxHeartbeats 4000000 in
theorem man_Whole {T : Nat → Prop} {w : World} {tv sv lv : Value} {s : St} (h : Hid (StV T w tv sv lv s)) (hs : Hid (s.small 1000000000)) :
    Calls Tryz.prog 95 #[.agg #[tv, sv, lv, .int .i64 s.next]] w fun e w' => ∃ v, e = .returned v ∧ OffRow w' w.heap.size 31 6 v (wholeL s).length (flat ecell (wholeL s)) ∧ Below w.heap.size w w' := by
  obtain ⟨ta, tc, rfl⟩ := RdL.slice h.out.tabs
  obtain ⟨sa, sc, rfl⟩ := RdL.slice h.out.stos
  obtain ⟨la, lc, rfl⟩ := RdL.slice h.out.logs
  have hsm := hs.out
  unfold St.small at hsm
  obtain ⟨nt, hnt⟩ : ∃ n, n = s.tabs.length := ⟨_, rfl⟩
  obtain ⟨ns, hns⟩ : ∃ n, n = s.stos.length := ⟨_, rfl⟩
  obtain ⟨nl, hnl⟩ : ∃ n, n = s.logs.length := ⟨_, rfl⟩
  obtain ⟨nx, hnx⟩ : ∃ n, n = s.next := ⟨_, rfl⟩
  have ht1 : nt ≤ 1000000000 := by omega
  have hs1 : ns ≤ 1000000000 := by omega
  have hl1 : nl ≤ 1000000000 := by omega
  have HT := Lib.hid h.out.tabs
  have HS := Lib.hid h.out.stos
  have HL := Lib.hid h.out.logs
  rw [← hnt] at HT ⊢
  rw [← hns] at HS ⊢
  rw [← hnl] at HL ⊢
  rw [← hnx]
  have HN := Lib.hid (And.intro hnt (And.intro hns hnl))
  have HNX0 := Lib.hid hnx
  have HQ := Lib.hid (show s.tabs.length + s.stos.length + s.logs.length ≤ 1000000000 ∧ (nextL s).length ≤ 1 from ⟨hsm, nextL_len s⟩)
  obtain ⟨B, hB⟩ : ∃ B, B = w.heap.size := ⟨_, rfl⟩
  rw [← hB]
  have HB := Lib.hid hB
  obtain ⟨w1, hw1⟩ : ∃ w1, w.alloc (.cells #[.slice ta nt tc, .slice sa ns sc, .slice la nl lc, .int .i64 nx] 46) = w1 := ⟨_, rfl⟩
  have K1 := Lib.hid (show Below B w w1 by rw [← hw1, hB]; exact (Below.refl _ _).alloc (Nat.le_refl _) _)
  have X1 := Lib.hid (show C4 B (.slice ta nt tc) (.slice sa ns sc) (.slice la nl lc) (.int .i64 nx) w1 by rw [← hw1, hB]; exact heap_new w _)
  have HW1 := Lib.hid hw1
  obtain ⟨i0, hi0, hz0, hz1, hz2⟩ := info_parts infoEd
  have HI := Lib.hid (And.intro hi0 (And.intro hz0 (And.intro hz1 hz2)))
  clear hw1 hB hnt hns hnl hnx hsm hi0 hz0 hz1 hz2
  obtain ⟨r0, r1, r2, r3⟩ := X1.out.c0
  go_enter Tryz.func95, Tryz.ntmps95
  go_upto_region 1 with (fail)
  rw [HW1.out, ← HB.out]
  by_cases hz : nx = 0
  case' pos =>
    have HO0 := Lib.hid (show OffRow w1 B 31 6 (.slice none 0 0) (nextL s ++ (s.logs.take 0).map lgEd).length (flat ecell (nextL s ++ (s.logs.take 0).map lgEd)) by
      have e : nextL s ++ (s.logs.take 0).map lgEd = [] := by unfold nextL; rw [if_pos (by rw [← HNX0.out]; exact hz)]; rfl
      rw [e]
      exact own_ed _ _)
    have HX0 := X1
    have HK0 := K1
    have q : (nx != 0) = false := by simp [hz]
    clear hz
    go_wp2_with fail
    clear r0 r1 r2 r3 q
  case' neg =>
    have HE := Lib.hid (show nextL s ++ (s.logs.take 0).map lgEd = [] ++ [⟨7, nx, 0, 0, [], []⟩] by unfold nextL; rw [if_neg (by rw [← HNX0.out]; exact hz), HNX0.out]; rfl)
    have q : (nx != 0) = true := by simpa using hz
    obtain ⟨wr, hwr⟩ : ∃ wr, wr = w1 := ⟨_, rfl⟩
    rw [← hwr] at X1 K1 r0 r1 r2 r3 ⊢
    obtain ⟨a3, ha3⟩ : ∃ a : Option Addr, a = none := ⟨_, rfl⟩
    obtain ⟨N, hN0⟩ : ∃ N : Nat, N = 0 := ⟨_, rfl⟩
    obtain ⟨c3, hc3⟩ : ∃ c : Nat, c = 0 := ⟨_, rfl⟩
    obtain ⟨LL, hLL⟩ : ∃ LL : List Ed, LL = [] := ⟨_, rfl⟩
    have HO := Lib.hid (show OffRow wr B 31 6 (.slice a3 N c3) N (flat ecell LL) by rw [ha3, hN0, hc3, hLL]; exact own_ed _ _)
    have HNN := Lib.hid (show N = LL.length by rw [hN0, hLL]; rfl)
    have HX := X1
    have hK := K1
    have HZZ := Lib.hid (And.intro ha3 (And.intro hN0 hc3))
    clear hz hwr
    subst ha3 hN0 hc3
    obtain ⟨w4, hw4⟩ : ∃ w4, w4 = wr.alloc (.cells #[.int .i64 7, .int .i64 nx, .int .i64 0, .int .i64 0, .string { data := #[] }, .string { data := #[] }] 31) := ⟨_, rfl⟩
    have O4 := Lib.hid (show OffRow w4 B 31 6 (.slice none 0 0) 0 (flat ecell LL) by rw [hw4]; exact HO.out.allocd _)
    have K4 := Lib.hid (show Below wr.heap.size wr w4 by rw [hw4]; exact (Below.refl _ _).alloc (Nat.le_refl _) _)
    have HSR := Lib.hid (show Src Tryz.prog 6 22 (.slice (some ⟨wr.heap.size, 0, none⟩) 1 1) 1 (ecell (⟨7, nx, 0, 0, [], []⟩ : Ed)) w4 by
      have hb : w4.heap[wr.heap.size]? = some (.cells #[.int .i64 7, .int .i64 nx, .int .i64 0, .int .i64 0, .string { data := #[] }, .string { data := #[] }] 31 (0, 0)) := by
        rw [hw4]
        exact heap_new wr _
      exact src_block (size := 6) (cs := #[.int .i64 7, .int .i64 nx, .int .i64 0, .int .i64 0, .string { data := #[] }, .string { data := #[] }]) Tryz.underlying22 hb 1 1 rfl (ecell_one (⟨7, nx, 0, 0, [], []⟩ : Ed)))
    have HB4 := Lib.hid (show B ≤ w4.heap.size by have := K4.out.size; have := heap_lt HX.out; omega)
    rw [hw4] at O4 HSR HB4
    have HW4 := Lib.hid hw4
    clear hw4
    go_wp2_with (at_builtin; refine wpList_append_off rfl (.tmp 13) (.tmp 17) 22 rfl B 31 i0 _ 6 64 Tryz.underlying22 HI.out.1 HI.out.2.1 HI.out.2.2.1 HI.out.2.2.2 rfl (.slice none 0 0) 0 _ rfl O4.out (.slice (some ⟨wr.heap.size, 0, none⟩) 1 1) rfl 1 _ HSR.out (by unfold maxLen; omega) (by omega) HB4.out ?_)
    intro v7 w7 hr7 hg7 hat7
    rw [← HW4.out] at hg7
    have O7 := Lib.hid (show OffRow w7 B 31 6 v7 (LL ++ [(⟨7, nx, 0, 0, [], []⟩ : Ed)]).length (flat ecell (LL ++ [(⟨7, nx, 0, 0, [], []⟩ : Ed)])) by
      rw [flat_append, flat_one, List.length_append, ← HNN.out]
      rw [hLL]; exact hr7)
    have K7 := Lib.hid ((hK.out.trans (K4.out.mono (Nat.le_of_lt (heap_lt HX.out)))).grown hg7 (by rw [HW4.out]; exact HB4.out) (fun j hj => (OffRow.lt HO.out j hj).1))
    have J7 := Lib.hid (show C4 B _ _ _ _ w7 from
      (hg7.block B (Nat.lt_of_lt_of_le (heap_lt HX.out) K4.out.size) (fun e => by
        obtain ⟨cur, hc⟩ := OffRow.tag HO.out e.symm
        have hx := HX.out
        unfold C4 at hx
        rw [hx] at hc
        simp at hc)).trans ((K4.out.block B (heap_lt HX.out)).trans HX.out))
    clear hr7 hg7 hat7 O4 HSR
    have HO0 := Lib.hid (show OffRow w7 B 31 6 v7 (nextL s ++ (s.logs.take 0).map lgEd).length (flat ecell (nextL s ++ (s.logs.take 0).map lgEd)) by
      have := O7.out
      rw [hLL] at this
      rw [HE.out]
      exact this)
    have HX0 := J7
    have HK0 := K7
    obtain ⟨r0', r1', r2', r3'⟩ := J7.out.c0
    go_wp2_with fail
    clear r0 r1 r2 r3 r0' r1' r2' r3' q
  all_goals
    go_loopw [3, 22] (fun v iv wr => ∃ i : Nat, i ≤ nl ∧ iv = .int .i64 (i : Int) ∧ Hid (OffRow wr B 31 6 v (nextL s ++ (s.logs.take i).map lgEd).length (flat ecell (nextL s ++ (s.logs.take i).map lgEd))) ∧ Hid (C4 B (.slice ta nt tc) (.slice sa ns sc) (.slice la nl lc) (.int .i64 nx) wr) ∧ Hid (Below B w wr)) (fun v iv wr => nl - (intOf iv).toNat)
    case atStart => exact ⟨0, Nat.zero_le _, rfl, HO0, HX0, HK0⟩
    case round =>
      obtain ⟨i, hi, rfl, hO, HX, hK⟩ := hrel
      obtain ⟨LL, hLL⟩ : ∃ LL, LL = nextL s ++ (s.logs.take i).map lgEd := ⟨_, rfl⟩
      obtain ⟨N, hN⟩ : ∃ N, N = LL.length := ⟨_, rfl⟩
      have hN9 : N ≤ 4000000000 := by
        rw [hN, hLL]
        simp only [List.length_append, List.length_map, List.length_take]
        have := HQ.out
        omega
      have HNN := Lib.hid hN
      have HLL := Lib.hid hLL
      have HO := Lib.hid (show OffRow wr B 31 6 _ N (flat ecell LL) by have := hO.out; rw [← hLL, ← hN] at this; exact this)
      obtain ⟨a3, c3, rfl⟩ := OffRow.slice HO.out
      clear hN hO hLL
      obtain ⟨r0, r1, r2, r3⟩ := HX.out.c0
      by_cases hlt : i < nl
      · have hlt' : (i : Int) < (nl : Int) := by omega
        obtain ⟨y, hy⟩ : ∃ y, s.logs[i]? = some y := ⟨_, List.getElem?_eq_getElem (by have := HN.out; omega)⟩
        obtain ⟨b, off, rfl, ht, hb2, hc⟩ := RdL.atI HL.out hy hlt
        have hcr : ∀ i' u, (icell y)[i']? = some u → wr.cell? ⟨b, off + i * 1 + i', none⟩ = some u := fun i' u hu => by
          rw [← hc i' u hu]
          simp only [World.cell?, hK.out.block b (by rw [HB.out]; exact hb2)]
        have y0 := hcr 0 _ rfl
        simp only [Nat.mul_one, Nat.add_zero] at y0
        have HNX := Lib.hid (show LL ++ [(lgEd y)] = nextL s ++ (s.logs.take (i + 1)).map lgEd by
          rw [HLL.out, List.take_add_one, hy, List.map_append, List.append_assoc]
          rfl)
        clear hc hcr hy
        obtain ⟨w4, hw4⟩ : ∃ w4, w4 = wr.alloc (.cells #[.int .i64 5, .int .i64 y, .int .i64 0, .int .i64 0, .string { data := #[] }, .string { data := #[] }] 31) := ⟨_, rfl⟩
        have O4 := Lib.hid (show OffRow w4 B 31 6 (.slice a3 N c3) N (flat ecell LL) by rw [hw4]; exact HO.out.allocd _)
        have K4 := Lib.hid (show Below wr.heap.size wr w4 by rw [hw4]; exact (Below.refl _ _).alloc (Nat.le_refl _) _)
        have HSR := Lib.hid (show Src Tryz.prog 6 22 (.slice (some ⟨wr.heap.size, 0, none⟩) 1 1) 1 (ecell (lgEd y)) w4 by
          have hb : w4.heap[wr.heap.size]? = some (.cells #[.int .i64 5, .int .i64 y, .int .i64 0, .int .i64 0, .string { data := #[] }, .string { data := #[] }] 31 (0, 0)) := by
            rw [hw4]
            exact heap_new wr _
          exact src_block (size := 6) (cs := #[.int .i64 5, .int .i64 y, .int .i64 0, .int .i64 0, .string { data := #[] }, .string { data := #[] }]) Tryz.underlying22 hb 1 1 rfl (ecell_one (lgEd y)))
        have HB4 := Lib.hid (show B ≤ w4.heap.size by have := K4.out.size; have := heap_lt HX.out; omega)
        rw [hw4] at O4 HSR HB4
        have HW4 := Lib.hid hw4
        clear hw4
        go_wp2_with (at_builtin; refine wpList_append_off rfl (.tmp 26) (.tmp 29) 22 rfl B 31 i0 _ 6 64 Tryz.underlying22 HI.out.1 HI.out.2.1 HI.out.2.2.1 HI.out.2.2.2 rfl (.slice a3 N c3) N _ rfl O4.out (.slice (some ⟨wr.heap.size, 0, none⟩) 1 1) rfl 1 _ HSR.out (by unfold maxLen; omega) (by omega) HB4.out ?_)
        intro v7 w7 hr7 hg7 hat7
        rw [← HW4.out] at hg7
        have O7 := Lib.hid (show OffRow w7 B 31 6 v7 (LL ++ [(lgEd y)]).length (flat ecell (LL ++ [(lgEd y)])) by
          rw [flat_append, flat_one, List.length_append, ← HNN.out]
          exact hr7)
        have K7 := Lib.hid ((hK.out.trans (K4.out.mono (Nat.le_of_lt (heap_lt HX.out)))).grown hg7 (by rw [HW4.out]; exact HB4.out) (fun j hj => (OffRow.lt HO.out j hj).1))
        have J7 := Lib.hid (show C4 B _ _ _ _ w7 from
          (hg7.block B (Nat.lt_of_lt_of_le (heap_lt HX.out) K4.out.size) (fun e => by
            obtain ⟨cur, hc⟩ := OffRow.tag HO.out e.symm
            have hx := HX.out
            unfold C4 at hx
            rw [hx] at hc
            simp at hc)).trans ((K4.out.block B (heap_lt HX.out)).trans HX.out))
        clear hr7 hg7 hat7 O4 HSR
        have OR := Lib.hid (show OffRow w7 B 31 6 v7 (nextL s ++ (s.logs.take (i + 1)).map lgEd).length (flat ecell (nextL s ++ (s.logs.take (i + 1)).map lgEd)) by rw [← HNX.out]; exact O7.out)
        clear O7
        go_wp2_with fail
        go_roundw
        case rel => first | exact ⟨i + 1, hlt, by go_num, OR, J7, K7⟩ | exact ⟨_, _, _, _, _, _, _, _, _, _, _, _, _, _, _, ⟨i + 1, hlt, by go_num, OR, J7, K7⟩, rfl⟩ | exact ⟨_, _, _, _, _, _, _, _, _, _, _, _, _, _, _, _, _, _, _, _, _, ⟨i + 1, hlt, by go_num, OR, J7, K7⟩, rfl⟩
        case measure => simp [intOf]; omega
      · have hge : (nl : Int) ≤ (i : Int) := by omega
        have hin : i = nl := by omega
        have HFIN := Lib.hid (show LL = nextL s ++ s.logs.map lgEd by rw [HLL.out, List.take_of_length_le (by have := HN.out; omega)]; try rfl)
        have HO0 := Lib.hid (show OffRow wr B 31 6 (.slice a3 N c3) (nextL s ++ s.logs.map lgEd ++ (s.stos.take 0).map soEd).length (flat ecell (nextL s ++ s.logs.map lgEd ++ (s.stos.take 0).map soEd)) by
          have e : nextL s ++ s.logs.map lgEd ++ (s.stos.take 0).map soEd = LL := by rw [HFIN.out]; simp
          rw [e, ← HNN.out]
          exact HO.out)
        have HX0 := HX
        have HK0 := hK
        clear HO HX hK hin HNN HLL HFIN hN9 hi
        go_wp2_with fail
        clear r0 r1 r2 r3 hlt hge
        go_loopw [3, 35] (fun v iv wr => ∃ i : Nat, i ≤ ns ∧ iv = .int .i64 (i : Int) ∧ Hid (OffRow wr B 31 6 v (nextL s ++ s.logs.map lgEd ++ (s.stos.take i).map soEd).length (flat ecell (nextL s ++ s.logs.map lgEd ++ (s.stos.take i).map soEd))) ∧ Hid (C4 B (.slice ta nt tc) (.slice sa ns sc) (.slice la nl lc) (.int .i64 nx) wr) ∧ Hid (Below B w wr)) (fun v iv wr => ns - (intOf iv).toNat)
        case atStart => exact ⟨0, Nat.zero_le _, rfl, HO0, HX0, HK0⟩
        case round =>
          obtain ⟨i, hi, rfl, hO, HX, hK⟩ := hrel
          obtain ⟨LL, hLL⟩ : ∃ LL, LL = nextL s ++ s.logs.map lgEd ++ (s.stos.take i).map soEd := ⟨_, rfl⟩
          obtain ⟨N, hN⟩ : ∃ N, N = LL.length := ⟨_, rfl⟩
          have hN9 : N ≤ 4000000000 := by
            rw [hN, hLL]
            simp only [List.length_append, List.length_map, List.length_take]
            have := HQ.out
            omega
          have HNN := Lib.hid hN
          have HLL := Lib.hid hLL
          have HO := Lib.hid (show OffRow wr B 31 6 _ N (flat ecell LL) by have := hO.out; rw [← hLL, ← hN] at this; exact this)
          obtain ⟨a3, c3, rfl⟩ := OffRow.slice HO.out
          clear hN hO hLL
          obtain ⟨r0, r1, r2, r3⟩ := HX.out.c0
          by_cases hlt : i < ns
          · have hlt' : (i : Int) < (ns : Int) := by omega
            obtain ⟨y, hy⟩ : ∃ y, s.stos[i]? = some y := ⟨_, List.getElem?_eq_getElem (by have := HN.out; omega)⟩
            obtain ⟨b, off, rfl, ht, hb2, hc⟩ := RdL.atS HS.out hy hlt
            have hcr : ∀ i' u, (socell y)[i']? = some u → wr.cell? ⟨b, off + i * 2 + i', none⟩ = some u := fun i' u hu => by
              rw [← hc i' u hu]
              simp only [World.cell?, hK.out.block b (by rw [HB.out]; exact hb2)]
            have y0 := hcr 0 _ rfl
            simp only [Nat.mul_one, Nat.add_zero] at y0
            have y1 := hcr 1 _ rfl
            have HNX := Lib.hid (show LL ++ [(soEd y)] = nextL s ++ s.logs.map lgEd ++ (s.stos.take (i + 1)).map soEd by
              rw [HLL.out, List.take_add_one, hy, List.map_append, List.append_assoc]
              rfl)
            clear hc hcr hy
            obtain ⟨w4, hw4⟩ : ∃ w4, w4 = (wr.alloc (.cells #[.int .i64 y.file, .int .i64 y.tier] 121)).alloc (.cells #[.int .i64 3, .int .i64 y.file, .int .i64 y.tier, .int .i64 0, .string { data := #[] }, .string { data := #[] }] 31) := ⟨_, rfl⟩
            have O4 := Lib.hid (show OffRow w4 B 31 6 (.slice a3 N c3) N (flat ecell LL) by rw [hw4]; exact (HO.out.allocd _).allocd _)
            have K4 := Lib.hid (show Below wr.heap.size wr w4 by rw [hw4]; exact ((Below.refl _ _).alloc (Nat.le_refl _) _).alloc (by simp) _)
            have HSR := Lib.hid (show Src Tryz.prog 6 22 (.slice (some ⟨wr.heap.size + 1, 0, none⟩) 1 1) 1 (ecell (soEd y)) w4 by
              have hb : w4.heap[wr.heap.size + 1]? = some (.cells #[.int .i64 3, .int .i64 y.file, .int .i64 y.tier, .int .i64 0, .string { data := #[] }, .string { data := #[] }] 31 (0, 0)) := by
                rw [hw4]
                have := heap_new (wr.alloc (.cells #[.int .i64 y.file, .int .i64 y.tier] 121)) (.cells #[.int .i64 3, .int .i64 y.file, .int .i64 y.tier, .int .i64 0, .string { data := #[] }, .string { data := #[] }] 31)
                simpa using this
              exact src_block (size := 6) (cs := #[.int .i64 3, .int .i64 y.file, .int .i64 y.tier, .int .i64 0, .string { data := #[] }, .string { data := #[] }]) Tryz.underlying22 hb 1 1 rfl (ecell_one (soEd y)))
            have HB4 := Lib.hid (show B ≤ w4.heap.size by have := K4.out.size; have := heap_lt HX.out; omega)
            rw [hw4] at O4 HSR HB4
            have HW4 := Lib.hid hw4
            clear hw4
            go_wp2_with (at_builtin; refine wpList_append_off rfl (.tmp 39) (.tmp 45) 22 rfl B 31 i0 _ 6 64 Tryz.underlying22 HI.out.1 HI.out.2.1 HI.out.2.2.1 HI.out.2.2.2 rfl (.slice a3 N c3) N _ rfl O4.out (.slice (some ⟨wr.heap.size + 1, 0, none⟩) 1 1) rfl 1 _ HSR.out (by unfold maxLen; omega) (by omega) HB4.out ?_)
            intro v7 w7 hr7 hg7 hat7
            rw [← HW4.out] at hg7
            have O7 := Lib.hid (show OffRow w7 B 31 6 v7 (LL ++ [(soEd y)]).length (flat ecell (LL ++ [(soEd y)])) by
              rw [flat_append, flat_one, List.length_append, ← HNN.out]
              exact hr7)
            have K7 := Lib.hid ((hK.out.trans (K4.out.mono (Nat.le_of_lt (heap_lt HX.out)))).grown hg7 (by rw [HW4.out]; exact HB4.out) (fun j hj => (OffRow.lt HO.out j hj).1))
            have J7 := Lib.hid (show C4 B _ _ _ _ w7 from
              (hg7.block B (Nat.lt_of_lt_of_le (heap_lt HX.out) K4.out.size) (fun e => by
                obtain ⟨cur, hc⟩ := OffRow.tag HO.out e.symm
                have hx := HX.out
                unfold C4 at hx
                rw [hx] at hc
                simp at hc)).trans ((K4.out.block B (heap_lt HX.out)).trans HX.out))
            clear hr7 hg7 hat7 O4 HSR
            have OR := Lib.hid (show OffRow w7 B 31 6 v7 (nextL s ++ s.logs.map lgEd ++ (s.stos.take (i + 1)).map soEd).length (flat ecell (nextL s ++ s.logs.map lgEd ++ (s.stos.take (i + 1)).map soEd)) by rw [← HNX.out]; exact O7.out)
            clear O7
            go_wp2_with fail
            go_roundw
            case rel => first | exact ⟨i + 1, hlt, by go_num, OR, J7, K7⟩ | exact ⟨_, _, _, _, _, _, _, _, _, _, _, _, _, _, _, ⟨i + 1, hlt, by go_num, OR, J7, K7⟩, rfl⟩ | exact ⟨_, _, _, _, _, _, _, _, _, _, _, _, _, _, _, _, _, _, _, _, _, ⟨i + 1, hlt, by go_num, OR, J7, K7⟩, rfl⟩
            case measure => simp [intOf]; omega
          · have hge : (ns : Int) ≤ (i : Int) := by omega
            have hin : i = ns := by omega
            have HFIN := Lib.hid (show LL = nextL s ++ s.logs.map lgEd ++ s.stos.map soEd by rw [HLL.out, List.take_of_length_le (by have := HN.out; omega)]; try rfl)
            have HO0 := Lib.hid (show OffRow wr B 31 6 (.slice a3 N c3) (nextL s ++ s.logs.map lgEd ++ s.stos.map soEd ++ (s.tabs.take 0).map tbEd).length (flat ecell (nextL s ++ s.logs.map lgEd ++ s.stos.map soEd ++ (s.tabs.take 0).map tbEd)) by
              have e : nextL s ++ s.logs.map lgEd ++ s.stos.map soEd ++ (s.tabs.take 0).map tbEd = LL := by rw [HFIN.out]; simp
              rw [e, ← HNN.out]
              exact HO.out)
            have HX0 := HX
            have HK0 := hK
            clear HO HX hK hin HNN HLL HFIN hN9 hi
            go_wp2_with fail
            clear r0 r1 r2 r3 hlt hge
            go_loopw [3, 51] (fun v iv wr => ∃ i : Nat, i ≤ nt ∧ iv = .int .i64 (i : Int) ∧ Hid (OffRow wr B 31 6 v (nextL s ++ s.logs.map lgEd ++ s.stos.map soEd ++ (s.tabs.take i).map tbEd).length (flat ecell (nextL s ++ s.logs.map lgEd ++ s.stos.map soEd ++ (s.tabs.take i).map tbEd))) ∧ Hid (C4 B (.slice ta nt tc) (.slice sa ns sc) (.slice la nl lc) (.int .i64 nx) wr) ∧ Hid (Below B w wr)) (fun v iv wr => nt - (intOf iv).toNat)
            case atStart => exact ⟨0, Nat.zero_le _, rfl, HO0, HX0, HK0⟩
            case round =>
              obtain ⟨i, hi, rfl, hO, HX, hK⟩ := hrel
              obtain ⟨LL, hLL⟩ : ∃ LL, LL = nextL s ++ s.logs.map lgEd ++ s.stos.map soEd ++ (s.tabs.take i).map tbEd := ⟨_, rfl⟩
              obtain ⟨N, hN⟩ : ∃ N, N = LL.length := ⟨_, rfl⟩
              have hN9 : N ≤ 4000000000 := by
                rw [hN, hLL]
                simp only [List.length_append, List.length_map, List.length_take]
                have := HQ.out
                omega
              have HNN := Lib.hid hN
              have HLL := Lib.hid hLL
              have HO := Lib.hid (show OffRow wr B 31 6 _ N (flat ecell LL) by have := hO.out; rw [← hLL, ← hN] at this; exact this)
              obtain ⟨a3, c3, rfl⟩ := OffRow.slice HO.out
              clear hN hO hLL
              obtain ⟨r0, r1, r2, r3⟩ := HX.out.c0
              by_cases hlt : i < nt
              · have hlt' : (i : Int) < (nt : Int) := by omega
                obtain ⟨y, hy⟩ : ∃ y, s.tabs[i]? = some y := ⟨_, List.getElem?_eq_getElem (by have := HN.out; omega)⟩
                obtain ⟨b, off, rfl, ht, hb2, hc⟩ := RdL.atT HT.out hy hlt
                have hcr : ∀ i' u, (tcell y)[i']? = some u → wr.cell? ⟨b, off + i * 5 + i', none⟩ = some u := fun i' u hu => by
                  rw [← hc i' u hu]
                  simp only [World.cell?, hK.out.block b (by rw [HB.out]; exact hb2)]
                have y0 := hcr 0 _ rfl
                simp only [Nat.mul_one, Nat.add_zero] at y0
                have y1 := hcr 1 _ rfl
                have y2 := hcr 2 _ rfl
                have y3 := hcr 3 _ rfl
                have y4 := hcr 4 _ rfl
                have HNX := Lib.hid (show LL ++ [(tbEd y)] = nextL s ++ s.logs.map lgEd ++ s.stos.map soEd ++ (s.tabs.take (i + 1)).map tbEd by
                  rw [HLL.out, List.take_add_one, hy, List.map_append, List.append_assoc]
                  rfl)
                clear hc hcr hy
                obtain ⟨w4, hw4⟩ : ∃ w4, w4 = (wr.alloc (.cells #[.int .i64 y.file, .int .i64 y.lev, .int .i64 y.cnt, .string (bs y.low), .string (bs y.high)] 119)).alloc (.cells #[.int .i64 1, .int .i64 y.file, .int .i64 y.lev, .int .i64 y.cnt, .string (bs y.low), .string (bs y.high)] 31) := ⟨_, rfl⟩
                have O4 := Lib.hid (show OffRow w4 B 31 6 (.slice a3 N c3) N (flat ecell LL) by rw [hw4]; exact (HO.out.allocd _).allocd _)
                have K4 := Lib.hid (show Below wr.heap.size wr w4 by rw [hw4]; exact ((Below.refl _ _).alloc (Nat.le_refl _) _).alloc (by simp) _)
                have HSR := Lib.hid (show Src Tryz.prog 6 22 (.slice (some ⟨wr.heap.size + 1, 0, none⟩) 1 1) 1 (ecell (tbEd y)) w4 by
                  have hb : w4.heap[wr.heap.size + 1]? = some (.cells #[.int .i64 1, .int .i64 y.file, .int .i64 y.lev, .int .i64 y.cnt, .string (bs y.low), .string (bs y.high)] 31 (0, 0)) := by
                    rw [hw4]
                    have := heap_new (wr.alloc (.cells #[.int .i64 y.file, .int .i64 y.lev, .int .i64 y.cnt, .string (bs y.low), .string (bs y.high)] 119)) (.cells #[.int .i64 1, .int .i64 y.file, .int .i64 y.lev, .int .i64 y.cnt, .string (bs y.low), .string (bs y.high)] 31)
                    simpa using this
                  exact src_block (size := 6) (cs := #[.int .i64 1, .int .i64 y.file, .int .i64 y.lev, .int .i64 y.cnt, .string (bs y.low), .string (bs y.high)]) Tryz.underlying22 hb 1 1 rfl (ecell_one (tbEd y)))
                have HB4 := Lib.hid (show B ≤ w4.heap.size by have := K4.out.size; have := heap_lt HX.out; omega)
                rw [hw4] at O4 HSR HB4
                have HW4 := Lib.hid hw4
                clear hw4
                go_wp2_with (at_builtin; refine wpList_append_off rfl (.tmp 55) (.tmp 67) 22 rfl B 31 i0 _ 6 64 Tryz.underlying22 HI.out.1 HI.out.2.1 HI.out.2.2.1 HI.out.2.2.2 rfl (.slice a3 N c3) N _ rfl O4.out (.slice (some ⟨wr.heap.size + 1, 0, none⟩) 1 1) rfl 1 _ HSR.out (by unfold maxLen; omega) (by omega) HB4.out ?_)
                intro v7 w7 hr7 hg7 hat7
                rw [← HW4.out] at hg7
                have O7 := Lib.hid (show OffRow w7 B 31 6 v7 (LL ++ [(tbEd y)]).length (flat ecell (LL ++ [(tbEd y)])) by
                  rw [flat_append, flat_one, List.length_append, ← HNN.out]
                  exact hr7)
                have K7 := Lib.hid ((hK.out.trans (K4.out.mono (Nat.le_of_lt (heap_lt HX.out)))).grown hg7 (by rw [HW4.out]; exact HB4.out) (fun j hj => (OffRow.lt HO.out j hj).1))
                have J7 := Lib.hid (show C4 B _ _ _ _ w7 from
                  (hg7.block B (Nat.lt_of_lt_of_le (heap_lt HX.out) K4.out.size) (fun e => by
                    obtain ⟨cur, hc⟩ := OffRow.tag HO.out e.symm
                    have hx := HX.out
                    unfold C4 at hx
                    rw [hx] at hc
                    simp at hc)).trans ((K4.out.block B (heap_lt HX.out)).trans HX.out))
                clear hr7 hg7 hat7 O4 HSR
                have OR := Lib.hid (show OffRow w7 B 31 6 v7 (nextL s ++ s.logs.map lgEd ++ s.stos.map soEd ++ (s.tabs.take (i + 1)).map tbEd).length (flat ecell (nextL s ++ s.logs.map lgEd ++ s.stos.map soEd ++ (s.tabs.take (i + 1)).map tbEd)) by rw [← HNX.out]; exact O7.out)
                clear O7
                go_wp2_with fail
                go_roundw
                case rel => first | exact ⟨i + 1, hlt, by go_num, OR, J7, K7⟩ | exact ⟨_, _, _, _, _, _, _, _, _, _, _, _, _, _, _, ⟨i + 1, hlt, by go_num, OR, J7, K7⟩, rfl⟩ | exact ⟨_, _, _, _, _, _, _, _, _, _, _, _, _, _, _, _, _, _, _, _, _, ⟨i + 1, hlt, by go_num, OR, J7, K7⟩, rfl⟩
                case measure => simp [intOf]; omega
              · have hge : (nt : Int) ≤ (i : Int) := by omega
                have hin : i = nt := by omega
                have HFIN := Lib.hid (show LL = wholeL s by rw [HLL.out, List.take_of_length_le (by have := HN.out; omega)]; try rfl)
                go_wp2
                refine bodyPost_ret (results_tmp rfl _ _ _) rfl ?_
                exact ⟨_, rfl, by rw [← HFIN.out, ← HNN.out]; exact HO.out, hK.out⟩
end Go.Proofs.YtgljjdldhnajdaaGreat
/- The whole of a state makes it anew (plain). -/
set_option linter.unusedVariables false
set_option maxRecDepth 100000
namespace Go.Proofs.YtgljjdldhnajdaaGreat

theorem insS_last {t : So} : ∀ {P : List So}, (∀ u ∈ P, u.file < t.file) → insS t P = P ++ [t]
  | [], _ => rfl
  | u :: P, h => by
    unfold insS
    have := h u (List.mem_cons_self ..)
    rw [if_neg (by omega), insS_last fun v hv => h v (List.mem_cons_of_mem _ hv)]
    rfl
theorem insT_last {t : Tb} : ∀ {P : List Tb}, (∀ u ∈ P, tlt u t = true) → insT t P = P ++ [t]
  | [], _ => rfl
  | u :: P, h => by
    unfold insT
    have h1 := h u (List.mem_cons_self ..)
    have h2 : ¬ tlt t u = true := fun h2 => by
      have := tlt_trans h1 h2
      rw [tlt_irrefl] at this
      cases this
    rw [if_neg h2, insT_last fun v hv => h v (List.mem_cons_of_mem _ hv)]
    rfl
theorem app_logs (nx : Int) : ∀ (M P : List Int), (P ++ M).Nodup → (∀ f ∈ P ++ M, 1 ≤ f) → app ⟨[], [], P, nx⟩ (M.map lgEd) = (0, ⟨[], [], P ++ M, nx⟩)
  | [], P, _, _ => by simp [app]
  | f :: M, P, hn, hp => by
    have h1 : 1 ≤ f := hp f (by simp)
    have h2 : f ∉ P := fun hf => by
      rw [List.nodup_append] at hn
      exact hn.2.2 f hf f (by simp) rfl
    have e0 : oneE ⟨[], [], P, nx⟩ (lgEd f) = 0 := by
      simp [oneE, lgEd, St.files, h2, show ¬ f < 1 by omega]
    rw [List.map_cons, app_cons_ok e0]
    have e1 : oneS ⟨[], [], P, nx⟩ (lgEd f) = ⟨[], [], P ++ [f], nx⟩ := by simp [oneS, lgEd]
    rw [e1, app_logs nx M (P ++ [f]) (by simpa using hn) (by simpa using hp)]
    simp
theorem app_stos (nx : Int) (G : List Int) : ∀ (M P : List So), ((P ++ M).Pairwise fun a b => a.file < b.file) → ((P ++ M).map (·.file) ++ G).Nodup → (∀ t ∈ P ++ M, t.tier = 0 ∨ t.tier = 1) → (∀ t ∈ P ++ M, 1 ≤ t.file) → app ⟨[], P, G, nx⟩ (M.map soEd) = (0, ⟨[], P ++ M, G, nx⟩)
  | [], P, _, _, _, _ => by simp [app]
  | t :: M, P, hr, hn, ht, hp => by
    have h1 := hp t (by simp)
    have h3 := ht t (by simp)
    have h4 : ∀ u ∈ P, u.file < t.file := fun u hu => (List.pairwise_append.1 hr).2.2 u hu t (by simp)
    have h2 : t.file ∉ P.map (·.file) ++ G := fun hf => by
      rcases List.mem_append.1 hf with hf | hf
      · obtain ⟨u, hu, e⟩ := List.mem_map.1 hf
        have := h4 u hu
        omega
      · exact (List.nodup_append.1 hn).2.2 t.file (List.mem_map.2 ⟨t, by simp, rfl⟩) t.file hf rfl
    have e0 : oneE ⟨[], P, G, nx⟩ (soEd t) = 0 := by
      unfold oneE
      rw [if_neg (by simp [soEd]), if_neg (by simp [soEd]), if_pos (by simp [soEd]), if_neg (by simp only [soEd]; omega), if_neg (by simpa [soEd, St.files] using h2)]
    rw [List.map_cons, app_cons_ok e0]
    have e1 : oneS ⟨[], P, G, nx⟩ (soEd t) = ⟨[], P ++ [t], G, nx⟩ := by
      have := insS_last h4
      simp [oneS, soEd, Ed.sto]
      exact this
    rw [e1, app_stos nx G M (P ++ [t]) (by simpa using hr) (by simpa using hn) (by simpa using ht) (by simpa using hp)]
    simp
theorem app_tabs (nx : Int) (S : List So) (G : List Int) : ∀ (M P : List Tb), ((P ++ M).Pairwise fun a b => tlt a b = true) → ((P ++ M).Pairwise fun a b => a.lev = b.lev → 0 < a.lev → ltB a.high b.low = true) → ((P ++ M).map (·.file) ++ S.map (·.file) ++ G).Nodup →
    (∀ t ∈ P ++ M, 0 ≤ t.lev ∧ t.lev ≤ 5 ∧ 1 ≤ t.cnt ∧ ltB t.high t.low = false) → (∀ t ∈ P ++ M, 1 ≤ t.file) → app ⟨P, S, G, nx⟩ (M.map tbEd) = (0, ⟨P ++ M, S, G, nx⟩)
  | [], P, _, _, _, _, _ => by simp [app]
  | t :: M, P, hr, ha, hn, ht, hp => by
    have h1 := hp t (by simp)
    have h3 := ht t (by simp)
    have h4 : ∀ u ∈ P, tlt u t = true := fun u hu => (List.pairwise_append.1 hr).2.2 u hu t (by simp)
    have h5 : ∀ u ∈ P, u.lev = t.lev → 0 < u.lev → ltB u.high t.low = true := fun u hu => (List.pairwise_append.1 ha).2.2 u hu t (by simp)
    have h2 : t.file ∉ P.map (·.file) ++ S.map (·.file) ++ G := fun hf => by
      rw [List.map_append, List.map_cons, List.append_assoc, List.append_assoc, List.nodup_append] at hn
      rw [List.append_assoc] at hf
      rcases List.mem_append.1 hf with hf | hf
      · exact hn.2.2 t.file hf t.file (by simp) rfl
      · exact (List.nodup_cons.1 hn.2.1).1 (List.mem_append_right _ hf)
    have h6 : ¬ (0 < t.lev ∧ P.any (meets t) = true) := fun ⟨hl, hm⟩ => by
      obtain ⟨u, hu, hmu⟩ := List.any_eq_true.1 hm
      simp only [meets, Bool.and_eq_true, decide_eq_true_eq, Bool.not_eq_true'] at hmu
      have := h5 u hu hmu.1.1 (by omega)
      rw [this] at hmu
      exact absurd hmu.1.2 (by simp)
    have hb : badTab (tbEd t) = false := by
      show (decide (t.lev < 0) || decide (5 < t.lev) || decide (t.cnt < 1) || ltB t.high t.low) = false
      rw [decide_eq_false (show ¬ t.lev < 0 by omega), decide_eq_false (show ¬ 5 < t.lev by omega), decide_eq_false (show ¬ t.cnt < 1 by omega), h3.2.2.2]
      rfl
    have e0 : oneE ⟨P, S, G, nx⟩ (tbEd t) = 0 := by
      unfold oneE
      rw [if_pos (by simp [tbEd]), if_neg (by rw [hb]; simp only [tbEd]; simp; omega), if_neg (by simpa [tbEd, St.files] using h2)]
      show (if 0 < t.lev ∧ P.any (meets t) = true then (11 : Int) else 0) = 0
      rw [if_neg h6]
    rw [List.map_cons, app_cons_ok e0]
    have e1 : oneS ⟨P, S, G, nx⟩ (tbEd t) = ⟨P ++ [t], S, G, nx⟩ := by
      have := insT_last h4
      simp [oneS, tbEd, Ed.tab]
      exact this
    rw [e1, app_tabs nx S G M (P ++ [t]) (by simpa using hr) (by simpa using ha) (by simpa using hn) (by simpa using ht) (by simpa using hp)]
    simp
/-- THE WHOLE MAKES THE STATE ANEW. -/
theorem app_whole {s : St} (h : s.Ok) : app St.zero (wholeL s) = (0, s) := by
  obtain ⟨T, S, G, nx⟩ := s
  have hnod := h.nod
  have hpos := h.pos
  have hnx := h.next
  simp only [St.files] at hnod hpos hnx
  have e0 : app St.zero (nextL ⟨T, S, G, nx⟩) = (0, ⟨[], [], [], nx⟩) := by
    unfold nextL
    split
    · rename_i hz; simp only at hz; subst hz; rfl
    · rename_i hz
      simp only at hz
      have e : oneE St.zero ⟨7, nx, 0, 0, [], []⟩ = 0 := by simp [oneE, St.zero]; omega
      rw [app_cons_ok e]
      rfl
  have e1 := app_logs nx G [] (by simpa using (List.nodup_append.1 hnod).2.1) (fun f hf => hpos f (by simp at hf ⊢; simp [hf]))
  have e2 := app_stos nx G S [] (by simpa using h.stos) (by rw [List.append_assoc] at hnod; simpa using (List.nodup_append.1 hnod).2.1) (by simpa using h.tier) (fun t ht => hpos t.file (by simp at ht ⊢; exact .inr (.inl ⟨t, ht, rfl⟩)))
  have e3 := app_tabs nx S G T [] (by simpa using h.rise) (by simpa using h.apart) (by simpa using hnod) (by simpa using h.tab) (fun t ht => hpos t.file (by simp at ht ⊢; exact .inl ⟨t, ht, rfl⟩))
  unfold wholeL
  simp only [List.nil_append] at e1 e2 e3
  rw [List.append_assoc, List.append_assoc, app_append _ _ _ (by rw [e0]), e0, app_append _ _ _ (by rw [e1]), e1, app_append _ _ _ (by rw [e2]), e2, e3]
end Go.Proofs.YtgljjdldhnajdaaGreat
/- What the law of the whole looks at last: files rise, tables stand in their order (plain). -/
set_option linter.unusedVariables false
set_option maxRecDepth 100000
namespace Go.Proofs.YtgljjdldhnajdaaGreat

theorem filesOf_perm (s : St) : (filesOf s).Perm s.files := by
  unfold filesOf sortI St.files
  refine (List.mergeSort_perm _ _).trans ?_
  rw [List.append_assoc]
  exact List.perm_append_comm
theorem filesOf_rise {s : St} (h : s.Ok) : (filesOf s).Pairwise fun a b => a < b := by
  have hn : (filesOf s).Nodup := (filesOf_perm s).nodup_iff.2 h.nod
  have hs : (filesOf s).Pairwise fun a b => decide (a ≤ b) = true := by
    unfold filesOf sortI
    exact List.pairwise_mergeSort (fun a b c h1 h2 => by simp at h1 h2 ⊢; omega) (fun a b => by simp; omega) _
  exact (hs.and hn).imp fun ⟨h1, h2⟩ => by simp at h1; omega
theorem filesOf_next {s : St} (h : s.Ok) {i : Nat} {a b : Int} (ha : (filesOf s)[i]? = some a) (hb : (filesOf s)[i + 1]? = some b) : a < b := by
  obtain ⟨h1, e1⟩ := List.getElem?_eq_some_iff.1 ha
  obtain ⟨h2, e2⟩ := List.getElem?_eq_some_iff.1 hb
  have := List.pairwise_iff_getElem.1 (filesOf_rise h) i (i + 1) h1 h2 (by omega)
  rw [e1, e2] at this
  exact this
/-- Two tables that stand side by side. -/
theorem tabs_next {s : St} (h : s.Ok) {i : Nat} {a b : Tb} (ha : s.tabs[i]? = some a) (hb : s.tabs[i + 1]? = some b) : ¬ (b.lev < a.lev) ∧ (a.lev = b.lev → a.lev = 0 → ¬ a.file ≤ b.file) ∧ (a.lev = b.lev → 0 < a.lev → ltB a.high b.low = true) := by
  obtain ⟨h1, e1⟩ := List.getElem?_eq_some_iff.1 ha
  obtain ⟨h2, e2⟩ := List.getElem?_eq_some_iff.1 hb
  have hr := List.pairwise_iff_getElem.1 h.rise i (i + 1) h1 h2 (by omega)
  have hp := List.pairwise_iff_getElem.1 h.apart i (i + 1) h1 h2 (by omega)
  rw [e1, e2] at hr hp
  refine ⟨by have := tlt_lev hr; omega, fun hl h0 => ?_, hp⟩
  unfold tlt at hr
  rw [if_pos hl, if_pos h0] at hr
  simp at hr
  omega
end Go.Proofs.YtgljjdldhnajdaaGreat
/- The document's side: equal edits. -/
set_option linter.unusedVariables false
set_option maxRecDepth 100000
namespace Go.Proofs.YtgljjdldhnajdaaGreat
open Go.RowKit

set_option maxHeartbeats 2000000 in
theorem same_eds {T T' : Nat → Prop} {a b : Option Addr} {n ca cb : Nat} {L : List Ed} {w : World} (ha : Hid (RdX T w (.slice a n ca) n (flat ecell L))) (hb : Hid (RdX T' w (.slice b n cb) n (flat ecell L))) (hL : Hid (n = L.length)) (hn : n ≤ 1000000000) :
    Calls Tryz.prog 14 #[.slice a n ca, .slice b n cb] w fun e w' => e = .returned (.bool true) ∧ Below w.heap.size w w' := by
  go_enter Tryz.func14, Tryz.ntmps14
  go_wp2_with fail
  go_loopw [5] (fun i wr => ∃ k : Nat, k ≤ n ∧ i = .int .i64 (k : Int) ∧ Hid (Below w.heap.size w wr)) (fun i wr => n - (intOf i).toNat)
  case atStart => exact ⟨0, Nat.zero_le _, rfl, Lib.hid (Below.refl _ _)⟩
  case round =>
    obtain ⟨k, hk, rfl, hK⟩ := hrel
    by_cases hlt : k < n
    · obtain ⟨t, ht⟩ : ∃ t, L[k]? = some t := ⟨_, List.getElem?_eq_getElem (by have := hL.out; omega)⟩
      obtain ⟨b0, o0, rfl, _, hb0, c0⟩ := RdX.atE ha.out ht hlt
      obtain ⟨b1, o1, rfl, _, hb1, c1⟩ := RdX.atE hb.out ht hlt
      have k0 : ∀ i' u, (ecell t)[i']? = some u → wr.cell? ⟨b0, o0 + k * 6 + i', none⟩ = some u := fun i' u hu => by
        rw [← c0 i' u hu]; simp only [World.cell?, hK.out.block b0 hb0]
      have k1 : ∀ i' u, (ecell t)[i']? = some u → wr.cell? ⟨b1, o1 + k * 6 + i', none⟩ = some u := fun i' u hu => by
        rw [← c1 i' u hu]; simp only [World.cell?, hK.out.block b1 hb1]
      have y0 : wr.cell? ⟨b0, o0 + k * 6, none⟩ = _ := k0 0 _ rfl
      have y1 := k0 1 _ rfl
      have y2 := k0 2 _ rfl
      have y3 := k0 3 _ rfl
      have y4 := k0 4 _ rfl
      have y5 := k0 5 _ rfl
      have z0 : wr.cell? ⟨b1, o1 + k * 6, none⟩ = _ := k1 0 _ rfl
      have z1 := k1 1 _ rfl
      have z2 := k1 2 _ rfl
      have z3 := k1 3 _ rfl
      have z4 := k1 4 _ rfl
      have z5 := k1 5 _ rfl
      have hlt2 : (k : Int) < (n : Int) := by omega
      clear ht c0 c1 k0 k1 hb0 hb1
      go_wp2_with fail
      go_quiet (fail)
      go_wp2
      go_roundw
      case rel => exact ⟨k + 1, by omega, by go_num, Lib.hid (below_drewN hK.out _)⟩
      case measure => simp [intOf]; omega
    · go_wp2
      go_ret
      exact ⟨rfl, hK.out⟩
end Go.Proofs.YtgljjdldhnajdaaGreat
