/- WalNil, walked: a nil log, and a disk that is none, or has no such tier. -/
import Derived.Test.YtkelcmncjhnbgaaWalReplaysWalk
set_option linter.unusedVariables false
set_option maxRecDepth 100000
namespace Go.Proofs.Ytkelcmncjhnbgaa
open Go.RowKit

theorem make_yes {t n : Int} (ht : t = 0 ∨ t = 1) (hn : 1 ≤ n) : ∃ s2, (DS.new 5 5).make t n = (s2, 0) := by
  unfold DS.make DS.new DS.room DS.used
  rcases ht with rfl | rfl <;> simp [findL, usedL, show ¬ n < 1 by omega]
theorem make_no {t n : Int} (h : ¬ ((t = 0 ∨ t = 1) ∧ 1 ≤ n)) : (DS.new 5 5).make t n = (DS.new 5 5, 1) := by
  unfold DS.make
  rw [if_neg (by simp [DS.new]), if_pos (by omega)]
set_option maxHeartbeats 8000000 in
theorem nil_walk (t n : Int) (ht : -9223372036854775808 ≤ t ∧ t ≤ 9223372036854775807) (hn : -9223372036854775808 ≤ n ∧ n ≤ 9223372036854775807) (s : ByteArray) (hz : s.size ≤ 140737488351232) (w : World) :
    Calls Try.prog 8 #[.int .i64 t, .int .i64 n, .string s] w fun e w' => e = .returned (.bool true) ∧ Below w.heap.size w w' := by
  have hwf := Lib.hid (wf_of hn.1 hn.2)
  go_enter Try.func8, Try.ntmps8
  go_wp2_with fail
  refine (law_awake w).mono ?_
  rintro e w1 ⟨rfl, k1⟩
  have K1 := Lib.hid k1
  clear k1
  by_cases hq3 : s.size ≤ 30000
  · have hq3' : (s.size : Int) ≤ 30000 := by omega
    go_wp2_with fail
    refine (log_nil_Clear w1).mono ?_
    rintro e w2 ⟨rfl, rfl⟩
    go_wp2_with fail
    refine (log_nil_Counts w1).mono ?_
    rintro e w2 ⟨rfl, rfl⟩
    go_wp2_with fail
    refine (wal_Begin_nil 0 n w1).mono ?_
    rintro e w2 ⟨rfl, rfl⟩
    go_wp2_with fail
    refine (wal_Replay_nil n w1).mono ?_
    rintro e w2 ⟨rfl, k2⟩
    have K2 := Lib.hid (K1.out.trans (k2.mono K1.out.size))
    clear k2
    go_wp2_with fail
    refine (show Calls Try.prog 17 #[.int .i64 5, .int .i64 5] w2 _ from at_New 5 5 w2 (by omega) (by omega)).mono ?_
    rintro e w3 ⟨d, rfl, d3, k3⟩
    have D3 := Lib.hid d3.1
    have K3 := Lib.hid (K2.out.trans (k3.mono K2.out.size))
    have B3 := Lib.hid (show ∀ w4, Only (fun k => w2.heap.size ≤ k) w3 w4 → Below w.heap.size w w4 from fun w4 h => K3.out.trans ((h.below (B := w2.heap.size) (fun k _ hk => hk) k3.size).mono K2.out.size))
    clear d3 k3
    by_cases hok : (t = 0 ∨ t = 1) ∧ 1 ≤ n
    · obtain ⟨s2, hs2⟩ := make_yes hok.1 hok.2
      have hn1 : (1 : Int) ≤ n := hok.2
      go_wp2_with fail
      refine (wal_Begin D3 hwf.out (by simp [DS.new]) (Lib.hid hs2)).mono ?_
      rintro e w4 (⟨hz, _⟩ | ⟨_, lb, hlb, rfl, _, ho⟩)
      · exact absurd rfl hz
      · have K4 := Lib.hid (B3.out w4 ho)
        clear ho hs2
        rcases hok.1 with rfl | rfl
        · go_wp2_with fail
          refine (log_nil_File w4).mono ?_
          rintro e w5 ⟨rfl, rfl⟩
          go_wp2_with fail
          refine (log_nil_Add s w4).mono ?_
          rintro e w5 ⟨rfl, rfl⟩
          go_wp2_with fail
          refine (log_nil_Write w4).mono ?_
          rintro e w5 ⟨rfl, rfl⟩
          go_wp2_with fail
          refine (log_nil_Sync w4).mono ?_
          rintro e w5 ⟨rfl, rfl⟩
          go_wp2_with fail
          go_ret
          exact ⟨rfl, K4.out⟩
        · go_wp2_with fail
          refine (log_nil_File w4).mono ?_
          rintro e w5 ⟨rfl, rfl⟩
          go_wp2_with fail
          refine (log_nil_Add s w4).mono ?_
          rintro e w5 ⟨rfl, rfl⟩
          go_wp2_with fail
          refine (log_nil_Write w4).mono ?_
          rintro e w5 ⟨rfl, rfl⟩
          go_wp2_with fail
          refine (log_nil_Sync w4).mono ?_
          rintro e w5 ⟨rfl, rfl⟩
          go_wp2_with fail
          go_ret
          exact ⟨rfl, K4.out⟩
    · have hs2 := make_no hok
      go_wp2_with fail
      refine (wal_Begin D3 hwf.out (by simp [DS.new]) (Lib.hid hs2)).mono ?_
      rintro e w4 (⟨_, rfl, _, ho⟩ | ⟨hz, _⟩)
      · have K4 := Lib.hid (B3.out w4 ho)
        clear ho hs2
        by_cases hn1 : (1 : Int) ≤ n
        · have ht0 : (t == 0) = false := beq_eq_false_iff_ne.2 (by omega)
          have ht1 : (t == 1) = false := beq_eq_false_iff_ne.2 (by omega)
          clear hok
          go_wp2_with fail
          refine (log_nil_File w4).mono ?_
          rintro e w5 ⟨rfl, rfl⟩
          go_wp2_with fail
          refine (log_nil_Add s w4).mono ?_
          rintro e w5 ⟨rfl, rfl⟩
          go_wp2_with fail
          refine (log_nil_Write w4).mono ?_
          rintro e w5 ⟨rfl, rfl⟩
          go_wp2_with fail
          refine (log_nil_Sync w4).mono ?_
          rintro e w5 ⟨rfl, rfl⟩
          go_wp2_with fail
          go_ret
          exact ⟨rfl, K4.out⟩
        · have hn2 : decide ((1 : Int) ≤ n) = false := decide_eq_false hn1
          clear hok
          by_cases ht0 : t = 0
          · subst ht0
            go_wp2_with fail
            refine (log_nil_File w4).mono ?_
            rintro e w5 ⟨rfl, rfl⟩
            go_wp2_with fail
            refine (log_nil_Add s w4).mono ?_
            rintro e w5 ⟨rfl, rfl⟩
            go_wp2_with fail
            refine (log_nil_Write w4).mono ?_
            rintro e w5 ⟨rfl, rfl⟩
            go_wp2_with fail
            refine (log_nil_Sync w4).mono ?_
            rintro e w5 ⟨rfl, rfl⟩
            go_wp2_with fail
            go_ret
            exact ⟨rfl, K4.out⟩
          · have ht0' : (t == 0) = false := beq_eq_false_iff_ne.2 ht0
            by_cases ht1 : t = 1
            · subst ht1
              go_wp2_with fail
              refine (log_nil_File w4).mono ?_
              rintro e w5 ⟨rfl, rfl⟩
              go_wp2_with fail
              refine (log_nil_Add s w4).mono ?_
              rintro e w5 ⟨rfl, rfl⟩
              go_wp2_with fail
              refine (log_nil_Write w4).mono ?_
              rintro e w5 ⟨rfl, rfl⟩
              go_wp2_with fail
              refine (log_nil_Sync w4).mono ?_
              rintro e w5 ⟨rfl, rfl⟩
              go_wp2_with fail
              go_ret
              exact ⟨rfl, K4.out⟩
            · have ht1' : (t == 1) = false := beq_eq_false_iff_ne.2 ht1
              go_wp2_with fail
              refine (log_nil_File w4).mono ?_
              rintro e w5 ⟨rfl, rfl⟩
              go_wp2_with fail
              refine (log_nil_Add s w4).mono ?_
              rintro e w5 ⟨rfl, rfl⟩
              go_wp2_with fail
              refine (log_nil_Write w4).mono ?_
              rintro e w5 ⟨rfl, rfl⟩
              go_wp2_with fail
              refine (log_nil_Sync w4).mono ?_
              rintro e w5 ⟨rfl, rfl⟩
              go_wp2_with fail
              go_ret
              exact ⟨rfl, K4.out⟩
      · cases hz
  · have hq3' : (30000 : Int) < (s.size : Int) := by omega
    go_wp2_with fail
    refine (law_awake w1).mono ?_
    rintro e w3 ⟨rfl, k3⟩
    go_wp2
    go_ret
    exact ⟨rfl, K1.out.trans (k3.mono K1.out.size)⟩
end Go.Proofs.Ytkelcmncjhnbgaa
