/- The document's Live. -/
import Derived.Test.YtbjokbnmfbfkjaaMergeRefTold
set_option linter.unusedVariables false
set_option maxRecDepth 100000
namespace Go.Proofs.Ytbjokbnmfbfkjaa
open Go.RowKit

theorem live_snoc (T : List Ent) (x : Ent) : liveL (T ++ [x]) = if x.gone then liveL T else liveL T ++ [x] := by
  unfold liveL
  rw [List.filter_append]
  cases h : x.gone <;> simp [h]
theorem liveL_len (T : List Ent) : (liveL T).length ≤ T.length := List.length_filter_le _ _
set_option maxHeartbeats 4000000 in
theorem ref_Live (a : Option Addr) (n c : Nat) (T : List Ent) (w : World) (h : Hid (IsE w a n T)) (hn : n ≤ 1000000) :
    Calls Try.prog 15 #[.slice a n c] w fun en w' => (∃ v, en = .returned v ∧ OwnE w' w.heap.size v (liveL T)) ∧ Below w.heap.size w w' := by
  obtain ⟨i0, hi, hz0, hz1, hz2⟩ := info_parts infoE
  have HI := Lib.hid (And.intro hi (And.intro hz0 (And.intro hz1 hz2)))
  obtain ⟨B, hB⟩ : ∃ B, B = w.heap.size := ⟨_, rfl⟩
  rw [← hB]
  have HBW := Lib.hid hB
  clear hB hi hz0 hz1 hz2
  go_enter Try.func15, Try.ntmps15
  go_wp2_with fail
  go_loopw [3, 4] (fun v iv wr => ∃ k : Nat, k ≤ n ∧ iv = .int .i64 k ∧ Hid (OwnE wr B v (liveL (T.take k))) ∧ Hid (Below B w wr)) (fun v iv wr => n - (intOf iv).toNat)
  case atStart => exact ⟨0, Nat.zero_le _, rfl, Lib.hid (OwnE.nil _ _), Lib.hid (Below.refl _ _)⟩
  case round =>
    obtain ⟨k, hk, rfl, hO, hBl⟩ := hrel
    obtain ⟨a3, cap3, rfl⟩ := hO.out.slice
    obtain ⟨m, hm⟩ : ∃ m, (liveL (T.take k)).length = m := ⟨_, rfl⟩
    have HM := Lib.hid hm
    have hmk : m ≤ 1000000 := by
      rw [← hm]
      have := liveL_len (T.take k)
      rw [List.length_take] at this
      omega
    rw [hm] at hO ⊢
    clear hm
    have hBwr := Lib.hid (show B ≤ wr.heap.size by have := hBl.out.size; rw [HBW.out]; exact this)
    rcases Nat.lt_or_ge k n with hlt | hge
    · obtain ⟨b, off, x, rfl, hx, -, hc⟩ := (h.out.below (by rw [← HBW.out]; exact hBl.out)).at hlt
      have c0 := hc.c0
      have c1 := hc.c1
      have c2 := hc.c2
      have HS := Lib.hid (show liveL (T.take (k + 1)) = if x.gone then liveL (T.take k) else liveL (T.take k) ++ [x] by rw [take_ent hx, live_snoc])
      clear hc hx
      cases hg : x.gone with
      | true =>
        have HT := Lib.hid (show liveL (T.take (k + 1)) = liveL (T.take k) by rw [HS.out, hg]; rfl)
        rw [hg] at c2
        clear hg HS
        go_wp2_with fail
        go_roundw
        case rel => exact ⟨k + 1, by omega, by go_num, Lib.hid (by rw [HT.out]; exact hO.out), hBl⟩
        case measure => simp [intOf]; omega
      | false =>
        have HT := Lib.hid (show liveL (T.take (k + 1)) = liveL (T.take k) ++ [x] by rw [HS.out, hg]; rfl)
        have HV := Lib.hid (show x.vals = [.string (bs x.key), .string (bs x.val), .bool false] by rw [← hg]; rfl)
        rw [hg] at c2
        clear hg HS
        obtain ⟨hi, hz0, hz1, hz2⟩ := HI.out
        go_wp2_with (at_builtin; refine wpList_append_off rfl (.tmp 17) (.tmp 22) 22 rfl B 32 i0 _ 3 40 Try.underlying22 hi hz0 hz1 hz2 rfl (.slice a3 m cap3) m (ecells (liveL (T.take k))) rfl ?c1 (.slice (some ⟨wr.heap.size, 0, none⟩) 1 1) rfl 1 x.vals ?c2 ?c3 ?c4 ?c5 ?_)
        case c1 => have := hO.out; unfold OwnE at this; rw [HM.out] at this; exact OffRow.allocd this _
        case c2 => rw [HV.out]; exact src_block (size := 3) (cs := #[.string (bs x.key), .string (bs x.val), .bool false]) Try.underlying22 (heap_new _ _) 1 1 rfl (by intro u hu; simp at hu; rcases hu with rfl | rfl | rfl <;> rfl)
        case c3 => unfold maxLen; omega
        case c4 => omega
        case c5 => have := hBwr.out; simp; omega
        intro v7 w7 hr7 hg7 hat7
        have O7 := Lib.hid (show OwnE w7 B v7 (liveL (T.take (k + 1))) by
          rw [HT.out]
          unfold OwnE
          rw [ecells_append, List.length_append, HM.out]
          exact hr7)
        have H7 := Lib.hid (show Below B w w7 from (hBl.out.alloc (by have := hBwr.out; omega) _).grown hg7 (by have := hBwr.out; simp; omega) (fun j hj => (OffRow.lt hO.out j hj).1))
        clear hr7 hg7 hat7 hi hz0 hz1 hz2
        go_wp2_with fail
        go_roundw
        case rel => exact ⟨k + 1, by omega, by go_num, O7, H7⟩
        case measure => simp [intOf]; omega
    · obtain rfl : k = n := by omega
      have HT := Lib.hid (show T.take k = T from List.take_of_length_le (by rw [h.out.1]; exact Nat.le_refl _))
      go_wp2_with fail
      go_ret
      have h1 := hO.out
      rw [HT.out] at h1
      exact ⟨⟨_, rfl, h1⟩, hBl.out⟩
end Go.Proofs.Ytbjokbnmfbfkjaa
