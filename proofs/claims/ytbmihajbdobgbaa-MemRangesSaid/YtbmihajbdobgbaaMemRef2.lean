/- The document's lists of pairs: Without, Get; its bound of a map's height. -/
import Derived.Test.YtbmihajbdobgbaaMemRef
set_option linter.unusedVariables false
set_option maxRecDepth 100000
namespace Go.Proofs.Ytbmihajbdobgbaa.MI
open Go.RowKit

theorem delP_snoc (k : List UInt8) (A : PL) (y : List UInt8 × Int) : delP k (A ++ [y]) = if y.1 = k then delP k A else delP k A ++ [y] := by
  unfold delP
  rw [List.filter_append]
  by_cases h : y.1 = k <;> simp [h]
set_option maxHeartbeats 4000000 in
theorem ref_Without {v : Value} {k : List UInt8} {L : PL} {w : World} (h : Hid (Pl w v L)) (hl : L.length ≤ 800000) : Calls Try.prog 23 #[v, .string (bs k)] w fun e w' => ∃ v', e = .returned v' ∧ Pl w' v' (delP k L) ∧ Below w.heap.size w w' := by
  obtain ⟨n, hn⟩ : ∃ n, n = L.length := ⟨_, rfl⟩
  obtain ⟨a, cap, rfl⟩ : ∃ a cap, v = .slice a n cap := by rw [hn]; exact OffRow.slice h.out
  have hn8 : n ≤ 800000 := by omega
  have HN := Lib.hid hn
  obtain ⟨B, hB⟩ : ∃ B, B = w.heap.size := ⟨_, rfl⟩
  have HB := Lib.hid hB
  obtain ⟨i0, hi, hz0, hz1, hz2⟩ := info_parts infoPair
  have HI := Lib.hid (And.intro hi (And.intro hz0 (And.intro hz1 hz2)))
  rw [← hB]
  clear hi hz0 hz1 hz2 hn hl hB
  go_enter Try.func23, Try.ntmps23
  go_wp2_with fail
  go_loopw [5, 6] (fun ov iv wr => ∃ i : Nat, i ≤ n ∧ iv = .int .i64 (i : Int) ∧ Hid (Below B w wr ∧ Ol wr B ov (delP k (L.take i)))) (fun ov iv wr => n - (intOf iv).toNat)
  case atStart => exact ⟨0, Nat.zero_le _, rfl, Lib.hid ⟨Below.refl _ _, OffRow.nil _ _ _ _⟩⟩
  case round =>
    obtain ⟨i, hi, rfl, hR⟩ := hrel
    obtain ⟨a1, cap1, hov⟩ := OffRow.slice hR.out.2
    obtain ⟨m, hm⟩ : ∃ m, m = (delP k (L.take i)).length := ⟨_, rfl⟩
    rw [← hm] at hov
    subst hov
    have hmi : m ≤ i := by
      have := delP_len k (L.take i)
      rw [List.length_take] at this
      omega
    have P1 := Lib.hid (h.out.below (by rw [← HB.out]; exact hR.out.1))
    have HM := Lib.hid hm
    clear hm
    have HBW := Lib.hid (show B ≤ wr.heap.size by have := hR.out.1.size; rw [HB.out]; exact this)
    rcases Nat.lt_or_ge i n with hlt | hge
    · obtain ⟨⟨yk, yx⟩, hy⟩ : ∃ y, L[i]? = some y := ⟨_, List.getElem?_eq_getElem (by have := HN.out; omega)⟩
      obtain ⟨g, off, cap', e0, d0, d1⟩ := P1.out.at hy
      simp only [Value.slice.injEq] at e0
      obtain ⟨rfl, -, -⟩ := e0
      have hlt2 : (i : Int) < (n : Int) := by omega
      have HT := Lib.hid (show delP k (L.take (i + 1)) = if yk = k then delP k (L.take i) else delP k (L.take i) ++ [(yk, yx)] by rw [List.take_add_one, hy]; exact delP_snoc k (L.take i) (yk, yx))
      clear hy
      by_cases hke : yk = k
      · have heq : ((bs yk).toList == (bs k).toList) = true := by rw [Lib.toList_data, Lib.toList_data, bs_list, bs_list]; simpa using hke
        rw [if_pos hke] at HT
        clear hke
        go_wp2_with fail
        go_roundw
        case rel => exact ⟨i + 1, by omega, by go_num, by rw [HT.out]; exact hR⟩
        case measure => simp [intOf]; omega
      · have heq : ((bs yk).toList == (bs k).toList) = false := by rw [Lib.toList_data, Lib.toList_data, bs_list, bs_list]; simpa using hke
        rw [if_neg hke] at HT
        clear hke
        obtain ⟨hi0, hz0, hz1, hz2⟩ := HI.out
        go_wp2_with (at_builtin; refine wpList_append_off rfl (.tmp 20) (.tmp 25) 28 rfl B 59 i0 _ 2 24 Try.underlying28 hi0 hz0 hz1 hz2 rfl (.slice a1 m cap1) m (pcells (delP k (L.take i))) rfl ?c1 (.slice (some ⟨wr.heap.size, 0, none⟩) 1 1) rfl 1 [.string (bs yk), .int .i64 yx] ?c2 ?c3 ?c4 ?c5 ?_)
        case c1 => have := OffRow.allocd hR.out.2 (.cells #[.string (bs yk), .int .i64 yx] 59); rw [← HM.out] at this; exact this
        case c2 => exact src_block (size := 2) (cs := #[.string (bs yk), .int .i64 yx]) Try.underlying28 (heap_new _ _) 1 1 rfl (by intro u hu; simp at hu; rcases hu with rfl | rfl <;> rfl)
        case c3 => unfold maxLen; omega
        case c4 => omega
        case c5 => have := HBW.out; simp; omega
        intro v7 w7 hr7 hg7 _
        have HS := Lib.hid (Ol.snoc hR.out.1 HBW.out hR.out.2 (by rw [← HM.out]; exact hr7) hg7)
        clear hr7 hg7 hi0 hz0 hz1 hz2 d0 d1
        go_wp2_with fail
        go_roundw
        case rel => exact ⟨i + 1, by omega, by go_num, by rw [HT.out]; exact HS⟩
        case measure => simp [intOf]; omega
    · obtain rfl : i = n := by omega
      have HE := Lib.hid (show L.take i = L by rw [HN.out, List.take_length])
      go_wp2_with fail
      go_ret
      exact ⟨_, rfl, by have := hR.out.2.pl; rw [HE.out] at this; exact this, hR.out.1⟩
theorem getP_drop {k : List UInt8} {L : PL} {i : Nat} {y : List UInt8 × Int} (h : L[i]? = some y) : getP k (L.drop i) = if y.1 = k then some y.2 else getP k (L.drop (i + 1)) := by
  obtain ⟨hi, he⟩ := List.getElem?_eq_some_iff.1 h
  rw [List.drop_eq_getElem_cons hi, he]
  rfl
set_option maxHeartbeats 4000000 in
theorem ref_Get {v : Value} {k : List UInt8} {L : PL} {w : World} (h : Hid (Pl w v L)) (hl : L.length ≤ 800000) : Calls Try.prog 11 #[v, .string (bs k)] w fun e w' => e = .returned (getV (getP k L)) ∧ w' = w := by
  obtain ⟨n, hn⟩ : ∃ n, n = L.length := ⟨_, rfl⟩
  obtain ⟨a, cap, rfl⟩ : ∃ a cap, v = .slice a n cap := by rw [hn]; exact OffRow.slice h.out
  have hn8 : n ≤ 800000 := by omega
  have HN := Lib.hid hn
  clear hn hl
  go_enter Try.func11, Try.ntmps11
  go_wp2_with fail
  go_loopw [6] (fun iv wr => ∃ i : Nat, i ≤ n ∧ iv = .int .i64 (i : Int) ∧ Hid (getP k L = getP k (L.drop i)) ∧ wr = w) (fun iv wr => n - (intOf iv).toNat)
  case atStart => exact ⟨0, Nat.zero_le _, rfl, Lib.hid rfl, rfl⟩
  case round =>
    obtain ⟨i, hi, rfl, hg, rfl⟩ := hrel
    rcases Nat.lt_or_ge i n with hlt | hge
    · obtain ⟨⟨yk, yx⟩, hy⟩ : ∃ y, L[i]? = some y := ⟨_, List.getElem?_eq_getElem (by have := HN.out; omega)⟩
      obtain ⟨g, off, cap', e0, d0, d1⟩ := h.out.at hy
      simp only [Value.slice.injEq] at e0
      obtain ⟨rfl, -, -⟩ := e0
      have hlt2 : (i : Int) < (n : Int) := by omega
      have HT := Lib.hid (getP_drop (k := k) hy)
      clear hy
      by_cases hke : yk = k
      · have heq : ((bs yk).toList == (bs k).toList) = true := by rw [Lib.toList_data, Lib.toList_data, bs_list, bs_list]; simpa using hke
        rw [if_pos hke] at HT
        clear hke
        go_wp2_with fail
        refine bodyPost_ret (results_tmp2 rfl _ _ _) rfl ⟨?_, rfl⟩
        rw [hg.out, HT.out]
        rfl
      · have heq : ((bs yk).toList == (bs k).toList) = false := by rw [Lib.toList_data, Lib.toList_data, bs_list, bs_list]; simpa using hke
        rw [if_neg hke] at HT
        clear hke
        go_wp2_with fail
        go_roundw
        case rel => exact ⟨i + 1, by omega, by go_num, by rw [← HT.out]; exact hg, trivial⟩
        case measure => simp [intOf]; omega
    · obtain rfl : i = n := by omega
      go_wp2_with fail
      refine bodyPost_ret (results_tmp2 rfl _ _ _) rfl ⟨?_, rfl⟩
      rw [hg.out, HN.out, List.drop_length]
      rfl
theorem half (n : Nat) (h : 0 < n) : n / 2 < n := Nat.div_lt_self h (by decide)
set_option maxHeartbeats 4000000 in
theorem ref_High {n : Nat} {w : World} (hn : n ≤ 1000000) : Calls Try.prog 16 #[.int .i64 (n : Int)] w fun e w' => (∃ d : Nat, n + 1 < 2 ^ d ∧ e = .returned (.int .i64 (((3 * d + 1) / 2 : Nat) : Int))) ∧ w' = w := by
  go_enter Try.func16, Try.ntmps16
  go_wp2_with fail
  go_loopw [0, 3] (fun nv dv wr => ∃ m d : Nat, nv = .int .i64 (m : Int) ∧ dv = .int .i64 (d : Int) ∧ m ≤ 1000001 ∧ d + m ≤ 1000001 ∧ Hid (∀ c, m < 2 ^ c → n + 1 < 2 ^ (c + d)) ∧ wr = w) (fun nv dv wr => (intOf nv).toNat)
  case atStart => exact ⟨n + 1, 0, by go_num, rfl, by omega, by omega, Lib.hid fun c hc => hc, rfl⟩
  case round =>
    obtain ⟨m, d, rfl, rfl, hm, hdm, hp, rfl⟩ := hrel
    rcases Nat.eq_zero_or_pos m with h0 | h0
    · subst h0
      obtain ⟨q, hq⟩ : ∃ q : Nat, q = 3 * d + 1 := ⟨_, rfl⟩
      have hq1 : 3 * (d : Int) + 1 = (q : Int) := by omega
      have hq2 : q ≤ 10000000 := by omega
      have HQ := Lib.hid hq
      clear hq
      go_wp2_with fail
      go_ret
      refine ⟨⟨d, by simpa using hp.out 0 (by simp), ?_⟩, rfl⟩
      show Ending.returned (.int .i64 ((q : Int) / 2)) = _
      rw [HQ.out]
      congr 2
    · have hpos : (0 : Int) < (m : Int) := by omega
      have hhalf := half m h0
      go_wp2_with fail
      go_roundw
      case rel => exact ⟨m / 2, d + 1, by go_num, by go_num, by omega, by omega, Lib.hid fun c hc => by
        have := hp.out (c + 1) (by rw [Nat.pow_succ]; omega)
        rw [show c + 1 + d = c + (d + 1) by omega] at this
        exact this, trivial⟩
      case measure => simp [intOf]; omega
end Go.Proofs.Ytbmihajbdobgbaa.MI
