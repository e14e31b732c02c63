/- WalFrames, walked: records have the document's frames, and any bytes bear the records that it says. -/
import Derived.Test.YtkelcmncjhnbgaaWalLaw
set_option linter.unusedVariables false
set_option maxRecDepth 100000
namespace Go.Proofs.Ytkelcmncjhnbgaa
open Go.RowKit

/-- Texts that came in. -/
theorem txv_in {w : World} {a : Option Addr} {len cap : Nat} {T : List ByteArray} (h : IsTexts w a len T) : TxV w (.slice a len cap) (T.map fun t => t.data.toList) := by
  obtain ⟨h1, b, off, h2, h3⟩ := h
  refine ⟨a, cap, by rw [List.length_map, h1], b, off, ?_, fun k hk => ?_⟩
  · rw [List.length_map, ← h1]; exact h2
  · rw [List.length_map] at hk
    obtain ⟨h4, h5⟩ := h3 k hk
    refine ⟨h4, ?_⟩
    rw [h5, List.getElem_map, List.getD_eq_getElem?_getD, List.getElem?_eq_getElem hk]
    simp only [Option.getD_some]
    rw [bs_eq (s := T[k]) rfl]
    rfl
theorem in_small {T : List ByteArray} (h : ∀ t ∈ T, t.size ≤ 140737488351232) : ∀ t ∈ (T.map fun t => t.data.toList), t.length ≤ 9223372036854775807 := by
  intro t ht
  obtain ⟨u, hu, rfl⟩ := List.mem_map.1 ht
  have := h u hu
  rw [← Lib.size_eq]
  omega

set_option maxHeartbeats 4000000 in
theorem frames_walk {a : Option Addr} {len cap : Nat} {T : List (List UInt8)} {w : World} (h : Hid (TxV w (.slice a len cap) T)) (hbig : len ≤ 9223372036854775807) (hs : Hid (∀ t ∈ T, t.length ≤ 9223372036854775807)) (s : List UInt8) (hz : s.length ≤ 140737488351232) :
    Calls Try.prog 3 #[.slice a len cap, .string (bs s)] w fun e w' => e = .returned (.bool true) ∧ Below w.heap.size w w' := by
  obtain ⟨q, hq⟩ : ∃ q, q = s.length := ⟨_, rfl⟩
  have hsz : (bs s).size = q := by rw [bs_size, hq]
  have HQ := Lib.hid hq
  rw [← hq] at hz
  clear hq
  go_enter Try.func3, Try.ntmps3
  go_wp2_with fail
  refine (law_awake w).mono ?_
  rintro e w1 ⟨rfl, k1⟩
  have K1 := Lib.hid k1
  clear k1
  go_wp2_with fail
  refine (law_few (Lib.hid (h.out.below K1.out)) hbig hs).mono ?_
  rintro e w2 ⟨b, rfl, hb, rfl⟩
  have HB := Lib.hid hb
  clear hb
  have stop : ∀ w1 : World, Hid (Below w.heap.size w w1) → Calls Try.prog 9 #[] w1 fun e w' => e = .returned (.bool true) ∧ Below w.heap.size w w' := fun w1 k => (law_awake w1).mono fun e w' ⟨h1, h2⟩ => ⟨h1, k.out.trans (h2.mono k.out.size)⟩
  cases b with
  | false =>
    go_wp2_with fail
    refine (stop w1 K1).mono ?_
    rintro e w3 ⟨rfl, k3⟩
    go_wp2
    go_ret
    exact ⟨rfl, k3⟩
  | true =>
    by_cases hq3 : q ≤ 30000
    · have hq3' : (q : Int) ≤ 30000 := by omega
      have HF := Lib.hid (HB.out rfl)
      have HL := Lib.hid h.out.len
      have hlen : len ≤ 200 := by rw [HL.out]; exact HF.out.len
      clear HB stop
      go_wp2_with fail
      go_loopw [5, 6] (fun av iv wr => ∃ i : Nat, i ≤ len ∧ iv = .int .i64 (i : Int) ∧ av = .string (bs (framesL (T.take i))) ∧ Hid (Below w.heap.size w wr)) (fun av iv wr => len - (intOf iv).toNat)
      case atStart => exact ⟨0, Nat.zero_le _, rfl, rfl, K1⟩
      case round =>
        clear K1
        obtain ⟨i, hi, rfl, rfl, hK⟩ := hrel
        rcases Nat.lt_or_ge i len with hlt | hge
        · obtain ⟨t, ht⟩ : ∃ t, T[i]? = some t := ⟨_, List.getElem?_eq_getElem (by have := HL.out; omega)⟩
          obtain ⟨b, off, rfl, hbl, hc⟩ := (h.out.below hK.out).at ht
          have hlt2 : (i : Int) < (len : Int) := by omega
          have htl : t.length ≤ 1000000000 := by have := HF.out.mem (List.mem_of_getElem? ht); omega
          have hcat : bs (framesL (T.take i)) ++ bs (frameL t) = bs (framesL (T.take (i + 1))) := by rw [frames_snoc ht, bs_cat, bs_list]
          have hsz2 : ((bs (framesL (T.take i))).size : Int) + ((bs (frameL t)).size : Int) ≤ 9223372036854775807 := by
            have := frames_take T i
            have := frameL_le (r := t) (by omega)
            have := HF.out.frames
            rw [bs_size, bs_size]
            omega
          clear ht
          go_wp2_with fail
          refine (wal_Frame t wr htl).mono ?_
          rintro e w3 ⟨rfl, k3⟩
          have K3 := Lib.hid (hK.out.trans (k3.mono hK.out.size))
          clear k3
          go_wp2_with fail
          go_roundw
          case rel => exact ⟨i + 1, by omega, by go_num, rfl, K3⟩
          case measure => simp [intOf]; omega
        · obtain rfl : i = len := by omega
          have HE := Lib.hid (show T.take i = T by rw [HL.out]; exact List.take_length)
          rw [HE.out]
          have hcat : bs (framesL T) ++ bs s = bs (framesL T ++ s) := by rw [bs_cat, bs_list]
          have hsz2 : ((bs (framesL T)).size : Int) + (q : Int) ≤ 9223372036854775807 := by have := HF.out.frames; rw [bs_size]; omega
          have hall : (framesL T ++ s).length ≤ 1000000000 := by have := HF.out.frames; rw [List.length_append, ← HQ.out]; omega
          have hcount : (splitL (framesL T ++ s)).1.length ≤ 1000000000 := by
            obtain ⟨h1, h2, _⟩ := split_back _ (framesL T ++ s) (Nat.le_refl _)
            have h3 : ∀ L : List (List UInt8), L.length ≤ (framesL L).length := by
              intro L
              induction L with
              | nil => exact Nat.le_refl _
              | cons r L ih =>
                have := frameL_pos r
                show L.length + 1 ≤ (frameL r ++ framesL L).length
                rw [List.length_append]; omega
            have := h3 (splitL (framesL T ++ s)).1
            have := split_le (framesL T ++ s)
            omega
          have hself : (bs (framesL T)).toList = (bs (framesL T)).toList := rfl
          clear hge hi hlen
          go_wp2_with fail
          refine (wal_Split (framesL T ++ s) wr hall).mono ?_
          rintro e w3 ⟨v3, rfl, o3, k3⟩
          have K3 := Lib.hid (hK.out.trans (k3.mono hK.out.size))
          have T3 := Lib.hid o3.txs
          clear o3 k3
          obtain ⟨a3, c3, rfl, _⟩ := id T3.out
          go_wp2_with fail
          refine (ref_Frames (Lib.hid (h.out.below K3.out)) (Lib.hid (by have := HF.out.frames; omega)) (by have := HF.out.len; have := HL.out; omega)).mono ?_
          rintro e w4 ⟨rfl, k4⟩
          have K4 := Lib.hid (K3.out.trans (k4.mono K3.out.size))
          have T4 := Lib.hid (T3.out.below k4)
          clear k4 T3 K3
          go_wp2_with fail
          refine (ref_Split (framesL T ++ s) w4 hall).mono ?_
          rintro e w5 ⟨v5, rfl, o5, k5⟩
          have K5 := Lib.hid (K4.out.trans (k5.mono K4.out.size))
          have T5 := Lib.hid (T4.out.below k5)
          have S5 := Lib.hid o5.txs
          clear o5 k5 T4 K4
          obtain ⟨a5, c5, rfl, _⟩ := id S5.out
          go_wp2_with fail
          refine (ref_Frames (Lib.hid (h.out.below K5.out)) (Lib.hid (by have := HF.out.frames; omega)) (by have := HF.out.len; have := HL.out; omega)).mono ?_
          rintro e w6 ⟨rfl, k6⟩
          have K6 := Lib.hid (K5.out.trans (k6.mono K5.out.size))
          have T6 := Lib.hid (T5.out.below k6)
          have S6 := Lib.hid (S5.out.below k6)
          clear k6 T5 S5 K5
          go_wp2_with fail
          refine (ref_Same T6.out S6.out hcount).mono ?_
          rintro e w7 ⟨rfl, k7⟩
          have K7 := Lib.hid (K6.out.trans (k7.mono K6.out.size))
          clear k7
          go_wp2_with fail
          go_ret
          exact ⟨rfl, K7.out⟩
    · have hq3' : (30000 : Int) < (q : Int) := by omega
      go_wp2_with fail
      refine (stop w1 K1).mono ?_
      rintro e w3 ⟨rfl, k3⟩
      go_wp2
      go_ret
      exact ⟨rfl, k3⟩
end Go.Proofs.Ytkelcmncjhnbgaa
