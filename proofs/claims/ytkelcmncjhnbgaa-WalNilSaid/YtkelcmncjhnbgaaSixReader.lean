/- The reader of package six: what each of its methods hands back, and where it stands behind the call. -/
import Derived.Test.YtkelcmncjhnbgaaSixRefs
import Derived.Laws.BitsAllLaws
set_option linter.unusedVariables false
set_option maxRecDepth 100000
namespace Go.Proofs.Ytkelcmncjhnbgaa
open Go.RowKit

namespace Only
variable {S S' : Nat → Prop} {a b c w : World}
end Only

/-- In block r there is a reader that stands ahead of the bytes s. -/
def Rt (r : Nat) (s : ByteArray) (w : World) : Prop := w.heap[r]? = some (.cells #[.string s] 125 (0, 0))

theorem Rt.cell {r : Nat} {s : ByteArray} {w : World} (h : Rt r s w) : w.cell? ⟨r, 0, none⟩ = some (.string s) := by unfold Rt at h; simp [World.cell?, h]
theorem Rt.free {r : Nat} {s : ByteArray} {w : World} (h : Rt r s w) : w.frozen? ⟨r, 0, none⟩ = false := by unfold Rt at h; simp [World.frozen?, h]
theorem Rt.lt {r : Nat} {s : ByteArray} {w : World} (h : Rt r s w) : r < w.heap.size := by
  rcases Nat.lt_or_ge r w.heap.size with h' | h'
  · exact h'
  · unfold Rt at h; simp [Array.getElem?_eq_none h'] at h
theorem Rt.put {r : Nat} {s : ByteArray} {w : World} (h : Rt r s w) (t : ByteArray) : Rt r t (w.setCell ⟨r, 0, none⟩ (.string t)) := by
  unfold Rt at h ⊢
  simp [World.setCell, Array.getElem?_modify, h]
theorem Rt.kept {r : Nat} {s : ByteArray} {w w' : World} {S : Nat → Prop} (h : Rt r s w) (k : Only S w w') (hS : ¬ S r) : Rt r s w' := by
  have := k.block r h.lt hS
  unfold Rt at h ⊢
  rw [this, h]

theorem six_Over (s : ByteArray) (w : World) : Calls Try.prog 56 #[.string s] w fun e w' => e = .returned (.pointer (some ⟨w.heap.size, 0, none⟩)) ∧ w.alloc (.cells #[.string s] 125) = w' := by
  go_enter Try.func56, Try.ntmps56
  go_wp2
  go_ret
  exact ⟨rfl, rfl⟩

theorem six_Rest (r : Nat) (s : ByteArray) (w : World) (h : Rt r s w) : Calls Try.prog 59 #[.pointer (some ⟨r, 0, none⟩)] w fun e w' => e = .returned (.string s) ∧ w = w' := by
  have c0 := h.cell
  go_enter Try.func59, Try.ntmps59
  go_wp2
  go_ret
  exact ⟨rfl, rfl⟩
theorem six_Rest_nil (w : World) : Calls Try.prog 59 #[.pointer none] w fun e w' => e = .returned (.string ⟨#[]⟩) ∧ w = w' := by
  go_enter Try.func59, Try.ntmps59
  go_wp2
  go_ret
  exact ⟨rfl, rfl⟩
/-- Whether bytes are left. -/
def endE (l : List UInt8) : Int := if l = [] then 0 else 5
theorem ret1 {k : IntKind} {a a' : Int} (h1 : a' = a) : Ending.returned (.int k a) = Ending.returned (.int k a') := by rw [h1]
theorem ret2 {k m : IntKind} {a b a' b' : Int} (h1 : a' = a) (h2 : b' = b) : Ending.returned (.tuple #[.int k a, .int m b]) = Ending.returned (.tuple #[.int k a', .int m b']) := by rw [h1, h2]
theorem six_ReadWhole_nil (w : World) : Calls Try.prog 78 #[.pointer none] w fun e w' => e = .returned (.tuple #[.int .i64 0, .int .i64 1]) ∧ w = w' := by
  go_enter Try.func78, Try.ntmps78
  go_wp2
  go_ret2
  exact ⟨rfl, rfl⟩

/-- What a call of a reader leaves: an answer, the place, and all else as it was. -/
def Rd (r : Nat) (s : ByteArray) (a b : Value) (w : World) (e : Ending) (w' : World) : Prop := e = .returned (.tuple #[a, b]) ∧ Rt r s w' ∧ Only (fun k => k = r) w w'

theorem rest0 (s : ByteArray) : s.extract 0 s.size = s := by
  have h := extract_rest s 0
  rw [List.drop_zero] at h
  obtain ⟨⟨x⟩⟩ := s
  exact bs_eq h

theorem or_join (y c : Nat) (hy : y ≤ 144115188075855871) (hc : c < 64) : bits .or .i64 ((y : Int) * 64) (c : Int) = ((64 * y + c : Nat) : Int) := by
  have hj : y * 64 ||| c = y * 64 + c := nat_join 6 (y * 64) c (by omega) (by omega)
  rw [show ((y : Int) * 64) = ((y * 64 : Nat) : Int) by omega]
  show IntKind.i64.wrap ((BitVec.ofInt 64 ((y * 64 : Nat) : Int) ||| BitVec.ofInt 64 (c : Int)).toNat : Int) = _
  rw [BitVec.toNat_or, ofInt_u64 _ (by omega), ofInt_u64 _ (by omega), hj]
  rw [IntWalk.i64_in _ (by omega)]
  omega
theorem and128_lo (c : Nat) (hc : c < 128) : bits .and .u8 (c : Int) 128 = 0 := by
  have h := u8_and_nat c 128 (by omega) (by omega)
  rw [show (128 : Nat) = 2 ^ 7 from rfl, nat_bit 7 c, show c / 2 ^ 7 = 0 by omega] at h
  simpa using h
theorem and128_hi (c : Nat) (h1 : 128 ≤ c) (h2 : c < 256) : bits .and .u8 (c : Int) 128 = 128 := by
  have h := u8_and_nat c 128 (by omega) (by omega)
  rw [show (128 : Nat) = 2 ^ 7 from rfl, nat_bit 7 c, show c / 2 ^ 7 = 1 by omega] at h
  simpa using h

theorem rd_none {r : Nat} {s : ByteArray} {w : World} {a b : Int} (h : Rt r s w) (e1 : rn s.data.toList = a) (e2 : rk s.data.toList = 0) (e3 : re s.data.toList = b) :
    Rd r (s.extract (rk s.data.toList) s.size) (.int .i64 (rn s.data.toList)) (.int .i64 (re s.data.toList)) w (.returned (.tuple #[.int .i64 a, .int .i64 b])) w :=
  ⟨ret2 e1 e3, by rw [e2, rest0]; exact h, Only.refl _ _⟩

theorem rd_some {r : Nat} {s : ByteArray} {w : World} {a : Int} {k : Nat} (h : Rt r s w) (e1 : rn s.data.toList = a) (e2 : rk s.data.toList = k) (e3 : re s.data.toList = 0) :
    Rd r (s.extract (rk s.data.toList) s.size) (.int .i64 (rn s.data.toList)) (.int .i64 (re s.data.toList)) w (.returned (.tuple #[.int .i64 a, .int .i64 0])) (w.setCell ⟨r, 0, none⟩ (.string (s.extract k s.size))) :=
  ⟨ret2 e1 e3, by rw [e2]; exact h.put _, (Only.refl (fun k => k = r) w).setCell (p := ⟨r, 0, none⟩) (.inl rfl) _⟩

set_option maxHeartbeats 400000 in
theorem six_ReadWhole (r : Nat) (s : ByteArray) (w : World) (h : Rt r s w) (hs : s.size ≤ maxLen) :
    Calls Try.prog 78 #[.pointer (some ⟨r, 0, none⟩)] w (Rd r (s.extract (rk s.data.toList) s.size) (.int .i64 (rn s.data.toList)) (.int .i64 (re s.data.toList)) w) := by
  unfold maxLen at hs
  have c0 := h.cell
  have f0 := h.free
  have HH := Lib.hid h
  clear h
  go_enter Try.func78, Try.ntmps78
  go_wp2_with fail
  go_loop [4, 14] (fun x i => ∃ k y : Nat, k ≤ s.size ∧ y ≤ 9223372036854775807 ∧ i = .int .i64 k ∧ x = .int .i64 y ∧ At s.data.toList k y) (fun _ i => s.size - (intOf i).toNat)
  case atStart => exact ⟨0, 0, Nat.zero_le _, by omega, rfl, rfl, at_zero _⟩
  case round =>
    obtain ⟨k, y, hk, hy, rfl, rfl, HR⟩ := hrel
    by_cases hlt : k < s.size
    · have HD := Lib.hid (drop_at s k hlt)
      obtain ⟨hc0, hc1⟩ := byte_le s k hlt
      go_upto_region 8 with (fail)
      generalize s[k] = b at *
      by_cases h1 : 191 < ((b.toNat : Nat) : Int)
      · go_wp2
        go_ret2
        obtain ⟨e1, e2, e3⟩ := at_bad HR HD.out (by omega)
        exact rd_none HH.out e1 e2 e3
      · by_cases h0 : b = 0
        · subst h0
          clear hc0 hc1 h1
          by_cases hk0 : k = 0
          · have hkb : (((k : Nat) : Int) == 0) = true := beq_iff_eq.2 (by omega)
            have HK := Lib.hid hk0
            clear hk0
            go_wp2
            go_ret2
            obtain ⟨e1, e2, e3⟩ := at_bad HR HD.out (.inr (.inl ⟨rfl, HK.out⟩))
            exact rd_none HH.out e1 e2 e3
          · have hkb : (((k : Nat) : Int) == 0) = false := beq_eq_false_iff_ne.2 (by omega)
            have HK := Lib.hid hk0
            clear hk0
            by_cases h2 : 144115188075855871 < (y : Int)
            · go_wp2
              go_ret2
              obtain ⟨e1, e2, e3⟩ := at_bad HR HD.out (by omega)
              exact rd_none HH.out e1 e2 e3
            · have hor : bits .or .i64 ((y : Int) * 64) 0 = ((64 * y : Nat) : Int) := by
                have := or_join y 0 (by omega) (by omega)
                simpa using this
              obtain ⟨z, hz⟩ : ∃ z : Nat, z = 64 * y := ⟨_, rfl⟩
              have hz1 : z ≤ 9223372036854775807 := by omega
              rw [← hz] at hor
              have HZ := Lib.hid hz
              clear hz
              go_wp2
              go_round
              case rel => exact ⟨k + 1, z, by omega, by omega, by go_num, rfl, by rw [HZ.out]; exact at_next HR HD.out (by have := HK.out; have : (0 : UInt8).toNat = 0 := rfl; omega) (by decide)⟩
              case measure => simp [intOf]; omega
        · have h0' : b.toNat ≠ 0 := fun h => h0 (UInt8.toNat_inj.1 (by simpa using h))
          have hb : (((b.toNat : Nat) : Int) == 0) = false := beq_eq_false_iff_ne.2 (by omega)
          have H0 := Lib.hid h0'
          clear h0 h0'
          by_cases h2 : 144115188075855871 < (y : Int)
          · rcases Bool.eq_false_or_eq_true ((k : Int) == 0) with hkb | hkb
            all_goals go_wp2
            all_goals go_ret2
            all_goals obtain ⟨e1, e2, e3⟩ := at_bad HR HD.out (by omega)
            all_goals exact rd_none HH.out e1 e2 e3
          · have hN : ¬ (192 ≤ b.toNat ∨ (b.toNat = 0 ∧ k = 0) ∨ 144115188075855871 < y) := by have := H0.out; omega
            have HN := Lib.hid hN
            clear hN
            obtain ⟨z, hz⟩ : ∃ z : Nat, z = 64 * y + b.toNat % 64 := ⟨_, rfl⟩
            have hor : bits .or .i64 ((y : Int) * 64) ((b.toNat : Int) % 64) = (z : Int) := by
              rw [hz, show ((b.toNat : Int) % 64) = ((b.toNat % 64 : Nat) : Int) by omega]
              exact or_join y _ (by omega) (by omega)
            have hz1 : z ≤ 9223372036854775807 := by omega
            have HZ := Lib.hid hz
            clear hz
            by_cases h3 : ((b.toNat : Nat) : Int) ≤ 63
            · rcases Bool.eq_false_or_eq_true ((k : Int) == 0) with hkb | hkb
              all_goals go_wp2
              all_goals go_round
              all_goals first | (case rel => exact ⟨k + 1, z, by omega, by omega, by go_num, rfl, by rw [HZ.out]; exact at_next HR HD.out HN.out (by omega)⟩) | skip
              all_goals (simp [intOf]; omega)
            · by_cases h4 : 128 ≤ ((b.toNat : Nat) : Int)
              · have hand : bits .and .u8 (b.toNat : Int) 128 = 128 := and128_hi _ (by omega) b.toNat_lt
                rcases Bool.eq_false_or_eq_true ((k : Int) == 0) with hkb | hkb
                all_goals go_wp2
                all_goals go_ret2
                all_goals obtain ⟨e1, e2, e3⟩ := at_low HR HD.out HN.out (by omega)
                all_goals exact rd_some HH.out (by rw [e1, HZ.out]) e2 e3
              · have hand : bits .and .u8 (b.toNat : Int) 128 = 0 := and128_lo _ (by omega)
                rcases Bool.eq_false_or_eq_true ((k : Int) == 0) with hkb | hkb
                all_goals go_wp2
                all_goals go_ret2
                all_goals obtain ⟨e1, e2, e3⟩ := at_high HR HD.out HN.out (by omega) (by omega)
                all_goals exact rd_some HH.out (by rw [e1, HZ.out]) e2 e3
    · go_wp2
      go_ret2
      obtain ⟨e1, e2, e3⟩ := at_end HR (by simp; omega)
      exact rd_none HH.out e1 e2 e3

theorem six_ReadCount_nil (w : World) : Calls Try.prog 72 #[.pointer none] w fun e w' => e = .returned (.tuple #[.int .i64 0, .int .i64 1]) ∧ w = w' := by
  go_enter Try.func72, Try.ntmps72
  go_wp2
  go_ret2
  exact ⟨rfl, rfl⟩

set_option maxHeartbeats 400000 in
theorem six_ReadCount (r : Nat) (s : ByteArray) (w : World) (h : Rt r s w) (hs : s.size ≤ maxLen) :
    Calls Try.prog 72 #[.pointer (some ⟨r, 0, none⟩)] w (Rd r (s.extract (ck s.data.toList) s.size) (.int .i64 (cn s.data.toList)) (.int .i64 (ce s.data.toList)) w) := by
  have c0 := h.cell
  have HH := Lib.hid h
  have HS := Lib.hid hs
  clear h hs
  have HC := Lib.hid (rd_cases s.data.toList)
  by_cases h0 : re s.data.toList = 0
  · have hb : (re s.data.toList == 0) = true := beq_iff_eq.2 h0
    have H0 := Lib.hid h0
    clear h0
    by_cases h1 : rn s.data.toList < 0
    · go_enter Try.func72, Try.ntmps72
      go_wp2_with fail
      refine (six_ReadWhole r s w HH.out HS.out).mono ?_
      rintro e w1 ⟨rfl, h2, k2⟩
      have c1 := h2.cell
      have f1 := h2.free
      have H2 := Lib.hid h2
      have K2 := Lib.hid k2
      clear h2 k2
      go_wp2
      go_ret2
      have h2 : re s.data.toList = 0 ∧ rn s.data.toList < 0 := ⟨H0.out, h1⟩
      refine ⟨ret2 (by unfold cn; rw [if_pos h2]) (by unfold ce; rw [if_pos h2]), ?_, (K2.out).setCell (p := ⟨r, 0, none⟩) (.inl rfl) _⟩
      unfold ck; rw [if_pos h2, rest0]
      exact H2.out.put s
    · go_enter Try.func72, Try.ntmps72
      go_wp2_with fail
      refine (six_ReadWhole r s w HH.out HS.out).mono ?_
      rintro e w1 ⟨rfl, h2, k2⟩
      have H2 := Lib.hid h2
      have K2 := Lib.hid k2
      clear h2 k2
      go_wp2
      go_ret2
      have h2 : ¬ (re s.data.toList = 0 ∧ rn s.data.toList < 0) := by omega
      refine ⟨ret2 (by unfold cn; rw [if_neg h2]) (by unfold ce; rw [if_neg h2, H0.out]), ?_, K2.out⟩
      unfold ck; rw [if_neg h2]
      exact H2.out
  · have hb : (re s.data.toList == 0) = false := beq_eq_false_iff_ne.2 h0
    have H0 := Lib.hid h0
    clear h0
    go_enter Try.func72, Try.ntmps72
    go_wp2_with fail
    refine (six_ReadWhole r s w HH.out HS.out).mono ?_
    rintro e w1 ⟨rfl, h2, k2⟩
    have H2 := Lib.hid h2
    have K2 := Lib.hid k2
    clear h2 k2
    go_wp2
    go_ret2
    have h2 : ¬ (re s.data.toList = 0 ∧ rn s.data.toList < 0) := fun h => H0.out h.1
    have hz : rn s.data.toList = 0 := by rcases HC.out with h | h; (exact absurd h.1 H0.out); (exact h.2.1)
    refine ⟨ret2 (by unfold cn; rw [if_neg h2, hz]) (by unfold ce; rw [if_neg h2]), ?_, K2.out⟩
    unfold ck; rw [if_neg h2]
    exact H2.out

theorem six_ReadRaw_nil (n : Int) (w : World) : Calls Try.prog 58 #[.pointer none, .int .i64 n] w fun e w' => e = .returned (.tuple #[.string ⟨#[]⟩, .int .i64 1]) ∧ w = w' := by
  go_enter Try.func58, Try.ntmps58
  go_wp2
  go_ret2
  exact ⟨rfl, rfl⟩

set_option maxHeartbeats 400000 in
theorem six_ReadRaw (r : Nat) (s : ByteArray) (n : Int) (w : World) (h : Rt r s w) (hs : s.size ≤ maxLen) (hn1 : -9223372036854775808 ≤ n) (hn2 : n ≤ 9223372036854775807) :
    Calls Try.prog 58 #[.pointer (some ⟨r, 0, none⟩), .int .i64 n] w (Rd r (s.extract (wk s.data.toList n) s.size) (.string (bs (ws s.data.toList n))) (.int .i64 (we s.data.toList n)) w) := by
  unfold maxLen at hs
  have HL := Lib.hid (show s.data.toList.length = s.size by rw [← Lib.size_eq])
  have c0 := h.cell
  have f0 := h.free
  have HH := Lib.hid h
  clear h
  by_cases h0 : n < 0
  · go_enter Try.func58, Try.ntmps58
    go_wp2
    go_ret2
    refine ⟨ret2s (by unfold ws; rw [if_pos (.inl h0)]; rfl) (by unfold we; rw [if_pos h0]), ?_, Only.refl _ _⟩
    unfold wk; rw [if_pos (.inl h0), rest0]; exact HH.out
  · obtain ⟨m, rfl⟩ : ∃ m : Nat, n = m := ⟨n.toNat, by omega⟩
    by_cases h1 : s.size < m
    · go_enter Try.func58, Try.ntmps58
      go_wp2
      go_ret2
      have h2 : (m : Int) < 0 ∨ (s.data.toList.length : Int) < m := .inr (by have := HL.out; omega)
      refine ⟨ret2s (by unfold ws; rw [if_pos h2]; rfl) (by unfold we; rw [if_neg (by omega), if_pos (by have := HL.out; omega)]), ?_, Only.refl _ _⟩
      unfold wk; rw [if_pos h2, rest0]; exact HH.out
    · go_enter Try.func58, Try.ntmps58
      go_wp2
      go_ret2
      have h2 : ¬ ((m : Int) < 0 ∨ (s.data.toList.length : Int) < m) := by have := HL.out; omega
      refine ⟨ret2s ?_ (by unfold we; rw [if_neg (by omega), if_neg (by have := HL.out; omega)]), ?_, (Only.refl (fun k => k = r) w).setCell (p := ⟨r, 0, none⟩) (.inl rfl) _⟩
      · unfold ws; rw [if_neg h2]
        exact (bs_eq (by rw [Lib.extract_data]; simp)).symm
      · unfold wk; rw [if_neg h2]
        exact HH.out.put _

end Go.Proofs.Ytkelcmncjhnbgaa
