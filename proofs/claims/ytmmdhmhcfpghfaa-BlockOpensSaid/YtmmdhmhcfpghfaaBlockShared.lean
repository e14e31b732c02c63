/- How many bytes two texts begin with alike: the program's and the document's. -/
import Derived.Test.YtmmdhmhcfpghfaaBlockRow
import Derived.Test.YtmmdhmhcfpghfaaSixReader
set_option linter.unusedVariables false
set_option maxRecDepth 100000
namespace Go.Proofs.Ytmmdhmhcfpghfaa
open Go.RowKit

/-- The byte at a place. -/
theorem byte_of {l : List UInt8} {n : Nat} (h : n < l.length) : ∃ x, l[n]? = some x := ⟨_, List.getElem?_eq_getElem h⟩
theorem get_bs (l : List UInt8) (n : Nat) (h : n < (bs l).size) : ∃ x : UInt8, l[n]? = some x ∧ (bs l)[n] = x := by
  have hl : n < l.length := by rw [← bs_size]; exact h
  exact ⟨l[n], List.getElem?_eq_getElem hl, rfl⟩
set_option maxHeartbeats 1000000 in
theorem block_shared (l m : List UInt8) (w : World) (hl : l.length ≤ 9223372036854775807) (hm : m.length ≤ 9223372036854775807) :
    Calls Try.prog 42 #[.string (bs l), .string (bs m)] w fun e w' => e = .returned (.int .i64 (sharedL l m : Int)) ∧ Below w.heap.size w w' := by
  have z1 : (bs l).size = l.length := bs_size _
  have z2 : (bs m).size = m.length := bs_size _
  go_enter Try.func42, Try.ntmps42
  go_wp2_with fail
  go_loopw [5] (fun vi wr => ∃ i : Nat, i ≤ l.length ∧ i ≤ m.length ∧ vi = .int .i64 i ∧ Hid (∀ j, j < i → l[j]? = m[j]?) ∧ Hid (Below w.heap.size w wr)) (fun vi wr => l.length - (intOf vi).toNat)
  case atStart => exact ⟨0, by omega, by omega, rfl, Lib.hid (fun j hj => absurd hj (by omega)), Lib.hid (Below.refl _ _)⟩
  case round =>
    obtain ⟨i, hi1, hi2, rfl, hs, hB⟩ := hrel
    by_cases h1 : i < l.length
    · by_cases h2 : i < m.length
      · obtain ⟨x, hx, hbx⟩ := get_bs l i (by rw [z1]; exact h1)
        obtain ⟨y, hy, hby⟩ := get_bs m i (by rw [z2]; exact h2)
        by_cases hxy : x = y
        · have hb : ((x.toNat : Int) == (y.toNat : Int)) = true := by rw [hxy]; exact beq_iff_eq.2 rfl
          have HS := Lib.hid (show ∀ j, j < i + 1 → l[j]? = m[j]? from fun j hj => by
            by_cases e : j < i
            · exact hs.out j e
            · obtain rfl : j = i := by omega
              rw [hx, hy, hxy])
          clear hx hy hxy
          go_wp2_with fail
          go_quiet (fail)
          go_wp2_with fail
          go_roundw
          case rel => exact ⟨i + 1, by omega, by omega, by go_num, HS, Lib.hid (below_drewN hB.out _)⟩
          case measure => simp [intOf]; omega
        · have hb : ((x.toNat : Int) == (y.toNat : Int)) = false := beq_eq_false_iff_ne.2 fun e => hxy (UInt8.toNat_inj.1 (by omega))
          have HR := Lib.hid (shared_stop l m i x y hs.out hx hy hxy)
          clear hx hy hxy
          go_wp2_with fail
          go_quiet (fail)
          go_wp2_with fail
          go_ret
          exact ⟨ret1 (by rw [HR.out]), below_drewN hB.out _⟩
      · have HR := Lib.hid (shared_end l m i hs.out (.inr ⟨by omega, hi1⟩))
        have h2' : decide ((i : Int) < (m.length : Int)) = false := decide_eq_false (by omega)
        go_wp2_with fail
        go_quiet (fail)
        go_wp2_with fail
        go_ret
        exact ⟨ret1 (by rw [HR.out]), below_drewN hB.out _⟩
    · have HR := Lib.hid (shared_end l m i hs.out (.inl ⟨by omega, hi2⟩))
      have h1' : decide ((i : Int) < (l.length : Int)) = false := decide_eq_false (by omega)
      go_wp2_with fail
      go_quiet (fail)
      go_wp2_with fail
      go_ret
      exact ⟨ret1 (by rw [HR.out]), below_drewN hB.out _⟩
set_option maxHeartbeats 1000000 in
theorem ref_Shared (l m : List UInt8) (w : World) (hl : l.length ≤ 9223372036854775807) (hm : m.length ≤ 9223372036854775807) :
    Calls Try.prog 25 #[.string (bs l), .string (bs m)] w fun e w' => e = .returned (.int .i64 (sharedL l m : Int)) ∧ Below w.heap.size w w' := by
  have z1 : (bs l).size = l.length := bs_size _
  have z2 : (bs m).size = m.length := bs_size _
  go_enter Try.func25, Try.ntmps25
  go_wp2_with fail
  go_loopw [5] (fun vi wr => ∃ i : Nat, i ≤ l.length ∧ i ≤ m.length ∧ vi = .int .i64 i ∧ Hid (∀ j, j < i → l[j]? = m[j]?) ∧ Hid (Below w.heap.size w wr)) (fun vi wr => l.length - (intOf vi).toNat)
  case atStart => exact ⟨0, by omega, by omega, rfl, Lib.hid (fun j hj => absurd hj (by omega)), Lib.hid (Below.refl _ _)⟩
  case round =>
    obtain ⟨i, hi1, hi2, rfl, hs, hB⟩ := hrel
    by_cases h1 : i < l.length
    · by_cases h2 : i < m.length
      · obtain ⟨x, hx, hbx⟩ := get_bs l i (by rw [z1]; exact h1)
        obtain ⟨y, hy, hby⟩ := get_bs m i (by rw [z2]; exact h2)
        by_cases hxy : x = y
        · have hb : ((x.toNat : Int) == (y.toNat : Int)) = true := by rw [hxy]; exact beq_iff_eq.2 rfl
          have HS := Lib.hid (show ∀ j, j < i + 1 → l[j]? = m[j]? from fun j hj => by
            by_cases e : j < i
            · exact hs.out j e
            · obtain rfl : j = i := by omega
              rw [hx, hy, hxy])
          clear hx hy hxy
          go_wp2_with fail
          go_quiet (fail)
          go_wp2_with fail
          go_roundw
          case rel => exact ⟨i + 1, by omega, by omega, by go_num, HS, Lib.hid (below_drewN hB.out _)⟩
          case measure => simp [intOf]; omega
        · have hb : ((x.toNat : Int) == (y.toNat : Int)) = false := beq_eq_false_iff_ne.2 fun e => hxy (UInt8.toNat_inj.1 (by omega))
          have HR := Lib.hid (shared_stop l m i x y hs.out hx hy hxy)
          clear hx hy hxy
          go_wp2_with fail
          go_quiet (fail)
          go_wp2_with fail
          go_ret
          exact ⟨ret1 (by rw [HR.out]), below_drewN hB.out _⟩
      · have HR := Lib.hid (shared_end l m i hs.out (.inr ⟨by omega, hi1⟩))
        have h2' : decide ((i : Int) < (m.length : Int)) = false := decide_eq_false (by omega)
        obtain rfl : i = m.length := by omega
        have hml : ¬ l.length < m.length := by omega
        go_wp2_with fail
        go_ret
        exact ⟨ret1 (by rw [HR.out]), hB.out⟩
    · have HR := Lib.hid (shared_end l m i hs.out (.inl ⟨by omega, hi2⟩))
      have h1' : decide ((i : Int) < (l.length : Int)) = false := decide_eq_false (by omega)
      by_cases hlt : l.length < m.length
      · have H := Lib.hid (show (sharedL l m : Int) = l.length by rw [HR.out]; omega)
        go_wp2_with fail
        go_ret
        exact ⟨ret1 H.out, hB.out⟩
      · have H := Lib.hid (show (sharedL l m : Int) = m.length by rw [HR.out]; omega)
        go_wp2_with fail
        go_ret
        exact ⟨ret1 H.out, hB.out⟩
end Go.Proofs.Ytmmdhmhcfpghfaa
