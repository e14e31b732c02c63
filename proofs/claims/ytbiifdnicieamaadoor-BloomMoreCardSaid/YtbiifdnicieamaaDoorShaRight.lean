/- Turning right as the program does it. -/
import Derived.Test.YtbiifdnicieamaaDoorShaPlain
import Derived.Test.YtbiifdnicieamaaDoorBase
set_option linter.unusedVariables false
set_option maxRecDepth 100000
namespace Go.Proofs.YtbiifdnicieamaaDoor
open Go.RowKit

/-- Turning right by so many places, as one sum. -/
theorem turn_or (x n : Nat) (hx : x < 4294967296) (h1 : 1 ≤ n) (h2 : n ≤ 31) : (x * 2 ^ (32 - n)) % 4294967296 ||| x / 2 ^ n = rotN n x := by
  rw [rotN_eq n (by omega) x hx]
  have hp : 2 ^ n * 2 ^ (32 - n) = 4294967296 := by rw [← Nat.pow_add, show n + (32 - n) = 32 by omega]
  have hq : 0 < 2 ^ n := Nat.two_pow_pos n
  have e1 : (x * 2 ^ (32 - n)) % 4294967296 = x % 2 ^ n * 2 ^ (32 - n) := by
    rw [← hp, Nat.mul_mod_mul_right]
  have hy : x / 2 ^ n < 2 ^ (32 - n) := by
    rw [Nat.div_lt_iff_lt_mul hq, Nat.mul_comm, hp]
    exact hx
  rw [e1, nat_join (32 - n) _ _ (Nat.mul_mod_left _ _) hy, Nat.add_comm]

theorem wrap_u64i (n : Int) : IntKind.u64.wrap n = n % 18446744073709551616 := by simp [IntKind.wrap, IntKind.bits, IntKind.signed]
theorem turn_bits (x n S : Nat) (hx : x < 4294967296) (h1 : 1 ≤ n) (h2 : n ≤ 31) (hS : S = 32 - n) : bits BinOp.or IntKind.u32 ((x : Int) * 2 ^ S % 4294967296) ((x : Int) / 2 ^ (32 - S)) = ((rotN n x : Nat) : Int) := by
  subst hS
  have e1 : (x : Int) * 2 ^ (32 - n) % 4294967296 = ((x * 2 ^ (32 - n) % 4294967296 : Nat) : Int) := by
    rw [Int.natCast_emod, Int.natCast_mul, Int.natCast_pow]
    rfl
  have e2 : (x : Int) / 2 ^ (32 - (32 - n)) = ((x / 2 ^ n : Nat) : Int) := by
    rw [show 32 - (32 - n) = n by omega, Int.natCast_ediv, Int.natCast_pow]
    rfl
  rw [e1, e2, u32_or_nat _ _ (Nat.mod_lt _ (by decide)) (Nat.lt_of_le_of_lt (Nat.div_le_self _ _) hx), turn_or x n hx h1 h2]
theorem turn_ret (x n S : Nat) (hx : x < 4294967296) (h1 : 1 ≤ n) (h2 : n ≤ 31) (hS : S = 32 - n) : Ending.returned (.int .u32 (bits BinOp.or IntKind.u32 ((x : Int) * 2 ^ S % 4294967296) ((x : Int) / 2 ^ (32 - S)))) = Ending.returned (.int .u32 ((rotN n x : Nat) : Int)) := by rw [turn_bits x n S hx h1 h2 hS]
theorem low5 (n : Nat) (h1 : 1 ≤ n) (h2 : n ≤ 31) : bits BinOp.and IntKind.u64 (IntKind.u64.wrap (-(n : Int))) 31 = ((32 - n : Nat) : Int) := by
  have hw : IntKind.u64.wrap (-(n : Int)) = ((18446744073709551616 - n : Nat) : Int) := by
    rw [wrap_u64i]
    omega
  rw [hw, show (31 : Int) = ((31 : Nat) : Int) from rfl, u64_and_nat _ _ (by omega) (by omega), nat_mask5]
  omega

set_option maxHeartbeats 400000 in
theorem bits_rotate (x n : Nat) (w : World) (hx : x < 4294967296) (h1 : 1 ≤ n) (h2 : n ≤ 31) :
    Calls Tryd.prog 64 #[.int .u32 x, .int .i64 (-(n : Int))] w fun e w' => e = .returned (.int .u32 (rotN n x)) ∧ w = w' := by
  have hl := low5 n h1 h2
  obtain ⟨S, hS⟩ : ∃ S, S = 32 - n := ⟨_, rfl⟩
  rw [← hS] at hl
  have hS1 : 1 ≤ S := by omega
  have hS2 : S ≤ 31 := by omega
  have HS := Lib.hid hS
  clear hS
  go_enter Tryd.func64, Tryd.ntmps64
  go_wp2_with fail
  go_ret
  exact ⟨turn_ret x n S hx h1 h2 HS.out, rfl⟩

set_option maxHeartbeats 400000 in
theorem sha_right (x n : Nat) (w : World) (hx : x < 4294967296) (h1 : 1 ≤ n) (h2 : n ≤ 31) :
    Calls Tryd.prog 62 #[.int .u32 x, .int .i64 n] w fun e w' => e = .returned (.int .u32 (rotN n x)) ∧ w = w' := by
  have hneg : IntKind.i64.wrap (-(n : Int)) = -(n : Int) := by rw [IntKind.wrap_i64]; omega
  go_enter Tryd.func62, Tryd.ntmps62
  go_wp2_with (go_at_call 64; refine (bits_rotate x n _ hx h1 h2).mono ?_; rintro e w' ⟨rfl, rfl⟩)
  go_ret
  exact ⟨rfl, rfl⟩
theorem quiet_right (x n : Nat) (w : World) (hx : x < 4294967296) (h1 : 1 ≤ n) (h2 : n ≤ 31) (m : Nat) : Calls Tryd.prog 62 #[.int .u32 x, .int .i64 n] (w.drewN m) fun e w'' => e = .returned (.int .u32 (rotN n x)) ∧ ∃ k, w'' = w.drewN k :=
  (sha_right x n (w.drewN m) hx h1 h2).mono fun _ _ ⟨h1, h2⟩ => ⟨h1, m, h2.symm⟩
end Go.Proofs.YtbiifdnicieamaaDoor
