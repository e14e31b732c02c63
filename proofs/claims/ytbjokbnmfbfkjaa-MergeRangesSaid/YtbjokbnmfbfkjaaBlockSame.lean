/- The laws' look whether entries are alike. -/
import Derived.Test.YtbjokbnmfbfkjaaBlockMem
import Derived.Laws.StructEq
set_option linter.unusedVariables false
set_option maxRecDepth 100000
set_option maxRecDepth 100000
namespace Go.Proofs.Ytbjokbnmfbfkjaa
open Go.RowKit

theorem ent_same (k v : ByteArray) (g : Bool) (w : World) : (binOp .neq 32 (.agg #[.string k, .string v, .bool g]) (.agg #[.string k, .string v, .bool g])).run Try.prog w = .ok (.bool false) w := by
  have u3 := Try.underlying9
  have a3 := Try.isAgg9
  have z3 := Try.sizeOf9
  have u4 := Try.underlying4
  have a4 := Try.isAgg4
  have z4 := Try.sizeOf4
  have hS : Try.prog.underlying 32 = some (.struct (Try.prog.fieldsOf 32)) := by kernel_rfl
  have hp : Try.prog.stoodInHeld 32 = false := by kernel_rfl
  rw [run_neq_struct, show (10000 : Nat) = 9999 + 1 from rfl, run_equalIn_agg w 9999 32 _ _ hS hp]
  simp only [Program.fieldsOf, Try.underlying32]
  go_simp
set_option maxHeartbeats 1000000 in
theorem ref_Same (a1 a2 : Option Addr) (len c1 c2 : Nat) (T : List Ent) (w : World) (h1 : Hid (IsE w a1 len T)) (h2 : Hid (IsE w a2 len T)) (hl : len ≤ 9223372036854775807) :
    Calls Try.prog 22 #[.slice a1 len c1, .slice a2 len c2] w fun e w' => e = .returned (.bool true) ∧ Below w.heap.size w w' := by
  go_enter Try.func22, Try.ntmps22
  go_wp2_with fail
  go_loopw [5] (fun vi wr => ∃ i : Nat, i ≤ len ∧ vi = .int .i64 i ∧ Hid (Below w.heap.size w wr)) (fun vi wr => len - (intOf vi).toNat)
  case atStart => exact ⟨0, by omega, rfl, Lib.hid (Below.refl _ _)⟩
  case round =>
    obtain ⟨i, hi, rfl, hB⟩ := hrel
    rcases Nat.lt_or_ge i len with hlt | hge
    · obtain ⟨b, off, x, rfl, hx, _, hc⟩ := (h1.out.below hB.out).at hlt
      obtain ⟨b2, off2, y, rfl, hy, _, hd⟩ := (h2.out.below hB.out).at hlt
      rw [hx] at hy
      injection hy with hy
      subst hy
      have c0 := hc.c0
      have c1 := hc.c1
      have c2 := hc.c2
      have d0 := hd.c0
      have d1 := hd.c1
      have d2 := hd.c2
      have hsame := ent_same (bs x.key) (bs x.val) x.gone
      generalize bs x.key = sk at *
      generalize bs x.val = sv at *
      generalize x.gone = sg at *
      clear hx hc hd
      go_wp2_with fail
      go_quiet (fail)
      go_wp2_with fail
      go_roundw
      case rel => exact ⟨i + 1, by omega, by go_num, Lib.hid (below_drewN hB.out _)⟩
      case measure => simp [intOf]; omega
    · obtain rfl : i = len := by omega
      go_wp2_with fail
      go_ret
      exact ⟨rfl, hB.out⟩
theorem ref_Same_nil (a1 : Option Addr) (len c1 : Nat) (w : World) (hl : len ≤ 9223372036854775807) : Calls Try.prog 22 #[.slice none 0 0, .slice none 0 0] w fun e w' => e = .returned (.bool true) ∧ Below w.heap.size w w' :=
  ref_Same none none 0 0 0 [] w (Lib.hid (IsE.nil _ _)) (Lib.hid (IsE.nil _ _)) (by omega)
end Go.Proofs.Ytbjokbnmfbfkjaa
