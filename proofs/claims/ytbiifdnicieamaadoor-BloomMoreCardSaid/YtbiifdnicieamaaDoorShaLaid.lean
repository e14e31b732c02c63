/- The round numbers that the program's variable holds: what each row lists, and the world in which its initialiser lays them. -/
import Derived.Test.YtbiifdnicieamaaDoorCards
import Derived.Test.YtbiifdnicieamaaDoorTie
import Derived.Test.YtbiifdnicieamaaDoorShaSum
import Derived.ProofKit
import Derived.OpenShut
import Derived.Deep.DeepHandedRow
import Derived.Lib.LaidTab
set_option linter.unusedVariables false
set_option maxRecDepth 100000
namespace Go.Proofs.YtbiifdnicieamaaDoor
open Go.ChangeShapes Go.WideShapes Go.ChangeAt Go.RowKit

theorem own : ownKnob Tryd.prog.godebug = none := by kernel_rfl
theorem gNum : Tryd.prog.globalNamed "silo/sha.roundNumbers" = some 0 := by kernel_rfl
theorem gNumType : (Tryd.prog.globals[0]?).map (·.type) = some 107 := by kernel_rfl
theorem arr64w : Tryd.prog.underlying 107 = some (.array 64 72) := by kernel_rfl
theorem cells64w : Tryd.prog.cellsOf 107 = 64 := by kernel_rfl
theorem cells1w : Tryd.prog.cellsOf 72 = 1 := by kernel_rfl
def numsI : List Int := [1116352408, 1899447441, 3049323471, 3921009573, 961987163, 1508970993, 2453635748, 2870763221, 3624381080, 310598401, 607225278, 1426881987, 1925078388, 2162078206, 2614888103, 3248222580, 3835390401, 4022224774, 264347078, 604807628, 770255983, 1249150122, 1555081692, 1996064986, 2554220882, 2821834349, 2952996808, 3210313671, 3336571891, 3584528711, 113926993, 338241895, 666307205, 773529912, 1294757372, 1396182291, 1695183700, 1986661051, 2177026350, 2456956037, 2730485921, 2820302411, 3259730800, 3345764771, 3516065817, 3600352804, 4094571909, 275423344, 430227734, 506948616, 659060556, 883997877, 958139571, 1322822218, 1537002063, 1747873779, 1955562222, 2024104815, 2227730452, 2361852424, 2428436474, 2756734187, 3204031479, 3329325298]
theorem numsI_at (j : Nat) (h : j < 64) : numsI.getD j 0 = ((numbers.getD j 0 : Nat) : Int) := by
  have : ∀ j, j < 64 → numsI.getD j 0 = ((numbers.getD j 0 : Nat) : Int) := by decide +kernel
  exact this j h

/-- WHAT THE ROWS' LIST GIVES. -/
theorem glob_of {W : World} (h : laidMetH Tryd.prog [("silo/sha.roundNumbers", Rows.laid_silo_sha_roundNumbers)] W) : Glob W := by
  have ht : Lib.TabIs Tryd.prog W "silo/sha.roundNumbers" .u32 numsI :=
    Lib.tabIs_of_head (rest := []) gNum gNumType arr64w Tryd.underlying72 cells1w cells64w h
  have hc : ∀ j, j < 64 → W.cell? ⟨0, j, none⟩ = some (.int .u32 ((numbers.getD j 0 : Nat) : Int)) := fun j hj => by
    have := ht.cell gNum j (by exact hj)
    rw [this, ← numsI_at j hj]
  refine ⟨World.block_lt_of_cell? W ⟨0, 0, none⟩ (hc 0 (by decide)), hc⟩

/-- A WORLD FOR THE WITNESS: the settled one, the variable (block 0) holding what its initialiser lays. -/
noncomputable def laidWorld (os : Os) : World :=
  { World.holding Tryd.prog os ⟨#[], #[], []⟩ with heap := (World.holding Tryd.prog os ⟨#[], #[], []⟩).heap.modify 0 fun
      | .cells _ t frozen => .cells (numsI.map fun z => Value.int .u32 z).toArray t frozen
      | o => o }

end Go.Proofs.YtbiifdnicieamaaDoor
