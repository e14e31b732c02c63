/- The laws' own first look: answers that the document fixes. -/
import Derived.Test.YtmpmkjanpnolaaaPuts
set_option linter.unusedVariables false
namespace Go.Proofs.Ytmpmkjanpnolaaa
open Go.RowKit

theorem awake_take : takeE (bs [0, 0, 0, 1]).data.toList = 4 := by decide +kernel
theorem awake_sum : sumL (joined [bs [49, 50, 51, 52], bs [53, 54, 55, 56, 57]]) = 3808858755 := by decide +kernel
theorem awake_put : (bs []).data.toList ++ four (sumL (bs []).data.toList) = [0, 0, 0, 0] := by decide +kernel
theorem awake_same : (bs [0, 0, 0, 0]).toList = [0, 0, 0, 0] := by rw [Lib.toList_data, bs_list]

set_option maxHeartbeats 400000 in
theorem law_awake (w : World) : Calls Try.prog 7 #[] w fun e w' => e = .returned (.bool true) ∧ Below w.heap.size w w' := by
  go_enter Try.func7, Try.ntmps7
  go_wp2_with fail
  refine (crc_Take (bs [0, 0, 0, 1]) w (by decide)).mono ?_
  rintro e w1 ⟨rfl, k1⟩
  rw [awake_take]
  have hrow := row_new w1 [bs [49, 50, 51, 52], bs [53, 54, 55, 56, 57]] 9
  go_wp2_with fail
  refine (crc_Sum (some ⟨w1.heap.size, 0, none⟩) w1.heap.size 0 2 2 [bs [49, 50, 51, 52], bs [53, 54, 55, 56, 57]] _ (Lib.hid rfl) (by omega) (Lib.hid hrow) (Lib.hid (by simp [bs_size])) (Lib.hid (.inr rfl))).mono ?_
  rintro e w2 ⟨rfl, rfl⟩
  rw [awake_sum]
  go_wp2_with fail
  refine (crc_Put (bs []) _ (by decide)).mono ?_
  rintro e w3 ⟨rfl, k3⟩
  rw [awake_put]
  have hs := awake_same
  go_wp2_with fail
  go_ret
  exact ⟨rfl, (k1.alloc k1.size _).trans (k3.mono (by simp; have := k1.size; omega))⟩
end Go.Proofs.Ytmpmkjanpnolaaa
