/- Slices of strings that come in. -/
import Derived.Test.YtbiifdnicieamaaDoorBloomAwake
import Derived.Test.YtbiifdnicieamaaDoorShaLaid
import Derived.SliceStrings
import Derived.ChangeOld
import Derived.ShutString
import Derived.ChangeMaps5
import Derived.ProofKit
import Derived.OpenShut
set_option linter.unusedVariables false
namespace Go.Proofs.YtbiifdnicieamaaDoor
open Go.ChangeShapes Go.WideShapes Go.ChangeAt Go.RowKit

/-- What is known of a slice of strings that came in. -/
def Tx (W : World) (a : Option Addr) (len : Nat) (T : List ByteArray) : Prop := IsTexts W a len T ∧ len ≤ 9223372036854775807 ∧ ∀ t ∈ T, t.size ≤ 9223372036854775807
theorem open_tx {H : Type} {enc : TypeId × Value → H} {W : World} {d : DataW H} {p : List MemPlace} {a : Option Addr} {len cap : Nat} (h : DataW.Trod enc Tryd.prog W 0 (fun _ => true) true 22 (.slice a len cap) d p) : ∃ T, Tx W a len T := by
  obtain ⟨fuel, hf⟩ := h
  rcases open_strings Tryd.underlying22 Tryd.underlying9 (by kernel_rfl) hf with ⟨hcs, _⟩ | ⟨x, l, c, ss, hcs, _, hl, hm, hz, hx, hcell, hws⟩
  · simp [Value.cells] at hcs
    obtain ⟨rfl, rfl, rfl⟩ := hcs
    exact ⟨[], ⟨rfl, 0, 0, .inl rfl, fun k hk => absurd hk (by simp)⟩, by omega, fun t ht => by cases ht⟩
  · simp [Value.cells] at hcs
    obtain ⟨rfl, rfl, rfl⟩ := hcs
    have hz' : ss.length = cap := by simpa using hz
    have hm' : cap ≤ 9223372036854775807 := hm
    exact ⟨ss.take len, texts_is hl hz' hcell, by omega, fun t ht => hws t (List.mem_of_mem_take ht)⟩
end Go.Proofs.YtbiifdnicieamaaDoor
