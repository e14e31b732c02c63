/- Slices of strings that come in, of sizes that the row's own reach allows. -/
import Derived.Test.YtkelcmncjhnbgaaBase
import Derived.SizedLaws
import Derived.SliceStrings
import Derived.ChangeOld
import Derived.ShutString
import Derived.ChangeMaps5
import Derived.ProofKit
import Derived.OpenShut
set_option linter.unusedVariables false
namespace Go.Proofs.Ytkelcmncjhnbgaa
open Go.ChangeShapes Go.WideShapes Go.ChangeAt Go.RowKit

theorem weightsAll_mem {H : Type} {P : Program} {e : TypeId} : ∀ {l : List (DataW H)} {d : DataW H} {n : Nat}, d ∈ l → n ∈ d.weights P e → n ∈ DataW.weightsAll P e l
  | d0 :: l, d, n, hd, hn => by
    simp only [DataW.weightsAll, List.mem_append]
    rcases List.mem_cons.1 hd with rfl | hd
    · exact .inl hn
    · exact .inr (weightsAll_mem hd hn)
theorem open_txs {H : Type} {enc : TypeId × Value → H} {W : World} {d : DataW H} {p : List MemPlace} {a : Option Addr} {len cap : Nat} (h : DataW.Trod enc Try.prog W 0 (fun _ => true) true 22 (.slice a len cap) d p)
    (hz : ∀ n ∈ d.weights Try.prog 22, n ≤ reachBytes) : ∃ T, IsTexts W a len T ∧ len ≤ 9223372036854775807 ∧ ∀ t ∈ T, t.size ≤ 140737488351232 := by
  obtain ⟨fuel, hf⟩ := h
  rcases open_strings Try.underlying22 Try.underlying9 (by kernel_rfl) hf with ⟨hcs, _⟩ | ⟨x, l, c, ss, hcs, _, hl, hm, hzl, hx, hcell, hws⟩
  · simp [Value.cells] at hcs
    obtain ⟨rfl, rfl, rfl⟩ := hcs
    exact ⟨[], ⟨rfl, 0, 0, .inl rfl, fun k hk => absurd hk (by simp)⟩, by omega, fun t ht => by cases ht⟩
  · simp [Value.cells] at hcs
    obtain ⟨rfl, rfl, rfl⟩ := hcs
    have hz' : ss.length = cap := by simpa using hzl
    have hm' : cap ≤ 9223372036854775807 := hm
    injection hx with hx _
    subst hx
    refine ⟨ss.take len, texts_is hl hz' hcell, by omega, fun t ht => ?_⟩
    have h1 : t.data.toList.length ∈ DataW.weights Try.prog 22 (DataW.slice (strs (H := H) (ss.take len)) (strs (ss.drop len))) := by
      simp only [DataW.weights, Try.underlying22, List.mem_cons, List.mem_append]
      refine .inr (.inl (weightsAll_mem (d := .lit (.string t.data.toList)) ?_ (by simp [DataW.weights])))
      unfold strs
      exact List.mem_map.2 ⟨t, ht, rfl⟩
    have h2 := hz _ h1
    rw [show t.data.toList.length = t.size by rw [← Lib.size_eq]] at h2
    exact h2
end Go.Proofs.Ytkelcmncjhnbgaa
