/- A byte turned in bytes that have their sum behind them: the sum tells it. -/
import Derived.Test.YtmmdhmhcfpghfaaCrcPlain
set_option linter.unusedVariables false
set_option maxRecDepth 100000
set_option maxRecDepth 100000
namespace Go.Proofs.Ytmmdhmhcfpghfaa

theorem turned_byte {B : List UInt8} {j : Nat} {c : UInt8} (hj : j < B.length + 4) (hc : c ≠ (B ++ four (sumL B)).getD j 0) :
    ((B ++ four (sumL B)).set j c).drop B.length ≠ four (sumL (((B ++ four (sumL B)).set j c).take B.length)) := by
  rcases Nat.lt_or_ge j B.length with h | h
  · have e : (B ++ four (sumL B)).set j c = B.set j c ++ four (sumL B) := List.set_append_left _ _ h
    have hl : (B.set j c).length = B.length := List.length_set
    rw [e]
    have e1 : (B.set j c ++ four (sumL B)).drop B.length = four (sumL B) := by rw [← hl]; exact List.drop_left
    have e2 : (B.set j c ++ four (sumL B)).take B.length = B.set j c := by rw [← hl]; exact List.take_left
    rw [e1, e2]
    intro he
    have hs := four_inj (sumL_lt _) (sumL_lt _) he
    have hb : B = B.set j c := burst hl.symm (8 * j) (fun i hi hij => by
      have hne : j ≠ i / 8 := by omega
      simp only [bitL, List.getD_eq_getElem?_getD, List.getElem?_set_ne hne]) hs
    apply hc
    have : (B.set j c)[j]? = some c := by simp [h]
    rw [List.getD_eq_getElem?_getD, List.getElem?_append_left h, hb, this]
    rfl
  · have e : (B ++ four (sumL B)).set j c = B ++ (four (sumL B)).set (j - B.length) c := List.set_append_right _ _ h
    rw [e, List.drop_left, List.take_left]
    intro he
    apply hc
    have h4 : j - B.length < (four (sumL B)).length := by rw [four_len]; omega
    have : ((four (sumL B)).set (j - B.length) c)[j - B.length]? = some c := by simp [h4]
    rw [List.getD_eq_getElem?_getD, List.getElem?_append_right h, ← he, this]
    rfl
end Go.Proofs.Ytmmdhmhcfpghfaa
