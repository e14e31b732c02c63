/- The laws' own looks: few keys; the document's example; the same filter. -/
import Derived.Test.YtbiifdnicieamaaDoorBloomPack
import Derived.Test.YtbiifdnicieamaaDoorBloomRefOpen
set_option linter.unusedVariables false
set_option maxRecDepth 100000
namespace Go.Proofs.YtbiifdnicieamaaDoor
open Go.RowKit

def fewGo : List ByteArray → Nat → Nat → Bool
  | [], _, n => decide (n ≤ 100000)
  | t :: T, i, n => if 2000 ≤ i ∨ 100000 < t.size ∨ 100000 < n then false else fewGo T (i + 1) (n + t.size)
def fewB (T : List ByteArray) : Bool := fewGo T 0 0
theorem fewGo_all : ∀ (T : List ByteArray) (i n : Nat), fewGo T i n = true → (T.length = 0 ∨ i + T.length ≤ 2000) ∧ ∀ t ∈ T, t.size ≤ 100000
  | [], i, n, _ => ⟨.inl rfl, fun t ht => by cases ht⟩
  | t :: T, i, n, h => by
    unfold fewGo at h
    split at h
    · cases h
    · rename_i h0
      obtain ⟨h1, h2⟩ := fewGo_all T (i + 1) (n + t.size) h
      refine ⟨.inr ?_, fun u hu => ?_⟩
      · simp only [List.length_cons]; omega
      · rcases List.mem_cons.1 hu with rfl | hu
        · omega
        · exact h2 u hu
theorem few_of {T : List ByteArray} (h : fewB T = true) : T.length ≤ 2000 ∧ ∀ t ∈ T, t.size ≤ 100000 := by
  obtain ⟨h1, h2⟩ := fewGo_all T 0 0 h
  exact ⟨by omega, h2⟩

set_option maxHeartbeats 1000000 in
theorem law_few (a : Option Addr) (kb koff len cap : Nat) (T : List ByteArray) (w : World) (hlen : Hid (len = T.length)) (hl : len ≤ 9223372036854775807) (hz : Hid (RowS kb koff T w)) (hab : Hid (len = 0 ∨ a = some ⟨kb, koff, none⟩)) (hs : Hid (∀ t ∈ T, t.size ≤ 9223372036854775807)) :
    Calls Tryd.prog 9 #[.slice a len cap] w fun e w' => e = .returned (.bool (fewB T)) ∧ w = w' := by
  go_enter Tryd.func9, Tryd.ntmps9
  go_wp2_with fail
  go_loop [3, 4] (fun v vi => ∃ i n : Nat, i ≤ len ∧ vi = .int .i64 i ∧ v = .int .i64 n ∧ Hid (fewGo (T.drop i) i n = fewB T) ∧ i ≤ 2000 ∧ n ≤ 200000 ∧ Hid (i < len ∨ i = len)) (fun v vi => len - (intOf vi).toNat)
  case atStart => exact ⟨0, 0, by omega, rfl, rfl, Lib.hid rfl, by omega, by omega, Lib.hid (by omega)⟩
  case round =>
    obtain ⟨i, n, hi, rfl, rfl, hgo, hi2, hn2, _⟩ := hrel
    rcases Nat.lt_or_ge i len with hlt | hge
    · have hiT : i < T.length := by rw [← hlen.out]; exact hlt
      have ha : a = some ⟨kb, koff, none⟩ := by rcases hab.out with h | h; (omega); (exact h)
      obtain ⟨t, ht⟩ : ∃ t, t = T.getD i ByteArray.empty := ⟨_, rfl⟩
      have htk : t = T[i] := by rw [ht, List.getD_eq_getElem?_getD, List.getElem?_eq_getElem hiT]; rfl
      have cS := (hz.out i hiT).2
      rw [← ht] at cS
      have hdr : T.drop i = t :: T.drop (i + 1) := by rw [htk]; exact List.drop_eq_getElem_cons hiT
      have hts : t.size ≤ 9223372036854775807 := hs.out t (by rw [htk]; exact List.getElem_mem hiT)
      have hst := hgo.out
      rw [hdr] at hst
      unfold fewGo at hst
      obtain ⟨z, hz0⟩ : ∃ z, z = t.size := ⟨_, rfl⟩
      rw [← hz0] at hst hts
      have hzt := hz0.symm
      have HST := Lib.hid hst
      subst ha
      clear ht htk hdr hst hz0
      by_cases h1 : 2000 ≤ i
      · have hres := Lib.hid (show fewB T = false by have := HST.out; rw [if_pos (.inl h1)] at this; exact this.symm)
        go_wp2_with fail
        go_ret
        exact ⟨by rw [hres.out]; rfl, rfl⟩
      · by_cases h2 : 100000 < z
        · have hres := Lib.hid (show fewB T = false by have := HST.out; rw [if_pos (.inr (.inl h2))] at this; exact this.symm)
          go_wp2_with fail
          go_ret
          exact ⟨by rw [hres.out]; rfl, rfl⟩
        · by_cases h3 : 100000 < n
          · have hres := Lib.hid (show fewB T = false by have := HST.out; rw [if_pos (.inr (.inr h3))] at this; exact this.symm)
            go_wp2_with fail
            go_ret
            exact ⟨by rw [hres.out]; rfl, rfl⟩
          · have hres := Lib.hid (show fewGo (T.drop (i + 1)) (i + 1) (n + z) = fewB T by have := HST.out; rw [if_neg (by omega)] at this; exact this)
            go_wp2_with fail
            go_roundw
            case rel => exact ⟨i + 1, n + z, by omega, by go_num, by go_num, hres, by omega, by omega, Lib.hid (by omega)⟩
            case measure => simp [intOf]; omega
    · obtain rfl : i = len := by omega
      have hres := Lib.hid (show fewB T = decide (n ≤ 100000) by
        have := hgo.out
        rw [List.drop_eq_nil_of_le (by rw [hlen.out]; exact Nat.le_refl _)] at this
        exact this.symm)
      go_wp2_with fail
      go_ret
      exact ⟨by rw [hres.out]; simp; omega, rfl⟩
end Go.Proofs.YtbiifdnicieamaaDoor
