/- Entries in memory; the laws' look at their size; why entries may not be packed. -/
import Derived.Test.YtbjokbnmfbfkjaaBlockOrder
import Derived.Test.YtbjokbnmfbfkjaaOnly
import Derived.RegionTactic
set_option linter.unusedVariables false
set_option maxRecDepth 100000
set_option maxRecDepth 100000
namespace Go.Proofs.Ytbjokbnmfbfkjaa
open Go.RowKit

instance : Inhabited Ent := ⟨⟨[], [], false⟩⟩
/-- In block b, from cell o on, there is an entry. -/
structure CellE (b o : Nat) (x : Ent) (w : World) : Prop where
  lt : b < w.heap.size
  c0 : w.cell? ⟨b, o, none⟩ = some (.string (bs x.key))
  c1 : w.cell? ⟨b, o + 1, none⟩ = some (.string (bs x.val))
  c2 : w.cell? ⟨b, o + 2, none⟩ = some (.bool x.gone)
theorem CellE.below {b o : Nat} {x : Ent} {w w' : World} (h : CellE b o x w) (k : Below w.heap.size w w') : CellE b o x w' :=
  ⟨Nat.lt_of_lt_of_le h.lt k.size, by rw [k.cell h.lt]; exact h.c0, by rw [k.cell h.lt]; exact h.c1, by rw [k.cell h.lt]; exact h.c2⟩
/-- A row of entries. -/
def RowE (b off : Nat) (T : List Ent) (w : World) : Prop := ∀ k (h : k < T.length), CellE b (off + k * 3) T[k] w
theorem below_drewN {B : Nat} {w w' : World} (h : Below B w w') (n : Nat) : Below B w (w'.drewN n) := ⟨h.os, h.tape, h.output, h.size, h.block⟩
theorem RowE.below {b off : Nat} {T : List Ent} {w w' : World} (h : RowE b off T w) (k : Below w.heap.size w w') : RowE b off T w' := fun i hi => (h i hi).below k
def Ent.vals (x : Ent) : List Value := [.string (bs x.key), .string (bs x.val), .bool x.gone]
def EV (x : Ent) : Value := .agg #[.string (bs x.key), .string (bs x.val), .bool x.gone]
/-- A slice of entries. -/
def IsE (w : World) (a : Option Addr) (len : Nat) (T : List Ent) : Prop := len = T.length ∧ ∃ b off, (len = 0 ∨ a = some ⟨b, off, none⟩) ∧ RowE b off T w
theorem IsE.below {w w' : World} {a : Option Addr} {len : Nat} {T : List Ent} (h : IsE w a len T) (k : Below w.heap.size w w') : IsE w' a len T := by
  obtain ⟨h1, b, off, h2, h3⟩ := h
  exact ⟨h1, b, off, h2, h3.below k⟩
theorem IsE.at {w : World} {a : Option Addr} {len : Nat} {T : List Ent} (h : IsE w a len T) {k : Nat} (hk : k < len) : ∃ b off x, a = some ⟨b, off, none⟩ ∧ T[k]? = some x ∧ T.drop k = x :: T.drop (k + 1) ∧ CellE b (off + k * 3) x w := by
  obtain ⟨h1, b, off, h2, h3⟩ := h
  have hkT : k < T.length := by omega
  refine ⟨b, off, T[k], h2.resolve_left (by omega), List.getElem?_eq_getElem hkT, List.drop_eq_getElem_cons hkT, h3 k hkT⟩
theorem IsE.nil (w : World) (a : Option Addr) : IsE w a 0 [] := ⟨rfl, 0, 0, .inl rfl, fun k hk => absurd hk (by simp)⟩

/-! ### The laws' look at the size -/
def fewGo : List Ent → Nat → Nat → Bool
  | [], _, n => decide (n ≤ 60000)
  | x :: T, i, n => if 60000 < x.key.length ∨ 60000 < x.val.length ∨ 3000 < i ∨ 60000 < n then false else fewGo T (i + 1) (n + x.key.length + x.val.length)
def fewB (T : List Ent) : Bool := fewGo T 0 0
theorem fewGo_all : ∀ (T : List Ent) (i n : Nat), fewGo T i n = true → (T.length = 0 ∨ i + T.length ≤ 3001) ∧ ∀ x ∈ T, x.key.length ≤ 60000 ∧ x.val.length ≤ 60000
  | [], i, n, _ => ⟨.inl rfl, fun t ht => by cases ht⟩
  | x :: T, i, n, h => by
    unfold fewGo at h
    split at h
    · cases h
    · rename_i h0
      obtain ⟨h1, h2⟩ := fewGo_all T (i + 1) (n + x.key.length + x.val.length) h
      refine ⟨.inr ?_, fun u hu => ?_⟩
      · simp only [List.length_cons]; omega
      · rcases List.mem_cons.1 hu with rfl | hu
        · omega
        · exact h2 u hu
theorem few_of {T : List Ent} (h : fewB T = true) : T.length ≤ 3001 ∧ ∀ x ∈ T, x.key.length ≤ 60000 ∧ x.val.length ≤ 60000 := by
  obtain ⟨h1, h2⟩ := fewGo_all T 0 0 h
  exact ⟨by omega, h2⟩
/-- Sizes that a string may have. -/
def fitE (T : List Ent) : Prop := ∀ x ∈ T, x.key.length ≤ 9223372036854775807 ∧ x.val.length ≤ 9223372036854775807

set_option maxHeartbeats 1000000 in
theorem law_few (a : Option Addr) (len cap : Nat) (T : List Ent) (w : World) (hT : Hid (IsE w a len T)) (hl : len ≤ 9223372036854775807) (hs : Hid (fitE T)) :
    Calls Try.prog 19 #[.slice a len cap] w fun e w' => e = .returned (.bool (fewB T)) ∧ Below w.heap.size w w' := by
  go_enter Try.func19, Try.ntmps19
  go_wp2_with fail
  go_loopw [3, 4] (fun v vi wr => ∃ i n : Nat, i ≤ len ∧ vi = .int .i64 i ∧ v = .int .i64 n ∧ Hid (fewGo (T.drop i) i n = fewB T) ∧ i ≤ 3001 ∧ n ≤ 200000 ∧ Hid (Below w.heap.size w wr)) (fun v vi wr => len - (intOf vi).toNat)
  case atStart => exact ⟨0, 0, by omega, rfl, rfl, Lib.hid rfl, by omega, by omega, Lib.hid (Below.refl _ _)⟩
  case round =>
    obtain ⟨i, n, hi, rfl, rfl, hgo, hi2, hn2, hB⟩ := hrel
    rcases Nat.lt_or_ge i len with hlt | hge
    · obtain ⟨b, off, x, rfl, hx, hdr, hc⟩ := (hT.out.below hB.out).at hlt
      obtain ⟨hs1, hs2⟩ := hs.out x (List.mem_of_getElem? hx)
      have c0 := hc.c0
      have c1 := hc.c1
      have hst := hgo.out
      rw [hdr] at hst
      unfold fewGo at hst
      have z1 : (bs x.key).size = x.key.length := bs_size _
      have z2 : (bs x.val).size = x.val.length := bs_size _
      generalize bs x.key = sk at *
      generalize bs x.val = sv at *
      generalize x.key.length = kz at *
      generalize x.val.length = vz at *
      have HST := Lib.hid hst
      clear hx hdr hc hst
      by_cases h1 : 60000 < kz
      · have hres := Lib.hid (show fewB T = false by have := HST.out; rw [if_pos (by omega)] at this; exact this.symm)
        go_wp2_with fail
        go_ret
        exact ⟨by rw [hres.out]; rfl, hB.out⟩
      · by_cases h2 : 60000 < vz
        · have hres := Lib.hid (show fewB T = false by have := HST.out; rw [if_pos (by omega)] at this; exact this.symm)
          go_wp2_with fail
          go_ret
          exact ⟨by rw [hres.out]; rfl, hB.out⟩
        · by_cases h3 : 3000 < i
          · have hres := Lib.hid (show fewB T = false by have := HST.out; rw [if_pos (by omega)] at this; exact this.symm)
            go_wp2_with fail
            go_ret
            exact ⟨by rw [hres.out]; rfl, hB.out⟩
          · by_cases h4 : 60000 < n
            · have hres := Lib.hid (show fewB T = false by have := HST.out; rw [if_pos (by omega)] at this; exact this.symm)
              go_wp2_with fail
              go_ret
              exact ⟨by rw [hres.out]; rfl, hB.out⟩
            · have hres := Lib.hid (show fewGo (T.drop (i + 1)) (i + 1) (n + kz + vz) = fewB T by have := HST.out; rw [if_neg (by omega)] at this; exact this)
              go_wp2_with fail
              go_quiet (fail)
              go_wp2_with fail
              go_roundw
              case rel => exact ⟨i + 1, n + kz + vz, by omega, by go_num, by go_num, hres, by omega, by omega, Lib.hid (below_drewN hB.out _)⟩
              case measure => simp [intOf]; omega
    · obtain rfl : i = len := by omega
      have hres := Lib.hid (show fewB T = decide (n ≤ 60000) by
        have := hgo.out
        rw [List.drop_eq_nil_of_le (by rw [hT.out.1]; exact Nat.le_refl _)] at this
        exact this.symm)
      go_wp2_with fail
      go_ret
      exact ⟨by rw [hres.out]; simp; omega, hB.out⟩
end Go.Proofs.Ytbjokbnmfbfkjaa
