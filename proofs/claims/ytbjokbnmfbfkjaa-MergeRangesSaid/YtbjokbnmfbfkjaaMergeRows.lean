/- Rows that a law looks at: what stands in memory, their size, cursors over them. -/
import Derived.Test.YtbjokbnmfbfkjaaMergeIs
set_option linter.unusedVariables false
set_option maxRecDepth 100000
namespace Go.Proofs.Ytbjokbnmfbfkjaa
open Go.RowKit

/-- A row: its slice, its entries, its error. -/
structure Rw where
  a : Option Addr
  len : Nat
  cap : Nat
  T : List Ent
  e : Int
def Rw.told (r : Rw) : List Ent × Int := toldP r.e none r.T
/-- Rows in memory. -/
structure IsRows (w : World) (a : Option Addr) (n : Nat) (Rs : List Rw) : Prop where
  len : n = Rs.length
  at' : ∃ b off, (n = 0 ∨ a = some ⟨b, off, none⟩) ∧ ∀ k r, Rs[k]? = some r → b < w.heap.size ∧ w.cell? ⟨b, off + k * 2, none⟩ = some (.slice r.a r.len r.cap) ∧ w.cell? ⟨b, off + k * 2 + 1, none⟩ = some (.int .i64 r.e)
  is : ∀ r ∈ Rs, IsE w r.a r.len r.T ∧ r.len ≤ 9223372036854775807 ∧ fitE r.T
theorem IsRows.below {w w' : World} {a : Option Addr} {n : Nat} {Rs : List Rw} (h : IsRows w a n Rs) (k : Below w.heap.size w w') : IsRows w' a n Rs := by
  obtain ⟨h1, ⟨b, off, h2, h3⟩, h4⟩ := h
  refine ⟨h1, ⟨b, off, h2, fun i r hr => ?_⟩, fun r hr => ⟨(h4 r hr).1.below k, (h4 r hr).2⟩⟩
  obtain ⟨x, y, z⟩ := h3 i r hr
  exact ⟨Nat.lt_of_lt_of_le x k.size, by rw [k.cell x]; exact y, by rw [k.cell x]; exact z⟩
theorem IsRows.get {w : World} {a : Option Addr} {n : Nat} {Rs : List Rw} (h : IsRows w a n Rs) {k : Nat} (hk : k < n) : ∃ b off r, a = some ⟨b, off, none⟩ ∧ Rs[k]? = some r ∧ Rs.drop k = r :: Rs.drop (k + 1) ∧ w.cell? ⟨b, off + k * 2, none⟩ = some (.slice r.a r.len r.cap) ∧ w.cell? ⟨b, off + k * 2 + 1, none⟩ = some (.int .i64 r.e) ∧ IsE w r.a r.len r.T ∧ r.len ≤ 9223372036854775807 ∧ fitE r.T := by
  obtain ⟨h1, ⟨b, off, h2, h3⟩, h4⟩ := h
  have hkT : k < Rs.length := by omega
  obtain ⟨_, x, y⟩ := h3 k _ (List.getElem?_eq_getElem hkT)
  exact ⟨b, off, Rs[k], h2.resolve_left (by omega), List.getElem?_eq_getElem hkT, List.drop_eq_getElem_cons hkT, x, y, h4 _ (List.getElem_mem hkT)⟩
def fewRGo : List Rw → Nat → Nat → Bool
  | [], _, n => decide (n ≤ 2000)
  | r :: rs, i, n => if 12 ≤ i ∨ fewB r.T = false then false else fewRGo rs (i + 1) (n + r.T.length)
def fewR (Rs : List Rw) : Bool := fewRGo Rs 0 0
theorem fewRGo_all : ∀ (Rs : List Rw) (i n : Nat), fewRGo Rs i n = true → (Rs.length = 0 ∨ i + Rs.length ≤ 12) ∧ n + (Rs.map fun r => r.T.length).sum ≤ 2000 ∧ ∀ r ∈ Rs, fewB r.T = true
  | [], i, n, h => ⟨.inl rfl, by simpa [fewRGo] using h, fun r hr => by cases hr⟩
  | r :: rs, i, n, h => by
    unfold fewRGo at h
    split at h
    · cases h
    · rename_i h0
      obtain ⟨h1, h2, h3⟩ := fewRGo_all rs (i + 1) (n + r.T.length) h
      refine ⟨.inr ?_, ?_, fun u hu => ?_⟩
      · simp only [List.length_cons]; omega
      · simp only [List.map_cons, List.sum_cons]; omega
      · rcases List.mem_cons.1 hu with rfl | hu
        · cases hb : fewB u.T with
          | true => rfl
          | false => exact absurd (.inr hb) h0
        · exact h3 u hu
theorem fewR_of {Rs : List Rw} (h : fewR Rs = true) : Rs.length ≤ 12 ∧ (Rs.map fun r => r.T.length).sum ≤ 2000 ∧ ∀ r ∈ Rs, fewB r.T = true := by
  obtain ⟨h1, h2, h3⟩ := fewRGo_all Rs 0 0 h
  exact ⟨by omega, by omega, h3⟩
set_option maxHeartbeats 2000000 in
theorem law_fewR (a : Option Addr) (n cap : Nat) (Rs : List Rw) (w : World) (h : Hid (IsRows w a n Rs)) (hn : n ≤ 9223372036854775807) :
    Calls Try.prog 9 #[.slice a n cap] w fun e w' => e = .returned (.bool (fewR Rs)) ∧ Below w.heap.size w w' := by
  go_enter Try.func9, Try.ntmps9
  go_wp2_with fail
  go_loopw [3, 4] (fun v vi wr => ∃ i m : Nat, i ≤ n ∧ vi = .int .i64 i ∧ v = .int .i64 m ∧ Hid (fewRGo (Rs.drop i) i m = fewR Rs) ∧ i ≤ 12 ∧ m ≤ i * 3001 ∧ Hid (Below w.heap.size w wr)) (fun v vi wr => n - (intOf vi).toNat)
  case atStart => exact ⟨0, 0, by omega, rfl, rfl, Lib.hid rfl, by omega, by omega, Lib.hid (Below.refl _ _)⟩
  case round =>
    obtain ⟨i, m, hi, rfl, rfl, hgo, hi2, hm2, hB⟩ := hrel
    rcases Nat.lt_or_ge i n with hlt | hge
    · obtain ⟨b, off, r, rfl, hr, hdr, hc0, hc1, hE, hb, hf⟩ := (h.out.below hB.out).get hlt
      have hst := hgo.out
      rw [hdr] at hst
      unfold fewRGo at hst
      have HST := Lib.hid hst
      have HE := Lib.hid hE
      have HB := Lib.hid hb
      have HF := Lib.hid hf
      have HFW := Lib.hid (law_few r.a r.len r.cap r.T wr HE hb HF)
      clear hr hdr hst hc1 hE hf hb
      by_cases h12 : 12 ≤ i
      · have hres := Lib.hid (show fewR Rs = false by have := HST.out; rw [if_pos (.inl h12)] at this; exact this.symm)
        go_wp2_with fail
        go_ret
        exact ⟨by rw [hres.out]; rfl, hB.out⟩
      · cases hfw : fewB r.T with
        | false =>
          have hres := Lib.hid (show fewR Rs = false by have := HST.out; rw [if_pos (.inr hfw)] at this; exact this.symm)
          rw [hfw] at HFW
          clear hfw
          go_wp2_with fail
          refine HFW.out.mono ?_
          rintro en w2 ⟨rfl, k2⟩
          have K2 := Lib.hid k2
          clear k2
          go_wp2_with fail
          go_ret
          exact ⟨by rw [hres.out]; rfl, hB.out.trans (K2.out.mono hB.out.size)⟩
        | true =>
          have hres := Lib.hid (show fewRGo (Rs.drop (i + 1)) (i + 1) (m + r.len) = fewR Rs by
            have := HST.out
            rw [if_neg (by rw [hfw]; simp; omega), ← HE.out.1] at this
            exact this)
          have hrl := (few_of hfw).1
          rw [← HE.out.1] at hrl
          rw [hfw] at HFW
          clear hfw
          go_wp2_with fail
          refine HFW.out.mono ?_
          rintro en w2 ⟨rfl, k2⟩
          have K2 := Lib.hid k2
          have hb2 := cell_block hc0
          have c0 : w2.cell? ⟨b, off + i * 2, none⟩ = some (.slice r.a r.len r.cap) := by rw [k2.cell hb2]; exact hc0
          clear k2 hc0 hb2
          go_wp2_with fail
          go_roundw
          case rel => exact ⟨i + 1, m + r.len, by omega, by go_num, by go_num, hres, by omega, by omega, Lib.hid (hB.out.trans (K2.out.mono hB.out.size))⟩
          case measure => simp [intOf]; omega
    · obtain rfl : i = n := by omega
      have hres := Lib.hid (show fewR Rs = decide (m ≤ 2000) by
        have := hgo.out
        rw [List.drop_eq_nil_of_le (by rw [h.out.len]; exact Nat.le_refl _)] at this
        exact this.symm)
      go_wp2_with fail
      go_ret
      exact ⟨by rw [hres.out]; simp; omega, hB.out⟩
end Go.Proofs.Ytbjokbnmfbfkjaa
