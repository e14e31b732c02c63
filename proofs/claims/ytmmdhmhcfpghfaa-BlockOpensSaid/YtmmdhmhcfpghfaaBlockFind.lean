/- The program's Find. -/
import Derived.Test.YtmmdhmhcfpghfaaBlockAwake
set_option linter.unusedVariables false
set_option maxRecDepth 100000
namespace Go.Proofs.Ytmmdhmhcfpghfaa
open Go.RowKit

/-- A variable that holds a slice. -/
def BxS (c : Nat) (v : Value) (w : World) : Prop := w.heap[c]? = some (.cells #[v] 22 (0, 0))
set_option maxHeartbeats 1000000 in
theorem find_look (b1 b2 : Nat) (a : Option Addr) (len cap : Nat) (T : List Ent) (key : List UInt8) (i : Nat) (x : Ent) (w : World) (h1 : BxS b1 (.slice a len cap) w) (h2 : Bx b2 key w) (hT : Hid (IsE w a len T)) (hi : i < len) (hx : Hid (T[i]? = some x)) :
    Calls Try.prog 39 #[.int .i64 (i : Int), .pointer (some ⟨b1, 0, none⟩), .pointer (some ⟨b2, 0, none⟩)] w fun e w' => e = .returned (.bool (!ltB x.key key)) ∧ Below w.heap.size w w' := by
  obtain ⟨b, off, y, rfl, hy, _, hc⟩ := hT.out.at hi
  have hxy : x = y := by have := hx.out; rw [hy] at this; injection this with this; exact this.symm
  have c0 := hc.c0
  have k1 : w.cell? ⟨b1, 0, none⟩ = some (.slice (some ⟨b, off, none⟩) len cap) := by unfold BxS at h1; simp [World.cell?, h1]
  have k2 := h2.cell
  have hlt : Op.bytesLess (bs y.key).toList (bs key).toList = ltB y.key key := by rw [Lib.toList_data, Lib.toList_data, bs_list, bs_list, ltB_less]
  rw [hxy]
  clear hxy hx hy h1 h2 hc
  obtain ⟨z, hz⟩ : ∃ z, z = ltB y.key key := ⟨_, rfl⟩
  rw [← hz] at hlt ⊢
  clear hz
  go_enter Try.func39, Try.ntmps39
  go_wp2_with fail
  go_quiet (fail)
  go_wp2_with fail
  go_ret
  exact ⟨rfl, below_drewN (Below.refl _ _) _⟩
/-- What Find answers. -/
structure FindPost (T : List Ent) (key : List UInt8) (w : World) (e : Ending) (w' : World) : Prop where
  out : ∃ r, e = .returned (.int .i64 ((r : Nat) : Int)) ∧ r ≤ T.length ∧ (∀ x, 0 < r → T[r - 1]? = some x → ltB x.key key = true) ∧ (∀ x, T[r]? = some x → ltB x.key key = false)
  bel : Below w.heap.size w w'
set_option maxHeartbeats 2000000 in
theorem find_search (b1 b2 : Nat) (a : Option Addr) (len cap : Nat) (T : List Ent) (key : List UInt8) (w : World) (h1 : BxS b1 (.slice a len cap) w) (h2 : Bx b2 key w) (hT : Hid (IsE w a len T)) (hl : len ≤ 100000) :
    Calls Try.prog 38 #[.int .i64 (len : Int), .func (.func 39) #[] #[.pointer (some ⟨b1, 0, none⟩), .pointer (some ⟨b2, 0, none⟩)]] w (FindPost T key w) := by
  have H1 := Lib.hid h1
  have H2 := Lib.hid h2
  clear h1 h2
  go_enter Try.func38, Try.ntmps38
  go_wp2_with fail
  go_loopw [5, 6] (fun iv jv wr => ∃ i j : Nat, i ≤ j ∧ j ≤ len ∧ iv = .int .i64 i ∧ jv = .int .i64 j ∧ Hid (∀ x, 0 < i → T[i - 1]? = some x → ltB x.key key = true) ∧ Hid (∀ x, T[j]? = some x → ltB x.key key = false) ∧ Hid (Below w.heap.size w wr)) (fun iv jv wr => (intOf jv).toNat - (intOf iv).toNat)
  case atStart => exact ⟨0, len, by omega, by omega, rfl, rfl, Lib.hid (fun x h => absurd h (by omega)), Lib.hid (fun x h => by have := (List.getElem?_eq_some_iff.1 h).1; have := hT.out.1; omega), Lib.hid (Below.refl _ _)⟩
  case round =>
    obtain ⟨i, j, hij, hj, rfl, rfl, hA, hZ, hB⟩ := hrel
    by_cases hlt : i < j
    · obtain ⟨m, hm⟩ : ∃ m, m = (i + j) / 2 := ⟨_, rfl⟩
      obtain ⟨s, hs⟩ : ∃ s : Int, s = (i : Int) + (j : Int) := ⟨_, rfl⟩
      have hs1 : IntKind.i64.wrap ((i : Int) + (j : Int)) = s := by rw [IntWalk.i64_in _ (by omega), hs]
      have hm1 : s / 2 = (m : Int) := by omega
      have hmi : i ≤ m := by omega
      have hmj : m < j := by omega
      have hml : m < len := by omega
      have hs0 : 0 ≤ s := by omega
      have hs2 : s ≤ 200000 := by omega
      have hs3 : (i : Int) + (j : Int) = s := hs.symm
      obtain ⟨x, hx⟩ : ∃ x, T[m]? = some x := ⟨_, List.getElem?_eq_getElem (by have := hT.out.1; omega)⟩
      have HL := Lib.hid (find_look b1 b2 a len cap T key m x wr ((hB.out.block b1 (heap_lt H1.out)).trans H1.out) ((hB.out.block b2 (heap_lt H2.out)).trans H2.out) (Lib.hid (hT.out.below hB.out)) hml (Lib.hid hx))
      have HX := Lib.hid hx
      have HM := Lib.hid (And.intro hmi hmj)
      clear hs hm hx
      cases hc : ltB x.key key with
      | true =>
        rw [hc, Bool.not_true] at HL
        have HC := Lib.hid hc
        clear hc
        go_wp2_with fail
        refine HL.out.mono ?_
        rintro e w2 ⟨rfl, k2⟩
        have HB2 := Lib.hid (hB.out.trans (k2.mono hB.out.size))
        clear k2
        go_wp2_with fail
        go_roundw
        case rel => exact ⟨m + 1, j, by omega, hj, by go_num, rfl, Lib.hid (fun y _ hy => by rw [Nat.add_sub_cancel, HX.out] at hy; injection hy with hy; rw [← hy]; exact HC.out), hZ, HB2⟩
        case measure => simp [intOf]; omega
      | false =>
        rw [hc, Bool.not_false] at HL
        have HC := Lib.hid hc
        clear hc
        go_wp2_with fail
        refine HL.out.mono ?_
        rintro e w2 ⟨rfl, k2⟩
        have HB2 := Lib.hid (hB.out.trans (k2.mono hB.out.size))
        clear k2
        go_wp2_with fail
        go_roundw
        case rel => exact ⟨i, m, hmi, by omega, rfl, rfl, hA, Lib.hid (fun y hy => by rw [HX.out] at hy; injection hy with hy; rw [← hy]; exact HC.out), HB2⟩
        case measure => simp [intOf]; omega
    · obtain rfl : i = j := by omega
      go_wp2_with fail
      go_ret
      exact ⟨⟨i, rfl, by have := hT.out.1; omega, hA.out, hZ.out⟩, hB.out⟩
theorem block_Find (a : Option Addr) (len cap : Nat) (T : List Ent) (key : List UInt8) (w : World) (hT : Hid (IsE w a len T)) (hl : len ≤ 100000) :
    Calls Try.prog 18 #[.slice a len cap, .string (bs key)] w (FindPost T key w) := by
  obtain ⟨w0, hw0⟩ : ∃ w0, (w.alloc (.cells #[.slice a len cap] 22)).alloc (.cells #[.string (bs key)] 9) = w0 := ⟨_, rfl⟩
  have K0 := Lib.hid (show Below w.heap.size w w0 by rw [← hw0]; exact ((Below.refl _ _).alloc (Nat.le_refl _) _).alloc (by simp) _)
  have S0 := Lib.hid (show BxS w.heap.size (.slice a len cap) w0 by rw [← hw0]; exact (Below.heap_alloc _ _ _ (by simp)).trans (heap_new w _))
  have S1 := Lib.hid (show Bx (w.heap.size + 1) key w0 by
    have h := heap_new (w.alloc (.cells #[.slice a len cap] 22)) (.cells #[.string (bs key)] 9)
    rw [show (w.alloc (.cells #[.slice a len cap] 22)).heap.size = w.heap.size + 1 by simp] at h
    rw [← hw0]; exact h)
  have HS := Lib.hid (find_search w.heap.size (w.heap.size + 1) a len cap T key w0 S0.out S1.out (Lib.hid (hT.out.below K0.out)) hl)
  have c0 : w0.cell? ⟨w.heap.size, 0, none⟩ = some (.slice a len cap) := by have := S0.out; unfold BxS at this; simp [World.cell?, this]
  have HW0 := Lib.hid hw0
  clear hw0
  go_enter Try.func18, Try.ntmps18
  go_upto_region 1 with (fail)
  rw [HW0.out]
  go_wp2_with fail
  refine HS.out.mono ?_
  rintro e w1 ⟨⟨r, rfl, hr⟩, k1⟩
  go_wp2_with fail
  go_ret
  exact ⟨⟨r, rfl, hr⟩, K0.out.trans (k1.mono K0.out.size)⟩
/-- In rising entries it is the place. -/
theorem find_place {T : List Ent} {key : List UInt8} (hT : rises T) {r : Nat} (h1 : r ≤ T.length) (h2 : ∀ x, 0 < r → T[r - 1]? = some x → ltB x.key key = true) (h3 : ∀ x, T[r]? = some x → ltB x.key key = false) : place key T = r := by
  refine place_of hT h1 (fun i x hi hx => ?_) (fun i x hi hx => ?_)
  · obtain ⟨y, hy⟩ : ∃ y, T[r - 1]? = some y := ⟨_, List.getElem?_eq_getElem (by omega)⟩
    have hy2 := h2 y (by omega) hy
    by_cases e : i = r - 1
    · subst e
      rw [hx] at hy
      injection hy with hy
      rw [hy]
      exact hy2
    · exact ltB_trans (rises_at hT i (r - 1) x y (by omega) hx hy) hy2
  · by_cases e : i = r
    · subst e
      exact h3 x hx
    · have hil := (List.getElem?_eq_some_iff.1 hx).1
      obtain ⟨y, hy⟩ : ∃ y, T[r]? = some y := ⟨_, List.getElem?_eq_getElem (by omega)⟩
      have hyx := rises_at hT r i y x (by omega) hy hx
      have hyf := h3 y hy
      cases hb : ltB x.key key with
      | false => rfl
      | true => rw [ltB_trans hyx hb] at hyf; cases hyf
end Go.Proofs.Ytmmdhmhcfpghfaa
