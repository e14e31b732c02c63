/- The laws' look: a cursor tells just this row. -/
import Derived.Test.YtbjokbnmfbfkjaaMergeLawOver
import Derived.Test.YtbjokbnmfbfkjaaBlockSame
set_option linter.unusedVariables false
set_option maxRecDepth 100000
namespace Go.Proofs.Ytbjokbnmfbfkjaa
open Go.RowKit

theorem noent_same (w : World) : (binOp .neq 32 (.agg #[.string ⟨#[]⟩, .string ⟨#[]⟩, .bool false]) (.agg #[.string ⟨#[]⟩, .string ⟨#[]⟩, .bool false])).run Try.prog w = .ok (.bool false) w := ent_same ⟨#[]⟩ ⟨#[]⟩ false w
theorem Cur.weak' {v : Value} {n : Nat} {F : Nat → Prop} {I : List Ent → Int → Bool → World → Prop} (h : Cur v n F I) {l : List Ent} {e : Int} {b : Bool} {w : World} (hI : I l e b w) : I l e false w := by
  cases b with
  | false => exact hI
  | true => exact h.weak _ _ _ hI
set_option maxHeartbeats 4000000 in
theorem law_is (c : Cu) (hp : ∃ a, c.v = .pointer a) (a : Option Addr) (len cap : Nat) (l : List Ent) (e : Int) (b : Bool) (w : World) (hI : Hid (c.I l e b w)) (hL : Hid (∀ w', Only c.F w w' → IsE w' a len l)) (hl : len ≤ 1000000) :
    Calls Try.prog 12 #[c.v, .agg #[.slice a len cap, .int .i64 e]] w fun en w' => en = .returned (.bool true) ∧ Only c.F w w' := by
  obtain ⟨pv, hpv⟩ := hp
  rw [hpv]
  have HPV := Lib.hid hpv
  obtain ⟨w1, hw1⟩ : ∃ w1, w1 = w.alloc (.cells #[.slice a len cap, .int .i64 e] 24) := ⟨_, rfl⟩
  have K1 := Lib.hid (show Below w.heap.size w w1 by rw [hw1]; exact (Below.refl _ _).alloc (Nat.le_refl _) _)
  have R1 := Lib.hid (show BxR w.heap.size (.slice a len cap) e w1 by rw [hw1]; exact heap_new w _)
  have I1 := Lib.hid (c.ok.below hI.out K1.out)
  have HW1 := Lib.hid hw1
  have hFz := Lib.hid (show ∀ k, c.F k → k < w.heap.size from fun k h => Nat.lt_of_lt_of_le (c.ok.low _ h) (c.ok.size _ _ _ _ hI.out))
  have hlen := Lib.hid (hL.out w (Only.refl _ _)).1
  clear hw1 hpv
  go_enter Try.func12, Try.ntmps12
  go_upto_region 1 with (fail)
  rw [← HW1.out]
  go_wp2_with fail
  go_loopw [5] (fun iv wr => ∃ k : Nat, k ≤ len ∧ iv = .int .i64 k ∧ Hid (c.I (l.drop k) e false wr) ∧ Hid (Only c.F w wr) ∧ Hid (BxR w.heap.size (.slice a len cap) e wr)) (fun iv wr => len - (intOf iv).toNat)
  case atStart => exact ⟨0, Nat.zero_le _, rfl, Lib.hid (by rw [List.drop_zero]; exact c.ok.weak' I1.out), Lib.hid (Only.of_below' K1.out rfl), R1⟩
  case round =>
    obtain ⟨k, hk, rfl, hIk, hO, hR⟩ := hrel
    rcases Nat.lt_or_ge k len with hlt | hge
    · have r0 := hR.out.c0
      obtain ⟨-, -, x, -, hx, hdr, -⟩ := (hL.out _ hO.out).at hlt
      rw [hdr] at hIk
      have HX := Lib.hid hx
      have HN := Lib.hid (cur_next (Lib.hid c.ok) _ _ _ _ hIk)
      rw [HPV.out] at HN
      clear hdr hx
      go_wp2_with fail
      refine HN.out.mono ?_
      rintro en w2 ⟨hA, hI2, k2⟩
      simp only [List.tail_cons, List.isEmpty_cons] at hI2
      have I2 := Lib.hid hI2
      have O2 := Lib.hid (hO.out.trans k2)
      have R2 := Lib.hid (hR.out.only k2 fun h => Nat.lt_irrefl _ (hFz.out _ h))
      clear hI2 k2 r0
      cases hA with
      | next =>
        obtain ⟨w3, hw3⟩ : ∃ w3, w3 = w2.alloc (.cells #[.string (bs x.key), .string (bs x.val), .bool x.gone] 32) := ⟨_, rfl⟩
        have K3 := Lib.hid (show Below w2.heap.size w2 w3 by rw [hw3]; exact (Below.refl _ _).alloc (Nat.le_refl _) _)
        have X3 := Lib.hid (show C3 w2.heap.size 32 (.string (bs x.key)) (.string (bs x.val)) (.bool x.gone) w3 by rw [hw3]; exact heap_new w2 _)
        have I3 := Lib.hid (c.ok.below I2.out K3.out)
        have O3 := Lib.hid (O2.out.trans (Only.of_below' K3.out rfl))
        have R3 := Lib.hid (R2.out.only (S := fun _ => False) (Only.of_below' K3.out rfl) fun h => h)
        obtain ⟨g, off, y, rfl, hy, _, hc⟩ := (hL.out _ O3.out).at hlt
        rw [HX.out] at hy
        injection hy with hy
        subst hy
        have c0 := hc.c0
        have c1 := hc.c1
        have c2 := hc.c2
        have x0 := X3.out.c0
        have x1 := X3.out.c1
        have x2 := X3.out.c2
        have r0 := R3.out.c0
        have HW3 := Lib.hid hw3
        have hsame := ent_same (bs x.key) (bs x.val) x.gone
        generalize bs x.key = sk at *
        generalize bs x.val = sv at *
        generalize x.gone = sg at *
        clear hw3 hc
        go_upto_region 5 with (fail)
        rw [← HW3.out]
        go_quiet (fail)
        go_wp2_with fail
        go_roundw
        case rel => exact ⟨k + 1, by omega, by go_num, Lib.hid (c.ok.below I3.out (below_drewN (Below.refl _ _) _)), Lib.hid (O3.out.drewN _), R3⟩
        case measure => simp [intOf]; omega
    · obtain rfl : k = len := by omega
      have hd := Lib.hid (show l.drop k = [] from List.drop_eq_nil_of_le (by rw [← hlen.out]; exact Nat.le_refl _))
      have r0 := hR.out.c0
      rw [hd.out] at hIk
      go_wp2_with fail
      go_loopw [9] (fun iv ws => ∃ j : Nat, j ≤ 2 ∧ iv = .int .i64 j ∧ Hid (c.I [] e false ws) ∧ Hid (Only c.F w ws) ∧ Hid (BxR w.heap.size (.slice a k cap) e ws)) (fun iv ws => 2 - (intOf iv).toNat)
      case atStart => exact ⟨0, by omega, rfl, hIk, hO, hR⟩
      case round =>
        obtain ⟨j, hj, rfl, hIj, hOj, hRj⟩ := hrel
        obtain ⟨ws, hws⟩ : ∃ ws, ws = wr := ⟨_, rfl⟩
        subst hws
        rcases Nat.lt_or_ge j 2 with hlt | hge2
        · have HN := Lib.hid (cur_next (Lib.hid c.ok) _ _ _ _ hIj)
          rw [HPV.out] at HN
          go_wp2_with fail
          refine HN.out.mono ?_
          rintro en w2 ⟨hA, hI2, k2⟩
          simp only [List.tail_nil, List.isEmpty_nil] at hI2
          have I2 := Lib.hid (c.ok.weak' hI2)
          have O2 := Lib.hid (hOj.out.trans k2)
          have R2 := Lib.hid (hRj.out.only k2 fun h => Nat.lt_irrefl _ (hFz.out _ h))
          clear hI2 k2
          cases hA with
          | ends =>
            obtain ⟨w3, hw3⟩ : ∃ w3, w3 = w2.alloc (.cells #[.string ⟨#[]⟩, .string ⟨#[]⟩, .bool false] 32) := ⟨_, rfl⟩
            have K3 := Lib.hid (show Below w2.heap.size w2 w3 by rw [hw3]; exact (Below.refl _ _).alloc (Nat.le_refl _) _)
            have X3 := Lib.hid (show C3 w2.heap.size 32 (.string ⟨#[]⟩) (.string ⟨#[]⟩) (.bool false) w3 by rw [hw3]; exact heap_new w2 _)
            have I3 := Lib.hid (c.ok.below I2.out K3.out)
            have O3 := Lib.hid (O2.out.trans (Only.of_below' K3.out rfl))
            have R3 := Lib.hid (R2.out.only (S := fun _ => False) (Only.of_below' K3.out rfl) fun h => h)
            have x0 := X3.out.c0
            have x1 := X3.out.c1
            have x2 := X3.out.c2
            have r1 := R3.out.c1
            have HW3 := Lib.hid hw3
            have hsame := noent_same
            clear hw3
            go_upto_region 11 with (fail)
            rw [← HW3.out]
            go_wp2_with fail
            go_roundw
            case rel => exact ⟨j + 1, by omega, by go_num, I3, O3, R3⟩
            case measure => simp [intOf]; omega
        · obtain rfl : j = 2 := by omega
          go_wp2_with fail
          go_ret
          exact ⟨rfl, hOj.out⟩
end Go.Proofs.Ytbjokbnmfbfkjaa
