/- Texts put together: ShaRefs -/
import Derived.Test.YteejldddgogbkaaGreatDoorTOp05
import Derived.Test.YteejldddgogbkaaGreatDoorTOp04
import Derived.OwnWalk
import Derived.Lib.AppendStr
/- The document's own digest: turning, numbers, the text with its end. -/
set_option linter.unusedVariables false
set_option maxRecDepth 100000
namespace Go.Proofs.YteejldddgogbkaaGreatDoor
open Go.RowKit

set_option maxHeartbeats 400000 in
theorem ref_turn (x n : Nat) (w : World) (hx : x < 4294967296) (hn : n ≤ 64) :
    Calls Tryz.prog 111 #[.int .u32 x, .int .i64 n] w fun e w' => e = .returned (.int .u32 (rotN n x)) ∧ w = w' := by
  have HX := Lib.hid hx
  clear hx
  go_enter Tryz.func111, Tryz.ntmps111
  go_wp2_with fail
  go_loopw [0, 5] (fun y i wr => ∃ k : Nat, k ≤ n ∧ i = .int .i64 k ∧ y = .int .u32 (rotN k x) ∧ wr = w) (fun y i wr => n - (intOf i).toNat)
  case atStart => exact ⟨0, by omega, rfl, rfl, rfl⟩
  case round =>
    obtain ⟨k, hk, rfl, rfl, rfl⟩ := hrel
    by_cases hlt : k < n
    · have HL := Lib.hid (rotN_last k x)
      have hq := rotN_lt k HX.out
      generalize rotN k x = q at *
      have hrot : ((q : Int) / 2 + q % 2 * 2147483648) = ((rot1 q : Nat) : Int) := by unfold rot1; omega
      go_wp2_with fail
      go_roundw
      case rel => exact ⟨k + 1, by omega, by go_num, by rw [HL.out], trivial⟩
      case measure => simp [intOf]; omega
    · obtain rfl : k = n := by omega
      go_wp2
      go_ret
      exact ⟨rfl, rfl⟩

/-- In block b stand these words. -/
def Row32 (b : Nat) (l : List Nat) (w : World) : Prop := b < w.heap.size ∧ ∀ j, j < l.length → w.cell? ⟨b, j, none⟩ = some (.int .u32 ((l.getD j 0 : Nat) : Int)) ∧ w.frozen? ⟨b, j, none⟩ = false
def words32 (l : List Nat) : Array Value := (l.map fun x : Nat => Value.int .u32 (x : Int)).toArray
theorem row32_new (w : World) (l : List Nat) (t : TypeId) : Row32 w.heap.size l (w.alloc (.cells (words32 l) t)) := by
  refine ⟨by show w.heap.size < (w.heap.push _).size; simp, fun j hj => ⟨?_, ?_⟩⟩
  · rw [World.cell?_alloc_mark]
    simp [words32, hj, List.getD_eq_getElem?_getD]
  · rw [World.frozen?_alloc_mark]
    simp
theorem Row32.keep {b B : Nat} {l : List Nat} {w w' : World} (h : Row32 b l w) (k : Below B w w') (hb : b < B) : Row32 b l w' := by
  refine ⟨Nat.lt_of_lt_of_le h.1 k.size, fun j hj => ?_⟩
  rw [k.cell hb, YteejldddgogbkaaGreatDoor.Below.frozen k hb]
  exact h.2 j hj
theorem Row32.set {b : Nat} {l : List Nat} {w : World} (h : Row32 b l w) {i : Nat} (hi : i < l.length) (v : Nat) : Row32 b (l.set i v) (w.setCell ⟨b, i, none⟩ (.int .u32 (v : Int))) := by
  refine ⟨by simpa using h.1, fun j hj => ?_⟩
  rw [List.length_set] at hj
  refine ⟨?_, by rw [World.frozen?_setCell]; exact (h.2 j hj).2⟩
  by_cases hji : j = i
  · subst hji
    rw [World.cell?_setCell_same w _ _ (h.2 j hj).1]
    simp [List.getD_eq_getElem?_getD, hj]
  · rw [World.cell?_setCell_other w _ _ _ (fun e => hji (by injection e with _ e2; exact e2.symm)), (h.2 j hj).1]
    simp [List.getD_eq_getElem?_getD, List.getElem?_set_ne (fun e => hji e.symm)]
theorem Row32.other {b : Nat} {l : List Nat} {w : World} (h : Row32 b l w) {a : Addr} (ha : a.block ≠ b) (v : Value) : Row32 b l (w.setCell a v) := by
  refine ⟨by simpa using h.1, fun j hj => ?_⟩
  refine ⟨?_, by rw [World.frozen?_setCell]; exact (h.2 j hj).2⟩
  rw [World.cell?_setCell_other w _ _ _ (fun e => ha (by rw [e]))]
  exact (h.2 j hj).1

set_option maxHeartbeats 400000 in
theorem ref_numbers (w : World) :
    Calls Tryz.prog 109 #[] w fun e w' => e = .returned (.slice (some ⟨w.heap.size, 0, none⟩) 64 64) ∧ Row32 w.heap.size numbers w' ∧ Below w.heap.size w w' := by
  have hrow := Lib.hid (row32_new w numbers 84)
  go_enter Tryz.func109, Tryz.ntmps109
  go_wp2
  go_ret
  exact ⟨rfl, hrow.out, (Below.refl _ _).alloc (Nat.le_refl _) _⟩

def sliceLen : Value → Nat
  | .slice _ n _ => n
  | _ => 0
/-- A slice of bytes of the call's own. -/
def Own8 (B : Nat) (v : Value) (l : List UInt8) (w : World) : Prop := w.ownsRow B 5 1 v l.length (Lib.byteCells l)
theorem Own8.form {B : Nat} {v : Value} {l : List UInt8} {w : World} (h : Own8 B v l w) (hl : 0 < l.length) : ∃ g cap, v = .slice (some ⟨g, 0, none⟩) l.length cap ∧ B ≤ g ∧ g < w.heap.size := by
  rcases h.2 with ⟨_, h0⟩ | ⟨g, cap, cur, hv, hB, hg, _⟩
  · omega
  · exact ⟨g, cap, hv, hB, (Array.getElem?_eq_some_iff.1 hg).1⟩
theorem Own8.formN {B n : Nat} {v : Value} {l : List UInt8} {w : World} (h : Own8 B v l w) (hn : l.length = n) (hl : 0 < n) : ∃ g cap, v = .slice (some ⟨g, 0, none⟩) n cap ∧ B ≤ g ∧ g < w.heap.size := by
  subst hn
  exact h.form hl
theorem Own8.cell {B g cap n : Nat} {l : List UInt8} {w : World} (h : Own8 B (.slice (some ⟨g, 0, none⟩) n cap) l w) : ∀ j (hj : j < l.length), w.cell? ((⟨g, 0, none⟩ : Addr).add j) = some (.int .u8 (l[j].toNat : Int)) := by
  intro j hj
  refine h.cells rfl j _ ?_
  simp [Lib.byteCells, hj]

theorem len8_get (n j : Nat) (h : j < 8) : (len8 n).take (j + 1) = (len8 n).take j ++ [UInt8.ofNat (n / 256 ^ (7 - j))] := by
  have : j = 0 ∨ j = 1 ∨ j = 2 ∨ j = 3 ∨ j = 4 ∨ j = 5 ∨ j = 6 ∨ j = 7 := by omega
  rcases this with rfl | rfl | rfl | rfl | rfl | rfl | rfl | rfl <;> simp [len8]

theorem Own8.push {B : Nat} {v' : Value} {l : List UInt8} {w' : World} {c : Int} {b : UInt8} (h : w'.ownsRow B 5 1 v' (l.length + 1) (Lib.byteCells l ++ [.int .u8 c])) (hc : c = (b.toNat : Int)) : Own8 B v' (l ++ [b]) w' := by
  unfold Own8
  have e1 : (l ++ [b]).length = l.length + 1 := by simp
  have e2 : Lib.byteCells (l ++ [b]) = Lib.byteCells l ++ [.int .u8 c] := by simp [Lib.byteCells, hc]
  rw [e1, e2]
  exact h

set_option maxHeartbeats 2000000 in
theorem ref_padded (s : ByteArray) (w : World) (hs : s.size ≤ 140737488351232) :
    Calls Tryz.prog 110 #[.string s] w fun e w' => e = .returned (.string (bs (padded s.data.toList))) ∧ Below w.heap.size w w' := by
  obtain ⟨i0, hi, hz0, hz1, hz2⟩ := info_parts info5
  have hlen : s.data.toList.length = s.size := by rw [← Lib.size_eq]
  obtain ⟨N, hN⟩ : ∃ N, N = s.size := ⟨_, rfl⟩
  rw [← hN] at hlen hs
  have HL := Lib.hid hlen
  have HN := Lib.hid hN
  have hsz : (s.size : Int) = (N : Int) := by rw [hN]
  clear hlen hN
  go_enter Tryz.func110, Tryz.ntmps110
  go_wp2_with (at_builtin; refine Lib.wpList_append_own_string _ rfl _ _ 62 9 rfl w.heap.size 5 i0 Tryz.underlying62 Tryz.underlying9 hi hz0 hz1 hz2 _ _ _ rfl (World.ownsRow_nil _ _ _ _) s rfl ?d1 ?d2 ?d3 ?_)
  case d1 => unfold maxLen; have := HN.out; omega
  case d2 => have := HN.out; omega
  case d3 => omega
  intro v1 w1 hown1 hg1 _
  have O1 := Lib.hid (show Own8 w.heap.size v1 s.data.toList w1 by
    unfold Own8
    rw [HL.out, HN.out]
    exact hown1)
  have K1 := Lib.hid ((Below.refl w.heap.size w).grown hg1 (Nat.le_refl _) (fun k hk => by simp [Value.ownBlock] at hk))
  clear hown1 hg1
  go_wp2_with (at_builtin; refine wpList_append_own _ rfl _ _ 62 rfl w.heap.size 5 i0 (.int .u8 0) 1 1 Tryz.underlying62 hi hz0 hz1 hz2 rfl (by decide) _ _ _ rfl (O1.out.alloc _) ⟨w1.heap.size, 0, none⟩ 1 1 [.int .u8 128] rfl rfl ?c1 ?c2 ?c3 ?c4 ?c5 ?_)
  case c1 => exact cell_one_new _ _ _
  case c2 => intro u hu; simp at hu; subst hu; rfl
  case c3 => unfold maxLen; have := HL.out; omega
  case c4 => have := HL.out; omega
  case c5 => have := K1.out.size; simp; omega
  intro v2 w2 hown2 hg2 _
  have O2 := Lib.hid (Own8.push (b := 128) hown2 rfl)
  have K2 := Lib.hid ((K1.out.alloc K1.out.size _).grown hg2 (by have := K1.out.size; simp; omega) (fun k hk => (O1.out.lt k hk).1))
  clear hown2 hg2 K1 O1
  go_wp2_with fail
  go_loopw [3] (fun v wr => ∃ z : Nat, z ≤ zerosOf N ∧ Own8 w.heap.size v (s.data.toList ++ [128] ++ List.replicate z 0) wr ∧ Below w.heap.size w wr) (fun v wr => zerosOf N - (sliceLen v - (N + 1)))
  case atStart => exact ⟨0, by omega, by simpa using O2.out, K2.out⟩
  case round =>
    obtain ⟨z, hz, hown, hbw⟩ := hrel
    obtain ⟨n, hn⟩ : ∃ n, n = N + 1 + z := ⟨_, rfl⟩
    have hln : (s.data.toList ++ [128] ++ List.replicate z 0).length = n := by rw [List.length_append, List.length_append, HL.out, List.length_replicate, hn]; rfl
    obtain ⟨g, cap, rfl, hBg, hgl⟩ := hown.formN hln (by omega)
    have hZ : zerosOf N = (119 - N % 64) % 64 := rfl
    obtain ⟨L, hL⟩ : ∃ L, L = s.data.toList ++ [128] ++ List.replicate z 0 := ⟨_, rfl⟩
    rw [← hL] at hown hln
    have HO := Lib.hid hown
    have HB := Lib.hid hbw
    have HLN := Lib.hid hln
    have HLD := Lib.hid hL
    clear hown hbw hln hL
    by_cases hlt : z < zerosOf N
    · have hne : ((n : Int) % 64 == 56) = false := beq_eq_false_iff_ne.2 (by omega)
      have HNZ := Lib.hid hn
      have HZ := Lib.hid hZ
      clear hn hZ
      go_wp2_with (at_builtin; refine wpList_append_own _ rfl _ _ 62 rfl w.heap.size 5 i0 (.int .u8 0) 1 1 Tryz.underlying62 hi hz0 hz1 hz2 rfl (by decide) _ _ _ rfl (HO.out.alloc _) ⟨wr.heap.size, 0, none⟩ 1 1 [.int .u8 0] rfl rfl ?e1 ?e2 ?e3 ?e4 ?e5 ?_)
      case e1 => exact cell_one_new _ _ _
      case e2 => intro u hu; simp at hu; subst hu; rfl
      case e3 => unfold maxLen; have := HLN.out; have := HNZ.out; have := HZ.out; omega
      case e4 => have := HLN.out; have := HNZ.out; have := HZ.out; omega
      case e5 => have := HB.out.size; simp; omega
      intro v3 w3 hown3 hg3 _
      have O3 := Lib.hid (Own8.push (b := 0) hown3 rfl)
      have K3 := Lib.hid ((HB.out.alloc HB.out.size _).grown hg3 (by have := HB.out.size; simp; omega) (fun k hk => (HO.out.lt k hk).1))
      clear hown3 hg3
      go_wp2_with fail
      go_roundw
      case rel => exact ⟨z + 1, by omega, by rw [List.replicate_succ', ← List.append_assoc, ← HLD.out]; exact O3.out, K3.out⟩
      case measure =>
        obtain ⟨g3, cap3, h3, _⟩ := O3.out.formN (n := n + 1) (by rw [List.length_append, HLN.out]; rfl) (by omega)
        have := HNZ.out
        simp [sliceLen, h3]
        omega
    · obtain rfl : z = zerosOf N := by omega
      have heq : ((n : Int) % 64 == 56) = true := beq_iff_eq.2 (by omega)
      have HNZ := Lib.hid hn
      have HZ := Lib.hid hZ
      clear hn hZ
      go_wp2_with fail
      obtain ⟨M, hM⟩ : ∃ M, M = 8 * N := ⟨_, rfl⟩
      have hM' : (N : Int) * 8 = (M : Int) := by omega
      rw [hM', show ((n : Int) % 64 != 56) = false by unfold bne; rw [heq]; rfl]
      have hMl := Lib.hid (show M ≤ 1125899906809856 by omega)
      have HM := Lib.hid hM
      clear heq hM' hM
      go_loopw [3, 5] (fun v i wr => ∃ j : Nat, j ≤ 8 ∧ i = .int .i64 (7 - (j : Int)) ∧ Own8 w.heap.size v (L ++ (len8 M).take j) wr ∧ Below w.heap.size w wr) (fun v i wr => (intOf i + 1).toNat)
      case atStart => exact ⟨0, by omega, rfl, by simpa using HO.out, HB.out⟩
      case round =>
        obtain ⟨j, hj, rfl, hown, hbw⟩ := hrel
        have hln2 : (L ++ (len8 M).take j).length = n + j := by rw [List.length_append, HLN.out, List.length_take]; have : (len8 M).length = 8 := rfl; omega
        obtain ⟨L2, hL2⟩ : ∃ L2, L2 = L ++ (len8 M).take j := ⟨_, rfl⟩
        rw [← hL2] at hown hln2
        have HL2 := Lib.hid hL2
        have HO2 := Lib.hid hown
        have HB2 := Lib.hid hbw
        clear hown hbw HO HB hL2
        have HLN2 := Lib.hid hln2
        obtain ⟨g2, cap2, rfl, _, _⟩ := HO2.out.formN hln2 (by have := HNZ.out; omega)
        clear hln2
        rcases Nat.lt_or_ge j 8 with hj8 | hj8
        · obtain ⟨I, hI⟩ : ∃ I, I = 7 - j := ⟨_, rfl⟩
          have hI' : (7 : Int) - (j : Int) = (I : Int) := by omega
          rw [hI']
          have HI := Lib.hid hI
          have hIl : I ≤ 7 := by omega
          have HJ := Lib.hid hj8
          have HI2 := Lib.hid hI'
          clear hI hI' hj hj8
          go_wp2_with fail
          go_loopw [6, 7] (fun x i wo => ∃ k : Nat, k ≤ I ∧ i = .int .i64 k ∧ x = .int .u64 ((M / 256 ^ k : Nat) : Int) ∧ wo = wr) (fun x i wo => I - (intOf i).toNat)
          case atStart => exact ⟨0, by omega, rfl, by simp, rfl⟩
          case round =>
            obtain ⟨k, hk, rfl, rfl, rfl⟩ := hrel
            have hq : M / 256 ^ k ≤ M := Nat.div_le_self _ _
            have hqs : M / 256 ^ (k + 1) = M / 256 ^ k / 256 := by rw [Nat.pow_succ, Nat.div_div_eq_div_mul]
            obtain ⟨Q, hQ⟩ : ∃ Q, Q = M / 256 ^ k := ⟨_, rfl⟩
            rw [← hQ] at hq hqs ⊢
            have HQ := Lib.hid hQ
            have HQS := Lib.hid hqs
            have HQL := Lib.hid (show Q ≤ 1125899906809856 by have := hMl.out; omega)
            clear hQ hqs hq
            by_cases hlt2 : k < I
            · have hQl := HQL.out
              go_wp2_with fail
              go_roundw
              case rel => exact ⟨k + 1, by omega, by go_num, congrArg (Value.int .u64) (by rw [HQS.out]; exact (Int.natCast_ediv Q 256).symm), trivial⟩
              case measure => simp [intOf]; omega
            · obtain rfl : k = I := by omega
              go_wp2_with (at_builtin; refine wpList_append_own _ rfl _ _ 62 rfl w.heap.size 5 i0 (.int .u8 0) 1 1 Tryz.underlying62 hi hz0 hz1 hz2 rfl (by decide) _ _ _ rfl (HO2.out.alloc _) ⟨wr.heap.size, 0, none⟩ 1 1 [.int .u8 ((Q : Int) % 256)] rfl rfl ?f1 ?f2 ?f3 ?f4 ?f5 ?_)
              case f1 => exact cell_one_new _ _ _
              case f2 => intro u hu; simp at hu; subst hu; rfl
              case f3 => unfold maxLen; have := HLN2.out; have := HNZ.out; have := HZ.out; have := HJ.out; omega
              case f4 => have := HLN2.out; have := HNZ.out; have := HZ.out; have := HJ.out; omega
              case f5 => have := HB2.out.size; simp; omega
              intro v3 w3 hown3 hg3 _
              have O3 := Lib.hid (Own8.push (b := UInt8.ofNat Q) hown3 (by rw [UInt8.toNat_ofNat']; rfl))
              have K3 := Lib.hid ((HB2.out.alloc HB2.out.size _).grown hg3 (by have := HB2.out.size; simp; omega) (fun k hk => (HO2.out.lt k hk).1))
              clear hown3 hg3
              go_wp2_with fail
              go_roundw
              case rel =>
                have h8 := len8_get M j HJ.out
                rw [← HI.out, ← HQ.out] at h8
                exact ⟨j + 1, by have := HJ.out; omega, by have := HI2.out; go_num, by rw [h8, ← List.append_assoc, ← HL2.out]; exact O3.out, K3.out⟩
              case measure => have := HI2.out; simp [intOf]
        · obtain rfl : j = 8 := by omega
          have hcv := run_convert_bytes_back (P := Tryz.prog) wr 62 9 5 ⟨g2, 0, none⟩ cap2 L2 Tryz.underlying62 Tryz.underlying5 Tryz.underlying9 HO2.out.cell
          rw [HLN2.out] at hcv
          have hres : (⟨L2.toArray⟩ : ByteArray) = bs (padded s.data.toList) := by
            unfold padded bs
            rw [HL2.out, HL.out, ← HLD.out, ← HM.out]
            rfl
          rw [hres] at hcv
          rw [show (7 : Int) - ((8 : Nat) : Int) = -1 from rfl]
          clear hres
          go_wp2
          go_ret
          exact ⟨rfl, HB2.out⟩
end Go.Proofs.YteejldddgogbkaaGreatDoor
