/- Texts put together: TableKeys, TableFoot, TableBuild, TableAwake -/
import Derived.Test.YteejldddgogbkaaGreatDoorTOp19
import Derived.Test.YteejldddgogbkaaGreatDoorTOp14
import Derived.Test.YteejldddgogbkaaGreatDoorTOp18
import Derived.Test.YteejldddgogbkaaGreatDoorTOp10
import Derived.Test.YteejldddgogbkaaGreatDoorTOp05
import Derived.Test.YteejldddgogbkaaGreatDoorTOp02
import Derived.Test.YteejldddgogbkaaGreatDoorTOp15
import Derived.Test.YteejldddgogbkaaGreatDoorTOp25
import Derived.Test.YteejldddgogbkaaGreatDoorTOp07
import Derived.Test.YteejldddgogbkaaGreatDoorTOp24
import Derived.Test.YteejldddgogbkaaGreatDoorTOp20
/- The entries' keys. -/
set_option linter.unusedVariables false
set_option maxRecDepth 100000
namespace Go.Proofs.YteejldddgogbkaaGreatDoor
open Go.RowKit Go.Shelf

def kyCells (T : List Ent) (i : Nat) : List Value := (T.take i).map (fun x => Value.string (bs x.key)) ++ List.replicate (T.length - i) (.string ByteArray.empty)
theorem kyCells_len (T : List Ent) (i : Nat) (h : i ≤ T.length) : (kyCells T i).length = T.length := by simp [kyCells]; omega
theorem kyCells_set {T : List Ent} {i : Nat} {x : Ent} (h : T[i]? = some x) : (kyCells T i).set i (.string (bs x.key)) = kyCells T (i + 1) := by
  have hl := (List.getElem?_eq_some_iff.1 h).1
  obtain ⟨n, hn⟩ : ∃ n, T.length - i = n + 1 := ⟨T.length - i - 1, by omega⟩
  have hn2 : T.length - (i + 1) = n := by omega
  unfold kyCells
  rw [hn, hn2, List.take_add_one, h, List.map_append, List.set_append_right _ _ (by rw [List.length_map, List.length_take]; omega), List.replicate_succ]
  simp [Nat.min_eq_left (Nat.le_of_lt hl)]
theorem kyCells_all (T : List Ent) : kyCells T T.length = (T.map (fun x => bs x.key)).map Value.string := by simp [kyCells]
/-- The row of keys that a call has laid. -/
def KeyR (g : Nat) (T : List Ent) (i : Nat) (w : World) : Prop := w.heap[g]? = some (.cells (kyCells T i).toArray 9 (0, 0))
set_option maxHeartbeats 2000000 in
theorem table_keysOf (a : Option Addr) (len cap : Nat) (T : List Ent) (w : World) (hT : Hid (IsE w a len T)) (hl : len ≤ 65536) :
    Calls Tryz.prog 26 #[.slice a len cap] w fun e w' => e = .returned (.slice (some ⟨w.heap.size, 0, none⟩) len len) ∧ RowS w.heap.size 0 (T.map fun x => bs x.key) w' ∧ Below w.heap.size w w' := by
  have hlen := Lib.hid (show len = T.length from hT.out.1)
  have HM := Lib.hid (fun w => run_make_row' (P := Tryz.prog) 32 9 (.string ByteArray.empty) 16 Tryz.underlying32 infoK rfl .i64 .i64 len (by omega) (by omega) w)
  obtain ⟨g, hg⟩ : ∃ g, g = w.heap.size := ⟨_, rfl⟩
  obtain ⟨w1, hw1⟩ : ∃ w1, w1 = w.alloc (.cells (madeCells #[.string ByteArray.empty] len) 9) := ⟨_, rfl⟩
  have B1 := Lib.hid (show Below w.heap.size w w1 by rw [hw1]; exact (Below.refl _ _).alloc (Nat.le_refl _) _)
  have S1 := Lib.hid (show w1.heap.size = g + 1 by rw [hw1, hg]; simp)
  have R1 := Lib.hid (show KeyR g T 0 w1 by
    unfold KeyR
    rw [hw1, hg, madeCells_one, show kyCells T 0 = List.replicate len (.string ByteArray.empty) by simp [kyCells, hlen.out]]
    have := heap_new w (.cells (Array.replicate len (.string ByteArray.empty)) 9)
    rw [this]
    simp)
  rw [← hg]
  have HW1 := Lib.hid hw1
  have HG := Lib.hid hg
  have T1 := Lib.hid (hT.out.below B1.out)
  clear hw1 hg
  go_enter Tryz.func26, Tryz.ntmps26
  have hM := HM.out
  go_wp2_with fail
  clear hM
  rw [← HG.out]
  rw [← HW1.out]
  go_loopw [11] (fun vi wr => ∃ i : Nat, i ≤ len ∧ vi = .int .i64 (i : Int) ∧ Hid (KeyR g T i wr) ∧ Hid (Only (fun j => j = g) w1 wr)) (fun vi wr => len - (intOf vi).toNat)
  case atStart => exact ⟨0, by omega, rfl, R1, Lib.hid (Only.refl _ _)⟩
  case round =>
    obtain ⟨i, hi, rfl, hR, hO⟩ := hrel
    rcases Nat.lt_or_ge i len with hlt | hge
    · have hBr := Lib.hid (show Below g w1 wr from hO.out.below (fun k _ e => by rw [e]; exact Nat.le_refl _) (by rw [S1.out]; omega))
      have hTr := Lib.hid (show IsE wr a len T from (hT.out.below (by have h := B1.out; rw [← HG.out] at h ⊢; exact h.trans hBr.out)))
      obtain ⟨b, off, x, rfl, hx, _, hc⟩ := hTr.out.at hlt
      have c0 := hc.c0
      have c1 := hc.c1
      have c2 := hc.c2
      have hlt' : (i : Int) < (len : Int) := by omega
      have hset := Lib.hid (kyCells_set hx)
      have hgl := Lib.hid (heap_lt hR.out)
      obtain ⟨w2, hw2⟩ : ∃ w2, w2 = wr.alloc (.cells #[.string (bs x.key), .string (bs x.val), .bool x.gone] 49) := ⟨_, rfl⟩
      have hR2 := Lib.hid (show KeyR g T i w2 by rw [hw2]; exact (Below.heap_alloc wr _ g hgl.out).trans hR.out)
      have hO2 := Lib.hid (show Only (fun j => j = g) w1 w2 by rw [hw2]; exact hO.out.alloc _)
      have k0 : w2.cell? ⟨g, i, none⟩ = some (.string ByteArray.empty) := by
        have h := hR2.out
        unfold KeyR at h
        simp only [World.cell?, h]
        simp [kyCells, hlen.out ▸ hlt, hlen.out ▸ hi]
      have f0 : w2.frozen? ⟨g, i, none⟩ = false := by
        have h := hR2.out
        unfold KeyR at h
        simp [World.frozen?, h]
      have HW2 := Lib.hid hw2
      have hO3 := Lib.hid (show Only (fun j => j = g) w1 (w2.setCell ⟨g, i, none⟩ (.string (bs x.key))) from hO2.out.setCell (p := ⟨g, i, none⟩) (.inl rfl) _)
      have hR3 := Lib.hid (show KeyR g T (i + 1) (w2.setCell ⟨g, i, none⟩ (.string (bs x.key))) by
        have h := heap_set (o := i) hR2.out (.string (bs x.key))
        unfold KeyR
        rw [h, ← hset.out]
        simp)
      rw [hw2] at k0 f0
      clear hx hc hw2
      go_wp2_with fail
      go_roundw
      case rel => exact ⟨i + 1, by omega, by go_num, by rw [HW2.out] at hR3; exact hR3, by rw [HW2.out] at hO3; exact hO3⟩
      case measure => simp [intOf]; omega
    · obtain rfl : i = len := by omega
      go_wp2_with fail
      go_ret
      refine ⟨rfl, fun k hk => ⟨heap_lt hR.out, ?_⟩, ?_⟩
      · have h := hR.out
        unfold KeyR at h
        rw [hlen.out, kyCells_all] at h
        simp only [World.cell?, h, Nat.zero_add]
        simp [List.getD_eq_getElem?_getD, List.getElem?_eq_getElem hk]
        exact ⟨T[k]'(by simpa using hk), List.getElem?_eq_getElem _, rfl⟩
      · have h := B1.out
        rw [← HG.out] at h
        exact h.trans (hO.out.below (fun k _ e => by rw [e]; exact Nat.le_refl _) (by rw [S1.out]; omega))
end Go.Proofs.YteejldddgogbkaaGreatDoor
/- The foot, packed. -/
set_option linter.unusedVariables false
set_option maxRecDepth 100000
namespace Go.Proofs.YteejldddgogbkaaGreatDoor
open Go.RowKit

theorem arrF : Tryz.prog.underlying 121 = some (.array 3 3) := Tryz.underlying121
theorem notAggF : ∀ w, (isAgg 3).run Tryz.prog w = .ok false w := fun w => by simp [isAgg, run_underlying Tryz.underlying3, go_sem]
theorem sizeF : ∀ w, (Go.sizeOf 3).run Tryz.prog w = .ok 1 w := fun w => by kernel_rfl
/-- The bytes of numbers, one behind the other. -/
def fours (l : List Nat) : List UInt8 := l.flatMap four
theorem fours_snoc (l : List Nat) (x : Nat) : fours (l ++ [x]) = fours l ++ four x := by simp [fours]
theorem four_get (x j : Nat) (h : j < 4) : (four x).take (j + 1) = (four x).take j ++ [UInt8.ofNat (x / 2 ^ (24 - 8 * j))] := by
  rcases (by omega : j = 0 ∨ j = 1 ∨ j = 2 ∨ j = 3) with rfl | rfl | rfl | rfl <;> simp [four]
set_option maxHeartbeats 2000000 in
theorem foot_pack (a b n : Nat) (w : World) (ha : a < 4294967296) (hb : b < 4294967296) (hn : n < 4294967296) :
    Calls Tryz.prog 29 #[.agg #[.int .i64 (a : Int), .int .i64 (b : Int), .int .i64 (n : Int)]] w fun e w' => e = .returned (.string (bs (crcd (footB a b n)))) ∧ Below w.heap.size w w' := by
  obtain ⟨i0, hi, hz0, hz1, hz2⟩ := info_parts info5
  obtain ⟨w1, hw1⟩ : ∃ w1, w1 = w.alloc (.cells #[.int .i64 (a : Int), .int .i64 (b : Int), .int .i64 (n : Int)] 67) := ⟨_, rfl⟩
  have B1 := Lib.hid (show Below w.heap.size w w1 by rw [hw1]; exact (Below.refl _ _).alloc (Nat.le_refl _) _)
  have HW1 := Lib.hid hw1
  clear hw1
  have hix := Lib.hid (fun (k x : Nat) (hk : k < 3) (hx : ([a, b, n] : List Nat)[k]? = some x) => run_index_arr 121 3 3 #[.int .i64 (a : Int), .int .i64 (b : Int), .int .i64 (n : Int)] k (.int .i64 (x : Int)) arrF notAggF sizeF hk (by
    rcases (by omega : k = 0 ∨ k = 1 ∨ k = 2) with rfl | rfl | rfl <;> (simp at hx; subst hx; rfl)))
  have hall := Lib.hid (show ∀ x ∈ ([a, b, n] : List Nat), x < 4294967296 from fun x hx => by simp at hx; rcases hx with rfl | rfl | rfl <;> assumption)
  obtain ⟨L, hL⟩ : ∃ L : List Nat, L = [a, b, n] := ⟨_, rfl⟩
  have hLl : L.length = 3 := by rw [hL]; rfl
  have hfin := Lib.hid (show fours L = footB a b n by rw [hL]; simp [fours, footB])
  rw [← hL] at hix hall
  have HLl := Lib.hid hLl
  clear hL ha hb hn hLl
  go_enter Tryz.func29, Tryz.ntmps29
  go_upto_region 1 with (fail)
  change Code.wp _ _ _ _ (w.alloc (.cells #[.int .i64 (a : Int), .int .i64 (b : Int), .int .i64 (n : Int)] 67))
  rw [← HW1.out]
  have c0 : w1.cell? ⟨w.heap.size, 0, none⟩ = some (.int .i64 (a : Int)) := by rw [HW1.out, World.cell?_alloc_mark]; rfl
  have c1 : w1.cell? ⟨w.heap.size, 1, none⟩ = some (.int .i64 (b : Int)) := by rw [HW1.out, World.cell?_alloc_mark]; rfl
  have c2 : w1.cell? ⟨w.heap.size, 2, none⟩ = some (.int .i64 (n : Int)) := by rw [HW1.out, World.cell?_alloc_mark]; rfl
  go_wp2_with fail
  clear c0 c1 c2
  go_loopw [3, 14] (fun v vi wr => ∃ k : Nat, k ≤ 3 ∧ vi = .int .i64 (k : Int) ∧ Hid (Own8 w1.heap.size v (fours (L.take k)) wr) ∧ Hid (Below w1.heap.size w1 wr)) (fun v vi wr => 3 - (intOf vi).toNat)
  case atStart => exact ⟨0, by omega, rfl, Lib.hid (World.ownsRow_nil _ _ _ _), Lib.hid (Below.refl _ _)⟩
  case round =>
    obtain ⟨k, hk, rfl, hO, hB⟩ := hrel
    rcases Nat.lt_or_ge k 3 with h3 | h3
    · obtain ⟨x, hx⟩ : ∃ x, L[k]? = some x := ⟨_, List.getElem?_eq_getElem (by rw [HLl.out]; exact h3)⟩
      have hxk := hix.out k x h3 hx
      have hx32 := hall.out x (List.mem_of_getElem? hx)
      have HN := Lib.hid (show fours (L.take (k + 1)) = fours (L.take k) ++ four x by rw [List.take_add_one, hx]; exact fours_snoc _ _)
      have H3 := Lib.hid h3
      have h3' : (k : Int) < 3 := by omega
      have h3d : decide ((k : Int) < 3) = true := decide_eq_true h3'
      clear hx
      go_wp2_with fail
      go_loopw [3, 6] (fun v vi wi => ∃ j : Nat, j ≤ 4 ∧ vi = .int .i64 (24 - 8 * (j : Int)) ∧ Hid (Own8 w1.heap.size v (fours (L.take k) ++ (four x).take j) wi) ∧ Hid (Below w1.heap.size w1 wi)) (fun v vi wi => (intOf vi + 8).toNat)
      case atStart => exact ⟨0, by omega, rfl, Lib.hid (by rw [List.take_zero, List.append_nil]; exact hO.out), hB⟩
      case round =>
        obtain ⟨j, hj, rfl, hO2, hB2⟩ := hrel
        rcases Nat.lt_or_ge j 4 with h4 | h4
        · have hOl := Lib.hid (show (fours (L.take k) ++ (four x).take j).length ≤ 100 by
            have hf : ∀ l : List Nat, (fours l).length = l.length * 4 := fun l => by
              induction l with
              | nil => rfl
              | cons y l ih =>
                have : fours (y :: l) = four y ++ fours l := rfl
                rw [this, List.length_append, ih, four_len, List.length_cons]
                omega
            rw [List.length_append, hf, List.length_take, List.length_take, HLl.out, four_len]
            omega)
          have hsz := Lib.hid (show w1.heap.size ≤ wr.heap.size from hB2.out.size)
          have HP := Lib.hid (four_get x j h4)
          obtain ⟨s, hs⟩ : ∃ s : Nat, s = 24 - 8 * j := ⟨_, rfl⟩
          have hs24 : (24 - 8 * (j : Int)) = (s : Int) := by omega
          have hnx := Lib.hid (show ((s : Int) - 8) = (24 - 8 * ((j + 1 : Nat) : Int)) by omega)
          rw [hs24]
          rw [← hs] at HP
          have hs63 : s ≤ 24 := by omega
          obtain ⟨Y, hYn⟩ : ∃ Y : Nat, Y = x / 2 ^ s % 256 := ⟨_, rfl⟩
          have hY : (x : Int) / 2 ^ s % 256 = (Y : Int) := by rw [hYn]; norm_cast
          have hY8 := Lib.hid (show ((Y : Nat) : Int) = ((UInt8.ofNat (x / 2 ^ s)).toNat : Int) by rw [ofNat_toNat, hYn])
          have HJ := Lib.hid h4
          have HS := Lib.hid hs24
          obtain ⟨l, hl⟩ : ∃ l, l = fours (L.take k) ++ (four x).take j := ⟨_, rfl⟩
          have hO3 := Lib.hid (show Own8 w1.heap.size u3 l wr by rw [hl]; exact hO2.out)
          have HL2 := Lib.hid (show l.length ≤ 100 by rw [hl]; exact hOl.out)
          have HPl := Lib.hid (show l ++ [UInt8.ofNat (x / 2 ^ s)] = fours (L.take k) ++ (four x).take (j + 1) by rw [hl, HP.out, List.append_assoc])
          clear h4 hs hs24 hYn hl hOl hO2
          go_wp2_with (first | (refine wpList_append_own _ rfl (.tmp 21) (.tmp 26) 62 rfl w1.heap.size 5 i0 (.int .u8 0) 1 1 Tryz.underlying62 hi hz0 hz1 hz2 rfl (by decide) u3 l.length (Lib.byteCells l) (by simp [Act.eval, Act.put]) (World.ownsRow.alloc hO3.out _) ⟨wr.heap.size, 0, none⟩ 1 1 [.int .u8 (Y : Int)] (by simp [Act.eval, Act.put]) rfl (fun j u hj => cell_one_new _ _ _ j u hj) (by simp [Value.oneCell']) (by unfold maxLen; have := HL2.out; omega) (by have := HL2.out; omega) (by have := hsz.out; simp; omega) ?_; intro v3 w3 hown3 hg3 _))
          go_roundw
          case rel =>
            refine ⟨j + 1, by have := HJ.out; omega, by rw [← hnx.out], Lib.hid ?_, Lib.hid ?_⟩
            · rw [← HPl.out]
              exact Own8.push (b := UInt8.ofNat (x / 2 ^ s)) hown3 hY8.out
            · exact (hB2.out.alloc hsz.out _).grown hg3 (by have := hsz.out; simp; omega) (fun j hj => (World.ownsRow.lt hO3.out j hj).1)
          case measure => simp [intOf]; omega
        · obtain rfl : j = 4 := by omega
          rw [show (24 - 8 * ((4 : Nat) : Int)) = -8 from rfl]
          go_wp2_with fail
          go_roundw
          case rel => exact ⟨k + 1, by omega, by go_num, Lib.hid (by rw [HN.out]; exact hO2.out), hB2⟩
          case measure => have := H3.out; simp [intOf]; omega
    · obtain rfl : k = 3 := by omega
      rw [show ((3 : Nat) : Int) = 3 from rfl]
      have hO3 : Own8 w1.heap.size u3 (footB a b n) wr := by rw [← hfin.out, ← List.take_of_length_le (l := L) (i := 3) (by rw [HLl.out]; exact Nat.le_refl _)]; exact hO.out
      obtain ⟨gv, cv, hgv, hgvB, hgvl⟩ := Own8.formN (n := 12) hO3 rfl (by omega)
      rw [hgv] at hO3
      have rowv : Row8 gv (footB a b n) wr := ⟨hgvl, fun j hj => by
        have h1 := Own8.cell hO3 j hj
        rw [addr_add, Nat.zero_add] at h1
        refine ⟨by rw [h1, byteAt_get _ j hj], ?_⟩
        exact World.ownsRow.frozenAt (cap := cv) (xs := Lib.byteCells (footB a b n)) (by have := hO3; unfold Own8 at this; exact this) j⟩
      have hcv := conv_back wr gv (footB a b n) 12 cv rfl rowv
      rw [hgv]
      clear rowv hO3
      go_wp2_with fail
      have hcp := crc_Put (bs (footB a b n)) wr (by rw [bs_size]; show 12 ≤ _; omega)
      rw [bs_list, show footB a b n ++ four (sumL (footB a b n)) = crcd (footB a b n) from rfl] at hcp
      refine hcp.mono ?_
      rintro e w3 ⟨rfl, k3⟩
      have K3 := Lib.hid (B1.out.trans ((hB.out.trans (k3.mono hB.out.size)).mono B1.out.size))
      clear k3
      go_wp2_with fail
      go_ret
      exact ⟨rfl, K3.out⟩
end Go.Proofs.YteejldddgogbkaaGreatDoor
/- The program's Build. -/
set_option linter.unusedVariables false
set_option maxRecDepth 100000
namespace Go.Proofs.YteejldddgogbkaaGreatDoor
open Go.RowKit

def buildE' (each per : Int) (T : List Ent) : Int := if each < 1 ∨ 256 < each ∨ per < 1 ∨ 32 < per then 1 else chkE T
set_option maxHeartbeats 2000000 in
theorem build_arg (a : Option Addr) (len cap : Nat) (each per : Int) (w : World) (h : each < 1 ∨ 256 < each ∨ per < 1 ∨ 32 < per) :
    Calls Tryz.prog 7 #[.slice a len cap, .int .i64 each, .int .i64 per] w fun e w' => e = .returned (.tuple #[.string (bs []), .int .i64 1]) ∧ Below w.heap.size w w' := by
  by_cases h1 : each < 1
  · go_enter Tryz.func7, Tryz.ntmps7
    go_wp2_with fail
    go_ret2
    exact ⟨rfl, Below.refl _ _⟩
  by_cases h2 : 256 < each
  · go_enter Tryz.func7, Tryz.ntmps7
    go_wp2_with fail
    go_ret2
    exact ⟨rfl, Below.refl _ _⟩
  by_cases h3 : per < 1
  · go_enter Tryz.func7, Tryz.ntmps7
    go_wp2_with fail
    go_ret2
    exact ⟨rfl, Below.refl _ _⟩
  · have h4 : 32 < per := by omega
    go_enter Tryz.func7, Tryz.ntmps7
    go_wp2_with fail
    go_ret2
    exact ⟨rfl, Below.refl _ _⟩
set_option maxHeartbeats 2000000 in
theorem build_bad (a : Option Addr) (len cap : Nat) (T : List Ent) (each per : Int) (w : World) (hT : Hid (IsE w a len T)) (hl : len ≤ 9223372036854775807) (hs : Hid (fitE T)) (h1 : 1 ≤ each) (h2 : each ≤ 256) (h3 : 1 ≤ per) (h4 : per ≤ 32) (hc : Hid (chkE T ≠ 0)) :
    Calls Tryz.prog 7 #[.slice a len cap, .int .i64 each, .int .i64 per] w fun e w' => e = .returned (.tuple #[.string (bs []), .int .i64 (chkE T)]) ∧ Below w.heap.size w w' := by
  have H := Lib.hid (block_Check a len cap T w hT hl hs)
  obtain ⟨z, hz⟩ : ∃ z, z = chkE T := ⟨_, rfl⟩
  have hz0 := hc.out
  have hzc := chkE_cases T
  rw [← hz] at H hz0 hzc ⊢
  clear hc hz hs hT
  go_enter Tryz.func7, Tryz.ntmps7
  go_wp2_with fail
  refine H.out.mono ?_
  rintro e w1 ⟨rfl, k1⟩
  go_wp2_with fail
  go_ret2
  exact ⟨rfl, k1⟩
set_option maxHeartbeats 4000000 in
theorem build_ok (a : Option Addr) (len cap : Nat) (T : List Ent) (each per : Nat) (w : World) (hT : Hid (IsE w a len T)) (hl : len ≤ 3001) (hcap : len ≤ cap) (h1 : 1 ≤ each) (h2 : each ≤ 256) (h3 : 1 ≤ per) (h4 : per ≤ 32) (hc : Hid (chkE T = 0)) (hg : Hid (Glob w)) :
    Calls Tryz.prog 7 #[.slice a len cap, .int .i64 (each : Int), .int .i64 (per : Int)] w fun e w' => e = .returned (.tuple #[.string (bs (tabB each per T)), .int .i64 0]) ∧ Below w.heap.size w w' := by
  obtain ⟨hok, hlT⟩ := (chkE_ok T).1 hc.out
  have hsm := Lib.hid (smallE_of hok)
  have hlen := Lib.hid (show len = T.length from hT.out.1)
  have hr := (rises_of_okEs true [] hok).1
  obtain ⟨C, hC⟩ : ∃ C, C = chunks each T := ⟨_, rfl⟩
  obtain ⟨hfl, hcn⟩ := chunks_all (k := each) (by omega) T
  rw [← hC] at hfl hcn
  have hcs : ∀ c ∈ C, smallE c ∧ 1 ≤ c.length ∧ c.length ≤ 65536 := fun c hc => ⟨fun x hx => hsm.out x (by rw [← hfl]; exact List.mem_flatten.2 ⟨c, hc, hx⟩), (hcn c hc).1, by have := (hcn c hc).2; omega⟩
  have hbl := blks_len C hcs
  rw [hfl, ← hlen.out] at hbl
  have hix := Lib.hid (idxs_ok (C := C) (by rw [hfl]; exact hr) hcs (by omega) (by omega))
  have hxs := Lib.hid (idxs_small C 0 hcs (by omega))
  have hYl := blkB_len hxs.out (by rw [idxs_len]; omega)
  rw [idxs_len] at hYl
  have hFl := filB_len (T := T) h3 h4 hlT
  have H := Lib.hid (block_Check a len cap T w hT (by omega) (Lib.hid (fit_of_small hsm.out)))
  rw [hc.out] at H
  obtain ⟨S, hS⟩ : ∃ S, S = blksB C := ⟨_, rfl⟩
  obtain ⟨Y, hY⟩ : ∃ Y, Y = blkB (idxs 0 C) := ⟨_, rfl⟩
  obtain ⟨F, hF⟩ : ∃ F, F = filB per T := ⟨_, rfl⟩
  have hSl : S.length ≤ 500000000 := by rw [hS]; omega
  have hYl' : Y.length ≤ 500000000 := by rw [hY]; omega
  have hFl' : F.length ≤ 300000 := by rw [hF]; exact hFl
  have HR := Lib.hid (show tabB each per T = S ++ Y ++ crcd F ++ crcd (footB S.length (S.length + Y.length) len) by rw [hS, hY, hF, hC, hlen.out]; rfl)
  have HS := Lib.hid hS
  have HY := Lib.hid hY
  have HF := Lib.hid hF
  have HC := Lib.hid hC
  have HCl := Lib.hid hbl.2
  clear hok hlT hr hC hfl hcn hcs hbl hYl hFl hS hY hF
  go_enter Tryz.func7, Tryz.ntmps7
  go_wp2_with fail
  refine H.out.mono ?_
  rintro e w1 ⟨rfl, k1⟩
  have K1 := Lib.hid k1
  clear k1
  obtain ⟨O, hO⟩ : ∃ O, O = w1.heap.size := ⟨_, rfl⟩
  obtain ⟨w2, hw2⟩ : ∃ w2, w2 = w1.alloc (.cells #[.pointer none, .slice none 0 0] 64) := ⟨_, rfl⟩
  have Sb2 := Lib.hid (show Sb O O [] w2 by rw [hw2, hO]; exact sb_new w1)
  have K2 := Lib.hid (show Below w.heap.size w w2 by rw [hw2]; exact K1.out.alloc K1.out.size _)
  have Z2 := Lib.hid (show w2.heap.size = O + 1 ∧ w.heap.size ≤ O by rw [hw2, hO]; exact ⟨by simp, K1.out.size⟩)
  have T2 := Lib.hid (show ∀ w', Below O w2 w' → IsE w' a len T from fun w' hk => hT.out.below (K2.out.trans (hk.mono Z2.out.2)))
  have HW2 := Lib.hid hw2
  have HO := Lib.hid hO
  clear hw2 hO
  go_wp2_with fail
  rw [← HO.out]
  rw [← HW2.out]
  have hpb := table_putBlocks O O each a len cap T w2 Sb2 T2 hl hcap h1 h2 hc
  rw [← HC.out, ← HS.out] at hpb
  refine hpb.mono ?_
  rintro e w3 ⟨xa, xcap, rfl, hx3, hs3, k3⟩
  obtain ⟨m, hm⟩ : ∃ m, m = C.length := ⟨_, rfl⟩
  rw [← hm] at hx3 ⊢
  have X3 := Lib.hid (show IsE w3 xa m (idxs 0 C) from hx3.is (by rw [idxs_len, hm]))
  have hml : m ≤ 3001 := by rw [hm]; have := HCl.out; omega
  have S3 := Lib.hid hs3
  have K3 := Lib.hid k3
  clear hpb hm hx3 hs3 k3
  go_wp2_with fail
  refine (sb_Len O O S w3 S3.out).mono ?_
  rintro e _ ⟨rfl, rfl⟩
  obtain ⟨D, hD⟩ : ∃ D, D = w3.heap.size := ⟨_, rfl⟩
  obtain ⟨w4, hw4⟩ : ∃ w4, w4 = w3.alloc (.cells #[.int .i64 (S.length : Int), .int .i64 0, .int .i64 (len : Int)] 67) := ⟨_, rfl⟩
  have A4 := Lib.hid (show Below w3.heap.size w3 w4 by rw [hw4]; exact (Below.refl _ _).alloc (Nat.le_refl _) _)
  have S4 := Lib.hid (S3.out.keep A4.out)
  have X4 := Lib.hid (X3.out.below A4.out)
  have D4 := Lib.hid (show w4.heap[D]? = some (.cells #[.int .i64 (S.length : Int), .int .i64 0, .int .i64 (len : Int)] 67 (0, 0)) by rw [hw4, hD]; exact heap_new w3 _)
  have K4 := Lib.hid (show Below O w2 w4 by rw [hw4]; exact K3.out.alloc (by have := Z2.out; have := K3.out.size; omega) _)
  have ZD := Lib.hid (show O < D ∧ D < w4.heap.size from ⟨by have := K3.out.size; have := Z2.out; omega, heap_lt D4.out⟩)
  have HW4 := Lib.hid hw4
  have HD := Lib.hid hD
  clear hw4 hD
  go_wp2_with fail
  rw [← HD.out]
  rw [← HW4.out]
  have hpk := block_Pack xa m xcap (idxs 0 C) w4 X4 (by omega) (Lib.hid (fit_of_small hxs.out))
  rw [hix.out, pack_chk hix.out, ← HY.out] at hpk
  refine hpk.mono ?_
  rintro e w5 ⟨rfl, k5⟩
  have S5 := Lib.hid (S4.out.keep k5)
  have D5 := Lib.hid ((k5.block D ZD.out.2).trans D4.out)
  have K5 := Lib.hid (show Below O w2 w5 from K4.out.trans (k5.mono (by have := ZD.out; omega)))
  clear hpk k5
  go_wp2_with fail
  refine (sb_WriteString O O S (bs Y) w5 S5.out (by rw [bs_size]; omega)).mono ?_
  rintro e w6 ⟨rfl, s6, k6⟩
  rw [bs_list] at s6
  have S6 := Lib.hid s6
  have d6 := k6.keeps D5.out (by have := ZD.out; omega) (by decide)
  have D6 := Lib.hid d6
  have K6 := Lib.hid (K5.out.trans k6.bel)
  clear s6 k6 d6
  go_wp2_with fail
  refine (sb_Len O O (S ++ Y) w6 S6.out).mono ?_
  rintro e _ ⟨rfl, rfl⟩
  obtain ⟨g, hgl⟩ : ∃ g, g = S.length + Y.length := ⟨_, rfl⟩
  rw [List.length_append, ← hgl]
  have HGL := Lib.hid hgl
  have hgb : g ≤ 1000000000 := by omega
  clear hgl
  have c6 : w6.cell? ⟨D, 1, none⟩ = some (.int .i64 0) := by simp [World.cell?, D6.out]
  have f6 : w6.frozen? ⟨D, 1, none⟩ = false := by simp [World.frozen?, D6.out]
  obtain ⟨w7, hw7⟩ : ∃ w7, w7 = w6.setCell ⟨D, 1, none⟩ (.int .i64 (g : Int)) := ⟨_, rfl⟩
  have D7 := Lib.hid (show w7.heap[D]? = some (.cells #[.int .i64 (S.length : Int), .int .i64 (g : Int), .int .i64 (len : Int)] 67 (0, 0)) by rw [hw7]; exact heap_set (o := 1) D6.out _)
  have S7 := Lib.hid (show Sb O O (S ++ Y) w7 by
    rw [hw7]
    exact S6.out.other D6.out (by have := ZD.out; omega) (fun cs fz e => by injection e with _ e _; exact absurd e (by decide)) fun j _ hne => heap_set_other hne _)
  have K7 := Lib.hid (show Below O w2 w7 by rw [hw7]; exact K6.out.setCell (p := ⟨D, 1, none⟩) (by have := ZD.out; show O ≤ D; omega) _)
  have HW7 := Lib.hid hw7
  clear hw7
  go_wp2_with fail
  clear c6 f6
  rw [← HW7.out]
  have hD7 := Lib.hid (heap_lt D7.out)
  refine (table_keysOf a len cap T w7 (Lib.hid (T2.out w7 K7.out)) (by omega)).mono ?_
  rintro e w8 ⟨rfl, r8, k8⟩
  have S8 := Lib.hid (S7.out.keep k8)
  have D8 := Lib.hid ((k8.block D hD7.out).trans D7.out)
  have K8 := Lib.hid (K7.out.trans (k8.mono (by have := ZD.out; have := hD7.out; omega)))
  have G8 := Lib.hid (hg.out.keep (K2.out.trans (K8.out.mono Z2.out.2)) hg.out.1)
  have R8 := Lib.hid r8
  clear k8 r8
  go_wp2_with fail
  have hmk := flt_Make per (some ⟨w7.heap.size, 0, none⟩) len len w7.heap.size 0 (T.map fun x => bs x.key) w8 h3 h4 (Lib.hid (by rw [List.length_map]; exact hlen.out)) (by omega) R8 (Lib.hid (.inr rfl)) (Lib.hid (fun t ht => by
    obtain ⟨x, hx, rfl⟩ := List.mem_map.1 ht
    have := (hsm.out x hx).1
    rw [bs_size]
    omega)) G8
  have hm1 : (T.map fun x => bs x.key).map (·.data.toList) = T.map (·.key) := by rw [List.map_map]; rfl
  have e64 : wordsOf per len * 8 * 8 = wordsOf per len * 64 := by omega
  rw [hm1, e64] at hmk
  refine hmk.mono ?_
  rintro e w9 ⟨rfl, f9, k9⟩
  have F9 := Lib.hid f9
  have S9 := Lib.hid (S8.out.keep k9)
  have D9 := Lib.hid ((k9.block D (heap_lt D8.out)).trans D8.out)
  have K9 := Lib.hid (K8.out.trans (k9.mono (by have := ZD.out; have := heap_lt D8.out; omega)))
  clear hmk f9 k9 hm1 e64
  go_wp2_with fail
  have hfp := flt_pack (w8.heap.size + 1) w8.heap.size (hashesOf per) (wordsOf per len * 8) _ w9 F9 (Lib.hid (bytesOf_len _ _).symm) (by
    have := Nat.mul_le_mul h4 (show len ≤ 3001 from hl)
    unfold wordsOf
    omega) (hashesOf_le per).2
  have hFe : packF (hashesOf per) (bytesOf (made (hashesOf per) (wordsOf per len * 64) (T.map (·.key))) (wordsOf per len * 8)) = F := by rw [HF.out, hlen.out]; rfl
  rw [hFe] at hfp
  refine hfp.mono ?_
  rintro e w10 ⟨rfl, k10⟩
  have S10 := Lib.hid (S9.out.keep k10)
  have D10 := Lib.hid ((k10.block D (heap_lt D9.out)).trans D9.out)
  have K10 := Lib.hid (K9.out.trans (k10.mono (by have := ZD.out; have := heap_lt D9.out; omega)))
  clear hfp hFe k10
  go_wp2_with fail
  have hcp := crc_Put (bs F) w10 (by rw [bs_size]; omega)
  rw [bs_list, show F ++ four (sumL F) = crcd F from rfl] at hcp
  obtain ⟨V, hV⟩ : ∃ V, V = crcd F := ⟨_, rfl⟩
  have hVl : V.length = F.length + 4 := by rw [hV]; exact crcd_len F
  rw [← hV] at hcp
  have HV := Lib.hid hV
  clear hV
  refine hcp.mono ?_
  rintro e w11 ⟨rfl, k11⟩
  have S11 := Lib.hid (S10.out.keep k11)
  have D11 := Lib.hid ((k11.block D (heap_lt D10.out)).trans D10.out)
  have K11 := Lib.hid (K10.out.trans (k11.mono (by have := ZD.out; have := heap_lt D10.out; omega)))
  clear hcp k11
  go_wp2_with fail
  refine (sb_WriteString O O (S ++ Y) (bs V) w11 S11.out (by rw [bs_size, List.length_append]; omega)).mono ?_
  rintro e w12 ⟨rfl, s12, k12⟩
  rw [bs_list] at s12
  have S12 := Lib.hid s12
  have d12 := k12.keeps D11.out (by have := ZD.out; omega) (by decide)
  have c0 : w12.cell? ⟨D, 0, none⟩ = some (.int .i64 (S.length : Int)) := by simp [World.cell?, d12]
  have c1 : w12.cell? ⟨D, 1, none⟩ = some (.int .i64 (g : Int)) := by simp [World.cell?, d12]
  have c2 : w12.cell? ⟨D, 2, none⟩ = some (.int .i64 (len : Int)) := by simp [World.cell?, d12]
  have K12 := Lib.hid (K11.out.trans k12.bel)
  clear s12 k12 d12
  go_wp2_with fail
  clear c0 c1 c2
  have hfo := foot_pack S.length g len w12 (by omega) (by omega) (by omega)
  obtain ⟨E, hE⟩ : ∃ E, E = crcd (footB S.length g len) := ⟨_, rfl⟩
  have hEl : E.length = 16 := by rw [hE, crcd_len]; rfl
  rw [← hE] at hfo
  have HE := Lib.hid hE
  clear hE
  refine hfo.mono ?_
  rintro e w13 ⟨rfl, k13⟩
  have S13 := Lib.hid (S12.out.keep k13)
  have K13 := Lib.hid (K12.out.trans (k13.mono (by have := S12.out.lt; omega)))
  clear hfo k13
  go_wp2_with fail
  refine (sb_WriteString O O (S ++ Y ++ V) (bs E) w13 S13.out (by rw [bs_size, List.length_append, List.length_append]; omega)).mono ?_
  rintro e w14 ⟨rfl, s14, k14⟩
  rw [bs_list] at s14
  have S14 := Lib.hid s14
  have K14 := Lib.hid (K13.out.trans k14.bel)
  clear s14 k14
  go_wp2_with fail
  refine (sb_String O O (S ++ Y ++ V ++ E) w14 S14.out).mono ?_
  rintro e w15 ⟨rfl, _, k15, _⟩
  have K15 := Lib.hid (K14.out.trans k15)
  clear k15
  go_wp2_with fail
  go_ret2
  rw [show tabB each per T = S ++ (Y ++ (V ++ E)) by rw [HR.out, HV.out, HE.out, HGL.out]; simp only [List.append_assoc]]
  exact ⟨rfl, K2.out.trans (K15.out.mono Z2.out.2)⟩
/-- The program's Build, of any entries that are few. -/
theorem table_Build (a : Option Addr) (len cap : Nat) (T : List Ent) (each per : Int) (w : World) (hT : Hid (IsE w a len T)) (hl : len ≤ 3001) (hcap : len ≤ cap) (hs : Hid (smallE T)) (hg : Hid (Glob w)) :
    Calls Tryz.prog 7 #[.slice a len cap, .int .i64 each, .int .i64 per] w fun e w' => e = .returned (.tuple #[.string (bs (if buildE' each per T = 0 then tabB each.toNat per.toNat T else [])), .int .i64 (buildE' each per T)]) ∧ Below w.heap.size w w' := by
  by_cases h : each < 1 ∨ 256 < each ∨ per < 1 ∨ 32 < per
  · have hb : buildE' each per T = 1 := by unfold buildE'; rw [if_pos h]
    rw [hb, if_neg (by decide)]
    exact build_arg a len cap each per w h
  · have hb : buildE' each per T = chkE T := by unfold buildE'; rw [if_neg h]
    obtain ⟨n, hn⟩ : ∃ n : Nat, each = n := ⟨each.toNat, by omega⟩
    obtain ⟨m, hm⟩ : ∃ m : Nat, per = m := ⟨per.toNat, by omega⟩
    subst hn hm
    rw [hb]
    by_cases hc : chkE T = 0
    · rw [if_pos hc, hc]
      exact build_ok a len cap T n m w hT hl hcap (by omega) (by omega) (by omega) (by omega) (Lib.hid hc) hg
    · rw [if_neg hc]
      exact build_bad a len cap T n m w hT (by omega) (Lib.hid (fit_of_small hs.out)) (by omega) (by omega) (by omega) (by omega) (Lib.hid hc)
end Go.Proofs.YteejldddgogbkaaGreatDoor
/- The laws' own look: a table of three entries. -/
set_option linter.unusedVariables false
set_option maxRecDepth 100000
namespace Go.Proofs.YteejldddgogbkaaGreatDoor
open Go.RowKit

def T3 : List Ent := [⟨[97], [49], false⟩, ⟨[98], [], true⟩, ⟨[99], [51], false⟩]
theorem t3_ok : chkE T3 = 0 := by kernel_rfl
theorem t3_build : buildE' 2 10 T3 = 0 := by kernel_rfl
theorem t3_small : smallE T3 := smallE_of ((chkE_ok T3).1 t3_ok).1
theorem t3_keys : (chunks 2 T3).map keyE = [[97], [99]] := by kernel_rfl
theorem t3_from : fromE [98] T3 = [⟨[98], [], true⟩, ⟨[99], [51], false⟩] := by kernel_rfl
theorem t3_find : T3.find? (isKey [98]) = some ⟨[98], [], true⟩ := by kernel_rfl
/-- What Open answers of a table that was built, over a source of its bytes. -/
theorem open_built {each : Nat} {T : List Ent} {t : Tab} {S : List UInt8} (hb : Built each T t S) (F : Nat) (c : Array Value) (K : List (Nat × Obj)) (w : World) (hs : Hid (Src F c K 0 S)) (hk : Hid (Keep K w)) :
    Calls Tryz.prog 11 #[.int .i64 (S.length : Int), srcV F c] w fun e w' => ∃ p, w.heap.size ≤ p ∧ e = .returned (.tuple #[.pointer (some ⟨p, 0, none⟩), .int .i64 0]) ∧ TabM p (srcV F c) 0 t w' ∧ Below w.heap.size w w' := by
  refine (table_Open F c K S w hs hk (by have := hb.len; omega)).mono ?_
  rintro e w' ⟨h, hB⟩
  rw [hb.opened] at h
  rcases h with ⟨h, _⟩ | ⟨_, p, h1, h2, h3⟩
  · exact absurd rfl h
  · exact ⟨p, h1, h2, h3, hB⟩
set_option maxHeartbeats 4000000 in
theorem law_awake09 (w : World) (hg : Hid (Glob w)) : Calls Tryz.prog 5 #[] w fun e w' => e = .returned (.bool true) ∧ Below w.heap.size w w' := by
  obtain ⟨w1, hw1⟩ : ∃ w1, w1 = w.alloc (.cells #[.string ⟨#[97]⟩, .string ⟨#[49]⟩, .bool false, .string ⟨#[98]⟩, .string ⟨#[]⟩, .bool true, .string ⟨#[99]⟩, .string ⟨#[51]⟩, .bool false] 49) := ⟨_, rfl⟩
  have K1 := Lib.hid (show Below w.heap.size w w1 by rw [hw1]; exact (Below.refl _ _).alloc (Nat.le_refl _) _)
  have E1 := Lib.hid (show IsE w1 (some ⟨w.heap.size, 0, none⟩) 3 T3 by
    have h : w1.heap[w.heap.size]? = some (.cells #[.string ⟨#[97]⟩, .string ⟨#[49]⟩, .bool false, .string ⟨#[98]⟩, .string ⟨#[]⟩, .bool true, .string ⟨#[99]⟩, .string ⟨#[51]⟩, .bool false] 49 (0, 0)) := by rw [hw1]; exact heap_new w _
    refine ⟨rfl, w.heap.size, 0, .inr rfl, fun k hk => ?_⟩
    have hk3 : k < 3 := hk
    match k, hk3 with
    | 0, _ => exact ⟨heap_lt h, by simp [World.cell?, h]; rfl, by simp [World.cell?, h]; rfl, by simp [World.cell?, h]; rfl⟩
    | 1, _ => exact ⟨heap_lt h, by simp [World.cell?, h]; rfl, by simp [World.cell?, h]; rfl, by simp [World.cell?, h]; rfl⟩
    | 2, _ => exact ⟨heap_lt h, by simp [World.cell?, h]; rfl, by simp [World.cell?, h]; rfl, by simp [World.cell?, h]; rfl⟩)
  have G1 := Lib.hid (hg.out.keep K1.out hg.out.1)
  have HBd := Lib.hid (table_Build (some ⟨w.heap.size, 0, none⟩) 3 3 T3 2 10 w1 E1 (by decide) (by decide) (Lib.hid t3_small) G1)
  rw [t3_build, if_pos rfl] at HBd
  obtain ⟨t, ht⟩ := built_tab (each := 2) (per := 10) (T := T3) (by decide) (by decide) (by decide) (by decide) (by decide) t3_ok
  obtain ⟨S, hS⟩ : ∃ S, S = tabB (Int.toNat 2) (Int.toNat 10) T3 := ⟨_, rfl⟩
  rw [show tabB 2 10 T3 = S from hS.symm] at ht
  rw [← hS] at HBd
  have HT := Lib.hid ht
  have HW1 := Lib.hid hw1
  obtain ⟨n, hn⟩ : ∃ n, n = S.length := ⟨_, rfl⟩
  have hz : (bs S).size = n := by rw [bs_size, hn]
  have HN := Lib.hid hn
  clear hw1 hS ht hn
  go_enter Tryz.func5, Tryz.ntmps5
  go_upto_region 2 with (fail)
  rw [← HW1.out]
  go_wp2_with fail
  refine HBd.out.mono ?_
  rintro e w2 ⟨rfl, k2⟩
  have K2 := Lib.hid (K1.out.trans (k2.mono K1.out.size))
  clear k2 HBd
  go_wp2_with fail
  refine (law_over (bs S) w2).mono ?_
  rintro e w3 ⟨rfl, hw3⟩
  have b3 : Below w2.heap.size w2 w3 := by rw [hw3]; exact (Below.refl _ _).alloc (Nat.le_refl _) _
  have K3 := Lib.hid (K2.out.trans (b3.mono K2.out.size))
  have Q3 := Lib.hid (show Keep (overK w2.heap.size S) w3 from fun q hq => by
    simp only [overK, List.mem_singleton] at hq
    subst hq
    rw [hw3]; exact heap_new w2 _)
  have hb2 := Lib.hid (show w2.heap.size < w3.heap.size by rw [hw3]; simp)
  have HSrc := Lib.hid (over_src w2.heap.size S (by have := HT.out.len; omega))
  have HOp := Lib.hid (open_built HT.out _ _ _ w3 HSrc Q3)
  rw [← HN.out] at HOp
  clear hw3 b3
  go_wp2_with fail
  refine HOp.out.mono ?_
  rintro e w4 ⟨p, hp4, rfl, hT4, k4⟩
  have K4 := Lib.hid (K3.out.trans (k4.mono K3.out.size))
  have T4 := Lib.hid hT4
  have Q4 := Lib.hid (Q3.out.below k4)
  have hp := Lib.hid (show w2.heap.size < p ∧ w.heap.size ≤ p by have := hb2.out; have := K3.out.size; omega)
  have G4 := Lib.hid (hg.out.keep K4.out hg.out.1)
  have HKp := Lib.hid (show ∀ q ∈ overK w2.heap.size S, q.1 ≠ p from fun q hq => by
    simp only [overK, List.mem_singleton] at hq
    subst hq
    have := hp.out
    show w2.heap.size ≠ p
    omega)
  have hSt := Lib.hid (show Src 41 #[.pointer (some ⟨w2.heap.size, 0, none⟩)] (overK w2.heap.size S) 0 t.bytes by rw [HT.out.bytes]; exact HSrc.out)
  have hlb := HT.out.len
  rw [← HT.out.bytes] at hlb
  have HGet := Lib.hid (table_Get p _ _ _ t 0 [98] w4 T4 (Lib.hid HT.out.fine) hSt Q4 HKp G4 (by decide) (by decide) (by omega) HT.out.bits (Lib.hid (by decide)))
  clear hp4 hT4 k4 hlb HOp
  go_wp2_with fail
  refine HGet.out.mono ?_
  rintro e w5 ⟨he5, hT5, hO5⟩
  obtain ⟨r, hr1, hr2, hr3⟩ := HT.out.get [98]
  rw [t3_find] at hr2 hr3
  have hr := hr2 rfl
  subst hr
  rw [hr3] at he5 hT5
  have he6 : e = .returned (.tuple #[.agg #[.string (bs [98]), .string (bs []), .bool true], .bool true, .int .i64 0]) := he5
  clear he5
  subst he6
  have T5 := Lib.hid (show TabM p _ 1 t w5 from hT5)
  have Q5 := Lib.hid (Q4.out.only hO5 fun q hq e => HKp.out q hq e)
  have B5 := Lib.hid (show Below w.heap.size w w5 from K4.out.trans (hO5.below (fun k _ e => by have e' : k = p := e; have := hp.out; omega) K4.out.size))
  clear hT5 hO5 hr1 hr2 hr3 HGet
  obtain ⟨w6, hw6⟩ : ∃ w6, w6 = w5.alloc (.cells #[.string (bs [98]), .string (bs []), .bool true] 49) := ⟨_, rfl⟩
  have K6 := Lib.hid (show Below w5.heap.size w5 w6 by rw [hw6]; exact (Below.refl _ _).alloc (Nat.le_refl _) _)
  have X6 := Lib.hid (show C3 w5.heap.size 49 (.string (bs [98])) (.string (bs [])) (.bool true) w6 by rw [hw6]; exact heap_new w5 _)
  have T6 := Lib.hid (T5.out.below K6.out)
  have Q6 := Lib.hid (Q5.out.below K6.out)
  have B6 := Lib.hid (B5.out.trans (K6.out.mono B5.out.size))
  have HW6 := Lib.hid hw6
  have hsc : scanU t 0 [98] = (0, [⟨[98], [], true⟩, ⟨[99], [51], false⟩]) := by rw [scanU_zero, HT.out.scan, t3_from]
  have hfb : readLo t [98] 1 0 = 3 ∧ readHi t [98] 1 0 = 3 := by
    have h2 : t.index.length = 2 := by
      rw [HT.out.index, idxs_len]
      have := congrArg List.length t3_keys
      rwa [List.length_map] at this
    have h1 : firstB t [98] = 0 := by
      unfold firstB
      rw [HT.out.index, idxs_keys, t3_keys]
      rfl
    unfold readLo readHi
    rw [h1, h2]
    exact ⟨rfl, rfl⟩
  have HAll := Lib.hid (all_tab p _ _ _ t 0 1 [98] w6 T6 (Lib.hid HT.out.fine) hSt Q6 HKp (by decide) (by decide) (by have := HT.out.len; rw [HT.out.bytes]; omega) (by rw [hsc]; decide))
  rw [hsc, hfb.1, hfb.2] at HAll
  have hcount : (t.count : Int) = 3 := by rw [HT.out.count]; rfl
  have HC := Lib.hid hcount
  clear hw6 hsc hfb hcount
  go_upto_region 7 with (fail)
  rw [← HW6.out]
  go_wp2_with fail
  refine HAll.out.mono ?_
  rintro e w7 ⟨⟨a7, cap7, rfl, _⟩, hE7, hO7⟩
  obtain ⟨n7, g1, g2, g3⟩ := hE7.ex
  obtain rfl : n7 = 3 := by omega
  have T7 := Lib.hid g3
  have B7 := Lib.hid (show Below w.heap.size w w7 from B6.out.trans (hO7.below (fun k _ e => by have e' : k = p := e; have := hp.out; omega) B6.out.size))
  have X7 := Lib.hid (show C3 w5.heap.size 49 (.string (bs [98])) (.string (bs [])) (.bool true) w7 from X6.out.table hO7 (by have := T5.out.lt; omega))
  have x2 := X7.out.c2
  have HCnt := Lib.hid (table_Count p _ 3 t w7 T7.out)
  have HRds := Lib.hid (table_Reads p _ 3 t w7 T7.out)
  rw [HC.out] at HCnt
  clear hE7 hO7 g1 g2 g3 HAll
  go_wp2_with fail
  refine HCnt.out.mono ?_
  rintro e w8 ⟨rfl, rfl⟩
  go_wp2_with fail
  refine HRds.out.mono ?_
  rintro e w8 ⟨rfl, rfl⟩
  go_wp2_with fail
  go_ret
  exact ⟨rfl, B7.out⟩
end Go.Proofs.YteejldddgogbkaaGreatDoor
