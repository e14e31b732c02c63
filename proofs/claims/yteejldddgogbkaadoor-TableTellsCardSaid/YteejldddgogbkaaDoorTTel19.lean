/- Texts for layer 9, put together: TableFoot, TableBuild, TablePiece -/
import Derived.Test.YteejldddgogbkaaDoorTTel14
import Derived.Test.YteejldddgogbkaaDoorTTel08
import Derived.Test.YteejldddgogbkaaDoorTTel05
import Derived.Test.YteejldddgogbkaaDoorTTel02
import Derived.Test.YteejldddgogbkaaDoorTTel12
import Derived.Test.YteejldddgogbkaaDoorTTel18
import Derived.Test.YteejldddgogbkaaDoorTTel11
import Derived.Test.YteejldddgogbkaaDoorTTel07
/- The foot, packed. -/
set_option linter.unusedVariables false
set_option maxRecDepth 100000
namespace Go.Proofs.YteejldddgogbkaaDoor
open Go.RowKit

theorem arrF : Tryd.prog.underlying 102 = some (.array 3 3) := Tryd.underlying102
theorem notAggF : ∀ w, (isAgg 3).run Tryd.prog w = .ok false w := fun w => by simp [isAgg, run_underlying Tryd.underlying3, go_sem]
theorem sizeF : ∀ w, (Go.sizeOf 3).run Tryd.prog w = .ok 1 w := fun w => by kernel_rfl
/-- The bytes of numbers, one behind the other. -/
def fours (l : List Nat) : List UInt8 := l.flatMap four
theorem fours_snoc (l : List Nat) (x : Nat) : fours (l ++ [x]) = fours l ++ four x := by simp [fours]
theorem four_get (x j : Nat) (h : j < 4) : (four x).take (j + 1) = (four x).take j ++ [UInt8.ofNat (x / 2 ^ (24 - 8 * j))] := by
  rcases (by omega : j = 0 ∨ j = 1 ∨ j = 2 ∨ j = 3) with rfl | rfl | rfl | rfl <;> simp [four]
set_option maxHeartbeats 2000000 in
theorem foot_pack (a b n : Nat) (w : World) (ha : a < 4294967296) (hb : b < 4294967296) (hn : n < 4294967296) :
    Calls Tryd.prog 30 #[.agg #[.int .i64 (a : Int), .int .i64 (b : Int), .int .i64 (n : Int)]] w fun e w' => e = .returned (.string (bs (crcd (footB a b n)))) ∧ Below w.heap.size w w' := by
  obtain ⟨i0, hi, hz0, hz1, hz2⟩ := info_parts info5
  obtain ⟨w1, hw1⟩ : ∃ w1, w1 = w.alloc (.cells #[.int .i64 (a : Int), .int .i64 (b : Int), .int .i64 (n : Int)] 59) := ⟨_, rfl⟩
  have B1 := Lib.hid (show Below w.heap.size w w1 by rw [hw1]; exact (Below.refl _ _).alloc (Nat.le_refl _) _)
  have HW1 := Lib.hid hw1
  clear hw1
  have hix := Lib.hid (fun (k x : Nat) (hk : k < 3) (hx : ([a, b, n] : List Nat)[k]? = some x) => run_index_arr 102 3 3 #[.int .i64 (a : Int), .int .i64 (b : Int), .int .i64 (n : Int)] k (.int .i64 (x : Int)) arrF notAggF sizeF hk (by
    rcases (by omega : k = 0 ∨ k = 1 ∨ k = 2) with rfl | rfl | rfl <;> (simp at hx; subst hx; rfl)))
  have hall := Lib.hid (show ∀ x ∈ ([a, b, n] : List Nat), x < 4294967296 from fun x hx => by simp at hx; rcases hx with rfl | rfl | rfl <;> assumption)
  obtain ⟨L, hL⟩ : ∃ L : List Nat, L = [a, b, n] := ⟨_, rfl⟩
  have hLl : L.length = 3 := by rw [hL]; rfl
  have hfin := Lib.hid (show fours L = footB a b n by rw [hL]; simp [fours, footB])
  rw [← hL] at hix hall
  have HLl := Lib.hid hLl
  clear hL ha hb hn hLl
  go_enter Tryd.func30, Tryd.ntmps30
  go_upto_region 1 with (fail)
  change Code.wp _ _ _ _ (w.alloc (.cells #[.int .i64 (a : Int), .int .i64 (b : Int), .int .i64 (n : Int)] 59))
  rw [← HW1.out]
  have c0 : w1.cell? ⟨w.heap.size, 0, none⟩ = some (.int .i64 (a : Int)) := by rw [HW1.out, World.cell?_alloc_mark]; rfl
  have c1 : w1.cell? ⟨w.heap.size, 1, none⟩ = some (.int .i64 (b : Int)) := by rw [HW1.out, World.cell?_alloc_mark]; rfl
  have c2 : w1.cell? ⟨w.heap.size, 2, none⟩ = some (.int .i64 (n : Int)) := by rw [HW1.out, World.cell?_alloc_mark]; rfl
  go_wp2_with fail
  clear c0 c1 c2
  go_loopw [3, 14] (fun v vi wr => ∃ k : Nat, k ≤ 3 ∧ vi = .int .i64 (k : Int) ∧ Hid (Own8 w1.heap.size v (fours (L.take k)) wr) ∧ Hid (Below w1.heap.size w1 wr)) (fun v vi wr => 3 - (intOf vi).toNat)
  case atStart => exact ⟨0, by omega, rfl, Lib.hid (World.ownsRow_nil _ _ _ _), Lib.hid (Below.refl _ _)⟩
  case round =>
    obtain ⟨k, hk, rfl, hO, hB⟩ := hrel
    rcases Nat.lt_or_ge k 3 with h3 | h3
    · obtain ⟨x, hx⟩ : ∃ x, L[k]? = some x := ⟨_, List.getElem?_eq_getElem (by rw [HLl.out]; exact h3)⟩
      have hxk := hix.out k x h3 hx
      have hx32 := hall.out x (List.mem_of_getElem? hx)
      have HN := Lib.hid (show fours (L.take (k + 1)) = fours (L.take k) ++ four x by rw [List.take_add_one, hx]; exact fours_snoc _ _)
      have H3 := Lib.hid h3
      have h3' : (k : Int) < 3 := by omega
      have h3d : decide ((k : Int) < 3) = true := decide_eq_true h3'
      clear hx
      go_wp2_with fail
      go_loopw [3, 6] (fun v vi wi => ∃ j : Nat, j ≤ 4 ∧ vi = .int .i64 (24 - 8 * (j : Int)) ∧ Hid (Own8 w1.heap.size v (fours (L.take k) ++ (four x).take j) wi) ∧ Hid (Below w1.heap.size w1 wi)) (fun v vi wi => (intOf vi + 8).toNat)
      case atStart => exact ⟨0, by omega, rfl, Lib.hid (by rw [List.take_zero, List.append_nil]; exact hO.out), hB⟩
      case round =>
        obtain ⟨j, hj, rfl, hO2, hB2⟩ := hrel
        rcases Nat.lt_or_ge j 4 with h4 | h4
        · have hOl := Lib.hid (show (fours (L.take k) ++ (four x).take j).length ≤ 100 by
            have hf : ∀ l : List Nat, (fours l).length = l.length * 4 := fun l => by
              induction l with
              | nil => rfl
              | cons y l ih =>
                have : fours (y :: l) = four y ++ fours l := rfl
                rw [this, List.length_append, ih, four_len, List.length_cons]
                omega
            rw [List.length_append, hf, List.length_take, List.length_take, HLl.out, four_len]
            omega)
          have hsz := Lib.hid (show w1.heap.size ≤ wr.heap.size from hB2.out.size)
          have HP := Lib.hid (four_get x j h4)
          obtain ⟨s, hs⟩ : ∃ s : Nat, s = 24 - 8 * j := ⟨_, rfl⟩
          have hs24 : (24 - 8 * (j : Int)) = (s : Int) := by omega
          have hnx := Lib.hid (show ((s : Int) - 8) = (24 - 8 * ((j + 1 : Nat) : Int)) by omega)
          rw [hs24]
          rw [← hs] at HP
          have hs63 : s ≤ 24 := by omega
          obtain ⟨Y, hYn⟩ : ∃ Y : Nat, Y = x / 2 ^ s % 256 := ⟨_, rfl⟩
          have hY : (x : Int) / 2 ^ s % 256 = (Y : Int) := by rw [hYn]; norm_cast
          have hY8 := Lib.hid (show ((Y : Nat) : Int) = ((UInt8.ofNat (x / 2 ^ s)).toNat : Int) by rw [ofNat_toNat, hYn])
          have HJ := Lib.hid h4
          have HS := Lib.hid hs24
          obtain ⟨l, hl⟩ : ∃ l, l = fours (L.take k) ++ (four x).take j := ⟨_, rfl⟩
          have hO3 := Lib.hid (show Own8 w1.heap.size u3 l wr by rw [hl]; exact hO2.out)
          have HL2 := Lib.hid (show l.length ≤ 100 by rw [hl]; exact hOl.out)
          have HPl := Lib.hid (show l ++ [UInt8.ofNat (x / 2 ^ s)] = fours (L.take k) ++ (four x).take (j + 1) by rw [hl, HP.out, List.append_assoc])
          clear h4 hs hs24 hYn hl hOl hO2
          go_wp2_with (first | (refine wpList_append_own _ rfl (.tmp 21) (.tmp 26) 45 rfl w1.heap.size 5 i0 (.int .u8 0) 1 1 Tryd.underlying45 hi hz0 hz1 hz2 rfl (by decide) u3 l.length (Lib.byteCells l) (by simp [Act.eval, Act.put]) (World.ownsRow.alloc hO3.out _) ⟨wr.heap.size, 0, none⟩ 1 1 [.int .u8 (Y : Int)] (by simp [Act.eval, Act.put]) rfl (fun j u hj => cell_one_new _ _ _ j u hj) (by simp [Value.oneCell']) (by unfold maxLen; have := HL2.out; omega) (by have := HL2.out; omega) (by have := hsz.out; simp; omega) ?_; intro v3 w3 hown3 hg3 _))
          go_roundw
          case rel =>
            refine ⟨j + 1, by have := HJ.out; omega, by rw [← hnx.out], Lib.hid ?_, Lib.hid ?_⟩
            · rw [← HPl.out]
              exact Own8.push (b := UInt8.ofNat (x / 2 ^ s)) hown3 hY8.out
            · exact (hB2.out.alloc hsz.out _).grown hg3 (by have := hsz.out; simp; omega) (fun j hj => (World.ownsRow.lt hO3.out j hj).1)
          case measure => simp [intOf]; omega
        · obtain rfl : j = 4 := by omega
          rw [show (24 - 8 * ((4 : Nat) : Int)) = -8 from rfl]
          go_wp2_with fail
          go_roundw
          case rel => exact ⟨k + 1, by omega, by go_num, Lib.hid (by rw [HN.out]; exact hO2.out), hB2⟩
          case measure => have := H3.out; simp [intOf]; omega
    · obtain rfl : k = 3 := by omega
      rw [show ((3 : Nat) : Int) = 3 from rfl]
      have hO3 : Own8 w1.heap.size u3 (footB a b n) wr := by rw [← hfin.out, ← List.take_of_length_le (l := L) (i := 3) (by rw [HLl.out]; exact Nat.le_refl _)]; exact hO.out
      obtain ⟨gv, cv, hgv, hgvB, hgvl⟩ := Own8.formN (n := 12) hO3 rfl (by omega)
      rw [hgv] at hO3
      have rowv : Row8 gv (footB a b n) wr := ⟨hgvl, fun j hj => by
        have h1 := Own8.cell hO3 j hj
        rw [addr_add, Nat.zero_add] at h1
        refine ⟨by rw [h1, byteAt_get _ j hj], ?_⟩
        exact World.ownsRow.frozenAt (cap := cv) (xs := Lib.byteCells (footB a b n)) (by have := hO3; unfold Own8 at this; exact this) j⟩
      have hcv := conv_back wr gv (footB a b n) 12 cv rfl rowv
      rw [hgv]
      clear rowv hO3
      go_wp2_with fail
      have hcp := crc_Put (bs (footB a b n)) wr (by rw [bs_size]; show 12 ≤ _; omega)
      rw [bs_list, show footB a b n ++ four (sumL (footB a b n)) = crcd (footB a b n) from rfl] at hcp
      refine hcp.mono ?_
      rintro e w3 ⟨rfl, k3⟩
      have K3 := Lib.hid (B1.out.trans ((hB.out.trans (k3.mono hB.out.size)).mono B1.out.size))
      clear k3
      go_wp2_with fail
      go_ret
      exact ⟨rfl, K3.out⟩
end Go.Proofs.YteejldddgogbkaaDoor
/- The program's Build. -/
set_option linter.unusedVariables false
set_option maxRecDepth 100000
namespace Go.Proofs.YteejldddgogbkaaDoor
open Go.RowKit

def buildE' (each per : Int) (T : List Ent) : Int := if each < 1 ∨ 256 < each ∨ per < 1 ∨ 32 < per then 1 else chkE T
set_option maxHeartbeats 2000000 in
theorem build_arg (a : Option Addr) (len cap : Nat) (each per : Int) (w : World) (h : each < 1 ∨ 256 < each ∨ per < 1 ∨ 32 < per) :
    Calls Tryd.prog 10 #[.slice a len cap, .int .i64 each, .int .i64 per] w fun e w' => e = .returned (.tuple #[.string (bs []), .int .i64 1]) ∧ Below w.heap.size w w' := by
  by_cases h1 : each < 1
  · go_enter Tryd.func10, Tryd.ntmps10
    go_wp2_with fail
    go_ret2
    exact ⟨rfl, Below.refl _ _⟩
  by_cases h2 : 256 < each
  · go_enter Tryd.func10, Tryd.ntmps10
    go_wp2_with fail
    go_ret2
    exact ⟨rfl, Below.refl _ _⟩
  by_cases h3 : per < 1
  · go_enter Tryd.func10, Tryd.ntmps10
    go_wp2_with fail
    go_ret2
    exact ⟨rfl, Below.refl _ _⟩
  · have h4 : 32 < per := by omega
    go_enter Tryd.func10, Tryd.ntmps10
    go_wp2_with fail
    go_ret2
    exact ⟨rfl, Below.refl _ _⟩
set_option maxHeartbeats 2000000 in
theorem build_bad (a : Option Addr) (len cap : Nat) (T : List Ent) (each per : Int) (w : World) (hT : Hid (IsE w a len T)) (hl : len ≤ 9223372036854775807) (hs : Hid (fitE T)) (h1 : 1 ≤ each) (h2 : each ≤ 256) (h3 : 1 ≤ per) (h4 : per ≤ 32) (hc : Hid (chkE T ≠ 0)) :
    Calls Tryd.prog 10 #[.slice a len cap, .int .i64 each, .int .i64 per] w fun e w' => e = .returned (.tuple #[.string (bs []), .int .i64 (chkE T)]) ∧ Below w.heap.size w w' := by
  have H := Lib.hid (block_Check a len cap T w hT hl hs)
  obtain ⟨z, hz⟩ : ∃ z, z = chkE T := ⟨_, rfl⟩
  have hz0 := hc.out
  have hzc := chkE_cases T
  rw [← hz] at H hz0 hzc ⊢
  clear hc hz hs hT
  go_enter Tryd.func10, Tryd.ntmps10
  go_wp2_with fail
  refine H.out.mono ?_
  rintro e w1 ⟨rfl, k1⟩
  go_wp2_with fail
  go_ret2
  exact ⟨rfl, k1⟩
set_option maxHeartbeats 4000000 in
theorem build_ok (a : Option Addr) (len cap : Nat) (T : List Ent) (each per : Nat) (w : World) (hT : Hid (IsE w a len T)) (hl : len ≤ 3001) (hcap : len ≤ cap) (h1 : 1 ≤ each) (h2 : each ≤ 256) (h3 : 1 ≤ per) (h4 : per ≤ 32) (hc : Hid (chkE T = 0)) (hg : Hid (Glob w)) :
    Calls Tryd.prog 10 #[.slice a len cap, .int .i64 (each : Int), .int .i64 (per : Int)] w fun e w' => e = .returned (.tuple #[.string (bs (tabB each per T)), .int .i64 0]) ∧ Below w.heap.size w w' := by
  obtain ⟨hok, hlT⟩ := (chkE_ok T).1 hc.out
  have hsm := Lib.hid (smallE_of hok)
  have hlen := Lib.hid (show len = T.length from hT.out.1)
  have hr := (rises_of_okEs true [] hok).1
  obtain ⟨C, hC⟩ : ∃ C, C = chunks each T := ⟨_, rfl⟩
  obtain ⟨hfl, hcn⟩ := chunks_all (k := each) (by omega) T
  rw [← hC] at hfl hcn
  have hcs : ∀ c ∈ C, smallE c ∧ 1 ≤ c.length ∧ c.length ≤ 65536 := fun c hc => ⟨fun x hx => hsm.out x (by rw [← hfl]; exact List.mem_flatten.2 ⟨c, hc, hx⟩), (hcn c hc).1, by have := (hcn c hc).2; omega⟩
  have hbl := blks_len C hcs
  rw [hfl, ← hlen.out] at hbl
  have hix := Lib.hid (idxs_ok (C := C) (by rw [hfl]; exact hr) hcs (by omega) (by omega))
  have hxs := Lib.hid (idxs_small C 0 hcs (by omega))
  have hYl := blkB_len hxs.out (by rw [idxs_len]; omega)
  rw [idxs_len] at hYl
  have hFl := filB_len (T := T) h3 h4 hlT
  have H := Lib.hid (block_Check a len cap T w hT (by omega) (Lib.hid (fit_of_small hsm.out)))
  rw [hc.out] at H
  obtain ⟨S, hS⟩ : ∃ S, S = blksB C := ⟨_, rfl⟩
  obtain ⟨Y, hY⟩ : ∃ Y, Y = blkB (idxs 0 C) := ⟨_, rfl⟩
  obtain ⟨F, hF⟩ : ∃ F, F = filB per T := ⟨_, rfl⟩
  have hSl : S.length ≤ 500000000 := by rw [hS]; omega
  have hYl' : Y.length ≤ 500000000 := by rw [hY]; omega
  have hFl' : F.length ≤ 300000 := by rw [hF]; exact hFl
  have HR := Lib.hid (show tabB each per T = S ++ Y ++ crcd F ++ crcd (footB S.length (S.length + Y.length) len) by rw [hS, hY, hF, hC, hlen.out]; rfl)
  have HS := Lib.hid hS
  have HY := Lib.hid hY
  have HF := Lib.hid hF
  have HC := Lib.hid hC
  have HCl := Lib.hid hbl.2
  clear hok hlT hr hC hfl hcn hcs hbl hYl hFl hS hY hF
  go_enter Tryd.func10, Tryd.ntmps10
  go_wp2_with fail
  refine H.out.mono ?_
  rintro e w1 ⟨rfl, k1⟩
  have K1 := Lib.hid k1
  clear k1
  obtain ⟨O, hO⟩ : ∃ O, O = w1.heap.size := ⟨_, rfl⟩
  obtain ⟨w2, hw2⟩ : ∃ w2, w2 = w1.alloc (.cells #[.pointer none, .slice none 0 0] 56) := ⟨_, rfl⟩
  have Sb2 := Lib.hid (show Sb O O [] w2 by rw [hw2, hO]; exact sb_new w1)
  have K2 := Lib.hid (show Below w.heap.size w w2 by rw [hw2]; exact K1.out.alloc K1.out.size _)
  have Z2 := Lib.hid (show w2.heap.size = O + 1 ∧ w.heap.size ≤ O by rw [hw2, hO]; exact ⟨by simp, K1.out.size⟩)
  have T2 := Lib.hid (show ∀ w', Below O w2 w' → IsE w' a len T from fun w' hk => hT.out.below (K2.out.trans (hk.mono Z2.out.2)))
  have HW2 := Lib.hid hw2
  have HO := Lib.hid hO
  clear hw2 hO
  go_wp2_with fail
  rw [← HO.out]
  rw [← HW2.out]
  have hpb := table_putBlocks O O each a len cap T w2 Sb2 T2 hl hcap h1 h2 hc
  rw [← HC.out, ← HS.out] at hpb
  refine hpb.mono ?_
  rintro e w3 ⟨xa, xcap, rfl, hx3, hs3, k3⟩
  obtain ⟨m, hm⟩ : ∃ m, m = C.length := ⟨_, rfl⟩
  rw [← hm] at hx3 ⊢
  have X3 := Lib.hid (show IsE w3 xa m (idxs 0 C) from hx3.is (by rw [idxs_len, hm]))
  have hml : m ≤ 3001 := by rw [hm]; have := HCl.out; omega
  have S3 := Lib.hid hs3
  have K3 := Lib.hid k3
  clear hpb hm hx3 hs3 k3
  go_wp2_with fail
  refine (sb_Len O O S w3 S3.out).mono ?_
  rintro e _ ⟨rfl, rfl⟩
  obtain ⟨D, hD⟩ : ∃ D, D = w3.heap.size := ⟨_, rfl⟩
  obtain ⟨w4, hw4⟩ : ∃ w4, w4 = w3.alloc (.cells #[.int .i64 (S.length : Int), .int .i64 0, .int .i64 (len : Int)] 59) := ⟨_, rfl⟩
  have A4 := Lib.hid (show Below w3.heap.size w3 w4 by rw [hw4]; exact (Below.refl _ _).alloc (Nat.le_refl _) _)
  have S4 := Lib.hid (S3.out.keep A4.out)
  have X4 := Lib.hid (X3.out.below A4.out)
  have D4 := Lib.hid (show w4.heap[D]? = some (.cells #[.int .i64 (S.length : Int), .int .i64 0, .int .i64 (len : Int)] 59 (0, 0)) by rw [hw4, hD]; exact heap_new w3 _)
  have K4 := Lib.hid (show Below O w2 w4 by rw [hw4]; exact K3.out.alloc (by have := Z2.out; have := K3.out.size; omega) _)
  have ZD := Lib.hid (show O < D ∧ D < w4.heap.size from ⟨by have := K3.out.size; have := Z2.out; omega, heap_lt D4.out⟩)
  have HW4 := Lib.hid hw4
  have HD := Lib.hid hD
  clear hw4 hD
  go_wp2_with fail
  rw [← HD.out]
  rw [← HW4.out]
  have hpk := block_Pack xa m xcap (idxs 0 C) w4 X4 (by omega) (Lib.hid (fit_of_small hxs.out))
  rw [hix.out, pack_chk hix.out, ← HY.out] at hpk
  refine hpk.mono ?_
  rintro e w5 ⟨rfl, k5⟩
  have S5 := Lib.hid (S4.out.keep k5)
  have D5 := Lib.hid ((k5.block D ZD.out.2).trans D4.out)
  have K5 := Lib.hid (show Below O w2 w5 from K4.out.trans (k5.mono (by have := ZD.out; omega)))
  clear hpk k5
  go_wp2_with fail
  refine (sb_WriteString O O S (bs Y) w5 S5.out (by rw [bs_size]; omega)).mono ?_
  rintro e w6 ⟨rfl, s6, k6⟩
  rw [bs_list] at s6
  have S6 := Lib.hid s6
  have d6 := k6.keeps D5.out (by have := ZD.out; omega) (by decide)
  have D6 := Lib.hid d6
  have K6 := Lib.hid (K5.out.trans k6.bel)
  clear s6 k6 d6
  go_wp2_with fail
  refine (sb_Len O O (S ++ Y) w6 S6.out).mono ?_
  rintro e _ ⟨rfl, rfl⟩
  obtain ⟨g, hgl⟩ : ∃ g, g = S.length + Y.length := ⟨_, rfl⟩
  rw [List.length_append, ← hgl]
  have HGL := Lib.hid hgl
  have hgb : g ≤ 1000000000 := by omega
  clear hgl
  have c6 : w6.cell? ⟨D, 1, none⟩ = some (.int .i64 0) := by simp [World.cell?, D6.out]
  have f6 : w6.frozen? ⟨D, 1, none⟩ = false := by simp [World.frozen?, D6.out]
  obtain ⟨w7, hw7⟩ : ∃ w7, w7 = w6.setCell ⟨D, 1, none⟩ (.int .i64 (g : Int)) := ⟨_, rfl⟩
  have D7 := Lib.hid (show w7.heap[D]? = some (.cells #[.int .i64 (S.length : Int), .int .i64 (g : Int), .int .i64 (len : Int)] 59 (0, 0)) by rw [hw7]; exact heap_set (o := 1) D6.out _)
  have S7 := Lib.hid (show Sb O O (S ++ Y) w7 by
    rw [hw7]
    exact S6.out.other D6.out (by have := ZD.out; omega) (fun cs fz e => by injection e with _ e _; exact absurd e (by decide)) fun j _ hne => heap_set_other hne _)
  have K7 := Lib.hid (show Below O w2 w7 by rw [hw7]; exact K6.out.setCell (p := ⟨D, 1, none⟩) (by have := ZD.out; show O ≤ D; omega) _)
  have HW7 := Lib.hid hw7
  clear hw7
  go_wp2_with fail
  clear c6 f6
  rw [← HW7.out]
  have hD7 := Lib.hid (heap_lt D7.out)
  refine (table_keysOf a len cap T w7 (Lib.hid (T2.out w7 K7.out)) (by omega)).mono ?_
  rintro e w8 ⟨rfl, r8, k8⟩
  have S8 := Lib.hid (S7.out.keep k8)
  have D8 := Lib.hid ((k8.block D hD7.out).trans D7.out)
  have K8 := Lib.hid (K7.out.trans (k8.mono (by have := ZD.out; have := hD7.out; omega)))
  have G8 := Lib.hid (hg.out.keep (K2.out.trans (K8.out.mono Z2.out.2)) hg.out.1)
  have R8 := Lib.hid r8
  clear k8 r8
  go_wp2_with fail
  have hmk := flt_Make per (some ⟨w7.heap.size, 0, none⟩) len len w7.heap.size 0 (T.map fun x => bs x.key) w8 h3 h4 (Lib.hid (by rw [List.length_map]; exact hlen.out)) (by omega) R8 (Lib.hid (.inr rfl)) (Lib.hid (fun t ht => by
    obtain ⟨x, hx, rfl⟩ := List.mem_map.1 ht
    have := (hsm.out x hx).1
    rw [bs_size]
    omega)) G8
  have hm1 : (T.map fun x => bs x.key).map (·.data.toList) = T.map (·.key) := by rw [List.map_map]; rfl
  have e64 : wordsOf per len * 8 * 8 = wordsOf per len * 64 := by omega
  rw [hm1, e64] at hmk
  refine hmk.mono ?_
  rintro e w9 ⟨rfl, f9, k9⟩
  have F9 := Lib.hid f9
  have S9 := Lib.hid (S8.out.keep k9)
  have D9 := Lib.hid ((k9.block D (heap_lt D8.out)).trans D8.out)
  have K9 := Lib.hid (K8.out.trans (k9.mono (by have := ZD.out; have := heap_lt D8.out; omega)))
  clear hmk f9 k9 hm1 e64
  go_wp2_with fail
  have hfp := flt_pack (w8.heap.size + 1) w8.heap.size (hashesOf per) (wordsOf per len * 8) _ w9 F9 (Lib.hid (bytesOf_len _ _).symm) (by
    have := Nat.mul_le_mul h4 (show len ≤ 3001 from hl)
    unfold wordsOf
    omega) (hashesOf_le per).2
  have hFe : packF (hashesOf per) (bytesOf (made (hashesOf per) (wordsOf per len * 64) (T.map (·.key))) (wordsOf per len * 8)) = F := by rw [HF.out, hlen.out]; rfl
  rw [hFe] at hfp
  refine hfp.mono ?_
  rintro e w10 ⟨rfl, k10⟩
  have S10 := Lib.hid (S9.out.keep k10)
  have D10 := Lib.hid ((k10.block D (heap_lt D9.out)).trans D9.out)
  have K10 := Lib.hid (K9.out.trans (k10.mono (by have := ZD.out; have := heap_lt D9.out; omega)))
  clear hfp hFe k10
  go_wp2_with fail
  have hcp := crc_Put (bs F) w10 (by rw [bs_size]; omega)
  rw [bs_list, show F ++ four (sumL F) = crcd F from rfl] at hcp
  obtain ⟨V, hV⟩ : ∃ V, V = crcd F := ⟨_, rfl⟩
  have hVl : V.length = F.length + 4 := by rw [hV]; exact crcd_len F
  rw [← hV] at hcp
  have HV := Lib.hid hV
  clear hV
  refine hcp.mono ?_
  rintro e w11 ⟨rfl, k11⟩
  have S11 := Lib.hid (S10.out.keep k11)
  have D11 := Lib.hid ((k11.block D (heap_lt D10.out)).trans D10.out)
  have K11 := Lib.hid (K10.out.trans (k11.mono (by have := ZD.out; have := heap_lt D10.out; omega)))
  clear hcp k11
  go_wp2_with fail
  refine (sb_WriteString O O (S ++ Y) (bs V) w11 S11.out (by rw [bs_size, List.length_append]; omega)).mono ?_
  rintro e w12 ⟨rfl, s12, k12⟩
  rw [bs_list] at s12
  have S12 := Lib.hid s12
  have d12 := k12.keeps D11.out (by have := ZD.out; omega) (by decide)
  have c0 : w12.cell? ⟨D, 0, none⟩ = some (.int .i64 (S.length : Int)) := by simp [World.cell?, d12]
  have c1 : w12.cell? ⟨D, 1, none⟩ = some (.int .i64 (g : Int)) := by simp [World.cell?, d12]
  have c2 : w12.cell? ⟨D, 2, none⟩ = some (.int .i64 (len : Int)) := by simp [World.cell?, d12]
  have K12 := Lib.hid (K11.out.trans k12.bel)
  clear s12 k12 d12
  go_wp2_with fail
  clear c0 c1 c2
  have hfo := foot_pack S.length g len w12 (by omega) (by omega) (by omega)
  obtain ⟨E, hE⟩ : ∃ E, E = crcd (footB S.length g len) := ⟨_, rfl⟩
  have hEl : E.length = 16 := by rw [hE, crcd_len]; rfl
  rw [← hE] at hfo
  have HE := Lib.hid hE
  clear hE
  refine hfo.mono ?_
  rintro e w13 ⟨rfl, k13⟩
  have S13 := Lib.hid (S12.out.keep k13)
  have K13 := Lib.hid (K12.out.trans (k13.mono (by have := S12.out.lt; omega)))
  clear hfo k13
  go_wp2_with fail
  refine (sb_WriteString O O (S ++ Y ++ V) (bs E) w13 S13.out (by rw [bs_size, List.length_append, List.length_append]; omega)).mono ?_
  rintro e w14 ⟨rfl, s14, k14⟩
  rw [bs_list] at s14
  have S14 := Lib.hid s14
  have K14 := Lib.hid (K13.out.trans k14.bel)
  clear s14 k14
  go_wp2_with fail
  refine (sb_String O O (S ++ Y ++ V ++ E) w14 S14.out).mono ?_
  rintro e w15 ⟨rfl, _, k15, _⟩
  have K15 := Lib.hid (K14.out.trans k15)
  clear k15
  go_wp2_with fail
  go_ret2
  rw [show tabB each per T = S ++ (Y ++ (V ++ E)) by rw [HR.out, HV.out, HE.out, HGL.out]; simp only [List.append_assoc]]
  exact ⟨rfl, K2.out.trans (K15.out.mono Z2.out.2)⟩
/-- The program's Build, of any entries that are few. -/
theorem table_Build (a : Option Addr) (len cap : Nat) (T : List Ent) (each per : Int) (w : World) (hT : Hid (IsE w a len T)) (hl : len ≤ 3001) (hcap : len ≤ cap) (hs : Hid (smallE T)) (hg : Hid (Glob w)) :
    Calls Tryd.prog 10 #[.slice a len cap, .int .i64 each, .int .i64 per] w fun e w' => e = .returned (.tuple #[.string (bs (if buildE' each per T = 0 then tabB each.toNat per.toNat T else [])), .int .i64 (buildE' each per T)]) ∧ Below w.heap.size w w' := by
  by_cases h : each < 1 ∨ 256 < each ∨ per < 1 ∨ 32 < per
  · have hb : buildE' each per T = 1 := by unfold buildE'; rw [if_pos h]
    rw [hb, if_neg (by decide)]
    exact build_arg a len cap each per w h
  · have hb : buildE' each per T = chkE T := by unfold buildE'; rw [if_neg h]
    obtain ⟨n, hn⟩ : ∃ n : Nat, each = n := ⟨each.toNat, by omega⟩
    obtain ⟨m, hm⟩ : ∃ m : Nat, per = m := ⟨per.toNat, by omega⟩
    subst hn hm
    rw [hb]
    by_cases hc : chkE T = 0
    · rw [if_pos hc, hc]
      exact build_ok a len cap T n m w hT hl hcap (by omega) (by omega) (by omega) (by omega) (Lib.hid hc) hg
    · rw [if_neg hc]
      exact build_bad a len cap T n m w hT (by omega) (Lib.hid (fit_of_small hs.out)) (by omega) (by omega) (by omega) (by omega) (Lib.hid hc)
end Go.Proofs.YteejldddgogbkaaDoor
/- A piece of the index, read. -/
set_option linter.unusedVariables false
set_option maxRecDepth 100000
namespace Go.Proofs.YteejldddgogbkaaDoor
open Go.RowKit

/-- What the value of an entry of the index tells: the error, the size; it must begin at this place, and end at most at that one. -/
def pieceE (v : List UInt8) (begin most : Nat) : Int :=
  if ce v ≠ 0 then ce v else if ce (v.drop (ck v)) ≠ 0 then ce (v.drop (ck v)) else
  if ck v + ck (v.drop (ck v)) < v.length ∨ cn v ≠ (begin : Int) ∨ cn (v.drop (ck v)) > (most : Int) - cn v then 3 else 0
def pv3 (k : List UInt8) (a b : Nat) : Value := .agg #[.string (bs k), .int .i64 (a : Int), .int .i64 (b : Int)]
theorem rd_mk {r : Nat} {s : ByteArray} {a b : Value} {w w' : World} {e : Ending} (h : Rd r s a b w e w') : e = .returned (.tuple #[a, b]) ∧ Rt r s w' ∧ Only (fun k => k = r) w w' := h
theorem C3.only {b : Nat} {ty : TypeId} {v0 v1 v2 : Value} {w w' : World} {S : Nat → Prop} (h : C3 b ty v0 v1 v2 w) (k : Only S w w') (hS : ¬ S b) : C3 b ty v0 v1 v2 w' := (k.block b (heap_lt h) hS).trans h
set_option maxHeartbeats 4000000 in
theorem table_openPiece (x : Ent) (begin most : Nat) (w : World) (hx : x.val.length ≤ 100000000000) (hb : begin ≤ most) (hm : most ≤ 100000000000) :
    Calls Tryd.prog 56 #[EV x, .int .i64 (begin : Int), .int .i64 (most : Int)] w fun e w' => e = .returned (.tuple #[if pieceE x.val begin most = 0 then pv3 x.key begin (cn (x.val.drop (ck x.val))).toNat else pv3 [] 0 0, .int .i64 (pieceE x.val begin most)]) ∧ Below w.heap.size w w' := by
  obtain ⟨v, hv⟩ : ∃ v, v = x.val := ⟨_, rfl⟩
  obtain ⟨X, hX⟩ : ∃ X, X = w.heap.size := ⟨_, rfl⟩
  obtain ⟨w1, hw1⟩ : ∃ w1, w1 = (w.alloc (.cells #[.string (bs x.key), .string (bs v), .bool x.gone] 38)).alloc (.cells #[.string ⟨#[]⟩, .int .i64 0, .int .i64 0] 107) := ⟨_, rfl⟩
  have O1 := Lib.hid (show Below X w w1 by rw [hw1, hX]; exact ((Below.refl _ _).alloc (Nat.le_refl _) _).alloc (by simp) _)
  have S1 := Lib.hid (show w1.heap.size = X + 2 by rw [hw1, hX]; simp)
  have E1 := Lib.hid (show C3 X 38 (.string (bs x.key)) (.string (bs v)) (.bool x.gone) w1 by rw [hw1]; unfold C3; rw [Below.heap_alloc _ _ _ (by simp; omega), hX]; exact heap_new w _)
  have C1 := Lib.hid (show C3 (X + 1) 107 (.string ⟨#[]⟩) (.int .i64 0) (.int .i64 0) w1 by
    have h := heap_new (w.alloc (.cells #[.string (bs x.key), .string (bs v), .bool x.gone] 38)) (.cells #[.string ⟨#[]⟩, .int .i64 0, .int .i64 0] 107)
    rw [show (w.alloc (.cells #[.string (bs x.key), .string (bs v), .bool x.gone] 38)).heap.size = X + 1 by rw [hX]; simp] at h
    rw [hw1]; exact h)
  have hvl : v.length ≤ 100000000000 := by rw [hv]; exact hx
  have z1 : (bs v).size = v.length := bs_size _
  rw [← hv]
  unfold EV
  rw [← hv]
  have HW1 := Lib.hid hw1
  have HX := Lib.hid hX
  rw [← HX.out]
  have e1 := E1.out.c1
  obtain ⟨w2, hw2⟩ : ∃ w2, w2 = w1.alloc (.cells #[.string (bs v)] 150) := ⟨_, rfl⟩
  have R2 := Lib.hid (show Rt (X + 2) (bs v) w2 by rw [hw2, ← S1.out]; exact Rt.new _ _)
  have O2 := Lib.hid (show Below X w w2 by rw [hw2]; exact O1.out.alloc (by rw [S1.out]; omega) _)
  have E2 := Lib.hid (show C3 X 38 (.string (bs x.key)) (.string (bs v)) (.bool x.gone) w2 by rw [hw2]; exact (Below.heap_alloc w1 _ _ (by rw [S1.out]; omega)).trans E1.out)
  have C2 := Lib.hid (show C3 (X + 1) 107 (.string ⟨#[]⟩) (.int .i64 0) (.int .i64 0) w2 by rw [hw2]; exact (Below.heap_alloc w1 _ _ (by rw [S1.out]; omega)).trans C1.out)
  have HW2 := Lib.hid hw2
  have hc1 := six_ReadCount (X + 2) (bs v) w2 R2.out (by rw [z1]; unfold maxLen; omega)
  rw [bs_list, rest_bs] at hc1
  obtain ⟨v2, hv2⟩ : ∃ v2, v2 = v.drop (ck v) := ⟨_, rfl⟩
  rw [← hv2] at hc1
  have hv2l : v2.length ≤ 100000000000 := by rw [hv2, List.length_drop]; omega
  have hc2 := fun W (h : Rt (X + 2) (bs v2) W) => six_ReadCount (X + 2) (bs v2) W h (by rw [bs_size]; unfold maxLen; omega)
  simp only [bs_list, rest_bs] at hc2
  have HC2 := Lib.hid hc2
  have hS1 := S1.out
  have hcd1 := cd_cases v
  have hcd2 := cd_cases v2
  have hP : pieceE v begin most = if ce v ≠ 0 then ce v else if ce v2 ≠ 0 then ce v2 else if ck v + ck v2 < v.length ∨ cn v ≠ (begin : Int) ∨ cn v2 > (most : Int) - cn v then 3 else 0 := by unfold pieceE; rw [← hv2]
  obtain ⟨P, hPd⟩ : ∃ P, P = pieceE v begin most := ⟨_, rfl⟩
  rw [← hPd] at hP ⊢
  rw [← hv2]
  have hv2' := hv2
  clear hw1 hX hw2 hv hPd hc2 hv2
  by_cases h1 : ce v = 0
  · rw [if_neg (fun h => h h1)] at hP
    have H1 := Lib.hid h1
    rw [h1] at hc1
    obtain ⟨n1, hn1⟩ : ∃ n, n = cn v := ⟨_, rfl⟩
    rw [← hn1] at hP hc1
    have hn1r : 0 ≤ n1 ∧ n1 ≤ 9223372036854775807 := by rw [hn1]; omega
    have HC1 := Lib.hid hc1
    by_cases h2 : ce v2 = 0
    · rw [if_neg (fun h => h h2)] at hP
      have hc2' := HC2.out
      rw [h2] at hc2'
      obtain ⟨n2, hn2⟩ : ∃ n, n = cn v2 := ⟨_, rfl⟩
      simp only [← hn2] at hP hc2' ⊢
      have hn2r : 0 ≤ n2 ∧ n2 ≤ 9223372036854775807 := by rw [hn2]; omega
      have HC2' := Lib.hid hc2'
      obtain ⟨v3, hv3⟩ : ∃ v3, v3 = v2.drop (ck v2) := ⟨_, rfl⟩
      have hsh : (ck v + ck v2 < v.length) ↔ v3 ≠ [] := by
        rw [hv3, ← List.length_pos_iff, List.length_drop, hv2', List.length_drop]
        omega
      rw [← hv3] at HC2'
      have z3 : (bs v3).size = v3.length := bs_size _
      clear h1 h2 hc1 hc2' hcd1 hcd2 hn1 hn2 HC2 hv3
      by_cases h3 : v3 = []
      · by_cases h4 : n1 = (begin : Int)
        · by_cases h5 : n2 > (most : Int) - n1
          · rw [if_pos (.inr (.inr h5))] at hP
            have HP := Lib.hid hP
            rw [hP, if_neg (by decide)]
            unfold pv3
            subst h4
            have hb3 : (bs v3).toList = [] := by rw [Lib.toList_data, bs_list, h3]
            clear hP hsh h3
            go_enter Tryd.func56, Tryd.ntmps56
            go_upto_region 1 with (fail)
            rw [← HX.out]
            rw [← HW1.out]
            go_wp2_with fail
            refine (six_Over (bs v) w1).mono ?_
            rintro e _ ⟨rfl, rfl⟩
            rw [hS1, ← HW2.out]
            clear e1
            go_wp2_with fail
            refine HC1.out.mono ?_
            rintro e w3 hrd3
            obtain ⟨rfl, r3, o3⟩ := rd_mk hrd3
            have O3 := Lib.hid (O2.out.trans (o3.below (fun j _ e => by subst e; omega) (Nat.le_of_lt (heap_lt E2.out))))
            have c3 := C2.out.only o3 (by omega)
            have C3' := Lib.hid c3
            have E3 := Lib.hid (E2.out.only o3 (by omega))
            have R3 := Lib.hid r3
            clear hrd3 r3 o3
            go_wp2_with fail
            refine (HC2'.out w3 R3.out).mono ?_
            rintro e w4 hrd4
            obtain ⟨rfl, r4, o4⟩ := rd_mk hrd4
            have O4 := Lib.hid (O3.out.trans (o4.below (fun j _ e => by subst e; omega) (Nat.le_of_lt (heap_lt E3.out))))
            have c4 := C3'.out.only o4 (by omega)
            have C4 := Lib.hid c4
            have R4 := Lib.hid r4
            clear hrd4 r4 o4 c3
            go_wp2_with fail
            refine (six_Rest (X + 2) _ w4 R4.out).mono ?_
            rintro e _ ⟨rfl, rfl⟩
            have q0 := c4.c0
            have q1 := c4.c1
            have q2 := c4.c2
            have qf := c4.free
            clear c4
            go_wp2_with fail
            refine bodyPost_ret (results_c3 rfl _ _ (X + 1) _ _ _ _ _ rfl rfl (C4.out.put _ _ _) Tryd.underlying107 rfl sizePiece) rfl ?_
            exact ⟨rfl, below_put3' O4.out (by omega) _ _ _⟩
          · rw [if_neg (by
              rintro (h | h | h)
              · exact hsh.1 h h3
              · exact h h4
              · exact h5 h)] at hP
            have HP := Lib.hid hP
            rw [hP, if_pos rfl]
            unfold pv3
            subst h4
            have hb3 : (bs v3).toList = [] := by rw [Lib.toList_data, bs_list, h3]
            obtain ⟨N2, hN2⟩ : ∃ N2 : Nat, n2 = (N2 : Int) := ⟨n2.toNat, by omega⟩
            subst hN2
            rw [Int.toNat_natCast]
            clear hP hsh h3
            go_enter Tryd.func56, Tryd.ntmps56
            go_upto_region 1 with (fail)
            rw [← HX.out]
            rw [← HW1.out]
            go_wp2_with fail
            refine (six_Over (bs v) w1).mono ?_
            rintro e _ ⟨rfl, rfl⟩
            rw [hS1, ← HW2.out]
            clear e1
            go_wp2_with fail
            refine HC1.out.mono ?_
            rintro e w3 hrd3
            obtain ⟨rfl, r3, o3⟩ := rd_mk hrd3
            have O3 := Lib.hid (O2.out.trans (o3.below (fun j _ e => by subst e; omega) (Nat.le_of_lt (heap_lt E2.out))))
            have c3 := C2.out.only o3 (by omega)
            have C3' := Lib.hid c3
            have E3 := Lib.hid (E2.out.only o3 (by omega))
            have R3 := Lib.hid r3
            clear hrd3 r3 o3
            go_wp2_with fail
            refine (HC2'.out w3 R3.out).mono ?_
            rintro e w4 hrd4
            obtain ⟨rfl, r4, o4⟩ := rd_mk hrd4
            have O4 := Lib.hid (O3.out.trans (o4.below (fun j _ e => by subst e; omega) (Nat.le_of_lt (heap_lt E3.out))))
            have c4 := C3'.out.only o4 (by omega)
            have C4 := Lib.hid c4
            have e4 := (E3.out.only o4 (by omega)).c0
            have R4 := Lib.hid r4
            clear hrd4 r4 o4 c3
            go_wp2_with fail
            refine (six_Rest (X + 2) _ w4 R4.out).mono ?_
            rintro e _ ⟨rfl, rfl⟩
            have q0 := c4.c0
            have q1 := c4.c1
            have q2 := c4.c2
            have qf := c4.free
            clear c4
            go_wp2_with fail
            refine bodyPost_ret (results_c3 rfl _ _ (X + 1) _ _ _ _ _ rfl rfl (C4.out.put _ _ _) Tryd.underlying107 rfl sizePiece) rfl ?_
            exact ⟨rfl, below_put3' O4.out (by omega) _ _ _⟩
        · rw [if_pos (.inr (.inl h4))] at hP
          have HP := Lib.hid hP
          rw [hP, if_neg (by decide)]
          unfold pv3
          have hb3 : (bs v3).toList = [] := by rw [Lib.toList_data, bs_list, h3]
          have hb4 : (n1 == (begin : Int)) = false := beq_eq_false_iff_ne.2 h4
          clear hP hsh h3
          go_enter Tryd.func56, Tryd.ntmps56
          go_upto_region 1 with (fail)
          rw [← HX.out]
          rw [← HW1.out]
          go_wp2_with fail
          refine (six_Over (bs v) w1).mono ?_
          rintro e _ ⟨rfl, rfl⟩
          rw [hS1, ← HW2.out]
          clear e1
          go_wp2_with fail
          refine HC1.out.mono ?_
          rintro e w3 hrd3
          obtain ⟨rfl, r3, o3⟩ := rd_mk hrd3
          have O3 := Lib.hid (O2.out.trans (o3.below (fun j _ e => by subst e; omega) (Nat.le_of_lt (heap_lt E2.out))))
          have c3 := C2.out.only o3 (by omega)
          have C3' := Lib.hid c3
          have E3 := Lib.hid (E2.out.only o3 (by omega))
          have R3 := Lib.hid r3
          clear hrd3 r3 o3
          go_wp2_with fail
          refine (HC2'.out w3 R3.out).mono ?_
          rintro e w4 hrd4
          obtain ⟨rfl, r4, o4⟩ := rd_mk hrd4
          have O4 := Lib.hid (O3.out.trans (o4.below (fun j _ e => by subst e; omega) (Nat.le_of_lt (heap_lt E3.out))))
          have c4 := C3'.out.only o4 (by omega)
          have C4 := Lib.hid c4
          have R4 := Lib.hid r4
          clear hrd4 r4 o4 c3
          go_wp2_with fail
          refine (six_Rest (X + 2) _ w4 R4.out).mono ?_
          rintro e _ ⟨rfl, rfl⟩
          have q0 := c4.c0
          have q1 := c4.c1
          have q2 := c4.c2
          have qf := c4.free
          clear c4
          go_wp2_with fail
          refine bodyPost_ret (results_c3 rfl _ _ (X + 1) _ _ _ _ _ rfl rfl (C4.out.put _ _ _) Tryd.underlying107 rfl sizePiece) rfl ?_
          exact ⟨rfl, below_put3' O4.out (by omega) _ _ _⟩
      · rw [if_pos (.inl (hsh.2 h3))] at hP
        have HP := Lib.hid hP
        rw [hP, if_neg (by decide)]
        unfold pv3
        have hb3 : ¬ (bs v3).toList = [] := by rw [Lib.toList_data, bs_list]; exact h3
        clear hP hsh h3
        go_enter Tryd.func56, Tryd.ntmps56
        go_upto_region 1 with (fail)
        rw [← HX.out]
        rw [← HW1.out]
        go_wp2_with fail
        refine (six_Over (bs v) w1).mono ?_
        rintro e _ ⟨rfl, rfl⟩
        rw [hS1, ← HW2.out]
        clear e1
        go_wp2_with fail
        refine HC1.out.mono ?_
        rintro e w3 hrd3
        obtain ⟨rfl, r3, o3⟩ := rd_mk hrd3
        have O3 := Lib.hid (O2.out.trans (o3.below (fun j _ e => by subst e; omega) (Nat.le_of_lt (heap_lt E2.out))))
        have c3 := C2.out.only o3 (by omega)
        have C3' := Lib.hid c3
        have E3 := Lib.hid (E2.out.only o3 (by omega))
        have R3 := Lib.hid r3
        clear hrd3 r3 o3
        go_wp2_with fail
        refine (HC2'.out w3 R3.out).mono ?_
        rintro e w4 hrd4
        obtain ⟨rfl, r4, o4⟩ := rd_mk hrd4
        have O4 := Lib.hid (O3.out.trans (o4.below (fun j _ e => by subst e; omega) (Nat.le_of_lt (heap_lt E3.out))))
        have c4 := C3'.out.only o4 (by omega)
        have C4 := Lib.hid c4
        have R4 := Lib.hid r4
        clear hrd4 r4 o4 c3
        go_wp2_with fail
        refine (six_Rest (X + 2) _ w4 R4.out).mono ?_
        rintro e _ ⟨rfl, rfl⟩
        have q0 := c4.c0
        have q1 := c4.c1
        have q2 := c4.c2
        have qf := c4.free
        clear c4
        go_wp2_with fail
        refine bodyPost_ret (results_c3 rfl _ _ (X + 1) _ _ _ _ _ rfl rfl (C4.out.put _ _ _) Tryd.underlying107 rfl sizePiece) rfl ?_
        exact ⟨rfl, below_put3' O4.out (by omega) _ _ _⟩
    · rw [if_pos h2] at hP
      have hz0 : (ce v2 == 0) = false := beq_eq_false_iff_ne.2 h2
      have hPn := Lib.hid (show ¬ P = 0 by rw [hP]; exact h2)
      have hc2' := HC2.out
      obtain ⟨z, hz⟩ : ∃ z, z = ce v2 := ⟨_, rfl⟩
      rw [← hz] at hP hz0 hc2'
      have HP := Lib.hid hP
      have HC2' := Lib.hid hc2'
      rw [if_neg hPn.out, HP.out]
      unfold pv3
      clear h1 h2 hP hz hc1 hc2' hcd1 hcd2 HC2 hn1
      go_enter Tryd.func56, Tryd.ntmps56
      go_upto_region 1 with (fail)
      rw [← HX.out]
      rw [← HW1.out]
      go_wp2_with fail
      refine (six_Over (bs v) w1).mono ?_
      rintro e _ ⟨rfl, rfl⟩
      rw [hS1, ← HW2.out]
      clear e1
      go_wp2_with fail
      refine HC1.out.mono ?_
      rintro e w3 hrd3
      obtain ⟨rfl, r3, o3⟩ := rd_mk hrd3
      have O3 := Lib.hid (O2.out.trans (o3.below (fun j _ e => by subst e; omega) (Nat.le_of_lt (heap_lt E2.out))))
      have c3 := C2.out.only o3 (by omega)
      have C3' := Lib.hid c3
      have E3 := Lib.hid (E2.out.only o3 (by omega))
      have R3 := Lib.hid r3
      clear hrd3 r3 o3
      go_wp2_with fail
      refine (HC2'.out w3 R3.out).mono ?_
      rintro e w4 hrd4
      obtain ⟨rfl, r4, o4⟩ := rd_mk hrd4
      have O4 := Lib.hid (O3.out.trans (o4.below (fun j _ e => by subst e; omega) (Nat.le_of_lt (heap_lt E3.out))))
      have c4 := C3'.out.only o4 (by omega)
      have C4 := Lib.hid c4
      clear hrd4 r4 o4 c3
      have q0 := c4.c0
      have q1 := c4.c1
      have q2 := c4.c2
      have qf := c4.free
      clear c4
      go_wp2_with fail
      refine bodyPost_ret (results_c3 rfl _ _ (X + 1) _ _ _ _ _ rfl rfl (C4.out.put _ _ _) Tryd.underlying107 rfl sizePiece) rfl ?_
      exact ⟨rfl, below_put3' O4.out (by omega) _ _ _⟩
  · rw [if_pos h1] at hP
    have hz0 : (ce v == 0) = false := beq_eq_false_iff_ne.2 h1
    have hPn := Lib.hid (show ¬ P = 0 by rw [hP]; exact h1)
    obtain ⟨z, hz⟩ : ∃ z, z = ce v := ⟨_, rfl⟩
    rw [← hz] at hP hz0 hc1
    have HP := Lib.hid hP
    rw [if_neg hPn.out, HP.out]
    unfold pv3
    have HC1 := Lib.hid hc1
    clear h1 hP hz hc1 hcd1 hcd2
    go_enter Tryd.func56, Tryd.ntmps56
    go_upto_region 1 with (fail)
    rw [← HX.out]
    rw [← HW1.out]
    go_wp2_with fail
    refine (six_Over (bs v) w1).mono ?_
    rintro e _ ⟨rfl, rfl⟩
    rw [hS1, ← HW2.out]
    clear e1
    go_wp2_with fail
    refine HC1.out.mono ?_
    rintro e w3 hrd3
    obtain ⟨rfl, r3, o3⟩ := rd_mk hrd3
    have O3 := Lib.hid (O2.out.trans (o3.below (fun j _ e => by subst e; omega) (Nat.le_of_lt (heap_lt E2.out))))
    have c3 := C2.out.only o3 (by omega)
    have C3' := Lib.hid c3
    have E3 := Lib.hid (E2.out.only o3 (by omega))
    have R3 := Lib.hid r3
    clear hrd3 r3 o3
    have q0 := c3.c0
    have q1 := c3.c1
    have q2 := c3.c2
    have qf := c3.free
    clear c3
    go_wp2_with fail
    refine bodyPost_ret (results_c3 rfl _ _ (X + 1) _ _ _ _ _ rfl rfl (C3'.out.put _ _ _) Tryd.underlying107 rfl sizePiece) rfl ?_
    exact ⟨rfl, below_put3' O3.out (by omega) _ _ _⟩
end Go.Proofs.YteejldddgogbkaaDoor
