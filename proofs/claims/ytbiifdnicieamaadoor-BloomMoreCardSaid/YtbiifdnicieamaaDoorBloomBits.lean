/- The numbers of a key's bits, one by one: the iterator's contract. -/
import Derived.Test.YtbiifdnicieamaaDoorBloomFilter
set_option linter.unusedVariables false
set_option maxRecDepth 100000
namespace Go.Proofs.YtbiifdnicieamaaDoor
open Go.RowKit

abbrev Num (N : Nat) := { x : Nat // x < N }
def nosF (h N : Nat) (hN : 0 < N) (k : List UInt8) : List (Num N) := (List.range h).map fun i => ⟨wordAt (digest k) (4 * i) % N, Nat.mod_lt _ hN⟩
theorem nosF_succ (h N : Nat) (hN : 0 < N) (k : List UInt8) : nosF (h + 1) N hN k = nosF h N hN k ++ [⟨wordAt (digest k) (4 * h) % N, Nat.mod_lt _ hN⟩] := by simp [nosF, List.range_succ]
theorem nosF_len (h N : Nat) (hN : 0 < N) (k : List UInt8) : (nosF h N hN k).length = h := by simp [nosF]
theorem nosF_val (h N : Nat) (hN : 0 < N) (k : List UInt8) : (nosF h N hN k).map (·.1) = nos h N k := by simp [nosF, nos]
theorem nosF_zero (N : Nat) (hN : 0 < N) (k : List UInt8) : nosF 0 N hN k = [] := rfl
theorem grown_of_below {W W' : World} (h : Below W.heap.size W W') : W.grownBy W' none := ⟨h.os, h.tape, h.output, h.size, fun j hj _ => h.block j hj⟩
theorem digest_len' (l : List UInt8) : (digest l).length = 32 := keyOf_len _

theorem flt_bitsOf (b : Nat) (s : ByteArray) (w : World) : Calls Tryd.prog 19 #[.pointer (some ⟨b, 0, none⟩), .string s] w fun e w' => e = .returned (.func (.func 36) #[] #[.pointer (some ⟨w.heap.size + 1, 0, none⟩), .pointer (some ⟨w.heap.size, 0, none⟩)]) ∧ (w.alloc (.cells #[.pointer (some ⟨b, 0, none⟩)] 25)).alloc (.cells #[.string s] 9) = w' := by
  go_enter Tryd.func19, Tryd.ntmps19
  go_wp2_with fail
  go_ret
  exact ⟨rfl, rfl⟩

set_option maxHeartbeats 2000000 in
theorem bits_in (n l kb fb b g h m cap X N : Nat) (hN : 0 < N) (key : List UInt8) (J Jx : List (Num N) → World → Prop) (W : World)
    (hNm : Hid (N = m * 8)) (hJ : Hid (AbidesFrom W.heap.size J))
    (hY : Hid (∀ pre (x : Num N) W1, J pre W1 → pre.length < h → YieldAt Fence.wide (n - 1) Tryd.prog l #[.int .i64 (x.1 : Int)] W1 fun e W' =>
      (e = .returned (.bool true) ∧ J (pre ++ [x]) W' ∧ KeepsCells X W1 W') ∨ (e = .returned (.bool false) ∧ Jx (pre ++ [x]) W')))
    (ck : W.cell? ⟨kb, 0, none⟩ = some (.string (bs key))) (cf : Hid (W.cell? ⟨fb, 0, none⟩ = some (.pointer (some ⟨b, 0, none⟩)))) (c0 : Hid (W.cell? ⟨b, 0, none⟩ = some (.int .i64 (h : Int)))) (c1 : Hid (W.cell? ⟨b, 1, none⟩ = some (.slice (some ⟨g, 0, none⟩) m cap)))
    (hg : Hid (Glob W)) (hX : Hid (fb ≠ X ∧ b ≠ X ∧ X < W.heap.size)) (hk : Hid (key.length ≤ 900000)) (hh : h ≤ 8) (hm : m ≤ 100000000) (h0 : Hid (J [] W)) :
    Calls Tryd.prog 36 #[.func (.yield l) #[] #[], .pointer (some ⟨kb, 0, none⟩), .pointer (some ⟨fb, 0, none⟩)] W fun e W' => (∃ v, e = .returned v) ∧
      ((∃ xs, xs = nosF h N hN key ∧ J xs W') ∨ (∃ pre, (∃ k, k ≤ h ∧ pre = nosF k N hN key) ∧ Jx pre W')) := by
  have hrow := Lib.hid (row_new W [bs key] 9)
  have hk1 := Lib.hid ((Below.refl W.heap.size W).alloc (Nat.le_refl _) (.cells (([bs key] : List ByteArray).map Value.string).toArray 9))
  have hg1 := Lib.hid (hg.out.keep hk1.out hg.out.1)
  have hjo := Lib.hid (show joined [bs key] = key by simp [joined, bs_list])
  go_enter Tryd.func36, Tryd.ntmps36
  go_wp2_with fail
  refine (sha_Sum (some ⟨W.heap.size, 0, none⟩) W.heap.size 0 1 1 [bs key] _ (Lib.hid rfl) (by omega) hrow (Lib.hid (by rw [hjo.out]; exact hk.out)) (Lib.hid (.inr rfl)) hg1).mono ?_
  rintro e w1 ⟨rfl, k1⟩
  rw [hjo.out]
  have K1 := Lib.hid (hk1.out.trans (k1.mono hk1.out.size))
  clear k1
  obtain ⟨ka, hka⟩ : ∃ x, x = keyA (digest key) := ⟨_, rfl⟩
  rw [← hka]
  have HIA := Lib.hid (show (Tryd.prog.info? 70).map (·.size) = some ka.toList.length by rw [hka]; exact info25 _ (digest_len' _))
  have HIS := Lib.hid (show (Tryd.prog.info? 70).map (·.size) = some ka.size by rw [hka]; exact info25s _ (digest_len' _))
  have HON := Lib.hid (show ka.all (·.oneCell') = true by rw [hka]; exact keyA_one _)
  have HTH := Lib.hid (show (w1.alloc (.cells (Array.replicate 32 (.int .u8 0)) 70)).there w1.heap.size 0 ka.size by
    rw [hka, keyA_size, digest_len']
    exact key_there (key8_new w1 70))
  have HKA := Lib.hid hka
  clear hka
  obtain ⟨W3, hW3⟩ : ∃ W3, W3 = (w1.alloc (.cells (Array.replicate 32 (.int .u8 0)) 70)).setCells w1.heap.size 0 ka.toList := ⟨_, rfl⟩
  have K3 := Lib.hid (show Below w1.heap.size w1 W3 by rw [hW3]; exact below_setCells (Nat.le_refl _) _ _ ((Below.refl _ w1).alloc (Nat.le_refl _) _))
  have KW := Lib.hid (K1.out.trans (K3.out.mono K1.out.size))
  have HR := Lib.hid (show W3.rangeAt w1.heap.size 0 ka.toList by rw [hW3]; exact World.rangeAt_setCells_same _ _ _ _ (by simpa using HTH.out))
  have D3 := Lib.hid (show W.heap.size ≤ w1.heap.size ∧ w1.heap.size < W3.heap.size from ⟨K1.out.size, by have := K3.out.size; rw [hW3]; have h2 := (below_setCells (Nat.le_refl w1.heap.size) ka.toList 0 ((Below.refl w1.heap.size (w1.alloc (.cells (Array.replicate 32 (.int .u8 0)) 70))))).size; simp at h2; omega⟩)
  have HW3 := Lib.hid hW3
  clear hW3
  go_upto_region 1 with (first | (refine wpList_store_mid rfl 70 (.tmp 4) (.tmp 8) rfl w1.heap.size 0 ka rfl rfl HTH.out HIS.out HON.out ?_))
  change Code.wp _ _ _ _ ((w1.alloc (.cells (Array.replicate 32 (.int .u8 0)) 70)).setCells w1.heap.size 0 ka.toList)
  rw [← HW3.out]
  obtain ⟨D, hD⟩ : ∃ D, D = w1.heap.size := ⟨_, rfl⟩
  rw [← hD] at HR D3 ⊢
  clear hD K3 K1 HTH HIS HON HW3
  have hfb : fb < W.heap.size := cell_block cf.out
  have hbb : b < W.heap.size := cell_block c0.out
  have cf3 : W3.cell? ⟨fb, 0, none⟩ = some (.pointer (some ⟨b, 0, none⟩)) := by rw [KW.out.cell hfb]; exact cf.out
  have c03 : W3.cell? ⟨b, 0, none⟩ = some (.int .i64 (h : Int)) := by rw [KW.out.cell hbb]; exact c0.out
  have c13 := Lib.hid (show W3.cell? ⟨b, 1, none⟩ = some (.slice (some ⟨g, 0, none⟩) m cap) by rw [KW.out.cell hbb]; exact c1.out)
  have HJ3 := Lib.hid (hJ.out [] W W3 none h0.out (grown_of_below KW.out) (fun r e => by cases e))
  have Hcf3 := Lib.hid cf3
  go_frame
  go_wp2_with fail
  clear cf3 c03
  go_loopw [13] (fun vi wr => ∃ k : Nat, k ≤ h ∧ vi = .int .i64 k ∧ Hid (J (nosF k N hN key) wr) ∧ Hid (KeepsCells X W3 wr)) (fun vi wr => h - (intOf vi).toNat)
  case atStart => exact ⟨0, by omega, rfl, HJ3, Lib.hid (KeepsCells.refl _ _)⟩
  case round =>
    obtain ⟨k, hkh, rfl, hJs, hkc⟩ := hrel
    rcases Nat.lt_or_ge k h with hlt | hge
    · have HRr := Lib.hid (show wr.rangeAt D 0 ka.toList from fun j v hj => by
        have := HR.out j v hj
        exact hkc.out.cell (by have := D3.out; have := hX.out.2.2; omega) this)
      have Hcf := Lib.hid (hkc.out.cell hX.out.1 Hcf3.out)
      have Hc1 := Lib.hid (hkc.out.cell hX.out.2.1 c13.out)
      have HDlt := Lib.hid (show D < wr.heap.size from Nat.lt_of_lt_of_le D3.out.2 hkc.out.size)
      go_wp2_with fail
      obtain ⟨x, hx⟩ : ∃ x, x = wordAt (digest key) (4 * k) := ⟨_, rfl⟩
      have hx32 : x < 4294967296 := by rw [hx]; exact wordAt_lt _ _
      obtain ⟨y, hy0⟩ : ∃ y : Num N, y = ⟨wordAt (digest key) (4 * k) % N, Nat.mod_lt _ hN⟩ := ⟨_, rfl⟩
      have HNX := Lib.hid (show nosF (k + 1) N hN key = nosF k N hN key ++ [y] by rw [nosF_succ, hy0])
      have hrem : (x : Int).tmod ((m : Int) * 8) = (y.1 : Int) := by
        rw [hy0, hx]
        show _ = (((wordAt (digest key) (4 * k) % N : Nat)) : Int)
        rw [hNm.out, Int.tmod_eq_emod_of_nonneg (by omega), Int.natCast_emod, Int.natCast_mul]
        rfl
      have hm0 : ¬ ((m : Int) * 8 = 0) := by have := hNm.out; omega
      have hwx : wrap64 (x : Int) = (x : Int) := by unfold wrap64; omega
      obtain ⟨XI, hXI⟩ : ∃ XI : Int, XI = (x : Int) := ⟨_, rfl⟩
      rw [← hXI] at hrem hwx
      have hk8 : ((k : Int) % 8).toNat = k := by omega
      have HWD := Lib.hid (fun (W : World) (n : Seen W) => by have h := seen_of (sha_Word (digest key) (k : Int) · (Lib.hid (digest_len' key))) W n; rw [hk8, ← hx, ← hXI, ← HKA.out] at h; exact h)
      have HSZ := Lib.hid (fun (n : Seen wr) => (flt_size b g m cap n.val (by rw [n.below.cell (cell_block Hc1.out)]; exact Hc1.out) hm).mono (R' := fun e w'' => e = .returned (.int .i64 ((m : Int) * 8)) ∧ ∃ m : Seen wr, w'' = m.val) fun _ w'' ⟨h1, h2⟩ => ⟨h1, ⟨n, h2.symm⟩⟩)
      have hfbr : ∀ n : Seen wr, n.val.cell? ⟨fb, 0, none⟩ = some (.pointer (some ⟨b, 0, none⟩)) := fun n => by rw [n.below.cell (cell_block Hcf.out)]; exact Hcf.out
      have HJn := Lib.hid (fun n : Seen wr => hJ.out _ wr n.val none hJs.out (grown_of_below n.below) (fun r e => by cases e))
      have HKn := Lib.hid (fun n : Seen wr => hkc.out.trans (KeepsCells.of_below (X := X) n.below))
      clear hx hy0 hk8 hXI hx32
      refine (wpIn_wide (n := n)).1 ?_
      refine wpIn_region_seen_tail 8 (by kernel_rfl) (by kernel_rfl) ?_
      simp only [List.take_succ_cons, List.take_zero, List.drop_succ_cons, List.drop_zero]
      go_big_quiet_step (fail)
      (go_big_quiet_want; refine quiet_load_arr 70 (.tmp 4) rfl D 0 rfl ka _ (seen_at HRr.out HDlt.out) Tryd.underlying70 rfl HIA.out ?_; go_big_quiet_on; try go_frame)
      go_big_quiet_step (fail)
      go_big_quiet_step (first | (go_at_call 38; with_reducible exact HWD.out _ _))
      go_big_quiet_step (fail)
      go_big_quiet_step (fail)
      go_big_quiet_step (first | (go_at_call 32; with_reducible exact HSZ.out _))
      go_big_quiet_step (fail)
      refine wpQuiet_nil ?_
      rintro _ ⟨m1, rfl⟩
      obtain ⟨fn, tm, asg, bdy, hy, hR⟩ := hY.out (nosF k N hN key) y m1.val (HJn.out m1) (by rw [nosF_len]; exact hlt)
      gi_wp2
      refine ⟨fun h => by simp [Fence.wide] at h, hR.mono ?_⟩
      rintro e W5 (⟨rfl, hJ5, hk5⟩ | ⟨rfl, hx5⟩)
      · gi_wp2
        go_wp2_with fail
        go_roundw
        case rel => exact ⟨k + 1, by omega, by go_num, Lib.hid (by rw [HNX.out]; exact hJ5), Lib.hid ((HKn.out m1).trans hk5)⟩
        case measure => simp [intOf]; omega
      · gi_wp2
        go_wp2_with fail
        refine bodyPost_ret (results_none rfl _ _ _) rfl ?_
        exact ⟨⟨_, rfl⟩, .inr ⟨_, ⟨k + 1, by omega, HNX.out.symm⟩, hx5⟩⟩
    · obtain rfl : k = h := by omega
      go_wp2_with fail
      go_end0
      exact ⟨⟨_, rfl⟩, .inl ⟨_, rfl, hJs.out⟩⟩
end Go.Proofs.YtbiifdnicieamaaDoor
