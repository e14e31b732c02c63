/- A word for each round, as the program lays them. -/
import Derived.Test.YtbiifdnicieamaaDoorShaRight
import Derived.Test.YtbiifdnicieamaaDoorShaRefKeys
import Derived.RegionTactic
set_option linter.unusedVariables false
set_option maxRecDepth 100000
namespace Go.Proofs.YtbiifdnicieamaaDoor
open Go.RowKit

theorem words32_size (l : List Nat) : (words32 l).size = l.length := by simp [words32]
theorem words32_one (l : List Nat) : (words32 l).all (·.oneCell') = true := by
  rw [Array.all_eq_true_iff_forall_mem]
  intro v hv
  unfold words32 at hv
  simp at hv
  obtain ⟨b, _, rfl⟩ := hv
  rfl
theorem range32 {b : Nat} {l : List Nat} {w : World} (h : Row32 b l w) : w.rangeAt b 0 (words32 l).toList := by
  intro j v hj
  have hlt : j < l.length := by
    have := (List.getElem?_eq_some_iff.1 hj).1
    simpa [words32] using this
  rw [Nat.zero_add, (h.2 j hlt).1]
  simp [words32] at hj
  obtain ⟨x, hx, rfl⟩ := hj
  simp [List.getD_eq_getElem?_getD, hx]
theorem there32 {b : Nat} {l : List Nat} {w : World} (h : Row32 b l w) : w.there b 0 l.length := fun j hj => by
  rw [Nat.zero_add, (h.2 j hj).1]
  exact ⟨rfl, (h.2 j hj).2⟩
theorem row32_zero (w : World) (n : Nat) (t : TypeId) : Row32 w.heap.size (List.replicate n 0) (w.alloc (.cells (Array.replicate n (.int .u32 0)) t)) := by
  have h := row32_new w (List.replicate n 0) t
  have e : words32 (List.replicate n 0) = Array.replicate n (.int .u32 0) := by
    unfold words32
    rw [List.map_replicate]
    rfl
  rwa [e] at h
theorem keyA_range (w : World) (l : List UInt8) (t : TypeId) : (w.alloc (.cells (keyA l) t)).rangeAt w.heap.size 0 (keyA l).toList := by
  intro j v hj
  rw [World.cell?_alloc_mark, Nat.zero_add]
  simpa using hj
/-- The words where so many bytes are gone over. -/
def wfill (L : List UInt8) (i : Nat) : List Nat := (List.range 64).map fun m => if m < i / 4 then wordAt L (4 * m) else if m = i / 4 then partW L (4 * m) (i % 4) else 0
theorem wfill_len (L : List UInt8) (i : Nat) : (wfill L i).length = 64 := by simp [wfill]
theorem wfill_at (L : List UInt8) (i m : Nat) (h : m < 64) : (wfill L i).getD m 0 = if m < i / 4 then wordAt L (4 * m) else if m = i / 4 then partW L (4 * m) (i % 4) else 0 := by
  simp [wfill, List.getD_eq_getElem?_getD, h]
theorem wfill_zero (L : List UInt8) : wfill L 0 = List.replicate 64 0 := by
  apply List.ext_getElem (by simp [wfill])
  intro m h1 h2
  simp only [wfill, List.getElem_map, List.getElem_range, List.getElem_replicate]
  rw [if_neg (by omega)]
  split
  · rfl
  · rfl
theorem ext_getD {l m : List Nat} (h : l.length = m.length) (he : ∀ j, j < l.length → l.getD j 0 = m.getD j 0) : l = m := by
  apply List.ext_getElem h
  intro j h1 h2
  have := he j h1
  rw [List.getD_eq_getElem?_getD, List.getD_eq_getElem?_getD, List.getElem?_eq_getElem h1, List.getElem?_eq_getElem h2] at this
  exact this
theorem getD_set (l : List Nat) (i j v : Nat) (h : i < l.length) : (l.set i v).getD j 0 = if j = i then v else l.getD j 0 := by
  simp only [List.getD_eq_getElem?_getD, List.getElem?_set]
  by_cases hji : j = i
  · subst hji; simp [h]
  · rw [if_neg (fun e => hji e.symm), if_neg hji]
theorem wfill_next (L : List UInt8) (i : Nat) (h : i < 64) : (wfill L i).set (i / 4) (256 * (wfill L i).getD (i / 4) 0 + byteAt L i) = wfill L (i + 1) := by
  apply ext_getD (by simp [wfill])
  intro m hm
  have hm : m < 64 := by simpa [wfill] using hm
  rw [getD_set _ _ _ _ (by rw [wfill_len]; omega), wfill_at _ _ _ hm, wfill_at _ _ _ hm, wfill_at _ _ _ (by omega)]
  rw [if_neg (show ¬ i / 4 < i / 4 by omega), if_pos rfl]
  by_cases hmi : m = i / 4
  · subst hmi
    rw [if_pos rfl]
    have e : 256 * partW L (4 * (i / 4)) (i % 4) + byteAt L i = partW L (4 * (i / 4)) (i % 4 + 1) := by
      show _ = 256 * partW L (4 * (i / 4)) (i % 4) + byteAt L (4 * (i / 4) + i % 4)
      rw [show 4 * (i / 4) + i % 4 = i by omega]
    rw [e]
    by_cases h3 : i % 4 = 3
    · rw [if_pos (by omega), h3]
      exact partW_four L _
    · rw [if_neg (by omega), if_pos (by omega), show (i + 1) % 4 = i % 4 + 1 by omega]
  · rw [if_neg hmi]
    by_cases h1 : m < i / 4
    · rw [if_pos h1, if_pos (by omega)]
    · rw [if_neg h1, if_neg hmi]
      rw [if_neg (by omega)]
      by_cases h2 : m = (i + 1) / 4
      · rw [if_pos h2, show (i + 1) % 4 = 0 by omega]
        rfl
      · rw [if_neg h2]
theorem wfill_lt (L : List UInt8) (i : Nat) (h : i < 64) : (wfill L i).getD (i / 4) 0 < 16777216 := by
  rw [wfill_at _ _ _ (by omega), if_neg (by omega), if_pos rfl]
  exact partW_lt L _ _ (by omega)
/-- The words where so many are laid, the others 0. -/
def sfill (L : List UInt8) (i : Nat) : List Nat := sched L 0 i ++ List.replicate (64 - i) 0
theorem sched_get (L : List UInt8) (o : Nat) : ∀ i j, j < i → (sched L o i).getD j 0 = if j < 16 then wordAt L (o + 4 * j) else nextW (sched L o j) j := by
  intro i
  induction i with
  | zero => intro j h; omega
  | succ i ih =>
    intro j h
    simp only [sched]
    rw [List.getD_eq_getElem?_getD]
    by_cases hj : j < i
    · rw [List.getElem?_append_left (by rw [sched_len]; exact hj), ← List.getD_eq_getElem?_getD]
      exact ih j hj
    · obtain rfl : j = i := by omega
      rw [List.getElem?_append_right (by rw [sched_len]; omega), sched_len, Nat.sub_self]
      rfl
theorem wfill_all (L : List UInt8) : wfill L 64 = sfill L 16 := by
  have hl := sched_len L 0 16
  apply ext_getD (by simp [wfill, sfill, hl])
  intro m hm
  have hm : m < 64 := by simpa [wfill] using hm
  rw [wfill_at _ _ _ hm]
  unfold sfill
  rw [List.getD_eq_getElem?_getD]
  by_cases h : m < 16
  · rw [if_pos (by omega), List.getElem?_append_left (by omega), ← List.getD_eq_getElem?_getD, sched_get L 0 16 m h, if_pos h, Nat.zero_add]
  · rw [if_neg (by omega), List.getElem?_append_right (by omega), hl]
    have e : (if m = 64 / 4 then partW L (4 * m) (64 % 4) else 0) = 0 := by split <;> rfl
    rw [e, List.getElem?_replicate]
    split <;> rfl
theorem sfill_len (L : List UInt8) (i : Nat) (h : i ≤ 64) : (sfill L i).length = 64 := by
  have hl := sched_len L 0 i
  simp [sfill, hl]
  omega
theorem sfill_at (L : List UInt8) (i j : Nat) (h : j < i) : (sfill L i).getD j 0 = (sched L 0 i).getD j 0 := by
  unfold sfill
  rw [List.getD_eq_getElem?_getD, List.getElem?_append_left (by rw [sched_len]; exact h), ← List.getD_eq_getElem?_getD]
theorem sfill_next (L : List UInt8) (i : Nat) (h1 : 16 ≤ i) (h : i < 64) : (sfill L i).set i (nextW (sched L 0 i) i) = sfill L (i + 1) := by
  have hl := sched_len L 0 i
  have hl' := sched_len L 0 (i + 1)
  unfold sfill
  obtain ⟨k, hk⟩ : ∃ k, 64 - i = k + 1 := ⟨63 - i, by omega⟩
  rw [hk, show 64 - (i + 1) = k by omega, List.replicate_succ]
  rw [List.set_append_right _ _ (by omega), hl, Nat.sub_self]
  simp only [sched, List.set_cons_zero]
  rw [if_neg (by omega)]
  simp
theorem sfill_all (L : List UInt8) : sfill L 64 = sched L 0 64 := by simp [sfill]

theorem or_byte (x y : Nat) (hx : x < 16777216) (hy : y < 256) : bits BinOp.or IntKind.u32 ((x : Int) * 256) (y : Int) = ((256 * x + y : Nat) : Int) := by
  rw [show (x : Int) * 256 = ((x * 256 : Nat) : Int) by omega, u32_or_nat _ _ (by omega) (by omega), nat_join 8 _ _ (by omega) (by omega)]
  omega
theorem arr46 : Tryd.prog.underlying 90 = some (.array 64 5) := by kernel_rfl
theorem info46 : (Tryd.prog.info? 90).map (·.size) = some 64 := by kernel_rfl
theorem info56 : (Tryd.prog.info? 107).map (·.size) = some 64 := by kernel_rfl
theorem info45 : (Tryd.prog.info? 89).map (·.size) = some 8 := by kernel_rfl
theorem notAgg5 (w : World) : (isAgg 5).run Tryd.prog w = .ok false w := by kernel_rfl
theorem size5 (w : World) : (Go.sizeOf 5).run Tryd.prog w = .ok 1 w := by kernel_rfl
theorem keyA_at (L : List UInt8) (i : Nat) (h : i < L.length) : (keyA L)[i]? = some (.int .u8 ((byteAt L i : Nat) : Int)) := by
  rw [byteAt_get L i h]
  simp [keyA, h]

set_option maxHeartbeats 1000000 in
set_option maxRecDepth 100000 in
theorem sha_spread (L : List UInt8) (w : World) (hl : Hid (L.length = 64)) :
    Calls Tryd.prog 61 #[.agg (keyA L)] w fun e w' => e = .returned (.agg (words32 (sched L 0 64))) ∧ Below w.heap.size w w' := by
  obtain ⟨H, hH⟩ : ∃ H, H = w.heap.size := ⟨_, rfl⟩
  obtain ⟨W2, hW2⟩ : ∃ W2, W2 = ((w.alloc (.cells (keyA L) 90)).alloc (.cells (Array.replicate 64 (.int .u32 0)) 107)).alloc (.cells (Array.replicate 64 (.int .u32 0)) 107) := ⟨_, rfl⟩
  have b1 : Below (H + 1) (w.alloc (.cells (keyA L) 90)) ((w.alloc (.cells (keyA L) 90)).alloc (.cells (Array.replicate 64 (.int .u32 0)) 107)) := (Below.refl _ _).alloc (by rw [hH]; simp) _
  have b2 : Below (H + 1) (w.alloc (.cells (keyA L) 90)) W2 := by rw [hW2]; exact b1.alloc (by rw [hH]; simp) _
  have b3 : Below (H + 2) ((w.alloc (.cells (keyA L) 90)).alloc (.cells (Array.replicate 64 (.int .u32 0)) 107)) W2 := by rw [hW2]; exact (Below.refl _ _).alloc (by rw [hH]; simp) _
  have HBX := Lib.hid (show W2.rangeAt H 0 (keyA L).toList from rangeAt_below (by rw [hH]; exact keyA_range w L 90) b2 (by omega))
  have HR := Lib.hid (show Row32 (H + 1) (List.replicate 64 0) W2 by
    have h := row32_zero (w.alloc (.cells (keyA L) 90)) 64 107
    rw [show (w.alloc (.cells (keyA L) 90)).heap.size = H + 1 by rw [hH]; simp] at h
    exact h.keep b3 (by omega))
  have HW := Lib.hid (show Row32 (H + 1 + 1) (List.replicate 64 0) W2 by
    have h := row32_zero ((w.alloc (.cells (keyA L) 90)).alloc (.cells (Array.replicate 64 (.int .u32 0)) 107)) 64 107
    rw [show ((w.alloc (.cells (keyA L) 90)).alloc (.cells (Array.replicate 64 (.int .u32 0)) 107)).heap.size = H + 1 + 1 by rw [hH]; simp] at h
    rw [hW2]
    exact h)
  have HB := Lib.hid (show Below H w W2 by rw [hW2, hH]; exact (((Below.refl _ _).alloc (Nat.le_refl _) _).alloc (by simp) _).alloc (by simp; omega) _)
  have HW2 := Lib.hid hW2
  have HH := Lib.hid hH
  clear b1 b2 b3 hW2 hH
  go_enter Tryd.func61, Tryd.ntmps61
  go_upto_region 2 with (fail)
  change Code.wp _ _ _ _ (((w.alloc (.cells (keyA L) 90)).alloc (.cells (Array.replicate 64 (.int .u32 0)) 107)).alloc (.cells (Array.replicate 64 (.int .u32 0)) 107))
  rw [← HW2.out, ← HH.out]
  go_wp2_with (first | (refine wpList_load_mid rfl 90 (.tmp 1) rfl H 0 rfl (keyA L).toList _ HBX.out Tryd.underlying90 rfl (by simpa [keyA_size, hl.out] using info46) ?_))
  obtain ⟨Wb, hWb⟩ : ∃ x, x = H + 1 + 1 := ⟨_, rfl⟩
  rw [← hWb] at HW ⊢
  have HWb := Lib.hid (show H + 1 < Wb by omega)
  clear hWb
  have HL0 := Lib.hid (wfill_zero L)
  go_loopw [12] (fun vi wr => ∃ i : Nat, i ≤ 64 ∧ vi = .int .i64 i ∧ Row32 Wb (wfill L i) wr ∧ Row32 (H + 1) (List.replicate 64 0) wr ∧ Below H w wr) (fun vi wr => 64 - (intOf vi).toNat)
  case atStart => exact ⟨0, by omega, rfl, by rw [HL0.out]; exact HW.out, HR.out, HB.out⟩
  case round =>
    obtain ⟨i, hi, rfl, h1, h2, h3⟩ := hrel
    have R1 := Lib.hid h1
    have R2 := Lib.hid h2
    have B3 := Lib.hid h3
    clear h1 h2 h3
    by_cases hi64 : i < 64
    · have ix := run_index_arr 90 5 64 (keyA L) i _ arr46 notAgg5 size5 hi64 (keyA_at L i (by rw [hl.out]; exact hi64))
      obtain ⟨q, hq⟩ : ∃ q, q = i / 4 := ⟨_, rfl⟩
      have hq' : (i : Int) / 4 = (q : Int) := by omega
      have hq16 : (q : Int) < 64 := by omega
      have c1 := (R1.out.2 q (by rw [wfill_len]; omega)).1
      have c2 := (R1.out.2 q (by rw [wfill_len]; omega)).2
      have hx := wfill_lt L i hi64
      have hnx := wfill_next L i hi64
      have hy := byteAt_lt L i
      rw [← hq] at hx hnx
      have STN := Lib.hid (R1.out.set (i := q) (by rw [wfill_len]; omega) (256 * (wfill L i).getD q 0 + byteAt L i))
      rw [hnx] at STN
      generalize (wfill L i).getD q 0 = x at *
      generalize byteAt L i = y at *
      have hor := or_byte x y hx hy
      have hsum : 256 * x + y < 4294967296 := by omega
      generalize 256 * x + y = z at *
      have R2N := Lib.hid (R2.out.other (a := ⟨Wb, q, none⟩) (by show Wb ≠ H + 1; have := HWb.out; omega) (.int .u32 (z : Int)))
      have B3N := Lib.hid (B3.out.setCell (p := ⟨Wb, q, none⟩) (by show H ≤ Wb; have := HWb.out; omega) (.int .u32 (z : Int)))
      clear hq hnx
      go_wp2_with fail
      generalize wr.setCell ⟨Wb, q, none⟩ (.int .u32 (z : Int)) = wz at *
      go_wp2_with fail
      go_roundw
      case rel => exact ⟨i + 1, by omega, by go_num, STN.out, R2N.out, B3N.out⟩
      case measure => simp [intOf]; omega
    · obtain rfl : i = 64 := by omega
      rw [show ((64 : Nat) : Int) = 64 from rfl]
      have S1 := Lib.hid (show Row32 Wb (sfill L 16) wr by rw [← wfill_all]; exact R1.out)
      clear R1
      go_wp2_with fail
      go_loopw [6] (fun vi wo => ∃ i : Nat, 16 ≤ i ∧ i ≤ 64 ∧ vi = .int .i64 i ∧ Row32 Wb (sfill L i) wo ∧ Row32 (H + 1) (List.replicate 64 0) wo ∧ Below H w wo) (fun vi wo => 64 - (intOf vi).toNat)
      case atStart => exact ⟨16, by omega, by omega, rfl, S1.out, R2.out, B3.out⟩
      case round =>
        obtain ⟨i, hi16, hi, rfl, h1, h2, h3⟩ := hrel
        clear S1 R2 B3
        have R1 := Lib.hid h1
        have R2 := Lib.hid h2
        have B3 := Lib.hid h3
        clear h1 h2 h3
        by_cases hi64 : i < 64
        · obtain ⟨g15, e15⟩ : ∃ g, g = i - 15 := ⟨_, rfl⟩
          obtain ⟨g2, e2⟩ : ∃ g, g = i - 2 := ⟨_, rfl⟩
          obtain ⟨g16, e16⟩ : ∃ g, g = i - 16 := ⟨_, rfl⟩
          obtain ⟨g7, e7⟩ : ∃ g, g = i - 7 := ⟨_, rfl⟩
          have f15 : (i : Int) - 15 = (g15 : Int) := by omega
          have f2 : (i : Int) - 2 = (g2 : Int) := by omega
          have f16 : (i : Int) - 16 = (g16 : Int) := by omega
          have f7 : (i : Int) - 7 = (g7 : Int) := by omega
          have hlen := sfill_len L i hi
          have c15 := (R1.out.2 g15 (by omega)).1
          have c2 := (R1.out.2 g2 (by omega)).1
          have c16 := (R1.out.2 g16 (by omega)).1
          have c7 := (R1.out.2 g7 (by omega)).1
          have ci := (R1.out.2 i (by omega)).1
          have cif := (R1.out.2 i (by omega)).2
          have hnx := sfill_next L i hi16 hi64
          unfold nextW at hnx
          rw [← e15, ← e2, ← e16, ← e7] at hnx
          rw [sfill_at L i _ (by omega)] at c15 c2 c16 c7
          have l15 := getD_lt (sched_lt L 0 i) g15
          have l2 := getD_lt (sched_lt L 0 i) g2
          have l16 := getD_lt (sched_lt L 0 i) g16
          have l7 := getD_lt (sched_lt L 0 i) g7
          generalize (sched L 0 i).getD g15 0 = x15 at *
          generalize (sched L 0 i).getD g2 0 = x2 at *
          generalize (sched L 0 i).getD g16 0 = x16 at *
          generalize (sched L 0 i).getD g7 0 = x7 at *
          have k15 : (g15 : Int) < 64 := by omega
          have k2 : (g2 : Int) < 64 := by omega
          have k16 : (g16 : Int) < 64 := by omega
          have k7 : (g7 : Int) < 64 := by omega
          have HNX := Lib.hid hnx
          clear e15 e2 e16 e7 hnx hlen
          go_wp2_with fail
          go_quiet (fail)
          generalize hwq : wr.drewN nq = wq
          have R1q := Lib.hid (show Row32 Wb (sfill L i) wq by rw [← hwq]; exact ⟨R1.out.1, R1.out.2⟩)
          have R2q := Lib.hid (show Row32 (H + 1) (List.replicate 64 0) wq by rw [← hwq]; exact ⟨R2.out.1, R2.out.2⟩)
          have B3q := Lib.hid (show Below H w wq by rw [← hwq]; exact below_drewN B3.out nq)
          have c16 : wq.cell? ⟨Wb, g16, none⟩ = some (.int .u32 (x16 : Int)) := by rw [← hwq]; exact c16
          have c7 : wq.cell? ⟨Wb, g7, none⟩ = some (.int .u32 (x7 : Int)) := by rw [← hwq]; exact c7
          have cif : wq.frozen? ⟨Wb, i, none⟩ = false := by rw [← hwq]; exact cif
          have ci : wq.cell? ⟨Wb, i, none⟩ = some (.int .u32 (((sfill L i).getD i 0 : Nat) : Int)) := by rw [← hwq]; exact ci
          clear hwq R1 R2 B3 c15 c2
          have hf := sg_facts x15 7 18 8 l15
          have f1 := hf.1
          have f3 : bits BinOp.xor IntKind.u32 ((rotN 7 x15 ^^^ rotN 18 x15 : Nat) : Int) ((x15 : Int) / 8) = ((sg0 x15 : Nat) : Int) := hf.2
          clear hf
          go_wp2_with fail
          refine (sha_right x15 7 wq l15 (by decide) (by decide)).mono ?_
          rintro e' w9 ⟨rfl, rfl⟩
          go_wp2_with fail
          refine (sha_right x15 18 wq l15 (by decide) (by decide)).mono ?_
          rintro e' w9 ⟨rfl, rfl⟩
          have lS0 := sg0_lt l15
          have hg := sg_facts x2 17 19 1024 l2
          have f4 := hg.1
          have f5 : bits BinOp.xor IntKind.u32 ((rotN 17 x2 ^^^ rotN 19 x2 : Nat) : Int) ((x2 : Int) / 1024) = ((sg1 x2 : Nat) : Int) := hg.2
          clear hg
          have lS1 := sg1_lt l2
          obtain ⟨S0, hS0⟩ : ∃ S, S = sg0 x15 := ⟨_, rfl⟩
          obtain ⟨S1, hS1⟩ : ∃ S, S = sg1 x2 := ⟨_, rfl⟩
          rw [← hS0] at lS0 f3
          rw [← hS1] at lS1 f5
          have hnx := HNX.out
          rw [← hS0, ← hS1] at hnx
          have HNY := Lib.hid hnx
          clear hS0 hS1 hnx HNX
          go_wp2_with fail
          refine (sha_right x2 17 wq l2 (by decide) (by decide)).mono ?_
          rintro e' w9 ⟨rfl, rfl⟩
          go_wp2_with fail
          refine (sha_right x2 19 wq l2 (by decide) (by decide)).mono ?_
          rintro e' w9 ⟨rfl, rfl⟩
          go_wp2_with fail
          clear f1 f3 f4 f5 f15 f2
          have s1 := wrap_sum x16 S0
          have s2 := wrap_sum ((x16 + S0) % 4294967296) x7
          have s3 := wrap_sum ((((x16 + S0) % 4294967296) + x7) % 4294967296) S1
          have lX := mod32 (((x16 + S0) % 4294967296 + x7) % 4294967296 + S1)
          have hnx := HNY.out
          generalize (x16 + S0) % 4294967296 = A1 at *
          generalize (A1 + x7) % 4294967296 = A2 at *
          generalize (A2 + S1) % 4294967296 = A3 at *
          generalize (sfill L i).getD i 0 = old at *
          have STN := Lib.hid (R1q.out.set (i := i) (by rw [sfill_len L i hi]; exact hi64) A3)
          rw [hnx] at STN
          have R2N := Lib.hid (R2q.out.other (a := ⟨Wb, i, none⟩) (by show Wb ≠ H + 1; have := HWb.out; omega) (.int .u32 (A3 : Int)))
          have B3N := Lib.hid (B3q.out.setCell (p := ⟨Wb, i, none⟩) (by show H ≤ Wb; have := HWb.out; omega) (.int .u32 (A3 : Int)))
          clear hnx HNY
          go_region
          have STE := Lib.hid (show Row32 Wb (sfill L (i + 1)) ((wq.setCell ⟨Wb, i, none⟩ (.int .u32 (A3 : Int))).drew) from ⟨STN.out.1, STN.out.2⟩)
          have R2E := Lib.hid (show Row32 (H + 1) (List.replicate 64 0) ((wq.setCell ⟨Wb, i, none⟩ (.int .u32 (A3 : Int))).drew) from ⟨R2N.out.1, R2N.out.2⟩)
          have B3E := Lib.hid (B3N.out.drew)
          generalize (wq.setCell ⟨Wb, i, none⟩ (.int .u32 (A3 : Int))).drew = wz at *
          clear s1 s2 s3 lX f16 f7 c16 c7 ci cif
          go_wp2_with fail
          go_roundw
          case rel => exact ⟨i + 1, by omega, by omega, by go_num, STE.out, R2E.out, B3E.out⟩
          case measure => simp [intOf]; omega
        · obtain rfl : i = 64 := by omega
          rw [show ((64 : Nat) : Int) = 64 from rfl]
          have hend := sfill_all L
          rw [hend] at R1
          have hlen := sched_len L 0 64
          have HI := Lib.hid (show (Tryd.prog.info? 107).map (·.size) = some (words32 (sched L 0 64)).toList.length by simpa [words32, hlen] using info56)
          have HIS := Lib.hid (show (Tryd.prog.info? 107).map (·.size) = some (words32 (sched L 0 64)).size by rw [words32_size, hlen]; exact info56)
          have HRG := Lib.hid (range32 R1.out)
          have HTH := Lib.hid (show wr.there (H + 1) 0 (words32 (sched L 0 64)).size by rw [words32_size, hlen]; simpa using there32 R2.out)
          have HON := Lib.hid (words32_one (sched L 0 64))
          clear hend hlen
          obtain ⟨cs, hcs⟩ : ∃ cs, cs = words32 (sched L 0 64) := ⟨_, rfl⟩
          rw [← hcs] at HI HIS HRG HTH HON
          have HCS := Lib.hid hcs
          clear hcs
          go_wp2_with (first | (refine wpList_load_mid rfl 107 (.tmp 3) rfl Wb 0 rfl cs.toList _ HRG.out Tryd.underlying107 rfl HI.out ?_) | (refine wpList_store_mid rfl 107 (.tmp 2) (.tmp 71) rfl (H + 1) 0 cs rfl rfl HTH.out HIS.out HON.out ?_))
          refine bodyPost_ret (v := .agg cs) (results_arr rfl _ _ _ (H + 1) cs _ rfl HTH.out Tryd.underlying107 rfl HI.out) rfl ⟨by rw [HCS.out], ?_⟩
          rw [← HH.out]
          exact below_setCells (Nat.le_add_right _ _) _ 0 B3.out
end Go.Proofs.YtbiifdnicieamaaDoor
