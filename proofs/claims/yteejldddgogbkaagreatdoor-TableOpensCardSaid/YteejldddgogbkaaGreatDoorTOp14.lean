/- Texts put together: BloomRefBits, BloomRefHas, Range, BloomFilter, BloomBits, BloomHas, BloomMake -/
import Derived.Test.YteejldddgogbkaaGreatDoorTOp04
import Derived.Test.YteejldddgogbkaaGreatDoorTOp09
import Derived.Test.YteejldddgogbkaaGreatDoorTOp13
import Derived.Test.YteejldddgogbkaaGreatDoorTOp01
import Derived.Test.YteejldddgogbkaaGreatDoorTOp08
import Derived.Maps.AppendAt
import Derived.Laws.AppendOwn
import Derived.Deep.Onto
import Derived.Test.YteejldddgogbkaaGreatDoorTOp06
import Derived.Test.YteejldddgogbkaaGreatDoorTOp00
import Derived.RangeFuncNested
import Derived.RangeFuncBound
import Derived.RangeFuncCalls
import Derived.RangeFuncLeaves
import Derived.Shelf.Abstract
import Derived.Shelf.RegionOpen
import Derived.WalkKit
import Derived.OwnWalkIn
import Derived.TacticsInMore
import Derived.LoopNIn
import Derived.LoopIn
import Derived.Deep.OwnRows
/- The document's filter: the numbers of a key's bits; has it a key; how many are 1. -/
set_option linter.unusedVariables false
set_option maxRecDepth 100000
set_option maxRecDepth 100000
namespace Go.Proofs.YteejldddgogbkaaGreatDoor
open Go.RowKit

theorem info3 : (Tryz.prog.info? 3).map (fun i => (i.zero, i.size, i.bytes)) = some (some (.int .i64 0), 1, 8) := by kernel_rfl
/-- A slice of numbers of the call's own. -/
def OwnI (B : Nat) (v : Value) (l : List Nat) (w : World) : Prop := w.ownsRow B 3 1 v l.length (l.map fun x : Nat => Value.int .i64 (x : Int))
theorem OwnI.nil (B : Nat) (w : World) : OwnI B (.slice none 0 0) [] w := World.ownsRow_nil w B 3 1
theorem OwnI.below {B : Nat} {v : Value} {l : List Nat} {w w' : World} (h : OwnI B v l w) (k : Below w.heap.size w w') : OwnI B v l w' := h.kept (row := none) ⟨k.os, k.tape, k.output, k.size, fun j hj _ => k.block j hj⟩ (by cases e : v.ownBlock with
  | none => exact .inl rfl
  | some x => exact .inr (by simp))
theorem OwnI.form {B n : Nat} {v : Value} {l : List Nat} {w : World} (h : OwnI B v l w) (hn : l.length = n) (hl : 0 < n) : ∃ g cap, v = .slice (some ⟨g, 0, none⟩) n cap ∧ B ≤ g ∧ g < w.heap.size := by
  subst hn
  rcases h.2 with ⟨_, h0⟩ | ⟨g, cap, cur, hv, hB, hg, _⟩
  · omega
  · exact ⟨g, cap, hv, hB, (Array.getElem?_eq_some_iff.1 hg).1⟩
theorem OwnI.cell {B g cap n : Nat} {l : List Nat} {w : World} (h : OwnI B (.slice (some ⟨g, 0, none⟩) n cap) l w) : ∀ j, j < l.length → w.cell? ⟨g, j, none⟩ = some (.int .i64 ((l.getD j 0 : Nat) : Int)) := by
  intro j hj
  have h1 := h.cells rfl j (.int .i64 ((l.getD j 0 : Nat) : Int)) (by simp [List.getD_eq_getElem?_getD, hj])
  rw [addr_add, Nat.zero_add] at h1
  exact h1
theorem OwnI.push {B : Nat} {v' : Value} {l : List Nat} {w' : World} {c : Int} {b : Nat} (h : w'.ownsRow B 3 1 v' (l.length + 1) ((l.map fun x : Nat => Value.int .i64 (x : Int)) ++ [.int .i64 c])) (hc : c = (b : Int)) : OwnI B v' (l ++ [b]) w' := by
  unfold OwnI
  have e1 : (l ++ [b]).length = l.length + 1 := by simp
  have e2 : ((l ++ [b]).map fun x : Nat => Value.int .i64 (x : Int)) = (l.map fun x : Nat => Value.int .i64 (x : Int)) ++ [.int .i64 c] := by simp [hc]
  rw [e1, e2]
  exact h

theorem nos_succ (h N : Nat) (k : List UInt8) : nos (h + 1) N k = nos h N k ++ [wordAt (digest k) (4 * h) % N] := by simp [nos, List.range_succ]
theorem digest32 (l : List UInt8) : (digest l).length = 32 := keyOf_len _

/-- A filter of the document's, as a value: so many hashes, the bits in block g. -/
def fv (h g n cap : Nat) : Value := .agg #[.int .i64 (h : Int), .slice (some ⟨g, 0, none⟩) n cap]

set_option maxHeartbeats 2000000 in
theorem ref_bits (h g N cap : Nat) (s : ByteArray) (w : World) (hh : h ≤ 8) (hN : 0 < N) (hN2 : N ≤ 1000000000) (hs : s.size ≤ 140737488351232) :
    Calls Tryz.prog 69 #[fv h g N cap, .string s] w fun e w' => ∃ v, e = .returned v ∧ OwnI w.heap.size v (nos h N s.data.toList) w' ∧ Below w.heap.size w w' := by
  obtain ⟨i0, hi, hz0, hz1, hz2⟩ := info_parts info3
  obtain ⟨Z, hZ⟩ : ∃ Z, Z = w.heap.size := ⟨_, rfl⟩
  obtain ⟨w1, hw1⟩ : ∃ w1, w1 = w.alloc (.cells #[.int .i64 (h : Int), .slice (some ⟨g, 0, none⟩) N cap] 43) := ⟨_, rfl⟩
  have B1 := Lib.hid (show Below Z w w1 by rw [hw1, hZ]; exact (Below.refl _ _).alloc (Nat.le_refl _) _)
  have S1 := Lib.hid (show w1.heap.size = Z + 1 by rw [hw1, hZ]; simp)
  have c0 := Lib.hid (show w1.cell? ⟨Z, 0, none⟩ = some (.int .i64 (h : Int)) ∧ w1.cell? ⟨Z, 1, none⟩ = some (.slice (some ⟨g, 0, none⟩) N cap) by
    rw [hw1, hZ, World.cell?_alloc_mark, World.cell?_alloc_mark]; exact ⟨rfl, rfl⟩)
  have HW1 := Lib.hid hw1
  have HZ := Lib.hid hZ
  clear hw1 hZ
  rw [← HZ.out]
  unfold fv
  go_enter Tryz.func69, Tryz.ntmps69
  go_wp2_with fail
  rw [← HW1.out, ← HZ.out]
  refine (ref_Sum s w1 hs).mono ?_
  rintro e w2 ⟨rfl, k2⟩
  have k2 := Lib.hid k2
  obtain ⟨dg, hdg⟩ : ∃ dg, dg = digest s.data.toList := ⟨_, rfl⟩
  rw [← hdg]
  have HDG := Lib.hid (show dg.length = 32 by rw [hdg]; exact digest32 _)
  have Hdg := Lib.hid hdg
  obtain ⟨ka, hka⟩ : ∃ x, x = keyA dg := ⟨_, rfl⟩
  have hkv : keyV dg = .agg ka := by rw [hka]; rfl
  rw [hkv]
  have HIA := Lib.hid (show (Tryz.prog.info? 145).map (·.size) = some ka.toList.length by rw [hka]; exact info25 _ HDG.out)
  have HIS := Lib.hid (show (Tryz.prog.info? 145).map (·.size) = some ka.size by rw [hka]; exact info25s _ HDG.out)
  have HON := Lib.hid (show ka.all (·.oneCell') = true by rw [hka]; exact keyA_one _)
  have HTH := Lib.hid (show (w2.alloc (.cells (Array.replicate 32 (.int .u8 0)) 145)).there w2.heap.size 0 ka.size by
    rw [hka, keyA_size, HDG.out]
    exact key_there (key8_new w2 145))
  have HKA := Lib.hid hka
  obtain ⟨W3, hW3⟩ : ∃ W3, W3 = (w2.alloc (.cells (Array.replicate 32 (.int .u8 0)) 145)).setCells w2.heap.size 0 ka.toList := ⟨_, rfl⟩
  have K3 := Lib.hid (show Below w2.heap.size w2 W3 by rw [hW3]; exact below_setCells (Nat.le_refl _) _ _ ((Below.refl _ w2).alloc (Nat.le_refl _) _))
  have KW := Lib.hid (k2.out.trans (K3.out.mono k2.out.size))
  have HR := Lib.hid (show W3.rangeAt w2.heap.size 0 ka.toList by rw [hW3]; exact World.rangeAt_setCells_same _ _ _ _ (by simpa using HTH.out))
  have D3 := Lib.hid (show Z < w2.heap.size ∧ w2.heap.size < W3.heap.size from ⟨by have := k2.out.size; rw [S1.out] at this; omega, by rw [hW3]; have h2 := (below_setCells (Nat.le_refl w2.heap.size) ka.toList 0 ((Below.refl w2.heap.size (w2.alloc (.cells (Array.replicate 32 (.int .u8 0)) 145))))).size; simp at h2; omega⟩)
  have HW3 := Lib.hid hW3
  clear hW3 hka hkv hdg
  go_upto_region 2 with (first | (refine wpList_store_mid rfl 145 (.tmp 5) (.tmp 9) rfl w2.heap.size 0 ka rfl rfl HTH.out HIS.out HON.out ?_))
  change Code.wp _ _ _ _ ((w2.alloc (.cells (Array.replicate 32 (.int .u8 0)) 145)).setCells w2.heap.size 0 ka.toList)
  rw [← HW3.out]
  obtain ⟨D, hD⟩ : ∃ D, D = w2.heap.size := ⟨_, rfl⟩
  rw [← hD] at HR D3 ⊢
  have hz1' : Z < w1.heap.size := by rw [S1.out]; omega
  have d0 := Lib.hid (show W3.cell? ⟨Z, 0, none⟩ = some (.int .i64 (h : Int)) ∧ W3.cell? ⟨Z, 1, none⟩ = some (.slice (some ⟨g, 0, none⟩) N cap) by
    rw [KW.out.cell (p := ⟨Z, 0, none⟩) hz1', KW.out.cell (p := ⟨Z, 1, none⟩) hz1']; exact c0.out)
  have KZ := Lib.hid (show Below Z w W3 from B1.out.trans (KW.out.mono (by omega)))
  have DZ := Lib.hid (show Z < W3.heap.size by have := D3.out; omega)
  clear hD K3 HTH HIS HON HW3 k2 KW hz1'
  go_frame
  go_wp2_with fail
  go_loopw [6, 7] (fun v vi wr => ∃ k : Nat, k ≤ h ∧ vi = .int .i64 k ∧ OwnI W3.heap.size v (nos k N s.data.toList) wr ∧ Below W3.heap.size W3 wr) (fun v vi wr => h - (intOf vi).toNat)
  case atStart => exact ⟨0, by omega, rfl, OwnI.nil _ _, Below.refl _ _⟩
  case round =>
    obtain ⟨k, hkh, rfl, hO, hB⟩ := hrel
    have HO := Lib.hid hO
    have HB := Lib.hid hB
    have e0 : wr.cell? ⟨Z, 0, none⟩ = some (.int .i64 (h : Int)) := by rw [HB.out.cell (p := ⟨Z, 0, none⟩) DZ.out]; exact d0.out.1
    have E1 := Lib.hid (show wr.cell? ⟨Z, 1, none⟩ = some (.slice (some ⟨g, 0, none⟩) N cap) by rw [HB.out.cell (p := ⟨Z, 1, none⟩) DZ.out]; exact d0.out.2)
    clear hO hB
    rcases Nat.lt_or_ge k h with hlt | hge
    · have HRr := Lib.hid (show wr.rangeAt D 0 ka.toList from rangeAt_below HR.out HB.out D3.out.2)
      have HDlt := Lib.hid (show D < wr.heap.size from Nat.lt_of_lt_of_le D3.out.2 HB.out.size)
      obtain ⟨x, hx⟩ : ∃ x, x = wordAt dg (4 * k) := ⟨_, rfl⟩
      have hx32 : x < 4294967296 := by rw [hx]; exact wordAt_lt _ _
      obtain ⟨y, hy⟩ : ∃ y, y = x % N := ⟨_, rfl⟩
      have HNX := Lib.hid (show nos (k + 1) N s.data.toList = nos k N s.data.toList ++ [y] by rw [nos_succ, hy, hx, Hdg.out])
      have hrem : (x : Int).tmod (N : Int) = (y : Int) := by rw [Int.tmod_eq_emod_of_nonneg (by omega), hy, Int.natCast_emod]
      have hrem' : (x : Int) % (N : Int) = (y : Int) := by rw [hy, Int.natCast_emod]
      have hN0 : ¬ ((N : Int) = 0) := by omega
      have hwx : wrap64 (x : Int) = (x : Int) := by unfold wrap64; omega
      obtain ⟨X, hX⟩ : ∃ X : Int, X = (x : Int) := ⟨_, rfl⟩
      rw [← hX] at hrem hrem' hwx
      have hk8 : ((k : Int) % 8).toNat = k := by omega
      have HWD := Lib.hid (fun (W : World) (n : Seen W) => by have h := seen_of (ref_Word dg (k : Int) · (Lib.hid HDG.out) (by omega) (by omega)) W n; rw [hk8, ← hx, ← hX, ← HKA.out] at h; exact h)
      have he1 : ∀ n : Seen wr, n.val.cell? ⟨Z, 1, none⟩ = some (.slice (some ⟨g, 0, none⟩) N cap) := fun n => by rw [n.below.cell (cell_block E1.out)]; exact E1.out
      have Hll := Lib.hid (nos_len k N s.data.toList)
      have hBs := Lib.hid (show W3.heap.size ≤ wr.heap.size from HB.out.size)
      go_wp2_with fail
      clear hx hy hk8 e0 hX hx32
      refine wp_region_first_tail 9 u6 (by kernel_rfl) (by kernel_rfl) (.inl ⟨rfl, fun w => rfl⟩) (fun _ _ _ h => h) ?_
      simp only [List.take_succ_cons, List.take_zero, List.drop_succ_cons, List.drop_zero, Nat.reduceSub]
      go_frame
      (go_big_quiet_want; refine quiet_load_arr 145 (.tmp 5) rfl D 0 rfl ka _ (seen_at HRr.out HDlt.out) Tryz.underlying145 rfl HIA.out ?_; go_big_quiet_on; try go_frame)
      go_big_quiet_step (fail)
      go_big_quiet_step (first | (go_at_call 93; with_reducible exact HWD.out _ _))
      go_big_quiet_step (fail)
      go_big_quiet_step (fail)
      go_big_quiet_step (fail)
      go_big_quiet_step (fail)
      go_big_quiet_step (fail)
      refine wpQuiet_nil ?_
      rintro _ ⟨m1, rfl⟩
      have HOm := Lib.hid (HO.out.below m1.below)
      have hsz := Lib.hid (show W3.heap.size ≤ m1.val.heap.size from Nat.le_trans hBs.out m1.below.size)
      go_wp2_with (first | (refine wpList_append_own _ rfl (.tmp 16) (.tmp 25) 40 rfl W3.heap.size 3 i0 (.int .i64 0) 1 8 Tryz.underlying40 hi hz0 hz1 hz2 rfl (by decide) u6 (nos k N s.data.toList).length ((nos k N s.data.toList).map fun x : Nat => Value.int .i64 (x : Int)) (by simp [Act.eval, Act.put]) (World.ownsRow.alloc HOm.out _) ⟨m1.val.heap.size, 0, none⟩ 1 1 [.int .i64 (y : Int)] (by simp [Act.eval, Act.put]) rfl (fun j u hj => cell_one_new _ _ _ j u hj) (by simp [Value.oneCell']) (by unfold maxLen; have := Hll.out; omega) (by have := Hll.out; omega) (by have := hsz.out; simp; omega) ?_; intro v3 w3 hown3 hg3 _))
      exact ⟨⟨k + 1, by omega, by go_num, by rw [HNX.out]; exact OwnI.push hown3 rfl, HB.out.trans ((((m1.below.mono hBs.out).alloc hsz.out _)).grown hg3 (by have := hsz.out; simp; omega) (fun j hj => (World.ownsRow.lt HOm.out j hj).1))⟩, by simp [intOf]; omega⟩
    · obtain rfl : k = h := by omega
      go_wp2_with fail
      go_ret
      exact ⟨_, rfl, World.ownsRow.mono HO.out (Nat.le_of_lt DZ.out), KZ.out.trans (HB.out.mono (Nat.le_of_lt DZ.out))⟩
end Go.Proofs.YteejldddgogbkaaGreatDoor
/- The document's filter: has it a key; how many bits are 1. -/
set_option linter.unusedVariables false
set_option maxRecDepth 100000
set_option maxRecDepth 100000
namespace Go.Proofs.YteejldddgogbkaaGreatDoor
open Go.RowKit

/-- In block g there are n bits. -/
def RowB (g : Nat) (f : Nat → Bool) (n : Nat) (w : World) : Prop := g < w.heap.size ∧ ∀ j, j < n → w.cell? ⟨g, j, none⟩ = some (.bool (f j)) ∧ w.frozen? ⟨g, j, none⟩ = false
theorem RowB.keep {g B n : Nat} {f : Nat → Bool} {w w' : World} (h : RowB g f n w) (k : Below B w w') (hg : g < B) : RowB g f n w' :=
  ⟨Nat.lt_of_lt_of_le h.1 k.size, fun j hj => by rw [k.cell hg, YteejldddgogbkaaGreatDoor.Below.frozen k hg]; exact h.2 j hj⟩
theorem RowB.below {g n : Nat} {f : Nat → Bool} {w w' : World} (h : RowB g f n w) (k : Below w.heap.size w w') : RowB g f n w' := h.keep k h.1

theorem hasB_take (l : List Nat) (f : Nat → Bool) (k : Nat) (h : k < l.length) : (l.take (k + 1)).all f = ((l.take k).all f && f (l.getD k 0)) := by
  rw [List.take_add_one, List.getElem?_eq_getElem h, List.all_append]
  simp [List.getD_eq_getElem?_getD, h]

set_option maxHeartbeats 2000000 in
theorem ref_has (h g N cap : Nat) (f : Nat → Bool) (s : ByteArray) (w : World) (hr : Hid (RowB g f N w)) (h1 : 1 ≤ h) (hh : h ≤ 8) (hN : 0 < N) (hN2 : N ≤ 1000000000) (hs : s.size ≤ 140737488351232) :
    Calls Tryz.prog 52 #[fv h g N cap, .string s] w fun e w' => e = .returned (.bool (hasB h N f s.data.toList)) ∧ Below w.heap.size w w' := by
  obtain ⟨Z, hZ⟩ : ∃ Z, Z = w.heap.size := ⟨_, rfl⟩
  obtain ⟨w1, hw1⟩ : ∃ w1, w1 = w.alloc (.cells #[.int .i64 (h : Int), .slice (some ⟨g, 0, none⟩) N cap] 43) := ⟨_, rfl⟩
  have B1 := Lib.hid (show Below Z w w1 by rw [hw1, hZ]; exact (Below.refl _ _).alloc (Nat.le_refl _) _)
  have S1 := Lib.hid (show w1.heap.size = Z + 1 by rw [hw1, hZ]; simp)
  have c0 := Lib.hid (show w1.cell? ⟨Z, 0, none⟩ = some (.int .i64 (h : Int)) ∧ w1.cell? ⟨Z, 1, none⟩ = some (.slice (some ⟨g, 0, none⟩) N cap) by
    rw [hw1, hZ, World.cell?_alloc_mark, World.cell?_alloc_mark]; exact ⟨rfl, rfl⟩)
  have hgZ := Lib.hid (show g < Z by rw [hZ]; exact hr.out.1)
  have R1 := Lib.hid (hr.out.keep B1.out hgZ.out)
  have HW1 := Lib.hid hw1
  have HZ := Lib.hid hZ
  clear hw1 hZ
  rw [← HZ.out]
  unfold fv
  go_enter Tryz.func52, Tryz.ntmps52
  go_wp2_with fail
  rw [← HW1.out, ← HZ.out]
  refine (ref_bits h g N cap s w1 hh hN hN2 hs).mono ?_
  rintro e w2 ⟨v, rfl, hO, hB⟩
  obtain ⟨l, hl⟩ : ∃ l, l = nos h N s.data.toList := ⟨_, rfl⟩
  rw [← hl] at hO
  have hlh : l.length = h := by rw [hl]; exact nos_len _ _ _
  have hlt := Lib.hid (show ∀ k, k < h → l.getD k 0 < N from fun k hk => by
    have hm : l.getD k 0 ∈ l := by rw [List.getD_eq_getElem?_getD, List.getElem?_eq_getElem (by omega)]; exact List.getElem_mem (by omega)
    have hm2 : l.getD k 0 ∈ nos h N s.data.toList := hl ▸ hm
    exact nos_lt hN hm2)
  obtain ⟨gl, cl, rfl, _, hgl⟩ := hO.form hlh h1
  have hcell := Lib.hid hO.cell
  have HL := Lib.hid hl
  have Hlh := Lib.hid hlh
  have HB := Lib.hid hB
  have R2 := Lib.hid (R1.out.below hB)
  have c2 := Lib.hid (show w2.cell? ⟨Z, 1, none⟩ = some (.slice (some ⟨g, 0, none⟩) N cap) by rw [hB.cell (p := ⟨Z, 1, none⟩) (show Z < w1.heap.size by rw [S1.out]; omega)]; exact c0.out.2)
  clear hO hl hlh hB
  go_wp2_with fail
  go_loopw [6] (fun vi wr => ∃ k : Nat, k ≤ h ∧ vi = .int .i64 k ∧ (l.take k).all f = true ∧ Below w2.heap.size w2 wr) (fun vi wr => h - (intOf vi).toNat)
  case atStart => exact ⟨0, by omega, rfl, by simp, Below.refl _ _⟩
  case round =>
    obtain ⟨k, hkh, rfl, hall, hB⟩ := hrel
    have HA := Lib.hid hall
    have HW := Lib.hid hB
    clear hall hB
    rcases Nat.lt_or_ge k h with hlk | hge
    · obtain ⟨x, hx⟩ : ∃ x, x = l.getD k 0 := ⟨_, rfl⟩
      obtain ⟨y, hy⟩ : ∃ y, y = f x := ⟨_, rfl⟩
      have hxN : x < N := by rw [hx]; exact hlt.out k hlk
      have e1 : ∀ n : Seen wr, n.val.cell? ⟨Z, 1, none⟩ = some (.slice (some ⟨g, 0, none⟩) N cap) := fun n => by rw [(HW.out.trans (n.below.mono HW.out.size)).cell (cell_block c2.out)]; exact c2.out
      have e2 : ∀ n : Seen wr, n.val.cell? ⟨gl, k, none⟩ = some (.int .i64 (x : Int)) := fun n => by
        have h3 := hcell.out k (by rw [Hlh.out]; exact hlk)
        rw [← hx] at h3
        rw [(HW.out.trans (n.below.mono HW.out.size)).cell (cell_block h3)]; exact h3
      have e3 : ∀ n : Seen wr, n.val.cell? ⟨g, x, none⟩ = some (.bool y) := fun n => by
        have h3 := (R2.out.2 x hxN).1
        rw [← hy] at h3
        rw [(HW.out.trans (n.below.mono HW.out.size)).cell (cell_block h3)]; exact h3
      have HNX := Lib.hid (show (l.take (k + 1)).all f = y by rw [hasB_take l f k (by rw [Hlh.out]; exact hlk), HA.out, Bool.true_and, hy, hx])
      have HY := Lib.hid (show y = false → hasB h N f s.data.toList = false by
        intro h0
        unfold hasB
        rw [← HL.out, List.all_eq_false]
        refine ⟨x, ?_, by rw [← hy, h0]; decide⟩
        rw [hx, List.getD_eq_getElem?_getD, List.getElem?_eq_getElem (by rw [Hlh.out]; exact hlk)]
        exact List.getElem_mem _)
      clear hx hy
      go_wp2_with fail
      refine region_seen (by kernel_rfl) (by kernel_rfl) ?_
      repeat go_big_quiet_step (fail)
      refine wpQuiet_nil ?_
      rintro _ ⟨m1, rfl⟩
      cases y with
      | true =>
        go_wp2_with fail
        go_roundw
        case rel => exact ⟨k + 1, by omega, by go_num, HNX.out, HW.out.trans (m1.below.mono HW.out.size)⟩
        case measure => simp [intOf]; omega
      | false =>
        have hres := Lib.hid (HY.out rfl)
        clear HY
        go_wp2_with fail
        go_ret
        exact ⟨by rw [hres.out]; rfl, (B1.out.trans (HB.out.mono (by rw [S1.out]; omega))).trans ((HW.out.trans (m1.below.mono HW.out.size)).mono (Nat.le_trans (by rw [S1.out]; omega) HB.out.size))⟩
    · obtain rfl : k = h := by omega
      have hres : hasB k N f s.data.toList = true := by
        unfold hasB
        have := HA.out
        rw [List.take_of_length_le (by rw [Hlh.out]; exact Nat.le_refl _), HL.out] at this
        exact this
      go_wp2_with fail
      go_ret
      exact ⟨by rw [hres]; rfl, (B1.out.trans (HB.out.mono (by rw [S1.out]; omega))).trans (HW.out.mono (Nat.le_trans (by rw [S1.out]; omega) HB.out.size))⟩

end Go.Proofs.YteejldddgogbkaaGreatDoor
/- Ranges over functions: a round keeps all blocks of cells but one; marks among the deferred calls of a function that holds such a loop within another loop. -/
set_option linter.unusedVariables false
set_option maxRecDepth 100000
namespace Go.Proofs.YteejldddgogbkaaGreatDoor
open Go.RowKit

/-- A box that was just laid; what lay before it. -/
theorem box_new (W : World) (v : Value) (t : TypeId) : (W.alloc (.cells #[v] t)).cell? ⟨W.heap.size, 0, none⟩ = some v := by
  rw [World.cell?_alloc_mark]; simp
theorem box_free (W : World) (v : Value) (t : TypeId) : (W.alloc (.cells #[v] t)).frozen? ⟨W.heap.size, 0, none⟩ = false := by
  rw [World.frozen?_alloc_mark]; simp
theorem cell_on {W : World} {a : Addr} {v : Value} (o : Obj) (h : W.cell? a = some v) : (W.alloc o).cell? a = some v := cell_kept h (World.grownBy_alloc W o none) (fun r e => by cases e)
theorem free_on {W : World} {a : Addr} {v : Value} (o : Obj) (h : W.cell? a = some v) (hf : W.frozen? a = false) : (W.alloc o).frozen? a = false := (frozen_kept h (World.grownBy_alloc W o none) (fun r e => by cases e)).trans hf

/-- All blocks of cells but X's are kept. -/
structure KeepsCells (X : Nat) (W W' : World) : Prop where
  os : W'.os = W.os
  tape : W'.tape = W.tape
  output : W'.output = W.output
  size : W.heap.size ≤ W'.heap.size
  cells : ∀ (k : Nat) (o : Obj), k ≠ X → W.heap[k]? = some o → o.isCells = true → W'.heap[k]? = some o
namespace KeepsCells
variable {X : Nat} {A B C : World}
theorem refl (X : Nat) (W : World) : KeepsCells X W W := ⟨rfl, rfl, rfl, Nat.le_refl _, fun _ _ _ h _ => h⟩
theorem trans (h : KeepsCells X A B) (k : KeepsCells X B C) : KeepsCells X A C :=
  ⟨k.os.trans h.os, k.tape.trans h.tape, k.output.trans h.output, Nat.le_trans h.size k.size, fun j o hj ho hc => k.cells j o hj (h.cells j o hj ho hc) hc⟩
theorem of_below (h : Below A.heap.size A B) : KeepsCells X A B :=
  ⟨h.os, h.tape, h.output, h.size, fun j o _ ho _ => (h.block j (Array.getElem?_eq_some_iff.1 ho).1).trans ho⟩
theorem setCell (W : World) (o : Nat) (v : Value) : KeepsCells X W (W.setCell ⟨X, o, none⟩ v) :=
  ⟨rfl, rfl, rfl, by simp, fun j o' hj ho _ => (Below.heap_setCell W ⟨X, o, none⟩ v j hj).trans ho⟩
theorem grown {row : Option Nat} (h : KeepsCells X A B) (hg : B.grownBy C row) (hr : ∀ r, row = some r → ∃ o : Obj, B.heap[r]? = some o ∧ o.isCells = false) : KeepsCells X A C :=
  ⟨hg.os.trans h.os, hg.tape.trans h.tape, hg.output.trans h.output, Nat.le_trans h.size hg.size, fun j o hj ho hc => by
    have hb := h.cells j o hj ho hc
    refine (hg.block j (Array.getElem?_eq_some_iff.1 hb).1 (fun e => ?_)).trans hb
    obtain ⟨o', h1, h2⟩ := hr j e.symm
    rw [hb] at h1
    obtain rfl := Option.some.inj h1
    rw [hc] at h2
    cases h2⟩
theorem putObj (W : World) (l : Nat) (o o' : Obj) (h : W.heap[l]? = some o) (ho : o.isCells = false) : KeepsCells X W (W.putObj l o') :=
  (KeepsCells.refl X W).grown (grownBy_putObj' W l o') (fun r e => by cases e; exact ⟨o, h, ho⟩)
/-- What is there of a block of cells. -/
theorem block (h : KeepsCells X A B) {b : Nat} (hb : b ≠ X) {p : Nat} {v : Value} (hc : A.cell? ⟨b, p, none⟩ = some v) : B.heap[b]? = A.heap[b]? := by
  unfold World.cell? at hc
  cases ho : A.heap[b]? with
  | none => simp [ho] at hc
  | some o =>
    cases o with
    | cells c t f => exact h.cells b _ hb ho rfl
    | _ => simp [ho] at hc
theorem cell (h : KeepsCells X A B) {b p : Nat} (hb : b ≠ X) {v : Value} (hc : A.cell? ⟨b, p, none⟩ = some v) : B.cell? ⟨b, p, none⟩ = some v := by
  rw [← hc]
  unfold World.cell?
  rw [h.block hb hc]
theorem frozen (h : KeepsCells X A B) {b p q : Nat} (hb : b ≠ X) {v : Value} (hc : A.cell? ⟨b, p, none⟩ = some v) : B.frozen? ⟨b, q, none⟩ = A.frozen? ⟨b, q, none⟩ := by
  unfold World.frozen?
  rw [h.block hb hc]
end KeepsCells
theorem keeps_own {α : Type} (B X : Nat) (W : World) : OwnFrom B (fun (_ : α) W' => KeepsCells X W W') := fun s A C row hs hg hr => hs.grown hg (fun r e => (hr r e).2)

theorem only_own {α : Type} {S : Nat → Prop} {B : Nat} {W : World} (hB : W.heap.size ≤ B) : OwnFrom B (fun (_ : α) W' => Only S W W') := fun s A C row hs hg hr => hs.grown hg (fun j e => .inr (Nat.le_trans hB (hr j e).1))
theorem Only.keepsCells {X : Nat} {A B : World} (h : Only (fun k => k = X) A B) : KeepsCells X A B :=
  ⟨h.os, h.tape, h.output, h.size, fun j o hj ho _ => (h.block j (Array.getElem?_eq_some_iff.1 ho).1 hj).trans ho⟩

/-- Behind each loop over a function there is a mark: none of them holds a call. -/
def Marks : List Deferred → World → Prop
  | [], _ => True
  | d :: ds, w => (∃ r, d.target = .collected r ∧ w.heap[r]? = some (.deferred (some [])) ∧ ∀ d' ∈ ds, d'.target ≠ .collected r) ∧ Marks ds w
/-- Where the marks lie from B on. -/
def MarksFrom (B : Nat) (ds : List Deferred) : Prop := ∀ d ∈ ds, ∀ r, d.target = .collected r → B ≤ r
theorem Marks.keep : ∀ {ds : List Deferred} {w w' : World}, Marks ds w → (∀ d ∈ ds, ∀ r, d.target = .collected r → w'.heap[r]? = w.heap[r]?) → Marks ds w'
  | [], _, _, _, _ => trivial
  | d :: ds, w, w', h, k => by
    obtain ⟨⟨r, h1, h2, h3⟩, h4⟩ := h
    exact ⟨⟨r, h1, by rw [k d (by simp) r h1, h2], h3⟩, Marks.keep h4 (fun d' hd r hr => k d' (by simp [hd]) r hr)⟩
theorem marks_lt : ∀ {ds : List Deferred} {w : World} {d : Deferred} {r : Nat}, Marks ds w → d ∈ ds → d.target = .collected r → r < w.heap.size
  | [], _, _, _, _, h, _ => by cases h
  | d :: ds, w, d', r, h, hd, hr => by
    obtain ⟨⟨r', h1, h2, h3⟩, h4⟩ := h
    rcases List.mem_cons.1 hd with rfl | hd
    · rw [h1] at hr
      cases hr
      exact (Array.getElem?_eq_some_iff.1 h2).1
    · exact marks_lt h4 hd hr
/-- The function's return with such marks. -/
theorem leaves_marks {F : Fence} {n : Nat} {P : Program} {fn : Func} {tmps : Array Value} {R : Ending → World → Prop} {B : Nat} :
    ∀ (ds : List Deferred) (w : World), Marks ds w → MarksFrom B ds → B ≤ w.heap.size → (∀ w', Below B w w' → (∀ (k : Nat) (o : Obj), w.heap[k]? = some o → o.isCells = true → w'.heap[k]? = some o) → LeavesIn F n P fn tmps R [] .returning w') → LeavesInM F n P fn tmps R ds .returning w
  | [], w, _, _, hB, h => h w (Below.refl _ _) (fun _ _ h _ => h)
  | d :: ds, w, hm, hf, hB, h => by
    obtain ⟨⟨r, h1, h2, h3⟩, h4⟩ := hm
    have hlt : r < w.heap.size := (Array.getElem?_eq_some_iff.1 h2).1
    refine ⟨by simp, .inl ⟨r, _, h1, run_takeDeferred h2, ?_⟩⟩
    have hk : ∀ j, j ≠ r → (w.putObj r (.deferred none)).heap[j]? = w.heap[j]? := fun j hj => World.putObj_heap_other hj
    have hb : Below B w (w.putObj r (.deferred none)) := (Below.refl B w).grown (grownBy_putObj' w r (.deferred none)) hB (fun k e => by cases e; exact hf d (by simp) r h1)
    refine leaves_marks ds _ (Marks.keep h4 fun d' hd' r' hr' => hk r' (fun e => h3 d' hd' (by rw [hr', e]))) (fun d' hd' => hf d' (by simp [hd'])) (Nat.le_trans hB hb.size) (fun w' kb kc => h w' (hb.trans kb) (fun k o hko hoc => kc k o ?_ hoc))
    rw [hk k (fun e => by subst e; rw [h2] at hko; cases hko; cases hoc)]
    exact hko
end Go.Proofs.YteejldddgogbkaaGreatDoor
/- A filter in memory, and what only reads it: its size, its ones, its shape; a nil filter. -/
set_option linter.unusedVariables false
set_option maxRecDepth 100000
set_option maxRecDepth 100000
namespace Go.Proofs.YteejldddgogbkaaGreatDoor
open Go.RowKit

/-- In block b there is a filter with h hashes, whose bytes L are in block g. -/
structure Flt (b g h : Nat) (L : List UInt8) (w : World) : Prop where
  c0 : w.cell? ⟨b, 0, none⟩ = some (.int .i64 (h : Int))
  c1 : ∃ cap, w.cell? ⟨b, 1, none⟩ = some (.slice (some ⟨g, 0, none⟩) L.length cap)
  row : Row8 g L w
  lt : b < w.heap.size
theorem Flt.keep {b g h B : Nat} {L : List UInt8} {w w' : World} (f : Flt b g h L w) (k : Below B w w') (hb : b < B) (hg : g < B) : Flt b g h L w' :=
  ⟨by rw [k.cell hb]; exact f.c0, by obtain ⟨cap, c⟩ := f.c1; exact ⟨cap, by rw [k.cell hb]; exact c⟩, f.row.keep k hg, Nat.lt_of_lt_of_le f.lt k.size⟩
theorem Flt.below {b g h : Nat} {L : List UInt8} {w w' : World} (f : Flt b g h L w) (k : Below w.heap.size w w') : Flt b g h L w' := f.keep k f.lt f.row.1
theorem Flt.seen {b g h : Nat} {L : List UInt8} {W : World} (f : Flt b g h L W) (n : Seen W) : Flt b g h L n.val := f.below n.below

theorem flt_size (b g m cap : Nat) (w : World) (c1 : w.cell? ⟨b, 1, none⟩ = some (.slice (some ⟨g, 0, none⟩) m cap)) (hl : m ≤ 100000000) :
    Calls Tryz.prog 90 #[.pointer (some ⟨b, 0, none⟩)] w fun e w' => e = .returned (.int .i64 ((m : Int) * 8)) ∧ w = w' := by
  go_enter Tryz.func90, Tryz.ntmps90
  go_wp2_with fail
  go_ret
  exact ⟨rfl, rfl⟩

def popTab : ByteArray := ⟨#[0, 1, 1, 2, 1, 2, 2, 3, 1, 2, 2, 3, 2, 3, 3, 4, 1, 2, 2, 3, 2, 3, 3, 4, 2, 3, 3, 4, 3, 4, 4, 5, 1, 2, 2, 3, 2, 3, 3, 4, 2, 3, 3, 4, 3, 4, 4, 5, 2, 3, 3, 4, 3, 4, 4, 5, 3, 4, 4, 5, 4, 5, 5, 6, 1, 2, 2, 3, 2, 3, 3, 4, 2, 3, 3, 4, 3, 4, 4, 5, 2, 3, 3, 4, 3, 4, 4, 5, 3, 4, 4, 5, 4, 5, 5, 6, 2, 3, 3, 4, 3, 4, 4, 5, 3, 4, 4, 5, 4, 5, 5, 6, 3, 4, 4, 5, 4, 5, 5, 6, 4, 5, 5, 6, 5, 6, 6, 7, 1, 2, 2, 3, 2, 3, 3, 4, 2, 3, 3, 4, 3, 4, 4, 5, 2, 3, 3, 4, 3, 4, 4, 5, 3, 4, 4, 5, 4, 5, 5, 6, 2, 3, 3, 4, 3, 4, 4, 5, 3, 4, 4, 5, 4, 5, 5, 6, 3, 4, 4, 5, 4, 5, 5, 6, 4, 5, 5, 6, 5, 6, 6, 7, 2, 3, 3, 4, 3, 4, 4, 5, 3, 4, 4, 5, 4, 5, 5, 6, 3, 4, 4, 5, 4, 5, 5, 6, 4, 5, 5, 6, 5, 6, 6, 7, 3, 4, 4, 5, 4, 5, 5, 6, 4, 5, 5, 6, 5, 6, 6, 7, 4, 5, 5, 6, 5, 6, 6, 7, 5, 6, 6, 7, 6, 7, 7, 8]⟩
theorem popTab_at : ∀ (x : Nat) (h : x < 256), (popTab[x]'(by exact h)).toNat = pop8 x := by decide +kernel
theorem popTab_ret (x : Nat) (h : x < 256) : ((pop8 x : Nat) : Int) = wrap64 ((popTab[x]'(by exact h)).toNat : Int) := by
  rw [popTab_at x h]
  have : pop8 x ≤ 8 := by unfold pop8; omega
  unfold wrap64
  omega

theorem flt_pack_nil (w : World) : Calls Tryz.prog 28 #[.pointer none] w fun e w' => e = .returned (.string (bs [])) ∧ w = w' := by
  go_enter Tryz.func28, Tryz.ntmps28
  go_wp2_with fail
  go_ret
  exact ⟨rfl, rfl⟩
end Go.Proofs.YteejldddgogbkaaGreatDoor
/- The numbers of a key's bits, one by one: the iterator's contract. -/
set_option linter.unusedVariables false
set_option maxRecDepth 100000
set_option maxRecDepth 100000
namespace Go.Proofs.YteejldddgogbkaaGreatDoor
open Go.RowKit

abbrev Num (N : Nat) := { x : Nat // x < N }
def nosF (h N : Nat) (hN : 0 < N) (k : List UInt8) : List (Num N) := (List.range h).map fun i => ⟨wordAt (digest k) (4 * i) % N, Nat.mod_lt _ hN⟩
theorem nosF_succ (h N : Nat) (hN : 0 < N) (k : List UInt8) : nosF (h + 1) N hN k = nosF h N hN k ++ [⟨wordAt (digest k) (4 * h) % N, Nat.mod_lt _ hN⟩] := by simp [nosF, List.range_succ]
theorem nosF_len (h N : Nat) (hN : 0 < N) (k : List UInt8) : (nosF h N hN k).length = h := by simp [nosF]
theorem nosF_val (h N : Nat) (hN : 0 < N) (k : List UInt8) : (nosF h N hN k).map (·.1) = nos h N k := by simp [nosF, nos]
theorem nosF_zero (N : Nat) (hN : 0 < N) (k : List UInt8) : nosF 0 N hN k = [] := rfl
theorem grown_of_below {W W' : World} (h : Below W.heap.size W W') : W.grownBy W' none := ⟨h.os, h.tape, h.output, h.size, fun j hj _ => h.block j hj⟩
theorem digest_len' (l : List UInt8) : (digest l).length = 32 := keyOf_len _

theorem flt_bitsOf (b : Nat) (s : ByteArray) (w : World) : Calls Tryz.prog 63 #[.pointer (some ⟨b, 0, none⟩), .string s] w fun e w' => e = .returned (.func (.func 87) #[] #[.pointer (some ⟨w.heap.size + 1, 0, none⟩), .pointer (some ⟨w.heap.size, 0, none⟩)]) ∧ (w.alloc (.cells #[.pointer (some ⟨b, 0, none⟩)] 73)).alloc (.cells #[.string s] 9) = w' := by
  go_enter Tryz.func63, Tryz.ntmps63
  go_wp2_with fail
  go_ret
  exact ⟨rfl, rfl⟩

set_option maxHeartbeats 2000000 in
theorem bits_in (n l kb fb b g h m cap X N : Nat) (hN : 0 < N) (key : List UInt8) (J Jx : List (Num N) → World → Prop) (W : World)
    (hNm : Hid (N = m * 8)) (hJ : Hid (AbidesFrom W.heap.size J))
    (hY : Hid (∀ pre (x : Num N) W1, J pre W1 → pre.length < h → YieldAt Fence.wide (n - 1) Tryz.prog l #[.int .i64 (x.1 : Int)] W1 fun e W' =>
      (e = .returned (.bool true) ∧ J (pre ++ [x]) W' ∧ KeepsCells X W1 W') ∨ (e = .returned (.bool false) ∧ Jx (pre ++ [x]) W')))
    (ck : W.cell? ⟨kb, 0, none⟩ = some (.string (bs key))) (cf : Hid (W.cell? ⟨fb, 0, none⟩ = some (.pointer (some ⟨b, 0, none⟩)))) (c0 : Hid (W.cell? ⟨b, 0, none⟩ = some (.int .i64 (h : Int)))) (c1 : Hid (W.cell? ⟨b, 1, none⟩ = some (.slice (some ⟨g, 0, none⟩) m cap)))
    (hg : Hid (Glob W)) (hX : Hid (fb ≠ X ∧ b ≠ X ∧ X < W.heap.size)) (hk : Hid (key.length ≤ 900000000000000)) (hh : h ≤ 8) (hm : m ≤ 100000000) (h0 : Hid (J [] W)) :
    Calls Tryz.prog 87 #[.func (.yield l) #[] #[], .pointer (some ⟨kb, 0, none⟩), .pointer (some ⟨fb, 0, none⟩)] W fun e W' => (∃ v, e = .returned v) ∧
      ((∃ xs, xs = nosF h N hN key ∧ J xs W') ∨ (∃ pre, (∃ k, k ≤ h ∧ pre = nosF k N hN key) ∧ Jx pre W')) := by
  have hrow := Lib.hid (row_new W [bs key] 9)
  have hk1 := Lib.hid ((Below.refl W.heap.size W).alloc (Nat.le_refl _) (.cells (([bs key] : List ByteArray).map Value.string).toArray 9))
  have hg1 := Lib.hid (hg.out.keep hk1.out hg.out.1)
  have hjo := Lib.hid (show joined [bs key] = key by simp [joined, bs_list])
  go_enter Tryz.func87, Tryz.ntmps87
  go_wp2_with fail
  refine (sha_Sum (some ⟨W.heap.size, 0, none⟩) W.heap.size 0 1 1 [bs key] _ (Lib.hid rfl) (by omega) hrow (Lib.hid (by rw [hjo.out]; exact hk.out)) (Lib.hid (.inr rfl)) hg1).mono ?_
  rintro e w1 ⟨rfl, k1⟩
  rw [hjo.out]
  have K1 := Lib.hid (hk1.out.trans (k1.mono hk1.out.size))
  clear k1
  obtain ⟨ka, hka⟩ : ∃ x, x = keyA (digest key) := ⟨_, rfl⟩
  rw [← hka]
  have HIA := Lib.hid (show (Tryz.prog.info? 145).map (·.size) = some ka.toList.length by rw [hka]; exact info25 _ (digest_len' _))
  have HIS := Lib.hid (show (Tryz.prog.info? 145).map (·.size) = some ka.size by rw [hka]; exact info25s _ (digest_len' _))
  have HON := Lib.hid (show ka.all (·.oneCell') = true by rw [hka]; exact keyA_one _)
  have HTH := Lib.hid (show (w1.alloc (.cells (Array.replicate 32 (.int .u8 0)) 145)).there w1.heap.size 0 ka.size by
    rw [hka, keyA_size, digest_len']
    exact key_there (key8_new w1 145))
  have HKA := Lib.hid hka
  clear hka
  obtain ⟨W3, hW3⟩ : ∃ W3, W3 = (w1.alloc (.cells (Array.replicate 32 (.int .u8 0)) 145)).setCells w1.heap.size 0 ka.toList := ⟨_, rfl⟩
  have K3 := Lib.hid (show Below w1.heap.size w1 W3 by rw [hW3]; exact below_setCells (Nat.le_refl _) _ _ ((Below.refl _ w1).alloc (Nat.le_refl _) _))
  have KW := Lib.hid (K1.out.trans (K3.out.mono K1.out.size))
  have HR := Lib.hid (show W3.rangeAt w1.heap.size 0 ka.toList by rw [hW3]; exact World.rangeAt_setCells_same _ _ _ _ (by simpa using HTH.out))
  have D3 := Lib.hid (show W.heap.size ≤ w1.heap.size ∧ w1.heap.size < W3.heap.size from ⟨K1.out.size, by have := K3.out.size; rw [hW3]; have h2 := (below_setCells (Nat.le_refl w1.heap.size) ka.toList 0 ((Below.refl w1.heap.size (w1.alloc (.cells (Array.replicate 32 (.int .u8 0)) 145))))).size; simp at h2; omega⟩)
  have HW3 := Lib.hid hW3
  clear hW3
  go_upto_region 1 with (first | (refine wpList_store_mid rfl 145 (.tmp 4) (.tmp 8) rfl w1.heap.size 0 ka rfl rfl HTH.out HIS.out HON.out ?_))
  change Code.wp _ _ _ _ ((w1.alloc (.cells (Array.replicate 32 (.int .u8 0)) 145)).setCells w1.heap.size 0 ka.toList)
  rw [← HW3.out]
  obtain ⟨D, hD⟩ : ∃ D, D = w1.heap.size := ⟨_, rfl⟩
  rw [← hD] at HR D3 ⊢
  clear hD K3 K1 HTH HIS HON HW3
  have hfb : fb < W.heap.size := cell_block cf.out
  have hbb : b < W.heap.size := cell_block c0.out
  have cf3 : W3.cell? ⟨fb, 0, none⟩ = some (.pointer (some ⟨b, 0, none⟩)) := by rw [KW.out.cell hfb]; exact cf.out
  have c03 : W3.cell? ⟨b, 0, none⟩ = some (.int .i64 (h : Int)) := by rw [KW.out.cell hbb]; exact c0.out
  have c13 := Lib.hid (show W3.cell? ⟨b, 1, none⟩ = some (.slice (some ⟨g, 0, none⟩) m cap) by rw [KW.out.cell hbb]; exact c1.out)
  have HJ3 := Lib.hid (hJ.out [] W W3 none h0.out (grown_of_below KW.out) (fun r e => by cases e))
  have Hcf3 := Lib.hid cf3
  go_frame
  go_wp2_with fail
  clear cf3 c03
  go_loopw [13] (fun vi wr => ∃ k : Nat, k ≤ h ∧ vi = .int .i64 k ∧ Hid (J (nosF k N hN key) wr) ∧ Hid (KeepsCells X W3 wr)) (fun vi wr => h - (intOf vi).toNat)
  case atStart => exact ⟨0, by omega, rfl, HJ3, Lib.hid (KeepsCells.refl _ _)⟩
  case round =>
    obtain ⟨k, hkh, rfl, hJs, hkc⟩ := hrel
    rcases Nat.lt_or_ge k h with hlt | hge
    · have HRr := Lib.hid (show wr.rangeAt D 0 ka.toList from fun j v hj => by
        have := HR.out j v hj
        exact hkc.out.cell (by have := D3.out; have := hX.out.2.2; omega) this)
      have Hcf := Lib.hid (hkc.out.cell hX.out.1 Hcf3.out)
      have Hc1 := Lib.hid (hkc.out.cell hX.out.2.1 c13.out)
      have HDlt := Lib.hid (show D < wr.heap.size from Nat.lt_of_lt_of_le D3.out.2 hkc.out.size)
      go_wp2_with fail
      obtain ⟨x, hx⟩ : ∃ x, x = wordAt (digest key) (4 * k) := ⟨_, rfl⟩
      have hx32 : x < 4294967296 := by rw [hx]; exact wordAt_lt _ _
      obtain ⟨y, hy0⟩ : ∃ y : Num N, y = ⟨wordAt (digest key) (4 * k) % N, Nat.mod_lt _ hN⟩ := ⟨_, rfl⟩
      have HNX := Lib.hid (show nosF (k + 1) N hN key = nosF k N hN key ++ [y] by rw [nosF_succ, hy0])
      have hrem : (x : Int).tmod ((m : Int) * 8) = (y.1 : Int) := by
        rw [hy0, hx]
        show _ = (((wordAt (digest key) (4 * k) % N : Nat)) : Int)
        rw [hNm.out, Int.tmod_eq_emod_of_nonneg (by omega), Int.natCast_emod, Int.natCast_mul]
        rfl
      have hm0 : ¬ ((m : Int) * 8 = 0) := by have := hNm.out; omega
      have hwx : wrap64 (x : Int) = (x : Int) := by unfold wrap64; omega
      obtain ⟨XI, hXI⟩ : ∃ XI : Int, XI = (x : Int) := ⟨_, rfl⟩
      rw [← hXI] at hrem hwx
      have hk8 : ((k : Int) % 8).toNat = k := by omega
      have HWD := Lib.hid (fun (W : World) (n : Seen W) => by have h := seen_of (sha_Word (digest key) (k : Int) · (Lib.hid (digest_len' key))) W n; rw [hk8, ← hx, ← hXI, ← HKA.out] at h; exact h)
      have HSZ := Lib.hid (fun (n : Seen wr) => (flt_size b g m cap n.val (by rw [n.below.cell (cell_block Hc1.out)]; exact Hc1.out) hm).mono (R' := fun e w'' => e = .returned (.int .i64 ((m : Int) * 8)) ∧ ∃ m : Seen wr, w'' = m.val) fun _ w'' ⟨h1, h2⟩ => ⟨h1, ⟨n, h2.symm⟩⟩)
      have hfbr : ∀ n : Seen wr, n.val.cell? ⟨fb, 0, none⟩ = some (.pointer (some ⟨b, 0, none⟩)) := fun n => by rw [n.below.cell (cell_block Hcf.out)]; exact Hcf.out
      have HJn := Lib.hid (fun n : Seen wr => hJ.out _ wr n.val none hJs.out (grown_of_below n.below) (fun r e => by cases e))
      have HKn := Lib.hid (fun n : Seen wr => hkc.out.trans (KeepsCells.of_below (X := X) n.below))
      clear hx hy0 hk8 hXI hx32
      refine (wpIn_wide (n := n)).1 ?_
      refine wpIn_region_seen_tail 8 (by kernel_rfl) (by kernel_rfl) ?_
      simp only [List.take_succ_cons, List.take_zero, List.drop_succ_cons, List.drop_zero]
      go_big_quiet_step (fail)
      (go_big_quiet_want; refine quiet_load_arr 145 (.tmp 4) rfl D 0 rfl ka _ (seen_at HRr.out HDlt.out) Tryz.underlying145 rfl HIA.out ?_; go_big_quiet_on; try go_frame)
      go_big_quiet_step (fail)
      go_big_quiet_step (first | (go_at_call 89; with_reducible exact HWD.out _ _))
      go_big_quiet_step (fail)
      go_big_quiet_step (fail)
      go_big_quiet_step (first | (go_at_call 90; with_reducible exact HSZ.out _))
      go_big_quiet_step (fail)
      refine wpQuiet_nil ?_
      rintro _ ⟨m1, rfl⟩
      obtain ⟨fn, tm, asg, bdy, hy, hR⟩ := hY.out (nosF k N hN key) y m1.val (HJn.out m1) (by rw [nosF_len]; exact hlt)
      gi_wp2
      refine ⟨fun h => by simp [Fence.wide] at h, hR.mono ?_⟩
      rintro e W5 (⟨rfl, hJ5, hk5⟩ | ⟨rfl, hx5⟩)
      · gi_wp2
        go_wp2_with fail
        go_roundw
        case rel => exact ⟨k + 1, by omega, by go_num, Lib.hid (by rw [HNX.out]; exact hJ5), Lib.hid ((HKn.out m1).trans hk5)⟩
        case measure => simp [intOf]; omega
      · gi_wp2
        go_wp2_with fail
        refine bodyPost_ret (results_none rfl _ _ _) rfl ?_
        exact ⟨⟨_, rfl⟩, .inr ⟨_, ⟨k + 1, by omega, HNX.out.symm⟩, hx5⟩⟩
    · obtain rfl : k = h := by omega
      go_wp2_with fail
      go_end0
      exact ⟨⟨_, rfl⟩, .inl ⟨_, rfl, hJs.out⟩⟩
end Go.Proofs.YteejldddgogbkaaGreatDoor
/- Has: whether all bits of a key are 1. -/
set_option linter.unusedVariables false
set_option maxRecDepth 100000
set_option maxRecDepth 100000
namespace Go.Proofs.YteejldddgogbkaaGreatDoor
open Go.RowKit Go.Shelf
attribute [local go_sem] Oper.semAt_some

/-- THE ITERATOR'S CONTRACT. -/
theorem bits_stops (n kb fb b g h m cap X N : Nat) (hN : 0 < N) (key : List UInt8) (w : World) (hNm : Hid (N = m * 8))
    (ck : w.cell? ⟨kb, 0, none⟩ = some (.string (bs key))) (cf : Hid (w.cell? ⟨fb, 0, none⟩ = some (.pointer (some ⟨b, 0, none⟩)))) (c0 : Hid (w.cell? ⟨b, 0, none⟩ = some (.int .i64 (h : Int)))) (c1 : Hid (w.cell? ⟨b, 1, none⟩ = some (.slice (some ⟨g, 0, none⟩) m cap)))
    (hg : Hid (Glob w)) (hX : Hid (fb ≠ X ∧ b ≠ X ∧ X < w.heap.size)) (hk : Hid (key.length ≤ 900000000000000)) (hh : h ≤ 8) (hm : m ≤ 100000000) :
    SeqStopsK Fence.wide n Tryz.prog 87 #[.pointer (some ⟨kb, 0, none⟩), .pointer (some ⟨fb, 0, none⟩)] (fun x : Num N => #[Value.int .i64 (x.1 : Int)]) (KeepsCells X) (fun xs => xs = nosF h N hN key) (fun pre => ∃ k, k ≤ h ∧ pre = nosF k N hN key) h w := fun l J Jx W hW hJ hJx hY h0 =>
  callsIn_wide.2 (bits_in n l kb fb b g h m cap X N hN key J Jx W hNm (Lib.hid hJ) (Lib.hid hY) (by rw [hW.cell (cell_block ck)]; exact ck) (Lib.hid (by rw [hW.cell (cell_block cf.out)]; exact cf.out)) (Lib.hid (by rw [hW.cell (cell_block c0.out)]; exact c0.out)) (Lib.hid (by rw [hW.cell (cell_block c1.out)]; exact c1.out))
    (Lib.hid (hg.out.keep hW hg.out.1)) (Lib.hid ⟨hX.out.1, hX.out.2.1, Nat.lt_of_lt_of_le hX.out.2.2 hW.size⟩) hk hh hm (Lib.hid h0))

theorem has_pre (h N : Nat) (hN : 0 < N) (f : Nat → Bool) (k : List UInt8) : hasB h N f k = (nosF h N hN k).all fun x => f x.1 := by
  unfold hasB
  rw [← nosF_val h N hN k, List.all_map]
  rfl

theorem and_bit (c r : Nat) (hc : c < 256) : bits .and .u8 ((c : Int) / 2 ^ r) 1 = ((c / 2 ^ r % 2 : Nat) : Int) := by
  have h1 : c / 2 ^ r < 256 := Nat.lt_of_le_of_lt (Nat.div_le_self _ _) hc
  have h2 : (c : Int) / 2 ^ r = ((c / 2 ^ r : Nat) : Int) := by rw [Int.natCast_ediv, Int.natCast_pow]; rfl
  rw [h2, show (1 : Int) = ((1 : Nat) : Int) from rfl, u8_and_nat _ _ h1 (by omega), Nat.and_one_is_mod]
theorem flt_has_nil (s : ByteArray) (w : World) : Calls Tryz.prog 47 #[.pointer none, .string s] w fun e w' => e = .returned (.bool false) ∧ Below w.heap.size w w' := by
  refine (callsIn_wide (n := 5)).1 ?_
  refine callsIn_of_wp_marks Tryz.func47 rfl trivial ?_ rfl
  simp only [Tryz.ntmps47, List.size_toArray, List.length_cons, List.length_nil, Nat.reduceAdd, Nat.reduceSub, Array.replicate_succ, Array.replicate_zero, List.push_toArray, List.append_toArray, List.nil_append, List.cons_append]
  gi_wp2
  have hb : Below w.heap.size w ((w.alloc (.cells #[.pointer none] 73)).alloc (.cells #[.bool false] 4)) := ((Below.refl _ w).alloc (Nat.le_refl _) _).alloc (by simp) _
  have hc := box_new (w.alloc (.cells #[.pointer none] 73)) (.bool false) 4
  simp only [World.size_alloc] at hc
  refine ⟨.bool false, ?_, rfl, hb⟩
  simp [results, Tryz.f47, go_sem, hc]

set_option maxHeartbeats 2000000 in
theorem flt_has (b g h m N : Nat) (L key : List UInt8) (w : World) (hf : Hid (Flt b g h L w)) (hg : Hid (Glob w)) (hml : Hid (m = L.length)) (hm : m ≤ 100000000) (hNm : Hid (N = m * 8)) (hN : 0 < N) (hh : h ≤ 8) (hk : Hid (key.length ≤ 900000000000000)) :
    Calls Tryz.prog 47 #[.pointer (some ⟨b, 0, none⟩), .string (bs key)] w fun e w' => e = .returned (.bool (hasB h N (bitAt L) key)) ∧ Below w.heap.size w w' := by
  obtain ⟨cap, hc1⟩ := hf.out.c1
  rw [← hml.out] at hc1
  obtain ⟨Z, hZ⟩ : ∃ Z, Z = w.heap.size := ⟨_, rfl⟩
  obtain ⟨w2, hw2⟩ : ∃ w2, w2 = (((w.alloc (.cells #[.pointer (some ⟨b, 0, none⟩)] 73)).alloc (.cells #[.bool false] 4)).alloc (.cells #[.pointer (some ⟨b, 0, none⟩)] 73)).alloc (.cells #[.string (bs key)] 9) := ⟨_, rfl⟩
  have B2 := Lib.hid (show Below w.heap.size w w2 by rw [hw2]; exact ((((Below.refl _ w).alloc (Nat.le_refl _) _).alloc (by simp) _).alloc (by simp; omega) _).alloc (by simp; omega) _)
  have S2 := Lib.hid (show w2.heap.size = Z + 1 + 1 + 1 + 1 by rw [hw2, hZ]; simp)
  have d0 := box_new w (.pointer (some ⟨b, 0, none⟩)) 73
  have d1 := box_new (w.alloc (.cells #[.pointer (some ⟨b, 0, none⟩)] 73)) (.bool false) 4
  have d1f := box_free (w.alloc (.cells #[.pointer (some ⟨b, 0, none⟩)] 73)) (.bool false) 4
  have d2 := box_new ((w.alloc (.cells #[.pointer (some ⟨b, 0, none⟩)] 73)).alloc (.cells #[.bool false] 4)) (.pointer (some ⟨b, 0, none⟩)) 73
  have d3 := box_new (((w.alloc (.cells #[.pointer (some ⟨b, 0, none⟩)] 73)).alloc (.cells #[.bool false] 4)).alloc (.cells #[.pointer (some ⟨b, 0, none⟩)] 73)) (.string (bs key)) 9
  simp only [World.size_alloc, ← hZ] at d0 d1 d1f d2 d3
  have e0 := Lib.hid (show w2.cell? ⟨Z, 0, none⟩ = some (.pointer (some ⟨b, 0, none⟩)) by rw [hw2]; exact cell_on _ (cell_on _ (cell_on _ d0)))
  have e1 := Lib.hid (show w2.cell? ⟨Z + 1, 0, none⟩ = some (.bool false) ∧ w2.frozen? ⟨Z + 1, 0, none⟩ = false by rw [hw2]; exact ⟨cell_on _ (cell_on _ d1), free_on _ (cell_on _ d1) (free_on _ d1 d1f)⟩)
  have e2 := Lib.hid (show w2.cell? ⟨Z + 1 + 1, 0, none⟩ = some (.pointer (some ⟨b, 0, none⟩)) by rw [hw2]; exact cell_on _ d2)
  have e3 := Lib.hid (show w2.cell? ⟨Z + 1 + 1 + 1, 0, none⟩ = some (.string (bs key)) by rw [hw2]; exact d3)
  have F2 := Lib.hid (hf.out.below B2.out)
  have hlt := Lib.hid (show b < Z ∧ g < Z by rw [hZ]; exact ⟨hf.out.lt, hf.out.row.1⟩)
  have G2 := Lib.hid (hg.out.keep B2.out hg.out.1)
  have C1 := Lib.hid (show w2.cell? ⟨b, 1, none⟩ = some (.slice (some ⟨g, 0, none⟩) m cap) by rw [B2.out.cell hf.out.lt]; exact hc1)
  have Hw2 := Lib.hid hw2
  have HZ := Lib.hid hZ
  clear d0 d1 d1f d2 d3 hw2 hc1 hZ
  refine (callsIn_wide (n := 5)).1 ?_
  refine callsIn_of_wp_marks Tryz.func47 rfl trivial ?_ rfl
  simp only [Tryz.ntmps47, List.size_toArray, List.length_cons, List.length_nil, Nat.reduceAdd, Nat.reduceSub, Array.replicate_succ, Array.replicate_zero, List.push_toArray, List.append_toArray, List.nil_append, List.cons_append]
  gi_wp2_with (refine ⟨trivial, ?_⟩; gi_at_call 63; refine (callsIn_wide.2 (flt_bitsOf b (bs key) _)).mono ?_; rintro e w' ⟨rfl, rfl⟩)
  rw [← Hw2.out, ← HZ.out]
  have hX := Lib.hid (show Z + 1 + 1 ≠ Z + 1 ∧ b ≠ Z + 1 ∧ Z + 1 < w2.heap.size from ⟨by omega, by have := hlt.out; omega, by rw [S2.out]; omega⟩)
  refine wpIn_rangeFunc_ownF (α := Num N) rfl (by omega) (gf := 87) (lb := #[.pointer (some ⟨Z + 1 + 1 + 1, 0, none⟩), .pointer (some ⟨Z + 1 + 1, 0, none⟩)]) rfl trivial (enters_of Tryz.func87 (by kernel_rfl) rfl)
    (bits_stops _ (Z + 1 + 1 + 1) (Z + 1 + 1) b g h m cap (Z + 1) N hN key w2 hNm e3.out e2 (Lib.hid F2.out.c0) C1 G2 hX hk hh hm) KeepsCells.trans (fun W l o o' _ h1 h2 _ => KeepsCells.putObj W l o o' h1 h2) (Below.refl _ _) (fun _ => rfl)
    (fun pre W => (((∀ y ∈ pre, bitAt L y.1 = true) ∧ W.cell? ⟨Z + 1, 0, none⟩ = some (.bool false) ∧ W.frozen? ⟨Z + 1, 0, none⟩ = false) ∧ KeepsCells (Z + 1) w2 W) ∧ Below Z w W)
    (fun c pre W => (c = .ret ∧ (∃ y ∈ pre, bitAt L y.1 = false) ∧ W.cell? ⟨Z + 1, 0, none⟩ = some (.bool false)) ∧ Below Z w W)
    (OwnFrom.and (OwnFrom.and (Own.from (fun s A B row hs hg hr => ⟨hs.1, cell_kept hs.2.1 hg hr, (frozen_kept hs.2.1 hg hr).trans hs.2.2⟩) _) (keeps_own _ _ _)) (ownFrom_below (by rw [HZ.out]; exact Nat.le_refl _) (by rw [S2.out]; omega)))
    (fun c => OwnFrom.and (Own.from (fun s A B row hs hg hr => ⟨hs.1, hs.2.1, cell_kept hs.2.2 hg hr⟩) _) (ownFrom_below (by rw [HZ.out]; exact Nat.le_refl _) (by rw [S2.out]; omega)))
    ⟨⟨⟨by simp, e1.out⟩, KeepsCells.refl _ _⟩, by rw [HZ.out]; exact B2.out⟩
    (fun x => { tmps := #[.pointer (some ⟨b, 0, none⟩), .string (bs key), .pointer (some ⟨Z, 0, none⟩), undef, .pointer (some ⟨Z + 1, 0, none⟩), .int .i64 (x.1 : Int), .pointer (some ⟨b, 0, none⟩), .bool false, .pointer (some ⟨b, 0, none⟩), .string (bs key), .func (.func 87) #[] #[.pointer (some ⟨Z + 1 + 1 + 1, 0, none⟩), .pointer (some ⟨Z + 1 + 1, 0, none⟩)], .int .i64 (x.1 : Int), undef, undef, undef, undef, undef, undef, undef, undef, undef, undef, undef, undef, undef], defers := [] }) ?assign ?body ?done ?stop
  case assign =>
    intro l x W K hK
    gi_wp2
    exact hK
  case body =>
    rintro l pre x W ⟨⟨⟨hp, hcx, hfx⟩, hKC⟩, hB⟩ _
    obtain ⟨q, hq⟩ : ∃ q, q = x.1 / 8 := ⟨_, rfl⟩
    obtain ⟨r, hr⟩ : ∃ r, r = x.1 % 8 := ⟨_, rfl⟩
    obtain ⟨c, hc⟩ : ∃ c, c = byteAt L q := ⟨_, rfl⟩
    have hqm : q < m := by have := x.2; have := hNm.out; omega
    have hr8 : r < 8 := by omega
    have hc256 : c < 256 := by rw [hc]; exact byteAt_lt _ _
    have hquo : ((x.1 : Nat) : Int).tdiv 8 = (q : Int) := by rw [Int.tdiv_eq_ediv_of_nonneg (by omega)]; omega
    have hrem : ((x.1 : Nat) : Int).tmod 8 = (r : Int) := by rw [Int.tmod_eq_emod_of_nonneg (by omega)]; omega
    have cZ : W.cell? ⟨Z, 0, none⟩ = some (.pointer (some ⟨b, 0, none⟩)) := hKC.cell (by omega) e0.out
    have cL : W.cell? ⟨b, 1, none⟩ = some (.slice (some ⟨g, 0, none⟩) m cap) := hKC.cell hX.out.2.1 C1.out
    have cQ : W.cell? ⟨g, q, none⟩ = some (.int .u8 (c : Int)) := by rw [hc]; exact hKC.cell (by have := hlt.out; omega) (F2.out.row.2 q (by rw [← hml.out]; exact hqm)).1
    have HB := Lib.hid (show bitAt L x.1 = (c / 2 ^ r % 2 == 1) by unfold bitAt; rw [← hq, ← hr, ← hc])
    clear hq hr hc
    gi_wp2
    · rename_i hx
      have hx' : bitAt L x.1 = false := by
        rw [HB.out]
        rw [and_bit c r hc256] at hx
        generalize c / 2 ^ r % 2 = z at *
        rcases Nat.eq_zero_or_pos z with rfl | hz
        · rfl
        · exfalso; simp at hx; omega
      exact ⟨KeepsOthers.setCell _ _ _, ⟨rfl, ⟨x, by simp, hx'⟩, World.cell?_setCell_same' _ _ _ (by rw [hcx]; rfl)⟩, hB.setCell (p := ⟨Z + 1, 0, none⟩) (by simp) _⟩
    · rename_i hx
      have hx' : bitAt L x.1 = true := by
        rw [HB.out]
        rw [and_bit c r hc256] at hx
        have hz : c / 2 ^ r % 2 < 2 := Nat.mod_lt _ (by decide)
        generalize c / 2 ^ r % 2 = z at *
        have : z = 1 := by
          rcases Nat.eq_zero_or_pos z with rfl | hz
          · exfalso; simp at hx
          · omega
        rw [this]; rfl
      exact ⟨KeepsOthers.refl _, KeepsCells.refl _ _, ⟨⟨fun y hy => by rcases List.mem_append.1 hy with h | h; (exact hp y h); (obtain rfl := List.mem_singleton.1 h; exact hx'), hcx, hfx⟩, hKC⟩, hB⟩
  case done =>
    rintro D ys W hD rfl ⟨⟨⟨hall, hcx, hfx⟩, hKC⟩, hB⟩ hK
    have hres : hasB h N (bitAt L) key = true := by rw [has_pre h N hN]; exact List.all_eq_true.2 hall
    gi_wp2
    have hK' := (KeepsOthers.setCell W ⟨Z + 1, 0, none⟩ (.bool true)).same D _ hK rfl
    refine ⟨by simp, .inl ⟨_, _, rfl, run_takeDeferred hK', ?_⟩⟩
    have hc5 := cell_kept (World.cell?_setCell_same' W ⟨Z + 1, 0, none⟩ (.bool true) (by rw [hcx]; rfl)) (grownBy_putObj' _ D (.deferred none)) (fun r e => by cases e; exact ⟨_, hK', rfl⟩)
    refine ⟨.bool true, ?_, by rw [hres], (by rw [← HZ.out]; exact (hB.setCell (p := ⟨Z + 1, 0, none⟩) (by simp) _).trans (belowK_b (w := w2) (by rw [S2.out]; omega) _ D _ _ hD hK' rfl rfl))⟩
    simp [results, Tryz.f47, go_sem, hc5]
  case stop =>
    rintro D c pre W hD ⟨k, hkh, rfl⟩ ⟨⟨rfl, ⟨y, hy, hyf⟩, hcx⟩, hB⟩ hK
    have hres : hasB h N (bitAt L) key = false := by
      rw [has_pre h N hN, List.all_eq_false]
      refine ⟨y, ?_, by simp [hyf]⟩
      simp only [nosF, List.mem_map, List.mem_range] at hy ⊢
      obtain ⟨i, hi, e⟩ := hy
      exact ⟨i, by omega, e⟩
    gi_wp2
    refine ⟨by simp, .inl ⟨_, _, rfl, run_takeDeferred hK, ?_⟩⟩
    have hc5 := cell_kept hcx (grownBy_putObj' _ D (.deferred none)) (fun r e => by cases e; exact ⟨_, hK, rfl⟩)
    refine ⟨.bool false, ?_, by rw [hres], (by rw [← HZ.out]; exact hB.trans (belowK_b (w := w2) (by rw [S2.out]; omega) W D _ _ hD hK rfl rfl))⟩
    simp [results, Tryz.f47, go_sem, hc5]
end Go.Proofs.YteejldddgogbkaaGreatDoor
/- Make: a filter of keys. -/
set_option linter.unusedVariables false
set_option maxRecDepth 100000
set_option maxRecDepth 100000
namespace Go.Proofs.YteejldddgogbkaaGreatDoor
open Go.RowKit Go.Shelf
attribute [local go_sem] Oper.semAt_some

theorem madeCells_one (z : Value) (n : Nat) : madeCells #[z] n = Array.replicate n z := by
  apply Array.ext
  · simp [madeCells]
  · intro i h1 h2
    simp [madeCells, Nat.mod_one]

theorem flt_empty (per c : Nat) (w : World) (hp1 : 1 ≤ per) (hp2 : per ≤ 32) (hc : c ≤ 65536) :
    Calls Tryz.prog 62 #[.int .i64 (per : Int), .int .i64 (c : Int)] w fun e w' => e = .returned (.pointer (some ⟨w.heap.size + 1, 0, none⟩)) ∧ w' = (w.alloc (.cells (Array.replicate (wordsOf per c * 8) (.int .u8 0)) 5)).alloc (.cells #[.int .i64 (hashesOf per : Int), .slice (some ⟨w.heap.size, 0, none⟩) (wordsOf per c * 8) (wordsOf per c * 8)] 119) := by
  obtain ⟨p, hp⟩ : ∃ p, p = per * c := ⟨_, rfl⟩
  have hpb : p ≤ 2097152 := by rw [hp]; exact Nat.mul_le_mul hp2 hc
  have hpi : (per : Int) * (c : Int) = (p : Int) := by rw [hp, Int.natCast_mul]
  obtain ⟨v, hv⟩ : ∃ v, v = (p + 63) / 64 := ⟨_, rfl⟩
  have hdv : ((p : Int) + 64 - 1) / 64 = (v : Int) := by rw [hv]; omega
  obtain ⟨k, hk⟩ : ∃ k, k = wordsOf per c * 8 := ⟨_, rfl⟩
  obtain ⟨h, hh⟩ : ∃ h, h = hashesOf per := ⟨_, rfl⟩
  have hkv : k = max v 1 * 8 := by rw [hk, hv, hp]; rfl
  have HM := Lib.hid (fun w => run_make_row' (P := Tryz.prog) 62 5 (.int .u8 0) 1 Tryz.underlying62 info5 rfl .i64 .i64 k (by omega) (by omega) w)
  obtain ⟨d, hd⟩ : ∃ d, d = per * 7 / 10 := ⟨_, rfl⟩
  have hd7 : ((per : Int) * 7) / 10 = (d : Int) := by rw [hd]; omega
  have hd22 : d ≤ 22 := by omega
  have hv0 : v ≤ 32768 := by omega
  have hhd : h = min (max d 1) 8 := by rw [hh, hd]; rfl
  rw [← hk, ← hh]
  have Hhd := Lib.hid hhd
  have Hkv := Lib.hid hkv
  clear hp hv hk hh hd hhd hkv
  go_enter Tryz.func62, Tryz.ntmps62
  have hmk : max (v : Int) 1 * 8 = (k : Int) := by have := Hkv.out; omega
  have hmh : min (max (d : Int) 1) 8 = (h : Int) := by have := Hhd.out; omega
  have hM := HM.out
  go_wp2_with fail
  go_ret
  exact ⟨rfl, by rw [← madeCells_one]⟩
end Go.Proofs.YteejldddgogbkaaGreatDoor
