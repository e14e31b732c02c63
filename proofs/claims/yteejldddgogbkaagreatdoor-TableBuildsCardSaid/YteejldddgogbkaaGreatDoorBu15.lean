/- Texts for layer 9, put together: BloomRefBits, BloomRefHas, BloomRefMake, BloomRefPack, BlockIn -/
import Derived.Test.YteejldddgogbkaaGreatDoorBu04
import Derived.Test.YteejldddgogbkaaGreatDoorBu14
import Derived.Test.YteejldddgogbkaaGreatDoorBu11
import Derived.Test.YteejldddgogbkaaGreatDoorBu01
import Derived.Test.YteejldddgogbkaaGreatDoorBu12
import Derived.Maps.AppendAt
import Derived.Laws.AppendOwn
import Derived.Deep.Onto
import Derived.Test.YteejldddgogbkaaGreatDoorBu00
import Derived.Deep.OwnRows
import Derived.Test.YteejldddgogbkaaGreatDoorBu13
import Derived.Laws.OwnMore
import Derived.Deep.Slices
import Derived.Deep.Fields
import Derived.ChangeSame
/- The document's filter: the numbers of a key's bits; has it a key; how many are 1. -/
set_option linter.unusedVariables false
set_option maxRecDepth 100000
set_option maxRecDepth 100000
namespace Go.Proofs.YteejldddgogbkaaGreatDoor
open Go.RowKit

theorem info3 : (Tryz.prog.info? 3).map (fun i => (i.zero, i.size, i.bytes)) = some (some (.int .i64 0), 1, 8) := by kernel_rfl
/-- A slice of numbers of the call's own. -/
def OwnI (B : Nat) (v : Value) (l : List Nat) (w : World) : Prop := w.ownsRow B 3 1 v l.length (l.map fun x : Nat => Value.int .i64 (x : Int))
theorem OwnI.nil (B : Nat) (w : World) : OwnI B (.slice none 0 0) [] w := World.ownsRow_nil w B 3 1
theorem OwnI.below {B : Nat} {v : Value} {l : List Nat} {w w' : World} (h : OwnI B v l w) (k : Below w.heap.size w w') : OwnI B v l w' := h.kept (row := none) ⟨k.os, k.tape, k.output, k.size, fun j hj _ => k.block j hj⟩ (by cases e : v.ownBlock with
  | none => exact .inl rfl
  | some x => exact .inr (by simp))
theorem OwnI.form {B n : Nat} {v : Value} {l : List Nat} {w : World} (h : OwnI B v l w) (hn : l.length = n) (hl : 0 < n) : ∃ g cap, v = .slice (some ⟨g, 0, none⟩) n cap ∧ B ≤ g ∧ g < w.heap.size := by
  subst hn
  rcases h.2 with ⟨_, h0⟩ | ⟨g, cap, cur, hv, hB, hg, _⟩
  · omega
  · exact ⟨g, cap, hv, hB, (Array.getElem?_eq_some_iff.1 hg).1⟩
theorem OwnI.cell {B g cap n : Nat} {l : List Nat} {w : World} (h : OwnI B (.slice (some ⟨g, 0, none⟩) n cap) l w) : ∀ j, j < l.length → w.cell? ⟨g, j, none⟩ = some (.int .i64 ((l.getD j 0 : Nat) : Int)) := by
  intro j hj
  have h1 := h.cells rfl j (.int .i64 ((l.getD j 0 : Nat) : Int)) (by simp [List.getD_eq_getElem?_getD, hj])
  rw [addr_add, Nat.zero_add] at h1
  exact h1
theorem OwnI.push {B : Nat} {v' : Value} {l : List Nat} {w' : World} {c : Int} {b : Nat} (h : w'.ownsRow B 3 1 v' (l.length + 1) ((l.map fun x : Nat => Value.int .i64 (x : Int)) ++ [.int .i64 c])) (hc : c = (b : Int)) : OwnI B v' (l ++ [b]) w' := by
  unfold OwnI
  have e1 : (l ++ [b]).length = l.length + 1 := by simp
  have e2 : ((l ++ [b]).map fun x : Nat => Value.int .i64 (x : Int)) = (l.map fun x : Nat => Value.int .i64 (x : Int)) ++ [.int .i64 c] := by simp [hc]
  rw [e1, e2]
  exact h

theorem nos_succ (h N : Nat) (k : List UInt8) : nos (h + 1) N k = nos h N k ++ [wordAt (digest k) (4 * h) % N] := by simp [nos, List.range_succ]
theorem digest32 (l : List UInt8) : (digest l).length = 32 := keyOf_len _

/-- A filter of the document's, as a value: so many hashes, the bits in block g. -/
def fv (h g n cap : Nat) : Value := .agg #[.int .i64 (h : Int), .slice (some ⟨g, 0, none⟩) n cap]

set_option maxHeartbeats 2000000 in
theorem ref_bits (h g N cap : Nat) (s : ByteArray) (w : World) (hh : h ≤ 8) (hN : 0 < N) (hN2 : N ≤ 1000000000) (hs : s.size ≤ 1000000) :
    Calls Tryz.prog 69 #[fv h g N cap, .string s] w fun e w' => ∃ v, e = .returned v ∧ OwnI w.heap.size v (nos h N s.data.toList) w' ∧ Below w.heap.size w w' := by
  obtain ⟨i0, hi, hz0, hz1, hz2⟩ := info_parts info3
  obtain ⟨Z, hZ⟩ : ∃ Z, Z = w.heap.size := ⟨_, rfl⟩
  obtain ⟨w1, hw1⟩ : ∃ w1, w1 = w.alloc (.cells #[.int .i64 (h : Int), .slice (some ⟨g, 0, none⟩) N cap] 43) := ⟨_, rfl⟩
  have B1 := Lib.hid (show Below Z w w1 by rw [hw1, hZ]; exact (Below.refl _ _).alloc (Nat.le_refl _) _)
  have S1 := Lib.hid (show w1.heap.size = Z + 1 by rw [hw1, hZ]; simp)
  have c0 := Lib.hid (show w1.cell? ⟨Z, 0, none⟩ = some (.int .i64 (h : Int)) ∧ w1.cell? ⟨Z, 1, none⟩ = some (.slice (some ⟨g, 0, none⟩) N cap) by
    rw [hw1, hZ, World.cell?_alloc_mark, World.cell?_alloc_mark]; exact ⟨rfl, rfl⟩)
  have HW1 := Lib.hid hw1
  have HZ := Lib.hid hZ
  clear hw1 hZ
  rw [← HZ.out]
  unfold fv
  go_enter Tryz.func69, Tryz.ntmps69
  go_wp2_with fail
  rw [← HW1.out, ← HZ.out]
  refine (ref_Sum s w1 hs).mono ?_
  rintro e w2 ⟨rfl, k2⟩
  have k2 := Lib.hid k2
  obtain ⟨dg, hdg⟩ : ∃ dg, dg = digest s.data.toList := ⟨_, rfl⟩
  rw [← hdg]
  have HDG := Lib.hid (show dg.length = 32 by rw [hdg]; exact digest32 _)
  have Hdg := Lib.hid hdg
  obtain ⟨ka, hka⟩ : ∃ x, x = keyA dg := ⟨_, rfl⟩
  have hkv : keyV dg = .agg ka := by rw [hka]; rfl
  rw [hkv]
  have HIA := Lib.hid (show (Tryz.prog.info? 145).map (·.size) = some ka.toList.length by rw [hka]; exact info25 _ HDG.out)
  have HIS := Lib.hid (show (Tryz.prog.info? 145).map (·.size) = some ka.size by rw [hka]; exact info25s _ HDG.out)
  have HON := Lib.hid (show ka.all (·.oneCell') = true by rw [hka]; exact keyA_one _)
  have HTH := Lib.hid (show (w2.alloc (.cells (Array.replicate 32 (.int .u8 0)) 145)).there w2.heap.size 0 ka.size by
    rw [hka, keyA_size, HDG.out]
    exact key_there (key8_new w2 145))
  have HKA := Lib.hid hka
  obtain ⟨W3, hW3⟩ : ∃ W3, W3 = (w2.alloc (.cells (Array.replicate 32 (.int .u8 0)) 145)).setCells w2.heap.size 0 ka.toList := ⟨_, rfl⟩
  have K3 := Lib.hid (show Below w2.heap.size w2 W3 by rw [hW3]; exact below_setCells (Nat.le_refl _) _ _ ((Below.refl _ w2).alloc (Nat.le_refl _) _))
  have KW := Lib.hid (k2.out.trans (K3.out.mono k2.out.size))
  have HR := Lib.hid (show W3.rangeAt w2.heap.size 0 ka.toList by rw [hW3]; exact World.rangeAt_setCells_same _ _ _ _ (by simpa using HTH.out))
  have D3 := Lib.hid (show Z < w2.heap.size ∧ w2.heap.size < W3.heap.size from ⟨by have := k2.out.size; rw [S1.out] at this; omega, by rw [hW3]; have h2 := (below_setCells (Nat.le_refl w2.heap.size) ka.toList 0 ((Below.refl w2.heap.size (w2.alloc (.cells (Array.replicate 32 (.int .u8 0)) 145))))).size; simp at h2; omega⟩)
  have HW3 := Lib.hid hW3
  clear hW3 hka hkv hdg
  go_upto_region 2 with (first | (refine wpList_store_mid rfl 145 (.tmp 5) (.tmp 9) rfl w2.heap.size 0 ka rfl rfl HTH.out HIS.out HON.out ?_))
  change Code.wp _ _ _ _ ((w2.alloc (.cells (Array.replicate 32 (.int .u8 0)) 145)).setCells w2.heap.size 0 ka.toList)
  rw [← HW3.out]
  obtain ⟨D, hD⟩ : ∃ D, D = w2.heap.size := ⟨_, rfl⟩
  rw [← hD] at HR D3 ⊢
  have hz1' : Z < w1.heap.size := by rw [S1.out]; omega
  have d0 := Lib.hid (show W3.cell? ⟨Z, 0, none⟩ = some (.int .i64 (h : Int)) ∧ W3.cell? ⟨Z, 1, none⟩ = some (.slice (some ⟨g, 0, none⟩) N cap) by
    rw [KW.out.cell (p := ⟨Z, 0, none⟩) hz1', KW.out.cell (p := ⟨Z, 1, none⟩) hz1']; exact c0.out)
  have KZ := Lib.hid (show Below Z w W3 from B1.out.trans (KW.out.mono (by omega)))
  have DZ := Lib.hid (show Z < W3.heap.size by have := D3.out; omega)
  clear hD K3 HTH HIS HON HW3 k2 KW hz1'
  go_frame
  go_wp2_with fail
  go_loopw [6, 7] (fun v vi wr => ∃ k : Nat, k ≤ h ∧ vi = .int .i64 k ∧ OwnI W3.heap.size v (nos k N s.data.toList) wr ∧ Below W3.heap.size W3 wr) (fun v vi wr => h - (intOf vi).toNat)
  case atStart => exact ⟨0, by omega, rfl, OwnI.nil _ _, Below.refl _ _⟩
  case round =>
    obtain ⟨k, hkh, rfl, hO, hB⟩ := hrel
    have HO := Lib.hid hO
    have HB := Lib.hid hB
    have e0 : wr.cell? ⟨Z, 0, none⟩ = some (.int .i64 (h : Int)) := by rw [HB.out.cell (p := ⟨Z, 0, none⟩) DZ.out]; exact d0.out.1
    have E1 := Lib.hid (show wr.cell? ⟨Z, 1, none⟩ = some (.slice (some ⟨g, 0, none⟩) N cap) by rw [HB.out.cell (p := ⟨Z, 1, none⟩) DZ.out]; exact d0.out.2)
    clear hO hB
    rcases Nat.lt_or_ge k h with hlt | hge
    · have HRr := Lib.hid (show wr.rangeAt D 0 ka.toList from rangeAt_below HR.out HB.out D3.out.2)
      have HDlt := Lib.hid (show D < wr.heap.size from Nat.lt_of_lt_of_le D3.out.2 HB.out.size)
      obtain ⟨x, hx⟩ : ∃ x, x = wordAt dg (4 * k) := ⟨_, rfl⟩
      have hx32 : x < 4294967296 := by rw [hx]; exact wordAt_lt _ _
      obtain ⟨y, hy⟩ : ∃ y, y = x % N := ⟨_, rfl⟩
      have HNX := Lib.hid (show nos (k + 1) N s.data.toList = nos k N s.data.toList ++ [y] by rw [nos_succ, hy, hx, Hdg.out])
      have hrem : (x : Int).tmod (N : Int) = (y : Int) := by rw [Int.tmod_eq_emod_of_nonneg (by omega), hy, Int.natCast_emod]
      have hrem' : (x : Int) % (N : Int) = (y : Int) := by rw [hy, Int.natCast_emod]
      have hN0 : ¬ ((N : Int) = 0) := by omega
      have hwx : wrap64 (x : Int) = (x : Int) := by unfold wrap64; omega
      obtain ⟨X, hX⟩ : ∃ X : Int, X = (x : Int) := ⟨_, rfl⟩
      rw [← hX] at hrem hrem' hwx
      have hk8 : ((k : Int) % 8).toNat = k := by omega
      have HWD := Lib.hid (fun (W : World) (n : Seen W) => by have h := seen_of (ref_Word dg (k : Int) · (Lib.hid HDG.out) (by omega) (by omega)) W n; rw [hk8, ← hx, ← hX, ← HKA.out] at h; exact h)
      have he1 : ∀ n : Seen wr, n.val.cell? ⟨Z, 1, none⟩ = some (.slice (some ⟨g, 0, none⟩) N cap) := fun n => by rw [n.below.cell (cell_block E1.out)]; exact E1.out
      have Hll := Lib.hid (nos_len k N s.data.toList)
      have hBs := Lib.hid (show W3.heap.size ≤ wr.heap.size from HB.out.size)
      go_wp2_with fail
      clear hx hy hk8 e0 hX hx32
      refine wp_region_first_tail 9 u6 (by kernel_rfl) (by kernel_rfl) (.inl ⟨rfl, fun w => rfl⟩) (fun _ _ _ h => h) ?_
      simp only [List.take_succ_cons, List.take_zero, List.drop_succ_cons, List.drop_zero, Nat.reduceSub]
      go_frame
      (go_big_quiet_want; refine quiet_load_arr 145 (.tmp 5) rfl D 0 rfl ka _ (seen_at HRr.out HDlt.out) Tryz.underlying145 rfl HIA.out ?_; go_big_quiet_on; try go_frame)
      go_big_quiet_step (fail)
      go_big_quiet_step (first | (go_at_call 93; with_reducible exact HWD.out _ _))
      go_big_quiet_step (fail)
      go_big_quiet_step (fail)
      go_big_quiet_step (fail)
      go_big_quiet_step (fail)
      go_big_quiet_step (fail)
      refine wpQuiet_nil ?_
      rintro _ ⟨m1, rfl⟩
      have HOm := Lib.hid (HO.out.below m1.below)
      have hsz := Lib.hid (show W3.heap.size ≤ m1.val.heap.size from Nat.le_trans hBs.out m1.below.size)
      go_wp2_with (first | (refine wpList_append_own _ rfl (.tmp 16) (.tmp 25) 40 rfl W3.heap.size 3 i0 (.int .i64 0) 1 8 Tryz.underlying40 hi hz0 hz1 hz2 rfl (by decide) u6 (nos k N s.data.toList).length ((nos k N s.data.toList).map fun x : Nat => Value.int .i64 (x : Int)) (by simp [Act.eval, Act.put]) (World.ownsRow.alloc HOm.out _) ⟨m1.val.heap.size, 0, none⟩ 1 1 [.int .i64 (y : Int)] (by simp [Act.eval, Act.put]) rfl (fun j u hj => cell_one_new _ _ _ j u hj) (by simp [Value.oneCell']) (by unfold maxLen; have := Hll.out; omega) (by have := Hll.out; omega) (by have := hsz.out; simp; omega) ?_; intro v3 w3 hown3 hg3 _))
      exact ⟨⟨k + 1, by omega, by go_num, by rw [HNX.out]; exact OwnI.push hown3 rfl, HB.out.trans ((((m1.below.mono hBs.out).alloc hsz.out _)).grown hg3 (by have := hsz.out; simp; omega) (fun j hj => (World.ownsRow.lt HOm.out j hj).1))⟩, by simp [intOf]; omega⟩
    · obtain rfl : k = h := by omega
      go_wp2_with fail
      go_ret
      exact ⟨_, rfl, World.ownsRow.mono HO.out (Nat.le_of_lt DZ.out), KZ.out.trans (HB.out.mono (Nat.le_of_lt DZ.out))⟩
end Go.Proofs.YteejldddgogbkaaGreatDoor
/- The document's filter: has it a key; how many bits are 1. -/
set_option linter.unusedVariables false
set_option maxRecDepth 100000
set_option maxRecDepth 100000
namespace Go.Proofs.YteejldddgogbkaaGreatDoor
open Go.RowKit

/-- In block g there are n bits. -/
def RowB (g : Nat) (f : Nat → Bool) (n : Nat) (w : World) : Prop := g < w.heap.size ∧ ∀ j, j < n → w.cell? ⟨g, j, none⟩ = some (.bool (f j)) ∧ w.frozen? ⟨g, j, none⟩ = false
theorem RowB.keep {g B n : Nat} {f : Nat → Bool} {w w' : World} (h : RowB g f n w) (k : Below B w w') (hg : g < B) : RowB g f n w' :=
  ⟨Nat.lt_of_lt_of_le h.1 k.size, fun j hj => by rw [k.cell hg, YteejldddgogbkaaGreatDoor.Below.frozen k hg]; exact h.2 j hj⟩
theorem RowB.below {g n : Nat} {f : Nat → Bool} {w w' : World} (h : RowB g f n w) (k : Below w.heap.size w w') : RowB g f n w' := h.keep k h.1

theorem hasB_take (l : List Nat) (f : Nat → Bool) (k : Nat) (h : k < l.length) : (l.take (k + 1)).all f = ((l.take k).all f && f (l.getD k 0)) := by
  rw [List.take_add_one, List.getElem?_eq_getElem h, List.all_append]
  simp [List.getD_eq_getElem?_getD, h]

set_option maxHeartbeats 2000000 in
theorem ref_has (h g N cap : Nat) (f : Nat → Bool) (s : ByteArray) (w : World) (hr : Hid (RowB g f N w)) (h1 : 1 ≤ h) (hh : h ≤ 8) (hN : 0 < N) (hN2 : N ≤ 1000000000) (hs : s.size ≤ 1000000) :
    Calls Tryz.prog 52 #[fv h g N cap, .string s] w fun e w' => e = .returned (.bool (hasB h N f s.data.toList)) ∧ Below w.heap.size w w' := by
  obtain ⟨Z, hZ⟩ : ∃ Z, Z = w.heap.size := ⟨_, rfl⟩
  obtain ⟨w1, hw1⟩ : ∃ w1, w1 = w.alloc (.cells #[.int .i64 (h : Int), .slice (some ⟨g, 0, none⟩) N cap] 43) := ⟨_, rfl⟩
  have B1 := Lib.hid (show Below Z w w1 by rw [hw1, hZ]; exact (Below.refl _ _).alloc (Nat.le_refl _) _)
  have S1 := Lib.hid (show w1.heap.size = Z + 1 by rw [hw1, hZ]; simp)
  have c0 := Lib.hid (show w1.cell? ⟨Z, 0, none⟩ = some (.int .i64 (h : Int)) ∧ w1.cell? ⟨Z, 1, none⟩ = some (.slice (some ⟨g, 0, none⟩) N cap) by
    rw [hw1, hZ, World.cell?_alloc_mark, World.cell?_alloc_mark]; exact ⟨rfl, rfl⟩)
  have hgZ := Lib.hid (show g < Z by rw [hZ]; exact hr.out.1)
  have R1 := Lib.hid (hr.out.keep B1.out hgZ.out)
  have HW1 := Lib.hid hw1
  have HZ := Lib.hid hZ
  clear hw1 hZ
  rw [← HZ.out]
  unfold fv
  go_enter Tryz.func52, Tryz.ntmps52
  go_wp2_with fail
  rw [← HW1.out, ← HZ.out]
  refine (ref_bits h g N cap s w1 hh hN hN2 hs).mono ?_
  rintro e w2 ⟨v, rfl, hO, hB⟩
  obtain ⟨l, hl⟩ : ∃ l, l = nos h N s.data.toList := ⟨_, rfl⟩
  rw [← hl] at hO
  have hlh : l.length = h := by rw [hl]; exact nos_len _ _ _
  have hlt := Lib.hid (show ∀ k, k < h → l.getD k 0 < N from fun k hk => by
    have hm : l.getD k 0 ∈ l := by rw [List.getD_eq_getElem?_getD, List.getElem?_eq_getElem (by omega)]; exact List.getElem_mem (by omega)
    have hm2 : l.getD k 0 ∈ nos h N s.data.toList := hl ▸ hm
    exact nos_lt hN hm2)
  obtain ⟨gl, cl, rfl, _, hgl⟩ := hO.form hlh h1
  have hcell := Lib.hid hO.cell
  have HL := Lib.hid hl
  have Hlh := Lib.hid hlh
  have HB := Lib.hid hB
  have R2 := Lib.hid (R1.out.below hB)
  have c2 := Lib.hid (show w2.cell? ⟨Z, 1, none⟩ = some (.slice (some ⟨g, 0, none⟩) N cap) by rw [hB.cell (p := ⟨Z, 1, none⟩) (show Z < w1.heap.size by rw [S1.out]; omega)]; exact c0.out.2)
  clear hO hl hlh hB
  go_wp2_with fail
  go_loopw [6] (fun vi wr => ∃ k : Nat, k ≤ h ∧ vi = .int .i64 k ∧ (l.take k).all f = true ∧ Below w2.heap.size w2 wr) (fun vi wr => h - (intOf vi).toNat)
  case atStart => exact ⟨0, by omega, rfl, by simp, Below.refl _ _⟩
  case round =>
    obtain ⟨k, hkh, rfl, hall, hB⟩ := hrel
    have HA := Lib.hid hall
    have HW := Lib.hid hB
    clear hall hB
    rcases Nat.lt_or_ge k h with hlk | hge
    · obtain ⟨x, hx⟩ : ∃ x, x = l.getD k 0 := ⟨_, rfl⟩
      obtain ⟨y, hy⟩ : ∃ y, y = f x := ⟨_, rfl⟩
      have hxN : x < N := by rw [hx]; exact hlt.out k hlk
      have e1 : ∀ n : Seen wr, n.val.cell? ⟨Z, 1, none⟩ = some (.slice (some ⟨g, 0, none⟩) N cap) := fun n => by rw [(HW.out.trans (n.below.mono HW.out.size)).cell (cell_block c2.out)]; exact c2.out
      have e2 : ∀ n : Seen wr, n.val.cell? ⟨gl, k, none⟩ = some (.int .i64 (x : Int)) := fun n => by
        have h3 := hcell.out k (by rw [Hlh.out]; exact hlk)
        rw [← hx] at h3
        rw [(HW.out.trans (n.below.mono HW.out.size)).cell (cell_block h3)]; exact h3
      have e3 : ∀ n : Seen wr, n.val.cell? ⟨g, x, none⟩ = some (.bool y) := fun n => by
        have h3 := (R2.out.2 x hxN).1
        rw [← hy] at h3
        rw [(HW.out.trans (n.below.mono HW.out.size)).cell (cell_block h3)]; exact h3
      have HNX := Lib.hid (show (l.take (k + 1)).all f = y by rw [hasB_take l f k (by rw [Hlh.out]; exact hlk), HA.out, Bool.true_and, hy, hx])
      have HY := Lib.hid (show y = false → hasB h N f s.data.toList = false by
        intro h0
        unfold hasB
        rw [← HL.out, List.all_eq_false]
        refine ⟨x, ?_, by rw [← hy, h0]; decide⟩
        rw [hx, List.getD_eq_getElem?_getD, List.getElem?_eq_getElem (by rw [Hlh.out]; exact hlk)]
        exact List.getElem_mem _)
      clear hx hy
      go_wp2_with fail
      refine region_seen (by kernel_rfl) (by kernel_rfl) ?_
      repeat go_big_quiet_step (fail)
      refine wpQuiet_nil ?_
      rintro _ ⟨m1, rfl⟩
      cases y with
      | true =>
        go_wp2_with fail
        go_roundw
        case rel => exact ⟨k + 1, by omega, by go_num, HNX.out, HW.out.trans (m1.below.mono HW.out.size)⟩
        case measure => simp [intOf]; omega
      | false =>
        have hres := Lib.hid (HY.out rfl)
        clear HY
        go_wp2_with fail
        go_ret
        exact ⟨by rw [hres.out]; rfl, (B1.out.trans (HB.out.mono (by rw [S1.out]; omega))).trans ((HW.out.trans (m1.below.mono HW.out.size)).mono (Nat.le_trans (by rw [S1.out]; omega) HB.out.size))⟩
    · obtain rfl : k = h := by omega
      have hres : hasB k N f s.data.toList = true := by
        unfold hasB
        have := HA.out
        rw [List.take_of_length_le (by rw [Hlh.out]; exact Nat.le_refl _), HL.out] at this
        exact this
      go_wp2_with fail
      go_ret
      exact ⟨by rw [hres]; rfl, (B1.out.trans (HB.out.mono (by rw [S1.out]; omega))).trans (HW.out.mono (Nat.le_trans (by rw [S1.out]; omega) HB.out.size))⟩

end Go.Proofs.YteejldddgogbkaaGreatDoor
/- The document's filter, made. -/
set_option linter.unusedVariables false
set_option maxRecDepth 100000
set_option maxRecDepth 100000
namespace Go.Proofs.YteejldddgogbkaaGreatDoor
open Go.RowKit

def noF : Value := .agg #[.int .i64 0, .slice none 0 0]
theorem size31 : (Tryz.prog.info? 43).map (·.size) = some 2 := by kernel_rfl
theorem row31 : ∃ d, Tryz.prog.underlying 43 = some d ∧ d.isRow = true := ⟨_, Tryz.underlying43, rfl⟩

theorem range2 {w : World} {b : Nat} {x y : Value} (h0 : w.cell? ⟨b, 0, none⟩ = some x) (h1 : w.cell? ⟨b, 1, none⟩ = some y) : w.rangeAt b 0 [x, y] := by
  intro j v hj
  match j, hj with
  | 0, hj => cases hj; exact h0
  | 1, hj => cases hj; exact h1
theorem results_fv {fn : Func} (h : fn.results = #[.cell 4 43, .tmp 5]) (tmps : Array Value) (w : World) (b : Nat) (v0 v1 x : Value) (hp : tmps.getD 4 undef = .pointer (some ⟨b, 0, none⟩)) (hx : tmps.getD 5 undef = x) (h0 : w.cell? ⟨b, 0, none⟩ = some v0) (h1 : w.cell? ⟨b, 1, none⟩ = some v1) :
    (results fn tmps).run Tryz.prog w = .ok (.tuple #[.agg #[v0, v1], x]) w := by
  obtain ⟨d, hd, hr⟩ := row31
  exact results_cell_bool h tmps Tryz.prog w b 0 [v0, v1] d x hp hx (range2 h0 h1) hd hr size31

theorem info4 : (Tryz.prog.info? 4).map (fun i => (i.zero, i.size, i.bytes)) = some (some (.bool false), 1, 1) := by kernel_rfl
theorem made_one' (z : Value) (n : Nat) : madeCells #[z] n = Array.replicate n z := by
  apply Array.ext
  · simp [madeCells]
  · intro i h1 h2
    simp [madeCells, Nat.mod_one]
theorem ref_Make_arg (per : Int) (a : Option Addr) (len cap : Nat) (w : World) (hp : per < 1 ∨ 32 < per) :
    Calls Tryz.prog 34 #[.int .i64 per, .slice a len cap] w fun e w' => e = .returned (.tuple #[noF, .int .i64 1]) ∧ Below w.heap.size w w' := by
  have hc : ∀ j v, (#[.int .i64 0, .slice none 0 0] : Array Value)[j]? = some v → (w.alloc (.cells #[.int .i64 0, .slice none 0 0] 43)).cell? ⟨w.heap.size, j, none⟩ = some v := fun j v hv => by rw [World.cell?_alloc_mark]; exact hv
  have HC := Lib.hid hc
  clear hc
  go_enter Tryz.func34, Tryz.ntmps34
  rcases hp with hp | hp
  · go_wp2_with fail
    refine bodyPost_ret (results_fv rfl _ _ w.heap.size (.int .i64 0) (.slice none 0 0) (.int .i64 1) rfl rfl (HC.out 0 _ rfl) (HC.out 1 _ rfl)) rfl ?_
    exact ⟨rfl, (Below.refl _ _).alloc (Nat.le_refl _) _⟩
  · have hp1 : ¬ per < 1 := by omega
    go_wp2_with fail
    refine bodyPost_ret (results_fv rfl _ _ w.heap.size (.int .i64 0) (.slice none 0 0) (.int .i64 1) rfl rfl (HC.out 0 _ rfl) (HC.out 1 _ rfl)) rfl ?_
    exact ⟨rfl, (Below.refl _ _).alloc (Nat.le_refl _) _⟩
theorem ref_Make_long (per : Int) (a : Option Addr) (len cap : Nat) (w : World) (hp1 : 1 ≤ per) (hp2 : per ≤ 32) (hl : 65536 < len) (hl2 : len ≤ 9223372036854775807) :
    Calls Tryz.prog 34 #[.int .i64 per, .slice a len cap] w fun e w' => e = .returned (.tuple #[noF, .int .i64 6]) ∧ Below w.heap.size w w' := by
  have hc : ∀ j v, (#[.int .i64 0, .slice none 0 0] : Array Value)[j]? = some v → (w.alloc (.cells #[.int .i64 0, .slice none 0 0] 43)).cell? ⟨w.heap.size, j, none⟩ = some v := fun j v hv => by rw [World.cell?_alloc_mark]; exact hv
  have HC := Lib.hid hc
  clear hc
  go_enter Tryz.func34, Tryz.ntmps34
  go_wp2_with fail
  refine bodyPost_ret (results_fv rfl _ _ w.heap.size (.int .i64 0) (.slice none 0 0) (.int .i64 6) rfl rfl (HC.out 0 _ rfl) (HC.out 1 _ rfl)) rfl ?_
  exact ⟨rfl, (Below.refl _ _).alloc (Nat.le_refl _) _⟩

theorem RowB.set {g n x : Nat} {f : Nat → Bool} {w : World} (h : RowB g f n w) (hx : x < n) : RowB g (addBit f x) n (w.setCell ⟨g, x, none⟩ (.bool true)) := by
  refine ⟨by simpa using h.1, fun j hj => ⟨?_, by rw [World.frozen?_setCell]; exact (h.2 j hj).2⟩⟩
  by_cases e : j = x
  · subst e
    rw [World.cell?_setCell_same' _ _ _ (by rw [(h.2 j hj).1]; rfl), addBit_same]
  · rw [World.cell?_setCell_other _ _ _ _ (fun e2 => e (by injection e2 with _ e3; exact e3.symm)), (h.2 j hj).1, addBit_other f e]

set_option maxHeartbeats 2000000 in
theorem ref_Make (per : Nat) (a : Option Addr) (len cap kb koff : Nat) (T : List ByteArray) (w : World) (hp1 : 1 ≤ per) (hp2 : per ≤ 32) (hlen : Hid (len = T.length)) (hl : len ≤ 65536)
    (hz : Hid (RowS kb koff T w)) (hab : Hid (len = 0 ∨ a = some ⟨kb, koff, none⟩)) (hs : Hid (∀ t ∈ T, t.size ≤ 900000)) :
    Calls Tryz.prog 34 #[.int .i64 (per : Int), .slice a len cap] w fun e w' => ∃ g, e = .returned (.tuple #[fv (hashesOf per) g (wordsOf per len * 64) (wordsOf per len * 64), .int .i64 0]) ∧
      RowB g (made (hashesOf per) (wordsOf per len * 64) (T.map (·.data.toList))) (wordsOf per len * 64) w' ∧ w.heap.size ≤ g ∧ Below w.heap.size w w' := by
  obtain ⟨p, hp⟩ : ∃ p, p = per * len := ⟨_, rfl⟩
  have hpb : p ≤ 2097152 := by rw [hp]; exact Nat.mul_le_mul hp2 hl
  have hpi : (per : Int) * (len : Int) = (p : Int) := by rw [hp, Int.natCast_mul]
  obtain ⟨N, hN⟩ : ∃ N, N = wordsOf per len * 64 := ⟨_, rfl⟩
  have hNp : N = max ((p + 63) / 64) 1 * 64 := by rw [hN, hp]; rfl
  obtain ⟨h, hh⟩ : ∃ h, h = hashesOf per := ⟨_, rfl⟩
  have hhe : h = min (max (per * 7 / 10) 1) 8 := by rw [hh]; rfl
  have hh8 : 1 ≤ h ∧ h ≤ 8 := by rw [hh]; exact hashesOf_le per
  have hNb : 64 ≤ N ∧ N ≤ 3000000 := by omega
  have HNP := Lib.hid hNp
  have HHE := Lib.hid hhe
  rw [← hN, ← hh]
  clear hp hN hNp hh hhe
  go_enter Tryz.func34, Tryz.ntmps34
  go_wp2_with fail
  obtain ⟨Z, hZ⟩ : ∃ Z, Z = w.heap.size := ⟨_, rfl⟩
  obtain ⟨w1, hw1⟩ : ∃ w1, w1 = w.alloc (.cells #[.int .i64 0, .slice none 0 0] 43) := ⟨_, rfl⟩
  rw [← hw1, ← hZ]
  have B1 := Lib.hid (show Below Z w w1 by rw [hw1, hZ]; exact (Below.refl _ _).alloc (Nat.le_refl _) _)
  have S1 := Lib.hid (show w1.heap.size = Z + 1 by rw [hw1, hZ]; simp)
  have HZ := Lib.hid hZ
  have r1 := Lib.hid (show w1.cell? ⟨Z, 0, none⟩ = some (.int .i64 0) ∧ w1.cell? ⟨Z, 1, none⟩ = some (.slice none 0 0) ∧ w1.frozen? ⟨Z, 0, none⟩ = false ∧ w1.frozen? ⟨Z, 1, none⟩ = false by
    rw [hw1, hZ, World.cell?_alloc_mark, World.cell?_alloc_mark, World.frozen?_alloc_mark, World.frozen?_alloc_mark]; exact ⟨rfl, rfl, rfl, rfl⟩)
  clear hZ hw1
  go_loop [6] (fun v => ∃ n : Nat, v = .int .i64 n ∧ 64 ≤ n ∧ n % 64 = 0 ∧ n ≤ N) (fun v => N - (intOf v).toNat)
  case atStart => exact ⟨64, rfl, by omega, rfl, by omega⟩
  case round =>
    obtain ⟨n, rfl, hn1, hn2, hn3⟩ := hrel
    rcases Nat.lt_or_ge n p with hnp | hnp
    · have hnx : n + 64 ≤ N := by have := HNP.out; omega
      go_wp2_with fail
      go_roundw
      case rel => exact ⟨n + 64, by go_num, by omega, by omega, hnx⟩
      case measure => simp [intOf]; omega
    · obtain rfl : n = N := by have := HNP.out; omega
      have HM := Lib.hid (fun w => run_make_row' (P := Tryz.prog) 41 4 (.bool false) 1 Tryz.underlying41 info4 rfl .i64 .i64 n (by omega) (by omega) w)
      have hM := HM.out
      obtain ⟨d, hd⟩ : ∃ d, d = per * 7 / 10 := ⟨_, rfl⟩
      have hd7 : ((per : Int) * 7) / 10 = (d : Int) := by rw [hd]; omega
      have hd22 : d ≤ 22 := by omega
      rw [← hd] at HHE
      clear hd
      obtain ⟨W3, hW3⟩ : ∃ W3, W3 = (w1.alloc (.cells (madeCells #[.bool false] n) 4)).alloc (.cells #[.int .i64 (h : Int), .slice (some ⟨w1.heap.size, 0, none⟩) n n] 43) := ⟨_, rfl⟩
      have HW3 := Lib.hid hW3
      have S3 := Lib.hid (show W3.heap.size = Z + 1 + 1 + 1 by rw [hW3]; simp [S1.out])
      have B3 := Lib.hid (show Below w1.heap.size w1 W3 by rw [hW3]; exact ((Below.refl _ _).alloc (Nat.le_refl _) _).alloc (by simp) _)
      have g3 : ∀ j v, (#[.int .i64 (h : Int), .slice (some ⟨w1.heap.size, 0, none⟩) n n] : Array Value)[j]? = some v → W3.cell? ⟨Z + 1 + 1, j, none⟩ = some v := fun j v hv => by
        have h1 := World.cell?_alloc_mark (w1.alloc (.cells (madeCells #[.bool false] n) 4)) #[.int .i64 (h : Int), .slice (some ⟨w1.heap.size, 0, none⟩) n n] 43 (0, 0) j
        simp only [World.size_alloc, S1.out] at h1
        rw [S1.out] at hW3 hv
        rw [hW3]
        exact h1.trans hv
      have q3 := Lib.hid (show RowB (Z + 1) none' n W3 by
        have k1 : Below (Z + 1 + 1) (w1.alloc (.cells (madeCells #[.bool false] n) 4)) W3 := by rw [hW3]; exact (Below.refl _ _).alloc (by simp [S1.out]) _
        refine RowB.keep (B := Z + 1 + 1) ?_ k1 (by omega)
        refine ⟨by simp [S1.out], fun j hj => ?_⟩
        rw [← S1.out, World.cell?_alloc_mark, World.frozen?_alloc_mark, made_one']
        refine ⟨?_, by simp⟩
        simp [hj, none'])
      have d0 := Lib.hid (show W3.cell? ⟨Z + 1 + 1, 0, none⟩ = some (.int .i64 (h : Int)) from g3 0 _ rfl)
      have d1 := Lib.hid (show W3.cell? ⟨Z + 1 + 1, 1, none⟩ = some (.slice (some ⟨Z + 1, 0, none⟩) n n) by have h0 := g3 1 _ rfl; rw [h0]; show some (Value.slice (some ⟨w1.heap.size, 0, none⟩) n n) = _; rw [S1.out])
      have BZ := Lib.hid (show Below Z w W3 from B1.out.trans (B3.out.mono (by rw [S1.out]; omega)))
      have r3 := Lib.hid (show W3.cell? ⟨Z, 0, none⟩ = some (.int .i64 0) ∧ W3.cell? ⟨Z, 1, none⟩ = some (.slice none 0 0) ∧ W3.frozen? ⟨Z, 0, none⟩ = false ∧ W3.frozen? ⟨Z, 1, none⟩ = false by
        have k : Below (Z + 1) w1 W3 := by have := B3.out; rw [S1.out] at this; exact this
        rw [k.cell (p := ⟨Z, 0, none⟩) (by simp), k.cell (p := ⟨Z, 1, none⟩) (by simp), YteejldddgogbkaaGreatDoor.Below.frozen k (by omega), YteejldddgogbkaaGreatDoor.Below.frozen k (by omega)]
        exact r1.out)
      have hcase : (d = 0 ∧ h = 1) ∨ (0 < d ∧ 8 < d ∧ h = 8) ∨ (0 < d ∧ d ≤ 8 ∧ h = d) := by have := HHE.out; omega
      clear g3 hW3 r1
      rcases hcase with hc | hc | hc
      obtain ⟨x1, x2⟩ := hc
      subst x1
      have HW := Lib.hid (show W3 = (w1.alloc (.cells (madeCells #[.bool false] n) 4)).alloc (.cells #[.int .i64 1, .slice (some ⟨w1.heap.size, 0, none⟩) n n] 43) by rw [HW3.out, x2]; rfl)
      clear x2
      go_upto_region 13 with (fail)
      change Code.wp _ _ _ _ ((w1.alloc (.cells (madeCells #[.bool false] n) 4)).alloc (.cells #[.int .i64 1, .slice (some ⟨w1.heap.size, 0, none⟩) n n] 43))
      rw [← HW.out]
      rotate_left
      obtain ⟨x1, x2, x3⟩ := hc
      have HW := Lib.hid (show W3 = (w1.alloc (.cells (madeCells #[.bool false] n) 4)).alloc (.cells #[.int .i64 8, .slice (some ⟨w1.heap.size, 0, none⟩) n n] 43) by rw [HW3.out, x3]; rfl)
      clear x3
      go_upto_region 13 with (fail)
      change Code.wp _ _ _ _ ((w1.alloc (.cells (madeCells #[.bool false] n) 4)).alloc (.cells #[.int .i64 8, .slice (some ⟨w1.heap.size, 0, none⟩) n n] 43))
      rw [← HW.out]
      rotate_left
      obtain ⟨x1, x2, x3⟩ := hc
      have HW := Lib.hid (show W3 = (w1.alloc (.cells (madeCells #[.bool false] n) 4)).alloc (.cells #[.int .i64 (d : Int), .slice (some ⟨w1.heap.size, 0, none⟩) n n] 43) by rw [HW3.out, x3])
      clear x3
      go_upto_region 13 with (fail)
      change Code.wp _ _ _ _ ((w1.alloc (.cells (madeCells #[.bool false] n) 4)).alloc (.cells #[.int .i64 (d : Int), .slice (some ⟨w1.heap.size, 0, none⟩) n n] 43))
      rw [← HW.out]
      rotate_left
      all_goals
        rw [S1.out]
        clear HW HM hM
        go_wp2_with fail
        go_loopw [8] (fun vi wr => ∃ k : Nat, k ≤ len ∧ vi = .int .i64 k ∧ Hid (RowB (Z + 1) (made h n ((T.take k).map (·.data.toList))) n wr) ∧ Hid (Only (fun j => j = Z + 1) W3 wr)) (fun vi wr => len - (intOf vi).toNat)
        case atStart => exact ⟨0, by omega, rfl, q3, Lib.hid (Only.refl _ _)⟩
        case round =>
          obtain ⟨k, hk, rfl, hrow, hon⟩ := hrel
          have on0 : ∀ j o v, j < Z + 1 + 1 + 1 → j ≠ Z + 1 → W3.cell? ⟨j, o, none⟩ = some v → wr.cell? ⟨j, o, none⟩ = some v := fun j o v h1 h2 h3 => by
            rw [← h3]
            unfold World.cell?
            rw [hon.out.block j (by rw [S3.out]; exact h1) h2]
          have e0 := Lib.hid (on0 _ _ _ (by omega) (by omega) d0.out)
          have e1 := Lib.hid (on0 _ _ _ (by omega) (by omega) d1.out)
          rcases Nat.lt_or_ge k len with hlt | hge
          · have hkT : k < T.length := by rw [← hlen.out]; exact hlt
            have ha : a = some ⟨kb, koff, none⟩ := by rcases hab.out with h | h; (omega); (exact h)
            obtain ⟨t, ht⟩ : ∃ t, t = T.getD k ByteArray.empty := ⟨_, rfl⟩
            have htk : t = T[k] := by rw [ht, List.getD_eq_getElem?_getD, List.getElem?_eq_getElem hkT]; rfl
            have hts := Lib.hid (hs.out t (by rw [htk]; exact List.getElem_mem hkT))
            have hkb := Lib.hid (show kb < Z by rw [HZ.out]; exact (hz.out k hkT).1)
            have cS := Lib.hid (show wr.cell? ⟨kb, koff + k, none⟩ = some (.string t) from on0 _ _ _ (by have := hkb.out; omega) (by have := hkb.out; omega) (by
              rw [BZ.out.cell (p := ⟨kb, koff + k, none⟩) hkb.out, ht]; exact (hz.out k hkT).2))
            have hnx := Lib.hid (show (T.take (k + 1)).map (·.data.toList) = (T.take k).map (·.data.toList) ++ [t.data.toList] by
              rw [List.take_add_one, List.getElem?_eq_getElem hkT, ← htk]
              simp only [Option.toList_some, List.map_append, List.map_cons, List.map_nil])
            have n0 : ∀ m : Seen wr, m.val.cell? ⟨Z + 1 + 1, 0, none⟩ = some (.int .i64 (h : Int)) := fun m => by rw [m.below.cell (cell_block e0.out)]; exact e0.out
            have n1 : ∀ m : Seen wr, m.val.cell? ⟨Z + 1 + 1, 1, none⟩ = some (.slice (some ⟨Z + 1, 0, none⟩) n n) := fun m => by rw [m.below.cell (cell_block e1.out)]; exact e1.out
            have nS : ∀ m : Seen wr, m.val.cell? ⟨kb, koff + k, none⟩ = some (.string t) := fun m => by rw [m.below.cell (cell_block cS.out)]; exact cS.out
            clear ht htk on0
            subst ha
            go_wp2_with fail
            refine wp_region_seen_tail 5 (by kernel_rfl) (by kernel_rfl) ?_
            simp only [List.take_succ_cons, List.take_zero, List.drop_succ_cons, List.drop_zero]
            repeat go_big_quiet_step (fail)
            refine wpQuiet_nil ?_
            rintro _ ⟨m1, rfl⟩
            have hbc := ref_bits h (Z + 1) n n t m1.val hh8.2 (by omega) (by omega) (by have := hts.out; omega)
            unfold fv at hbc
            have HBC := Lib.hid hbc
            clear hbc
            go_wp2_with fail
            refine HBC.out.mono ?_
            rintro e w5 ⟨v, rfl, hO, hB5⟩
            obtain ⟨l, hl⟩ : ∃ l, l = nos h n t.data.toList := ⟨_, rfl⟩
            rw [← hl] at hO
            have hlh : l.length = h := by rw [hl]; exact nos_len _ _ _
            have hlN := Lib.hid (show ∀ j, j < h → l.getD j 0 < n from fun j hj => by
              have hm2 : l.getD j 0 ∈ nos h n t.data.toList := hl ▸ (by rw [List.getD_eq_getElem?_getD, List.getElem?_eq_getElem (by omega)]; exact List.getElem_mem (by omega))
              exact nos_lt (by omega) hm2)
            obtain ⟨gl, cl, rfl, hgB, hgl⟩ := hO.form hlh hh8.1
            have hcell := Lib.hid hO.cell
            have hgl2 := Lib.hid (show Z + 1 + 1 + 1 ≤ gl from Nat.le_trans (by rw [← S3.out]; exact hon.out.size) (Nat.le_trans m1.below.size hgB))
            have HL := Lib.hid hl
            have Hlh := Lib.hid hlh
            have K5 := Lib.hid (show Below wr.heap.size wr w5 from m1.below.trans (hB5.mono m1.below.size))
            have row5 := Lib.hid (hrow.out.below K5.out)
            have f1 := Lib.hid (show w5.cell? ⟨Z + 1 + 1, 1, none⟩ = some (.slice (some ⟨Z + 1, 0, none⟩) n n) by rw [K5.out.cell (cell_block e1.out)]; exact e1.out)
            obtain ⟨f0, hf0⟩ : ∃ f0, f0 = made h n ((T.take k).map (·.data.toList)) := ⟨_, rfl⟩
            rw [← hf0] at row5
            have Hf0 := Lib.hid hf0
            clear hO hl hlh hB5 hgB hgl n0 n1 nS hf0
            go_wp2_with fail
            go_loopw [10] (fun vj wq => ∃ j : Nat, j ≤ h ∧ vj = .int .i64 j ∧ Hid (RowB (Z + 1) (addBits f0 (l.take j)) n wq) ∧ Hid (Only (fun i => i = Z + 1) w5 wq)) (fun vj wq => h - (intOf vj).toNat)
            case atStart => exact ⟨0, by omega, rfl, row5, Lib.hid (Only.refl _ _)⟩
            case round =>
              obtain ⟨j, hj, rfl, hrj, hoj⟩ := hrel
              have ong : ∀ b o v, b ≠ Z + 1 → w5.cell? ⟨b, o, none⟩ = some v → wr.cell? ⟨b, o, none⟩ = some v := fun b o v h2 h3 => by
                rw [← h3]
                unfold World.cell?
                rw [hoj.out.block b (cell_block h3) h2]
              rcases Nat.lt_or_ge j h with hjh | hjh
              · obtain ⟨x, hx⟩ : ∃ x, x = l.getD j 0 := ⟨_, rfl⟩
                have hxN : x < n := by rw [hx]; exact hlN.out j hjh
                have i1 := Lib.hid (ong _ _ _ (by omega) f1.out)
                have i2 := Lib.hid (show wr.cell? ⟨gl, j, none⟩ = some (.int .i64 (x : Int)) by
                  have h3 := hcell.out j (by rw [Hlh.out]; exact hjh)
                  rw [← hx] at h3
                  exact ong _ _ _ (by have := hgl2.out; omega) h3)
                have i3 := Lib.hid (hrj.out.2 x hxN)
                have m1f : ∀ m : Seen wr, m.val.cell? ⟨Z + 1 + 1, 1, none⟩ = some (.slice (some ⟨Z + 1, 0, none⟩) n n) := fun m => by rw [m.below.cell (cell_block i1.out)]; exact i1.out
                have m2f : ∀ m : Seen wr, m.val.cell? ⟨gl, j, none⟩ = some (.int .i64 (x : Int)) := fun m => by rw [m.below.cell (cell_block i2.out)]; exact i2.out
                have HNX := Lib.hid (show l.take (j + 1) = l.take j ++ [x] by
                  rw [List.take_add_one, List.getElem?_eq_getElem (by rw [Hlh.out]; exact hjh), hx, List.getD_eq_getElem?_getD, List.getElem?_eq_getElem (by rw [Hlh.out]; exact hjh)]; rfl)
                clear hx ong
                go_wp2_with fail
                refine wp_region_seen_tail 7 (by kernel_rfl) (by kernel_rfl) ?_
                simp only [List.take_succ_cons, List.take_zero, List.drop_succ_cons, List.drop_zero]
                repeat go_big_quiet_step (fail)
                refine wpQuiet_nil ?_
                rintro _ ⟨m2, rfl⟩
                obtain ⟨bx, hbx⟩ : ∃ bx, bx = addBits f0 (l.take j) x := ⟨_, rfl⟩
                have c3 : m2.val.cell? ⟨Z + 1, x, none⟩ = some (.bool bx) := by rw [m2.below.cell (p := ⟨Z + 1, x, none⟩) hrj.out.1, hbx]; exact i3.out.1
                have c3f : m2.val.frozen? ⟨Z + 1, x, none⟩ = false := by rw [YteejldddgogbkaaGreatDoor.Below.frozen m2.below hrj.out.1]; exact i3.out.2
                clear hbx
                go_wp2_with fail
                refine ⟨⟨j + 1, by omega, by go_num, Lib.hid ?_, Lib.hid ?_⟩, by simp [intOf]; omega⟩
                · rw [HNX.out, addBits_snoc]
                  exact (hrj.out.below m2.below).set hxN
                · exact (hoj.out.trans (Only.of_below m2.below (fun i h1 h2 => by omega))).setCell (.inl rfl) _
              · obtain rfl : j = h := by omega
                have hmade := Lib.hid (show addBits f0 (l.take j) = made j n ((T.take (k + 1)).map (·.data.toList)) by
                  rw [List.take_of_length_le (by rw [Hlh.out]; exact Nat.le_refl _), hnx.out, Hf0.out, HL.out, made, made, addKeys_snoc])
                have hrow2 := Lib.hid (show RowB (Z + 1) (made j n ((T.take (k + 1)).map (·.data.toList))) n wr by rw [← hmade.out]; exact hrj.out)
                have hon2 := Lib.hid ((hon.out.trans (Only.of_below K5.out (fun i h1 h2 => by omega))).trans hoj.out)
                clear ong hmade hrj hoj
                go_wp2_with fail
                exact ⟨⟨k + 1, by omega, by go_num, hrow2, hon2⟩, by simp [intOf]; omega⟩
          · obtain rfl : k = len := by omega
            have z0 := Lib.hid (show wr.cell? ⟨Z, 0, none⟩ = some (.int .i64 0) ∧ wr.cell? ⟨Z, 1, none⟩ = some (.slice none 0 0) ∧ wr.frozen? ⟨Z, 0, none⟩ = false ∧ wr.frozen? ⟨Z, 1, none⟩ = false by
              have hb := hon.out.block Z (by rw [S3.out]; omega) (by omega)
              have h1 := r3.out
              unfold World.cell? World.frozen? at h1 ⊢
              rw [hb]
              exact h1)
            have e0' := e0.out
            have e1' := e1.out
            have z0' := z0.out.1
            have z1' := z0.out.2.1
            have z2' := z0.out.2.2.1
            have z3' := z0.out.2.2.2
            clear on0
            have t0 := Lib.hid (show ((wr.setCell ⟨Z, 0, none⟩ (.int .i64 (h : Int))).setCell ⟨Z, 1, none⟩ (.slice (some ⟨Z + 1, 0, none⟩) n n)).cell? ⟨Z, 0, none⟩ = some (.int .i64 (h : Int)) by
              rw [World.cell?_setCell_other _ _ _ _ (by simp), World.cell?_setCell_same' _ _ _ (by rw [z0']; rfl)])
            have t1 := Lib.hid (show ((wr.setCell ⟨Z, 0, none⟩ (.int .i64 (h : Int))).setCell ⟨Z, 1, none⟩ (.slice (some ⟨Z + 1, 0, none⟩) n n)).cell? ⟨Z, 1, none⟩ = some (.slice (some ⟨Z + 1, 0, none⟩) n n) by
              rw [World.cell?_setCell_same' _ _ _ (by rw [World.cell?_setCell_other _ _ _ _ (by simp), z1']; rfl)])
            have tk : Below Z wr ((wr.setCell ⟨Z, 0, none⟩ (.int .i64 (h : Int))).setCell ⟨Z, 1, none⟩ (.slice (some ⟨Z + 1, 0, none⟩) n n)) := ((Below.refl Z wr).setCell (p := ⟨Z, 0, none⟩) (Nat.le_refl _) _).setCell (p := ⟨Z, 1, none⟩) (Nat.le_refl _) _
            have tr := Lib.hid (show RowB (Z + 1) (made h n (T.map (·.data.toList))) n ((wr.setCell ⟨Z, 0, none⟩ (.int .i64 (h : Int))).setCell ⟨Z, 1, none⟩ (.slice (some ⟨Z + 1, 0, none⟩) n n)) by
              have h0 := hrow.out
              rw [List.take_of_length_le (by rw [hlen.out]; exact Nat.le_refl _)] at h0
              refine ⟨Nat.lt_of_lt_of_le h0.1 tk.size, fun j hj => ⟨?_, ?_⟩⟩
              · rw [World.cell?_setCell_other _ _ _ _ (by simp), World.cell?_setCell_other _ _ _ _ (by simp)]; exact (h0.2 j hj).1
              · rw [World.frozen?_setCell, World.frozen?_setCell]; exact (h0.2 j hj).2)
            have tb := Lib.hid (show Below w.heap.size w ((wr.setCell ⟨Z, 0, none⟩ (.int .i64 (h : Int))).setCell ⟨Z, 1, none⟩ (.slice (some ⟨Z + 1, 0, none⟩) n n)) by
              have hb : Below Z W3 wr := hon.out.below (fun j _ e => by omega) (by rw [S3.out]; omega)
              rw [← HZ.out]
              exact (BZ.out.trans hb).trans tk)
            have HZ1 := Lib.hid (show w.heap.size ≤ Z + 1 by rw [← HZ.out]; omega)
            clear tk
            go_wp2_with fail
            exact bodyPost_ret (results_fv rfl _ _ Z (.int .i64 (h : Int)) (.slice (some ⟨Z + 1, 0, none⟩) n n) (.int .i64 0) rfl rfl t0.out t1.out) rfl ⟨Z + 1, rfl, tr.out, HZ1.out, tb.out⟩
end Go.Proofs.YteejldddgogbkaaGreatDoor
/- The document's filter: its bytes. -/
set_option linter.unusedVariables false
set_option maxRecDepth 100000
set_option maxRecDepth 100000
namespace Go.Proofs.YteejldddgogbkaaGreatDoor
open Go.RowKit

theorem part_next (f : Nat → Bool) (q r : Nat) (h : r < 8) : byteOf f q / 2 ^ r = 2 * (byteOf f q / 2 ^ (r + 1)) + (f (8 * q + r)).toNat := by
  have hb := byteOf_bit f q r h
  have h2 : byteOf f q / 2 ^ (r + 1) = byteOf f q / 2 ^ r / 2 := by rw [Nat.pow_succ, Nat.div_div_eq_div_mul]
  rw [h2]
  generalize byteOf f q / 2 ^ r = z at *
  rw [← hb]
  rcases Nat.mod_two_eq_zero_or_one z with h0 | h0
  · rw [h0]; simp; omega
  · rw [h0]; simp; omega
theorem part_lt (f : Nat → Bool) (q r : Nat) : byteOf f q / 2 ^ (r + 1) < 128 := by
  have h1 := byteOf_lt f q
  have h2 : byteOf f q / 2 ^ (r + 1) ≤ byteOf f q / 2 ^ 1 := Nat.div_le_div_left (Nat.pow_le_pow_right (by decide) (by omega)) (by decide)
  omega
theorem part_top (f : Nat → Bool) (q : Nat) : byteOf f q / 2 ^ 8 = 0 := Nat.div_eq_of_lt (byteOf_lt f q)
theorem bytesOf_succ (f : Nat → Bool) (q : Nat) : bytesOf f (q + 1) = bytesOf f q ++ [UInt8.ofNat (byteOf f q)] := by simp [bytesOf, List.range_succ]
theorem byteOf_u8 (f : Nat → Bool) (q : Nat) : (UInt8.ofNat (byteOf f q)).toNat = byteOf f q := by rw [ofNat_toNat]; exact Nat.mod_eq_of_lt (byteOf_lt f q)
theorem Own8.below {B : Nat} {v : Value} {l : List UInt8} {w w' : World} (h : Own8 B v l w) (k : Below w.heap.size w w') : Own8 B v l w' := World.ownsRow.kept (row := none) h ⟨k.os, k.tape, k.output, k.size, fun j hj _ => k.block j hj⟩ (by cases e : v.ownBlock with
  | none => exact .inl rfl
  | some x => exact .inr (by simp))

set_option maxHeartbeats 2000000 in
theorem ref_pack (h g m cap : Nat) (f : Nat → Bool) (w : World) (hr : Hid (RowB g f (m * 8) w)) (hm1 : 1 ≤ m) (hm : m ≤ 100000000) (hh : h ≤ 8) :
    Calls Tryz.prog 36 #[fv h g (m * 8) cap] w fun e w' => e = .returned (.string (bs (packF h (bytesOf f m)))) ∧ Below w.heap.size w w' := by
  obtain ⟨i0, hi, hz0, hz1, hz2⟩ := info_parts info5
  obtain ⟨Z, hZ⟩ : ∃ Z, Z = w.heap.size := ⟨_, rfl⟩
  obtain ⟨N, hN⟩ : ∃ N, N = m * 8 := ⟨_, rfl⟩
  rw [← hN] at hr ⊢
  obtain ⟨w1, hw1⟩ : ∃ w1, w1 = w.alloc (.cells #[.int .i64 (h : Int), .slice (some ⟨g, 0, none⟩) N cap] 43) := ⟨_, rfl⟩
  have B1 := Lib.hid (show Below Z w w1 by rw [hw1, hZ]; exact (Below.refl _ _).alloc (Nat.le_refl _) _)
  have S1 := Lib.hid (show w1.heap.size = Z + 1 by rw [hw1, hZ]; simp)
  have c0 := Lib.hid (show w1.cell? ⟨Z, 0, none⟩ = some (.int .i64 (h : Int)) ∧ w1.cell? ⟨Z, 1, none⟩ = some (.slice (some ⟨g, 0, none⟩) N cap) by
    rw [hw1, hZ, World.cell?_alloc_mark, World.cell?_alloc_mark]; exact ⟨rfl, rfl⟩)
  have hgZ := Lib.hid (show g < Z by rw [hZ]; exact hr.out.1)
  have R1 := Lib.hid (hr.out.keep B1.out hgZ.out)
  have HW1 := Lib.hid hw1
  have HZ := Lib.hid hZ
  have HN := Lib.hid hN
  clear hw1 hZ hN
  rw [← HZ.out]
  unfold fv
  go_enter Tryz.func36, Tryz.ntmps36
  go_upto_region 1 with (fail)
  change Code.wp _ _ _ _ (w.alloc (.cells #[.int .i64 (h : Int), .slice (some ⟨g, 0, none⟩) N cap] 43))
  rw [← HW1.out, ← HZ.out]
  go_wp2_with fail
  go_loopw [3, 4] (fun v vi wr => ∃ q : Nat, q ≤ m ∧ vi = .int .i64 ((8 * q : Nat) : Int) ∧ Hid (Own8 w1.heap.size v (bytesOf f q) wr) ∧ Hid (Below w1.heap.size w1 wr)) (fun v vi wr => N - (intOf vi).toNat)
  case atStart => exact ⟨0, by omega, rfl, Lib.hid (World.ownsRow_nil _ _ _ _), Lib.hid (Below.refl _ _)⟩
  case round =>
    obtain ⟨q, hq, rfl, hO, hB⟩ := hrel
    obtain ⟨i, hi8⟩ : ∃ i, i = 8 * q := ⟨_, rfl⟩
    rw [← hi8]
    have hNm := HN.out
    have e1 := Lib.hid (show wr.cell? ⟨Z, 1, none⟩ = some (.slice (some ⟨g, 0, none⟩) N cap) by rw [hB.out.cell (p := ⟨Z, 1, none⟩) (show Z < w1.heap.size by rw [S1.out]; omega)]; exact c0.out.2)
    have e0 := Lib.hid (show wr.cell? ⟨Z, 0, none⟩ = some (.int .i64 (h : Int)) by rw [hB.out.cell (p := ⟨Z, 0, none⟩) (show Z < w1.heap.size by rw [S1.out]; omega)]; exact c0.out.1)
    have Rr := Lib.hid (R1.out.below hB.out)
    rcases Nat.lt_or_ge q m with hqm | hqm
    · have hiN : i < N := by omega
      have hib : i ≤ 800000000 := by omega
      have e1' := e1.out
      have HI := Lib.hid hi8
      have HNM := Lib.hid hNm
      clear hi8 hNm
      go_wp2_with fail
      go_loop [5, 6] (fun vx vk => ∃ r : Nat, r ≤ 8 ∧ vk = .int .i64 ((r : Int) - 1) ∧ vx = .int .u8 ((byteOf f q / 2 ^ r : Nat) : Int)) (fun vx vk => (intOf vk + 1).toNat)
      case atStart => exact ⟨8, by omega, rfl, by rw [part_top]; rfl⟩
      case round =>
        obtain ⟨r, hr8, rfl, rfl⟩ := hrel
        cases r with
        | zero =>
          have hOl := Lib.hid (bytesOf_len f q)
          have hsz := Lib.hid (show w1.heap.size ≤ wr.heap.size from hB.out.size)
          have hu8 := Lib.hid (byteOf_u8 f q)
          obtain ⟨X, hX⟩ : ∃ X, X = byteOf f q := ⟨_, rfl⟩
          have hX0 : byteOf f q / 2 ^ 0 = X := by rw [hX]; simp
          rw [hX0, show (((0 : Nat) : Int) - 1) = -1 from rfl]
          have HX := Lib.hid hX
          have HIN := Lib.hid (show ((i : Int) + 8) = ((8 * (q + 1) : Nat) : Int) by have := HI.out; omega)
          clear hX hX0
          go_wp2_with (first | (refine wpList_append_own _ rfl (.tmp 29) (.tmp 31) 62 rfl w1.heap.size 5 i0 (.int .u8 0) 1 1 Tryz.underlying62 hi hz0 hz1 hz2 rfl (by decide) u3 (bytesOf f q).length (Lib.byteCells (bytesOf f q)) (by simp [Act.eval, Act.put]) (World.ownsRow.alloc hO.out _) ⟨wr.heap.size, 0, none⟩ 1 1 [.int .u8 (X : Int)] (by simp [Act.eval, Act.put]) rfl (fun j u hj => cell_one_new _ _ _ j u hj) (by simp [Value.oneCell']) (by unfold maxLen; have := hOl.out; omega) (by have := hOl.out; omega) (by have := hsz.out; simp; omega) ?_; intro v3 w3 hown3 hg3 _))
          refine ⟨⟨q + 1, by omega, by rw [← HIN.out], Lib.hid ?_, Lib.hid ?_⟩, ?_⟩
          · rw [bytesOf_succ]
            exact Own8.push (b := UInt8.ofNat (byteOf f q)) hown3 (by rw [hu8.out, HX.out])
          · exact (hB.out.alloc hsz.out _).grown hg3 (by have := hsz.out; simp; omega) (fun j hj => (World.ownsRow.lt hO.out j hj).1)
          · have := HI.out; have := HNM.out; simp [intOf]; omega
        | succ r =>
          have hnx := Lib.hid (part_next f q r (by omega))
          have hlt := part_lt f q r
          obtain ⟨X, hX⟩ : ∃ X, X = byteOf f q / 2 ^ (r + 1) := ⟨_, rfl⟩
          rw [← hX] at hnx hlt ⊢
          obtain ⟨y, hy⟩ : ∃ y, y = f (8 * q + r) := ⟨_, rfl⟩
          rw [← hy] at hnx
          have hcell := (Rr.out.2 (8 * q + r) (by have := HNM.out; omega)).1
          rw [← hy, ← HI.out] at hcell
          have hidx : (((r + 1 : Nat) : Int) - 1) = (r : Int) := by omega
          have hirN : i + r < N := by have := HI.out; have := HNM.out; omega
          rw [hidx]
          have hr7 : r ≤ 7 := by omega
          clear hX hy hidx
          cases y with
          | true =>
            have hnx2 := Lib.hid (show byteOf f q / 2 ^ r = 2 * X + 1 from hnx.out)
            go_wp2_with fail
            go_roundw
            case rel => exact ⟨r, by omega, by go_num, by rw [hnx2.out]; go_num⟩
            case measure => simp [intOf]
          | false =>
            have hnx2 := Lib.hid (show byteOf f q / 2 ^ r = 2 * X from hnx.out)
            go_wp2_with fail
            go_roundw
            case rel => exact ⟨r, by omega, by go_num, by rw [hnx2.out]; go_num⟩
            case measure => simp [intOf]
    · obtain rfl : q = m := by omega
      have hiN : ¬ i < N := by omega
      obtain ⟨gv, cv, rfl, hgvB, hgvl⟩ := Own8.formN hO.out (bytesOf_len f q) (by omega)
      have rowv : Row8 gv (bytesOf f q) wr := ⟨hgvl, fun j hj => by
        have h1 := Own8.cell hO.out j hj
        rw [addr_add, Nat.zero_add] at h1
        refine ⟨by rw [h1, byteAt_get _ j hj], ?_⟩
        have h2 := World.ownsRow.frozenAt (cap := cv) (xs := Lib.byteCells (bytesOf f q)) (by have := hO.out; unfold Own8 at this; rw [bytesOf_len] at this; exact this) j
        exact h2⟩
      have hWh := Lib.hid (fun (W : World) (n : Seen W) => seen_of (ref_Whole (h : Int) · (by omega) (by omega)) W n)
      have hTx := Lib.hid (fun (W : World) (n : Seen W) => seen_of (ref_Text (bs (bytesOf f q)) · (by rw [bs_size, bytesOf_len]; omega)) W n)
      have hcv : ∀ n : Seen wr, (convert 62 9 (.slice (some ⟨gv, 0, none⟩) q cv)).run Tryz.prog n.val = .ok (.string (bs (bytesOf f q))) n.val := fun n => conv_back n.val gv (bytesOf f q) q cv (bytesOf_len f q).symm (rowv.keep n.below hgvl)
      have he0 : ∀ n : Seen wr, n.val.cell? ⟨Z, 0, none⟩ = some (.int .i64 (h : Int)) := fun n => by rw [n.below.cell (cell_block e0.out)]; exact e0.out
      have e1' := e1.out
      have hl1 := (whole_len (n := (h : Int)) (by omega) (by omega)).1
      have hl2 := (whole_len (n := ((bytesOf f q).length : Int)) (by omega) (by rw [bytesOf_len]; omega)).1
      have hlt2 : (text (bytesOf f q)).length ≤ 11 + q := by unfold text; rw [List.length_append, bytesOf_len] at *; omega
      have hsum : ((bs (whole (h : Int))).size : Int) + ((bs (text (bs (bytesOf f q)).data.toList)).size : Int) ≤ 9223372036854775807 := by rw [bs_size, bs_size, bs_list]; omega
      have hcat : bs (whole (h : Int)) ++ bs (text (bs (bytesOf f q)).data.toList) = bs (packF h (bytesOf f q)) := by rw [bs_cat, bs_list, bs_list]; rfl
      have Hhi := Lib.hid hi8
      clear hi8 hl1 hl2 hlt2
      go_wp2_with fail
      refine region_seen (by kernel_rfl) (by kernel_rfl) ?_
      repeat go_big_quiet_step (first | (go_at_call 33; with_reducible exact hWh.out _ _) | (go_at_call 67; with_reducible exact hTx.out _ _))
      refine wpQuiet_nil ?_
      rintro _ ⟨m1, rfl⟩
      go_wp2_with fail
      go_ret
      refine ⟨by first | rfl | exact rets (by rw [hcat]), ?_⟩
      exact B1.out.trans (((hB.out.trans (m1.below.mono hB.out.size))).mono (by rw [S1.out]; omega))
end Go.Proofs.YteejldddgogbkaaGreatDoor
/- Slices of entries that come in. -/
set_option linter.unusedVariables false
set_option maxRecDepth 100000
set_option maxRecDepth 100000
namespace Go.Proofs.YteejldddgogbkaaGreatDoor
open Go.ChangeShapes Go.WideShapes Go.Deep
open Go.RowKit (Below)

/-- What is known of a slice of entries that came in. -/
structure InE (w : World) (a : Option Addr) (len cap : Nat) (T : List Ent) : Prop where
  is : IsE w a len T
  big : len ≤ 9223372036854775807
  room : len ≤ cap
  fit : fitE T
section
variable {H : Type} {enc : TypeId × Value → H} {w : World} {base : Nat} {spare : Nat → Bool} {held : Bool}
/-- A struct of one-cell fields, field by field. -/
theorem fields_read {P : Program} {t : TypeId} {fs : Array Field} {fuel : Nat} {cs : List Value} {x : DataW H × List MemPlace} (hs : P.underlying t = some (.struct fs)) (hone : oneCellFields P fs = true) (hC : P.cellsOf t = fs.size)
    (h : DataW.trod enc P w base spare held fuel t cs = some x) : cs.length = fs.size ∧ ∃ n, ∀ (j : Nat) (f : Field), fs[j]? = some f → ∃ v y, cs[j]? = some v ∧ DataW.trod enc P w base spare held n f.type [v] = some y := by
  obtain ⟨xs, n, _, _, hlen, hxl, hg⟩ := DataW.trod_struct hs h
  refine ⟨hlen.trans hC, n, fun j f hj => ?_⟩
  obtain ⟨ho, hk⟩ := hone_of hone j f hj
  have hjs : j < fs.size := (Array.getElem?_eq_some_iff.1 hj).1
  have hjc : j < cs.length := by omega
  have hjx : j < xs.length := by omega
  have h1 := hg j f hj
  rw [ho, hk, List.getElem?_eq_getElem hjx] at h1
  have h2 : (cs.drop j).take 1 = [cs[j]] := by rw [List.drop_eq_getElem_cons hjc]; rfl
  rw [h2] at h1
  exact ⟨cs[j], xs[j], List.getElem?_eq_getElem hjc, h1⟩
theorem oneE : ∃ fs, Tryz.prog.underlying 49 = some (.struct fs) ∧ oneCellFields Tryz.prog fs = true ∧ Tryz.prog.cellsOf 49 = fs.size ∧ fs.size = 3 ∧ (fs[0]?.map (·.type)) = some 9 ∧ (fs[1]?.map (·.type)) = some 9 ∧ (fs[2]?.map (·.type)) = some 4 := ⟨_, Tryz.underlying49, by kernel_rfl, by kernel_rfl, by kernel_rfl, by kernel_rfl, by kernel_rfl, by kernel_rfl⟩
theorem map_some {α β : Type} {o : Option α} {f : α → β} {b : β} (h : o.map f = some b) : ∃ a, o = some a ∧ f a = b := by
  cases o with
  | none => cases h
  | some a => exact ⟨a, rfl, by injection h⟩
theorem string_field {n : Nat} {v : Value} {y : DataW H × List MemPlace} {t : TypeId} (ht : t = 9) (h : DataW.trod enc Tryz.prog w base spare held n t [v] = some y) : ∃ l : List UInt8, v = .string (bs l) ∧ l.length ≤ 9223372036854775807 := by
  subst ht
  obtain ⟨tx, hv, _, htx⟩ := DataW.trod_string Tryz.underlying9 h
  injection hv with hv _
  refine ⟨tx.data.toList, by rw [hv, bs_eq (s := tx) rfl]; rfl, ?_⟩
  have : tx.data.toList.length = tx.size := by rw [← Lib.size_eq]
  rw [this]
  unfold maxLen at htx
  omega
theorem ent_read {fuel : Nat} {cs : List Value} {x : DataW H × List MemPlace} (h : DataW.trod enc Tryz.prog w base spare held fuel 49 cs = some x) : ∃ e : Ent, cs = e.vals ∧ e.key.length ≤ 9223372036854775807 ∧ e.val.length ≤ 9223372036854775807 := by
  obtain ⟨fs, hs, hone, hC, h3, t0, t1, t2⟩ := oneE
  obtain ⟨hlen, n, hf⟩ := fields_read hs hone hC h
  obtain ⟨f0, e0, g0⟩ := map_some t0
  obtain ⟨f1, e1, g1⟩ := map_some t1
  obtain ⟨f2, e2, g2⟩ := map_some t2
  obtain ⟨v0, y0, c0, r0⟩ := hf 0 f0 e0
  obtain ⟨v1, y1, c1, r1⟩ := hf 1 f1 e1
  obtain ⟨v2, y2, c2, r2⟩ := hf 2 f2 e2
  obtain ⟨k, rfl, hk⟩ := string_field g0 r0
  obtain ⟨u, rfl, hu⟩ := string_field g1 r1
  rw [g2] at r2
  obtain ⟨g, hv, _⟩ := DataW.trod_bool Tryz.underlying4 r2
  injection hv with hv _
  subst hv
  refine ⟨⟨k, u, g⟩, ?_, hk, hu⟩
  match cs, hlen.trans h3 with
  | [x0, x1, x2], _ =>
    simp at c0 c1 c2
    subst c0 c1 c2
    rfl
/-- A slice of entries. -/
theorem ents_read {fuel : Nat} {cs : List Value} {x : DataW H × List MemPlace} (h : DataW.trod enc Tryz.prog w base spare held fuel 22 cs = some x) : ∃ a len cap T, cs = [.slice a len cap] ∧ InE w a len cap T := by
  rcases open_slice Tryz.underlying22 h with ⟨hcs, _⟩ | ⟨a, len, cap, m, n, D, Pl, hcs, _, hl, hm, hmm, _, hi⟩
  · exact ⟨none, 0, 0, [], hcs, IsE.nil _ _, by omega, Nat.le_refl _, fun x hx => by cases hx⟩
  · refine ⟨some a, len, cap, ?_⟩
    have hlm : len ≤ m := by rw [hmm]; split <;> omega
    obtain ⟨fs, _, _, hC, h3, _⟩ := oneE
    have hcell : ∀ i, i < len → ∃ e : Ent, (∀ j, j < 3 → w.cell? ((a.add (i * 3)).add j) = e.vals[j]?) ∧ e.key.length ≤ 9223372036854775807 ∧ e.val.length ≤ 9223372036854775807 := by
      intro i hil
      obtain ⟨cs', hc, ht⟩ := hi i (by omega)
      rw [hC, h3] at hc
      obtain ⟨_, hcl, hat⟩ := World.cells?_some hc
      obtain ⟨e, rfl, he⟩ := ent_read ht
      exact ⟨e, fun j hj => hat j hj, he⟩
    obtain ⟨V, hV⟩ := choose_lt (α := Ent) hcell
    refine ⟨(List.range len).map V, hcs, ?_, by unfold maxLen at hm; omega, hl, fun e he => ?_⟩
    · refine ⟨by simp, ?_⟩
      by_cases h0 : len = 0
      · subst h0
        exact ⟨0, 0, .inl rfl, fun k hk => absurd hk (by simp)⟩
      · obtain ⟨c0, _⟩ := hV 0 (by omega)
        have c00 := c0 0 (by omega)
        have ha : ∃ b off, a = ⟨b, off, none⟩ := by
          obtain ⟨b, off, spot⟩ := a
          have := World.cell?_spot (v := .string (bs (V 0).key)) c00
          have hs : spot = none := by simpa [Addr.add] using this
          subst hs
          exact ⟨b, off, rfl⟩
        obtain ⟨b, off, rfl⟩ := ha
        refine ⟨b, off, .inr rfl, fun k hk => ?_⟩
        have hk' : k < len := by simpa using hk
        obtain ⟨h1, _⟩ := hV k hk'
        have hg : ((List.range len).map V)[k] = V k := by simp
        rw [hg]
        have q0 := h1 0 (by omega)
        have q1 := h1 1 (by omega)
        have q2 := h1 2 (by omega)
        rw [addr_add, addr_add] at q0 q1 q2
        exact ⟨cell_block (v := .string (bs (V k).key)) q0, q0, q1, q2⟩
    · obtain ⟨i, hi, rfl⟩ := List.mem_map.1 he
      exact (hV i (by simpa using hi)).2
end
theorem open_ents {H : Type} {enc : TypeId × Value → H} {W : World} {d : DataW H} {p : List MemPlace} {a : Option Addr} {len cap : Nat} (h : DataW.Trod enc Tryz.prog W 0 (fun _ => true) true 22 (.slice a len cap) d p) : ∃ T, InE W a len cap T := by
  obtain ⟨fuel, hf⟩ := h
  obtain ⟨a', len', cap', T, hcs, hi⟩ := ents_read hf
  simp [Value.cells] at hcs
  obtain ⟨rfl, rfl, rfl⟩ := hcs
  exact ⟨T, hi⟩
end Go.Proofs.YteejldddgogbkaaGreatDoor
