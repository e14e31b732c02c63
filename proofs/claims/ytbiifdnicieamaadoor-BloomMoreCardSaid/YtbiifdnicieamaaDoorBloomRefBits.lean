/- The document's filter: the numbers of a key's bits; has it a key; how many are 1. -/
import Derived.Test.YtbiifdnicieamaaDoorBloomPlain
import Derived.Test.YtbiifdnicieamaaDoorQFirst
import Derived.Test.YtbiifdnicieamaaDoorShaKeys
import Derived.Test.YtbiifdnicieamaaDoorSixAwake
import Derived.Test.YtbiifdnicieamaaDoorSixRefWrites
import Derived.Maps.AppendAt
import Derived.Laws.AppendOwn
import Derived.Deep.Onto
set_option linter.unusedVariables false
set_option maxRecDepth 100000
namespace Go.Proofs.YtbiifdnicieamaaDoor
open Go.RowKit

theorem info3 : (Tryd.prog.info? 3).map (fun i => (i.zero, i.size, i.bytes)) = some (some (.int .i64 0), 1, 8) := by kernel_rfl
/-- A slice of numbers of the call's own. -/
def OwnI (B : Nat) (v : Value) (l : List Nat) (w : World) : Prop := w.ownsRow B 3 1 v l.length (l.map fun x : Nat => Value.int .i64 (x : Int))
theorem OwnI.nil (B : Nat) (w : World) : OwnI B (.slice none 0 0) [] w := World.ownsRow_nil w B 3 1
theorem OwnI.below {B : Nat} {v : Value} {l : List Nat} {w w' : World} (h : OwnI B v l w) (k : Below w.heap.size w w') : OwnI B v l w' := h.kept (row := none) ⟨k.os, k.tape, k.output, k.size, fun j hj _ => k.block j hj⟩ (by cases e : v.ownBlock with
  | none => exact .inl rfl
  | some x => exact .inr (by simp))
theorem OwnI.form {B n : Nat} {v : Value} {l : List Nat} {w : World} (h : OwnI B v l w) (hn : l.length = n) (hl : 0 < n) : ∃ g cap, v = .slice (some ⟨g, 0, none⟩) n cap ∧ B ≤ g ∧ g < w.heap.size := by
  subst hn
  rcases h.2 with ⟨_, h0⟩ | ⟨g, cap, cur, hv, hB, hg, _⟩
  · omega
  · exact ⟨g, cap, hv, hB, (Array.getElem?_eq_some_iff.1 hg).1⟩
theorem OwnI.cell {B g cap n : Nat} {l : List Nat} {w : World} (h : OwnI B (.slice (some ⟨g, 0, none⟩) n cap) l w) : ∀ j, j < l.length → w.cell? ⟨g, j, none⟩ = some (.int .i64 ((l.getD j 0 : Nat) : Int)) := by
  intro j hj
  have h1 := h.cells rfl j (.int .i64 ((l.getD j 0 : Nat) : Int)) (by simp [List.getD_eq_getElem?_getD, hj])
  rw [addr_add, Nat.zero_add] at h1
  exact h1
theorem OwnI.push {B : Nat} {v' : Value} {l : List Nat} {w' : World} {c : Int} {b : Nat} (h : w'.ownsRow B 3 1 v' (l.length + 1) ((l.map fun x : Nat => Value.int .i64 (x : Int)) ++ [.int .i64 c])) (hc : c = (b : Int)) : OwnI B v' (l ++ [b]) w' := by
  unfold OwnI
  have e1 : (l ++ [b]).length = l.length + 1 := by simp
  have e2 : ((l ++ [b]).map fun x : Nat => Value.int .i64 (x : Int)) = (l.map fun x : Nat => Value.int .i64 (x : Int)) ++ [.int .i64 c] := by simp [hc]
  rw [e1, e2]
  exact h

theorem nos_succ (h N : Nat) (k : List UInt8) : nos (h + 1) N k = nos h N k ++ [wordAt (digest k) (4 * h) % N] := by simp [nos, List.range_succ]
theorem digest32 (l : List UInt8) : (digest l).length = 32 := keyOf_len _

/-- A filter of the document's, as a value: so many hashes, the bits in block g. -/
def fv (h g n cap : Nat) : Value := .agg #[.int .i64 (h : Int), .slice (some ⟨g, 0, none⟩) n cap]

set_option maxHeartbeats 2000000 in
theorem ref_bits (h g N cap : Nat) (s : ByteArray) (w : World) (hh : h ≤ 8) (hN : 0 < N) (hN2 : N ≤ 1000000000) (hs : s.size ≤ 1000000) :
    Calls Tryd.prog 20 #[fv h g N cap, .string s] w fun e w' => ∃ v, e = .returned v ∧ OwnI w.heap.size v (nos h N s.data.toList) w' ∧ Below w.heap.size w w' := by
  obtain ⟨i0, hi, hz0, hz1, hz2⟩ := info_parts info3
  obtain ⟨Z, hZ⟩ : ∃ Z, Z = w.heap.size := ⟨_, rfl⟩
  obtain ⟨w1, hw1⟩ : ∃ w1, w1 = w.alloc (.cells #[.int .i64 (h : Int), .slice (some ⟨g, 0, none⟩) N cap] 31) := ⟨_, rfl⟩
  have B1 := Lib.hid (show Below Z w w1 by rw [hw1, hZ]; exact (Below.refl _ _).alloc (Nat.le_refl _) _)
  have S1 := Lib.hid (show w1.heap.size = Z + 1 by rw [hw1, hZ]; simp)
  have c0 := Lib.hid (show w1.cell? ⟨Z, 0, none⟩ = some (.int .i64 (h : Int)) ∧ w1.cell? ⟨Z, 1, none⟩ = some (.slice (some ⟨g, 0, none⟩) N cap) by
    rw [hw1, hZ, World.cell?_alloc_mark, World.cell?_alloc_mark]; exact ⟨rfl, rfl⟩)
  have HW1 := Lib.hid hw1
  have HZ := Lib.hid hZ
  clear hw1 hZ
  rw [← HZ.out]
  unfold fv
  go_enter Tryd.func20, Tryd.ntmps20
  go_wp2_with fail
  rw [← HW1.out, ← HZ.out]
  refine (ref_Sum s w1 hs).mono ?_
  rintro e w2 ⟨rfl, k2⟩
  have k2 := Lib.hid k2
  obtain ⟨dg, hdg⟩ : ∃ dg, dg = digest s.data.toList := ⟨_, rfl⟩
  rw [← hdg]
  have HDG := Lib.hid (show dg.length = 32 by rw [hdg]; exact digest32 _)
  have Hdg := Lib.hid hdg
  obtain ⟨ka, hka⟩ : ∃ x, x = keyA dg := ⟨_, rfl⟩
  have hkv : keyV dg = .agg ka := by rw [hka]; rfl
  rw [hkv]
  have HIA := Lib.hid (show (Tryd.prog.info? 70).map (·.size) = some ka.toList.length by rw [hka]; exact info25 _ HDG.out)
  have HIS := Lib.hid (show (Tryd.prog.info? 70).map (·.size) = some ka.size by rw [hka]; exact info25s _ HDG.out)
  have HON := Lib.hid (show ka.all (·.oneCell') = true by rw [hka]; exact keyA_one _)
  have HTH := Lib.hid (show (w2.alloc (.cells (Array.replicate 32 (.int .u8 0)) 70)).there w2.heap.size 0 ka.size by
    rw [hka, keyA_size, HDG.out]
    exact key_there (key8_new w2 70))
  have HKA := Lib.hid hka
  obtain ⟨W3, hW3⟩ : ∃ W3, W3 = (w2.alloc (.cells (Array.replicate 32 (.int .u8 0)) 70)).setCells w2.heap.size 0 ka.toList := ⟨_, rfl⟩
  have K3 := Lib.hid (show Below w2.heap.size w2 W3 by rw [hW3]; exact below_setCells (Nat.le_refl _) _ _ ((Below.refl _ w2).alloc (Nat.le_refl _) _))
  have KW := Lib.hid (k2.out.trans (K3.out.mono k2.out.size))
  have HR := Lib.hid (show W3.rangeAt w2.heap.size 0 ka.toList by rw [hW3]; exact World.rangeAt_setCells_same _ _ _ _ (by simpa using HTH.out))
  have D3 := Lib.hid (show Z < w2.heap.size ∧ w2.heap.size < W3.heap.size from ⟨by have := k2.out.size; rw [S1.out] at this; omega, by rw [hW3]; have h2 := (below_setCells (Nat.le_refl w2.heap.size) ka.toList 0 ((Below.refl w2.heap.size (w2.alloc (.cells (Array.replicate 32 (.int .u8 0)) 70))))).size; simp at h2; omega⟩)
  have HW3 := Lib.hid hW3
  clear hW3 hka hkv hdg
  go_upto_region 2 with (first | (refine wpList_store_mid rfl 70 (.tmp 5) (.tmp 9) rfl w2.heap.size 0 ka rfl rfl HTH.out HIS.out HON.out ?_))
  change Code.wp _ _ _ _ ((w2.alloc (.cells (Array.replicate 32 (.int .u8 0)) 70)).setCells w2.heap.size 0 ka.toList)
  rw [← HW3.out]
  obtain ⟨D, hD⟩ : ∃ D, D = w2.heap.size := ⟨_, rfl⟩
  rw [← hD] at HR D3 ⊢
  have hz1' : Z < w1.heap.size := by rw [S1.out]; omega
  have d0 := Lib.hid (show W3.cell? ⟨Z, 0, none⟩ = some (.int .i64 (h : Int)) ∧ W3.cell? ⟨Z, 1, none⟩ = some (.slice (some ⟨g, 0, none⟩) N cap) by
    rw [KW.out.cell (p := ⟨Z, 0, none⟩) hz1', KW.out.cell (p := ⟨Z, 1, none⟩) hz1']; exact c0.out)
  have KZ := Lib.hid (show Below Z w W3 from B1.out.trans (KW.out.mono (by omega)))
  have DZ := Lib.hid (show Z < W3.heap.size by have := D3.out; omega)
  clear hD K3 HTH HIS HON HW3 k2 KW hz1'
  go_frame
  go_wp2_with fail
  go_loopw [6, 7] (fun v vi wr => ∃ k : Nat, k ≤ h ∧ vi = .int .i64 k ∧ OwnI W3.heap.size v (nos k N s.data.toList) wr ∧ Below W3.heap.size W3 wr) (fun v vi wr => h - (intOf vi).toNat)
  case atStart => exact ⟨0, by omega, rfl, OwnI.nil _ _, Below.refl _ _⟩
  case round =>
    obtain ⟨k, hkh, rfl, hO, hB⟩ := hrel
    have HO := Lib.hid hO
    have HB := Lib.hid hB
    have e0 : wr.cell? ⟨Z, 0, none⟩ = some (.int .i64 (h : Int)) := by rw [HB.out.cell (p := ⟨Z, 0, none⟩) DZ.out]; exact d0.out.1
    have E1 := Lib.hid (show wr.cell? ⟨Z, 1, none⟩ = some (.slice (some ⟨g, 0, none⟩) N cap) by rw [HB.out.cell (p := ⟨Z, 1, none⟩) DZ.out]; exact d0.out.2)
    clear hO hB
    rcases Nat.lt_or_ge k h with hlt | hge
    · have HRr := Lib.hid (show wr.rangeAt D 0 ka.toList from rangeAt_below HR.out HB.out D3.out.2)
      have HDlt := Lib.hid (show D < wr.heap.size from Nat.lt_of_lt_of_le D3.out.2 HB.out.size)
      obtain ⟨x, hx⟩ : ∃ x, x = wordAt dg (4 * k) := ⟨_, rfl⟩
      have hx32 : x < 4294967296 := by rw [hx]; exact wordAt_lt _ _
      obtain ⟨y, hy⟩ : ∃ y, y = x % N := ⟨_, rfl⟩
      have HNX := Lib.hid (show nos (k + 1) N s.data.toList = nos k N s.data.toList ++ [y] by rw [nos_succ, hy, hx, Hdg.out])
      have hrem : (x : Int).tmod (N : Int) = (y : Int) := by rw [Int.tmod_eq_emod_of_nonneg (by omega), hy, Int.natCast_emod]
      have hrem' : (x : Int) % (N : Int) = (y : Int) := by rw [hy, Int.natCast_emod]
      have hN0 : ¬ ((N : Int) = 0) := by omega
      have hwx : wrap64 (x : Int) = (x : Int) := by unfold wrap64; omega
      obtain ⟨X, hX⟩ : ∃ X : Int, X = (x : Int) := ⟨_, rfl⟩
      rw [← hX] at hrem hrem' hwx
      have hk8 : ((k : Int) % 8).toNat = k := by omega
      have HWD := Lib.hid (fun (W : World) (n : Seen W) => by have h := seen_of (ref_Word dg (k : Int) · (Lib.hid HDG.out) (by omega) (by omega)) W n; rw [hk8, ← hx, ← hX, ← HKA.out] at h; exact h)
      have he1 : ∀ n : Seen wr, n.val.cell? ⟨Z, 1, none⟩ = some (.slice (some ⟨g, 0, none⟩) N cap) := fun n => by rw [n.below.cell (cell_block E1.out)]; exact E1.out
      have Hll := Lib.hid (nos_len k N s.data.toList)
      have hBs := Lib.hid (show W3.heap.size ≤ wr.heap.size from HB.out.size)
      go_wp2_with fail
      clear hx hy hk8 e0 hX hx32
      refine wp_region_first_tail 9 u6 (by kernel_rfl) (by kernel_rfl) (.inl ⟨rfl, fun w => rfl⟩) (fun _ _ _ h => h) ?_
      simp only [List.take_succ_cons, List.take_zero, List.drop_succ_cons, List.drop_zero, Nat.reduceSub]
      go_frame
      (go_big_quiet_want; refine quiet_load_arr 70 (.tmp 5) rfl D 0 rfl ka _ (seen_at HRr.out HDlt.out) Tryd.underlying70 rfl HIA.out ?_; go_big_quiet_on; try go_frame)
      go_big_quiet_step (fail)
      go_big_quiet_step (first | (go_at_call 40; with_reducible exact HWD.out _ _))
      go_big_quiet_step (fail)
      go_big_quiet_step (fail)
      go_big_quiet_step (fail)
      go_big_quiet_step (fail)
      go_big_quiet_step (fail)
      refine wpQuiet_nil ?_
      rintro _ ⟨m1, rfl⟩
      have HOm := Lib.hid (HO.out.below m1.below)
      have hsz := Lib.hid (show W3.heap.size ≤ m1.val.heap.size from Nat.le_trans hBs.out m1.below.size)
      go_wp2_with (first | (refine wpList_append_own _ rfl (.tmp 16) (.tmp 25) 51 rfl W3.heap.size 3 i0 (.int .i64 0) 1 8 Tryd.underlying51 hi hz0 hz1 hz2 rfl (by decide) u6 (nos k N s.data.toList).length ((nos k N s.data.toList).map fun x : Nat => Value.int .i64 (x : Int)) (by simp [Act.eval, Act.put]) (World.ownsRow.alloc HOm.out _) ⟨m1.val.heap.size, 0, none⟩ 1 1 [.int .i64 (y : Int)] (by simp [Act.eval, Act.put]) rfl (fun j u hj => cell_one_new _ _ _ j u hj) (by simp [Value.oneCell']) (by unfold maxLen; have := Hll.out; omega) (by have := Hll.out; omega) (by have := hsz.out; simp; omega) ?_; intro v3 w3 hown3 hg3 _))
      exact ⟨⟨k + 1, by omega, by go_num, by rw [HNX.out]; exact OwnI.push hown3 rfl, HB.out.trans ((((m1.below.mono hBs.out).alloc hsz.out _)).grown hg3 (by have := hsz.out; simp; omega) (fun j hj => (World.ownsRow.lt HOm.out j hj).1))⟩, by simp [intOf]; omega⟩
    · obtain rfl : k = h := by omega
      go_wp2_with fail
      go_ret
      exact ⟨_, rfl, World.ownsRow.mono HO.out (Nat.le_of_lt DZ.out), KZ.out.trans (HB.out.mono (Nat.le_of_lt DZ.out))⟩
end Go.Proofs.YtbiifdnicieamaaDoor
