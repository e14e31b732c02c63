/- The closure that lays bytes into blocks. -/
import Derived.Test.YtbiifdnicieamaaDoorShaMixed
import Derived.Test.YtbiifdnicieamaaDoorShaLayPlain
import Derived.Laws.IdiomCopy
import Derived.Lib.SlBuf
set_option linter.unusedVariables false
set_option maxRecDepth 100000
namespace Go.Proofs.YtbiifdnicieamaaDoor
open Go.RowKit

/-- In block b stand these bytes. -/
def Row8 (b : Nat) (l : List UInt8) (w : World) : Prop := b < w.heap.size ∧ ∀ j, j < l.length → w.cell? ⟨b, j, none⟩ = some (.int .u8 ((byteAt l j : Nat) : Int)) ∧ w.frozen? ⟨b, j, none⟩ = false
theorem row8_new (w : World) (l : List UInt8) (t : TypeId) : Row8 w.heap.size l (w.alloc (.cells (keyA l) t)) := by
  refine ⟨by show w.heap.size < (w.heap.push _).size; simp, fun j hj => ⟨?_, ?_⟩⟩
  · rw [World.cell?_alloc_mark]
    simp [keyA, byteAt, hj, List.getD_eq_getElem?_getD]
  · rw [World.frozen?_alloc_mark]
    simp
theorem row8_zero (w : World) (n : Nat) (t : TypeId) : Row8 w.heap.size (List.replicate n 0) (w.alloc (.cells (Array.replicate n (.int .u8 0)) t)) := by
  have h := row8_new w (List.replicate n 0) t
  have e : keyA (List.replicate n 0) = Array.replicate n (.int .u8 0) := by
    unfold keyA
    rw [List.map_replicate]
    rfl
  rwa [e] at h
theorem Row8.keep {b B : Nat} {l : List UInt8} {w w' : World} (h : Row8 b l w) (k : Below B w w') (hb : b < B) : Row8 b l w' := by
  refine ⟨Nat.lt_of_lt_of_le h.1 k.size, fun j hj => ?_⟩
  rw [k.cell hb, YtbiifdnicieamaaDoor.Below.frozen k hb]
  exact h.2 j hj
theorem Row8.other {b : Nat} {l : List UInt8} {w : World} (h : Row8 b l w) {a : Addr} (ha : a.block ≠ b) (v : Value) : Row8 b l (w.setCell a v) := by
  refine ⟨by simpa using h.1, fun j hj => ?_⟩
  refine ⟨?_, by rw [World.frozen?_setCell]; exact (h.2 j hj).2⟩
  rw [World.cell?_setCell_other w _ _ _ (fun e => ha (by rw [e]))]
  exact (h.2 j hj).1
theorem Row8.putOther {b b' : Nat} {l : List UInt8} {w : World} (h : Row8 b l w) (hne : b' ≠ b) : ∀ (vs : List Value) (o : Nat), Row8 b l (w.setCells b' o vs) := by
  intro vs
  induction vs generalizing w with
  | nil => intro o; exact h
  | cons v vs ih => intro o; exact ih (h.other (a := ⟨b', o, none⟩) hne v) (o + 1)
theorem range8 {b : Nat} {l : List UInt8} {w : World} (h : Row8 b l w) : w.rangeAt b 0 (keyA l).toList := by
  intro j v hj
  have hlt : j < l.length := by
    have := (List.getElem?_eq_some_iff.1 hj).1
    simpa [keyA] using this
  rw [Nat.zero_add, (h.2 j hlt).1, byteAt_get l j hlt]
  simp [keyA] at hj
  obtain ⟨x, hx, rfl⟩ := hj
  have : l[j]'hlt = x := by
    rw [List.getElem?_eq_getElem hlt] at hx
    exact Option.some.inj hx
  rw [this]
theorem there8 {b : Nat} {l : List UInt8} {w : World} (h : Row8 b l w) : w.there b 0 l.length := fun j hj => by
  rw [Nat.zero_add, (h.2 j hj).1]
  exact ⟨rfl, (h.2 j hj).2⟩
def cells8 (x : List UInt8) : List Value := x.map fun b => Value.int .u8 (b.toNat : Int)
theorem cells8_len (x : List UInt8) : (cells8 x).length = x.length := by simp [cells8]
theorem Row8.put {b : Nat} {B : List UInt8} {w : World} (h : Row8 b B w) (hB : B.length = 64) {r : Nat} {x : List UInt8} (hx : r + x.length ≤ 64) : Row8 b (laidB B r x) (w.setCells b r (cells8 x)) := by
  refine ⟨Nat.lt_of_lt_of_le h.1 (below_setCells (Nat.le_refl _) _ _ (Below.refl b w)).size, fun j hj => ⟨?_, by rw [World.frozen?_setCells]; exact (h.2 j (by rw [laidB_len hB hx] at hj; omega)).2⟩⟩
  rw [laidB_len hB hx] at hj
  have h64 : ∀ i, i < 64 → (w.cell? ⟨b, i, none⟩).isSome = true := fun i hi => by rw [(h.2 i (by omega)).1]; rfl
  rw [laidB_at hB hx]
  by_cases hi : r ≤ j ∧ j < r + x.length
  · rw [if_pos hi]
    have hth : w.there b r (cells8 x).length := fun i hi' => by
      rw [cells8_len] at hi'
      exact ⟨h64 _ (by omega), (h.2 (r + i) (by omega)).2⟩
    have := World.rangeAt_setCells_same w b r (cells8 x) hth (j - r) (.int .u8 ((byteAt x (j - r) : Nat) : Int)) (by
      rw [byteAt_get x (j - r) (by omega)]
      unfold cells8
      rw [List.getElem?_map, List.getElem?_eq_getElem (show j - r < x.length by omega)]
      rfl)
    rwa [show r + (j - r) = j by omega] at this
  · rw [if_neg hi, World.cell?_setCells_out _ _ _ _ _ (fun _ _ => by show j < r ∨ r + (cells8 x).length ≤ j; rw [cells8_len]; omega)]
    exact (h.2 j (by omega)).1

/-- 'copy(d, s)' from a string into bytes that are there: as many as fit. -/
theorem run_copy_str (w : World) (dT sT ty elem : TypeId) (b o dLen dCap : Nat) (t : ByteArray)
    (hu : Tryd.prog.underlying dT = some (.slice elem)) (hz : ∀ w, (Go.sizeOf elem).run Tryd.prog w = .ok 1 w) (n : Nat) (hn : n = min t.size dLen)
    (hc : ∀ j, j < n → (w.cell? ⟨b, o + j, none⟩).isSome = true) (hf : ∀ j, j < n → w.frozen? ⟨b, o + j, none⟩ = false) :
    (Builtin.copy_ #[dT, sT] ty #[.slice (some ⟨b, o, none⟩) dLen dCap, .string t]).run Tryd.prog w = .ok (.int .i64 (n : Int)) (w.setCells b o (cells8 (t.data.toList.take n))) := by
  have hmin : Nat.min t.size dLen = n := hn.symm
  have hl0 : t.data.toList.length = t.size := by rw [← Lib.size_eq]
  have hl : (cells8 (t.data.toList.take n)).length = n := by rw [cells8_len, List.length_take, hl0]; omega
  have hst := run_storeCells_cells (P := Tryd.prog) b o (cells8 (t.data.toList.take n)) 0 w (by rw [hl]; simpa using hc) (by rw [hl]; simpa using hf) (by
    intro v hv
    obtain ⟨x, _, rfl⟩ := List.mem_map.1 hv
    rfl)
  have htk : List.take n (List.map (fun b : UInt8 => Value.int IntKind.u8 (b.toNat : Int)) t.data.toList) = cells8 (t.data.toList.take n) := by unfold cells8; rw [List.map_take]
  simp [Builtin.copy_, run_underlying hu, Builtin.lenOf, Builtin.firstCells, hz, hmin]
  rw [htk, hst]
  rfl

theorem len46 : Tryd.prog.arrayLen 90 = 64 := by kernel_rfl
theorem elem46 : Tryd.prog.elem 90 = 5 := by kernel_rfl
/-- An array from a place on. -/
theorem run_slice64 (B r m : Nat) (i : Int) (k : IntKind) (hi : i = (r : Int)) (hr : r < 64) (hm : m = 64 - r) (w : World) : (Instr.sliceAt 90 (.pointer (some ⟨B, 0, none⟩)) (some (.int k i)) none none).run Tryd.prog w = .ok (.slice (some ⟨B, r, none⟩) m m) w := by
  subst hi
  rw [run_sliceAt_array_l w 90 ⟨B, 0, none⟩ (by rw [len46, elem46]; exact arr46) k _ (by omega) (by rw [len46]; omega), elem46, size5]
  simp only [Result.andThen, slicedAt, len46, Int.toNat_natCast, Nat.mul_one]
  rw [if_neg (by omega), addr_add, Nat.zero_add, hm]

def strLen : Value → Nat
  | .string x => x.size
  | _ => 0
/-- What is laid: the block, the count, the state. -/
structure Laid (R T B : Nat) (L : List UInt8) (w : World) : Prop where
  row : ∃ l, Tail L l ∧ Row8 B l w
  num : w.cell? ⟨T, 0, none⟩ = some (.int .u64 ((L.length : Nat) : Int)) ∧ w.frozen? ⟨T, 0, none⟩ = false
  st : Row32 R (blks L (L.length / 64)).list w
  g : Glob w

set_option maxHeartbeats 2000000 in
set_option maxRecDepth 100000 in
theorem sha_lay (K R T B : Nat) (L : List UInt8) (s : ByteArray) (w : World) (hL : L.length + s.size ≤ 1000000) (h : Hid (Laid R T B L w)) (hK : Hid (0 < K ∧ K ≤ R ∧ K ≤ T ∧ K ≤ B ∧ R ≠ T ∧ R ≠ B ∧ T ≠ B)) :
    Calls Tryd.prog 51 #[.string s, .pointer (some ⟨B, 0, none⟩), .pointer (some ⟨T, 0, none⟩), .pointer (some ⟨R, 0, none⟩)] w fun e w' => e = .returned (.tuple #[]) ∧ Laid R T B (L ++ s.data.toList) w' ∧ Below K w w' := by
  have hl0 : s.data.toList.length = s.size := by rw [← Lib.size_eq]
  have HL0 := Lib.hid hl0
  have HLL := Lib.hid hL
  clear hl0 hL
  go_enter Tryd.func51, Tryd.ntmps51
  go_wp2_with fail
  go_loopw [0] (fun v wr => ∃ k : Nat, k ≤ s.size ∧ v = .string (bs (s.data.toList.drop k)) ∧ Laid R T B (L ++ s.data.toList.take k) wr ∧ Below K w wr) (fun v wr => strLen v)
  case atStart => exact ⟨0, by omega, by rw [List.drop_zero, ← bs_eq rfl], by simpa using h.out, Below.refl _ _⟩
  case round =>
    obtain ⟨k, hk, rfl, hla, hbw⟩ := hrel
    have HLA := Lib.hid hla
    have HBW := Lib.hid hbw
    clear hla hbw
    have hdl : (s.data.toList.drop k).length = s.size - k := by rw [List.length_drop, HL0.out]
    by_cases hks : k < s.size
    · obtain ⟨LL, hLL⟩ : ∃ LL, LL = L ++ s.data.toList.take k := ⟨_, rfl⟩
      have hN : LL.length = L.length + k := by rw [hLL, List.length_append, List.length_take, HL0.out]; omega
      rw [← hLL] at HLA
      obtain ⟨⟨l, hT, hR8⟩, ⟨n1, n2⟩, hst, hg⟩ := HLA.out
      obtain ⟨d, hd⟩ : ∃ d, d = bs (s.data.toList.drop k) := ⟨_, rfl⟩
      have hds : d.size = s.size - k := by rw [hd, bs_size, hdl]
      have hdb : d.data.toList = s.data.toList.drop k := by rw [hd, bs_list]
      have hne : d.toList.isEmpty = false := by
        rw [Lib.toList_data, hdb]
        cases hx : s.data.toList.drop k with
        | nil => rw [hx] at hdl; simp at hdl; omega
        | cons _ _ => rfl
      have hne2 : (d.toList == []) = false := by
        rw [Lib.toList_data, hdb]
        cases hx : s.data.toList.drop k with
        | nil => rw [hx] at hdl; simp at hdl; omega
        | cons _ _ => rfl
      rw [← hd]
      obtain ⟨N, hNN⟩ : ∃ N, N = LL.length := ⟨_, rfl⟩
      rw [← hNN] at n1
      obtain ⟨r, hr⟩ : ∃ r, r = N % 64 := ⟨_, rfl⟩
      have hr' : (N : Int) % 64 = (r : Int) := by omega
      have hsl := run_slice64 B r (64 - r) ((N : Int) % 64) .u64 hr' (by omega) rfl
      obtain ⟨m, hm⟩ : ∃ m, m = 64 - r := ⟨_, rfl⟩
      rw [← hm] at hsl
      obtain ⟨n, hn⟩ : ∃ n, n = min d.size m := ⟨_, rfl⟩
      have HR8 := Lib.hid hR8
      have HT := Lib.hid hT
      have HST := Lib.hid hst
      have HG := Lib.hid hg
      have hcp := run_copy_str wr 48 9 3 5 B r m m d Tryd.underlying48 size5 n hn (fun j hj => by rw [(HR8.out.2 (r + j) (by rw [HT.out.1]; omega)).1]; rfl) (fun j hj => (HR8.out.2 (r + j) (by rw [HT.out.1]; omega)).2)
      have HNL := Lib.hid hNN
      have HNK := Lib.hid (show N = L.length + k by omega)
      have HLK := Lib.hid hLL
      have HDK := Lib.hid hdb
      have HDS := Lib.hid hds
      have HN := Lib.hid hn
      have HRN := Lib.hid hr
      have HMR := Lib.hid hm
      have lN : N ≤ 1000000 := by have := HLL.out; omega
      clear hR8 hT hst hg hLL hd hNN hN hdb hds hn hr hm hdl
      have HRI := Lib.hid hr'
      clear hr'
      obtain ⟨x, hx⟩ : ∃ x, x = d.data.toList.take n := ⟨_, rfl⟩
      have hxl : x.length = n := by rw [hx, List.length_take, ← Lib.size_eq]; have := HN.out; omega
      have hrx : r + x.length ≤ 64 := by rw [hxl]; have := HN.out; have := HMR.out; have := HRN.out; omega
      have hn64 : n ≤ 64 := by omega
      have hnd : (n : Int) ≤ (d.size : Int) := by have := HN.out; omega
      have hn0 : 0 < n := by have := HN.out; have := HDS.out; have := HMR.out; have := HRN.out; omega
      rw [← hx] at hcp
      obtain ⟨W1, hW1⟩ : ∃ W1, W1 = wr.setCells B r (cells8 x) := ⟨_, rfl⟩
      obtain ⟨kR, kT, kB1, k1, k2, k3, k4⟩ : 0 < K ∧ K ≤ R ∧ K ≤ T ∧ K ≤ B ∧ R ≠ T ∧ R ≠ B ∧ T ≠ B := hK.out
      have A8 := Lib.hid (show Row8 B (laidB l r x) W1 by rw [hW1]; exact HR8.out.put HT.out.1 hrx)
      have AST := Lib.hid (show Row32 R (blks LL (LL.length / 64)).list W1 by rw [hW1]; exact row32_putOther HST.out (fun e => k3 e.symm) _ _)
      have ABW := Lib.hid (show Below K w W1 by rw [hW1]; exact below_setCells k1 _ _ HBW.out)
      have AG := Lib.hid (show Glob W1 by rw [hW1]; exact HG.out.keep (below_setCells k1 (cells8 x) r (Below.refl K wr)) kR)
      have a1 : W1.cell? ⟨T, 0, none⟩ = some (.int .u64 (N : Int)) := by rw [hW1, World.cell?_setCells_out _ _ _ _ _ (fun e _ => absurd e k4)]; exact n1
      have a2 : W1.frozen? ⟨T, 0, none⟩ = false := by rw [hW1, World.frozen?_setCells]; exact n2
      have HXX := Lib.hid hx
      have HXL := Lib.hid hxl
      have HRX := Lib.hid hrx
      obtain ⟨d', hd'⟩ : ∃ d', d' = d.extract n d.size := ⟨_, rfl⟩
      have hex : d.extract n d.size = d' := hd'.symm
      have HD' := Lib.hid (show d' = bs (s.data.toList.drop (k + n)) by
        rw [hd', (take_split (s := d) (n := n) (by omega)).2, HDK.out, List.drop_drop])
      have HD'S := Lib.hid (show d'.size < d.size by rw [HD'.out, bs_size, List.length_drop, HDS.out, HL0.out]; omega)
      obtain ⟨N', hN'⟩ : ∃ N', N' = N + n := ⟨_, rfl⟩
      have hsum : (N : Int) + (n : Int) = (N' : Int) := by omega
      have HNN' := Lib.hid hN'
      have HLX := Lib.hid (show LL ++ x = L ++ s.data.toList.take (k + n) by rw [HLK.out, HXX.out, HDK.out, List.append_assoc, List.take_add])
      have HHW := Lib.hid hW1
      clear hx hxl hrx hd' hN' n2 kR kT kB1 k1 k2 k3 k4
      go_upto_region 2 with (with_reducible refine Lib.wpList_copy_run _ rfl (.tmp 10) (.tmp 11) 48 9 rfl (.slice (some ⟨B, r, none⟩) m m) (.string d) rfl rfl hcp ?_)
      rw [← HHW.out]
      clear hcp hsl hW1 n1
      obtain ⟨W2, hW2⟩ : ∃ W2, W2 = W1.setCell ⟨T, 0, none⟩ (.int .u64 (N' : Int)) := ⟨_, rfl⟩
      obtain ⟨kR, kT, kB1, k1, k2, k3, k4⟩ : 0 < K ∧ K ≤ R ∧ K ≤ T ∧ K ≤ B ∧ R ≠ T ∧ R ≠ B ∧ T ≠ B := hK.out
      have B8 := Lib.hid (show Row8 B (laidB l r x) W2 by rw [hW2]; exact A8.out.other k4 _)
      have BST := Lib.hid (show Row32 R (blks LL (LL.length / 64)).list W2 by rw [hW2]; exact AST.out.other (fun e => k2 e.symm) _)
      have BBW := Lib.hid (show Below K w W2 by rw [hW2]; exact ABW.out.setCell (p := ⟨T, 0, none⟩) kB1 _)
      have BG := Lib.hid (show Glob W2 by rw [hW2]; exact AG.out.keep ((Below.refl K W1).setCell (p := ⟨T, 0, none⟩) kB1 _) kR)
      have bn1 := Lib.hid (show W2.cell? ⟨T, 0, none⟩ = some (.int .u64 (N' : Int)) by rw [hW2]; exact World.cell?_setCell_same W1 _ _ a1)
      have bn2 := Lib.hid (show W2.frozen? ⟨T, 0, none⟩ = false by rw [hW2, World.frozen?_setCell]; exact a2)
      have HW2 := Lib.hid hW2
      have hlx : (LL ++ x).length = N' := by rw [List.length_append, HXL.out, HNN'.out, HNL.out]
      have HLXN := Lib.hid hlx
      have hrl : LL.length % 64 = r := by rw [← HNL.out, HRN.out]
      have HRL := Lib.hid hrl
      clear hW2 kR kT kB1 k1 k2 k3 k4 hlx hrl
      by_cases hfull : N' % 64 = 0
      · have hfb : ((N' : Int) % 64 == 0) = true := beq_iff_eq.2 (by omega)
        have htf := tail_full (L := LL) (B := l) (x := x) HT.out (by rw [HRL.out, HXL.out]; have := HNN'.out; have := HRN.out; have := HN.out; have := HMR.out; omega)
        rw [HRL.out, HLXN.out] at htf
        have HTF := Lib.hid htf
        have HOK := Lib.hid (blks_ok LL (LL.length / 64))
        clear htf hfull
        obtain ⟨s0, hs0⟩ : ∃ s0, s0 = blks LL (LL.length / 64) := ⟨_, rfl⟩
        rw [← hs0] at BST HTF HOK
        have HS0 := Lib.hid hs0
        clear hs0
        obtain ⟨l2, hl2⟩ : ∃ l2, l2 = laidB l r x := ⟨_, rfl⟩
        rw [← hl2] at B8 HTF
        clear hl2
        have hlen2 : l2.length = 64 := HTF.out.1.1
        have HL2 := Lib.hid hlen2
        have H45 := Lib.hid (show (Tryd.prog.info? 89).map (·.size) = some (words32 s0.list).toList.length by simpa [words32, show s0.list.length = 8 from rfl] using info45)
        have H46 := Lib.hid (show (Tryd.prog.info? 90).map (·.size) = some (keyA l2).toList.length by simpa [keyA, hlen2] using info46)
        have HRA := Lib.hid (range32 BST.out)
        have HRB := Lib.hid (range8 B8.out)
        clear hlen2
        go_upto_region 5 with (fail)
        rw [← HW2.out]
        go_wp2_with (first | (refine wpList_load_mid rfl 89 (.tmp 3) rfl R 0 rfl (words32 s0.list).toList _ HRA.out Tryd.underlying89 rfl H45.out ?_) | (refine wpList_load_mid rfl 90 (.tmp 1) rfl B 0 rfl (keyA l2).toList _ HRB.out Tryd.underlying90 rfl H46.out ?_))
        refine (sha_mixed s0 l2 W2 HOK HL2 BG).mono ?_
        rintro e w3 ⟨rfl, k3⟩
        obtain ⟨s1, hs1⟩ : ∃ s1, s1 = plus s0 (rnds (sched l2 0 64) s0 64) := ⟨_, rfl⟩
        have hblk := HTF.out.2
        rw [← hs1] at hblk
        rw [← hs1]
        have HBLK := Lib.hid hblk
        obtain ⟨kR, kT, kB1, k1, k2, k4, k5⟩ : 0 < K ∧ K ≤ R ∧ K ≤ T ∧ K ≤ B ∧ R ≠ T ∧ R ≠ B ∧ T ≠ B := hK.out
        have hR := BST.out.1
        have hB := B8.out.1
        have hT := (World.block_lt_of_cell? W2 ⟨T, 0, none⟩ bn1.out)
        have C8 := Lib.hid (B8.out.keep k3 hB)
        have CST := Lib.hid (BST.out.keep k3 hR)
        have CG := Lib.hid (BG.out.keep k3 (by omega))
        have CBW := Lib.hid (show Below K w w3 from BBW.out.trans (k3.mono (by omega)))
        have cn1 := Lib.hid (show w3.cell? ⟨T, 0, none⟩ = some (.int .u64 (N' : Int)) by rw [k3.cell hT]; exact bn1.out)
        have cn2 := Lib.hid (show w3.frozen? ⟨T, 0, none⟩ = false by rw [YtbiifdnicieamaaDoor.Below.frozen k3 hT]; exact bn2.out)
        have DTH := Lib.hid (show w3.there R 0 (words32 s1.list).size by rw [words32_size]; exact (there32 CST.out : w3.there R 0 8))
        have D8 := Lib.hid (C8.out.putOther k4 (words32 s1.list).toList 0)
        have DST := Lib.hid (row32_put (m := s1.list) CST.out rfl)
        have DG := Lib.hid (CG.out.keep (below_setCells kT (words32 s1.list).toList 0 (Below.refl K w3)) kR)
        have DBW := Lib.hid (below_setCells kT (words32 s1.list).toList 0 CBW.out)
        have dn1 := Lib.hid (show (w3.setCells R 0 (words32 s1.list).toList).cell? ⟨T, 0, none⟩ = some (.int .u64 (N' : Int)) by rw [World.cell?_setCells_out _ _ _ _ _ (fun e _ => absurd e.symm k2)]; exact cn1.out)
        have dn2 := Lib.hid (show (w3.setCells R 0 (words32 s1.list).toList).frozen? ⟨T, 0, none⟩ = false by rw [World.frozen?_setCells]; exact cn2.out)
        have H45b := Lib.hid (show (Tryd.prog.info? 89).map (·.size) = some (words32 s1.list).size by simpa [words32, show s1.list.length = 8 from rfl] using info45)
        have HON := Lib.hid (words32_one s1.list)
        have hkn : k + n ≤ s.size := by have := HDS.out; omega
        obtain ⟨cs, hcs⟩ : ∃ cs, cs = words32 s1.list := ⟨_, rfl⟩
        rw [← hcs] at DTH D8 DST DG DBW dn1 dn2 H45b HON
        rw [← hcs]
        clear hcs hs1 hblk kR kT kB1 k1 k2 k4 k5 hR hB hT k3 HRA HRB H45 H46
        go_wp2_with (first | (refine wpList_store_mid rfl 89 (.tmp 3) (.tmp 25) rfl R 0 cs rfl rfl DTH.out H45b.out HON.out ?_))
        go_frame
        go_roundw
        case rel => exact ⟨k + n, hkn, by rw [HD'.out], ⟨⟨_, by rw [← HLX.out]; exact HTF.out.1, D8.out⟩, by rw [← HLX.out, HLXN.out]; exact ⟨dn1.out, dn2.out⟩, by rw [← HLX.out, HLXN.out, HBLK.out]; exact DST.out, DG.out⟩, DBW.out⟩
        case measure => simpa [strLen] using HD'S.out
      · have hfb : ((N' : Int) % 64 == 0) = false := beq_eq_false_iff_ne.2 (by omega)
        have htl := tail_less (L := LL) (B := l) (x := x) HT.out (by rw [HRL.out, HXL.out]; have := HNN'.out; have := HRN.out; have := HN.out; have := HMR.out; omega)
        rw [HRL.out, HLXN.out] at htl
        have HTL := Lib.hid htl
        have hkn : k + n ≤ s.size := by have := HDS.out; omega
        clear htl hfull
        go_wp2_with fail
        rw [← HW2.out]
        go_roundw
        case rel => exact ⟨k + n, hkn, by rw [HD'.out], ⟨⟨_, by rw [← HLX.out]; exact HTL.out.1, B8.out⟩, by rw [← HLX.out, HLXN.out]; exact ⟨bn1.out, bn2.out⟩, by rw [← HLX.out, HLXN.out, HTL.out.2]; exact BST.out, BG.out⟩, BBW.out⟩
        case measure => simpa [strLen] using HD'S.out
    · obtain rfl : k = s.size := by omega
      have hnil : s.data.toList.drop s.size = [] := by rw [← HL0.out, List.drop_length]
      rw [hnil]
      have hall : s.data.toList.take s.size = s.data.toList := List.take_of_length_le (by rw [HL0.out]; exact Nat.le_refl _)
      rw [hall] at HLA
      clear hnil hall hdl
      have e1 : (bs []).toList = [] := by rw [Lib.toList_data, bs_list]
      have e2 : (bs []).toList.isEmpty = true := by rw [e1]; rfl
      go_wp2_with fail
      go_end0
      exact ⟨rfl, HLA.out, HBW.out⟩
end Go.Proofs.YtbiifdnicieamaaDoor
