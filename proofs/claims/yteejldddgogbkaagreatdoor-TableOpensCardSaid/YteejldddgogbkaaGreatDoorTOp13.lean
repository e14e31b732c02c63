/- Texts put together: ShaLay, ShaEnd, ShaSum, ShaLaws, ShaKeys -/
import Derived.Test.YteejldddgogbkaaGreatDoorTOp12
import Derived.Laws.IdiomCopy
import Derived.Lib.SlBuf
import Derived.Laws.Slices
import Derived.Lib.Bytealg
/- The closure that lays bytes into blocks. -/
set_option linter.unusedVariables false
set_option maxRecDepth 100000
namespace Go.Proofs.YteejldddgogbkaaGreatDoor
open Go.RowKit

/-- In block b stand these bytes. -/
def Row8 (b : Nat) (l : List UInt8) (w : World) : Prop := b < w.heap.size ∧ ∀ j, j < l.length → w.cell? ⟨b, j, none⟩ = some (.int .u8 ((byteAt l j : Nat) : Int)) ∧ w.frozen? ⟨b, j, none⟩ = false
theorem row8_new (w : World) (l : List UInt8) (t : TypeId) : Row8 w.heap.size l (w.alloc (.cells (keyA l) t)) := by
  refine ⟨by show w.heap.size < (w.heap.push _).size; simp, fun j hj => ⟨?_, ?_⟩⟩
  · rw [World.cell?_alloc_mark]
    simp [keyA, byteAt, hj, List.getD_eq_getElem?_getD]
  · rw [World.frozen?_alloc_mark]
    simp
theorem row8_zero (w : World) (n : Nat) (t : TypeId) : Row8 w.heap.size (List.replicate n 0) (w.alloc (.cells (Array.replicate n (.int .u8 0)) t)) := by
  have h := row8_new w (List.replicate n 0) t
  have e : keyA (List.replicate n 0) = Array.replicate n (.int .u8 0) := by
    unfold keyA
    rw [List.map_replicate]
    rfl
  rwa [e] at h
theorem Row8.keep {b B : Nat} {l : List UInt8} {w w' : World} (h : Row8 b l w) (k : Below B w w') (hb : b < B) : Row8 b l w' := by
  refine ⟨Nat.lt_of_lt_of_le h.1 k.size, fun j hj => ?_⟩
  rw [k.cell hb, YteejldddgogbkaaGreatDoor.Below.frozen k hb]
  exact h.2 j hj
theorem Row8.other {b : Nat} {l : List UInt8} {w : World} (h : Row8 b l w) {a : Addr} (ha : a.block ≠ b) (v : Value) : Row8 b l (w.setCell a v) := by
  refine ⟨by simpa using h.1, fun j hj => ?_⟩
  refine ⟨?_, by rw [World.frozen?_setCell]; exact (h.2 j hj).2⟩
  rw [World.cell?_setCell_other w _ _ _ (fun e => ha (by rw [e]))]
  exact (h.2 j hj).1
theorem Row8.putOther {b b' : Nat} {l : List UInt8} {w : World} (h : Row8 b l w) (hne : b' ≠ b) : ∀ (vs : List Value) (o : Nat), Row8 b l (w.setCells b' o vs) := by
  intro vs
  induction vs generalizing w with
  | nil => intro o; exact h
  | cons v vs ih => intro o; exact ih (h.other (a := ⟨b', o, none⟩) hne v) (o + 1)
theorem range8 {b : Nat} {l : List UInt8} {w : World} (h : Row8 b l w) : w.rangeAt b 0 (keyA l).toList := by
  intro j v hj
  have hlt : j < l.length := by
    have := (List.getElem?_eq_some_iff.1 hj).1
    simpa [keyA] using this
  rw [Nat.zero_add, (h.2 j hlt).1, byteAt_get l j hlt]
  simp [keyA] at hj
  obtain ⟨x, hx, rfl⟩ := hj
  have : l[j]'hlt = x := by
    rw [List.getElem?_eq_getElem hlt] at hx
    exact Option.some.inj hx
  rw [this]
theorem there8 {b : Nat} {l : List UInt8} {w : World} (h : Row8 b l w) : w.there b 0 l.length := fun j hj => by
  rw [Nat.zero_add, (h.2 j hj).1]
  exact ⟨rfl, (h.2 j hj).2⟩
def cells8 (x : List UInt8) : List Value := x.map fun b => Value.int .u8 (b.toNat : Int)
theorem cells8_len (x : List UInt8) : (cells8 x).length = x.length := by simp [cells8]
theorem Row8.put {b : Nat} {B : List UInt8} {w : World} (h : Row8 b B w) (hB : B.length = 64) {r : Nat} {x : List UInt8} (hx : r + x.length ≤ 64) : Row8 b (laidB B r x) (w.setCells b r (cells8 x)) := by
  refine ⟨Nat.lt_of_lt_of_le h.1 (below_setCells (Nat.le_refl _) _ _ (Below.refl b w)).size, fun j hj => ⟨?_, by rw [World.frozen?_setCells]; exact (h.2 j (by rw [laidB_len hB hx] at hj; omega)).2⟩⟩
  rw [laidB_len hB hx] at hj
  have h64 : ∀ i, i < 64 → (w.cell? ⟨b, i, none⟩).isSome = true := fun i hi => by rw [(h.2 i (by omega)).1]; rfl
  rw [laidB_at hB hx]
  by_cases hi : r ≤ j ∧ j < r + x.length
  · rw [if_pos hi]
    have hth : w.there b r (cells8 x).length := fun i hi' => by
      rw [cells8_len] at hi'
      exact ⟨h64 _ (by omega), (h.2 (r + i) (by omega)).2⟩
    have := World.rangeAt_setCells_same w b r (cells8 x) hth (j - r) (.int .u8 ((byteAt x (j - r) : Nat) : Int)) (by
      rw [byteAt_get x (j - r) (by omega)]
      unfold cells8
      rw [List.getElem?_map, List.getElem?_eq_getElem (show j - r < x.length by omega)]
      rfl)
    rwa [show r + (j - r) = j by omega] at this
  · rw [if_neg hi, World.cell?_setCells_out _ _ _ _ _ (fun _ _ => by show j < r ∨ r + (cells8 x).length ≤ j; rw [cells8_len]; omega)]
    exact (h.2 j (by omega)).1

/-- 'copy(d, s)' from a string into bytes that are there: as many as fit. -/
theorem run_copy_str (w : World) (dT sT ty elem : TypeId) (b o dLen dCap : Nat) (t : ByteArray)
    (hu : Tryz.prog.underlying dT = some (.slice elem)) (hz : ∀ w, (Go.sizeOf elem).run Tryz.prog w = .ok 1 w) (n : Nat) (hn : n = min t.size dLen)
    (hc : ∀ j, j < n → (w.cell? ⟨b, o + j, none⟩).isSome = true) (hf : ∀ j, j < n → w.frozen? ⟨b, o + j, none⟩ = false) :
    (Builtin.copy_ #[dT, sT] ty #[.slice (some ⟨b, o, none⟩) dLen dCap, .string t]).run Tryz.prog w = .ok (.int .i64 (n : Int)) (w.setCells b o (cells8 (t.data.toList.take n))) := by
  have hmin : Nat.min t.size dLen = n := hn.symm
  have hl0 : t.data.toList.length = t.size := by rw [← Lib.size_eq]
  have hl : (cells8 (t.data.toList.take n)).length = n := by rw [cells8_len, List.length_take, hl0]; omega
  have hst := run_storeCells_cells (P := Tryz.prog) b o (cells8 (t.data.toList.take n)) 0 w (by rw [hl]; simpa using hc) (by rw [hl]; simpa using hf) (by
    intro v hv
    obtain ⟨x, _, rfl⟩ := List.mem_map.1 hv
    rfl)
  have htk : List.take n (List.map (fun b : UInt8 => Value.int IntKind.u8 (b.toNat : Int)) t.data.toList) = cells8 (t.data.toList.take n) := by unfold cells8; rw [List.map_take]
  simp [Builtin.copy_, run_underlying hu, Builtin.lenOf, Builtin.firstCells, hz, hmin]
  rw [htk, hst]
  rfl

theorem len46 : Tryz.prog.arrayLen 169 = 64 := by kernel_rfl
theorem elem46 : Tryz.prog.elem 169 = 5 := by kernel_rfl
/-- An array from a place on. -/
theorem run_slice64 (B r m : Nat) (i : Int) (k : IntKind) (hi : i = (r : Int)) (hr : r < 64) (hm : m = 64 - r) (w : World) : (Instr.sliceAt 169 (.pointer (some ⟨B, 0, none⟩)) (some (.int k i)) none none).run Tryz.prog w = .ok (.slice (some ⟨B, r, none⟩) m m) w := by
  subst hi
  rw [run_sliceAt_array_l w 169 ⟨B, 0, none⟩ (by rw [len46, elem46]; exact arr46) k _ (by omega) (by rw [len46]; omega), elem46, size5]
  simp only [Result.andThen, slicedAt, len46, Int.toNat_natCast, Nat.mul_one]
  rw [if_neg (by omega), addr_add, Nat.zero_add, hm]

def strLen : Value → Nat
  | .string x => x.size
  | _ => 0
/-- What is laid: the block, the count, the state. -/
structure Laid (R T B : Nat) (L : List UInt8) (w : World) : Prop where
  row : ∃ l, Tail L l ∧ Row8 B l w
  num : w.cell? ⟨T, 0, none⟩ = some (.int .u64 ((L.length : Nat) : Int)) ∧ w.frozen? ⟨T, 0, none⟩ = false
  st : Row32 R (blks L (L.length / 64)).list w
  g : Glob w

set_option maxHeartbeats 2000000 in
set_option maxRecDepth 100000 in
theorem sha_lay (K R T B : Nat) (L : List UInt8) (s : ByteArray) (w : World) (hL : L.length + s.size ≤ 1000000000000000) (h : Hid (Laid R T B L w)) (hK : Hid (0 < K ∧ K ≤ R ∧ K ≤ T ∧ K ≤ B ∧ R ≠ T ∧ R ≠ B ∧ T ≠ B)) :
    Calls Tryz.prog 104 #[.string s, .pointer (some ⟨B, 0, none⟩), .pointer (some ⟨T, 0, none⟩), .pointer (some ⟨R, 0, none⟩)] w fun e w' => e = .returned (.tuple #[]) ∧ Laid R T B (L ++ s.data.toList) w' ∧ Below K w w' := by
  have hl0 : s.data.toList.length = s.size := by rw [← Lib.size_eq]
  have HL0 := Lib.hid hl0
  have HLL := Lib.hid hL
  clear hl0 hL
  go_enter Tryz.func104, Tryz.ntmps104
  go_wp2_with fail
  go_loopw [0] (fun v wr => ∃ k : Nat, k ≤ s.size ∧ v = .string (bs (s.data.toList.drop k)) ∧ Laid R T B (L ++ s.data.toList.take k) wr ∧ Below K w wr) (fun v wr => strLen v)
  case atStart => exact ⟨0, by omega, by rw [List.drop_zero, ← bs_eq rfl], by simpa using h.out, Below.refl _ _⟩
  case round =>
    obtain ⟨k, hk, rfl, hla, hbw⟩ := hrel
    have HLA := Lib.hid hla
    have HBW := Lib.hid hbw
    clear hla hbw
    have hdl : (s.data.toList.drop k).length = s.size - k := by rw [List.length_drop, HL0.out]
    by_cases hks : k < s.size
    · obtain ⟨LL, hLL⟩ : ∃ LL, LL = L ++ s.data.toList.take k := ⟨_, rfl⟩
      have hN : LL.length = L.length + k := by rw [hLL, List.length_append, List.length_take, HL0.out]; omega
      rw [← hLL] at HLA
      obtain ⟨⟨l, hT, hR8⟩, ⟨n1, n2⟩, hst, hg⟩ := HLA.out
      obtain ⟨d, hd⟩ : ∃ d, d = bs (s.data.toList.drop k) := ⟨_, rfl⟩
      have hds : d.size = s.size - k := by rw [hd, bs_size, hdl]
      have hdb : d.data.toList = s.data.toList.drop k := by rw [hd, bs_list]
      have hne : d.toList.isEmpty = false := by
        rw [Lib.toList_data, hdb]
        cases hx : s.data.toList.drop k with
        | nil => rw [hx] at hdl; simp at hdl; omega
        | cons _ _ => rfl
      have hne2 : (d.toList == []) = false := by
        rw [Lib.toList_data, hdb]
        cases hx : s.data.toList.drop k with
        | nil => rw [hx] at hdl; simp at hdl; omega
        | cons _ _ => rfl
      rw [← hd]
      obtain ⟨N, hNN⟩ : ∃ N, N = LL.length := ⟨_, rfl⟩
      rw [← hNN] at n1
      obtain ⟨r, hr⟩ : ∃ r, r = N % 64 := ⟨_, rfl⟩
      have hr' : (N : Int) % 64 = (r : Int) := by omega
      have hsl := run_slice64 B r (64 - r) ((N : Int) % 64) .u64 hr' (by omega) rfl
      obtain ⟨m, hm⟩ : ∃ m, m = 64 - r := ⟨_, rfl⟩
      rw [← hm] at hsl
      obtain ⟨n, hn⟩ : ∃ n, n = min d.size m := ⟨_, rfl⟩
      have HR8 := Lib.hid hR8
      have HT := Lib.hid hT
      have HST := Lib.hid hst
      have HG := Lib.hid hg
      have hcp := run_copy_str wr 62 9 3 5 B r m m d Tryz.underlying62 size5 n hn (fun j hj => by rw [(HR8.out.2 (r + j) (by rw [HT.out.1]; omega)).1]; rfl) (fun j hj => (HR8.out.2 (r + j) (by rw [HT.out.1]; omega)).2)
      have HNL := Lib.hid hNN
      have HNK := Lib.hid (show N = L.length + k by omega)
      have HLK := Lib.hid hLL
      have HDK := Lib.hid hdb
      have HDS := Lib.hid hds
      have HN := Lib.hid hn
      have HRN := Lib.hid hr
      have HMR := Lib.hid hm
      have lN : N ≤ 1000000000000000 := by have := HLL.out; omega
      clear hR8 hT hst hg hLL hd hNN hN hdb hds hn hr hm hdl
      have HRI := Lib.hid hr'
      clear hr'
      obtain ⟨x, hx⟩ : ∃ x, x = d.data.toList.take n := ⟨_, rfl⟩
      have hxl : x.length = n := by rw [hx, List.length_take, ← Lib.size_eq]; have := HN.out; omega
      have hrx : r + x.length ≤ 64 := by rw [hxl]; have := HN.out; have := HMR.out; have := HRN.out; omega
      have hn64 : n ≤ 64 := by omega
      have hnd : (n : Int) ≤ (d.size : Int) := by have := HN.out; omega
      have hn0 : 0 < n := by have := HN.out; have := HDS.out; have := HMR.out; have := HRN.out; omega
      rw [← hx] at hcp
      obtain ⟨W1, hW1⟩ : ∃ W1, W1 = wr.setCells B r (cells8 x) := ⟨_, rfl⟩
      obtain ⟨kR, kT, kB1, k1, k2, k3, k4⟩ : 0 < K ∧ K ≤ R ∧ K ≤ T ∧ K ≤ B ∧ R ≠ T ∧ R ≠ B ∧ T ≠ B := hK.out
      have A8 := Lib.hid (show Row8 B (laidB l r x) W1 by rw [hW1]; exact HR8.out.put HT.out.1 hrx)
      have AST := Lib.hid (show Row32 R (blks LL (LL.length / 64)).list W1 by rw [hW1]; exact row32_putOther HST.out (fun e => k3 e.symm) _ _)
      have ABW := Lib.hid (show Below K w W1 by rw [hW1]; exact below_setCells k1 _ _ HBW.out)
      have AG := Lib.hid (show Glob W1 by rw [hW1]; exact HG.out.keep (below_setCells k1 (cells8 x) r (Below.refl K wr)) kR)
      have a1 : W1.cell? ⟨T, 0, none⟩ = some (.int .u64 (N : Int)) := by rw [hW1, World.cell?_setCells_out _ _ _ _ _ (fun e _ => absurd e k4)]; exact n1
      have a2 : W1.frozen? ⟨T, 0, none⟩ = false := by rw [hW1, World.frozen?_setCells]; exact n2
      have HXX := Lib.hid hx
      have HXL := Lib.hid hxl
      have HRX := Lib.hid hrx
      obtain ⟨d', hd'⟩ : ∃ d', d' = d.extract n d.size := ⟨_, rfl⟩
      have hex : d.extract n d.size = d' := hd'.symm
      have HD' := Lib.hid (show d' = bs (s.data.toList.drop (k + n)) by
        rw [hd', (take_split (s := d) (n := n) (by omega)).2, HDK.out, List.drop_drop])
      have HD'S := Lib.hid (show d'.size < d.size by rw [HD'.out, bs_size, List.length_drop, HDS.out, HL0.out]; omega)
      obtain ⟨N', hN'⟩ : ∃ N', N' = N + n := ⟨_, rfl⟩
      have hsum : (N : Int) + (n : Int) = (N' : Int) := by omega
      have HNN' := Lib.hid hN'
      have HLX := Lib.hid (show LL ++ x = L ++ s.data.toList.take (k + n) by rw [HLK.out, HXX.out, HDK.out, List.append_assoc, List.take_add])
      have HHW := Lib.hid hW1
      clear hx hxl hrx hd' hN' n2 kR kT kB1 k1 k2 k3 k4
      go_upto_region 2 with (with_reducible refine Lib.wpList_copy_run _ rfl (.tmp 10) (.tmp 11) 62 9 rfl (.slice (some ⟨B, r, none⟩) m m) (.string d) rfl rfl hcp ?_)
      rw [← HHW.out]
      clear hcp hsl hW1 n1
      obtain ⟨W2, hW2⟩ : ∃ W2, W2 = W1.setCell ⟨T, 0, none⟩ (.int .u64 (N' : Int)) := ⟨_, rfl⟩
      obtain ⟨kR, kT, kB1, k1, k2, k3, k4⟩ : 0 < K ∧ K ≤ R ∧ K ≤ T ∧ K ≤ B ∧ R ≠ T ∧ R ≠ B ∧ T ≠ B := hK.out
      have B8 := Lib.hid (show Row8 B (laidB l r x) W2 by rw [hW2]; exact A8.out.other k4 _)
      have BST := Lib.hid (show Row32 R (blks LL (LL.length / 64)).list W2 by rw [hW2]; exact AST.out.other (fun e => k2 e.symm) _)
      have BBW := Lib.hid (show Below K w W2 by rw [hW2]; exact ABW.out.setCell (p := ⟨T, 0, none⟩) kB1 _)
      have BG := Lib.hid (show Glob W2 by rw [hW2]; exact AG.out.keep ((Below.refl K W1).setCell (p := ⟨T, 0, none⟩) kB1 _) kR)
      have bn1 := Lib.hid (show W2.cell? ⟨T, 0, none⟩ = some (.int .u64 (N' : Int)) by rw [hW2]; exact World.cell?_setCell_same W1 _ _ a1)
      have bn2 := Lib.hid (show W2.frozen? ⟨T, 0, none⟩ = false by rw [hW2, World.frozen?_setCell]; exact a2)
      have HW2 := Lib.hid hW2
      have hlx : (LL ++ x).length = N' := by rw [List.length_append, HXL.out, HNN'.out, HNL.out]
      have HLXN := Lib.hid hlx
      have hrl : LL.length % 64 = r := by rw [← HNL.out, HRN.out]
      have HRL := Lib.hid hrl
      clear hW2 kR kT kB1 k1 k2 k3 k4 hlx hrl
      by_cases hfull : N' % 64 = 0
      · have hfb : ((N' : Int) % 64 == 0) = true := beq_iff_eq.2 (by omega)
        have htf := tail_full (L := LL) (B := l) (x := x) HT.out (by rw [HRL.out, HXL.out]; have := HNN'.out; have := HRN.out; have := HN.out; have := HMR.out; omega)
        rw [HRL.out, HLXN.out] at htf
        have HTF := Lib.hid htf
        have HOK := Lib.hid (blks_ok LL (LL.length / 64))
        clear htf hfull
        obtain ⟨s0, hs0⟩ : ∃ s0, s0 = blks LL (LL.length / 64) := ⟨_, rfl⟩
        rw [← hs0] at BST HTF HOK
        have HS0 := Lib.hid hs0
        clear hs0
        obtain ⟨l2, hl2⟩ : ∃ l2, l2 = laidB l r x := ⟨_, rfl⟩
        rw [← hl2] at B8 HTF
        clear hl2
        have hlen2 : l2.length = 64 := HTF.out.1.1
        have HL2 := Lib.hid hlen2
        have H45 := Lib.hid (show (Tryz.prog.info? 168).map (·.size) = some (words32 s0.list).toList.length by simpa [words32, show s0.list.length = 8 from rfl] using info45)
        have H46 := Lib.hid (show (Tryz.prog.info? 169).map (·.size) = some (keyA l2).toList.length by simpa [keyA, hlen2] using info46)
        have HRA := Lib.hid (range32 BST.out)
        have HRB := Lib.hid (range8 B8.out)
        clear hlen2
        go_upto_region 5 with (fail)
        rw [← HW2.out]
        go_wp2_with (first | (refine wpList_load_mid rfl 168 (.tmp 3) rfl R 0 rfl (words32 s0.list).toList _ HRA.out Tryz.underlying168 rfl H45.out ?_) | (refine wpList_load_mid rfl 169 (.tmp 1) rfl B 0 rfl (keyA l2).toList _ HRB.out Tryz.underlying169 rfl H46.out ?_))
        refine (sha_mixed s0 l2 W2 HOK HL2 BG).mono ?_
        rintro e w3 ⟨rfl, k3⟩
        obtain ⟨s1, hs1⟩ : ∃ s1, s1 = plus s0 (rnds (sched l2 0 64) s0 64) := ⟨_, rfl⟩
        have hblk := HTF.out.2
        rw [← hs1] at hblk
        rw [← hs1]
        have HBLK := Lib.hid hblk
        obtain ⟨kR, kT, kB1, k1, k2, k4, k5⟩ : 0 < K ∧ K ≤ R ∧ K ≤ T ∧ K ≤ B ∧ R ≠ T ∧ R ≠ B ∧ T ≠ B := hK.out
        have hR := BST.out.1
        have hB := B8.out.1
        have hT := (World.block_lt_of_cell? W2 ⟨T, 0, none⟩ bn1.out)
        have C8 := Lib.hid (B8.out.keep k3 hB)
        have CST := Lib.hid (BST.out.keep k3 hR)
        have CG := Lib.hid (BG.out.keep k3 (by omega))
        have CBW := Lib.hid (show Below K w w3 from BBW.out.trans (k3.mono (by omega)))
        have cn1 := Lib.hid (show w3.cell? ⟨T, 0, none⟩ = some (.int .u64 (N' : Int)) by rw [k3.cell hT]; exact bn1.out)
        have cn2 := Lib.hid (show w3.frozen? ⟨T, 0, none⟩ = false by rw [YteejldddgogbkaaGreatDoor.Below.frozen k3 hT]; exact bn2.out)
        have DTH := Lib.hid (show w3.there R 0 (words32 s1.list).size by rw [words32_size]; exact (there32 CST.out : w3.there R 0 8))
        have D8 := Lib.hid (C8.out.putOther k4 (words32 s1.list).toList 0)
        have DST := Lib.hid (row32_put (m := s1.list) CST.out rfl)
        have DG := Lib.hid (CG.out.keep (below_setCells kT (words32 s1.list).toList 0 (Below.refl K w3)) kR)
        have DBW := Lib.hid (below_setCells kT (words32 s1.list).toList 0 CBW.out)
        have dn1 := Lib.hid (show (w3.setCells R 0 (words32 s1.list).toList).cell? ⟨T, 0, none⟩ = some (.int .u64 (N' : Int)) by rw [World.cell?_setCells_out _ _ _ _ _ (fun e _ => absurd e.symm k2)]; exact cn1.out)
        have dn2 := Lib.hid (show (w3.setCells R 0 (words32 s1.list).toList).frozen? ⟨T, 0, none⟩ = false by rw [World.frozen?_setCells]; exact cn2.out)
        have H45b := Lib.hid (show (Tryz.prog.info? 168).map (·.size) = some (words32 s1.list).size by simpa [words32, show s1.list.length = 8 from rfl] using info45)
        have HON := Lib.hid (words32_one s1.list)
        have hkn : k + n ≤ s.size := by have := HDS.out; omega
        obtain ⟨cs, hcs⟩ : ∃ cs, cs = words32 s1.list := ⟨_, rfl⟩
        rw [← hcs] at DTH D8 DST DG DBW dn1 dn2 H45b HON
        rw [← hcs]
        clear hcs hs1 hblk kR kT kB1 k1 k2 k4 k5 hR hB hT k3 HRA HRB H45 H46
        go_wp2_with (first | (refine wpList_store_mid rfl 168 (.tmp 3) (.tmp 25) rfl R 0 cs rfl rfl DTH.out H45b.out HON.out ?_))
        go_frame
        go_roundw
        case rel => exact ⟨k + n, hkn, by rw [HD'.out], ⟨⟨_, by rw [← HLX.out]; exact HTF.out.1, D8.out⟩, by rw [← HLX.out, HLXN.out]; exact ⟨dn1.out, dn2.out⟩, by rw [← HLX.out, HLXN.out, HBLK.out]; exact DST.out, DG.out⟩, DBW.out⟩
        case measure => simpa [strLen] using HD'S.out
      · have hfb : ((N' : Int) % 64 == 0) = false := beq_eq_false_iff_ne.2 (by omega)
        have htl := tail_less (L := LL) (B := l) (x := x) HT.out (by rw [HRL.out, HXL.out]; have := HNN'.out; have := HRN.out; have := HN.out; have := HMR.out; omega)
        rw [HRL.out, HLXN.out] at htl
        have HTL := Lib.hid htl
        have hkn : k + n ≤ s.size := by have := HDS.out; omega
        clear htl hfull
        go_wp2_with fail
        rw [← HW2.out]
        go_roundw
        case rel => exact ⟨k + n, hkn, by rw [HD'.out], ⟨⟨_, by rw [← HLX.out]; exact HTL.out.1, B8.out⟩, by rw [← HLX.out, HLXN.out]; exact ⟨bn1.out, bn2.out⟩, by rw [← HLX.out, HLXN.out, HTL.out.2]; exact BST.out, BG.out⟩, BBW.out⟩
        case measure => simpa [strLen] using HD'S.out
    · obtain rfl : k = s.size := by omega
      have hnil : s.data.toList.drop s.size = [] := by rw [← HL0.out, List.drop_length]
      rw [hnil]
      have hall : s.data.toList.take s.size = s.data.toList := List.take_of_length_le (by rw [HL0.out]; exact Nat.le_refl _)
      rw [hall] at HLA
      clear hnil hall hdl
      have e1 : (bs []).toList = [] := by rw [Lib.toList_data, bs_list]
      have e2 : (bs []).toList.isEmpty = true := by rw [e1]; rfl
      go_wp2_with fail
      go_end0
      exact ⟨rfl, HLA.out, HBW.out⟩
end Go.Proofs.YteejldddgogbkaaGreatDoor
/- What stands behind a text, as the program lays it; the digest's bytes. -/
set_option linter.unusedVariables false
set_option maxRecDepth 100000
namespace Go.Proofs.YteejldddgogbkaaGreatDoor
open Go.RowKit

set_option maxHeartbeats 2000000 in
theorem sha_ending (N : Nat) (w : World) (hN : N ≤ 1000000000000000) :
    Calls Tryz.prog 106 #[.int .u64 (N : Int)] w fun e w' => e = .returned (.string (bs (endOf N))) ∧ Below w.heap.size w w' := by
  obtain ⟨i0, hi, hz0, hz1, hz2⟩ := info_parts info5
  have own0 := Lib.hid (World.ownsRow_made (base := w.heap.size) (e := 5) (size := 1) w (Array.replicate 128 (.int .u8 0)) 128 (Nat.le_refl _) (by unfold maxLen; omega) (by simp))
  have K0 := Lib.hid ((Below.refl w.heap.size w).alloc (Nat.le_refl _) (.cells (Array.replicate 128 (.int .u8 0)) 5))
  have hmk : ∀ w, (Instr.makeSlice 62 (.int .i64 0) (.int .i64 128)).run Tryz.prog w = .ok (.slice (some ⟨w.heap.size, 0, none⟩) 0 128) (w.alloc (.cells (Array.replicate 128 (.int .u8 0)) 5)) := fun _ => by kernel_rfl
  go_enter Tryz.func106, Tryz.ntmps106
  go_wp2_with (at_builtin; refine wpList_append_own _ rfl _ _ 62 rfl w.heap.size 5 i0 (.int .u8 0) 1 1 Tryz.underlying62 hi hz0 hz1 hz2 rfl (by decide) _ _ _ rfl (own0.out.alloc _) ⟨w.heap.size + 1, 0, none⟩ 1 1 [.int .u8 128] rfl rfl ?c1 ?c2 ?c3 ?c4 ?c5 ?_)
  case c1 => have h := cell_one_new (w.alloc (.cells (Array.replicate 128 (.int .u8 0)) 5)) (.int .u8 128) 5; simpa using h
  case c2 => intro u hu; simp at hu; subst hu; rfl
  case c3 => unfold maxLen; omega
  case c4 => omega
  case c5 => have := K0.out.size; simp; omega
  intro v2 w2 hown2 hg2 _
  have O2 := Lib.hid (Own8.push (l := []) (b := 128) hown2 rfl)
  have K2 := Lib.hid ((K0.out.alloc K0.out.size _).grown hg2 (by have := K0.out.size; simp; omega) (fun k hk => (own0.out.lt k hk).1))
  clear hown2 hg2 K0 own0 hmk
  go_wp2_with fail
  go_loopw [3] (fun v wr => ∃ z : Nat, z ≤ zerosOf N ∧ Own8 w.heap.size v ([128] ++ List.replicate z 0) wr ∧ Below w.heap.size w wr) (fun v wr => zerosOf N + 1 - sliceLen v)
  case atStart => exact ⟨0, by omega, by simpa using O2.out, K2.out⟩
  case round =>
    obtain ⟨z, hz, hown, hbw⟩ := hrel
    clear O2 K2
    obtain ⟨n, hn⟩ : ∃ n, n = 1 + z := ⟨_, rfl⟩
    have hln : ([128] ++ List.replicate z 0 : List UInt8).length = n := by rw [List.length_append, List.length_replicate, hn]; rfl
    obtain ⟨g, cap, rfl, hBg, hgl⟩ := hown.formN hln (by omega)
    have hZ : zerosOf N = (119 - N % 64) % 64 := rfl
    obtain ⟨Q, hQ⟩ : ∃ Q, Q = N + n := ⟨_, rfl⟩
    have hsum : (N : Int) + (n : Int) = (Q : Int) := by omega
    obtain ⟨L, hL⟩ : ∃ L : List UInt8, L = [128] ++ List.replicate z 0 := ⟨_, rfl⟩
    rw [← hL] at hown hln
    have HO := Lib.hid hown
    have HB := Lib.hid hbw
    have HLN := Lib.hid hln
    have HLD := Lib.hid hL
    have hn100 : n ≤ 100 := by omega
    clear hown hbw hln hL
    by_cases hlt : z < zerosOf N
    · have hne : ((Q : Int) % 64 == 56) = false := beq_eq_false_iff_ne.2 (by omega)
      have HNZ := Lib.hid hn
      have HZ := Lib.hid hZ
      clear hn hZ hQ
      go_wp2_with (at_builtin; refine wpList_append_own _ rfl _ _ 62 rfl w.heap.size 5 i0 (.int .u8 0) 1 1 Tryz.underlying62 hi hz0 hz1 hz2 rfl (by decide) _ _ _ rfl (HO.out.alloc _) ⟨wr.heap.size, 0, none⟩ 1 1 [.int .u8 0] rfl rfl ?e1 ?e2 ?e3 ?e4 ?e5 ?_)
      case e1 => exact cell_one_new _ _ _
      case e2 => intro u hu; simp at hu; subst hu; rfl
      case e3 => unfold maxLen; have := HLN.out; omega
      case e4 => have := HLN.out; omega
      case e5 => have := HB.out.size; simp; omega
      intro v3 w3 hown3 hg3 _
      have O3 := Lib.hid (Own8.push (b := 0) hown3 rfl)
      have K3 := Lib.hid ((HB.out.alloc HB.out.size _).grown hg3 (by have := HB.out.size; simp; omega) (fun k hk => (HO.out.lt k hk).1))
      clear hown3 hg3
      go_wp2_with fail
      go_roundw
      case rel => exact ⟨z + 1, by omega, by rw [List.replicate_succ', ← List.append_assoc, ← HLD.out]; exact O3.out, K3.out⟩
      case measure =>
        obtain ⟨g3, cap3, h3, _⟩ := O3.out.formN (n := n + 1) (by rw [List.length_append, HLN.out]; rfl) (by omega)
        have := HNZ.out
        simp [sliceLen, h3]
        omega
    · obtain rfl : z = zerosOf N := by omega
      have heq : ((Q : Int) % 64 == 56) = true := beq_iff_eq.2 (by omega)
      have HNZ := Lib.hid hn
      have HZ := Lib.hid hZ
      clear hn hZ hQ
      obtain ⟨M, hM⟩ : ∃ M, M = 8 * N := ⟨_, rfl⟩
      have hM' : 8 * (N : Int) = (M : Int) := by omega
      have HM := Lib.hid hM
      clear hM
      go_wp2_with fail
      rw [show ((Q : Int) % 64 != 56) = false by unfold bne; rw [heq]; rfl]
      clear heq hM'
      go_loopw [3, 4, 5] (fun v x i wr => ∃ j : Nat, j ≤ 8 ∧ i = .int .i64 (56 + (j : Int)) ∧ x = .int .u64 ((M * 256 ^ j % 18446744073709551616 : Nat) : Int) ∧ Own8 w.heap.size v (L ++ (len8 M).take j) wr ∧ Below w.heap.size w wr) (fun v x i wr => (64 - intOf i).toNat)
      case atStart => exact ⟨0, by omega, rfl, congrArg (Value.int .u64) (by have := HM.out; omega), by simpa using HO.out, HB.out⟩
      case round =>
        obtain ⟨j, hj, rfl, rfl, hown, hbw⟩ := hrel
        have hln2 : (L ++ (len8 M).take j).length = n + j := by rw [List.length_append, HLN.out, List.length_take]; have : (len8 M).length = 8 := rfl; omega
        obtain ⟨L2, hL2⟩ : ∃ L2, L2 = L ++ (len8 M).take j := ⟨_, rfl⟩
        rw [← hL2] at hown hln2
        have HL2 := Lib.hid hL2
        have HO2 := Lib.hid hown
        have HB2 := Lib.hid hbw
        clear hown hbw HO HB hL2
        have HLN2 := Lib.hid hln2
        obtain ⟨g2, cap2, rfl, _, _⟩ := HO2.out.formN hln2 (by have := HNZ.out; omega)
        clear hln2
        rcases Nat.lt_or_ge j 8 with hj8 | hj8
        · have hmv := moved_byte M j hj8
          have hmn := moved_next M j
          have hql : M * 256 ^ j % 18446744073709551616 < 18446744073709551616 := Nat.mod_lt _ (by decide)
          obtain ⟨X, hX⟩ : ∃ X, X = M * 256 ^ j % 18446744073709551616 := ⟨_, rfl⟩
          rw [← hX] at hmv hmn hql ⊢
          have HMN := Lib.hid hmn
          have HMV := Lib.hid hmv
          have HQL := Lib.hid hql
          clear hmv hmn hX hql
          obtain ⟨b, hb⟩ : ∃ b, b = X / 72057594037927936 := ⟨_, rfl⟩
          have hbl : b < 256 := by have := HQL.out; omega
          have hb1 : (X : Int) / 72057594037927936 = (b : Int) := by omega
          have hb2 : (b : Int) % 256 = (b : Int) := by omega
          have HBV := Lib.hid (show b = M / 256 ^ (7 - j) % 256 by rw [hb]; exact HMV.out)
          clear hb
          go_upto_region 9 with (at_builtin; refine wpList_append_own _ rfl _ _ 62 rfl w.heap.size 5 i0 (.int .u8 0) 1 1 Tryz.underlying62 hi hz0 hz1 hz2 rfl (by decide) _ _ _ rfl (HO2.out.alloc _) ⟨wr.heap.size, 0, none⟩ 1 1 [.int .u8 (b : Int)] rfl rfl ?f1 ?f2 ?f3 ?f4 ?f5 ?_)
          case f1 => exact cell_one_new _ _ _
          case f2 => intro u hu; simp at hu; subst hu; rfl
          case f3 => unfold maxLen; have := HLN2.out; omega
          case f4 => have := HLN2.out; omega
          case f5 => have := HB2.out.size; simp; omega
          intro v3 w3 hown3 hg3 _
          have O3 := Lib.hid (Own8.push (b := UInt8.ofNat (M / 256 ^ (7 - j))) hown3 (by rw [UInt8.toNat_ofNat', HBV.out]))
          have K3 := Lib.hid ((HB2.out.alloc HB2.out.size _).grown hg3 (by have := HB2.out.size; simp; omega) (fun k hk => (HO2.out.lt k hk).1))
          clear hown3 hg3
          go_wp2_with fail
          go_roundw
          case rel =>
            have h8 := len8_get M j hj8
            exact ⟨j + 1, by omega, by go_num, congrArg (Value.int .u64) (by rw [← HMN.out, wrap_u64i]; omega), by rw [h8, ← List.append_assoc, ← HL2.out]; exact O3.out, K3.out⟩
          case measure => simp [intOf]; omega
        · obtain rfl : j = 8 := by omega
          have hcv := run_convert_bytes_back (P := Tryz.prog) wr 62 9 5 ⟨g2, 0, none⟩ cap2 L2 Tryz.underlying62 Tryz.underlying5 Tryz.underlying9 HO2.out.cell
          rw [HLN2.out] at hcv
          have hres : (⟨L2.toArray⟩ : ByteArray) = bs (endOf N) := by
            unfold endOf bs
            rw [HL2.out, ← HLD.out, ← HM.out]
            rfl
          rw [hres] at hcv
          rw [show (56 : Int) + ((8 : Nat) : Int) = 64 from rfl]
          clear hres
          go_wp2
          go_ret
          exact ⟨rfl, HB2.out⟩

theorem shr_byte (x q : Nat) (hq : q < 4) : (x : Int) / 2 ^ (24 - 8 * q) % 256 = ((x / 256 ^ (3 - q) % 256 : Nat) : Int) := by
  have : q = 0 ∨ q = 1 ∨ q = 2 ∨ q = 3 := by omega
  rcases this with rfl | rfl | rfl | rfl <;> simp
theorem info25t (w : World) : True := trivial

set_option maxHeartbeats 1000000 in
set_option maxRecDepth 100000 in
theorem sha_keyOf (s : Eight) (w : World) (hs : Hid s.ok) :
    Calls Tryz.prog 107 #[.agg (words32 s.list)] w fun e w' => e = .returned (.agg (keyA (keyOf s))) ∧ Below w.heap.size w w' := by
  obtain ⟨H, hH⟩ : ∃ H, H = w.heap.size := ⟨_, rfl⟩
  obtain ⟨W2, hW2⟩ : ∃ W2, W2 = ((w.alloc (.cells (words32 s.list) 168)).alloc (.cells (Array.replicate 32 (.int .u8 0)) 145)).alloc (.cells (Array.replicate 32 (.int .u8 0)) 145) := ⟨_, rfl⟩
  have b2 : Below (H + 1) (w.alloc (.cells (words32 s.list) 168)) W2 := by rw [hW2]; exact ((Below.refl _ _).alloc (by rw [hH]; simp) _).alloc (by rw [hH]; simp) _
  have b3 : Below (H + 1 + 1) ((w.alloc (.cells (words32 s.list) 168)).alloc (.cells (Array.replicate 32 (.int .u8 0)) 145)) W2 := by rw [hW2]; exact (Below.refl _ _).alloc (by rw [hH]; simp) _
  have HS := Lib.hid (show Row32 H s.list W2 by
    have h := row32_new w s.list 168
    rw [← hH] at h
    exact h.keep b2 (by omega))
  have HR := Lib.hid (show Key8 (H + 1) (fun _ => 0) W2 by
    have h := key8_new (w.alloc (.cells (words32 s.list) 168)) 145
    rw [show (w.alloc (.cells (words32 s.list) 168)).heap.size = H + 1 by rw [hH]; simp] at h
    exact h.keep b3 (by omega))
  have HK := Lib.hid (show Key8 (H + 1 + 1) (fun _ => 0) W2 by
    have h := key8_new ((w.alloc (.cells (words32 s.list) 168)).alloc (.cells (Array.replicate 32 (.int .u8 0)) 145)) 145
    rw [show ((w.alloc (.cells (words32 s.list) 168)).alloc (.cells (Array.replicate 32 (.int .u8 0)) 145)).heap.size = H + 1 + 1 by rw [hH]; simp] at h
    rw [hW2]
    exact h)
  have HB := Lib.hid (show Below H w W2 by rw [hW2, hH]; exact (((Below.refl _ _).alloc (Nat.le_refl _) _).alloc (by simp) _).alloc (by simp; omega) _)
  have HW2 := Lib.hid hW2
  have HH := Lib.hid hH
  clear b2 b3 hW2 hH
  go_enter Tryz.func107, Tryz.ntmps107
  go_upto_region 2 with (fail)
  change Code.wp _ _ _ _ (((w.alloc (.cells (words32 s.list) 168)).alloc (.cells (Array.replicate 32 (.int .u8 0)) 145)).alloc (.cells (Array.replicate 32 (.int .u8 0)) 145))
  rw [← HW2.out, ← HH.out]
  go_wp2_with fail
  obtain ⟨Kb, hKb⟩ : ∃ x, x = H + 1 + 1 := ⟨_, rfl⟩
  rw [← hKb] at HK ⊢
  have HKB := Lib.hid hKb
  clear hKb
  go_loopw [5] (fun vi wr => ∃ i : Nat, i ≤ 32 ∧ vi = .int .i64 i ∧ Key8 Kb (fun m => if m < i then keyN s m else 0) wr ∧ Row32 H s.list wr ∧ Key8 (H + 1) (fun _ => 0) wr ∧ Below H w wr) (fun vi wr => 32 - (intOf vi).toNat)
  case atStart => exact ⟨0, by omega, rfl, HK.out.same (fun m _ => by rw [if_neg (by omega)]), HS.out, HR.out, HB.out⟩
  case round =>
    obtain ⟨i, hi, rfl, h1, h2, h3, h4⟩ := hrel
    have K1 := Lib.hid h1
    have S1 := Lib.hid h2
    have R1 := Lib.hid h3
    have B1 := Lib.hid h4
    clear h1 h2 h3 h4
    rcases Nat.lt_or_ge i 32 with hi32 | hi32
    · obtain ⟨q, hq⟩ : ∃ q, q = i / 4 := ⟨_, rfl⟩
      obtain ⟨p, hp⟩ : ∃ p, p = i % 4 := ⟨_, rfl⟩
      have eq1 : (i : Int) / 4 = (q : Int) := by omega
      have eq2 : (i : Int) % 4 = (p : Int) := by omega
      have lq : (q : Int) < 8 := by omega
      have hkn := keyN_at s q p (by omega) (by omega)
      rw [show 4 * q + p = i by omega] at hkn
      have c1 := (S1.out.2 q (by show q < 8; omega)).1
      have c2 := (K1.out.2 i hi32).1
      have c3 := (K1.out.2 i hi32).2
      have hx := getD_lt (w := s.list) (by
        obtain ⟨a1, a2, a3, a4, a5, a6, a7, a8⟩ := hs.out
        intro x hx
        simp only [Eight.list, List.mem_cons, List.not_mem_nil, or_false] at hx
        rcases hx with rfl | rfl | rfl | rfl | rfl | rfl | rfl | rfl <;> assumption) q
      generalize s.list.getD q 0 = x at *
      have hsh := shr_byte x p (by omega)
      rw [← hkn] at hsh
      obtain ⟨k, hk⟩ : ∃ k, k = keyN s i := ⟨_, rfl⟩
      rw [← hk] at hsh
      have KS := Lib.hid (K1.out.set (i := i) hi32 k)
      have KS' := Lib.hid (show Key8 Kb (fun m => if m < i + 1 then keyN s m else 0) (wr.setCell ⟨Kb, i, none⟩ (.int .u8 (k : Int))) from KS.out.same (fun m _ => by
        by_cases hm : m = i
        · subst hm; rw [if_pos rfl, if_pos (by omega), hk]
        · rw [if_neg hm]
          by_cases hm2 : m < i
          · rw [if_pos hm2, if_pos (by omega)]
          · rw [if_neg hm2, if_neg (by omega)]))
      have S2 := Lib.hid (S1.out.other (a := ⟨Kb, i, none⟩) (by show Kb ≠ H; have := HKB.out; omega) (.int .u8 (k : Int)))
      have R2 := Lib.hid (R1.out.other (a := ⟨Kb, i, none⟩) (by show Kb ≠ H + 1; have := HKB.out; omega) (.int .u8 (k : Int)))
      have B2 := Lib.hid (B1.out.setCell (p := ⟨Kb, i, none⟩) (by show H ≤ Kb; have := HKB.out; omega) (.int .u8 (k : Int)))
      clear hkn hk hq hp
      go_wp2_with fail
      generalize wr.setCell ⟨Kb, i, none⟩ (.int .u8 (k : Int)) = wz at *
      go_wp2_with fail
      go_roundw
      case rel => exact ⟨i + 1, by omega, by go_num, KS'.out, S2.out, R2.out, B2.out⟩
      case measure => simp [intOf]; omega
    · obtain rfl : i = 32 := by omega
      have hlen := keyOf_len s
      have HRG := Lib.hid (range_of K1.out hlen (fun m hm => by rw [if_pos hm]; rfl))
      have HTH := Lib.hid (show wr.there (H + 1) 0 (keyA (keyOf s)).size by rw [keyA_size, hlen]; exact key_there R1.out)
      have HI := Lib.hid (info25 _ hlen)
      have HIS := Lib.hid (info25s _ hlen)
      have HON := Lib.hid (keyA_one (keyOf s))
      obtain ⟨cs, hcs⟩ : ∃ cs, cs = keyA (keyOf s) := ⟨_, rfl⟩
      rw [← hcs] at HI HIS HRG HTH HON
      have HCS := Lib.hid hcs
      clear hcs hlen
      go_wp2_with (first | (refine wpList_load_mid rfl 145 (.tmp 3) rfl Kb 0 rfl cs.toList _ HRG.out Tryz.underlying145 rfl HI.out ?_) | (refine wpList_store_mid rfl 145 (.tmp 2) (.tmp 21) rfl (H + 1) 0 cs rfl rfl HTH.out HIS.out HON.out ?_))
      refine bodyPost_ret (v := .agg cs) (results_arr rfl _ _ _ (H + 1) cs _ rfl HTH.out Tryz.underlying145 rfl HI.out) rfl ⟨by rw [HCS.out], ?_⟩
      rw [← HH.out]
      exact below_setCells (by omega) _ 0 B1.out
end Go.Proofs.YteejldddgogbkaaGreatDoor
/- The digest, as the program reckons it. -/
set_option linter.unusedVariables false
set_option maxRecDepth 100000
namespace Go.Proofs.YteejldddgogbkaaGreatDoor
open Go.RowKit

theorem laid_none (l : List UInt8) (h : l.length = 64) : Tail [] l := ⟨h, rfl⟩
theorem Laid.keep {R C B K : Nat} {L : List UInt8} {w w' : World} (h : Laid R C B L w) (k : Below K w w') (hR : R < K) (hC : C < K) (hB : B < K) : Laid R C B L w' := by
  obtain ⟨⟨l, hT, h8⟩, ⟨h1, h2⟩, hs, hg⟩ := h
  exact ⟨⟨l, hT, h8.keep k hB⟩, ⟨by rw [k.cell hC]; exact h1, by rw [YteejldddgogbkaaGreatDoor.Below.frozen k hC]; exact h2⟩, hs.keep k hR, hg.keep k (by omega)⟩
/-- What each law hands to the digest. -/
theorem RowS.keepIn {b off B : Nat} {T : List ByteArray} {w w' : World} (h : RowS b off T w) (k : Below B w w') (hb : b < B) : RowS b off T w' := by
  intro i hi
  obtain ⟨h1, h2⟩ := h i hi
  exact ⟨Nat.lt_of_lt_of_le h1 k.size, by rw [k.cell hb]; exact h2⟩

set_option maxHeartbeats 2000000 in
set_option maxRecDepth 100000 in
theorem sha_Sum (a : Option Addr) (b off len cap : Nat) (T : List ByteArray) (w : World) (hlen : Hid (len = T.length)) (hl : len ≤ 9223372036854775807) (hz : Hid (RowS b off T w)) (hs : Hid ((joined T).length ≤ 900000000000000)) (hab : Hid (len = 0 ∨ a = some ⟨b, off, none⟩)) (hg : Hid (Glob w)) :
    Calls Tryz.prog 88 #[.slice a len cap] w fun e w' => e = .returned (.agg (keyA (digest (joined T)))) ∧ Below w.heap.size w w' := by
  obtain ⟨H, hH⟩ : ∃ H, H = w.heap.size := ⟨_, rfl⟩
  obtain ⟨W4, hW4⟩ : ∃ W4, W4 = (((w.alloc (.cells (Array.replicate 32 (.int .u8 0)) 145)).alloc (.cells (words32 start.list) 168)).alloc (.cells (Array.replicate 64 (.int .u8 0)) 169)).alloc (.cells #[.int .u64 0] 125) := ⟨_, rfl⟩
  have e1 : (w.alloc (.cells (Array.replicate 32 (.int .u8 0)) 145)).heap.size = H + 1 := by rw [hH]; simp
  have e2 : ((w.alloc (.cells (Array.replicate 32 (.int .u8 0)) 145)).alloc (.cells (words32 start.list) 168)).heap.size = H + 1 + 1 := by rw [hH]; simp
  have e3 : (((w.alloc (.cells (Array.replicate 32 (.int .u8 0)) 145)).alloc (.cells (words32 start.list) 168)).alloc (.cells (Array.replicate 64 (.int .u8 0)) 169)).heap.size = H + 1 + 1 + 1 := by rw [hH]; simp
  have HB := Lib.hid (show Below H w W4 by rw [hW4, hH]; exact ((((Below.refl _ _).alloc (Nat.le_refl _) _).alloc (by simp) _).alloc (by simp; omega) _).alloc (by simp; omega) _)
  have HRR := Lib.hid (show Key8 H (fun _ => 0) W4 by
    have h := key8_new w 145
    rw [← hH] at h
    have k : Below (H + 1) (w.alloc (.cells (Array.replicate 32 (.int .u8 0)) 145)) W4 := by rw [hW4]; exact (((Below.refl _ _).alloc (by rw [e1]; exact Nat.le_refl _) _).alloc (by rw [e2]; omega) _).alloc (by rw [e3]; omega) _
    exact h.keep k (by omega))
  have HST := Lib.hid (show Row32 (H + 1) start.list W4 by
    have h := row32_new (w.alloc (.cells (Array.replicate 32 (.int .u8 0)) 145)) start.list 168
    rw [e1] at h
    have k : Below (H + 1 + 1) ((w.alloc (.cells (Array.replicate 32 (.int .u8 0)) 145)).alloc (.cells (words32 start.list) 168)) W4 := by rw [hW4]; exact ((Below.refl _ _).alloc (by rw [e2]; exact Nat.le_refl _) _).alloc (by rw [e3]; omega) _
    exact h.keep k (by omega))
  have HBK := Lib.hid (show Row8 (H + 1 + 1) (List.replicate 64 0) W4 by
    have h := row8_zero ((w.alloc (.cells (Array.replicate 32 (.int .u8 0)) 145)).alloc (.cells (words32 start.list) 168)) 64 169
    rw [e2] at h
    have k : Below (H + 1 + 1 + 1) (((w.alloc (.cells (Array.replicate 32 (.int .u8 0)) 145)).alloc (.cells (words32 start.list) 168)).alloc (.cells (Array.replicate 64 (.int .u8 0)) 169)) W4 := by rw [hW4]; exact (Below.refl _ _).alloc (by rw [e3]; exact Nat.le_refl _) _
    exact h.keep k (by omega))
  have HNM := Lib.hid (show W4.cell? ⟨H + 1 + 1 + 1, 0, none⟩ = some (.int .u64 0) ∧ W4.frozen? ⟨H + 1 + 1 + 1, 0, none⟩ = false by
    rw [hW4, ← e3]
    exact ⟨by rw [World.cell?_alloc_mark]; rfl, by rw [World.frozen?_alloc_mark]; simp⟩)
  have HW4 := Lib.hid hW4
  clear e1 e2 e3
  have HH := Lib.hid hH
  clear hH hW4
  go_enter Tryz.func88, Tryz.ntmps88
  go_upto_region 4 with (fail)
  change Code.wp _ _ _ _ ((((w.alloc (.cells (Array.replicate 32 (.int .u8 0)) 145)).alloc (.cells (words32 start.list) 168)).alloc (.cells (Array.replicate 64 (.int .u8 0)) 169)).alloc (.cells #[.int .u64 0] 125))
  rw [← HW4.out, ← HH.out]
  go_wp2_with fail
  obtain ⟨R, hR⟩ : ∃ x, x = H + 1 := ⟨_, rfl⟩
  rw [← hR] at HST HBK HNM ⊢
  obtain ⟨B, hB⟩ : ∃ x, x = R + 1 := ⟨_, rfl⟩
  rw [← hB] at HBK HNM ⊢
  obtain ⟨C, hC⟩ : ∃ x, x = B + 1 := ⟨_, rfl⟩
  rw [← hC] at HNM ⊢
  have HRB := Lib.hid (show H < R ∧ R < B ∧ B < C by omega)
  have HKK := Lib.hid (show 0 < R ∧ R ≤ R ∧ R ≤ C ∧ R ≤ B ∧ R ≠ C ∧ R ≠ B ∧ C ≠ B by omega)
  have H1R := Lib.hid hR
  clear hR hB hC
  have HG4 := Lib.hid (show Glob W4 from hg.out.keep HB.out (by rw [HH.out]; exact hg.out.1))
  have HL0 := Lib.hid (show Laid R C B (joined (T.take 0)) W4 by
    rw [show joined (T.take 0) = [] from rfl]
    exact ⟨⟨List.replicate 64 0, laid_none _ (by simp), HBK.out⟩, HNM.out, HST.out, HG4.out⟩)
  go_loopw [13] (fun vi wr => ∃ k : Nat, k ≤ len ∧ vi = .int .i64 k ∧ Laid R C B (joined (T.take k)) wr ∧ Hid ((joined (T.take k)).length ≤ 900000000000000) ∧ Key8 H (fun _ => 0) wr ∧ Below H w wr) (fun vi wr => len - (intOf vi).toNat)
  case atStart => exact ⟨0, by omega, rfl, HL0.out, Lib.hid (by simp [joined]), HRR.out, HB.out⟩
  case round =>
    obtain ⟨k, hk, rfl, hla, hjl, hky, hbw⟩ := hrel
    have LA := Lib.hid hla
    have KY := Lib.hid hky
    have BW := Lib.hid hbw
    clear hla hky hbw
    by_cases hlt : k < len
    · have hkT : k < T.length := by rw [← hlen.out]; exact hlt
      obtain ⟨hb, c0⟩ := hz.out k hkT
      have c1 : wr.cell? ⟨b, off + k, none⟩ = some (.string (T.getD k ByteArray.empty)) := by rw [BW.out.cell (by rw [HH.out]; exact hb)]; exact c0
      have ha : a = some ⟨b, off, none⟩ := by rcases hab.out with h | h; (omega); (exact h)
      have hnext := joined_next T k hkT
      have hjn : (joined (T.take (k + 1))).length ≤ (joined T).length := by
        unfold joined
        conv => rhs; rw [← List.take_append_drop (k + 1) T, List.flatMap_append, List.length_append]
        omega
      clear hb c0
      generalize T.getD k ByteArray.empty = s at *
      have hsl : s.data.toList.length = s.size := by rw [← Lib.size_eq]
      have HJN := Lib.hid (show (joined (T.take (k + 1))).length ≤ 900000000000000 by have := hs.out; omega)
      have hbd : (joined (T.take k)).length + s.size ≤ 1000000000000000 := by rw [hnext, List.length_append, hsl] at hjn; have := hs.out; omega
      have HNX := Lib.hid hnext
      have HBD := Lib.hid hbd
      clear hnext hjn hbd hsl
      subst ha
      go_wp2_with fail
      refine (sha_lay R R C B (joined (T.take k)) s wr HBD.out LA HKK).mono ?_
      rintro e w5 ⟨rfl, la5, k5⟩
      have LA5 := Lib.hid (show Laid R C B (joined (T.take (k + 1))) w5 by rw [HNX.out]; exact la5)
      have KY5 := Lib.hid (KY.out.keep k5 (by rw [H1R.out]; omega))
      have BW5 := Lib.hid (BW.out.trans (k5.mono (by rw [H1R.out]; omega)))
      clear la5 k5
      go_wp2_with fail
      go_roundw
      case rel => exact ⟨k + 1, by omega, by go_num, LA5.out, HJN, KY5.out, BW5.out⟩
      case measure => simp [intOf]; omega
    · obtain rfl : k = len := by omega
      have hall : T.take k = T := by rw [hlen.out, List.take_length]
      rw [hall] at LA
      have hn1 := LA.out.num.1
      have HNL := Lib.hid (endOf_len (joined T).length)
      obtain ⟨N, hN⟩ : ∃ N, N = (joined T).length := ⟨_, rfl⟩
      rw [← hN] at hn1 HNL
      have HN := Lib.hid hN
      have HN9 := Lib.hid (show N ≤ 900000000000000 by rw [hN]; exact hs.out)
      clear hall hN hjl
      go_wp2_with fail
      have hC : C < wr.heap.size := World.block_lt_of_cell? wr ⟨C, 0, none⟩ hn1
      refine (sha_ending N wr (Nat.le_trans HN9.out (by omega))).mono ?_
      rintro e w5 ⟨rfl, k5⟩
      have hR : R < wr.heap.size := LA.out.st.1
      have hBb : B < wr.heap.size := by obtain ⟨l, _, h8⟩ := LA.out.row; exact h8.1
      have LA5 := Lib.hid (LA.out.keep k5 hR hC hBb)
      have KY5 := Lib.hid (KY.out.keep k5 (by have := HRB.out; omega))
      have BW5 := Lib.hid (BW.out.trans (k5.mono (by have := HRB.out; omega)))
      have HBS := Lib.hid (show (bs (endOf N)).data.toList = endOf N from bs_list _)
      have HBZ := Lib.hid (show (joined T).length + (bs (endOf N)).size ≤ 1000000000000000 by rw [bs_size, ← HN.out]; have := HNL.out; have := HN9.out; omega)
      clear hR hBb hC k5 hn1
      go_wp2_with fail
      refine (sha_lay R R C B (joined T) (bs (endOf N)) w5 HBZ.out LA5 HKK).mono ?_
      rintro e w6 ⟨rfl, la6, k6⟩
      rw [HBS.out, HN.out] at la6
      have KY6 := Lib.hid (KY5.out.keep k6 (by rw [H1R.out]; omega))
      have BW6 := Lib.hid (BW5.out.trans (k6.mono (by rw [H1R.out]; omega)))
      have hst6 := la6.st
      rw [← digestE_all] at hst6
      have HDG := Lib.hid (show digest (joined T) = keyOf (digestE (joined T)) from rfl)
      have HOK := Lib.hid (show (digestE (joined T)).ok from blks_ok _ _)
      have hR6 : R < w6.heap.size := hst6.1
      clear la6 k6
      obtain ⟨s, hs⟩ : ∃ s, s = digestE (joined T) := ⟨_, rfl⟩
      rw [← hs] at hst6 HDG HOK
      clear hs
      have H45 := Lib.hid (show (Tryz.prog.info? 168).map (·.size) = some (words32 s.list).toList.length by simpa [words32, show s.list.length = 8 from rfl] using info45)
      have HRA := Lib.hid (range32 hst6)
      clear hst6
      go_wp2_with (first | (refine wpList_load_mid rfl 168 (.tmp 3) rfl R 0 rfl (words32 s.list).toList _ HRA.out Tryz.underlying168 rfl H45.out ?_))
      refine (sha_keyOf s w6 HOK).mono ?_
      rintro e w7 ⟨rfl, k7⟩
      have KY7 := Lib.hid (KY6.out.keep k7 (by have := HRB.out; omega))
      have BW7 := Lib.hid (BW6.out.trans (k7.mono (by have := HRB.out; omega)))
      have hlen := keyOf_len s
      have HTH := Lib.hid (show w7.there H 0 (keyA (keyOf s)).size by rw [keyA_size, hlen]; exact key_there KY7.out)
      have HI := Lib.hid (info25 _ hlen)
      have HIS := Lib.hid (info25s _ hlen)
      have HON := Lib.hid (keyA_one (keyOf s))
      obtain ⟨cs, hcs⟩ : ∃ cs, cs = keyA (keyOf s) := ⟨_, rfl⟩
      rw [← hcs] at HI HIS HTH HON
      rw [← hcs]
      have HCS := Lib.hid hcs
      clear hcs hlen k7 hR6
      go_wp2_with (first | (refine wpList_store_mid rfl 145 (.tmp 2) (.tmp 26) rfl H 0 cs rfl rfl HTH.out HIS.out HON.out ?_))
      refine bodyPost_ret (v := .agg cs) (results_arr rfl _ _ _ H cs _ rfl HTH.out Tryz.underlying145 rfl HI.out) rfl ⟨by rw [HCS.out, HDG.out], ?_⟩
      rw [← HH.out]
      exact below_setCells (Nat.le_refl _) _ 0 BW7.out
end Go.Proofs.YteejldddgogbkaaGreatDoor
/- Plain mathematics of the statements over keys: one order; words are all of a key; digits tell a key. -/
set_option linter.unusedVariables false
set_option maxRecDepth 100000
namespace Go.Proofs.YteejldddgogbkaaGreatDoor

theorem lessL_trans : ∀ (a b c : List UInt8), a.length = b.length → b.length = c.length → lessL a b = true → lessL b c = true → lessL a c = true
  | [], [], [], _, _, h, _ => h
  | x :: a, y :: b, z :: c, h1, h2, h3, h4 => by
    simp only [lessL] at h3 h4 ⊢
    by_cases hxy : x = y
    · subst hxy
      rw [if_pos rfl] at h3
      by_cases hyz : x = z
      · subst hyz
        rw [if_pos rfl] at h4 ⊢
        exact lessL_trans a b c (by simpa using h1) (by simpa using h2) h3 h4
      · rw [if_neg hyz] at h4 ⊢
        exact h4
    · rw [if_neg hxy] at h3
      have h3 := of_decide_eq_true h3
      by_cases hyz : y = z
      · subst hyz
        rw [if_neg hxy]
        exact decide_eq_true h3
      · rw [if_neg hyz] at h4
        have h4 := of_decide_eq_true h4
        rw [if_neg (fun h => by rw [h] at h3; omega)]
        exact decide_eq_true (by omega)
theorem lessL_two : ∀ (a b : List UInt8), a.length = b.length → lessL a b = false → lessL b a = false → a = b
  | [], [], _, _, _ => rfl
  | x :: a, y :: b, h1, h2, h3 => by
    simp only [lessL] at h2 h3
    by_cases hxy : x = y
    · subst hxy
      rw [if_pos rfl] at h2 h3
      rw [lessL_two a b (by simpa using h1) h2 h3]
    · rw [if_neg hxy] at h2
      rw [if_neg (fun h => hxy h.symm)] at h3
      have h2 := of_decide_eq_false h2
      have h3 := of_decide_eq_false h3
      exact absurd (UInt8.toNat_inj.1 (by omega)) hxy
theorem lessL_iff (a b : List UInt8) (h : a.length = b.length) : (a = b) ↔ (lessL a b = false ∧ lessL b a = false) :=
  ⟨fun e => by subst e; exact ⟨lessL_same _, lessL_same _⟩, fun e => lessL_two a b h e.1 e.2⟩

theorem word_bytes {a b : List UInt8} {o : Nat} (h : wordAt a o = wordAt b o) : ∀ j, j < 4 → byteAt a (o + j) = byteAt b (o + j) := by
  have h1 := byteAt_lt a o
  have h2 := byteAt_lt a (o + 1)
  have h3 := byteAt_lt a (o + 2)
  have h4 := byteAt_lt a (o + 3)
  have g1 := byteAt_lt b o
  have g2 := byteAt_lt b (o + 1)
  have g3 := byteAt_lt b (o + 2)
  have g4 := byteAt_lt b (o + 3)
  unfold wordAt at h
  intro j hj
  have : j = 0 ∨ j = 1 ∨ j = 2 ∨ j = 3 := by omega
  rcases this with rfl | rfl | rfl | rfl
  · rw [Nat.add_zero]; omega
  · omega
  · omega
  · omega
theorem bytes_same {a b : List UInt8} (h : a.length = b.length) (hb : ∀ j, j < a.length → byteAt a j = byteAt b j) : a = b := by
  apply List.ext_getElem h
  intro j h1 h2
  have := hb j h1
  rw [byteAt_get a j h1, byteAt_get b j h2] at this
  exact UInt8.toNat_inj.1 this
theorem words_same {a b : List UInt8} (ha : a.length = 32) (hb : b.length = 32) : (∀ n, n < 8 → wordAt a (4 * n) = wordAt b (4 * n)) ↔ a = b := by
  constructor
  · intro h
    apply bytes_same (by omega)
    intro j hj
    have := word_bytes (h (j / 4) (by omega)) (j % 4) (by omega)
    rwa [show 4 * (j / 4) + j % 4 = j by omega] at this
  · intro h n _
    rw [h]

theorem digN_lt {k : Nat} (h : k < 16) : digN k < 256 := by unfold digN; split <;> omega
theorem digB_at {k : Nat} (h : k < 16) : digO (digB k).toNat = k := by
  unfold digB
  rw [ofNat_toNat, Nat.mod_eq_of_lt (digN_lt h), digO_at k h]
theorem hexL_at : ∀ (l : List UInt8) (m : Nat), m < l.length → byteAt (hexL l) (2 * m) = (digB (byteAt l m / 16)).toNat ∧ byteAt (hexL l) (2 * m + 1) = (digB (byteAt l m % 16)).toNat
  | b :: l, 0, _ => ⟨rfl, rfl⟩
  | b :: l, m + 1, h => by
    have hm : m < l.length := by simpa using h
    have h2 := hexL_at l m hm
    have e : ∀ j, byteAt (hexL (b :: l)) (j + 2) = byteAt (hexL l) j := fun j => rfl
    have e2 : byteAt (b :: l) (m + 1) = byteAt l m := rfl
    rw [show 2 * (m + 1) = 2 * m + 2 by omega, show 2 * m + 2 + 1 = (2 * m + 1) + 2 by omega, e, e, e2]
    exact h2
theorem hex_fine {l : List UInt8} (h : l.length = 32) : fine (hexL l) ∧ parseK (hexL l) = l := by
  have hd : ∀ m, m < 32 → dg (hexL l) (2 * m) = byteAt l m / 16 ∧ dg (hexL l) (2 * m + 1) = byteAt l m % 16 := by
    intro m hm
    have hb := byteAt_lt l m
    obtain ⟨h1, h2⟩ := hexL_at l m (by omega)
    unfold dg
    rw [h1, h2, digB_at (by omega), digB_at (by omega)]
    exact ⟨rfl, rfl⟩
  have hne : ∀ j, j < 64 → dg (hexL l) j ≠ 16 := by
    intro j hj
    have hb := byteAt_lt l (j / 2)
    obtain ⟨h1, h2⟩ := hd (j / 2) (by omega)
    rcases Nat.mod_two_eq_zero_or_one j with h0 | h0
    · rw [show 2 * (j / 2) = j by omega] at h1; omega
    · rw [show 2 * (j / 2) + 1 = j by omega] at h2; omega
  refine ⟨⟨by rw [hexL_len, h], hne⟩, ?_⟩
  apply bytes_same (by rw [parseK_len, h])
  intro m hm
  rw [parseK_len] at hm
  rw [parseK_at _ hne m hm]
  obtain ⟨h1, h2⟩ := hd m hm
  unfold pfill
  rw [if_pos (by omega), h1, h2]
  omega

theorem digB_back {c : Nat} (hc : c < 256) (h : digO c ≠ 16) : digN (digO c) = c ∧ digO c < 16 := by
  unfold digO at h ⊢
  by_cases h1 : 48 ≤ c ∧ c ≤ 57
  · rw [if_pos h1]; unfold digN; rw [if_pos (by omega)]; omega
  · rw [if_neg h1] at h ⊢
    by_cases h2 : 97 ≤ c ∧ c ≤ 102
    · rw [if_pos h2]; unfold digN; rw [if_neg (by omega)]; omega
    · rw [if_neg h2] at h; omega
theorem parse_back {s : List UInt8} (h : fine s) : hexL (parseK s) = s := by
  have hl := hexL_len (parseK s)
  rw [parseK_len] at hl
  apply bytes_same (by rw [hl, h.1])
  intro j hj
  have hj64 : j < 64 := by omega
  obtain ⟨h1, h2⟩ := hexL_at (parseK s) (j / 2) (by rw [parseK_len]; omega)
  have hp := parseK_at s h.2 (j / 2) (by omega)
  have e : pfill s 64 (j / 2) = 16 * dg s (2 * (j / 2)) + dg s (2 * (j / 2) + 1) := by unfold pfill; rw [if_pos (by omega)]
  obtain ⟨a1, a2⟩ := digB_back (byteAt_lt s (2 * (j / 2))) (h.2 (2 * (j / 2)) (by omega))
  obtain ⟨b1, b2⟩ := digB_back (byteAt_lt s (2 * (j / 2) + 1)) (h.2 (2 * (j / 2) + 1) (by omega))
  have f1 : dg s (2 * (j / 2)) = digO (byteAt s (2 * (j / 2))) := rfl
  have f2 : dg s (2 * (j / 2) + 1) = digO (byteAt s (2 * (j / 2) + 1)) := rfl
  rw [← f1] at a1 a2
  rw [← f2] at b1 b2
  have q1 : (16 * dg s (2 * (j / 2)) + dg s (2 * (j / 2) + 1)) / 16 = dg s (2 * (j / 2)) := by omega
  have q2 : (16 * dg s (2 * (j / 2)) + dg s (2 * (j / 2) + 1)) % 16 = dg s (2 * (j / 2) + 1) := by omega
  rw [hp, e, q1] at h1
  rw [hp, e, q2] at h2
  rcases Nat.mod_two_eq_zero_or_one j with h0 | h0
  · rw [show 2 * (j / 2) = j by omega] at h1 a1 a2
    rw [h1]
    unfold digB
    rw [ofNat_toNat, Nat.mod_eq_of_lt (digN_lt a2), a1]
  · rw [show 2 * (j / 2) + 1 = j by omega] at h2 b1 b2
    rw [h2]
    unfold digB
    rw [ofNat_toNat, Nat.mod_eq_of_lt (digN_lt b2), b1]

/-- The laws' own first look. -/
theorem awake_hex : hexL (digest [97, 98, 99]) = [98, 97, 55, 56, 49, 54, 98, 102, 56, 102, 48, 49, 99, 102, 101, 97, 52, 49, 52, 49, 52, 48, 100, 101, 53, 100, 97, 101, 50, 50, 50, 51, 98, 48, 48, 51, 54, 49, 97, 51, 57, 54, 49, 55, 55, 97, 57, 99, 98, 52, 49, 48, 102, 102, 54, 49, 102, 50, 48, 48, 49, 53, 97, 100] := by decide +kernel
end Go.Proofs.YteejldddgogbkaaGreatDoor
/- Keys, as the program goes over them. -/
set_option linter.unusedVariables false
set_option maxRecDepth 100000
namespace Go.Proofs.YteejldddgogbkaaGreatDoor
open Go.RowKit

/-! ### Words -/
theorem and7 (n : Int) : bits .and .i64 n 7 = (((n % 8).toNat : Nat) : Int) := by
  have h7 : (BitVec.ofInt 64 7).toNat = 2 ^ 3 - 1 := by decide
  have key : (BitVec.ofInt 64 n &&& BitVec.ofInt 64 7).toNat = (n % ((2 ^ 64 : Nat) : Int)).toNat % 2 ^ 3 := by
    rw [BitVec.toNat_and, BitVec.toNat_ofInt, h7, Nat.and_two_pow_sub_one_eq_mod]
  show IntKind.i64.wrap ((BitVec.ofInt 64 n &&& BitVec.ofInt 64 7).toNat : Nat) = _
  rw [key, IntKind.wrap_i64]
  omega
theorem len25 : Tryz.prog.arrayLen 145 = 32 := by kernel_rfl
theorem elem25 : Tryz.prog.elem 145 = 5 := by kernel_rfl
theorem arr25 : Tryz.prog.underlying 145 = some (.array 32 5) := by kernel_rfl
/-- Four bytes of a key. -/
theorem run_slice4 (B o : Nat) (ho : o + 4 ≤ 32) (w : World) : (Instr.sliceAt 145 (.pointer (some ⟨B, 0, none⟩)) (some (.int .i64 (o : Int))) (some (.int .i64 ((o : Int) + 4))) none).run Tryz.prog w = .ok (.slice (some ⟨B, o, none⟩) 4 (32 - o)) w := by
  rw [run_sliceAt_array_lh w 145 ⟨B, 0, none⟩ (by rw [len25, elem25]; exact arr25) .i64 .i64 _ _ (by omega) (by omega) (by rw [len25]; omega), elem25, size5]
  simp only [Result.andThen, slicedAt, len25, Int.toNat_natCast, Nat.mul_one]
  rw [if_neg (by omega), addr_add, Nat.zero_add, show ((o : Int) + 4).toNat - o = 4 by omega]

set_option maxHeartbeats 400000 in
theorem sha_Word (l : List UInt8) (n : Int) (w : World) (hl : Hid (l.length = 32)) :
    Calls Tryz.prog 89 #[.agg (keyA l), .int .i64 n] w fun e w' => e = .returned (.int .u32 (wordAt l (4 * (n % 8).toNat))) ∧ Below w.heap.size w w' := by
  have hm := and7 n
  have hm8 : (n % 8).toNat < 8 := by omega
  have HKEY := Lib.hid (keyA_new w l hl.out 145)
  have HB := Lib.hid (((Below.refl w.heap.size w).alloc (Nat.le_refl _) (.cells (keyA l) 145)))
  generalize (n % 8).toNat = m at *
  obtain ⟨o, ho⟩ : ∃ o, o = 4 * m := ⟨_, rfl⟩
  have ho' : 4 * (m : Int) = (o : Int) := by omega
  have hsl := run_slice4 w.heap.size o (by omega)
  have HO := Lib.hid ho
  have ho28 : o ≤ 28 := by omega
  clear ho hm8
  go_enter Tryz.func89, Tryz.ntmps89
  go_wp2_with fail
  generalize w.alloc (.cells (keyA l) 145) = w1 at *
  clear hm ho' hsl
  go_loopw [6, 17] (fun x i wr => ∃ j : Nat, j ≤ 4 ∧ i = .int .i64 j ∧ x = .int .u32 (partW l o j) ∧ wr = w1) (fun x i wr => 4 - (intOf i).toNat)
  case atStart => exact ⟨0, by omega, rfl, rfl, rfl⟩
  case round =>
    obtain ⟨j, hj, rfl, rfl, rfl⟩ := hrel
    by_cases hj4 : j < 4
    · have hXl := partW_lt l o j hj4
      have HX := Lib.hid (show partW l o (j + 1) = 256 * partW l o j + byteAt l (o + j) from rfl)
      have c1 := (HKEY.out.2 (o + j) (by omega)).1
      have hbl := byteAt_lt l (o + j)
      generalize partW l o j = X at *
      generalize byteAt l (o + j) = y at *
      have hor := or_byte X y hXl hbl
      go_wp2_with fail
      go_roundw
      case rel => exact ⟨j + 1, by omega, by go_num, by rw [HX.out]; go_num, trivial⟩
      case measure => simp [intOf]; omega
    · obtain rfl : j = 4 := by omega
      have HX := Lib.hid (partW_four l o)
      go_wp2_with fail
      go_ret
      exact ⟨ret_u32' (by rw [HX.out, HO.out]), HB.out⟩

/-! ### Digits of a key -/
def hfill (l : List UInt8) (i : Nat) : List UInt8 := hexL (l.take i) ++ List.replicate (64 - 2 * i) 0
theorem hfill_len (l : List UInt8) (i : Nat) (hl : l.length = 32) (hi : i ≤ 32) : (hfill l i).length = 64 := by
  unfold hfill
  rw [List.length_append, hexL_len, List.length_take, List.length_replicate]
  omega
theorem hfill_next (l : List UInt8) (i : Nat) (hl : l.length = 32) (hi : i < 32) : ((hfill l i).set (2 * i) (digB (byteAt l i / 16))).set (2 * i + 1) (digB (byteAt l i % 16)) = hfill l (i + 1) := by
  have h1 : (hexL (l.take i)).length = 2 * i := by rw [hexL_len, List.length_take]; omega
  unfold hfill
  rw [hexL_next l i (by omega)]
  obtain ⟨k, hk⟩ : ∃ k, 64 - 2 * i = k + 1 + 1 := ⟨62 - 2 * i, by omega⟩
  rw [hk, show 64 - 2 * (i + 1) = k by omega, List.replicate_succ, List.replicate_succ]
  rw [List.set_append_right _ _ (by omega), h1, Nat.sub_self, List.set_cons_zero, List.set_append_right _ _ (by omega), h1, show 2 * i + 1 - 2 * i = 0 + 1 by omega, List.set_cons_succ, List.set_cons_zero]
  simp
theorem hfill_all (l : List UInt8) (hl : l.length = 32) : hfill l 32 = hexL l := by
  unfold hfill
  rw [List.take_of_length_le (by omega)]
  simp
theorem Row8.set {b : Nat} {l : List UInt8} {w : World} (h : Row8 b l w) {i : Nat} (hi : i < l.length) (v : UInt8) : Row8 b (l.set i v) (w.setCell ⟨b, i, none⟩ (.int .u8 (v.toNat : Int))) := by
  refine ⟨by simpa using h.1, fun j hj => ?_⟩
  rw [List.length_set] at hj
  refine ⟨?_, by rw [World.frozen?_setCell]; exact (h.2 j hj).2⟩
  by_cases hji : j = i
  · subst hji
    rw [World.cell?_setCell_same w _ _ (h.2 j hj).1]
    simp [byteAt, List.getD_eq_getElem?_getD, hj]
  · rw [World.cell?_setCell_other w _ _ _ (fun e => hji (by injection e with _ e2; exact e2.symm)), (h.2 j hj).1]
    simp [byteAt, List.getD_eq_getElem?_getD, List.getElem?_set_ne (fun e => hji e.symm)]
theorem mask15 (y : Nat) (h : y < 256) : bits .and .u8 (y : Int) 15 = ((y % 16 : Nat) : Int) := by
  rw [show (15 : Int) = ((15 : Nat) : Int) from rfl, u8_and_nat _ _ h (by omega), nat_mask4]
theorem digB_nat (k : Nat) (h : k < 16) : ((digB k).toNat : Int) = (digN k : Int) := by
  unfold digB
  rw [ofNat_toNat, Nat.mod_eq_of_lt (digN_lt h)]
theorem slice64_all (B : Nat) (w : World) : (Instr.sliceAt 169 (.pointer (some ⟨B, 0, none⟩)) none none none).run Tryz.prog w = .ok (.slice (some ⟨B, 0, none⟩) 64 64) w := by
  rw [run_sliceAt_array_all w 169 ⟨B, 0, none⟩ (by rw [len46, elem46]; exact arr46), elem46, size5]
  simp only [Result.andThen, slicedAt, len46]
  rw [if_neg (by omega), addr_add]

end Go.Proofs.YteejldddgogbkaaGreatDoor
