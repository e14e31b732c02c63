/- Texts put together: BoxDisk, BoxRead, BoxIn -/
import Derived.Test.YtlpknhiagdhkcaaBSp06
import Derived.Test.YtlpknhiagdhkcaaBSp09
import Derived.Test.YtlpknhiagdhkcaaBSp05
import Derived.Deep.Slices
import Derived.Deep.Fields
import Derived.ChangeSame
import Derived.SizedLaws
import Derived.OpenShut
/- A box over a disk: what each call answers and leaves. -/
set_option linter.unusedVariables false
set_option maxRecDepth 100000
namespace Go.Proofs.Ytlpknhiagdhkcaa
open Go.RowKit

/-! ### Places -/
def plC (f a l : Int) : Array Value := #[.int .i64 f, .int .i64 a, .int .i64 l]
theorem plC_one (f a l : Int) : (plC f a l).all (·.oneCell') = true := by kernel_rfl
theorem info_pl : (Try.prog.info? 62).map (·.size) = some 3 := by kernel_rfl
def PlIn (P : Nat) (f a l : Int) (w : World) : Prop := w.heap[P]? = some (.cells (plC f a l) 62 (0, 0))
theorem PlIn.range {P : Nat} {f a l : Int} {w : World} (h : PlIn P f a l w) : w.rangeAt P 0 (plC f a l).toList := fun j v hj => by
  unfold PlIn at h
  rw [Nat.zero_add]; simp only [World.cell?, h]; simpa using hj
theorem PlIn.there {P : Nat} {f a l : Int} {w : World} (h : PlIn P f a l w) : w.there P 0 3 := fun j hj => by
  unfold PlIn at h
  refine ⟨?_, by simp [World.frozen?, h]⟩
  rw [Nat.zero_add]; simp only [World.cell?, h]
  have : j < (plC f a l).size := hj
  simp [this]
theorem PlIn.cells {P : Nat} {f a l : Int} {w : World} (h : PlIn P f a l w) : w.cell? ⟨P, 0, none⟩ = some (.int .i64 f) ∧ w.cell? ⟨P, 1, none⟩ = some (.int .i64 a) ∧ w.cell? ⟨P, 2, none⟩ = some (.int .i64 l) := by
  unfold PlIn at h
  refine ⟨?_, ?_, ?_⟩ <;> simp [World.cell?, h, plC]
theorem PlIn.setAll {P : Nat} {f a l f' a' l' : Int} {w : World} (h : PlIn P f a l w) : PlIn P f' a' l' (w.setCells P 0 (plC f' a' l').toList) ∧ Only (fun k => k = P) w (w.setCells P 0 (plC f' a' l').toList) := by
  refine ⟨?_, only_setCells (S := fun k => k = P) (.inl rfl) _ 0 w (Only.refl _ w)⟩
  have := setCells_mid (plC f' a' l').toList 0 (plC f a l).toList w h (by simp [plC])
  exact this
theorem PlIn.kept {P : Nat} {f a l : Int} {w w' : World} {S : Nat → Prop} (h : PlIn P f a l w) (k : Only S w w') (hS : ¬ S P) : PlIn P f a l w' := by
  have hl := heap_lt h
  unfold PlIn at h ⊢
  rw [k.block P hl hS, h]
theorem PlIn.below {P B : Nat} {f a l : Int} {w w' : World} (h : PlIn P f a l w) (k : Below B w w') (hB : P < B) : PlIn P f a l w' := by
  unfold PlIn at h ⊢
  rw [k.block P hB, h]

/-! ### Boxes -/
def bxC (d : Nat) (file : Int) (n : Nat) : Array Value := #[.pointer (some ⟨d, 0, none⟩), .int .i64 file, .int .i64 (n : Int)]
def BxIn (b d : Nat) (file : Int) (n : Nat) (w : World) : Prop := w.heap[b]? = some (.cells (bxC d file n) 102 (0, 0))
theorem BxIn.cells {b d n : Nat} {file : Int} {w : World} (h : BxIn b d file n w) : w.cell? ⟨b, 0, none⟩ = some (.pointer (some ⟨d, 0, none⟩)) ∧ w.cell? ⟨b, 1, none⟩ = some (.int .i64 file) ∧ w.cell? ⟨b, 2, none⟩ = some (.int .i64 (n : Int)) := by
  unfold BxIn at h
  refine ⟨?_, ?_, ?_⟩ <;> simp [World.cell?, h, bxC]
theorem box_File {b d n : Nat} {file : Int} {w : World} (h : BxIn b d file n w) : Calls Try.prog 21 #[.pointer (some ⟨b, 0, none⟩)] w fun e w' => e = .returned (.int .i64 file) ∧ w = w' := by
  obtain ⟨c0, c1, c2⟩ := h.cells
  clear h
  go_enter Try.func21, Try.ntmps21
  go_wp2
  go_ret
  exact ⟨rfl, rfl⟩
theorem box_Size {b d n : Nat} {file : Int} {w : World} (h : BxIn b d file n w) : Calls Try.prog 22 #[.pointer (some ⟨b, 0, none⟩)] w fun e w' => e = .returned (.int .i64 (n : Int)) ∧ w = w' := by
  obtain ⟨c0, c1, c2⟩ := h.cells
  clear h
  go_enter Try.func22, Try.ntmps22
  go_wp2
  go_ret
  exact ⟨rfl, rfl⟩
theorem box_File_nil (w : World) : Calls Try.prog 21 #[.pointer none] w fun e w' => e = .returned (.int .i64 0) ∧ w = w' := by
  go_enter Try.func21, Try.ntmps21
  go_wp2
  go_ret
  exact ⟨rfl, rfl⟩
theorem box_Size_nil (w : World) : Calls Try.prog 22 #[.pointer none] w fun e w' => e = .returned (.int .i64 0) ∧ w = w' := by
  go_enter Try.func22, Try.ntmps22
  go_wp2
  go_ret
  exact ⟨rfl, rfl⟩
theorem box_Sync_nil (w : World) : Calls Try.prog 24 #[.pointer none] w fun e w' => e = .returned (.int .i64 1) ∧ w = w' := by
  go_enter Try.func24, Try.ntmps24
  go_wp2
  go_ret
  exact ⟨rfl, rfl⟩
theorem box_Begin_nil (t file : Int) (w : World) : Calls Try.prog 20 #[.pointer none, .int .i64 t, .int .i64 file] w fun e w' => e = .returned (.tuple #[.pointer none, .int .i64 8]) ∧ w = w' := by
  go_enter Try.func20, Try.ntmps20
  go_wp2_with fail
  refine (disk_Make_nil t file w).mono ?_
  rintro e w1 ⟨rfl, rfl⟩
  go_wp2
  go_ret2
  exact ⟨rfl, rfl⟩
def BegPost (S : Nat → Prop) (w : World) (d : Nat) (file : Int) (t : DS × Int) (e : Ending) (w' : World) : Prop :=
  (t.2 ≠ 0 ∧ e = .returned (.tuple #[.pointer none, .int .i64 t.2]) ∧ Disk (New S w) w' d t.1 ∧ Only S w w') ∨
  (t.2 = 0 ∧ ∃ b, e = .returned (.tuple #[.pointer (some ⟨b, 0, none⟩), .int .i64 0]) ∧ Disk (fun k => New S w k ∧ k < b) w' d t.1 ∧ Only S w w' ∧ BxIn b d file 0 w' ∧ w.heap.size ≤ b ∧ w'.heap.size = b + 1)
theorem box_Begin {S : Nat → Prop} {w : World} {d : Nat} {s : DS} (h : Disk S w d s) (t file : Int) (hw : (Lit.int .i64 file).wf = true) (hs : s.steps < 4611686018427387904) :
    Calls Try.prog 20 #[.pointer (some ⟨d, 0, none⟩), .int .i64 t, .int .i64 file] w (BegPost S w d file (s.make t file)) := by
  have H := Lib.hid h
  have hm := (wf_hi hw).2
  clear h
  go_enter Try.func20, Try.ntmps20
  go_wp2_with fail
  refine (disk_Make H.out t file hw hm hs).mono ?_
  rintro e w1 ⟨rfl, d1, o1⟩
  have D1 := Lib.hid d1
  have O1 := Lib.hid o1
  clear d1 o1
  obtain ⟨z, hz⟩ : ∃ z, z = (s.make t file).2 := ⟨_, rfl⟩
  rw [← hz]
  have HZ := Lib.hid hz
  clear hz
  by_cases h0 : z = 0
  · have b1 : (z != 0) = false := by simp [h0]
    have Z0 := Lib.hid h0
    clear h0
    go_wp2
    go_ret2
    refine .inr ⟨by rw [← HZ.out]; exact Z0.out, w1.heap.size, rfl, ?_, O1.out.alloc _, heap_new w1 _, O1.out.size, by simp⟩
    exact (D1.out.tight).below ((Below.refl _ w1).alloc (Nat.le_refl _) _)
  · have b1 : (z != 0) = true := by simp [h0]
    have Z0 := Lib.hid h0
    clear h0
    go_wp2
    go_ret2
    exact .inl ⟨by rw [← HZ.out]; exact Z0.out, by rw [HZ.out]; rfl, D1.out, O1.out⟩
theorem box_Sync {S : Nat → Prop} {w : World} {b d n : Nat} {file : Int} {s : DS} (h : Disk S w d s) (hb : BxIn b d file n w) (hw : (Lit.int .i64 file).wf = true) (hs : s.steps < 4611686018427387904) :
    Calls Try.prog 24 #[.pointer (some ⟨b, 0, none⟩)] w (Did S d (s.sync file) w) := by
  have H := Lib.hid h
  have HX := Lib.hid hb
  have hlt := heap_lt hb
  have n0 : ∀ m : Seen w, m.val.cell? ⟨b, 0, none⟩ = some (.pointer (some ⟨d, 0, none⟩)) := fun m => by rw [m.below.cell (p := ⟨b, 0, none⟩) hlt]; exact HX.out.cells.1
  have n1 : ∀ m : Seen w, m.val.cell? ⟨b, 1, none⟩ = some (.int .i64 file) := fun m => by rw [m.below.cell (p := ⟨b, 1, none⟩) hlt]; exact HX.out.cells.2.1
  clear h hb hlt
  go_enter Try.func24, Try.ntmps24
  go_wp2_with fail
  refine wp_region_seen_tail 8 (by kernel_rfl) (by kernel_rfl) ?_
  simp only [List.take_succ_cons, List.take_zero, List.drop_succ_cons, List.drop_zero]
  repeat go_big_quiet_step (fail)
  refine wpQuiet_nil ?_
  rintro _ ⟨m1, rfl⟩
  have K1 := Lib.hid m1.below
  have D1 := Lib.hid (H.out.below K1.out)
  generalize m1.val = w1 at *
  clear n0 n1
  go_wp2_with fail
  refine (disk_Sync D1.out file hw hs).mono ?_
  rintro e w2 ⟨rfl, d2, o2⟩
  have D2 := Lib.hid (d2.mono (S' := New S w) fun k hk hn => by rcases hn with hn | hn; (exact .inl hn); (exact .inr (Nat.le_trans K1.out.size hn)))
  have O2 := Lib.hid ((Only.of_below (S := S) K1.out (fun k hk hB => absurd hk (by omega))).trans o2)
  clear d2 o2
  go_wp2
  go_ret
  exact ⟨rfl, D2.out, O2.out⟩

/-! ### Adding -/
def addR (s : DS) (file : Int) (n : Nat) (r : RecB) : DS × (Int × Int × Int) × Int × Nat :=
  if packE r ≠ 0 then (s, (0, 0, 0), packE r, n) else if (s.size file).2.2 ≠ 0 then (s, (0, 0, 0), (s.size file).2.2, n)
  else if (s.add file (packL r)).2 ≠ 0 then ((s.add file (packL r)).1, (0, 0, 0), (s.add file (packL r)).2, n)
  else ((s.add file (packL r)).1, (file, (s.size file).1, ((packL r).length : Int)), 0, n + (packL r).length)
def AddPost (S : Nat → Prop) (w : World) (b d : Nat) (file : Int) (x : DS × (Int × Int × Int) × Int × Nat) (e : Ending) (w' : World) : Prop :=
  e = .returned (.tuple #[.agg (plC x.2.1.1 x.2.1.2.1 x.2.1.2.2), .int .i64 x.2.2.1]) ∧ Disk (New S w) w' d x.1 ∧ BxIn b d file x.2.2.2 w' ∧ Only (fun k => S k ∨ k = b) w w'
theorem box_Add_nil (r : RecB) (w : World) : Calls Try.prog 23 #[.pointer none, .agg (recA r)] w fun e w' => e = .returned (.tuple #[.agg (plC 0 0 0), .int .i64 1]) ∧ Below w.heap.size w w' := by
  obtain ⟨B, hB⟩ : ∃ B, B = w.heap.size := ⟨_, rfl⟩
  obtain ⟨w1, hw1⟩ : ∃ w1, w1 = w.alloc (.cells (recA r) 30) := ⟨_, rfl⟩
  obtain ⟨w2, hw2⟩ : ∃ w2, w2 = w1.alloc (.cells (plC 0 0 0) 62) := ⟨_, rfl⟩
  have hs1 : w1.heap.size = B + 1 := by rw [hw1, hB]; simp
  have K2 := Lib.hid (show Below w.heap.size w w2 by rw [hw2, hw1]; exact ((Below.refl _ w).alloc (Nat.le_refl _) _).alloc (by simp) _)
  have N2 := Lib.hid (show PlIn (B + 1) 0 0 0 w2 by rw [hw2, ← hs1]; exact heap_new w1 _)
  have HB := Lib.hid hB
  have HW1 := Lib.hid hw1
  have HW2 := Lib.hid hw2
  have HBW := Lib.hid (show w.heap.size ≤ B + 1 by omega)
  clear hB hw1 hw2 hs1
  go_enter Try.func23, Try.ntmps23
  go_upto_region 1 with (fail)
  rw [← HB.out, ← HW1.out]
  change Code.wp _ _ _ _ (w1.alloc (.cells (plC 0 0 0) 62))
  rw [← HW2.out]
  go_upto_region 2 with (fail)
  have T8 := Lib.hid N2.out.there
  have Y1 := Lib.hid (N2.out.setAll (f' := 0) (a' := 0) (l' := 0)).1
  go_wp2_with (first | (refine wpList_store_mid rfl 62 (.tmp 4) (.tmp 13) rfl (B + 1) 0 (plC 0 0 0) rfl rfl T8.out info_pl (plC_one 0 0 0) ?_) | fail)
  refine bodyPost_ret (v := .tuple #[.agg (plC 0 0 0), .int .i64 1]) (results_cell_tmp rfl _ _ _ (B + 1) 0 (plC 0 0 0).toList _ (.int .i64 1) rfl rfl Y1.out.range Try.underlying62 rfl info_pl) rfl ⟨rfl, ?_⟩
  exact below_setCells HBW.out _ 0 K2.out
set_option maxHeartbeats 8000000 in
theorem box_Add {S : Nat → Prop} {w : World} {b d n : Nat} {file : Int} {s : DS} (r : RecB) (h : Disk S w d s) (hb : BxIn b d file n w) (hbS : ¬ S b) (hS : ∀ k, S k → k < w.heap.size) (hr : r.Ok) (hrb : r.body.length ≤ 1000000000000) (hn : n ≤ 1000000000000) (hw : (Lit.int .i64 file).wf = true) (hs : s.steps < 4611686018427387904) :
    Calls Try.prog 23 #[.pointer (some ⟨b, 0, none⟩), .agg (recA r)] w (AddPost S w b d file (addR s file n r)) := by
  obtain ⟨B, hB⟩ : ∃ B, B = w.heap.size := ⟨_, rfl⟩
  obtain ⟨w1, hw1⟩ : ∃ w1, w1 = w.alloc (.cells (recA r) 30) := ⟨_, rfl⟩
  obtain ⟨w2, hw2⟩ : ∃ w2, w2 = w1.alloc (.cells (plC 0 0 0) 62) := ⟨_, rfl⟩
  obtain ⟨P, hP⟩ : ∃ P, P = B + 1 := ⟨_, rfl⟩
  have hs1 : w1.heap.size = P := by rw [hw1, hP, hB]; simp
  have hs2 : w2.heap.size = P + 1 := by rw [hw2, ← hs1]; simp
  have KB := Lib.hid (show Below w.heap.size w w2 by rw [hw2, hw1]; exact ((Below.refl _ w).alloc (Nat.le_refl _) _).alloc (by simp) _)
  have K2 := Lib.hid (show Only (fun k => S k ∨ k = b) w w2 from Only.of_below KB.out (fun k hk hB => absurd hk (by omega)))
  have N2 := Lib.hid (show PlIn P 0 0 0 w2 by rw [hw2, ← hs1]; exact heap_new w1 _)
  have M2 := Lib.hid (show RecIn B 30 r w2 by
    have h1 : RecIn B 30 r w1 := by rw [hw1, hB]; exact RecIn.new w _ _
    rw [hw2]; exact h1.below ((Below.refl _ w1).alloc (Nat.le_refl _) _) h1.lt)
  have hlt := heap_lt hb
  have D2 := Lib.hid (show Disk (New S w) w2 d s from (h.below KB.out).mono fun k hk hk2 => .inl hk2)
  have B2 := Lib.hid (show BxIn b d file n w2 by unfold BxIn; rw [KB.out.block b hlt]; exact hb)
  have D0 := Lib.hid (show Disk S w2 d s from h.below KB.out)
  have HPB := Lib.hid (show P ≠ b by omega)
  have HPS := Lib.hid (show ¬ (S P) by intro x; have := hS P x; omega)
  have HPW := Lib.hid (show w.heap.size ≤ P by omega)
  have HPL := Lib.hid (show P < w2.heap.size by omega)
  have HB := Lib.hid hB
  have HW1 := Lib.hid hw1
  have HW2 := Lib.hid hw2
  have HR := Lib.hid hr
  have HBS := Lib.hid hbS
  have HSL := Lib.hid hS
  have HBL := Lib.hid hlt
  have HPP := Lib.hid hP
  clear hB hw1 hw2 hs1 hs2 h hb hbS hS hr hlt hP
  go_enter Try.func23, Try.ntmps23
  go_upto_region 1 with (fail)
  rw [← HB.out, ← HW1.out]
  change Code.wp _ _ _ _ (w1.alloc (.cells (plC 0 0 0) 62))
  rw [← HPP.out, ← HW2.out]
  have HRG := Lib.hid M2.out.range
  have IL := Lib.hid (show (Try.prog.info? 30).map (·.size) = some (recA r).toList.length by simpa using info_recA HR.out)
  go_upto_region 3 with (fail)
  go_wp2_with (first | (refine wpList_load_mid rfl 30 (.tmp 3) rfl B 0 rfl (recA r).toList _ HRG.out Try.underlying30 rfl IL.out ?_; rw [Array.toArray_toList]) | fail)
  refine (box_Pack r w2 HR.out hrb).mono ?_
  rintro e w3 ⟨rfl, k3⟩
  have k3' : Only (fun _ => False) w2 w3 := Only.of_below k3 (fun k hk hB => absurd hk (by omega))
  have N3 := Lib.hid (N2.out.below k3 HPL.out)
  have K3 := Lib.hid (K2.out.trans (k3'.mono fun k hk x => x.elim))
  have KB3 := Lib.hid (show Below w.heap.size w w3 from KB.out.trans (k3.mono KB.out.size))
  have D3 := Lib.hid (show Disk S w3 d s from D0.out.below k3)
  have B3 := Lib.hid (show BxIn b d file n w3 by unfold BxIn; rw [k3.block b (heap_lt B2.out)]; exact B2.out)
  clear k3 k3'
  obtain ⟨z1, hz1⟩ : ∃ z1, z1 = packE r := ⟨_, rfl⟩
  rw [← hz1]
  have HZ1 := Lib.hid hz1
  clear hz1
  by_cases h1 : z1 = 0
  · have b1 : (z1 != 0) = false := by simp [h1]
    have Z1 := Lib.hid (show packE r = 0 by rw [← HZ1.out]; exact h1)
    rw [packT_ok Z1.out]
    clear h1
    go_upto_region 6 with (fail)
    have n0 : ∀ m : Seen w3, m.val.cell? ⟨b, 0, none⟩ = some (.pointer (some ⟨d, 0, none⟩)) := fun m => by rw [m.below.cell (p := ⟨b, 0, none⟩) (heap_lt B3.out)]; exact B3.out.cells.1
    have n1 : ∀ m : Seen w3, m.val.cell? ⟨b, 1, none⟩ = some (.int .i64 file) := fun m => by rw [m.below.cell (p := ⟨b, 1, none⟩) (heap_lt B3.out)]; exact B3.out.cells.2.1
    have G0 := Lib.hid (fun m : Seen w3 => (disk_Size (D3.out.below m.below) file hw).mono (R' := fun e w'' => e = .returned (.tuple #[.int .i64 (s.size file).1, .int .i64 (s.size file).2.1, .int .i64 (s.size file).2.2]) ∧ ∃ x : Seen w3, w'' = x.val) (fun e w'' hh => ⟨hh.1, by obtain ⟨q, hq⟩ := hh.2; exact ⟨⟨w'', by rw [hq]; exact below_drewN m.below q⟩, rfl⟩⟩))
    refine region_seen (by kernel_rfl) (by kernel_rfl) ?_
    repeat go_big_quiet_step (first | (go_at_call 27; with_reducible exact G0.out _))
    refine wpQuiet_nil ?_
    rintro _ ⟨m1, rfl⟩
    have m1' : Only (fun _ => False) w3 m1.val := Only.of_below m1.below (fun k hk hB => absurd hk (by omega))
    have N4 := Lib.hid (N3.out.below m1.below (heap_lt N3.out))
    have K4 := Lib.hid (K3.out.trans (m1'.mono fun k hk x => x.elim))
    have KB4 := Lib.hid (show Below w.heap.size w m1.val from KB3.out.trans (m1.below.mono KB3.out.size))
    have D4 := Lib.hid (show Disk S m1.val d s from D3.out.below m1.below)
    have B4 := Lib.hid (show BxIn b d file n m1.val by unfold BxIn; rw [m1.below.block b (heap_lt B3.out)]; exact B3.out)
    clear m1' n0 n1 G0
    generalize m1.val = w4 at *
    have D4' := Lib.hid (show Disk (New S w) w4 d s from D4.out.mono fun k hk hk2 => .inl hk2)
    obtain ⟨at1, hat1⟩ : ∃ x, x = (s.size file).1 := ⟨_, rfl⟩
    obtain ⟨z2, hz2⟩ : ∃ x, x = (s.size file).2.2 := ⟨_, rfl⟩
    rw [← hat1, ← hz2]
    have HAT := Lib.hid hat1
    have HZ2 := Lib.hid hz2
    clear hat1 hz2
    by_cases h2 : z2 = 0
    · have b2 : (z2 != 0) = false := by simp [h2]
      have Z2 := Lib.hid (show (s.size file).2.2 = 0 by rw [← HZ2.out]; exact h2)
      clear h2
      go_upto_region 9 with (fail)
      have n0 : ∀ m : Seen w4, m.val.cell? ⟨b, 0, none⟩ = some (.pointer (some ⟨d, 0, none⟩)) := fun m => by rw [m.below.cell (p := ⟨b, 0, none⟩) (heap_lt B4.out)]; exact B4.out.cells.1
      have n1 : ∀ m : Seen w4, m.val.cell? ⟨b, 1, none⟩ = some (.int .i64 file) := fun m => by rw [m.below.cell (p := ⟨b, 1, none⟩) (heap_lt B4.out)]; exact B4.out.cells.2.1
      refine wp_region_seen_tail 9 (by kernel_rfl) (by kernel_rfl) ?_
      simp only [List.take_succ_cons, List.take_zero, List.drop_succ_cons, List.drop_zero]
      repeat go_big_quiet_step (fail)
      refine wpQuiet_nil ?_
      rintro _ ⟨m2, rfl⟩
      have m2' : Only (fun _ => False) w4 m2.val := Only.of_below m2.below (fun k hk hB => absurd hk (by omega))
      have N5 := Lib.hid (N4.out.below m2.below (heap_lt N4.out))
      have K5 := Lib.hid (K4.out.trans (m2'.mono fun k hk x => x.elim))
      have KB5 := Lib.hid (show Below w.heap.size w m2.val from KB4.out.trans (m2.below.mono KB4.out.size))
      have D5 := Lib.hid (show Disk S m2.val d s from D4.out.below m2.below)
      have B5 := Lib.hid (show BxIn b d file n m2.val by unfold BxIn; rw [m2.below.block b (heap_lt B4.out)]; exact B4.out)
      clear m2' n0 n1
      generalize m2.val = w5 at *
      have HPLEN := Lib.hid (show (packL r).length ≤ 1000000000080 by rw [packL_len]; have := partsR_le HR.out (by omega); omega)
      go_wp2_with fail
      refine (disk_Add D5.out file (packL r) hw hs (by have := HPLEN.out; omega)).mono ?_
      rintro e w6 ⟨rfl, d6, o6⟩
      have HP5 := Lib.hid (heap_lt N5.out)
      have N6 := Lib.hid (N5.out.kept o6 HPS.out)
      have K6 := Lib.hid (K5.out.trans (o6.mono fun k hk x => .inl x))
      have HNW := Lib.hid (show ¬ New S w5 P by intro x; rcases x with x | x; (exact HPS.out x); (have := HP5.out; omega))
      have D6' := Lib.hid d6
      have D6 := Lib.hid (show Disk (fun k => New S w k ∧ k ≠ P) w6 d (s.add file (packL r)).1 from d6.mono fun k hk hn => ⟨by rcases hn with hn | hn; (exact .inl hn); (exact .inr (Nat.le_trans KB5.out.size hn)), fun e => by subst e; exact HNW.out hn⟩)
      have B6 := Lib.hid (show BxIn b d file n w6 by unfold BxIn; rw [o6.block b (heap_lt B5.out) HBS.out]; exact B5.out)
      have HNB := Lib.hid (show ¬ New S w5 b by intro x; rcases x with x | x; (exact HBS.out x); (have := heap_lt B5.out; omega))
      clear d6 o6
      obtain ⟨s6, hs6⟩ : ∃ x, x = (s.add file (packL r)).1 := ⟨_, rfl⟩
      obtain ⟨z3, hz3⟩ : ∃ x, x = (s.add file (packL r)).2 := ⟨_, rfl⟩
      rw [← hs6] at D6 D6'
      rw [← hz3]
      have HS6 := Lib.hid hs6
      have HZ3 := Lib.hid hz3
      clear hs6 hz3
      by_cases h3 : z3 = 0
      · have b3 : (z3 != 0) = false := by simp [h3]
        have Z3 := Lib.hid h3
        clear h3
        go_upto_region 12 with (fail)
        have c2 := B6.out.cells.2.2
        have f2 : w6.frozen? ⟨b, 2, none⟩ = false := by have := B6.out; unfold BxIn at this; simp [World.frozen?, this]
        obtain ⟨m, hm⟩ : ∃ m, m = (packL r).length := ⟨_, rfl⟩
        have hsz : (bs (packL r)).size = m := by rw [bs_size, hm]
        obtain ⟨n', hn'⟩ : ∃ n', n' = n + m := ⟨_, rfl⟩
        have hsum : (n : Int) + (m : Int) = (n' : Int) := by omega
        have hn'l : n' ≤ 9223372036854775807 := by have := HPLEN.out; omega
        obtain ⟨w7, hw7⟩ : ∃ w7, w7 = w6.setCell ⟨b, 2, none⟩ (.int .i64 (n' : Int)) := ⟨_, rfl⟩
        have k7 : Only (fun k => k = b) w6 w7 := by rw [hw7]; exact (Only.refl (fun k => k = b) _).setCell (p := ⟨b, 2, none⟩) (.inl rfl) _
        have B7 := Lib.hid (show BxIn b d file n' w7 by rw [hw7]; have := B6.out; unfold BxIn at this ⊢; rw [heap_set this]; rfl)
        have N7 := Lib.hid (N6.out.kept k7 HPB.out)
        have K7 := Lib.hid (K6.out.trans (k7.mono fun k hk x => .inr x))
        have D7 := Lib.hid (show Disk (fun k => New S w k ∧ k ≠ P) w7 d s6 from ((D6'.out.only k7 (fun j hj hs e => by subst e; exact HNB.out hs))).mono fun k hk hn => ⟨by rcases hn with hn | hn; (exact .inl hn); (exact .inr (Nat.le_trans KB5.out.size hn)), fun e => by subst e; exact HNW.out hn⟩)
        have HW7 := Lib.hid hw7
        have HM := Lib.hid hm
        have HN' := Lib.hid hn'
        clear hw7 k7 hm hn'
        go_upto_region 13 with (fail)
        rw [← HW7.out]
        obtain ⟨c0, c1, -⟩ := B7.out.cells
        obtain ⟨y1, y2⟩ := PlIn.setAll (f' := file) (a' := at1) (l' := (m : Int)) N7.out
        have Y1 := Lib.hid y1
        have Y2 := Lib.hid (show Only (fun k => S k ∨ k = b) w (World.setCells w7 P 0 (plC file at1 (m : Int)).toList) from only_setCells (.inr HPW.out) _ 0 _ K7.out)
        have T8 := Lib.hid (N7.out.there)
        have YD := Lib.hid (show Disk (New S w) (World.setCells w7 P 0 (plC file at1 (m : Int)).toList) d s6 from (D7.out.only y2 (fun j hj hs e => hs.2 e)).mono fun k hk hh => hh.1)
        have YB := Lib.hid (show BxIn b d file n' (World.setCells w7 P 0 (plC file at1 (m : Int)).toList) by unfold BxIn; rw [y2.block b (heap_lt B7.out) (fun e => HPB.out e.symm)]; exact B7.out)
        clear y1 y2
        go_wp2_with (first | (refine wpList_store_mid rfl 62 (.tmp 4) (.tmp 70) rfl P 0 (plC file at1 (m : Int)) rfl rfl T8.out info_pl (plC_one _ _ _) ?_) | fail)
        refine bodyPost_ret (v := .tuple #[.agg (plC file at1 (m : Int)), .int .i64 0]) (results_cell_tmp rfl _ _ _ P 0 (plC file at1 (m : Int)).toList _ (.int .i64 0) rfl rfl Y1.out.range Try.underlying62 rfl info_pl) rfl ?_
        rw [show addR s file n r = (s6, (file, at1, (m : Int)), 0, n') by unfold addR; rw [if_neg (by rw [Z1.out]; simp), if_neg (by rw [Z2.out]; simp), ← HZ3.out, if_neg (by rw [Z3.out]; simp), ← HS6.out, ← HAT.out, ← HM.out, ← HN'.out]]
        exact ⟨rfl, YD.out, YB.out, Y2.out⟩
      · have b3 : (z3 != 0) = true := by simp [h3]
        have Z3 := Lib.hid h3
        clear h3
        go_upto_region 11 with (fail)
        obtain ⟨y1, y2⟩ := PlIn.setAll (f' := 0) (a' := 0) (l' := 0) N6.out
        have Y1 := Lib.hid y1
        have Y2 := Lib.hid (show Only (fun k => S k ∨ k = b) w (World.setCells w6 P 0 (plC 0 0 0).toList) from only_setCells (.inr HPW.out) _ 0 _ K6.out)
        have T8 := Lib.hid (N6.out.there)
        have YD := Lib.hid (show Disk (New S w) (World.setCells w6 P 0 (plC 0 0 0).toList) d s6 from (D6.out.only y2 (fun j hj hs e => hs.2 e)).mono fun k hk hh => hh.1)
        have YB := Lib.hid (show (World.setCells w6 P 0 (plC 0 0 0).toList).heap[b]? = some (.cells (bxC d file n) 102 (0, 0)) from (y2.block b (heap_lt B6.out) (fun e => HPB.out e.symm)).trans B6.out)
        clear y1 y2
        go_wp2_with (first | (refine wpList_store_mid rfl 62 (.tmp 4) (.tmp 52) rfl P 0 (plC 0 0 0) rfl rfl T8.out info_pl (plC_one 0 0 0) ?_) | fail)
        refine bodyPost_ret (v := .tuple #[.agg (plC 0 0 0), .int .i64 z3]) (results_cell_tmp rfl _ _ _ P 0 (plC 0 0 0).toList _ (.int .i64 z3) rfl rfl Y1.out.range Try.underlying62 rfl info_pl) rfl ?_
        rw [show addR s file n r = (s6, (0, 0, 0), z3, n) by unfold addR; rw [if_neg (by rw [Z1.out]; simp), if_neg (by rw [Z2.out]; simp), ← HZ3.out, if_pos Z3.out, ← HS6.out]]
        exact ⟨rfl, YD.out, YB.out, Y2.out⟩
    · have b2 : (z2 != 0) = true := by simp [h2]
      have Z2 := Lib.hid h2
      clear h2
      go_upto_region 8 with (fail)
      obtain ⟨y1, y2⟩ := PlIn.setAll (f' := 0) (a' := 0) (l' := 0) N4.out
      have Y1 := Lib.hid y1
      have Y2 := Lib.hid (show Only (fun k => S k ∨ k = b) w (World.setCells w4 P 0 (plC 0 0 0).toList) from only_setCells (.inr HPW.out) _ 0 _ K4.out)
      have T8 := Lib.hid (N4.out.there)
      have YD := Lib.hid (show Disk (New S w) (World.setCells w4 P 0 (plC 0 0 0).toList) d s from (D4.out.only y2 (fun j hj hs e => by subst e; exact HPS.out hs)).mono fun k hk hh => .inl hh)
      have YB := Lib.hid (show (World.setCells w4 P 0 (plC 0 0 0).toList).heap[b]? = some (.cells (bxC d file n) 102 (0, 0)) from (y2.block b (heap_lt B4.out) (fun e => HPB.out e.symm)).trans B4.out)
      clear y1 y2
      go_wp2_with (first | (refine wpList_store_mid rfl 62 (.tmp 4) (.tmp 38) rfl P 0 (plC 0 0 0) rfl rfl T8.out info_pl (plC_one 0 0 0) ?_) | fail)
      refine bodyPost_ret (v := .tuple #[.agg (plC 0 0 0), .int .i64 z2]) (results_cell_tmp rfl _ _ _ P 0 (plC 0 0 0).toList _ (.int .i64 z2) rfl rfl Y1.out.range Try.underlying62 rfl info_pl) rfl ?_
      rw [show addR s file n r = (s, (0, 0, 0), z2, n) by unfold addR; rw [if_neg (by rw [Z1.out]; simp), ← HZ2.out, if_pos Z2.out]]
      exact ⟨rfl, YD.out, YB.out, Y2.out⟩
  · have b1 : (z1 != 0) = true := by simp [h1]
    have Z1 := Lib.hid h1
    clear h1
    go_upto_region 5 with (fail)
    obtain ⟨y1, y2⟩ := PlIn.setAll (f' := 0) (a' := 0) (l' := 0) N3.out
    have Y1 := Lib.hid y1
    have Y2 := Lib.hid (show Only (fun k => S k ∨ k = b) w (World.setCells w3 P 0 (plC 0 0 0).toList) from only_setCells (.inr HPW.out) _ 0 _ K3.out)
    have T8 := Lib.hid (N3.out.there)
    have YD := Lib.hid (show Disk (New S w) (World.setCells w3 P 0 (plC 0 0 0).toList) d s from (D3.out.only y2 (fun j hj hs e => by subst e; exact HPS.out hs)).mono fun k hk hh => .inl hh)
    have YB := Lib.hid (show (World.setCells w3 P 0 (plC 0 0 0).toList).heap[b]? = some (.cells (bxC d file n) 102 (0, 0)) from (y2.block b (heap_lt B3.out) (fun e => HPB.out e.symm)).trans B3.out)
    clear y1 y2
    go_wp2_with (first | (refine wpList_store_mid rfl 62 (.tmp 4) (.tmp 21) rfl P 0 (plC 0 0 0) rfl rfl T8.out info_pl (plC_one 0 0 0) ?_) | fail)
    refine bodyPost_ret (v := .tuple #[.agg (plC 0 0 0), .int .i64 z1]) (results_cell_tmp rfl _ _ _ P 0 (plC 0 0 0).toList _ (.int .i64 z1) rfl rfl Y1.out.range Try.underlying62 rfl info_pl) rfl ?_
    rw [show addR s file n r = (s, (0, 0, 0), z1, n) by unfold addR; rw [← HZ1.out, if_pos Z1.out]]
    exact ⟨rfl, YD.out, YB.out, Y2.out⟩
end Go.Proofs.Ytlpknhiagdhkcaa
/- Reading a record at a place. -/
set_option linter.unusedVariables false
set_option maxRecDepth 100000
namespace Go.Proofs.Ytlpknhiagdhkcaa
open Go.RowKit

def readQ (t : List UInt8) (z : Int) : RecB × Int := if z ≠ 0 then (RecB.zero, z) else (openR t, openE t)
theorem readQ_no {t : List UInt8} {z : Int} (h : z ≠ 0) : readQ t z = (RecB.zero, z) := by unfold readQ; rw [if_pos h]
theorem readQ_yes (t : List UInt8) : readQ t 0 = (openR t, openE t) := by unfold readQ; rw [if_neg (by simp)]
def readR (s : DS) (f a l : Int) : RecB × Int := readQ (s.read f a l).1 (s.read f a l).2
theorem readR_ok (s : DS) (f a l : Int) : (readR s f a l).1.Ok := by
  unfold readR readQ; split
  · exact RecB.zero_ok
  · exact openR_ok _
theorem read_len {s : DS} (h : s.Fit) (f a l : Int) : (s.read f a l).1.length ≤ 67108864 := by
  unfold DS.read
  split
  · simp
  · split
    · simp
    · rename_i g hg
      have := fit_len h hg
      split
      · simp
      · simp only [List.length_take, List.length_drop]; omega
theorem Disk.fit {S : Nat → Prop} {w : World} {d : Nat} {s : DS} (h : Disk S w d s) : s.Fit := h.1
theorem build_body (s : ByteArray) (w : World) : (Instr.build 30 #[(3, .string s)]).run Try.prog w = .ok (.agg (recA ⟨zero32, zero32, false, s.data.toList⟩)) w := by
  refine run_build w _ _ _ ?_
  rw [built_rec]
  unfold recA
  have z0 : (recC RecB.zero).length = 66 := recC_len RecB.zero_ok
  rw [fill_one _ _ (.string s) 3 65 [] rfl rfl (by omega)]
  have e65 : (recC RecB.zero).take 65 = kcs zero32 ++ (kcs zero32 ++ [.bool false]) := by kernel_rfl
  have e66 : (recC RecB.zero).drop (65 + 1) = [] := List.drop_of_length_le (by omega)
  rw [e65, e66]
  unfold recC
  simp only
  rw [← bs_eq (s := s) rfl]
  show some _ = some _
  simp

def ReadPost (q : RecB × Int) (w : World) (e : Ending) (w' : World) : Prop := e = .returned (.tuple #[.agg (recA q.1), .int .i64 q.2]) ∧ Below w.heap.size w w'
set_option maxHeartbeats 8000000 in
theorem read_core (dv : Value) (f a l : Int) (t : List UInt8) (z : Int) (w : World) (ht : t.length ≤ 67108864)
    (hR : Hid (∀ W, Below w.heap.size w W → Calls Try.prog 28 #[dv, .int .i64 f, .int .i64 a, .int .i64 l] W fun e w' => e = .returned (.tuple #[.string (bs t), .int .i64 z]) ∧ W = w')) :
    Calls Try.prog 25 #[dv, .agg (plC f a l)] w (ReadPost (readQ t z) w) := by
  obtain ⟨B, hB⟩ : ∃ B, B = w.heap.size := ⟨_, rfl⟩
  obtain ⟨w1, hw1⟩ : ∃ w1, w1 = w.alloc (.cells (plC f a l) 62) := ⟨_, rfl⟩
  obtain ⟨w2, hw2⟩ : ∃ w2, w2 = w1.alloc (.cells (recA RecB.zero) 30) := ⟨_, rfl⟩
  have hs1 : w1.heap.size = B + 1 := by rw [hw1, hB]; simp
  have K2 := Lib.hid (show Below w.heap.size w w2 by rw [hw2, hw1]; exact ((Below.refl _ w).alloc (Nat.le_refl _) _).alloc (by simp) _)
  have P2 := Lib.hid (show PlIn B f a l w2 by
    have h1 : PlIn B f a l w1 := by rw [hw1, hB]; exact heap_new w _
    rw [hw2]; exact h1.below ((Below.refl _ w1).alloc (Nat.le_refl _) _) (heap_lt h1))
  have N2 := Lib.hid (show RecIn (B + 1) 30 RecB.zero w2 by rw [hw2, ← hs1]; exact RecIn.new w1 _ _)
  have HB := Lib.hid hB
  have HW1 := Lib.hid hw1
  have HW2 := Lib.hid hw2
  have HZ := Lib.hid zeroA_eq
  have HBW := Lib.hid (show w.heap.size ≤ B + 1 by omega)
  have HC := Lib.hid (hR.out w2 K2.out)
  obtain ⟨c0, c1, c2⟩ := P2.out.cells
  clear hB hw1 hw2 hs1 hR
  go_enter Try.func25, Try.ntmps25
  go_upto_region 1 with (fail)
  rw [← HZ.out, ← HB.out, ← HW1.out, ← HW2.out]
  go_wp2_with fail
  refine HC.out.mono ?_
  rintro e w3 ⟨rfl, rfl⟩
  by_cases h1 : z = 0
  · subst h1
    have b1 : ((0 : Int) != 0) = false := by simp
    go_upto_region 4 with (fail)
    go_wp2_with fail
    refine (box_Open (bs t) w2 (by rw [bs_size]; omega)).mono ?_
    rintro e w4 ⟨rfl, k4⟩
    rw [bs_list]
    have N4 := Lib.hid (N2.out.below k4 N2.out.lt)
    have K4 := Lib.hid (K2.out.trans (k4.mono K2.out.size))
    clear k4
    have HQ := Lib.hid (openR_ok t)
    obtain ⟨q, hq⟩ : ∃ q, q = openR t := ⟨_, rfl⟩
    obtain ⟨y, hy⟩ : ∃ y, y = openE t := ⟨_, rfl⟩
    have HQQ := Lib.hid (show readQ t 0 = (q, y) by rw [readQ_yes, hq, hy])
    rw [← hq] at HQ
    rw [← hq, ← hy]
    clear hq hy
    obtain ⟨y1, y2⟩ := set_rec (w := w) N4.out RecB.zero_ok HQ.out K4.out HBW.out
    have Y1 := Lib.hid y1
    have Y2 := Lib.hid y2
    have T8 := Lib.hid (N4.out.there RecB.zero_ok 0 (recA q).size (by rw [recA_size HQ.out]; omega))
    have I8 := Lib.hid (info_recA HQ.out)
    clear y1 y2
    go_wp2_with (first | (with_reducible refine wpList_store_mid rfl 30 (.tmp 4) (.tmp 25) rfl (B + 1) 0 (recA q) rfl rfl T8.out I8.out (recA_one _) ?_) | fail)
    refine bodyPost_ret (v := .tuple #[.agg (recA q), .int .i64 y]) (results_cell_tmp rfl _ _ _ (B + 1) 0 (recC q) _ (.int .i64 y) rfl rfl Y1.out.range Try.underlying30 rfl (info_recL HQ.out)) rfl ⟨by rw [HQQ.out], Y2.out⟩
  · have b1 : (z != 0) = true := by simp [h1]
    go_upto_region 3 with (fail)
    obtain ⟨y1, y2⟩ := set_rec (w := w) N2.out RecB.zero_ok RecB.zero_ok K2.out HBW.out
    have Y1 := Lib.hid y1
    have Y2 := Lib.hid y2
    have T8 := Lib.hid (N2.out.there RecB.zero_ok 0 (recA RecB.zero).size (by rw [recA_size RecB.zero_ok]; omega))
    have I8 := Lib.hid (info_recA RecB.zero_ok)
    clear y1 y2
    go_wp2_with (first | (refine wpList_store_mid rfl 30 (.tmp 4) (.tmp 21) rfl (B + 1) 0 (recA RecB.zero) rfl rfl T8.out I8.out (recA_one _) ?_) | fail)
    refine bodyPost_ret (v := .tuple #[.agg (recA RecB.zero), .int .i64 z]) (results_cell_tmp rfl _ _ _ (B + 1) 0 (recC RecB.zero) _ (.int .i64 z) rfl rfl Y1.out.range Try.underlying30 rfl (info_recL RecB.zero_ok)) rfl ⟨by rw [readQ_no h1], Y2.out⟩
theorem box_Read {S : Nat → Prop} {w : World} {d : Nat} {s : DS} (h : Disk S w d s) (f a l : Int) (hw : (Lit.int .i64 f).wf = true) (ha : a ≤ 9223372036854775807) :
    Calls Try.prog 25 #[.pointer (some ⟨d, 0, none⟩), .agg (plC f a l)] w (ReadPost (readR s f a l) w) :=
  read_core _ f a l (s.read f a l).1 (s.read f a l).2 w (read_len h.fit f a l) (Lib.hid fun W k => disk_Read (h.below k) f a l hw ha)
theorem box_Read_nil (f a l : Int) (w : World) : Calls Try.prog 25 #[.pointer none, .agg (plC f a l)] w (ReadPost (RecB.zero, 8) w) := by
  have := read_core (.pointer none) f a l [] 8 w (by simp) (Lib.hid fun W k => disk_Read_nil f a l W)
  rwa [readQ_no (by decide)] at this
end Go.Proofs.Ytlpknhiagdhkcaa
/- Records that come in, by value and in slices. -/
set_option linter.unusedVariables false
set_option maxRecDepth 100000
namespace Go.Proofs.Ytlpknhiagdhkcaa
open Go.ChangeShapes Go.WideShapes Go.Deep
open Go.RowKit (Below)

/-- What is known of a slice of records. -/
structure InR (w : World) (a : Option Addr) (len cap : Nat) (T : List RecB) : Prop where
  lenT : len = T.length
  is : ∃ b off, (len = 0 ∨ a = some ⟨b, off, none⟩) ∧ ∀ k (hk : k < T.length), b < w.heap.size ∧ w.rangeAt b (off + k * 66) (recC T[k])
  big : len ≤ 9223372036854775807
  fit : ∀ r ∈ T, r.Ok ∧ r.body.length ≤ 9223372036854775807
theorem InR.below {w w' : World} {a : Option Addr} {len cap : Nat} {T : List RecB} (h : InR w a len cap T) (k : Below w.heap.size w w') : InR w' a len cap T := by
  obtain ⟨b, off, h1, h2⟩ := h.is
  refine ⟨h.lenT, ⟨b, off, h1, fun i hi => ?_⟩, h.big, h.fit⟩
  obtain ⟨h3, h4⟩ := h2 i hi
  exact ⟨Nat.lt_of_lt_of_le h3 k.size, rangeAt_below h4 k h3⟩
theorem InR.at {w : World} {a : Option Addr} {len cap : Nat} {T : List RecB} (h : InR w a len cap T) {i : Nat} (hi : i < len) : ∃ b off r, a = some ⟨b, off, none⟩ ∧ T[i]? = some r ∧ b < w.heap.size ∧ w.rangeAt b (off + i * 66) (recC r) ∧ r.Ok ∧ r.body.length ≤ 9223372036854775807 := by
  obtain ⟨b, off, h1, h2⟩ := h.is
  have hl : i < T.length := by rw [← h.lenT]; exact hi
  obtain ⟨h3, h4⟩ := h2 i hl
  obtain ⟨f1, f2⟩ := h.fit T[i] (List.getElem_mem hl)
  exact ⟨b, off, T[i], by rcases h1 with e | e; (omega); (exact e), List.getElem?_eq_getElem hl, h3, h4, f1, f2⟩
section
variable {H : Type} {enc : TypeId × Value → H} {w : World} {base : Nat} {spare : Nat → Bool} {held : Bool}
theorem byte_read {fuel : Nat} {cs : List Value} {x : DataW H × List MemPlace} (h : DataW.trod enc Try.prog w base spare held fuel 5 cs = some x) : ∃ b : UInt8, cs = [.int .u8 (b.toNat : Int)] := by
  obtain ⟨z, h1, _, h2⟩ := DataW.trod_int Try.underlying5 h
  simp [Lit.wf, IntKind.min, IntKind.max, IntKind.signed, IntKind.bits] at h2
  refine ⟨UInt8.ofNat z.toNat, ?_⟩
  rw [h1, ofNat_toNat]
  congr 2
  omega
theorem cells_key : Try.prog.cellsOf 23 = 32 := by kernel_rfl
theorem cells_u8 : Try.prog.cellsOf 5 = 1 := by kernel_rfl
theorem key_read {fuel : Nat} {cs : List Value} {x : DataW H × List MemPlace} (h : DataW.trod enc Try.prog w base spare held fuel 23 cs = some x) : ∃ l : List UInt8, l.length = 32 ∧ cs = kcs l := by
  obtain ⟨xs, m, rfl, hx, hlen, hn, hel⟩ := DataW.trod_array arr_key h
  rw [cells_key] at hlen
  rw [cells_u8] at hel
  have hv : ∀ i, i < 32 → ∃ b : UInt8, cs[i]? = some (.int .u8 (b.toNat : Int)) := fun i hi => by
    have h1 := hel i hi
    rw [List.getElem?_eq_getElem (show i < xs.length by omega), Nat.mul_one, List.drop_eq_getElem_cons (show i < cs.length by omega)] at h1
    obtain ⟨b, hb⟩ := byte_read h1
    have hb' : cs[i] = .int .u8 (b.toNat : Int) := by
      have h2 : [cs[i]] = [Value.int .u8 (b.toNat : Int)] := hb
      injection h2
    exact ⟨b, by rw [List.getElem?_eq_getElem (by omega), hb']⟩
  obtain ⟨V, hV⟩ := choose_lt (α := UInt8) hv
  refine ⟨(List.range 32).map V, by simp, ?_⟩
  apply List.ext_getElem?
  intro i
  by_cases hi : i < 32
  · rw [hV i hi]; simp [kcs, hi]
  · rw [List.getElem?_eq_none (by omega), List.getElem?_eq_none (by simp [kcs]; omega)]
theorem und_ref : Try.prog.underlying 25 = some (.struct (Try.prog.fieldsOf 25)) := by kernel_rfl
theorem cells_ref : Try.prog.cellsOf 25 = 66 := by kernel_rfl
theorem ref_fields : ∃ f0 f1 f2 f3 : Field, Try.prog.fieldsOf 25 = #[f0, f1, f2, f3] ∧ (f0.type = 23 ∧ f0.offset = 0) ∧ (f1.type = 23 ∧ f1.offset = 32) ∧ (f2.type = 4 ∧ f2.offset = 64) ∧ (f3.type = 9 ∧ f3.offset = 65) := by
  refine ⟨_, _, _, _, rfl, ?_, ?_, ?_, ?_⟩ <;> exact ⟨rfl, rfl⟩
/-- A record that comes in. -/
theorem rec_read {fuel : Nat} {cs : List Value} {x : DataW H × List MemPlace} (h : DataW.trod enc Try.prog w base spare held fuel 25 cs = some x) : ∃ r : RecB, cs = recC r ∧ r.Ok ∧ r.body.length ≤ 9223372036854775807 := by
  obtain ⟨f0, f1, f2, f3, hf, ⟨t0, o0⟩, ⟨t1, o1⟩, ⟨t2, o2⟩, ⟨t3, o3⟩⟩ := ref_fields
  obtain ⟨xs, n, _, _, hlen, hxl, hg⟩ := DataW.trod_struct und_ref h
  rw [hf] at hxl hg
  rw [cells_ref] at hlen
  have hx4 : xs.length = 4 := by simpa using hxl
  have g0 := hg 0 f0 rfl
  have g1 := hg 1 f1 rfl
  have g2 := hg 2 f2 rfl
  have g3 := hg 3 f3 rfl
  rw [List.getElem?_eq_getElem (by omega), t0, o0, cells_key] at g0
  rw [List.getElem?_eq_getElem (by omega), t1, o1, cells_key] at g1
  rw [List.getElem?_eq_getElem (by omega), t2, o2, show Try.prog.cellsOf 4 = 1 by kernel_rfl] at g2
  rw [List.getElem?_eq_getElem (by omega), t3, o3, show Try.prog.cellsOf 9 = 1 by kernel_rfl] at g3
  obtain ⟨k, k1, k2⟩ := key_read g0
  obtain ⟨b, b1, b2⟩ := key_read g1
  obtain ⟨p, p1, -⟩ := DataW.trod_bool Try.underlying4 g2
  obtain ⟨s, s1, -, s2⟩ := DataW.trod_string Try.underlying9 g3
  refine ⟨⟨k, b, p, s.data.toList⟩, ?_, ⟨k1, b1⟩, ?_⟩
  · unfold recC
    simp only
    rw [← k2, ← b2, show ([Value.bool p, Value.string (bs s.data.toList)] : List Value) = [Value.bool p] ++ [Value.string s] by rw [← bs_eq (s := s) rfl]; rfl, ← p1, ← s1, List.drop_zero]
    rw [show (cs.drop 65).take 1 = cs.drop 65 from List.take_of_length_le (by rw [List.length_drop]; omega)]
    rw [show (cs.drop 65) = (cs.drop 64).drop 1 by rw [List.drop_drop], List.take_append_drop, show cs.drop 64 = (cs.drop 32).drop 32 by rw [List.drop_drop], List.take_append_drop, List.take_append_drop]
  · have : s.data.toList.length = s.size := by rw [← Lib.size_eq]
    show s.data.toList.length ≤ _
    rw [this]
    unfold maxLen at s2
    exact s2
instance : Inhabited RecB := ⟨RecB.zero⟩
/-- A slice of records. -/
theorem recs_read {fuel : Nat} {cs : List Value} {x : DataW H × List MemPlace} (h : DataW.trod enc Try.prog w base spare held fuel 41 cs = some x) : ∃ a len cap T, cs = [.slice a len cap] ∧ InR w a len cap T := by
  rcases open_slice Try.underlying41 h with ⟨hcs, _⟩ | ⟨a, len, cap, m, n, D, Pl, hcs, _, hl, hm, hmm, _, hi⟩
  · exact ⟨none, 0, 0, [], hcs, rfl, ⟨0, 0, .inl rfl, fun k hk => absurd hk (by simp)⟩, by omega, fun x hx => by cases hx⟩
  · refine ⟨some a, len, cap, ?_⟩
    have hlm : len ≤ m := by rw [hmm]; split <;> omega
    have hcell : ∀ i, i < len → ∃ e : RecB, (∀ j, j < 66 → w.cell? ((a.add (i * 66)).add j) = (recC e)[j]?) ∧ e.Ok ∧ e.body.length ≤ 9223372036854775807 := by
      intro i hil
      obtain ⟨cs', hc, ht⟩ := hi i (by omega)
      rw [cells_ref] at hc
      obtain ⟨_, hcl, hat⟩ := World.cells?_some hc
      obtain ⟨e, rfl, he⟩ := rec_read ht
      exact ⟨e, fun j hj => hat j hj, he⟩
    obtain ⟨V, hV⟩ := choose_lt (α := RecB) hcell
    refine ⟨(List.range len).map V, hcs, by simp, ?_, by unfold maxLen at hm; omega, fun e he => ?_⟩
    · by_cases h0 : len = 0
      · subst h0
        exact ⟨0, 0, .inl rfl, fun k hk => absurd hk (by simp)⟩
      · obtain ⟨c0, q0, _⟩ := hV 0 (by omega)
        obtain ⟨v0, hv0⟩ : ∃ v, (recC (V 0))[0]? = some v := ⟨_, List.getElem?_eq_getElem (by rw [recC_len q0]; omega)⟩
        have c00 := c0 0 (by omega)
        rw [hv0] at c00
        have ha : ∃ b off, a = ⟨b, off, none⟩ := by
          obtain ⟨b, off, spot⟩ := a
          have := World.cell?_spot (v := v0) c00
          have hs : spot = none := by simpa [Addr.add] using this
          subst hs
          exact ⟨b, off, rfl⟩
        obtain ⟨b, off, rfl⟩ := ha
        refine ⟨b, off, .inr rfl, fun k hk => ?_⟩
        have hk' : k < len := by simpa using hk
        obtain ⟨h1, ok1, _⟩ := hV k hk'
        have hg : ((List.range len).map V)[k] = V k := by simp
        rw [hg]
        have r64 := h1 64 (by omega)
        rw [rec_64 ok1, addr_add, addr_add] at r64
        refine ⟨cell_block (v := .bool (V k).patch) r64, fun j v hj => ?_⟩
        have hjl : j < 66 := by rw [← recC_len ok1]; exact (List.getElem?_eq_some_iff.1 hj).1
        have := h1 j hjl
        rw [addr_add, addr_add] at this
        rw [this, hj]
    · obtain ⟨i, hi, rfl⟩ := List.mem_map.1 he
      exact (hV i (by simpa using hi)).2
end
theorem open_rec {H : Type} {enc : TypeId × Value → H} {W : World} {d : DataW H} {p : List MemPlace} {cs : Array Value} (h : DataW.Trod enc Try.prog W 0 (fun _ => true) true 25 (.agg cs) d p) : ∃ r : RecB, cs = recA r ∧ r.Ok ∧ r.body.length ≤ 9223372036854775807 := by
  obtain ⟨n, hn⟩ := h
  obtain ⟨r, hc, h2⟩ := rec_read hn
  exact ⟨r, by rw [← Array.toList_inj]; simpa [Value.cells, recA] using hc, h2⟩
theorem open_recs {H : Type} {enc : TypeId × Value → H} {W : World} {d : DataW H} {p : List MemPlace} {a : Option Addr} {len cap : Nat} (h : DataW.Trod enc Try.prog W 0 (fun _ => true) true 41 (.slice a len cap) d p) : ∃ T, InR W a len cap T := by
  obtain ⟨fuel, hf⟩ := h
  obtain ⟨a', len', cap', T, hcs, hi⟩ := recs_read hf
  simp [Value.cells] at hcs
  obtain ⟨rfl, rfl, rfl⟩ := hcs
  exact ⟨T, hi⟩
end Go.Proofs.Ytlpknhiagdhkcaa
