/- What a disk tells; the document's examples. -/
import Derived.Test.YtgmfcjmbapmagaaDiskOps
set_option linter.unusedVariables false
namespace Go.Proofs.Ytgmfcjmbapmagaa
open Go.RowKit Go.Maps

theorem disk_Size {S : Nat → Prop} {w : World} {d : Nat} {s : DS} (h : Disk S w d s) (n : Int) (hw : (Lit.int .i64 n).wf = true) :
    Calls Try.prog 14 #[.pointer (some ⟨d, 0, none⟩), .int .i64 n] w fun e w' => e = .returned (.tuple #[.int .i64 (s.size n).1, .int .i64 (s.size n).2.1, .int .i64 (s.size n).2.2]) ∧ ∃ m, w' = w.drewN m := by
  obtain ⟨hF, mb, es, h, he⟩ := h
  cases hd : s.down with
  | true =>
    have hr : s.size n = (0, 0, 8) := by unfold DS.size; rw [if_pos hd]
    rw [hr]
    exact lay_Size_down h n hd
  | false =>
    cases hx : findL n s.fs with
    | none =>
      have hr : s.size n = (0, 0, 9) := by unfold DS.size; rw [if_neg (by rw [hd]; simp), hx]
      rw [hr]
      exact lay_Size_none h n hw hd (find_none he hx)
    | some f =>
      obtain ⟨e0, hfe, hef⟩ := find_some he hx
      have hr : s.size n = ((f.data.length : Int), f.t, 0) := by unfold DS.size; rw [if_neg (by rw [hd]; simp), hx]
      rw [hr, ← hef]
      exact lay_Size_some h n hw hd e0 hfe
theorem disk_Read {S : Nat → Prop} {w : World} {d : Nat} {s : DS} (h : Disk S w d s) (n i m : Int) (hw : (Lit.int .i64 n).wf = true) (hi : i ≤ 9223372036854775807) :
    Calls Try.prog 15 #[.pointer (some ⟨d, 0, none⟩), .int .i64 n, .int .i64 i, .int .i64 m] w fun e w' => e = .returned (.tuple #[.string (bs (s.read n i m).1), .int .i64 (s.read n i m).2]) ∧ w = w' := by
  obtain ⟨hF, mb, es, h, he⟩ := h
  cases hd : s.down with
  | true =>
    have hr : s.read n i m = ([], 8) := by unfold DS.read; rw [if_pos hd]
    rw [hr]
    exact lay_Read_down h n i m hd
  | false =>
    cases hx : findL n s.fs with
    | none =>
      have hr : s.read n i m = ([], 9) := by unfold DS.read; rw [if_neg (by rw [hd]; simp), hx]
      rw [hr]
      exact lay_Read_none h n i m hw hd (find_none he hx)
    | some f =>
      obtain ⟨e0, hfe, hef⟩ := find_some he hx
      have hlb := (len_bound hF hx).1
      by_cases hno : i < 0 ∨ m < 0 ∨ (f.data.length : Int) - i < m
      · have hr : s.read n i m = ([], 1) := by unfold DS.read; rw [if_neg (by rw [hd]; simp), hx]; simp only; rw [if_pos hno]
        rw [hr]
        rw [← hef] at hno hlb
        exact lay_Read_no h n i m hw hd e0 hfe (by omega) hi hno
      · have hr : s.read n i m = ((f.data.drop i.toNat).take m.toNat, 0) := by unfold DS.read; rw [if_neg (by rw [hd]; simp), hx]; simp only; rw [if_neg hno]
        obtain ⟨a, rfl⟩ := Int.eq_ofNat_of_zero_le (show 0 ≤ i by omega)
        obtain ⟨b, rfl⟩ := Int.eq_ofNat_of_zero_le (show 0 ≤ m by omega)
        rw [hr]
        rw [← hef] at hno hlb ⊢
        exact lay_Read h n a b hw hd e0 hfe (by omega) (by omega)
theorem disk_Root {S : Nat → Prop} {w : World} {d : Nat} {s : DS} (h : Disk S w d s) : Calls Try.prog 23 #[.pointer (some ⟨d, 0, none⟩)] w fun e w' => e = .returned (.int .i64 s.root) ∧ w = w' := by
  obtain ⟨hF, mb, es, h, he⟩ := h
  exact lay_Root h
theorem disk_Steps {S : Nat → Prop} {w : World} {d : Nat} {s : DS} (h : Disk S w d s) : Calls Try.prog 20 #[.pointer (some ⟨d, 0, none⟩)] w fun e w' => e = .returned (.int .i64 (s.steps : Int)) ∧ w = w' := by
  obtain ⟨hF, mb, es, h, he⟩ := h
  exact lay_Steps h
theorem disk_Down {S : Nat → Prop} {w : World} {d : Nat} {s : DS} (h : Disk S w d s) : Calls Try.prog 18 #[.pointer (some ⟨d, 0, none⟩)] w fun e w' => e = .returned (.bool s.down) ∧ w = w' := by
  obtain ⟨hF, mb, es, h, he⟩ := h
  exact lay_Down h
theorem disk_Used {S : Nat → Prop} {w : World} {d : Nat} {s : DS} (h : Disk S w d s) (t : Int) (ht : t = 0 ∨ t = 1) : Calls Try.prog 21 #[.pointer (some ⟨d, 0, none⟩), .int .i64 t] w fun e w' => e = .returned (.int .i64 (s.used t : Int)) ∧ w = w' := by
  obtain ⟨hF, mb, es, h, he⟩ := h
  have := lay_Used h t
  have hv : tierI t s.dc.u0 s.dc.u1 = (s.used t : Int) := by
    unfold tierI DS.used DS.dc
    rcases ht with rfl | rfl <;> simp
  rw [hv] at this
  exact this
/-- A disk whose blocks are from B on. -/
def At (B : Nat) (w : World) (d : Nat) (s : DS) : Prop := Disk (fun k => B ≤ k) w d s ∧ B ≤ w.heap.size
theorem At.did {B : Nat} {w w' : World} {d : Nat} {s : DS} {r : DS × Int} {e : Ending} (h : At B w d s) (k : Did (fun k => B ≤ k) d r w e w') : e = .returned (.int .i64 r.2) ∧ At B w' d r.1 ∧ Below B w w' := by
  obtain ⟨h1, h2, h3⟩ := k
  exact ⟨h1, ⟨h2.mono fun k _ hk => by rcases hk with x | x; (exact x); (exact Nat.le_trans h.2 x), Nat.le_trans h.2 h3.size⟩, h3.below (fun _ _ x => x) h.2⟩
theorem At.below {B : Nat} {w w' : World} {d : Nat} {s : DS} (h : At B w d s) (k : Below w.heap.size w w') : At B w' d s := ⟨h.1.below k, Nat.le_trans h.2 k.size⟩
theorem At.drewN {B : Nat} {w : World} {d : Nat} {s : DS} (h : At B w d s) (m : Nat) : At B (w.drewN m) d s := ⟨h.1.drewN m, h.2⟩
theorem new_fit (a b : Nat) (ha : a ≤ 1048576) (hb : b ≤ 1048576) : (DS.new a b).Fit :=
  ⟨ha, hb, Nat.zero_le _, Nat.zero_le _, by simp [DS.new], by simp [DS.new], .inl rfl, by simp [DS.new], by simp [DS.new]⟩
theorem at_New (a b : Nat) (w : World) (ha : a ≤ 1048576) (hb : b ≤ 1048576) :
    Calls Try.prog 10 #[.int .i64 (a : Int), .int .i64 (b : Int)] w fun e w' => ∃ d : Nat, e = .returned (.tuple #[.pointer (some ⟨d, 0, none⟩), .int .i64 0]) ∧ At w.heap.size w' d (DS.new a b) ∧ Below w.heap.size w w' :=
  (disk_New a b w ha hb).mono fun e w' ⟨d, mb, he, hl, hb'⟩ => ⟨d, he, ⟨⟨new_fit a b ha hb, mb, [], hl, rfl⟩, hb'.size⟩, hb'⟩
theorem at_Back {B : Nat} {w : World} {d : Nat} {s : DS} (h : At B w d s) (a : Option Addr) (len cap : Nat) (ks : List (Int × Int)) (hks : IsKeeps w a len ks) :
    Calls Try.prog 12 #[.pointer (some ⟨d, 0, none⟩), .slice a len cap] w fun e w' => e = .returned (.tuple #[]) ∧ At B w' d (s.back ks) ∧ Below B w w' :=
  (disk_Back h.1 a len cap ks hks).mono fun e w' ⟨he, h2, h3⟩ => ⟨he, ⟨h2.mono fun k _ hk => by rcases hk with x | x; (exact x); (exact Nat.le_trans h.2 x), Nat.le_trans h.2 h3.size⟩, h3.below (fun _ _ x => x) h.2⟩
theorem at_Arm {B : Nat} {w : World} {d : Nat} {s : DS} (h : At B w d s) (n : Int) (hn : n ≤ 9223372036854775807) :
    Calls Try.prog 19 #[.pointer (some ⟨d, 0, none⟩), .int .i64 n] w fun e w' => e = .returned (.tuple #[]) ∧ At B w' d (s.arm n) ∧ Below B w w' := by
  obtain ⟨⟨hF, mb, es, hl, he⟩, hB⟩ := h
  refine (lay_Arm hl n).mono fun e w' ⟨h1, h2, h3⟩ => ⟨h1, ⟨⟨⟨hF.r0, hF.r1, hF.u0, hF.u1, hF.nod, hF.file, hF.root, ?_, ?_⟩, mb, es, h2, he⟩, Nat.le_trans hB h3.size⟩, h3.below (fun k _ hk => by rw [hk]; exact hl.sd) hB⟩
  · show -1 ≤ max n (-1)
    omega
  · show max n (-1) ≤ 9223372036854775807
    omega
theorem at_Make {B : Nat} {w : World} {d : Nat} {s : DS} (h : At B w d s) (t n : Int) (hw : (Lit.int .i64 n).wf = true) (hs : s.steps < 4611686018427387904) :
    Calls Try.prog 13 #[.pointer (some ⟨d, 0, none⟩), .int .i64 t, .int .i64 n] w fun e w' => e = .returned (.int .i64 (s.make t n).2) ∧ At B w' d (s.make t n).1 ∧ Below B w w' :=
  (disk_Make h.1 t n hw (wf_hi hw).2 hs).mono fun e w' hd => h.did hd
theorem at_Add {B : Nat} {w : World} {d : Nat} {s : DS} (h : At B w d s) (n : Int) (b : List UInt8) (hw : (Lit.int .i64 n).wf = true) (hs : s.steps < 4611686018427387904) (hb : b.length ≤ 2305843009213693952) :
    Calls Try.prog 16 #[.pointer (some ⟨d, 0, none⟩), .int .i64 n, .string (bs b)] w fun e w' => e = .returned (.int .i64 (s.add n b).2) ∧ At B w' d (s.add n b).1 ∧ Below B w w' :=
  (disk_Add h.1 n b hw hs hb).mono fun e w' hd => h.did hd
theorem at_Sync {B : Nat} {w : World} {d : Nat} {s : DS} (h : At B w d s) (n : Int) (hw : (Lit.int .i64 n).wf = true) (hs : s.steps < 4611686018427387904) :
    Calls Try.prog 17 #[.pointer (some ⟨d, 0, none⟩), .int .i64 n] w fun e w' => e = .returned (.int .i64 (s.sync n).2) ∧ At B w' d (s.sync n).1 ∧ Below B w w' :=
  (disk_Sync h.1 n hw hs).mono fun e w' hd => h.did hd
theorem at_Drop {B : Nat} {w : World} {d : Nat} {s : DS} (h : At B w d s) (n : Int) (hw : (Lit.int .i64 n).wf = true) (hs : s.steps < 4611686018427387904) :
    Calls Try.prog 24 #[.pointer (some ⟨d, 0, none⟩), .int .i64 n] w fun e w' => e = .returned (.int .i64 (s.drop n).2) ∧ At B w' d (s.drop n).1 ∧ Below B w w' :=
  (disk_Drop h.1 n hw hs).mono fun e w' hd => h.did hd
theorem at_do {B : Nat} {w : World} {d : Nat} {s : DS} (h : At B w d s) (o : OP) (ho : o.Ok w) (hs : s.steps < 4611686018427387904) (ht : o.text.length ≤ 2305843009213693952) :
    Calls Try.prog 11 #[.pointer (some ⟨d, 0, none⟩), .agg o.vals] w fun e w' => e = .returned (.int .i64 (doS s o).2) ∧ At B w' d (doS s o).1 ∧ Below B w w' :=
  (law_do h.1 o ho hs ht).mono fun e w' hd => h.did hd

/-! the examples -/
def a1 : DS := ⟨3, 0, [⟨1, 0, [], false, 0⟩], 0, 1, -1, false⟩
def a2 : DS := ⟨3, 0, [⟨1, 0, [97, 98, 99], false, 0⟩], 0, 2, -1, false⟩
def a3 : DS := ⟨3, 0, [⟨1, 0, [97, 98, 99], true, 3⟩], 0, 3, -1, false⟩
def a4 : DS := ⟨3, 0, [⟨1, 0, [97, 98, 99, 100, 101], true, 3⟩], 0, 4, -1, false⟩
def a5 : DS := ⟨3, 0, [⟨1, 0, [97, 98, 99, 100], true, 4⟩], 0, 4, -1, false⟩
theorem ev1 : (DS.new 3 0).make 0 1 = (a1, 0) := by rfl
theorem ev2 : a1.add 1 [97, 98, 99] = (a2, 0) := by rfl
theorem ev3 : a2.sync 1 = (a3, 0) := by rfl
theorem ev4 : a3.add 1 [100, 101] = (a4, 0) := by rfl
theorem ev5 : a4.back [(1, 1)] = a5 := by rfl
theorem ev6 : a5.read 1 0 4 = ([97, 98, 99, 100], 0) := by rfl
theorem ev7 : a5.used 0 = 2 := by rfl
theorem ev8 : a5.make 1 2 = (a5, 7) := by rfl
theorem wf1 : (Lit.int .i64 1).wf = true := by decide
theorem wf2 : (Lit.int .i64 2).wf = true := by decide
theorem bs_abc : bs [97, 98, 99] = ⟨#[97, 98, 99]⟩ := rfl
theorem bs_de : bs [100, 101] = ⟨#[100, 101]⟩ := rfl
theorem keeps11 (w : World) : IsKeeps (w.alloc (.cells #[.int .i64 1, .int .i64 1] 53)) (some ⟨w.heap.size, 0, none⟩) 1 [(1, 1)] := by
  refine ⟨rfl, by omega, w.heap.size, 0, .inr rfl, fun k hk => ?_⟩
  have hk0 : k = 0 := by simpa using hk
  subst hk0
  have h := heap_new w (.cells #[.int .i64 1, .int .i64 1] 53)
  exact ⟨heap_lt h, by unfold World.cell?; rw [h]; rfl, by unfold World.cell?; rw [h]; rfl, by decide, by decide⟩
set_option maxHeartbeats 1600000 in
set_option maxRecDepth 100000 in
theorem law_awake (w : World) : Calls Try.prog 8 #[] w fun e w' => e = .returned (.bool true) ∧ Below w.heap.size w w' := by
  have c0 := at_New 3 0 w (by omega) (by omega)
  have c1 : ∀ w1 d, At w.heap.size w1 d (DS.new 3 0) → Calls Try.prog 13 #[.pointer (some ⟨d, 0, none⟩), .int .i64 0, .int .i64 1] w1 fun e w' => e = .returned (.int .i64 0) ∧ At w.heap.size w' d a1 ∧ Below w.heap.size w1 w' := fun w1 d h => by
    have := at_Make h 0 1 wf1 (by show (0 : Nat) < _; omega)
    rw [ev1] at this
    exact this
  have c2 : ∀ w1 d, At w.heap.size w1 d a1 → Calls Try.prog 16 #[.pointer (some ⟨d, 0, none⟩), .int .i64 1, .string ⟨#[97, 98, 99]⟩] w1 fun e w' => e = .returned (.int .i64 0) ∧ At w.heap.size w' d a2 ∧ Below w.heap.size w1 w' := fun w1 d h => by
    have := at_Add h 1 [97, 98, 99] wf1 (by show (1 : Nat) < _; omega) (by simp)
    rw [ev2] at this
    exact this
  have c3 : ∀ w1 d, At w.heap.size w1 d a2 → Calls Try.prog 17 #[.pointer (some ⟨d, 0, none⟩), .int .i64 1] w1 fun e w' => e = .returned (.int .i64 0) ∧ At w.heap.size w' d a3 ∧ Below w.heap.size w1 w' := fun w1 d h => by
    have := at_Sync h 1 wf1 (by show (2 : Nat) < _; omega)
    rw [ev3] at this
    exact this
  have c4 : ∀ w1 d, At w.heap.size w1 d a3 → Calls Try.prog 16 #[.pointer (some ⟨d, 0, none⟩), .int .i64 1, .string ⟨#[100, 101]⟩] w1 fun e w' => e = .returned (.int .i64 0) ∧ At w.heap.size w' d a4 ∧ Below w.heap.size w1 w' := fun w1 d h => by
    have := at_Add h 1 [100, 101] wf1 (by show (3 : Nat) < _; omega) (by simp)
    rw [ev4] at this
    exact this
  have c5 : ∀ w1 d, At w.heap.size w1 d a4 → Calls Try.prog 12 #[.pointer (some ⟨d, 0, none⟩), .slice (some ⟨w1.heap.size, 0, none⟩) 1 1] (w1.alloc (.cells #[.int .i64 1, .int .i64 1] 53)) fun e w' => e = .returned (.tuple #[]) ∧ At w.heap.size w' d a5 ∧ Below w.heap.size w1 w' := fun w1 d h => by
    have hb : Below w1.heap.size w1 (w1.alloc (.cells #[.int .i64 1, .int .i64 1] 53)) := (Below.refl _ _).alloc (Nat.le_refl _) _
    have := at_Back (h.below hb) _ _ 1 _ (keeps11 w1)
    rw [ev5] at this
    exact this.mono fun e w' ⟨x, y, z⟩ => ⟨x, y, (hb.mono h.2).trans z⟩
  have c6 : ∀ w1 d, At w.heap.size w1 d a5 → Calls Try.prog 15 #[.pointer (some ⟨d, 0, none⟩), .int .i64 1, .int .i64 0, .int .i64 4] w1 fun e w' => e = .returned (.tuple #[.string ⟨#[97, 98, 99, 100]⟩, .int .i64 0]) ∧ w1 = w' := fun w1 d h => by
    have := disk_Read h.1 1 0 4 wf1 (by omega)
    rw [ev6] at this
    exact this
  have c7 : ∀ w1 d, At w.heap.size w1 d a5 → Calls Try.prog 21 #[.pointer (some ⟨d, 0, none⟩), .int .i64 0] w1 fun e w' => e = .returned (.int .i64 2) ∧ w1 = w' := fun w1 d h => by
    have := disk_Used h.1 0 (.inl rfl)
    rw [ev7] at this
    exact this
  have c8 : ∀ w1 d, At w.heap.size w1 d a5 → Calls Try.prog 13 #[.pointer (some ⟨d, 0, none⟩), .int .i64 1, .int .i64 2] w1 fun e w' => e = .returned (.int .i64 7) ∧ At w.heap.size w' d a5 ∧ Below w.heap.size w1 w' := fun w1 d h => by
    have := at_Make h 1 2 wf2 (by show (4 : Nat) < _; omega)
    rw [ev8] at this
    exact this
  go_enter Try.func8, Try.ntmps8
  go_wp2_with fail
  refine c0.mono ?_
  rintro e w1 ⟨d, rfl, h1, b1⟩
  have H1 := Lib.hid h1
  have B1 := Lib.hid b1
  clear h1 b1
  go_wp2_with fail
  refine (c1 w1 d H1.out).mono ?_
  rintro e w2 ⟨rfl, h2, b2⟩
  have H2 := Lib.hid h2
  have B2 := Lib.hid (B1.out.trans b2)
  clear h2 b2
  go_wp2_with fail
  refine (c2 w2 d H2.out).mono ?_
  rintro e w3 ⟨rfl, h3, b3⟩
  have H3 := Lib.hid h3
  have B3 := Lib.hid (B2.out.trans b3)
  clear h3 b3
  go_wp2_with fail
  refine (c3 w3 d H3.out).mono ?_
  rintro e w4 ⟨rfl, h4, b4⟩
  have H4 := Lib.hid h4
  have B4 := Lib.hid (B3.out.trans b4)
  clear h4 b4
  go_wp2_with fail
  refine (c4 w4 d H4.out).mono ?_
  rintro e w5 ⟨rfl, h5, b5⟩
  have H5 := Lib.hid h5
  have B5 := Lib.hid (B4.out.trans b5)
  clear h5 b5
  go_wp2_with fail
  refine (c5 w5 d H5.out).mono ?_
  rintro e w6 ⟨rfl, h6, b6⟩
  have H6 := Lib.hid h6
  have B6 := Lib.hid (B5.out.trans b6)
  clear h6 b6
  go_wp2_with fail
  refine (c6 w6 d H6.out).mono ?_
  rintro e w7 ⟨rfl, rfl⟩
  go_wp2_with fail
  refine (c7 w6 d H6.out).mono ?_
  rintro e w7 ⟨rfl, rfl⟩
  go_wp2_with fail
  refine (c8 w6 d H6.out).mono ?_
  rintro e w7 ⟨rfl, h7, b7⟩
  have B7 := Lib.hid (B6.out.trans b7)
  clear h7 b7
  go_wp2
  go_ret
  exact ⟨rfl, B7.out⟩
end Go.Proofs.Ytgmfcjmbapmagaa
