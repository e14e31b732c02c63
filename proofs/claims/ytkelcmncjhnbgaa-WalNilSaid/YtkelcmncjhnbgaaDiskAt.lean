/- What a disk tells; a disk whose blocks are from a number on: its calls. -/
import Derived.Test.YtkelcmncjhnbgaaDiskBackRun
set_option linter.unusedVariables false
set_option maxRecDepth 100000
namespace Go.Proofs.Ytkelcmncjhnbgaa
open Go.RowKit Go.Maps

theorem wf_hi {n : Int} (h : (Lit.int .i64 n).wf = true) : -9223372036854775808 ≤ n ∧ n ≤ 9223372036854775807 := by
  simp [Lit.wf, IntKind.min, IntKind.max, IntKind.signed, IntKind.bits] at h
  omega
theorem disk_Size {S : Nat → Prop} {w : World} {d : Nat} {s : DS} (h : Disk S w d s) (n : Int) (hw : (Lit.int .i64 n).wf = true) :
    Calls Try.prog 28 #[.pointer (some ⟨d, 0, none⟩), .int .i64 n] w fun e w' => e = .returned (.tuple #[.int .i64 (s.size n).1, .int .i64 (s.size n).2.1, .int .i64 (s.size n).2.2]) ∧ ∃ m, w' = w.drewN m := by
  obtain ⟨hF, mb, es, h, he⟩ := h
  cases hd : s.down with
  | true =>
    have hr : s.size n = (0, 0, 8) := by unfold DS.size; rw [if_pos hd]
    rw [hr]
    exact lay_Size_down h n hd
  | false =>
    cases hx : findL n s.fs with
    | none =>
      have hr : s.size n = (0, 0, 9) := by unfold DS.size; rw [if_neg (by rw [hd]; simp), hx]
      rw [hr]
      exact lay_Size_none h n hw hd (find_none he hx)
    | some f =>
      obtain ⟨e0, hfe, hef⟩ := find_some he hx
      have hr : s.size n = ((f.data.length : Int), f.t, 0) := by unfold DS.size; rw [if_neg (by rw [hd]; simp), hx]
      rw [hr, ← hef]
      exact lay_Size_some h n hw hd e0 hfe
theorem disk_Read {S : Nat → Prop} {w : World} {d : Nat} {s : DS} (h : Disk S w d s) (n i m : Int) (hw : (Lit.int .i64 n).wf = true) (hi : i ≤ 9223372036854775807) :
    Calls Try.prog 29 #[.pointer (some ⟨d, 0, none⟩), .int .i64 n, .int .i64 i, .int .i64 m] w fun e w' => e = .returned (.tuple #[.string (bs (s.read n i m).1), .int .i64 (s.read n i m).2]) ∧ w = w' := by
  obtain ⟨hF, mb, es, h, he⟩ := h
  cases hd : s.down with
  | true =>
    have hr : s.read n i m = ([], 8) := by unfold DS.read; rw [if_pos hd]
    rw [hr]
    exact lay_Read_down h n i m hd
  | false =>
    cases hx : findL n s.fs with
    | none =>
      have hr : s.read n i m = ([], 9) := by unfold DS.read; rw [if_neg (by rw [hd]; simp), hx]
      rw [hr]
      exact lay_Read_none h n i m hw hd (find_none he hx)
    | some f =>
      obtain ⟨e0, hfe, hef⟩ := find_some he hx
      have hlb := (len_bound hF hx).1
      by_cases hno : i < 0 ∨ m < 0 ∨ (f.data.length : Int) - i < m
      · have hr : s.read n i m = ([], 1) := by unfold DS.read; rw [if_neg (by rw [hd]; simp), hx]; simp only; rw [if_pos hno]
        rw [hr]
        rw [← hef] at hno hlb
        exact lay_Read_no h n i m hw hd e0 hfe (by omega) hi hno
      · have hr : s.read n i m = ((f.data.drop i.toNat).take m.toNat, 0) := by unfold DS.read; rw [if_neg (by rw [hd]; simp), hx]; simp only; rw [if_neg hno]
        obtain ⟨a, rfl⟩ := Int.eq_ofNat_of_zero_le (show 0 ≤ i by omega)
        obtain ⟨b, rfl⟩ := Int.eq_ofNat_of_zero_le (show 0 ≤ m by omega)
        rw [hr]
        rw [← hef] at hno hlb ⊢
        exact lay_Read h n a b hw hd e0 hfe (by omega) (by omega)
theorem disk_Steps {S : Nat → Prop} {w : World} {d : Nat} {s : DS} (h : Disk S w d s) : Calls Try.prog 40 #[.pointer (some ⟨d, 0, none⟩)] w fun e w' => e = .returned (.int .i64 (s.steps : Int)) ∧ w = w' := by
  obtain ⟨hF, mb, es, h, he⟩ := h
  exact lay_Steps h
theorem disk_Down {S : Nat → Prop} {w : World} {d : Nat} {s : DS} (h : Disk S w d s) : Calls Try.prog 41 #[.pointer (some ⟨d, 0, none⟩)] w fun e w' => e = .returned (.bool s.down) ∧ w = w' := by
  obtain ⟨hF, mb, es, h, he⟩ := h
  exact lay_Down h
/-- A disk whose blocks are from B on. -/
def DAt (B : Nat) (w : World) (d : Nat) (s : DS) : Prop := Disk (fun k => B ≤ k) w d s ∧ B ≤ w.heap.size
theorem DAt.did {B : Nat} {w w' : World} {d : Nat} {s : DS} {r : DS × Int} {e : Ending} (h : DAt B w d s) (k : Did (fun k => B ≤ k) d r w e w') : e = .returned (.int .i64 r.2) ∧ DAt B w' d r.1 ∧ Below B w w' := by
  obtain ⟨h1, h2, h3⟩ := k
  exact ⟨h1, ⟨h2.mono fun k _ hk => by rcases hk with x | x; (exact x); (exact Nat.le_trans h.2 x), Nat.le_trans h.2 h3.size⟩, h3.below (fun _ _ x => x) h.2⟩
theorem DAt.below {B : Nat} {w w' : World} {d : Nat} {s : DS} (h : DAt B w d s) (k : Below w.heap.size w w') : DAt B w' d s := ⟨h.1.below k, Nat.le_trans h.2 k.size⟩
theorem DAt.drewN {B : Nat} {w : World} {d : Nat} {s : DS} (h : DAt B w d s) (m : Nat) : DAt B (w.drewN m) d s := ⟨h.1.drewN m, h.2⟩
theorem new_fit (a b : Nat) (ha : a ≤ 1048576) (hb : b ≤ 1048576) : (DS.new a b).Fit :=
  ⟨ha, hb, Nat.zero_le _, Nat.zero_le _, by simp [DS.new], by simp [DS.new], .inl rfl, by simp [DS.new], by simp [DS.new]⟩
theorem at_New (a b : Nat) (w : World) (ha : a ≤ 1048576) (hb : b ≤ 1048576) :
    Calls Try.prog 17 #[.int .i64 (a : Int), .int .i64 (b : Int)] w fun e w' => ∃ d : Nat, e = .returned (.tuple #[.pointer (some ⟨d, 0, none⟩), .int .i64 0]) ∧ DAt w.heap.size w' d (DS.new a b) ∧ Below w.heap.size w w' :=
  (disk_New a b w ha hb).mono fun e w' ⟨d, mb, he, hl, hb'⟩ => ⟨d, he, ⟨⟨new_fit a b ha hb, mb, [], hl, rfl⟩, hb'.size⟩, hb'⟩
theorem at_Back {B : Nat} {w : World} {d : Nat} {s : DS} (h : DAt B w d s) (a : Option Addr) (len cap : Nat) (ks : List (Int × Int)) (hks : IsKeeps w a len ks) :
    Calls Try.prog 43 #[.pointer (some ⟨d, 0, none⟩), .slice a len cap] w fun e w' => e = .returned (.tuple #[]) ∧ DAt B w' d (s.back ks) ∧ Below B w w' :=
  (disk_Back h.1 a len cap ks hks).mono fun e w' ⟨he, h2, h3⟩ => ⟨he, ⟨h2.mono fun k _ hk => by rcases hk with x | x; (exact x); (exact Nat.le_trans h.2 x), Nat.le_trans h.2 h3.size⟩, h3.below (fun _ _ x => x) h.2⟩
theorem at_Arm {B : Nat} {w : World} {d : Nat} {s : DS} (h : DAt B w d s) (n : Int) (hn : n ≤ 9223372036854775807) :
    Calls Try.prog 42 #[.pointer (some ⟨d, 0, none⟩), .int .i64 n] w fun e w' => e = .returned (.tuple #[]) ∧ DAt B w' d (s.arm n) ∧ Below B w w' := by
  obtain ⟨⟨hF, mb, es, hl, he⟩, hB⟩ := h
  refine (lay_Arm hl n).mono fun e w' ⟨h1, h2, h3⟩ => ⟨h1, ⟨⟨⟨hF.r0, hF.r1, hF.u0, hF.u1, hF.nod, hF.file, hF.root, ?_, ?_⟩, mb, es, h2, he⟩, Nat.le_trans hB h3.size⟩, h3.below (fun k _ hk => by rw [hk]; exact hl.sd) hB⟩
  · show -1 ≤ max n (-1)
    omega
  · show max n (-1) ≤ 9223372036854775807
    omega
theorem at_Make {B : Nat} {w : World} {d : Nat} {s : DS} (h : DAt B w d s) (t n : Int) (hw : (Lit.int .i64 n).wf = true) (hs : s.steps < 4611686018427387904) :
    Calls Try.prog 21 #[.pointer (some ⟨d, 0, none⟩), .int .i64 t, .int .i64 n] w fun e w' => e = .returned (.int .i64 (s.make t n).2) ∧ DAt B w' d (s.make t n).1 ∧ Below B w w' :=
  (disk_Make h.1 t n hw (wf_hi hw).2 hs).mono fun e w' hd => h.did hd
theorem at_Add {B : Nat} {w : World} {d : Nat} {s : DS} (h : DAt B w d s) (n : Int) (b : List UInt8) (hw : (Lit.int .i64 n).wf = true) (hs : s.steps < 4611686018427387904) (hb : b.length ≤ 2305843009213693952) :
    Calls Try.prog 22 #[.pointer (some ⟨d, 0, none⟩), .int .i64 n, .string (bs b)] w fun e w' => e = .returned (.int .i64 (s.add n b).2) ∧ DAt B w' d (s.add n b).1 ∧ Below B w w' :=
  (disk_Add h.1 n b hw hs hb).mono fun e w' hd => h.did hd
theorem at_Sync {B : Nat} {w : World} {d : Nat} {s : DS} (h : DAt B w d s) (n : Int) (hw : (Lit.int .i64 n).wf = true) (hs : s.steps < 4611686018427387904) :
    Calls Try.prog 51 #[.pointer (some ⟨d, 0, none⟩), .int .i64 n] w fun e w' => e = .returned (.int .i64 (s.sync n).2) ∧ DAt B w' d (s.sync n).1 ∧ Below B w w' :=
  (disk_Sync h.1 n hw hs).mono fun e w' hd => h.did hd
end Go.Proofs.Ytkelcmncjhnbgaa
