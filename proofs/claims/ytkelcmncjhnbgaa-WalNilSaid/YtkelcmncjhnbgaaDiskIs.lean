/- A disk in memory that is as the plain one: what its calls do. -/
import Derived.Test.YtkelcmncjhnbgaaDiskFile
set_option linter.unusedVariables false
set_option maxRecDepth 100000
namespace Go.Proofs.Ytkelcmncjhnbgaa
open Go.RowKit Go.Maps

def DS.dc (s : DS) : DC := ⟨s.r0, s.r1, usedL 0 s.fs, usedL 1 s.fs, s.root, s.steps, s.left, s.down⟩
/-- In block d there is a disk that is as s; its blocks are of S. -/
def Disk (S : Nat → Prop) (w : World) (d : Nat) (s : DS) : Prop := s.Fit ∧ ∃ mb es, Lay S w d mb es s.dc ∧ es.map (·.f) = s.fs
def New (S : Nat → Prop) (w : World) : Nat → Prop := fun k => S k ∨ w.heap.size ≤ k
/-- What a call leaves: an answer, the disk, and all that isn't of it as it was. -/
def Did (S : Nat → Prop) (d : Nat) (r : DS × Int) (w : World) (e : Ending) (w' : World) : Prop := e = .returned (.int .i64 r.2) ∧ Disk (New S w) w' d r.1 ∧ Only S w w'

theorem Disk.mono {S S' : Nat → Prop} {w : World} {d : Nat} {s : DS} (h : Disk S w d s) (hS : ∀ k, k < w.heap.size → S k → S' k) : Disk S' w d s := by
  obtain ⟨hF, mb, es, h, he⟩ := h
  exact ⟨hF, mb, es, h.mono hS, he⟩
theorem Disk.tight {S : Nat → Prop} {w : World} {d : Nat} {s : DS} (h : Disk S w d s) : Disk (fun k => S k ∧ k < w.heap.size) w d s := h.mono fun k hk hs => ⟨hs, hk⟩
theorem Disk.only {S T : Nat → Prop} {w w' : World} {d : Nat} {s : DS} (h : Disk S w d s) (k : Only T w w') (hT : ∀ j, j < w.heap.size → S j → ¬ T j) : Disk S w' d s := by
  obtain ⟨hF, mb, es, h, he⟩ := h
  exact ⟨hF, mb, es, h.only k hT, he⟩
theorem Disk.below {S : Nat → Prop} {w w' : World} {d : Nat} {s : DS} (h : Disk S w d s) (k : Below w.heap.size w w') : Disk S w' d s :=
  h.only (Only.of_below (S := fun _ => False) k fun j hj hB => absurd hj (by omega)) fun _ _ _ x => x
theorem Disk.drewN {S : Nat → Prop} {w : World} {d : Nat} {s : DS} (h : Disk S w d s) (n : Nat) : Disk S (w.drewN n) d s := by
  obtain ⟨hF, mb, es, h, he⟩ := h
  exact ⟨hF, mb, es, h.drewN n, he⟩
theorem Disk.lt {S : Nat → Prop} {w : World} {d : Nat} {s : DS} (h : Disk S w d s) : d < w.heap.size ∧ S d := by
  obtain ⟨hF, mb, es, h, he⟩ := h
  exact ⟨heap_lt h.obj, h.sd⟩
theorem New.old {S : Nat → Prop} {w : World} : ∀ k, S k → New S w k := fun _ h => .inl h
theorem Lay.new {S : Nat → Prop} {w w' : World} {d mb : Nat} {es : List DE} {c : DC} (h : Lay S w d mb es c) : Lay (New S w') w d mb es c := h.mono fun _ _ x => .inl x

/-- The file of a number: in memory where the plain disk has one. -/
theorem find_some {es : List DE} {fs : List DF} (he : es.map (·.f) = fs) {n : Int} {f : DF} (h : findL n fs = some f) : ∃ e, findE n es = some e ∧ e.f = f := by
  rw [← he, findE_L] at h
  cases hx : findE n es with
  | none => rw [hx] at h; cases h
  | some e => rw [hx] at h; exact ⟨e, rfl, by injection h⟩
theorem find_none {es : List DE} {fs : List DF} (he : es.map (·.f) = fs) {n : Int} (h : findL n fs = none) : findE n es = none := by
  rw [← he, findE_L] at h
  cases hx : findE n es with
  | none => rfl
  | some e => rw [hx] at h; cases h

/-! ### the plain disks stay fit -/
namespace DS.Fit
variable {s : DS}
theorem off (h : s.Fit) : s.off.Fit := ⟨h.r0, h.r1, h.u0, h.u1, h.nod, h.file, h.root, h.l0, h.l1⟩
theorem tick (h : s.Fit) (hl : s.left ≠ 0) : s.tick.Fit :=
  ⟨h.r0, h.r1, h.u0, h.u1, h.nod, h.file, h.root, by have := h.l0; unfold DS.tick; simp only; split <;> omega, by have := h.l1; unfold DS.tick; simp only; split <;> omega⟩
/-- One file turned. -/
theorem upd (h : s.Fit) {n : Int} {f : DF} (g : DF → DF) (hf : findL n s.fs = some f) (hn : ∀ x, (g x).n = x.n) (ht : ∀ x, (g x).t = x.t) (hg : ∀ x ∈ s.fs, x.n = n → (g x).sb ≤ (g x).data.length ∧ ((g x).sure = false → (g x).sb = 0)) (hr : ∀ x, x.sure = true → (g x).sure = true)
    (hu : s.used f.t + (blk (g f).data.length) ≤ s.room f.t + blk f.data.length) : ({ s with fs := updL n g s.fs } : DS).Fit := by
  have huse := fun t => used_upd t n g ht h.nod hf
  have hft := (h.file f (findL_mem hf).1).1
  refine ⟨h.r0, h.r1, ?_, ?_, ?_, ?_, ?_, h.l0, h.l1⟩
  · have := huse 0
    have h0 := h.u0
    simp only at this ⊢
    unfold DS.used DS.room at hu
    rcases hft with e | e <;> simp [e] at this hu <;> omega
  · have := huse 1
    have h0 := h.u1
    simp only at this ⊢
    unfold DS.used DS.room at hu
    rcases hft with e | e <;> simp [e] at this hu <;> omega
  · show ((updL n g s.fs).map (·.n)).Nodup
    rw [upd_map_n n g hn]
    exact h.nod
  · intro x hx
    rcases upd_mem hx with ⟨y, hy, hyn, rfl⟩ | ⟨hy, _⟩
    · obtain ⟨a, b, c, d⟩ := h.file y hy
      obtain ⟨e1, e2⟩ := hg y hy hyn
      exact ⟨by rw [ht]; exact a, e1, e2, by rw [hn]; exact d⟩
    · exact h.file x hy
  · rcases h.root with e | ⟨y, hy, hyn, hys⟩
    · exact .inl e
    · refine .inr ⟨_, mem_upd hy, ?_, ?_⟩
      · split
        · rw [hn]; exact hyn
        · exact hyn
      · split
        · exact hr y hys
        · exact hys
end DS.Fit

theorem disk_Sync_nil (n : Int) (w : World) : Calls Try.prog 51 #[.pointer none, .int .i64 n] w fun e w' => e = .returned (.int .i64 8) ∧ w = w' := by
  have hF := disk_find_nil n w
  go_enter Try.func51, Try.ntmps51
  go_wp2_with (go_at_call 48; refine hF.mono ?_; rintro e w' ⟨rfl, rfl⟩)
  go_ret
  exact ⟨rfl, rfl⟩
theorem disk_Sync {S : Nat → Prop} {w : World} {d : Nat} {s : DS} (h : Disk S w d s) (n : Int) (hw : (Lit.int .i64 n).wf = true) (hs : s.steps < 4611686018427387904) :
    Calls Try.prog 51 #[.pointer (some ⟨d, 0, none⟩), .int .i64 n] w (Did S d (s.sync n) w) := by
  obtain ⟨hF, mb, es, h, he⟩ := h
  cases hd : s.down with
  | true =>
    have hr : s.sync n = (s, 8) := by unfold DS.sync; rw [if_pos hd]
    have hf := lay_find_down h n hd
    have HR := Lib.hid (show Did S d (s.sync n) w (.returned (.int .i64 8)) w by rw [hr]; exact ⟨rfl, ⟨hF, mb, es, h.new, he⟩, Only.refl _ _⟩)
    clear hr h he hd hF
    go_enter Try.func51, Try.ntmps51
    go_wp2_with (go_at_call 48; refine hf.mono ?_; rintro e w' ⟨rfl, rfl⟩)
    go_ret
    exact HR.out
  | false =>
    cases hx : findL n s.fs with
    | none =>
      have hr : s.sync n = (s, 9) := by unfold DS.sync; rw [if_neg (by rw [hd]; simp), hx]
      have hf := lay_find_none h n hw hd (find_none he hx)
      have HR := Lib.hid (show Did S d (s.sync n) w (.returned (.int .i64 9)) w by rw [hr]; exact ⟨rfl, ⟨hF, mb, es, h.new, he⟩, Only.refl _ _⟩)
      clear hr h he hd hx hF
      go_enter Try.func51, Try.ntmps51
      go_wp2_with (go_at_call 48; refine hf.mono ?_; rintro e w' ⟨rfl, rfl⟩)
      go_ret
      exact HR.out
    | some f =>
      obtain ⟨e0, hfe, hef⟩ := find_some he hx
      have hf := lay_find_some h n hw hd e0 hfe
      by_cases hl : s.left = 0
      · have hr : s.sync n = (s.off, 8) := by unfold DS.sync; rw [if_neg (by rw [hd]; simp), hx]; simp only; rw [if_pos hl]
        have hc := lay_change_off h hl
        have HR := Lib.hid (show ∀ w', Lay S w' d mb es s.dc.off → Only (fun k => k = d) w w' → Did S d (s.sync n) w (.returned (.int .i64 8)) w' from fun w' h1 o1 => by
          rw [hr]; exact ⟨rfl, ⟨hF.off, mb, es, h1.new, he⟩, o1.mono fun k _ hk => by rw [hk]; exact h.sd⟩)
        clear hr h he hd hx hF hl hfe
        go_enter Try.func51, Try.ntmps51
        go_wp2_with (first | (go_at_call 48; refine hf.mono ?_; rintro e w' ⟨rfl, rfl⟩) | (go_at_call 47; refine hc.mono ?_; rintro e w1 ⟨rfl, h1, o1⟩))
        go_ret
        exact HR.out _ h1 o1
      · have hr : s.sync n = ({ s.tick with fs := updL n syncF s.fs }, 0) := by unfold DS.sync; rw [if_neg (by rw [hd]; simp), hx]; simp only; rw [if_neg hl]
        have hc := lay_change_on h hl hF.l0 hF.l1 (show (0 : Int) ≤ (s.steps : Int) by omega) (show (s.steps : Int) < 4611686018427387904 by omega)
        have hFit : ({ s.tick with fs := updL n syncF s.fs } : DS).Fit := (hF.tick hl).upd syncF (f := f) hx (fun _ => rfl) (fun _ => rfl) (fun x _ _ => ⟨Nat.le_refl _, fun y => by cases y⟩) (fun _ _ => rfl) (by
          have : s.used f.t ≤ s.room f.t := by
            unfold DS.used DS.room
            rcases (hF.file f (findL_mem hx).1).1 with e | e <;> rw [e]
            · exact hF.u0
            · exact hF.u1
          exact Nat.add_le_add_right this _)
        have hUse : ∀ t, usedL t (updL n syncF s.fs) = usedL t s.fs := fun t => by
          have := used_upd t n syncF (fun _ => rfl) hF.nod hx
          exact Nat.add_right_cancel this
        have HR := Lib.hid (show ∀ w1 w2, Only (fun k => k = d) w w1 → Lay S w2 d mb (updE n { e0 with f := syncF e0.f } es) s.dc.tick → Only (fun k => k = e0.fb) w1 w2 → Did S d (s.sync n) w (.returned (.int .i64 0)) w2 from fun w1 w2 o1 h2 o2 => by
          rw [hr]
          refine ⟨rfl, ⟨hFit, mb, updE n { e0 with f := syncF e0.f } es, ?_, ?_⟩, (o1.mono fun k _ hk => by rw [hk]; exact h.sd).andThen o2 fun k _ hk => by rw [hk]; exact h.sf e0 (findE_mem hfe).1⟩
          · have : DS.dc { s.tick with fs := updL n syncF s.fs } = s.dc.tick := by
              unfold DS.dc DC.tick DS.tick
              simp only [hUse]
              simp
            rw [this]
            exact h2.new
          · rw [updE_f (g := syncF) h.nod hfe rfl, he])
        have HE := Lib.hid hfe
        clear hr h he hd hx hF hl hfe hFit hUse
        go_enter Try.func51, Try.ntmps51
        go_wp2_with (first | (go_at_call 48; refine hf.mono ?_; rintro e w' ⟨rfl, rfl⟩) | (go_at_call 47; refine hc.mono ?_; rintro e w1 ⟨rfl, h1, o1⟩) | (go_at_call 68; refine (lay_settle h1 e0 n HE.out).mono ?_; rintro e w2 ⟨rfl, h2, o2⟩))
        go_ret
        exact HR.out _ _ o1 h2 o2
end Go.Proofs.Ytkelcmncjhnbgaa
