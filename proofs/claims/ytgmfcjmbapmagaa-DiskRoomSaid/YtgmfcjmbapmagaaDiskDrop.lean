/- The root; a file taken away. -/
import Derived.Test.YtgmfcjmbapmagaaDiskIs
set_option linter.unusedVariables false
namespace Go.Proofs.Ytgmfcjmbapmagaa
open Go.RowKit Go.Maps

theorem disk_Point_nil (n : Int) (w : World) : Calls Try.prog 27 #[.pointer none, .int .i64 n] w fun e w' => e = .returned (.int .i64 8) ∧ w = w' := by
  have hF := disk_find_nil n w
  go_enter Try.func27, Try.ntmps27
  go_wp2_with (go_at_call 34; refine hF.mono ?_; rintro e w' ⟨rfl, rfl⟩)
  go_ret
  exact ⟨rfl, rfl⟩
theorem Only.drewl {S : Nat → Prop} {a b : World} {m : Nat} (h : Only S (a.drewN m) b) : Only S a b := ⟨h.os, h.tape, h.output, h.size, h.block⟩
theorem disk_Point {S : Nat → Prop} {w : World} {d : Nat} {s : DS} (h : Disk S w d s) (n : Int) (hw : (Lit.int .i64 n).wf = true) (hs : s.steps < 4611686018427387904) :
    Calls Try.prog 27 #[.pointer (some ⟨d, 0, none⟩), .int .i64 n] w (Did S d (s.point n) w) := by
  obtain ⟨hF, mb, es, h, he⟩ := h
  cases hd : s.down with
  | true =>
    have hr : s.point n = (s, 8) := by unfold DS.point; rw [if_pos hd]
    have hf := lay_find_down h n hd
    have HR := Lib.hid (show Did S d (s.point n) w (.returned (.int .i64 8)) w by rw [hr]; exact ⟨rfl, ⟨hF, mb, es, h.new, he⟩, Only.refl _ _⟩)
    clear hr h he hd hF
    go_enter Try.func27, Try.ntmps27
    go_wp2_with (go_at_call 34; refine hf.mono ?_; rintro e w' ⟨rfl, rfl⟩)
    go_ret
    exact HR.out
  | false =>
    cases hx : findL n s.fs with
    | none =>
      have hr : s.point n = (s, 9) := by unfold DS.point; rw [if_neg (by rw [hd]; simp), hx]
      have hf := lay_find_none h n hw hd (find_none he hx)
      have HR := Lib.hid (show Did S d (s.point n) w (.returned (.int .i64 9)) w by rw [hr]; exact ⟨rfl, ⟨hF, mb, es, h.new, he⟩, Only.refl _ _⟩)
      clear hr h he hd hx hF
      go_enter Try.func27, Try.ntmps27
      go_wp2_with (go_at_call 34; refine hf.mono ?_; rintro e w' ⟨rfl, rfl⟩)
      go_ret
      exact HR.out
    | some f =>
      obtain ⟨e0, hfe, hef⟩ := find_some he hx
      obtain ⟨hm, hn⟩ := findE_mem hfe
      have hf := lay_find_some h n hw hd e0 hfe
      obtain ⟨a, cap, hv, hc⟩ := row_slice (h.file e0 hm).2
      have g1 : w.cell? ⟨e0.fb, 1, none⟩ = some (.slice a f.data.length cap) := by rw [h.fcell hm 1, ← hef, ← hv]; rfl
      have g2 : w.cell? ⟨e0.fb, 2, none⟩ = some (.bool f.sure) := by rw [h.fcell hm 2, ← hef]; rfl
      have g3 : w.cell? ⟨e0.fb, 3, none⟩ = some (.int .i64 (f.sb : Int)) := by rw [h.fcell hm 3, ← hef]; rfl
      cases hsu : f.sure with
      | false =>
        have hr : s.point n = (s, 11) := by unfold DS.point; rw [if_neg (by rw [hd]; simp), hx]; simp only; rw [if_pos (.inl hsu)]
        rw [hsu] at g2
        have HR := Lib.hid (show ∀ m, Did S d (s.point n) w (.returned (.int .i64 11)) (w.drewN m) from fun m => by rw [hr]; exact ⟨rfl, ⟨hF, mb, es, (h.drewN m).new, he⟩, (Only.refl _ _).drewN m⟩)
        clear hr h he hd hx hF hfe hef hm hn hv hsu
        go_enter Try.func27, Try.ntmps27
        go_wp2_with (go_at_call 34; refine hf.mono ?_; rintro e w' ⟨rfl, rfl⟩)
        go_quiet (fail)
        go_wp2
        go_ret
        exact HR.out _
      | true =>
        by_cases hlt : f.sb < f.data.length
        · have hr : s.point n = (s, 11) := by unfold DS.point; rw [if_neg (by rw [hd]; simp), hx]; simp only; rw [if_pos (.inr hlt)]
          rw [hsu] at g2
          have hlt' : decide (f.sb < f.data.length) = true := by simpa using hlt
          have HR := Lib.hid (show ∀ m, Did S d (s.point n) w (.returned (.int .i64 11)) (w.drewN m) from fun m => by rw [hr]; exact ⟨rfl, ⟨hF, mb, es, (h.drewN m).new, he⟩, (Only.refl _ _).drewN m⟩)
          clear hr h he hd hx hF hfe hef hm hn hv hsu
          go_enter Try.func27, Try.ntmps27
          go_wp2_with (go_at_call 34; refine hf.mono ?_; rintro e w' ⟨rfl, rfl⟩)
          go_quiet (fail)
          go_wp2
          go_ret
          exact HR.out _
        · have hlt' : decide (f.sb < f.data.length) = false := by simpa using hlt
          rw [hsu] at g2
          have hnot : ¬ (f.sure = false ∨ f.sb < f.data.length) := by simp [hsu]; omega
          by_cases hl : s.left = 0
          · have hr : s.point n = (s.off, 8) := by unfold DS.point; rw [if_neg (by rw [hd]; simp), hx]; simp only; rw [if_neg hnot, if_pos hl]
            have hc := fun m => lay_change_off (h.drewN m) hl
            have HR := Lib.hid (show ∀ m w', Lay S w' d mb es s.dc.off → Only (fun k => k = d) (w.drewN m) w' → Did S d (s.point n) w (.returned (.int .i64 8)) w' from fun m w' h1 o1 => by
              rw [hr]; exact ⟨rfl, ⟨hF.off, mb, es, h1.new, he⟩, o1.drewl.mono fun k _ hk => by rw [hk]; exact h.sd⟩)
            clear hr h he hd hx hF hl hfe hef hm hn hv hsu hlt hnot
            go_enter Try.func27, Try.ntmps27
            go_wp2_with (go_at_call 34; refine hf.mono ?_; rintro e w' ⟨rfl, rfl⟩)
            go_quiet (fail)
            go_wp2_with (go_at_call 33; refine (hc _).mono ?_; rintro e w1 ⟨rfl, h1, o1⟩)
            go_ret
            exact HR.out _ _ h1 o1
          · have hr : s.point n = ({ s.tick with root := n }, 0) := by unfold DS.point; rw [if_neg (by rw [hd]; simp), hx]; simp only; rw [if_neg hnot, if_neg hl]
            have hc := fun m => lay_change_on (h.drewN m) hl hF.l0 hF.l1 (show (0 : Int) ≤ (s.steps : Int) by omega) (show (s.steps : Int) < 4611686018427387904 by omega)
            have hFit : ({ s.tick with root := n } : DS).Fit := ⟨hF.r0, hF.r1, hF.u0, hF.u1, hF.nod, hF.file, .inr ⟨f, (findL_mem hx).1, (findL_mem hx).2, hsu⟩, (hF.tick hl).l0, (hF.tick hl).l1⟩
            have HR := Lib.hid (show ∀ m w1, Lay S w1 d mb es s.dc.tick → Only (fun k => k = d) (w.drewN m) w1 → Did S d (s.point n) w (.returned (.int .i64 0)) (w1.setCell ⟨d, 5, none⟩ (.int .i64 n)) from fun m w1 h1 o1 => by
              rw [hr]
              refine ⟨rfl, ⟨hFit, mb, es, ?_, he⟩, (o1.drewl.trans (only_setD _)).mono fun k _ hk => by rw [hk]; exact h.sd⟩
              refine (h1.setD 5 (.int .i64 n) (DS.dc { s.tick with root := n }) ?_).new
              unfold DS.dc DC.tick DS.tick DC.cells
              simp)
            clear hr h he hd hx hF hl hfe hef hm hn hv hsu hlt hnot hFit
            go_enter Try.func27, Try.ntmps27
            go_wp2_with (go_at_call 34; refine hf.mono ?_; rintro e w' ⟨rfl, rfl⟩)
            go_quiet (fail)
            go_wp2_with (go_at_call 33; refine (hc _).mono ?_; rintro e w1 ⟨rfl, h1, o1⟩; have c5 := h1.cell 5; have f5 := h1.free 5; simp only [DC.cells] at c5; have H1 := Lib.hid h1; clear h1)
            go_ret
            exact HR.out _ _ H1.out o1
end Go.Proofs.Ytgmfcjmbapmagaa
