/- A file taken away. -/
import Derived.Test.YtgmfcjmbapmagaaDiskDrop
set_option linter.unusedVariables false
namespace Go.Proofs.Ytgmfcjmbapmagaa
open Go.RowKit Go.Maps

theorem delE_mem {n : Int} {x : DE} {es : List DE} (h : x ∈ delE n es) : x ∈ es ∧ x.f.n ≠ n := by
  unfold delE at h
  obtain ⟨h1, h2⟩ := List.mem_filter.1 h
  exact ⟨h1, by simpa using h2⟩
theorem Lay.del {S : Nat → Prop} {w w' : World} {d mb : Nat} {es : List DE} {c : DC} (h : Lay S w d mb es c) (n : Int) (hm : FileMap w' mb (delE n es)) (hk : ∀ k, k < w.heap.size → k ≠ mb → w'.heap[k]? = w.heap[k]?) : Lay S w' d mb (delE n es) c := by
  refine ⟨(hk d (heap_lt h.obj) h.ne_map.symm).trans h.obj, hm, fun e he => ?_, ?_, fun e he e' he' => h.sep e (delE_mem he).1 e' (delE_mem he').1, h.sd, h.sm, fun e he => h.sf e (delE_mem he).1, fun e he => h.sr e (delE_mem he).1⟩
  · have he := (delE_mem he).1
    refine (h.file e he).kept (hk _ (heap_lt (h.file e he).1) (h.ne_file he).2) fun g hg => hk g ?_ (h.ne_row he hg).2.1
    obtain ⟨cur, hc⟩ := ownsRow_row (h.file e he).2 hg
    exact heap_lt hc
  · exact h.nod.sublist (List.filter_sublist.map _)
theorem turned_other {w w' : World} {b : Nat} (h : w.mapTurned w' b) (k : Nat) (hk : k ≠ b) : w'.heap[k]? = w.heap[k]? := by
  obtain ⟨x, c, x', c', hb, rfl⟩ := h
  exact Go.ChangeMaps.heap_setBlock_other hb _ hk
/-- What the tiers' counts come to. -/
def DC.use (c : DC) (t x : Int) : DC := { c with u0 := if t = 0 then x else c.u0, u1 := if t = 0 then c.u1 else x }
theorem Lay.setU {S : Nat → Prop} {w : World} {d mb : Nat} {es : List DE} {c : DC} (h : Lay S w d mb es c) (x : Int) :
    Lay S (w.setCell ⟨d, 2, none⟩ (.int .i64 x)) d mb es (c.use 0 x) ∧ Lay S (w.setCell ⟨d, 3, none⟩ (.int .i64 x)) d mb es (c.use 1 x) :=
  ⟨h.setD 2 _ _ rfl, h.setD 3 _ _ rfl⟩
theorem tier_cases {s : DS} (hF : s.Fit) {f : DF} {n : Int} (h : findL n s.fs = some f) : f.t = 0 ∨ f.t = 1 := (hF.file f (findL_mem h).1).1
theorem len_bound {s : DS} (hF : s.Fit) {f : DF} {n : Int} (h : findL n s.fs = some f) : f.data.length ≤ 67108864 ∧ blk f.data.length ≤ 1048576 := by
  have h1 := blk_le f.data.length
  have hm := (findL_mem h).1
  rcases tier_cases hF h with e | e
  · have := used_ge hm e; have := hF.u0; have := hF.r0; omega
  · have := used_ge hm e; have := hF.u1; have := hF.r1; omega
/-- The file is gone. -/
theorem DS.Fit.del {s : DS} (h : s.Fit) {n : Int} {f : DF} (hf : findL n s.fs = some f) (hr : n ≠ s.root) : ({ s with fs := delL n s.fs } : DS).Fit := by
  have huse := fun t => used_del t n h.nod hf
  refine ⟨h.r0, h.r1, ?_, ?_, ?_, ?_, ?_, h.l0, h.l1⟩
  · have := huse 0; have := h.u0; simp only at *; omega
  · have := huse 1; have := h.u1; simp only at *; omega
  · exact h.nod.sublist (List.filter_sublist.map _)
  · exact fun x hx => h.file x (List.mem_filter.1 hx).1
  · rcases h.root with e | ⟨y, hy, hyn, hys⟩
    · exact .inl e
    · exact .inr ⟨y, List.mem_filter.2 ⟨hy, by simp; rw [hyn]; exact Ne.symm hr⟩, hyn, hys⟩

theorem disk_Drop_nil (n : Int) (w : World) : Calls Try.prog 24 #[.pointer none, .int .i64 n] w fun e w' => e = .returned (.int .i64 8) ∧ w = w' := by
  have hF := disk_find_nil n w
  go_enter Try.func24, Try.ntmps24
  go_wp2_with (go_at_call 34; refine hF.mono ?_; rintro e w' ⟨rfl, rfl⟩)
  go_ret
  exact ⟨rfl, rfl⟩
set_option maxRecDepth 100000 in
theorem disk_Drop {S : Nat → Prop} {w : World} {d : Nat} {s : DS} (h : Disk S w d s) (n : Int) (hw : (Lit.int .i64 n).wf = true) (hs : s.steps < 4611686018427387904) :
    Calls Try.prog 24 #[.pointer (some ⟨d, 0, none⟩), .int .i64 n] w (Did S d (s.drop n) w) := by
  obtain ⟨hF, mb, es, h, he⟩ := h
  cases hd : s.down with
  | true =>
    have hr : s.drop n = (s, 8) := by unfold DS.drop; rw [if_pos hd]
    have hf := lay_find_down h n hd
    have HR := Lib.hid (show Did S d (s.drop n) w (.returned (.int .i64 8)) w by rw [hr]; exact ⟨rfl, ⟨hF, mb, es, h.new, he⟩, Only.refl _ _⟩)
    clear hr h he hd hF
    go_enter Try.func24, Try.ntmps24
    go_wp2_with (go_at_call 34; refine hf.mono ?_; rintro e w' ⟨rfl, rfl⟩)
    go_ret
    exact HR.out
  | false =>
    cases hx : findL n s.fs with
    | none =>
      have hr : s.drop n = (s, 9) := by unfold DS.drop; rw [if_neg (by rw [hd]; simp), hx]
      have hf := lay_find_none h n hw hd (find_none he hx)
      have HR := Lib.hid (show Did S d (s.drop n) w (.returned (.int .i64 9)) w by rw [hr]; exact ⟨rfl, ⟨hF, mb, es, h.new, he⟩, Only.refl _ _⟩)
      clear hr h he hd hx hF
      go_enter Try.func24, Try.ntmps24
      go_wp2_with (go_at_call 34; refine hf.mono ?_; rintro e w' ⟨rfl, rfl⟩)
      go_ret
      exact HR.out
    | some f =>
      obtain ⟨e0, hfe, hef⟩ := find_some he hx
      have hf := lay_find_some h n hw hd e0 hfe
      have c5 : w.cell? ⟨d, 5, none⟩ = some (.int .i64 s.root) := h.cell 5
      by_cases hroot : n = s.root
      · have hr : s.drop n = (s, 11) := by unfold DS.drop; rw [if_neg (by rw [hd]; simp), hx]; simp only; rw [if_pos hroot]
        have HR := Lib.hid (show Did S d (s.drop n) w (.returned (.int .i64 11)) w by rw [hr]; exact ⟨rfl, ⟨hF, mb, es, h.new, he⟩, Only.refl _ _⟩)
        have hb : (n == s.root) = true := by simpa using hroot
        clear hr h he hd hx hF hfe hef hroot
        go_enter Try.func24, Try.ntmps24
        go_wp2_with (go_at_call 34; refine hf.mono ?_; rintro e w' ⟨rfl, rfl⟩)
        go_ret
        exact HR.out
      · have hb : (n == s.root) = false := by simpa using hroot
        by_cases hl : s.left = 0
        · have hr : s.drop n = (s.off, 8) := by unfold DS.drop; rw [if_neg (by rw [hd]; simp), hx]; simp only; rw [if_neg hroot, if_pos hl]
          have hc := lay_change_off h hl
          have HR := Lib.hid (show ∀ w', Lay S w' d mb es s.dc.off → Only (fun k => k = d) w w' → Did S d (s.drop n) w (.returned (.int .i64 8)) w' from fun w' h1 o1 => by
            rw [hr]; exact ⟨rfl, ⟨hF.off, mb, es, h1.new, he⟩, o1.mono fun k _ hk => by rw [hk]; exact h.sd⟩)
          clear hr h he hd hx hF hfe hef hroot hl
          go_enter Try.func24, Try.ntmps24
          go_wp2_with (first | (go_at_call 34; refine hf.mono ?_; rintro e w' ⟨rfl, rfl⟩) | (go_at_call 33; refine hc.mono ?_; rintro e w1 ⟨rfl, h1, o1⟩))
          go_ret
          exact HR.out _ h1 o1
        · have hr : s.drop n = ({ s.tick with fs := delL n s.fs }, 0) := by unfold DS.drop; rw [if_neg (by rw [hd]; simp), hx]; simp only; rw [if_neg hroot, if_neg hl]
          have hc := lay_change_on h hl hF.l0 hF.l1 (show (0 : Int) ≤ (s.steps : Int) by omega) (show (s.steps : Int) < 4611686018427387904 by omega)
          have hFit : ({ s.tick with fs := delL n s.fs } : DS).Fit := (hF.tick hl).del hx hroot
          obtain ⟨hm, hn⟩ := findE_mem hfe
          obtain ⟨lb1, lb2⟩ := len_bound hF hx
          have htc := tier_cases hF hx
          have hkey : keyOf Try.prog 3 (.int .i64 n) = some (.int .i64 n) := keyOf_int_mk Try.underlying3 hw
          have hbl := fun W => disk_blocks f.data.length (by omega) W
          have hu0 := used_del 0 n hF.nod hx
          have hu1 := used_del 1 n hF.nod hx
          have hu0' := hF.u0
          have hu1' := hF.u1
          have hr0' := hF.r0
          have hr1' := hF.r1
          -- the world behind the change
          have step : ∀ w1, Lay S w1 d mb es s.dc.tick → Only (fun k => k = d) w w1 → ∃ l a cap, w1.ownsMap Try.prog 3 ptrR mb es.length (.map l) ∧ w1.cell? ⟨d, 4, none⟩ = some (.map (some mb)) ∧
              ∀ w2, w2.ownsMap Try.prog 3 ptrR mb es.length ((DataW.map l).del (.int .i64 n)) → w1.mapTurned w2 mb →
                w2.cell? ⟨e0.fb, 0, none⟩ = some (.int .i64 f.t) ∧ w2.cell? ⟨e0.fb, 1, none⟩ = some (.slice a f.data.length cap) ∧
                w2.cell? ⟨d, 2, none⟩ = some (.int .i64 (usedL 0 s.fs)) ∧ w2.cell? ⟨d, 3, none⟩ = some (.int .i64 (usedL 1 s.fs)) ∧ w2.frozen? ⟨d, 2, none⟩ = false ∧ w2.frozen? ⟨d, 3, none⟩ = false ∧
                (f.t = 0 → Did S d (s.drop n) w (.returned (.int .i64 0)) (w2.drew.setCell ⟨d, 2, none⟩ (.int .i64 ((usedL 0 s.fs : Int) - (blk f.data.length : Int))))) ∧
                (f.t = 1 → Did S d (s.drop n) w (.returned (.int .i64 0)) (w2.drew.setCell ⟨d, 3, none⟩ (.int .i64 ((usedL 1 s.fs : Int) - (blk f.data.length : Int))))) := by
            intro w1 h1 o1
            obtain ⟨l, hl1, hp⟩ := h1.map
            obtain ⟨a, cap, hv, hc'⟩ := row_slice (h1.file e0 hm).2
            refine ⟨l, a, cap, hl1, h1.cell 4, fun w2 hm2 ht => ?_⟩
            have h2 : Lay S w2 d mb (delE n es) s.dc.tick := h1.del n (files_del hp hm2) fun k _ hk => turned_other ht k hk
            have hfb : w2.heap[e0.fb]? = w1.heap[e0.fb]? := turned_other ht _ (h1.ne_file hm).2
            have hcell : ∀ i, w2.cell? ⟨e0.fb, i, none⟩ = w1.cell? ⟨e0.fb, i, none⟩ := fun i => by simp [World.cell?, hfb]
            have o2 : Only S w w2 := (o1.mono fun k _ hk => by rw [hk]; exact h.sd).grown ht.grown fun j hj => by injection hj with hj; subst hj; exact .inl h.sm
            have fin : ∀ c' w3, Lay S w3 d mb (delE n es) c' → c' = DS.dc { s.tick with fs := delL n s.fs } → Only (fun k => k = d) w2.drew w3 → Did S d (s.drop n) w (.returned (.int .i64 0)) w3 := fun c' w3 h3 hc3 o3 => by
              rw [hr]
              refine ⟨rfl, ⟨hFit, mb, delE n es, by rw [← hc3]; exact h3.new, by rw [delE_f, he]⟩, o2.drew.andThen o3 fun k _ hk => by rw [hk]; exact h.sd⟩
            refine ⟨by rw [hcell, h1.fcell hm 0, ← hef]; rfl, by rw [hcell, h1.fcell hm 1, ← hef, ← hv]; rfl, h2.cell 2, h2.cell 3, h2.free 2, h2.free 3, fun e => ?_, fun e => ?_⟩
            · refine fin _ _ (h2.drew.setU _).1 ?_ (only_setD _)
              rw [e] at hu0 hu1
              simp at hu0 hu1
              unfold DS.dc DC.use DC.tick DS.tick
              simp
              omega
            · refine fin _ _ (h2.drew.setU _).2 ?_ (only_setD _)
              rw [e] at hu0 hu1
              simp at hu0 hu1
              unfold DS.dc DC.use DC.tick DS.tick
              simp
              omega
          have STEP := Lib.hid step
          have z0 : f.t = 0 → blk f.data.length ≤ usedL 0 s.fs := fun e => used_ge (findL_mem hx).1 e
          have z1 : f.t = 1 → blk f.data.length ≤ usedL 1 s.fs := fun e => used_ge (findL_mem hx).1 e
          clear hr h he hd hx hF hfe hef hroot hl hFit hm hn step hw hu0 hu1
          rcases htc with ht | ht
          · have z := z0 ht
            have HT := Lib.hid ht
            clear z0 z1
            have zz : IntKind.i64.wrap ((usedL 0 s.fs : Int) - (blk f.data.length : Int)) = (usedL 0 s.fs : Int) - (blk f.data.length : Int) := IntWalk.i64_in _ (by omega)
            go_enter Try.func24, Try.ntmps24
            go_wp2_with (first | (go_at_call 34; refine hf.mono ?_; rintro e w' ⟨rfl, rfl⟩) | (go_at_call 33; refine hc.mono ?_; rintro e w1 ⟨rfl, h1, o1⟩; obtain ⟨l, a, cap, hown, c4, hstep⟩ := STEP.out w1 h1 o1; clear h1 o1) | (at_delete; refine wpList_delete_own _ rfl _ _ 55 3 rfl 60 law3 Try.underlying55 _ mb _ _ rfl hown _ _ rfl hkey ?_; intro w2 hown2 hturn2; obtain ⟨k0, k1, k2, k3, k4, k5, k6, k7⟩ := hstep w2 hown2 hturn2; have K6 := Lib.hid (k6 HT.out); clear k6 k7 hown hstep c4 hown2 hturn2; rw [ht] at k0; clear ht))
            refine wp_region_still_tail 19 (by kernel_rfl) (by kernel_rfl) ?_
            simp only [List.take_succ_cons, List.take_zero, List.drop_succ_cons, List.drop_zero]
            repeat still_step
            still_call ((hbl _).mono fun _ _ ⟨a, b⟩ => ⟨a, b.symm⟩)
            repeat still_step
            refine wpStill_nil ?_
            change wpList _ _ _ _ _ w2.drew
            go_wp2
            go_ret
            exact K6.out
          · have z := z1 ht
            have HT := Lib.hid ht
            clear z0 z1
            have zz : IntKind.i64.wrap ((usedL 1 s.fs : Int) - (blk f.data.length : Int)) = (usedL 1 s.fs : Int) - (blk f.data.length : Int) := IntWalk.i64_in _ (by omega)
            go_enter Try.func24, Try.ntmps24
            go_wp2_with (first | (go_at_call 34; refine hf.mono ?_; rintro e w' ⟨rfl, rfl⟩) | (go_at_call 33; refine hc.mono ?_; rintro e w1 ⟨rfl, h1, o1⟩; obtain ⟨l, a, cap, hown, c4, hstep⟩ := STEP.out w1 h1 o1; clear h1 o1) | (at_delete; refine wpList_delete_own _ rfl _ _ 55 3 rfl 60 law3 Try.underlying55 _ mb _ _ rfl hown _ _ rfl hkey ?_; intro w2 hown2 hturn2; obtain ⟨k0, k1, k2, k3, k4, k5, k6, k7⟩ := hstep w2 hown2 hturn2; have K6 := Lib.hid (k7 HT.out); clear k6 k7 hown hstep c4 hown2 hturn2; rw [ht] at k0; clear ht))
            refine wp_region_still_tail 19 (by kernel_rfl) (by kernel_rfl) ?_
            simp only [List.take_succ_cons, List.take_zero, List.drop_succ_cons, List.drop_zero]
            repeat still_step
            still_call ((hbl _).mono fun _ _ ⟨a, b⟩ => ⟨a, b.symm⟩)
            repeat still_step
            refine wpStill_nil ?_
            change wpList _ _ _ _ _ w2.drew
            go_wp2
            go_ret
            exact K6.out
end Go.Proofs.Ytgmfcjmbapmagaa
