/- A file begun. -/
import Derived.Test.YtkelcmncjhnbgaaDiskOut
set_option linter.unusedVariables false
set_option maxRecDepth 100000
namespace Go.Proofs.Ytkelcmncjhnbgaa
open Go.RowKit Go.Maps

/-- One file more. -/
theorem Lay.add {S S' : Nat → Prop} {w w' : World} {d mb : Nat} {es : List DE} {c : DC} (h : Lay S w d mb es c) {e : DE} (hno : ∀ x ∈ es, x.f.n ≠ e.f.n) (hf : FileAt w' e) (hm : FileMap w' mb (es ++ [e])) (hb : w.heap.size ≤ e.fb) (hv : e.v.ownBlock = none)
    (hk : ∀ k, k < w.heap.size → k ≠ mb → w'.heap[k]? = w.heap[k]?) (hS : ∀ k, S k → S' k) (hS' : S' e.fb) : Lay S' w' d mb (es ++ [e]) c := by
  have hlt : ∀ x ∈ es, x.fb < w.heap.size := fun x hx => heap_lt (h.file x hx).1
  refine ⟨(hk d (heap_lt h.obj) h.ne_map.symm).trans h.obj, hm, ?_, ?_, ?_, hS _ h.sd, hS _ h.sm, ?_, ?_⟩
  · intro x hx
    rcases List.mem_append.1 hx with hx | hx
    · refine (h.file x hx).kept (hk _ (hlt x hx) (h.ne_file hx).2) fun g hg => hk g ?_ (h.ne_row hx hg).2.1
      obtain ⟨cur, hc⟩ := ownsRow_row (h.file x hx).2 hg
      exact heap_lt hc
    · obtain rfl : x = e := by simpa using hx
      exact hf
  · rw [List.map_append, List.nodup_append]
    refine ⟨h.nod, by simp, ?_⟩
    intro a ha b hb'
    obtain ⟨x, hx, rfl⟩ := List.mem_map.1 ha
    have hb'' : b = e.f.n := by simpa using hb'
    rw [hb'']
    exact hno x hx
  · intro x hx y hy hxy
    rcases List.mem_append.1 hx with hx1 | hx1
    · rcases List.mem_append.1 hy with hy1 | hy1
      · exact h.sep x hx1 y hy1 hxy
      · have hye : y = e := by simpa using hy1
        rw [hye]
        refine ⟨by have := hlt x hx1; omega, ?_⟩
        cases hg : x.v.ownBlock with
        | none => exact .inl rfl
        | some g => rw [hv]; exact .inr (by simp)
    · have hxe : x = e := by simpa using hx1
      rw [hxe]
      rcases List.mem_append.1 hy with hy1 | hy1
      · exact ⟨by have := hlt y hy1; omega, .inl hv⟩
      · have hye : y = e := by simpa using hy1
        exact absurd (by rw [hxe, hye]) hxy
  · intro x hx
    rcases List.mem_append.1 hx with hx | hx
    · exact hS _ (h.sf x hx)
    · obtain rfl : x = e := by simpa using hx
      exact hS'
  · intro x hx g hg
    rcases List.mem_append.1 hx with hx | hx
    · exact hS _ (h.sr x hx g hg)
    · obtain rfl : x = e := by simpa using hx
      rw [hv] at hg
      cases hg
theorem DS.Fit.add {s : DS} (h : s.Fit) {n t : Int} (ht : t = 0 ∨ t = 1) (hn : 1 ≤ n) (hn2 : n ≤ 9223372036854775807) (hf : findL n s.fs = none) (hr : ¬ s.room t ≤ s.used t) : ({ s with fs := s.fs ++ [⟨n, t, [], false, 0⟩] } : DS).Fit := by
  refine ⟨h.r0, h.r1, ?_, ?_, ?_, ?_, ?_, h.l0, h.l1⟩
  · have := h.u0
    unfold DS.room DS.used at hr
    rcases ht with rfl | rfl <;> simp [usedL_append, usedL, blk] at hr ⊢ <;> omega
  · have := h.u1
    unfold DS.room DS.used at hr
    rcases ht with rfl | rfl <;> simp [usedL_append, usedL, blk] at hr ⊢ <;> omega
  · simp only [List.map_append]
    rw [List.nodup_append]
    refine ⟨h.nod, by simp, ?_⟩
    intro a ha b hb
    obtain ⟨x, hx, rfl⟩ := List.mem_map.1 ha
    have hb' : b = n := by simpa using hb
    rw [hb']
    exact findL_none hf x hx
  · intro x hx
    rcases List.mem_append.1 hx with hx | hx
    · exact h.file x hx
    · obtain rfl : x = _ := by simpa using hx
      exact ⟨ht, Nat.le_refl _, fun _ => rfl, hn, hn2⟩
  · rcases h.root with e | ⟨y, hy, hyn, hys⟩
    · exact .inl e
    · exact .inr ⟨y, List.mem_append.2 (.inl hy), hyn, hys⟩

theorem disk_blocks0 (w : World) : Calls Try.prog 46 #[.int .i64 0] w fun e w' => e = .returned (.int .i64 1) ∧ w = w' := disk_blocks 0 (by omega) w
theorem disk_Make_nil (t n : Int) (w : World) : Calls Try.prog 21 #[.pointer none, .int .i64 t, .int .i64 n] w fun e w' => e = .returned (.int .i64 8) ∧ w = w' := by
  have hD := disk_Down_nil w
  go_enter Try.func21, Try.ntmps21
  go_wp2_with (go_at_call 41; refine hD.mono ?_; rintro e w' ⟨rfl, rfl⟩)
  go_ret
  exact ⟨rfl, rfl⟩
theorem neq60 (w : World) (b : Nat) : (binOp .neq 89 (.pointer (some ⟨b, 0, none⟩)) (.pointer none)).run Try.prog w = .ok (.bool true) w := by kernel_rfl
set_option maxRecDepth 100000 in
theorem disk_Make {S : Nat → Prop} {w : World} {d : Nat} {s : DS} (h : Disk S w d s) (t n : Int) (hw : (Lit.int .i64 n).wf = true) (hnw : n ≤ 9223372036854775807) (hs : s.steps < 4611686018427387904) :
    Calls Try.prog 21 #[.pointer (some ⟨d, 0, none⟩), .int .i64 t, .int .i64 n] w (Did S d (s.make t n) w) := by
  obtain ⟨hF, mb, es, h, he⟩ := h
  have hD := lay_Down h
  change Calls _ _ _ _ (fun e w' => e = .returned (.bool s.down) ∧ w = w') at hD
  cases hd : s.down with
  | true =>
    have hr : s.make t n = (s, 8) := by unfold DS.make; rw [if_pos hd]
    rw [hd] at hD
    have HR := Lib.hid (show Did S d (s.make t n) w (.returned (.int .i64 8)) w by rw [hr]; exact ⟨rfl, ⟨hF, mb, es, h.new, he⟩, Only.refl _ _⟩)
    clear hr h he hd hF
    go_enter Try.func21, Try.ntmps21
    go_wp2_with (go_at_call 41; refine hD.mono ?_; rintro e w' ⟨rfl, rfl⟩)
    go_ret
    exact HR.out
  | false =>
    rw [hd] at hD
    by_cases ht : t = 0 ∨ t = 1
    case neg =>
      have hr : s.make t n = (s, 1) := by unfold DS.make; rw [if_neg (by rw [hd]; simp), if_pos (.inl ht)]
      have hT := disk_isTier t w
      rw [show tierB t = false by simp [tierB]; omega] at hT
      have HR := Lib.hid (show Did S d (s.make t n) w (.returned (.int .i64 1)) w by rw [hr]; exact ⟨rfl, ⟨hF, mb, es, h.new, he⟩, Only.refl _ _⟩)
      clear hr h he hd hF ht
      go_enter Try.func21, Try.ntmps21
      go_wp2_with (first | (go_at_call 41; refine hD.mono ?_; rintro e w' ⟨rfl, rfl⟩) | (go_at_call 44; refine hT.mono ?_; rintro e w' ⟨rfl, rfl⟩))
      go_ret
      exact HR.out
    case pos =>
      have hT := disk_isTier t w
      rw [show tierB t = true by simp [tierB]; exact ht] at hT
      by_cases hn : n < 1
      · have hr : s.make t n = (s, 1) := by unfold DS.make; rw [if_neg (by rw [hd]; simp), if_pos (.inr hn)]
        have HR := Lib.hid (show Did S d (s.make t n) w (.returned (.int .i64 1)) w by rw [hr]; exact ⟨rfl, ⟨hF, mb, es, h.new, he⟩, Only.refl _ _⟩)
        clear hr h he hd hF ht
        go_enter Try.func21, Try.ntmps21
        go_wp2_with (first | (go_at_call 41; refine hD.mono ?_; rintro e w' ⟨rfl, rfl⟩) | (go_at_call 44; refine hT.mono ?_; rintro e w' ⟨rfl, rfl⟩))
        go_ret
        exact HR.out
      · have hn1 : 1 ≤ n := by omega
        have c4 : w.cell? ⟨d, 4, none⟩ = some (.map (some mb)) := h.cell 4
        have hlk := h.map.look h.nod hw
        have hnot : ¬ (¬ (t = 0 ∨ t = 1) ∨ n < 1) := by omega
        cases hx : findL n s.fs with
        | some f =>
          have hr : s.make t n = (s, 10) := by unfold DS.make; rw [if_neg (by rw [hd]; simp), if_neg hnot, if_pos (by rw [hx]; rfl)]
          obtain ⟨e0, hfe, hef⟩ := find_some he hx
          rw [hfe] at hlk
          unfold ptrE at hlk
          simp only at hlk
          have HR := Lib.hid (show Did S d (s.make t n) w (.returned (.int .i64 10)) w by rw [hr]; exact ⟨rfl, ⟨hF, mb, es, h.new, he⟩, Only.refl _ _⟩)
          have hne := neq60 w e0.fb
          clear hr h he hd hF ht hx hfe hef hnot hn
          go_enter Try.func21, Try.ntmps21
          go_wp2_with (first | (go_at_call 41; refine hD.mono ?_; rintro e w' ⟨rfl, rfl⟩) | (go_at_call 44; refine hT.mono ?_; rintro e w' ⟨rfl, rfl⟩))
          go_ret
          exact HR.out
        | none =>
          have hfe := find_none he hx
          rw [hfe] at hlk
          unfold ptrE at hlk
          simp only at hlk
          have hu0 := hF.u0
          have hu1 := hF.u1
          have hr0 := hF.r0
          have hr1 := hF.r1
          have hfr := lay_free h t ht ⟨by simp [DS.dc], by simp [DS.dc]; omega, by simp [DS.dc], by simp [DS.dc]; omega⟩ ⟨by simp [DS.dc], by simp [DS.dc]; omega, by simp [DS.dc], by simp [DS.dc]; omega⟩
          have hval : tierI t (s.dc.r0 - s.dc.u0) (s.dc.r1 - s.dc.u1) = (s.room t : Int) - (s.used t : Int) := by
            unfold tierI DS.room DS.used DS.dc
            rcases ht with rfl | rfl <;> simp
          rw [hval] at hfr
          have hb0 := fun W => disk_blocks0 W
          by_cases hfull : s.room t ≤ s.used t
          · have hr : s.make t n = (s, 7) := by unfold DS.make; rw [if_neg (by rw [hd]; simp), if_neg hnot, if_neg (by rw [hx]; simp), if_pos hfull]
            have HR := Lib.hid (show ∀ m, Did S d (s.make t n) w (.returned (.int .i64 7)) (w.drewN m) from fun m => by rw [hr]; exact ⟨rfl, ⟨hF, mb, es, (h.drewN m).new, he⟩, (Only.refl _ _).drewN m⟩)
            have hlt : (s.room t : Int) - (s.used t : Int) < 1 := by omega
            clear hr h he hd hF ht hx hfe hnot hn hval hfull
            go_enter Try.func21, Try.ntmps21
            go_wp2_with (first | (go_at_call 41; refine hD.mono ?_; rintro e w' ⟨rfl, rfl⟩) | (go_at_call 44; refine hT.mono ?_; rintro e w' ⟨rfl, rfl⟩) | (go_at_call 45; refine hfr.mono ?_; rintro e w' ⟨rfl, m, rfl⟩) | (go_at_call 46; refine (hb0 _).mono ?_; rintro e w' ⟨rfl, rfl⟩))
            go_ret
            exact HR.out _
          · have hlt : 1 ≤ (s.room t : Int) - (s.used t : Int) := by omega
            by_cases hl : s.left = 0
            · have hr : s.make t n = (s.off, 8) := by unfold DS.make; rw [if_neg (by rw [hd]; simp), if_neg hnot, if_neg (by rw [hx]; simp), if_neg hfull, if_pos hl]
              have hc := fun m => lay_change_off (h.drewN m) hl
              have HR := Lib.hid (show ∀ m w', Lay S w' d mb es s.dc.off → Only (fun k => k = d) (w.drewN m) w' → Did S d (s.make t n) w (.returned (.int .i64 8)) w' from fun m w' h1 o1 => by
                rw [hr]; exact ⟨rfl, ⟨hF.off, mb, es, h1.new, he⟩, o1.drewl.mono fun k _ hk => by rw [hk]; exact h.sd⟩)
              clear hr h he hd hF ht hx hfe hnot hn hval hfull hl
              go_enter Try.func21, Try.ntmps21
              go_wp2_with (first | (go_at_call 41; refine hD.mono ?_; rintro e w' ⟨rfl, rfl⟩) | (go_at_call 44; refine hT.mono ?_; rintro e w' ⟨rfl, rfl⟩) | (go_at_call 45; refine hfr.mono ?_; rintro e w' ⟨rfl, m, rfl⟩) | (go_at_call 46; refine (hb0 _).mono ?_; rintro e w' ⟨rfl, rfl⟩) | (go_at_call 47; refine (hc _).mono ?_; rintro e w1 ⟨rfl, h1, o1⟩))
              go_ret
              exact HR.out _ _ h1 o1
            · have hr : s.make t n = ({ s.tick with fs := s.fs ++ [⟨n, t, [], false, 0⟩] }, 0) := by unfold DS.make; rw [if_neg (by rw [hd]; simp), if_neg hnot, if_neg (by rw [hx]; simp), if_neg hfull, if_neg hl]
              have hc := fun m => lay_change_on (h.drewN m) hl hF.l0 hF.l1 (show (0 : Int) ≤ (s.steps : Int) by omega) (show (s.steps : Int) < 4611686018427387904 by omega)
              have hFit : ({ s.tick with fs := s.fs ++ [⟨n, t, [], false, 0⟩] } : DS).Fit := (hF.tick hl).add ht hn1 hnw hx hfull
              have hkey : keyOf Try.prog 3 (.int .i64 n) = some (.int .i64 n) := keyOf_int_mk Try.underlying3 hw
              have hlen : es.length < maxLen := by
                have h1 := length_le_used s.fs (fun f hf => (hF.file f hf).1)
                have h2 : es.length = s.fs.length := by rw [← he, List.length_map]
                unfold maxLen
                omega
              have step : ∀ m w1, Lay S w1 d mb es s.dc.tick → Only (fun k => k = d) (w.drewN m) w1 → ∃ l, (w1.alloc (.cells #[.int .i64 t, .slice none 0 0, .bool false, .int .i64 0] 93)).ownsMap Try.prog 3 ptrR mb es.length (.map l) ∧ w1.cell? ⟨d, 4, none⟩ = some (.map (some mb)) ∧
                  ∀ w2, w2.ownsMap Try.prog 3 ptrR mb (es.length + 1) ((DataW.map l).put (.int .i64 n) (.lit (.int .i64 (w1.heap.size : Int)))) → (w1.alloc (.cells #[.int .i64 t, .slice none 0 0, .bool false, .int .i64 0] 93)).grownBy w2 (some mb) →
                    w2.cell? ⟨d, 2, none⟩ = some (.int .i64 (usedL 0 s.fs)) ∧ w2.cell? ⟨d, 3, none⟩ = some (.int .i64 (usedL 1 s.fs)) ∧ w2.frozen? ⟨d, 2, none⟩ = false ∧ w2.frozen? ⟨d, 3, none⟩ = false ∧
                    (t = 0 → Did S d (s.make t n) w (.returned (.int .i64 0)) (w2.drew.setCell ⟨d, 2, none⟩ (.int .i64 ((usedL 0 s.fs : Int) + 1)))) ∧
                    (t = 1 → Did S d (s.make t n) w (.returned (.int .i64 0)) (w2.drew.setCell ⟨d, 3, none⟩ (.int .i64 ((usedL 1 s.fs : Int) + 1)))) := by
                intro m w1 h1 o1
                obtain ⟨l, hl1, hp⟩ := h1.map
                have hno : ∀ x ∈ es, x.f.n ≠ n := findE_none hfe
                refine ⟨l, hl1.alloc _, h1.cell 4, fun w2 hm2 hg2 => ?_⟩
                let e0 : DE := ⟨⟨n, t, [], false, 0⟩, w1.heap.size, .slice none 0 0⟩
                have hsz := (Only.refl (fun _ => False) w1).alloc (.cells #[.int .i64 t, .slice none 0 0, .bool false, .int .i64 0] 93)
                have hk : ∀ k, k < w1.heap.size → k ≠ mb → w2.heap[k]? = w1.heap[k]? := fun k hk hne => (hg2.block k (Nat.lt_of_lt_of_le hk hsz.size) (fun e => hne (by injection e))).trans (hsz.block k hk id)
                have hmb : mb < w1.heap.size := by obtain ⟨x, y, hx⟩ := h1.map.obj; exact heap_lt hx
                have hnew : w2.heap[w1.heap.size]? = some (.cells #[.int .i64 t, .slice none 0 0, .bool false, .int .i64 0] 93 (0, 0)) := (hg2.block _ (by simp) (fun e => by injection e with e; omega)).trans (heap_new w1 _)
                have h2 : Lay (New S w) w2 d mb (es ++ [e0]) s.dc.tick := h1.add (e := e0) hno ⟨hnew, World.ownsRow_nil _ _ _ _⟩ (files_put (e := e0) hp hno hm2) (Nat.le_refl _) rfl hk (fun k hk => .inl hk) (.inr o1.size)
                have o2 : Only S w w2 := ((o1.drewl.mono fun k _ hk => by rw [hk]; exact h.sd).alloc _).grown hg2 fun j hj => by injection hj with hj; subst hj; exact .inl h.sm
                have fin : ∀ c' w3, Lay (New S w) w3 d mb (es ++ [e0]) c' → c' = DS.dc { s.tick with fs := s.fs ++ [⟨n, t, [], false, 0⟩] } → Only (fun k => k = d) w2.drew w3 → Did S d (s.make t n) w (.returned (.int .i64 0)) w3 := fun c' w3 h3 hc3 o3 => by
                  rw [hr]
                  refine ⟨rfl, ⟨hFit, mb, es ++ [e0], by rw [← hc3]; exact h3, by rw [List.map_append, he]; rfl⟩, o2.drew.andThen o3 fun k _ hk => by rw [hk]; exact h.sd⟩
                refine ⟨h2.cell 2, h2.cell 3, h2.free 2, h2.free 3, fun e => ?_, fun e => ?_⟩
                · subst e
                  refine fin _ _ (h2.drew.setU _).1 ?_ (only_setD _)
                  unfold DS.dc DC.use DC.tick DS.tick
                  simp [usedL_append, usedL, blk]
                · subst e
                  refine fin _ _ (h2.drew.setU _).2 ?_ (only_setD _)
                  unfold DS.dc DC.use DC.tick DS.tick
                  simp [usedL_append, usedL, blk]
              have STEP := Lib.hid step
              clear hr h he hd hF hx hfe hnot hn hval hfull hl step hFit hw
              rcases ht with ht | ht
              · have HT := Lib.hid ht
                clear ht
                go_enter Try.func21, Try.ntmps21
                go_wp2_with (first | (go_at_call 41; refine hD.mono ?_; rintro e w' ⟨rfl, rfl⟩) | (go_at_call 44; refine hT.mono ?_; rintro e w' ⟨rfl, rfl⟩) | (go_at_call 45; refine hfr.mono ?_; rintro e w' ⟨rfl, m, rfl⟩) | (go_at_call 46; refine (hb0 _).mono ?_; rintro e w' ⟨rfl, rfl⟩) | (go_at_call 47; refine (hc _).mono ?_; rintro e w1 ⟨rfl, h1, o1⟩; obtain ⟨l, hown, c4', hstep⟩ := STEP.out _ w1 h1 o1; clear h1 o1) | (at_mapUpdate; refine wpList_mapUpdate_own _ rfl _ _ _ 79 rfl 3 89 law3 Try.underlying79 _ mb _ _ rfl hown hlen _ _ _ rfl rfl hkey _ [] rfl ?_; intro w2 hown2 hgrow2; obtain ⟨k2, k3, k4, k5, k6, k7⟩ := hstep w2 hown2 hgrow2; have K6 := Lib.hid (k6 HT.out); clear k6 k7 hown hstep c4' hown2 hgrow2))
                have ht := HT.out
                subst ht
                refine wp_region_still_tail 11 (by kernel_rfl) (by kernel_rfl) ?_
                simp only [List.take_succ_cons, List.take_zero, List.drop_succ_cons, List.drop_zero]
                repeat still_step
                still_call ((hb0 _).mono fun _ _ ⟨a, b⟩ => ⟨a, b.symm⟩)
                repeat still_step
                refine wpStill_nil ?_
                change wpList _ _ _ _ _ w2.drew
                go_wp2
                go_ret
                exact K6.out
              · have HT := Lib.hid ht
                clear ht
                go_enter Try.func21, Try.ntmps21
                go_wp2_with (first | (go_at_call 41; refine hD.mono ?_; rintro e w' ⟨rfl, rfl⟩) | (go_at_call 44; refine hT.mono ?_; rintro e w' ⟨rfl, rfl⟩) | (go_at_call 45; refine hfr.mono ?_; rintro e w' ⟨rfl, m, rfl⟩) | (go_at_call 46; refine (hb0 _).mono ?_; rintro e w' ⟨rfl, rfl⟩) | (go_at_call 47; refine (hc _).mono ?_; rintro e w1 ⟨rfl, h1, o1⟩; obtain ⟨l, hown, c4', hstep⟩ := STEP.out _ w1 h1 o1; clear h1 o1) | (at_mapUpdate; refine wpList_mapUpdate_own _ rfl _ _ _ 79 rfl 3 89 law3 Try.underlying79 _ mb _ _ rfl hown hlen _ _ _ rfl rfl hkey _ [] rfl ?_; intro w2 hown2 hgrow2; obtain ⟨k2, k3, k4, k5, k6, k7⟩ := hstep w2 hown2 hgrow2; have K6 := Lib.hid (k7 HT.out); clear k6 k7 hown hstep c4' hown2 hgrow2))
                have ht := HT.out
                subst ht
                refine wp_region_still_tail 11 (by kernel_rfl) (by kernel_rfl) ?_
                simp only [List.take_succ_cons, List.take_zero, List.drop_succ_cons, List.drop_zero]
                repeat still_step
                still_call ((hb0 _).mono fun _ _ ⟨a, b⟩ => ⟨a, b.symm⟩)
                repeat still_step
                refine wpStill_nil ?_
                change wpList _ _ _ _ _ w2.drew
                go_wp2
                go_ret
                exact K6.out
end Go.Proofs.Ytkelcmncjhnbgaa
