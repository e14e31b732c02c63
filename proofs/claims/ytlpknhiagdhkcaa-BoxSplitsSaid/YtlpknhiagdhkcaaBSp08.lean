/- Texts put together: DiskMake, DiskAdd, DiskKeep, DiskLose -/
import Derived.Test.YtlpknhiagdhkcaaBSp07
import Derived.LoopTactic
/- A file begun. -/
set_option linter.unusedVariables false
set_option maxRecDepth 100000
namespace Go.Proofs.Ytlpknhiagdhkcaa
open Go.RowKit Go.Maps

/-- One file more. -/
theorem Lay.add {S S' : Nat → Prop} {w w' : World} {d mb : Nat} {es : List DE} {c : DC} (h : Lay S w d mb es c) {e : DE} (hno : ∀ x ∈ es, x.f.n ≠ e.f.n) (hf : FileAt w' e) (hm : FileMap w' mb (es ++ [e])) (hb : w.heap.size ≤ e.fb) (hv : e.v.ownBlock = none)
    (hk : ∀ k, k < w.heap.size → k ≠ mb → w'.heap[k]? = w.heap[k]?) (hS : ∀ k, S k → S' k) (hS' : S' e.fb) : Lay S' w' d mb (es ++ [e]) c := by
  have hlt : ∀ x ∈ es, x.fb < w.heap.size := fun x hx => heap_lt (h.file x hx).1
  refine ⟨(hk d (heap_lt h.obj) h.ne_map.symm).trans h.obj, hm, ?_, ?_, ?_, hS _ h.sd, hS _ h.sm, ?_, ?_⟩
  · intro x hx
    rcases List.mem_append.1 hx with hx | hx
    · refine (h.file x hx).kept (hk _ (hlt x hx) (h.ne_file hx).2) fun g hg => hk g ?_ (h.ne_row hx hg).2.1
      obtain ⟨cur, hc⟩ := ownsRow_row (h.file x hx).2 hg
      exact heap_lt hc
    · obtain rfl : x = e := by simpa using hx
      exact hf
  · rw [List.map_append, List.nodup_append]
    refine ⟨h.nod, by simp, ?_⟩
    intro a ha b hb'
    obtain ⟨x, hx, rfl⟩ := List.mem_map.1 ha
    have hb'' : b = e.f.n := by simpa using hb'
    rw [hb'']
    exact hno x hx
  · intro x hx y hy hxy
    rcases List.mem_append.1 hx with hx1 | hx1
    · rcases List.mem_append.1 hy with hy1 | hy1
      · exact h.sep x hx1 y hy1 hxy
      · have hye : y = e := by simpa using hy1
        rw [hye]
        refine ⟨by have := hlt x hx1; omega, ?_⟩
        cases hg : x.v.ownBlock with
        | none => exact .inl rfl
        | some g => rw [hv]; exact .inr (by simp)
    · have hxe : x = e := by simpa using hx1
      rw [hxe]
      rcases List.mem_append.1 hy with hy1 | hy1
      · exact ⟨by have := hlt y hy1; omega, .inl hv⟩
      · have hye : y = e := by simpa using hy1
        exact absurd (by rw [hxe, hye]) hxy
  · intro x hx
    rcases List.mem_append.1 hx with hx | hx
    · exact hS _ (h.sf x hx)
    · obtain rfl : x = e := by simpa using hx
      exact hS'
  · intro x hx g hg
    rcases List.mem_append.1 hx with hx | hx
    · exact hS _ (h.sr x hx g hg)
    · obtain rfl : x = e := by simpa using hx
      rw [hv] at hg
      cases hg
theorem DS.Fit.add {s : DS} (h : s.Fit) {n t : Int} (ht : t = 0 ∨ t = 1) (hn : 1 ≤ n) (hn2 : n ≤ 9223372036854775807) (hf : findL n s.fs = none) (hr : ¬ s.room t ≤ s.used t) : ({ s with fs := s.fs ++ [⟨n, t, [], false, 0⟩] } : DS).Fit := by
  refine ⟨h.r0, h.r1, ?_, ?_, ?_, ?_, ?_, h.l0, h.l1⟩
  · have := h.u0
    unfold DS.room DS.used at hr
    rcases ht with rfl | rfl <;> simp [usedL_append, usedL, blk] at hr ⊢ <;> omega
  · have := h.u1
    unfold DS.room DS.used at hr
    rcases ht with rfl | rfl <;> simp [usedL_append, usedL, blk] at hr ⊢ <;> omega
  · simp only [List.map_append]
    rw [List.nodup_append]
    refine ⟨h.nod, by simp, ?_⟩
    intro a ha b hb
    obtain ⟨x, hx, rfl⟩ := List.mem_map.1 ha
    have hb' : b = n := by simpa using hb
    rw [hb']
    exact findL_none hf x hx
  · intro x hx
    rcases List.mem_append.1 hx with hx | hx
    · exact h.file x hx
    · obtain rfl : x = _ := by simpa using hx
      exact ⟨ht, Nat.le_refl _, fun _ => rfl, hn, hn2⟩
  · rcases h.root with e | ⟨y, hy, hyn, hys⟩
    · exact .inl e
    · exact .inr ⟨y, List.mem_append.2 (.inl hy), hyn, hys⟩

theorem disk_blocks0 (w : World) : Calls Try.prog 51 #[.int .i64 0] w fun e w' => e = .returned (.int .i64 1) ∧ w = w' := disk_blocks 0 (by omega) w
theorem disk_Make_nil (t n : Int) (w : World) : Calls Try.prog 29 #[.pointer none, .int .i64 t, .int .i64 n] w fun e w' => e = .returned (.int .i64 8) ∧ w = w' := by
  have hD := disk_Down_nil w
  go_enter Try.func29, Try.ntmps29
  go_wp2_with (go_at_call 53; refine hD.mono ?_; rintro e w' ⟨rfl, rfl⟩)
  go_ret
  exact ⟨rfl, rfl⟩
theorem neq60 (w : World) (b : Nat) : (binOp .neq 106 (.pointer (some ⟨b, 0, none⟩)) (.pointer none)).run Try.prog w = .ok (.bool true) w := by kernel_rfl
set_option maxRecDepth 100000 in
theorem disk_Make {S : Nat → Prop} {w : World} {d : Nat} {s : DS} (h : Disk S w d s) (t n : Int) (hw : (Lit.int .i64 n).wf = true) (hnw : n ≤ 9223372036854775807) (hs : s.steps < 4611686018427387904) :
    Calls Try.prog 29 #[.pointer (some ⟨d, 0, none⟩), .int .i64 t, .int .i64 n] w (Did S d (s.make t n) w) := by
  obtain ⟨hF, mb, es, h, he⟩ := h
  have hD := lay_Down h
  change Calls _ _ _ _ (fun e w' => e = .returned (.bool s.down) ∧ w = w') at hD
  cases hd : s.down with
  | true =>
    have hr : s.make t n = (s, 8) := by unfold DS.make; rw [if_pos hd]
    rw [hd] at hD
    have HR := Lib.hid (show Did S d (s.make t n) w (.returned (.int .i64 8)) w by rw [hr]; exact ⟨rfl, ⟨hF, mb, es, h.new, he⟩, Only.refl _ _⟩)
    clear hr h he hd hF
    go_enter Try.func29, Try.ntmps29
    go_wp2_with (go_at_call 53; refine hD.mono ?_; rintro e w' ⟨rfl, rfl⟩)
    go_ret
    exact HR.out
  | false =>
    rw [hd] at hD
    by_cases ht : t = 0 ∨ t = 1
    case neg =>
      have hr : s.make t n = (s, 1) := by unfold DS.make; rw [if_neg (by rw [hd]; simp), if_pos (.inl ht)]
      have hT := disk_isTier t w
      rw [show tierB t = false by simp [tierB]; omega] at hT
      have HR := Lib.hid (show Did S d (s.make t n) w (.returned (.int .i64 1)) w by rw [hr]; exact ⟨rfl, ⟨hF, mb, es, h.new, he⟩, Only.refl _ _⟩)
      clear hr h he hd hF ht
      go_enter Try.func29, Try.ntmps29
      go_wp2_with (first | (go_at_call 53; refine hD.mono ?_; rintro e w' ⟨rfl, rfl⟩) | (go_at_call 54; refine hT.mono ?_; rintro e w' ⟨rfl, rfl⟩))
      go_ret
      exact HR.out
    case pos =>
      have hT := disk_isTier t w
      rw [show tierB t = true by simp [tierB]; exact ht] at hT
      by_cases hn : n < 1
      · have hr : s.make t n = (s, 1) := by unfold DS.make; rw [if_neg (by rw [hd]; simp), if_pos (.inr hn)]
        have HR := Lib.hid (show Did S d (s.make t n) w (.returned (.int .i64 1)) w by rw [hr]; exact ⟨rfl, ⟨hF, mb, es, h.new, he⟩, Only.refl _ _⟩)
        clear hr h he hd hF ht
        go_enter Try.func29, Try.ntmps29
        go_wp2_with (first | (go_at_call 53; refine hD.mono ?_; rintro e w' ⟨rfl, rfl⟩) | (go_at_call 54; refine hT.mono ?_; rintro e w' ⟨rfl, rfl⟩))
        go_ret
        exact HR.out
      · have hn1 : 1 ≤ n := by omega
        have c4 : w.cell? ⟨d, 4, none⟩ = some (.map (some mb)) := h.cell 4
        have hlk := h.map.look h.nod hw
        have hnot : ¬ (¬ (t = 0 ∨ t = 1) ∨ n < 1) := by omega
        cases hx : findL n s.fs with
        | some f =>
          have hr : s.make t n = (s, 10) := by unfold DS.make; rw [if_neg (by rw [hd]; simp), if_neg hnot, if_pos (by rw [hx]; rfl)]
          obtain ⟨e0, hfe, hef⟩ := find_some he hx
          rw [hfe] at hlk
          unfold ptrE at hlk
          simp only at hlk
          have HR := Lib.hid (show Did S d (s.make t n) w (.returned (.int .i64 10)) w by rw [hr]; exact ⟨rfl, ⟨hF, mb, es, h.new, he⟩, Only.refl _ _⟩)
          have hne := neq60 w e0.fb
          clear hr h he hd hF ht hx hfe hef hnot hn
          go_enter Try.func29, Try.ntmps29
          go_wp2_with (first | (go_at_call 53; refine hD.mono ?_; rintro e w' ⟨rfl, rfl⟩) | (go_at_call 54; refine hT.mono ?_; rintro e w' ⟨rfl, rfl⟩))
          go_ret
          exact HR.out
        | none =>
          have hfe := find_none he hx
          rw [hfe] at hlk
          unfold ptrE at hlk
          simp only at hlk
          have hu0 := hF.u0
          have hu1 := hF.u1
          have hr0 := hF.r0
          have hr1 := hF.r1
          have hfr := lay_free h t ht ⟨by simp [DS.dc], by simp [DS.dc]; omega, by simp [DS.dc], by simp [DS.dc]; omega⟩ ⟨by simp [DS.dc], by simp [DS.dc]; omega, by simp [DS.dc], by simp [DS.dc]; omega⟩
          have hval : tierI t (s.dc.r0 - s.dc.u0) (s.dc.r1 - s.dc.u1) = (s.room t : Int) - (s.used t : Int) := by
            unfold tierI DS.room DS.used DS.dc
            rcases ht with rfl | rfl <;> simp
          rw [hval] at hfr
          have hb0 := fun W => disk_blocks0 W
          by_cases hfull : s.room t ≤ s.used t
          · have hr : s.make t n = (s, 7) := by unfold DS.make; rw [if_neg (by rw [hd]; simp), if_neg hnot, if_neg (by rw [hx]; simp), if_pos hfull]
            have HR := Lib.hid (show ∀ m, Did S d (s.make t n) w (.returned (.int .i64 7)) (w.drewN m) from fun m => by rw [hr]; exact ⟨rfl, ⟨hF, mb, es, (h.drewN m).new, he⟩, (Only.refl _ _).drewN m⟩)
            have hlt : (s.room t : Int) - (s.used t : Int) < 1 := by omega
            clear hr h he hd hF ht hx hfe hnot hn hval hfull
            go_enter Try.func29, Try.ntmps29
            go_wp2_with (first | (go_at_call 53; refine hD.mono ?_; rintro e w' ⟨rfl, rfl⟩) | (go_at_call 54; refine hT.mono ?_; rintro e w' ⟨rfl, rfl⟩) | (go_at_call 55; refine hfr.mono ?_; rintro e w' ⟨rfl, m, rfl⟩) | (go_at_call 51; refine (hb0 _).mono ?_; rintro e w' ⟨rfl, rfl⟩))
            go_ret
            exact HR.out _
          · have hlt : 1 ≤ (s.room t : Int) - (s.used t : Int) := by omega
            by_cases hl : s.left = 0
            · have hr : s.make t n = (s.off, 8) := by unfold DS.make; rw [if_neg (by rw [hd]; simp), if_neg hnot, if_neg (by rw [hx]; simp), if_neg hfull, if_pos hl]
              have hc := fun m => lay_change_off (h.drewN m) hl
              have HR := Lib.hid (show ∀ m w', Lay S w' d mb es s.dc.off → Only (fun k => k = d) (w.drewN m) w' → Did S d (s.make t n) w (.returned (.int .i64 8)) w' from fun m w' h1 o1 => by
                rw [hr]; exact ⟨rfl, ⟨hF.off, mb, es, h1.new, he⟩, o1.drewl.mono fun k _ hk => by rw [hk]; exact h.sd⟩)
              clear hr h he hd hF ht hx hfe hnot hn hval hfull hl
              go_enter Try.func29, Try.ntmps29
              go_wp2_with (first | (go_at_call 53; refine hD.mono ?_; rintro e w' ⟨rfl, rfl⟩) | (go_at_call 54; refine hT.mono ?_; rintro e w' ⟨rfl, rfl⟩) | (go_at_call 55; refine hfr.mono ?_; rintro e w' ⟨rfl, m, rfl⟩) | (go_at_call 51; refine (hb0 _).mono ?_; rintro e w' ⟨rfl, rfl⟩) | (go_at_call 56; refine (hc _).mono ?_; rintro e w1 ⟨rfl, h1, o1⟩))
              go_ret
              exact HR.out _ _ h1 o1
            · have hr : s.make t n = ({ s.tick with fs := s.fs ++ [⟨n, t, [], false, 0⟩] }, 0) := by unfold DS.make; rw [if_neg (by rw [hd]; simp), if_neg hnot, if_neg (by rw [hx]; simp), if_neg hfull, if_neg hl]
              have hc := fun m => lay_change_on (h.drewN m) hl hF.l0 hF.l1 (show (0 : Int) ≤ (s.steps : Int) by omega) (show (s.steps : Int) < 4611686018427387904 by omega)
              have hFit : ({ s.tick with fs := s.fs ++ [⟨n, t, [], false, 0⟩] } : DS).Fit := (hF.tick hl).add ht hn1 hnw hx hfull
              have hkey : keyOf Try.prog 3 (.int .i64 n) = some (.int .i64 n) := keyOf_int_mk Try.underlying3 hw
              have hlen : es.length < maxLen := by
                have h1 := length_le_used s.fs (fun f hf => (hF.file f hf).1)
                have h2 : es.length = s.fs.length := by rw [← he, List.length_map]
                unfold maxLen
                omega
              have step : ∀ m w1, Lay S w1 d mb es s.dc.tick → Only (fun k => k = d) (w.drewN m) w1 → ∃ l, (w1.alloc (.cells #[.int .i64 t, .slice none 0 0, .bool false, .int .i64 0] 109)).ownsMap Try.prog 3 ptrR mb es.length (.map l) ∧ w1.cell? ⟨d, 4, none⟩ = some (.map (some mb)) ∧
                  ∀ w2, w2.ownsMap Try.prog 3 ptrR mb (es.length + 1) ((DataW.map l).put (.int .i64 n) (.lit (.int .i64 (w1.heap.size : Int)))) → (w1.alloc (.cells #[.int .i64 t, .slice none 0 0, .bool false, .int .i64 0] 109)).grownBy w2 (some mb) →
                    w2.cell? ⟨d, 2, none⟩ = some (.int .i64 (usedL 0 s.fs)) ∧ w2.cell? ⟨d, 3, none⟩ = some (.int .i64 (usedL 1 s.fs)) ∧ w2.frozen? ⟨d, 2, none⟩ = false ∧ w2.frozen? ⟨d, 3, none⟩ = false ∧
                    (t = 0 → Did S d (s.make t n) w (.returned (.int .i64 0)) (w2.drew.setCell ⟨d, 2, none⟩ (.int .i64 ((usedL 0 s.fs : Int) + 1)))) ∧
                    (t = 1 → Did S d (s.make t n) w (.returned (.int .i64 0)) (w2.drew.setCell ⟨d, 3, none⟩ (.int .i64 ((usedL 1 s.fs : Int) + 1)))) := by
                intro m w1 h1 o1
                obtain ⟨l, hl1, hp⟩ := h1.map
                have hno : ∀ x ∈ es, x.f.n ≠ n := findE_none hfe
                refine ⟨l, hl1.alloc _, h1.cell 4, fun w2 hm2 hg2 => ?_⟩
                let e0 : DE := ⟨⟨n, t, [], false, 0⟩, w1.heap.size, .slice none 0 0⟩
                have hsz := (Only.refl (fun _ => False) w1).alloc (.cells #[.int .i64 t, .slice none 0 0, .bool false, .int .i64 0] 109)
                have hk : ∀ k, k < w1.heap.size → k ≠ mb → w2.heap[k]? = w1.heap[k]? := fun k hk hne => (hg2.block k (Nat.lt_of_lt_of_le hk hsz.size) (fun e => hne (by injection e))).trans (hsz.block k hk id)
                have hmb : mb < w1.heap.size := by obtain ⟨x, y, hx⟩ := h1.map.obj; exact heap_lt hx
                have hnew : w2.heap[w1.heap.size]? = some (.cells #[.int .i64 t, .slice none 0 0, .bool false, .int .i64 0] 109 (0, 0)) := (hg2.block _ (by simp) (fun e => by injection e with e; omega)).trans (heap_new w1 _)
                have h2 : Lay (New S w) w2 d mb (es ++ [e0]) s.dc.tick := h1.add (e := e0) hno ⟨hnew, World.ownsRow_nil _ _ _ _⟩ (files_put (e := e0) hp hno hm2) (Nat.le_refl _) rfl hk (fun k hk => .inl hk) (.inr o1.size)
                have o2 : Only S w w2 := ((o1.drewl.mono fun k _ hk => by rw [hk]; exact h.sd).alloc _).grown hg2 fun j hj => by injection hj with hj; subst hj; exact .inl h.sm
                have fin : ∀ c' w3, Lay (New S w) w3 d mb (es ++ [e0]) c' → c' = DS.dc { s.tick with fs := s.fs ++ [⟨n, t, [], false, 0⟩] } → Only (fun k => k = d) w2.drew w3 → Did S d (s.make t n) w (.returned (.int .i64 0)) w3 := fun c' w3 h3 hc3 o3 => by
                  rw [hr]
                  refine ⟨rfl, ⟨hFit, mb, es ++ [e0], by rw [← hc3]; exact h3, by rw [List.map_append, he]; rfl⟩, o2.drew.andThen o3 fun k _ hk => by rw [hk]; exact h.sd⟩
                refine ⟨h2.cell 2, h2.cell 3, h2.free 2, h2.free 3, fun e => ?_, fun e => ?_⟩
                · subst e
                  refine fin _ _ (h2.drew.setU _).1 ?_ (only_setD _)
                  unfold DS.dc DC.use DC.tick DS.tick
                  simp [usedL_append, usedL, blk]
                · subst e
                  refine fin _ _ (h2.drew.setU _).2 ?_ (only_setD _)
                  unfold DS.dc DC.use DC.tick DS.tick
                  simp [usedL_append, usedL, blk]
              have STEP := Lib.hid step
              clear hr h he hd hF hx hfe hnot hn hval hfull hl step hFit hw
              rcases ht with ht | ht
              · have HT := Lib.hid ht
                clear ht
                go_enter Try.func29, Try.ntmps29
                go_wp2_with (first | (go_at_call 53; refine hD.mono ?_; rintro e w' ⟨rfl, rfl⟩) | (go_at_call 54; refine hT.mono ?_; rintro e w' ⟨rfl, rfl⟩) | (go_at_call 55; refine hfr.mono ?_; rintro e w' ⟨rfl, m, rfl⟩) | (go_at_call 51; refine (hb0 _).mono ?_; rintro e w' ⟨rfl, rfl⟩) | (go_at_call 56; refine (hc _).mono ?_; rintro e w1 ⟨rfl, h1, o1⟩; obtain ⟨l, hown, c4', hstep⟩ := STEP.out _ w1 h1 o1; clear h1 o1) | (at_mapUpdate; refine wpList_mapUpdate_own _ rfl _ _ _ 98 rfl 3 106 law3 Try.underlying98 _ mb _ _ rfl hown hlen _ _ _ rfl rfl hkey _ [] rfl ?_; intro w2 hown2 hgrow2; obtain ⟨k2, k3, k4, k5, k6, k7⟩ := hstep w2 hown2 hgrow2; have K6 := Lib.hid (k6 HT.out); clear k6 k7 hown hstep c4' hown2 hgrow2))
                have ht := HT.out
                subst ht
                refine wp_region_still_tail 11 (by kernel_rfl) (by kernel_rfl) ?_
                simp only [List.take_succ_cons, List.take_zero, List.drop_succ_cons, List.drop_zero]
                repeat still_step
                still_call ((hb0 _).mono fun _ _ ⟨a, b⟩ => ⟨a, b.symm⟩)
                repeat still_step
                refine wpStill_nil ?_
                change wpList _ _ _ _ _ w2.drew
                go_wp2
                go_ret
                exact K6.out
              · have HT := Lib.hid ht
                clear ht
                go_enter Try.func29, Try.ntmps29
                go_wp2_with (first | (go_at_call 53; refine hD.mono ?_; rintro e w' ⟨rfl, rfl⟩) | (go_at_call 54; refine hT.mono ?_; rintro e w' ⟨rfl, rfl⟩) | (go_at_call 55; refine hfr.mono ?_; rintro e w' ⟨rfl, m, rfl⟩) | (go_at_call 51; refine (hb0 _).mono ?_; rintro e w' ⟨rfl, rfl⟩) | (go_at_call 56; refine (hc _).mono ?_; rintro e w1 ⟨rfl, h1, o1⟩; obtain ⟨l, hown, c4', hstep⟩ := STEP.out _ w1 h1 o1; clear h1 o1) | (at_mapUpdate; refine wpList_mapUpdate_own _ rfl _ _ _ 98 rfl 3 106 law3 Try.underlying98 _ mb _ _ rfl hown hlen _ _ _ rfl rfl hkey _ [] rfl ?_; intro w2 hown2 hgrow2; obtain ⟨k2, k3, k4, k5, k6, k7⟩ := hstep w2 hown2 hgrow2; have K6 := Lib.hid (k7 HT.out); clear k6 k7 hown hstep c4' hown2 hgrow2))
                have ht := HT.out
                subst ht
                refine wp_region_still_tail 11 (by kernel_rfl) (by kernel_rfl) ?_
                simp only [List.take_succ_cons, List.take_zero, List.drop_succ_cons, List.drop_zero]
                repeat still_step
                still_call ((hb0 _).mono fun _ _ ⟨a, b⟩ => ⟨a, b.symm⟩)
                repeat still_step
                refine wpStill_nil ?_
                change wpList _ _ _ _ _ w2.drew
                go_wp2
                go_ret
                exact K6.out
end Go.Proofs.Ytlpknhiagdhkcaa
/- Bytes added to a file. -/
set_option linter.unusedVariables false
set_option maxRecDepth 100000
namespace Go.Proofs.Ytlpknhiagdhkcaa
open Go.RowKit Go.Maps

theorem strCells_bs (b : List UInt8) : Lib.strCells (bs b) = b.map byteV := rfl
/-- Bytes laid behind a row: where the row then lies. -/
theorem append_at (w : World) (ty : TypeId) (v : Value) (n : Nat) (xs : List Value) (hown : w.ownsRow 0 5 1 v n xs) (s : ByteArray) (hb : n + s.size ≤ 140737488355328) :
    ∃ v' w', (Builtin.append_ #[76, 9] ty #[v, .string s]).run Try.prog w = .ok v' w' ∧ w'.ownsRow 0 5 1 v' (n + s.size) (xs ++ Lib.strCells s) ∧ w.grownBy w' v.ownBlock ∧ (v'.ownBlock = v.ownBlock ∨ v'.ownBlock = some w.heap.size) := by
  obtain ⟨i, hi, hz0, hz1, hz2⟩ := info_parts info5
  obtain ⟨v', w', hr, h1, h2, h3⟩ := Lib.run_append_own_string (P := Try.prog) w 0 76 9 ty 5 i Try.underlying76 Try.underlying9 hi hz0 hz1 hz2 v n xs hown s (by unfold maxLen; omega) hb (Nat.zero_le _)
  refine ⟨v', w', hr, h1, h2, ?_⟩
  rcases hown.2 with ⟨rfl, rfl⟩ | ⟨g, cap, cur, rfl, _, hg, hle, hmx, hsz, htk⟩
  · by_cases h0 : s.size = 0
    · exact .inl (by rw [h3.2 ⟨rfl, h0⟩])
    · have := run_append_nil_string (P := Try.prog) w 76 9 ty 5 i (.int .u8 0) Try.underlying76 Try.underlying9 hi hz0 s (by omega) (by omega) (by rw [hz2]; omega)
      rw [this] at hr
      injection hr with e1 e2
      exact .inr (by rw [← e1]; rfl)
  · by_cases hroom : n + s.size ≤ cap
    · have := Lib.run_append_room_string (P := Try.prog) w 76 9 ty 5 i Try.underlying76 Try.underlying9 hi hz1 g n cap cur hg s hroom (by omega)
      rw [this] at hr
      injection hr with e1 e2
      exact .inl (by rw [← e1]; rfl)
    · have holds : ∀ j u, xs[j]? = some u → w.cell? ((⟨g, 0, none⟩ : Addr).add j) = some u := hown.cells (g := g) rfl
      have := Lib.run_append_grow_string (P := Try.prog) w 76 9 ty 5 i (.int .u8 0) Try.underlying76 Try.underlying9 hi hz0 ⟨g, 0, none⟩ n cap xs (by rw [hz1]; exact hown.1) holds s (by omega) (by omega) (by rw [hz2]; exact growslice_fits (by omega) (by omega))
      rw [this] at hr
      injection hr with e1 e2
      exact .inr (by rw [← e1]; rfl)
theorem wpList_append_at {ops : Array Oper} {rest : List Oper} {o : Oper} {a : Act} {w : World} {Q : Exit → Act → World → Prop} (hgd : o.guard = none) (sl x : Operand)
    (ho : o.op = .call { callee := .builtin .append, args := #[sl, x], argTypes := #[76, 9] })
    (v : Value) (n : Nat) (xs : List Value) (hs : a.eval sl = v) (hown : w.ownsRow 0 5 1 v n xs) (s : ByteArray) (hx : a.eval x = .string s) (hb : n + s.size ≤ 140737488355328)
    (h : ∀ v' w', w'.ownsRow 0 5 1 v' (n + s.size) (xs ++ Lib.strCells s) → w.grownBy w' v.ownBlock → (v'.ownBlock = v.ownBlock ∨ v'.ownBlock = some w.heap.size) → wpList Try.prog ops Q rest (a.put o.dst v') w') : wpList Try.prog ops Q (o :: rest) a w := by
  refine wpList_plain hgd fun K hK => ?_
  obtain ⟨v', w', hr, h2, h3, h4⟩ := append_at w o.type v n xs hown s hb
  unfold Oper.wp execOp
  simp only [ho, resolve, invoke, builtin, Sem.run_bind, Sem.run_pure, Result.andThen_ok, List.map_toArray, List.map_cons, List.map_nil, hs, hx, hr]
  exact hK _ _ (h v' w' h2 h3 h4)
theorem disk_Add_nil (n : Int) (b : ByteArray) (w : World) : Calls Try.prog 30 #[.pointer none, .int .i64 n, .string b] w fun e w' => e = .returned (.int .i64 8) ∧ w = w' := by
  have hF := disk_find_nil n w
  go_enter Try.func30, Try.ntmps30
  go_wp2_with (go_at_call 52; refine hF.mono ?_; rintro e w' ⟨rfl, rfl⟩)
  go_ret
  exact ⟨rfl, rfl⟩
/-- The bytes laid: the row turned, the file's slice and the tier's count written. -/
theorem Lay.laid {S : Nat → Prop} {w w1 : World} {d mb : Nat} {es : List DE} {c : DC} (h : Lay S w d mb es c) {n : Int} {e0 : DE} (hfe : findE n es = some e0) (b : List UInt8) (v' : Value) (ho : w1.ownsRow 0 5 1 v' (e0.f.data.length + (bs b).size) (e0.f.data.map byteV ++ Lib.strCells (bs b)))
    (hg : w.grownBy w1 e0.v.ownBlock) (hat : v'.ownBlock = e0.v.ownBlock ∨ v'.ownBlock = some w.heap.size) : Lay (New S w) (w1.setCell ⟨e0.fb, 1, none⟩ v') d mb (updE n ⟨addF b e0.f, e0.fb, v'⟩ es) c ∧ Only S w (w1.setCell ⟨e0.fb, 1, none⟩ v') := by
  obtain ⟨hm, hn⟩ := findE_mem hfe
  have hfb : e0.fb < w.heap.size := heap_lt (h.file e0 hm).1
  have hne : e0.v.ownBlock ≠ some e0.fb := fun y => (h.ne_row hm y).2.2 e0 hm rfl
  have h1 : w1.heap[e0.fb]? = w.heap[e0.fb]? := hg.block _ hfb (Ne.symm hne)
  have hnew : ∀ g, v'.ownBlock = some g → e0.v.ownBlock = some g ∨ w.heap.size ≤ g := fun g hg' => by
    rcases hat with e | e
    · exact .inl (e ▸ hg')
    · rw [e] at hg'
      injection hg' with hg'
      exact .inr (by omega)
  have hvfb : ∀ g, v'.ownBlock = some g → g ≠ e0.fb := fun g hg' y => by
    obtain ⟨cur, hc⟩ := ownsRow_row ho hg'
    rw [y, h1, (h.file e0 hm).1] at hc
    simp at hc
  refine ⟨?_, ?_⟩
  · refine h.turn (S' := New S w) hfe hn rfl (fun k hk hk1 hk2 => ?_) ⟨?_, ?_⟩ hnew (fun k hk => .inl hk) fun g hg' => ?_
    · rw [heap_set_other hk1]
      exact hg.block k hk (Ne.symm hk2)
    · have := heap_set (o := 1) (h1.trans (h.file e0 hm).1) v'
      exact this
    · have hd : (addF b e0.f).data = e0.f.data ++ b := rfl
      have := ownsRow_same (w' := w1.setCell ⟨e0.fb, 1, none⟩ v') ho fun g hg' => heap_set_other (hvfb g hg') v'
      simp only [hd, List.length_append, List.map_append]
      rw [bs_size, strCells_bs] at this
      exact this
    · rcases hnew g hg' with x | x
      · exact .inl (h.sr e0 hm g x)
      · exact .inr x
  · exact ((Only.refl S w).grown hg fun j hj => .inl (h.sr e0 hm j hj)).setCell (p := ⟨e0.fb, 1, none⟩) (.inl (h.sf e0 hm)) v'
theorem quiet_l {P : Program} {f : FuncId} {args : Array Value} {w : World} {n : Nat} {v : Value} (h : ∀ W, Calls P f args W fun e w' => e = .returned v ∧ W = w') : Calls P f args (w.drewN n) fun e w'' => e = .returned v ∧ ∃ m, w'' = w.drewN m :=
  (h _).mono fun _ _ ⟨he, hm⟩ => ⟨he, n, hm.symm⟩
theorem DS.Fit.addF {s : DS} (h : s.Fit) {n : Int} {f : DF} (b : List UInt8) (hf : findL n s.fs = some f) (hr : ¬ s.room f.t < s.used f.t + (blk (f.data.length + b.length) - blk f.data.length)) : ({ s with fs := updL n (addF b) s.fs } : DS).Fit := by
  have hm := blk_mono (show f.data.length ≤ f.data.length + b.length by omega)
  refine h.upd (_root_.Go.Proofs.Ytlpknhiagdhkcaa.addF b) hf (fun _ => rfl) (fun _ => rfl) (fun x hx _ => ⟨?_, (h.file x hx).2.2.1⟩) (fun _ hx => hx) ?_
  · have := (h.file x hx).2.1
    show x.sb ≤ (x.data ++ b).length
    rw [List.length_append]
    omega
  · show s.used f.t + blk (f.data ++ b).length ≤ _
    rw [List.length_append]
    omega
set_option maxRecDepth 100000 in
theorem disk_Add {S : Nat → Prop} {w : World} {d : Nat} {s : DS} (h : Disk S w d s) (n : Int) (b : List UInt8) (hw : (Lit.int .i64 n).wf = true) (hs : s.steps < 4611686018427387904) (hbs : b.length ≤ 2305843009213693952) :
    Calls Try.prog 30 #[.pointer (some ⟨d, 0, none⟩), .int .i64 n, .string (bs b)] w (Did S d (s.add n b) w) := by
  obtain ⟨hF, mb, es, h, he⟩ := h
  cases hd : s.down with
  | true =>
    have hr : s.add n b = (s, 8) := by unfold DS.add; rw [if_pos hd]
    have hf := lay_find_down h n hd
    have HR := Lib.hid (show Did S d (s.add n b) w (.returned (.int .i64 8)) w by rw [hr]; exact ⟨rfl, ⟨hF, mb, es, h.new, he⟩, Only.refl _ _⟩)
    clear hr h he hd hF
    go_enter Try.func30, Try.ntmps30
    go_wp2_with (go_at_call 52; refine hf.mono ?_; rintro e w' ⟨rfl, rfl⟩)
    go_ret
    exact HR.out
  | false =>
    cases hx : findL n s.fs with
    | none =>
      have hr : s.add n b = (s, 9) := by unfold DS.add; rw [if_neg (by rw [hd]; simp), hx]
      have hf := lay_find_none h n hw hd (find_none he hx)
      have HR := Lib.hid (show Did S d (s.add n b) w (.returned (.int .i64 9)) w by rw [hr]; exact ⟨rfl, ⟨hF, mb, es, h.new, he⟩, Only.refl _ _⟩)
      clear hr h he hd hx hF
      go_enter Try.func30, Try.ntmps30
      go_wp2_with (go_at_call 52; refine hf.mono ?_; rintro e w' ⟨rfl, rfl⟩)
      go_ret
      exact HR.out
    | some f =>
      obtain ⟨e0, hfe, hef⟩ := find_some he hx
      have hf := lay_find_some h n hw hd e0 hfe
      obtain ⟨hm, hn⟩ := findE_mem hfe
      obtain ⟨lb1, lb2⟩ := len_bound hF hx
      have ht := tier_cases hF hx
      have hu0 := hF.u0
      have hu1 := hF.u1
      have hr0 := hF.r0
      have hr1 := hF.r1
      obtain ⟨a, cap, hv, hcap⟩ := row_slice (h.file e0 hm).2
      have g0 : w.cell? ⟨e0.fb, 0, none⟩ = some (.int .i64 f.t) := by rw [h.fcell hm 0, ← hef]; rfl
      have g1 : w.cell? ⟨e0.fb, 1, none⟩ = some (.slice a f.data.length cap) := by rw [h.fcell hm 1, ← hef, ← hv]; rfl
      have hbsz : (bs b).size = b.length := bs_size b
      have hlb : f.data.length + (bs b).size ≤ 4611686018427387904 := by omega
      have hfr := fun m => lay_free (h.drewN m) f.t ht ⟨by simp [DS.dc], by simp [DS.dc]; omega, by simp [DS.dc], by simp [DS.dc]; omega⟩ ⟨by simp [DS.dc], by simp [DS.dc]; omega, by simp [DS.dc], by simp [DS.dc]; omega⟩
      have hval : tierI f.t (s.dc.r0 - s.dc.u0) (s.dc.r1 - s.dc.u1) = (s.room f.t : Int) - (s.used f.t : Int) := by
        unfold tierI DS.room DS.used DS.dc
        rcases ht with e | e <;> simp [e]
      rw [hval] at hfr
      have hmono := blk_mono (show f.data.length ≤ f.data.length + (bs b).size by omega)
      have hbk := blk_le (f.data.length + (bs b).size)
      have hbk2 : blk (f.data.length + (bs b).size) ≤ 4611686018427387904 := by unfold blk; omega
      obtain ⟨mo, hmo⟩ : ∃ mo : Nat, mo = blk (f.data.length + (bs b).size) - blk f.data.length := ⟨_, rfl⟩
      have z1 : IntKind.i64.wrap ((f.data.length : Int) + ((bs b).size : Int)) = ((f.data.length + (bs b).size : Nat) : Int) := by rw [IntWalk.i64_in _ (by omega)]; omega
      have z2 : IntKind.i64.wrap ((blk (f.data.length + (bs b).size) : Int) - (blk f.data.length : Int)) = (mo : Int) := by rw [IntWalk.i64_in _ (by omega)]; omega
      have hroomu : s.used f.t ≤ s.room f.t ∧ s.room f.t ≤ 1048576 := by
        unfold DS.used DS.room
        rcases ht with e | e <;> rw [e]
        · exact ⟨hu0, hr0⟩
        · exact ⟨hu1, hr1⟩
      by_cases hfull : s.room f.t < s.used f.t + mo
      · have hr : s.add n b = (s, 7) := by unfold DS.add; rw [if_neg (by rw [hd]; simp), hx]; simp only; rw [if_pos (by rw [← hbsz, ← hmo]; exact hfull)]
        have HR := Lib.hid (show ∀ m, Did S d (s.add n b) w (.returned (.int .i64 7)) (w.drewN m) from fun m => by rw [hr]; exact ⟨rfl, ⟨hF, mb, es, (h.drewN m).new, he⟩, (Only.refl _ _).drewN m⟩)
        have hgt : (s.room f.t : Int) - (s.used f.t : Int) < (mo : Int) := by omega
        clear hr h he hd hF ht hx hfe hval hfull hef hm hn hv hbsz hmo hw
        go_enter Try.func30, Try.ntmps30
        go_wp2_with (go_at_call 52; refine hf.mono ?_; rintro e w' ⟨rfl, rfl⟩)
        go_quiet ((go_at_call 51; exact quiet_l (fun W => disk_blocks _ (by omega) W)))
        go_wp2_with (go_at_call 55; refine (hfr _).mono ?_; rintro e w' ⟨rfl, m, rfl⟩)
        go_ret
        exact HR.out _
      · have hgt : (mo : Int) ≤ (s.room f.t : Int) - (s.used f.t : Int) := by omega
        have hno : ¬ s.room f.t < s.used f.t + (blk (f.data.length + b.length) - blk f.data.length) := by rw [← hbsz, ← hmo]; exact hfull
        have hFit := hF.addF b hx hno
        have hlb2 : f.data.length + (bs b).size ≤ 140737488355328 := by
          have := blk_le (f.data.length + (bs b).size)
          omega
        have hrow : w.ownsRow 0 5 1 (.slice a f.data.length cap) f.data.length (f.data.map byteV) := by
          have := (h.file e0 hm).2
          rw [hv, hef] at this
          exact this
        have huse := fun t => used_upd t n (addF b) (fun _ => rfl) hF.nod hx
        -- the change, wherever it comes
        have ch : ∀ (v' : Value) w3, Lay (New S w) w3 d mb (updE n ⟨addF b e0.f, e0.fb, v'⟩ es) (DS.dc { s with fs := updL n (addF b) s.fs }) → Only S w w3 → Calls Try.prog 56 #[.pointer (some ⟨d, 0, none⟩)] w3 (Did S d (s.add n b) w) := by
          intro v' w3 h3 o3
          have hfs : (updE n ⟨addF b e0.f, e0.fb, v'⟩ es).map (·.f) = updL n (addF b) s.fs := by rw [updE_f (g := addF b) h.nod hfe rfl, he]
          by_cases hl : s.left = 0
          · have hr : s.add n b = ({ s.off with fs := updL n (addF b) s.fs }, 8) := by unfold DS.add; rw [if_neg (by rw [hd]; simp), hx]; simp only; rw [if_neg hno, if_pos hl]
            refine (lay_change_off h3 hl).mono fun e w4 ⟨he4, h4, o4⟩ => ?_
            rw [hr]
            exact ⟨he4, ⟨hFit.off, mb, _, h4, hfs⟩, o3.andThen o4 fun k _ hk => by rw [hk]; exact h.sd⟩
          · have hr : s.add n b = ({ s.tick with fs := updL n (addF b) s.fs }, 0) := by unfold DS.add; rw [if_neg (by rw [hd]; simp), hx]; simp only; rw [if_neg hno, if_neg hl]
            refine (lay_change_on h3 hl hF.l0 hF.l1 (show (0 : Int) ≤ (s.steps : Int) by omega) (show (s.steps : Int) < 4611686018427387904 by omega)).mono fun e w4 ⟨he4, h4, o4⟩ => ?_
            rw [hr]
            refine ⟨he4, ⟨hFit.tick hl, mb, _, ?_, hfs⟩, o3.andThen o4 fun k _ hk => by rw [hk]; exact h.sd⟩
            have : DS.dc { s.tick with fs := updL n (addF b) s.fs } = (DS.dc { s with fs := updL n (addF b) s.fs }).tick := by
              unfold DS.dc DC.tick DS.tick
              simp
            rw [this]
            exact h4
        have HCH := Lib.hid ch
        have step : ∀ m v' w1, w1.ownsRow 0 5 1 v' (f.data.length + (bs b).size) (f.data.map byteV ++ Lib.strCells (bs b)) → (w.drewN m).grownBy w1 (Value.ownBlock (.slice a f.data.length cap)) → (v'.ownBlock = Value.ownBlock (.slice a f.data.length cap) ∨ v'.ownBlock = some w.heap.size) →
            w1.cell? ⟨e0.fb, 1, none⟩ = some (.slice a f.data.length cap) ∧ w1.frozen? ⟨e0.fb, 1, none⟩ = false ∧
            (w1.setCell ⟨e0.fb, 1, none⟩ v').cell? ⟨e0.fb, 0, none⟩ = some (.int .i64 f.t) ∧ (w1.setCell ⟨e0.fb, 1, none⟩ v').cell? ⟨d, 2, none⟩ = some (.int .i64 (usedL 0 s.fs)) ∧ (w1.setCell ⟨e0.fb, 1, none⟩ v').cell? ⟨d, 3, none⟩ = some (.int .i64 (usedL 1 s.fs)) ∧
            (w1.setCell ⟨e0.fb, 1, none⟩ v').frozen? ⟨d, 2, none⟩ = false ∧ (w1.setCell ⟨e0.fb, 1, none⟩ v').frozen? ⟨d, 3, none⟩ = false ∧
            (f.t = 0 → Lay (New S w) ((w1.setCell ⟨e0.fb, 1, none⟩ v').drew.setCell ⟨d, 2, none⟩ (.int .i64 ((usedL 0 s.fs : Int) + mo))) d mb (updE n ⟨addF b e0.f, e0.fb, v'⟩ es) (DS.dc { s with fs := updL n (addF b) s.fs }) ∧ Only S w ((w1.setCell ⟨e0.fb, 1, none⟩ v').drew.setCell ⟨d, 2, none⟩ (.int .i64 ((usedL 0 s.fs : Int) + mo)))) ∧
            (f.t = 1 → Lay (New S w) ((w1.setCell ⟨e0.fb, 1, none⟩ v').drew.setCell ⟨d, 3, none⟩ (.int .i64 ((usedL 1 s.fs : Int) + mo))) d mb (updE n ⟨addF b e0.f, e0.fb, v'⟩ es) (DS.dc { s with fs := updL n (addF b) s.fs }) ∧ Only S w ((w1.setCell ⟨e0.fb, 1, none⟩ v').drew.setCell ⟨d, 3, none⟩ (.int .i64 ((usedL 1 s.fs : Int) + mo)))) := by
          intro m v' w1 ho hg hat
          have hg' : w.grownBy w1 e0.v.ownBlock := by rw [hv, hef]; exact ⟨hg.os, hg.tape, hg.output, hg.size, hg.block⟩
          have hfb : w1.heap[e0.fb]? = w.heap[e0.fb]? := hg'.block _ (heap_lt (h.file e0 hm).1) fun y => (h.ne_row hm y.symm).2.2 e0 hm rfl
          obtain ⟨h2, o2⟩ := h.laid hfe b v' (by rw [hef]; exact ho) hg' (by rw [hv, hef]; exact hat)
          have hin : (⟨addF b e0.f, e0.fb, v'⟩ : DE) ∈ updE n ⟨addF b e0.f, e0.fb, v'⟩ es := by
            unfold updE
            exact List.mem_map.2 ⟨e0, hm, by rw [if_pos hn]⟩
          have hlen : (addF b f).data.length = f.data.length + (bs b).size := by rw [hbsz]; exact List.length_append
          have hu0' := huse 0
          have hu1' := huse 1
          rw [hlen] at hu0' hu1'
          refine ⟨?_, ?_, ?_, h2.cell 2, h2.cell 3, h2.free 2, h2.free 3, fun e => ⟨?_, ?_⟩, fun e => ⟨?_, ?_⟩⟩
          · simp only [World.cell?, hfb]
            exact g1
          · simp only [World.frozen?, hfb]
            exact h.ffree hm 1
          · rw [h2.fcell hin 0, ← hef]
            rfl
          · have hcc : DS.dc { s with fs := updL n (addF b) s.fs } = s.dc.use 0 ((usedL 0 s.fs : Int) + mo) := by
              rw [e] at hu0' hu1'
              simp at hu0' hu1'
              unfold DS.dc DC.use
              simp
              omega
            rw [hcc]
            exact (h2.drew.setU _).1
          · exact o2.drew.andThen (only_setD _) fun k _ hk => by rw [hk]; exact h.sd
          · have hcc : DS.dc { s with fs := updL n (addF b) s.fs } = s.dc.use 1 ((usedL 1 s.fs : Int) + mo) := by
              rw [e] at hu0' hu1'
              simp at hu0' hu1'
              unfold DS.dc DC.use
              simp
              omega
            rw [hcc]
            exact (h2.drew.setU _).2
          · exact o2.drew.andThen (only_setD _) fun k _ hk => by rw [hk]; exact h.sd
        have hrowm : ∀ m, (w.drewN m).ownsRow 0 5 1 (.slice a f.data.length cap) f.data.length (f.data.map byteV) := fun m => hrow
        have STEP := Lib.hid step
        have z3 : IntKind.i64.wrap ((usedL 0 s.fs : Int) + (mo : Int)) = (usedL 0 s.fs : Int) + (mo : Int) := IntWalk.i64_in _ (by omega)
        have z4 : IntKind.i64.wrap ((usedL 1 s.fs : Int) + (mo : Int)) = (usedL 1 s.fs : Int) + (mo : Int) := IntWalk.i64_in _ (by omega)
        clear h he hd hF hx hfe hval hfull hef hm hn hv hbsz hmo hw step ch hno hrow hFit huse
        rcases ht with ht0 | ht1
        · have HT := Lib.hid ht0
          clear ht0
          go_enter Try.func30, Try.ntmps30
          go_wp2_with (go_at_call 52; refine hf.mono ?_; rintro e w' ⟨rfl, rfl⟩)
          go_quiet ((go_at_call 51; exact quiet_l (fun W => disk_blocks _ (by omega) W)))
          go_wp2_with (first | (go_at_call 55; refine (hfr _).mono ?_; rintro e w' ⟨rfl, m, rfl⟩) | (at_builtin; refine wpList_append_at rfl _ _ rfl _ _ _ rfl (hrowm _) (bs b) rfl hlb2 ?_; intro v' w1 ho hg hat; obtain ⟨a', cap', rfl, hcap'⟩ := row_slice ho; obtain ⟨q0, q1, q2, q3, q4, q5, q6, q7, q8⟩ := STEP.out _ _ w1 ho hg hat; have Q8 := Lib.hid (q7 HT.out); clear q7 q8 ho hg hat))
          rw [HT.out] at q2
          generalize World.setCell w1 _ _ = w2 at *
          refine wp_region_still_tail 14 (by kernel_rfl) (by kernel_rfl) ?_
          simp only [List.take_succ_cons, List.take_zero, List.drop_succ_cons, List.drop_zero]
          repeat still_step
          refine wpStill_nil ?_
          change wpList _ _ _ _ _ (World.drew _)
          go_wp2_with (go_at_call 56; refine (HCH.out _ _ Q8.out.1 Q8.out.2).mono ?_; rintro e w4 ⟨rfl, hD4, hO4⟩)
          go_ret
          exact ⟨rfl, hD4, hO4⟩
        · have HT := Lib.hid ht1
          clear ht1
          go_enter Try.func30, Try.ntmps30
          go_wp2_with (go_at_call 52; refine hf.mono ?_; rintro e w' ⟨rfl, rfl⟩)
          go_quiet ((go_at_call 51; exact quiet_l (fun W => disk_blocks _ (by omega) W)))
          go_wp2_with (first | (go_at_call 55; refine (hfr _).mono ?_; rintro e w' ⟨rfl, m, rfl⟩) | (at_builtin; refine wpList_append_at rfl _ _ rfl _ _ _ rfl (hrowm _) (bs b) rfl hlb2 ?_; intro v' w1 ho hg hat; obtain ⟨a', cap', rfl, hcap'⟩ := row_slice ho; obtain ⟨q0, q1, q2, q3, q4, q5, q6, q7, q8⟩ := STEP.out _ _ w1 ho hg hat; have Q8 := Lib.hid (q8 HT.out); clear q7 q8 ho hg hat))
          rw [HT.out] at q2
          generalize World.setCell w1 _ _ = w2 at *
          refine wp_region_still_tail 14 (by kernel_rfl) (by kernel_rfl) ?_
          simp only [List.take_succ_cons, List.take_zero, List.drop_succ_cons, List.drop_zero]
          repeat still_step
          refine wpStill_nil ?_
          change wpList _ _ _ _ _ (World.drew _)
          go_wp2_with (go_at_call 56; refine (HCH.out _ _ Q8.out.1 Q8.out.2).mono ?_; rintro e w4 ⟨rfl, hD4, hO4⟩)
          go_ret
          exact ⟨rfl, hD4, hO4⟩
end Go.Proofs.Ytlpknhiagdhkcaa
/- What Keeps name; what a file loses. -/
set_option linter.unusedVariables false
set_option maxRecDepth 100000
namespace Go.Proofs.Ytlpknhiagdhkcaa
open Go.RowKit Go.Maps

/-- The Keeps that stand in a row. -/
def RowK (b off : Nat) (ks : List (Int × Int)) (w : World) : Prop :=
  ∀ k, k < ks.length → b < w.heap.size ∧ w.cell? ⟨b, off + k * 2, none⟩ = some (.int .i64 (ks.getD k (0, 0)).1) ∧ w.cell? ⟨b, off + k * 2 + 1, none⟩ = some (.int .i64 (ks.getD k (0, 0)).2) ∧ (Lit.int .i64 (ks.getD k (0, 0)).1).wf = true ∧ (Lit.int .i64 (ks.getD k (0, 0)).2).wf = true
def IsKeeps (w : World) (a : Option Addr) (len : Nat) (ks : List (Int × Int)) : Prop := len = ks.length ∧ len ≤ 9223372036854775807 ∧ ∃ b off, (len = 0 ∨ a = some ⟨b, off, none⟩) ∧ RowK b off ks w
theorem IsKeeps.nil (w : World) : IsKeeps w none 0 [] := ⟨rfl, by omega, 0, 0, .inl rfl, fun k hk => absurd hk (by simp)⟩
theorem IsKeeps.below {w w' : World} {a : Option Addr} {len : Nat} {ks : List (Int × Int)} (h : IsKeeps w a len ks) (k : Below w.heap.size w w') : IsKeeps w' a len ks := by
  obtain ⟨h0, h1, b, off, h2, h3⟩ := h
  refine ⟨h0, h1, b, off, h2, fun i hi => ?_⟩
  obtain ⟨a1, a2, a3, a4⟩ := h3 i hi
  exact ⟨Nat.lt_of_lt_of_le a1 k.size, by rw [k.cell a1]; exact a2, by rw [k.cell a1]; exact a3, a4⟩

theorem keepOf_nil (n : Int) : keepOf [] n = none := rfl
theorem keepOf_snoc (l : List (Int × Int)) (x : Int × Int) (n : Int) : keepOf (l ++ [x]) n = match keepOf l n with | some v => some v | none => if x.1 = n then some x.2 else none := by
  unfold keepOf
  rw [List.find?_append]
  cases l.find? fun k => decide (k.1 = n) with
  | some p => rfl
  | none =>
    by_cases h : x.1 = n
    · simp [h]
    · simp [h]
/-- A map that has, for each file that Keeps name, what the first says. -/
def KeptMap (D : DataW Unit) (l : List (Int × Int)) : Prop := ∀ n : Int, Maps.has D (.int .i64 n) = (keepOf l n).isSome ∧ ∀ v, keepOf l n = some v → D.atKey (.int .i64 n) (.lit (.int .i64 0)) = .lit (.int .i64 v)
theorem key_i64 {n : Int} (h : (Lit.int .i64 n).wf = true) : keyOf Try.prog 3 (.int .i64 n) = some (.int .i64 n) := keyOf_int_mk Try.underlying3 h
theorem isKey_i64 (n : Int) : WideAt.IsKeyLit (.int .i64 n) := by simp [WideAt.IsKeyLit]
theorem KeptMap.start : KeptMap (.map []) [] := fun n => ⟨rfl, fun v h => by cases h⟩
theorem KeptMap.put {D : DataW Unit} {l : List (Int × Int)} (h : KeptMap D l) (hD : Maps.IsMap D) (x : Int × Int) (hno : keepOf l x.1 = none) : KeptMap (D.put (.int .i64 x.1) (.lit (.int .i64 x.2))) (l ++ [x]) := by
  intro n
  rw [keepOf_snoc]
  by_cases hn : x.1 = n
  · subst hn
    rw [hno]
    simp only [if_pos]
    refine ⟨by rw [has_put_same hD (isKey_i64 _)]; simp, fun v hv => ?_⟩
    rw [atKey_put_same hD (isKey_i64 _)]
    injection hv with hv
    rw [hv]
  · have hne : (Lit.int .i64 n) ≠ .int .i64 x.1 := fun e => hn (by injection e with _ e; exact e.symm)
    rw [has_put_other hne, (h n).1]
    cases hk : keepOf l n with
    | some v =>
      refine ⟨by simp, fun v' hv => ?_⟩
      rw [atKey_put_other hne]
      exact (h n).2 v' (by rw [hk]; exact hv)
    | none =>
      rw [if_neg hn]
      exact ⟨rfl, fun v hv => by cases hv⟩
theorem KeptMap.skip {D : DataW Unit} {l : List (Int × Int)} (h : KeptMap D l) (x : Int × Int) {v : Int} (hv : keepOf l x.1 = some v) : KeptMap D (l ++ [x]) := by
  intro n
  rw [keepOf_snoc]
  cases hk : keepOf l n with
  | some u =>
    have := h n
    rw [hk] at this
    exact this
  | none =>
    have hn : ¬ x.1 = n := fun e => by rw [e, hk] at hv; cases hv
    have := h n
    rw [hk] at this
    simp only [if_neg hn]
    exact this
theorem take_snoc {α : Type} (l : List α) (d : α) (k : Nat) (h : k < l.length) : l.take (k + 1) = l.take k ++ [l.getD k d] := by
  rw [List.take_succ_eq_append_getElem h]
  simp [List.getD_eq_getElem?_getD, List.getElem?_eq_getElem h]
theorem zero3 (w : World) : (zeroValue 3).run Try.prog w = .ok (.int .i64 0) w := by kernel_rfl

set_option maxHeartbeats 800000 in
set_option maxRecDepth 100000 in
theorem disk_firstKeeps (a : Option Addr) (len cap : Nat) (ks : List (Int × Int)) (w : World) (h : IsKeeps w a len ks) :
    Calls Try.prog 49 #[.slice a len cap] w fun e w' => ∃ b n D, e = .returned (.map (some b)) ∧ w.heap.size ≤ b ∧ w'.ownsMap Try.prog 3 (plainElem Try.prog 3) b n D ∧ KeptMap D ks ∧ Below w.heap.size w w' := by
  obtain ⟨hlen, hmax, b, off, ha, hrow⟩ := h
  have hmm := @run_makeMap Try.prog
  have HL := Lib.hid hlen
  have HA := Lib.hid ha
  have HR := Lib.hid hrow
  clear hlen ha hrow
  go_enter Try.func49, Try.ntmps49
  go_wp2
  go_loopw [11] (fun i wr => ∃ k : Nat, k ≤ len ∧ i = .int .i64 k ∧ ∃ D, wr.ownsMap Try.prog 3 (plainElem Try.prog 3) w.heap.size k D ∧ KeptMap D (ks.take k) ∧ Below w.heap.size w wr) (fun i _ => len - (RowKit.intOf i).toNat)
  case atStart => exact ⟨0, Nat.zero_le _, rfl, .map [], World.ownsMap_made _ _ _ _, KeptMap.start, (Below.refl _ _).alloc (Nat.le_refl _) _⟩
  case round =>
    obtain ⟨k, hk, rfl, D, hown, hkd, hbl⟩ := hrel
    have HKD := Lib.hid hkd
    have HBL := Lib.hid hbl
    clear hkd
    by_cases hlt : k < len
    · obtain ⟨r1, r2, r3, r4, r5⟩ := HR.out k (by rw [← HL.out]; exact hlt)
      obtain rfl : a = some ⟨b, off, none⟩ := by rcases HA.out with x | x; (omega); (exact x)
      have c0 : wr.cell? ⟨b, off + k * 2, none⟩ = some (.int .i64 (ks.getD k (0, 0)).1) := by rw [hbl.cell r1]; exact r2
      have c1 : wr.cell? ⟨b, off + k * 2 + 1, none⟩ = some (.int .i64 (ks.getD k (0, 0)).2) := by rw [hbl.cell r1]; exact r3
      have hlt' : (k : Int) < len := by omega
      obtain ⟨x, hx⟩ : ∃ x, x = ks.getD k (0, 0) := ⟨_, rfl⟩
      rw [← hx] at c0 c1 r4 r5
      have HX := Lib.hid hx
      have hkm : k < maxLen := by unfold maxLen; omega
      have htk : Hid (ks.take (k + 1) = ks.take k ++ [x]) := by rw [HX.out]; exact take_snoc ks (0, 0) k (by rw [← HL.out]; exact hlt)
      clear hx r2 r3 hbl r1
      cases hko : keepOf (ks.take k) x.1 with
      | none =>
        have hh : Maps.has D (.int .i64 x.1) = false := by rw [(HKD.out x.1).1, hko]; rfl
        have HN := Lib.hid hko
        clear hko
        go_wp2_with (first | (at_lookup; refine wpList_lookup_own_ok_int _ rfl _ _ 104 rfl 3 3 .i64 law3 Try.underlying104 Try.underlying3 (zero3 _) _ k D rfl (hown.alloc _) _ _ rfl (key_i64 r4) ?_; intro cc hat hwc) | (at_mapUpdate; refine wpList_mapUpdate_own _ rfl _ _ _ 104 rfl 3 3 law3 Try.underlying104 _ _ k D rfl (hown.alloc _) hkm _ _ _ rfl rfl (key_i64 r4) _ [] (plainElem_int Try.underlying3 r5) ?_; intro w2 hown2 hgrow2))
        go_roundw
        case rel => exact ⟨k + 1, by omega, by go_num, _, hown2, by rw [htk.out]; exact HKD.out.put hown.isMap x HN.out, (HBL.out.alloc HBL.out.size _).grown hgrow2 (Nat.le_trans HBL.out.size (by simp)) fun j hj => by injection hj with hj; omega⟩
        case measure => simp [RowKit.intOf]; omega
      | some v =>
        have hh : Maps.has D (.int .i64 x.1) = true := by rw [(HKD.out x.1).1, hko]; rfl
        have HN := Lib.hid hko
        clear hko
        go_wp2_with (at_lookup; refine wpList_lookup_own_ok_int _ rfl _ _ 104 rfl 3 3 .i64 law3 Try.underlying104 Try.underlying3 (zero3 _) _ k D rfl (hown.alloc _) _ _ rfl (key_i64 r4) ?_; intro cc hat hwc)
        go_roundw
        case rel => exact ⟨k + 1, by omega, by go_num, D, (hown.alloc _).mono (Nat.le_succ _), by rw [htk.out]; exact HKD.out.skip x HN.out, HBL.out.alloc HBL.out.size _⟩
        case measure => simp [RowKit.intOf]; omega
    · go_wp2
      go_ret
      have hfin : ks.take k = ks := List.take_of_length_le (by rw [← HL.out]; omega)
      refine ⟨_, k, D, rfl, Nat.le_refl _, hown, ?_, HBL.out⟩
      have := HKD.out
      rw [hfin] at this
      exact this
end Go.Proofs.Ytlpknhiagdhkcaa
/- What a file loses when the power goes. -/
set_option linter.unusedVariables false
set_option maxRecDepth 100000
namespace Go.Proofs.Ytlpknhiagdhkcaa
open Go.RowKit Go.Maps

/-- The head of a row. -/
theorem row_take {w : World} {a : Option Addr} {n cap m : Nat} {xs : List Value} (h : w.ownsRow 0 5 1 (.slice a n cap) n xs) (hm : m ≤ n) : w.ownsRow 0 5 1 (.slice a m cap) m (xs.take m) := by
  have hl : xs.length = n := by have := h.1; omega
  refine ⟨by rw [List.length_take]; omega, ?_⟩
  rcases h.2 with ⟨hv, h0⟩ | ⟨g, cap', cur, hv, hb, hg, hle, hmx, hsz, htk⟩
  · injection hv with h1 h2 h3
    subst h1 h2 h3
    exact .inl ⟨by rw [show m = 0 by omega], by omega⟩
  · injection hv with h1 h2 h3
    subst h1 h3
    refine .inr ⟨g, cap, cur, rfl, hb, hg, by omega, hmx, hsz, ?_⟩
    rw [← htk, List.take_take]
    congr 1
    omega
def keptLen (k : Int) (f : DF) : Nat := f.sb + min k.toNat (f.data.length - f.sb)
theorem keptLen_le {k : Int} {f : DF} (h : f.sb ≤ f.data.length) : keptLen k f ≤ f.data.length ∧ f.sb ≤ keptLen k f := by unfold keptLen; omega
theorem loseF_eq (k : Int) (f : DF) : loseF k f = { f with data := f.data.take (keptLen k f), sure := true, sb := keptLen k f } := rfl

theorem own_slice (a : Option Addr) (n m cap : Nat) : Value.ownBlock (.slice a n cap) = Value.ownBlock (.slice a m cap) := by cases a <;> rfl
theorem findE_upd {n : Int} {e' : DE} (hn : e'.f.n = n) : ∀ {es : List DE} {e : DE}, findE n es = some e → findE n (updE n e' es) = some e'
  | [], e, h => by cases h
  | x :: r, e, h => by
    unfold findE at h
    show findE n ((if x.f.n = n then e' else x) :: updE n e' r) = some e'
    by_cases hx : x.f.n = n
    · rw [if_pos hx]
      unfold findE
      rw [if_pos hn]
    · rw [if_neg hx] at h
      rw [if_neg hx]
      unfold findE
      rw [if_neg hx]
      exact findE_upd hn h
theorem updE_upd {n : Int} {e' e'' : DE} (hn : e'.f.n = n) (es : List DE) : updE n e'' (updE n e' es) = updE n e'' es := by
  unfold updE
  rw [List.map_map]
  apply List.map_congr_left
  intro x _
  simp only [Function.comp]
  by_cases hx : x.f.n = n
  · rw [if_pos hx, if_pos hn, if_pos hx]
  · rw [if_neg hx, if_neg hx]
set_option maxRecDepth 100000 in
theorem lay_lose {S : Nat → Prop} {w : World} {d mb : Nat} {es : List DE} {c : DC} (h : Lay S w d mb es c) (e0 : DE) (n : Int) (hf : findE n es = some e0) (k : Int) (hsb : e0.f.sb ≤ e0.f.data.length) (hlen : e0.f.data.length ≤ 4611686018427387904) :
    Calls Try.prog 50 #[.pointer (some ⟨e0.fb, 0, none⟩), .int .i64 k] w fun e w' => e = .returned (.tuple #[]) ∧ (∃ v', Lay S w' d mb (updE n ⟨loseF k e0.f, e0.fb, v'⟩ es) c) ∧ Only (fun j => j = e0.fb) w w' := by
  obtain ⟨hm, hn⟩ := findE_mem hf
  obtain ⟨a, cap, hv, hc⟩ := row_slice (h.file e0 hm).2
  obtain ⟨kl1, kl2⟩ := keptLen_le (k := k) hsb
  have hrow : w.ownsRow 0 5 1 (.slice a e0.f.data.length cap) e0.f.data.length (e0.f.data.map byteV) := by have := (h.file e0 hm).2; rw [hv] at this; exact this
  have g1 : w.cell? ⟨e0.fb, 1, none⟩ = some (.slice a e0.f.data.length cap) := by rw [h.fcell hm 1, ← hv]; rfl
  have g3 : w.cell? ⟨e0.fb, 3, none⟩ = some (.int .i64 (e0.f.sb : Int)) := h.fcell hm 3
  have f1 := h.ffree hm 1
  obtain ⟨q, hq⟩ : ∃ q : Nat, q = keptLen k e0.f := ⟨_, rfl⟩
  have z1 : IntKind.i64.wrap ((e0.f.data.length : Int) - (e0.f.sb : Int)) = (e0.f.data.length : Int) - (e0.f.sb : Int) := IntWalk.i64_in _ (by omega)
  have hqv : (e0.f.sb : Int) + min (max k 0) ((e0.f.data.length : Int) - (e0.f.sb : Int)) = (q : Int) := by rw [hq]; unfold keptLen; omega
  have z2 : IntKind.i64.wrap ((e0.f.sb : Int) + min (max k 0) ((e0.f.data.length : Int) - (e0.f.sb : Int))) = (q : Int) := by rw [hqv]; exact IntWalk.i64_in _ (by omega)
  have q0 : q ≤ e0.f.data.length := by omega
  have q1 : q ≤ cap := by omega
  have hcap : cap ≤ 9223372036854775807 := by
    rcases hrow.2 with ⟨hv', h0⟩ | ⟨g, cap', cur, hv', _, _, _, hmx, _⟩
    · injection hv' with h1 h2 h3
      omega
    · injection hv' with h1 h2 h3
      unfold maxLen at hmx
      omega
  clear hqv
  -- what the reslicing leaves
  have step : ∀ w1 : World, (∀ j, j < w.heap.size → w1.heap[j]? = w.heap[j]?) → Lay S (w1.setCell ⟨e0.fb, 1, none⟩ (.slice a q cap)) d mb (updE n ⟨{ e0.f with data := e0.f.data.take q }, e0.fb, .slice a q cap⟩ es) c := by
    intro w1 hw1
    have hfb := hw1 _ (heap_lt (h.file e0 hm).1)
    refine h.turn hf hn rfl (fun j hj h1 _ => ?_) ⟨?_, ?_⟩ (fun g hg => .inl (by rw [← hg, hv]; exact own_slice _ _ _ _)) (fun _ x => x) (fun g hg => h.sr e0 hm g (by rw [← hg, hv]; exact own_slice _ _ _ _))
    · rw [heap_set_other h1]
      exact hw1 j hj
    · exact heap_set (o := 1) (hfb.trans (h.file e0 hm).1) _
    · have h5 := row_take hrow q0
      have h6 : (e0.f.data.take q).length = q := by rw [List.length_take]; omega
      show World.ownsRow _ 0 5 1 (.slice a q cap) (e0.f.data.take q).length ((e0.f.data.take q).map byteV)
      rw [h6, List.map_take]
      refine ownsRow_same h5 fun g hg => ?_
      have hg' : e0.v.ownBlock = some g := by rw [hv, ← hg]; exact own_slice _ _ _ _
      rw [heap_set_other ((h.ne_row hm hg').2.2 e0 hm)]
      obtain ⟨cur, hcur⟩ := ownsRow_row (h.file e0 hm).2 hg'
      exact hw1 g (heap_lt hcur)
  have hfin : findE n (updE n ⟨{ e0.f with data := e0.f.data.take q }, e0.fb, .slice a q cap⟩ es) = some ⟨{ e0.f with data := e0.f.data.take q }, e0.fb, .slice a q cap⟩ := findE_upd (e' := ⟨{ e0.f with data := e0.f.data.take q }, e0.fb, .slice a q cap⟩) hn hf
  have hset : ∀ w2, Lay S w2 d mb (updE n ⟨{ e0.f with data := e0.f.data.take q }, e0.fb, .slice a q cap⟩ es) c → Calls Try.prog 70 #[.pointer (some ⟨e0.fb, 0, none⟩)] w2 fun e w' => e = .returned (.tuple #[]) ∧ (∃ v', Lay S w' d mb (updE n ⟨loseF k e0.f, e0.fb, v'⟩ es) c) ∧ Only (fun j => j = e0.fb) w2 w' := by
    intro w2 h2
    refine (lay_settle h2 _ n hfin).mono fun e w' ⟨he, hl, ho⟩ => ⟨he, ⟨.slice a q cap, ?_⟩, ho⟩
    rw [updE_upd (e' := ⟨{ e0.f with data := e0.f.data.take q }, e0.fb, .slice a q cap⟩) hn] at hl
    have : loseF k e0.f = syncF { e0.f with data := e0.f.data.take q } := by
      rw [loseF_eq]
      unfold syncF
      simp only
      rw [← hq, List.length_take, Nat.min_eq_left q0]
    rw [this]
    exact hl
  have STEP := Lib.hid step
  have HSET := Lib.hid hset
  clear h hf hm hn hv hrow step hset hfin hq
  go_enter Try.func50, Try.ntmps50
  go_wp2
  go_quiet (fail)
  go_wp2
  generalize hW : World.drewN w _ = w1
  have g1' : w1.cell? ⟨e0.fb, 1, none⟩ = some (.slice a e0.f.data.length cap) := by rw [← hW]; exact g1
  have g3' : w1.cell? ⟨e0.fb, 3, none⟩ = some (.int .i64 (e0.f.sb : Int)) := by rw [← hW]; exact g3
  have f1' : w1.frozen? ⟨e0.fb, 1, none⟩ = false := by rw [← hW]; exact f1
  have ST := Lib.hid (STEP.out w1.drew (fun _ _ => by rw [← hW]; rfl))
  have OO : Only (fun j => j = e0.fb) w w1.drew := by rw [← hW]; exact ((Only.refl _ w).drewN _).drew
  have OH := Lib.hid OO
  clear hW OO g1 g3 f1
  refine wp_region_still_tail 17 (by kernel_rfl) (by kernel_rfl) ?_
  simp only [List.take_succ_cons, List.take_zero, List.drop_succ_cons, List.drop_zero]
  repeat still_step
  refine wpStill_nil ?_
  change wpList _ _ _ _ _ (World.drew _)
  go_wp2_with (go_at_call 70; refine (HSET.out _ ST.out).mono ?_; rintro e w2 ⟨rfl, h2, o2⟩)
  go_end0
  exact ⟨rfl, h2, (Only.setCell (S := fun j => j = e0.fb) OH.out (p := ⟨e0.fb, 1, none⟩) (.inl rfl) _).trans o2⟩
end Go.Proofs.Ytlpknhiagdhkcaa
