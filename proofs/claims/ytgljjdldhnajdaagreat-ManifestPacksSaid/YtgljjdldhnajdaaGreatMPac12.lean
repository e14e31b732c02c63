/- Texts put together: ManPlain2, ManCmp, ManAtS, ManFindS, ManCopy, ManInsS -/
import Derived.Test.YtgljjdldhnajdaaGreatMPac05
import Derived.Sort.Grow
import Derived.Sort.Statements
import Derived.Shelf.SlSortCmp.QuietGrown
import Derived.Test.YtgljjdldhnajdaaGreatMPac11
import Derived.Laws.IdiomCopy
import Derived.Shelf.Spec.SlicesInsert
import Derived.Shelf.Spec.SlicesInsertGrow
import Derived.Shelf.RegionOpenPlain
/- What is taken out of a state; what is beside a table's place. -/
set_option linter.unusedVariables false
set_option maxRecDepth 100000
namespace Go.Proofs.YtgljjdldhnajdaaGreat

theorem filter_erase {α : Type} (g : α → Int) : ∀ {L : List α} {i : Nat} {x : α}, (L.map g).Nodup → L[i]? = some x → L.filter (fun t => decide (g t ≠ g x)) = L.eraseIdx i
  | y :: L, 0, x, hn, hx => by
    obtain rfl : y = x := by simpa using hx
    rw [List.map_cons, List.nodup_cons] at hn
    rw [List.filter_cons, if_neg (by simp), List.eraseIdx_cons_zero]
    refine List.filter_eq_self.2 fun t ht => ?_
    have : g t ≠ g y := fun e => hn.1 (List.mem_map.2 ⟨t, ht, e⟩)
    simpa using this
  | y :: L, i + 1, x, hn, hx => by
    have hx' : L[i]? = some x := by simpa using hx
    rw [List.map_cons, List.nodup_cons] at hn
    have hne : g y ≠ g x := fun e => hn.1 (List.mem_map.2 ⟨x, List.mem_of_getElem? hx', e.symm⟩)
    rw [List.filter_cons, if_pos (by simpa using hne), List.eraseIdx_cons_succ, filter_erase g hn.2 hx']
theorem filter_none {f : Int} {L : List Int} (h : ¬ f ∈ L) : L.filter (fun g => decide (g ≠ f)) = L := List.filter_eq_self.2 fun g hg => by
  have : g ≠ f := fun e => h (e ▸ hg)
  simpa using this
theorem map_filter_file {α : Type} (g : α → Int) (f : Int) (L : List α) : (L.map g).filter (fun x => decide (x ≠ f)) = (L.filter fun t => decide (g t ≠ f)).map g := by rw [List.filter_map]; rfl
theorem nodup3 {A B C : List Int} (h : (A ++ B ++ C).Nodup) {f : Int} : (f ∈ A → ¬ f ∈ B ∧ ¬ f ∈ C) ∧ (f ∈ B → ¬ f ∈ A ∧ ¬ f ∈ C) ∧ (f ∈ C → ¬ f ∈ A ∧ ¬ f ∈ B) := by
  obtain ⟨h1, h2, h3⟩ := List.nodup_append.1 h
  obtain ⟨h4, h5, h6⟩ := List.nodup_append.1 h1
  refine ⟨fun ha => ⟨fun hb => h6 f ha f hb rfl, fun hc => h3 f (List.mem_append_left _ ha) f hc rfl⟩, fun hb => ⟨fun ha => h6 f ha f hb rfl, fun hc => h3 f (List.mem_append_right _ hb) f hc rfl⟩, fun hc => ⟨fun ha => h3 f (List.mem_append_left _ ha) f hc rfl, fun hb => h3 f (List.mem_append_right _ hb) f hc rfl⟩⟩
theorem drop_T {s : St} (h : s.files.Nodup) {i : Nat} {x : Tb} (hx : s.tabs[i]? = some x) : s.tabs.filter (fun t => decide (t.file ≠ x.file)) = s.tabs.eraseIdx i ∧ s.files.filter (fun g => decide (g ≠ x.file)) = ({ s with tabs := s.tabs.eraseIdx i } : St).files := by
  have h' : (s.tabs.map (·.file) ++ s.stos.map (·.file) ++ s.logs).Nodup := h
  have e := filter_erase Tb.file (List.nodup_append.1 (List.nodup_append.1 h').1).1 hx
  have hm : x.file ∈ s.tabs.map (·.file) := List.mem_map.2 ⟨x, List.mem_of_getElem? hx, rfl⟩
  have hq := (nodup3 h' (f := x.file)).1 hm
  refine ⟨e, ?_⟩
  show (s.tabs.map (·.file) ++ s.stos.map (·.file) ++ s.logs).filter _ = (s.tabs.eraseIdx i).map (·.file) ++ s.stos.map (·.file) ++ s.logs
  rw [List.filter_append, List.filter_append, filter_none hq.1, filter_none hq.2, map_filter_file, e]
theorem drop_S {s : St} (h : s.files.Nodup) {i : Nat} {x : So} (hx : s.stos[i]? = some x) : s.stos.filter (fun t => decide (t.file ≠ x.file)) = s.stos.eraseIdx i ∧ s.files.filter (fun g => decide (g ≠ x.file)) = ({ s with stos := s.stos.eraseIdx i } : St).files := by
  have h' : (s.tabs.map (·.file) ++ s.stos.map (·.file) ++ s.logs).Nodup := h
  have e := filter_erase So.file (List.nodup_append.1 (List.nodup_append.1 h').1).2.1 hx
  have hm : x.file ∈ s.stos.map (·.file) := List.mem_map.2 ⟨x, List.mem_of_getElem? hx, rfl⟩
  have hq := (nodup3 h' (f := x.file)).2.1 hm
  refine ⟨e, ?_⟩
  show (s.tabs.map (·.file) ++ s.stos.map (·.file) ++ s.logs).filter _ = s.tabs.map (·.file) ++ (s.stos.eraseIdx i).map (·.file) ++ s.logs
  rw [List.filter_append, List.filter_append, filter_none hq.1, filter_none hq.2, map_filter_file, e]
theorem drop_I {s : St} (h : s.files.Nodup) {i : Nat} {x : Int} (hx : s.logs[i]? = some x) : s.logs.filter (fun t => decide (t ≠ x)) = s.logs.eraseIdx i ∧ s.files.filter (fun g => decide (g ≠ x)) = ({ s with logs := s.logs.eraseIdx i } : St).files := by
  have h' : (s.tabs.map (·.file) ++ s.stos.map (·.file) ++ s.logs).Nodup := h
  have e := filter_erase id (by simpa using (List.nodup_append.1 h').2.1) hx
  have hm : x ∈ s.logs := List.mem_of_getElem? hx
  have hq := (nodup3 h' (f := x)).2.2 hm
  have e' : s.logs.filter (fun t => decide (t ≠ x)) = s.logs.eraseIdx i := e
  refine ⟨e', ?_⟩
  show (s.tabs.map (·.file) ++ s.stos.map (·.file) ++ s.logs).filter _ = s.tabs.map (·.file) ++ s.stos.map (·.file) ++ s.logs.eraseIdx i
  rw [List.filter_append, List.filter_append, filter_none hq.1, filter_none hq.2, e']

/-- The tables beside a place. -/
def besides (L : List Tb) (k : Nat) : List Tb := (L.take (min (k + 1) L.length)).drop (k - 1)
theorem mem_besides {L : List Tb} {k i : Nat} {u : Tb} (hi : L[i]? = some u) (h1 : i = k ∨ i + 1 = k) : u ∈ besides L k := by
  have hlt := (List.getElem?_eq_some_iff.1 hi).1
  unfold besides
  refine List.mem_iff_getElem?.2 ⟨i - (k - 1), ?_⟩
  rw [List.getElem?_drop, List.getElem?_take, if_pos (by omega), show k - 1 + (i - (k - 1)) = i by omega]
  exact hi
theorem besides_sub {L : List Tb} {k : Nat} {u : Tb} (h : u ∈ besides L k) : u ∈ L := (List.take_subset _ _) (List.drop_subset _ _ h)
theorem lb_at (t : Tb) : ∀ {L : List Tb}, (L.Pairwise fun a b => tlt a b = true) → ∀ {i : Nat} {u : Tb}, L[i]? = some u → (i < lbT t L ↔ tlt u t = true)
  | v :: L, h, i, u, hi => by
    rw [List.pairwise_cons] at h
    rw [lbT_cons]
    cases hv : tlt v t with
    | true =>
      rw [if_pos rfl]
      cases i with
      | zero =>
        obtain rfl : v = u := by simpa using hi
        exact ⟨fun _ => hv, fun _ => by omega⟩
      | succ i =>
        have hi' : L[i]? = some u := by simpa using hi
        rw [Nat.succ_lt_succ_iff]
        exact lb_at t h.2 hi'
    | false =>
      rw [if_neg (by simp)]
      refine ⟨fun x => by omega, fun x => ?_⟩
      exfalso
      cases i with
      | zero =>
        obtain rfl : v = u := by simpa using hi
        rw [hv] at x; cases x
      | succ i =>
        have hi' : L[i]? = some u := by simpa using hi
        have := tlt_trans (h.1 u (List.mem_of_getElem? hi')) x
        rw [hv] at this; cases this
theorem lb_atS (t : So) : ∀ {L : List So}, (L.Pairwise fun a b => a.file < b.file) → ∀ {i : Nat} {u : So}, L[i]? = some u → (i < lbS t L ↔ u.file < t.file)
  | v :: L, h, i, u, hi => by
    rw [List.pairwise_cons] at h
    rw [lbS_cons]
    by_cases hv : v.file < t.file
    · rw [if_pos hv]
      cases i with
      | zero =>
        obtain rfl : v = u := by simpa using hi
        exact ⟨fun _ => hv, fun _ => by omega⟩
      | succ i =>
        have hi' : L[i]? = some u := by simpa using hi
        rw [Nat.succ_lt_succ_iff]
        exact lb_atS t h.2 hi'
    · rw [if_neg hv]
      refine ⟨fun x => by omega, fun x => ?_⟩
      exfalso
      cases i with
      | zero =>
        obtain rfl : v = u := by simpa using hi
        exact hv x
      | succ i =>
        have hi' : L[i]? = some u := by simpa using hi
        have := h.1 u (List.mem_of_getElem? hi')
        omega
theorem files_insS (s : St) (x : So) : (s.tabs.map (·.file) ++ (insS x s.stos).map (·.file) ++ s.logs).Perm (x.file :: s.files) := by
  have h1 : ((insS x s.stos).map (·.file)).Perm (x.file :: s.stos.map (·.file)) := (insS_perm x s.stos).map So.file
  have h2 := ((h1.append_left (s.tabs.map (·.file))).append_right s.logs)
  refine h2.trans ?_
  show (s.tabs.map (·.file) ++ x.file :: s.stos.map (·.file) ++ s.logs).Perm (x.file :: (s.tabs.map (·.file) ++ s.stos.map (·.file) ++ s.logs))
  rw [List.append_assoc, List.append_assoc]
  exact List.perm_middle
theorem files_insT (s : St) (x : Tb) : ((insT x s.tabs).map (·.file) ++ s.stos.map (·.file) ++ s.logs).Perm (x.file :: s.files) := by
  have h1 : ((insT x s.tabs).map (·.file)).Perm (x.file :: s.tabs.map (·.file)) := (insT_perm x s.tabs).map Tb.file
  exact (h1.append_right (s.stos.map (·.file))).append_right s.logs
/-- Some table meets the new one just if one beside its place does. -/
theorem meets_beside {L : List Tb} {t : Tb} (hr : L.Pairwise fun a b => tlt a b = true) (ha : L.Pairwise fun a b => a.lev = b.lev → 0 < a.lev → ltB a.high b.low = true) (hw : ∀ u ∈ L, ltB u.high u.low = false) (ht : ltB t.high t.low = false) (hl : 0 < t.lev) :
    L.any (meets t) = (besides L (lbT t L)).any (meets t) := by
  rw [Bool.eq_iff_iff]
  constructor
  · intro h
    obtain ⟨u, hu, hm⟩ := List.any_eq_true.1 h
    obtain ⟨i, hi⟩ := List.mem_iff_getElem?.1 hu
    have hlt := (List.getElem?_eq_some_iff.1 hi).1
    unfold meets at hm
    simp only [Bool.and_eq_true, decide_eq_true_eq, Bool.not_eq_true'] at hm
    obtain ⟨⟨hlev, m1⟩, m2⟩ := hm
    have pr : ∀ {a b : Nat} {x y : Tb}, a < b → L[a]? = some x → L[b]? = some y → tlt x y = true ∧ (x.lev = y.lev → 0 < x.lev → ltB x.high y.low = true) := fun {a b x y} hab hx hy => by
      obtain ⟨h1, e1⟩ := List.getElem?_eq_some_iff.1 hx
      obtain ⟨h2, e2⟩ := List.getElem?_eq_some_iff.1 hy
      rw [← e1, ← e2]
      exact ⟨List.pairwise_iff_getElem.1 hr a b h1 h2 hab, List.pairwise_iff_getElem.1 ha a b h1 h2 hab⟩
    have hkl := lbT_le t L
    rcases Nat.lt_or_ge i (lbT t L) with hk | hk
    · by_cases hk1 : i + 1 = lbT t L
      · exact List.any_eq_true.2 ⟨u, mem_besides hi (.inr hk1), by unfold meets; simp [hlev, m1, m2]⟩
      · exfalso
        obtain ⟨v, hv⟩ : ∃ v, L[lbT t L - 1]? = some v := ⟨_, List.getElem?_eq_getElem (by omega)⟩
        have hvt := (lb_at t hr hv).1 (by omega)
        obtain ⟨q1, q2⟩ := pr (by omega : i < lbT t L - 1) hi hv
        have l1 := tlt_lev q1; have l2 := tlt_lev hvt
        have q3 := q2 (by omega) (by omega)
        have q4 : ltB v.low t.low = true := by
          unfold tlt at hvt
          rw [if_pos (by omega), if_neg (by omega)] at hvt
          exact hvt
        rw [ltB_trans q3 q4] at m1; cases m1
    · by_cases hk1 : i = lbT t L
      · exact List.any_eq_true.2 ⟨u, mem_besides hi (.inl hk1), by unfold meets; simp [hlev, m1, m2]⟩
      · obtain ⟨v, hv⟩ : ∃ v, L[lbT t L]? = some v := ⟨_, List.getElem?_eq_getElem (by omega)⟩
        have hvt : tlt v t = false := by
          have := mt (lb_at t hr hv).2 (by omega)
          simpa using this
        obtain ⟨q1, q2⟩ := pr (by omega : lbT t L < i) hv hi
        have l1 := tlt_lev q1
        have l2 : t.lev ≤ v.lev := by
          unfold tlt at hvt
          split at hvt
          · omega
          · simp at hvt; omega
        have q3 := q2 (by omega) (by omega)
        have q4 : ltB v.low t.low = false := by
          unfold tlt at hvt
          rw [if_pos (by omega), if_neg (by omega)] at hvt
          exact hvt
        refine List.any_eq_true.2 ⟨v, mem_besides hv (.inl rfl), ?_⟩
        have r1 : ltB v.high t.low = false := by
          cases e : ltB v.high t.low with
          | false => rfl
          | true =>
            have := ltB_lt_le e q4
            rw [hw v (List.mem_of_getElem? hv)] at this; cases this
        have r2 : ltB t.high v.low = false := by
          cases e : ltB t.high v.low with
          | false => rfl
          | true =>
            have x1 := ltB_lt_le e (hw v (List.mem_of_getElem? hv))
            have x2 := ltB_trans x1 q3
            rw [m2] at x2; cases x2
        unfold meets
        simp [r1, r2]
        omega
  · intro h
    obtain ⟨u, hu, hm⟩ := List.any_eq_true.1 h
    exact List.any_eq_true.2 ⟨u, besides_sub hu, hm⟩
end Go.Proofs.YtgljjdldhnajdaaGreat
/- How tables and stores are compared. -/
set_option linter.unusedVariables false
set_option maxRecDepth 100000
namespace Go.Proofs.YtgljjdldhnajdaaGreat
open Go.RowKit Go.Sort

def cmpI (a b : Int) : Int := if a < b then -1 else if b < a then 1 else 0
def cmpL (a b : List UInt8) : Int := if ltB a b then -1 else if ltB b a then 1 else 0
theorem cmpL_lt {a b : List UInt8} (h : ltB a b = true) : cmpL a b = -1 := by simp [cmpL, h]
theorem cmpL_gt {a b : List UInt8} (h : ltB b a = true) : cmpL a b = 1 := by simp [cmpL, h, ltB_asymm h]
theorem cmpL_eq {a b : List UInt8} (h : a = b) : cmpL a b = 0 := by subst h; simp [cmpL, ltB_irrefl]
def cfT (a b : Tb) : Int := if a.lev = b.lev then (if a.lev = 0 then cmpI b.file a.file else cmpL a.low b.low) else cmpI a.lev b.lev
def cfS (a b : So) : Int := cmpI a.file b.file
theorem cmpI_neg (a b : Int) : decide (cmpI a b < 0) = decide (a < b) := by
  unfold cmpI
  by_cases h : a < b
  · simp [h]
  · by_cases h2 : b < a <;> simp [h, h2]
theorem cmpL_neg (a b : List UInt8) : decide (cmpL a b < 0) = ltB a b := by
  unfold cmpL
  cases h : ltB a b with
  | true => simp
  | false => cases h2 : ltB b a <;> simp
theorem cfT_neg (a b : Tb) : decide (cfT a b < 0) = tlt a b := by
  unfold cfT tlt
  split
  · split
    · exact cmpI_neg _ _
    · exact cmpL_neg _ _
  · exact cmpI_neg _ _
theorem cfS_neg (a b : So) : decide (cfS a b < 0) = decide (a.file < b.file) := cmpI_neg _ _
theorem cmpI_range (a b : Int) : -1 ≤ cmpI a b ∧ cmpI a b ≤ 1 := by unfold cmpI; split <;> (try split) <;> omega

set_option maxHeartbeats 1000000 in
theorem cmp_int (a b : Int) (w : World) : Calls Tryz.prog 116 #[.int .i64 a, .int .i64 b] w fun e w' => e = .returned (.int .i64 (cmpI a b)) ∧ w' = w := by
  have ha : (a == a) = true := by simp
  have hb : (b == b) = true := by simp
  rcases Int.lt_trichotomy a b with h | h | h
  · have h1 : decide (a < b) = true := decide_eq_true h
    have hv := Lib.hid (show cmpI a b = -1 by unfold cmpI; rw [if_pos h])
    clear h
    rw [hv.out]
    go_enter Tryz.func116, Tryz.ntmps116
    go_wp2
    go_ret
    exact ⟨rfl, rfl⟩
  · subst h
    have h1 : decide (a < a) = false := by simp
    have hv := Lib.hid (show cmpI a a = 0 by unfold cmpI; simp)
    rw [hv.out]
    go_enter Tryz.func116, Tryz.ntmps116
    go_wp2
    go_ret
    exact ⟨rfl, rfl⟩
  · have h1 : decide (b < a) = true := decide_eq_true h
    have h2 : decide (a < b) = false := decide_eq_false (by omega)
    have h3 : ¬ a < b := by omega
    have hv := Lib.hid (show cmpI a b = 1 by unfold cmpI; rw [if_neg h3, if_pos h])
    rw [hv.out]
    go_enter Tryz.func116, Tryz.ntmps116
    go_wp2
    go_ret
    exact ⟨rfl, rfl⟩
set_option maxHeartbeats 1000000 in
theorem cmp_isNaN (a : ByteArray) (w : World) : Calls Tryz.prog 143 #[.string a] w fun e w' => e = .returned (.bool false) ∧ w' = w := by
  go_enter Tryz.func143, Tryz.ntmps143
  go_wp2
  go_ret
  simp
set_option maxHeartbeats 1000000 in
theorem cmp_Compare (a b : List UInt8) (w : World) : Calls Tryz.prog 117 #[.string (bs a), .string (bs b)] w fun e w' => e = .returned (.int .i64 (cmpL a b)) ∧ w' = w := by
  have hab : Op.bytesLess (bs a).toList (bs b).toList = ltB a b := by rw [Lib.toList_data, Lib.toList_data, bs_list, bs_list, ltB_less]
  have hba : Op.bytesLess (bs b).toList (bs a).toList = ltB b a := by rw [Lib.toList_data, Lib.toList_data, bs_list, bs_list, ltB_less]
  have heq : ((bs a).toList == (bs b).toList) = (a == b) := by rw [Lib.toList_data, Lib.toList_data, bs_list, bs_list]
  obtain ⟨c, hc⟩ : ∃ c, c = cmpL a b := ⟨_, rfl⟩
  rw [← hc]
  have HC := Lib.hid hc
  clear hc
  have HN := fun x w => Lib.hid (cmp_isNaN x w)
  go_enter Tryz.func117, Tryz.ntmps117
  rcases ltB_total a b with h | h | h
  · rw [h] at hab
    have HC1 := Lib.hid (HC.out.trans (cmpL_lt h))
    clear h HC hba heq
    go_wp2_with (go_at_call 143; with_reducible refine (HN _ _).out.mono ?_; rintro e w1 ⟨rfl, rfl⟩)
    all_goals go_ret
    all_goals exact ⟨by rw [HC1.out]; rfl, rfl⟩
  · have h1 : ltB a b = false := by rw [h, ltB_irrefl]
    have h2 : (a == b) = true := by simpa using h
    rw [h1] at hab
    rw [h2] at heq
    have HC1 := Lib.hid (HC.out.trans (cmpL_eq h))
    clear h h1 h2 HC hba
    go_wp2_with (go_at_call 143; with_reducible refine (HN _ _).out.mono ?_; rintro e w1 ⟨rfl, rfl⟩)
    all_goals go_ret
    all_goals exact ⟨by rw [HC1.out]; rfl, rfl⟩
  · have h2 : (a == b) = false := by simpa using (ltB_ne h).symm
    rw [ltB_asymm h] at hab
    rw [h2] at heq
    have HC1 := Lib.hid (HC.out.trans (cmpL_gt h))
    clear h h2 HC hba
    go_wp2_with (go_at_call 143; with_reducible refine (HN _ _).out.mono ?_; rintro e w1 ⟨rfl, rfl⟩)
    all_goals go_ret
    all_goals exact ⟨by rw [HC1.out]; rfl, rfl⟩

theorem grown2 (w : World) (a b : Obj) : ∃ q os', (w.alloc a).alloc b = grow (w.drewN q) os' := ⟨0, _, by rw [alloc_eq_grow, alloc_eq_grow, grow_grow]; rfl⟩
set_option maxHeartbeats 1000000 in
theorem table_order (a b : Tb) (w : World) : Calls Tryz.prog 89 #[.agg (tcell a).toArray, .agg (tcell b).toArray] w fun e w' => e = .returned (.int .i64 (cfT a b)) ∧ ∃ q os', w' = grow (w.drewN q) os' := by
  have hI := fun x y W => Lib.hid (cmp_int x y W)
  have hS := fun x y W => Lib.hid (cmp_Compare x y W)
  show Calls Tryz.prog 89 #[.agg #[.int .i64 a.file, .int .i64 a.lev, .int .i64 a.cnt, .string (bs a.low), .string (bs a.high)], .agg #[.int .i64 b.file, .int .i64 b.lev, .int .i64 b.cnt, .string (bs b.low), .string (bs b.high)]] w _
  have HV := Lib.hid (show cfT a b = _ from rfl)
  obtain ⟨r, hr⟩ : ∃ r, r = cfT a b := ⟨_, rfl⟩
  rw [← hr]
  have HR := Lib.hid hr
  clear hr
  cases a with | mk af al ac alo ahi =>
  cases b with | mk bf bl bc blo bhi =>
  by_cases h : al = bl
  · subst h
    by_cases h0 : al = 0
    · have hv := Lib.hid (show r = cmpI bf af by rw [HR.out]; unfold cfT; rw [if_pos rfl, if_pos h0])
      clear HV HR
      subst h0
      go_enter Tryz.func89, Tryz.ntmps89
      go_wp2_with (go_at_call 116; with_reducible refine (hI _ _ _).out.mono ?_; rintro e w1 ⟨rfl, rfl⟩)
      go_ret
      exact ⟨by rw [hv.out]; rfl, grown2 _ _ _⟩
    · have hv := Lib.hid (show r = cmpL alo blo by rw [HR.out]; unfold cfT; rw [if_pos rfl, if_neg h0])
      clear HV HR
      have h0' : (al == 0) = false := by simpa using h0
      go_enter Tryz.func89, Tryz.ntmps89
      go_wp2_with (go_at_call 117; with_reducible refine (hS _ _ _).out.mono ?_; rintro e w1 ⟨rfl, rfl⟩)
      go_ret
      exact ⟨by rw [hv.out]; rfl, grown2 _ _ _⟩
  · have hv := Lib.hid (show r = cmpI al bl by rw [HR.out]; unfold cfT; rw [if_neg h])
    clear HV HR
    have h0' : (al == bl) = false := by simpa using h
    go_enter Tryz.func89, Tryz.ntmps89
    go_wp2_with (go_at_call 116; with_reducible refine (hI _ _ _).out.mono ?_; rintro e w1 ⟨rfl, rfl⟩)
    go_ret
    exact ⟨by rw [hv.out]; rfl, grown2 _ _ _⟩
set_option maxHeartbeats 1000000 in
theorem store_order (a b : So) (w : World) : Calls Tryz.prog 91 #[.agg (socell a).toArray, .agg (socell b).toArray] w fun e w' => e = .returned (.int .i64 (cfS a b)) ∧ ∃ q os', w' = grow (w.drewN q) os' := by
  have hI := fun x y W => Lib.hid (cmp_int x y W)
  show Calls Tryz.prog 91 #[.agg #[.int .i64 a.file, .int .i64 a.tier], .agg #[.int .i64 b.file, .int .i64 b.tier]] w _
  go_enter Tryz.func91, Tryz.ntmps91
  go_wp2_with (go_at_call 116; with_reducible refine (hI _ _ _).out.mono ?_; rintro e w1 ⟨rfl, rfl⟩)
  go_ret
  exact ⟨rfl, grown2 _ _ _⟩
theorem swoT : SWO (fun a b => decide (cfT a b < 0)) where
  irrefl x := by rw [cfT_neg]; exact tlt_irrefl x
  trans x y z h1 h2 := by rw [cfT_neg] at *; exact tlt_trans h1 h2
  ntrans x y z h1 h2 := by rw [cfT_neg] at *; exact tlt_ntrans h1 h2
theorem swoS : SWO (fun a b => decide (cfS a b < 0)) where
  irrefl x := by rw [cfS_neg]; simp
  trans x y z h1 h2 := by rw [cfS_neg] at *; simp at *; omega
  ntrans x y z h1 h2 := by rw [cfS_neg] at *; simp at *; omega
theorem below_grow {B : Nat} {w w' : World} (h : Below B w w') (hB : B ≤ w.heap.size) (q : Nat) (os : Array Obj) : Below B w (grow (w'.drewN q) os) := by
  refine ⟨h.os, h.tape, h.output, ?_, fun k hk => ?_⟩
  · show w.heap.size ≤ (w'.heap ++ os).size
    rw [Array.size_append]
    have := h.size
    omega
  · show (w'.heap ++ os)[k]? = _
    rw [Array.getElem?_append_left (by have := h.size; omega)]
    exact h.block k hk
end Go.Proofs.YtgljjdldhnajdaaGreat
/- An element of a list that reads. -/
set_option linter.unusedVariables false
set_option maxRecDepth 100000
namespace Go.Proofs.YtgljjdldhnajdaaGreat
open Go.RowKit

theorem RdL.atS {T : Nat → Prop} {w : World} {a : Option Addr} {n cap : Nat} {L : List So} (h : RdL T w (.slice a n cap) n (flat socell L)) {m : Nat} {x : So} (hx : L[m]? = some x) (hm : m < n) :
    ∃ b off, a = some ⟨b, off, none⟩ ∧ T b ∧ b < w.heap.size ∧ ∀ i u, (socell x)[i]? = some u → w.cell? ⟨b, off + m * 2 + i, none⟩ = some u := by
  obtain ⟨a', cap', e, _, h⟩ := h
  injection e with e1 e2 e3
  subst e1
  rcases h with ⟨_, h0, _⟩ | ⟨b, off, rfl, ht, hb, hc⟩
  · omega
  · refine ⟨b, off, rfl, ht, hb, fun i u hi => ?_⟩
    have hik : i < 2 := by rw [← socell_len x]; exact (List.getElem?_eq_some_iff.1 hi).1
    have := flat_at socell_len hx hik
    rw [hi] at this
    rw [Nat.add_assoc]
    exact hc _ _ this

end Go.Proofs.YtgljjdldhnajdaaGreat
/- The place of an element in a row that rises. -/
set_option linter.unusedVariables false
set_option maxRecDepth 100000
namespace Go.Proofs.YtgljjdldhnajdaaGreat
open Go.RowKit Go.Sort

/-- Whether the place is an equal's. -/
def fndS (L : List So) (k : Nat) (x : So) : Bool := match L[k]? with
  | some u => cfS u x == 0
  | none => false
set_option maxHeartbeats 4000000 in
theorem find_S {T : Nat → Prop} {a : Option Addr} {n cap : Nat} {L : List So} {w : World} (h : Hid (RdL T w (.slice a n cap) n (flat socell L))) (hL : Hid (n = L.length)) (hn : n ≤ 1000000000) (x : So) (k : Nat) (hk : k ≤ n)
    (ha : Hid (∀ i u, i < k → L[i]? = some u → cfS u x < 0)) (hb : Hid (∀ i u, k ≤ i → L[i]? = some u → 0 ≤ cfS u x)) :
    Calls Tryz.prog 158 #[.slice a n cap, .agg #[.int .i64 x.file, .int .i64 x.tier], .func (.func 91) #[] #[]] w fun e w' => e = .returned (.tuple #[.int .i64 (k : Int), .bool (fndS L k x)]) ∧ Below w.heap.size w w' := by
  obtain ⟨fb, hfb⟩ : ∃ fb, fb = fndS L k x := ⟨_, rfl⟩
  rw [← hfb]
  have HF := Lib.hid hfb
  clear hfb
  have mixed : Tryz.prog.follows .mixedOrders = true := by kernel_rfl
  have eg : ∀ args w, (callFunc 91 args).run Tryz.prog w = .ok (.enter 91 args) w := enters_of Tryz.func91 (by kernel_rfl) rfl
  obtain ⟨w0, hw0⟩ : ∃ w0, w.alloc (.cells #[.int .i64 x.file, .int .i64 x.tier] 121) = w0 := ⟨_, rfl⟩
  obtain ⟨B, hB⟩ : ∃ B, B = w.heap.size := ⟨_, rfl⟩
  have X0 := Lib.hid (show w0.heap[B]? = some (.cells #[.int .i64 x.file, .int .i64 x.tier] 121 (0, 0)) by rw [← hw0, hB]; exact heap_new w _)
  have K0 := Lib.hid (show Below B w w0 by rw [← hw0, hB]; exact (Below.refl _ _).alloc (Nat.le_refl _) _)
  have HB := Lib.hid hB
  have HW0 := Lib.hid hw0
  have C := fun (u v : So) (W : World) => Lib.hid (store_order u v W)
  clear hw0 hB
  go_enter Tryz.func158, Tryz.ntmps158
  go_upto_region 1 with (fail)
  rw [HW0.out, ← HB.out]
  go_wp2_with fail
  go_loopw [9, 10] (fun iv jv wr => ∃ i j : Nat, i ≤ k ∧ k ≤ j ∧ j ≤ n ∧ iv = .int .i64 i ∧ jv = .int .i64 j ∧ Hid (Below w0.heap.size w0 wr)) (fun iv jv wr => (intOf jv).toNat - (intOf iv).toNat)
  case atStart => exact ⟨0, n, by omega, hk, by omega, rfl, rfl, Lib.hid (Below.refl _ _)⟩
  case round =>
    obtain ⟨i, j, hik, hkj, hj, rfl, rfl, hR⟩ := hrel
    by_cases hlt : i < j
    · obtain ⟨m, hm⟩ : ∃ m, m = (i + j) / 2 := ⟨_, rfl⟩
      obtain ⟨s, hs⟩ : ∃ s : Int, s = (i : Int) + (j : Int) := ⟨_, rfl⟩
      have hs1 : IntKind.i64.wrap ((i : Int) + (j : Int)) = s := by rw [IntWalk.i64_in _ (by omega), hs]
      have hm1 : s / 2 = (m : Int) := by omega
      have hmi : i ≤ m := by omega
      have hmj : m < j := by omega
      have hml : m < n := by omega
      have hs0 : 0 ≤ s := by omega
      have hs2 : s ≤ 2000000000 := by omega
      have hs3 : (i : Int) + (j : Int) = s := hs.symm
      obtain ⟨y, hy⟩ : ∃ y, L[m]? = some y := ⟨_, List.getElem?_eq_getElem (by have := hL.out; omega)⟩
      obtain ⟨b, off, rfl, ht, hb2, hc⟩ := RdL.atS h.out hy hml
      have hB0 : B < w0.heap.size := heap_lt X0.out
      have hbw0 : b < w0.heap.size := Nat.lt_of_lt_of_le hb2 K0.out.size
      have hbB : b < B := by rw [HB.out]; exact hb2
      have hcr : ∀ i u, (socell y)[i]? = some u → wr.cell? ⟨b, off + m * 2 + i, none⟩ = some u := fun i u hu => by
        rw [← hc i u hu]
        simp only [World.cell?, hR.out.block b hbw0, K0.out.block b hbB]
      have hbr : b < wr.heap.size := Nat.lt_of_lt_of_le hbw0 hR.out.size
      have hBr : B < wr.heap.size := Nat.lt_of_lt_of_le hB0 hR.out.size
      have hxr : wr.heap[B]? = some (.cells #[.int .i64 x.file, .int .i64 x.tier] 121 (0, 0)) := (hR.out.block B hB0).trans X0.out
      have y0 := fun n os => cell_grown (w := wr) (a := ⟨b, off + m * 2, none⟩) hbr (hcr 0 _ rfl) n os
      have y1 := fun n os => cell_grown (w := wr) (a := ⟨b, off + m * 2 + 1, none⟩) hbr (hcr 1 _ rfl) n os
      have x0 := fun n os => cell_grown (w := wr) (a := ⟨B, 0, none⟩) hBr (by simp [World.cell?, hxr]; rfl) n os
      have x1 := fun n os => cell_grown (w := wr) (a := ⟨B, 1, none⟩) hBr (by simp [World.cell?, hxr]; rfl) n os
      have HYX := Lib.hid hy
      obtain ⟨z, hz⟩ : ∃ z, z = cfS y x := ⟨_, rfl⟩
      have HZ := Lib.hid hz
      have CC := fun n os => (C y x (grow (wr.drewN n) os)).out
      rw [← hz] at CC
      clear hz hy hc hcr hxr hs hm
      have hmI : (m : Int) ≤ (n : Int) := by omega
      by_cases hneg : z < 0
      · have hneg' : decide (z < 0) = true := decide_eq_true hneg
        have hmk : m + 1 ≤ k := by
          rcases Nat.lt_or_ge m k with e | e
          · exact e
          · have := hb.out m y e HYX.out; have := HZ.out; omega
        go_wp2_with fail
        go_quiet_grown (first | (go_at_call 91; refine Calls.grown_of (CC _ _)) | (go_at_fn 91; refine Calls.grown_of (CC _ _)))
        have K2 := Lib.hid (below_grow hR.out (Nat.le_refl _) nq osq)
        go_wp2_with fail
        go_roundw
        case rel => exact ⟨m + 1, j, hmk, hkj, hj, by go_num, rfl, K2⟩
        case measure => simp [intOf]; omega
      · have hneg' : decide (z < 0) = false := decide_eq_false hneg
        have hmk : k ≤ m := by
          rcases Nat.lt_or_ge m k with e | e
          · have := ha.out m y e HYX.out; have := HZ.out; omega
          · exact e
        go_wp2_with fail
        go_quiet_grown (first | (go_at_call 91; refine Calls.grown_of (CC _ _)) | (go_at_fn 91; refine Calls.grown_of (CC _ _)))
        have K2 := Lib.hid (below_grow hR.out (Nat.le_refl _) nq osq)
        go_wp2_with fail
        go_roundw
        case rel => exact ⟨i, m, hik, hmk, by omega, rfl, rfl, K2⟩
        case measure => simp [intOf]; omega
    · obtain rfl : i = k := by omega
      obtain rfl : i = j := by omega
      have K0' := Lib.hid (show Below w.heap.size w wr by rw [← HB.out]; exact K0.out.trans (hR.out.mono (Nat.le_of_lt (heap_lt X0.out))))
      by_cases hin : i < n
      · have hin' : (i : Int) < (n : Int) := by omega
        obtain ⟨y, hy⟩ : ∃ y, L[i]? = some y := ⟨_, List.getElem?_eq_getElem (by have := hL.out; omega)⟩
        obtain ⟨b, off, rfl, ht, hb2, hc⟩ := RdL.atS h.out hy hin
        have hB0 : B < w0.heap.size := heap_lt X0.out
        have hbw0 : b < w0.heap.size := Nat.lt_of_lt_of_le hb2 K0.out.size
        have hbB : b < B := by rw [HB.out]; exact hb2
        have hcr : ∀ j u, (socell y)[j]? = some u → wr.cell? ⟨b, off + i * 2 + j, none⟩ = some u := fun j u hu => by
          rw [← hc j u hu]
          simp only [World.cell?, hR.out.block b hbw0, K0.out.block b hbB]
        have hbr : b < wr.heap.size := Nat.lt_of_lt_of_le hbw0 hR.out.size
        have hBr : B < wr.heap.size := Nat.lt_of_lt_of_le hB0 hR.out.size
        have hxr : wr.heap[B]? = some (.cells #[.int .i64 x.file, .int .i64 x.tier] 121 (0, 0)) := (hR.out.block B hB0).trans X0.out
        have y0 := fun n os => cell_grown (w := wr) (a := ⟨b, off + i * 2, none⟩) hbr (hcr 0 _ rfl) n os
        have y1 := fun n os => cell_grown (w := wr) (a := ⟨b, off + i * 2 + 1, none⟩) hbr (hcr 1 _ rfl) n os
        have x0 := fun n os => cell_grown (w := wr) (a := ⟨B, 0, none⟩) hBr (by simp [World.cell?, hxr]; rfl) n os
        have x1 := fun n os => cell_grown (w := wr) (a := ⟨B, 1, none⟩) hBr (by simp [World.cell?, hxr]; rfl) n os
        obtain ⟨z, hz⟩ : ∃ z, z = cfS y x := ⟨_, rfl⟩
        have HF2 := Lib.hid (show fb = (z == 0) by rw [HF.out, hz]; unfold fndS; rw [hy])
        have CC := fun n os => (C y x (grow (wr.drewN n) os)).out
        rw [← hz] at CC
        clear hz hy hc hcr hxr HF
        go_wp2_with fail
        go_quiet_grown (first | (go_at_call 91; refine Calls.grown_of (CC _ _)) | (go_at_fn 91; refine Calls.grown_of (CC _ _)))
        have K2 := Lib.hid (below_grow K0'.out (Nat.le_refl _) nq osq)
        go_wp2_with fail
        go_ret2
        exact ⟨by rw [HF2.out]; rfl, K2.out⟩
      · obtain rfl : i = n := by omega
        have HF2 := Lib.hid (show fb = false by rw [HF.out]; unfold fndS; rw [List.getElem?_eq_none (by have := hL.out; omega)])
        clear HF
        have hg : ¬ (i : Int) < (i : Int) := by omega
        have hg2 : decide ((i : Int) < (i : Int)) = false := decide_eq_false hg
        go_wp2_with fail
        go_quiet (fail)
        have K2 := Lib.hid (below_drewN K0'.out nq)
        go_wp2_with fail
        go_ret2
        exact ⟨by rw [HF2.out]; rfl, K2.out⟩
end Go.Proofs.YtgljjdldhnajdaaGreat
/- Copies within rows of elements of several cells. -/
set_option linter.unusedVariables false
set_option maxRecDepth 100000
namespace Go.Proofs.YtgljjdldhnajdaaGreat
open Go.RowKit

/-- The builtin copy over rows of elements of k cells. -/
theorem run_copy_cellsK {P : Program} (w : World) (dT sT ty elem : TypeId) (k b o dLen dCap : Nat) (a : Addr) (sLen sCap : Nat) (cs : List Value)
    (hu : P.underlying dT = some (.slice elem)) (hs : (P.info? elem).map (·.size) = some k) (hn : cs.length = Nat.min sLen dLen * k)
    (hsrc : ∀ j v, cs[j]? = some v → w.cell? (a.add j) = some v) (hc : ∀ j, j < cs.length → (w.cell? ⟨b, o + j, none⟩).isSome = true) (hf : ∀ j, j < cs.length → w.frozen? ⟨b, o + j, none⟩ = false) (h1 : ∀ v ∈ cs, v.oneCell' = true) :
    (Builtin.copy_ #[dT, sT] ty #[.slice (some ⟨b, o, none⟩) dLen dCap, .slice (some a) sLen sCap]).run P w = .ok (goInt (Nat.min sLen dLen)) (w.setCells b o cs) := by
  have hl := run_loadCells_list (P := P) w a cs hsrc
  have hst := run_storeCells_cells (P := P) b o cs 0 w (by simpa using hc) (by simpa using hf) h1
  rw [Nat.add_zero] at hst
  cases hq : P.info? elem with
  | none => simp [hq] at hs
  | some i =>
    have hi : i.size = k := by simpa [hq] using hs
    simp only [Nat.min_def] at hn
    rw [hn] at hl
    simp [Builtin.copy_, run_underlying hu, Builtin.lenOf, Builtin.firstCells, sizeOf, typeInfo, hq, hi, Nat.min_def, hl, hst]
/-- A row in memory whose block and beginning are known. -/
structure AtRow (w : World) (e : TypeId) (size g off n cap : Nat) (xs : List Value) : Prop where
  len : xs.length = n * size
  room : n ≤ cap
  max : cap ≤ maxLen
  obj : ∃ cur, w.heap[g]? = some (.cells cur e (0, 0)) ∧ off + cap * size ≤ cur.size ∧ ∀ j, j < n * size → cur[off + j]? = xs[j]?
theorem AtRow.off {w : World} {e : TypeId} {size g off n cap B : Nat} {xs : List Value} (h : AtRow w e size g off n cap xs) (hB : B ≤ g) : OffRow w B e size (.slice (some ⟨g, off, none⟩) n cap) n xs := by
  obtain ⟨cur, h1, h2, h3⟩ := h.obj
  exact ⟨h.len, .inr ⟨g, off, cap, cur, rfl, hB, h1, h.room, h.max, h2, h3⟩⟩
theorem OffRow.at' {w : World} {B : Nat} {e : TypeId} {size n cap : Nat} {a : Option Addr} {xs : List Value} (h : OffRow w B e size (.slice a n cap) n xs) (hn : 0 < cap) : ∃ g off, a = some ⟨g, off, none⟩ ∧ B ≤ g ∧ AtRow w e size g off n cap xs := by
  obtain ⟨hl, ⟨e0, _⟩ | ⟨g, off, c, cur, e0, hB, hg, h1, h2, h3, h4⟩⟩ := h
  · injection e0 with _ _ e3; omega
  · injection e0 with e1 _ e3
    subst e1 e3
    exact ⟨g, off, rfl, hB, hl, h1, h2, cur, hg, h3, h4⟩
theorem AtRow.cell {w : World} {e : TypeId} {size g off n cap : Nat} {xs : List Value} (h : AtRow w e size g off n cap xs) {j : Nat} {u : Value} (hj : xs[j]? = some u) : w.cell? ⟨g, off + j, none⟩ = some u := by
  obtain ⟨cur, h1, h2, h3⟩ := h.obj
  have hj' : j < n * size := by rw [← h.len]; exact (List.getElem?_eq_some_iff.1 hj).1
  rw [← hj, ← h3 j hj']
  simp [World.cell?, h1]
theorem AtRow.some {w : World} {e : TypeId} {size g off n cap : Nat} {xs : List Value} (h : AtRow w e size g off n cap xs) {j : Nat} (hj : j < cap * size) : (w.cell? ⟨g, off + j, none⟩).isSome = true := by
  obtain ⟨cur, h1, h2, h3⟩ := h.obj
  simp [World.cell?, h1]
  omega
theorem AtRow.free {w : World} {e : TypeId} {size g off n cap : Nat} {xs : List Value} (h : AtRow w e size g off n cap xs) (j : Nat) : w.frozen? ⟨g, j, none⟩ = false := by
  obtain ⟨cur, h1, h2, h3⟩ := h.obj
  simp [World.frozen?, h1]
/-- Cells set in the row: what it holds then. -/
theorem AtRow.set {w : World} {e : TypeId} {size g off n cap : Nat} {xs : List Value} (h : AtRow w e size g off n cap xs) (p : Nat) (vs : List Value) {m : Nat} {ys : List Value} (hm : m ≤ cap) (hl : ys.length = m * size)
    (hp : p + vs.length ≤ cap * size) (hin : ∀ j, p ≤ j → j < p + vs.length → j < m * size → ys[j]? = vs[j - p]?) (hout : ∀ j, j < m * size → (j < p ∨ p + vs.length ≤ j) → j < n * size ∧ ys[j]? = xs[j]?) : AtRow (w.setCells g (off + p) vs) e size g off m cap ys := by
  obtain ⟨cur, h1, h2, h3⟩ := h.obj
  obtain ⟨cur', a1, a2, a3, a4⟩ := setCells_heap vs g (off + p) w cur e h1
  refine ⟨hl, hm, h.max, cur', a1, by omega, fun j hj => ?_⟩
  by_cases hr : p ≤ j ∧ j < p + vs.length
  · rw [hin j hr.1 hr.2 hj, ← a3 (j - p) (by omega) (by omega)]
    congr 1
    omega
  · obtain ⟨q1, q2⟩ := hout j hj (by omega)
    rw [q2, ← h3 j q1]
    exact a4 _ (by omega)
theorem setCells_grown (vs : List Value) (g o : Nat) (w : World) : w.grownBy (w.setCells g o vs) (some g) := by
  obtain ⟨b1, b2, b3, b4⟩ := setCells_meta vs g o w
  exact ⟨b1, b2, b3, by omega, fun k _ hk => setCells_other _ _ _ _ _ (fun e => hk (by rw [e]))⟩
theorem AtRow.kept {w w' : World} {e : TypeId} {size g off n cap : Nat} {xs : List Value} (h : AtRow w e size g off n cap xs) (k : w'.heap[g]? = w.heap[g]?) : AtRow w' e size g off n cap xs := by
  obtain ⟨cur, h1, h2, h3⟩ := h.obj
  exact ⟨h.len, h.room, h.max, cur, k.trans h1, h2, h3⟩
/-- An element put in at a place: the cells behind it go one further first. -/
theorem AtRow.insert {w : World} {e : TypeId} {size g off n cap i : Nat} {xs vs : List Value} (h : AtRow w e size g off n cap xs) (hi : i ≤ n) (hc : n + 1 ≤ cap) (hv : vs.length = size) :
    AtRow ((w.setCells g (off + (i + 1) * size) (xs.drop (i * size))).setCells g (off + i * size) vs) e size g off (n + 1) cap (xs.take (i * size) ++ (vs ++ xs.drop (i * size))) := by
  have hin : i * size ≤ n * size := Nat.mul_le_mul_right _ hi
  have hcn : n * size + size ≤ cap * size := by rw [← Nat.succ_mul]; exact Nat.mul_le_mul_right _ hc
  have e1 : (i + 1) * size = i * size + size := Nat.succ_mul ..
  have e2 : (n + 1) * size = n * size + size := Nat.succ_mul ..
  have hl := h.len
  have hd : (xs.drop (i * size)).length = n * size - i * size := by rw [List.length_drop, hl]
  have ht : (xs.take (i * size)).length = i * size := by rw [List.length_take, hl]; omega
  rw [e1]
  obtain ⟨cur, h1, h2, h3⟩ := h.obj
  obtain ⟨c1, a1, a2, a3, a4⟩ := setCells_heap (xs.drop (i * size)) g (off + (i * size + size)) w cur e h1
  obtain ⟨c2, b1, b2, b3, b4⟩ := setCells_heap vs g (off + i * size) _ c1 e a1
  refine ⟨by rw [List.length_append, List.length_append, ht, hd, hv, e2]; omega, hc, h.max, c2, b1, by omega, fun j hj => ?_⟩
  rw [e2] at hj
  by_cases q1 : j < i * size
  · rw [b4 _ (.inl (by omega)), a4 _ (.inl (by omega)), h3 j (by omega), List.getElem?_append_left (by omega), List.getElem?_take, if_pos q1]
  · by_cases q2 : j < i * size + size
    · have := b3 (j - i * size) (by omega) (by omega)
      rw [show off + i * size + (j - i * size) = off + j by omega] at this
      rw [this, List.getElem?_append_right (by omega), ht, List.getElem?_append_left (by omega)]
    · have := a3 (j - (i * size + size)) (by omega) (by omega)
      rw [show off + (i * size + size) + (j - (i * size + size)) = off + j by omega] at this
      rw [b4 _ (.inr (by omega)), this, List.getElem?_append_right (by omega), ht, List.getElem?_append_right (by omega), hv]
      congr 1
      omega
/-- An element taken out: the cells behind it go one back; the last one is cleared. -/
theorem AtRow.delete {w : World} {e : TypeId} {size g off n cap i m : Nat} {xs zs : List Value} (h : AtRow w e size g off n cap xs) (hi : i < n) (hm : n = m + 1) (hz : zs.length = size) :
    AtRow ((w.setCells g (off + i * size) (xs.drop ((i + 1) * size))).setCells g (off + m * size) zs) e size g off m cap (xs.take (i * size) ++ xs.drop ((i + 1) * size)) := by
  subst hm
  have hin : i * size ≤ m * size := Nat.mul_le_mul_right _ (by omega)
  have hcn : m * size + size ≤ cap * size := by rw [← Nat.succ_mul]; exact Nat.mul_le_mul_right _ h.room
  have e1 : (i + 1) * size = i * size + size := Nat.succ_mul ..
  have e2 : (m + 1) * size = m * size + size := Nat.succ_mul ..
  have hl := h.len
  rw [e2] at hl
  rw [e1]
  have hd : (xs.drop (i * size + size)).length = m * size - i * size := by rw [List.length_drop, hl]; omega
  have ht : (xs.take (i * size)).length = i * size := by rw [List.length_take, hl]; omega
  obtain ⟨cur, h1, h2, h3⟩ := h.obj
  obtain ⟨c1, a1, a2, a3, a4⟩ := setCells_heap (xs.drop (i * size + size)) g (off + i * size) w cur e h1
  obtain ⟨c2, b1, b2, b3, b4⟩ := setCells_heap zs g (off + m * size) _ c1 e a1
  refine ⟨by rw [List.length_append, ht, hd]; omega, by have := h.room; omega, h.max, c2, b1, by omega, fun j hj => ?_⟩
  rw [b4 _ (.inl (by omega))]
  by_cases q1 : j < i * size
  · rw [a4 _ (.inl (by omega)), h3 j (by omega), List.getElem?_append_left (by omega), List.getElem?_take, if_pos q1]
  · have := a3 (j - i * size) (by omega) (by omega)
    rw [show off + i * size + (j - i * size) = off + j by omega] at this
    rw [this, List.getElem?_append_right (by omega), ht]
/-- A new row whose beginning is laid: an element behind it, and what is behind that. -/
theorem row_fill {w w1 : World} {e : TypeId} {size g n cap i : Nat} {cur : Array Value} {xs vs : List Value} (h1 : w.heap[g]? = some (.cells cur e (0, 0))) (hs : cur.size = cap * size) (hx : xs.length = n * size) (hi : i ≤ n) (hc : n + 1 ≤ cap) (hm : cap ≤ maxLen) (hv : vs.length = size)
    (hb : ∀ j, j < i * size → cur[j]? = xs[j]?) (hw : w1.heap[g]? = (w.setCells g (i * size) vs).heap[g]?) :
    AtRow (w1.setCells g ((i + 1) * size) (xs.drop (i * size))) e size g 0 (n + 1) cap (xs.take (i * size) ++ (vs ++ xs.drop (i * size))) := by
  have hin : i * size ≤ n * size := Nat.mul_le_mul_right _ hi
  have hcn : n * size + size ≤ cap * size := by rw [← Nat.succ_mul]; exact Nat.mul_le_mul_right _ hc
  have e1 : (i + 1) * size = i * size + size := Nat.succ_mul ..
  have e2 : (n + 1) * size = n * size + size := Nat.succ_mul ..
  have hd : (xs.drop (i * size)).length = n * size - i * size := by rw [List.length_drop, hx]
  have ht : (xs.take (i * size)).length = i * size := by rw [List.length_take, hx]; omega
  rw [e1]
  obtain ⟨c1, a1, a2, a3, a4⟩ := setCells_heap vs g (i * size) w cur e h1
  obtain ⟨c2, b1, b2, b3, b4⟩ := setCells_heap (xs.drop (i * size)) g (i * size + size) w1 c1 e (hw.trans a1)
  refine ⟨by rw [List.length_append, List.length_append, ht, hd, hv, e2]; omega, hc, hm, c2, b1, by omega, fun j hj => ?_⟩
  rw [e2] at hj
  rw [Nat.zero_add]
  by_cases q1 : j < i * size
  · rw [b4 _ (.inl (by omega)), a4 _ (.inl (by omega)), hb j q1, List.getElem?_append_left (by omega), List.getElem?_take, if_pos q1]
  · by_cases q2 : j < i * size + size
    · have := a3 (j - i * size) (by omega) (by omega)
      rw [show i * size + (j - i * size) = j by omega] at this
      rw [b4 _ (.inl (by omega)), this, List.getElem?_append_right (by omega), ht, List.getElem?_append_left (by omega)]
    · have := b3 (j - (i * size + size)) (by omega) (by omega)
      rw [show i * size + size + (j - (i * size + size)) = j by omega] at this
      rw [this, List.getElem?_append_right (by omega), ht, List.getElem?_append_right (by omega), hv]
      congr 1
      omega
/-- An append whose run is known, as a step of a region that draws. -/
theorem step_append_runI {P : Program} {ops : Array Oper} {o : Oper} {a : Act} {w : World} {K : Act → World → Prop} {Q : Exit → Act → World → Prop} {E : Prop}
    (hg : o.guard = none) (d x : Operand) (dT sT : TypeId) (hop : o.op = Op.call { callee := Callee.builtin Builtin.append, args := #[d, x], argTypes := #[dT, sT] })
    (v u : Value) (hd : a.eval d = v) (hx : a.eval x = u) {v' : Value} {w' : World} (hr : (Builtin.append_ #[dT, sT] o.type #[v, u]).run P w = .ok v' w') (hK : K (a.put o.dst v') w') :
    if Region.wanted o (yielded ops a.tmps) = true then Oper.wp P o a w K Q else E := by
  have hw : Region.wanted o (yielded ops a.tmps) = true := by simp [Region.wanted, hg]
  rw [if_pos hw]
  unfold Oper.wp
  simp [execOp, hop, resolve, invoke, builtin, hd, hx, hr, Result.andThen]
  exact hK
/-- The builtin clear of one element, where its run is known. -/
theorem wpList_clear_runI {P : Program} {w : World} {ops : Array Oper} {rest : List Oper} {o : Oper} {act : Act} {Q : Exit → Act → World → Prop} (hgd : o.guard = none) (s : Operand) (t : TypeId)
    (ho : o.op = .call { callee := .builtin .clear, args := #[s], argTypes := #[t] }) (u : Value) (hs : act.eval s = u) {v' : Value} {w' : World} (hr : (Builtin.clear_ #[t] o.type #[u]).run P w = .ok v' w')
    (hk : wpList P ops Q rest (act.put o.dst v') w') : wpList P ops Q (o :: rest) act w := by
  refine wpList_plain hgd fun K hK => ?_
  unfold Oper.wp execOp
  simp only [ho, resolve, invoke, builtin, Sem.run_bind, Sem.run_pure, Result.andThen_ok, List.map_toArray, List.map_cons, List.map_nil, hs, hr]
  exact hK _ _ hk
/-- The builtin clear of one element of k cells. -/
theorem run_clear_one {P : Program} (w : World) (t ty e : TypeId) (i : TypeInfo) (z : Value) (size b o c : Nat) (ht : P.underlying t = some (.slice e)) (hi : P.info? e = some i) (hz : i.zero = some z) (hzs : z.cells.size = size) (hz1 : ∀ u ∈ z.cells.toList, u.oneCell' = true)
    (hc : ∀ j, j < size → (w.cell? ⟨b, o + j, none⟩).isSome = true) (hf : ∀ j, j < size → w.frozen? ⟨b, o + j, none⟩ = false) :
    (Builtin.clear_ #[t] ty #[.slice (some ⟨b, o, none⟩) 1 c]).run P w = .ok (.tuple #[]) (w.setCells b o z.cells.toList) := by
  have hzc : (Builtin.zeroCells z.cells 1).toList = z.cells.toList := by
    simp [Builtin.zeroCells]
    refine List.ext_getElem? fun j => ?_
    rcases Nat.lt_or_ge j z.cells.size with h | h
    · simp [h, Nat.mod_eq_of_lt h]
    · simp [Nat.not_lt.2 h]
  have hst := run_storeCells_cells (P := P) b o z.cells.toList 0 w (fun j hj => by rw [Nat.add_zero]; exact hc j (by simpa [hzs] using hj)) (fun j hj => by rw [Nat.add_zero]; exact hf j (by simpa [hzs] using hj)) hz1
  rw [Nat.add_zero] at hst
  simp [Builtin.clear_, run_underlying ht, zeroValue, typeInfo, hi, hz, hzc, hst]
end Go.Proofs.YtgljjdldhnajdaaGreat
/- An element put into a row: the library's Insert, of one element. -/
set_option linter.unusedVariables false
set_option maxRecDepth 100000
namespace Go.Proofs.YtgljjdldhnajdaaGreat
open Go.RowKit

/-- What Insert leaves. -/
def InsPostS (B : Nat) (a : Option Addr) (n cap i : Nat) (L : List So) (x : So) (w : World) (e : Ending) (w' : World) : Prop :=
  ∃ v', e = .returned v' ∧ OffRow w' B 121 2 v' (n + 1) (flat socell (L.take i ++ x :: L.drop i)) ∧ w.grownBy w' (Value.slice a n cap).ownBlock ∧ (v'.ownBlock = (Value.slice a n cap).ownBlock ∨ v'.ownBlock = some w.heap.size)
theorem flat_putS {L : List So} {i : Nat} (x : So) (hi : i ≤ L.length) : flat socell (L.take i ++ x :: L.drop i) = (flat socell L).take (i * 2) ++ (socell x ++ (flat socell L).drop (i * 2)) := by
  rw [flat_append, flat_cons, (flat_split socell_len L i hi).1, (flat_split socell_len L i hi).2]

set_option maxHeartbeats 2000000 in
theorem insert_endS {B n cap vb : Nat} {a : Option Addr} {L : List So} {x : So} {w : World} (h : Hid (OffRow w B 121 2 (.slice a n cap) n (flat socell L))) (hL : Hid (n = L.length)) (hn : n ≤ 1000000000)
    (hv : Hid (w.heap[vb]? = some (.cells (socell x).toArray 121 (0, 0)))) (hB : B ≤ w.heap.size) :
    Calls Tryz.prog 159 #[.slice a n cap, .int .i64 (n : Int), .slice (some ⟨vb, 0, none⟩) 1 1] w (InsPostS B a n cap n L x w) := by
  have HE := Lib.hid (show flat socell (L.take n ++ x :: L.drop n) = flat socell L ++ socell x by
    rw [hL.out, List.take_length, List.drop_length, flat_append, flat_one])
  obtain ⟨i0, hi0, hz0, hz1, hz2⟩ := info_parts infoSo
  have hcn : n ≤ cap := OffRow.cap_ge h.out
  have hc0 : (n : Int) ≤ (cap : Int) := by omega
  have hsrc := src_block (P := Tryz.prog) (size := 2) (t := 43) Tryz.underlying43 hv.out 1 1 (by simp [socell_len]) (fun u hu => socell_one x u (by simpa using hu))
  have hmx : n + 1 ≤ maxLen := by unfold maxLen; omega
  have hby : (n + 1) * 16 ≤ 140737488355328 := by omega
  have HH := Lib.hid (And.intro hi0 (And.intro hz0 (And.intro hz1 (And.intro hz2 (And.intro hsrc (And.intro hmx hby))))))
  clear hi0 hz0 hz1 hz2 hsrc hmx hby
  rcases Classical.em (n = cap) with rfl | hne
  all_goals
    go_enter Tryz.func159, Tryz.ntmps159
    go_wp2_with (at_builtin; refine wpList_append_off rfl (.tmp 23) (.tmp 24) 43 rfl B 121 i0 _ 2 16 Tryz.underlying43 HH.out.1 HH.out.2.1 HH.out.2.2.1 HH.out.2.2.2.1 rfl _ n (flat socell L) rfl h.out (.slice (some ⟨vb, 0, none⟩) 1 1) rfl 1 _ HH.out.2.2.2.2.1 HH.out.2.2.2.2.2.1 HH.out.2.2.2.2.2.2 hB ?_)
    intro v' w' hr hg hat
    have HR := Lib.hid (And.intro hr (And.intro hg hat))
    clear hr hg hat
    go_wp2
    go_ret
    exact ⟨v', rfl, by rw [HE.out]; simpa using HR.out.1, HR.out.2.1, HR.out.2.2⟩

set_option maxHeartbeats 4000000 in
theorem insert_roomS {B n cap i vb g off : Nat} {L : List So} {x : So} {w : World} (h : Hid (AtRow w 121 2 g off n cap (flat socell L))) (hBg : B ≤ g) (hL : Hid (n = L.length)) (hn : n ≤ 1000000000) (hi : i < n) (hc : n + 1 ≤ cap)
    (hv : Hid (w.heap[vb]? = some (.cells (socell x).toArray 121 (0, 0)))) (hvb : vb ≠ g) :
    Calls Tryz.prog 159 #[.slice (some ⟨g, off, none⟩) n cap, .int .i64 (i : Int), .slice (some ⟨vb, 0, none⟩) 1 1] w (InsPostS B (some ⟨g, off, none⟩) n cap i L x w) := by
  have mixed : Tryz.prog.follows .mixedOrders = true := by kernel_rfl
  have HE := Lib.hid (flat_putS (L := L) (i := i) x (by have := hL.out; omega))
  obtain ⟨i0, hi0, hz0, hz1, hz2⟩ := info_parts infoSo
  have hsz : (Tryz.prog.info? 121).map (·.size) = some 2 := by rw [hi0]; simp [hz1]
  obtain ⟨cur, hg, hcs, hcc⟩ := h.out.obj
  have hk : 0 < cur.size := by omega
  have hxs : (flat socell L).length = n * 2 := h.out.len
  have hov : ∀ lb cb, (callFunc 189 #[.slice (some ⟨vb, 0, none⟩) 1 1, .slice (some ⟨g, off + (i + 1) * 2, none⟩) lb cb]).run Tryz.prog w = .ok (.value (.bool false)) w := fun lb cb => by
    rw [run_callFunc_extern Tryz.func189 (by kernel_rfl) (by kernel_rfl) (by kernel_rfl) (e := Extern.SlicesOverlaps.overlaps #[43, 43] #[4]) (by kernel_rfl),
      Lib.run_overlaps_apart w 43 4 121 Tryz.underlying43 2 Tryz.sizeOf121 ⟨vb, 0, none⟩ ⟨g, off + (i + 1) * 2, none⟩ 1 1 lb cb hvb 121 121 2 cur.size (by simp [World.shape?, hv.out, socell_len]) (by simp [World.shape?, hg]) (by omega) (by simp [World.frozen?, hv.out]) (by simp [World.frozen?, hv.out])]
    rfl
  have hdl : ((flat socell L).drop (i * 2)).length = (n - i) * 2 := by rw [List.length_drop, hxs, Nat.sub_mul]
  have hcp1 : ∀ ty dc sc, (Builtin.copy_ #[43, 43] ty #[.slice (some ⟨g, off + (i + 1) * 2, none⟩) (n - i) dc, .slice (some ⟨g, off + i * 2, none⟩) (n + 1 - i) sc]).run Tryz.prog w.drew = .ok (goInt (n - i : Nat)) (w.drew.setCells g (off + (i + 1) * 2) ((flat socell L).drop (i * 2))) := fun ty dc sc => by
    have hmin : Nat.min (n + 1 - i) (n - i) = n - i := by simp only [Nat.min_def]; split <;> omega
    have := run_copy_cellsK (P := Tryz.prog) w.drew 43 43 ty 121 2 g (off + (i + 1) * 2) (n - i) dc ⟨g, off + i * 2, none⟩ (n + 1 - i) sc ((flat socell L).drop (i * 2)) Tryz.underlying43 hsz (by rw [hdl, hmin])
      (fun j v hj => by rw [addr_add, Nat.add_assoc]; rw [List.getElem?_drop] at hj; exact h.out.cell hj)
      (fun j hj => by rw [Nat.add_assoc]; exact h.out.some (by rw [hdl] at hj; omega))
      (fun j hj => h.out.free _) (fun v hv => flat_one' socell_one L v (List.mem_of_mem_drop hv))
    rw [hmin] at this
    exact this
  obtain ⟨W1, hW1⟩ : ∃ W1, W1 = w.drew.setCells g (off + (i + 1) * 2) ((flat socell L).drop (i * 2)) := ⟨_, rfl⟩
  have hv1 : W1.heap[vb]? = some (.cells (socell x).toArray 121 (0, 0)) := by rw [hW1, setCells_other _ _ _ _ _ hvb]; exact hv.out
  have hg1 : ∃ cur1, W1.heap[g]? = some (.cells cur1 121 (0, 0)) ∧ cur1.size = cur.size := by
    obtain ⟨c1, a1, a2, _⟩ := setCells_heap ((flat socell L).drop (i * 2)) g (off + (i + 1) * 2) w.drew cur 121 hg
    exact ⟨c1, by rw [hW1]; exact a1, a2⟩
  obtain ⟨cur1, hg1, hc1⟩ := hg1
  have hcp2 : ∀ ty dc, (Builtin.copy_ #[43, 43] ty #[.slice (some ⟨g, off + i * 2, none⟩) (n + 1 - i) dc, .slice (some ⟨vb, 0, none⟩) 1 1]).run Tryz.prog W1 = .ok (goInt 1) (W1.setCells g (off + i * 2) (socell x)) := fun ty dc => by
    have hmin : Nat.min 1 (n + 1 - i) = 1 := by simp only [Nat.min_def]; split <;> omega
    have := run_copy_cellsK (P := Tryz.prog) W1 43 43 ty 121 2 g (off + i * 2) (n + 1 - i) dc ⟨vb, 0, none⟩ 1 1 (socell x) Tryz.underlying43 hsz (by rw [hmin]; rfl)
      (fun j v hj => by rw [addr_add, Nat.zero_add]; simp [World.cell?, hv1]; exact hj)
      (fun j hj => by rw [socell_len] at hj; simp [World.cell?, hg1]; omega)
      (fun j hj => by simp [World.frozen?, hg1]) (socell_one x)
    rw [hmin] at this
    exact this
  have HF := Lib.hid (show OffRow (W1.setCells g (off + i * 2) (socell x)) B 121 2 (.slice (some ⟨g, off, none⟩) (n + 1) cap) (n + 1) (flat socell (L.take i ++ x :: L.drop i)) by
    rw [HE.out, hW1]
    exact AtRow.off (AtRow.insert (w := w.drew) (h.out.kept (w' := w.drew) rfl) (Nat.le_of_lt hi) hc (socell_len x)) hBg)
  have HG := Lib.hid (show w.grownBy (W1.setCells g (off + i * 2) (socell x)) (some g) by
    rw [hW1]
    obtain ⟨p1, p2, p3, p4⟩ := setCells_meta ((flat socell L).drop (i * 2)) g (off + (i + 1) * 2) w.drew
    obtain ⟨q1, q2, q3, q4⟩ := setCells_meta (socell x) g (off + i * 2) (w.drew.setCells g (off + (i + 1) * 2) ((flat socell L).drop (i * 2)))
    exact ⟨q1.trans p1, q2.trans p2, q3.trans p3, by rw [q4, p4]; exact Nat.le_refl _, fun k _ hk => (setCells_other _ _ _ _ _ (fun e => hk (by rw [e]))).trans (setCells_other _ _ _ _ _ (fun e => hk (by rw [e])))⟩)
  rw [← hW1] at hcp1
  have hw1 : IntKind.i64.wrap ((i : Int) + 1) = (i : Int) + 1 := by rw [IntKind.wrap_i64]; omega
  have hb1 : (0 : Int) ≤ (i : Int) + 1 := by omega
  have hin : i ≤ n := by omega
  have htn : ((i : Int) + 1).toNat = i + 1 := by omega
  have hb2 : ¬ (cap = i + 1) := by omega
  have hb3 : (i : Int) ≤ (n : Int) + 1 := by omega
  have hb4 : ¬ (cap = i) := by omega
  have hb5 : (n : Int) ≤ (cap : Int) := by omega
  have hb6 : (n : Int) + 1 ≤ (cap : Int) := by omega
  have hb7 : ¬ (cap : Int) < (n : Int) + 1 := by omega
  have hz2 : ¬ ((i : Int) = (n : Int)) := by omega
  clear hdl hxs hk hcs hcc hg hg1 hv1 hc1 hsz hi0 hz0 hz1 hW1
  go_enter Tryz.func159, Tryz.ntmps159
  go_wp2_with (simp only [hov])
  go_region_law_o (refine step_copy_runI rfl _ _ 43 43 rfl _ _ (by simp [Act.eval, Act.put]) (by simp [Act.eval, Act.put]) (hcp1 _ _ _) ?_)
  go_wp2_with (at_builtin; refine wpList_copy_runI _ rfl _ _ 43 43 rfl _ _ rfl rfl (hcp2 _ _) ?_)
  go_ret
  exact ⟨_, rfl, HF.out, HG.out, .inl rfl⟩
end Go.Proofs.YtgljjdldhnajdaaGreat
