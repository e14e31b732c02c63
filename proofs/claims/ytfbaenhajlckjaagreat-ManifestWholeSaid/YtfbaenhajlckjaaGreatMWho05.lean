/- Texts put together: ManPlain, ManRow, DiskPlain, DiskLay -/
import Derived.Test.YtfbaenhajlckjaaGreatMWho04
import Derived.Test.YtfbaenhajlckjaaGreatMWho00
import Derived.Test.YtfbaenhajlckjaaGreatMWho02
import Derived.Maps.OwnSet
import Derived.Maps.RangeWalk
import Derived.Lib.AppendStr
/- States, edits, and what becomes of a state: in plain words. -/
set_option linter.unusedVariables false
set_option maxRecDepth 100000
namespace Go.Proofs.YtfbaenhajlckjaaGreat

/-- A table, a store, an edit, a state. -/
structure Tb where
  file : Int
  lev : Int
  cnt : Int
  low : List UInt8
  high : List UInt8
structure So where
  file : Int
  tier : Int
structure Ed where
  kind : Int
  file : Int
  lev : Int
  cnt : Int
  low : List UInt8
  high : List UInt8
structure St where
  tabs : List Tb
  stos : List So
  logs : List Int
  next : Int
instance : Inhabited Tb := ⟨⟨0, 0, 0, [], []⟩⟩
instance : Inhabited So := ⟨⟨0, 0⟩⟩
def St.zero : St := ⟨[], [], [], 0⟩
def Ed.tab (x : Ed) : Tb := ⟨x.file, x.lev, x.cnt, x.low, x.high⟩
def Ed.sto (x : Ed) : So := ⟨x.file, x.lev⟩
theorem Ed.ext' {a b : Ed} (h1 : a.kind = b.kind) (h2 : a.file = b.file) (h3 : a.lev = b.lev) (h4 : a.cnt = b.cnt) (h5 : a.low = b.low) (h6 : a.high = b.high) : a = b := by cases a; cases b; simp_all

/-! ### the order of tables -/
def tlt (a b : Tb) : Bool := if a.lev = b.lev then (if a.lev = 0 then decide (b.file < a.file) else ltB a.low b.low) else decide (a.lev < b.lev)
theorem tlt_lev {a b : Tb} (h : tlt a b = true) : a.lev ≤ b.lev := by
  unfold tlt at h; split at h
  · omega
  · simp at h; omega
theorem tlt_irrefl (a : Tb) : tlt a a = false := by unfold tlt; simp [ltB_irrefl]
theorem tlt_trans {a b c : Tb} (h1 : tlt a b = true) (h2 : tlt b c = true) : tlt a c = true := by
  have l1 := tlt_lev h1; have l2 := tlt_lev h2
  unfold tlt at *
  by_cases e1 : a.lev = b.lev
  · by_cases e2 : b.lev = c.lev
    · rw [if_pos e1] at h1; rw [if_pos e2] at h2; rw [if_pos (e1.trans e2)]
      by_cases z : a.lev = 0
      · rw [if_pos z] at h1 ⊢; rw [if_pos (e1 ▸ z)] at h2; simp at *; omega
      · rw [if_neg z] at h1 ⊢; rw [if_neg (e1 ▸ z)] at h2; exact ltB_trans h1 h2
    · rw [if_neg (by omega)]; simp; omega
  · rw [if_neg (by omega)]; simp; omega
theorem ltB_ntrans {a b c : List UInt8} (h1 : ltB a b = false) (h2 : ltB b c = false) : ltB a c = false := by
  cases h : ltB a c with
  | false => rfl
  | true =>
    rcases ltB_total b c with x | x | x
    · rw [x] at h2; cases h2
    · subst x; rw [h] at h1; cases h1
    · have := ltB_trans h x; rw [h1] at this; cases this
theorem ltB_le_lt {a b c : List UInt8} (h1 : ltB b a = false) (h2 : ltB b c = true) : ltB a c = true := by
  cases h : ltB a c with
  | true => rfl
  | false => have := ltB_ntrans h1 h; rw [h2] at this; cases this
theorem ltB_lt_le {a b c : List UInt8} (h1 : ltB a b = true) (h2 : ltB c b = false) : ltB a c = true := by
  cases h : ltB a c with
  | true => rfl
  | false => have := ltB_ntrans h h2; rw [h1] at this; cases this
theorem tlt_ntrans {a b c : Tb} (h1 : tlt a b = false) (h2 : tlt b c = false) : tlt a c = false := by
  unfold tlt at *
  by_cases e1 : a.lev = b.lev
  · by_cases e2 : b.lev = c.lev
    · rw [if_pos e1] at h1; rw [if_pos e2] at h2; rw [if_pos (e1.trans e2)]
      by_cases z : a.lev = 0
      · rw [if_pos z] at h1 ⊢; rw [if_pos (e1 ▸ z)] at h2; simp at *; omega
      · rw [if_neg z] at h1 ⊢; rw [if_neg (e1 ▸ z)] at h2; exact ltB_ntrans h1 h2
    · rw [if_neg e2] at h2; rw [if_neg (by omega)]; simp at *; omega
  · rw [if_neg e1] at h1
    by_cases e2 : b.lev = c.lev
    · rw [if_neg (by omega)]; simp at *; omega
    · rw [if_neg e2] at h2
      simp at h1 h2
      rw [if_neg (by omega)]; simp; omega
theorem tlt_asymm {a b : Tb} (h : tlt a b = true) : tlt b a = false := by
  cases e : tlt b a with
  | false => rfl
  | true => have := tlt_trans h e; rw [tlt_irrefl] at this; cases this

/-! ### an element put into its place -/
def insT (t : Tb) : List Tb → List Tb
  | [] => [t]
  | u :: L => if tlt t u then t :: u :: L else u :: insT t L
def insS (t : So) : List So → List So
  | [] => [t]
  | u :: L => if t.file < u.file then t :: u :: L else u :: insS t L
/-- The place of the first that isn't ahead. -/
def lbT (t : Tb) (L : List Tb) : Nat := L.findIdx fun u => !tlt u t
def lbS (t : So) (L : List So) : Nat := L.findIdx fun u => !decide (u.file < t.file)
theorem lbT_cons (t u : Tb) (L : List Tb) : lbT t (u :: L) = if tlt u t then lbT t L + 1 else 0 := by
  unfold lbT; rw [List.findIdx_cons]; cases tlt u t <;> simp
theorem lbS_cons (t u : So) (L : List So) : lbS t (u :: L) = if u.file < t.file then lbS t L + 1 else 0 := by
  unfold lbS; rw [List.findIdx_cons]; by_cases h : u.file < t.file <;> simp [h]
theorem lbT_le (t : Tb) (L : List Tb) : lbT t L ≤ L.length := List.findIdx_le_length
theorem lbS_le (t : So) (L : List So) : lbS t L ≤ L.length := List.findIdx_le_length
theorem insT_lb (t : Tb) : ∀ L : List Tb, (∀ u ∈ L, tlt u t = true ∨ tlt t u = true) → insT t L = L.take (lbT t L) ++ t :: L.drop (lbT t L)
  | [], _ => rfl
  | u :: L, h => by
    rw [lbT_cons]
    rcases h u (List.mem_cons_self ..) with x | x
    · rw [if_pos x]
      unfold insT
      rw [if_neg (by rw [tlt_asymm x]; simp), insT_lb t L fun v hv => h v (List.mem_cons_of_mem _ hv)]
      rfl
    · rw [if_neg (by rw [tlt_asymm x]; simp)]
      unfold insT
      rw [if_pos x]
      rfl
theorem insS_lb (t : So) : ∀ L : List So, (∀ u ∈ L, u.file ≠ t.file) → insS t L = L.take (lbS t L) ++ t :: L.drop (lbS t L)
  | [], _ => rfl
  | u :: L, h => by
    rw [lbS_cons]
    have hu := h u (List.mem_cons_self ..)
    by_cases x : u.file < t.file
    · rw [if_pos x]
      unfold insS
      rw [if_neg (by omega), insS_lb t L fun v hv => h v (List.mem_cons_of_mem _ hv)]
      rfl
    · rw [if_neg x]
      unfold insS
      rw [if_pos (by omega)]
      rfl
theorem mem_insT {t v : Tb} : ∀ {L : List Tb}, v ∈ insT t L ↔ v = t ∨ v ∈ L
  | [] => by simp [insT]
  | u :: L => by
    unfold insT
    split
    · simp
    · rw [List.mem_cons, mem_insT, List.mem_cons]; constructor <;> (rintro (h | h | h) <;> simp [h])
theorem mem_insS {t v : So} : ∀ {L : List So}, v ∈ insS t L ↔ v = t ∨ v ∈ L
  | [] => by simp [insS]
  | u :: L => by
    unfold insS
    split
    · simp
    · rw [List.mem_cons, mem_insS, List.mem_cons]; constructor <;> (rintro (h | h | h) <;> simp [h])
theorem insT_perm (t : Tb) : ∀ L : List Tb, (insT t L).Perm (t :: L)
  | [] => .refl _
  | u :: L => by
    unfold insT
    split
    · exact .refl _
    · exact ((insT_perm t L).cons u).trans (.swap ..)
theorem insS_perm (t : So) : ∀ L : List So, (insS t L).Perm (t :: L)
  | [] => .refl _
  | u :: L => by
    unfold insS
    split
    · exact .refl _
    · exact ((insS_perm t L).cons u).trans (.swap ..)
theorem insT_pair {R : Tb → Tb → Prop} {t : Tb} : ∀ {L : List Tb}, L.Pairwise R → (∀ u ∈ L, tlt t u = true → R t u) → (∀ u ∈ L, tlt t u = false → R u t) → (L.Pairwise fun a b => tlt a b = true) → (insT t L).Pairwise R
  | [], _, _, _, _ => by simp [insT]
  | u :: L, h, h1, h2, hs => by
    unfold insT
    rw [List.pairwise_cons] at h hs
    split
    · rename_i htu
      refine List.pairwise_cons.2 ⟨fun v hv => ?_, List.pairwise_cons.2 h⟩
      rcases List.mem_cons.1 hv with rfl | hv
      · exact h1 _ (List.mem_cons_self ..) htu
      · exact h1 _ (List.mem_cons_of_mem _ hv) (tlt_trans htu (hs.1 v hv))
    · rename_i htu
      refine List.pairwise_cons.2 ⟨fun v hv => ?_, insT_pair h.2 (fun v hv => h1 v (List.mem_cons_of_mem _ hv)) (fun v hv => h2 v (List.mem_cons_of_mem _ hv)) hs.2⟩
      rcases mem_insT.1 hv with rfl | hv
      · exact h2 _ (List.mem_cons_self ..) (by simpa using htu)
      · exact h.1 v hv
theorem insS_pair {t : So} : ∀ {L : List So}, (L.Pairwise fun a b => a.file < b.file) → (∀ u ∈ L, u.file ≠ t.file) → (insS t L).Pairwise fun a b => a.file < b.file
  | [], _, _ => by simp [insS]
  | u :: L, h, h1 => by
    unfold insS
    rw [List.pairwise_cons] at h
    have hu := h1 u (List.mem_cons_self ..)
    split
    · rename_i htu
      refine List.pairwise_cons.2 ⟨fun v hv => ?_, List.pairwise_cons.2 h⟩
      rcases List.mem_cons.1 hv with rfl | hv
      · exact htu
      · have := h.1 v hv; omega
    · rename_i htu
      refine List.pairwise_cons.2 ⟨fun v hv => ?_, insS_pair h.2 fun v hv => h1 v (List.mem_cons_of_mem _ hv)⟩
      rcases mem_insS.1 hv with rfl | hv
      · omega
      · exact h.1 v hv

/-! ### one edit -/
def St.files (s : St) : List Int := s.tabs.map (·.file) ++ s.stos.map (·.file) ++ s.logs
/-- Two tables of one level above 0 that may have a key in common. -/
def meets (t u : Tb) : Bool := decide (u.lev = t.lev) && !ltB u.high t.low && !ltB t.high u.low
def badTab (x : Ed) : Bool := decide (x.lev < 0) || decide (5 < x.lev) || decide (x.cnt < 1) || ltB x.high x.low
/-- The error of an edit; 0: none. -/
def oneE (s : St) (x : Ed) : Int :=
  if x.kind = 1 then
    if badTab x = true ∨ x.file < 1 then 1 else if x.file ∈ s.files then 10 else if 0 < x.lev ∧ s.tabs.any (meets x.tab) = true then 11 else 0
  else if x.kind = 2 then if x.file ∈ s.tabs.map (·.file) then 0 else 9
  else if x.kind = 3 then if x.file < 1 ∨ ¬ (x.lev = 0 ∨ x.lev = 1) then 1 else if x.file ∈ s.files then 10 else 0
  else if x.kind = 4 then if x.file ∈ s.stos.map (·.file) then 0 else 9
  else if x.kind = 5 then if x.file < 1 then 1 else if x.file ∈ s.files then 10 else 0
  else if x.kind = 6 then if x.file ∈ s.logs then 0 else 9
  else if x.kind = 7 then if x.file < 1 ∨ x.file < s.next then 1 else 0
  else 1
/-- The state behind an edit that has no error. -/
def oneS (s : St) (x : Ed) : St :=
  if x.kind = 1 then { s with tabs := insT x.tab s.tabs }
  else if x.kind = 2 then { s with tabs := s.tabs.filter fun t => decide (t.file ≠ x.file) }
  else if x.kind = 3 then { s with stos := insS x.sto s.stos }
  else if x.kind = 4 then { s with stos := s.stos.filter fun t => decide (t.file ≠ x.file) }
  else if x.kind = 5 then { s with logs := s.logs ++ [x.file] }
  else if x.kind = 6 then { s with logs := s.logs.filter fun f => decide (f ≠ x.file) }
  else { s with next := x.file }
/-- The edits one behind the other: the error of the first that has one, else the state. -/
def app : St → List Ed → Int × St
  | s, [] => (0, s)
  | s, x :: L => if oneE s x = 0 then app (oneS s x) L else (oneE s x, St.zero)
theorem app_zero : ∀ (L : List Ed) (s : St), (app s L).1 ≠ 0 → (app s L).2 = St.zero
  | [], s, h => absurd rfl h
  | x :: L, s, h => by
    unfold app at h ⊢
    split
    · rename_i h0; rw [if_pos h0] at h; exact app_zero L _ h
    · rfl
theorem app_cons_ok {s : St} {x : Ed} {L : List Ed} (h : oneE s x = 0) : app s (x :: L) = app (oneS s x) L := by rw [app, if_pos h]
theorem app_cons_no {s : St} {x : Ed} {L : List Ed} (h : ¬ oneE s x = 0) : app s (x :: L) = (oneE s x, St.zero) := by rw [app, if_neg h]
theorem app_append : ∀ (L M : List Ed) (s : St), (app s L).1 = 0 → app s (L ++ M) = app (app s L).2 M
  | [], M, s, _ => rfl
  | x :: L, M, s, h => by
    by_cases h0 : oneE s x = 0
    · rw [app_cons_ok h0] at h ⊢
      rw [List.cons_append, app_cons_ok h0]
      exact app_append L M _ h
    · rw [app_cons_no h0] at h; exact absurd h h0

/-- A state that may be. -/
structure St.Ok (s : St) : Prop where
  rise : s.tabs.Pairwise fun a b => tlt a b = true
  apart : s.tabs.Pairwise fun a b => a.lev = b.lev → 0 < a.lev → ltB a.high b.low = true
  tab : ∀ t ∈ s.tabs, 0 ≤ t.lev ∧ t.lev ≤ 5 ∧ 1 ≤ t.cnt ∧ ltB t.high t.low = false
  stos : s.stos.Pairwise fun a b => a.file < b.file
  tier : ∀ t ∈ s.stos, t.tier = 0 ∨ t.tier = 1
  nod : s.files.Nodup
  pos : ∀ f ∈ s.files, 1 ≤ f
  next : 0 ≤ s.next
theorem St.Ok.zero : St.zero.Ok := ⟨List.Pairwise.nil, List.Pairwise.nil, (fun t h => absurd h (by simp [St.zero])), List.Pairwise.nil, (fun t h => absurd h (by simp [St.zero])), List.Pairwise.nil, (fun t h => absurd h (by simp [St.zero, St.files])), Int.le_refl _⟩
theorem mem_files {s : St} {f : Int} : f ∈ s.files ↔ f ∈ s.tabs.map (·.file) ∨ f ∈ s.stos.map (·.file) ∨ f ∈ s.logs := by
  unfold St.files; simp [List.mem_append, or_assoc]
theorem badTab_no {x : Ed} (h : ¬ (badTab x = true ∨ x.file < 1)) : 0 ≤ x.lev ∧ x.lev ≤ 5 ∧ 1 ≤ x.cnt ∧ ltB x.high x.low = false ∧ 1 ≤ x.file := by
  unfold badTab at h
  simp only [not_or, Bool.or_eq_true, decide_eq_true_eq] at h
  obtain ⟨⟨⟨⟨h1, h2⟩, h3⟩, h4⟩, h5⟩ := h
  exact ⟨by omega, by omega, by omega, by simpa using h4, by omega⟩
/-- A table that meets no other has no equal. -/
theorem no_tie {s : St} {x : Ed} (ht : ltB x.high x.low = false) (hf : ¬ x.file ∈ s.files) (hm : ¬ (0 < x.lev ∧ s.tabs.any (meets x.tab) = true)) (h0 : 0 ≤ x.lev) (hs : ∀ t ∈ s.tabs, ltB t.high t.low = false) : ∀ u ∈ s.tabs, tlt u x.tab = true ∨ tlt x.tab u = true := by
  intro u hu
  unfold tlt
  by_cases e : u.lev = x.tab.lev
  · rw [if_pos e, if_pos e.symm]
    by_cases z : u.lev = 0
    · rw [if_pos z, if_pos (e ▸ z)]
      have : u.file ≠ x.file := fun y => hf (mem_files.2 (.inl (List.mem_map.2 ⟨u, hu, y⟩)))
      simp only [decide_eq_true_eq]
      show x.file < u.file ∨ u.file < x.file
      omega
    · rw [if_neg z, if_neg (e ▸ z)]
      rcases ltB_total u.low x.tab.low with a | a | a
      · exact .inl a
      · exfalso
        refine hm ⟨by have : x.tab.lev = x.lev := rfl; omega, List.any_eq_true.2 ⟨u, hu, ?_⟩⟩
        unfold meets
        have h1 := hs u hu
        have h2 : ltB x.tab.high x.tab.low = false := ht
        rw [a] at h1
        rw [decide_eq_true e, h1, a, h2]
        rfl
      · exact .inr a
  · rw [if_neg e, if_neg (Ne.symm e)]
    simp only [decide_eq_true_eq]
    omega
theorem nodup_insert {α : Type} {f : α → Int} {A A' : List α} {t : α} {B C : List Int} (hp : A'.Perm (t :: A)) (h : (A.map f ++ B ++ C).Nodup) (ht : ¬ f t ∈ A.map f ++ B ++ C) : (A'.map f ++ B ++ C).Nodup := by
  have : (A'.map f ++ B ++ C).Perm (f t :: (A.map f ++ B ++ C)) := by
    have := ((hp.map f).append_right B).append_right C
    simpa using this
  rw [this.nodup_iff]
  exact List.nodup_cons.2 ⟨ht, h⟩
theorem oneS_ok {s : St} {x : Ed} (h : s.Ok) (he : oneE s x = 0) : (oneS s x).Ok := by
  unfold oneE at he
  unfold oneS
  by_cases k1 : x.kind = 1
  · rw [if_pos k1] at he; rw [if_pos k1]
    split at he
    · cases he
    rename_i hb
    split at he
    · cases he
    rename_i hf
    split at he
    · cases he
    rename_i hm
    obtain ⟨b1, b2, b3, b4, b5⟩ := badTab_no hb
    have ht := no_tie b4 hf hm b1 (fun t ht => (h.tab t ht).2.2.2)
    have hap : ∀ u ∈ s.tabs, u.lev = x.lev → 0 < x.lev → ltB u.high x.low = true ∨ ltB x.high u.low = true := by
      intro u hu e z
      rcases hh : ltB u.high x.low with _ | _
      · rcases hh2 : ltB x.high u.low with _ | _
        · exfalso
          refine hm ⟨z, List.any_eq_true.2 ⟨u, hu, ?_⟩⟩
          unfold meets
          show (decide (u.lev = x.lev) && !ltB u.high x.low && !ltB x.high u.low) = true
          rw [hh, hh2, decide_eq_true e]; rfl
        · exact .inr rfl
      · exact .inl rfl
    refine ⟨?_, ?_, ?_, h.stos, h.tier, ?_, ?_, h.next⟩
    · refine insT_pair h.rise (fun u hu x => x) (fun u hu e => ?_) h.rise
      rcases ht u hu with a | a
      · exact a
      · rw [a] at e; cases e
    · refine insT_pair h.apart (fun u hu a e z => ?_) (fun u hu a e z => ?_) h.rise
      · have e' : u.lev = x.lev := e.symm
        have z' : 0 < x.lev := z
        rcases hap u hu e' z' with b | b
        · exfalso
          unfold tlt at a
          rw [if_pos e, if_neg (by show ¬ x.lev = 0; omega)] at a
          have c1 : ltB x.low u.low = true := a
          have := ltB_trans b c1
          rw [(h.tab u hu).2.2.2] at this
          cases this
        · exact b
      · have e' : u.lev = x.lev := e
        rcases hap u hu e' (e' ▸ z) with b | b
        · exact b
        · exfalso
          rcases ht u hu with c | c
          · unfold tlt at c
            rw [if_pos e, if_neg (by show ¬ u.lev = 0; omega)] at c
            have c1 : ltB u.low x.low = true := c
            have := ltB_trans b c1
            rw [b4] at this; cases this
          · rw [c] at a; cases a
    · intro t hm
      rcases mem_insT.1 hm with rfl | hm
      · exact ⟨b1, b2, b3, b4⟩
      · exact h.tab t hm
    · exact nodup_insert (f := Tb.file) (insT_perm x.tab s.tabs) h.nod hf
    · intro f hfm
      rcases mem_files.1 hfm with a | a | a
      · obtain ⟨t, ht, rfl⟩ := List.mem_map.1 a
        rcases mem_insT.1 ht with rfl | ht
        · exact b5
        · exact h.pos _ (mem_files.2 (.inl (List.mem_map.2 ⟨t, ht, rfl⟩)))
      · exact h.pos _ (mem_files.2 (.inr (.inl a)))
      · exact h.pos _ (mem_files.2 (.inr (.inr a)))
  rw [if_neg k1] at he; rw [if_neg k1]
  by_cases k2 : x.kind = 2
  · rw [if_pos k2]
    have hsub : (s.tabs.filter fun t => decide (t.file ≠ x.file)).Sublist s.tabs := List.filter_sublist
    have hfs : ({ s with tabs := s.tabs.filter fun t => decide (t.file ≠ x.file) } : St).files.Sublist s.files := (((hsub.map _).append (.refl _)).append (.refl _))
    exact ⟨h.rise.sublist hsub, h.apart.sublist hsub, fun t ht => h.tab t (hsub.subset ht), h.stos, h.tier, h.nod.sublist hfs, fun f hf => h.pos f (hfs.subset hf), h.next⟩
  rw [if_neg k2] at he; rw [if_neg k2]
  by_cases k3 : x.kind = 3
  · rw [if_pos k3] at he; rw [if_pos k3]
    split at he
    · cases he
    rename_i hb
    split at he
    · cases he
    rename_i hf
    have hn : ∀ u ∈ s.stos, u.file ≠ x.sto.file := fun u hu e => hf (mem_files.2 (.inr (.inl (List.mem_map.2 ⟨u, hu, e⟩))))
    refine ⟨h.rise, h.apart, h.tab, insS_pair h.stos hn, ?_, ?_, ?_, h.next⟩
    · intro t hm
      rcases mem_insS.1 hm with rfl | hm
      · show x.lev = 0 ∨ x.lev = 1
        omega
      · exact h.tier t hm
    · have hp : (s.tabs.map (·.file) ++ (insS x.sto s.stos).map (·.file) ++ s.logs).Perm ((insS x.sto s.stos).map (·.file) ++ s.tabs.map (·.file) ++ s.logs) := (List.perm_append_comm).append_right _
      have hq : (s.tabs.map (·.file) ++ s.stos.map (·.file) ++ s.logs).Perm (s.stos.map (·.file) ++ s.tabs.map (·.file) ++ s.logs) := (List.perm_append_comm).append_right _
      show (s.tabs.map (·.file) ++ (insS x.sto s.stos).map (·.file) ++ s.logs).Nodup
      rw [hp.nodup_iff]
      exact nodup_insert (f := So.file) (insS_perm x.sto s.stos) (hq.nodup_iff.1 h.nod) (fun hm => hf (hq.mem_iff.2 hm))
    · intro f hfm
      rcases mem_files.1 hfm with a | a | a
      · exact h.pos _ (mem_files.2 (.inl a))
      · obtain ⟨t, ht, rfl⟩ := List.mem_map.1 a
        rcases mem_insS.1 ht with rfl | ht
        · show 1 ≤ x.file
          omega
        · exact h.pos _ (mem_files.2 (.inr (.inl (List.mem_map.2 ⟨t, ht, rfl⟩))))
      · exact h.pos _ (mem_files.2 (.inr (.inr a)))
  rw [if_neg k3] at he; rw [if_neg k3]
  by_cases k4 : x.kind = 4
  · rw [if_pos k4]
    have hsub : (s.stos.filter fun t => decide (t.file ≠ x.file)).Sublist s.stos := List.filter_sublist
    have hfs : ({ s with stos := s.stos.filter fun t => decide (t.file ≠ x.file) } : St).files.Sublist s.files := (((List.Sublist.refl _).append (hsub.map _)).append (.refl _))
    exact ⟨h.rise, h.apart, h.tab, h.stos.sublist hsub, fun t ht => h.tier t (hsub.subset ht), h.nod.sublist hfs, fun f hf => h.pos f (hfs.subset hf), h.next⟩
  rw [if_neg k4] at he; rw [if_neg k4]
  by_cases k5 : x.kind = 5
  · rw [if_pos k5] at he; rw [if_pos k5]
    split at he
    · cases he
    rename_i hb
    split at he
    · cases he
    rename_i hf
    refine ⟨h.rise, h.apart, h.tab, h.stos, h.tier, ?_, ?_, h.next⟩
    · show (s.tabs.map (·.file) ++ s.stos.map (·.file) ++ (s.logs ++ [x.file])).Nodup
      rw [← List.append_assoc]
      have : (s.files ++ [x.file]).Perm (x.file :: s.files) := List.perm_append_comm
      show (s.files ++ [x.file]).Nodup
      rw [this.nodup_iff]
      exact List.nodup_cons.2 ⟨hf, h.nod⟩
    · intro f hfm
      have : f ∈ s.files ∨ f = x.file := by
        rcases mem_files.1 hfm with a | a | a
        · exact .inl (mem_files.2 (.inl a))
        · exact .inl (mem_files.2 (.inr (.inl a)))
        · rcases List.mem_append.1 a with a | a
          · exact .inl (mem_files.2 (.inr (.inr a)))
          · exact .inr (by simpa using a)
      rcases this with a | a
      · exact h.pos f a
      · omega
  rw [if_neg k5] at he; rw [if_neg k5]
  by_cases k6 : x.kind = 6
  · rw [if_pos k6]
    have hsub : (s.logs.filter fun f => decide (f ≠ x.file)).Sublist s.logs := List.filter_sublist
    have hfs : ({ s with logs := s.logs.filter fun f => decide (f ≠ x.file) } : St).files.Sublist s.files := ((List.Sublist.refl _).append hsub)
    exact ⟨h.rise, h.apart, h.tab, h.stos, h.tier, h.nod.sublist hfs, fun f hf => h.pos f (hfs.subset hf), h.next⟩
  rw [if_neg k6] at he; rw [if_neg k6]
  by_cases k7 : x.kind = 7
  · rw [if_pos k7] at he
    split at he
    · cases he
    exact ⟨h.rise, h.apart, h.tab, h.stos, h.tier, h.nod, h.pos, by show 0 ≤ x.file; omega⟩
  · rw [if_neg k7] at he; cases he
theorem app_ok : ∀ (L : List Ed) {s : St}, s.Ok → (app s L).2.Ok
  | [], s, h => h
  | x :: L, s, h => by
    by_cases h0 : oneE s x = 0
    · rw [app_cons_ok h0]; exact app_ok L (oneS_ok h h0)
    · rw [app_cons_no h0]; exact St.Ok.zero
end Go.Proofs.YtfbaenhajlckjaaGreat
/- Rows of tables, of stores, of numbers in memory. -/
set_option linter.unusedVariables false
set_option maxRecDepth 100000
namespace Go.Proofs.YtfbaenhajlckjaaGreat
open Go.RowKit

def tcell (t : Tb) : List Value := [.int .i64 t.file, .int .i64 t.lev, .int .i64 t.cnt, .string (bs t.low), .string (bs t.high)]
def socell (t : So) : List Value := [.int .i64 t.file, .int .i64 t.tier]
def ecell (x : Ed) : List Value := [.int .i64 x.kind, .int .i64 x.file, .int .i64 x.lev, .int .i64 x.cnt, .string (bs x.low), .string (bs x.high)]
def icell (n : Int) : List Value := [.int .i64 n]
def flat {α : Type} (enc : α → List Value) (L : List α) : List Value := L.flatMap enc
section
variable {α : Type} {enc : α → List Value} {k : Nat}
theorem flat_len (hk : ∀ x, (enc x).length = k) : ∀ L : List α, (flat enc L).length = L.length * k
  | [] => by simp [flat]
  | x :: L => by
    have := flat_len hk L
    unfold flat at this ⊢
    rw [List.flatMap_cons, List.length_append, this, hk, List.length_cons, Nat.add_mul, Nat.one_mul, Nat.add_comm]
theorem flat_append (L M : List α) : flat enc (L ++ M) = flat enc L ++ flat enc M := List.flatMap_append ..
theorem flat_cons (x : α) (L : List α) : flat enc (x :: L) = enc x ++ flat enc L := List.flatMap_cons ..
theorem flat_one (x : α) : flat enc [x] = enc x := by simp [flat]
theorem flat_at (hk : ∀ x, (enc x).length = k) : ∀ {L : List α} {j : Nat} {x : α}, L[j]? = some x → ∀ {i : Nat}, i < k → (flat enc L)[j * k + i]? = (enc x)[i]?
  | y :: L, 0, x, h, i, hi => by
    obtain rfl : y = x := by simpa using h
    rw [flat_cons, Nat.zero_mul, Nat.zero_add, List.getElem?_append_left (by rw [hk]; exact hi)]
  | y :: L, j + 1, x, h, i, hi => by
    have h' : L[j]? = some x := by simpa using h
    rw [flat_cons, List.getElem?_append_right (by rw [hk, Nat.add_mul]; omega), hk, ← flat_at hk h' hi]
    congr 1
    rw [Nat.add_mul]
    omega
theorem flat_split (hk : ∀ x, (enc x).length = k) (L : List α) (j : Nat) (hj : j ≤ L.length) : (flat enc L).take (j * k) = flat enc (L.take j) ∧ (flat enc L).drop (j * k) = flat enc (L.drop j) := by
  have e : flat enc L = flat enc (L.take j) ++ flat enc (L.drop j) := by rw [← flat_append, List.take_append_drop]
  have hl : (flat enc (L.take j)).length = j * k := by rw [flat_len hk, List.length_take, Nat.min_eq_left hj]
  rw [e, ← hl]
  exact ⟨List.take_left .., List.drop_left ..⟩
end
theorem tcell_len (t : Tb) : (tcell t).length = 5 := rfl
theorem socell_len (t : So) : (socell t).length = 2 := rfl
theorem ecell_len (t : Ed) : (ecell t).length = 6 := rfl
theorem icell_len (t : Int) : (icell t).length = 1 := rfl
theorem tcell_one (t : Tb) : ∀ v ∈ tcell t, v.oneCell' = true := by intro v hv; simp [tcell] at hv; rcases hv with rfl | rfl | rfl | rfl | rfl <;> rfl
theorem socell_one (t : So) : ∀ v ∈ socell t, v.oneCell' = true := by intro v hv; simp [socell] at hv; rcases hv with rfl | rfl <;> rfl
theorem ecell_one (t : Ed) : ∀ v ∈ ecell t, v.oneCell' = true := by intro v hv; simp [ecell] at hv; rcases hv with rfl | rfl | rfl | rfl | rfl | rfl <;> rfl
theorem icell_one (t : Int) : ∀ v ∈ icell t, v.oneCell' = true := by intro v hv; simp [icell] at hv; rcases hv with rfl; rfl
theorem flat_one' {α : Type} {enc : α → List Value} (h : ∀ x, ∀ v ∈ enc x, v.oneCell' = true) (L : List α) : ∀ v ∈ flat enc L, v.oneCell' = true := by
  intro v hv
  obtain ⟨x, _, hx⟩ := List.mem_flatMap.1 hv
  exact h x v hx

/-- A slice that reads as n elements' cells, in a block with T. -/
def RdL (T : Nat → Prop) (w : World) (v : Value) (n : Nat) (xs : List Value) : Prop :=
  ∃ a cap, v = .slice a n cap ∧ n ≤ maxLen ∧ ((a = none ∧ n = 0 ∧ xs = []) ∨ ∃ b off, a = some ⟨b, off, none⟩ ∧ T b ∧ b < w.heap.size ∧ ∀ j u, xs[j]? = some u → w.cell? ⟨b, off + j, none⟩ = some u)
namespace RdL
variable {T T' S : Nat → Prop} {w w' : World} {v : Value} {n : Nat} {xs : List Value}
theorem only (h : RdL T w v n xs) (k : Only S w w') (hT : ∀ j, j < w.heap.size → T j → ¬ S j) : RdL T w' v n xs := by
  obtain ⟨a, cap, rfl, hn, h⟩ := h
  refine ⟨a, cap, rfl, hn, ?_⟩
  rcases h with h | ⟨b, off, rfl, ht, hb, hc⟩
  · exact .inl h
  · exact .inr ⟨b, off, rfl, ht, Nat.lt_of_lt_of_le hb k.size, fun j u hj => by rw [← hc j u hj]; simp only [World.cell?, k.block b hb (hT b hb ht)]⟩
theorem below (h : RdL T w v n xs) (k : Below w.heap.size w w') : RdL T w' v n xs :=
  h.only (S := fun _ => False) ⟨k.os, k.tape, k.output, k.size, fun j hj _ => k.block j hj⟩ (fun _ _ _ x => x)
theorem mono (h : RdL T w v n xs) (hT : ∀ b, b < w.heap.size → T b → T' b) : RdL T' w v n xs := by
  obtain ⟨a, cap, rfl, hn, h⟩ := h
  refine ⟨a, cap, rfl, hn, ?_⟩
  rcases h with h | ⟨b, off, rfl, ht, hb, hc⟩
  · exact .inl h
  · exact .inr ⟨b, off, rfl, hT b hb ht, hb, hc⟩
theorem slice (h : RdL T w v n xs) : ∃ a cap, v = .slice a n cap := by obtain ⟨a, cap, e, _⟩ := h; exact ⟨a, cap, e⟩
theorem none' (w : World) (T : Nat → Prop) : RdL T w (.slice none 0 0) 0 [] := ⟨none, 0, rfl, Nat.zero_le _, .inl ⟨rfl, rfl, rfl⟩⟩
end RdL
theorem OffRow.rdL {w : World} {B : Nat} {e : TypeId} {size : Nat} {v : Value} {n : Nat} {xs : List Value} (h : OffRow w B e size v n xs) : RdL (fun b => B ≤ b) w v n xs := by
  have hn := h.cap_le
  rcases h with ⟨hl, ⟨rfl, rfl⟩ | ⟨g, off, cap, cur, rfl, hB, hg, h1, h2, h3, h4⟩⟩
  · exact ⟨none, 0, rfl, hn, .inl ⟨rfl, rfl, List.eq_nil_of_length_eq_zero (by simpa using hl)⟩⟩
  · refine ⟨_, cap, rfl, hn, .inr ⟨g, off, rfl, hB, heap_lt hg, fun j u hj => ?_⟩⟩
    have hj' : j < n * size := by rw [← hl]; exact (List.getElem?_eq_some_iff.1 hj).1
    rw [← hj, ← h4 j hj']
    simp [World.cell?, hg]
/-- Rows of the call's own. -/
def OwnTb (w : World) (B : Nat) (v : Value) (L : List Tb) : Prop := OffRow w B 42 5 v L.length (flat tcell L)
def OwnSo (w : World) (B : Nat) (v : Value) (L : List So) : Prop := OffRow w B 107 2 v L.length (flat socell L)
def OwnI (w : World) (B : Nat) (v : Value) (L : List Int) : Prop := OffRow w B 3 1 v L.length (flat icell L)
theorem infoTb : (Tryz.prog.info? 42).map (fun i => (i.zero, i.size, i.bytes)) = some (some (.agg #[.int .i64 0, .int .i64 0, .int .i64 0, .string ⟨#[]⟩, .string ⟨#[]⟩]), 5, 56) := by kernel_rfl
theorem infoSo : (Tryz.prog.info? 107).map (fun i => (i.zero, i.size, i.bytes)) = some (some (.agg #[.int .i64 0, .int .i64 0]), 2, 16) := by kernel_rfl
theorem infoEd : (Tryz.prog.info? 47).map (fun i => (i.zero, i.size, i.bytes)) = some (some (.agg #[.int .i64 0, .int .i64 0, .int .i64 0, .int .i64 0, .string ⟨#[]⟩, .string ⟨#[]⟩]), 6, 64) := by kernel_rfl
end Go.Proofs.YtfbaenhajlckjaaGreat
/- The disk as the document tells it, in plain words: files, blocks, changes, a loss of power. -/
set_option linter.unusedVariables false
set_option maxRecDepth 100000
namespace Go.Proofs.YtfbaenhajlckjaaGreat

/-- A file: its number, tier, bytes; whether it is sure, and how many of its bytes are. -/
structure DF where
  n : Int
  t : Int
  data : List UInt8
  sure : Bool
  sb : Nat
/-- A disk: blocks in the tiers, files, root, changes done, changes till the power goes, whether it is gone. -/
structure DS where
  r0 : Nat
  r1 : Nat
  fs : List DF
  root : Int
  steps : Nat
  left : Int
  down : Bool

/-- Blocks of so many bytes. -/
def blk (n : Nat) : Nat := 1 + (n + 63) / 64
def usedL (t : Int) : List DF → Nat
  | [] => 0
  | f :: r => (if f.t = t then blk f.data.length else 0) + usedL t r
def findL (n : Int) : List DF → Option DF
  | [] => none
  | f :: r => if f.n = n then some f else findL n r
def updL (n : Int) (g : DF → DF) (l : List DF) : List DF := l.map fun f => if f.n = n then g f else f
def delL (n : Int) (l : List DF) : List DF := l.filter fun f => decide (f.n ≠ n)
def DS.room (s : DS) (t : Int) : Nat := if t = 0 then s.r0 else s.r1
def DS.used (s : DS) (t : Int) : Nat := usedL t s.fs

/-- What holds of every disk. -/
structure DS.Fit (s : DS) : Prop where
  r0 : s.r0 ≤ 1048576
  r1 : s.r1 ≤ 1048576
  u0 : usedL 0 s.fs ≤ s.r0
  u1 : usedL 1 s.fs ≤ s.r1
  nod : (s.fs.map (·.n)).Nodup
  file : ∀ f ∈ s.fs, (f.t = 0 ∨ f.t = 1) ∧ f.sb ≤ f.data.length ∧ (f.sure = false → f.sb = 0) ∧ 1 ≤ f.n ∧ f.n ≤ 9223372036854775807
  root : s.root = 0 ∨ ∃ f ∈ s.fs, f.n = s.root ∧ f.sure = true
  l0 : -1 ≤ s.left
  l1 : s.left ≤ 9223372036854775807

/-! ### lists of files -/
theorem usedL_append (t : Int) : ∀ (a b : List DF), usedL t (a ++ b) = usedL t a + usedL t b
  | [], b => by simp [usedL]
  | f :: r, b => by simp [usedL, usedL_append t r b]; omega
theorem usedL_perm (t : Int) {a b : List DF} (h : a.Perm b) : usedL t a = usedL t b := by
  induction h with
  | nil => rfl
  | cons x _ ih => simp [usedL, ih]
  | swap x y l => simp [usedL]; omega
  | trans _ _ h1 h2 => exact h1.trans h2
theorem blk_pos (n : Nat) : 1 ≤ blk n := by unfold blk; omega
theorem blk_zero : blk 0 = 1 := rfl
theorem blk_mono {a b : Nat} (h : a ≤ b) : blk a ≤ blk b := by unfold blk; omega
theorem blk_le (n : Nat) : n ≤ 64 * blk n := by unfold blk; omega
theorem length_le_used : ∀ (l : List DF), (∀ f ∈ l, f.t = 0 ∨ f.t = 1) → l.length ≤ usedL 0 l + usedL 1 l
  | [], _ => by simp
  | f :: r, h => by
    have ih := length_le_used r (fun x hx => h x (by simp [hx]))
    have hb := blk_pos f.data.length
    rcases h f (by simp) with e | e <;> simp [usedL, e] <;> omega
theorem findL_mem {n : Int} {f : DF} : ∀ {l : List DF}, findL n l = some f → f ∈ l ∧ f.n = n
  | [], h => by cases h
  | g :: r, h => by
    unfold findL at h
    split at h
    · cases h; exact ⟨by simp, by assumption⟩
    · obtain ⟨h1, h2⟩ := findL_mem h
      exact ⟨by simp [h1], h2⟩
theorem findL_none {n : Int} : ∀ {l : List DF}, findL n l = none → ∀ f ∈ l, f.n ≠ n
  | [], _, f, hf => by cases hf
  | g :: r, h, f, hf => by
    unfold findL at h
    split at h
    · cases h
    · rcases List.mem_cons.1 hf with rfl | hf
      · assumption
      · exact findL_none h f hf
theorem findL_of {n : Int} {f : DF} {l : List DF} (hn : (l.map (·.n)).Nodup) (hm : f ∈ l) (hf : f.n = n) : findL n l = some f := by
  cases h : findL n l with
  | none => exact absurd hf (findL_none h f hm)
  | some g =>
    obtain ⟨h1, h2⟩ := findL_mem h
    have : ∀ {l : List DF}, (l.map (·.n)).Nodup → f ∈ l → g ∈ l → f = g := by
      intro l
      induction l with
      | nil => intro _ h; cases h
      | cons a r ih =>
        intro hn ha hb
        simp only [List.map_cons, List.nodup_cons] at hn
        rcases List.mem_cons.1 ha with rfl | ha'
        · rcases List.mem_cons.1 hb with rfl | hb'
          · rfl
          · exact absurd (List.mem_map.2 ⟨g, hb', by rw [h2, hf]⟩) hn.1
        · rcases List.mem_cons.1 hb with rfl | hb'
          · exact absurd (List.mem_map.2 ⟨f, ha', by rw [h2, hf]⟩) hn.1
          · exact ih hn.2 ha' hb'
    rw [this hn hm h1]
theorem upd_map_n (n : Int) (g : DF → DF) (hg : ∀ f, (g f).n = f.n) (l : List DF) : (updL n g l).map (·.n) = l.map (·.n) := by
  unfold updL
  rw [List.map_map]
  apply List.map_congr_left
  intro f _
  simp only [Function.comp]
  split
  · exact hg f
  · rfl
theorem upd_none {n : Int} (g : DF → DF) {l : List DF} (h : ∀ f ∈ l, f.n ≠ n) : updL n g l = l := by
  unfold updL
  conv => rhs; rw [← List.map_id l]
  apply List.map_congr_left
  intro f hf
  rw [if_neg (h f hf)]
  rfl
theorem del_none {n : Int} {l : List DF} (h : ∀ f ∈ l, f.n ≠ n) : delL n l = l := List.filter_eq_self.2 fun f hf => by simpa using h f hf
/-- What a file that is changed does to the blocks taken. -/
theorem used_upd (t n : Int) (g : DF → DF) (hg : ∀ f, (g f).t = f.t) : ∀ {l : List DF} {f : DF}, (l.map (·.n)).Nodup → findL n l = some f →
    usedL t (updL n g l) + (if f.t = t then blk f.data.length else 0) = usedL t l + (if f.t = t then blk (g f).data.length else 0)
  | [], f, _, h => by cases h
  | a :: r, f, hn, h => by
    simp only [List.map_cons, List.nodup_cons] at hn
    unfold findL at h
    by_cases ha : a.n = n
    · rw [if_pos ha] at h
      cases h
      have hr : updL n g r = r := upd_none g fun x hx e => hn.1 (List.mem_map.2 ⟨x, hx, by rw [e, ha]⟩)
      have : updL n g (a :: r) = g a :: r := by
        show (if a.n = n then g a else a) :: updL n g r = _
        rw [if_pos ha, hr]
      rw [this]
      simp only [usedL, hg]
      omega
    · rw [if_neg ha] at h
      have ih := used_upd t n g hg hn.2 h
      have : updL n g (a :: r) = a :: updL n g r := by
        show (if a.n = n then g a else a) :: updL n g r = _
        rw [if_neg ha]
      rw [this]
      simp only [usedL]
      omega
theorem used_del (t n : Int) : ∀ {l : List DF} {f : DF}, (l.map (·.n)).Nodup → findL n l = some f → usedL t (delL n l) + (if f.t = t then blk f.data.length else 0) = usedL t l
  | [], f, _, h => by cases h
  | a :: r, f, hn, h => by
    simp only [List.map_cons, List.nodup_cons] at hn
    unfold findL at h
    by_cases ha : a.n = n
    · rw [if_pos ha] at h
      cases h
      have hr : delL n r = r := del_none fun x hx e => hn.1 (List.mem_map.2 ⟨x, hx, by rw [e, ha]⟩)
      have : delL n (a :: r) = r := by
        unfold delL at hr ⊢
        rw [List.filter_cons, if_neg (by simp [ha]), hr]
      rw [this]
      simp only [usedL]
      omega
    · rw [if_neg ha] at h
      have ih := used_del t n hn.2 h
      have : delL n (a :: r) = a :: delL n r := by
        unfold delL
        rw [List.filter_cons, if_pos (by simp [ha])]
      rw [this]
      simp only [usedL]
      omega
theorem upd_mem {n : Int} {g : DF → DF} {l : List DF} {x : DF} (h : x ∈ updL n g l) : (∃ f ∈ l, f.n = n ∧ x = g f) ∨ (x ∈ l ∧ x.n ≠ n) := by
  unfold updL at h
  obtain ⟨f, hf, rfl⟩ := List.mem_map.1 h
  by_cases e : f.n = n
  · rw [if_pos e]; exact .inl ⟨f, hf, e, rfl⟩
  · rw [if_neg e]; exact .inr ⟨hf, e⟩
theorem mem_upd {n : Int} {g : DF → DF} {l : List DF} {f : DF} (h : f ∈ l) : (if f.n = n then g f else f) ∈ updL n g l := List.mem_map.2 ⟨f, h, rfl⟩
theorem used_ge {t : Int} {l : List DF} {f : DF} (h : f ∈ l) (ht : f.t = t) : blk f.data.length ≤ usedL t l := by
  induction l with
  | nil => cases h
  | cons a r ih =>
    rcases List.mem_cons.1 h with rfl | h
    · simp [usedL, ht]
    · have := ih h; simp only [usedL]; omega

/-! ### what the calls do -/
/-- A change that isn't refused. -/
def DS.tick (s : DS) : DS := { s with left := if s.left < 0 then s.left else s.left - 1, steps := s.steps + 1 }
def DS.off (s : DS) : DS := { s with down := true }
/-- A file's answer to a call that asks for a file. -/
def DS.make (s : DS) (t n : Int) : DS × Int :=
  if s.down = true then (s, 8) else if ¬ (t = 0 ∨ t = 1) ∨ n < 1 then (s, 1) else if (findL n s.fs).isSome then (s, 10) else if s.room t ≤ s.used t then (s, 7)
  else if s.left = 0 then (s.off, 8) else ({ s.tick with fs := s.fs ++ [⟨n, t, [], false, 0⟩] }, 0)
def addF (b : List UInt8) (f : DF) : DF := { f with data := f.data ++ b }
def DS.add (s : DS) (n : Int) (b : List UInt8) : DS × Int :=
  if s.down = true then (s, 8) else match findL n s.fs with
  | none => (s, 9)
  | some f => if s.room f.t < s.used f.t + (blk (f.data.length + b.length) - blk f.data.length) then (s, 7)
    else if s.left = 0 then ({ s.off with fs := updL n (addF b) s.fs }, 8) else ({ s.tick with fs := updL n (addF b) s.fs }, 0)
def syncF (f : DF) : DF := { f with sure := true, sb := f.data.length }
def DS.sync (s : DS) (n : Int) : DS × Int :=
  if s.down = true then (s, 8) else match findL n s.fs with
  | none => (s, 9)
  | some _ => if s.left = 0 then (s.off, 8) else ({ s.tick with fs := updL n syncF s.fs }, 0)
def DS.drop (s : DS) (n : Int) : DS × Int :=
  if s.down = true then (s, 8) else match findL n s.fs with
  | none => (s, 9)
  | some _ => if n = s.root then (s, 11) else if s.left = 0 then (s.off, 8) else ({ s.tick with fs := delL n s.fs }, 0)
def DS.point (s : DS) (n : Int) : DS × Int :=
  if s.down = true then (s, 8) else match findL n s.fs with
  | none => (s, 9)
  | some f => if f.sure = false ∨ f.sb < f.data.length then (s, 11) else if s.left = 0 then (s.off, 8) else ({ s.tick with root := n }, 0)
def DS.arm (s : DS) (n : Int) : DS := { s with left := max n (-1) }
/-- What the first Keep says that names a file. -/
def keepOf (ks : List (Int × Int)) (n : Int) : Option Int := (ks.find? fun k => decide (k.1 = n)).map (·.2)
def most (ks : List (Int × Int)) (n : Int) : Int := (keepOf ks n).getD 0
def loseF (k : Int) (f : DF) : DF :=
  let m := f.sb + min k.toNat (f.data.length - f.sb)
  { f with data := f.data.take m, sure := true, sb := m }
def backF (ks : List (Int × Int)) (f : DF) : Option DF := if keepOf ks f.n = none ∧ f.sure = false then none else some (loseF (most ks f.n) f)
def DS.back (s : DS) (ks : List (Int × Int)) : DS := { s with fs := s.fs.filterMap (backF ks), left := -1, down := false }
def DS.size (s : DS) (n : Int) : Int × Int × Int :=
  if s.down = true then (0, 0, 8) else match findL n s.fs with
  | none => (0, 0, 9)
  | some f => (f.data.length, f.t, 0)
def DS.read (s : DS) (n at_ size : Int) : List UInt8 × Int :=
  if s.down = true then ([], 8) else match findL n s.fs with
  | none => ([], 9)
  | some f => if at_ < 0 ∨ size < 0 ∨ (f.data.length : Int) - at_ < size then ([], 1) else ((f.data.drop at_.toNat).take size.toNat, 0)
def DS.new (hot cold : Nat) : DS := ⟨hot, cold, [], 0, 0, -1, false⟩

end Go.Proofs.YtfbaenhajlckjaaGreat
/- A disk in memory: its block, its map, its files' blocks and rows; what stays of it while memory is written. -/
set_option linter.unusedVariables false
set_option maxRecDepth 100000
namespace Go.Proofs.YtfbaenhajlckjaaGreat
open Go.RowKit Go.Maps Go.WideShapes Go.ChangeMaps

/-- A file in memory: what it is, its block, the slice of its bytes. -/
structure DE where
  f : DF
  fb : Nat
  v : Value
/-- The numbers in a disk's block. -/
structure DC where
  r0 : Int
  r1 : Int
  u0 : Int
  u1 : Int
  root : Int
  steps : Int
  left : Int
  down : Bool
def DC.cells (c : DC) (mb : Nat) : Array Value := #[.int .i64 c.r0, .int .i64 c.r1, .int .i64 c.u0, .int .i64 c.u1, .map (some mb), .int .i64 c.root, .int .i64 c.steps, .int .i64 c.left, .bool c.down]
def byteV (b : UInt8) : Value := .int .u8 (b.toNat : Int)
def FileAt (w : World) (e : DE) : Prop :=
  w.heap[e.fb]? = some (.cells #[.int .i64 e.f.t, e.v, .bool e.f.sure, .int .i64 (e.f.sb : Int)] 138 (0, 0)) ∧ w.ownsRow 0 5 1 e.v e.f.data.length (e.f.data.map byteV)
/-- How a pointer to a file reads: its block's number; nil: -1. -/
def ptrR : Value → Option (DataW Unit × List MemPlace)
  | .pointer none => some (.lit (.int .i64 (-1)), [])
  | .pointer (some ⟨b, 0, none⟩) => some (.lit (.int .i64 (b : Int)), [])
  | _ => none
theorem ptrR_inv {v : Value} {y : DataW Unit × List MemPlace} (h : ptrR v = some y) : (v = .pointer none ∧ y = (.lit (.int .i64 (-1)), [])) ∨ ∃ b : Nat, v = .pointer (some ⟨b, 0, none⟩) ∧ y = (.lit (.int .i64 (b : Int)), []) := by
  unfold ptrR at h
  split at h
  · cases h; exact .inl ⟨rfl, rfl⟩
  · cases h; exact .inr ⟨_, rfl, rfl⟩
  · cases h
def ent (e : DE) : Lit × DataW Unit := (.int .i64 e.f.n, .lit (.int .i64 (e.fb : Int)))
def FileMap (w : World) (mb : Nat) (es : List DE) : Prop := ∃ l, w.ownsMap Tryz.prog 3 ptrR mb es.length (.map l) ∧ l.Perm (es.map ent)
theorem law3 : Keyed Tryz.prog 3 := int_keyed Tryz.underlying3

structure Lay (S : Nat → Prop) (w : World) (d mb : Nat) (es : List DE) (c : DC) : Prop where
  obj : w.heap[d]? = some (.cells (c.cells mb) 129 (0, 0))
  map : FileMap w mb es
  file : ∀ e ∈ es, FileAt w e
  nod : (es.map (·.f.n)).Nodup
  sep : ∀ e ∈ es, ∀ e' ∈ es, e.f.n ≠ e'.f.n → e.fb ≠ e'.fb ∧ (e.v.ownBlock = none ∨ e.v.ownBlock ≠ e'.v.ownBlock)
  sd : S d
  sm : S mb
  sf : ∀ e ∈ es, S e.fb
  sr : ∀ e ∈ es, ∀ g, e.v.ownBlock = some g → S g

theorem FileMap.obj {w : World} {mb : Nat} {es : List DE} (h : FileMap w mb es) : ∃ x c, w.heap[mb]? = some (.map x c) := by
  obtain ⟨l, ⟨x, c, hb, _⟩, _⟩ := h
  exact ⟨x, c, hb⟩
theorem FileMap.kept {w w' : World} {mb : Nat} {es : List DE} (h : FileMap w mb es) (hk : w'.heap[mb]? = w.heap[mb]?) : FileMap w' mb es := by
  obtain ⟨l, ⟨x, c, hb, r⟩, hp⟩ := h
  exact ⟨l, ⟨x, c, hk.trans hb, r⟩, hp⟩
theorem ownsRow_row {w : World} {base : Nat} {e : TypeId} {size : Nat} {v : Value} {n : Nat} {xs : List Value} (h : w.ownsRow base e size v n xs) {g : Nat} (hg : v.ownBlock = some g) : ∃ cur, w.heap[g]? = some (.cells cur e (0, 0)) := by
  rcases h.2 with ⟨rfl, _⟩ | ⟨g', cap, cur, rfl, _, hgg, _⟩
  · cases hg
  · simp [Value.ownBlock] at hg
    subst hg
    exact ⟨cur, hgg⟩
theorem ownsRow_same {w w' : World} {base : Nat} {e : TypeId} {size : Nat} {v : Value} {n : Nat} {xs : List Value} (h : w.ownsRow base e size v n xs) (hk : ∀ g, v.ownBlock = some g → w'.heap[g]? = w.heap[g]?) : w'.ownsRow base e size v n xs := by
  refine ⟨h.1, ?_⟩
  rcases h.2 with hn | ⟨g, cap, cur, rfl, hb, hgg, rest⟩
  · exact .inl hn
  · exact .inr ⟨g, cap, cur, rfl, hb, (hk g rfl).trans hgg, rest⟩
theorem FileAt.kept {w w' : World} {e : DE} (h : FileAt w e) (hf : w'.heap[e.fb]? = w.heap[e.fb]?) (hr : ∀ g, e.v.ownBlock = some g → w'.heap[g]? = w.heap[g]?) : FileAt w' e :=
  ⟨hf.trans h.1, ownsRow_same h.2 hr⟩

namespace Lay
variable {S S' : Nat → Prop} {w w' : World} {d mb : Nat} {es : List DE} {c : DC}
theorem mono (h : Lay S w d mb es c) (hS : ∀ k, k < w.heap.size → S k → S' k) : Lay S' w d mb es c :=
  ⟨h.obj, h.map, h.file, h.nod, h.sep, hS _ (heap_lt h.obj) h.sd, hS _ (by obtain ⟨x, c, hx⟩ := h.map.obj; exact heap_lt hx) h.sm, fun e he => hS _ (heap_lt (h.file e he).1) (h.sf e he),
    fun e he g hg => hS _ (by obtain ⟨cur, hc⟩ := ownsRow_row (h.file e he).2 hg; exact heap_lt hc) (h.sr e he g hg)⟩
theorem tight (h : Lay S w d mb es c) : Lay (fun k => S k ∧ k < w.heap.size) w d mb es c := h.mono fun k hk hs => ⟨hs, hk⟩
/-- The disk stays while what isn't of it is written. -/
theorem kept (h : Lay S w d mb es c) (hk : ∀ k, k < w.heap.size → S k → w'.heap[k]? = w.heap[k]?) : Lay S w' d mb es c := by
  refine ⟨(hk d (heap_lt h.obj) h.sd).trans h.obj, h.map.kept (hk mb (by obtain ⟨x, c, hx⟩ := h.map.obj; exact heap_lt hx) h.sm), fun e he => (h.file e he).kept (hk _ (heap_lt (h.file e he).1) (h.sf e he)) fun g hg => hk g ?_ (h.sr e he g hg), h.nod, h.sep, h.sd, h.sm, h.sf, h.sr⟩
  obtain ⟨cur, hc⟩ := ownsRow_row (h.file e he).2 hg
  exact heap_lt hc
theorem only {T : Nat → Prop} (h : Lay S w d mb es c) (k : Only T w w') (hT : ∀ j, j < w.heap.size → S j → ¬ T j) : Lay S w' d mb es c := h.kept fun j hj hs => k.block j hj (hT j hj hs)
theorem drewN (h : Lay S w d mb es c) (n : Nat) : Lay S (w.drewN n) d mb es c := h.kept fun _ _ _ => rfl
theorem drew (h : Lay S w d mb es c) : Lay S w.drew d mb es c := h.kept fun _ _ _ => rfl
theorem alloc (h : Lay S w d mb es c) (o : Obj) : Lay S (w.alloc o) d mb es c := h.kept fun k hk _ => Below.heap_alloc w o k hk
/-! a cell of the disk's block -/
theorem ne_map (h : Lay S w d mb es c) : mb ≠ d := by
  rintro rfl
  obtain ⟨x, y, hx⟩ := h.map.obj
  rw [h.obj] at hx
  cases hx
theorem ne_file (h : Lay S w d mb es c) {e : DE} (he : e ∈ es) : e.fb ≠ d ∧ e.fb ≠ mb := by
  constructor
  · intro x
    have h1 := (h.file e he).1
    rw [x, h.obj] at h1
    simp at h1
  · intro x
    have h1 := (h.file e he).1
    obtain ⟨y, z, hy⟩ := h.map.obj
    rw [x, hy] at h1
    cases h1
theorem ne_row (h : Lay S w d mb es c) {e : DE} (he : e ∈ es) {g : Nat} (hg : e.v.ownBlock = some g) : g ≠ d ∧ g ≠ mb ∧ ∀ e' ∈ es, g ≠ e'.fb := by
  obtain ⟨cur, hc⟩ := ownsRow_row (h.file e he).2 hg
  refine ⟨?_, ?_, ?_⟩
  · rintro rfl
    rw [h.obj] at hc
    simp at hc
  · rintro rfl
    obtain ⟨y, z, hy⟩ := h.map.obj
    rw [hy] at hc
    cases hc
  · rintro e' he' rfl
    rw [(h.file e' he').1] at hc
    simp at hc
theorem setD (h : Lay S w d mb es c) (i : Nat) (u : Value) (c' : DC) (hc : (c.cells mb).setIfInBounds i u = c'.cells mb) : Lay S (w.setCell ⟨d, i, none⟩ u) d mb es c' :=
  ⟨by rw [heap_set h.obj, hc], h.map.kept (heap_set_other h.ne_map u), fun e he => (h.file e he).kept (heap_set_other (h.ne_file he).1 u) fun g hg => heap_set_other (h.ne_row he hg).1 u, h.nod, h.sep, h.sd, h.sm, h.sf, h.sr⟩
theorem cell (h : Lay S w d mb es c) (i : Nat) : w.cell? ⟨d, i, none⟩ = (c.cells mb)[i]? := by simp [World.cell?, h.obj]
theorem free (h : Lay S w d mb es c) (i : Nat) : w.frozen? ⟨d, i, none⟩ = false := by simp [World.frozen?, h.obj]
theorem fcell (h : Lay S w d mb es c) {e : DE} (he : e ∈ es) (i : Nat) : w.cell? ⟨e.fb, i, none⟩ = #[Value.int .i64 e.f.t, e.v, .bool e.f.sure, .int .i64 (e.f.sb : Int)][i]? := by simp [World.cell?, (h.file e he).1]
theorem ffree (h : Lay S w d mb es c) {e : DE} (he : e ∈ es) (i : Nat) : w.frozen? ⟨e.fb, i, none⟩ = false := by simp [World.frozen?, (h.file e he).1]
end Lay

/-- The list with one file turned. -/
def updE (n : Int) (e' : DE) (es : List DE) : List DE := es.map fun e => if e.f.n = n then e' else e
def findE (n : Int) : List DE → Option DE
  | [] => none
  | e :: r => if e.f.n = n then some e else findE n r
theorem findE_mem {n : Int} {e : DE} : ∀ {l : List DE}, findE n l = some e → e ∈ l ∧ e.f.n = n
  | [], h => by cases h
  | g :: r, h => by
    unfold findE at h
    split at h
    · cases h; exact ⟨by simp, by assumption⟩
    · obtain ⟨h1, h2⟩ := findE_mem h
      exact ⟨by simp [h1], h2⟩
theorem findE_none {n : Int} : ∀ {l : List DE}, findE n l = none → ∀ e ∈ l, e.f.n ≠ n
  | [], _, e, he => by cases he
  | g :: r, h, e, he => by
    unfold findE at h
    split at h
    · cases h
    · rcases List.mem_cons.1 he with rfl | he
      · assumption
      · exact findE_none h e he
theorem findE_L (n : Int) : ∀ l : List DE, findL n (l.map (·.f)) = (findE n l).map (·.f)
  | [] => rfl
  | e :: r => by
    simp only [List.map_cons, findL, findE]
    split
    · rfl
    · exact findE_L n r
theorem nod_eq {es : List DE} (hn : (es.map (·.f.n)).Nodup) {e e' : DE} (he : e ∈ es) (he' : e' ∈ es) (h : e.f.n = e'.f.n) : e = e' := by
  induction es with
  | nil => cases he
  | cons a r ih =>
    simp only [List.map_cons, List.nodup_cons] at hn
    rcases List.mem_cons.1 he with rfl | he1
    · rcases List.mem_cons.1 he' with rfl | he2
      · rfl
      · exact absurd (List.mem_map.2 ⟨e', he2, h.symm⟩) hn.1
    · rcases List.mem_cons.1 he' with rfl | he2
      · exact absurd (List.mem_map.2 ⟨e, he1, h⟩) hn.1
      · exact ih hn.2 he1 he2
theorem updE_n {n : Int} {e' : DE} (he' : e'.f.n = n) (es : List DE) : (updE n e' es).map (·.f.n) = es.map (·.f.n) := by
  unfold updE
  rw [List.map_map]
  apply List.map_congr_left
  intro e _
  simp only [Function.comp]
  split
  · rw [he']; exact Eq.symm (by assumption)
  · rfl
theorem updE_f {n : Int} {e e' : DE} {g : DF → DF} {es : List DE} (hn : (es.map (·.f.n)).Nodup) (he : findE n es = some e) (hg : e'.f = g e.f) : (updE n e' es).map (·.f) = updL n g (es.map (·.f)) := by
  unfold updE updL
  rw [List.map_map, List.map_map]
  apply List.map_congr_left
  intro x hx
  simp only [Function.comp]
  obtain ⟨h1, h2⟩ := findE_mem he
  by_cases hxn : x.f.n = n
  · rw [if_pos hxn, if_pos hxn, nod_eq hn hx h1 (by rw [hxn, h2]), hg]
  · rw [if_neg hxn, if_neg hxn]
theorem updE_mem {n : Int} {e' x : DE} {es : List DE} (h : x ∈ updE n e' es) : x = e' ∨ (x ∈ es ∧ x.f.n ≠ n) := by
  unfold updE at h
  obtain ⟨f, hf, rfl⟩ := List.mem_map.1 h
  by_cases e : f.f.n = n
  · rw [if_pos e]; exact .inl rfl
  · rw [if_neg e]; exact .inr ⟨hf, e⟩

/-- A file turned: its block and perhaps its row, in a world that is as it was but for these and what is new. -/
theorem Lay.turn {S S' : Nat → Prop} {w w' : World} {d mb : Nat} {es : List DE} {c : DC} (h : Lay S w d mb es c) {n : Int} {e e' : DE} (he : findE n es = some e) (hn : e'.f.n = n) (hb : e'.fb = e.fb)
    (hk : ∀ k, k < w.heap.size → k ≠ e.fb → e.v.ownBlock ≠ some k → w'.heap[k]? = w.heap[k]?) (hf : FileAt w' e') (hv : ∀ g, e'.v.ownBlock = some g → e.v.ownBlock = some g ∨ w.heap.size ≤ g)
    (hS : ∀ k, S k → S' k) (hS' : ∀ g, e'.v.ownBlock = some g → S' g) : Lay S' w' d mb (updE n e' es) c := by
  obtain ⟨hem, hen⟩ := findE_mem he
  have hrow : ∀ x ∈ es, ∀ g, x.v.ownBlock = some g → g < w.heap.size := fun x hx g hg => by
    obtain ⟨cur, hc⟩ := ownsRow_row (h.file x hx).2 hg
    exact heap_lt hc
  have hmb : mb < w.heap.size := by obtain ⟨x, y, hx⟩ := h.map.obj; exact heap_lt hx
  have hother : ∀ x ∈ es, x.f.n ≠ n → FileAt w' x := fun x hx hxn => by
    obtain ⟨h1, h2⟩ := h.sep e hem x hx (by rw [hen]; exact Ne.symm hxn)
    refine (h.file x hx).kept (hk _ (heap_lt (h.file x hx).1) (Ne.symm h1) fun y => (h.ne_row hem y).2.2 x hx rfl) fun g hg => hk g (hrow x hx g hg) (fun y => (h.ne_row hx hg).2.2 e hem y) fun y => ?_
    rcases h2 with h2 | h2
    · rw [h2] at y; cases y
    · exact h2 (y.trans hg.symm)
  refine ⟨(hk d (heap_lt h.obj) (Ne.symm (h.ne_file hem).1) fun y => (h.ne_row hem y).1 rfl).trans h.obj, ?_, ?_, ?_, ?_, hS _ h.sd, hS _ h.sm, ?_, ?_⟩
  · obtain ⟨l, hl, hp⟩ := h.map.kept (hk mb hmb (Ne.symm (h.ne_file hem).2) fun y => (h.ne_row hem y).2.1 rfl)
    refine ⟨l, by unfold updE; rw [List.length_map]; exact hl, ?_⟩
    have : (updE n e' es).map ent = es.map ent := by
      unfold updE
      rw [List.map_map]
      apply List.map_congr_left
      intro x hx
      simp only [Function.comp]
      by_cases hxn : x.f.n = n
      · rw [if_pos hxn, nod_eq h.nod hx hem (by rw [hxn, hen])]
        unfold ent
        rw [hn, hen, hb]
      · rw [if_neg hxn]
    rw [this]
    exact hp
  · intro x hx
    rcases updE_mem hx with rfl | ⟨hx1, hx2⟩
    · exact hf
    · exact hother x hx1 hx2
  · rw [updE_n hn]
    exact h.nod
  · intro x hx y hy hxy
    rcases updE_mem hx with rfl | ⟨hx1, hx2⟩
    · rcases updE_mem hy with rfl | ⟨hy1, hy2⟩
      · exact absurd rfl hxy
      · obtain ⟨h1, h2⟩ := h.sep e hem y hy1 (by rw [hen]; exact Ne.symm hy2)
        refine ⟨by rw [hb]; exact h1, ?_⟩
        cases hg : x.v.ownBlock with
        | none => exact .inl rfl
        | some g =>
          right
          intro z
          rcases hv g hg with a | a
          · rcases h2 with h2 | h2
            · rw [h2] at a; cases a
            · exact h2 (a.trans z)
          · have := hrow y hy1 g z.symm
            omega
    · rcases updE_mem hy with rfl | ⟨hy1, hy2⟩
      · obtain ⟨h1, h2⟩ := h.sep x hx1 e hem (by rw [hen]; exact hx2)
        refine ⟨by rw [hb]; exact h1, ?_⟩
        cases hg : x.v.ownBlock with
        | none => exact .inl rfl
        | some g =>
          right
          intro z
          rcases hv g z.symm with a | a
          · rcases h2 with h2 | h2
            · rw [h2] at hg; cases hg
            · exact h2 (hg.trans a.symm)
          · have := hrow x hx1 g hg
            omega
      · exact h.sep x hx1 y hy1 hxy
  · intro x hx
    rcases updE_mem hx with rfl | ⟨hx1, hx2⟩
    · rw [hb]; exact hS _ (h.sf e hem)
    · exact hS _ (h.sf x hx1)
  · intro x hx g hg
    rcases updE_mem hx with rfl | ⟨hx1, hx2⟩
    · exact hS' g hg
    · exact hS _ (h.sr x hx1 g hg)

/-! ### the map -/
theorem length_tight {w : World} {mb n : Nat} {l : List (Lit × DataW Unit)} (h : w.ownsMap Tryz.prog 3 ptrR mb n (.map l)) : w.ownsMap Tryz.prog 3 ptrR mb l.length (.map l) := by
  obtain ⟨es, clock, hb, F, hs, hD⟩ := h
  injection hD with hD
  refine ⟨es, clock, hb, F, ?_, by rw [hD]⟩
  rw [hD, length_sorted]
  simp
theorem nodup_keys {es : List DE} (hn : (es.map (·.f.n)).Nodup) : ((es.map ent).map (·.1)).Nodup := by
  rw [List.map_map]
  have : (es.map ((·.1) ∘ ent)) = (es.map (·.f.n)).map (Lit.int .i64) := by rw [List.map_map]; rfl
  rw [this]
  exact List.pairwise_map.2 (hn.imp fun hne h => hne (by injection h))
theorem sameKey_i64 (a b : Int) : (Lit.int .i64 a).sameKey (.int .i64 b) = decide (a = b) := by
  by_cases h : a = b
  · subst h
    rw [WideAt.sameKey_self (by simp [WideAt.IsKeyLit]), decide_eq_true rfl]
  · rw [decide_eq_false h]
    exact sameKey_ne fun e => h (by injection e)

/-- A pointer to a file that may be there. -/
def ptrE : Option DE → Value
  | none => .pointer none
  | some e => .pointer (some ⟨e.fb, 0, none⟩)
def delE (n : Int) (es : List DE) : List DE := es.filter fun e => decide (e.f.n ≠ n)
theorem delE_f (n : Int) (es : List DE) : (delE n es).map (·.f) = delL n (es.map (·.f)) := by
  unfold delE delL
  rw [List.filter_map]
  rfl
theorem atKey_files {l : List (Lit × DataW Unit)} {es : List DE} (hp : l.Perm (es.map ent)) (hn : (es.map (·.f.n)).Nodup) (n : Int) (z : DataW Unit) :
    (DataW.map l).atKey (.int .i64 n) z = match findE n es with | none => z | some e => .lit (.int .i64 (e.fb : Int)) := by
  have e0 : (DataW.map l).atKey (.int .i64 n) z = ((l.find? (fun p => p.1.sameKey (.int .i64 n))).map (·.2)).getD z := by
    simp only [DataW.atKey]
    generalize List.find? (fun p => p.1.sameKey (.int .i64 n)) l = o
    cases o <;> rfl
  rw [e0]
  cases hf : findE n es with
  | none =>
    rw [List.find?_eq_none.2]
    · rfl
    intro p hpl
    obtain ⟨e, he, rfl⟩ := List.mem_map.1 (hp.mem_iff.1 hpl)
    have := findE_none hf e he
    simp [ent, sameKey_i64, this]
  | some e =>
    obtain ⟨h1, h2⟩ := findE_mem hf
    have hm : ent e ∈ l := hp.mem_iff.2 (List.mem_map.2 ⟨e, h1, rfl⟩)
    cases hx : l.find? (fun p => p.1.sameKey (.int .i64 n)) with
    | none =>
      have := List.find?_eq_none.1 hx _ hm
      simp [ent, sameKey_i64, h2] at this
    | some p =>
      have hs := List.find?_some hx
      obtain ⟨e', he', rfl⟩ := List.mem_map.1 (hp.mem_iff.1 (List.mem_of_find?_eq_some hx))
      have hn' : e'.f.n = n := by simpa [ent, sameKey_i64] using hs
      rw [nod_eq hn he' h1 (by rw [hn', h2])]
      rfl
theorem zero60 (w : World) : (zeroValue 133).run Tryz.prog w = .ok (.pointer none) w := by kernel_rfl
theorem FileMap.look {w : World} {mb : Nat} {es : List DE} (h : FileMap w mb es) (hn : (es.map (·.f.n)).Nodup) {n : Int} (hw : (Lit.int .i64 n).wf = true) :
    (Instr.lookup 127 (.map (some mb)) (.int .i64 n) false).run Tryz.prog w = .ok (ptrE (findE n es)) w := by
  obtain ⟨l, hl, hp⟩ := h
  obtain ⟨v, ps, hrun, hv⟩ := hl.lookup law3 Tryz.underlying127 (zero60 w) (zd := .lit (.int .i64 (-1))) (zp := []) rfl (keyOf_int_mk Tryz.underlying3 hw)
  rw [hrun]
  rw [atKey_files hp hn] at hv
  rcases ptrR_inv hv with ⟨rfl, hy⟩ | ⟨b, rfl, hy⟩
  · cases hf : findE n es with
    | none => rfl
    | some e =>
      rw [hf] at hy
      injection hy with hy _
      injection hy with hy
      injection hy with _ hy
      exact absurd hy (by omega)
  · cases hf : findE n es with
    | none =>
      rw [hf] at hy
      injection hy with hy _
      injection hy with hy
      injection hy with _ hy
      exact absurd hy (by omega)
    | some e =>
      rw [hf] at hy
      injection hy with hy _
      injection hy with hy
      injection hy with _ hy
      obtain rfl : e.fb = b := by omega
      rfl
theorem files_put {w : World} {mb : Nat} {es : List DE} {l : List (Lit × DataW Unit)} {e : DE} (hp : l.Perm (es.map ent)) (hno : ∀ x ∈ es, x.f.n ≠ e.f.n)
    (h : w.ownsMap Tryz.prog 3 ptrR mb (es.length + 1) ((DataW.map l).put (.int .i64 e.f.n) (.lit (.int .i64 (e.fb : Int))))) : FileMap w mb (es ++ [e]) := by
  refine ⟨DataW.insert (.int .i64 e.f.n, .lit (.int .i64 (e.fb : Int))) (l.filter fun p => !p.1.sameKey (.int .i64 e.f.n)), by rw [List.length_append]; exact h, ?_⟩
  have hfl : (l.filter fun p => !p.1.sameKey (.int .i64 e.f.n)) = l := List.filter_eq_self.2 fun p hpl => by
    obtain ⟨x, hx, rfl⟩ := List.mem_map.1 (hp.mem_iff.1 hpl)
    simp [ent, sameKey_i64, hno x hx]
  rw [hfl, List.map_append]
  refine (insert_perm _ _).trans ?_
  refine (List.Perm.cons _ hp).trans ?_
  exact (List.perm_append_singleton (ent e) (es.map ent)).symm
theorem files_del {w : World} {mb m : Nat} {es : List DE} {l : List (Lit × DataW Unit)} {n : Int} (hp : l.Perm (es.map ent))
    (h : w.ownsMap Tryz.prog 3 ptrR mb m ((DataW.map l).del (.int .i64 n))) : FileMap w mb (delE n es) := by
  have h' : w.ownsMap Tryz.prog 3 ptrR mb m (.map (l.filter fun p => !p.1.sameKey (.int .i64 n))) := h
  have hpp : (l.filter fun p => !p.1.sameKey (.int .i64 n)).Perm ((delE n es).map ent) := by
    refine (hp.filter _).trans ?_
    rw [List.filter_map]
    unfold delE
    have : ((fun p : Lit × DataW Unit => !p.1.sameKey (.int .i64 n)) ∘ ent) = fun e => decide (e.f.n ≠ n) := by
      funext e
      simp [ent, sameKey_i64]
    rw [this]
  have := length_tight h'
  rw [hpp.length_eq, List.length_map] at this
  exact ⟨_, this, hpp⟩
end Go.Proofs.YtfbaenhajlckjaaGreat
