/- SchedAdds: a pick, with tasks that add. -/
import Derived.Test.YtccliallljcjgaaAddsStep
set_option linter.unusedVariables false
namespace Go.Proofs.Ytccliallljcjgaa
open Go.RowKit

structure AW (B : Nat) (w : World) (g : AG) (s t : Nat) (sw : Bool) (want v h : Int) (ts : List AT) (tsS : List (Option TS)) (steps : Int) : Prop where
  inv : AInv sw want v h ts
  mem : AMem w g sw v h ts
  sch : Sch w s t tsS steps
  len : tsS.length = ts.length
  slot : ∀ i x y, ts[i]? = some x → tsS[i]? = some y → SlotOk g sw i x y
  lo : B ≤ g.c ∧ B ≤ g.m ∧ (∀ i, i < ts.length → B ≤ g.lf i ∧ B ≤ g.sn i) ∧ B ≤ s ∧ B ≤ t
  lk : ∀ (i : Nat) y, tsS[i]? = some (some y) → B ≤ y.k
/-- What a step may write. -/
def SOwn (g : AG) (s t i k : Nat) (j : Nat) : Prop := AOwn g i j ∨ j = s ∨ j = t ∨ j = k
theorem sch_kept {w w' : World} {g : AG} {s t : Nat} {sw : Bool} {v h : Int} {ts : List AT} {tsS : List (Option TS)} {steps : Int} {i : Nat} {x : AT} (S : Sch w s t tsS steps) (K : AMem w g sw v h ts) (hx : ts[i]? = some x) (hO : Only (AOwn g i) w w') : Sch w' s t tsS steps := by
  refine S.kept fun j hj => hO.block j (S.lt hj) fun ho => ?_
  have tag : ∃ cb tb, w.heap[j]? = some (.cells cb tb (0, 0)) ∧ (tb = 81 ∨ tb = 78 ∨ tb = 60) := by
    rcases hj with rfl | rfl | ⟨n, y, hy, rfl⟩
    · exact ⟨_, _, S.obj, .inl rfl⟩
    · exact ⟨_, _, S.row, .inr (.inl rfl)⟩
    · exact ⟨_, _, S.task n y hy, .inr (.inr rfl)⟩
  obtain ⟨cb, tb, h1, h2⟩ := tag
  rcases ho with e | e | e | e
  · exact ne_types h1 K.c (by rcases h2 with rfl | rfl | rfl <;> decide) e
  · exact ne_types h1 K.m (by rcases h2 with rfl | rfl | rfl <;> decide) e
  · exact ne_types h1 (K.lf i x hx) (by rcases h2 with rfl | rfl | rfl <;> decide) e
  · exact ne_types h1 (K.sn i x hx) (by rcases h2 with rfl | rfl | rfl <;> decide) e
/-- What a pick leaves, from the world w1 on. -/
def Picked (B : Nat) (g : AG) (s t : Nat) (sw : Bool) (want : Int) (n c0 : Nat) (w1 w' : World) : Prop :=
  ∃ v' h' ts' tsS' steps', AW B w' g s t sw want v' h' ts' tsS' steps' ∧ ts'.length = n ∧ cntA v' ts' + 1 ≤ c0 ∧ Below B w1 w'
theorem aw_step {B : Nat} {w : World} {g : AG} {s t : Nat} {sw : Bool} {want v h : Int} {ts : List AT} {tsS : List (Option TS)} {steps : Int} (A : AW B w g s t sw want v h ts tsS steps) (hB : B ≤ w.heap.size) {i : Nat} {x : AT} (hx : ts[i]? = some x) (hr : AInv.rdy sw h x = true) :
    Calls Try.prog 16 #[.pointer (some ⟨s, 0, none⟩), .int .i64 (i : Int)] w fun e w' => e = .returned (.int .i64 0) ∧ Picked B g s t sw want ts.length (cntA v ts) w w' ∧ ∃ k, Only (SOwn g s t i k) w w' ∧ ∃ (n : Nat) (y : TS), tsS[n]? = some (some y) ∧ y.k = k := by
  have hi : i < ts.length := (List.getElem?_eq_some_iff.1 hx).1
  have hlr : 0 < x.l ∧ (sw = true ∨ x.set = true ∨ h = -1) := by
    simp [AInv.rdy] at hr
    obtain ⟨h1, h2⟩ := hr
    refine ⟨h1, ?_⟩
    rcases h2 with (a | a) | a
    · exact .inl a
    · exact .inr (.inl a)
    · exact .inr (.inr a)
  obtain ⟨hl, hrr⟩ := hlr
  obtain ⟨yy, hyy⟩ : ∃ y, tsS[i]? = some y := ⟨_, List.getElem?_eq_getElem (by rw [A.len]; exact hi)⟩
  rcases A.slot i x yy hx hyy with ⟨h0, _⟩ | ⟨_, k, hk⟩
  · omega
  subst hk
  have hkB := A.lk i _ hyy
  have hkl := heap_lt (A.sch.task i _ hyy)
  have hfz : w.frozen? ⟨g.m, 0, none⟩ = false := by simp [World.frozen?, A.mem.m]
  have hcm : w.cell? ⟨g.m, 0, none⟩ = some (.int .i64 h) := by simp [World.cell?, A.mem.m]
  -- what is left behind the step, whatever its function was
  have fin : ∀ (f : Value) (mm : Option Addr) (w2 w' : World), Did w g sw want v ts i f mm w2 → Sch w2 s t tsS steps → Only (fun j => j = s ∨ j = t ∨ j = k) w2 w' → Sch w' s t (tsS.set i (nextT k f mm)) (wrap64 (steps + 1)) →
      Picked B g s t sw want ts.length (cntA v ts) w w' ∧ ∃ k, Only (SOwn g s t i k) w w' ∧ ∃ (n : Nat) (y : TS), tsS[n]? = some (some y) ∧ y.k = k := by
    intro f mm w2 w' hD S2 O4 S4
    obtain ⟨v', h', y, k1, k2, K2, hsl, hO, hN⟩ := hD
    have K4 : AMem w' g sw v' h' (ts.set i y) := K2.kept fun j cb tb hj t1 t2 t3 => O4.block j (heap_lt hj) (by
      rintro (e | e | e)
      · exact ne_types hj S2.obj t1 e
      · exact ne_types hj S2.row t2 e
      · exact ne_types hj (S2.task i _ hyy) t3 e)
    have hOO : Only (SOwn g s t i k) w w' := (hO.mono fun j _ hj => .inl hj).andThen O4 fun j _ hj => .inr hj
    refine ⟨⟨v', h', ts.set i y, tsS.set i (nextT k f mm), _, ⟨k1, K4, S4, by rw [List.length_set, List.length_set, A.len], fun j a b ha hb => ?_, ⟨A.lo.1, A.lo.2.1, fun j hj => A.lo.2.2.1 j (by simpa using hj), A.lo.2.2.2.1, A.lo.2.2.2.2⟩, fun j b hb => ?_⟩, by simp, k2, hOO.below (fun j _ hj => ?_) hB⟩, k, hOO, i, _, hyy, rfl⟩
    · by_cases hji : j = i
      · subst hji
        rw [List.getElem?_set, if_pos rfl, if_pos hi] at ha
        rw [List.getElem?_set, if_pos rfl, if_pos (by rw [A.len]; exact hi)] at hb
        injection ha with ha
        injection hb with hb
        subst ha hb
        exact hsl k
      · rw [List.getElem?_set_ne (Ne.symm hji)] at ha hb
        exact A.slot j a b ha hb
    · by_cases hji : j = i
      · subst hji
        rw [List.getElem?_set, if_pos rfl, if_pos (by rw [A.len]; exact hi)] at hb
        injection hb with hb
        rcases hsl k with ⟨_, e⟩ | ⟨_, k', e⟩
        · rw [hb] at e; cases e
        · have : b.k = k := by
            rcases hN with rfl | ⟨F, c, rfl⟩
            · simp [nextT] at hb
            · simp [nextT] at hb
              rw [← hb]
          rw [this]; exact hkB
      · rw [List.getElem?_set_ne (Ne.symm hji)] at hb
        exact A.lk j b hb
    · rcases hj with (e | e | e | e) | e | e | e
      · rw [e]; exact A.lo.1
      · rw [e]; exact A.lo.2.1
      · rw [e]; exact (A.lo.2.2.1 i hi).1
      · rw [e]; exact (A.lo.2.2.1 i hi).2
      · rw [e]; exact A.lo.2.2.2.1
      · rw [e]; exact A.lo.2.2.2.2
      · rw [e]; exact hkB
  cases hs : x.set with
  | true =>
    rw [hs] at hyy
    simp only [if_true, Bool.true_or] at hyy
    have hst := step_does A.sch hyy (.inl ⟨rfl, rfl⟩) (fun a ha => by cases ha) (F := 26) (c := stC g i) rfl (enters_of Try.func26 (by kernel_rfl) rfl) (fun f m w2 => Did w g sw want v ts i f m w2 ∧ Sch w2 s t tsS steps) (fun w1 hT => by
      rcases hT with ⟨_, rfl⟩ | ⟨a, ha, _⟩
      · refine (do_set A.inv hx hl hs A.mem).mono ?_
        rintro e w2 ⟨f, mm, rfl, hO, hD⟩
        have S2 := sch_kept A.sch A.mem hx hO
        have hN : Nx f := by obtain ⟨_, _, _, _, _, _, _, _, h⟩ := hD; exact h
        exact ⟨f, mm, rfl, hN, S2, hD, S2⟩
      · cases ha)
    refine hst.mono ?_
    rintro e w' ⟨rfl, f, mm, w2, ⟨hD, S2⟩, _, O4, S4⟩
    exact ⟨rfl, fin f mm w2 w' hD S2 O4 S4⟩
  | false =>
    rw [hs] at hyy
    simp only [Bool.false_eq_true, if_false, Bool.false_or] at hyy
    cases hsw : sw with
    | true =>
      rw [hsw] at hyy
      simp only [if_true] at hyy
      have hm1 : h = -1 := by
        rcases A.inv.ml with ⟨_, e⟩ | ⟨e, _⟩
        · exact e
        · rw [hsw] at e; cases e
      have hst := step_does A.sch hyy (.inl ⟨rfl, rfl⟩) (fun a ha => by cases ha) (F := 24) (c := ldC g i) rfl (enters_of Try.func24 (by kernel_rfl) rfl) (fun f m w2 => Did w g sw want v ts i f m w2 ∧ Sch w2 s t tsS steps) (fun w1 hT => by
        rcases hT with ⟨_, rfl⟩ | ⟨a, ha, _⟩
        · refine (do_load A.inv hx hl hs (.inl hsw) (Only.refl _ _) (by rw [hsw, if_pos rfl, ← hsw, ← hm1]; exact A.mem)).mono ?_
          rintro e w2 ⟨f, mm, rfl, hO, hD⟩
          have S2 := sch_kept A.sch A.mem hx hO
          have hN : Nx f := by obtain ⟨_, _, _, _, _, _, _, _, h⟩ := hD; exact h
          exact ⟨f, mm, rfl, hN, S2, hD, S2⟩
        · cases ha)
      refine hst.mono ?_
      rintro e w' ⟨rfl, f, mm, w2, ⟨hD, S2⟩, _, O4, S4⟩
      rw [hsw] at fin hD
      exact ⟨rfl, fin f mm w2 w' hD S2 O4 S4⟩
    | false =>
      rw [hsw] at hyy
      simp only [Bool.false_eq_true, if_false] at hyy
      have hm1 : h = -1 := by
        rcases hrr with e | e | e
        · rw [hsw] at e; cases e
        · rw [hs] at e; cases e
        · exact e
      have hOw : Only (AOwn g i) w (w.setCell ⟨g.m, 0, none⟩ (.int .i64 (i : Int))) := (Only.refl _ _).setCell (p := ⟨g.m, 0, none⟩) (.inl (.inr (.inl rfl))) _
      have K1 : AMem (w.setCell ⟨g.m, 0, none⟩ (.int .i64 (i : Int))) g sw v (i : Int) ts := by
        have := A.mem.step hx hOw (y := x) (v' := v) (h' := (i : Int)) ((heap_set_other (ne_types A.mem.c A.mem.m (by decide)) _).trans A.mem.c) (by rw [heap_set A.mem.m]; rfl) ((heap_set_other (ne_types (A.mem.lf i x hx) A.mem.m (by decide)) _).trans (A.mem.lf i x hx)) ((heap_set_other (ne_types (A.mem.sn i x hx) A.mem.m (by decide)) _).trans (A.mem.sn i x hx))
        rw [set_at_same hx] at this
        exact this
      have hst := step_does A.sch hyy (.inr ⟨_, h, rfl, hcm, by rw [hm1]; rfl⟩) (fun a ha => by injection ha with ha; subst ha; exact hfz) (F := 24) (c := ldC g i) rfl (enters_of Try.func24 (by kernel_rfl) rfl) (fun f m w2 => Did w g sw want v ts i f m w2 ∧ Sch w2 s t tsS steps) (fun w1 hT => by
        rcases hT with ⟨ha, _⟩ | ⟨a, ha, rfl⟩
        · cases ha
        · injection ha with ha
          subst ha
          refine (do_load A.inv hx hl hs (.inr hm1) hOw (by rw [hsw]; simp only [Bool.false_eq_true, if_false]; rw [← hsw]; exact K1)).mono ?_
          rintro e w2 ⟨f, mm, rfl, hO, hD⟩
          have S2 := sch_kept (sch_kept A.sch A.mem hx hOw) K1 hx hO
          have hN : Nx f := by obtain ⟨_, _, _, _, _, _, _, _, h⟩ := hD; exact h
          exact ⟨f, mm, rfl, hN, S2, hD, S2⟩)
      refine hst.mono ?_
      rintro e w' ⟨rfl, f, mm, w2, ⟨hD, S2⟩, _, O4, S4⟩
      rw [hsw] at fin hD
      exact ⟨rfl, fin f mm w2 w' hD S2 O4 S4⟩
end Go.Proofs.Ytccliallljcjgaa
