/- SchedAdds: where the tasks that add lie, and what a step of one of them leaves. -/
import Derived.Test.YtccliallljcjgaaAdds3
import Derived.Test.YtccliallljcjgaaAddsPlain
set_option linter.unusedVariables false
namespace Go.Proofs.Ytccliallljcjgaa
open Go.RowKit

structure AG where
  bs : Nat
  cb : Nat
  mb : Nat
  c : Nat
  m : Nat
  lf : Nat → Nat
  sn : Nat → Nat
  ld : Nat → Nat
  st : Nat → Nat
def ldC (g : AG) (i : Nat) : Array Value := #[.pointer (some ⟨g.cb, 0, none⟩), .pointer (some ⟨g.sn i, 0, none⟩), .pointer (some ⟨g.st i, 0, none⟩)]
def stC (g : AG) (i : Nat) : Array Value := #[.pointer (some ⟨g.bs, 0, none⟩), .pointer (some ⟨g.cb, 0, none⟩), .pointer (some ⟨g.sn i, 0, none⟩), .pointer (some ⟨g.mb, 0, none⟩), .pointer (some ⟨g.st i, 0, none⟩), .pointer (some ⟨g.lf i, 0, none⟩), .pointer (some ⟨g.ld i, 0, none⟩)]
structure AMem (w : World) (g : AG) (sw : Bool) (v h : Int) (ts : List AT) : Prop where
  bs : w.heap[g.bs]? = some (.cells #[.bool sw] 4 (0, 0))
  cb : w.heap[g.cb]? = some (.cells #[.pointer (some ⟨g.c, 0, none⟩)] 54 (0, 0))
  mb : w.heap[g.mb]? = some (.cells #[.pointer (some ⟨g.m, 0, none⟩)] 56 (0, 0))
  c : w.heap[g.c]? = some (.cells #[.int .i64 v, .int .i64 v] 86 (0, 0))
  m : w.heap[g.m]? = some (.cells #[.int .i64 h] 83 (0, 0))
  lf : ∀ (i : Nat) (x : AT), ts[i]? = some x → w.heap[g.lf i]? = some (.cells #[.int .i64 (x.l : Int)] 3 (0, 0))
  sn : ∀ (i : Nat) (x : AT), ts[i]? = some x → w.heap[g.sn i]? = some (.cells #[.int .i64 x.seen] 3 (0, 0))
  ld : ∀ i, i < ts.length → w.heap[g.ld i]? = some (.cells #[.func (.func 24) #[] (ldC g i)] 58 (0, 0))
  st : ∀ i, i < ts.length → w.heap[g.st i]? = some (.cells #[.func (.func 26) #[] (stC g i)] 58 (0, 0))
  inj : ∀ i j, i < ts.length → j < ts.length → (i ≠ j → g.lf i ≠ g.lf j ∧ g.sn i ≠ g.sn j) ∧ g.lf i ≠ g.sn j
/-- The blocks that a step of task i writes. -/
def AOwn (g : AG) (i : Nat) (j : Nat) : Prop := j = g.c ∨ j = g.m ∨ j = g.lf i ∨ j = g.sn i
namespace AMem
variable {w w' : World} {g : AG} {sw : Bool} {v h : Int} {ts : List AT} {i : Nat} {x : AT}
theorem kept (K : AMem w g sw v h ts) (hk : ∀ (j : Nat) (cb : Array Value) (tb : TypeId), w.heap[j]? = some (.cells cb tb (0, 0)) → tb ≠ 81 → tb ≠ 78 → tb ≠ 60 → w'.heap[j]? = w.heap[j]?) : AMem w' g sw v h ts :=
  ⟨(hk _ _ _ K.bs (by decide) (by decide) (by decide)).trans K.bs, (hk _ _ _ K.cb (by decide) (by decide) (by decide)).trans K.cb, (hk _ _ _ K.mb (by decide) (by decide) (by decide)).trans K.mb, (hk _ _ _ K.c (by decide) (by decide) (by decide)).trans K.c, (hk _ _ _ K.m (by decide) (by decide) (by decide)).trans K.m,
    fun i x hx => (hk _ _ _ (K.lf i x hx) (by decide) (by decide) (by decide)).trans (K.lf i x hx), fun i x hx => (hk _ _ _ (K.sn i x hx) (by decide) (by decide) (by decide)).trans (K.sn i x hx),
    fun i hi => (hk _ _ _ (K.ld i hi) (by decide) (by decide) (by decide)).trans (K.ld i hi), fun i hi => (hk _ _ _ (K.st i hi) (by decide) (by decide) (by decide)).trans (K.st i hi), K.inj⟩
theorem below (K : AMem w g sw v h ts) (k : Below w.heap.size w w') : AMem w' g sw v h ts := K.kept fun j _ _ hj _ _ _ => k.block j (heap_lt hj)
/-- A task's step. -/
theorem step (K : AMem w g sw v h ts) (hx : ts[i]? = some x) (hO : Only (AOwn g i) w w') {v' h' : Int} {y : AT} (c' : w'.heap[g.c]? = some (.cells #[.int .i64 v', .int .i64 v'] 86 (0, 0))) (m' : w'.heap[g.m]? = some (.cells #[.int .i64 h'] 83 (0, 0)))
    (l' : w'.heap[g.lf i]? = some (.cells #[.int .i64 (y.l : Int)] 3 (0, 0))) (s' : w'.heap[g.sn i]? = some (.cells #[.int .i64 y.seen] 3 (0, 0))) : AMem w' g sw v' h' (ts.set i y) := by
  have hi : i < ts.length := (List.getElem?_eq_some_iff.1 hx).1
  have hl := K.lf i x hx
  have hs := K.sn i x hx
  have oth : ∀ (j : Nat) (cb : Array Value) (tb : TypeId), w.heap[j]? = some (.cells cb tb (0, 0)) → tb ≠ 86 → tb ≠ 83 → tb ≠ 3 → w'.heap[j]? = some (.cells cb tb (0, 0)) := fun j cb tb hj h1 h2 h3 =>
    (hO.block j (heap_lt hj) (by
      rintro (e | e | e | e)
      · exact ne_types hj K.c h1 e
      · exact ne_types hj K.m h2 e
      · exact ne_types hj hl h3 e
      · exact ne_types hj hs h3 e)).trans hj
  refine ⟨oth _ _ _ K.bs (by decide) (by decide) (by decide), oth _ _ _ K.cb (by decide) (by decide) (by decide), oth _ _ _ K.mb (by decide) (by decide) (by decide), c', m', fun j z hz => ?_, fun j z hz => ?_, fun j hj => ?_, fun j hj => ?_, fun a b ha hb => K.inj a b (by simpa using ha) (by simpa using hb)⟩
  · by_cases hji : j = i
    · subst hji
      rw [List.getElem?_set, if_pos rfl, if_pos hi] at hz
      injection hz with hz
      subst hz
      exact l'
    · rw [List.getElem?_set_ne (Ne.symm hji)] at hz
      have hj : j < ts.length := (List.getElem?_eq_some_iff.1 hz).1
      have h1 := K.lf j z hz
      refine (hO.block _ (heap_lt h1) ?_).trans h1
      rintro (e | e | e | e)
      · exact ne_types h1 K.c (by decide) e
      · exact ne_types h1 K.m (by decide) e
      · exact ((K.inj j i hj hi).1 hji).1 e
      · exact (K.inj j i hj hi).2 e
  · by_cases hji : j = i
    · subst hji
      rw [List.getElem?_set, if_pos rfl, if_pos hi] at hz
      injection hz with hz
      subst hz
      exact s'
    · rw [List.getElem?_set_ne (Ne.symm hji)] at hz
      have hj : j < ts.length := (List.getElem?_eq_some_iff.1 hz).1
      have h1 := K.sn j z hz
      refine (hO.block _ (heap_lt h1) ?_).trans h1
      rintro (e | e | e | e)
      · exact ne_types h1 K.c (by decide) e
      · exact ne_types h1 K.m (by decide) e
      · exact (K.inj i j hi hj).2 e.symm
      · exact ((K.inj j i hj hi).1 hji).2 e
  · rw [List.length_set] at hj
    exact oth _ _ _ (K.ld j hj) (by decide) (by decide) (by decide)
  · rw [List.length_set] at hj
    exact oth _ _ _ (K.st j hj) (by decide) (by decide) (by decide)
end AMem
/-- What stands in a task's slot. -/
def SlotOk (g : AG) (sw : Bool) (i : Nat) (x : AT) (y : Option TS) : Prop :=
  (x.l = 0 ∧ y = none) ∨ (0 < x.l ∧ ∃ k, y = some ⟨k, if x.set then .func (.func 26) #[] (stC g i) else .func (.func 24) #[] (ldC g i), if x.set || sw then none else some ⟨g.m, 0, none⟩⟩)
/-- What a step of task i leaves, in the tasks' own memory, and what it answers. -/
def Did (w1 : World) (g : AG) (sw : Bool) (want v : Int) (ts : List AT) (i : Nat) (f : Value) (mm : Option Addr) (w3 : World) : Prop :=
  ∃ v' h' y, AInv sw want v' h' (ts.set i y) ∧ cntA v' (ts.set i y) + 1 ≤ cntA v ts ∧ AMem w3 g sw v' h' (ts.set i y) ∧ (∀ k, SlotOk g sw i y (nextT k f mm)) ∧ Only (AOwn g i) w1 w3 ∧ Nx f
/-- A task that reads. -/
theorem do_load {w1 w : World} {g : AG} {sw : Bool} {want v h : Int} {ts : List AT} {i : Nat} {x : AT} (k : AInv sw want v h ts) (hx : ts[i]? = some x) (hl : 0 < x.l) (hs : x.set = false) (hr : sw = true ∨ h = -1)
    (hO : Only (AOwn g i) w1 w) (K : AMem w g sw v (if sw then -1 else (i : Int)) ts) :
    Calls Try.prog 24 (#[.int .i64 (i : Int)] ++ ldC g i) w fun e w' => ∃ f mm, e = .returned (.agg #[f, .pointer mm]) ∧ Only (AOwn g i) w w' ∧ Did w1 g sw want v ts i f mm w' := by
  have hi : i < ts.length := (List.getElem?_eq_some_iff.1 hx).1
  refine (adds_load K.cb K.c (K.sn i x hx) (K.st i hi) (i : Int)).mono ?_
  rintro e w' ⟨rfl, hsn, ho⟩
  have hO2 : Only (AOwn g i) w w' := ho.mono fun j _ hj => .inr (.inr (.inr hj))
  obtain ⟨k1, k2⟩ := k.load hx hl hs hr
  refine ⟨_, none, rfl, hO2, v, _, _, k1, k2, K.step hx hO2 ?_ ?_ ?_ hsn, fun kk => .inr ⟨hl, kk, ?_⟩, hO.trans hO2, .inr ⟨_, _, rfl⟩⟩
  · exact (ho.block _ (heap_lt K.c) (ne_types K.c (K.sn i x hx) (by decide))).trans K.c
  · exact (ho.block _ (heap_lt K.m) (ne_types K.m (K.sn i x hx) (by decide))).trans K.m
  · exact (ho.block _ (heap_lt (K.lf i x hx)) (K.inj i i hi hi).2).trans (K.lf i x hx)
  · simp [nextT]
/-- A task that sets. -/
theorem do_set {w : World} {g : AG} {sw : Bool} {want v h : Int} {ts : List AT} {i : Nat} {x : AT} (k : AInv sw want v h ts) (hx : ts[i]? = some x) (hl : 0 < x.l) (hs : x.set = true) (K : AMem w g sw v h ts) :
    Calls Try.prog 26 (#[.int .i64 (i : Int)] ++ stC g i) w fun e w' => ∃ f mm, e = .returned (.agg #[f, .pointer mm]) ∧ Only (AOwn g i) w w' ∧ Did w g sw want v ts i f mm w' := by
  have hi : i < ts.length := (List.getElem?_eq_some_iff.1 hx).1
  have hm := List.mem_of_getElem? hx
  have hi16 : i < 16 := by have := k.len; omega
  have hv : 0 ≤ v ∧ v < 1000 := by have := k.v0; have := k.sum; have := k.w1; omega
  have hl20 := k.l20 x hm
  have hl1 : ((x.l - 1 : Nat) : Int) = (x.l : Int) - 1 := by omega
  have hsn := k.sn x hm
  have oS : ∀ {w' : World}, Only (fun j => j = g.c ∨ j = g.m ∨ j = g.lf i) w w' → Only (AOwn g i) w w' := fun ho => ho.mono fun j _ hj => by
    rcases hj with a | a | a
    · exact .inl a
    · exact .inr (.inl a)
    · exact .inr (.inr (.inl a))
  have snk : ∀ {w' : World}, Only (fun j => j = g.c ∨ j = g.m ∨ j = g.lf i) w w' → w'.heap[g.sn i]? = some (.cells #[.int .i64 x.seen] 3 (0, 0)) := fun ho => (ho.block _ (heap_lt (K.sn i x hx)) (by
    rintro (a | a | a)
    · exact ne_types (K.sn i x hx) K.c (by decide) a
    · exact ne_types (K.sn i x hx) K.m (by decide) a
    · exact (K.inj i i hi hi).2 a.symm)).trans (K.sn i x hx)
  have SM := fun (u hh : Int) (hu : x.seen = u) (hhh : h = hh) => (⟨K.bs, K.cb, K.c, by rw [← hu]; exact K.sn i x hx, K.mb, by rw [← hhh]; exact K.m, K.lf i x hx, K.ld i hi⟩ : SetM w g.bs g.cb g.c (g.sn i) g.mb g.m (g.lf i) (g.ld i) sw v v u hh (x.l : Int) (.func (.func 24) #[] (ldC g i)))
  rcases k.ml with ⟨e, eh⟩ | ⟨e, hh⟩
  · subst e
    by_cases hsv : x.seen = v
    · obtain ⟨k1, k2⟩ := k.add hx hl hs hsv (fun e => by cases e)
      by_cases h1 : x.l = 1
      · refine (adds_set_hit_last (st := g.st i) (SM v (-1) hsv eh) hi16 hv (by rw [h1]; rfl)).mono ?_
        rintro e w' ⟨rfl, a, b, c, ho⟩
        refine ⟨_, none, rfl, oS ho, v + 1, -1, ⟨x.l - 1, v, false⟩, k1, k2, K.step hx (oS ho) a b (by rw [c, h1]; rfl) (by rw [← hsv]; exact snk ho), fun kk => .inl ⟨by simp only; omega, rfl⟩, oS ho, .inl rfl⟩
      · refine (adds_set_hit (st := g.st i) (SM v (-1) hsv eh) hi16 hv (by omega)).mono ?_
        rintro e w' ⟨rfl, a, b, c, ho⟩
        refine ⟨_, none, rfl, oS ho, v + 1, -1, ⟨x.l - 1, v, false⟩, k1, k2, K.step hx (oS ho) a b (by rw [c, hl1]) (by rw [← hsv]; exact snk ho), fun kk => .inr ⟨by simp only; omega, kk, rfl⟩, oS ho, .inr ⟨_, _, rfl⟩⟩
    · obtain ⟨k1, k2⟩ := k.miss hx hl hs hsv
      refine (adds_set_miss (st := g.st i) (SM x.seen (-1) rfl eh) hi16 hv (by omega) (by omega) (fun e => hsv e.symm)).mono ?_
      rintro e w' ⟨rfl, a, b, c, ho⟩
      refine ⟨_, none, rfl, oS ho, v, -1, { x with set := false }, k1, k2, K.step hx (oS ho) a b c (snk ho), fun kk => .inr ⟨hl, kk, rfl⟩, oS ho, .inr ⟨_, _, rfl⟩⟩
  · subst e
    obtain ⟨hhi, hsv⟩ : h = (i : Int) ∧ x.seen = v := by
      rcases hh with ⟨_, hno⟩ | ⟨j, y, e2, hy, hys, hyv, hno⟩
      · have := hno x hm
        rw [hs] at this
        cases this
      · by_cases hji : i = j
        · subst hji
          rw [hx] at hy
          injection hy with hy
          subst hy
          exact ⟨e2, hyv⟩
        · have := hno i x hji hx
          rw [hs] at this
          cases this
    obtain ⟨k1, k2⟩ := k.add hx hl hs hsv (fun _ => hhi)
    by_cases h1 : x.l = 1
    · refine (adds_set_lock_last (st := g.st i) (SM v i hsv hhi) hi16 hv (by rw [h1]; rfl)).mono ?_
      rintro e w' ⟨rfl, a, b, c, ho⟩
      refine ⟨_, none, rfl, oS ho, v + 1, -1, ⟨x.l - 1, v, false⟩, k1, k2, K.step hx (oS ho) a b (by rw [c, h1]; rfl) (by rw [← hsv]; exact snk ho), fun kk => .inl ⟨by simp only; omega, rfl⟩, oS ho, .inl rfl⟩
    · refine (adds_set_lock (st := g.st i) (SM v i hsv hhi) hi16 hv (by omega)).mono ?_
      rintro e w' ⟨rfl, a, b, c, ho⟩
      refine ⟨_, some ⟨g.m, 0, none⟩, rfl, oS ho, v + 1, -1, ⟨x.l - 1, v, false⟩, k1, k2, K.step hx (oS ho) a b (by rw [c, hl1]) (by rw [← hsv]; exact snk ho), fun kk => .inr ⟨by simp only; omega, kk, rfl⟩, oS ho, .inr ⟨_, _, rfl⟩⟩
end Go.Proofs.Ytccliallljcjgaa
