/- A disk in memory: its block, its map, its files' blocks and rows; what stays of it while memory is written. -/
import Derived.Test.YtkelcmncjhnbgaaOnly
import Derived.Test.YtkelcmncjhnbgaaSixReader
import Derived.Test.YtkelcmncjhnbgaaDiskPlain
import Derived.Maps.OwnSet
import Derived.Maps.RangeWalk
import Derived.Lib.AppendStr
set_option linter.unusedVariables false
set_option maxRecDepth 100000
namespace Go.Proofs.Ytkelcmncjhnbgaa
open Go.RowKit Go.Maps Go.WideShapes Go.ChangeMaps

/-- A file in memory: what it is, its block, the slice of its bytes. -/
structure DE where
  f : DF
  fb : Nat
  v : Value
/-- The numbers in a disk's block. -/
structure DC where
  r0 : Int
  r1 : Int
  u0 : Int
  u1 : Int
  root : Int
  steps : Int
  left : Int
  down : Bool
def DC.cells (c : DC) (mb : Nat) : Array Value := #[.int .i64 c.r0, .int .i64 c.r1, .int .i64 c.u0, .int .i64 c.u1, .map (some mb), .int .i64 c.root, .int .i64 c.steps, .int .i64 c.left, .bool c.down]
def byteV (b : UInt8) : Value := .int .u8 (b.toNat : Int)
def FileAt (w : World) (e : DE) : Prop :=
  w.heap[e.fb]? = some (.cells #[.int .i64 e.f.t, e.v, .bool e.f.sure, .int .i64 (e.f.sb : Int)] 93 (0, 0)) ∧ w.ownsRow 0 5 1 e.v e.f.data.length (e.f.data.map byteV)
/-- How a pointer to a file reads: its block's number; nil: -1. -/
def ptrR : Value → Option (DataW Unit × List MemPlace)
  | .pointer none => some (.lit (.int .i64 (-1)), [])
  | .pointer (some ⟨b, 0, none⟩) => some (.lit (.int .i64 (b : Int)), [])
  | _ => none
theorem ptrR_inv {v : Value} {y : DataW Unit × List MemPlace} (h : ptrR v = some y) : (v = .pointer none ∧ y = (.lit (.int .i64 (-1)), [])) ∨ ∃ b : Nat, v = .pointer (some ⟨b, 0, none⟩) ∧ y = (.lit (.int .i64 (b : Int)), []) := by
  unfold ptrR at h
  split at h
  · cases h; exact .inl ⟨rfl, rfl⟩
  · cases h; exact .inr ⟨_, rfl, rfl⟩
  · cases h
def ent (e : DE) : Lit × DataW Unit := (.int .i64 e.f.n, .lit (.int .i64 (e.fb : Int)))
def FileMap (w : World) (mb : Nat) (es : List DE) : Prop := ∃ l, w.ownsMap Try.prog 3 ptrR mb es.length (.map l) ∧ l.Perm (es.map ent)
theorem law3 : Keyed Try.prog 3 := int_keyed Try.underlying3

structure Lay (S : Nat → Prop) (w : World) (d mb : Nat) (es : List DE) (c : DC) : Prop where
  obj : w.heap[d]? = some (.cells (c.cells mb) 81 (0, 0))
  map : FileMap w mb es
  file : ∀ e ∈ es, FileAt w e
  nod : (es.map (·.f.n)).Nodup
  sep : ∀ e ∈ es, ∀ e' ∈ es, e.f.n ≠ e'.f.n → e.fb ≠ e'.fb ∧ (e.v.ownBlock = none ∨ e.v.ownBlock ≠ e'.v.ownBlock)
  sd : S d
  sm : S mb
  sf : ∀ e ∈ es, S e.fb
  sr : ∀ e ∈ es, ∀ g, e.v.ownBlock = some g → S g

theorem FileMap.obj {w : World} {mb : Nat} {es : List DE} (h : FileMap w mb es) : ∃ x c, w.heap[mb]? = some (.map x c) := by
  obtain ⟨l, ⟨x, c, hb, _⟩, _⟩ := h
  exact ⟨x, c, hb⟩
theorem FileMap.kept {w w' : World} {mb : Nat} {es : List DE} (h : FileMap w mb es) (hk : w'.heap[mb]? = w.heap[mb]?) : FileMap w' mb es := by
  obtain ⟨l, ⟨x, c, hb, r⟩, hp⟩ := h
  exact ⟨l, ⟨x, c, hk.trans hb, r⟩, hp⟩
theorem ownsRow_row {w : World} {base : Nat} {e : TypeId} {size : Nat} {v : Value} {n : Nat} {xs : List Value} (h : w.ownsRow base e size v n xs) {g : Nat} (hg : v.ownBlock = some g) : ∃ cur, w.heap[g]? = some (.cells cur e (0, 0)) := by
  rcases h.2 with ⟨rfl, _⟩ | ⟨g', cap, cur, rfl, _, hgg, _⟩
  · cases hg
  · simp [Value.ownBlock] at hg
    subst hg
    exact ⟨cur, hgg⟩
theorem ownsRow_same {w w' : World} {base : Nat} {e : TypeId} {size : Nat} {v : Value} {n : Nat} {xs : List Value} (h : w.ownsRow base e size v n xs) (hk : ∀ g, v.ownBlock = some g → w'.heap[g]? = w.heap[g]?) : w'.ownsRow base e size v n xs := by
  refine ⟨h.1, ?_⟩
  rcases h.2 with hn | ⟨g, cap, cur, rfl, hb, hgg, rest⟩
  · exact .inl hn
  · exact .inr ⟨g, cap, cur, rfl, hb, (hk g rfl).trans hgg, rest⟩
theorem FileAt.kept {w w' : World} {e : DE} (h : FileAt w e) (hf : w'.heap[e.fb]? = w.heap[e.fb]?) (hr : ∀ g, e.v.ownBlock = some g → w'.heap[g]? = w.heap[g]?) : FileAt w' e :=
  ⟨hf.trans h.1, ownsRow_same h.2 hr⟩

namespace Lay
variable {S S' : Nat → Prop} {w w' : World} {d mb : Nat} {es : List DE} {c : DC}
theorem mono (h : Lay S w d mb es c) (hS : ∀ k, k < w.heap.size → S k → S' k) : Lay S' w d mb es c :=
  ⟨h.obj, h.map, h.file, h.nod, h.sep, hS _ (heap_lt h.obj) h.sd, hS _ (by obtain ⟨x, c, hx⟩ := h.map.obj; exact heap_lt hx) h.sm, fun e he => hS _ (heap_lt (h.file e he).1) (h.sf e he),
    fun e he g hg => hS _ (by obtain ⟨cur, hc⟩ := ownsRow_row (h.file e he).2 hg; exact heap_lt hc) (h.sr e he g hg)⟩
theorem tight (h : Lay S w d mb es c) : Lay (fun k => S k ∧ k < w.heap.size) w d mb es c := h.mono fun k hk hs => ⟨hs, hk⟩
/-- The disk stays while what isn't of it is written. -/
theorem kept (h : Lay S w d mb es c) (hk : ∀ k, k < w.heap.size → S k → w'.heap[k]? = w.heap[k]?) : Lay S w' d mb es c := by
  refine ⟨(hk d (heap_lt h.obj) h.sd).trans h.obj, h.map.kept (hk mb (by obtain ⟨x, c, hx⟩ := h.map.obj; exact heap_lt hx) h.sm), fun e he => (h.file e he).kept (hk _ (heap_lt (h.file e he).1) (h.sf e he)) fun g hg => hk g ?_ (h.sr e he g hg), h.nod, h.sep, h.sd, h.sm, h.sf, h.sr⟩
  obtain ⟨cur, hc⟩ := ownsRow_row (h.file e he).2 hg
  exact heap_lt hc
theorem only {T : Nat → Prop} (h : Lay S w d mb es c) (k : Only T w w') (hT : ∀ j, j < w.heap.size → S j → ¬ T j) : Lay S w' d mb es c := h.kept fun j hj hs => k.block j hj (hT j hj hs)
theorem drewN (h : Lay S w d mb es c) (n : Nat) : Lay S (w.drewN n) d mb es c := h.kept fun _ _ _ => rfl
theorem drew (h : Lay S w d mb es c) : Lay S w.drew d mb es c := h.kept fun _ _ _ => rfl
theorem alloc (h : Lay S w d mb es c) (o : Obj) : Lay S (w.alloc o) d mb es c := h.kept fun k hk _ => Below.heap_alloc w o k hk
/-! a cell of the disk's block -/
theorem ne_map (h : Lay S w d mb es c) : mb ≠ d := by
  rintro rfl
  obtain ⟨x, y, hx⟩ := h.map.obj
  rw [h.obj] at hx
  cases hx
theorem ne_file (h : Lay S w d mb es c) {e : DE} (he : e ∈ es) : e.fb ≠ d ∧ e.fb ≠ mb := by
  constructor
  · intro x
    have h1 := (h.file e he).1
    rw [x, h.obj] at h1
    simp at h1
  · intro x
    have h1 := (h.file e he).1
    obtain ⟨y, z, hy⟩ := h.map.obj
    rw [x, hy] at h1
    cases h1
theorem ne_row (h : Lay S w d mb es c) {e : DE} (he : e ∈ es) {g : Nat} (hg : e.v.ownBlock = some g) : g ≠ d ∧ g ≠ mb ∧ ∀ e' ∈ es, g ≠ e'.fb := by
  obtain ⟨cur, hc⟩ := ownsRow_row (h.file e he).2 hg
  refine ⟨?_, ?_, ?_⟩
  · rintro rfl
    rw [h.obj] at hc
    simp at hc
  · rintro rfl
    obtain ⟨y, z, hy⟩ := h.map.obj
    rw [hy] at hc
    cases hc
  · rintro e' he' rfl
    rw [(h.file e' he').1] at hc
    simp at hc
theorem setD (h : Lay S w d mb es c) (i : Nat) (u : Value) (c' : DC) (hc : (c.cells mb).setIfInBounds i u = c'.cells mb) : Lay S (w.setCell ⟨d, i, none⟩ u) d mb es c' :=
  ⟨by rw [heap_set h.obj, hc], h.map.kept (heap_set_other h.ne_map u), fun e he => (h.file e he).kept (heap_set_other (h.ne_file he).1 u) fun g hg => heap_set_other (h.ne_row he hg).1 u, h.nod, h.sep, h.sd, h.sm, h.sf, h.sr⟩
theorem cell (h : Lay S w d mb es c) (i : Nat) : w.cell? ⟨d, i, none⟩ = (c.cells mb)[i]? := by simp [World.cell?, h.obj]
theorem free (h : Lay S w d mb es c) (i : Nat) : w.frozen? ⟨d, i, none⟩ = false := by simp [World.frozen?, h.obj]
theorem fcell (h : Lay S w d mb es c) {e : DE} (he : e ∈ es) (i : Nat) : w.cell? ⟨e.fb, i, none⟩ = #[Value.int .i64 e.f.t, e.v, .bool e.f.sure, .int .i64 (e.f.sb : Int)][i]? := by simp [World.cell?, (h.file e he).1]
theorem ffree (h : Lay S w d mb es c) {e : DE} (he : e ∈ es) (i : Nat) : w.frozen? ⟨e.fb, i, none⟩ = false := by simp [World.frozen?, (h.file e he).1]
end Lay

/-- The list with one file turned. -/
def updE (n : Int) (e' : DE) (es : List DE) : List DE := es.map fun e => if e.f.n = n then e' else e
def findE (n : Int) : List DE → Option DE
  | [] => none
  | e :: r => if e.f.n = n then some e else findE n r
theorem findE_mem {n : Int} {e : DE} : ∀ {l : List DE}, findE n l = some e → e ∈ l ∧ e.f.n = n
  | [], h => by cases h
  | g :: r, h => by
    unfold findE at h
    split at h
    · cases h; exact ⟨by simp, by assumption⟩
    · obtain ⟨h1, h2⟩ := findE_mem h
      exact ⟨by simp [h1], h2⟩
theorem findE_none {n : Int} : ∀ {l : List DE}, findE n l = none → ∀ e ∈ l, e.f.n ≠ n
  | [], _, e, he => by cases he
  | g :: r, h, e, he => by
    unfold findE at h
    split at h
    · cases h
    · rcases List.mem_cons.1 he with rfl | he
      · assumption
      · exact findE_none h e he
theorem findE_L (n : Int) : ∀ l : List DE, findL n (l.map (·.f)) = (findE n l).map (·.f)
  | [] => rfl
  | e :: r => by
    simp only [List.map_cons, findL, findE]
    split
    · rfl
    · exact findE_L n r
theorem nod_eq {es : List DE} (hn : (es.map (·.f.n)).Nodup) {e e' : DE} (he : e ∈ es) (he' : e' ∈ es) (h : e.f.n = e'.f.n) : e = e' := by
  induction es with
  | nil => cases he
  | cons a r ih =>
    simp only [List.map_cons, List.nodup_cons] at hn
    rcases List.mem_cons.1 he with rfl | he1
    · rcases List.mem_cons.1 he' with rfl | he2
      · rfl
      · exact absurd (List.mem_map.2 ⟨e', he2, h.symm⟩) hn.1
    · rcases List.mem_cons.1 he' with rfl | he2
      · exact absurd (List.mem_map.2 ⟨e, he1, h⟩) hn.1
      · exact ih hn.2 he1 he2
theorem updE_n {n : Int} {e' : DE} (he' : e'.f.n = n) (es : List DE) : (updE n e' es).map (·.f.n) = es.map (·.f.n) := by
  unfold updE
  rw [List.map_map]
  apply List.map_congr_left
  intro e _
  simp only [Function.comp]
  split
  · rw [he']; exact Eq.symm (by assumption)
  · rfl
theorem updE_f {n : Int} {e e' : DE} {g : DF → DF} {es : List DE} (hn : (es.map (·.f.n)).Nodup) (he : findE n es = some e) (hg : e'.f = g e.f) : (updE n e' es).map (·.f) = updL n g (es.map (·.f)) := by
  unfold updE updL
  rw [List.map_map, List.map_map]
  apply List.map_congr_left
  intro x hx
  simp only [Function.comp]
  obtain ⟨h1, h2⟩ := findE_mem he
  by_cases hxn : x.f.n = n
  · rw [if_pos hxn, if_pos hxn, nod_eq hn hx h1 (by rw [hxn, h2]), hg]
  · rw [if_neg hxn, if_neg hxn]
theorem updE_mem {n : Int} {e' x : DE} {es : List DE} (h : x ∈ updE n e' es) : x = e' ∨ (x ∈ es ∧ x.f.n ≠ n) := by
  unfold updE at h
  obtain ⟨f, hf, rfl⟩ := List.mem_map.1 h
  by_cases e : f.f.n = n
  · rw [if_pos e]; exact .inl rfl
  · rw [if_neg e]; exact .inr ⟨hf, e⟩

/-- A file turned: its block and perhaps its row, in a world that is as it was but for these and what is new. -/
theorem Lay.turn {S S' : Nat → Prop} {w w' : World} {d mb : Nat} {es : List DE} {c : DC} (h : Lay S w d mb es c) {n : Int} {e e' : DE} (he : findE n es = some e) (hn : e'.f.n = n) (hb : e'.fb = e.fb)
    (hk : ∀ k, k < w.heap.size → k ≠ e.fb → e.v.ownBlock ≠ some k → w'.heap[k]? = w.heap[k]?) (hf : FileAt w' e') (hv : ∀ g, e'.v.ownBlock = some g → e.v.ownBlock = some g ∨ w.heap.size ≤ g)
    (hS : ∀ k, S k → S' k) (hS' : ∀ g, e'.v.ownBlock = some g → S' g) : Lay S' w' d mb (updE n e' es) c := by
  obtain ⟨hem, hen⟩ := findE_mem he
  have hrow : ∀ x ∈ es, ∀ g, x.v.ownBlock = some g → g < w.heap.size := fun x hx g hg => by
    obtain ⟨cur, hc⟩ := ownsRow_row (h.file x hx).2 hg
    exact heap_lt hc
  have hmb : mb < w.heap.size := by obtain ⟨x, y, hx⟩ := h.map.obj; exact heap_lt hx
  have hother : ∀ x ∈ es, x.f.n ≠ n → FileAt w' x := fun x hx hxn => by
    obtain ⟨h1, h2⟩ := h.sep e hem x hx (by rw [hen]; exact Ne.symm hxn)
    refine (h.file x hx).kept (hk _ (heap_lt (h.file x hx).1) (Ne.symm h1) fun y => (h.ne_row hem y).2.2 x hx rfl) fun g hg => hk g (hrow x hx g hg) (fun y => (h.ne_row hx hg).2.2 e hem y) fun y => ?_
    rcases h2 with h2 | h2
    · rw [h2] at y; cases y
    · exact h2 (y.trans hg.symm)
  refine ⟨(hk d (heap_lt h.obj) (Ne.symm (h.ne_file hem).1) fun y => (h.ne_row hem y).1 rfl).trans h.obj, ?_, ?_, ?_, ?_, hS _ h.sd, hS _ h.sm, ?_, ?_⟩
  · obtain ⟨l, hl, hp⟩ := h.map.kept (hk mb hmb (Ne.symm (h.ne_file hem).2) fun y => (h.ne_row hem y).2.1 rfl)
    refine ⟨l, by unfold updE; rw [List.length_map]; exact hl, ?_⟩
    have : (updE n e' es).map ent = es.map ent := by
      unfold updE
      rw [List.map_map]
      apply List.map_congr_left
      intro x hx
      simp only [Function.comp]
      by_cases hxn : x.f.n = n
      · rw [if_pos hxn, nod_eq h.nod hx hem (by rw [hxn, hen])]
        unfold ent
        rw [hn, hen, hb]
      · rw [if_neg hxn]
    rw [this]
    exact hp
  · intro x hx
    rcases updE_mem hx with rfl | ⟨hx1, hx2⟩
    · exact hf
    · exact hother x hx1 hx2
  · rw [updE_n hn]
    exact h.nod
  · intro x hx y hy hxy
    rcases updE_mem hx with rfl | ⟨hx1, hx2⟩
    · rcases updE_mem hy with rfl | ⟨hy1, hy2⟩
      · exact absurd rfl hxy
      · obtain ⟨h1, h2⟩ := h.sep e hem y hy1 (by rw [hen]; exact Ne.symm hy2)
        refine ⟨by rw [hb]; exact h1, ?_⟩
        cases hg : x.v.ownBlock with
        | none => exact .inl rfl
        | some g =>
          right
          intro z
          rcases hv g hg with a | a
          · rcases h2 with h2 | h2
            · rw [h2] at a; cases a
            · exact h2 (a.trans z)
          · have := hrow y hy1 g z.symm
            omega
    · rcases updE_mem hy with rfl | ⟨hy1, hy2⟩
      · obtain ⟨h1, h2⟩ := h.sep x hx1 e hem (by rw [hen]; exact hx2)
        refine ⟨by rw [hb]; exact h1, ?_⟩
        cases hg : x.v.ownBlock with
        | none => exact .inl rfl
        | some g =>
          right
          intro z
          rcases hv g z.symm with a | a
          · rcases h2 with h2 | h2
            · rw [h2] at hg; cases hg
            · exact h2 (hg.trans a.symm)
          · have := hrow x hx1 g hg
            omega
      · exact h.sep x hx1 y hy1 hxy
  · intro x hx
    rcases updE_mem hx with rfl | ⟨hx1, hx2⟩
    · rw [hb]; exact hS _ (h.sf e hem)
    · exact hS _ (h.sf x hx1)
  · intro x hx g hg
    rcases updE_mem hx with rfl | ⟨hx1, hx2⟩
    · exact hS' g hg
    · exact hS _ (h.sr x hx1 g hg)

/-! ### the map -/
theorem length_tight {w : World} {mb n : Nat} {l : List (Lit × DataW Unit)} (h : w.ownsMap Try.prog 3 ptrR mb n (.map l)) : w.ownsMap Try.prog 3 ptrR mb l.length (.map l) := by
  obtain ⟨es, clock, hb, F, hs, hD⟩ := h
  injection hD with hD
  refine ⟨es, clock, hb, F, ?_, by rw [hD]⟩
  rw [hD, length_sorted]
  simp
theorem nodup_keys {es : List DE} (hn : (es.map (·.f.n)).Nodup) : ((es.map ent).map (·.1)).Nodup := by
  rw [List.map_map]
  have : (es.map ((·.1) ∘ ent)) = (es.map (·.f.n)).map (Lit.int .i64) := by rw [List.map_map]; rfl
  rw [this]
  exact List.pairwise_map.2 (hn.imp fun hne h => hne (by injection h))
theorem sameKey_i64 (a b : Int) : (Lit.int .i64 a).sameKey (.int .i64 b) = decide (a = b) := by
  by_cases h : a = b
  · subst h
    rw [WideAt.sameKey_self (by simp [WideAt.IsKeyLit]), decide_eq_true rfl]
  · rw [decide_eq_false h]
    exact sameKey_ne fun e => h (by injection e)

/-- A pointer to a file that may be there. -/
def ptrE : Option DE → Value
  | none => .pointer none
  | some e => .pointer (some ⟨e.fb, 0, none⟩)
def delE (n : Int) (es : List DE) : List DE := es.filter fun e => decide (e.f.n ≠ n)
theorem delE_f (n : Int) (es : List DE) : (delE n es).map (·.f) = delL n (es.map (·.f)) := by
  unfold delE delL
  rw [List.filter_map]
  rfl
theorem atKey_files {l : List (Lit × DataW Unit)} {es : List DE} (hp : l.Perm (es.map ent)) (hn : (es.map (·.f.n)).Nodup) (n : Int) (z : DataW Unit) :
    (DataW.map l).atKey (.int .i64 n) z = match findE n es with | none => z | some e => .lit (.int .i64 (e.fb : Int)) := by
  have e0 : (DataW.map l).atKey (.int .i64 n) z = ((l.find? (fun p => p.1.sameKey (.int .i64 n))).map (·.2)).getD z := by
    simp only [DataW.atKey]
    generalize List.find? (fun p => p.1.sameKey (.int .i64 n)) l = o
    cases o <;> rfl
  rw [e0]
  cases hf : findE n es with
  | none =>
    rw [List.find?_eq_none.2]
    · rfl
    intro p hpl
    obtain ⟨e, he, rfl⟩ := List.mem_map.1 (hp.mem_iff.1 hpl)
    have := findE_none hf e he
    simp [ent, sameKey_i64, this]
  | some e =>
    obtain ⟨h1, h2⟩ := findE_mem hf
    have hm : ent e ∈ l := hp.mem_iff.2 (List.mem_map.2 ⟨e, h1, rfl⟩)
    cases hx : l.find? (fun p => p.1.sameKey (.int .i64 n)) with
    | none =>
      have := List.find?_eq_none.1 hx _ hm
      simp [ent, sameKey_i64, h2] at this
    | some p =>
      have hs := List.find?_some hx
      obtain ⟨e', he', rfl⟩ := List.mem_map.1 (hp.mem_iff.1 (List.mem_of_find?_eq_some hx))
      have hn' : e'.f.n = n := by simpa [ent, sameKey_i64] using hs
      rw [nod_eq hn he' h1 (by rw [hn', h2])]
      rfl
theorem zero60 (w : World) : (zeroValue 89).run Try.prog w = .ok (.pointer none) w := by kernel_rfl
theorem FileMap.look {w : World} {mb : Nat} {es : List DE} (h : FileMap w mb es) (hn : (es.map (·.f.n)).Nodup) {n : Int} (hw : (Lit.int .i64 n).wf = true) :
    (Instr.lookup 79 (.map (some mb)) (.int .i64 n) false).run Try.prog w = .ok (ptrE (findE n es)) w := by
  obtain ⟨l, hl, hp⟩ := h
  obtain ⟨v, ps, hrun, hv⟩ := hl.lookup law3 Try.underlying79 (zero60 w) (zd := .lit (.int .i64 (-1))) (zp := []) rfl (keyOf_int_mk Try.underlying3 hw)
  rw [hrun]
  rw [atKey_files hp hn] at hv
  rcases ptrR_inv hv with ⟨rfl, hy⟩ | ⟨b, rfl, hy⟩
  · cases hf : findE n es with
    | none => rfl
    | some e =>
      rw [hf] at hy
      injection hy with hy _
      injection hy with hy
      injection hy with _ hy
      exact absurd hy (by omega)
  · cases hf : findE n es with
    | none =>
      rw [hf] at hy
      injection hy with hy _
      injection hy with hy
      injection hy with _ hy
      exact absurd hy (by omega)
    | some e =>
      rw [hf] at hy
      injection hy with hy _
      injection hy with hy
      injection hy with _ hy
      obtain rfl : e.fb = b := by omega
      rfl
theorem files_put {w : World} {mb : Nat} {es : List DE} {l : List (Lit × DataW Unit)} {e : DE} (hp : l.Perm (es.map ent)) (hno : ∀ x ∈ es, x.f.n ≠ e.f.n)
    (h : w.ownsMap Try.prog 3 ptrR mb (es.length + 1) ((DataW.map l).put (.int .i64 e.f.n) (.lit (.int .i64 (e.fb : Int))))) : FileMap w mb (es ++ [e]) := by
  refine ⟨DataW.insert (.int .i64 e.f.n, .lit (.int .i64 (e.fb : Int))) (l.filter fun p => !p.1.sameKey (.int .i64 e.f.n)), by rw [List.length_append]; exact h, ?_⟩
  have hfl : (l.filter fun p => !p.1.sameKey (.int .i64 e.f.n)) = l := List.filter_eq_self.2 fun p hpl => by
    obtain ⟨x, hx, rfl⟩ := List.mem_map.1 (hp.mem_iff.1 hpl)
    simp [ent, sameKey_i64, hno x hx]
  rw [hfl, List.map_append]
  refine (insert_perm _ _).trans ?_
  refine (List.Perm.cons _ hp).trans ?_
  exact (List.perm_append_singleton (ent e) (es.map ent)).symm
theorem files_del {w : World} {mb m : Nat} {es : List DE} {l : List (Lit × DataW Unit)} {n : Int} (hp : l.Perm (es.map ent))
    (h : w.ownsMap Try.prog 3 ptrR mb m ((DataW.map l).del (.int .i64 n))) : FileMap w mb (delE n es) := by
  have h' : w.ownsMap Try.prog 3 ptrR mb m (.map (l.filter fun p => !p.1.sameKey (.int .i64 n))) := h
  have hpp : (l.filter fun p => !p.1.sameKey (.int .i64 n)).Perm ((delE n es).map ent) := by
    refine (hp.filter _).trans ?_
    rw [List.filter_map]
    unfold delE
    have : ((fun p : Lit × DataW Unit => !p.1.sameKey (.int .i64 n)) ∘ ent) = fun e => decide (e.f.n ≠ n) := by
      funext e
      simp [ent, sameKey_i64]
    rw [this]
  have := length_tight h'
  rw [hpp.length_eq, List.length_map] at this
  exact ⟨_, this, hpp⟩
end Go.Proofs.Ytkelcmncjhnbgaa
