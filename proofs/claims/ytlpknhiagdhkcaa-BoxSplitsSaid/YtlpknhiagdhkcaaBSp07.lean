/- Texts put together: DiskLay, DiskSmall, DiskStep, DiskFile, DiskIs, DiskDrop, DiskOut -/
import Derived.Test.YtlpknhiagdhkcaaBSp00
import Derived.Test.YtlpknhiagdhkcaaBSp02
import Derived.Test.YtlpknhiagdhkcaaBSp06
import Derived.Maps.OwnSet
import Derived.Maps.RangeWalk
import Derived.Lib.AppendStr
import Derived.StillTailTactics
import Derived.RegionTactic
import Derived.Lib.MinMax
import Derived.Laws.BytesArg
/- A disk in memory: its block, its map, its files' blocks and rows; what stays of it while memory is written. -/
set_option linter.unusedVariables false
set_option maxRecDepth 100000
namespace Go.Proofs.Ytlpknhiagdhkcaa
open Go.RowKit Go.Maps Go.WideShapes Go.ChangeMaps

/-- A file in memory: what it is, its block, the slice of its bytes. -/
structure DE where
  f : DF
  fb : Nat
  v : Value
/-- The numbers in a disk's block. -/
structure DC where
  r0 : Int
  r1 : Int
  u0 : Int
  u1 : Int
  root : Int
  steps : Int
  left : Int
  down : Bool
def DC.cells (c : DC) (mb : Nat) : Array Value := #[.int .i64 c.r0, .int .i64 c.r1, .int .i64 c.u0, .int .i64 c.u1, .map (some mb), .int .i64 c.root, .int .i64 c.steps, .int .i64 c.left, .bool c.down]
def byteV (b : UInt8) : Value := .int .u8 (b.toNat : Int)
def FileAt (w : World) (e : DE) : Prop :=
  w.heap[e.fb]? = some (.cells #[.int .i64 e.f.t, e.v, .bool e.f.sure, .int .i64 (e.f.sb : Int)] 109 (0, 0)) ∧ w.ownsRow 0 5 1 e.v e.f.data.length (e.f.data.map byteV)
/-- How a pointer to a file reads: its block's number; nil: -1. -/
def ptrR : Value → Option (DataW Unit × List MemPlace)
  | .pointer none => some (.lit (.int .i64 (-1)), [])
  | .pointer (some ⟨b, 0, none⟩) => some (.lit (.int .i64 (b : Int)), [])
  | _ => none
theorem ptrR_inv {v : Value} {y : DataW Unit × List MemPlace} (h : ptrR v = some y) : (v = .pointer none ∧ y = (.lit (.int .i64 (-1)), [])) ∨ ∃ b : Nat, v = .pointer (some ⟨b, 0, none⟩) ∧ y = (.lit (.int .i64 (b : Int)), []) := by
  unfold ptrR at h
  split at h
  · cases h; exact .inl ⟨rfl, rfl⟩
  · cases h; exact .inr ⟨_, rfl, rfl⟩
  · cases h
def ent (e : DE) : Lit × DataW Unit := (.int .i64 e.f.n, .lit (.int .i64 (e.fb : Int)))
def FileMap (w : World) (mb : Nat) (es : List DE) : Prop := ∃ l, w.ownsMap Try.prog 3 ptrR mb es.length (.map l) ∧ l.Perm (es.map ent)
theorem law3 : Keyed Try.prog 3 := int_keyed Try.underlying3

structure Lay (S : Nat → Prop) (w : World) (d mb : Nat) (es : List DE) (c : DC) : Prop where
  obj : w.heap[d]? = some (.cells (c.cells mb) 100 (0, 0))
  map : FileMap w mb es
  file : ∀ e ∈ es, FileAt w e
  nod : (es.map (·.f.n)).Nodup
  sep : ∀ e ∈ es, ∀ e' ∈ es, e.f.n ≠ e'.f.n → e.fb ≠ e'.fb ∧ (e.v.ownBlock = none ∨ e.v.ownBlock ≠ e'.v.ownBlock)
  sd : S d
  sm : S mb
  sf : ∀ e ∈ es, S e.fb
  sr : ∀ e ∈ es, ∀ g, e.v.ownBlock = some g → S g

theorem FileMap.obj {w : World} {mb : Nat} {es : List DE} (h : FileMap w mb es) : ∃ x c, w.heap[mb]? = some (.map x c) := by
  obtain ⟨l, ⟨x, c, hb, _⟩, _⟩ := h
  exact ⟨x, c, hb⟩
theorem FileMap.kept {w w' : World} {mb : Nat} {es : List DE} (h : FileMap w mb es) (hk : w'.heap[mb]? = w.heap[mb]?) : FileMap w' mb es := by
  obtain ⟨l, ⟨x, c, hb, r⟩, hp⟩ := h
  exact ⟨l, ⟨x, c, hk.trans hb, r⟩, hp⟩
theorem ownsRow_row {w : World} {base : Nat} {e : TypeId} {size : Nat} {v : Value} {n : Nat} {xs : List Value} (h : w.ownsRow base e size v n xs) {g : Nat} (hg : v.ownBlock = some g) : ∃ cur, w.heap[g]? = some (.cells cur e (0, 0)) := by
  rcases h.2 with ⟨rfl, _⟩ | ⟨g', cap, cur, rfl, _, hgg, _⟩
  · cases hg
  · simp [Value.ownBlock] at hg
    subst hg
    exact ⟨cur, hgg⟩
theorem ownsRow_same {w w' : World} {base : Nat} {e : TypeId} {size : Nat} {v : Value} {n : Nat} {xs : List Value} (h : w.ownsRow base e size v n xs) (hk : ∀ g, v.ownBlock = some g → w'.heap[g]? = w.heap[g]?) : w'.ownsRow base e size v n xs := by
  refine ⟨h.1, ?_⟩
  rcases h.2 with hn | ⟨g, cap, cur, rfl, hb, hgg, rest⟩
  · exact .inl hn
  · exact .inr ⟨g, cap, cur, rfl, hb, (hk g rfl).trans hgg, rest⟩
theorem FileAt.kept {w w' : World} {e : DE} (h : FileAt w e) (hf : w'.heap[e.fb]? = w.heap[e.fb]?) (hr : ∀ g, e.v.ownBlock = some g → w'.heap[g]? = w.heap[g]?) : FileAt w' e :=
  ⟨hf.trans h.1, ownsRow_same h.2 hr⟩

namespace Lay
variable {S S' : Nat → Prop} {w w' : World} {d mb : Nat} {es : List DE} {c : DC}
theorem mono (h : Lay S w d mb es c) (hS : ∀ k, k < w.heap.size → S k → S' k) : Lay S' w d mb es c :=
  ⟨h.obj, h.map, h.file, h.nod, h.sep, hS _ (heap_lt h.obj) h.sd, hS _ (by obtain ⟨x, c, hx⟩ := h.map.obj; exact heap_lt hx) h.sm, fun e he => hS _ (heap_lt (h.file e he).1) (h.sf e he),
    fun e he g hg => hS _ (by obtain ⟨cur, hc⟩ := ownsRow_row (h.file e he).2 hg; exact heap_lt hc) (h.sr e he g hg)⟩
theorem tight (h : Lay S w d mb es c) : Lay (fun k => S k ∧ k < w.heap.size) w d mb es c := h.mono fun k hk hs => ⟨hs, hk⟩
/-- The disk stays while what isn't of it is written. -/
theorem kept (h : Lay S w d mb es c) (hk : ∀ k, k < w.heap.size → S k → w'.heap[k]? = w.heap[k]?) : Lay S w' d mb es c := by
  refine ⟨(hk d (heap_lt h.obj) h.sd).trans h.obj, h.map.kept (hk mb (by obtain ⟨x, c, hx⟩ := h.map.obj; exact heap_lt hx) h.sm), fun e he => (h.file e he).kept (hk _ (heap_lt (h.file e he).1) (h.sf e he)) fun g hg => hk g ?_ (h.sr e he g hg), h.nod, h.sep, h.sd, h.sm, h.sf, h.sr⟩
  obtain ⟨cur, hc⟩ := ownsRow_row (h.file e he).2 hg
  exact heap_lt hc
theorem only {T : Nat → Prop} (h : Lay S w d mb es c) (k : Only T w w') (hT : ∀ j, j < w.heap.size → S j → ¬ T j) : Lay S w' d mb es c := h.kept fun j hj hs => k.block j hj (hT j hj hs)
theorem drewN (h : Lay S w d mb es c) (n : Nat) : Lay S (w.drewN n) d mb es c := h.kept fun _ _ _ => rfl
theorem drew (h : Lay S w d mb es c) : Lay S w.drew d mb es c := h.kept fun _ _ _ => rfl
theorem alloc (h : Lay S w d mb es c) (o : Obj) : Lay S (w.alloc o) d mb es c := h.kept fun k hk _ => Below.heap_alloc w o k hk
/-! a cell of the disk's block -/
theorem ne_map (h : Lay S w d mb es c) : mb ≠ d := by
  rintro rfl
  obtain ⟨x, y, hx⟩ := h.map.obj
  rw [h.obj] at hx
  cases hx
theorem ne_file (h : Lay S w d mb es c) {e : DE} (he : e ∈ es) : e.fb ≠ d ∧ e.fb ≠ mb := by
  constructor
  · intro x
    have h1 := (h.file e he).1
    rw [x, h.obj] at h1
    simp at h1
  · intro x
    have h1 := (h.file e he).1
    obtain ⟨y, z, hy⟩ := h.map.obj
    rw [x, hy] at h1
    cases h1
theorem ne_row (h : Lay S w d mb es c) {e : DE} (he : e ∈ es) {g : Nat} (hg : e.v.ownBlock = some g) : g ≠ d ∧ g ≠ mb ∧ ∀ e' ∈ es, g ≠ e'.fb := by
  obtain ⟨cur, hc⟩ := ownsRow_row (h.file e he).2 hg
  refine ⟨?_, ?_, ?_⟩
  · rintro rfl
    rw [h.obj] at hc
    simp at hc
  · rintro rfl
    obtain ⟨y, z, hy⟩ := h.map.obj
    rw [hy] at hc
    cases hc
  · rintro e' he' rfl
    rw [(h.file e' he').1] at hc
    simp at hc
theorem setD (h : Lay S w d mb es c) (i : Nat) (u : Value) (c' : DC) (hc : (c.cells mb).setIfInBounds i u = c'.cells mb) : Lay S (w.setCell ⟨d, i, none⟩ u) d mb es c' :=
  ⟨by rw [heap_set h.obj, hc], h.map.kept (heap_set_other h.ne_map u), fun e he => (h.file e he).kept (heap_set_other (h.ne_file he).1 u) fun g hg => heap_set_other (h.ne_row he hg).1 u, h.nod, h.sep, h.sd, h.sm, h.sf, h.sr⟩
theorem cell (h : Lay S w d mb es c) (i : Nat) : w.cell? ⟨d, i, none⟩ = (c.cells mb)[i]? := by simp [World.cell?, h.obj]
theorem free (h : Lay S w d mb es c) (i : Nat) : w.frozen? ⟨d, i, none⟩ = false := by simp [World.frozen?, h.obj]
theorem fcell (h : Lay S w d mb es c) {e : DE} (he : e ∈ es) (i : Nat) : w.cell? ⟨e.fb, i, none⟩ = #[Value.int .i64 e.f.t, e.v, .bool e.f.sure, .int .i64 (e.f.sb : Int)][i]? := by simp [World.cell?, (h.file e he).1]
theorem ffree (h : Lay S w d mb es c) {e : DE} (he : e ∈ es) (i : Nat) : w.frozen? ⟨e.fb, i, none⟩ = false := by simp [World.frozen?, (h.file e he).1]
end Lay

/-- The list with one file turned. -/
def updE (n : Int) (e' : DE) (es : List DE) : List DE := es.map fun e => if e.f.n = n then e' else e
def findE (n : Int) : List DE → Option DE
  | [] => none
  | e :: r => if e.f.n = n then some e else findE n r
theorem findE_mem {n : Int} {e : DE} : ∀ {l : List DE}, findE n l = some e → e ∈ l ∧ e.f.n = n
  | [], h => by cases h
  | g :: r, h => by
    unfold findE at h
    split at h
    · cases h; exact ⟨by simp, by assumption⟩
    · obtain ⟨h1, h2⟩ := findE_mem h
      exact ⟨by simp [h1], h2⟩
theorem findE_none {n : Int} : ∀ {l : List DE}, findE n l = none → ∀ e ∈ l, e.f.n ≠ n
  | [], _, e, he => by cases he
  | g :: r, h, e, he => by
    unfold findE at h
    split at h
    · cases h
    · rcases List.mem_cons.1 he with rfl | he
      · assumption
      · exact findE_none h e he
theorem findE_L (n : Int) : ∀ l : List DE, findL n (l.map (·.f)) = (findE n l).map (·.f)
  | [] => rfl
  | e :: r => by
    simp only [List.map_cons, findL, findE]
    split
    · rfl
    · exact findE_L n r
theorem nod_eq {es : List DE} (hn : (es.map (·.f.n)).Nodup) {e e' : DE} (he : e ∈ es) (he' : e' ∈ es) (h : e.f.n = e'.f.n) : e = e' := by
  induction es with
  | nil => cases he
  | cons a r ih =>
    simp only [List.map_cons, List.nodup_cons] at hn
    rcases List.mem_cons.1 he with rfl | he1
    · rcases List.mem_cons.1 he' with rfl | he2
      · rfl
      · exact absurd (List.mem_map.2 ⟨e', he2, h.symm⟩) hn.1
    · rcases List.mem_cons.1 he' with rfl | he2
      · exact absurd (List.mem_map.2 ⟨e, he1, h⟩) hn.1
      · exact ih hn.2 he1 he2
theorem updE_n {n : Int} {e' : DE} (he' : e'.f.n = n) (es : List DE) : (updE n e' es).map (·.f.n) = es.map (·.f.n) := by
  unfold updE
  rw [List.map_map]
  apply List.map_congr_left
  intro e _
  simp only [Function.comp]
  split
  · rw [he']; exact Eq.symm (by assumption)
  · rfl
theorem updE_f {n : Int} {e e' : DE} {g : DF → DF} {es : List DE} (hn : (es.map (·.f.n)).Nodup) (he : findE n es = some e) (hg : e'.f = g e.f) : (updE n e' es).map (·.f) = updL n g (es.map (·.f)) := by
  unfold updE updL
  rw [List.map_map, List.map_map]
  apply List.map_congr_left
  intro x hx
  simp only [Function.comp]
  obtain ⟨h1, h2⟩ := findE_mem he
  by_cases hxn : x.f.n = n
  · rw [if_pos hxn, if_pos hxn, nod_eq hn hx h1 (by rw [hxn, h2]), hg]
  · rw [if_neg hxn, if_neg hxn]
theorem updE_mem {n : Int} {e' x : DE} {es : List DE} (h : x ∈ updE n e' es) : x = e' ∨ (x ∈ es ∧ x.f.n ≠ n) := by
  unfold updE at h
  obtain ⟨f, hf, rfl⟩ := List.mem_map.1 h
  by_cases e : f.f.n = n
  · rw [if_pos e]; exact .inl rfl
  · rw [if_neg e]; exact .inr ⟨hf, e⟩

/-- A file turned: its block and perhaps its row, in a world that is as it was but for these and what is new. -/
theorem Lay.turn {S S' : Nat → Prop} {w w' : World} {d mb : Nat} {es : List DE} {c : DC} (h : Lay S w d mb es c) {n : Int} {e e' : DE} (he : findE n es = some e) (hn : e'.f.n = n) (hb : e'.fb = e.fb)
    (hk : ∀ k, k < w.heap.size → k ≠ e.fb → e.v.ownBlock ≠ some k → w'.heap[k]? = w.heap[k]?) (hf : FileAt w' e') (hv : ∀ g, e'.v.ownBlock = some g → e.v.ownBlock = some g ∨ w.heap.size ≤ g)
    (hS : ∀ k, S k → S' k) (hS' : ∀ g, e'.v.ownBlock = some g → S' g) : Lay S' w' d mb (updE n e' es) c := by
  obtain ⟨hem, hen⟩ := findE_mem he
  have hrow : ∀ x ∈ es, ∀ g, x.v.ownBlock = some g → g < w.heap.size := fun x hx g hg => by
    obtain ⟨cur, hc⟩ := ownsRow_row (h.file x hx).2 hg
    exact heap_lt hc
  have hmb : mb < w.heap.size := by obtain ⟨x, y, hx⟩ := h.map.obj; exact heap_lt hx
  have hother : ∀ x ∈ es, x.f.n ≠ n → FileAt w' x := fun x hx hxn => by
    obtain ⟨h1, h2⟩ := h.sep e hem x hx (by rw [hen]; exact Ne.symm hxn)
    refine (h.file x hx).kept (hk _ (heap_lt (h.file x hx).1) (Ne.symm h1) fun y => (h.ne_row hem y).2.2 x hx rfl) fun g hg => hk g (hrow x hx g hg) (fun y => (h.ne_row hx hg).2.2 e hem y) fun y => ?_
    rcases h2 with h2 | h2
    · rw [h2] at y; cases y
    · exact h2 (y.trans hg.symm)
  refine ⟨(hk d (heap_lt h.obj) (Ne.symm (h.ne_file hem).1) fun y => (h.ne_row hem y).1 rfl).trans h.obj, ?_, ?_, ?_, ?_, hS _ h.sd, hS _ h.sm, ?_, ?_⟩
  · obtain ⟨l, hl, hp⟩ := h.map.kept (hk mb hmb (Ne.symm (h.ne_file hem).2) fun y => (h.ne_row hem y).2.1 rfl)
    refine ⟨l, by unfold updE; rw [List.length_map]; exact hl, ?_⟩
    have : (updE n e' es).map ent = es.map ent := by
      unfold updE
      rw [List.map_map]
      apply List.map_congr_left
      intro x hx
      simp only [Function.comp]
      by_cases hxn : x.f.n = n
      · rw [if_pos hxn, nod_eq h.nod hx hem (by rw [hxn, hen])]
        unfold ent
        rw [hn, hen, hb]
      · rw [if_neg hxn]
    rw [this]
    exact hp
  · intro x hx
    rcases updE_mem hx with rfl | ⟨hx1, hx2⟩
    · exact hf
    · exact hother x hx1 hx2
  · rw [updE_n hn]
    exact h.nod
  · intro x hx y hy hxy
    rcases updE_mem hx with rfl | ⟨hx1, hx2⟩
    · rcases updE_mem hy with rfl | ⟨hy1, hy2⟩
      · exact absurd rfl hxy
      · obtain ⟨h1, h2⟩ := h.sep e hem y hy1 (by rw [hen]; exact Ne.symm hy2)
        refine ⟨by rw [hb]; exact h1, ?_⟩
        cases hg : x.v.ownBlock with
        | none => exact .inl rfl
        | some g =>
          right
          intro z
          rcases hv g hg with a | a
          · rcases h2 with h2 | h2
            · rw [h2] at a; cases a
            · exact h2 (a.trans z)
          · have := hrow y hy1 g z.symm
            omega
    · rcases updE_mem hy with rfl | ⟨hy1, hy2⟩
      · obtain ⟨h1, h2⟩ := h.sep x hx1 e hem (by rw [hen]; exact hx2)
        refine ⟨by rw [hb]; exact h1, ?_⟩
        cases hg : x.v.ownBlock with
        | none => exact .inl rfl
        | some g =>
          right
          intro z
          rcases hv g z.symm with a | a
          · rcases h2 with h2 | h2
            · rw [h2] at hg; cases hg
            · exact h2 (hg.trans a.symm)
          · have := hrow x hx1 g hg
            omega
      · exact h.sep x hx1 y hy1 hxy
  · intro x hx
    rcases updE_mem hx with rfl | ⟨hx1, hx2⟩
    · rw [hb]; exact hS _ (h.sf e hem)
    · exact hS _ (h.sf x hx1)
  · intro x hx g hg
    rcases updE_mem hx with rfl | ⟨hx1, hx2⟩
    · exact hS' g hg
    · exact hS _ (h.sr x hx1 g hg)

/-! ### the map -/
theorem length_tight {w : World} {mb n : Nat} {l : List (Lit × DataW Unit)} (h : w.ownsMap Try.prog 3 ptrR mb n (.map l)) : w.ownsMap Try.prog 3 ptrR mb l.length (.map l) := by
  obtain ⟨es, clock, hb, F, hs, hD⟩ := h
  injection hD with hD
  refine ⟨es, clock, hb, F, ?_, by rw [hD]⟩
  rw [hD, length_sorted]
  simp
theorem nodup_keys {es : List DE} (hn : (es.map (·.f.n)).Nodup) : ((es.map ent).map (·.1)).Nodup := by
  rw [List.map_map]
  have : (es.map ((·.1) ∘ ent)) = (es.map (·.f.n)).map (Lit.int .i64) := by rw [List.map_map]; rfl
  rw [this]
  exact List.pairwise_map.2 (hn.imp fun hne h => hne (by injection h))
theorem sameKey_i64 (a b : Int) : (Lit.int .i64 a).sameKey (.int .i64 b) = decide (a = b) := by
  by_cases h : a = b
  · subst h
    rw [WideAt.sameKey_self (by simp [WideAt.IsKeyLit]), decide_eq_true rfl]
  · rw [decide_eq_false h]
    exact sameKey_ne fun e => h (by injection e)

/-- A pointer to a file that may be there. -/
def ptrE : Option DE → Value
  | none => .pointer none
  | some e => .pointer (some ⟨e.fb, 0, none⟩)
def delE (n : Int) (es : List DE) : List DE := es.filter fun e => decide (e.f.n ≠ n)
theorem delE_f (n : Int) (es : List DE) : (delE n es).map (·.f) = delL n (es.map (·.f)) := by
  unfold delE delL
  rw [List.filter_map]
  rfl
theorem atKey_files {l : List (Lit × DataW Unit)} {es : List DE} (hp : l.Perm (es.map ent)) (hn : (es.map (·.f.n)).Nodup) (n : Int) (z : DataW Unit) :
    (DataW.map l).atKey (.int .i64 n) z = match findE n es with | none => z | some e => .lit (.int .i64 (e.fb : Int)) := by
  have e0 : (DataW.map l).atKey (.int .i64 n) z = ((l.find? (fun p => p.1.sameKey (.int .i64 n))).map (·.2)).getD z := by
    simp only [DataW.atKey]
    generalize List.find? (fun p => p.1.sameKey (.int .i64 n)) l = o
    cases o <;> rfl
  rw [e0]
  cases hf : findE n es with
  | none =>
    rw [List.find?_eq_none.2]
    · rfl
    intro p hpl
    obtain ⟨e, he, rfl⟩ := List.mem_map.1 (hp.mem_iff.1 hpl)
    have := findE_none hf e he
    simp [ent, sameKey_i64, this]
  | some e =>
    obtain ⟨h1, h2⟩ := findE_mem hf
    have hm : ent e ∈ l := hp.mem_iff.2 (List.mem_map.2 ⟨e, h1, rfl⟩)
    cases hx : l.find? (fun p => p.1.sameKey (.int .i64 n)) with
    | none =>
      have := List.find?_eq_none.1 hx _ hm
      simp [ent, sameKey_i64, h2] at this
    | some p =>
      have hs := List.find?_some hx
      obtain ⟨e', he', rfl⟩ := List.mem_map.1 (hp.mem_iff.1 (List.mem_of_find?_eq_some hx))
      have hn' : e'.f.n = n := by simpa [ent, sameKey_i64] using hs
      rw [nod_eq hn he' h1 (by rw [hn', h2])]
      rfl
theorem zero60 (w : World) : (zeroValue 106).run Try.prog w = .ok (.pointer none) w := by kernel_rfl
theorem FileMap.look {w : World} {mb : Nat} {es : List DE} (h : FileMap w mb es) (hn : (es.map (·.f.n)).Nodup) {n : Int} (hw : (Lit.int .i64 n).wf = true) :
    (Instr.lookup 98 (.map (some mb)) (.int .i64 n) false).run Try.prog w = .ok (ptrE (findE n es)) w := by
  obtain ⟨l, hl, hp⟩ := h
  obtain ⟨v, ps, hrun, hv⟩ := hl.lookup law3 Try.underlying98 (zero60 w) (zd := .lit (.int .i64 (-1))) (zp := []) rfl (keyOf_int_mk Try.underlying3 hw)
  rw [hrun]
  rw [atKey_files hp hn] at hv
  rcases ptrR_inv hv with ⟨rfl, hy⟩ | ⟨b, rfl, hy⟩
  · cases hf : findE n es with
    | none => rfl
    | some e =>
      rw [hf] at hy
      injection hy with hy _
      injection hy with hy
      injection hy with _ hy
      exact absurd hy (by omega)
  · cases hf : findE n es with
    | none =>
      rw [hf] at hy
      injection hy with hy _
      injection hy with hy
      injection hy with _ hy
      exact absurd hy (by omega)
    | some e =>
      rw [hf] at hy
      injection hy with hy _
      injection hy with hy
      injection hy with _ hy
      obtain rfl : e.fb = b := by omega
      rfl
theorem files_put {w : World} {mb : Nat} {es : List DE} {l : List (Lit × DataW Unit)} {e : DE} (hp : l.Perm (es.map ent)) (hno : ∀ x ∈ es, x.f.n ≠ e.f.n)
    (h : w.ownsMap Try.prog 3 ptrR mb (es.length + 1) ((DataW.map l).put (.int .i64 e.f.n) (.lit (.int .i64 (e.fb : Int))))) : FileMap w mb (es ++ [e]) := by
  refine ⟨DataW.insert (.int .i64 e.f.n, .lit (.int .i64 (e.fb : Int))) (l.filter fun p => !p.1.sameKey (.int .i64 e.f.n)), by rw [List.length_append]; exact h, ?_⟩
  have hfl : (l.filter fun p => !p.1.sameKey (.int .i64 e.f.n)) = l := List.filter_eq_self.2 fun p hpl => by
    obtain ⟨x, hx, rfl⟩ := List.mem_map.1 (hp.mem_iff.1 hpl)
    simp [ent, sameKey_i64, hno x hx]
  rw [hfl, List.map_append]
  refine (insert_perm _ _).trans ?_
  refine (List.Perm.cons _ hp).trans ?_
  exact (List.perm_append_singleton (ent e) (es.map ent)).symm
theorem files_del {w : World} {mb m : Nat} {es : List DE} {l : List (Lit × DataW Unit)} {n : Int} (hp : l.Perm (es.map ent))
    (h : w.ownsMap Try.prog 3 ptrR mb m ((DataW.map l).del (.int .i64 n))) : FileMap w mb (delE n es) := by
  have h' : w.ownsMap Try.prog 3 ptrR mb m (.map (l.filter fun p => !p.1.sameKey (.int .i64 n))) := h
  have hpp : (l.filter fun p => !p.1.sameKey (.int .i64 n)).Perm ((delE n es).map ent) := by
    refine (hp.filter _).trans ?_
    rw [List.filter_map]
    unfold delE
    have : ((fun p : Lit × DataW Unit => !p.1.sameKey (.int .i64 n)) ∘ ent) = fun e => decide (e.f.n ≠ n) := by
      funext e
      simp [ent, sameKey_i64]
    rw [this]
  have := length_tight h'
  rw [hpp.length_eq, List.length_map] at this
  exact ⟨_, this, hpp⟩
end Go.Proofs.Ytlpknhiagdhkcaa
/- The small functions of package disk. -/
set_option linter.unusedVariables false
set_option maxRecDepth 100000
namespace Go.Proofs.Ytlpknhiagdhkcaa
open Go.RowKit Go.Maps

theorem disk_blocks (n : Nat) (hn : n ≤ 4611686018427387904) (w : World) : Calls Try.prog 51 #[.int .i64 (n : Int)] w fun e w' => e = .returned (.int .i64 (blk n : Int)) ∧ w = w' := by
  have h0 : (0 : Int) ≤ n := by omega
  have hb : ((blk n : Nat) : Int) = 1 + ((n : Int) + 64 - 1) / 64 := by unfold blk; omega
  have HB := Lib.hid hb
  clear hb
  go_enter Try.func51, Try.ntmps51
  go_wp2
  go_ret
  exact ⟨ret1 HB.out, rfl⟩

def tierB (t : Int) : Bool := decide (t = 0 ∨ t = 1)
theorem ret_bool {a b : Bool} (h : b = a) : Ending.returned (.bool a) = Ending.returned (.bool b) := by rw [h]
theorem disk_isTier (t : Int) (w : World) : Calls Try.prog 54 #[.int .i64 t] w fun e w' => e = .returned (.bool (tierB t)) ∧ w = w' := by
  by_cases h0 : t = 0
  · subst h0
    go_enter Try.func54, Try.ntmps54
    go_wp2
    go_ret
    exact ⟨rfl, rfl⟩
  · by_cases h1 : t = 1
    · subst h1
      go_enter Try.func54, Try.ntmps54
      go_wp2
      go_ret
      exact ⟨rfl, rfl⟩
    · have hb : tierB t = false := by simp [tierB, h0, h1]
      have HB := Lib.hid hb
      clear hb
      go_enter Try.func54, Try.ntmps54
      go_wp2
      go_ret
      exact ⟨ret_bool (by rw [HB.out]; simp [h0, h1]), rfl⟩

theorem disk_Down_nil (w : World) : Calls Try.prog 53 #[.pointer none] w fun e w' => e = .returned (.bool true) ∧ w = w' := by
  go_enter Try.func53, Try.ntmps53
  go_wp2
  go_ret
  exact ⟨rfl, rfl⟩
theorem lay_Down {S : Nat → Prop} {w : World} {d mb : Nat} {es : List DE} {c : DC} (h : Lay S w d mb es c) : Calls Try.prog 53 #[.pointer (some ⟨d, 0, none⟩)] w fun e w' => e = .returned (.bool c.down) ∧ w = w' := by
  have c8 : w.cell? ⟨d, 8, none⟩ = some (.bool c.down) := h.cell 8
  clear h
  go_enter Try.func53, Try.ntmps53
  go_wp2
  go_ret
  exact ⟨rfl, rfl⟩
/-- What is told of a tier: 0, if it is none. -/
def tierI (t a b : Int) : Int := if t = 0 then a else if t = 1 then b else 0
/-- Blocks that no file takes. -/
theorem lay_free {S : Nat → Prop} {w : World} {d mb : Nat} {es : List DE} {c : DC} (h : Lay S w d mb es c) (t : Int) (ht : t = 0 ∨ t = 1)
    (b0 : 0 ≤ c.r0 ∧ c.r0 ≤ 1048576 ∧ 0 ≤ c.u0 ∧ c.u0 ≤ 1048576) (b1 : 0 ≤ c.r1 ∧ c.r1 ≤ 1048576 ∧ 0 ≤ c.u1 ∧ c.u1 ≤ 1048576) :
    Calls Try.prog 55 #[.pointer (some ⟨d, 0, none⟩), .int .i64 t] w fun e w' => e = .returned (.int .i64 (tierI t (c.r0 - c.u0) (c.r1 - c.u1))) ∧ ∃ n, w' = w.drewN n := by
  have c0 : w.cell? ⟨d, 0, none⟩ = some (.int .i64 c.r0) := h.cell 0
  have c1 : w.cell? ⟨d, 1, none⟩ = some (.int .i64 c.r1) := h.cell 1
  have c2 : w.cell? ⟨d, 2, none⟩ = some (.int .i64 c.u0) := h.cell 2
  have c3 : w.cell? ⟨d, 3, none⟩ = some (.int .i64 c.u1) := h.cell 3
  clear h
  obtain ⟨g1, g2, g3, g4⟩ := b0
  obtain ⟨k1, k2, k3, k4⟩ := b1
  have z0 : IntKind.i64.wrap (c.r0 - c.u0) = c.r0 - c.u0 := IntWalk.i64_in _ (by omega)
  have z1 : IntKind.i64.wrap (c.r1 - c.u1) = c.r1 - c.u1 := IntWalk.i64_in _ (by omega)
  rcases ht with rfl | rfl
  · go_enter Try.func55, Try.ntmps55
    go_wp2
    go_quiet (fail)
    go_wp2
    go_ret
    exact ⟨rfl, _, rfl⟩
  · go_enter Try.func55, Try.ntmps55
    go_wp2
    go_quiet (fail)
    go_wp2
    go_ret
    exact ⟨rfl, _, rfl⟩

/-- A file, by its number. -/
theorem lay_find_down {S : Nat → Prop} {w : World} {d mb : Nat} {es : List DE} {c : DC} (h : Lay S w d mb es c) (n : Int) (hd : c.down = true) :
    Calls Try.prog 52 #[.pointer (some ⟨d, 0, none⟩), .int .i64 n] w fun e w' => e = .returned (.tuple #[.pointer none, .int .i64 8]) ∧ w = w' := by
  have hD := lay_Down h
  rw [hd] at hD
  clear h hd
  go_enter Try.func52, Try.ntmps52
  go_wp2_with (go_at_call 53; refine hD.mono ?_; rintro e w' ⟨rfl, rfl⟩)
  go_ret2
  exact ⟨rfl, rfl⟩
theorem lay_find_none {S : Nat → Prop} {w : World} {d mb : Nat} {es : List DE} {c : DC} (h : Lay S w d mb es c) (n : Int) (hw : (Lit.int .i64 n).wf = true) (hd : c.down = false) (hf : findE n es = none) :
    Calls Try.prog 52 #[.pointer (some ⟨d, 0, none⟩), .int .i64 n] w fun e w' => e = .returned (.tuple #[.pointer none, .int .i64 9]) ∧ w = w' := by
  have hD := lay_Down h
  rw [hd] at hD
  have c4 : w.cell? ⟨d, 4, none⟩ = some (.map (some mb)) := h.cell 4
  have hl := h.map.look h.nod hw
  rw [hf] at hl
  unfold ptrE at hl
  clear h hd hf hw
  go_enter Try.func52, Try.ntmps52
  go_wp2_with (go_at_call 53; refine hD.mono ?_; rintro e w' ⟨rfl, rfl⟩)
  go_ret2
  exact ⟨rfl, rfl⟩
theorem lay_find_some {S : Nat → Prop} {w : World} {d mb : Nat} {es : List DE} {c : DC} (h : Lay S w d mb es c) (n : Int) (hw : (Lit.int .i64 n).wf = true) (hd : c.down = false) (e0 : DE) (hf : findE n es = some e0) :
    Calls Try.prog 52 #[.pointer (some ⟨d, 0, none⟩), .int .i64 n] w fun e w' => e = .returned (.tuple #[.pointer (some ⟨e0.fb, 0, none⟩), .int .i64 0]) ∧ w = w' := by
  have hD := lay_Down h
  rw [hd] at hD
  have c4 : w.cell? ⟨d, 4, none⟩ = some (.map (some mb)) := h.cell 4
  have hl := h.map.look h.nod hw
  rw [hf] at hl
  unfold ptrE at hl
  simp only at hl
  clear h hd hf hw
  go_enter Try.func52, Try.ntmps52
  go_wp2_with (go_at_call 53; refine hD.mono ?_; rintro e w' ⟨rfl, rfl⟩)
  go_ret2
  exact ⟨rfl, rfl⟩
theorem disk_find_nil (n : Int) (w : World) : Calls Try.prog 52 #[.pointer none, .int .i64 n] w fun e w' => e = .returned (.tuple #[.pointer none, .int .i64 8]) ∧ w = w' := by
  go_enter Try.func52, Try.ntmps52
  go_wp2_with (go_at_call 53; refine (disk_Down_nil _).mono ?_; rintro e w' ⟨rfl, rfl⟩)
  go_ret2
  exact ⟨rfl, rfl⟩
end Go.Proofs.Ytlpknhiagdhkcaa
/- A change that is counted; a file that is made sure; a new disk; when the power goes. -/
set_option linter.unusedVariables false
set_option maxRecDepth 100000
namespace Go.Proofs.Ytlpknhiagdhkcaa
open Go.RowKit Go.Maps

def DC.tick (c : DC) : DC := { c with left := if c.left < 0 then c.left else c.left - 1, steps := c.steps + 1 }
def DC.off (c : DC) : DC := { c with down := true }
/-- The disk's block alone was written. -/
theorem only_setD {w : World} {d i : Nat} (u : Value) : Only (fun k => k = d) w (w.setCell ⟨d, i, none⟩ u) := Only.setCell (S := fun k => k = d) (Only.refl _ w) (p := ⟨d, i, none⟩) (.inl rfl) u

theorem lay_change_off {S : Nat → Prop} {w : World} {d mb : Nat} {es : List DE} {c : DC} (h : Lay S w d mb es c) (hl : c.left = 0) :
    Calls Try.prog 56 #[.pointer (some ⟨d, 0, none⟩)] w fun e w' => e = .returned (.int .i64 8) ∧ Lay S w' d mb es c.off ∧ Only (fun k => k = d) w w' := by
  have c7 : w.cell? ⟨d, 7, none⟩ = some (.int .i64 0) := by rw [h.cell 7, ← hl]; rfl
  have c8 : w.cell? ⟨d, 8, none⟩ = some (.bool c.down) := h.cell 8
  have f8 := h.free 8
  have H := Lib.hid (h.setD 8 (.bool true) c.off rfl)
  clear h hl
  go_enter Try.func56, Try.ntmps56
  go_wp2
  go_ret
  exact ⟨rfl, H.out, only_setD _⟩
theorem lay_change_on {S : Nat → Prop} {w : World} {d mb : Nat} {es : List DE} {c : DC} (h : Lay S w d mb es c) (hl : c.left ≠ 0) (h1 : -1 ≤ c.left) (h2 : c.left ≤ 9223372036854775807) (s1 : 0 ≤ c.steps) (s2 : c.steps < 4611686018427387904) :
    Calls Try.prog 56 #[.pointer (some ⟨d, 0, none⟩)] w fun e w' => e = .returned (.int .i64 0) ∧ Lay S w' d mb es c.tick ∧ Only (fun k => k = d) w w' := by
  have c7 : w.cell? ⟨d, 7, none⟩ = some (.int .i64 c.left) := h.cell 7
  have c6 : w.cell? ⟨d, 6, none⟩ = some (.int .i64 c.steps) := h.cell 6
  have f7 := h.free 7
  have f6 := h.free 6
  have k0 : (c.left == 0) = false := by simpa using hl
  rcases (show c.left < 0 ∨ 0 < c.left by omega) with hn | hp
  · have H := Lib.hid (h.setD 6 (.int .i64 (c.steps + 1)) c.tick (by simp [DC.cells, DC.tick, hn]))
    have k1 : decide (0 < c.left) = false := by simp; omega
    clear h hl
    go_enter Try.func56, Try.ntmps56
    go_wp2
    go_ret
    exact ⟨rfl, H.out, only_setD _⟩
  · have H := Lib.hid ((h.setD 7 (.int .i64 (c.left - 1)) { c with left := c.left - 1 } rfl).setD 6 (.int .i64 (c.steps + 1)) c.tick (by simp [DC.cells, DC.tick, show ¬ c.left < 0 by omega]))
    have k1 : decide (0 < c.left) = true := by simpa using hp
    clear h hl
    go_enter Try.func56, Try.ntmps56
    go_wp2
    go_ret
    exact ⟨rfl, H.out, (only_setD _).trans (only_setD _)⟩

theorem lay_new (w : World) (a b : Int) : Lay (fun k => w.heap.size ≤ k) ((w.alloc (.map #[] 0)).alloc (.cells #[.int .i64 a, .int .i64 b, .int .i64 0, .int .i64 0, .map (some w.heap.size), .int .i64 0, .int .i64 0, .int .i64 (-1), .bool false] 100)) (w.heap.size + 1) w.heap.size [] ⟨a, b, 0, 0, 0, 0, -1, false⟩ := by
  refine ⟨?_, ⟨[], (World.ownsMap_made w Try.prog 3 ptrR).alloc _, List.Perm.refl _⟩, by simp, by simp, by simp, by simp, Nat.le_refl _, by simp, by simp⟩
  have := heap_new (w.alloc (.map #[] 0)) (.cells #[.int .i64 a, .int .i64 b, .int .i64 0, .int .i64 0, .map (some w.heap.size), .int .i64 0, .int .i64 0, .int .i64 (-1), .bool false] 100)
  rw [show (w.alloc (.map #[] 0)).heap.size = w.heap.size + 1 by simp] at this
  exact this
theorem disk_New_no (a b : Int) (w : World) (h : a < 0 ∨ b < 0 ∨ 1048576 < a ∨ 1048576 < b) : Calls Try.prog 19 #[.int .i64 a, .int .i64 b] w fun e w' => e = .returned (.tuple #[.pointer none, .int .i64 1]) ∧ w = w' := by
  by_cases h0 : min a b < 0
  · go_enter Try.func19, Try.ntmps19
    go_wp2
    go_ret2
    exact ⟨rfl, rfl⟩
  · have h1 : 0 ≤ min a b := by omega
    have h2 : 1048576 < max a b := by omega
    clear h
    go_enter Try.func19, Try.ntmps19
    go_wp2
    go_ret2
    exact ⟨rfl, rfl⟩
theorem disk_New (a b : Nat) (w : World) (ha : a ≤ 1048576) (hb : b ≤ 1048576) :
    Calls Try.prog 19 #[.int .i64 (a : Int), .int .i64 (b : Int)] w fun e w' => ∃ d mb : Nat, e = .returned (.tuple #[.pointer (some ⟨d, 0, none⟩), .int .i64 0]) ∧ Lay (fun k => w.heap.size ≤ k) w' d mb [] ⟨a, b, 0, 0, 0, 0, -1, false⟩ ∧ Below w.heap.size w w' := by
  have hmm := @run_makeMap Try.prog
  have h0 : 0 ≤ min (a : Int) (b : Int) := by omega
  have h1 : max (a : Int) (b : Int) ≤ 1048576 := by omega
  go_enter Try.func19, Try.ntmps19
  go_wp2
  go_ret2
  refine ⟨w.heap.size + 1, w.heap.size, ?_, ?_, ?_⟩
  · simp
  · exact lay_new w a b
  · exact ((Below.refl _ _).alloc (Nat.le_refl _) _).alloc (by simp) _
end Go.Proofs.Ytlpknhiagdhkcaa
/- A file made sure; how many bytes it has; bytes read. -/
set_option linter.unusedVariables false
set_option maxRecDepth 100000
namespace Go.Proofs.Ytlpknhiagdhkcaa
open Go.RowKit Go.Maps

/-- A slice of bytes has a length. -/
theorem row_slice {w : World} {v : Value} {n : Nat} {xs : List Value} (h : w.ownsRow 0 5 1 v n xs) : ∃ a cap, v = .slice a n cap ∧ n ≤ cap := by
  rcases h.2 with ⟨rfl, rfl⟩ | ⟨g, cap, cur, rfl, _, _, hc, _⟩
  · exact ⟨none, 0, rfl, Nat.le_refl _⟩
  · exact ⟨_, cap, rfl, hc⟩

theorem lay_settle {S : Nat → Prop} {w : World} {d mb : Nat} {es : List DE} {c : DC} (h : Lay S w d mb es c) (e0 : DE) (n : Int) (hf : findE n es = some e0) :
    Calls Try.prog 70 #[.pointer (some ⟨e0.fb, 0, none⟩)] w fun e w' => e = .returned (.tuple #[]) ∧ Lay S w' d mb (updE n { e0 with f := syncF e0.f } es) c ∧ Only (fun k => k = e0.fb) w w' := by
  obtain ⟨hm, hn⟩ := findE_mem hf
  obtain ⟨a, cap, hv, hc⟩ := row_slice (h.file e0 hm).2
  have g1 : w.cell? ⟨e0.fb, 1, none⟩ = some (.slice a e0.f.data.length cap) := by rw [h.fcell hm 1, ← hv]; rfl
  have g2 : w.cell? ⟨e0.fb, 2, none⟩ = some (.bool e0.f.sure) := h.fcell hm 2
  have g3 : w.cell? ⟨e0.fb, 3, none⟩ = some (.int .i64 (e0.f.sb : Int)) := h.fcell hm 3
  have f2 := h.ffree hm 2
  have f3 := h.ffree hm 3
  have hO : Only (fun k => k = e0.fb) w ((w.setCell ⟨e0.fb, 2, none⟩ (.bool true)).setCell ⟨e0.fb, 3, none⟩ (.int .i64 (e0.f.data.length : Int))) := (only_setD _).trans (only_setD _)
  have H := Lib.hid (Lay.turn (S' := S) (e' := { e0 with f := syncF e0.f }) h hf hn rfl (fun k hk h1 _ => hO.block k hk h1) ⟨by
      have := heap_set (o := 3) (heap_set (o := 2) (h.file e0 hm).1 (.bool true)) (.int .i64 (e0.f.data.length : Int))
      exact this, ownsRow_same (h.file e0 hm).2 fun g hg => by
        rw [heap_set_other ((h.ne_row hm hg).2.2 e0 hm), heap_set_other ((h.ne_row hm hg).2.2 e0 hm)]⟩ (fun g hg => .inl hg) (fun k hk => hk) (fun g hg => h.sr e0 hm g hg))
  have HO := Lib.hid hO
  clear h hv hf hn hm hO
  go_enter Try.func70, Try.ntmps70
  go_wp2
  go_end0
  exact ⟨rfl, H.out, HO.out⟩

theorem lay_Size_down {S : Nat → Prop} {w : World} {d mb : Nat} {es : List DE} {c : DC} (h : Lay S w d mb es c) (n : Int) (hd : c.down = true) :
    Calls Try.prog 27 #[.pointer (some ⟨d, 0, none⟩), .int .i64 n] w fun e w' => e = .returned (.tuple #[.int .i64 0, .int .i64 0, .int .i64 8]) ∧ ∃ m, w' = w.drewN m := by
  have hF := lay_find_down h n hd
  clear h hd
  go_enter Try.func27, Try.ntmps27
  go_wp2_with (go_at_call 52; refine hF.mono ?_; rintro e w' ⟨rfl, rfl⟩)
  go_ret3
  exact ⟨rfl, 0, rfl⟩
theorem disk_Size_nil (n : Int) (w : World) :
    Calls Try.prog 27 #[.pointer none, .int .i64 n] w fun e w' => e = .returned (.tuple #[.int .i64 0, .int .i64 0, .int .i64 8]) ∧ w = w' := by
  have hF := disk_find_nil n w
  go_enter Try.func27, Try.ntmps27
  go_wp2_with (go_at_call 52; refine hF.mono ?_; rintro e w' ⟨rfl, rfl⟩)
  go_ret3
  exact ⟨rfl, rfl⟩
theorem lay_Size_none {S : Nat → Prop} {w : World} {d mb : Nat} {es : List DE} {c : DC} (h : Lay S w d mb es c) (n : Int) (hw : (Lit.int .i64 n).wf = true) (hd : c.down = false) (hf : findE n es = none) :
    Calls Try.prog 27 #[.pointer (some ⟨d, 0, none⟩), .int .i64 n] w fun e w' => e = .returned (.tuple #[.int .i64 0, .int .i64 0, .int .i64 9]) ∧ ∃ m, w' = w.drewN m := by
  have hF := lay_find_none h n hw hd hf
  clear h hd hf
  go_enter Try.func27, Try.ntmps27
  go_wp2_with (go_at_call 52; refine hF.mono ?_; rintro e w' ⟨rfl, rfl⟩)
  go_ret3
  exact ⟨rfl, 0, rfl⟩
theorem lay_Size_some {S : Nat → Prop} {w : World} {d mb : Nat} {es : List DE} {c : DC} (h : Lay S w d mb es c) (n : Int) (hw : (Lit.int .i64 n).wf = true) (hd : c.down = false) (e0 : DE) (hf : findE n es = some e0) :
    Calls Try.prog 27 #[.pointer (some ⟨d, 0, none⟩), .int .i64 n] w fun e w' => e = .returned (.tuple #[.int .i64 (e0.f.data.length : Int), .int .i64 e0.f.t, .int .i64 0]) ∧ ∃ m, w' = w.drewN m := by
  have hF := lay_find_some h n hw hd e0 hf
  obtain ⟨hm, hn⟩ := findE_mem hf
  obtain ⟨a, cap, hv, hc⟩ := row_slice (h.file e0 hm).2
  have g1 : w.cell? ⟨e0.fb, 1, none⟩ = some (.slice a e0.f.data.length cap) := by rw [h.fcell hm 1, ← hv]; rfl
  have g0 : w.cell? ⟨e0.fb, 0, none⟩ = some (.int .i64 e0.f.t) := h.fcell hm 0
  clear h hd hf hn hm hv
  go_enter Try.func27, Try.ntmps27
  go_wp2_with (go_at_call 52; refine hF.mono ?_; rintro e w' ⟨rfl, rfl⟩)
  go_quiet (fail)
  go_wp2
  go_ret3
  exact ⟨rfl, _, rfl⟩

/-! Read -/
theorem bytes_are (l : List UInt8) : strOfNums (l.map fun b => (b.toNat : Int)) = bs l := by
  unfold strOfNums bs
  congr 2
  rw [List.map_map]
  conv => rhs; rw [← List.map_id l]
  apply List.map_congr_left
  intro x _
  simp
/-- Bytes of a row, as a string. -/
theorem conv_row {w : World} {v : Value} {n : Nat} {l : List UInt8} (h : w.ownsRow 0 5 1 v n (l.map byteV)) (i m : Nat) (hi : i + m ≤ n) {g : Addr} {cap cap' : Nat} (hv : v = .slice (some g) n cap) :
    (convert 76 9 (.slice (some (g.add i)) m cap')).run Try.prog w = .ok (.string (bs ((l.drop i).take m))) w := by
  rcases h.2 with ⟨rfl, h0⟩ | ⟨g', cap'', cur, hv', _, hg, hle, hmx, hsz, htk⟩
  · cases hv
  · rw [hv] at hv'
    injection hv' with h1 h2 h3
    injection h1 with h1
    subst h1
    have hlen : l.length = n := by have := h.1; simpa using this
    rw [addr_add]
    have := run_convert_bytes_arg (P := Try.prog) w 76 5 Try.underlying76 Try.underlying5 g' (0 + i) m cap' (((l.drop i).take m).map fun b => (b.toNat : Int)) (by rw [List.length_map, List.length_take, List.length_drop]; omega) (fun j hj => by
      simp only [World.cell?, hg]
      have h5 : (l.map byteV)[i + j]? = cur.toList[i + j]? := by
        rw [← htk, Nat.mul_one, List.getElem?_take, if_pos (show i + j < n by omega)]
      have h6 : cur[0 + i + j]? = some (byteV (l[i + j]'(by omega))) := by
        rw [show 0 + i + j = i + j by omega]
        have := h5.symm
        rw [List.getElem?_map, List.getElem?_eq_getElem (show i + j < l.length by omega)] at this
        simpa using this
      rw [h6]
      simp [byteV, List.getD_eq_getElem?_getD, List.getElem?_take, hj, List.getElem?_drop, List.getElem?_eq_getElem (show i + j < l.length by omega)]) 9 Try.underlying9
    rw [this, bytes_are]
theorem lay_Read_down {S : Nat → Prop} {w : World} {d mb : Nat} {es : List DE} {c : DC} (h : Lay S w d mb es c) (n i m : Int) (hd : c.down = true) :
    Calls Try.prog 28 #[.pointer (some ⟨d, 0, none⟩), .int .i64 n, .int .i64 i, .int .i64 m] w fun e w' => e = .returned (.tuple #[.string (bs []), .int .i64 8]) ∧ w = w' := by
  have hF := lay_find_down h n hd
  clear h hd
  go_enter Try.func28, Try.ntmps28
  go_wp2_with (go_at_call 52; refine hF.mono ?_; rintro e w' ⟨rfl, rfl⟩)
  go_ret2
  exact ⟨rfl, rfl⟩
theorem disk_Read_nil (n i m : Int) (w : World) :
    Calls Try.prog 28 #[.pointer none, .int .i64 n, .int .i64 i, .int .i64 m] w fun e w' => e = .returned (.tuple #[.string (bs []), .int .i64 8]) ∧ w = w' := by
  have hF := disk_find_nil n w
  go_enter Try.func28, Try.ntmps28
  go_wp2_with (go_at_call 52; refine hF.mono ?_; rintro e w' ⟨rfl, rfl⟩)
  go_ret2
  exact ⟨rfl, rfl⟩
theorem lay_Read_none {S : Nat → Prop} {w : World} {d mb : Nat} {es : List DE} {c : DC} (h : Lay S w d mb es c) (n i m : Int) (hw : (Lit.int .i64 n).wf = true) (hd : c.down = false) (hf : findE n es = none) :
    Calls Try.prog 28 #[.pointer (some ⟨d, 0, none⟩), .int .i64 n, .int .i64 i, .int .i64 m] w fun e w' => e = .returned (.tuple #[.string (bs []), .int .i64 9]) ∧ w = w' := by
  have hF := lay_find_none h n hw hd hf
  clear h hd hf
  go_enter Try.func28, Try.ntmps28
  go_wp2_with (go_at_call 52; refine hF.mono ?_; rintro e w' ⟨rfl, rfl⟩)
  go_ret2
  exact ⟨rfl, rfl⟩
theorem lay_Read_no {S : Nat → Prop} {w : World} {d mb : Nat} {es : List DE} {c : DC} (h : Lay S w d mb es c) (n i m : Int) (hw : (Lit.int .i64 n).wf = true) (hd : c.down = false) (e0 : DE) (hf : findE n es = some e0) (hl : e0.f.data.length ≤ 4611686018427387904)
    (hi : i ≤ 9223372036854775807) (hno : i < 0 ∨ m < 0 ∨ (e0.f.data.length : Int) - i < m) :
    Calls Try.prog 28 #[.pointer (some ⟨d, 0, none⟩), .int .i64 n, .int .i64 i, .int .i64 m] w fun e w' => e = .returned (.tuple #[.string (bs []), .int .i64 1]) ∧ w = w' := by
  have hF := lay_find_some h n hw hd e0 hf
  obtain ⟨hm, hn⟩ := findE_mem hf
  obtain ⟨a, cap, hv, hc⟩ := row_slice (h.file e0 hm).2
  have g1 : w.cell? ⟨e0.fb, 1, none⟩ = some (.slice a e0.f.data.length cap) := by rw [h.fcell hm 1, ← hv]; rfl
  clear h hd hf hn hm hv
  by_cases h0 : i < 0
  · go_enter Try.func28, Try.ntmps28
    go_wp2_with (go_at_call 52; refine hF.mono ?_; rintro e w' ⟨rfl, rfl⟩)
    go_ret2
    exact ⟨rfl, rfl⟩
  · by_cases h1 : m < 0
    · have h0' : 0 ≤ i := by omega
      go_enter Try.func28, Try.ntmps28
      go_wp2_with (go_at_call 52; refine hF.mono ?_; rintro e w' ⟨rfl, rfl⟩)
      go_ret2
      exact ⟨rfl, rfl⟩
    · have h0' : 0 ≤ i := by omega
      have h1' : 0 ≤ m := by omega
      have h2' : (e0.f.data.length : Int) - i < m := by omega
      clear hno h0 h1
      go_enter Try.func28, Try.ntmps28
      go_wp2_with (go_at_call 52; refine hF.mono ?_; rintro e w' ⟨rfl, rfl⟩)
      go_ret2
      exact ⟨rfl, rfl⟩
set_option maxRecDepth 100000 in
theorem lay_Read {S : Nat → Prop} {w : World} {d mb : Nat} {es : List DE} {c : DC} (h : Lay S w d mb es c) (n : Int) (i m : Nat) (hw : (Lit.int .i64 n).wf = true) (hd : c.down = false) (e0 : DE) (hf : findE n es = some e0) (hl : e0.f.data.length ≤ 4611686018427387904)
    (hi : i + m ≤ e0.f.data.length) :
    Calls Try.prog 28 #[.pointer (some ⟨d, 0, none⟩), .int .i64 n, .int .i64 (i : Int), .int .i64 (m : Int)] w fun e w' => e = .returned (.tuple #[.string (bs ((e0.f.data.drop i).take m)), .int .i64 0]) ∧ w = w' := by
  have hF := lay_find_some h n hw hd e0 hf
  obtain ⟨hm, hn⟩ := findE_mem hf
  have hrow := (h.file e0 hm).2
  have g1 : w.cell? ⟨e0.fb, 1, none⟩ = some e0.v := h.fcell hm 1
  have i0 : (0 : Int) ≤ i := by omega
  have m0 : (0 : Int) ≤ m := by omega
  have hno : (m : Int) ≤ (e0.f.data.length : Int) - i := by omega
  have hdata : e0.f.data.length = e0.f.data.length := rfl
  rcases hrow.2 with ⟨hv, h0⟩ | ⟨g, cap, cur, hv, _, hg, hle, hmx, _⟩
  · rw [hv] at g1
    have hi0 : i = 0 := by omega
    have hm0 : m = 0 := by omega
    subst hi0 hm0
    have hcv : ∀ W : World, (convert 76 9 (.slice none 0 0)).run Try.prog W = .ok (.string (bs [])) W := fun W => run_convert_bytes_nil (P := Try.prog) W 76 5 Try.underlying76 Try.underlying5 0 0 9 Try.underlying9
    have HE := Lib.hid (show bs ((e0.f.data.drop 0).take 0) = bs [] by simp)
    rw [h0] at hno
    clear hdata h hd hf hn hm hv hrow h0 hi i0 m0
    go_enter Try.func28, Try.ntmps28
    go_wp2_with (go_at_call 52; refine hF.mono ?_; rintro e w' ⟨rfl, rfl⟩)
    go_ret2
    exact ⟨ret2s HE.out rfl, rfl⟩
  · have hcv := conv_row hrow i m hi (cap' := cap - i) hv
    rw [addr_add, Nat.zero_add] at hcv
    rw [hv] at g1
    have hcap : cap ≤ 9223372036854775807 := by unfold maxLen at hmx; omega
    by_cases hic : i < cap
    · have hic' : (i : Int) < cap := by omega
      clear hdata h hd hf hn hm hv hrow hg hic
      go_enter Try.func28, Try.ntmps28
      go_wp2_with (go_at_call 52; refine hF.mono ?_; rintro e w' ⟨rfl, rfl⟩)
      go_ret2
      exact ⟨rfl, rfl⟩
    · have hm0 : m = 0 := by omega
      have hi0 : i = cap := by omega
      subst hm0 hi0
      have hcv2 := conv_row hrow 0 0 (by omega) (cap' := 0) hv
      rw [addr_add, Nat.zero_add] at hcv2
      clear hdata h hd hf hn hm hv hrow hg hic hcv
      go_enter Try.func28, Try.ntmps28
      go_wp2_with (go_at_call 52; refine hF.mono ?_; rintro e w' ⟨rfl, rfl⟩)
      go_ret2
      exact ⟨ret2s (by simp) rfl, rfl⟩
end Go.Proofs.Ytlpknhiagdhkcaa
/- A disk in memory that is as the plain one: what its calls do. -/
set_option linter.unusedVariables false
set_option maxRecDepth 100000
namespace Go.Proofs.Ytlpknhiagdhkcaa
open Go.RowKit Go.Maps

def DS.dc (s : DS) : DC := ⟨s.r0, s.r1, usedL 0 s.fs, usedL 1 s.fs, s.root, s.steps, s.left, s.down⟩
/-- In block d there is a disk that is as s; its blocks are of S. -/
def Disk (S : Nat → Prop) (w : World) (d : Nat) (s : DS) : Prop := s.Fit ∧ ∃ mb es, Lay S w d mb es s.dc ∧ es.map (·.f) = s.fs
def New (S : Nat → Prop) (w : World) : Nat → Prop := fun k => S k ∨ w.heap.size ≤ k
/-- What a call leaves: an answer, the disk, and all that isn't of it as it was. -/
def Did (S : Nat → Prop) (d : Nat) (r : DS × Int) (w : World) (e : Ending) (w' : World) : Prop := e = .returned (.int .i64 r.2) ∧ Disk (New S w) w' d r.1 ∧ Only S w w'

theorem Disk.mono {S S' : Nat → Prop} {w : World} {d : Nat} {s : DS} (h : Disk S w d s) (hS : ∀ k, k < w.heap.size → S k → S' k) : Disk S' w d s := by
  obtain ⟨hF, mb, es, h, he⟩ := h
  exact ⟨hF, mb, es, h.mono hS, he⟩
theorem Disk.tight {S : Nat → Prop} {w : World} {d : Nat} {s : DS} (h : Disk S w d s) : Disk (fun k => S k ∧ k < w.heap.size) w d s := h.mono fun k hk hs => ⟨hs, hk⟩
theorem Disk.only {S T : Nat → Prop} {w w' : World} {d : Nat} {s : DS} (h : Disk S w d s) (k : Only T w w') (hT : ∀ j, j < w.heap.size → S j → ¬ T j) : Disk S w' d s := by
  obtain ⟨hF, mb, es, h, he⟩ := h
  exact ⟨hF, mb, es, h.only k hT, he⟩
theorem Disk.below {S : Nat → Prop} {w w' : World} {d : Nat} {s : DS} (h : Disk S w d s) (k : Below w.heap.size w w') : Disk S w' d s :=
  h.only (Only.of_below (S := fun _ => False) k fun j hj hB => absurd hj (by omega)) fun _ _ _ x => x
theorem Disk.drewN {S : Nat → Prop} {w : World} {d : Nat} {s : DS} (h : Disk S w d s) (n : Nat) : Disk S (w.drewN n) d s := by
  obtain ⟨hF, mb, es, h, he⟩ := h
  exact ⟨hF, mb, es, h.drewN n, he⟩
theorem Disk.lt {S : Nat → Prop} {w : World} {d : Nat} {s : DS} (h : Disk S w d s) : d < w.heap.size ∧ S d := by
  obtain ⟨hF, mb, es, h, he⟩ := h
  exact ⟨heap_lt h.obj, h.sd⟩
theorem New.old {S : Nat → Prop} {w : World} : ∀ k, S k → New S w k := fun _ h => .inl h
theorem Lay.new {S : Nat → Prop} {w w' : World} {d mb : Nat} {es : List DE} {c : DC} (h : Lay S w d mb es c) : Lay (New S w') w d mb es c := h.mono fun _ _ x => .inl x

/-- The file of a number: in memory where the plain disk has one. -/
theorem find_some {es : List DE} {fs : List DF} (he : es.map (·.f) = fs) {n : Int} {f : DF} (h : findL n fs = some f) : ∃ e, findE n es = some e ∧ e.f = f := by
  rw [← he, findE_L] at h
  cases hx : findE n es with
  | none => rw [hx] at h; cases h
  | some e => rw [hx] at h; exact ⟨e, rfl, by injection h⟩
theorem find_none {es : List DE} {fs : List DF} (he : es.map (·.f) = fs) {n : Int} (h : findL n fs = none) : findE n es = none := by
  rw [← he, findE_L] at h
  cases hx : findE n es with
  | none => rfl
  | some e => rw [hx] at h; cases h

/-! ### the plain disks stay fit -/
namespace DS.Fit
variable {s : DS}
theorem off (h : s.Fit) : s.off.Fit := ⟨h.r0, h.r1, h.u0, h.u1, h.nod, h.file, h.root, h.l0, h.l1⟩
theorem tick (h : s.Fit) (hl : s.left ≠ 0) : s.tick.Fit :=
  ⟨h.r0, h.r1, h.u0, h.u1, h.nod, h.file, h.root, by have := h.l0; unfold DS.tick; simp only; split <;> omega, by have := h.l1; unfold DS.tick; simp only; split <;> omega⟩
/-- One file turned. -/
theorem upd (h : s.Fit) {n : Int} {f : DF} (g : DF → DF) (hf : findL n s.fs = some f) (hn : ∀ x, (g x).n = x.n) (ht : ∀ x, (g x).t = x.t) (hg : ∀ x ∈ s.fs, x.n = n → (g x).sb ≤ (g x).data.length ∧ ((g x).sure = false → (g x).sb = 0)) (hr : ∀ x, x.sure = true → (g x).sure = true)
    (hu : s.used f.t + (blk (g f).data.length) ≤ s.room f.t + blk f.data.length) : ({ s with fs := updL n g s.fs } : DS).Fit := by
  have huse := fun t => used_upd t n g ht h.nod hf
  have hft := (h.file f (findL_mem hf).1).1
  refine ⟨h.r0, h.r1, ?_, ?_, ?_, ?_, ?_, h.l0, h.l1⟩
  · have := huse 0
    have h0 := h.u0
    simp only at this ⊢
    unfold DS.used DS.room at hu
    rcases hft with e | e <;> simp [e] at this hu <;> omega
  · have := huse 1
    have h0 := h.u1
    simp only at this ⊢
    unfold DS.used DS.room at hu
    rcases hft with e | e <;> simp [e] at this hu <;> omega
  · show ((updL n g s.fs).map (·.n)).Nodup
    rw [upd_map_n n g hn]
    exact h.nod
  · intro x hx
    rcases upd_mem hx with ⟨y, hy, hyn, rfl⟩ | ⟨hy, _⟩
    · obtain ⟨a, b, c, d⟩ := h.file y hy
      obtain ⟨e1, e2⟩ := hg y hy hyn
      exact ⟨by rw [ht]; exact a, e1, e2, by rw [hn]; exact d⟩
    · exact h.file x hy
  · rcases h.root with e | ⟨y, hy, hyn, hys⟩
    · exact .inl e
    · refine .inr ⟨_, mem_upd hy, ?_, ?_⟩
      · split
        · rw [hn]; exact hyn
        · exact hyn
      · split
        · exact hr y hys
        · exact hys
end DS.Fit

theorem disk_Sync_nil (n : Int) (w : World) : Calls Try.prog 48 #[.pointer none, .int .i64 n] w fun e w' => e = .returned (.int .i64 8) ∧ w = w' := by
  have hF := disk_find_nil n w
  go_enter Try.func48, Try.ntmps48
  go_wp2_with (go_at_call 52; refine hF.mono ?_; rintro e w' ⟨rfl, rfl⟩)
  go_ret
  exact ⟨rfl, rfl⟩
theorem disk_Sync {S : Nat → Prop} {w : World} {d : Nat} {s : DS} (h : Disk S w d s) (n : Int) (hw : (Lit.int .i64 n).wf = true) (hs : s.steps < 4611686018427387904) :
    Calls Try.prog 48 #[.pointer (some ⟨d, 0, none⟩), .int .i64 n] w (Did S d (s.sync n) w) := by
  obtain ⟨hF, mb, es, h, he⟩ := h
  cases hd : s.down with
  | true =>
    have hr : s.sync n = (s, 8) := by unfold DS.sync; rw [if_pos hd]
    have hf := lay_find_down h n hd
    have HR := Lib.hid (show Did S d (s.sync n) w (.returned (.int .i64 8)) w by rw [hr]; exact ⟨rfl, ⟨hF, mb, es, h.new, he⟩, Only.refl _ _⟩)
    clear hr h he hd hF
    go_enter Try.func48, Try.ntmps48
    go_wp2_with (go_at_call 52; refine hf.mono ?_; rintro e w' ⟨rfl, rfl⟩)
    go_ret
    exact HR.out
  | false =>
    cases hx : findL n s.fs with
    | none =>
      have hr : s.sync n = (s, 9) := by unfold DS.sync; rw [if_neg (by rw [hd]; simp), hx]
      have hf := lay_find_none h n hw hd (find_none he hx)
      have HR := Lib.hid (show Did S d (s.sync n) w (.returned (.int .i64 9)) w by rw [hr]; exact ⟨rfl, ⟨hF, mb, es, h.new, he⟩, Only.refl _ _⟩)
      clear hr h he hd hx hF
      go_enter Try.func48, Try.ntmps48
      go_wp2_with (go_at_call 52; refine hf.mono ?_; rintro e w' ⟨rfl, rfl⟩)
      go_ret
      exact HR.out
    | some f =>
      obtain ⟨e0, hfe, hef⟩ := find_some he hx
      have hf := lay_find_some h n hw hd e0 hfe
      by_cases hl : s.left = 0
      · have hr : s.sync n = (s.off, 8) := by unfold DS.sync; rw [if_neg (by rw [hd]; simp), hx]; simp only; rw [if_pos hl]
        have hc := lay_change_off h hl
        have HR := Lib.hid (show ∀ w', Lay S w' d mb es s.dc.off → Only (fun k => k = d) w w' → Did S d (s.sync n) w (.returned (.int .i64 8)) w' from fun w' h1 o1 => by
          rw [hr]; exact ⟨rfl, ⟨hF.off, mb, es, h1.new, he⟩, o1.mono fun k _ hk => by rw [hk]; exact h.sd⟩)
        clear hr h he hd hx hF hl hfe
        go_enter Try.func48, Try.ntmps48
        go_wp2_with (first | (go_at_call 52; refine hf.mono ?_; rintro e w' ⟨rfl, rfl⟩) | (go_at_call 56; refine hc.mono ?_; rintro e w1 ⟨rfl, h1, o1⟩))
        go_ret
        exact HR.out _ h1 o1
      · have hr : s.sync n = ({ s.tick with fs := updL n syncF s.fs }, 0) := by unfold DS.sync; rw [if_neg (by rw [hd]; simp), hx]; simp only; rw [if_neg hl]
        have hc := lay_change_on h hl hF.l0 hF.l1 (show (0 : Int) ≤ (s.steps : Int) by omega) (show (s.steps : Int) < 4611686018427387904 by omega)
        have hFit : ({ s.tick with fs := updL n syncF s.fs } : DS).Fit := (hF.tick hl).upd syncF (f := f) hx (fun _ => rfl) (fun _ => rfl) (fun x _ _ => ⟨Nat.le_refl _, fun y => by cases y⟩) (fun _ _ => rfl) (by
          have : s.used f.t ≤ s.room f.t := by
            unfold DS.used DS.room
            rcases (hF.file f (findL_mem hx).1).1 with e | e <;> rw [e]
            · exact hF.u0
            · exact hF.u1
          exact Nat.add_le_add_right this _)
        have hUse : ∀ t, usedL t (updL n syncF s.fs) = usedL t s.fs := fun t => by
          have := used_upd t n syncF (fun _ => rfl) hF.nod hx
          exact Nat.add_right_cancel this
        have HR := Lib.hid (show ∀ w1 w2, Only (fun k => k = d) w w1 → Lay S w2 d mb (updE n { e0 with f := syncF e0.f } es) s.dc.tick → Only (fun k => k = e0.fb) w1 w2 → Did S d (s.sync n) w (.returned (.int .i64 0)) w2 from fun w1 w2 o1 h2 o2 => by
          rw [hr]
          refine ⟨rfl, ⟨hFit, mb, updE n { e0 with f := syncF e0.f } es, ?_, ?_⟩, (o1.mono fun k _ hk => by rw [hk]; exact h.sd).andThen o2 fun k _ hk => by rw [hk]; exact h.sf e0 (findE_mem hfe).1⟩
          · have : DS.dc { s.tick with fs := updL n syncF s.fs } = s.dc.tick := by
              unfold DS.dc DC.tick DS.tick
              simp only [hUse]
              simp
            rw [this]
            exact h2.new
          · rw [updE_f (g := syncF) h.nod hfe rfl, he])
        have HE := Lib.hid hfe
        clear hr h he hd hx hF hl hfe hFit hUse
        go_enter Try.func48, Try.ntmps48
        go_wp2_with (first | (go_at_call 52; refine hf.mono ?_; rintro e w' ⟨rfl, rfl⟩) | (go_at_call 56; refine hc.mono ?_; rintro e w1 ⟨rfl, h1, o1⟩) | (go_at_call 70; refine (lay_settle h1 e0 n HE.out).mono ?_; rintro e w2 ⟨rfl, h2, o2⟩))
        go_ret
        exact HR.out _ _ o1 h2 o2
end Go.Proofs.Ytlpknhiagdhkcaa
/- The root; a file taken away. -/
set_option linter.unusedVariables false
set_option maxRecDepth 100000
namespace Go.Proofs.Ytlpknhiagdhkcaa
open Go.RowKit Go.Maps

theorem Only.drewl {S : Nat → Prop} {a b : World} {m : Nat} (h : Only S (a.drewN m) b) : Only S a b := ⟨h.os, h.tape, h.output, h.size, h.block⟩
end Go.Proofs.Ytlpknhiagdhkcaa
/- A file taken away. -/
set_option linter.unusedVariables false
set_option maxRecDepth 100000
namespace Go.Proofs.Ytlpknhiagdhkcaa
open Go.RowKit Go.Maps

theorem delE_mem {n : Int} {x : DE} {es : List DE} (h : x ∈ delE n es) : x ∈ es ∧ x.f.n ≠ n := by
  unfold delE at h
  obtain ⟨h1, h2⟩ := List.mem_filter.1 h
  exact ⟨h1, by simpa using h2⟩
theorem Lay.del {S : Nat → Prop} {w w' : World} {d mb : Nat} {es : List DE} {c : DC} (h : Lay S w d mb es c) (n : Int) (hm : FileMap w' mb (delE n es)) (hk : ∀ k, k < w.heap.size → k ≠ mb → w'.heap[k]? = w.heap[k]?) : Lay S w' d mb (delE n es) c := by
  refine ⟨(hk d (heap_lt h.obj) h.ne_map.symm).trans h.obj, hm, fun e he => ?_, ?_, fun e he e' he' => h.sep e (delE_mem he).1 e' (delE_mem he').1, h.sd, h.sm, fun e he => h.sf e (delE_mem he).1, fun e he => h.sr e (delE_mem he).1⟩
  · have he := (delE_mem he).1
    refine (h.file e he).kept (hk _ (heap_lt (h.file e he).1) (h.ne_file he).2) fun g hg => hk g ?_ (h.ne_row he hg).2.1
    obtain ⟨cur, hc⟩ := ownsRow_row (h.file e he).2 hg
    exact heap_lt hc
  · exact h.nod.sublist (List.filter_sublist.map _)
theorem turned_other {w w' : World} {b : Nat} (h : w.mapTurned w' b) (k : Nat) (hk : k ≠ b) : w'.heap[k]? = w.heap[k]? := by
  obtain ⟨x, c, x', c', hb, rfl⟩ := h
  exact Go.ChangeMaps.heap_setBlock_other hb _ hk
/-- What the tiers' counts come to. -/
def DC.use (c : DC) (t x : Int) : DC := { c with u0 := if t = 0 then x else c.u0, u1 := if t = 0 then c.u1 else x }
theorem Lay.setU {S : Nat → Prop} {w : World} {d mb : Nat} {es : List DE} {c : DC} (h : Lay S w d mb es c) (x : Int) :
    Lay S (w.setCell ⟨d, 2, none⟩ (.int .i64 x)) d mb es (c.use 0 x) ∧ Lay S (w.setCell ⟨d, 3, none⟩ (.int .i64 x)) d mb es (c.use 1 x) :=
  ⟨h.setD 2 _ _ rfl, h.setD 3 _ _ rfl⟩
theorem tier_cases {s : DS} (hF : s.Fit) {f : DF} {n : Int} (h : findL n s.fs = some f) : f.t = 0 ∨ f.t = 1 := (hF.file f (findL_mem h).1).1
theorem len_bound {s : DS} (hF : s.Fit) {f : DF} {n : Int} (h : findL n s.fs = some f) : f.data.length ≤ 67108864 ∧ blk f.data.length ≤ 1048576 := by
  have h1 := blk_le f.data.length
  have hm := (findL_mem h).1
  rcases tier_cases hF h with e | e
  · have := used_ge hm e; have := hF.u0; have := hF.r0; omega
  · have := used_ge hm e; have := hF.u1; have := hF.r1; omega
/-- The file is gone. -/
theorem DS.Fit.del {s : DS} (h : s.Fit) {n : Int} {f : DF} (hf : findL n s.fs = some f) (hr : n ≠ s.root) : ({ s with fs := delL n s.fs } : DS).Fit := by
  have huse := fun t => used_del t n h.nod hf
  refine ⟨h.r0, h.r1, ?_, ?_, ?_, ?_, ?_, h.l0, h.l1⟩
  · have := huse 0; have := h.u0; simp only at *; omega
  · have := huse 1; have := h.u1; simp only at *; omega
  · exact h.nod.sublist (List.filter_sublist.map _)
  · exact fun x hx => h.file x (List.mem_filter.1 hx).1
  · rcases h.root with e | ⟨y, hy, hyn, hys⟩
    · exact .inl e
    · exact .inr ⟨y, List.mem_filter.2 ⟨hy, by simp; rw [hyn]; exact Ne.symm hr⟩, hyn, hys⟩

end Go.Proofs.Ytlpknhiagdhkcaa
