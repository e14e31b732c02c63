/- Texts put together: ManOps1, ManCall, ManPlain2, ManCmp, ManAtS, ManFindS, ManCopy -/
import Derived.Test.YtljjielekgilpaaGreatMApp01
import Derived.Test.YtljjielekgilpaaGreatMApp00
import Derived.RegionTactic
import Derived.Shelf.Abstract
import Derived.Sort.Grow
import Derived.Sort.Statements
import Derived.Shelf.SlSortCmp.QuietGrown
import Derived.Laws.IdiomCopy
import Derived.Shelf.Spec.SlicesInsert
/- What a draft does: whether a file may be added, a log more, the number of the next file. -/
set_option linter.unusedVariables false
set_option maxRecDepth 100000
namespace Go.Proofs.YtljjielekgilpaaGreat
open Go.RowKit Go.Maps Go.WideShapes Go.ChangeMaps
variable {B db mb : Nat} {w : World} {s : St} {tv sv lv : Value}

def mayE (s : St) (f : Int) : Int := if f < 1 then 1 else if f ∈ s.files then 10 else 0
set_option maxHeartbeats 2000000 in
theorem may_add (h : Hid (Dr B w db s tv sv lv mb)) (f : Int) (hf : f ≤ 9223372036854775807) :
    Calls Tryz.prog 159 #[.pointer (some ⟨db, 0, none⟩), .int .i64 f] w fun e w' => e = .returned (.int .i64 (mayE s f)) ∧ Below w.heap.size w w' := by
  have HM := Lib.hid (show mayE s f = _ from rfl)
  obtain ⟨z, hz⟩ : ∃ z, z = mayE s f := ⟨_, rfl⟩
  rw [← hz]
  have HZ := Lib.hid hz
  clear HM hz
  have c4 : w.cell? ⟨db, 4, none⟩ = some (.map (some mb)) := h.out.cell 4
  by_cases h1 : f < 1
  · have hv := Lib.hid (show z = 1 by rw [HZ.out]; unfold mayE; rw [if_pos h1])
    clear HZ
    go_enter Tryz.func159, Tryz.ntmps159
    go_wp2
    go_ret
    exact ⟨by rw [hv.out]; rfl, Below.refl _ _⟩
  · obtain ⟨l, hl, hp⟩ := h.out.set
    have hw : (Lit.int .i64 f).wf = true := wf_i64 (by omega) hf
    have hkey : keyOf Tryz.prog 3 (.int .i64 f) = some (.int .i64 f) := keyOf_int_mk Tryz.underlying3 hw
    have hhas := set_has hp f
    have HH := Lib.hid (And.intro hl hkey)
    obtain ⟨b, hb⟩ : ∃ b, b = decide (f ∈ s.files) := ⟨_, rfl⟩
    rw [← hb] at hhas
    have hv := Lib.hid (show z = if b then 10 else 0 by rw [HZ.out, hb]; unfold mayE; rw [if_neg h1]; simp)
    clear HZ hl hkey hp hw hb
    cases b
    all_goals
      go_enter Tryz.func159, Tryz.ntmps159
      go_wp2_with (at_lookup; refine wpList_lookup_own_unit _ rfl _ _ 81 rfl 3 138 keyedI Tryz.underlying81 (zeroU _) mb _ _ rfl HH.out.1 _ _ rfl HH.out.2 ?_)
      go_ret
      exact ⟨by rw [hv.out]; rfl, (Below.refl _ _).alloc (Nat.le_refl _) _⟩

/-- What a call of a draft leaves: its error; where there is none, the draft of the state behind it. -/
def DoPost (B db : Nat) (w : World) (z : Int) (s' : St) (e : Ending) (w' : World) : Prop := e = .returned (.int .i64 z) ∧ Below B w w' ∧ (z = 0 → ∃ tv sv lv mb, Dr B w' db s' tv sv lv mb)
theorem do_bad {w' : World} {z : Int} {s' : St} (h : Below B w w') (hz : ¬ z = 0) : DoPost B db w z s' (.returned (.int .i64 z)) w' := ⟨rfl, h, fun e => absurd e hz⟩

set_option maxHeartbeats 4000000 in
theorem add_log (h : Hid (Dr B w db s tv sv lv mb)) (f : Int) (hf : f ≤ 9223372036854775807) (hn : Hid (s.logs.length ≤ 1000000000 ∧ s.files.length ≤ 1000000000)) :
    Calls Tryz.prog 120 #[.pointer (some ⟨db, 0, none⟩), .int .i64 f] w (DoPost B db w (mayE s f) { s with logs := s.logs ++ [f] }) := by
  have HM := Lib.hid (may_add h f hf)
  obtain ⟨z, hz⟩ : ∃ z, z = mayE s f := ⟨_, rfl⟩
  rw [← hz] at HM ⊢
  have HZ := Lib.hid hz
  clear hz
  have HB := Lib.hid (show B ≤ w.heap.size by have := h.out.lo; have := h.out.lt; omega)
  by_cases hz0 : z = 0
  · subst hz0
    obtain ⟨hf1, hno⟩ : 1 ≤ f ∧ ¬ f ∈ s.files := by
      have := HZ.out
      unfold mayE at this
      split at this
      · cases this
      · split at this
        · cases this
        · rename_i a b; exact ⟨by omega, b⟩
    have HNO := Lib.hid hno
    have hw : (Lit.int .i64 f).wf = true := wf_i64 (by omega) hf
    have HK := Lib.hid (show keyOf Tryz.prog 3 (.int .i64 f) = some (.int .i64 f) from keyOf_int_mk Tryz.underlying3 hw)
    obtain ⟨i0, hi0, hz0, hz1, hz2⟩ := info_parts infoInt
    have HI := Lib.hid (And.intro hi0 (And.intro hz0 (And.intro hz1 hz2)))
    clear hno hw hi0 hz0 hz1 hz2 HZ
    go_enter Tryz.func120, Tryz.ntmps120
    go_wp2_with fail
    refine HM.out.mono ?_
    rintro e w1 ⟨rfl, k1⟩
    have D1 := Lib.hid (h.out.below k1)
    have K1 := Lib.hid (k1.mono HB.out)
    clear k1
    have c0 : w1.cell? ⟨db, 2, none⟩ = some lv := D1.out.cell 2
    obtain ⟨la, lc, rfl⟩ := OffRow.slice D1.out.logs
    obtain ⟨n, hnl⟩ : ∃ n, n = s.logs.length := ⟨_, rfl⟩
    rw [← hnl] at c0
    have OL := Lib.hid (show OffRow w1 B 3 1 (.slice la n lc) n (flat icell s.logs) by rw [hnl]; exact D1.out.logs)
    rw [← hnl] at D1 h
    have HN := Lib.hid hnl
    clear hnl
    go_wp2_with (at_builtin; refine wpList_append_off rfl (.tmp 17) (.tmp 19) 27 rfl B 3 i0 _ 1 8 Tryz.underlying27 HI.out.1 HI.out.2.1 HI.out.2.2.1 HI.out.2.2.2 rfl (.slice la n lc) n (flat icell s.logs) rfl (OL.out.allocd _) (.slice (some ⟨w1.heap.size, 0, none⟩) 1 1) rfl 1 [.int .i64 f] ?c2 ?c3 ?c4 ?c5 ?_)
    case c2 => exact src_block (size := 1) (cs := #[.int .i64 f]) Tryz.underlying27 (heap_new _ _) 1 1 rfl (by intro u hu; simp at hu; subst hu; rfl)
    case c3 => have := hn.out.1; have := HN.out; unfold maxLen; omega
    case c4 => have := hn.out.1; have := HN.out; omega
    case c5 => have := D1.out.lo; have := D1.out.lt; simp; omega
    intro VV w2 hr2 hg2 hat2
    obtain ⟨a2, c2', rfl⟩ := OffRow.slice hr2
    have O2 := Lib.hid (show OwnI w2 B (.slice a2 (n + 1) c2') (s.logs ++ [f]) by unfold OwnI; rw [List.length_append, flat_append, flat_one, ← HN.out]; exact hr2)
    have K2 := Lib.hid ((K1.out.alloc (by have := K1.out.size; have := HB.out; omega) (.cells #[.int .i64 f] 3)).grown hg2 (by have := K1.out.size; have := HB.out; simp; omega) (fun j hj => ((OL.out.allocd (.cells #[.int .i64 f] 3)).lt j hj).1))
    have k2 : ∀ j, j < w1.heap.size → (Value.slice la n lc).ownBlock ≠ some j → w2.heap[j]? = w1.heap[j]? := fun j hj hne => (hg2.block j (by simp; omega) (fun e => hne e.symm)).trans (Below.heap_alloc w1 _ j hj)
    have hv2 : ∀ g, (Value.slice a2 (n + 1) c2').ownBlock = some g → g ≠ db := fun g hg => by
      rcases hat2 with e | e
      · rw [e] at hg; exact (D1.out.nl hg).1
      · rw [e] at hg
        have := D1.out.lt
        simp at hg
        omega
    obtain ⟨p1, p2, p3, p4, p5⟩ := D1.out.putL O2.out k2 hv2
    have P := Lib.hid (And.intro p1 (And.intro p2 (And.intro p3 (And.intro p4 p5))))
    have e2 : w2.heap[db]? = _ := (k2 db D1.out.lt (fun e => (D1.out.nl e).1 rfl)).trans D1.out.obj
    have d2 : w2.cell? ⟨db, 2, none⟩ = some (.slice la n lc) := by simp [World.cell?, e2]
    have f2 : w2.frozen? ⟨db, 2, none⟩ = false := by simp [World.frozen?, e2]
    have d4 : (w2.setCell ⟨db, 2, none⟩ (.slice a2 (n + 1) c2')).cell? ⟨db, 4, none⟩ = some (.map (some mb)) := by simp [World.cell?, p1]
    have K3 := Lib.hid (K2.out.setCell (p := ⟨db, 2, none⟩) D1.out.lo (.slice a2 (n + 1) c2'))
    obtain ⟨l, hl, hp⟩ := p5
    have HL := Lib.hid (And.intro hl hp)
    have hmx : s.files.length < maxLen := by have := hn.out.2; unfold maxLen; omega
    clear hr2 hg2 hat2 k2 hv2 p1 p2 p3 p4 e2 hl hp c0
    go_wp2_with (at_mapUpdate; refine wpList_mapUpdate_own _ rfl _ _ _ 81 rfl 3 138 keyedI Tryz.underlying81 _ mb _ _ rfl HL.out.1 hmx _ _ _ rfl rfl HK.out _ [] unitElem_mk ?_)
    intro w4 hown4 hgrow4
    have S4 := Lib.hid (set_put HL.out.2 HNO.out hown4)
    have G4 := Lib.hid hgrow4
    clear hown4 hgrow4
    go_wp2
    go_ret
    refine ⟨rfl, K3.out.grown G4.out (by have := K3.out.size; have := HB.out; omega) (fun j hj => by injection hj with hj; rw [← hj]; exact D1.out.mlo), fun _ => ?_⟩
    have d0 : Dr0 B (w2.setCell ⟨db, 2, none⟩ (.slice a2 (n + 1) c2')) db { s with logs := s.logs ++ [f] } s.files tv sv (.slice a2 (n + 1) c2') mb := ⟨P.out.1, D1.out.lo, P.out.2.1, P.out.2.2.1, P.out.2.2.2.1, P.out.2.2.2.2, D1.out.mlo⟩
    refine ⟨tv, sv, (.slice a2 (n + 1) c2'), mb, Dr.of0 (d0.turn S4.out fun j hj hne => G4.out.block j hj (fun e => hne (by injection e))) ?_⟩
    show (f :: s.files).Perm (s.tabs.map (·.file) ++ s.stos.map (·.file) ++ (s.logs ++ [f]))
    rw [← List.append_assoc]
    exact (List.perm_append_singleton f s.files).symm
  · clear HZ
    go_enter Tryz.func120, Tryz.ntmps120
    go_wp2_with fail
    refine HM.out.mono ?_
    rintro e w1 ⟨rfl, k1⟩
    have K1 := Lib.hid (k1.mono HB.out)
    clear k1
    go_wp2
    go_ret
    exact do_bad K1.out hz0
end Go.Proofs.YtljjielekgilpaaGreat
/- A call by contract as one step of a region that draws. -/
set_option linter.unusedVariables false
set_option maxRecDepth 100000
namespace Go.Proofs.YtljjielekgilpaaGreat
open Go.RowKit
theorem step_callR {P : Program} {ops : Array Oper} {o : Oper} {a : Act} {w : World} {K : Act → World → Prop} {Q : Exit → Act → World → Prop} {E : Prop}
    (hg : o.guard = none) (f : FuncId) (xs : Array Operand) (ts : Array TypeId) (hop : o.op = Op.call { callee := Callee.value (Operand.func f), args := xs, argTypes := ts }) (hent : Enters P f)
    (args : Array Value) (hargs : xs.map a.eval = args) (R : Value → World → Prop) (hc : Calls P f args w fun e w' => ∃ v, e = .returned v ∧ R v w') (hK : ∀ v w1, R v w1 → K (a.put o.dst v) w1) :
    if Region.wanted o (yielded ops a.tmps) = true then Oper.wp P o a w K Q else E := by
  have hw : Region.wanted o (yielded ops a.tmps) = true := by simp [Region.wanted, hg]
  rw [if_pos hw]
  unfold Oper.wp
  unfold Enters at hent
  subst hargs
  simp [execOp, hop, resolve, invoke, hent, Result.andThen, Act.eval, Deferred.ofValue]
  refine hc.mono ?_
  rintro e w' ⟨v, rfl, hR⟩
  exact hK v w' hR
end Go.Proofs.YtljjielekgilpaaGreat
/- What is taken out of a state; what is beside a table's place. -/
set_option linter.unusedVariables false
set_option maxRecDepth 100000
namespace Go.Proofs.YtljjielekgilpaaGreat

theorem filter_erase {α : Type} (g : α → Int) : ∀ {L : List α} {i : Nat} {x : α}, (L.map g).Nodup → L[i]? = some x → L.filter (fun t => decide (g t ≠ g x)) = L.eraseIdx i
  | y :: L, 0, x, hn, hx => by
    obtain rfl : y = x := by simpa using hx
    rw [List.map_cons, List.nodup_cons] at hn
    rw [List.filter_cons, if_neg (by simp), List.eraseIdx_cons_zero]
    refine List.filter_eq_self.2 fun t ht => ?_
    have : g t ≠ g y := fun e => hn.1 (List.mem_map.2 ⟨t, ht, e⟩)
    simpa using this
  | y :: L, i + 1, x, hn, hx => by
    have hx' : L[i]? = some x := by simpa using hx
    rw [List.map_cons, List.nodup_cons] at hn
    have hne : g y ≠ g x := fun e => hn.1 (List.mem_map.2 ⟨x, List.mem_of_getElem? hx', e.symm⟩)
    rw [List.filter_cons, if_pos (by simpa using hne), List.eraseIdx_cons_succ, filter_erase g hn.2 hx']
theorem filter_none {f : Int} {L : List Int} (h : ¬ f ∈ L) : L.filter (fun g => decide (g ≠ f)) = L := List.filter_eq_self.2 fun g hg => by
  have : g ≠ f := fun e => h (e ▸ hg)
  simpa using this
theorem map_filter_file {α : Type} (g : α → Int) (f : Int) (L : List α) : (L.map g).filter (fun x => decide (x ≠ f)) = (L.filter fun t => decide (g t ≠ f)).map g := by rw [List.filter_map]; rfl
theorem nodup3 {A B C : List Int} (h : (A ++ B ++ C).Nodup) {f : Int} : (f ∈ A → ¬ f ∈ B ∧ ¬ f ∈ C) ∧ (f ∈ B → ¬ f ∈ A ∧ ¬ f ∈ C) ∧ (f ∈ C → ¬ f ∈ A ∧ ¬ f ∈ B) := by
  obtain ⟨h1, h2, h3⟩ := List.nodup_append.1 h
  obtain ⟨h4, h5, h6⟩ := List.nodup_append.1 h1
  refine ⟨fun ha => ⟨fun hb => h6 f ha f hb rfl, fun hc => h3 f (List.mem_append_left _ ha) f hc rfl⟩, fun hb => ⟨fun ha => h6 f ha f hb rfl, fun hc => h3 f (List.mem_append_right _ hb) f hc rfl⟩, fun hc => ⟨fun ha => h3 f (List.mem_append_left _ ha) f hc rfl, fun hb => h3 f (List.mem_append_right _ hb) f hc rfl⟩⟩
theorem drop_T {s : St} (h : s.files.Nodup) {i : Nat} {x : Tb} (hx : s.tabs[i]? = some x) : s.tabs.filter (fun t => decide (t.file ≠ x.file)) = s.tabs.eraseIdx i ∧ s.files.filter (fun g => decide (g ≠ x.file)) = ({ s with tabs := s.tabs.eraseIdx i } : St).files := by
  have h' : (s.tabs.map (·.file) ++ s.stos.map (·.file) ++ s.logs).Nodup := h
  have e := filter_erase Tb.file (List.nodup_append.1 (List.nodup_append.1 h').1).1 hx
  have hm : x.file ∈ s.tabs.map (·.file) := List.mem_map.2 ⟨x, List.mem_of_getElem? hx, rfl⟩
  have hq := (nodup3 h' (f := x.file)).1 hm
  refine ⟨e, ?_⟩
  show (s.tabs.map (·.file) ++ s.stos.map (·.file) ++ s.logs).filter _ = (s.tabs.eraseIdx i).map (·.file) ++ s.stos.map (·.file) ++ s.logs
  rw [List.filter_append, List.filter_append, filter_none hq.1, filter_none hq.2, map_filter_file, e]
theorem drop_S {s : St} (h : s.files.Nodup) {i : Nat} {x : So} (hx : s.stos[i]? = some x) : s.stos.filter (fun t => decide (t.file ≠ x.file)) = s.stos.eraseIdx i ∧ s.files.filter (fun g => decide (g ≠ x.file)) = ({ s with stos := s.stos.eraseIdx i } : St).files := by
  have h' : (s.tabs.map (·.file) ++ s.stos.map (·.file) ++ s.logs).Nodup := h
  have e := filter_erase So.file (List.nodup_append.1 (List.nodup_append.1 h').1).2.1 hx
  have hm : x.file ∈ s.stos.map (·.file) := List.mem_map.2 ⟨x, List.mem_of_getElem? hx, rfl⟩
  have hq := (nodup3 h' (f := x.file)).2.1 hm
  refine ⟨e, ?_⟩
  show (s.tabs.map (·.file) ++ s.stos.map (·.file) ++ s.logs).filter _ = s.tabs.map (·.file) ++ (s.stos.eraseIdx i).map (·.file) ++ s.logs
  rw [List.filter_append, List.filter_append, filter_none hq.1, filter_none hq.2, map_filter_file, e]
theorem drop_I {s : St} (h : s.files.Nodup) {i : Nat} {x : Int} (hx : s.logs[i]? = some x) : s.logs.filter (fun t => decide (t ≠ x)) = s.logs.eraseIdx i ∧ s.files.filter (fun g => decide (g ≠ x)) = ({ s with logs := s.logs.eraseIdx i } : St).files := by
  have h' : (s.tabs.map (·.file) ++ s.stos.map (·.file) ++ s.logs).Nodup := h
  have e := filter_erase id (by simpa using (List.nodup_append.1 h').2.1) hx
  have hm : x ∈ s.logs := List.mem_of_getElem? hx
  have hq := (nodup3 h' (f := x)).2.2 hm
  have e' : s.logs.filter (fun t => decide (t ≠ x)) = s.logs.eraseIdx i := e
  refine ⟨e', ?_⟩
  show (s.tabs.map (·.file) ++ s.stos.map (·.file) ++ s.logs).filter _ = s.tabs.map (·.file) ++ s.stos.map (·.file) ++ s.logs.eraseIdx i
  rw [List.filter_append, List.filter_append, filter_none hq.1, filter_none hq.2, e']

/-- The tables beside a place. -/
def besides (L : List Tb) (k : Nat) : List Tb := (L.take (min (k + 1) L.length)).drop (k - 1)
theorem mem_besides {L : List Tb} {k i : Nat} {u : Tb} (hi : L[i]? = some u) (h1 : i = k ∨ i + 1 = k) : u ∈ besides L k := by
  have hlt := (List.getElem?_eq_some_iff.1 hi).1
  unfold besides
  refine List.mem_iff_getElem?.2 ⟨i - (k - 1), ?_⟩
  rw [List.getElem?_drop, List.getElem?_take, if_pos (by omega), show k - 1 + (i - (k - 1)) = i by omega]
  exact hi
theorem besides_sub {L : List Tb} {k : Nat} {u : Tb} (h : u ∈ besides L k) : u ∈ L := (List.take_subset _ _) (List.drop_subset _ _ h)
theorem lb_at (t : Tb) : ∀ {L : List Tb}, (L.Pairwise fun a b => tlt a b = true) → ∀ {i : Nat} {u : Tb}, L[i]? = some u → (i < lbT t L ↔ tlt u t = true)
  | v :: L, h, i, u, hi => by
    rw [List.pairwise_cons] at h
    rw [lbT_cons]
    cases hv : tlt v t with
    | true =>
      rw [if_pos rfl]
      cases i with
      | zero =>
        obtain rfl : v = u := by simpa using hi
        exact ⟨fun _ => hv, fun _ => by omega⟩
      | succ i =>
        have hi' : L[i]? = some u := by simpa using hi
        rw [Nat.succ_lt_succ_iff]
        exact lb_at t h.2 hi'
    | false =>
      rw [if_neg (by simp)]
      refine ⟨fun x => by omega, fun x => ?_⟩
      exfalso
      cases i with
      | zero =>
        obtain rfl : v = u := by simpa using hi
        rw [hv] at x; cases x
      | succ i =>
        have hi' : L[i]? = some u := by simpa using hi
        have := tlt_trans (h.1 u (List.mem_of_getElem? hi')) x
        rw [hv] at this; cases this
theorem lb_atS (t : So) : ∀ {L : List So}, (L.Pairwise fun a b => a.file < b.file) → ∀ {i : Nat} {u : So}, L[i]? = some u → (i < lbS t L ↔ u.file < t.file)
  | v :: L, h, i, u, hi => by
    rw [List.pairwise_cons] at h
    rw [lbS_cons]
    by_cases hv : v.file < t.file
    · rw [if_pos hv]
      cases i with
      | zero =>
        obtain rfl : v = u := by simpa using hi
        exact ⟨fun _ => hv, fun _ => by omega⟩
      | succ i =>
        have hi' : L[i]? = some u := by simpa using hi
        rw [Nat.succ_lt_succ_iff]
        exact lb_atS t h.2 hi'
    · rw [if_neg hv]
      refine ⟨fun x => by omega, fun x => ?_⟩
      exfalso
      cases i with
      | zero =>
        obtain rfl : v = u := by simpa using hi
        exact hv x
      | succ i =>
        have hi' : L[i]? = some u := by simpa using hi
        have := h.1 u (List.mem_of_getElem? hi')
        omega
theorem files_insS (s : St) (x : So) : (s.tabs.map (·.file) ++ (insS x s.stos).map (·.file) ++ s.logs).Perm (x.file :: s.files) := by
  have h1 : ((insS x s.stos).map (·.file)).Perm (x.file :: s.stos.map (·.file)) := (insS_perm x s.stos).map So.file
  have h2 := ((h1.append_left (s.tabs.map (·.file))).append_right s.logs)
  refine h2.trans ?_
  show (s.tabs.map (·.file) ++ x.file :: s.stos.map (·.file) ++ s.logs).Perm (x.file :: (s.tabs.map (·.file) ++ s.stos.map (·.file) ++ s.logs))
  rw [List.append_assoc, List.append_assoc]
  exact List.perm_middle
theorem files_insT (s : St) (x : Tb) : ((insT x s.tabs).map (·.file) ++ s.stos.map (·.file) ++ s.logs).Perm (x.file :: s.files) := by
  have h1 : ((insT x s.tabs).map (·.file)).Perm (x.file :: s.tabs.map (·.file)) := (insT_perm x s.tabs).map Tb.file
  exact (h1.append_right (s.stos.map (·.file))).append_right s.logs
/-- Some table meets the new one just if one beside its place does. -/
theorem meets_beside {L : List Tb} {t : Tb} (hr : L.Pairwise fun a b => tlt a b = true) (ha : L.Pairwise fun a b => a.lev = b.lev → 0 < a.lev → ltB a.high b.low = true) (hw : ∀ u ∈ L, ltB u.high u.low = false) (ht : ltB t.high t.low = false) (hl : 0 < t.lev) :
    L.any (meets t) = (besides L (lbT t L)).any (meets t) := by
  rw [Bool.eq_iff_iff]
  constructor
  · intro h
    obtain ⟨u, hu, hm⟩ := List.any_eq_true.1 h
    obtain ⟨i, hi⟩ := List.mem_iff_getElem?.1 hu
    have hlt := (List.getElem?_eq_some_iff.1 hi).1
    unfold meets at hm
    simp only [Bool.and_eq_true, decide_eq_true_eq, Bool.not_eq_true'] at hm
    obtain ⟨⟨hlev, m1⟩, m2⟩ := hm
    have pr : ∀ {a b : Nat} {x y : Tb}, a < b → L[a]? = some x → L[b]? = some y → tlt x y = true ∧ (x.lev = y.lev → 0 < x.lev → ltB x.high y.low = true) := fun {a b x y} hab hx hy => by
      obtain ⟨h1, e1⟩ := List.getElem?_eq_some_iff.1 hx
      obtain ⟨h2, e2⟩ := List.getElem?_eq_some_iff.1 hy
      rw [← e1, ← e2]
      exact ⟨List.pairwise_iff_getElem.1 hr a b h1 h2 hab, List.pairwise_iff_getElem.1 ha a b h1 h2 hab⟩
    have hkl := lbT_le t L
    rcases Nat.lt_or_ge i (lbT t L) with hk | hk
    · by_cases hk1 : i + 1 = lbT t L
      · exact List.any_eq_true.2 ⟨u, mem_besides hi (.inr hk1), by unfold meets; simp [hlev, m1, m2]⟩
      · exfalso
        obtain ⟨v, hv⟩ : ∃ v, L[lbT t L - 1]? = some v := ⟨_, List.getElem?_eq_getElem (by omega)⟩
        have hvt := (lb_at t hr hv).1 (by omega)
        obtain ⟨q1, q2⟩ := pr (by omega : i < lbT t L - 1) hi hv
        have l1 := tlt_lev q1; have l2 := tlt_lev hvt
        have q3 := q2 (by omega) (by omega)
        have q4 : ltB v.low t.low = true := by
          unfold tlt at hvt
          rw [if_pos (by omega), if_neg (by omega)] at hvt
          exact hvt
        rw [ltB_trans q3 q4] at m1; cases m1
    · by_cases hk1 : i = lbT t L
      · exact List.any_eq_true.2 ⟨u, mem_besides hi (.inl hk1), by unfold meets; simp [hlev, m1, m2]⟩
      · obtain ⟨v, hv⟩ : ∃ v, L[lbT t L]? = some v := ⟨_, List.getElem?_eq_getElem (by omega)⟩
        have hvt : tlt v t = false := by
          have := mt (lb_at t hr hv).2 (by omega)
          simpa using this
        obtain ⟨q1, q2⟩ := pr (by omega : lbT t L < i) hv hi
        have l1 := tlt_lev q1
        have l2 : t.lev ≤ v.lev := by
          unfold tlt at hvt
          split at hvt
          · omega
          · simp at hvt; omega
        have q3 := q2 (by omega) (by omega)
        have q4 : ltB v.low t.low = false := by
          unfold tlt at hvt
          rw [if_pos (by omega), if_neg (by omega)] at hvt
          exact hvt
        refine List.any_eq_true.2 ⟨v, mem_besides hv (.inl rfl), ?_⟩
        have r1 : ltB v.high t.low = false := by
          cases e : ltB v.high t.low with
          | false => rfl
          | true =>
            have := ltB_lt_le e q4
            rw [hw v (List.mem_of_getElem? hv)] at this; cases this
        have r2 : ltB t.high v.low = false := by
          cases e : ltB t.high v.low with
          | false => rfl
          | true =>
            have x1 := ltB_lt_le e (hw v (List.mem_of_getElem? hv))
            have x2 := ltB_trans x1 q3
            rw [m2] at x2; cases x2
        unfold meets
        simp [r1, r2]
        omega
  · intro h
    obtain ⟨u, hu, hm⟩ := List.any_eq_true.1 h
    exact List.any_eq_true.2 ⟨u, besides_sub hu, hm⟩
end Go.Proofs.YtljjielekgilpaaGreat
/- How tables and stores are compared. -/
set_option linter.unusedVariables false
set_option maxRecDepth 100000
namespace Go.Proofs.YtljjielekgilpaaGreat
open Go.RowKit Go.Sort

def cmpI (a b : Int) : Int := if a < b then -1 else if b < a then 1 else 0
def cmpL (a b : List UInt8) : Int := if ltB a b then -1 else if ltB b a then 1 else 0
theorem cmpL_lt {a b : List UInt8} (h : ltB a b = true) : cmpL a b = -1 := by simp [cmpL, h]
theorem cmpL_gt {a b : List UInt8} (h : ltB b a = true) : cmpL a b = 1 := by simp [cmpL, h, ltB_asymm h]
theorem cmpL_eq {a b : List UInt8} (h : a = b) : cmpL a b = 0 := by subst h; simp [cmpL, ltB_irrefl]
def cfT (a b : Tb) : Int := if a.lev = b.lev then (if a.lev = 0 then cmpI b.file a.file else cmpL a.low b.low) else cmpI a.lev b.lev
def cfS (a b : So) : Int := cmpI a.file b.file
theorem cmpI_neg (a b : Int) : decide (cmpI a b < 0) = decide (a < b) := by
  unfold cmpI
  by_cases h : a < b
  · simp [h]
  · by_cases h2 : b < a <;> simp [h, h2]
theorem cmpL_neg (a b : List UInt8) : decide (cmpL a b < 0) = ltB a b := by
  unfold cmpL
  cases h : ltB a b with
  | true => simp
  | false => cases h2 : ltB b a <;> simp
theorem cfT_neg (a b : Tb) : decide (cfT a b < 0) = tlt a b := by
  unfold cfT tlt
  split
  · split
    · exact cmpI_neg _ _
    · exact cmpL_neg _ _
  · exact cmpI_neg _ _
theorem cfS_neg (a b : So) : decide (cfS a b < 0) = decide (a.file < b.file) := cmpI_neg _ _
theorem cmpI_range (a b : Int) : -1 ≤ cmpI a b ∧ cmpI a b ≤ 1 := by unfold cmpI; split <;> (try split) <;> omega

set_option maxHeartbeats 1000000 in
theorem cmp_int (a b : Int) (w : World) : Calls Tryz.prog 115 #[.int .i64 a, .int .i64 b] w fun e w' => e = .returned (.int .i64 (cmpI a b)) ∧ w' = w := by
  have ha : (a == a) = true := by simp
  have hb : (b == b) = true := by simp
  rcases Int.lt_trichotomy a b with h | h | h
  · have h1 : decide (a < b) = true := decide_eq_true h
    have hv := Lib.hid (show cmpI a b = -1 by unfold cmpI; rw [if_pos h])
    clear h
    rw [hv.out]
    go_enter Tryz.func115, Tryz.ntmps115
    go_wp2
    go_ret
    exact ⟨rfl, rfl⟩
  · subst h
    have h1 : decide (a < a) = false := by simp
    have hv := Lib.hid (show cmpI a a = 0 by unfold cmpI; simp)
    rw [hv.out]
    go_enter Tryz.func115, Tryz.ntmps115
    go_wp2
    go_ret
    exact ⟨rfl, rfl⟩
  · have h1 : decide (b < a) = true := decide_eq_true h
    have h2 : decide (a < b) = false := decide_eq_false (by omega)
    have h3 : ¬ a < b := by omega
    have hv := Lib.hid (show cmpI a b = 1 by unfold cmpI; rw [if_neg h3, if_pos h])
    rw [hv.out]
    go_enter Tryz.func115, Tryz.ntmps115
    go_wp2
    go_ret
    exact ⟨rfl, rfl⟩
set_option maxHeartbeats 1000000 in
theorem cmp_isNaN (a : ByteArray) (w : World) : Calls Tryz.prog 150 #[.string a] w fun e w' => e = .returned (.bool false) ∧ w' = w := by
  go_enter Tryz.func150, Tryz.ntmps150
  go_wp2
  go_ret
  simp
set_option maxHeartbeats 1000000 in
theorem cmp_Compare (a b : List UInt8) (w : World) : Calls Tryz.prog 116 #[.string (bs a), .string (bs b)] w fun e w' => e = .returned (.int .i64 (cmpL a b)) ∧ w' = w := by
  have hab : Op.bytesLess (bs a).toList (bs b).toList = ltB a b := by rw [Lib.toList_data, Lib.toList_data, bs_list, bs_list, ltB_less]
  have hba : Op.bytesLess (bs b).toList (bs a).toList = ltB b a := by rw [Lib.toList_data, Lib.toList_data, bs_list, bs_list, ltB_less]
  have heq : ((bs a).toList == (bs b).toList) = (a == b) := by rw [Lib.toList_data, Lib.toList_data, bs_list, bs_list]
  obtain ⟨c, hc⟩ : ∃ c, c = cmpL a b := ⟨_, rfl⟩
  rw [← hc]
  have HC := Lib.hid hc
  clear hc
  have HN := fun x w => Lib.hid (cmp_isNaN x w)
  go_enter Tryz.func116, Tryz.ntmps116
  rcases ltB_total a b with h | h | h
  · rw [h] at hab
    have HC1 := Lib.hid (HC.out.trans (cmpL_lt h))
    clear h HC hba heq
    go_wp2_with (go_at_call 150; with_reducible refine (HN _ _).out.mono ?_; rintro e w1 ⟨rfl, rfl⟩)
    all_goals go_ret
    all_goals exact ⟨by rw [HC1.out]; rfl, rfl⟩
  · have h1 : ltB a b = false := by rw [h, ltB_irrefl]
    have h2 : (a == b) = true := by simpa using h
    rw [h1] at hab
    rw [h2] at heq
    have HC1 := Lib.hid (HC.out.trans (cmpL_eq h))
    clear h h1 h2 HC hba
    go_wp2_with (go_at_call 150; with_reducible refine (HN _ _).out.mono ?_; rintro e w1 ⟨rfl, rfl⟩)
    all_goals go_ret
    all_goals exact ⟨by rw [HC1.out]; rfl, rfl⟩
  · have h2 : (a == b) = false := by simpa using (ltB_ne h).symm
    rw [ltB_asymm h] at hab
    rw [h2] at heq
    have HC1 := Lib.hid (HC.out.trans (cmpL_gt h))
    clear h h2 HC hba
    go_wp2_with (go_at_call 150; with_reducible refine (HN _ _).out.mono ?_; rintro e w1 ⟨rfl, rfl⟩)
    all_goals go_ret
    all_goals exact ⟨by rw [HC1.out]; rfl, rfl⟩

theorem grown2 (w : World) (a b : Obj) : ∃ q os', (w.alloc a).alloc b = grow (w.drewN q) os' := ⟨0, _, by rw [alloc_eq_grow, alloc_eq_grow, grow_grow]; rfl⟩
set_option maxHeartbeats 1000000 in
theorem table_order (a b : Tb) (w : World) : Calls Tryz.prog 79 #[.agg (tcell a).toArray, .agg (tcell b).toArray] w fun e w' => e = .returned (.int .i64 (cfT a b)) ∧ ∃ q os', w' = grow (w.drewN q) os' := by
  have hI := fun x y W => Lib.hid (cmp_int x y W)
  have hS := fun x y W => Lib.hid (cmp_Compare x y W)
  show Calls Tryz.prog 79 #[.agg #[.int .i64 a.file, .int .i64 a.lev, .int .i64 a.cnt, .string (bs a.low), .string (bs a.high)], .agg #[.int .i64 b.file, .int .i64 b.lev, .int .i64 b.cnt, .string (bs b.low), .string (bs b.high)]] w _
  have HV := Lib.hid (show cfT a b = _ from rfl)
  obtain ⟨r, hr⟩ : ∃ r, r = cfT a b := ⟨_, rfl⟩
  rw [← hr]
  have HR := Lib.hid hr
  clear hr
  cases a with | mk af al ac alo ahi =>
  cases b with | mk bf bl bc blo bhi =>
  by_cases h : al = bl
  · subst h
    by_cases h0 : al = 0
    · have hv := Lib.hid (show r = cmpI bf af by rw [HR.out]; unfold cfT; rw [if_pos rfl, if_pos h0])
      clear HV HR
      subst h0
      go_enter Tryz.func79, Tryz.ntmps79
      go_wp2_with (go_at_call 115; with_reducible refine (hI _ _ _).out.mono ?_; rintro e w1 ⟨rfl, rfl⟩)
      go_ret
      exact ⟨by rw [hv.out]; rfl, grown2 _ _ _⟩
    · have hv := Lib.hid (show r = cmpL alo blo by rw [HR.out]; unfold cfT; rw [if_pos rfl, if_neg h0])
      clear HV HR
      have h0' : (al == 0) = false := by simpa using h0
      go_enter Tryz.func79, Tryz.ntmps79
      go_wp2_with (go_at_call 116; with_reducible refine (hS _ _ _).out.mono ?_; rintro e w1 ⟨rfl, rfl⟩)
      go_ret
      exact ⟨by rw [hv.out]; rfl, grown2 _ _ _⟩
  · have hv := Lib.hid (show r = cmpI al bl by rw [HR.out]; unfold cfT; rw [if_neg h])
    clear HV HR
    have h0' : (al == bl) = false := by simpa using h
    go_enter Tryz.func79, Tryz.ntmps79
    go_wp2_with (go_at_call 115; with_reducible refine (hI _ _ _).out.mono ?_; rintro e w1 ⟨rfl, rfl⟩)
    go_ret
    exact ⟨by rw [hv.out]; rfl, grown2 _ _ _⟩
set_option maxHeartbeats 1000000 in
theorem store_order (a b : So) (w : World) : Calls Tryz.prog 81 #[.agg (socell a).toArray, .agg (socell b).toArray] w fun e w' => e = .returned (.int .i64 (cfS a b)) ∧ ∃ q os', w' = grow (w.drewN q) os' := by
  have hI := fun x y W => Lib.hid (cmp_int x y W)
  show Calls Tryz.prog 81 #[.agg #[.int .i64 a.file, .int .i64 a.tier], .agg #[.int .i64 b.file, .int .i64 b.tier]] w _
  go_enter Tryz.func81, Tryz.ntmps81
  go_wp2_with (go_at_call 115; with_reducible refine (hI _ _ _).out.mono ?_; rintro e w1 ⟨rfl, rfl⟩)
  go_ret
  exact ⟨rfl, grown2 _ _ _⟩
theorem swoT : SWO (fun a b => decide (cfT a b < 0)) where
  irrefl x := by rw [cfT_neg]; exact tlt_irrefl x
  trans x y z h1 h2 := by rw [cfT_neg] at *; exact tlt_trans h1 h2
  ntrans x y z h1 h2 := by rw [cfT_neg] at *; exact tlt_ntrans h1 h2
theorem swoS : SWO (fun a b => decide (cfS a b < 0)) where
  irrefl x := by rw [cfS_neg]; simp
  trans x y z h1 h2 := by rw [cfS_neg] at *; simp at *; omega
  ntrans x y z h1 h2 := by rw [cfS_neg] at *; simp at *; omega
theorem below_grow {B : Nat} {w w' : World} (h : Below B w w') (hB : B ≤ w.heap.size) (q : Nat) (os : Array Obj) : Below B w (grow (w'.drewN q) os) := by
  refine ⟨h.os, h.tape, h.output, ?_, fun k hk => ?_⟩
  · show w.heap.size ≤ (w'.heap ++ os).size
    rw [Array.size_append]
    have := h.size
    omega
  · show (w'.heap ++ os)[k]? = _
    rw [Array.getElem?_append_left (by have := h.size; omega)]
    exact h.block k hk
end Go.Proofs.YtljjielekgilpaaGreat
/- An element of a list that reads. -/
set_option linter.unusedVariables false
set_option maxRecDepth 100000
namespace Go.Proofs.YtljjielekgilpaaGreat
open Go.RowKit

theorem RdL.atS {T : Nat → Prop} {w : World} {a : Option Addr} {n cap : Nat} {L : List So} (h : RdL T w (.slice a n cap) n (flat socell L)) {m : Nat} {x : So} (hx : L[m]? = some x) (hm : m < n) :
    ∃ b off, a = some ⟨b, off, none⟩ ∧ T b ∧ b < w.heap.size ∧ ∀ i u, (socell x)[i]? = some u → w.cell? ⟨b, off + m * 2 + i, none⟩ = some u := by
  obtain ⟨a', cap', e, _, h⟩ := h
  injection e with e1 e2 e3
  subst e1
  rcases h with ⟨_, h0, _⟩ | ⟨b, off, rfl, ht, hb, hc⟩
  · omega
  · refine ⟨b, off, rfl, ht, hb, fun i u hi => ?_⟩
    have hik : i < 2 := by rw [← socell_len x]; exact (List.getElem?_eq_some_iff.1 hi).1
    have := flat_at socell_len hx hik
    rw [hi] at this
    rw [Nat.add_assoc]
    exact hc _ _ this

end Go.Proofs.YtljjielekgilpaaGreat
/- The place of an element in a row that rises. -/
set_option linter.unusedVariables false
set_option maxRecDepth 100000
namespace Go.Proofs.YtljjielekgilpaaGreat
open Go.RowKit Go.Sort

/-- Whether the place is an equal's. -/
def fndS (L : List So) (k : Nat) (x : So) : Bool := match L[k]? with
  | some u => cfS u x == 0
  | none => false
set_option maxHeartbeats 4000000 in
theorem find_S {T : Nat → Prop} {a : Option Addr} {n cap : Nat} {L : List So} {w : World} (h : Hid (RdL T w (.slice a n cap) n (flat socell L))) (hL : Hid (n = L.length)) (hn : n ≤ 1000000000) (x : So) (k : Nat) (hk : k ≤ n)
    (ha : Hid (∀ i u, i < k → L[i]? = some u → cfS u x < 0)) (hb : Hid (∀ i u, k ≤ i → L[i]? = some u → 0 ≤ cfS u x)) :
    Calls Tryz.prog 165 #[.slice a n cap, .agg #[.int .i64 x.file, .int .i64 x.tier], .func (.func 81) #[] #[]] w fun e w' => e = .returned (.tuple #[.int .i64 (k : Int), .bool (fndS L k x)]) ∧ Below w.heap.size w w' := by
  obtain ⟨fb, hfb⟩ : ∃ fb, fb = fndS L k x := ⟨_, rfl⟩
  rw [← hfb]
  have HF := Lib.hid hfb
  clear hfb
  have mixed : Tryz.prog.follows .mixedOrders = true := by kernel_rfl
  have eg : ∀ args w, (callFunc 81 args).run Tryz.prog w = .ok (.enter 81 args) w := enters_of Tryz.func81 (by kernel_rfl) rfl
  obtain ⟨w0, hw0⟩ : ∃ w0, w.alloc (.cells #[.int .i64 x.file, .int .i64 x.tier] 88) = w0 := ⟨_, rfl⟩
  obtain ⟨B, hB⟩ : ∃ B, B = w.heap.size := ⟨_, rfl⟩
  have X0 := Lib.hid (show w0.heap[B]? = some (.cells #[.int .i64 x.file, .int .i64 x.tier] 88 (0, 0)) by rw [← hw0, hB]; exact heap_new w _)
  have K0 := Lib.hid (show Below B w w0 by rw [← hw0, hB]; exact (Below.refl _ _).alloc (Nat.le_refl _) _)
  have HB := Lib.hid hB
  have HW0 := Lib.hid hw0
  have C := fun (u v : So) (W : World) => Lib.hid (store_order u v W)
  clear hw0 hB
  go_enter Tryz.func165, Tryz.ntmps165
  go_upto_region 1 with (fail)
  rw [HW0.out, ← HB.out]
  go_wp2_with fail
  go_loopw [9, 10] (fun iv jv wr => ∃ i j : Nat, i ≤ k ∧ k ≤ j ∧ j ≤ n ∧ iv = .int .i64 i ∧ jv = .int .i64 j ∧ Hid (Below w0.heap.size w0 wr)) (fun iv jv wr => (intOf jv).toNat - (intOf iv).toNat)
  case atStart => exact ⟨0, n, by omega, hk, by omega, rfl, rfl, Lib.hid (Below.refl _ _)⟩
  case round =>
    obtain ⟨i, j, hik, hkj, hj, rfl, rfl, hR⟩ := hrel
    by_cases hlt : i < j
    · obtain ⟨m, hm⟩ : ∃ m, m = (i + j) / 2 := ⟨_, rfl⟩
      obtain ⟨s, hs⟩ : ∃ s : Int, s = (i : Int) + (j : Int) := ⟨_, rfl⟩
      have hs1 : IntKind.i64.wrap ((i : Int) + (j : Int)) = s := by rw [IntWalk.i64_in _ (by omega), hs]
      have hm1 : s / 2 = (m : Int) := by omega
      have hmi : i ≤ m := by omega
      have hmj : m < j := by omega
      have hml : m < n := by omega
      have hs0 : 0 ≤ s := by omega
      have hs2 : s ≤ 2000000000 := by omega
      have hs3 : (i : Int) + (j : Int) = s := hs.symm
      obtain ⟨y, hy⟩ : ∃ y, L[m]? = some y := ⟨_, List.getElem?_eq_getElem (by have := hL.out; omega)⟩
      obtain ⟨b, off, rfl, ht, hb2, hc⟩ := RdL.atS h.out hy hml
      have hB0 : B < w0.heap.size := heap_lt X0.out
      have hbw0 : b < w0.heap.size := Nat.lt_of_lt_of_le hb2 K0.out.size
      have hbB : b < B := by rw [HB.out]; exact hb2
      have hcr : ∀ i u, (socell y)[i]? = some u → wr.cell? ⟨b, off + m * 2 + i, none⟩ = some u := fun i u hu => by
        rw [← hc i u hu]
        simp only [World.cell?, hR.out.block b hbw0, K0.out.block b hbB]
      have hbr : b < wr.heap.size := Nat.lt_of_lt_of_le hbw0 hR.out.size
      have hBr : B < wr.heap.size := Nat.lt_of_lt_of_le hB0 hR.out.size
      have hxr : wr.heap[B]? = some (.cells #[.int .i64 x.file, .int .i64 x.tier] 88 (0, 0)) := (hR.out.block B hB0).trans X0.out
      have y0 := fun n os => cell_grown (w := wr) (a := ⟨b, off + m * 2, none⟩) hbr (hcr 0 _ rfl) n os
      have y1 := fun n os => cell_grown (w := wr) (a := ⟨b, off + m * 2 + 1, none⟩) hbr (hcr 1 _ rfl) n os
      have x0 := fun n os => cell_grown (w := wr) (a := ⟨B, 0, none⟩) hBr (by simp [World.cell?, hxr]; rfl) n os
      have x1 := fun n os => cell_grown (w := wr) (a := ⟨B, 1, none⟩) hBr (by simp [World.cell?, hxr]; rfl) n os
      have HYX := Lib.hid hy
      obtain ⟨z, hz⟩ : ∃ z, z = cfS y x := ⟨_, rfl⟩
      have HZ := Lib.hid hz
      have CC := fun n os => (C y x (grow (wr.drewN n) os)).out
      rw [← hz] at CC
      clear hz hy hc hcr hxr hs hm
      have hmI : (m : Int) ≤ (n : Int) := by omega
      by_cases hneg : z < 0
      · have hneg' : decide (z < 0) = true := decide_eq_true hneg
        have hmk : m + 1 ≤ k := by
          rcases Nat.lt_or_ge m k with e | e
          · exact e
          · have := hb.out m y e HYX.out; have := HZ.out; omega
        go_wp2_with fail
        go_quiet_grown (first | (go_at_call 81; refine Calls.grown_of (CC _ _)) | (go_at_fn 81; refine Calls.grown_of (CC _ _)))
        have K2 := Lib.hid (below_grow hR.out (Nat.le_refl _) nq osq)
        go_wp2_with fail
        go_roundw
        case rel => exact ⟨m + 1, j, hmk, hkj, hj, by go_num, rfl, K2⟩
        case measure => simp [intOf]; omega
      · have hneg' : decide (z < 0) = false := decide_eq_false hneg
        have hmk : k ≤ m := by
          rcases Nat.lt_or_ge m k with e | e
          · have := ha.out m y e HYX.out; have := HZ.out; omega
          · exact e
        go_wp2_with fail
        go_quiet_grown (first | (go_at_call 81; refine Calls.grown_of (CC _ _)) | (go_at_fn 81; refine Calls.grown_of (CC _ _)))
        have K2 := Lib.hid (below_grow hR.out (Nat.le_refl _) nq osq)
        go_wp2_with fail
        go_roundw
        case rel => exact ⟨i, m, hik, hmk, by omega, rfl, rfl, K2⟩
        case measure => simp [intOf]; omega
    · obtain rfl : i = k := by omega
      obtain rfl : i = j := by omega
      have K0' := Lib.hid (show Below w.heap.size w wr by rw [← HB.out]; exact K0.out.trans (hR.out.mono (Nat.le_of_lt (heap_lt X0.out))))
      by_cases hin : i < n
      · have hin' : (i : Int) < (n : Int) := by omega
        obtain ⟨y, hy⟩ : ∃ y, L[i]? = some y := ⟨_, List.getElem?_eq_getElem (by have := hL.out; omega)⟩
        obtain ⟨b, off, rfl, ht, hb2, hc⟩ := RdL.atS h.out hy hin
        have hB0 : B < w0.heap.size := heap_lt X0.out
        have hbw0 : b < w0.heap.size := Nat.lt_of_lt_of_le hb2 K0.out.size
        have hbB : b < B := by rw [HB.out]; exact hb2
        have hcr : ∀ j u, (socell y)[j]? = some u → wr.cell? ⟨b, off + i * 2 + j, none⟩ = some u := fun j u hu => by
          rw [← hc j u hu]
          simp only [World.cell?, hR.out.block b hbw0, K0.out.block b hbB]
        have hbr : b < wr.heap.size := Nat.lt_of_lt_of_le hbw0 hR.out.size
        have hBr : B < wr.heap.size := Nat.lt_of_lt_of_le hB0 hR.out.size
        have hxr : wr.heap[B]? = some (.cells #[.int .i64 x.file, .int .i64 x.tier] 88 (0, 0)) := (hR.out.block B hB0).trans X0.out
        have y0 := fun n os => cell_grown (w := wr) (a := ⟨b, off + i * 2, none⟩) hbr (hcr 0 _ rfl) n os
        have y1 := fun n os => cell_grown (w := wr) (a := ⟨b, off + i * 2 + 1, none⟩) hbr (hcr 1 _ rfl) n os
        have x0 := fun n os => cell_grown (w := wr) (a := ⟨B, 0, none⟩) hBr (by simp [World.cell?, hxr]; rfl) n os
        have x1 := fun n os => cell_grown (w := wr) (a := ⟨B, 1, none⟩) hBr (by simp [World.cell?, hxr]; rfl) n os
        obtain ⟨z, hz⟩ : ∃ z, z = cfS y x := ⟨_, rfl⟩
        have HF2 := Lib.hid (show fb = (z == 0) by rw [HF.out, hz]; unfold fndS; rw [hy])
        have CC := fun n os => (C y x (grow (wr.drewN n) os)).out
        rw [← hz] at CC
        clear hz hy hc hcr hxr HF
        go_wp2_with fail
        go_quiet_grown (first | (go_at_call 81; refine Calls.grown_of (CC _ _)) | (go_at_fn 81; refine Calls.grown_of (CC _ _)))
        have K2 := Lib.hid (below_grow K0'.out (Nat.le_refl _) nq osq)
        go_wp2_with fail
        go_ret2
        exact ⟨by rw [HF2.out]; rfl, K2.out⟩
      · obtain rfl : i = n := by omega
        have HF2 := Lib.hid (show fb = false by rw [HF.out]; unfold fndS; rw [List.getElem?_eq_none (by have := hL.out; omega)])
        clear HF
        have hg : ¬ (i : Int) < (i : Int) := by omega
        have hg2 : decide ((i : Int) < (i : Int)) = false := decide_eq_false hg
        go_wp2_with fail
        go_quiet (fail)
        have K2 := Lib.hid (below_drewN K0'.out nq)
        go_wp2_with fail
        go_ret2
        exact ⟨by rw [HF2.out]; rfl, K2.out⟩
end Go.Proofs.YtljjielekgilpaaGreat
/- Copies within rows of elements of several cells. -/
set_option linter.unusedVariables false
set_option maxRecDepth 100000
namespace Go.Proofs.YtljjielekgilpaaGreat
open Go.RowKit

/-- The builtin copy over rows of elements of k cells. -/
theorem run_copy_cellsK {P : Program} (w : World) (dT sT ty elem : TypeId) (k b o dLen dCap : Nat) (a : Addr) (sLen sCap : Nat) (cs : List Value)
    (hu : P.underlying dT = some (.slice elem)) (hs : (P.info? elem).map (·.size) = some k) (hn : cs.length = Nat.min sLen dLen * k)
    (hsrc : ∀ j v, cs[j]? = some v → w.cell? (a.add j) = some v) (hc : ∀ j, j < cs.length → (w.cell? ⟨b, o + j, none⟩).isSome = true) (hf : ∀ j, j < cs.length → w.frozen? ⟨b, o + j, none⟩ = false) (h1 : ∀ v ∈ cs, v.oneCell' = true) :
    (Builtin.copy_ #[dT, sT] ty #[.slice (some ⟨b, o, none⟩) dLen dCap, .slice (some a) sLen sCap]).run P w = .ok (goInt (Nat.min sLen dLen)) (w.setCells b o cs) := by
  have hl := run_loadCells_list (P := P) w a cs hsrc
  have hst := run_storeCells_cells (P := P) b o cs 0 w (by simpa using hc) (by simpa using hf) h1
  rw [Nat.add_zero] at hst
  cases hq : P.info? elem with
  | none => simp [hq] at hs
  | some i =>
    have hi : i.size = k := by simpa [hq] using hs
    simp only [Nat.min_def] at hn
    rw [hn] at hl
    simp [Builtin.copy_, run_underlying hu, Builtin.lenOf, Builtin.firstCells, sizeOf, typeInfo, hq, hi, Nat.min_def, hl, hst]
/-- A row in memory whose block and beginning are known. -/
structure AtRow (w : World) (e : TypeId) (size g off n cap : Nat) (xs : List Value) : Prop where
  len : xs.length = n * size
  room : n ≤ cap
  max : cap ≤ maxLen
  obj : ∃ cur, w.heap[g]? = some (.cells cur e (0, 0)) ∧ off + cap * size ≤ cur.size ∧ ∀ j, j < n * size → cur[off + j]? = xs[j]?
theorem AtRow.off {w : World} {e : TypeId} {size g off n cap B : Nat} {xs : List Value} (h : AtRow w e size g off n cap xs) (hB : B ≤ g) : OffRow w B e size (.slice (some ⟨g, off, none⟩) n cap) n xs := by
  obtain ⟨cur, h1, h2, h3⟩ := h.obj
  exact ⟨h.len, .inr ⟨g, off, cap, cur, rfl, hB, h1, h.room, h.max, h2, h3⟩⟩
theorem OffRow.at' {w : World} {B : Nat} {e : TypeId} {size n cap : Nat} {a : Option Addr} {xs : List Value} (h : OffRow w B e size (.slice a n cap) n xs) (hn : 0 < cap) : ∃ g off, a = some ⟨g, off, none⟩ ∧ B ≤ g ∧ AtRow w e size g off n cap xs := by
  obtain ⟨hl, ⟨e0, _⟩ | ⟨g, off, c, cur, e0, hB, hg, h1, h2, h3, h4⟩⟩ := h
  · injection e0 with _ _ e3; omega
  · injection e0 with e1 _ e3
    subst e1 e3
    exact ⟨g, off, rfl, hB, hl, h1, h2, cur, hg, h3, h4⟩
theorem AtRow.cell {w : World} {e : TypeId} {size g off n cap : Nat} {xs : List Value} (h : AtRow w e size g off n cap xs) {j : Nat} {u : Value} (hj : xs[j]? = some u) : w.cell? ⟨g, off + j, none⟩ = some u := by
  obtain ⟨cur, h1, h2, h3⟩ := h.obj
  have hj' : j < n * size := by rw [← h.len]; exact (List.getElem?_eq_some_iff.1 hj).1
  rw [← hj, ← h3 j hj']
  simp [World.cell?, h1]
theorem AtRow.some {w : World} {e : TypeId} {size g off n cap : Nat} {xs : List Value} (h : AtRow w e size g off n cap xs) {j : Nat} (hj : j < cap * size) : (w.cell? ⟨g, off + j, none⟩).isSome = true := by
  obtain ⟨cur, h1, h2, h3⟩ := h.obj
  simp [World.cell?, h1]
  omega
theorem AtRow.free {w : World} {e : TypeId} {size g off n cap : Nat} {xs : List Value} (h : AtRow w e size g off n cap xs) (j : Nat) : w.frozen? ⟨g, j, none⟩ = false := by
  obtain ⟨cur, h1, h2, h3⟩ := h.obj
  simp [World.frozen?, h1]
/-- Cells set in the row: what it holds then. -/
theorem AtRow.set {w : World} {e : TypeId} {size g off n cap : Nat} {xs : List Value} (h : AtRow w e size g off n cap xs) (p : Nat) (vs : List Value) {m : Nat} {ys : List Value} (hm : m ≤ cap) (hl : ys.length = m * size)
    (hp : p + vs.length ≤ cap * size) (hin : ∀ j, p ≤ j → j < p + vs.length → j < m * size → ys[j]? = vs[j - p]?) (hout : ∀ j, j < m * size → (j < p ∨ p + vs.length ≤ j) → j < n * size ∧ ys[j]? = xs[j]?) : AtRow (w.setCells g (off + p) vs) e size g off m cap ys := by
  obtain ⟨cur, h1, h2, h3⟩ := h.obj
  obtain ⟨cur', a1, a2, a3, a4⟩ := setCells_heap vs g (off + p) w cur e h1
  refine ⟨hl, hm, h.max, cur', a1, by omega, fun j hj => ?_⟩
  by_cases hr : p ≤ j ∧ j < p + vs.length
  · rw [hin j hr.1 hr.2 hj, ← a3 (j - p) (by omega) (by omega)]
    congr 1
    omega
  · obtain ⟨q1, q2⟩ := hout j hj (by omega)
    rw [q2, ← h3 j q1]
    exact a4 _ (by omega)
theorem setCells_grown (vs : List Value) (g o : Nat) (w : World) : w.grownBy (w.setCells g o vs) (some g) := by
  obtain ⟨b1, b2, b3, b4⟩ := setCells_meta vs g o w
  exact ⟨b1, b2, b3, by omega, fun k _ hk => setCells_other _ _ _ _ _ (fun e => hk (by rw [e]))⟩
theorem AtRow.kept {w w' : World} {e : TypeId} {size g off n cap : Nat} {xs : List Value} (h : AtRow w e size g off n cap xs) (k : w'.heap[g]? = w.heap[g]?) : AtRow w' e size g off n cap xs := by
  obtain ⟨cur, h1, h2, h3⟩ := h.obj
  exact ⟨h.len, h.room, h.max, cur, k.trans h1, h2, h3⟩
/-- An element put in at a place: the cells behind it go one further first. -/
theorem AtRow.insert {w : World} {e : TypeId} {size g off n cap i : Nat} {xs vs : List Value} (h : AtRow w e size g off n cap xs) (hi : i ≤ n) (hc : n + 1 ≤ cap) (hv : vs.length = size) :
    AtRow ((w.setCells g (off + (i + 1) * size) (xs.drop (i * size))).setCells g (off + i * size) vs) e size g off (n + 1) cap (xs.take (i * size) ++ (vs ++ xs.drop (i * size))) := by
  have hin : i * size ≤ n * size := Nat.mul_le_mul_right _ hi
  have hcn : n * size + size ≤ cap * size := by rw [← Nat.succ_mul]; exact Nat.mul_le_mul_right _ hc
  have e1 : (i + 1) * size = i * size + size := Nat.succ_mul ..
  have e2 : (n + 1) * size = n * size + size := Nat.succ_mul ..
  have hl := h.len
  have hd : (xs.drop (i * size)).length = n * size - i * size := by rw [List.length_drop, hl]
  have ht : (xs.take (i * size)).length = i * size := by rw [List.length_take, hl]; omega
  rw [e1]
  obtain ⟨cur, h1, h2, h3⟩ := h.obj
  obtain ⟨c1, a1, a2, a3, a4⟩ := setCells_heap (xs.drop (i * size)) g (off + (i * size + size)) w cur e h1
  obtain ⟨c2, b1, b2, b3, b4⟩ := setCells_heap vs g (off + i * size) _ c1 e a1
  refine ⟨by rw [List.length_append, List.length_append, ht, hd, hv, e2]; omega, hc, h.max, c2, b1, by omega, fun j hj => ?_⟩
  rw [e2] at hj
  by_cases q1 : j < i * size
  · rw [b4 _ (.inl (by omega)), a4 _ (.inl (by omega)), h3 j (by omega), List.getElem?_append_left (by omega), List.getElem?_take, if_pos q1]
  · by_cases q2 : j < i * size + size
    · have := b3 (j - i * size) (by omega) (by omega)
      rw [show off + i * size + (j - i * size) = off + j by omega] at this
      rw [this, List.getElem?_append_right (by omega), ht, List.getElem?_append_left (by omega)]
    · have := a3 (j - (i * size + size)) (by omega) (by omega)
      rw [show off + (i * size + size) + (j - (i * size + size)) = off + j by omega] at this
      rw [b4 _ (.inr (by omega)), this, List.getElem?_append_right (by omega), ht, List.getElem?_append_right (by omega), hv]
      congr 1
      omega
/-- An element taken out: the cells behind it go one back; the last one is cleared. -/
theorem AtRow.delete {w : World} {e : TypeId} {size g off n cap i m : Nat} {xs zs : List Value} (h : AtRow w e size g off n cap xs) (hi : i < n) (hm : n = m + 1) (hz : zs.length = size) :
    AtRow ((w.setCells g (off + i * size) (xs.drop ((i + 1) * size))).setCells g (off + m * size) zs) e size g off m cap (xs.take (i * size) ++ xs.drop ((i + 1) * size)) := by
  subst hm
  have hin : i * size ≤ m * size := Nat.mul_le_mul_right _ (by omega)
  have hcn : m * size + size ≤ cap * size := by rw [← Nat.succ_mul]; exact Nat.mul_le_mul_right _ h.room
  have e1 : (i + 1) * size = i * size + size := Nat.succ_mul ..
  have e2 : (m + 1) * size = m * size + size := Nat.succ_mul ..
  have hl := h.len
  rw [e2] at hl
  rw [e1]
  have hd : (xs.drop (i * size + size)).length = m * size - i * size := by rw [List.length_drop, hl]; omega
  have ht : (xs.take (i * size)).length = i * size := by rw [List.length_take, hl]; omega
  obtain ⟨cur, h1, h2, h3⟩ := h.obj
  obtain ⟨c1, a1, a2, a3, a4⟩ := setCells_heap (xs.drop (i * size + size)) g (off + i * size) w cur e h1
  obtain ⟨c2, b1, b2, b3, b4⟩ := setCells_heap zs g (off + m * size) _ c1 e a1
  refine ⟨by rw [List.length_append, ht, hd]; omega, by have := h.room; omega, h.max, c2, b1, by omega, fun j hj => ?_⟩
  rw [b4 _ (.inl (by omega))]
  by_cases q1 : j < i * size
  · rw [a4 _ (.inl (by omega)), h3 j (by omega), List.getElem?_append_left (by omega), List.getElem?_take, if_pos q1]
  · have := a3 (j - i * size) (by omega) (by omega)
    rw [show off + i * size + (j - i * size) = off + j by omega] at this
    rw [this, List.getElem?_append_right (by omega), ht]
/-- A new row whose beginning is laid: an element behind it, and what is behind that. -/
theorem row_fill {w w1 : World} {e : TypeId} {size g n cap i : Nat} {cur : Array Value} {xs vs : List Value} (h1 : w.heap[g]? = some (.cells cur e (0, 0))) (hs : cur.size = cap * size) (hx : xs.length = n * size) (hi : i ≤ n) (hc : n + 1 ≤ cap) (hm : cap ≤ maxLen) (hv : vs.length = size)
    (hb : ∀ j, j < i * size → cur[j]? = xs[j]?) (hw : w1.heap[g]? = (w.setCells g (i * size) vs).heap[g]?) :
    AtRow (w1.setCells g ((i + 1) * size) (xs.drop (i * size))) e size g 0 (n + 1) cap (xs.take (i * size) ++ (vs ++ xs.drop (i * size))) := by
  have hin : i * size ≤ n * size := Nat.mul_le_mul_right _ hi
  have hcn : n * size + size ≤ cap * size := by rw [← Nat.succ_mul]; exact Nat.mul_le_mul_right _ hc
  have e1 : (i + 1) * size = i * size + size := Nat.succ_mul ..
  have e2 : (n + 1) * size = n * size + size := Nat.succ_mul ..
  have hd : (xs.drop (i * size)).length = n * size - i * size := by rw [List.length_drop, hx]
  have ht : (xs.take (i * size)).length = i * size := by rw [List.length_take, hx]; omega
  rw [e1]
  obtain ⟨c1, a1, a2, a3, a4⟩ := setCells_heap vs g (i * size) w cur e h1
  obtain ⟨c2, b1, b2, b3, b4⟩ := setCells_heap (xs.drop (i * size)) g (i * size + size) w1 c1 e (hw.trans a1)
  refine ⟨by rw [List.length_append, List.length_append, ht, hd, hv, e2]; omega, hc, hm, c2, b1, by omega, fun j hj => ?_⟩
  rw [e2] at hj
  rw [Nat.zero_add]
  by_cases q1 : j < i * size
  · rw [b4 _ (.inl (by omega)), a4 _ (.inl (by omega)), hb j q1, List.getElem?_append_left (by omega), List.getElem?_take, if_pos q1]
  · by_cases q2 : j < i * size + size
    · have := a3 (j - i * size) (by omega) (by omega)
      rw [show i * size + (j - i * size) = j by omega] at this
      rw [b4 _ (.inl (by omega)), this, List.getElem?_append_right (by omega), ht, List.getElem?_append_left (by omega)]
    · have := b3 (j - (i * size + size)) (by omega) (by omega)
      rw [show i * size + size + (j - (i * size + size)) = j by omega] at this
      rw [this, List.getElem?_append_right (by omega), ht, List.getElem?_append_right (by omega), hv]
      congr 1
      omega
/-- An append whose run is known, as a step of a region that draws. -/
theorem step_append_runI {P : Program} {ops : Array Oper} {o : Oper} {a : Act} {w : World} {K : Act → World → Prop} {Q : Exit → Act → World → Prop} {E : Prop}
    (hg : o.guard = none) (d x : Operand) (dT sT : TypeId) (hop : o.op = Op.call { callee := Callee.builtin Builtin.append, args := #[d, x], argTypes := #[dT, sT] })
    (v u : Value) (hd : a.eval d = v) (hx : a.eval x = u) {v' : Value} {w' : World} (hr : (Builtin.append_ #[dT, sT] o.type #[v, u]).run P w = .ok v' w') (hK : K (a.put o.dst v') w') :
    if Region.wanted o (yielded ops a.tmps) = true then Oper.wp P o a w K Q else E := by
  have hw : Region.wanted o (yielded ops a.tmps) = true := by simp [Region.wanted, hg]
  rw [if_pos hw]
  unfold Oper.wp
  simp [execOp, hop, resolve, invoke, builtin, hd, hx, hr, Result.andThen]
  exact hK
/-- The builtin clear of one element, where its run is known. -/
theorem wpList_clear_runI {P : Program} {w : World} {ops : Array Oper} {rest : List Oper} {o : Oper} {act : Act} {Q : Exit → Act → World → Prop} (hgd : o.guard = none) (s : Operand) (t : TypeId)
    (ho : o.op = .call { callee := .builtin .clear, args := #[s], argTypes := #[t] }) (u : Value) (hs : act.eval s = u) {v' : Value} {w' : World} (hr : (Builtin.clear_ #[t] o.type #[u]).run P w = .ok v' w')
    (hk : wpList P ops Q rest (act.put o.dst v') w') : wpList P ops Q (o :: rest) act w := by
  refine wpList_plain hgd fun K hK => ?_
  unfold Oper.wp execOp
  simp only [ho, resolve, invoke, builtin, Sem.run_bind, Sem.run_pure, Result.andThen_ok, List.map_toArray, List.map_cons, List.map_nil, hs, hr]
  exact hK _ _ hk
/-- The builtin clear of one element of k cells. -/
theorem run_clear_one {P : Program} (w : World) (t ty e : TypeId) (i : TypeInfo) (z : Value) (size b o c : Nat) (ht : P.underlying t = some (.slice e)) (hi : P.info? e = some i) (hz : i.zero = some z) (hzs : z.cells.size = size) (hz1 : ∀ u ∈ z.cells.toList, u.oneCell' = true)
    (hc : ∀ j, j < size → (w.cell? ⟨b, o + j, none⟩).isSome = true) (hf : ∀ j, j < size → w.frozen? ⟨b, o + j, none⟩ = false) :
    (Builtin.clear_ #[t] ty #[.slice (some ⟨b, o, none⟩) 1 c]).run P w = .ok (.tuple #[]) (w.setCells b o z.cells.toList) := by
  have hzc : (Builtin.zeroCells z.cells 1).toList = z.cells.toList := by
    simp [Builtin.zeroCells]
    refine List.ext_getElem? fun j => ?_
    rcases Nat.lt_or_ge j z.cells.size with h | h
    · simp [h, Nat.mod_eq_of_lt h]
    · simp [Nat.not_lt.2 h]
  have hst := run_storeCells_cells (P := P) b o z.cells.toList 0 w (fun j hj => by rw [Nat.add_zero]; exact hc j (by simpa [hzs] using hj)) (fun j hj => by rw [Nat.add_zero]; exact hf j (by simpa [hzs] using hj)) hz1
  rw [Nat.add_zero] at hst
  simp [Builtin.clear_, run_underlying ht, zeroValue, typeInfo, hi, hz, hzc, hst]
end Go.Proofs.YtljjielekgilpaaGreat
