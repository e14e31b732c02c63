/- Texts put together: DiskBackPlain, DiskBack, DiskBackRun, DiskAt, DiskCalm -/
import Derived.Test.YtlpknhiagdhkcaaBSp08
import Derived.Deep.MidRow
/- A loss of power, file by file, in whatever order the files come. -/
set_option linter.unusedVariables false
set_option maxRecDepth 100000
namespace Go.Proofs.Ytlpknhiagdhkcaa
open Go.RowKit Go.Maps

/-- The files, where those of which 'left' says so are still to come. -/
def curL (ks : List (Int × Int)) (left : Lit → Bool) (fs : List DF) : List DF := fs.filterMap fun f => if left (.int .i64 f.n) = true then some f else backF ks f
/-- Those that have come, as they are then. -/
def doneL (ks : List (Int × Int)) (left : Lit → Bool) (fs : List DF) : List DF := fs.filterMap fun f => if left (.int .i64 f.n) = true then none else backF ks f
def strike (left : Lit → Bool) (n : Int) : Lit → Bool := fun z => left z && !z.sameKey (.int .i64 n)
theorem strike_i64 (left : Lit → Bool) (n m : Int) : strike left n (.int .i64 m) = (left (.int .i64 m) && !decide (m = n)) := by unfold strike; rw [sameKey_i64]
theorem backF_n {ks : List (Int × Int)} {f g : DF} (h : backF ks f = some g) : g.n = f.n ∧ g.t = f.t ∧ g.data.length ≤ f.data.length := by
  unfold backF at h
  split at h
  · cases h
  · injection h with h
    subst h
    exact ⟨rfl, rfl, by simp only [loseF, List.length_take]; omega⟩
theorem curL_start {ks : List (Int × Int)} {left : Lit → Bool} {fs : List DF} (h : ∀ f ∈ fs, left (.int .i64 f.n) = true) : curL ks left fs = fs ∧ doneL ks left fs = [] := by
  induction fs with
  | nil => exact ⟨rfl, rfl⟩
  | cons f r ih =>
    obtain ⟨h1, h2⟩ := ih fun x hx => h x (by simp [hx])
    have hf := h f (by simp)
    unfold curL at h1
    unfold doneL at h2
    unfold curL doneL
    simp [hf, h1, h2]
theorem curL_end {ks : List (Int × Int)} {left : Lit → Bool} {fs : List DF} (h : ∀ z, left z = false) : curL ks left fs = fs.filterMap (backF ks) ∧ doneL ks left fs = fs.filterMap (backF ks) := by
  unfold curL doneL
  simp [h]
theorem curL_mem {ks : List (Int × Int)} {left : Lit → Bool} {fs : List DF} {f : DF} (h : f ∈ curL ks left fs) (hl : left (.int .i64 f.n) = true) : f ∈ fs := by
  unfold curL at h
  obtain ⟨g, hg, hx⟩ := List.mem_filterMap.1 h
  by_cases hgl : left (.int .i64 g.n) = true
  · rw [if_pos hgl] at hx
    injection hx with hx
    exact hx ▸ hg
  · rw [if_neg hgl] at hx
    rw [(backF_n hx).1] at hl
    exact absurd hl hgl
/-- One more has come: it is gone. -/
theorem curL_gone {ks : List (Int × Int)} {left : Lit → Bool} {n : Int} (hl : left (.int .i64 n) = true) : ∀ {fs : List DF}, (∀ f ∈ fs, f.n = n → backF ks f = none) → curL ks (strike left n) fs = delL n (curL ks left fs) ∧ doneL ks (strike left n) fs = doneL ks left fs
  | [], _ => ⟨rfl, rfl⟩
  | f :: r, h => by
    obtain ⟨h1, h2⟩ := curL_gone hl (fs := r) fun x hx => h x (by simp [hx])
    unfold curL delL at h1
    unfold doneL at h2
    unfold curL doneL delL
    simp only [List.filterMap_cons]
    by_cases hn : f.n = n
    · have hb := h f (by simp) hn
      rw [strike_i64, hn]
      simp [hl, hb, h1, h2, hn]
    · rw [strike_i64]
      simp only [hn, decide_false, Bool.not_false, Bool.and_true]
      by_cases hf : left (.int .i64 f.n) = true
      · simp [hf, h1, h2, hn]
      · simp only [hf, if_false]
        cases hb : backF ks f with
        | none => simp [h1, h2]
        | some g =>
          have := (backF_n hb).1
          simp [h1, h2, this, hn]
/-- One more has come: it has lost something. -/
theorem curL_lost {ks : List (Int × Int)} {left : Lit → Bool} {n : Int} (g : DF → DF) (hl : left (.int .i64 n) = true) : ∀ {fs : List DF}, (∀ f ∈ fs, f.n = n → backF ks f = some (g f)) → curL ks (strike left n) fs = updL n g (curL ks left fs)
  | [], _ => rfl
  | f :: r, h => by
    have h1 := curL_lost g hl (fs := r) fun x hx => h x (by simp [hx])
    unfold curL updL at h1 ⊢
    simp only [List.filterMap_cons]
    by_cases hn : f.n = n
    · have hb := h f (by simp) hn
      rw [strike_i64, hn]
      simp [hl, hb, h1, hn]
    · rw [strike_i64]
      simp only [hn, decide_false, Bool.not_false, Bool.and_true]
      by_cases hf : left (.int .i64 f.n) = true
      · simp [hf, h1, hn]
      · simp only [hf, if_false]
        cases hb : backF ks f with
        | none => simpa using h1
        | some g' =>
          have := (backF_n hb).1
          simp [h1, this, hn]
theorem done_other {ks : List (Int × Int)} {left : Lit → Bool} {n : Int} : ∀ {fs : List DF}, (∀ f ∈ fs, f.n ≠ n) → doneL ks (strike left n) fs = doneL ks left fs
  | [], _ => rfl
  | f :: r, h => by
    have h1 := done_other (ks := ks) (left := left) (fs := r) fun x hx => h x (by simp [hx])
    unfold doneL at h1 ⊢
    simp only [List.filterMap_cons]
    rw [strike_i64]
    simp only [h f (by simp), decide_false, Bool.not_false, Bool.and_true]
    rw [h1]
theorem doneL_left {ks : List (Int × Int)} {left : Lit → Bool} {a : DF} {r : List DF} (h : left (.int .i64 a.n) = true) : doneL ks left (a :: r) = doneL ks left r := by
  unfold doneL
  rw [List.filterMap_cons, if_pos h]
theorem doneL_none {ks : List (Int × Int)} {left : Lit → Bool} {a : DF} {r : List DF} (h : ¬ left (.int .i64 a.n) = true) (hb : backF ks a = none) : doneL ks left (a :: r) = doneL ks left r := by
  unfold doneL
  rw [List.filterMap_cons, if_neg h, hb]
theorem doneL_some {ks : List (Int × Int)} {left : Lit → Bool} {a x : DF} {r : List DF} (h : ¬ left (.int .i64 a.n) = true) (hb : backF ks a = some x) : doneL ks left (a :: r) = x :: doneL ks left r := by
  unfold doneL
  rw [List.filterMap_cons, if_neg h, hb]
theorem done_lost {ks : List (Int × Int)} {left : Lit → Bool} {n : Int} (hl : left (.int .i64 n) = true) (t : Int) {f g : DF} (hn : f.n = n) (hb : backF ks f = some g) : ∀ {fs : List DF}, (fs.map (·.n)).Nodup → f ∈ fs →
    usedL t (doneL ks (strike left n) fs) = usedL t (doneL ks left fs) + (if f.t = t then blk g.data.length else 0)
  | [], _, h => by cases h
  | a :: r, hnd, h => by
    simp only [List.map_cons, List.nodup_cons] at hnd
    rcases List.mem_cons.1 h with rfl | hr
    · have h1 := done_other (ks := ks) (left := left) (n := n) (fs := r) fun x hx e => hnd.1 (List.mem_map.2 ⟨x, hx, by rw [e, hn]⟩)
      unfold doneL at h1 ⊢
      simp only [List.filterMap_cons]
      rw [strike_i64, hn, hb, h1]
      simp only [hl, decide_true, Bool.not_true, Bool.and_false, Bool.false_eq_true, if_false, if_true, usedL]
      rw [(backF_n hb).2.1]
      omega
    · have h1 := done_lost hl t hn hb hnd.2 hr
      have hna : a.n ≠ n := fun e => hnd.1 (List.mem_map.2 ⟨f, hr, by rw [hn, e]⟩)
      have hst : strike left n (.int .i64 a.n) = left (.int .i64 a.n) := by rw [strike_i64]; simp [hna]
      by_cases hf : left (.int .i64 a.n) = true
      · rw [doneL_left (by rw [hst]; exact hf), doneL_left hf]
        exact h1
      · cases hb' : backF ks a with
        | none =>
          rw [doneL_none (by rw [hst]; exact hf) hb', doneL_none hf hb']
          exact h1
        | some x =>
          rw [doneL_some (by rw [hst]; exact hf) hb', doneL_some hf hb']
          simp only [usedL]
          omega
theorem used_filterMap (t : Int) (p : DF → Option DF) (hp : ∀ f g, p f = some g → g.t = f.t ∧ g.data.length ≤ f.data.length) : ∀ fs : List DF, usedL t (fs.filterMap p) ≤ usedL t fs
  | [] => Nat.le_refl _
  | f :: r => by
    have ih := used_filterMap t p hp r
    rw [List.filterMap_cons]
    cases hf : p f with
    | none => simp only [usedL]; omega
    | some g =>
      obtain ⟨h1, h2⟩ := hp f g hf
      have := blk_mono h2
      simp only [usedL, h1]
      split <;> omega
theorem used_done (t : Int) (ks : List (Int × Int)) (left : Lit → Bool) (fs : List DF) : usedL t (doneL ks left fs) ≤ usedL t fs := by
  refine used_filterMap t _ (fun f g h => ?_) fs
  split at h
  · cases h
  · exact (backF_n h).2
theorem used_back (t : Int) (ks : List (Int × Int)) (fs : List DF) : usedL t (fs.filterMap (backF ks)) ≤ usedL t fs := used_filterMap t _ (fun f g h => (backF_n h).2) fs
theorem back_find {ks : List (Int × Int)} {n : Int} : ∀ {fs : List DF}, (fs.map (·.n)).Nodup → findL n (fs.filterMap (backF ks)) = (findL n fs).bind (backF ks)
  | [], _ => rfl
  | f :: r, hnd => by
    simp only [List.map_cons, List.nodup_cons] at hnd
    have ih := back_find (ks := ks) (n := n) hnd.2
    rw [List.filterMap_cons]
    by_cases hn : f.n = n
    · have hr : findL n r = none := by
        cases hx : findL n r with
        | none => rfl
        | some g => exact absurd (List.mem_map.2 ⟨g, (findL_mem hx).1, by rw [(findL_mem hx).2, hn]⟩) hnd.1
      rw [hr] at ih
      simp only [findL, hn, if_true]
      cases hb : backF ks f with
      | none => simpa [hb] using ih
      | some g => simp [findL, (backF_n hb).1, hn, hb]
    · simp only [findL, hn, if_false]
      cases hb : backF ks f with
      | none => exact ih
      | some g => simp only [findL, (backF_n hb).1, hn, if_false]; exact ih
theorem DS.Fit.back {s : DS} (h : s.Fit) (ks : List (Int × Int)) : (s.back ks).Fit := by
  refine ⟨h.r0, h.r1, Nat.le_trans (used_back 0 ks s.fs) h.u0, Nat.le_trans (used_back 1 ks s.fs) h.u1, ?_, ?_, ?_, by simp [DS.back], by simp [DS.back]⟩
  · have : ∀ {fs : List DF}, (fs.map (·.n)).Nodup → ((fs.filterMap (backF ks)).map (·.n)).Nodup := by
      intro fs
      induction fs with
      | nil => intro h; exact h
      | cons f r ih =>
        intro hn
        simp only [List.map_cons, List.nodup_cons] at hn
        rw [List.filterMap_cons]
        cases hb : backF ks f with
        | none => exact ih hn.2
        | some g =>
          simp only [List.map_cons, List.nodup_cons]
          refine ⟨fun hm => ?_, ih hn.2⟩
          obtain ⟨x, hx, hxn⟩ := List.mem_map.1 hm
          obtain ⟨y, hy, hyx⟩ := List.mem_filterMap.1 hx
          exact hn.1 (List.mem_map.2 ⟨y, hy, by rw [← (backF_n hyx).1, hxn, (backF_n hb).1]⟩)
    exact this h.nod
  · intro x hx
    obtain ⟨y, hy, hyx⟩ := List.mem_filterMap.1 hx
    obtain ⟨a, b, c, d⟩ := h.file y hy
    unfold backF at hyx
    split at hyx
    · cases hyx
    · injection hyx with hyx
      subst hyx
      refine ⟨a, ?_, fun e => absurd e (by simp [loseF]), d⟩
      simp only [loseF, List.length_take]
      omega
  · rcases h.root with e | ⟨y, hy, hyn, hys⟩
    · exact .inl e
    · refine .inr ⟨loseF (most ks y.n) y, List.mem_filterMap.2 ⟨y, hy, ?_⟩, hyn, rfl⟩
      unfold backF
      rw [if_neg (by rw [hys]; simp)]
end Go.Proofs.Ytlpknhiagdhkcaa
/- The power goes, and comes back. -/
set_option linter.unusedVariables false
set_option maxRecDepth 100000
namespace Go.Proofs.Ytlpknhiagdhkcaa
open Go.RowKit Go.Maps

theorem ownsMap_fun {w : World} {mb n m : Nat} {D E : DataW Unit} (h : w.ownsMap Try.prog 3 ptrR mb n D) (k : w.ownsMap Try.prog 3 ptrR mb m E) : D = E := by
  obtain ⟨es, c, hb, _, _, rfl⟩ := h
  obtain ⟨es', c', hb', _, _, rfl⟩ := k
  rw [hb] at hb'
  injection hb' with hb'
  injection hb' with h1 h2
  rw [h1]
/-- A step of a range over a disk's files. -/
theorem wpList_next_files {ops : Array Oper} {rest : List Oper} {o : Oper} {a : Act} {w : World} {Q : Exit → Act → World → Prop} (hg : o.guard = none) (it : Operand) (hop : o.op = Op.next it false)
    (mb r n : Nat) (l : List (Lit × DataW Unit)) (es : List DE) (left : Lit → Bool) (cnt : Nat) (hit : a.eval it = .pointer (some ⟨r, 0, none⟩)) (h : w.ranges Try.prog 3 ptrR mb r n (.map l) left cnt) (hp : l.Perm (es.map ent)) (hn : (es.map (·.f.n)).Nodup)
    (hDone : cnt = 0 → (∀ kl, left kl = false) → wpList Try.prog ops Q rest (a.put o.dst (.tuple #[.bool false])) w)
    (hMore : ∀ (e : DE) (w' : World) (cnt' : Nat), e ∈ es → findE e.f.n es = some e → left (.int .i64 e.f.n) = true → (Lit.int .i64 e.f.n).wf = true → w'.ranges Try.prog 3 ptrR mb r n (.map l) (strike left e.f.n) cnt' → cnt' < cnt → w.grownBy w' (some r) → w'.heap.size = w.heap.size →
      (Instr.entry (.pointer (some ⟨r, 0, none⟩))).run Try.prog w' = .ok (.tuple #[.int .i64 e.f.n, .pointer (some ⟨e.fb, 0, none⟩)]) w' → wpList Try.prog ops Q rest (a.put o.dst (.tuple #[.bool true, .int .i64 e.f.n, .pointer (some ⟨e.fb, 0, none⟩)])) w') :
    wpList Try.prog ops Q (o :: rest) a w := by
  refine wpList_plain hg fun K' hK' => ?_
  unfold Oper.wp
  rcases h.next law3 o.type with ⟨h0, hl, hrun⟩ | ⟨key, v, kl, y, w', cnt', hkey, hlk, hv, hat, hrun, hrg, hlt, hgr, hsz, hen⟩
  · simp [execOp, hop, hit, hrun, Result.andThen]
    exact hK' _ _ (hDone h0 hl)
  · obtain ⟨x, rfl, rfl, hwf⟩ := Maps.keyOf_int_inv Try.underlying3 hkey
    have ha := hat (.lit (.int .i64 (-1)))
    rw [atKey_files hp hn] at ha
    have ha' := hat (.lit (.int .i64 (-2)))
    rw [atKey_files hp hn] at ha'
    cases hf : findE x es with
    | none =>
      rw [hf] at ha ha'
      rw [← ha] at ha'
      simp at ha'
    | some e =>
      rw [hf] at ha
      obtain ⟨hem, hen'⟩ := findE_mem hf
      rcases ptrR_inv hv with ⟨rfl, hy⟩ | ⟨b, rfl, hy⟩
      · rw [hy] at ha
        injection ha with ha
        injection ha with _ ha
        omega
      · rw [hy] at ha
        injection ha with ha
        injection ha with _ ha
        obtain rfl : e.fb = b := by omega
        subst hen'
        simp [execOp, hop, hit, hrun, Result.andThen]
        exact hK' _ _ (hMore e w' cnt' hem hf hlk hwf hrg hlt hgr hsz hen)

theorem kept_most {D : DataW Unit} {ks : List (Int × Int)} (h : KeptMap D ks) {n cc : Int} (hat : D.atKey (.int .i64 n) (.lit (.int .i64 0)) = .lit (.int .i64 cc)) : cc = most ks n := by
  unfold most
  obtain ⟨h1, h2⟩ := h n
  cases hk : keepOf ks n with
  | some v =>
    rw [h2 v hk] at hat
    injection hat with hat
    injection hat with _ hat
    exact hat.symm
  | none =>
    rw [hk] at h1
    rw [atKey_of_not_has h1] at hat
    injection hat with hat
    injection hat with _ hat
    exact hat.symm
def cB (s : DS) (ks : List (Int × Int)) (left : Lit → Bool) : DC := { s.dc with u0 := usedL 0 (doneL ks left s.fs), u1 := usedL 1 (doneL ks left s.fs) }
/-- The loop over the files, where it stands. -/
structure BackAt (S : Nat → Prop) (w : World) (d mb : Nat) (s : DS) (ks : List (Int × Int)) (kb r n : Nat) (wr : World) (left : Lit → Bool) (cnt : Nat) (l : List (Lit × DataW Unit)) (es : List DE) (KD : DataW Unit) (nk : Nat) : Prop where
  rng : wr.ranges Try.prog 3 ptrR mb r n (.map l) left cnt
  perm : l.Perm (es.map ent)
  lay : Lay S wr d mb es (cB s ks left)
  fs : es.map (·.f) = curL ks left s.fs
  kept : wr.ownsMap Try.prog 3 (plainElem Try.prog 3) kb nk KD
  only : Only S w wr
theorem has_files {l : List (Lit × DataW Unit)} {es : List DE} (hp : l.Perm (es.map ent)) {e : DE} (he : e ∈ es) : Maps.has (DataW.map l) (.int .i64 e.f.n) = true :=
  List.any_eq_true.2 ⟨ent e, hp.mem_iff.2 (List.mem_map.2 ⟨e, he, rfl⟩), by simp [ent, sameKey_i64]⟩
theorem grown_of_only {w w' : World} {b : Nat} (h : Only (fun k => k = b) w w') : w.grownBy w' (some b) := ⟨h.os, h.tape, h.output, h.size, fun k hk hne => h.block k hk fun e => hne (by rw [e])⟩
theorem map_not_cells {w : World} {b : Nat} {n : Nat} {D : DataW Unit} {R : Value → Option (DataW Unit × List MemPlace)} (h : w.ownsMap Try.prog 3 R b n D) {c : Array Value} {t : TypeId} {b' : Nat} (hc : w.heap[b']? = some (.cells c t (0, 0))) : b ≠ b' := by
  rintro rfl
  obtain ⟨x, y, hx, _⟩ := h
  rw [hc] at hx
  cases hx
theorem iter_not_cells {w : World} {mb r n cnt : Nat} {D : DataW Unit} {left : Lit → Bool} (h : w.ranges Try.prog 3 ptrR mb r n D left cnt) {c : Array Value} {t : TypeId} {b' : Nat} (hc : w.heap[b']? = some (.cells c t (0, 0))) : r ≠ b' := by
  rintro rfl
  obtain ⟨_, _, _, _, _, _, _, _, _, hr, _⟩ := h
  rw [hc] at hr
  cases hr
section
variable {S : Nat → Prop} {w : World} {d mb : Nat} {s : DS} {ks : List (Int × Int)} {kb r n : Nat} {wr : World} {left : Lit → Bool} {cnt : Nat} {l : List (Lit × DataW Unit)} {es : List DE} {KD : DataW Unit} {nk : Nat}
/-- Behind the step: all but the iterator stands as it stood. -/
theorem BackAt.next (h : BackAt S w d mb s ks kb r n wr left cnt l es KD nk) (hr : w.heap.size ≤ r) (hS : ∀ k, S k → k < w.heap.size) (hkr : kb ≠ r) {w1 : World} (hg : wr.grownBy w1 (some r)) :
    Lay S w1 d mb es (cB s ks left) ∧ w1.ownsMap Try.prog 3 (plainElem Try.prog 3) kb nk KD ∧ Only S w w1 :=
  ⟨h.lay.kept fun k hk hs => hg.block k hk (fun e => by injection e with e; have := hS k hs; omega), h.kept.kept hg (fun e => hkr (by injection e)), h.only.grown hg fun j hj => by injection hj with hj; exact .inr (by omega)⟩
/-- The file is gone. -/
theorem BackAt.gone {e : DE} {w1 w2 : World} {cnt2 : Nat} (hp : l.Perm (es.map ent)) (hfs : es.map (·.f) = curL ks left s.fs) (hS : ∀ k, S k → k < w.heap.size) (hkm : kb ≠ mb)
    (hl1 : Lay S w1 d mb es (cB s ks left)) (hk1 : w1.ownsMap Try.prog 3 (plainElem Try.prog 3) kb nk KD) (ho1 : Only S w w1) (he : e ∈ es) (hlf : left (.int .i64 e.f.n) = true) (hno : ∀ f ∈ s.fs, f.n = e.f.n → backF ks f = none)
    (hrg : w2.ranges Try.prog 3 ptrR mb r n ((DataW.map l).del (.int .i64 e.f.n)) (strike left e.f.n) cnt2) (ht : w1.mapTurned w2 mb) :
    ∃ l' es', BackAt S w d mb s ks kb r n w2 (strike left e.f.n) cnt2 l' es' KD nk := by
  obtain ⟨g1, g2⟩ := curL_gone hlf hno
  refine ⟨l.filter fun p => !p.1.sameKey (.int .i64 e.f.n), delE e.f.n es, hrg, ?_, ?_, by rw [delE_f, hfs, g1], hk1.kept ht.grown (fun x => hkm (by injection x)), ho1.grown ht.grown fun j hj => by injection hj with hj; subst hj; exact .inl hl1.sm⟩
  · refine (hp.filter _).trans ?_
    rw [List.filter_map]
    have : ((fun p : Lit × DataW Unit => !p.1.sameKey (.int .i64 e.f.n)) ∘ ent) = fun x => decide (x.f.n ≠ e.f.n) := by
      funext x
      simp [ent, sameKey_i64]
    rw [this]
    exact List.Perm.refl _
  · have hc : cB s ks (strike left e.f.n) = cB s ks left := by unfold cB; rw [g2]
    rw [hc]
    exact hl1.del e.f.n (files_del hp hrg.owns) fun k _ hk => turned_other ht k hk
/-- The file has lost what it had to. -/
theorem BackAt.lost {e : DE} {w1 w2 w3 : World} {cnt1 : Nat} {v' : Value} (hp : l.Perm (es.map ent)) (hfs : es.map (·.f) = curL ks left s.fs) (hF : s.Fit) (hnod : (es.map (·.f.n)).Nodup)
    (hl1 : Lay S w1 d mb es (cB s ks left)) (hk1 : w1.ownsMap Try.prog 3 (plainElem Try.prog 3) kb nk KD) (ho1 : Only S w w1) (he : findE e.f.n es = some e) (hlf : left (.int .i64 e.f.n) = true) (hb : backF ks e.f = some (loseF (most ks e.f.n) e.f))
    (hrg : w1.ranges Try.prog 3 ptrR mb r n (.map l) (strike left e.f.n) cnt1) (h2 : Lay S w2 d mb (updE e.f.n ⟨loseF (most ks e.f.n) e.f, e.fb, v'⟩ es) (cB s ks left)) (o2 : Only (fun j => j = e.fb) w1 w2) (o3 : Only (fun j => j = d) w2 w3)
    (h3 : Lay S w3 d mb (updE e.f.n ⟨loseF (most ks e.f.n) e.f, e.fb, v'⟩ es) ((cB s ks left).use e.f.t ((if e.f.t = 0 then (usedL 0 (doneL ks left s.fs) : Int) else usedL 1 (doneL ks left s.fs)) + (blk (loseF (most ks e.f.n) e.f).data.length : Int)))) (ht : e.f.t = 0 ∨ e.f.t = 1) :
    ∃ es', BackAt S w d mb s ks kb r n w3 (strike left e.f.n) cnt1 l es' KD nk := by
  obtain ⟨hm, _⟩ := findE_mem he
  have hef : e.f ∈ s.fs := curL_mem (ks := ks) (left := left) (by rw [← hfs]; exact List.mem_map.2 ⟨e, hm, rfl⟩) hlf
  have hall : ∀ f ∈ s.fs, f.n = e.f.n → backF ks f = some (loseF (most ks e.f.n) f) := fun f hf hn => by
    have h1 := findL_of hF.nod hf hn
    rw [findL_of hF.nod hef rfl] at h1
    injection h1 with h1
    rw [← h1]
    exact hb
  have hfb1 := (hl1.file e hm).1
  have r2 := hrg.kept (grown_of_only o2) (fun x => by injection x with x; exact (hl1.ne_file hm).2 x.symm) (fun x => by injection x with x; exact iter_not_cells hrg hfb1 x)
  have r3 := r2.kept (grown_of_only o3) (fun x => by injection x with x; exact h2.ne_map x) (fun x => by injection x with x; exact iter_not_cells r2 h2.obj x)
  have k2 := hk1.kept (grown_of_only o2) (fun x => by injection x with x; exact map_not_cells hk1 hfb1 x)
  have k3 := k2.kept (grown_of_only o3) (fun x => by injection x with x; exact map_not_cells k2 h2.obj x)
  refine ⟨updE e.f.n ⟨loseF (most ks e.f.n) e.f, e.fb, v'⟩ es, r3, ?_, ?_, ?_, k3, (ho1.andThen o2 fun k _ hk => by rw [hk]; exact hl1.sf e hm).andThen o3 fun k _ hk => by rw [hk]; exact hl1.sd⟩
  · have : (updE e.f.n ⟨loseF (most ks e.f.n) e.f, e.fb, v'⟩ es).map ent = es.map ent := by
      unfold updE
      rw [List.map_map]
      apply List.map_congr_left
      intro x hx
      simp only [Function.comp]
      by_cases hxn : x.f.n = e.f.n
      · rw [if_pos hxn, nod_eq hnod hx hm hxn]
        rfl
      · rw [if_neg hxn]
    rw [this]
    exact hp
  · have d0 := done_lost hlf 0 rfl hb hF.nod hef
    have d1 := done_lost hlf 1 rfl hb hF.nod hef
    have hc : cB s ks (strike left e.f.n) = (cB s ks left).use e.f.t ((if e.f.t = 0 then (usedL 0 (doneL ks left s.fs) : Int) else usedL 1 (doneL ks left s.fs)) + (blk (loseF (most ks e.f.n) e.f).data.length : Int)) := by
      unfold cB DC.use
      rcases ht with x | x <;> rw [x] at d0 d1 ⊢ <;> simp at d0 d1 ⊢ <;> omega
    rw [hc]
    exact h3
  · rw [updE_f (g := loseF (most ks e.f.n)) hnod he rfl, hfs, curL_lost _ hlf hall]
end
end Go.Proofs.Ytlpknhiagdhkcaa
/- The power goes, and comes back: the call. -/
set_option linter.unusedVariables false
set_option maxRecDepth 100000
namespace Go.Proofs.Ytlpknhiagdhkcaa
open Go.RowKit Go.Maps

theorem disk_Back_nil (v : Value) (w : World) : Calls Try.prog 26 #[.pointer none, v] w fun e w' => e = .returned (.tuple #[]) ∧ w = w' := by
  go_enter Try.func26, Try.ntmps26
  go_wp2
  refine bodyPost_ret (results_none rfl _ _ _) rfl ?_
  exact ⟨rfl, rfl⟩
theorem cB_start {S : Nat → Prop} {w : World} {d mb : Nat} {es : List DE} {s : DS} {ks : List (Int × Int)} {left : Lit → Bool} (h : Lay S w d mb es s.dc) (hd : doneL ks left s.fs = []) :
    Lay S (w.setCells d 2 [.int .i64 0, .int .i64 0]) d mb es (cB s ks left) :=
  (h.setD 2 (.int .i64 0) { s.dc with u0 := 0 } rfl).setD 3 (.int .i64 0) (cB s ks left) (by unfold cB; rw [hd]; rfl)

theorem Lay.there2 {S : Nat → Prop} {w : World} {d mb : Nat} {es : List DE} {c : DC} (h : Lay S w d mb es c) : w.there d 2 (#[Value.int .i64 0, Value.int .i64 0] : Array Value).size := by
  intro j hj
  refine ⟨?_, h.free _⟩
  rw [h.cell]
  have hj' : j < 2 := hj
  match j, hj' with
  | 0, _ => rfl
  | 1, _ => rfl
theorem info54 : (Try.prog.info? 97).map (·.size) = some (#[Value.int .i64 0, Value.int .i64 0] : Array Value).size := by kernel_rfl
theorem one54 : (#[Value.int .i64 0, Value.int .i64 0] : Array Value).all (·.oneCell') = true := by kernel_rfl
theorem back_start {S : Nat → Prop} {w w1 w2 w3 : World} {d mb : Nat} {s : DS} {ks : List (Int × Int)} {es : List DE} {kb nk : Nat} {KD : DataW Unit} {l : List (Lit × DataW Unit)} (hl1 : Lay S w1 d mb es s.dc) (he : es.map (·.f) = s.fs) (hS : ∀ k, S k → k < w.heap.size)
    (hkb : w.heap.size ≤ kb) (hk : w1.ownsMap Try.prog 3 (plainElem Try.prog 3) kb nk KD) (hb : Below w.heap.size w w1) (hw2 : w1.setCells d 2 [.int .i64 0, .int .i64 0] = w2) (hp : l.Perm (es.map ent))
    (hrg : w3.ranges Try.prog 3 ptrR mb w2.heap.size es.length (.map l) (Maps.has (.map l)) (Maps.size (.map l))) (hg : w2.grownBy w3 none) :
    BackAt S w d mb s ks kb w2.heap.size es.length w3 (Maps.has (.map l)) (Maps.size (.map l)) l es KD nk ∧ kb < w2.heap.size := by
  have hall : ∀ f ∈ s.fs, Maps.has (DataW.map l) (.int .i64 f.n) = true := fun f hf => by
    rw [← he] at hf
    obtain ⟨e, hem, rfl⟩ := List.mem_map.1 hf
    exact has_files hp hem
  obtain ⟨g1, g2⟩ := curL_start (ks := ks) hall
  have h2 := cB_start (ks := ks) hl1 g2
  have hdk : d < w.heap.size := hS d hl1.sd
  have o12 : Only (fun k => k = d) w1 w2 := by rw [← hw2]; exact (only_setD (d := d) (i := 2) _).trans (only_setD (d := d) (i := 3) _)
  have hk2 : w2.ownsMap Try.prog 3 (plainElem Try.prog 3) kb nk KD := hk.kept (grown_of_only o12) (fun x => by injection x with x; omega)
  rw [hw2] at h2
  refine ⟨⟨hrg, hp, h2.kept fun k hk _ => hg.block k hk (by simp), by rw [he, g1], hk2.kept hg (by simp), ?_⟩, hk2.lt⟩
  have oa : Only S w w1 := (Only.of_below (S := fun _ => False) hb fun j hj hB => absurd hj (by omega)).mono fun _ _ x => x.elim
  exact (oa.andThen o12 fun k _ hk => by rw [hk]; exact hl1.sd).grown hg fun j hj => by cases hj
theorem lt_left {w w' : World} {mb r n cnt cnt' : Nat} {D D' : DataW Unit} {left left' : Lit → Bool} (h : w.ranges Try.prog 3 ptrR mb r n D left cnt) (h' : w'.ranges Try.prog 3 ptrR mb r n D' left' cnt') (hlt : cnt < cnt') : w.rangeLeft mb r < w'.rangeLeft mb r := by
  rw [h.left_eq, h'.left_eq]
  exact hlt
theorem lost_facts {S : Nat → Prop} {w : World} {d mb : Nat} {s : DS} {ks : List (Int × Int)} {left : Lit → Bool} {es : List DE} {e : DE} {k : Int} {v' : Value} (h : Lay S w d mb (updE e.f.n ⟨loseF k e.f, e.fb, v'⟩ es) (cB s ks left)) (hfe : findE e.f.n es = some e) :
    ∃ a cap, v' = .slice a (loseF k e.f).data.length cap ∧ w.cell? ⟨e.fb, 0, none⟩ = some (.int .i64 e.f.t) ∧ w.cell? ⟨e.fb, 1, none⟩ = some (.slice a (loseF k e.f).data.length cap) ∧
      w.cell? ⟨d, 2, none⟩ = some (.int .i64 (usedL 0 (doneL ks left s.fs))) ∧ w.cell? ⟨d, 3, none⟩ = some (.int .i64 (usedL 1 (doneL ks left s.fs))) ∧ w.frozen? ⟨d, 2, none⟩ = false ∧ w.frozen? ⟨d, 3, none⟩ = false := by
  have hm : (⟨loseF k e.f, e.fb, v'⟩ : DE) ∈ updE e.f.n ⟨loseF k e.f, e.fb, v'⟩ es := (findE_mem (findE_upd (e' := ⟨loseF k e.f, e.fb, v'⟩) rfl hfe)).1
  obtain ⟨a, cap, hv, hc⟩ := row_slice (h.file _ hm).2
  refine ⟨a, cap, hv, h.fcell hm 0, ?_, h.cell 2, h.cell 3, h.free 2, h.free 3⟩
  have := h.fcell hm 1
  simp only at hv
  rw [hv] at this
  exact this
theorem back_end {S S0 : Nat → Prop} {w wr : World} {d mb : Nat} {s : DS} {ks : List (Int × Int)} {es : List DE} {kb nk r n cnt : Nat} {KD : DataW Unit} {l : List (Lit × DataW Unit)} {left : Lit → Bool} (h : BackAt S w d mb s ks kb r n wr left cnt l es KD nk) (hl : ∀ kl, left kl = false) (hF : s.Fit)
    (hS0 : ∀ k, S k → S0 k) : Disk (New S0 w) ((wr.setCell ⟨d, 7, none⟩ (.int .i64 (-1))).setCell ⟨d, 8, none⟩ (.bool false)) d (s.back ks) ∧ Only S0 w ((wr.setCell ⟨d, 7, none⟩ (.int .i64 (-1))).setCell ⟨d, 8, none⟩ (.bool false)) := by
  obtain ⟨g1, g2⟩ := curL_end (ks := ks) (fs := s.fs) hl
  refine ⟨⟨hF.back ks, mb, es, ?_, by rw [h.fs, g1]; rfl⟩, ?_⟩
  · refine ((h.lay.setD 7 (.int .i64 (-1)) { cB s ks left with left := -1 } rfl).setD 8 (.bool false) (DS.dc (s.back ks)) ?_).mono fun k _ hk => .inl (hS0 k hk)
    unfold cB
    rw [g2]
    rfl
  · exact (h.only.andThen ((only_setD (d := d) (i := 7) _).trans (only_setD (d := d) (i := 8) _)) fun k _ hk => by rw [hk]; exact h.lay.sd).mono fun k _ hk => hS0 k hk
set_option maxHeartbeats 1600000 in
set_option maxRecDepth 100000 in
theorem disk_Back {S0 : Nat → Prop} {w : World} {d : Nat} {s : DS} (h0 : Disk S0 w d s) (a : Option Addr) (len cap : Nat) (ks : List (Int × Int)) (hks : IsKeeps w a len ks) :
    Calls Try.prog 26 #[.pointer (some ⟨d, 0, none⟩), .slice a len cap] w fun e w' => e = .returned (.tuple #[]) ∧ Disk (New S0 w) w' d (s.back ks) ∧ Only S0 w w' := by
  obtain ⟨hF, mb, es, h, he⟩ := h0.tight
  obtain ⟨S, hSd⟩ : ∃ S : Nat → Prop, S = fun k => S0 k ∧ k < w.heap.size := ⟨_, rfl⟩
  rw [← hSd] at h
  have hS : ∀ k, S k → k < w.heap.size := fun k hk => by rw [hSd] at hk; exact hk.2
  have hS0 : ∀ k, S k → S0 k := fun k hk => by rw [hSd] at hk; exact hk.1
  clear hSd h0
  have HF := Lib.hid hF
  have HS := Lib.hid hS
  have HE := Lib.hid he
  have HL := Lib.hid h
  have hmb : mb < w.heap.size := hS mb h.sm
  have hFK := disk_firstKeeps a len cap ks w hks
  clear hF hS he h hks
  go_enter Try.func26, Try.ntmps26
  go_wp2_with (first
    | (go_at_call 49; refine hFK.mono ?_; rintro e w1 ⟨kb, nk, KD, rfl, hkb, hkept, hkd, hbl⟩; have H1 := Lib.hid (HL.out.kept (w' := w1) fun k hk _ => hbl.block k hk); have HK := Lib.hid hkept; have HKD := Lib.hid hkd; have HB := Lib.hid hbl; clear hkept hkd hbl)
    | (refine wpList_store_mid rfl 97 (.tmp 16) (.tmp 14) rfl d 2 #[.int .i64 0, .int .i64 0] rfl rfl H1.out.there2 info54 one54 ?_; generalize hw2 : World.setCells w1 _ _ _ = w2; have HW2 := Lib.hid hw2; clear hw2; have c4 : w2.cell? ⟨d, 4, none⟩ = some (.map (some mb)) := by { rw [← HW2.out]; exact (cB_start (ks := ks) (left := fun _ => true) H1.out (by unfold doneL; simp)).cell 4 }; obtain ⟨l, hown, hperm⟩ := (show FileMap w2 mb es by { rw [← HW2.out]; exact (cB_start (ks := ks) (left := fun _ => true) H1.out (by unfold doneL; simp)).map }); have HP := Lib.hid hperm; clear hperm; go_frame)
    | (at_range; refine wpList_range_own _ rfl _ 98 rfl 3 106 law3 Try.underlying98 ptrR mb es.length (.map l) rfl hown ?_; intro w3 hrg0 hg0 hs0)
    | go_in)
  obtain ⟨hB0, hkr⟩ := back_start (ks := ks) H1.out HE.out HS.out hkb HK.out HB.out HW2.out HP.out hrg0 hg0
  have hr2 : w.heap.size ≤ w2.heap.size := by omega
  have HB0 := Lib.hid hB0
  clear hB0 hrg0 hg0 hs0 hown c4 hFK
  go_loopw [5] (fun _ wr => ∃ left cnt l' es', BackAt S w d mb s ks kb w2.heap.size es.length wr left cnt l' es' KD nk) (fun _ wr => wr.rangeLeft mb w2.heap.size)
  case atStart => exact ⟨_, _, _, _, HB0.out⟩
  case round =>
    obtain ⟨left, cnt, l', es', hB⟩ := hrel
    have c7 := hB.lay.cell 7
    have c8 := hB.lay.cell 8
    simp only [DC.cells] at c7 c8
    have f7 := hB.lay.free 7
    have f8 := hB.lay.free 8
    have HBB := Lib.hid hB
    clear hB
    go_wp2_with (first
      | (at_next; refine wpList_next_files rfl _ rfl mb w2.heap.size es.length l' es' left cnt rfl HBB.out.rng HBB.out.perm HBB.out.lay.nod ?_ ?_)
      | go_in)
    · intro _ hl0
      have HL0 := Lib.hid hl0
      clear hl0
      go_wp2
      go_end0
      exact ⟨rfl, back_end HBB.out HL0.out HF.out hS0⟩
    · intro e w4 cnt4 hem hfe hlf hwf hrg4 hlt hg4 hs4 hen
      obtain ⟨hl1, hk1, ho1⟩ := HBB.out.next hr2 HS.out (show kb ≠ w2.heap.size by omega) hg4
      have hef : e.f ∈ s.fs := curL_mem (ks := ks) (left := left) (by rw [← HBB.out.fs]; exact List.mem_map.2 ⟨e, hem, rfl⟩) hlf
      have hkey := key_i64 hwf
      obtain ⟨ft, fsb, fsu, fn⟩ := HF.out.file e.f hef
      have g2 : w4.cell? ⟨e.fb, 2, none⟩ = some (.bool e.f.sure) := hl1.fcell hem 2
      have d4 : w4.cell? ⟨d, 4, none⟩ = some (.map (some mb)) := hl1.cell 4
      have hh := (HKD.out e.f.n).1
      have HLF := Lib.hid hlf
      have HFE := Lib.hid hfe
      have HL1 := Lib.hid hl1
      have HK1 := Lib.hid hk1
      have HO1 := Lib.hid ho1
      have HRG := Lib.hid hrg4
      have HG4 := Lib.hid hg4
      clear hlf hfe hl1 hk1 ho1 hg4 hs4 c7 c8 f7 f8
      by_cases hgone : keepOf ks e.f.n = none ∧ e.f.sure = false
      · rw [hgone.1] at hh
        rw [hgone.2] at g2
        have hno : ∀ f ∈ s.fs, f.n = e.f.n → backF ks f = none := fun f hf hn => by
          have h1 := findL_of HF.out.nod hf hn
          rw [findL_of HF.out.nod hef rfl] at h1
          injection h1 with h1
          rw [← h1]
          unfold backF
          rw [if_pos hgone]
        have HNO := Lib.hid hno
        clear hgone hno
        change Maps.has KD (.int .i64 e.f.n) = false at hh
        go_wp2_with (first
          | (at_lookup; refine wpList_lookup_own_ok_int _ rfl _ _ 104 rfl 3 3 .i64 law3 Try.underlying104 Try.underlying3 (zero3 _) _ nk KD rfl HK1.out _ _ rfl hkey ?_; intro cc hat hwc)
          | (at_delete; refine wpList_delete_ranges _ rfl _ _ 98 3 rfl 106 law3 Try.underlying98 ptrR mb w2.heap.size es.length _ _ _ rfl HRG.out _ _ rfl hkey ?_; intro w5 cnt5 hrg5 hle5 hturn5; go_frame)
          | go_in)
        go_roundw
        case rel =>
          obtain ⟨l5, es5, hB5⟩ := BackAt.gone HBB.out.perm HBB.out.fs HS.out (show kb ≠ mb by omega) HL1.out HK1.out HO1.out hem HLF.out HNO.out (by unfold strike at hrg5 ⊢; rw [Maps.strike_twice] at hrg5; exact hrg5) hturn5
          exact ⟨_, _, _, _, hB5⟩
        case measure => rw [hrg5.left_eq, HBB.out.rng.left_eq]; omega
      · have hbk : backF ks e.f = some (loseF (most ks e.f.n) e.f) := by unfold backF; rw [if_neg hgone]
        have HBK := Lib.hid hbk
        obtain ⟨lb1, lb2⟩ := len_bound HF.out (findL_of HF.out.nod hef rfl)
        have hbl := fun W => disk_blocks (loseF (most ks e.f.n) e.f).data.length (by have := (backF_n hbk).2.2; omega) W
        have hbb := blk_mono (backF_n hbk).2.2
        have ub0 := used_done 0 ks left s.fs
        have ub1 := used_done 1 ks left s.fs
        have ub2 := HF.out.u0
        have ub3 := HF.out.u1
        have ub4 := HF.out.r0
        have ub5 := HF.out.r1
        have z0 : IntKind.i64.wrap ((usedL 0 (doneL ks left s.fs) : Int) + (blk (loseF (most ks e.f.n) e.f).data.length : Int)) = (usedL 0 (doneL ks left s.fs) : Int) + (blk (loseF (most ks e.f.n) e.f).data.length : Int) := IntWalk.i64_in _ (by omega)
        have z1 : IntKind.i64.wrap ((usedL 1 (doneL ks left s.fs) : Int) + (blk (loseF (most ks e.f.n) e.f).data.length : Int)) = (usedL 1 (doneL ks left s.fs) : Int) + (blk (loseF (most ks e.f.n) e.f).data.length : Int) := IntWalk.i64_in _ (by omega)
        clear hbk
        cases hko : keepOf ks e.f.n with
        | some vv =>
          rw [hko] at hh
          change Maps.has KD (.int .i64 e.f.n) = true at hh
          clear hgone hko
          rcases ft with ht | ht
          · have HT := Lib.hid ht
            have ft : e.f.t = 0 ∨ e.f.t = 1 := .inl ht
            clear ht
            go_wp2_with (first
              | (at_lookup; refine wpList_lookup_own_ok_int _ rfl _ _ 104 rfl 3 3 .i64 law3 Try.underlying104 Try.underlying3 (zero3 _) _ nk KD rfl HK1.out _ _ rfl hkey ?_; intro cc hat hwc; obtain rfl : cc = most ks e.f.n := kept_most HKD.out hat)
              | (go_at_call 50; refine (lay_lose HL1.out e e.f.n HFE.out (most ks e.f.n) fsb (by omega)).mono ?_; rintro en w5 ⟨rfl, ⟨v', h2⟩, o2⟩; obtain ⟨a5, cap5, hv5, k0, k1, k2, k3, k4, k5⟩ := lost_facts h2 HFE.out; rw [HT.out] at k0; have H2 := Lib.hid h2; have O2 := Lib.hid o2; clear h2 o2 hv5)
              | go_in)
            refine wp_region_still_tail 19 (by kernel_rfl) (by kernel_rfl) ?_
            simp only [List.take_succ_cons, List.take_zero, List.drop_succ_cons, List.drop_zero]
            repeat still_step
            still_call ((hbl _).mono fun _ _ ⟨a, b⟩ => ⟨a, b.symm⟩)
            repeat still_step
            refine wpStill_nil ?_
            change wpList _ _ _ _ _ (World.drew _)
            go_wp2
            have hH := H2.out.drew
            have hU := (hH.setU ((usedL 0 (doneL ks left s.fs) : Int) + (blk (loseF (most ks e.f.n) e.f).data.length : Int))).1
            obtain ⟨es5, hB5⟩ := BackAt.lost HBB.out.perm HBB.out.fs HF.out HBB.out.lay.nod HL1.out HK1.out HO1.out HFE.out HLF.out HBK.out HRG.out H2.out O2.out ((Only.refl _ _).drew.trans (only_setD (d := d) (i := 2) _)) (by rw [HT.out]; exact hU) ft
            go_roundw
            case rel => exact ⟨_, _, _, _, hB5⟩
            case measure => exact lt_left hB5.rng HBB.out.rng hlt
          · have HT := Lib.hid ht
            have ft : e.f.t = 0 ∨ e.f.t = 1 := .inr ht
            clear ht
            go_wp2_with (first
              | (at_lookup; refine wpList_lookup_own_ok_int _ rfl _ _ 104 rfl 3 3 .i64 law3 Try.underlying104 Try.underlying3 (zero3 _) _ nk KD rfl HK1.out _ _ rfl hkey ?_; intro cc hat hwc; obtain rfl : cc = most ks e.f.n := kept_most HKD.out hat)
              | (go_at_call 50; refine (lay_lose HL1.out e e.f.n HFE.out (most ks e.f.n) fsb (by omega)).mono ?_; rintro en w5 ⟨rfl, ⟨v', h2⟩, o2⟩; obtain ⟨a5, cap5, hv5, k0, k1, k2, k3, k4, k5⟩ := lost_facts h2 HFE.out; rw [HT.out] at k0; have H2 := Lib.hid h2; have O2 := Lib.hid o2; clear h2 o2 hv5)
              | go_in)
            refine wp_region_still_tail 19 (by kernel_rfl) (by kernel_rfl) ?_
            simp only [List.take_succ_cons, List.take_zero, List.drop_succ_cons, List.drop_zero]
            repeat still_step
            still_call ((hbl _).mono fun _ _ ⟨a, b⟩ => ⟨a, b.symm⟩)
            repeat still_step
            refine wpStill_nil ?_
            change wpList _ _ _ _ _ (World.drew _)
            go_wp2
            have hH := H2.out.drew
            have hU := (hH.setU ((usedL 1 (doneL ks left s.fs) : Int) + (blk (loseF (most ks e.f.n) e.f).data.length : Int))).2
            obtain ⟨es5, hB5⟩ := BackAt.lost HBB.out.perm HBB.out.fs HF.out HBB.out.lay.nod HL1.out HK1.out HO1.out HFE.out HLF.out HBK.out HRG.out H2.out O2.out ((Only.refl _ _).drew.trans (only_setD (d := d) (i := 3) _)) (by rw [HT.out]; exact hU) ft
            go_roundw
            case rel => exact ⟨_, _, _, _, hB5⟩
            case measure => exact lt_left hB5.rng HBB.out.rng hlt
        | none =>
          rw [hko] at hh
          change Maps.has KD (.int .i64 e.f.n) = false at hh
          have hsu : e.f.sure = true := by
            cases hs : e.f.sure
            · exact absurd ⟨hko, hs⟩ hgone
            · rfl
          rw [hsu] at g2
          clear hgone hko hsu
          rcases ft with ht | ht
          · have HT := Lib.hid ht
            have ft : e.f.t = 0 ∨ e.f.t = 1 := .inl ht
            clear ht
            go_wp2_with (first
              | (at_lookup; refine wpList_lookup_own_ok_int _ rfl _ _ 104 rfl 3 3 .i64 law3 Try.underlying104 Try.underlying3 (zero3 _) _ nk KD rfl HK1.out _ _ rfl hkey ?_; intro cc hat hwc; obtain rfl : cc = most ks e.f.n := kept_most HKD.out hat)
              | (go_at_call 50; refine (lay_lose HL1.out e e.f.n HFE.out (most ks e.f.n) fsb (by omega)).mono ?_; rintro en w5 ⟨rfl, ⟨v', h2⟩, o2⟩; obtain ⟨a5, cap5, hv5, k0, k1, k2, k3, k4, k5⟩ := lost_facts h2 HFE.out; rw [HT.out] at k0; have H2 := Lib.hid h2; have O2 := Lib.hid o2; clear h2 o2 hv5)
              | go_in)
            refine wp_region_still_tail 19 (by kernel_rfl) (by kernel_rfl) ?_
            simp only [List.take_succ_cons, List.take_zero, List.drop_succ_cons, List.drop_zero]
            repeat still_step
            still_call ((hbl _).mono fun _ _ ⟨a, b⟩ => ⟨a, b.symm⟩)
            repeat still_step
            refine wpStill_nil ?_
            change wpList _ _ _ _ _ (World.drew _)
            go_wp2
            have hH := H2.out.drew
            have hU := (hH.setU ((usedL 0 (doneL ks left s.fs) : Int) + (blk (loseF (most ks e.f.n) e.f).data.length : Int))).1
            obtain ⟨es5, hB5⟩ := BackAt.lost HBB.out.perm HBB.out.fs HF.out HBB.out.lay.nod HL1.out HK1.out HO1.out HFE.out HLF.out HBK.out HRG.out H2.out O2.out ((Only.refl _ _).drew.trans (only_setD (d := d) (i := 2) _)) (by rw [HT.out]; exact hU) ft
            go_roundw
            case rel => exact ⟨_, _, _, _, hB5⟩
            case measure => exact lt_left hB5.rng HBB.out.rng hlt
          · have HT := Lib.hid ht
            have ft : e.f.t = 0 ∨ e.f.t = 1 := .inr ht
            clear ht
            go_wp2_with (first
              | (at_lookup; refine wpList_lookup_own_ok_int _ rfl _ _ 104 rfl 3 3 .i64 law3 Try.underlying104 Try.underlying3 (zero3 _) _ nk KD rfl HK1.out _ _ rfl hkey ?_; intro cc hat hwc; obtain rfl : cc = most ks e.f.n := kept_most HKD.out hat)
              | (go_at_call 50; refine (lay_lose HL1.out e e.f.n HFE.out (most ks e.f.n) fsb (by omega)).mono ?_; rintro en w5 ⟨rfl, ⟨v', h2⟩, o2⟩; obtain ⟨a5, cap5, hv5, k0, k1, k2, k3, k4, k5⟩ := lost_facts h2 HFE.out; rw [HT.out] at k0; have H2 := Lib.hid h2; have O2 := Lib.hid o2; clear h2 o2 hv5)
              | go_in)
            refine wp_region_still_tail 19 (by kernel_rfl) (by kernel_rfl) ?_
            simp only [List.take_succ_cons, List.take_zero, List.drop_succ_cons, List.drop_zero]
            repeat still_step
            still_call ((hbl _).mono fun _ _ ⟨a, b⟩ => ⟨a, b.symm⟩)
            repeat still_step
            refine wpStill_nil ?_
            change wpList _ _ _ _ _ (World.drew _)
            go_wp2
            have hH := H2.out.drew
            have hU := (hH.setU ((usedL 1 (doneL ks left s.fs) : Int) + (blk (loseF (most ks e.f.n) e.f).data.length : Int))).2
            obtain ⟨es5, hB5⟩ := BackAt.lost HBB.out.perm HBB.out.fs HF.out HBB.out.lay.nod HL1.out HK1.out HO1.out HFE.out HLF.out HBK.out HRG.out H2.out O2.out ((Only.refl _ _).drew.trans (only_setD (d := d) (i := 3) _)) (by rw [HT.out]; exact hU) ft
            go_roundw
            case rel => exact ⟨_, _, _, _, hB5⟩
            case measure => exact lt_left hB5.rng HBB.out.rng hlt
end Go.Proofs.Ytlpknhiagdhkcaa
/- What a disk tells; a disk whose blocks are from a number on: its calls. -/
set_option linter.unusedVariables false
set_option maxRecDepth 100000
namespace Go.Proofs.Ytlpknhiagdhkcaa
open Go.RowKit Go.Maps

theorem wf_hi {n : Int} (h : (Lit.int .i64 n).wf = true) : -9223372036854775808 ≤ n ∧ n ≤ 9223372036854775807 := by
  simp [Lit.wf, IntKind.min, IntKind.max, IntKind.signed, IntKind.bits] at h
  omega
theorem disk_Size {S : Nat → Prop} {w : World} {d : Nat} {s : DS} (h : Disk S w d s) (n : Int) (hw : (Lit.int .i64 n).wf = true) :
    Calls Try.prog 27 #[.pointer (some ⟨d, 0, none⟩), .int .i64 n] w fun e w' => e = .returned (.tuple #[.int .i64 (s.size n).1, .int .i64 (s.size n).2.1, .int .i64 (s.size n).2.2]) ∧ ∃ m, w' = w.drewN m := by
  obtain ⟨hF, mb, es, h, he⟩ := h
  cases hd : s.down with
  | true =>
    have hr : s.size n = (0, 0, 8) := by unfold DS.size; rw [if_pos hd]
    rw [hr]
    exact lay_Size_down h n hd
  | false =>
    cases hx : findL n s.fs with
    | none =>
      have hr : s.size n = (0, 0, 9) := by unfold DS.size; rw [if_neg (by rw [hd]; simp), hx]
      rw [hr]
      exact lay_Size_none h n hw hd (find_none he hx)
    | some f =>
      obtain ⟨e0, hfe, hef⟩ := find_some he hx
      have hr : s.size n = ((f.data.length : Int), f.t, 0) := by unfold DS.size; rw [if_neg (by rw [hd]; simp), hx]
      rw [hr, ← hef]
      exact lay_Size_some h n hw hd e0 hfe
theorem disk_Read {S : Nat → Prop} {w : World} {d : Nat} {s : DS} (h : Disk S w d s) (n i m : Int) (hw : (Lit.int .i64 n).wf = true) (hi : i ≤ 9223372036854775807) :
    Calls Try.prog 28 #[.pointer (some ⟨d, 0, none⟩), .int .i64 n, .int .i64 i, .int .i64 m] w fun e w' => e = .returned (.tuple #[.string (bs (s.read n i m).1), .int .i64 (s.read n i m).2]) ∧ w = w' := by
  obtain ⟨hF, mb, es, h, he⟩ := h
  cases hd : s.down with
  | true =>
    have hr : s.read n i m = ([], 8) := by unfold DS.read; rw [if_pos hd]
    rw [hr]
    exact lay_Read_down h n i m hd
  | false =>
    cases hx : findL n s.fs with
    | none =>
      have hr : s.read n i m = ([], 9) := by unfold DS.read; rw [if_neg (by rw [hd]; simp), hx]
      rw [hr]
      exact lay_Read_none h n i m hw hd (find_none he hx)
    | some f =>
      obtain ⟨e0, hfe, hef⟩ := find_some he hx
      have hlb := (len_bound hF hx).1
      by_cases hno : i < 0 ∨ m < 0 ∨ (f.data.length : Int) - i < m
      · have hr : s.read n i m = ([], 1) := by unfold DS.read; rw [if_neg (by rw [hd]; simp), hx]; simp only; rw [if_pos hno]
        rw [hr]
        rw [← hef] at hno hlb
        exact lay_Read_no h n i m hw hd e0 hfe (by omega) hi hno
      · have hr : s.read n i m = ((f.data.drop i.toNat).take m.toNat, 0) := by unfold DS.read; rw [if_neg (by rw [hd]; simp), hx]; simp only; rw [if_neg hno]
        obtain ⟨a, rfl⟩ := Int.eq_ofNat_of_zero_le (show 0 ≤ i by omega)
        obtain ⟨b, rfl⟩ := Int.eq_ofNat_of_zero_le (show 0 ≤ m by omega)
        rw [hr]
        rw [← hef] at hno hlb ⊢
        exact lay_Read h n a b hw hd e0 hfe (by omega) (by omega)
theorem disk_Down {S : Nat → Prop} {w : World} {d : Nat} {s : DS} (h : Disk S w d s) : Calls Try.prog 53 #[.pointer (some ⟨d, 0, none⟩)] w fun e w' => e = .returned (.bool s.down) ∧ w = w' := by
  obtain ⟨hF, mb, es, h, he⟩ := h
  exact lay_Down h
/-- A disk whose blocks are from B on. -/
def DAt (B : Nat) (w : World) (d : Nat) (s : DS) : Prop := Disk (fun k => B ≤ k) w d s ∧ B ≤ w.heap.size
theorem DAt.did {B : Nat} {w w' : World} {d : Nat} {s : DS} {r : DS × Int} {e : Ending} (h : DAt B w d s) (k : Did (fun k => B ≤ k) d r w e w') : e = .returned (.int .i64 r.2) ∧ DAt B w' d r.1 ∧ Below B w w' := by
  obtain ⟨h1, h2, h3⟩ := k
  exact ⟨h1, ⟨h2.mono fun k _ hk => by rcases hk with x | x; (exact x); (exact Nat.le_trans h.2 x), Nat.le_trans h.2 h3.size⟩, h3.below (fun _ _ x => x) h.2⟩
theorem DAt.below {B : Nat} {w w' : World} {d : Nat} {s : DS} (h : DAt B w d s) (k : Below w.heap.size w w') : DAt B w' d s := ⟨h.1.below k, Nat.le_trans h.2 k.size⟩
theorem DAt.drewN {B : Nat} {w : World} {d : Nat} {s : DS} (h : DAt B w d s) (m : Nat) : DAt B (w.drewN m) d s := ⟨h.1.drewN m, h.2⟩
theorem new_fit (a b : Nat) (ha : a ≤ 1048576) (hb : b ≤ 1048576) : (DS.new a b).Fit :=
  ⟨ha, hb, Nat.zero_le _, Nat.zero_le _, by simp [DS.new], by simp [DS.new], .inl rfl, by simp [DS.new], by simp [DS.new]⟩
theorem at_New (a b : Nat) (w : World) (ha : a ≤ 1048576) (hb : b ≤ 1048576) :
    Calls Try.prog 19 #[.int .i64 (a : Int), .int .i64 (b : Int)] w fun e w' => ∃ d : Nat, e = .returned (.tuple #[.pointer (some ⟨d, 0, none⟩), .int .i64 0]) ∧ DAt w.heap.size w' d (DS.new a b) ∧ Below w.heap.size w w' :=
  (disk_New a b w ha hb).mono fun e w' ⟨d, mb, he, hl, hb'⟩ => ⟨d, he, ⟨⟨new_fit a b ha hb, mb, [], hl, rfl⟩, hb'.size⟩, hb'⟩
theorem at_Back {B : Nat} {w : World} {d : Nat} {s : DS} (h : DAt B w d s) (a : Option Addr) (len cap : Nat) (ks : List (Int × Int)) (hks : IsKeeps w a len ks) :
    Calls Try.prog 26 #[.pointer (some ⟨d, 0, none⟩), .slice a len cap] w fun e w' => e = .returned (.tuple #[]) ∧ DAt B w' d (s.back ks) ∧ Below B w w' :=
  (disk_Back h.1 a len cap ks hks).mono fun e w' ⟨he, h2, h3⟩ => ⟨he, ⟨h2.mono fun k _ hk => by rcases hk with x | x; (exact x); (exact Nat.le_trans h.2 x), Nat.le_trans h.2 h3.size⟩, h3.below (fun _ _ x => x) h.2⟩
theorem at_Make {B : Nat} {w : World} {d : Nat} {s : DS} (h : DAt B w d s) (t n : Int) (hw : (Lit.int .i64 n).wf = true) (hs : s.steps < 4611686018427387904) :
    Calls Try.prog 29 #[.pointer (some ⟨d, 0, none⟩), .int .i64 t, .int .i64 n] w fun e w' => e = .returned (.int .i64 (s.make t n).2) ∧ DAt B w' d (s.make t n).1 ∧ Below B w w' :=
  (disk_Make h.1 t n hw (wf_hi hw).2 hs).mono fun e w' hd => h.did hd
theorem at_Add {B : Nat} {w : World} {d : Nat} {s : DS} (h : DAt B w d s) (n : Int) (b : List UInt8) (hw : (Lit.int .i64 n).wf = true) (hs : s.steps < 4611686018427387904) (hb : b.length ≤ 2305843009213693952) :
    Calls Try.prog 30 #[.pointer (some ⟨d, 0, none⟩), .int .i64 n, .string (bs b)] w fun e w' => e = .returned (.int .i64 (s.add n b).2) ∧ DAt B w' d (s.add n b).1 ∧ Below B w w' :=
  (disk_Add h.1 n b hw hs hb).mono fun e w' hd => h.did hd
theorem at_Sync {B : Nat} {w : World} {d : Nat} {s : DS} (h : DAt B w d s) (n : Int) (hw : (Lit.int .i64 n).wf = true) (hs : s.steps < 4611686018427387904) :
    Calls Try.prog 48 #[.pointer (some ⟨d, 0, none⟩), .int .i64 n] w fun e w' => e = .returned (.int .i64 (s.sync n).2) ∧ DAt B w' d (s.sync n).1 ∧ Below B w w' :=
  (disk_Sync h.1 n hw hs).mono fun e w' hd => h.did hd
end Go.Proofs.Ytlpknhiagdhkcaa
/- Plain laws of the disk: what calls leave as it was. -/
set_option linter.unusedVariables false
set_option maxRecDepth 100000
namespace Go.Proofs.Ytlpknhiagdhkcaa
open Go.RowKit Go.Maps

/-- A disk on which nothing was armed. -/
structure Calm (s : DS) : Prop where
  left : s.left = -1
  down : s.down = false
theorem calm_new (a b : Nat) : Calm (DS.new a b) := ⟨rfl, rfl⟩
theorem calm_back (s : DS) (ks : List (Int × Int)) : Calm (s.back ks) := ⟨rfl, rfl⟩
theorem calm_tick {s : DS} (h : Calm s) : s.tick.left = -1 := by
  unfold DS.tick
  simp only [h.left]
  rfl
/-- What each call does to a calm disk. -/
theorem make_calm {s : DS} (h : Calm s) (t n : Int) : s.make t n = (s, 1) ∧ ((¬ (t = 0 ∨ t = 1)) ∨ n < 1) ∨ s.make t n = (s, 10) ∧ (findL n s.fs).isSome = true ∨ s.make t n = (s, 7) ∨
    s.make t n = ({ s.tick with fs := s.fs ++ [⟨n, t, [], false, 0⟩] }, 0) ∧ findL n s.fs = none ∧ (t = 0 ∨ t = 1) ∧ 1 ≤ n := by
  unfold DS.make
  rw [if_neg (by rw [h.down]; simp)]
  by_cases h1 : ¬ (t = 0 ∨ t = 1) ∨ n < 1
  · rw [if_pos h1]; exact .inl ⟨rfl, h1⟩
  · rw [if_neg h1]
    by_cases h2 : (findL n s.fs).isSome = true
    · rw [if_pos h2]; exact .inr (.inl ⟨rfl, h2⟩)
    · rw [if_neg h2]
      by_cases h3 : s.room t ≤ s.used t
      · rw [if_pos h3]; exact .inr (.inr (.inl rfl))
      · rw [if_neg h3, if_neg (by rw [h.left]; omega)]
        refine .inr (.inr (.inr ⟨rfl, ?_, ?_⟩))
        · cases hx : findL n s.fs with
          | none => rfl
          | some f => rw [hx] at h2; exact absurd rfl h2
        · constructor
          · exact Classical.byContradiction fun x => h1 (.inl x)
          · omega
theorem add_calm {s : DS} (h : Calm s) (n : Int) (b : List UInt8) : s.add n b = (s, 9) ∧ findL n s.fs = none ∨ (∃ f, findL n s.fs = some f ∧ (s.add n b = (s, 7) ∨ s.add n b = ({ s.tick with fs := updL n (addF b) s.fs }, 0))) := by
  unfold DS.add
  rw [if_neg (by rw [h.down]; simp)]
  cases hx : findL n s.fs with
  | none => exact .inl ⟨rfl, rfl⟩
  | some f =>
    refine .inr ⟨f, rfl, ?_⟩
    simp only
    split
    · exact .inl rfl
    · rw [if_neg (by rw [h.left]; omega)]
      exact .inr rfl
theorem sync_calm {s : DS} (h : Calm s) (n : Int) : s.sync n = (s, 9) ∧ findL n s.fs = none ∨ (∃ f, findL n s.fs = some f ∧ s.sync n = ({ s.tick with fs := updL n syncF s.fs }, 0)) := by
  unfold DS.sync
  rw [if_neg (by rw [h.down]; simp)]
  cases hx : findL n s.fs with
  | none => exact .inl ⟨rfl, rfl⟩
  | some f =>
    refine .inr ⟨f, rfl, ?_⟩
    simp only
    rw [if_neg (by rw [h.left]; omega)]
theorem drop_calm {s : DS} (h : Calm s) (n : Int) : s.drop n = (s, 9) ∧ findL n s.fs = none ∨ (∃ f, findL n s.fs = some f ∧ (s.drop n = (s, 11) ∧ n = s.root ∨ s.drop n = ({ s.tick with fs := delL n s.fs }, 0) ∧ n ≠ s.root)) := by
  unfold DS.drop
  rw [if_neg (by rw [h.down]; simp)]
  cases hx : findL n s.fs with
  | none => exact .inl ⟨rfl, rfl⟩
  | some f =>
    refine .inr ⟨f, rfl, ?_⟩
    simp only
    by_cases hr : n = s.root
    · rw [if_pos hr]; exact .inl ⟨rfl, hr⟩
    · rw [if_neg hr, if_neg (by rw [h.left]; omega)]
      exact .inr ⟨rfl, hr⟩
theorem point_calm {s : DS} (h : Calm s) (n : Int) : s.point n = (s, 9) ∧ findL n s.fs = none ∨ (∃ f, findL n s.fs = some f ∧ (s.point n = (s, 11) ∨ s.point n = ({ s.tick with root := n }, 0))) := by
  unfold DS.point
  rw [if_neg (by rw [h.down]; simp)]
  cases hx : findL n s.fs with
  | none => exact .inl ⟨rfl, rfl⟩
  | some f =>
    refine .inr ⟨f, rfl, ?_⟩
    simp only
    split
    · exact .inl rfl
    · rw [if_neg (by rw [h.left]; omega)]
      exact .inr rfl
/-- The root is there. -/
theorem root_there {s : DS} (hF : s.Fit) (hr : s.root ≠ 0) : ∃ f, findL s.root s.fs = some f := by
  rcases hF.root with e | ⟨f, hf, hn, _⟩
  · exact absurd e hr
  · exact ⟨f, findL_of hF.nod hf hn⟩
theorem file_pos {s : DS} (hF : s.Fit) {n : Int} {f : DF} (h : findL n s.fs = some f) : 1 ≤ n := by
  obtain ⟨h1, h2⟩ := findL_mem h
  have := (hF.file f h1).2.2.2.1
  omega
theorem root_wf {s : DS} (hF : s.Fit) : (Lit.int .i64 s.root).wf = true := by
  rcases hF.root with e | ⟨f, hf, hn, _⟩
  · rw [e]; decide
  · have := (hF.file f hf).2.2.2
    exact WalkArith.wf_i64 (by omega)
theorem size_there {s : DS} (h : Calm s) {n : Int} {f : DF} (hf : findL n s.fs = some f) : s.size n = ((f.data.length : Int), f.t, 0) := by
  unfold DS.size
  rw [if_neg (by rw [h.down]; simp), hf]
theorem drop_root {s : DS} (h : Calm s) (hF : s.Fit) (hr : s.root ≠ 0) : s.drop s.root = (s, 11) := by
  obtain ⟨f, hf⟩ := root_there hF hr
  rcases drop_calm h s.root with ⟨e, h0⟩ | ⟨g, _, ⟨e, _⟩ | ⟨_, hn⟩⟩
  · rw [hf] at h0; cases h0
  · exact e
  · exact absurd rfl hn
theorem find_upd {n : Int} {g : DF → DF} (hg : ∀ x, (g x).n = x.n) : ∀ {l : List DF} {f : DF}, findL n l = some f → findL n (updL n g l) = some (g f)
  | [], f, h => by cases h
  | a :: r, f, h => by
    unfold findL at h
    show findL n ((if a.n = n then g a else a) :: updL n g r) = some (g f)
    by_cases ha : a.n = n
    · rw [if_pos ha] at h
      rw [if_pos ha]
      unfold findL
      rw [if_pos (by rw [hg]; exact ha)]
      cases h
      rfl
    · rw [if_neg ha] at h
      rw [if_neg ha]
      unfold findL
      rw [if_neg ha]
      exact find_upd hg h
theorem find_new {n : Int} {x : DF} (hx : x.n = n) : ∀ {l : List DF}, findL n l = none → findL n (l ++ [x]) = some x
  | [], _ => by unfold findL; simp [hx]
  | a :: r, h => by
    unfold findL at h
    show findL n (a :: (r ++ [x])) = some x
    by_cases ha : a.n = n
    · rw [if_pos ha] at h; cases h
    · rw [if_neg ha] at h
      unfold findL
      rw [if_neg ha]
      exact find_new hx h
theorem read_at {s : DS} (h : Calm s) {n : Int} {f : DF} (hf : findL n s.fs = some f) (k : Nat) (hk : k ≤ f.data.length) : s.read n 0 (k : Int) = (f.data.take k, 0) := by
  unfold DS.read
  rw [if_neg (by rw [h.down]; simp), hf]
  simp only
  rw [if_neg (by omega)]
  simp
/-- A file begun, or there already. -/
theorem make_then {s : DS} (h : Calm s) {n : Int} (hn : 1 ≤ n) : s.make 0 n = (s, 7) ∨ ∃ s2 c f, s.make 0 n = (s2, c) ∧ (c = 0 ∨ c = 10) ∧ Calm s2 ∧ s2.steps ≤ s.steps + 1 ∧ findL n s2.fs = some f := by
  rcases make_calm h 0 n with ⟨_, x⟩ | ⟨e, x⟩ | e | ⟨e, x, _⟩
  · omega
  · cases hf : findL n s.fs with
    | none => rw [hf] at x; cases x
    | some f => exact .inr ⟨s, 10, f, e, .inr rfl, h, Nat.le_succ _, hf⟩
  · exact .inl e
  · exact .inr ⟨_, 0, ⟨n, 0, [], false, 0⟩, e, .inl rfl, ⟨calm_tick h, h.down⟩, Nat.le_refl _, find_new (x := ⟨n, 0, [], false, 0⟩) rfl x⟩
theorem add_then {s : DS} (h : Calm s) {n : Int} {f : DF} (hf : findL n s.fs = some f) (b : List UInt8) : s.add n b = (s, 7) ∨ ∃ s2, s.add n b = (s2, 0) ∧ Calm s2 ∧ s2.steps ≤ s.steps + 1 ∧ findL n s2.fs = some (addF b f) := by
  rcases add_calm h n b with ⟨_, x⟩ | ⟨g, _, e | e⟩
  · rw [hf] at x; cases x
  · exact .inl e
  · exact .inr ⟨_, e, ⟨calm_tick h, h.down⟩, Nat.le_refl _, find_upd (g := addF b) (fun _ => rfl) hf⟩
theorem sync_then {s : DS} (h : Calm s) {n : Int} {f : DF} (hf : findL n s.fs = some f) : ∃ s2, s.sync n = (s2, 0) ∧ Calm s2 ∧ s2.steps ≤ s.steps + 1 ∧ findL n s2.fs = some (syncF f) := by
  rcases sync_calm h n with ⟨_, x⟩ | ⟨g, _, e⟩
  · rw [hf] at x; cases x
  · exact ⟨_, e, ⟨calm_tick h, h.down⟩, Nat.le_refl _, find_upd (g := syncF) (fun _ => rfl) hf⟩
/-- Behind a loss of power: the sure bytes, and a beginning of the others. -/
theorem back_then {s : DS} (hF : s.Fit) {n : Int} {f : DF} (hf : findL n s.fs = some f) (hs : f.sure = true) (ks : List (Int × Int)) : ∃ f', findL n (s.back ks).fs = some f' ∧ f'.data = f.data.take f'.data.length ∧ f.sb ≤ f'.data.length ∧ f'.data.length ≤ f.data.length := by
  have h1 : findL n (s.back ks).fs = some (loseF (most ks f.n) f) := by
    show findL n (s.fs.filterMap (backF ks)) = _
    rw [back_find hF.nod, hf]
    show backF ks f = _
    unfold backF
    rw [if_neg (by rw [hs]; simp)]
  have hsb := (hF.file f (findL_mem hf).1).2.1
  obtain ⟨k1, k2⟩ := keptLen_le (k := most ks f.n) hsb
  refine ⟨_, h1, ?_, ?_, ?_⟩
  · rw [loseF_eq]
    simp only [List.length_take, Nat.min_eq_left k1]
  · rw [loseF_eq]
    simp only [List.length_take, Nat.min_eq_left k1]
    exact k2
  · rw [loseF_eq]
    simp only [List.length_take, Nat.min_eq_left k1]
    exact k1
theorem fit_len {s : DS} (hF : s.Fit) {n : Int} {f : DF} (hf : findL n s.fs = some f) : f.data.length ≤ 67108864 := (len_bound hF hf).1
end Go.Proofs.Ytlpknhiagdhkcaa
