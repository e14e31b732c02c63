/- The power goes, and comes back. -/
import Derived.Test.YtkelcmncjhnbgaaDiskBackPlain
import Derived.Deep.MidRow
set_option linter.unusedVariables false
set_option maxRecDepth 100000
namespace Go.Proofs.Ytkelcmncjhnbgaa
open Go.RowKit Go.Maps

theorem ownsMap_fun {w : World} {mb n m : Nat} {D E : DataW Unit} (h : w.ownsMap Try.prog 3 ptrR mb n D) (k : w.ownsMap Try.prog 3 ptrR mb m E) : D = E := by
  obtain ⟨es, c, hb, _, _, rfl⟩ := h
  obtain ⟨es', c', hb', _, _, rfl⟩ := k
  rw [hb] at hb'
  injection hb' with hb'
  injection hb' with h1 h2
  rw [h1]
/-- A step of a range over a disk's files. -/
theorem wpList_next_files {ops : Array Oper} {rest : List Oper} {o : Oper} {a : Act} {w : World} {Q : Exit → Act → World → Prop} (hg : o.guard = none) (it : Operand) (hop : o.op = Op.next it false)
    (mb r n : Nat) (l : List (Lit × DataW Unit)) (es : List DE) (left : Lit → Bool) (cnt : Nat) (hit : a.eval it = .pointer (some ⟨r, 0, none⟩)) (h : w.ranges Try.prog 3 ptrR mb r n (.map l) left cnt) (hp : l.Perm (es.map ent)) (hn : (es.map (·.f.n)).Nodup)
    (hDone : cnt = 0 → (∀ kl, left kl = false) → wpList Try.prog ops Q rest (a.put o.dst (.tuple #[.bool false])) w)
    (hMore : ∀ (e : DE) (w' : World) (cnt' : Nat), e ∈ es → findE e.f.n es = some e → left (.int .i64 e.f.n) = true → (Lit.int .i64 e.f.n).wf = true → w'.ranges Try.prog 3 ptrR mb r n (.map l) (strike left e.f.n) cnt' → cnt' < cnt → w.grownBy w' (some r) → w'.heap.size = w.heap.size →
      (Instr.entry (.pointer (some ⟨r, 0, none⟩))).run Try.prog w' = .ok (.tuple #[.int .i64 e.f.n, .pointer (some ⟨e.fb, 0, none⟩)]) w' → wpList Try.prog ops Q rest (a.put o.dst (.tuple #[.bool true, .int .i64 e.f.n, .pointer (some ⟨e.fb, 0, none⟩)])) w') :
    wpList Try.prog ops Q (o :: rest) a w := by
  refine wpList_plain hg fun K' hK' => ?_
  unfold Oper.wp
  rcases h.next law3 o.type with ⟨h0, hl, hrun⟩ | ⟨key, v, kl, y, w', cnt', hkey, hlk, hv, hat, hrun, hrg, hlt, hgr, hsz, hen⟩
  · simp [execOp, hop, hit, hrun, Result.andThen]
    exact hK' _ _ (hDone h0 hl)
  · obtain ⟨x, rfl, rfl, hwf⟩ := Maps.keyOf_int_inv Try.underlying3 hkey
    have ha := hat (.lit (.int .i64 (-1)))
    rw [atKey_files hp hn] at ha
    have ha' := hat (.lit (.int .i64 (-2)))
    rw [atKey_files hp hn] at ha'
    cases hf : findE x es with
    | none =>
      rw [hf] at ha ha'
      rw [← ha] at ha'
      simp at ha'
    | some e =>
      rw [hf] at ha
      obtain ⟨hem, hen'⟩ := findE_mem hf
      rcases ptrR_inv hv with ⟨rfl, hy⟩ | ⟨b, rfl, hy⟩
      · rw [hy] at ha
        injection ha with ha
        injection ha with _ ha
        omega
      · rw [hy] at ha
        injection ha with ha
        injection ha with _ ha
        obtain rfl : e.fb = b := by omega
        subst hen'
        simp [execOp, hop, hit, hrun, Result.andThen]
        exact hK' _ _ (hMore e w' cnt' hem hf hlk hwf hrg hlt hgr hsz hen)

theorem kept_most {D : DataW Unit} {ks : List (Int × Int)} (h : KeptMap D ks) {n cc : Int} (hat : D.atKey (.int .i64 n) (.lit (.int .i64 0)) = .lit (.int .i64 cc)) : cc = most ks n := by
  unfold most
  obtain ⟨h1, h2⟩ := h n
  cases hk : keepOf ks n with
  | some v =>
    rw [h2 v hk] at hat
    injection hat with hat
    injection hat with _ hat
    exact hat.symm
  | none =>
    rw [hk] at h1
    rw [atKey_of_not_has h1] at hat
    injection hat with hat
    injection hat with _ hat
    exact hat.symm
def cB (s : DS) (ks : List (Int × Int)) (left : Lit → Bool) : DC := { s.dc with u0 := usedL 0 (doneL ks left s.fs), u1 := usedL 1 (doneL ks left s.fs) }
/-- The loop over the files, where it stands. -/
structure BackAt (S : Nat → Prop) (w : World) (d mb : Nat) (s : DS) (ks : List (Int × Int)) (kb r n : Nat) (wr : World) (left : Lit → Bool) (cnt : Nat) (l : List (Lit × DataW Unit)) (es : List DE) (KD : DataW Unit) (nk : Nat) : Prop where
  rng : wr.ranges Try.prog 3 ptrR mb r n (.map l) left cnt
  perm : l.Perm (es.map ent)
  lay : Lay S wr d mb es (cB s ks left)
  fs : es.map (·.f) = curL ks left s.fs
  kept : wr.ownsMap Try.prog 3 (plainElem Try.prog 3) kb nk KD
  only : Only S w wr
theorem has_files {l : List (Lit × DataW Unit)} {es : List DE} (hp : l.Perm (es.map ent)) {e : DE} (he : e ∈ es) : Maps.has (DataW.map l) (.int .i64 e.f.n) = true :=
  List.any_eq_true.2 ⟨ent e, hp.mem_iff.2 (List.mem_map.2 ⟨e, he, rfl⟩), by simp [ent, sameKey_i64]⟩
theorem grown_of_only {w w' : World} {b : Nat} (h : Only (fun k => k = b) w w') : w.grownBy w' (some b) := ⟨h.os, h.tape, h.output, h.size, fun k hk hne => h.block k hk fun e => hne (by rw [e])⟩
theorem map_not_cells {w : World} {b : Nat} {n : Nat} {D : DataW Unit} {R : Value → Option (DataW Unit × List MemPlace)} (h : w.ownsMap Try.prog 3 R b n D) {c : Array Value} {t : TypeId} {b' : Nat} (hc : w.heap[b']? = some (.cells c t (0, 0))) : b ≠ b' := by
  rintro rfl
  obtain ⟨x, y, hx, _⟩ := h
  rw [hc] at hx
  cases hx
theorem iter_not_cells {w : World} {mb r n cnt : Nat} {D : DataW Unit} {left : Lit → Bool} (h : w.ranges Try.prog 3 ptrR mb r n D left cnt) {c : Array Value} {t : TypeId} {b' : Nat} (hc : w.heap[b']? = some (.cells c t (0, 0))) : r ≠ b' := by
  rintro rfl
  obtain ⟨_, _, _, _, _, _, _, _, _, hr, _⟩ := h
  rw [hc] at hr
  cases hr
section
variable {S : Nat → Prop} {w : World} {d mb : Nat} {s : DS} {ks : List (Int × Int)} {kb r n : Nat} {wr : World} {left : Lit → Bool} {cnt : Nat} {l : List (Lit × DataW Unit)} {es : List DE} {KD : DataW Unit} {nk : Nat}
/-- Behind the step: all but the iterator stands as it stood. -/
theorem BackAt.next (h : BackAt S w d mb s ks kb r n wr left cnt l es KD nk) (hr : w.heap.size ≤ r) (hS : ∀ k, S k → k < w.heap.size) (hkr : kb ≠ r) {w1 : World} (hg : wr.grownBy w1 (some r)) :
    Lay S w1 d mb es (cB s ks left) ∧ w1.ownsMap Try.prog 3 (plainElem Try.prog 3) kb nk KD ∧ Only S w w1 :=
  ⟨h.lay.kept fun k hk hs => hg.block k hk (fun e => by injection e with e; have := hS k hs; omega), h.kept.kept hg (fun e => hkr (by injection e)), h.only.grown hg fun j hj => by injection hj with hj; exact .inr (by omega)⟩
/-- The file is gone. -/
theorem BackAt.gone {e : DE} {w1 w2 : World} {cnt2 : Nat} (hp : l.Perm (es.map ent)) (hfs : es.map (·.f) = curL ks left s.fs) (hS : ∀ k, S k → k < w.heap.size) (hkm : kb ≠ mb)
    (hl1 : Lay S w1 d mb es (cB s ks left)) (hk1 : w1.ownsMap Try.prog 3 (plainElem Try.prog 3) kb nk KD) (ho1 : Only S w w1) (he : e ∈ es) (hlf : left (.int .i64 e.f.n) = true) (hno : ∀ f ∈ s.fs, f.n = e.f.n → backF ks f = none)
    (hrg : w2.ranges Try.prog 3 ptrR mb r n ((DataW.map l).del (.int .i64 e.f.n)) (strike left e.f.n) cnt2) (ht : w1.mapTurned w2 mb) :
    ∃ l' es', BackAt S w d mb s ks kb r n w2 (strike left e.f.n) cnt2 l' es' KD nk := by
  obtain ⟨g1, g2⟩ := curL_gone hlf hno
  refine ⟨l.filter fun p => !p.1.sameKey (.int .i64 e.f.n), delE e.f.n es, hrg, ?_, ?_, by rw [delE_f, hfs, g1], hk1.kept ht.grown (fun x => hkm (by injection x)), ho1.grown ht.grown fun j hj => by injection hj with hj; subst hj; exact .inl hl1.sm⟩
  · refine (hp.filter _).trans ?_
    rw [List.filter_map]
    have : ((fun p : Lit × DataW Unit => !p.1.sameKey (.int .i64 e.f.n)) ∘ ent) = fun x => decide (x.f.n ≠ e.f.n) := by
      funext x
      simp [ent, sameKey_i64]
    rw [this]
    exact List.Perm.refl _
  · have hc : cB s ks (strike left e.f.n) = cB s ks left := by unfold cB; rw [g2]
    rw [hc]
    exact hl1.del e.f.n (files_del hp hrg.owns) fun k _ hk => turned_other ht k hk
/-- The file has lost what it had to. -/
theorem BackAt.lost {e : DE} {w1 w2 w3 : World} {cnt1 : Nat} {v' : Value} (hp : l.Perm (es.map ent)) (hfs : es.map (·.f) = curL ks left s.fs) (hF : s.Fit) (hnod : (es.map (·.f.n)).Nodup)
    (hl1 : Lay S w1 d mb es (cB s ks left)) (hk1 : w1.ownsMap Try.prog 3 (plainElem Try.prog 3) kb nk KD) (ho1 : Only S w w1) (he : findE e.f.n es = some e) (hlf : left (.int .i64 e.f.n) = true) (hb : backF ks e.f = some (loseF (most ks e.f.n) e.f))
    (hrg : w1.ranges Try.prog 3 ptrR mb r n (.map l) (strike left e.f.n) cnt1) (h2 : Lay S w2 d mb (updE e.f.n ⟨loseF (most ks e.f.n) e.f, e.fb, v'⟩ es) (cB s ks left)) (o2 : Only (fun j => j = e.fb) w1 w2) (o3 : Only (fun j => j = d) w2 w3)
    (h3 : Lay S w3 d mb (updE e.f.n ⟨loseF (most ks e.f.n) e.f, e.fb, v'⟩ es) ((cB s ks left).use e.f.t ((if e.f.t = 0 then (usedL 0 (doneL ks left s.fs) : Int) else usedL 1 (doneL ks left s.fs)) + (blk (loseF (most ks e.f.n) e.f).data.length : Int)))) (ht : e.f.t = 0 ∨ e.f.t = 1) :
    ∃ es', BackAt S w d mb s ks kb r n w3 (strike left e.f.n) cnt1 l es' KD nk := by
  obtain ⟨hm, _⟩ := findE_mem he
  have hef : e.f ∈ s.fs := curL_mem (ks := ks) (left := left) (by rw [← hfs]; exact List.mem_map.2 ⟨e, hm, rfl⟩) hlf
  have hall : ∀ f ∈ s.fs, f.n = e.f.n → backF ks f = some (loseF (most ks e.f.n) f) := fun f hf hn => by
    have h1 := findL_of hF.nod hf hn
    rw [findL_of hF.nod hef rfl] at h1
    injection h1 with h1
    rw [← h1]
    exact hb
  have hfb1 := (hl1.file e hm).1
  have r2 := hrg.kept (grown_of_only o2) (fun x => by injection x with x; exact (hl1.ne_file hm).2 x.symm) (fun x => by injection x with x; exact iter_not_cells hrg hfb1 x)
  have r3 := r2.kept (grown_of_only o3) (fun x => by injection x with x; exact h2.ne_map x) (fun x => by injection x with x; exact iter_not_cells r2 h2.obj x)
  have k2 := hk1.kept (grown_of_only o2) (fun x => by injection x with x; exact map_not_cells hk1 hfb1 x)
  have k3 := k2.kept (grown_of_only o3) (fun x => by injection x with x; exact map_not_cells k2 h2.obj x)
  refine ⟨updE e.f.n ⟨loseF (most ks e.f.n) e.f, e.fb, v'⟩ es, r3, ?_, ?_, ?_, k3, (ho1.andThen o2 fun k _ hk => by rw [hk]; exact hl1.sf e hm).andThen o3 fun k _ hk => by rw [hk]; exact hl1.sd⟩
  · have : (updE e.f.n ⟨loseF (most ks e.f.n) e.f, e.fb, v'⟩ es).map ent = es.map ent := by
      unfold updE
      rw [List.map_map]
      apply List.map_congr_left
      intro x hx
      simp only [Function.comp]
      by_cases hxn : x.f.n = e.f.n
      · rw [if_pos hxn, nod_eq hnod hx hm hxn]
        rfl
      · rw [if_neg hxn]
    rw [this]
    exact hp
  · have d0 := done_lost hlf 0 rfl hb hF.nod hef
    have d1 := done_lost hlf 1 rfl hb hF.nod hef
    have hc : cB s ks (strike left e.f.n) = (cB s ks left).use e.f.t ((if e.f.t = 0 then (usedL 0 (doneL ks left s.fs) : Int) else usedL 1 (doneL ks left s.fs)) + (blk (loseF (most ks e.f.n) e.f).data.length : Int)) := by
      unfold cB DC.use
      rcases ht with x | x <;> rw [x] at d0 d1 ⊢ <;> simp at d0 d1 ⊢ <;> omega
    rw [hc]
    exact h3
  · rw [updE_f (g := loseF (most ks e.f.n)) hnod he rfl, hfs, curL_lost _ hlf hall]
end
end Go.Proofs.Ytkelcmncjhnbgaa
