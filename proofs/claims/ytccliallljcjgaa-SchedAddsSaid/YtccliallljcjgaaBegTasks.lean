/- The program's world is begun: its tasks, one by one. -/
import Derived.Test.YtccliallljcjgaaBegins
set_option linter.unusedVariables false
namespace Go.Proofs.Ytccliallljcjgaa
open Go.RowKit

/-- Programs that come in, as tasks that have done nothing. -/
structure Progs (w : World) (B : Nat) (a : Option Addr) (n : Nat) (L : List TK) : Prop where
  len : n = L.length
  few : n ≤ 8
  row : ∃ b off, (n = 0 ∨ a = some ⟨b, off, none⟩) ∧ b < B ∧ ∀ (i : Nat) (q : TK), L[i]? = some q → b < w.heap.size ∧ w.cell? ⟨b, off + i, none⟩ = some (.slice q.a q.l.length q.cap)
  each : ∀ (i : Nat) (q : TK), L[i]? = some q → IsProg w B q.a q.l.length q.l ∧ q.at_ = 0 ∧ q.known = 0 ∧ q.gone = decide (q.l.length = 0)
/-- The first so many tasks are begun. -/
structure Done (B : Nat) (w : World) (g : AtG) (j : Nat) (L : List TK) (ts : List (Option TS)) : Prop where
  len : ts.length = L.length
  done : ∀ (i : Nat) (q : TK) (y : Option TS), i < j → L[i]? = some q → ts[i]? = some y → TaskAt w g B q y
  todo : ∀ (i : Nat) (y : Option TS), j ≤ i → ts[i]? = some y → y = none
/-- Where the second loop stands. -/
structure Lp (B : Nat) (w0 : World) (W s : Nat) (L : List TK) (j : Nat) (w : World) (g : AtG) (vk : Value) (ts : List (Option TS)) : Prop where
  hW : g.W = W
  hs : g.s = s
  hZ : g.Z = fun q => vk.ownBlock = some q
  beg : Beg3 B w g vk j
  sch : Sch w g.s g.t ts 0
  done : Done B w g j L ts
  lowW : B ≤ g.W
  lowS : B ≤ g.s ∧ B ≤ g.t
  lowC : ∀ i, i < 4 → B ≤ g.c i ∧ B ≤ g.m i
  lowK : ∀ (i : Nat) x, ts[i]? = some (some x) → B ≤ x.k
  below : Below B w0 w
  size : B ≤ w.heap.size
theorem CloAt.turn {w w' : World} {g g' : AtG} {B : Nat} {f : Value} {a : Option Addr} {cap : Nat} {l : List INS} {k : Nat} (h : CloAt w g B f a cap l k) (hW : g'.W = g.W) (hs : w.heap.size ≤ w'.heap.size)
    (hk : ∀ j, j < w.heap.size → (Fix w g j ∨ j < B) → w'.heap[j]? = w.heap[j]?) (hz : ∀ q v, w.heap[q]? = some (.cells #[v] 3 (0, 0)) → ¬ g.Z q → ¬ g'.Z q) : CloAt w' g' B f a cap l k := by
  obtain ⟨pw, px, pl, pa, hf, h1, h2, h3, h4, h5, h6, h7⟩ := h.kept hs hk
  obtain ⟨pw', px', pl', pa', hf', k1, k2, k3, k4, k5, k6, k7⟩ := h
  have hpa : pa = pa' := by
    rw [hf] at hf'
    simp at hf'
    exact hf'.2.2.2
  exact ⟨pw, px, pl, pa, hf, by rw [hW]; exact h1, h2, h3, h4, hpa ▸ hz pa' _ k4 k5, h6, h7⟩
theorem TaskAt.turn {w w' : World} {g g' : AtG} {B : Nat} {q : TK} {y : Option TS} (h : TaskAt w g B q y) (hW : g'.W = g.W) (hm : g'.m = g.m) (hs : w.heap.size ≤ w'.heap.size)
    (hk : ∀ j, j < w.heap.size → (Fix w g j ∨ j < B) → w'.heap[j]? = w.heap[j]?) (hz : ∀ q v, w.heap[q]? = some (.cells #[v] 3 (0, 0)) → ¬ g.Z q → ¬ g'.Z q) : TaskAt w' g' B q y := by
  rcases h with h | ⟨h0, x, hx, hc, hm'⟩
  · exact .inl h
  · exact .inr ⟨h0, x, hx, hc.turn hW hs hk hz, by rw [hm']; unfold mutA; rw [hm]⟩
namespace Lp
variable {B : Nat} {w0 w w3 : World} {W s : Nat} {L : List TK} {j : Nat} {g : AtG} {vk v3 : Value} {ts : List (Option TS)}
/-- One more zero is known: the world then, and the closures' world in it. -/
theorem grow (h : Lp B w0 W s L j w g vk ts) (ho : w3.ownsRow B 3 1 v3 ((List.replicate j 0).length + 1) ((List.replicate j 0).map natI ++ [.int .i64 0])) (hg : ((w.alloc (.cells #[.int .i64 0] 3))).grownBy w3 vk.ownBlock) :
    ∃ K kc, v3 = .slice (some ⟨K, 0, none⟩) (j + 1) kc ∧ w3.cell? ⟨W, 2, none⟩ = some vk ∧ w3.frozen? ⟨W, 2, none⟩ = false ∧
      ∃ g', Cel (w3.setCell ⟨W, 2, none⟩ v3) g' (j + 1) [0, 0, 0, 0] [0, 0, 0, 0] [-1, -1, -1, -1] (List.replicate (j + 1) 0) ∧ Beg3 B (w3.setCell ⟨W, 2, none⟩ v3) g' v3 (j + 1) ∧ g'.W = W ∧ g'.s = s ∧ g'.t = g.t ∧ g'.c = g.c ∧ g'.m = g.m ∧ (g'.Z = fun q => v3.ownBlock = some q) ∧ B ≤ g'.K ∧ v3.ownBlock = some g'.K ∧
        Sch (w3.setCell ⟨W, 2, none⟩ v3) s g.t ts 0 ∧ Done B (w3.setCell ⟨W, 2, none⟩ v3) g' j L ts ∧ Below B w0 (w3.setCell ⟨W, 2, none⟩ v3) ∧ B ≤ (w3.setCell ⟨W, 2, none⟩ v3).heap.size := by
  obtain ⟨K, kc, hv, q1, q2, hb3, hbel, hsz, both⟩ := h.beg.add h.size h.below h.lowW ho hg
  have hW := h.hW
  have hs := h.hs
  obtain ⟨K', kc', cur, hv', hBK, hK, hjc, hcel⟩ := hb3.cel (by omega) (fun _ => False) (fun _ => fun q => v3.ownBlock = some q)
  rw [hW] at q1 q2 hb3 hbel both hK hcel
  have hKK : K' = K ∧ kc' = kc := by
    rw [hv] at hv'
    injection hv' with e1 _ e2
    injection e1 with e1
    injection e1 with e1
    exact ⟨e1.symm, e2.symm⟩
  obtain ⟨rfl, rfl⟩ := hKK
  have hsw : w.heap.size ≤ (w3.setCell ⟨W, 2, none⟩ v3).heap.size := by simpa [World.setCell] using hsz
  have hown : v3.ownBlock = some K' := by rw [hv]; rfl
  refine ⟨K', kc', hv, q1, q2, _, hcel, ⟨by have := hb3.obj; simp only [hW] at this ⊢; exact this, hb3.cr, hb3.mr, hb3.ce, hb3.mu, hb3.ci, hb3.mi, hb3.own⟩, rfl, hs, rfl, rfl, rfl, rfl, hBK, hown, ?_, ?_, hbel, Nat.le_trans h.size hsw⟩
  · have hS := h.sch
    rw [hs] at hS
    refine hS.kept fun q hq => ?_
    rcases hq with rfl | rfl | ⟨i, x, hx, rfl⟩
    · exact both _ _ _ hS.obj (by decide) (.inl (by decide))
    · exact both _ _ _ hS.row (by decide) (.inl (by decide))
    · exact both _ _ _ (hS.task i x hx) (by decide) (.inl (by decide))
  · refine ⟨h.done.len, fun i q y hi hq hy => ?_, h.done.todo⟩
    refine (h.done.done i q y hi hq hy).turn hW.symm rfl hsw (fun p hp hf => ?_) (fun p v hp hn hz => ?_)
    · rcases hf with ⟨c, t, h1, h2⟩ | hf
      · refine both p c t h1 ?_ ?_
        · rcases h2 with rfl | rfl | rfl | ⟨rfl, _⟩ <;> decide
        · rcases h2 with rfl | rfl | rfl | ⟨rfl, h2⟩
          · exact .inl (by decide)
          · exact .inl (by decide)
          · exact .inl (by decide)
          · rw [h.hZ] at h2
            exact .inr h2
      · rw [hbel.block p (by have := h.below.size; omega), h.below.block p (by omega)]
    · rw [h.hZ] at hn
      have hp2 := both p _ _ hp (by decide) (.inr hn)
      simp only at hz
      rw [hown] at hz
      injection hz with hz
      subst hz
      rw [hK, hp] at hp2
      injection hp2 with hp2
      injection hp2 with hp2
      rw [hp2] at hjc
      simp at hjc
      omega
/-- A task is begun, or its program is empty. -/
theorem put (h : Cel w g (j + 1) [0, 0, 0, 0] [0, 0, 0, 0] [-1, -1, -1, -1] (List.replicate (j + 1) 0)) (hd : Done B w g j L ts) {w' : World} {q : TK} (hq : L[j]? = some q) {y : Option TS} (ht : TaskAt w' g B q y)
    (hs : w.heap.size ≤ w'.heap.size) (hk : ∀ p, p < w.heap.size → (Fix w g p ∨ p < B) → w'.heap[p]? = w.heap[p]?) : Done B w' g (j + 1) L (ts.set j y) := by
  have hjl : j < L.length := lt_of_get hq
  refine ⟨by rw [List.length_set]; exact hd.len, fun i q' y' hi hq' hy' => ?_, fun i y' hi hy' => ?_⟩
  · rw [List.getElem?_set] at hy'
    by_cases e : j = i
    · subst e
      rw [if_pos rfl, if_pos (by rw [hd.len]; exact hjl)] at hy'
      injection hy' with hy'
      subst hy'
      rw [hq] at hq'
      injection hq' with hq'
      subst hq'
      exact ht
    · rw [if_neg e] at hy'
      exact (hd.done i q' y' (by omega) hq' hy').kept hs hk
  · rw [List.getElem?_set, if_neg (by omega)] at hy'
    exact hd.todo i y' (by omega) hy'
/-- Behind one more task. -/
theorem step (h : Lp B w0 W s L j w g vk ts) {w4 w6 : World} {g' : AtG} (hcel : Cel w4 g' (j + 1) [0, 0, 0, 0] [0, 0, 0, 0] [-1, -1, -1, -1] (List.replicate (j + 1) 0)) (hb : Beg3 B w4 g' v3 (j + 1))
    (e1 : g'.W = W) (e2 : g'.s = s) (e3 : g'.t = g.t) (e4 : g'.c = g.c) (e5 : g'.m = g.m) (e6 : g'.Z = fun q => v3.ownBlock = some q) (hS : Sch w4 s g.t ts 0) (hD : Done B w4 g' j L ts) (hbel : Below B w0 w4) (hsz4 : B ≤ w4.heap.size)
    (hs : w4.heap.size ≤ w6.heap.size) (hk : ∀ p, p < w4.heap.size → p ≠ g.t → w6.heap[p]? = w4.heap[p]?) (hbel6 : Below B w0 w6) {q : TK} (hq : L[j]? = some q) {y : Option TS} (hS6 : Sch w6 s g.t (ts.set j y) 0) (ht : TaskAt w6 g' B q y) (hy : ∀ x, y = some x → B ≤ x.k) :
    Lp B w0 W s L (j + 1) w6 g' v3 (ts.set j y) := by
  have hkf : ∀ p, p < w4.heap.size → (Fix w4 g' p ∨ p < B) → w6.heap[p]? = w4.heap[p]? := by
    intro p hp hf
    refine hk p hp ?_
    rcases hf with hf | hf
    · exact fix_tag hf hS.row (by decide)
    · have := h.lowS.2
      omega
  refine ⟨e1, e2, e6, ?_, by rw [e2, e3]; exact hS6, put hcel hD hq ht hs hkf, by rw [e1, ← h.hW]; exact h.lowW, by rw [e2, e3, ← h.hs]; exact h.lowS, fun i hi => by rw [e4, e5]; exact h.lowC i hi, fun i x hx => ?_, hbel6, Nat.le_trans hsz4 hs⟩
  · refine hb.kept fun p cb tb hp htg => hk p (heap_lt hp) (tag_ne hp hS.row ?_)
    rcases htg with rfl | rfl | rfl | rfl | rfl | ⟨rfl, _⟩ <;> decide
  · rw [List.getElem?_set] at hx
    by_cases e : j = i
    · rw [if_pos e] at hx
      split at hx
      · injection hx with hx
        exact hy x hx
      · cases hx
    · rw [if_neg e] at hx
      exact h.lowK i x hx
end Lp
end Go.Proofs.Ytccliallljcjgaa
