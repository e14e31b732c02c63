/- Texts for layer 9, put together: TableScan, TableScanSrc, TableBuilt, TableScansIn, TableChunk, TableParts -/
import Derived.Test.YteejldddgogbkaaDoorTSca16
import Derived.Test.YteejldddgogbkaaDoorTSca13
import Derived.Test.YteejldddgogbkaaDoorTSca12
import Derived.Test.YteejldddgogbkaaDoorTSca11
/- The program's Scan: it goes through what a walk tells, an error last. -/
set_option linter.unusedVariables false
set_option maxRecDepth 100000
namespace Go.Proofs.YteejldddgogbkaaDoor
open Go.RowKit

def noEn : Ent := ⟨[], [], false⟩
/-- What Scan hands on. -/
def yields (l : List Ent) (e : Int) : List (Ent × Int) := l.map (fun x => (x, 0)) ++ if e = 0 then [] else [(noEn, e)]
def encY (p : Ent × Int) : Array Value := #[.agg #[.string (bs p.1.key), .string (bs p.1.val), .bool p.1.gone], .int .i64 p.2]
theorem yields_at {l : List Ent} {e : Int} {k : Nat} {x : Ent} (h : l[k]? = some x) : (yields l e)[k]? = some (x, 0) := by
  have hk := (List.getElem?_eq_some_iff.1 h).1
  unfold yields
  rw [List.getElem?_append_left (by simpa using hk), List.getElem?_map, h]
  rfl
theorem yields_end {l : List Ent} {e : Int} (h : e ≠ 0) : (yields l e)[l.length]? = some (noEn, e) := by
  unfold yields
  rw [if_neg h, List.getElem?_append_right (by simp)]
  simp
theorem yields_take {l : List Ent} {e : Int} {k : Nat} {x : Ent} (h : l[k]? = some x) : (yields l e).take (k + 1) = (yields l e).take k ++ [(x, 0)] := by
  rw [List.take_add_one, yields_at h]; rfl
theorem yields_len {l : List Ent} {e : Int} {k : Nat} (h : k ≤ l.length) : ((yields l e).take k).length = k := by
  rw [List.length_take]
  unfold yields
  simp only [List.length_append, List.length_map]
  omega
theorem yields_ok {l : List Ent} {e : Int} (h : e = 0) : (yields l e).take l.length = yields l e := by
  unfold yields
  rw [if_pos h, List.append_nil]
  exact List.take_of_length_le (by simp)
theorem yields_err {l : List Ent} {e : Int} (h : e ≠ 0) : (yields l e).take l.length ++ [(noEn, e)] = yields l e := by
  unfold yields
  rw [if_neg h, List.take_append_of_le_length (by simp), List.take_of_length_le (by simp)]
theorem put3_only (w : World) (g : Nat) (v0 v1 v2 : Value) : Only (fun j => j = g) w (((w.setCell ⟨g, 0, none⟩ v0).setCell ⟨g, 1, none⟩ v1).setCell ⟨g, 2, none⟩ v2) :=
  (((Only.refl (fun j => j = g) w).setCell (p := ⟨g, 0, none⟩) (.inl rfl) _).setCell (p := ⟨g, 1, none⟩) (.inl rfl) _).setCell (p := ⟨g, 2, none⟩) (.inl rfl) _
/-- The blocks that a round of the caller's writes hold numbers. -/
def IntsAt (Nb : Nat → Prop) (W : World) : Prop := ∀ j, Nb j → ∃ u ty, W.heap[j]? = some (.cells #[.int .i64 u] ty (0, 0))
theorem cell_obj {W : World} {b o : Nat} {v : Value} (h : W.cell? ⟨b, o, none⟩ = some v) : ∃ x, W.heap[b]? = some x ∧ x.isCells = true := by
  unfold World.cell? at h
  simp only at h
  split at h
  · rename_i hx; exact ⟨_, hx, rfl⟩
  · cases h
/-- A walk stays while the caller's round writes numbers of its own. -/
theorem WalkS.round {lb fb nb tb kb p G F : Nat} {c : Array Value} {K : List (Nat × Obj)} {t : Tab} {d : Int} {n0 : Int} {key : List UInt8} {Z : Int} {L : List Ent} {W W' : World} {Nb : Nat → Prop} {lo : Nat} (h : WalkS lb fb nb tb kb p G F c K t d n0 key Z L W)
    (hk : Only (fun k => Nb k ∨ lo ≤ k) W W') (hc : ∀ j o, lo ≤ j → W.heap[j]? = some o → o.isCells = true → W'.heap[j]? = some o) (hi : IntsAt Nb W) (hN : ∀ j, Nb j → p < j ∧ j < lo ∧ ∀ q ∈ K, q.1 ≠ j) (hp : p < lo) (hl : lo ≤ lb ∧ lo ≤ fb ∧ lo ≤ nb) (hK : ∀ q ∈ K, q.1 < lo) : WalkS lb fb nb tb kb p G F c K t d n0 key Z L W' := by
  have same : ∀ j o, ¬ Nb j → W.heap[j]? = some o → o.isCells = true → W'.heap[j]? = W.heap[j]? := fun j o hn hj ho => by
    rcases Nat.lt_or_ge j lo with x | x
    · exact hk.block j (heap_lt hj) (by rintro (g | g); (exact hn g); omega)
    · rw [hc j o x hj ho, hj]
  have notN : ∀ j vs ty z, W.heap[j]? = some (.cells vs ty z) → (∀ u, vs ≠ #[.int .i64 u]) → ¬ Nb j := fun j vs ty z hj hne hn => by
    obtain ⟨u, ty', hu⟩ := hi j hn
    rw [hj] at hu
    injection hu with hu
    injection hu with hu _ _
    exact hne u hu
  have low : ∀ j, j ≤ p → j < W.heap.size → W'.heap[j]? = W.heap[j]? := fun j hj hlt => hk.block j hlt (by rintro (g | g); (have := (hN j g).1; omega); omega)
  have high : ∀ j, lo ≤ j → ¬ Nb j := fun j hj hn => by have := (hN j hn).2.1; omega
  obtain ⟨R, z, i, h1, h2, h3⟩ := h.st
  obtain ⟨a, cap, g1, g2, g3⟩ := h1.left
  have e1 := same lb _ (high _ hl.1) g1 rfl
  refine ⟨⟨R, z, i, ⟨⟨a, cap, e1.trans g1, g2, ?_⟩, (same fb _ (high _ hl.2.1) h1.fail rfl).trans h1.fail, (same nb _ (high _ hl.2.2) h1.next rfl).trans h1.next, ?_, ?_, fun a' cap' b off e => h1.row a' cap' b off (by rw [← e1]; exact e)⟩, ?_, h3⟩, fun q hq => ?_, h.lt⟩
  · obtain ⟨e, b, off, ho, hr⟩ := g3
    refine ⟨e, b, off, ho, fun i hi' => ?_⟩
    have hce := hr i hi'
    obtain ⟨x, hx, hxc⟩ := cell_obj hce.c0
    have hb : ¬ Nb b := fun hn => by
      obtain ⟨u, ty', hu⟩ := hi b hn
      have h0 := hce.c0
      simp only [World.cell?, hu] at h0
      have h0' : (#[Value.int .i64 u])[off + i * 3]? = some (.string (bs R[i].key)) := by simpa using h0
      have hm := Array.mem_of_getElem? h0'
      simp at hm
    have hs := same b x hb hx hxc
    exact ⟨lt_of_same (cell_block hce.c0) hs, cell_same hce.c0 hs, cell_same hce.c1 hs, cell_same hce.c2 hs⟩
  · have ht := h1.tab
    exact (same tb _ (notN _ _ _ _ ht fun u e => by simp at e) ht rfl).trans ht
  · have ht := h1.kb
    exact (same kb _ (notN _ _ _ _ ht fun u e => by simp at e) ht rfl).trans ht
  · obtain ⟨a, cap, fb', fg, q1, q2, q3, q4, q5⟩ := h2.ex
    exact ⟨a, cap, fb', fg, (low p (Nat.le_refl _) (heap_lt q1)).trans q1, q2.keep fun j hj hj2 => low j (by omega) hj2, q3.blocks (low fb' (by omega) q3.lt) (low fg (by omega) q3.row.1), q4, q5⟩
  · have hq' := h.keep q hq
    exact (hk.block _ (heap_lt hq') (by rintro (g | g); (exact (hN _ g).2.2 q hq rfl); (have := hK q hq; omega))).trans hq'
theorem has_least {P : Nat → Prop} (h : ∃ n, P n) : ∃ n, P n ∧ ∀ k, P k → n ≤ k := by
  obtain ⟨n, hn⟩ := h
  induction n using Nat.strongRecOn with
  | _ n ih =>
    by_cases hk : ∃ k, k < n ∧ P k
    · obtain ⟨k, h1, h2⟩ := hk
      exact ih k h1 h2
    · exact ⟨n, hn, fun k hp => by
        rcases Nat.lt_or_ge k n with h | h
        · exact absurd ⟨k, h, hp⟩ hk
        · exact h⟩
noncomputable def leastOf (P : Nat → Prop) : Nat := @dite _ (∃ n, P n) (Classical.propDecidable _) (fun h => Classical.choose (has_least h)) (fun _ => 0)
theorem leastOf_spec {P : Nat → Prop} (h : ∃ n, P n) : P (leastOf P) ∧ ∀ k, P k → leastOf P ≤ k := by
  unfold leastOf
  rw [dif_pos h]
  exact Classical.choose_spec (has_least h)
theorem C3.only9 {b : Nat} {ty : TypeId} {v0 v1 v2 : Value} {w w' : World} {S : Nat → Prop} (h : C3 b ty v0 v1 v2 w) (k : Only S w w') (hS : ¬ S b) : C3 b ty v0 v1 v2 w' := (k.block b (heap_lt h) hS).trans h
/-- How a round of Scan begins: I what is left of the walk. -/
def ScanF (Nb : Nat → Prop) (I : List Ent → World → Prop) (zx : Nat) (l : List Ent) (e : Int) (J : List (Ent × Int) → World → Prop) (fv ev : Value) (w : World) (r : Nat) : Prop :=
  ∃ k, k ≤ l.length ∧ r = l.length - k ∧ J ((yields l e).take k) w ∧ IntsAt Nb w ∧
    ((∃ x, l[k]? = some x ∧ fv = .bool true ∧ ev = .int .i64 0 ∧ C3 zx 38 (.string (bs x.key)) (.string (bs x.val)) (.bool x.gone) w ∧ I (l.drop (k + 1)) w) ∨
      (k = l.length ∧ fv = .bool false ∧ ev = .int .i64 e ∧ C3 zx 38 (.string ⟨#[]⟩) (.string ⟨#[]⟩) (.bool false) w ∧ I [] w))
/-- What Scan needs where it begins. -/
structure ScanC (p F : Nat) (c : Array Value) (K : List (Nat × Obj)) (t : Tab) (nn : Int) (key : List UInt8) (tb kb : Nat) (W : World) : Prop where
  tab : TabM p (srcV F c) nn t W
  keep : Keep K W
  tb : BxP tb p W
  kb : Bx kb key W
set_option maxHeartbeats 4000000 in
theorem scan_runs (n p F : Nat) (c : Array Value) (K : List (Nat × Obj)) (t : Tab) (d nn : Int) (key : List UInt8) (tb kb lo : Nat) (Nb : Nat → Prop) (l : List Ent) (e : Int) (lp : Nat) (J Jx : List (Ent × Int) → World → Prop) (W : World)
    (hU : Hid (scanU t d key = (e, l))) (hf : Hid (FineT t)) (hs : Hid (Src F c K d t.bytes)) (hKp : Hid (∀ q ∈ K, q.1 ≠ p ∧ q.1 < lo)) (hN : Hid (∀ j, Nb j → p < j ∧ j < lo ∧ ∀ q ∈ K, q.1 ≠ j)) (hp : p < lo)
    (hn1 : -10000000000000000 ≤ nn) (hn2 : nn ≤ 10000000000000000) (hl : t.bytes.length ≤ 100000000000) (hlo : Hid (lo ≤ W.heap.size))
    (hJ : Hid (∀ pre A B, J pre A → Only (fun k => k = p ∨ W.heap.size ≤ k) A B → J pre B))
    (hY : Hid (∀ pre x W1, J pre W1 → IntsAt Nb W1 → (yields l e)[pre.length]? = some x → YieldAt Fence.wide (n - 1) Tryd.prog lp (encY x) W1 fun en W' =>
      (en = .returned (.bool true) ∧ J (pre ++ [x]) W' ∧ IntsAt Nb W' ∧ Only (fun k => Nb k ∨ lo ≤ k) W1 W' ∧ ∀ j o, lo ≤ j → W1.heap[j]? = some o → o.isCells = true → W'.heap[j]? = some o) ∨ (en = .returned (.bool false) ∧ Jx (pre ++ [x]) W')))
    (h0 : Hid (J [] W)) (hn0 : Hid (IntsAt Nb W)) (hC : Hid (ScanC p F c K t nn key tb kb W)) :
    Calls Tryd.prog 41 #[.func (.yield lp) #[] #[], .pointer (some ⟨tb, 0, none⟩), .pointer (some ⟨kb, 0, none⟩)] W fun en W' => (∃ v, en = .returned v) ∧ (J (yields l e) W' ∨ (∃ pre, Jx pre W')) := by
  have x0 : W.cell? ⟨tb, 0, none⟩ = some (.pointer (some ⟨p, 0, none⟩)) := hC.out.tb.cell
  have x1 : W.cell? ⟨kb, 0, none⟩ = some (.string (bs key)) := hC.out.kb.cell
  have HWK := Lib.hid (table_Walk p F c K t d nn key W (Lib.hid hC.out.tab) hf (Lib.hid hC.out.keep))
  go_enter Tryd.func41, Tryd.ntmps41
  go_wp2_with fail
  refine HWK.out.mono ?_
  rintro en w1 ⟨⟨lb, fb, nb, tb', kb', rfl, h1, h2, h3⟩, hb⟩
  rw [hU.out] at h2
  have WK := Lib.hid (walker_of (p := p) (F := F) (c := c) (K := K) (t := t) (d := d) (n := nn) (key := key) (lb := lb) (fb := fb) (nb := nb) (tb := tb') (kb := kb') (B := w1.heap.size) e hf.out hs.out (fun q hq => ⟨by have := (hKp.out q hq).2; have := hlo.out; omega, by have := (hKp.out q hq).2; have := hlo.out; omega, by have := (hKp.out q hq).2; have := hlo.out; omega, (hKp.out q hq).1⟩) ⟨by have := hlo.out; have := hb.size; omega, h3⟩ hn1 hn2 hl)
  have HI1 := Lib.hid (fun G => (show WalkS lb fb nb tb' kb' p G F c K t d (nn - (firstB t key : Int)) key e l w1 from h2 G))
  have HLO := Lib.hid (show lo ≤ lb ∧ lo ≤ fb ∧ lo ≤ nb ∧ lo ≤ w1.heap.size by have := hlo.out; have := hb.size; omega)
  have J1 := Lib.hid (hJ.out _ _ _ h0.out (Only.of_below' hb rfl))
  have N1 := Lib.hid (show IntsAt Nb w1 from fun j hj => by obtain ⟨u, ty, hu⟩ := hn0.out j hj; exact ⟨u, ty, (hb.block j (heap_lt hu)).trans hu⟩)
  have hw1p := Lib.hid (show W.heap.size ≤ w1.heap.size ∧ W.heap.size ≤ lb ∧ W.heap.size ≤ fb ∧ W.heap.size ≤ nb from ⟨hb.size, h1⟩)
  have HLT := Lib.hid h3
  obtain ⟨B, hB⟩ : ∃ B, B = w1.heap.size := ⟨_, rfl⟩
  rw [← hB] at WK
  have HB := Lib.hid hB
  have HNX := Lib.hid (WK.out.next 0 l w1 (HI1.out 0) (by have := h3.1; omega))
  clear h1 h2 h3 hb x0 x1 hB
  unfold walkV
  go_wp2_with fail
  refine HNX.out.mono ?_
  rintro en w2 ⟨hA, k2⟩
  have hWS := Lib.hid (show ∀ j, WS4 lb fb nb p j → (j = p ∨ W.heap.size ≤ j) ∧ (j < B) ∧ ¬ Nb j from fun j hj => by
    refine ⟨?_, WK.out.low j hj, fun hn => ?_⟩
    · have := hw1p.out; rcases hj with h | h | h | h <;> omega
    · have h4 := hN.out j hn; have := HLO.out; rcases hj with h | h | h | h <;> omega)
  have J2 := Lib.hid (hJ.out _ _ _ J1.out (k2.mono fun j _ h => (hWS.out j h).1))
  have N2 := Lib.hid (show IntsAt Nb w2 from fun j hj => by obtain ⟨u, ty, hu⟩ := N1.out j hj; exact ⟨u, ty, (k2.block j (heap_lt hu) fun h => (hWS.out j h).2.2 hj).trans hu⟩)
  obtain ⟨zx, hzx⟩ : ∃ zx, zx = w2.heap.size := ⟨_, rfl⟩
  have HZX := Lib.hid hzx
  have hst := hA
  have HS3 := Lib.hid (show B ≤ zx ∧ W.heap.size ≤ zx by have h := k2.size; have := hw1p.out; have := HB.out; omega)
  have zxN := Lib.hid (show ¬ Nb zx from fun h => by have := (hN.out _ h).2.1; have := HS3.out; have := hlo.out; omega)
  clear hzx hA k2
  obtain ⟨I, hI⟩ : ∃ I : List Ent → World → Prop, I = fun L W => WalkS lb fb nb tb' kb' p zx F c K t d (nn - (firstB t key : Int)) key e L W := ⟨_, rfl⟩
  have HI := Lib.hid hI
  clear hI
  rcases hst with ⟨hl0, rfl, hI2, -⟩ | ⟨x, L1, hl0, rfl, hI2⟩
  obtain ⟨w3, hw3⟩ : ∃ w3, w3 = w2.alloc (.cells #[.string ⟨#[]⟩, .string ⟨#[]⟩, .bool false] 38) := ⟨_, rfl⟩
  have K3 := Lib.hid (show Below w2.heap.size w2 w3 by rw [hw3]; exact (Below.refl _ _).alloc (Nat.le_refl _) _)
  have N3 := Lib.hid (show IntsAt Nb w3 from fun j hj => by obtain ⟨u, ty, hu⟩ := N2.out j hj; exact ⟨u, ty, (K3.out.block j (heap_lt hu)).trans hu⟩)
  have HF := Lib.hid (show ScanF Nb I zx l e J (.bool false) (.int .i64 e) w3 (l.length - 0) from ⟨0, Nat.zero_le _, rfl, hJ.out _ _ _ J2.out (Only.of_below' K3.out rfl), N3.out, .inr ⟨by rw [hl0]; rfl, rfl, rfl, by rw [hw3, HZX.out]; exact heap_new w2 _, by rw [HI.out]; exact (hI2.fresh (by rw [HZX.out]; exact Nat.le_refl _)).below K3.out⟩⟩)
  have HW3 := Lib.hid hw3
  clear hw3 hI2
  go_upto_region 1 with (fail)
  rw [← HW3.out, ← HZX.out]
  rotate_left
  obtain ⟨w3, hw3⟩ : ∃ w3, w3 = w2.alloc (.cells #[.string (bs x.key), .string (bs x.val), .bool x.gone] 38) := ⟨_, rfl⟩
  have K3 := Lib.hid (show Below w2.heap.size w2 w3 by rw [hw3]; exact (Below.refl _ _).alloc (Nat.le_refl _) _)
  have N3 := Lib.hid (show IntsAt Nb w3 from fun j hj => by obtain ⟨u, ty, hu⟩ := N2.out j hj; exact ⟨u, ty, (K3.out.block j (heap_lt hu)).trans hu⟩)
  have HF := Lib.hid (show ScanF Nb I zx l e J (.bool true) (.int .i64 0) w3 (l.length - 0) from ⟨0, Nat.zero_le _, rfl, hJ.out _ _ _ J2.out (Only.of_below' K3.out rfl), N3.out, .inl ⟨x, by rw [hl0]; rfl, rfl, rfl, by rw [hw3, HZX.out]; exact heap_new w2 _, by rw [HI.out, hl0]; exact (hI2.fresh (by rw [HZX.out]; exact Nat.le_refl _)).below K3.out⟩⟩)
  have HW3 := Lib.hid hw3
  clear hw3 hI2
  go_upto_region 1 with (fail)
  rw [← HW3.out, ← HZX.out]
  all_goals
    clear HNX HI1 J1 N1 J2 N2 N3 K3 hl0
    go_loopw [6, 7] (fun fv ev wr => Hid (∃ r, ScanF Nb I zx l e J fv ev wr r)) (fun fv ev wr => leastOf (ScanF Nb I zx l e J fv ev wr))
    case atStart => exact Lib.hid ⟨_, HF.out⟩
    case round =>
      rename_i fv1 ev1 wr
      obtain ⟨wo, hwo⟩ : ∃ wo, wo = wr := ⟨_, rfl⟩
      subst hwo
      obtain ⟨⟨k, hk, hr, hJk, hNk, hcase⟩, hmin⟩ := leastOf_spec hrel.out
      have HR := Lib.hid hr
      have HK := Lib.hid hk
      have HJK := Lib.hid hJk
      have HNK := Lib.hid hNk
      clear hr hk hJk hNk hmin
      rcases hcase with ⟨y, hy, rfl, rfl, hX, hC1⟩ | ⟨rfl, rfl, rfl, hX, hC1⟩
      · have HX := Lib.hid hX
        have HC := Lib.hid hC1
        have y0 := hX.c0
        have y1 := hX.c1
        have y2 := hX.c2
        have hlen := Lib.hid (yields_len (e := e) HK.out)
        have hklt := Lib.hid (show k < l.length from (List.getElem?_eq_some_iff.1 hy).1)
        have hyt := Lib.hid (yields_take (e := e) hy)
        obtain ⟨fn, tm, asg, bdy, hyi, hRd⟩ := hY.out ((yields l e).take k) (y, 0) wo HJK.out HNK.out (by rw [hlen.out]; exact yields_at hy)
        unfold encY at hyi
        simp only at hyi
        clear hX hC1 hy
        go_upto_region 2 with (fail)
        refine (wpIn_wide (n := n)).1 ?_
        gi_wp2
        refine ⟨fun h => by simp [Fence.wide] at h, hRd.mono ?_⟩
        rintro en W5 (⟨rfl, hJ5, hi5, hk5, hc5⟩ | ⟨rfl, hx5⟩)
        · rw [← hyt.out] at hJ5
          have HJ5 := Lib.hid hJ5
          have N5 := Lib.hid hi5
          have X5 := Lib.hid (show C3 zx 38 (.string (bs y.key)) (.string (bs y.val)) (.bool y.gone) W5 from hc5 zx _ (by have := HS3.out; have := hlo.out; omega) HX.out rfl)
          obtain ⟨L2, hL2⟩ : ∃ L2, L2 = l.drop (k + 1) := ⟨_, rfl⟩
          have C5 := Lib.hid (show WalkS lb fb nb tb' kb' p zx F c K t d (nn - (firstB t key : Int)) key e L2 W5 by
            have h := HC.out
            rw [HI.out, ← hL2] at h
            have h5 := HLO.out
            exact WalkS.round h hk5 hc5 HNK.out hN.out hp ⟨h5.1, h5.2.1, h5.2.2.1⟩ fun q hq => (hKp.out q hq).2)
          have HN5 := Lib.hid (WK.out.next zx L2 W5 C5.out (heap_lt X5.out))
          have HL2 := Lib.hid hL2
          clear hJ5 hi5 hk5 hc5 y0 y1 y2 hL2
          gi_wp2
          go_wp2_with fail
          refine HN5.out.mono ?_
          rintro en w6 ⟨hA6, k6⟩
          have X6 := Lib.hid (X5.out.only9 k6 fun h => by have := (hWS.out _ h).2.1; have := HS3.out; omega)
          have J6 := Lib.hid (hJ.out _ _ _ HJ5.out (k6.mono fun j _ h => (hWS.out j h).1))
          have N6 := Lib.hid (show IntsAt Nb w6 from fun j hj => by obtain ⟨u, ty, hu⟩ := N5.out j hj; exact ⟨u, ty, (k6.block j (heap_lt hu) fun h => (hWS.out j h).2.2 hj).trans hu⟩)
          have y0 := X6.out.c0
          have y1 := X6.out.c1
          have y2 := X6.out.c2
          have yf := X6.out.free
          have HNX := Lib.hid (show ∀ (L : List Ent) (v0 v1 v2 : Value), WalkS lb fb nb tb' kb' p zx F c K t d (nn - (firstB t key : Int)) key e L w6 → J ((yields l e).take (k + 1)) (((w6.setCell ⟨zx, 0, none⟩ v0).setCell ⟨zx, 1, none⟩ v1).setCell ⟨zx, 2, none⟩ v2) ∧ IntsAt Nb (((w6.setCell ⟨zx, 0, none⟩ v0).setCell ⟨zx, 1, none⟩ v1).setCell ⟨zx, 2, none⟩ v2) ∧ I L (((w6.setCell ⟨zx, 0, none⟩ v0).setCell ⟨zx, 1, none⟩ v1).setCell ⟨zx, 2, none⟩ v2) from fun L v0 v1 v2 hL =>
            ⟨hJ.out _ _ _ J6.out ((put3_only w6 zx v0 v1 v2).mono fun j _ hj => .inr (by rw [hj]; exact HS3.out.2)), fun j hj => by obtain ⟨u, ty, hu⟩ := N6.out j hj; exact ⟨u, ty, (put3_same v0 v1 v2 j (fun h => zxN.out (by rw [← h]; exact hj))).trans hu⟩,
              by rw [HI.out]; exact WK.out.row zx zx L _ _ hL HS3.out.1 (.inl rfl) fun j _ hne => put3_same v0 v1 v2 j hne⟩)
          rcases hA6 with ⟨hl, rfl, hI6, -⟩ | ⟨x, L3, hl, rfl, hI6⟩
          · have hkl : k + 1 = l.length := by
              have := HL2.out
              rw [hl] at this
              have := List.drop_eq_nil_iff.1 this.symm
              have := hklt.out
              omega
            have HKL := Lib.hid hkl
            have hq := HNX.out [] (.string ⟨#[]⟩) (.string ⟨#[]⟩) (.bool false) hI6
            have HF6 := Lib.hid (show ScanF Nb I zx l e J (.bool false) (.int .i64 e) (((w6.setCell ⟨zx, 0, none⟩ (.string ⟨#[]⟩)).setCell ⟨zx, 1, none⟩ (.string ⟨#[]⟩)).setCell ⟨zx, 2, none⟩ (.bool false)) (l.length - (k + 1)) from
              ⟨k + 1, by omega, rfl, hq.1, hq.2.1, .inr ⟨hkl, rfl, rfl, X6.out.put _ _ _, hq.2.2⟩⟩)
            clear hl hkl hq hI6 k6
            go_wp2_with fail
            go_roundw
            case rel => exact Lib.hid ⟨_, HF6.out⟩
            case measure =>
              have h1 := (leastOf_spec ⟨_, HF6.out⟩).2 _ HF6.out
              have h2 := HR.out
              have h3 := hklt.out
              omega
          · have hkl : l[k + 1]? = some x ∧ l.drop (k + 1 + 1) = L3 := by
              have h1 := HL2.out
              rw [hl] at h1
              have hlt : k + 1 < l.length := by
                rcases Nat.lt_or_ge (k + 1) l.length with h | h
                · exact h
                · rw [List.drop_eq_nil_of_le h] at h1; cases h1
              rw [List.drop_eq_getElem_cons hlt] at h1
              injection h1 with h1 h2
              exact ⟨by rw [List.getElem?_eq_getElem hlt, h1], h2.symm⟩
            have hq := HNX.out L3 (.string (bs x.key)) (.string (bs x.val)) (.bool x.gone) hI6
            have HF6 := Lib.hid (show ScanF Nb I zx l e J (.bool true) (.int .i64 0) (((w6.setCell ⟨zx, 0, none⟩ (.string (bs x.key))).setCell ⟨zx, 1, none⟩ (.string (bs x.val))).setCell ⟨zx, 2, none⟩ (.bool x.gone)) (l.length - (k + 1)) from
              ⟨k + 1, hklt.out, rfl, hq.1, hq.2.1, .inl ⟨x, hkl.1, rfl, rfl, X6.out.put _ _ _, by rw [hkl.2]; exact hq.2.2⟩⟩)
            clear hl hkl hq hI6 k6
            go_wp2_with fail
            go_roundw
            case rel => exact Lib.hid ⟨_, HF6.out⟩
            case measure =>
              have h1 := (leastOf_spec ⟨_, HF6.out⟩).2 _ HF6.out
              have h2 := HR.out
              have h3 := hklt.out
              omega
        · have HX5 := Lib.hid hx5
          clear hx5 y0 y1 y2
          gi_wp2
          go_wp2_with fail
          go_end0
          exact ⟨⟨_, rfl⟩, .inr ⟨_, HX5.out⟩⟩
      · have hlen := Lib.hid (yields_len (l := l) (e := e) (Nat.le_refl _))
        clear hX hC1
        by_cases h0e : e = 0
        · have hye := Lib.hid (yields_ok (l := l) h0e)
          subst h0e
          go_wp2_with fail
          go_end0
          exact ⟨⟨_, rfl⟩, .inl (by rw [← hye.out]; exact HJK.out)⟩
        · have hye := Lib.hid (yields_err (l := l) h0e)
          have h1e : (e == 0) = false := by simpa using h0e
          have h2e : (e != 0) = true := by simpa using h0e
          obtain ⟨fn, tm, asg, bdy, hyi, hRd⟩ := hY.out ((yields l e).take l.length) (noEn, e) wo HJK.out HNK.out (by rw [hlen.out]; exact yields_end h0e)
          have hyi' : (Instr.yield lp #[.agg #[.string ⟨#[]⟩, .string ⟨#[]⟩, .bool false], .int .i64 e]).run Tryd.prog wo = .ok (.round lp fn tm asg bdy) wo := hyi
          clear hyi h0e
          go_upto_region 5 with (fail)
          refine (wpIn_wide (n := n)).1 ?_
          gi_wp2
          refine ⟨fun h => by simp [Fence.wide] at h, hRd.mono ?_⟩
          rintro en W5 (⟨rfl, hJ5, hi5, hk5, hc5⟩ | ⟨rfl, hx5⟩)
          · rw [hye.out] at hJ5
            have HJ5 := Lib.hid hJ5
            clear hJ5 hi5 hk5 hc5
            gi_wp2
            go_wp2_with fail
            go_end0
            exact ⟨⟨_, rfl⟩, .inl HJ5.out⟩
          · have HX5 := Lib.hid hx5
            clear hx5
            gi_wp2
            go_wp2_with fail
            go_end0
            exact ⟨⟨_, rfl⟩, .inr ⟨_, HX5.out⟩⟩
/-- Scan, of a table: what is ranged over. -/
theorem scan_stops (n p F : Nat) (c : Array Value) (K : List (Nat × Obj)) (t : Tab) (d nn : Int) (key : List UInt8) (tb kb lo : Nat) (Nb : Nat → Prop) (l : List Ent) (e : Int)
    (hU : Hid (scanU t d key = (e, l))) (hf : Hid (FineT t)) (hs : Hid (Src F c K d t.bytes)) (hKp : Hid (∀ q ∈ K, q.1 ≠ p ∧ q.1 < lo)) (hN : Hid (∀ j, Nb j → p < j ∧ j < lo ∧ ∀ q ∈ K, q.1 ≠ j)) (hp : p < lo)
    (hn1 : -10000000000000000 ≤ nn) (hn2 : nn ≤ 10000000000000000) (hl : t.bytes.length ≤ 100000000000) :
    ScStops n Tryd.prog 41 #[.pointer (some ⟨tb, 0, none⟩), .pointer (some ⟨kb, 0, none⟩)] encY (fun k => k = p) Nb (IntsAt Nb) (ScanC p F c K t nn key tb kb) lo (yields l e) :=
  fun lp J Jx W hlo hJ hY h0 hn0 hC => callsIn_wide.2 (scan_runs n p F c K t d nn key tb kb lo Nb l e lp J Jx W hU hf hs hKp hN hp hn1 hn2 hl (Lib.hid hlo) (Lib.hid hJ) (Lib.hid hY) (Lib.hid h0) (Lib.hid hn0) (Lib.hid hC))
/-- Scan called. -/
theorem scan_run (p : Nat) (key : List UInt8) (w : World) : Calls Tryd.prog 19 #[.pointer (some ⟨p, 0, none⟩), .string (bs key)] w fun en w' => en = .returned (.func (.func 41) #[] #[.pointer (some ⟨w.heap.size, 0, none⟩), .pointer (some ⟨w.heap.size + 1, 0, none⟩)]) ∧
    w' = (w.alloc (.cells #[.pointer (some ⟨p, 0, none⟩)] 30)).alloc (.cells #[.string (bs key)] 9) := by
  go_enter Tryd.func19, Tryd.ntmps19
  go_wp2_with fail
  go_ret
  exact ⟨by simp, rfl⟩
end Go.Proofs.YteejldddgogbkaaDoor
/- The law's source that may be down. -/
set_option linter.unusedVariables false
set_option maxRecDepth 100000
namespace Go.Proofs.YteejldddgogbkaaDoor
open Go.RowKit

def scanK (db sb b : Nat) (down : Bool) (L : List UInt8) : List (Nat × Obj) := [(db, .cells #[.bool down] 4 (0, 0)), (sb, .cells #[overV b] 34 (0, 0)), (b, .cells #[.string (bs L)] 9 (0, 0))]
theorem scan_src (db sb b : Nat) (down : Bool) (L : List UInt8) (hl : L.length ≤ 100000000000) : Src 18 #[.pointer (some ⟨db, 0, none⟩), .pointer (some ⟨sb, 0, none⟩)] (scanK db sb b down L) (if down then 8 else 0) L where
  enters := enters_of Tryd.func18 (by kernel_rfl) rfl
  calls W hK n k hnk := by
    have hd : W.heap[db]? = some (.cells #[.bool down] 4 (0, 0)) := hK (db, _) (by simp [scanK])
    have hs : W.heap[sb]? = some (.cells #[overV b] 34 (0, 0)) := hK (sb, _) (by simp [scanK])
    have hb : W.heap[b]? = some (.cells #[.string (bs L)] 9 (0, 0)) := hK (b, _) (by simp [scanK])
    have c0 : W.cell? ⟨db, 0, none⟩ = some (.bool down) := by simp [World.cell?, hd]
    have c1 : W.cell? ⟨sb, 0, none⟩ = some (overV b) := by simp [World.cell?, hs]
    have HO := Lib.hid (over_yes b (bs L) n k W (by simp [World.cell?, hb]) (by rw [bs_size]; exact hnk) (by rw [bs_size]; omega))
    rw [bs_cut] at HO
    unfold overV at c1
    clear hK hd hs hb hnk
    cases down with
    | true =>
      rw [show (if true = true then (8 : Int) else 0) = 8 from rfl, if_neg (by decide)]
      go_enter Tryd.func18, Tryd.ntmps18
      go_wp2_with fail
      go_ret2
      exact ⟨rfl, Below.refl _ _⟩
    | false =>
      rw [show (if false = true then (8 : Int) else 0) = 0 from rfl, if_pos rfl]
      go_enter Tryd.func18, Tryd.ntmps18
      go_wp2_with fail
      refine HO.out.mono ?_
      rintro e w1 ⟨rfl, k1⟩
      go_wp2_with fail
      go_ret2
      exact ⟨rfl, k1⟩
end Go.Proofs.YteejldddgogbkaaDoor
/- A table that was built, as the laws need it. -/
set_option linter.unusedVariables false
namespace Go.Proofs.YteejldddgogbkaaDoor
open Go.RowKit

structure Built (each : Nat) (T : List Ent) (t : Tab) (S : List UInt8) : Prop where
  opened : openTab S = (0, t)
  fine : FineT t
  bytes : t.bytes = S
  len : S.length ≤ 1000000000
  least : 16 ≤ S.length
  bits : t.bits.length ≤ 100000000
  count : t.count = T.length
  get : ∀ k, ∃ r, r ≤ 1 ∧ ((T.find? (isKey k)).isSome = true → r = 1) ∧ getT t k = ((T.find? (isKey k)).getD ⟨[], [], false⟩, (T.find? (isKey k)).isSome, 0, r)
  scan : ∀ k, scanT t k = (0, fromE k T)
  index : t.index = idxs 0 (chunks each T)
theorem tab_len {each per : Nat} {T : List Ent} (h1 : 1 ≤ each) (h2 : each ≤ 256) (h3 : 1 ≤ per) (h4 : per ≤ 32) (hl : T.length ≤ 3001) (hT : chkE T = 0) : (tabB each per T).length ≤ 1000000000 ∧ 16 ≤ (tabB each per T).length := by
  obtain ⟨hok, _⟩ := (chkE_ok T).1 hT
  have hsm := smallE_of hok
  obtain ⟨hfl, hcn⟩ := chunks_all (k := each) (by omega) T
  obtain ⟨C, hC⟩ : ∃ C, C = chunks each T := ⟨_, rfl⟩
  rw [← hC] at hfl hcn
  have hcs : ∀ c ∈ C, smallE c ∧ 1 ≤ c.length ∧ c.length ≤ 65536 := fun c hc => ⟨fun x hx => hsm x (by rw [← hfl]; exact List.mem_flatten.2 ⟨c, hc, hx⟩), (hcn c hc).1, by have := (hcn c hc).2; omega⟩
  have hbl := blks_len C hcs
  rw [hfl] at hbl
  have hxs := idxs_small C 0 hcs (by omega)
  have hYl := blkB_len hxs (by rw [idxs_len]; omega)
  rw [idxs_len] at hYl
  have hfol : (filB per T).length ≤ 300000 := filB_len h3 h4 (by omega)
  have htab : tabB each per T = blksB C ++ blkB (idxs 0 C) ++ crcd (filB per T) ++ crcd (footB (blksB C).length ((blksB C).length + (blkB (idxs 0 C)).length) T.length) := by unfold tabB tabC; rw [← hC]
  have hE : (footB (blksB C).length ((blksB C).length + (blkB (idxs 0 C)).length) T.length).length = 12 := rfl
  rw [htab]
  simp only [List.length_append, crcd_len, hE]
  omega
theorem built_tab {each per : Nat} {T : List Ent} (h1 : 1 ≤ each) (h2 : each ≤ 256) (h3 : 1 ≤ per) (h4 : per ≤ 32) (hl : T.length ≤ 3001) (hT : chkE T = 0) : ∃ t, Built each T t (tabB each per T) := by
  have ho := open_tab h1 h2 h3 h4 hl hT
  have hlen := tab_len h1 h2 h3 h4 hl hT
  obtain ⟨hok, _⟩ := (chkE_ok T).1 hT
  obtain ⟨hfl, hcn⟩ := chunks_all (k := each) (by omega) T
  obtain ⟨C, hC⟩ : ∃ C, C = chunks each T := ⟨_, rfl⟩
  rw [← hC] at hfl hcn ho
  have hcs : ∀ c ∈ C, 1 ≤ c.length ∧ c.length ≤ 65536 := fun c hc => ⟨(hcn c hc).1, by have := (hcn c hc).2; omega⟩
  have htab : tabB each per T = blksB C ++ (blkB (idxs 0 C) ++ crcd (filB per T) ++ crcd (footB (blksB C).length ((blksB C).length + (blkB (idxs 0 C)).length) T.length)) := by unfold tabB tabC; rw [← hC]; simp only [List.append_assoc]
  obtain ⟨hf, hb⟩ := open_fine ho
  refine ⟨_, ho, hf, rfl, hlen.1, hlen.2, ?_, rfl, fun k => ?_, fun k => ?_, by rw [hC]⟩
  · show (bytesOf _ _).length ≤ _
    rw [bytesOf_len]
    have := Nat.mul_le_mul h4 (show T.length ≤ 65536 by omega)
    unfold wordsOf
    omega
  · rw [htab]
    exact get_built hfl hok hcs (wordsOf_pos per T.length)
  · rw [htab]
    exact scan_built hfl hok hcs
end Go.Proofs.YteejldddgogbkaaDoor
/- The law that a Scan goes through what Walk tells: what it needs in plain words and in memory. -/
set_option linter.unusedVariables false
set_option maxRecDepth 100000
namespace Go.Proofs.YteejldddgogbkaaDoor
open Go.RowKit

def NotIn (a : Option Addr) (n : Nat) (F : Nat → Prop) : Prop := n = 0 ∨ ∀ b off, a = some ⟨b, off, none⟩ → ¬ F b
theorem IsE.only {w w' : World} {a : Option Addr} {n : Nat} {T : List Ent} {F : Nat → Prop} (h : IsE w a n T) (k : Only F w w') (hN : NotIn a n F) : IsE w' a n T := by
  obtain ⟨h1, b, off, h2, h3⟩ := h
  refine ⟨h1, b, off, h2, fun j hj => ?_⟩
  obtain ⟨q1, q2, q3, q4⟩ := h3 j hj
  have ha := h2.resolve_left (by omega)
  have hb := k.block _ q1 ((hN.resolve_left (by omega)) b off ha)
  exact ⟨Nat.lt_of_lt_of_le q1 k.size, cell_same q2 hb, cell_same q3 hb, cell_same q4 hb⟩
/-- A slice that is there, and blocks that are newer. -/
theorem NotIn.new {w : World} {a : Option Addr} {n : Nat} {T : List Ent} {F : Nat → Prop} (h : IsE w a n T) (hF : ∀ k, F k → w.heap.size ≤ k) : NotIn a n F := by
  obtain ⟨h1, b, off, h2, h3⟩ := h
  rcases Nat.eq_zero_or_pos n with h0 | h0
  · exact .inl h0
  · refine .inr fun b' off' ha hb => ?_
    have ha' := h2.resolve_left (by omega)
    rw [ha] at ha'
    injection ha' with ha'
    injection ha' with e1 e2
    subst e1
    have := (h3 0 (by omega)).lt
    have := hF _ hb
    omega
/-- A variable. -/
def Vr (c : Nat) (v : Value) (ty : TypeId) (w : World) : Prop := w.heap[c]? = some (.cells #[v] ty (0, 0))
theorem Vr.cell {c : Nat} {v : Value} {ty : TypeId} {w : World} (h : Vr c v ty w) : w.cell? ⟨c, 0, none⟩ = some v := by unfold Vr at h; simp [World.cell?, h]
theorem Vr.free {c : Nat} {v : Value} {ty : TypeId} {w : World} (h : Vr c v ty w) : w.frozen? ⟨c, 0, none⟩ = false := by unfold Vr at h; simp [World.frozen?, h]
theorem Vr.put {c : Nat} {v : Value} {ty : TypeId} {w : World} (h : Vr c v ty w) (u : Value) : Vr c u ty (w.setCell ⟨c, 0, none⟩ u) := heap_set (o := 0) h _
theorem Vr.only {c : Nat} {v : Value} {ty : TypeId} {w w' : World} {S : Nat → Prop} (h : Vr c v ty w) (k : Only S w w') (hS : ¬ S c) : Vr c v ty w' := (k.block c (heap_lt h) hS).trans h
theorem Vr.below {c : Nat} {v : Value} {ty : TypeId} {w w' : World} (h : Vr c v ty w) (k : Below w.heap.size w w') : Vr c v ty w' := (k.block c (heap_lt h)).trans h
/-- A bool's variable is no place of anything else. -/
theorem flag_ne {W : World} {q b o : Nat} {x : Bool} {ty : TypeId} {v : Value} (hq : Vr q (.bool x) ty W) (h : W.cell? ⟨b, o, none⟩ = some v) (hv : ∀ y, v ≠ .bool y) : b ≠ q := fun e => by
  subst e
  unfold Vr at hq
  simp only [World.cell?, hq] at h
  have h' : (#[Value.bool x])[o]? = some v := by simpa using h
  have hm := Array.mem_of_getElem? h'
  simp at hm
  exact hv x hm
/-- A table stays while a bool is written. -/
theorem TabM.flag {p q : Nat} {v : Value} {n : Int} {t : Tab} {W W' : World} {x : Bool} {ty : TypeId} (h : TabM p v n t W) (hv : ∀ y, v ≠ .bool y) (hq : Vr q (.bool x) ty W) (k : ∀ j, j ≠ q → W'.heap[j]? = W.heap[j]?) : TabM p v n t W' := by
  obtain ⟨a, cap, fb, fg, h1, ⟨e1, b, off, e2, e3, e4⟩, h3, h4, h5⟩ := h.ex
  have hp : p ≠ q := flag_ne (o := 0) hq (by simp [World.cell?, h1]) hv
  refine ⟨a, cap, fb, fg, (k p hp).trans h1, ⟨e1, b, off, e2, e3, fun i hi => (e4 i hi).block (k b (flag_ne hq (e4 i hi).c0 (by simp)))⟩, ?_, h4, h5⟩
  have hfb : fb ≠ q := flag_ne hq h3.c0 (by simp)
  refine ⟨cell_same h3.c0 (k fb hfb), ?_, ⟨?_, fun j hj => ?_⟩, lt_of_same h3.lt (k fb hfb)⟩
  · obtain ⟨cp, hc⟩ := h3.c1
    exact ⟨cp, cell_same hc (k fb hfb)⟩
  · by_cases hg : fg = q
    · have h6 := lt_of_same h3.lt (k fb hfb)
      have h7 := h3.row.1
      rcases Nat.eq_zero_or_pos t.bits.length with h0 | h0
      · exact Nat.lt_trans (by omega) (lt_of_same (heap_lt h1) (k p hp))
      · exact absurd hg (flag_ne hq (h3.row.2 0 h0).1 (by simp))
    · exact lt_of_same h3.row.1 (k fg hg)
  · have h8 := h3.row.2 j hj
    have hg := flag_ne hq h8.1 (by simp)
    unfold World.cell? World.frozen? at h8 ⊢
    simp only [k fg hg]
    exact h8
/-- What a scan of a built table tells, its source down or not. -/
theorem scan_down {each : Nat} {R : List Ent} {t : Tab} {S : List UInt8} (h : Built each R t S) (he : 0 < each) (key : List UInt8) (broken : Bool) {e : Int} {l : List Ent} (hu : scanU t (if broken then 8 else 0) key = (e, l)) :
    (e = 0 ∧ l = fromE key R ∧ (broken = true → R = [])) ∨ (e = 8 ∧ l = [] ∧ broken = true ∧ R ≠ []) := by
  cases broken with
  | false =>
    have h1 : scanU t 0 key = (e, l) := hu
    rw [scanU_zero, h.scan] at h1
    injection h1 with h2 h3
    exact .inl ⟨h2.symm, h3.symm, fun h => by cases h⟩
  | true =>
    have h1 : scanU t 8 key = (e, l) := hu
    have hfl := firstB_le t key
    have hch := (chunks_all he R).1
    have hil : t.index.length = (chunks each R).length := by rw [h.index, idxs_len]
    unfold scanU at h1
    cases hC : chunks each R with
    | nil =>
      rw [hC] at hch hil
      have hR : R = [] := hch.symm
      simp only [List.length_nil] at hil
      rw [hil, Nat.zero_sub] at h1
      unfold scanD at h1
      injection h1 with h2 h3
      exact .inl ⟨h2.symm, by rw [← h3, hR]; rfl, fun _ => hR⟩
    | cons c C =>
      have hR : R ≠ [] := fun h0 => by
        have h4 := (chunks_all he R).2 c (by rw [hC]; exact List.mem_cons_self)
        rw [hC, h0] at hch
        simp only [List.flatten_cons, List.append_eq_nil_iff] at hch
        rw [hch.1] at h4
        simp at h4
      rw [hC] at hil
      simp only [List.length_cons] at hil
      have hlt : fromN key (t.index.map (·.key)) - 1 < t.index.length := by
        have := fromN_le key (t.index.map (·.key))
        rw [List.length_map] at this
        omega
      obtain ⟨f, hf⟩ : ∃ f, t.index.length - (fromN key (t.index.map (·.key)) - 1) = f + 1 := ⟨t.index.length - (fromN key (t.index.map (·.key)) - 1) - 1, by omega⟩
      rw [hf] at h1
      unfold scanD at h1
      rw [show ∀ i, blockD t 8 i = (8, []) from fun i => rfl, if_pos (by decide)] at h1
      injection h1 with h2 h3
      exact .inr ⟨h2.symm, h3.symm, rfl, hR⟩
end Go.Proofs.YteejldddgogbkaaDoor
/- The parts of a slice of entries, one by one: the iterator's contract. -/
set_option linter.unusedVariables false
set_option maxRecDepth 100000
namespace Go.Proofs.YteejldddgogbkaaDoor
open Go.RowKit

/-- What a round of the parts must keep: two variables. -/
def Kp2 (sb nb : Nat) (W W' : World) : Prop := W.heap.size ≤ W'.heap.size ∧ W'.heap[sb]? = W.heap[sb]? ∧ W'.heap[nb]? = W.heap[nb]?
theorem Kp2.refl (sb nb : Nat) (W : World) : Kp2 sb nb W W := ⟨Nat.le_refl _, rfl, rfl⟩
theorem Kp2.trans {sb nb : Nat} {A B C : World} (h : Kp2 sb nb A B) (k : Kp2 sb nb B C) : Kp2 sb nb A C := ⟨Nat.le_trans h.1 k.1, k.2.1.trans h.2.1, k.2.2.trans h.2.2⟩
theorem Kp2.putObj {sb nb B : Nat} (h1 : sb < B) (h2 : nb < B) (W : World) (l : Nat) (o' : Obj) (hl : B ≤ l) : Kp2 sb nb W (W.putObj l o') :=
  ⟨(grownBy_putObj' W l o').size, World.putObj_heap_other (by omega), World.putObj_heap_other (by omega)⟩
theorem Kp2.of_below {sb nb : Nat} {W W' : World} (h : Below W.heap.size W W') (h1 : sb < W.heap.size) (h2 : nb < W.heap.size) : Kp2 sb nb W W' := ⟨h.size, h.block _ h1, h.block _ h2⟩
/-- How many entries the q-th part has. -/
def partN (k len q : Nat) : Nat := min k (len - q * k)
def partV (b off k len q : Nat) : Value := .slice (some ⟨b, off + q * k * 3, none⟩) (partN k len q) (partN k len q)
set_option maxHeartbeats 2000000 in
theorem chunk_in (n l sb nb b off k len cap M : Nat) (a : Option Addr) (J Jx : List (Num M) → World → Prop) (W : World)
    (hk1 : 1 ≤ k) (hk2 : k ≤ 256) (hl : len ≤ 65536) (hcap : len ≤ cap) (ha : Hid (len = 0 ∨ a = some ⟨b, off, none⟩)) (hM : Hid (M = (len + k - 1) / k))
    (hJ : Hid (AbidesFrom W.heap.size J))
    (hY : Hid (∀ pre (q : Num M) W1, J pre W1 → pre.length < M → YieldAt Fence.wide (n - 1) Tryd.prog l #[partV b off k len q.1] W1 fun e W' =>
      (e = .returned (.bool true) ∧ J (pre ++ [q]) W' ∧ Kp2 sb nb W1 W') ∨ (e = .returned (.bool false) ∧ Jx (pre ++ [q]) W')))
    (h1 : Hid (W.heap[sb]? = some (.cells #[.slice a len cap] 22 (0, 0)))) (h2 : Hid (W.heap[nb]? = some (.cells #[.int .i64 (k : Int)] 3 (0, 0)))) (h0 : Hid (J [] W)) :
    Calls Tryd.prog 62 #[.func (.yield l) #[] #[], .pointer (some ⟨sb, 0, none⟩), .pointer (some ⟨nb, 0, none⟩)] W fun e W' => (∃ v, e = .returned v) ∧
      ((∃ xs, xs.map (·.1) = List.range M ∧ J xs W') ∨ (∃ pre, True ∧ Jx pre W')) := by
  go_enter Tryd.func62, Tryd.ntmps62
  go_wp2_with fail
  go_loopw [4] (fun vi wr => ∃ (q i : Nat) (pre : List (Num M)), q ≤ M ∧ Hid (i = q * k) ∧ i ≤ 66000 ∧ vi = .int .i64 (i : Int) ∧ Hid (pre.map (·.1) = List.range q) ∧ Hid (J pre wr) ∧ Hid (Kp2 sb nb W wr)) (fun vi wr => 66000 - (intOf vi).toNat)
  case atStart => exact ⟨0, 0, [], by omega, Lib.hid (by omega), by omega, rfl, Lib.hid rfl, h0, Lib.hid (Kp2.refl _ _ _)⟩
  case round =>
    obtain ⟨q, i, pre, hq, hi, hi6, rfl, hpre, hJs, hkc⟩ := hrel
    have hs1 : wr.cell? ⟨sb, 0, none⟩ = some (.slice a len cap) := by simp [World.cell?, hkc.out.2.1, h1.out]
    have hn1 : wr.cell? ⟨nb, 0, none⟩ = some (.int .i64 (k : Int)) := by simp [World.cell?, hkc.out.2.2, h2.out]
    rcases Nat.lt_or_ge i len with hlt | hge
    · have hlt' : (i : Int) < (len : Int) := by omega
      have hbs := Lib.hid (show sb < wr.heap.size ∧ nb < wr.heap.size from ⟨cell_block hs1, cell_block hn1⟩)
      obtain ⟨p, hp⟩ : ∃ p, p = min k (len - i) := ⟨_, rfl⟩
      have hmin : min (k : Int) ((len - i : Nat) : Int) = (p : Int) := by omega
      have hp1 : i + p ≤ len := by omega
      have htn : ((i : Int) + (p : Int)).toNat - i = p := by omega
      obtain rfl : a = some ⟨b, off, none⟩ := by rcases ha.out with h | h; (omega); (exact h)
      have hqM := Lib.hid (show q < M by
        have h1 := hM.out
        have h2 := hi.out
        rcases Nat.lt_or_ge q M with h | h
        · exact h
        · have h3 : M * k ≤ q * k := Nat.mul_le_mul_right _ h
          have h4 : len ≤ M * k := by
            rw [h1]
            have := Nat.div_add_mod (len + k - 1) k
            have h5 := Nat.mod_lt (len + k - 1) (show 0 < k by omega)
            rw [Nat.mul_comm] at this
            omega
          omega)
      have hpv := Lib.hid (show Value.slice (some ⟨b, off + i * 3, none⟩) p p = partV b off k len q by unfold partV partN; rw [← hi.out, ← hp])
      have hik := Lib.hid (show i + k = (q + 1) * k by rw [Nat.add_mul, Nat.one_mul, ← hi.out])
      have hpl := Lib.hid hp
      clear hp
      go_wp2_with fail
      go_quiet (fail)
      go_upto_region 4 with (fail)
      refine (wpIn_wide (n := n)).1 ?_
      have hs2 : (wr.drewN nq).cell? ⟨sb, 0, none⟩ = some (.slice (some ⟨b, off, none⟩) len cap) := hs1
      have hbd := Lib.hid (below_drewN (Below.refl wr.heap.size wr) nq)
      have HJr := Lib.hid (hJ.out _ wr _ none hJs.out (grown_of_below hbd.out) (fun r e => by cases e))
      obtain ⟨fn, tm, asg, bdy, hy, hR⟩ := hY.out pre ⟨q, hqM.out⟩ (wr.drewN nq) HJr.out (by rw [← List.length_map (f := (·.1)), hpre.out, List.length_range]; exact hqM.out)
      rw [← hpv.out] at hy
      gi_wp2
      refine ⟨fun h => by simp [Fence.wide] at h, hR.mono ?_⟩
      have hkc2 := Lib.hid (hkc.out.trans (Kp2.of_below hbd.out hbs.out.1 hbs.out.2))
      rintro e W5 (⟨rfl, hJ5, hk5⟩ | ⟨rfl, hx5⟩)
      · have HK5 := Lib.hid (hkc2.out.trans hk5)
        have HJ5 := Lib.hid hJ5
        have hn5 : W5.cell? ⟨nb, 0, none⟩ = some (.int .i64 (k : Int)) := by simp [World.cell?, HK5.out.2.2, h2.out]
        clear hJ5 hk5 hs1 hn1 hs2
        gi_wp2
        go_wp2_with fail
        go_roundw
        case rel => exact ⟨q + 1, i + k, pre ++ [⟨q, hqM.out⟩], by have := hqM.out; omega, hik, by omega, by go_num, Lib.hid (by rw [List.map_append, hpre.out, List.range_succ]; rfl), HJ5, HK5⟩
        case measure => simp [intOf]; omega
      · gi_wp2
        go_wp2_with fail
        refine bodyPost_ret (results_none rfl _ _ _) rfl ?_
        exact ⟨⟨_, rfl⟩, .inr ⟨_, trivial, hx5⟩⟩
    · go_wp2_with fail
      go_end0
      exact ⟨⟨_, rfl⟩, .inl ⟨pre, by
        have h1 := hM.out
        have h2 := hi.out
        have h3 : q = M := by
          rcases Nat.lt_or_ge q M with h | h
          · have h3 : (q + 1) * k ≤ M * k := Nat.mul_le_mul_right _ h
            have := Nat.div_mul_le_self (len + k - 1) k
            rw [← h1] at this
            rw [Nat.add_mul, Nat.one_mul] at h3
            omega
          · omega
        rw [hpre.out, h3], hJs.out⟩⟩
theorem chunk_stops (n sb nb b off k len cap M : Nat) (a : Option Addr) (w : World)
    (hk1 : 1 ≤ k) (hk2 : k ≤ 256) (hl : len ≤ 65536) (hcap : len ≤ cap) (ha : Hid (len = 0 ∨ a = some ⟨b, off, none⟩)) (hM : Hid (M = (len + k - 1) / k))
    (h1 : w.heap[sb]? = some (.cells #[.slice a len cap] 22 (0, 0))) (h2 : w.heap[nb]? = some (.cells #[.int .i64 (k : Int)] 3 (0, 0))) :
    SeqStopsK Fence.wide n Tryd.prog 62 #[.pointer (some ⟨sb, 0, none⟩), .pointer (some ⟨nb, 0, none⟩)] (fun q : Num M => #[partV b off k len q.1]) (Kp2 sb nb) (fun xs => xs.map (·.1) = List.range M) (fun pre => True) M w := fun l J Jx W hW hJ hJx hY h0 =>
  callsIn_wide.2 (chunk_in n l sb nb b off k len cap M a J Jx W hk1 hk2 hl hcap ha hM (Lib.hid hJ) (Lib.hid hY) (Lib.hid ((hW.block _ (heap_lt h1)).trans h1)) (Lib.hid ((hW.block _ (heap_lt h2)).trans h2)) (Lib.hid h0))
end Go.Proofs.YteejldddgogbkaaDoor
/- The parts of a list by their numbers, in plain words. -/
set_option linter.unusedVariables false
namespace Go.Proofs.YteejldddgogbkaaDoor
open Go.RowKit

def chunkAt (k : Nat) (T : List Ent) (q : Nat) : List Ent := (T.drop (q * k)).take k
theorem chunkAt_len (k : Nat) (T : List Ent) (q : Nat) : (chunkAt k T q).length = min k (T.length - q * k) := by unfold chunkAt; rw [List.length_take, List.length_drop]
theorem chunks_count {k n : Nat} (hk : 0 < k) (hn : 0 < n) : (n + k - 1) / k = (n - k + k - 1) / k + 1 := by
  rcases Nat.lt_or_ge n k with h | h
  · have h1 : n - k = 0 := by omega
    have h2 : (k - 1) / k = 0 := Nat.div_eq_of_lt (by omega)
    have h3 : (n + k - 1) / k = 1 := Nat.div_eq_of_lt_le (by omega) (by omega)
    rw [h1, show 0 + k - 1 = k - 1 by omega, h2, h3]
  · rw [show n + k - 1 = (n - k + k - 1) + k by omega, Nat.add_div_right _ hk]
theorem parts_range {k : Nat} (hk : 0 < k) : ∀ (f : Nat) (T : List Ent), T.length ≤ f → parts f k T = (List.range ((T.length + k - 1) / k)).map (chunkAt k T)
  | 0, T, h => by
    have h0 : T.length = 0 := by omega
    rw [h0, show 0 + k - 1 = k - 1 by omega, Nat.div_eq_of_lt (by omega)]
    rfl
  | f + 1, T, h => by
    unfold parts
    cases hT : T with
    | nil =>
      simp only [List.length_nil]
      rw [show 0 + k - 1 = k - 1 by omega, Nat.div_eq_of_lt (by omega)]
      rfl
    | cons x U =>
      rw [← hT]
      have hl : 0 < T.length := by rw [hT]; simp
      have ih := parts_range hk f (T.drop k) (by rw [List.length_drop]; omega)
      rw [chunks_count hk hl, List.range_succ_eq_map, List.map_cons, List.map_map]
      have e0 : chunkAt k T 0 = T.take k := by simp [chunkAt]
      have e1 : ∀ q, chunkAt k T (q + 1) = chunkAt k (T.drop k) q := fun q => by
        unfold chunkAt
        rw [List.drop_drop, Nat.add_mul, Nat.one_mul, Nat.add_comm]
      have hne : T.isEmpty = false := by rw [hT]; rfl
      rw [hne, e0, ih, List.length_drop]
      simp only [Function.comp_def, Nat.succ_eq_add_one, e1]
      rfl
theorem chunks_range {k : Nat} (hk : 0 < k) (T : List Ent) : chunks k T = (List.range ((T.length + k - 1) / k)).map (chunkAt k T) := parts_range hk _ T (Nat.le_refl _)
theorem rises_part {T : List Ent} (h : rises T) (i n : Nat) : rises ((T.drop i).take n) := by
  have h1 := (rises_app (A := T.take i) (D := T.drop i) (by rw [List.take_append_drop]; exact h)).2.1
  exact (rises_app (A := (T.drop i).take n) (D := (T.drop i).drop n) (by rw [List.take_append_drop]; exact h1)).1
theorem okE_fields : ∀ {T : List Ent} {first : Bool} {last : List UInt8}, okEs first last T → ∀ x ∈ T, x.key.length ≤ 65536 ∧ x.val.length ≤ 65536 ∧ (x.gone = true → x.val = [])
  | [], _, _, _, x, hx => by cases hx
  | y :: T, _, _, h, x, hx => by
    rcases List.mem_cons.1 hx with rfl | hx
    · exact ⟨h.1.1, h.1.2.1, h.1.2.2.1⟩
    · exact okE_fields h.2 x hx
theorem chk_part {T : List Ent} (h : chkE T = 0) (i n : Nat) : chkE ((T.drop i).take n) = 0 := by
  obtain ⟨hok, hl⟩ := (chkE_ok T).1 h
  refine (chkE_ok _).2 ⟨okEs_of_rises true [] (rises_part (rises_of_okEs true [] hok).1 i n) (fun x hx => okE_fields hok x ?_) (fun e => by cases e), ?_⟩
  · exact List.mem_of_mem_drop (List.mem_of_mem_take hx)
  · rw [List.length_take, List.length_drop]; omega
theorem chk_chunk {T : List Ent} (h : chkE T = 0) (k q : Nat) : chkE (chunkAt k T q) = 0 := chk_part h _ _
theorem pack_chk {T : List Ent} (h : chkE T = 0) : packB T = blkB T := by unfold packB; rw [if_pos h, blkB_eq]
end Go.Proofs.YteejldddgogbkaaDoor
