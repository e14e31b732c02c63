/- Texts put together: ManCopyOf, ManSrtT, ManSrtS, ManDraftOf, ManApply -/
import Derived.Test.YtgljjdldhnajdaaGreatMPac16
import Derived.Test.YtgljjdldhnajdaaGreatMPac11
import Derived.Test.YtgljjdldhnajdaaGreatMPac15
import Derived.Test.YtgljjdldhnajdaaGreatMPac06
/- A state in memory of its own. -/
set_option linter.unusedVariables false
set_option maxRecDepth 100000
namespace Go.Proofs.YtgljjdldhnajdaaGreat
open Go.RowKit

/-- A variable of a state. -/
def C4 (b : Nat) (v0 v1 v2 v3 : Value) (w : World) : Prop := w.heap[b]? = some (.cells #[v0, v1, v2, v3] 46 (0, 0))
namespace C4
variable {b : Nat} {v0 v1 v2 v3 : Value} {w w' : World}
theorem c0 (h : C4 b v0 v1 v2 v3 w) : w.cell? ⟨b, 0, none⟩ = some v0 ∧ w.cell? ⟨b, 1, none⟩ = some v1 ∧ w.cell? ⟨b, 2, none⟩ = some v2 ∧ w.cell? ⟨b, 3, none⟩ = some v3 := by unfold C4 at h; simp [World.cell?, h]
theorem free (h : C4 b v0 v1 v2 v3 w) (j : Nat) : w.frozen? ⟨b, j, none⟩ = false := by unfold C4 at h; simp [World.frozen?, h]
theorem below (h : C4 b v0 v1 v2 v3 w) (k : Below w.heap.size w w') : C4 b v0 v1 v2 v3 w' := (k.block b (heap_lt h)).trans h
theorem put (h : C4 b v0 v1 v2 v3 w) (u0 u1 u2 u3 : Value) : C4 b u0 u1 u2 u3 ((((w.setCell ⟨b, 0, none⟩ u0).setCell ⟨b, 1, none⟩ u1).setCell ⟨b, 2, none⟩ u2).setCell ⟨b, 3, none⟩ u3) := by
  have h0 : C4 b u0 v1 v2 v3 (w.setCell ⟨b, 0, none⟩ u0) := heap_set (o := 0) h u0
  have h1 : C4 b u0 u1 v2 v3 ((w.setCell ⟨b, 0, none⟩ u0).setCell ⟨b, 1, none⟩ u1) := heap_set (o := 1) h0 u1
  have h2 : C4 b u0 u1 u2 v3 (((w.setCell ⟨b, 0, none⟩ u0).setCell ⟨b, 1, none⟩ u1).setCell ⟨b, 2, none⟩ u2) := heap_set (o := 2) h1 u2
  exact (show C4 b u0 u1 u2 u3 ((((w.setCell ⟨b, 0, none⟩ u0).setCell ⟨b, 1, none⟩ u1).setCell ⟨b, 2, none⟩ u2).setCell ⟨b, 3, none⟩ u3) from heap_set (o := 3) h2 u3)
theorem range (h : C4 b v0 v1 v2 v3 w) : w.rangeAt b 0 [v0, v1, v2, v3] := fun j v hj => by
  obtain ⟨e0, e1, e2, e3⟩ := h.c0
  match j, hj with
  | 0, hj => cases hj; exact e0
  | 1, hj => cases hj; exact e1
  | 2, hj => cases hj; exact e2
  | 3, hj => cases hj; exact e3
  | n + 4, hj => cases hj
end C4
theorem below_put4 {B g : Nat} {a w : World} (h : Below B a w) (hB : B ≤ g) (u0 u1 u2 u3 : Value) : Below B a ((((w.setCell ⟨g, 0, none⟩ u0).setCell ⟨g, 1, none⟩ u1).setCell ⟨g, 2, none⟩ u2).setCell ⟨g, 3, none⟩ u3) :=
  (((h.setCell (p := ⟨g, 0, none⟩) hB u0).setCell (p := ⟨g, 1, none⟩) hB u1).setCell (p := ⟨g, 2, none⟩) hB u2).setCell (p := ⟨g, 3, none⟩) hB u3
theorem results_cell_bool {fn : Func} {p u : Tmp} {ty : TypeId} (h : fn.results = #[.cell p ty, .tmp u]) (tmps : Array Value) (P : Program) (w : World) (b o : Nat) (cs : List Value) (d : TypeDesc) (x : Value) (hp : tmps.getD p undef = .pointer (some ⟨b, o, none⟩)) (hx : tmps.getD u undef = x) (hc : w.rangeAt b o cs)
    (hu : P.underlying ty = some d) (hd : d.isRow = true) (hi : (P.info? ty).map (·.size) = some cs.length) :
    (results fn tmps).run P w = .ok (.tuple #[.agg cs.toArray, x]) w := by
  have hl := run_loadVar_mid w b o ty cs d hc hu hd hi
  have hp' : tmps[p]?.getD undef = .pointer (some ⟨b, o, none⟩) := by simpa using hp
  have hx' : tmps[u]?.getD undef = x := by simpa using hx
  simp only [results, h]
  simp [Sem.run_bind, Result.andThen, hp', hx', asAddr, hl]
theorem sizeSt : (Tryz.prog.info? 46).map (·.size) = some 4 := by kernel_rfl
theorem results_st {fn : Func} {p : Tmp} (h : fn.results = #[.cell p 46]) (tmps : Array Value) (w : World) (b : Nat) (v0 v1 v2 v3 : Value) (hp : tmps.getD p undef = .pointer (some ⟨b, 0, none⟩)) (hc : C4 b v0 v1 v2 v3 w) :
    (results fn tmps).run Tryz.prog w = .ok (.agg #[v0, v1, v2, v3]) w :=
  results_cell1 h tmps Tryz.prog w b 0 [v0, v1, v2, v3] _ hp hc.range Tryz.underlying46 rfl sizeSt
theorem results_st2 {fn : Func} {p u : Tmp} (h : fn.results = #[.cell p 46, .tmp u]) (tmps : Array Value) (w : World) (b : Nat) (v0 v1 v2 v3 x : Value) (hp : tmps.getD p undef = .pointer (some ⟨b, 0, none⟩)) (hx : tmps.getD u undef = x) (hc : C4 b v0 v1 v2 v3 w) :
    (results fn tmps).run Tryz.prog w = .ok (.tuple #[.agg #[v0, v1, v2, v3], x]) w :=
  results_cell_bool h tmps Tryz.prog w b 0 [v0, v1, v2, v3] _ x hp hx hc.range Tryz.underlying46 rfl sizeSt
theorem own_mono {w : World} {B B' : Nat} {e : TypeId} {size n : Nat} {v : Value} {xs : List Value} (h : OffRow w B e size v n xs) (hB : B' ≤ B) : OffRow w B' e size v n xs := by
  obtain ⟨h1, h2 | ⟨g, off, cap, cur, h3, h4, h5⟩⟩ := h
  · exact ⟨h1, .inl h2⟩
  · exact ⟨h1, .inr ⟨g, off, cap, cur, h3, Nat.le_trans hB h4, h5⟩⟩
/-- A state whose lists are the call's own. -/
structure OwnSt (w : World) (B : Nat) (tv sv lv : Value) (s : St) : Prop where
  tabs : OwnTb w B tv s.tabs
  stos : OwnSo w B sv s.stos
  logs : OwnI w B lv s.logs
theorem OwnSt.below {w w' : World} {B : Nat} {tv sv lv : Value} {s : St} (h : OwnSt w B tv sv lv s) (k : ∀ j, j < w.heap.size → w'.heap[j]? = w.heap[j]?) : OwnSt w' B tv sv lv s :=
  ⟨OffRow.kept h.tabs fun j hj => k j (OffRow.lt h.tabs j hj).2, OffRow.kept h.stos fun j hj => k j (OffRow.lt h.stos j hj).2, OffRow.kept h.logs fun j hj => k j (OffRow.lt h.logs j hj).2⟩
theorem OwnSt.stv {w : World} {B : Nat} {tv sv lv : Value} {s : St} (h : OwnSt w B tv sv lv s) : StV (fun b => B ≤ b) w tv sv lv s := ⟨OffRow.rdL h.tabs, OffRow.rdL h.stos, OffRow.rdL h.logs⟩

set_option maxHeartbeats 4000000 in
theorem copy_of {T : Nat → Prop} {w : World} {tv sv lv : Value} {s : St} (h : Hid (StV T w tv sv lv s)) (hs : Hid (s.tabs.length + s.stos.length + s.logs.length ≤ 1000000000)) :
    Calls Tryz.prog 86 #[.agg #[tv, sv, lv, .int .i64 s.next]] w fun e w' => ∃ tv' sv' lv', e = .returned (.agg #[tv', sv', lv', .int .i64 s.next]) ∧ OwnSt w' w.heap.size tv' sv' lv' s ∧ Below w.heap.size w w' := by
  obtain ⟨xa, xc, rfl⟩ := RdL.slice h.out.tabs
  obtain ⟨ya, yc, rfl⟩ := RdL.slice h.out.stos
  obtain ⟨za, zc, rfl⟩ := RdL.slice h.out.logs
  obtain ⟨B, hB⟩ : ∃ B, B = w.heap.size := ⟨_, rfl⟩
  rw [← hB]
  have HB := Lib.hid hB
  obtain ⟨nx, hnx⟩ : ∃ n, n = s.next := ⟨_, rfl⟩
  rw [← hnx]
  obtain ⟨w1, hw1⟩ : ∃ w1, (w.alloc (.cells #[.slice xa s.tabs.length xc, .slice ya s.stos.length yc, .slice za s.logs.length zc, .int .i64 nx] 46)).alloc (.cells #[.slice none 0 0, .slice none 0 0, .slice none 0 0, .int .i64 0] 46) = w1 := ⟨_, rfl⟩
  have K1 := Lib.hid (show Below B w w1 by rw [← hw1, hB]; exact ((Below.refl _ _).alloc (Nat.le_refl _) _).alloc (by simp) _)
  have X1 := Lib.hid (show C4 B (.slice xa s.tabs.length xc) (.slice ya s.stos.length yc) (.slice za s.logs.length zc) (.int .i64 nx) w1 by rw [← hw1, hB]; exact (Below.heap_alloc _ _ _ (by simp)).trans (heap_new w _))
  have R1 := Lib.hid (show C4 (B + 1) (.slice none 0 0) (.slice none 0 0) (.slice none 0 0) (.int .i64 0) w1 by
    rw [← hw1, hB]
    have := heap_new (w.alloc (.cells #[.slice xa s.tabs.length xc, .slice ya s.stos.length yc, .slice za s.logs.length zc, .int .i64 nx] 46)) (.cells #[.slice none 0 0, .slice none 0 0, .slice none 0 0, .int .i64 0] 46)
    rw [show (w.alloc (.cells #[.slice xa s.tabs.length xc, .slice ya s.stos.length yc, .slice za s.logs.length zc, .int .i64 nx] 46)).heap.size = w.heap.size + 1 by simp] at this
    exact this)
  have S1 := Lib.hid (h.out.below (HB.out ▸ K1.out))
  have HW1 := Lib.hid hw1
  have HNX := Lib.hid hnx
  obtain ⟨a0, a1, a2, a3⟩ := X1.out.c0
  clear hw1 hB hnx
  have h1 : s.tabs.length ≤ 1000000000 ∧ s.stos.length ≤ 1000000000 ∧ s.logs.length ≤ 1000000000 := by have := hs.out; omega
  have HL := Lib.hid h1
  clear h1
  have C1 := Lib.hid (clone_T S1.out.tabs HL.out.1)
  go_enter Tryz.func86, Tryz.ntmps86
  go_upto_region 1 with (fail)
  rw [HW1.out, ← HB.out]
  have hB1 : B < w1.heap.size := heap_lt X1.out
  go_wp2_with fail
  refine C1.out.mono ?_
  rintro e w2 ⟨t', rfl, o2, k2⟩
  obtain ⟨ta, tc, rfl⟩ := OffRow.slice o2
  have X2 := Lib.hid (X1.out.below k2)
  have R2 := Lib.hid (R1.out.below k2)
  have K2 := Lib.hid (K1.out.trans (k2.mono (Nat.le_of_lt hB1)))
  have O2 := Lib.hid (show OwnTb w2 (B + 2) (.slice ta s.tabs.length tc) s.tabs from own_mono o2 (by have := heap_lt R1.out; omega))
  obtain ⟨nt, hnt⟩ : ∃ n, n = s.tabs.length := ⟨_, rfl⟩
  rw [← hnt] at O2
  rw [← hnt]
  have HNT := Lib.hid hnt
  obtain ⟨b0, b1, b2, b3⟩ := X2.out.c0
  have bf := X2.out.free 0
  obtain ⟨w3, hw3⟩ : ∃ w3, w3 = w2.setCell ⟨B, 0, none⟩ (.slice ta nt tc) := ⟨_, rfl⟩
  have X3 := Lib.hid (show C4 B (.slice ta nt tc) (.slice ya s.stos.length yc) (.slice za s.logs.length zc) (.int .i64 nx) w3 by rw [hw3]; exact heap_set (o := 0) X2.out _)
  have R3 := Lib.hid (show C4 (B + 1) (.slice none 0 0) (.slice none 0 0) (.slice none 0 0) (.int .i64 0) w3 by rw [hw3]; exact (heap_set_other (by omega) _).trans R2.out)
  have K3 := Lib.hid (show Below B w w3 by rw [hw3]; exact K2.out.setCell (p := ⟨B, 0, none⟩) (Nat.le_refl _) _)
  have O3 := Lib.hid (show OwnTb w3 (B + 2) (.slice ta nt tc) s.tabs by rw [hw3]; exact OffRow.kept O2.out fun j hj => heap_set_other (by have := (OffRow.lt O2.out j hj).1; omega) _)
  have HW3 := Lib.hid hw3
  have C3 := Lib.hid (clone_S (h.out.below (HB.out ▸ K3.out)).stos HL.out.2.1)
  obtain ⟨c0, c1, c2, c3⟩ := X3.out.c0
  have hB3 : B < w3.heap.size := heap_lt X3.out
  clear o2 k2 hnt hw3 a0 a1 a2 a3 C1
  go_upto_region 2 with (fail)
  rw [← HW3.out]
  clear b0 b1 b2 b3 bf
  go_wp2_with fail
  refine C3.out.mono ?_
  rintro e w4 ⟨t', rfl, o4, k4⟩
  obtain ⟨sa, sc, rfl⟩ := OffRow.slice o4
  have X4 := Lib.hid (X3.out.below k4)
  have R4 := Lib.hid (R3.out.below k4)
  have K4 := Lib.hid (K3.out.trans (k4.mono (Nat.le_of_lt hB3)))
  have T4 := Lib.hid (OffRow.kept O3.out (w' := w4) fun j hj => k4.block j (OffRow.lt O3.out j hj).2)
  have O4 := Lib.hid (show OwnSo w4 (B + 2) (.slice sa s.stos.length sc) s.stos from own_mono o4 (by have := heap_lt R3.out; omega))
  obtain ⟨ns, hns⟩ : ∃ n, n = s.stos.length := ⟨_, rfl⟩
  rw [← hns] at O4
  rw [← hns]
  have HNS := Lib.hid hns
  obtain ⟨d0, d1, d2, d3⟩ := X4.out.c0
  have df := X4.out.free 1
  obtain ⟨w5, hw5⟩ : ∃ w5, w5 = w4.setCell ⟨B, 1, none⟩ (.slice sa ns sc) := ⟨_, rfl⟩
  have X5 := Lib.hid (show C4 B (.slice ta nt tc) (.slice sa ns sc) (.slice za s.logs.length zc) (.int .i64 nx) w5 by rw [hw5]; exact heap_set (o := 1) X4.out _)
  have R5 := Lib.hid (show C4 (B + 1) (.slice none 0 0) (.slice none 0 0) (.slice none 0 0) (.int .i64 0) w5 by rw [hw5]; exact (heap_set_other (by omega) _).trans R4.out)
  have K5 := Lib.hid (show Below B w w5 by rw [hw5]; exact K4.out.setCell (p := ⟨B, 1, none⟩) (Nat.le_refl _) _)
  have O5 := Lib.hid (show OwnSo w5 (B + 2) (.slice sa ns sc) s.stos by rw [hw5]; exact OffRow.kept O4.out fun j hj => heap_set_other (by have := (OffRow.lt O4.out j hj).1; omega) _)
  have T5 := Lib.hid (show OwnTb w5 (B + 2) (.slice ta nt tc) s.tabs by rw [hw5]; exact OffRow.kept T4.out fun j hj => heap_set_other (by have := (OffRow.lt T4.out j hj).1; omega) _)
  have HW5 := Lib.hid hw5
  have C5 := Lib.hid (clone_I (h.out.below (HB.out ▸ K5.out)).logs HL.out.2.2)
  obtain ⟨e0, e1, e2, e3⟩ := X5.out.c0
  have hB5 : B < w5.heap.size := heap_lt X5.out
  clear o4 k4 hns hw5 c0 c1 c2 c3 C3 X3 R3 X2 R2 O2 O3
  go_upto_region 3 with (fail)
  rw [← HW5.out]
  clear d0 d1 d2 d3 df
  go_wp2_with fail
  refine C5.out.mono ?_
  rintro e w6 ⟨t', rfl, o6, k6⟩
  obtain ⟨la, lc, rfl⟩ := OffRow.slice o6
  have X6 := Lib.hid (X5.out.below k6)
  have R6 := Lib.hid (R5.out.below k6)
  have K6 := Lib.hid (K5.out.trans (k6.mono (Nat.le_of_lt hB5)))
  have T6 := Lib.hid (OffRow.kept T5.out (w' := w6) fun j hj => k6.block j (OffRow.lt T5.out j hj).2)
  have S6 := Lib.hid (OffRow.kept O5.out (w' := w6) fun j hj => k6.block j (OffRow.lt O5.out j hj).2)
  have O6 := Lib.hid (show OwnI w6 (B + 2) (.slice la s.logs.length lc) s.logs from own_mono o6 (by have := heap_lt R5.out; omega))
  obtain ⟨nl, hnl⟩ : ∃ n, n = s.logs.length := ⟨_, rfl⟩
  rw [← hnl] at O6
  rw [← hnl]
  obtain ⟨f0, f1, f2, f3⟩ := X6.out.c0
  have ff := X6.out.free 2
  obtain ⟨w7, hw7⟩ : ∃ w7, w7 = w6.setCell ⟨B, 2, none⟩ (.slice la nl lc) := ⟨_, rfl⟩
  have X7 := Lib.hid (show C4 B (.slice ta nt tc) (.slice sa ns sc) (.slice la nl lc) (.int .i64 nx) w7 by rw [hw7]; exact heap_set (o := 2) X6.out _)
  have R7 := Lib.hid (show C4 (B + 1) (.slice none 0 0) (.slice none 0 0) (.slice none 0 0) (.int .i64 0) w7 by rw [hw7]; exact (heap_set_other (by omega) _).trans R6.out)
  have K7 := Lib.hid (show Below B w w7 by rw [hw7]; exact K6.out.setCell (p := ⟨B, 2, none⟩) (Nat.le_refl _) _)
  have O7 := Lib.hid (show OwnI w7 (B + 2) (.slice la nl lc) s.logs by rw [hw7]; exact OffRow.kept O6.out fun j hj => heap_set_other (by have := (OffRow.lt O6.out j hj).1; omega) _)
  have S7 := Lib.hid (show OwnSo w7 (B + 2) (.slice sa ns sc) s.stos by rw [hw7]; exact OffRow.kept S6.out fun j hj => heap_set_other (by have := (OffRow.lt S6.out j hj).1; omega) _)
  have T7 := Lib.hid (show OwnTb w7 (B + 2) (.slice ta nt tc) s.tabs by rw [hw7]; exact OffRow.kept T6.out fun j hj => heap_set_other (by have := (OffRow.lt T6.out j hj).1; omega) _)
  have HW7 := Lib.hid hw7
  obtain ⟨g0, g1, g2, g3⟩ := X7.out.c0
  have gr := R7.out.free
  obtain ⟨r0, r1, r2, r3⟩ := R7.out.c0
  clear o6 k6 hnl hw7 e0 e1 e2 e3 C5 X5 R5 X6 R6 O5 T5 O6 S6 T6
  go_upto_region 4 with (fail)
  rw [← HW7.out]
  clear f0 f1 f2 f3 ff
  go_wp2
  have KE := Lib.hid (below_put4 K7.out (show B ≤ B + 1 by omega) (.slice ta nt tc) (.slice sa ns sc) (.slice la nl lc) (.int .i64 nx))
  have keep : ∀ {e : TypeId} {size n : Nat} {v : Value} {xs : List Value}, OffRow w7 (B + 2) e size v n xs → OffRow ((((w7.setCell ⟨B + 1, 0, none⟩ (.slice ta nt tc)).setCell ⟨B + 1, 1, none⟩ (.slice sa ns sc)).setCell ⟨B + 1, 2, none⟩ (.slice la nl lc)).setCell ⟨B + 1, 3, none⟩ (.int .i64 nx)) B e size v n xs := fun ho => own_mono (OffRow.kept ho fun j hj => by
    have := (OffRow.lt ho j hj).1
    rw [heap_set_other (by omega), heap_set_other (by omega), heap_set_other (by omega), heap_set_other (by omega)]) (by omega)
  refine bodyPost_ret (results_st rfl _ _ (B + 1) _ _ _ _ rfl (R7.out.put _ _ _ _)) rfl ?_
  exact ⟨_, _, _, rfl, ⟨keep T7.out, keep S7.out, keep O7.out⟩, KE.out⟩
end Go.Proofs.YtgljjdldhnajdaaGreat
/- Sorting what is sorted. -/
set_option linter.unusedVariables false
set_option maxRecDepth 100000
namespace Go.Proofs.YtgljjdldhnajdaaGreat
open Go.RowKit
open Go.Sort (grow SWO PermIn SortedIn HoldsK Holds putRow putRowK flatK)

set_option maxHeartbeats 1000000 in
theorem sort_T {B : Nat} {v : Value} {L : List Tb} {w : World} (h : OwnTb w B v L) (hr : L.Pairwise fun a b => decide (cfT a b < 0) = true) (hn : L.length ≤ 1000000000) :
    Calls Tryz.prog 88 #[v, .func (.func 89) #[] #[]] w fun e w' => e = .returned (.tuple #[]) ∧ Below w.heap.size w w' := by
  have eg : ∀ args w, (callFunc 89 args).run Tryz.prog w = .ok (.enter 89 args) w := enters_of Tryz.func89 (by kernel_rfl) rfl
  rcases h.2 with ⟨rfl, h0⟩ | ⟨g, off, cap, cur, rfl, hB, hg, h1, h2, h3, h4⟩
  · rw [h0] at *
    refine (AnyF.slices_SortFunc_none Tryz.sortT none 0 (.func (.func 89) #[] #[]) w).mono ?_
    rintro e w' ⟨rfl, rfl⟩
    exact ⟨rfl, Below.refl _ _⟩
  · have hH : HoldsK tcell 5 w g off L.toArray := by
      intro j hj
      have hj' : j < L.length * 5 := by simpa using hj
      refine ⟨?_, by simp [World.frozen?, hg]⟩
      have e := flatK_flat tcell_len (by omega) hj'
      have := h4 j hj'
      rw [e] at this
      simpa [World.cell?, hg] using this
    have hc := AnyQ.slices_SortFunc Tryz.sortT 5 Tryz.isAgg119 Tryz.sizeOf119 tcell tcell_len tcell_one cfT swoT 89 #[] g off cap L.toArray w eg (fun _ _ _ _ x y => table_order x y _) hH (heap_lt hg) (by simp; omega)
    rw [show L.toArray.size = L.length by simp] at hc
    refine hc.mono ?_
    rintro e w' ⟨rfl, d', n, os, hp, hs, rfl⟩
    have hsz : d'.size = L.length := by have := hp.1; simpa using this
    have hd : d'.toList = L := by
      refine sorted_same (lt := fun a b => decide (cfT a b < 0)) ?_ hr ?_ ?_
      · have := hp.2.2
        simpa [hsz, Array.extract_eq_self_of_le] using this
      · refine List.pairwise_iff_getElem.2 fun i j hi hj hij => ?_
        have := hs i j (Nat.zero_le _) hij (by have : j < d'.toList.length := hj; simpa [hsz] using this)
        have hi' : i < d'.size := by simpa using hi
        have hj' : j < d'.size := by simpa using hj
        simpa [getElem!_pos, hi', hj', ltOf] using this
      · intro a b hab
        cases hba : decide (cfT b a < 0) with
        | false => rfl
        | true =>
          have := swoT.trans a b a hab hba
          rw [swoT.irrefl] at this; cases this
    have hd2 : d' = L.toArray := by rw [← hd]
    rw [hd2, sort_world hH]
    exact ⟨rfl, below_grow (Below.refl _ w) (Nat.le_refl _) n os⟩
end Go.Proofs.YtgljjdldhnajdaaGreat
/- Sorting what is sorted. -/
set_option linter.unusedVariables false
set_option maxRecDepth 100000
namespace Go.Proofs.YtgljjdldhnajdaaGreat
open Go.RowKit
open Go.Sort (grow SWO PermIn SortedIn HoldsK Holds putRow putRowK flatK)

set_option maxHeartbeats 1000000 in
theorem sort_S {B : Nat} {v : Value} {L : List So} {w : World} (h : OwnSo w B v L) (hr : L.Pairwise fun a b => decide (cfS a b < 0) = true) (hn : L.length ≤ 1000000000) :
    Calls Tryz.prog 90 #[v, .func (.func 91) #[] #[]] w fun e w' => e = .returned (.tuple #[]) ∧ Below w.heap.size w w' := by
  have eg : ∀ args w, (callFunc 91 args).run Tryz.prog w = .ok (.enter 91 args) w := enters_of Tryz.func91 (by kernel_rfl) rfl
  rcases h.2 with ⟨rfl, h0⟩ | ⟨g, off, cap, cur, rfl, hB, hg, h1, h2, h3, h4⟩
  · rw [h0] at *
    refine (AnyF.slices_SortFunc_none Tryz.sortS none 0 (.func (.func 91) #[] #[]) w).mono ?_
    rintro e w' ⟨rfl, rfl⟩
    exact ⟨rfl, Below.refl _ _⟩
  · have hH : HoldsK socell 2 w g off L.toArray := by
      intro j hj
      have hj' : j < L.length * 2 := by simpa using hj
      refine ⟨?_, by simp [World.frozen?, hg]⟩
      have e := flatK_flat socell_len (by omega) hj'
      have := h4 j hj'
      rw [e] at this
      simpa [World.cell?, hg] using this
    have hc := AnyQ.slices_SortFunc Tryz.sortS 2 Tryz.isAgg121 Tryz.sizeOf121 socell socell_len socell_one cfS swoS 91 #[] g off cap L.toArray w eg (fun _ _ _ _ x y => store_order x y _) hH (heap_lt hg) (by simp; omega)
    rw [show L.toArray.size = L.length by simp] at hc
    refine hc.mono ?_
    rintro e w' ⟨rfl, d', n, os, hp, hs, rfl⟩
    have hsz : d'.size = L.length := by have := hp.1; simpa using this
    have hd : d'.toList = L := by
      refine sorted_same (lt := fun a b => decide (cfS a b < 0)) ?_ hr ?_ ?_
      · have := hp.2.2
        simpa [hsz, Array.extract_eq_self_of_le] using this
      · refine List.pairwise_iff_getElem.2 fun i j hi hj hij => ?_
        have := hs i j (Nat.zero_le _) hij (by have : j < d'.toList.length := hj; simpa [hsz] using this)
        have hi' : i < d'.size := by simpa using hi
        have hj' : j < d'.size := by simpa using hj
        simpa [getElem!_pos, hi', hj', ltOf] using this
      · intro a b hab
        cases hba : decide (cfS b a < 0) with
        | false => rfl
        | true =>
          have := swoS.trans a b a hab hba
          rw [swoS.irrefl] at this; cases this
    have hd2 : d' = L.toArray := by rw [← hd]
    rw [hd2, sort_world hH]
    exact ⟨rfl, below_grow (Below.refl _ w) (Nat.le_refl _) n os⟩
end Go.Proofs.YtgljjdldhnajdaaGreat
/- A draft of a state. -/
set_option linter.unusedVariables false
set_option maxRecDepth 100000
namespace Go.Proofs.YtgljjdldhnajdaaGreat
open Go.RowKit Go.Maps Go.WideShapes Go.ChangeMaps

theorem files_perm (s : St) : (filesOf s).Perm s.files := by
  unfold filesOf sortI
  refine (List.mergeSort_perm _ _).trans ?_
  unfold St.files
  rw [List.append_assoc]
  exact List.perm_append_comm
theorem sort_riseT {s : St} (h : s.Ok) : s.tabs.Pairwise fun a b => decide (cfT a b < 0) = true := h.rise.imp fun e => by rw [cfT_neg]; exact e
theorem sort_riseS {s : St} (h : s.Ok) : s.stos.Pairwise fun a b => decide (cfS a b < 0) = true := h.stos.imp fun e => by rw [cfS_neg]; simpa using e
def St.fit (s : St) : Prop := ∀ f ∈ s.files, f ≤ 9223372036854775807
theorem below_old {w w1 w2 : World} (h : Below w.heap.size w w1) (k : Below w1.heap.size w1 w2) : Below w.heap.size w w2 := h.trans (k.mono h.size)
theorem Dr0.below {B db mb : Nat} {w w' : World} {s : St} {F : List Int} {tv sv lv : Value} (h : Dr0 B w db s F tv sv lv mb) (k : Below w.heap.size w w') : Dr0 B w' db s F tv sv lv mb :=
  h.turn (h.set.kept (k.block mb (by obtain ⟨x, c, e⟩ := h.set.obj; exact heap_lt e))) fun j hj _ => k.block j hj

set_option maxHeartbeats 4000000 in
theorem draft_of {T : Nat → Prop} {w : World} {tv sv lv : Value} {s : St} (h : Hid (StV T w tv sv lv s)) (hok : Hid s.Ok) (hfit : Hid s.fit) (hs : Hid (s.tabs.length + s.stos.length + s.logs.length ≤ 1000000000)) :
    Calls Tryz.prog 49 #[.agg #[tv, sv, lv, .int .i64 s.next]] w fun e w' => ∃ db tv' sv' lv' mb, e = .returned (.pointer (some ⟨db, 0, none⟩)) ∧ Dr w.heap.size w' db s tv' sv' lv' mb ∧ Below w.heap.size w w' := by
  obtain ⟨xa, xc, rfl⟩ := RdL.slice h.out.tabs
  obtain ⟨ya, yc, rfl⟩ := RdL.slice h.out.stos
  obtain ⟨za, zc, rfl⟩ := RdL.slice h.out.logs
  obtain ⟨B, hB⟩ : ∃ B, B = w.heap.size := ⟨_, rfl⟩
  rw [← hB]
  have HB := Lib.hid hB
  obtain ⟨nx, hnx⟩ : ∃ n, n = s.next := ⟨_, rfl⟩
  obtain ⟨w1, hw1⟩ : ∃ w1, w.alloc (.cells #[.slice xa s.tabs.length xc, .slice ya s.stos.length yc, .slice za s.logs.length zc, .int .i64 s.next] 46) = w1 := ⟨_, rfl⟩
  have K1 := Lib.hid (show Below B w w1 by rw [← hw1, hB]; exact (Below.refl _ _).alloc (Nat.le_refl _) _)
  have X1 := Lib.hid (show C4 B (.slice xa s.tabs.length xc) (.slice ya s.stos.length yc) (.slice za s.logs.length zc) (.int .i64 s.next) w1 by rw [← hw1, hB]; exact heap_new w _)
  have S1 := Lib.hid (h.out.below (HB.out ▸ K1.out))
  have HW1 := Lib.hid hw1
  obtain ⟨a0, a1, a2, a3⟩ := X1.out.c0
  have hB1 : B < w1.heap.size := heap_lt X1.out
  have C1 := Lib.hid (copy_of S1 hs)
  clear hw1 hB hnx
  have hmm := @run_makeMap Tryz.prog
  go_enter Tryz.func49, Tryz.ntmps49
  go_upto_region 1 with (fail)
  rw [HW1.out, ← HB.out]
  go_wp2_with fail
  refine C1.out.mono ?_
  rintro e w2 ⟨tv', sv', lv', rfl, o2, k2⟩
  obtain ⟨ta, tc, rfl⟩ := OffRow.slice o2.tabs
  obtain ⟨sa, sc, rfl⟩ := OffRow.slice o2.stos
  obtain ⟨la, lc, rfl⟩ := OffRow.slice o2.logs
  have X2 := Lib.hid (X1.out.below k2)
  have K2 := Lib.hid (K1.out.trans (k2.mono (Nat.le_of_lt hB1)))
  have hB2 : B < w2.heap.size := heap_lt X2.out
  obtain ⟨w3, hw3⟩ : ∃ w3, w3 = (w2.alloc (.map #[] 0)).alloc (.cells #[.slice ta s.tabs.length tc, .slice sa s.stos.length sc, .slice la s.logs.length lc, .int .i64 s.next, .map (some w2.heap.size)] 105) := ⟨_, rfl⟩
  obtain ⟨mb, hmb⟩ : ∃ mb, mb = w2.heap.size := ⟨_, rfl⟩
  obtain ⟨db, hdb⟩ : ∃ db, db = w2.heap.size + 1 := ⟨_, rfl⟩
  have A3 := Lib.hid (show Below w2.heap.size w2 w3 by rw [hw3]; exact ((Below.refl _ _).alloc (Nat.le_refl _) _).alloc (by simp) _)
  have D3 := Lib.hid (show Dr0 B w3 db s [] (.slice ta s.tabs.length tc) (.slice sa s.stos.length sc) (.slice la s.logs.length lc) mb from by
    have O3 := o2.below (w' := w3) fun j hj => A3.out.block j hj
    refine ⟨?_, by omega, own_mono O3.tabs (by omega), own_mono O3.stos (by omega), own_mono O3.logs (by omega), ?_, by omega⟩
    · rw [hw3, hdb, hmb]
      have := heap_new (w2.alloc (.map #[] 0)) (.cells #[.slice ta s.tabs.length tc, .slice sa s.stos.length sc, .slice la s.logs.length lc, .int .i64 s.next, .map (some w2.heap.size)] 105)
      rw [show (w2.alloc (.map #[] 0)).heap.size = w2.heap.size + 1 by simp] at this
      exact this
    · refine SetM.kept (w := w2.alloc (.map #[] 0)) ⟨[], by rw [hmb]; exact World.ownsMap_made w2 Tryz.prog 3 unitElem, .refl _⟩ ?_
      rw [hw3]
      exact Below.heap_alloc _ _ mb (by rw [hmb]; simp))
  have K3 := Lib.hid (K2.out.trans (A3.out.mono (Nat.le_of_lt hB2)))
  have X3 := Lib.hid ((A3.out.block B hB2).trans X2.out)
  have hmd : Hid (mb < db) := Lib.hid (by omega)
  have HW3 := Lib.hid hw3
  have HDB := Lib.hid hdb
  have HMB := Lib.hid hmb
  have C3 := Lib.hid (man_Files (h.out.below (HB.out ▸ K3.out) |> Lib.hid) hs)
  obtain ⟨c0, c1, c2, c3⟩ := (show C4 B _ _ _ _ w3 from X3.out).c0
  have hB3 : B < w3.heap.size := heap_lt X3.out
  clear o2 k2 hw3 hdb hmb a0 a1 a2 a3 C1 X1 X2 S1
  go_upto_region 2 with (fail)
  rw [← HW3.out, ← HDB.out]
  clear hmm
  go_wp2_with fail
  refine C3.out.mono ?_
  rintro e w4 ⟨fv, rfl, r4, k4⟩
  obtain ⟨fa, fc, rfl⟩ := RdL.slice r4
  have D4 := Lib.hid (D3.out.below k4)
  have K4 := Lib.hid (K3.out.trans (k4.mono (Nat.le_of_lt hB3)))
  obtain ⟨n, hn⟩ : ∃ n, n = (filesOf s).length := ⟨_, rfl⟩
  rw [← hn] at r4 ⊢
  have HN := Lib.hid hn
  have R4 := Lib.hid r4
  have HX := Lib.hid (show ∀ j, w3.heap.size ≤ j → j ≠ mb from fun j hj e => by have := D3.out.set.obj; obtain ⟨x, c, hx⟩ := this; have := heap_lt hx; omega)
  have hn9 : n ≤ 1000000000 := by
    rw [hn, (files_perm s).length_eq]
    have := hs.out
    unfold St.files
    simp only [List.length_append, List.length_map]
    omega
  have hfl := Lib.hid (show ∀ i f, (filesOf s)[i]? = some f → (Lit.int .i64 f).wf = true from fun i f hf => by
    have hm : f ∈ s.files := (files_perm s).mem_iff.1 (List.mem_of_getElem? hf)
    exact wf_i64 (by have := hok.out.pos f hm; omega) (hfit.out f hm))
  clear r4 k4 hn c0 c1 c2 c3 C3
  go_wp2_with fail
  go_loopw [14] (fun iv wr => ∃ (i : Nat) (G : List Int), i ≤ n ∧ iv = .int .i64 (i : Int) ∧ Hid (G.Perm ((filesOf s).take i)) ∧ Hid (Dr0 B wr db s G (.slice ta s.tabs.length tc) (.slice sa s.stos.length sc) (.slice la s.logs.length lc) mb) ∧ Hid (Below B w wr) ∧ Hid (RdL (fun b => w3.heap.size ≤ b) wr (.slice fa n fc) n (flat icell (filesOf s)))) (fun iv wr => n - (intOf iv).toNat)
  case atStart => exact ⟨0, [], Nat.zero_le _, rfl, Lib.hid (by simp), D4, K4, R4⟩
  case round =>
    obtain ⟨i, G, hi, rfl, hG, hD, hK, hR⟩ := hrel
    by_cases hlt : i < n
    · have hlt' : (i : Int) < (n : Int) := by omega
      obtain ⟨f, hf⟩ : ∃ f, (filesOf s)[i]? = some f := ⟨_, List.getElem?_eq_getElem (by have := HN.out; omega)⟩
      obtain ⟨b, off, rfl, ht, hb2, hc⟩ := RdL.atI hR.out hf hlt
      have y0 : wr.cell? ⟨b, off + i * 1, none⟩ = _ := hc 0 _ rfl
      simp only [Nat.mul_one] at y0
      have d4 : wr.cell? ⟨db, 4, none⟩ = some (.map (some mb)) := by simp [World.cell?, hD.out.obj]
      obtain ⟨l, hl, hp⟩ := hD.out.set
      have HL := Lib.hid (And.intro hl hp)
      have HK := Lib.hid (show keyOf Tryz.prog 3 (.int .i64 f) = some (.int .i64 f) from keyOf_int_mk Tryz.underlying3 (hfl.out i f hf))
      have hGl : G.length < maxLen := by
        rw [hG.out.length_eq, List.length_take]
        unfold maxLen
        omega
      have HNO := Lib.hid (show ¬ f ∈ G from fun hm => by
        have h1 := hG.out.mem_iff.1 hm
        have hnd : (filesOf s).Nodup := (files_perm s).nodup_iff.2 hok.out.nod
        obtain ⟨j, hj, e⟩ := List.mem_iff_getElem.1 h1
        rw [List.length_take] at hj
        rw [List.getElem_take] at e
        obtain ⟨hi2, e2⟩ := List.getElem?_eq_some_iff.1 hf
        exact (List.pairwise_iff_getElem.1 hnd j i (by omega) hi2 (by omega)) (e.trans e2.symm))
      have HNX := Lib.hid (show (f :: G).Perm ((filesOf s).take (i + 1)) by
        rw [List.take_add_one, hf]
        exact ((hG.out.cons f).trans (List.perm_append_singleton f _).symm))
      clear hc hf hl hp
      go_wp2_with (at_mapUpdate; refine wpList_mapUpdate_own _ rfl _ _ _ 103 rfl 3 159 keyedI Tryz.underlying103 _ mb _ _ rfl HL.out.1 hGl _ _ _ rfl rfl HK.out _ [] unitElem_mk ?_)
      intro w6 hown hgrow
      have S6 := Lib.hid (set_put HL.out.2 HNO.out hown)
      have D6 := Lib.hid (hD.out.turn S6.out fun j hj hne => hgrow.block j hj (fun e => hne (by injection e)))
      have K6 := Lib.hid (hK.out.grown hgrow (by have := hK.out.size; have := HB.out; omega) (fun j hj => by injection hj with hj; rw [← hj]; exact hD.out.mlo))
      have R6 := Lib.hid (hR.out.only (S := fun j => j = mb) ((Only.refl (fun j => j = mb) wr).grown hgrow (fun j hj => .inl (by injection hj with hj; exact hj.symm))) (fun j _ hT e => HX.out j hT e))
      clear hown hgrow d4 y0
      go_wp2_with fail
      go_roundw
      case rel => exact ⟨i + 1, f :: G, hlt, by go_num, HNX, D6, K6, R6⟩
      case measure => simp [intOf]; omega
    · obtain rfl : i = n := by omega
      have D5 := Lib.hid (Dr.of0 hD.out (hG.out.trans (by rw [List.take_of_length_le (by have := HN.out; omega)]; exact files_perm s)))
      have d0 : wr.cell? ⟨db, 0, none⟩ = some (.slice ta s.tabs.length tc) := by simp [World.cell?, hD.out.obj]
      have CT := Lib.hid (sort_T D5.out.tabs (sort_riseT hok.out) (by have := hs.out; omega))
      have HBw := Lib.hid (show B ≤ wr.heap.size by have := hK.out.size; have := HB.out; omega)
      clear hG hD hR
      go_wp2_with fail
      refine CT.out.mono ?_
      rintro e w6 ⟨rfl, k6⟩
      have D6 := Lib.hid (D5.out.below k6)
      have K6 := Lib.hid (hK.out.trans (k6.mono HBw.out))
      have d1 : w6.cell? ⟨db, 1, none⟩ = some (.slice sa s.stos.length sc) := D6.out.cell 1
      have CS := Lib.hid (sort_S D6.out.stos (sort_riseS hok.out) (by have := hs.out; omega))
      clear k6 d0 CT
      go_wp2_with fail
      refine CS.out.mono ?_
      rintro e w7 ⟨rfl, k7⟩
      have D7 := Lib.hid (D6.out.below k7)
      have K7 := Lib.hid (K6.out.trans (k7.mono (by have := K6.out.size; have := HB.out; omega)))
      clear k7 d1 CS
      go_wp2
      go_ret
      exact ⟨db, _, _, _, mb, rfl, D7.out, K7.out⟩
end Go.Proofs.YtgljjdldhnajdaaGreat
/- Edits applied to a state. -/
set_option linter.unusedVariables false
set_option maxRecDepth 100000
namespace Go.Proofs.YtgljjdldhnajdaaGreat
open Go.RowKit Go.Maps Go.WideShapes Go.ChangeMaps
variable {B db mb : Nat} {w : World} {s : St} {tv sv lv : Value}

theorem small_one {s : St} {N : Nat} (h : s.small N) (x : Ed) : (oneS s x).small (N + 1) := by
  unfold St.small at *
  have f1 := List.length_filter_le (fun t : Tb => decide (t.file ≠ x.file)) s.tabs
  have f2 := List.length_filter_le (fun t : So => decide (t.file ≠ x.file)) s.stos
  have f3 := List.length_filter_le (fun t : Int => decide (t ≠ x.file)) s.logs
  have i1 := (insT_perm x.tab s.tabs).length_eq
  have i2 := (insS_perm x.sto s.stos).length_eq
  simp only [List.length_cons] at i1 i2
  unfold oneS
  split
  · simp only; omega
  split
  · simp only; omega
  split
  · simp only; omega
  split
  · simp only; omega
  split
  · simp only [List.length_append, List.length_cons, List.length_nil]; omega
  split
  · simp only; omega
  · simp only; omega
theorem app_small : ∀ (L : List Ed) {s : St} {N : Nat}, s.small N → (app s L).2.small (N + L.length)
  | [], s, N, h => h
  | x :: L, s, N, h => by
    by_cases h0 : oneE s x = 0
    · rw [app_cons_ok h0]
      have := app_small L (small_one h x)
      rw [List.length_cons, show N + (L.length + 1) = N + 1 + L.length by omega]
      exact this
    · rw [app_cons_no h0]; unfold St.small; simp [St.zero]
theorem fit_one {s : St} (h : s.fit) {x : Ed} (hx : x.fit) : (oneS s x).fit := by
  intro f hf
  unfold oneS at hf
  have m : ∀ {t : St}, f ∈ t.files → (∀ g ∈ t.tabs, g.file = x.file ∨ g ∈ s.tabs) → (∀ g ∈ t.stos, g.file = x.file ∨ g ∈ s.stos) → (∀ g ∈ t.logs, g = x.file ∨ g ∈ s.logs) → f ≤ 9223372036854775807 := fun {t} hm h1 h2 h3 => by
    rcases mem_files.1 hm with a | a | a
    · obtain ⟨g, hg, rfl⟩ := List.mem_map.1 a
      rcases h1 g hg with e | e
      · rw [e]; exact hx.2
      · exact h _ (mem_files.2 (.inl (List.mem_map.2 ⟨g, e, rfl⟩)))
    · obtain ⟨g, hg, rfl⟩ := List.mem_map.1 a
      rcases h2 g hg with e | e
      · rw [e]; exact hx.2
      · exact h _ (mem_files.2 (.inr (.inl (List.mem_map.2 ⟨g, e, rfl⟩))))
    · rcases h3 f a with e | e
      · rw [e]; exact hx.2
      · exact h _ (mem_files.2 (.inr (.inr e)))
  split at hf
  · exact m hf (fun g hg => by rcases mem_insT.1 hg with rfl | hg; (exact .inl rfl); (exact .inr hg)) (fun g hg => .inr hg) (fun g hg => .inr hg)
  split at hf
  · exact m hf (fun g hg => .inr (List.mem_filter.1 hg).1) (fun g hg => .inr hg) (fun g hg => .inr hg)
  split at hf
  · exact m hf (fun g hg => .inr hg) (fun g hg => by rcases mem_insS.1 hg with rfl | hg; (exact .inl rfl); (exact .inr hg)) (fun g hg => .inr hg)
  split at hf
  · exact m hf (fun g hg => .inr hg) (fun g hg => .inr (List.mem_filter.1 hg).1) (fun g hg => .inr hg)
  split at hf
  · exact m hf (fun g hg => .inr hg) (fun g hg => .inr hg) (fun g hg => by rcases List.mem_append.1 hg with e | e; (exact .inr e); (exact .inl (by simpa using e)))
  split at hf
  · exact m hf (fun g hg => .inr hg) (fun g hg => .inr hg) (fun g hg => .inr (List.mem_filter.1 hg).1)
  · exact m hf (fun g hg => .inr hg) (fun g hg => .inr hg) (fun g hg => .inr hg)
theorem app_fit : ∀ (L : List Ed) {s : St}, s.fit → (∀ x ∈ L, x.fit) → (app s L).2.fit
  | [], s, h, _ => h
  | x :: L, s, h, hL => by
    by_cases h0 : oneE s x = 0
    · rw [app_cons_ok h0]; exact app_fit L (fit_one h (hL x (List.mem_cons_self ..))) fun y hy => hL y (List.mem_cons_of_mem _ hy)
    · rw [app_cons_no h0]; intro f hf; simp [St.zero, St.files] at hf
theorem app_take {s : St} {L : List Ed} {i : Nat} {x : Ed} (hx : L[i]? = some x) (h0 : (app s (L.take i)).1 = 0) : app s L = app (app s (L.take i)).2 (x :: L.drop (i + 1)) ∧ app s (L.take (i + 1)) = app (app s (L.take i)).2 [x] := by
  have e1 : L = L.take i ++ (x :: L.drop (i + 1)) := by
    have := List.take_append_drop i L
    rw [List.drop_eq_getElem?_toList_append, hx] at this
    simpa using this.symm
  constructor
  · conv => lhs; rw [e1]
    rw [app_append _ _ _ h0]
  · rw [List.take_add_one, hx]
    exact app_append _ _ _ h0
set_option maxHeartbeats 4000000 in
theorem draft_apply {a : Option Addr} {n cap M : Nat} {L : List Ed} (h : Hid (Dr B w db s tv sv lv mb)) (hok : Hid s.Ok) (he : Hid (RdX (fun b => b < B) w (.slice a n cap) n (flat ecell L))) (hL : Hid (n = L.length)) (hf : Hid (∀ x ∈ L, x.fit)) (hs : Hid (s.small M)) (hM : M + n ≤ 1000000000) :
    Calls Tryz.prog 50 #[.pointer (some ⟨db, 0, none⟩), .slice a n cap] w (DoPost B db w (app s L).1 (app s L).2) := by
  have HB := Lib.hid (show B ≤ w.heap.size by have := h.out.lo; have := h.out.lt; omega)
  obtain ⟨z, hz⟩ : ∃ z, z = (app s L).1 := ⟨_, rfl⟩
  obtain ⟨s', hs'⟩ : ∃ s', s' = (app s L).2 := ⟨_, rfl⟩
  rw [← hz, ← hs']
  have HZ := Lib.hid (And.intro hz hs')
  clear hz hs'
  go_enter Tryz.func50, Tryz.ntmps50
  go_wp2_with fail
  go_loopw [10] (fun iv wr => ∃ (i : Nat) (si : St), i ≤ n ∧ iv = .int .i64 (i : Int) ∧ Hid (app s (L.take i) = (0, si)) ∧ Hid (∃ tv sv lv mb, Dr B wr db si tv sv lv mb) ∧ Hid (Below B w wr)) (fun iv wr => n - (intOf iv).toNat)
  case atStart => exact ⟨0, s, Nat.zero_le _, rfl, Lib.hid (by rw [List.take_zero]; rfl), Lib.hid ⟨_, _, _, _, h.out⟩, Lib.hid (Below.refl _ _)⟩
  case round =>
    obtain ⟨i, si, hi, rfl, hA, hD, hK⟩ := hrel
    by_cases hlt : i < n
    · have hlt' : (i : Int) < (n : Int) := by omega
      obtain ⟨x, hx⟩ : ∃ x, L[i]? = some x := ⟨_, List.getElem?_eq_getElem (by have := hL.out; omega)⟩
      obtain ⟨b, off, rfl, ht, hb2, hc⟩ := RdX.atE he.out hx hlt
      have hcr : ∀ i' u, (ecell x)[i']? = some u → wr.cell? ⟨b, off + i * 6 + i', none⟩ = some u := fun i' u hu => by
        rw [← hc i' u hu]
        simp only [World.cell?, hK.out.block b ht]
      have y0 : wr.cell? ⟨b, off + i * 6, none⟩ = _ := hcr 0 _ rfl
      have y1 := hcr 1 _ rfl
      have y2 := hcr 2 _ rfl
      have y3 := hcr 3 _ rfl
      have y4 := hcr 4 _ rfl
      have y5 := hcr 5 _ rfl
      obtain ⟨tv1, sv1, lv1, mb1, hD1⟩ := hD.out
      obtain ⟨w1, hw1⟩ : ∃ w1, w1 = wr.alloc (.cells #[.int .i64 x.kind, .int .i64 x.file, .int .i64 x.lev, .int .i64 x.cnt, .string (bs x.low), .string (bs x.high)] 31) := ⟨_, rfl⟩
      have A1 := Lib.hid (show Below wr.heap.size wr w1 by rw [hw1]; exact (Below.refl _ _).alloc (Nat.le_refl _) _)
      have D1 := Lib.hid (hD1.below A1.out)
      have HBr := Lib.hid (show B ≤ wr.heap.size by have := hK.out.size; have := HB.out; omega)
      have hsi : si = (app s (L.take i)).2 := by rw [hA.out]
      have OKi := Lib.hid (show si.Ok by rw [hsi]; exact app_ok _ hok.out)
      have SMi := Lib.hid (show si.small 1000000000 by
        rw [hsi]
        have := app_small (L.take i) hs.out
        unfold St.small at this ⊢
        rw [List.length_take] at this
        omega)
      have HP := Lib.hid (draft_do D1 OKi x (hf.out x (List.mem_of_getElem? hx)) SMi)
      have HT := Lib.hid (app_take (s := s) hx (by rw [hA.out]))
      rw [hA.out] at HT
      obtain ⟨q, hq⟩ : ∃ q, q = oneE si x := ⟨_, rfl⟩
      rw [← hq] at HP
      have HQ := Lib.hid hq
      have HW1 := Lib.hid hw1
      rw [hw1] at HP
      clear hcr hc hx hsi hD1 hq hw1
      go_wp2_with fail
      refine HP.out.mono ?_
      rintro e w2 ⟨rfl, k2, hp2⟩
      have K2 := Lib.hid (show Below B w w2 from by
        rw [← HW1.out] at k2
        exact (hK.out.trans (A1.out.mono HBr.out)).trans k2)
      have HP2 := Lib.hid hp2
      clear k2 hp2
      by_cases hq0 : q = 0
      · subst hq0
        have HN := Lib.hid (show app s (L.take (i + 1)) = (0, oneS si x) by rw [HT.out.2, app_cons_ok HQ.out.symm]; rfl)
        go_wp2_with fail
        go_roundw
        case rel => exact ⟨i + 1, oneS si x, hlt, by go_num, HN, Lib.hid (HP2.out (by first | trivial | rfl)), K2⟩
        case measure => simp [intOf]; omega
      · have HN := Lib.hid (show z = q by rw [HZ.out.1, HT.out.1, app_cons_no (by rw [← HQ.out]; exact hq0), HQ.out])
        go_wp2
        go_ret
        rw [HN.out]
        exact do_bad K2.out hq0
    · obtain rfl : i = n := by omega
      have HN := Lib.hid (show z = 0 ∧ s' = si by
        have := hA.out
        rw [List.take_of_length_le (by have := hL.out; omega)] at this
        rw [HZ.out.1, HZ.out.2, this]
        exact ⟨rfl, rfl⟩)
      go_wp2
      go_ret
      rw [HN.out.1, HN.out.2]
      exact ⟨rfl, hK.out, fun _ => hD.out⟩
theorem zero_own (w : World) (B : Nat) : OwnSt w B (.slice none 0 0) (.slice none 0 0) (.slice none 0 0) St.zero := ⟨OffRow.nil _ _ _ _, OffRow.nil _ _ _ _, OffRow.nil _ _ _ _⟩
/-- What Apply answers. -/
def ApplyPost (B : Nat) (s : St) (L : List Ed) (e : Ending) (w' : World) : Prop :=
  ∃ tv sv lv, e = .returned (.tuple #[.agg #[tv, sv, lv, .int .i64 (app s L).2.next], .int .i64 (app s L).1]) ∧ OwnSt w' B tv sv lv (app s L).2
set_option maxHeartbeats 4000000 in
theorem man_Apply {T : Nat → Prop} {a : Option Addr} {n cap M : Nat} {L : List Ed} (h : Hid (StV T w tv sv lv s)) (hok : Hid s.Ok) (hfit : Hid s.fit) (he : Hid (RdX (fun b => b < w.heap.size) w (.slice a n cap) n (flat ecell L))) (hL : Hid (n = L.length)) (hf : Hid (∀ x ∈ L, x.fit)) (hs : Hid (s.small M)) (hM : M + n ≤ 1000000000) :
    Calls Tryz.prog 31 #[.agg #[tv, sv, lv, .int .i64 s.next], .slice a n cap] w fun e w' => ApplyPost w.heap.size s L e w' ∧ Below w.heap.size w w' := by
  obtain ⟨xa, xc, rfl⟩ := RdL.slice h.out.tabs
  obtain ⟨ya, yc, rfl⟩ := RdL.slice h.out.stos
  obtain ⟨za, zc, rfl⟩ := RdL.slice h.out.logs
  obtain ⟨B, hB⟩ : ∃ B, B = w.heap.size := ⟨_, rfl⟩
  have he' := he
  rw [← hB] at he' ⊢
  have HE := Lib.hid he'.out
  have HB := Lib.hid hB
  obtain ⟨w1, hw1⟩ : ∃ w1, (w.alloc (.cells #[.slice xa s.tabs.length xc, .slice ya s.stos.length yc, .slice za s.logs.length zc, .int .i64 s.next] 46)).alloc (.cells #[.slice none 0 0, .slice none 0 0, .slice none 0 0, .int .i64 0] 46) = w1 := ⟨_, rfl⟩
  have K1 := Lib.hid (show Below B w w1 by rw [← hw1, hB]; exact ((Below.refl _ _).alloc (Nat.le_refl _) _).alloc (by simp) _)
  have X1 := Lib.hid (show C4 B (.slice xa s.tabs.length xc) (.slice ya s.stos.length yc) (.slice za s.logs.length zc) (.int .i64 s.next) w1 by rw [← hw1, hB]; exact (Below.heap_alloc _ _ _ (by simp)).trans (heap_new w _))
  have R1 := Lib.hid (show C4 (B + 1) (.slice none 0 0) (.slice none 0 0) (.slice none 0 0) (.int .i64 0) w1 by
    rw [← hw1, hB]
    have := heap_new (w.alloc (.cells #[.slice xa s.tabs.length xc, .slice ya s.stos.length yc, .slice za s.logs.length zc, .int .i64 s.next] 46)) (.cells #[.slice none 0 0, .slice none 0 0, .slice none 0 0, .int .i64 0] 46)
    rw [show (w.alloc (.cells #[.slice xa s.tabs.length xc, .slice ya s.stos.length yc, .slice za s.logs.length zc, .int .i64 s.next] 46)).heap.size = w.heap.size + 1 by simp] at this
    exact this)
  have S1 := Lib.hid (h.out.below (HB.out ▸ K1.out))
  have HW1 := Lib.hid hw1
  obtain ⟨a0, a1, a2, a3⟩ := X1.out.c0
  have hR1 : B + 1 < w1.heap.size := heap_lt R1.out
  have hsm : s.tabs.length + s.stos.length + s.logs.length ≤ 1000000000 := by have := hs.out; unfold St.small at this; omega
  have C1 := Lib.hid (draft_of S1 hok hfit (Lib.hid hsm))
  have HPO := Lib.hid (fun (e : Ending) (w' : World) (h : ApplyPost B s L e w') => h)
  obtain ⟨z, hz⟩ : ∃ z, z = (app s L).1 := ⟨_, rfl⟩
  obtain ⟨s', hs'⟩ : ∃ s', s' = (app s L).2 := ⟨_, rfl⟩
  have HZ := Lib.hid (And.intro hz hs')
  unfold ApplyPost
  rw [← hz, ← hs']
  obtain ⟨nx, hnx⟩ : ∃ n, n = s'.next := ⟨_, rfl⟩
  rw [← hnx]
  have HNX := Lib.hid hnx
  clear hw1 hB hsm hz hs' he' HPO hnx
  go_enter Tryz.func31, Tryz.ntmps31
  go_upto_region 1 with (fail)
  rw [HW1.out, ← HB.out]
  go_wp2_with fail
  refine C1.out.mono ?_
  rintro e w2 ⟨db, tv', sv', lv', mb, rfl, d2, k2⟩
  have D2 := Lib.hid d2
  have K2 := Lib.hid (K1.out.trans (k2.mono (by omega)))
  have R2 := Lib.hid (R1.out.below k2)
  have HE2 := Lib.hid (show RdX (fun b => b < w1.heap.size) w2 (.slice a n cap) n (flat ecell L) from (HE.out.below (HB.out ▸ K2.out)).mono (fun b _ hb => by omega))
  have CA := Lib.hid (draft_apply D2 hok HE2 hL hf hs hM)
  rw [← HZ.out.1, ← HZ.out.2] at CA
  clear d2 k2 a0 a1 a2 a3 C1
  go_wp2_with fail
  refine CA.out.mono ?_
  rintro e w3 ⟨rfl, k3, hd3⟩
  have K3 := Lib.hid (K2.out.trans (k3.mono (by omega)))
  have R3 := Lib.hid (show C4 (B + 1) (.slice none 0 0) (.slice none 0 0) (.slice none 0 0) (.int .i64 0) w3 from (k3.block (B + 1) hR1).trans R2.out)
  have gr := R3.out.free
  obtain ⟨r0, r1, r2, r3⟩ := R3.out.c0
  by_cases hz0 : z = 0
  · obtain ⟨tv3, sv3, lv3, mb3, hd⟩ := hd3 hz0
    obtain ⟨ta, tc, rfl⟩ := OffRow.slice hd.tabs
    obtain ⟨sa, sc, rfl⟩ := OffRow.slice hd.stos
    obtain ⟨la, lc, rfl⟩ := OffRow.slice hd.logs
    obtain ⟨nt, hnt⟩ : ∃ n, n = s'.tabs.length := ⟨_, rfl⟩
    obtain ⟨ns, hns⟩ : ∃ n, n = s'.stos.length := ⟨_, rfl⟩
    obtain ⟨nl, hnl⟩ : ∃ n, n = s'.logs.length := ⟨_, rfl⟩
    rw [← hnt, ← hns, ← hnl] at hd
    have HD := Lib.hid hd
    have d0 : w3.cell? ⟨db, 0, none⟩ = some (.slice ta nt tc) := hd.cell 0
    have d1 : w3.cell? ⟨db, 1, none⟩ = some (.slice sa ns sc) := hd.cell 1
    have d2 : w3.cell? ⟨db, 2, none⟩ = some (.slice la nl lc) := hd.cell 2
    have d3 : w3.cell? ⟨db, 3, none⟩ = some (.int .i64 nx) := by rw [HNX.out]; exact hd.cell 3
    have HN := Lib.hid (And.intro hnt (And.intro hns hnl))
    clear hd hd3 hnt hns hnl k3 CA
    subst hz0
    go_wp2
    have KE := Lib.hid (below_put4 K3.out (show B ≤ B + 1 by omega) (.slice ta nt tc) (.slice sa ns sc) (.slice la nl lc) (.int .i64 nx))
    have keep : ∀ {e : TypeId} {size n : Nat} {v : Value} {xs : List Value}, OffRow w3 w1.heap.size e size v n xs → OffRow ((((w3.setCell ⟨B + 1, 0, none⟩ (.slice ta nt tc)).setCell ⟨B + 1, 1, none⟩ (.slice sa ns sc)).setCell ⟨B + 1, 2, none⟩ (.slice la nl lc)).setCell ⟨B + 1, 3, none⟩ (.int .i64 nx)) B e size v n xs := fun ho => own_mono (OffRow.kept ho fun j hj => by
      have := (OffRow.lt ho j hj).1
      rw [heap_set_other (by omega), heap_set_other (by omega), heap_set_other (by omega), heap_set_other (by omega)]) (by omega)
    refine bodyPost_ret (results_st2 rfl _ _ (B + 1) _ _ _ _ _ rfl rfl (R3.out.put _ _ _ _)) rfl ?_
    exact ⟨⟨_, _, _, rfl, ⟨keep HD.out.tabs, keep HD.out.stos, keep HD.out.logs⟩⟩, KE.out⟩
  · have HS := Lib.hid (show s' = St.zero by rw [HZ.out.2]; exact app_zero _ _ (by rw [← HZ.out.1]; exact hz0))
    clear hd3 k3 CA
    go_wp2
    have KE := Lib.hid (below_put4 K3.out (show B ≤ B + 1 by omega) (.slice none 0 0) (.slice none 0 0) (.slice none 0 0) (.int .i64 0))
    refine bodyPost_ret (results_st2 rfl _ _ (B + 1) _ _ _ _ _ rfl rfl (R3.out.put _ _ _ _)) rfl ?_
    have hn0 : nx = 0 := by rw [HNX.out, HS.out]; rfl
    rw [HS.out, hn0]
    exact ⟨⟨_, _, _, rfl, zero_own _ _⟩, KE.out⟩
end Go.Proofs.YtgljjdldhnajdaaGreat
