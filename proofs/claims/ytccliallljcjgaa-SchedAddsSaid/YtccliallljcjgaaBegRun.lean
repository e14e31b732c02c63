/- The program's world is begun: the whole. -/
import Derived.Test.YtccliallljcjgaaBegTasks
set_option linter.unusedVariables false
namespace Go.Proofs.Ytccliallljcjgaa
open Go.RowKit

theorem nodup_inj {l : List Nat} (h : l.Nodup) {i j : Nat} (hi : i < l.length) (hj : j < l.length) (e : l[i] = l[j]) : i = j := by
  rcases Nat.lt_trichotomy i j with x | x | x
  · exact absurd e (List.pairwise_iff_getElem.1 h i j hi hj x)
  · exact x
  · exact absurd e.symm (List.pairwise_iff_getElem.1 h j i hj hi x)
/-- The rows of cells and mutexes, laid open. -/
theorem Beg.open {B : Nat} {w : World} {W : Nat} {v1 v2 : Value} {cs ms : List Nat} (h : Beg B w W v1 v2 cs ms) (h1 : cs.length = 4) (h2 : ms.length = 4) : ∃ CR cc MR mc, v1 = .slice (some ⟨CR, 0, none⟩) 4 cc ∧ v2 = .slice (some ⟨MR, 0, none⟩) 4 mc ∧
    ∀ (w1 : World) (s t : Nat), Below w.heap.size w w1 → Beg3 B (w1.setCell ⟨W, 3, none⟩ (.pointer (some ⟨s, 0, none⟩))) ⟨W, CR, cc, MR, mc, 0, 0, s, fun i => cs.getD i 0, fun i => ms.getD i 0, t, fun _ => False, fun q => Value.ownBlock (.slice none 0 0) = some q⟩ (.slice none 0 0) 0 ∧
      w1.cell? ⟨W, 3, none⟩ = some (.pointer none) ∧ w1.frozen? ⟨W, 3, none⟩ = false ∧ (∀ i, i < 4 → B ≤ cs.getD i 0 ∧ B ≤ ms.getD i 0) ∧ (∀ (q : Nat) (cb : Array Value) (tb : TypeId), w1.heap[q]? = some (.cells cb tb (0, 0)) → tb ≠ 38 → (w1.setCell ⟨W, 3, none⟩ (.pointer (some ⟨s, 0, none⟩))).heap[q]? = w1.heap[q]?) := by
  obtain ⟨CR, cc, c1, e1, _, g1, r1⟩ := h.o1.form (by omega)
  obtain ⟨MR, mc, c2, e2, _, g2, r2⟩ := h.o2.form (by omega)
  rw [h1] at e1
  rw [h2] at e2
  refine ⟨CR, cc, MR, mc, e1, e2, fun w1 s t hb => ?_⟩
  have hW := (hb.block _ (heap_lt h.obj)).trans h.obj
  have set : ∀ (q : Nat) (cb : Array Value) (tb : TypeId), w1.heap[q]? = some (.cells cb tb (0, 0)) → tb ≠ 38 → (w1.setCell ⟨W, 3, none⟩ (.pointer (some ⟨s, 0, none⟩))).heap[q]? = w1.heap[q]? := fun q cb tb hq ht => heap_set_other (tag_ne hq hW ht) _
  have both : ∀ (q : Nat) (cb : Array Value) (tb : TypeId), w.heap[q]? = some (.cells cb tb (0, 0)) → tb ≠ 38 → (w1.setCell ⟨W, 3, none⟩ (.pointer (some ⟨s, 0, none⟩))).heap[q]? = some (.cells cb tb (0, 0)) := fun q cb tb hq ht => by
    have := (hb.block q (heap_lt hq)).trans hq
    exact (set q cb tb this ht).trans this
  have gc : ∀ i (hi : i < cs.length), cs.getD i 0 = cs[i] := fun i hi => by rw [List.getD_eq_getElem?_getD, List.getElem?_eq_getElem hi]; rfl
  have gm : ∀ i (hi : i < ms.length), ms.getD i 0 = ms[i] := fun i hi => by rw [List.getD_eq_getElem?_getD, List.getElem?_eq_getElem hi]; rfl
  refine ⟨⟨?_, ⟨c1, both _ _ _ g1 (by decide), fun i hi => ?_⟩, ⟨c2, both _ _ _ g2 (by decide), fun i hi => ?_⟩, fun i hi => ?_, fun i hi => ?_, fun i j hi hj e => ?_, fun i j hi hj e => ?_, World.ownsRow_nil _ _ _ _⟩, by simp [World.cell?, hW], by simp [World.frozen?, hW], fun i hi => ?_, set⟩
  · rw [heap_set hW, e1, e2]; rfl
  · rw [r1 i (by omega)]; simp only; rw [gc i (by omega)]; rfl
  · rw [r2 i (by omega)]; simp only; rw [gm i (by omega)]; rfl
  · exact both _ _ _ (by simp only; rw [gc i (by omega)]; exact (h.c _ (List.getElem_mem _)).2) (by decide)
  · exact both _ _ _ (by simp only; rw [gm i (by omega)]; exact (h.m _ (List.getElem_mem _)).2) (by decide)
  · simp only at e
    rw [gc i (by omega), gc j (by omega)] at e
    exact nodup_inj h.nc _ _ e
  · simp only at e
    rw [gm i (by omega), gm j (by omega)] at e
    exact nodup_inj h.nm _ _ e
  · rw [gc i (by omega), gm i (by omega)]
    exact ⟨(h.c _ (List.getElem_mem _)).1, (h.m _ (List.getElem_mem _)).1⟩

set_option maxHeartbeats 4000000 in
set_option maxRecDepth 100000 in
theorem begin_nil (a : Option Addr) (cap : Nat) (w : World) : Calls Try.prog 9 #[.slice a 0 cap] w fun e w' => ∃ p, e = .returned (.tuple #[.pointer p, .bool true]) ∧ Below w.heap.size w w' := by
  obtain ⟨i0, hi, hz0, hz1, hz2⟩ := info_parts info54
  obtain ⟨j0, hj, hy0, hy1, hy2⟩ := info_parts info56
  have H0 := Lib.hid (show Beg w.heap.size (w.alloc (.cells #[.slice none 0 0, .slice none 0 0, .slice none 0 0, .pointer none] 38)) w.heap.size (.slice none 0 0) (.slice none 0 0) [] [] from
    ⟨heap_new w _, World.ownsRow_nil _ _ _ _, World.ownsRow_nil _ _ _ _, by simp, by simp, List.nodup_nil, List.nodup_nil, Nat.le_refl _⟩)
  have HB := Lib.hid ((Below.refl w.heap.size w).alloc (Nat.le_refl _) (.cells #[.slice none 0 0, .slice none 0 0, .slice none 0 0, .pointer none] 38))
  go_enter Try.func9, Try.ntmps9
  go_wp2_with fail
  go_loopw [5] (fun is wx => ∃ (k : Nat) (v1 v2 : Value) (cs ms : List Nat), k ≤ 4 ∧ is = .int .i64 (k : Int) ∧ Beg w.heap.size wx w.heap.size v1 v2 cs ms ∧ cs.length = k ∧ ms.length = k ∧ Below w.heap.size w wx) (fun is wx => 4 - (intOf is).toNat)
  case atStart => exact ⟨0, _, _, [], [], by omega, rfl, H0.out, rfl, rfl, HB.out⟩
  case round =>
    obtain ⟨k, v1, v2, cs, ms, hk, rfl, hb, hl1, hl2, hbel⟩ := hrel
    by_cases hlt : k < 4
    · have c0 : wr.cell? ⟨w.heap.size, 0, none⟩ = some v1 := hb.cellW 0
      have ho := hb.o1
      have HBg := Lib.hid hb
      have HBl := Lib.hid hbel
      have HL1 := Lib.hid hl1
      have HL2 := Lib.hid hl2
      have hlt' : (k : Int) < 4 := by omega
      have HCN := Lib.hid (cell_one_new (wr.alloc (.cells #[.int .i64 0, .int .i64 0] 86)) (ptrB wr.heap.size) 54)
      rw [show (wr.alloc (.cells #[.int .i64 0, .int .i64 0] 86)).heap.size = wr.heap.size + 1 by simp] at HCN
      have c0a := (((Below.refl _ wr).alloc (Nat.le_refl _) (.cells #[.int .i64 0, .int .i64 0] 86)).cell (p := ⟨w.heap.size, 0, none⟩) (heap_lt hb.obj)).trans c0
      have c0b := ((((Below.refl _ wr).alloc (Nat.le_refl _) (.cells #[.int .i64 0, .int .i64 0] 86)).alloc (by simp) (.cells #[.pointer (some ⟨wr.heap.size, 0, none⟩)] 54)).cell (p := ⟨w.heap.size, 0, none⟩) (heap_lt hb.obj)).trans c0
      unfold OwnP at ho
      clear hb hbel hl1 hl2 hk
      obtain ⟨wo, hwo⟩ : ∃ wo, wo = wr := ⟨_, rfl⟩
      subst hwo
      go_upto_region 5 with fail
      go_cut [] from 12 to 35 (fun wx => Hid (∃ v3, Beg w.heap.size wx w.heap.size v3 v2 (cs ++ [wo.heap.size]) ms ∧ Below w.heap.size w wx))
      case first =>
        go_region_law (first | (refine step_call rfl 22 _ _ rfl (enters_of Try.func22 (by kernel_rfl) rfl) #[.int .i64 0] (by simp [Act.eval]) _ _ (cell_New 0 _) ?_) | (refine step_append_own rfl (.tmp 20) (.tmp 22) 34 rfl w.heap.size 54 i0 (.pointer none) 1 8 Try.underlying34 hi hz0 hz1 hz2 rfl (by decide) v1 cs.length (cs.map ptrB) (by simp [Act.eval, Act.put]) ((ho.alloc _).alloc _) ⟨wo.heap.size + 1, 0, none⟩ 1 1 [ptrB wo.heap.size] (by simp [Act.eval, Act.put]) rfl (fun j u hj => HCN.out j u hj) (by simp [Value.oneCell', ptrB]) (by unfold maxLen; have := HL1.out; omega) (by have := HL1.out; omega) (by have := HBl.out.size; simp; omega) ?_; intro v3 w3 hown3 hg3; obtain ⟨g3, cap3, rfl, q1, q2, hb3, hbel3⟩ := HBg.out.addC HBl.out.size HBl.out hown3 hg3; clear hown3 hg3))
        all_goals
          have HE1 := Lib.hid hb3
          have HE2 := Lib.hid hbel3
          clear hb3 hbel3
          go_wp2_with fail
          go_meet
          exact Lib.hid ⟨_, HE1.out, HE2.out⟩
      case rest =>
      obtain ⟨v3, hb3, hbel3⟩ := hcut.out
      clear hcut c0 c0a c0b ho HBg HBl HCN
      obtain ⟨w1, hw1⟩ : ∃ w1, w1 = wc := ⟨_, rfl⟩
      subst hw1
      have c0 : w1.cell? ⟨w.heap.size, 1, none⟩ = some v2 := hb3.cellW 1
      have ho := hb3.o2
      have HBg := Lib.hid hb3
      have HBl := Lib.hid hbel3
      have HCN := Lib.hid (cell_one_new (w1.alloc (.cells #[.int .i64 (-1)] 83)) (ptrB w1.heap.size) 56)
      rw [show (w1.alloc (.cells #[.int .i64 (-1)] 83)).heap.size = w1.heap.size + 1 by simp] at HCN
      have c0a := (((Below.refl _ w1).alloc (Nat.le_refl _) (.cells #[.int .i64 (-1)] 83)).cell (p := ⟨w.heap.size, 1, none⟩) (heap_lt hb3.obj)).trans c0
      have c0b := ((((Below.refl _ w1).alloc (Nat.le_refl _) (.cells #[.int .i64 (-1)] 83)).alloc (by simp) (.cells #[.pointer (some ⟨w1.heap.size, 0, none⟩)] 56)).cell (p := ⟨w.heap.size, 1, none⟩) (heap_lt hb3.obj)).trans c0
      unfold OwnP at ho
      clear hb3 hbel3
      go_upto_region 6 with fail
      go_region_law (first | (refine step_call rfl 23 _ _ rfl (enters_of Try.func23 (by kernel_rfl) rfl) #[] (by simp [Act.eval]) _ _ (mutex_New _) ?_) | (refine step_append_own rfl (.tmp 30) (.tmp 32) 35 rfl w.heap.size 56 j0 (.pointer none) 1 8 Try.underlying35 hj hy0 hy1 hy2 rfl (by decide) v2 ms.length (ms.map ptrB) (by simp [Act.eval, Act.put]) ((ho.alloc _).alloc _) ⟨w1.heap.size + 1, 0, none⟩ 1 1 [ptrB w1.heap.size] (by simp [Act.eval, Act.put]) rfl (fun j u hj => HCN.out j u hj) (by simp [Value.oneCell', ptrB]) (by unfold maxLen; have := HL2.out; omega) (by have := HL2.out; omega) (by have := HBl.out.size; simp; omega) ?_; intro v4 w3 hown3 hg3; obtain ⟨g3, cap3, rfl, q1, q2, hb3, hbel3⟩ := HBg.out.addM HBl.out.size HBl.out hown3 hg3; clear hown3 hg3))
      all_goals
        have HE1 := Lib.hid hb3
        have HE2 := Lib.hid hbel3
        clear hb3 hbel3 c0 c0a c0b ho HBg HBl HCN
        go_wp2_with fail
        go_roundw
        case rel => exact ⟨k + 1, v3, _, _, _, by omega, by go_num, HE1.out, by rw [List.length_append, HL1.out]; rfl, by rw [List.length_append, HL2.out]; rfl, HE2.out⟩
        case measure => simp [intOf]; omega
    · have hne := sched_New_not 0 (.inl (by omega)) wr
      have w3 : wr.cell? ⟨w.heap.size, 3, none⟩ = some (.pointer none) := hb.cellW 3
      have f3 := hb.freeW 3
      have HE := Lib.hid (hbel.setCell (p := ⟨w.heap.size, 3, none⟩) (Nat.le_refl _) (.pointer none))
      clear hb hbel hl1 hl2
      go_wp2_with (go_at_call 21; refine hne.mono ?_; rintro e w' ⟨rfl, rfl⟩)
      go_ret2
      exact ⟨_, rfl, HE.out⟩
set_option maxHeartbeats 4000000 in
set_option maxRecDepth 100000 in
set_option maxHeartbeats 400000 in
set_option maxRecDepth 100000 in
set_option maxHeartbeats 400000 in
set_option maxRecDepth 100000 in
set_option maxHeartbeats 400000 in
set_option maxRecDepth 100000 in
set_option maxHeartbeats 400000 in
set_option maxRecDepth 100000 in
set_option maxHeartbeats 400000 in
set_option maxRecDepth 100000 in
set_option maxHeartbeats 400000 in
set_option maxRecDepth 100000 in
set_option maxHeartbeats 400000 in
set_option maxRecDepth 100000 in
/-- The world is begun. -/
theorem law_begin {w : World} {a : Option Addr} {n cap : Nat} {L : List TK} (h : Progs w w.heap.size a n L) (h1 : 1 ≤ n) : Calls Try.prog 9 #[.slice a n cap] w fun e w' => ∃ W g vk ts, e = .returned (.tuple #[.pointer (some ⟨W, 0, none⟩), .bool true]) ∧ Lp w.heap.size w W g.s L n w' g vk ts := by
  have h8 := h.few
  have hN := h.len
  obtain ⟨b, off, hab, hbB, hrow⟩ := h.row
  have hae : a = some ⟨b, off, none⟩ := hab.resolve_left (by omega)
  have HP := Lib.hid h
  have HROW := Lib.hid hrow
  have HAE := Lib.hid hae
  obtain ⟨k0, hk0, hx0, hx1, hx2⟩ := info_parts info3
  have hn1 : ¬ ((n : Int) = 0) := by omega
  have hnb : ((n : Int) == 0) = false := by simp; omega
  have HN := Lib.hid hN
  clear h hab hrow hN
  subst hae
  obtain ⟨i0, hi, hz0, hz1, hz2⟩ := info_parts info54
  obtain ⟨j0, hj, hy0, hy1, hy2⟩ := info_parts info56
  have H0 := Lib.hid (show Beg w.heap.size (w.alloc (.cells #[.slice none 0 0, .slice none 0 0, .slice none 0 0, .pointer none] 38)) w.heap.size (.slice none 0 0) (.slice none 0 0) [] [] from
    ⟨heap_new w _, World.ownsRow_nil _ _ _ _, World.ownsRow_nil _ _ _ _, by simp, by simp, List.nodup_nil, List.nodup_nil, Nat.le_refl _⟩)
  have HB := Lib.hid ((Below.refl w.heap.size w).alloc (Nat.le_refl _) (.cells #[.slice none 0 0, .slice none 0 0, .slice none 0 0, .pointer none] 38))
  go_enter Try.func9, Try.ntmps9
  go_wp2_with fail
  go_loopw [5] (fun is wx => ∃ (k : Nat) (v1 v2 : Value) (cs ms : List Nat), k ≤ 4 ∧ is = .int .i64 (k : Int) ∧ Beg w.heap.size wx w.heap.size v1 v2 cs ms ∧ cs.length = k ∧ ms.length = k ∧ Below w.heap.size w wx) (fun is wx => 4 - (intOf is).toNat)
  case atStart => exact ⟨0, _, _, [], [], by omega, rfl, H0.out, rfl, rfl, HB.out⟩
  case round =>
    obtain ⟨k, v1, v2, cs, ms, hk, rfl, hb, hl1, hl2, hbel⟩ := hrel
    by_cases hlt : k < 4
    · have c0 : wr.cell? ⟨w.heap.size, 0, none⟩ = some v1 := hb.cellW 0
      have ho := hb.o1
      have HBg := Lib.hid hb
      have HBl := Lib.hid hbel
      have HL1 := Lib.hid hl1
      have HL2 := Lib.hid hl2
      have hlt' : (k : Int) < 4 := by omega
      have HCN := Lib.hid (cell_one_new (wr.alloc (.cells #[.int .i64 0, .int .i64 0] 86)) (ptrB wr.heap.size) 54)
      rw [show (wr.alloc (.cells #[.int .i64 0, .int .i64 0] 86)).heap.size = wr.heap.size + 1 by simp] at HCN
      have c0a := (((Below.refl _ wr).alloc (Nat.le_refl _) (.cells #[.int .i64 0, .int .i64 0] 86)).cell (p := ⟨w.heap.size, 0, none⟩) (heap_lt hb.obj)).trans c0
      have c0b := ((((Below.refl _ wr).alloc (Nat.le_refl _) (.cells #[.int .i64 0, .int .i64 0] 86)).alloc (by simp) (.cells #[.pointer (some ⟨wr.heap.size, 0, none⟩)] 54)).cell (p := ⟨w.heap.size, 0, none⟩) (heap_lt hb.obj)).trans c0
      unfold OwnP at ho
      clear hb hbel hl1 hl2 hk
      obtain ⟨wo, hwo⟩ : ∃ wo, wo = wr := ⟨_, rfl⟩
      subst hwo
      go_upto_region 5 with fail
      go_cut [] from 12 to 35 (fun wx => Hid (∃ v3, Beg w.heap.size wx w.heap.size v3 v2 (cs ++ [wo.heap.size]) ms ∧ Below w.heap.size w wx))
      case first =>
        go_region_law (first | (refine step_call rfl 22 _ _ rfl (enters_of Try.func22 (by kernel_rfl) rfl) #[.int .i64 0] (by simp [Act.eval]) _ _ (cell_New 0 _) ?_) | (refine step_append_own rfl (.tmp 20) (.tmp 22) 34 rfl w.heap.size 54 i0 (.pointer none) 1 8 Try.underlying34 hi hz0 hz1 hz2 rfl (by decide) v1 cs.length (cs.map ptrB) (by simp [Act.eval, Act.put]) ((ho.alloc _).alloc _) ⟨wo.heap.size + 1, 0, none⟩ 1 1 [ptrB wo.heap.size] (by simp [Act.eval, Act.put]) rfl (fun j u hj => HCN.out j u hj) (by simp [Value.oneCell', ptrB]) (by unfold maxLen; have := HL1.out; omega) (by have := HL1.out; omega) (by have := HBl.out.size; simp; omega) ?_; intro v3 w3 hown3 hg3; obtain ⟨g3, cap3, rfl, q1, q2, hb3, hbel3⟩ := HBg.out.addC HBl.out.size HBl.out hown3 hg3; clear hown3 hg3))
        all_goals
          have HE1 := Lib.hid hb3
          have HE2 := Lib.hid hbel3
          clear hb3 hbel3
          go_wp2_with fail
          go_meet
          exact Lib.hid ⟨_, HE1.out, HE2.out⟩
      case rest =>
      obtain ⟨v3, hb3, hbel3⟩ := hcut.out
      clear hcut c0 c0a c0b ho HBg HBl HCN
      obtain ⟨w1, hw1⟩ : ∃ w1, w1 = wc := ⟨_, rfl⟩
      subst hw1
      have c0 : w1.cell? ⟨w.heap.size, 1, none⟩ = some v2 := hb3.cellW 1
      have ho := hb3.o2
      have HBg := Lib.hid hb3
      have HBl := Lib.hid hbel3
      have HCN := Lib.hid (cell_one_new (w1.alloc (.cells #[.int .i64 (-1)] 83)) (ptrB w1.heap.size) 56)
      rw [show (w1.alloc (.cells #[.int .i64 (-1)] 83)).heap.size = w1.heap.size + 1 by simp] at HCN
      have c0a := (((Below.refl _ w1).alloc (Nat.le_refl _) (.cells #[.int .i64 (-1)] 83)).cell (p := ⟨w.heap.size, 1, none⟩) (heap_lt hb3.obj)).trans c0
      have c0b := ((((Below.refl _ w1).alloc (Nat.le_refl _) (.cells #[.int .i64 (-1)] 83)).alloc (by simp) (.cells #[.pointer (some ⟨w1.heap.size, 0, none⟩)] 56)).cell (p := ⟨w.heap.size, 1, none⟩) (heap_lt hb3.obj)).trans c0
      unfold OwnP at ho
      clear hb3 hbel3
      go_upto_region 6 with fail
      go_region_law (first | (refine step_call rfl 23 _ _ rfl (enters_of Try.func23 (by kernel_rfl) rfl) #[] (by simp [Act.eval]) _ _ (mutex_New _) ?_) | (refine step_append_own rfl (.tmp 30) (.tmp 32) 35 rfl w.heap.size 56 j0 (.pointer none) 1 8 Try.underlying35 hj hy0 hy1 hy2 rfl (by decide) v2 ms.length (ms.map ptrB) (by simp [Act.eval, Act.put]) ((ho.alloc _).alloc _) ⟨w1.heap.size + 1, 0, none⟩ 1 1 [ptrB w1.heap.size] (by simp [Act.eval, Act.put]) rfl (fun j u hj => HCN.out j u hj) (by simp [Value.oneCell', ptrB]) (by unfold maxLen; have := HL2.out; omega) (by have := HL2.out; omega) (by have := HBl.out.size; simp; omega) ?_; intro v4 w3 hown3 hg3; obtain ⟨g3, cap3, rfl, q1, q2, hb3, hbel3⟩ := HBg.out.addM HBl.out.size HBl.out hown3 hg3; clear hown3 hg3))
      all_goals
        have HE1 := Lib.hid hb3
        have HE2 := Lib.hid hbel3
        clear hb3 hbel3 c0 c0a c0b ho HBg HBl HCN
        go_wp2_with fail
        go_roundw
        case rel => exact ⟨k + 1, v3, _, _, _, by omega, by go_num, HE1.out, by rw [List.length_append, HL1.out]; rfl, by rw [List.length_append, HL2.out]; rfl, HE2.out⟩
        case measure => simp [intOf]; omega
    · have k4 : k = 4 := by omega
      subst k4
      obtain ⟨CR, cc, MR, mc, rfl, rfl, hopen⟩ := hb.open hl1 hl2
      have hne := sched_New n h1 (by omega) wr
      have hW0 : w.heap.size < wr.heap.size := heap_lt hb.obj
      have HO := Lib.hid hopen
      have HBE := Lib.hid hbel
      clear hb hopen hbel hl1 hl2
      go_wp2_with fail
      refine hne.mono ?_
      rintro e w1 ⟨rfl, hS, hB1⟩
      obtain ⟨hb3, c3, f3, hlowC, set⟩ := HO.out w1 (wr.heap.size + 1) wr.heap.size hB1
      have hLp : ∃ g, Lp w.heap.size w w.heap.size (wr.heap.size + 1) L 0 (w1.setCell ⟨w.heap.size, 3, none⟩ (.pointer (some ⟨wr.heap.size + 1, 0, none⟩))) g (.slice none 0 0) (List.replicate n none) := by
        have hBs : w.heap.size ≤ (w1.setCell ⟨w.heap.size, 3, none⟩ (.pointer (some ⟨wr.heap.size + 1, 0, none⟩))).heap.size := by
          have := hB1.size
          simp [World.setCell]
          omega
        refine ⟨⟨w.heap.size, CR, cc, MR, mc, 0, 0, wr.heap.size + 1, fun i => cs.getD i 0, fun i => ms.getD i 0, wr.heap.size, fun _ => False, fun q => Value.ownBlock (.slice none 0 0) = some q⟩, rfl, rfl, rfl, hb3, ?_, ⟨by rw [List.length_replicate]; exact HN.out, fun i q y hi => absurd hi (Nat.not_lt_zero _), fun i y _ hy => ?_⟩, Nat.le_refl _, ⟨by simp only; omega, by simp only; omega⟩, hlowC, fun i x hx => ?_, ((HBE.out.trans (hB1.mono (by omega))).setCell (p := ⟨w.heap.size, 3, none⟩) (Nat.le_refl _) _), hBs⟩
        · refine hS.kept fun q hq => ?_
          rcases hq with rfl | rfl | ⟨i, x, hx, rfl⟩
          · exact set _ _ _ hS.obj (by decide)
          · exact set _ _ _ hS.row (by decide)
          · rw [List.getElem?_replicate] at hx
            split at hx <;> simp at hx
        · rw [List.getElem?_replicate] at hy
          split at hy <;> simp at hy
          exact hy.symm
        · rw [List.getElem?_replicate] at hx
          split at hx <;> simp at hx
      obtain ⟨g0, hLp0⟩ := hLp
      have HL0 := Lib.hid hLp0
      clear hb3 hS hB1 set hlowC hLp0 HO HBE
      obtain ⟨s, hs⟩ : ∃ s, s = wr.heap.size + 1 := ⟨_, rfl⟩
      rw [← hs] at HL0
      have HSW := Lib.hid hs
      generalize wr.heap.size + 1 = s' at *
      subst hs
      go_wp2_with fail
      go_loopw [8] (fun is wx => ∃ (j : Nat) (g : AtG) (vk : Value) (ts : List (Option TS)), j ≤ n ∧ is = .int .i64 (j : Int) ∧ Lp w.heap.size w w.heap.size s L j wx g vk ts) (fun is wx => n - (intOf is).toNat)
      case atStart => exact ⟨0, _, _, _, Nat.zero_le _, rfl, HL0.out⟩
      case round =>
        obtain ⟨j, g, vk, ts, hjn, rfl, hL⟩ := hrel
        have HL := Lib.hid hL
        by_cases hlt : j < n
        · obtain ⟨q, hq⟩ : ∃ q, L[j]? = some q := ⟨_, List.getElem?_eq_getElem (by rw [← HN.out]; exact hlt)⟩
          have hlt' : (j : Int) < (n : Int) := by omega
          have hj0 : (0 : Int) ≤ (j : Int) := by omega
          have hj8 : j ≤ 8 := by omega
          have HQ := Lib.hid hq
          have HLT := Lib.hid hlt
          have c2 : wr.cell? ⟨w.heap.size, 2, none⟩ = some vk := by have := hL.beg.cellW.1; rw [hL.hW] at this; exact this
          have HO := Lib.hid hL.beg.own
          clear hL hq hlt hjn
          go_wp2_with (at_builtin; refine wpList_append_own _ rfl _ _ 23 rfl w.heap.size 3 k0 (.int .i64 0) 1 8 Try.underlying23 hk0 hx0 hx1 hx2 rfl (by decide) _ _ _ rfl (HO.out.alloc _) ⟨wr.heap.size, 0, none⟩ 1 1 [.int .i64 0] rfl rfl ?c1 ?c2 ?c3 ?c4 ?c5 ?_)
          case c1 => exact cell_one_new _ _ _
          case c2 => intro u hu; simp at hu; subst hu; rfl
          case c3 => unfold maxLen; simp; omega
          case c4 => simp; omega
          case c5 => have := HL.out.size; simp; omega
          intro v3 w3 hown3 hg3 _
          obtain ⟨K, kc, rfl, q1, q2, g', hcel, hbeg3, e1, e2, e3, e4, e5, e6, e7, e8, hS, hD, hbel3, hsz3⟩ := HL.out.grow (by rw [List.length_replicate, List.map_replicate]; exact hown3) hg3
          have HB3 := Lib.hid hbel3
          have rI : (w3.setCell ⟨w.heap.size, 2, none⟩ (.slice (some ⟨K, 0, none⟩) (j + 1) kc)).cell? ⟨b, off + j, none⟩ = some (.slice q.a q.l.length q.cap) := by
            obtain ⟨r1, r2⟩ := HROW.out j q HQ.out
            exact (hbel3.cell (p := ⟨b, off + j, none⟩) r1).trans r2
          have hpr : IsProg (w3.setCell ⟨w.heap.size, 2, none⟩ (.slice (some ⟨K, 0, none⟩) (j + 1) kc)) w.heap.size q.a q.l.length q.l := (HP.out.each j q HQ.out).1.kept hbel3.size fun p hp hpB => hbel3.block p hp
          have hnx : Calls Try.prog 40 #[.pointer (some ⟨w.heap.size, 0, none⟩), .slice q.a q.l.length q.cap, .int .i64 0] (w3.setCell ⟨w.heap.size, 2, none⟩ (.slice (some ⟨K, 0, none⟩) (j + 1) kc)) fun e w' => ∃ f m, e = .returned (.agg #[f, .pointer m]) ∧ NextOf w' g' w.heap.size q.a q.cap q.l 0 f m ∧ Below (w3.setCell ⟨w.heap.size, 2, none⟩ (.slice (some ⟨K, 0, none⟩) (j + 1) kc)).heap.size (w3.setCell ⟨w.heap.size, 2, none⟩ (.slice (some ⟨K, 0, none⟩) (j + 1) kc)) w' := by
            have := law_next hcel (fun p hp => by
              rw [e6] at hp
              try simp only at hp
              rw [e8] at hp
              injection hp with hp
              rw [← hp]
              exact hcel.lt (.inr (.inr (.inr (.inl rfl))))) (cap := q.cap) hpr 0 (Nat.zero_le _)
            rw [e1] at this
            exact this
          have HG := Lib.hid (And.intro hcel (And.intro hbeg3 (And.intro e1 (And.intro e2 (And.intro e3 (And.intro e4 (And.intro e5 (And.intro e6 (And.intro hS (And.intro hD (And.intro hbel3 hsz3)))))))))))
          clear hown3 hg3 hcel hbeg3 e1 e2 e3 e4 e5 e6 e7 e8 hS hD hbel3 hsz3 hpr
          go_wp2_with fail
          refine hnx.mono ?_
          rintro e w5 ⟨f, m, rfl, hN, hB5⟩
          obtain ⟨hcel, hbeg3, e1, e2, e3, e4, e5, e6, hS, hD, hbel3, hsz3⟩ := HG.out
          have hS5 := hS.below hB5
          have hjts : j < ts.length := by rw [hD.len, ← HN.out]; exact HLT.out
          have hnone : ts[j]? = some none := by rw [List.getElem?_eq_getElem hjts, hD.todo j _ (Nat.le_refl _) (List.getElem?_eq_getElem hjts)]
          have hbel5 := hbel3.trans (hB5.mono hsz3)
          obtain ⟨hgone, hat, hkn⟩ : q.at_ = 0 ∧ q.known = 0 ∧ q.gone = decide (q.l.length = 0) := (HP.out.each j q HQ.out).2
          have r5 : w5.cell? ⟨b, off + j, none⟩ = some (.slice q.a q.l.length q.cap) := by
            obtain ⟨r1, r2⟩ := HROW.out j q HQ.out
            exact (hbel5.cell (p := ⟨b, off + j, none⟩) r1).trans r2
          rcases hN with ⟨hend, rfl, rfl⟩ | ⟨hclo, hm⟩
          · have hl0 : q.l.length = 0 := by omega
            have hput := put_nil hS5 hjts (.pointer none)
            have HE := Lib.hid (show ∀ w6, Below w5.heap.size w5 w6 → w6.cell? ⟨b, off + j, none⟩ = some (.slice q.a q.l.length q.cap) ∧ Lp w.heap.size w w.heap.size s L (j + 1) w6 g' (.slice (some ⟨K, 0, none⟩) (j + 1) kc) (ts.set j none) from fun w6 hB6 => by
              have hb6 := hbel5.trans (hB6.mono (Nat.le_trans hsz3 hB5.size))
              obtain ⟨r1, r2⟩ := HROW.out j q HQ.out
              refine ⟨(hb6.cell (p := ⟨b, off + j, none⟩) r1).trans r2, Lp.step HL.out hcel hbeg3 e1 e2 e3 e4 e5 e6 hS hD hbel3 hsz3 (Nat.le_trans hB5.size hB6.size) (fun p hp _ => (hB6.block p (Nat.lt_of_lt_of_le hp hB5.size)).trans (hB5.block p hp)) hb6 HQ.out ?_ (.inl ⟨.inr (by rw [hl0]; exact Nat.zero_le _), rfl⟩) (fun x hx => by cases hx)⟩
              rw [set_at_same hnone]
              exact hS5.below hB6)
            rw [hl0] at rI r5 HE
            clear hS5 hjts hnone hbel5 hgone hat hkn hend hl0 hB5 hcel hbeg3 e1 e2 e3 e4 e5 e6 hS hD hbel3 hsz3 hnx r5
            go_wp2_with fail
            refine hput.mono ?_
            rintro e w6 ⟨rfl, hB6⟩
            obtain ⟨r6, hE6⟩ := HE.out w6 hB6
            have HE6 := Lib.hid hE6
            clear hE6 hB6 hput
            go_wp2_with fail
            go_roundw
            case rel => exact ⟨j + 1, _, _, _, HLT.out, by go_num, HE6.out⟩
            case measure => have := HLT.out; simp [intOf]; omega
          · have hfn : IsFn f := by obtain ⟨_, _, _, _, h, _⟩ := hclo; exact ⟨45, _, h⟩
            have hlpos : 0 < q.l.length := by obtain ⟨_, _, _, _, _, _, _, _, _, _, _, h⟩ := hclo; exact h
            have hput := sched_Put hS5 hnone m hfn
            have HE := Lib.hid (show ∀ w6, Sch w6 s g.t (ts.set j (some ⟨w5.heap.size, f, m⟩)) 0 → Only (fun p => p = g.t) w5 w6 → w6.cell? ⟨b, off + j, none⟩ = some (.slice q.a q.l.length q.cap) ∧ Lp w.heap.size w w.heap.size s L (j + 1) w6 g' (.slice (some ⟨K, 0, none⟩) (j + 1) kc) (ts.set j (some ⟨w5.heap.size, f, m⟩)) from fun w6 hS6 hO6 => by
              have hb6 := hbel5.trans (hO6.below (B := w.heap.size) (fun p hp hpt => by have := HL.out.lowS.2; omega) (Nat.le_trans hsz3 hB5.size))
              obtain ⟨r1, r2⟩ := HROW.out j q HQ.out
              have hk : ∀ p, p < (w3.setCell ⟨w.heap.size, 2, none⟩ (.slice (some ⟨K, 0, none⟩) (j + 1) kc)).heap.size → p ≠ g.t → w6.heap[p]? = (w3.setCell ⟨w.heap.size, 2, none⟩ (.slice (some ⟨K, 0, none⟩) (j + 1) kc)).heap[p]? := fun p hp hpt => (hO6.block p (Nat.lt_of_lt_of_le hp hB5.size) hpt).trans (hB5.block p hp)
              refine ⟨(hb6.cell (p := ⟨b, off + j, none⟩) r1).trans r2, Lp.step HL.out hcel hbeg3 e1 e2 e3 e4 e5 e6 hS hD hbel3 hsz3 (Nat.le_trans hB5.size hO6.size) hk hb6 HQ.out hS6 (.inr ⟨?_, _, rfl, ?_, ?_⟩) (fun x hx => ?_)⟩
              · rw [hkn]; exact decide_eq_false (by omega)
              · rw [hgone]
                refine hclo.kept hO6.size fun p hp hf => hO6.block p hp ?_
                rcases hf with hf | hf
                · exact fix_tag hf hS5.row (by decide)
                · have := HL.out.lowS.2
                  omega
              · rw [hgone]; exact hm
              · injection hx with hx
                subst hx
                simp only
                have := hB5.size
                omega)
            have hd : decide (0 < q.l.length) = true := by simpa using hlpos
            clear hS5 hjts hnone hbel5 hgone hat hkn hB5 hcel hbeg3 e1 e2 e3 e4 e5 e6 hS hD hbel3 hsz3 hnx hclo hm r5
            obtain ⟨F, c, rfl⟩ := hfn
            go_wp2_with fail
            refine hput.mono ?_
            rintro e w6 ⟨rfl, hS6, hO6, _⟩
            obtain ⟨r6, hE6⟩ := HE.out w6 hS6 hO6
            have HE6 := Lib.hid hE6
            clear hE6 hS6 hO6 hput
            go_wp2_with fail
            go_roundw
            case rel => exact ⟨j + 1, _, _, _, HLT.out, by go_num, HE6.out⟩
            case measure => have := HLT.out; simp [intOf]; omega
        · obtain rfl : j = n := by omega
          clear hL
          go_wp2_with fail
          go_ret2
          exact ⟨w.heap.size, g, vk, ts, rfl, by have h := HL.out; rw [h.hs]; exact h⟩
end Go.Proofs.Ytccliallljcjgaa
