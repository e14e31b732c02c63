/- The program's book in memory. -/
import Derived.Test.YtagadjgemgajjaaEpPlain
import Derived.Deep.RegionLaw
import Derived.LoopTactic
import Derived.OwnWalk
set_option linter.unusedVariables false
namespace Go.Proofs.Ytagadjgemgajjaa
open Go.RowKit

def intV (z : Int) : Value := .int .i64 z
/-- Where a book lies: its block, its slots' row, the slice of the things that wait. -/
structure AtB where
  b : Nat
  c : Nat
  v : Value
def AtB.S (q : AtB) (j : Nat) : Prop := j = q.b ∨ j = q.c ∨ q.v.ownBlock = some j
/-- tb: the struct's type; tr: the type of what waits. -/
structure Bk (tb tr : TypeId) (B : Nat) (w : World) (q : AtB) (s : EB) : Prop where
  obj : w.heap[q.b]? = some (.cells #[.int .i64 s.now, .slice (some ⟨q.c, 0, none⟩) s.came.length s.came.length, q.v] tb (0, 0))
  cam : w.heap[q.c]? = some (.cells (s.came.map intV).toArray 3 (0, 0))
  row : OffRow w B tr 2 q.v s.wait.length (cellsOf s.wait)
  lb : B ≤ q.b
  lc : B ≤ q.c
  t1 : tb ≠ 3
  t2 : tr ≠ 3
  t3 : tr ≠ tb
theorem tag_ne {w : World} {i j : Nat} {c d : Array Value} {t u : TypeId} (h : w.heap[i]? = some (.cells c t (0, 0))) (k : w.heap[j]? = some (.cells d u (0, 0))) (ne : t ≠ u) : i ≠ j := by
  intro e
  subst e
  rw [h] at k
  injection k with k
  injection k with _ k
  exact ne k
namespace Bk
variable {tb tr : TypeId} {B : Nat} {w w' : World} {q : AtB} {s : EB}
theorem low (h : Bk tb tr B w q s) : ∀ j, q.S j → B ≤ j ∧ j < w.heap.size := by
  rintro j (rfl | rfl | hj)
  · exact ⟨h.lb, heap_lt h.obj⟩
  · exact ⟨h.lc, heap_lt h.cam⟩
  · exact h.row.lt j hj
theorem kept (h : Bk tb tr B w q s) (k : ∀ j, q.S j → w'.heap[j]? = w.heap[j]?) : Bk tb tr B w' q s :=
  ⟨(k _ (.inl rfl)).trans h.obj, (k _ (.inr (.inl rfl))).trans h.cam, h.row.kept fun j hj => k j (.inr (.inr hj)), h.lb, h.lc, h.t1, h.t2, h.t3⟩
theorem only {T : Nat → Prop} (h : Bk tb tr B w q s) (k : Only T w w') (hT : ∀ j, q.S j → ¬ T j) : Bk tb tr B w' q s := h.kept fun j hj => k.block j (h.low j hj).2 (hT j hj)
theorem below (h : Bk tb tr B w q s) (k : Below w.heap.size w w') : Bk tb tr B w' q s := h.kept fun j hj => k.block j (h.low j hj).2
theorem drewN (h : Bk tb tr B w q s) (n : Nat) : Bk tb tr B (w.drewN n) q s := h.kept fun _ _ => rfl
theorem alloc (h : Bk tb tr B w q s) (o : Obj) : Bk tb tr B (w.alloc o) q s := h.kept fun j hj => Below.heap_alloc w o j (h.low j hj).2
theorem c0 (h : Bk tb tr B w q s) : w.cell? ⟨q.b, 0, none⟩ = some (.int .i64 s.now) := by simp [World.cell?, h.obj]
theorem c1 (h : Bk tb tr B w q s) : w.cell? ⟨q.b, 1, none⟩ = some (.slice (some ⟨q.c, 0, none⟩) s.came.length s.came.length) := by simp [World.cell?, h.obj]
theorem c2 (h : Bk tb tr B w q s) : w.cell? ⟨q.b, 2, none⟩ = some q.v := by simp [World.cell?, h.obj]
theorem fb (h : Bk tb tr B w q s) (o : Nat) : w.frozen? ⟨q.b, o, none⟩ = false := by simp [World.frozen?, h.obj]
theorem cc (h : Bk tb tr B w q s) {i : Nat} {x : Int} (hx : s.came[i]? = some x) : w.cell? ⟨q.c, i, none⟩ = some (.int .i64 x) := by simp [World.cell?, h.cam, hx, intV]
theorem fc (h : Bk tb tr B w q s) (o : Nat) : w.frozen? ⟨q.c, o, none⟩ = false := by simp [World.frozen?, h.cam]
theorem b_ne_c (h : Bk tb tr B w q s) : q.b ≠ q.c := tag_ne h.obj h.cam h.t1
theorem v_ne (h : Bk tb tr B w q s) {j : Nat} (hj : q.v.ownBlock = some j) : j ≠ q.b ∧ j ≠ q.c := by
  obtain ⟨cur, hc⟩ := h.row.tag hj
  exact ⟨tag_ne hc h.obj h.t3, tag_ne hc h.cam h.t2⟩
/-- Who reads in a slot is written. -/
theorem setCame (h : Bk tb tr B w q s) (i : Nat) (x : Int) : Bk tb tr B (w.setCell ⟨q.c, i, none⟩ (.int .i64 x)) q { s with came := s.came.set i x } := by
  refine ⟨?_, ?_, h.row.kept fun j hj => heap_set_other (h.v_ne hj).2 _, h.lb, h.lc, h.t1, h.t2, h.t3⟩
  · rw [heap_set_other h.b_ne_c, h.obj]; simp
  · rw [heap_set h.cam]
    congr 2
    apply Array.ext'
    simp [intV, List.map_set]
theorem setNow (h : Bk tb tr B w q s) (x : Int) : Bk tb tr B (w.setCell ⟨q.b, 0, none⟩ (.int .i64 x)) q { s with now := x } :=
  ⟨by rw [heap_set h.obj]; rfl, by rw [heap_set_other (Ne.symm h.b_ne_c)]; exact h.cam, h.row.kept fun j hj => heap_set_other (h.v_ne hj).1 _, h.lb, h.lc, h.t1, h.t2, h.t3⟩
/-- The things that wait are other ones: the row has turned, and then the field is written. -/
theorem setWait (h : Bk tb tr B w q s) (hk : ∀ j, j = q.b ∨ j = q.c → w'.heap[j]? = w.heap[j]?) {v : Value} {l : List (Value × Int)} (hr : OffRow w' B tr 2 v l.length (cellsOf l)) :
    Bk tb tr B (w'.setCell ⟨q.b, 2, none⟩ v) ⟨q.b, q.c, v⟩ { s with wait := l } := by
  have ho := (hk _ (.inl rfl)).trans h.obj
  have hc := (hk _ (.inr rfl)).trans h.cam
  refine ⟨by rw [heap_set ho]; rfl, by rw [heap_set_other (Ne.symm h.b_ne_c)]; exact hc, hr.kept fun j hj => heap_set_other ?_ _, h.lb, h.lc, h.t1, h.t2, h.t3⟩
  obtain ⟨cur, hcur⟩ := hr.tag hj
  exact tag_ne hcur ho h.t3
theorem thing (h : Bk tb tr B w q s) {k : Nat} {p : Value × Int} (hp : s.wait[k]? = some p) : ∃ g off cap, q.v = .slice (some ⟨g, off, none⟩) s.wait.length cap ∧ w.cell? ⟨g, off + k * 2, none⟩ = some p.1 ∧ w.cell? ⟨g, off + k * 2 + 1, none⟩ = some (.int .i64 p.2) := by
  have hk : k < s.wait.length := (List.getElem?_eq_some_iff.1 hp).1
  obtain ⟨g, off, cap, cur, hv, _, _, hc⟩ := h.row.form (by omega)
  obtain ⟨e1, e2⟩ := cellsOf_get hp
  refine ⟨g, off, cap, hv, by rw [hc (k * 2) (by omega)]; exact e1, ?_⟩
  have := hc (k * 2 + 1) (by omega)
  rw [← Nat.add_assoc] at this
  rw [this]
  exact e2
end Bk
/-- What a call leaves that turns a book. -/
structure Turned (tb tr : TypeId) (B : Nat) (w : World) (q : AtB) (s : EB) (w' : World) (q' : AtB) : Prop where
  b : q'.b = q.b
  bk : Bk tb tr B w' q' s
  only : Only q.S w w'
  sub : ∀ j, q'.S j → q.S j ∨ w.heap.size ≤ j
theorem Turned.same {tb tr : TypeId} {B : Nat} {w : World} {q : AtB} {s : EB} (h : Bk tb tr B w q s) : Turned tb tr B w q s w q := ⟨rfl, h, Only.refl _ _, fun _ hj => .inl hj⟩

section
variable {B : Nat} {w : World} {q : AtB} {s : EB}
theorem book_isSlot (h : Bk 58 62 B w q s) (i : Int) : Calls Try.prog 31 #[.pointer (some ⟨q.b, 0, none⟩), .int .i64 i] w fun e w' => e = .returned (.bool (decide (0 ≤ i ∧ i < s.came.length))) ∧ w = w' := by
  have c1 := h.c1
  clear h
  by_cases h1 : 0 ≤ i
  · by_cases h2 : i < s.came.length
    · rw [decide_eq_true (⟨h1, h2⟩ : 0 ≤ i ∧ i < (s.came.length : Int))]
      go_enter Try.func31, Try.ntmps31
      go_wp2
      go_ret
      exact ⟨rfl, rfl⟩
    · rw [decide_eq_false (fun e : 0 ≤ i ∧ i < (s.came.length : Int) => h2 e.2)]
      go_enter Try.func31, Try.ntmps31
      go_wp2
      go_ret
      exact ⟨rfl, rfl⟩
  · rw [decide_eq_false (fun e : 0 ≤ i ∧ i < (s.came.length : Int) => h1 e.1)]
    go_enter Try.func31, Try.ntmps31
    go_wp2
    go_ret
    exact ⟨rfl, rfl⟩
theorem isSlot_nil (i : Int) (w : World) : Calls Try.prog 31 #[.pointer none, .int .i64 i] w fun e w' => e = .returned (.bool false) ∧ w = w' := by
  go_enter Try.func31, Try.ntmps31
  go_wp2
  go_ret
  exact ⟨rfl, rfl⟩
theorem book_Now (h : Bk 58 62 B w q s) : Calls Try.prog 19 #[.pointer (some ⟨q.b, 0, none⟩)] w fun e w' => e = .returned (.int .i64 s.now) ∧ w = w' := by
  have c0 := h.c0
  clear h
  go_enter Try.func19, Try.ntmps19
  go_wp2
  go_ret
  exact ⟨rfl, rfl⟩
theorem book_Held (h : Bk 58 62 B w q s) : Calls Try.prog 20 #[.pointer (some ⟨q.b, 0, none⟩)] w fun e w' => e = .returned (.int .i64 (s.wait.length : Int)) ∧ w = w' := by
  have c2 := h.c2
  obtain ⟨a, cap, hv⟩ := h.row.slice
  rw [hv] at c2
  clear h hv
  go_enter Try.func20, Try.ntmps20
  go_wp2
  go_ret
  exact ⟨rfl, rfl⟩
set_option maxHeartbeats 1000000 in
theorem book_Enter (h : Bk 58 62 B w q s) (i t : Int) (hl : s.came.length ≤ 16) : Calls Try.prog 10 #[.pointer (some ⟨q.b, 0, none⟩), .int .i64 i, .int .i64 t] w fun e w' => e = .returned (.int .i64 (s.enter i t).2) ∧ Turned 58 62 B w q (s.enter i t).1 w' q := by
  have hs := book_isSlot h i
  by_cases h1 : 0 ≤ i ∧ i < s.came.length
  · rw [decide_eq_true h1] at hs
    have c0 := h.c0
    obtain ⟨n, rfl⟩ : ∃ n : Nat, i = n := ⟨i.toNat, by omega⟩
    have hn : n < s.came.length := by omega
    have hn' : (n : Int) < (s.came.length : Int) := by omega
    by_cases h2 : t < 1
    · have e : s.enter n t = (s, 1) := by unfold EB.enter; rw [if_neg (by omega)]
      have HT := Lib.hid (Turned.same h)
      rw [e]
      clear h h1 e
      go_enter Try.func10, Try.ntmps10
      go_wp2_with (go_at_call 31; refine hs.mono ?_; rintro e w' ⟨rfl, rfl⟩)
      go_ret
      exact ⟨rfl, HT.out⟩
    have h2' : 1 ≤ t := by omega
    by_cases h3 : s.now < t
    · have e : s.enter n t = (s, 1) := by unfold EB.enter; rw [if_neg (by omega)]
      have HT := Lib.hid (Turned.same h)
      rw [e]
      clear h h1 h2 e
      go_enter Try.func10, Try.ntmps10
      go_wp2_with (go_at_call 31; refine hs.mono ?_; rintro e w' ⟨rfl, rfl⟩)
      go_ret
      exact ⟨rfl, HT.out⟩
    have h3' : t ≤ s.now := by omega
    have c1 := h.c1
    obtain ⟨x, hx⟩ : ∃ x, s.came[n]? = some x := ⟨_, List.getElem?_eq_getElem hn⟩
    have cc := h.cc hx
    have hg : s.came.getD n 0 = x := by rw [List.getD_eq_getElem?_getD, hx]; rfl
    by_cases h4 : x = 0
    · subst h4
      have e : s.enter n t = ({ s with came := s.came.set n t }, 0) := by unfold EB.enter; rw [if_pos (by omega), show (n : Int).toNat = n by omega, hg, if_pos rfl]
      rw [e]
      have fc := h.fc n
      have HT := Lib.hid (show Turned 58 62 B w q { s with came := s.came.set n t } (w.setCell ⟨q.c, n, none⟩ (.int .i64 t)) q from ⟨rfl, h.setCame n t, (Only.refl _ _).setCell (.inl (.inr (.inl rfl))) _, fun _ hj => .inl hj⟩)
      clear h h1 h2 h3 hg e hx hn
      go_enter Try.func10, Try.ntmps10
      go_wp2_with (go_at_call 31; refine hs.mono ?_; rintro e w' ⟨rfl, rfl⟩)
      go_ret
      exact ⟨rfl, HT.out⟩
    · have e : s.enter n t = (s, 11) := by unfold EB.enter; rw [if_pos (by omega), show (n : Int).toNat = n by omega, hg, if_neg h4]
      rw [e]
      have HT := Lib.hid (Turned.same h)
      have h4' : (x == 0) = false := by simpa using h4
      clear h h1 h2 h3 hg e hx hn
      go_enter Try.func10, Try.ntmps10
      go_wp2_with (go_at_call 31; refine hs.mono ?_; rintro e w' ⟨rfl, rfl⟩)
      go_ret
      exact ⟨rfl, HT.out⟩
  · rw [decide_eq_false h1] at hs
    have e : s.enter i t = (s, 1) := by unfold EB.enter; rw [if_neg (fun x => h1 ⟨x.1, x.2.1⟩)]
    rw [e]
    have HT := Lib.hid (Turned.same h)
    clear h h1 e
    go_enter Try.func10, Try.ntmps10
    go_wp2_with (go_at_call 31; refine hs.mono ?_; rintro e w' ⟨rfl, rfl⟩)
    go_ret
    exact ⟨rfl, HT.out⟩
set_option maxHeartbeats 1000000 in
theorem book_Leave (h : Bk 58 62 B w q s) (i : Int) (hl : s.came.length ≤ 16) : Calls Try.prog 12 #[.pointer (some ⟨q.b, 0, none⟩), .int .i64 i] w fun e w' => e = .returned (.int .i64 (s.leave i).2) ∧ Turned 58 62 B w q (s.leave i).1 w' q := by
  have hs := book_isSlot h i
  by_cases h1 : 0 ≤ i ∧ i < s.came.length
  · rw [decide_eq_true h1] at hs
    obtain ⟨n, rfl⟩ : ∃ n : Nat, i = n := ⟨i.toNat, by omega⟩
    have hn : n < s.came.length := by omega
    have hn' : (n : Int) < (s.came.length : Int) := by omega
    have c1 := h.c1
    obtain ⟨x, hx⟩ : ∃ x, s.came[n]? = some x := ⟨_, List.getElem?_eq_getElem hn⟩
    have cc := h.cc hx
    have hg : s.came.getD n 0 = x := by rw [List.getD_eq_getElem?_getD, hx]; rfl
    by_cases h4 : x = 0
    · subst h4
      have e : s.leave n = (s, 11) := by unfold EB.leave; rw [if_pos (by omega), show (n : Int).toNat = n by omega, hg, if_pos rfl]
      rw [e]
      have HT := Lib.hid (Turned.same h)
      clear h h1 hg e hx hn
      go_enter Try.func12, Try.ntmps12
      go_wp2_with (go_at_call 31; refine hs.mono ?_; rintro e w' ⟨rfl, rfl⟩)
      go_ret
      exact ⟨rfl, HT.out⟩
    · have e : s.leave n = ({ s with came := s.came.set n 0 }, 0) := by unfold EB.leave; rw [if_pos (by omega), show (n : Int).toNat = n by omega, hg, if_neg h4]
      rw [e]
      have fc := h.fc n
      have HT := Lib.hid (show Turned 58 62 B w q { s with came := s.came.set n 0 } (w.setCell ⟨q.c, n, none⟩ (.int .i64 0)) q from ⟨rfl, h.setCame n 0, (Only.refl _ _).setCell (.inl (.inr (.inl rfl))) _, fun _ hj => .inl hj⟩)
      have h4' : (x == 0) = false := by simpa using h4
      clear h h1 hg e hx hn
      go_enter Try.func12, Try.ntmps12
      go_wp2_with (go_at_call 31; refine hs.mono ?_; rintro e w' ⟨rfl, rfl⟩)
      go_ret
      exact ⟨rfl, HT.out⟩
  · rw [decide_eq_false h1] at hs
    have e : s.leave i = (s, 1) := by unfold EB.leave; rw [if_neg h1]
    rw [e]
    have HT := Lib.hid (Turned.same h)
    clear h h1 e
    go_enter Try.func12, Try.ntmps12
    go_wp2_with (go_at_call 31; refine hs.mono ?_; rintro e w' ⟨rfl, rfl⟩)
    go_ret
    exact ⟨rfl, HT.out⟩
end
end Go.Proofs.Ytagadjgemgajjaa
