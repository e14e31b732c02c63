/- The document's book in memory. -/
import Derived.Test.YtagadjgemgajjaaEpFree
set_option linter.unusedVariables false
namespace Go.Proofs.Ytagadjgemgajjaa
open Go.RowKit

/-- The document's book in plain words: what waits, and when each was retired. -/
structure RB where
  now : Int
  came : List Int
  olds : List Value
  ats : List Int
def EB.rb (s : EB) : RB := ⟨s.now, s.came, s.wait.map (·.1), s.wait.map (·.2)⟩
/-- Where it lies. -/
structure AtR where
  m : Nat
  c : Nat
  vo : Value
  va : Value
def AtR.S (r : AtR) (j : Nat) : Prop := j = r.m ∨ j = r.c ∨ r.vo.ownBlock = some j ∨ r.va.ownBlock = some j
structure Rk (B : Nat) (w : World) (r : AtR) (s : RB) : Prop where
  obj : w.heap[r.m]? = some (.cells #[.int .i64 s.now, .slice (some ⟨r.c, 0, none⟩) s.came.length s.came.length, r.vo, r.va] 30 (0, 0))
  cam : w.heap[r.c]? = some (.cells (s.came.map intV).toArray 3 (0, 0))
  old : OffRow w B 9 1 r.vo s.olds.length s.olds
  at_ : OffRow w B 3 1 r.va s.ats.length (s.ats.map intV)
  ne : r.va.ownBlock ≠ some r.c
  lm : B ≤ r.m
  lc : B ≤ r.c
namespace Rk
variable {B : Nat} {w w' : World} {r : AtR} {s : RB}
theorem low (h : Rk B w r s) : ∀ j, r.S j → B ≤ j ∧ j < w.heap.size := by
  rintro j (rfl | rfl | hj | hj)
  · exact ⟨h.lm, heap_lt h.obj⟩
  · exact ⟨h.lc, heap_lt h.cam⟩
  · exact h.old.lt j hj
  · exact h.at_.lt j hj
theorem kept (h : Rk B w r s) (k : ∀ j, r.S j → w'.heap[j]? = w.heap[j]?) : Rk B w' r s :=
  ⟨(k _ (.inl rfl)).trans h.obj, (k _ (.inr (.inl rfl))).trans h.cam, h.old.kept fun j hj => k j (.inr (.inr (.inl hj))), h.at_.kept fun j hj => k j (.inr (.inr (.inr hj))), h.ne, h.lm, h.lc⟩
theorem only {T : Nat → Prop} (h : Rk B w r s) (k : Only T w w') (hT : ∀ j, r.S j → ¬ T j) : Rk B w' r s := h.kept fun j hj => k.block j (h.low j hj).2 (hT j hj)
theorem below (h : Rk B w r s) (k : Below w.heap.size w w') : Rk B w' r s := h.kept fun j hj => k.block j (h.low j hj).2
theorem c0 (h : Rk B w r s) : w.cell? ⟨r.m, 0, none⟩ = some (.int .i64 s.now) := by simp [World.cell?, h.obj]
theorem c1 (h : Rk B w r s) : w.cell? ⟨r.m, 1, none⟩ = some (.slice (some ⟨r.c, 0, none⟩) s.came.length s.came.length) := by simp [World.cell?, h.obj]
theorem c2 (h : Rk B w r s) : w.cell? ⟨r.m, 2, none⟩ = some r.vo := by simp [World.cell?, h.obj]
theorem c3 (h : Rk B w r s) : w.cell? ⟨r.m, 3, none⟩ = some r.va := by simp [World.cell?, h.obj]
theorem fm (h : Rk B w r s) (o : Nat) : w.frozen? ⟨r.m, o, none⟩ = false := by simp [World.frozen?, h.obj]
theorem cc (h : Rk B w r s) {i : Nat} {x : Int} (hx : s.came[i]? = some x) : w.cell? ⟨r.c, i, none⟩ = some (.int .i64 x) := by simp [World.cell?, h.cam, hx, intV]
theorem fc (h : Rk B w r s) (o : Nat) : w.frozen? ⟨r.c, o, none⟩ = false := by simp [World.frozen?, h.cam]
theorem m_ne_c (h : Rk B w r s) : r.m ≠ r.c := tag_ne h.obj h.cam (by decide)
theorem o_ne (h : Rk B w r s) {j : Nat} (hj : r.vo.ownBlock = some j) : j ≠ r.m ∧ j ≠ r.c ∧ r.va.ownBlock ≠ some j := by
  obtain ⟨cur, hc⟩ := h.old.tag hj
  refine ⟨tag_ne hc h.obj (by decide), tag_ne hc h.cam (by decide), fun e => ?_⟩
  obtain ⟨cur2, hc2⟩ := h.at_.tag e
  exact tag_ne hc hc2 (by decide) rfl
theorem a_ne (h : Rk B w r s) {j : Nat} (hj : r.va.ownBlock = some j) : j ≠ r.m ∧ j ≠ r.c ∧ r.vo.ownBlock ≠ some j := by
  obtain ⟨cur, hc⟩ := h.at_.tag hj
  exact ⟨tag_ne hc h.obj (by decide), fun e => h.ne (e ▸ hj), fun e => (h.o_ne e).2.2 hj⟩
theorem setCame (h : Rk B w r s) (i : Nat) (x : Int) : Rk B (w.setCell ⟨r.c, i, none⟩ (.int .i64 x)) r { s with came := s.came.set i x } := by
  refine ⟨?_, ?_, h.old.kept fun j hj => heap_set_other (h.o_ne hj).2.1 _, h.at_.kept fun j hj => heap_set_other (h.a_ne hj).2.1 _, h.ne, h.lm, h.lc⟩
  · rw [heap_set_other h.m_ne_c, h.obj]; simp
  · rw [heap_set h.cam]
    congr 2
    apply Array.ext'
    simp [intV, List.map_set]
theorem setNow (h : Rk B w r s) (x : Int) : Rk B (w.setCell ⟨r.m, 0, none⟩ (.int .i64 x)) r { s with now := x } :=
  ⟨by rw [heap_set h.obj]; rfl, by rw [heap_set_other (Ne.symm h.m_ne_c)]; exact h.cam, h.old.kept fun j hj => heap_set_other (h.o_ne hj).1 _, h.at_.kept fun j hj => heap_set_other (h.a_ne hj).1 _, h.ne, h.lm, h.lc⟩
theorem setOld (h : Rk B w r s) (hk : ∀ j, j = r.m ∨ j = r.c ∨ r.va.ownBlock = some j → w'.heap[j]? = w.heap[j]?) {v : Value} {l : List Value} (hr : OffRow w' B 9 1 v l.length l) : Rk B (w'.setCell ⟨r.m, 2, none⟩ v) ⟨r.m, r.c, v, r.va⟩ { s with olds := l } := by
  have ho := (hk _ (.inl rfl)).trans h.obj
  have hc := (hk _ (.inr (.inl rfl))).trans h.cam
  refine ⟨by rw [heap_set ho]; rfl, by rw [heap_set_other (Ne.symm h.m_ne_c)]; exact hc, hr.kept fun j hj => heap_set_other ?_ _, h.at_.kept fun j hj => ?_, h.ne, h.lm, h.lc⟩
  · obtain ⟨cur, hcur⟩ := hr.tag hj
    exact tag_ne hcur ho (by decide)
  · rw [heap_set_other (h.a_ne hj).1]
    exact hk j (.inr (.inr hj))
theorem setAt (h : Rk B w r s) (hk : ∀ j, j = r.m ∨ j = r.c ∨ r.vo.ownBlock = some j → w'.heap[j]? = w.heap[j]?) {v : Value} {l : List Int} (hr : OffRow w' B 3 1 v l.length (l.map intV)) (hv : v.ownBlock ≠ some r.c) : Rk B (w'.setCell ⟨r.m, 3, none⟩ v) ⟨r.m, r.c, r.vo, v⟩ { s with ats := l } := by
  have ho := (hk _ (.inl rfl)).trans h.obj
  have hc := (hk _ (.inr (.inl rfl))).trans h.cam
  refine ⟨by rw [heap_set ho]; rfl, by rw [heap_set_other (Ne.symm h.m_ne_c)]; exact hc, h.old.kept fun j hj => ?_, hr.kept fun j hj => heap_set_other ?_ _, hv, h.lm, h.lc⟩
  · rw [heap_set_other (h.o_ne hj).1]
    exact hk j (.inr (.inr hj))
  · obtain ⟨cur, hcur⟩ := hr.tag hj
    exact tag_ne hcur ho (by decide)
end Rk
structure RTurned (B : Nat) (w : World) (r : AtR) (s : RB) (w' : World) (r' : AtR) : Prop where
  m : r'.m = r.m
  rk : Rk B w' r' s
  only : Only r.S w w'
  sub : ∀ j, r'.S j → r.S j ∨ w.heap.size ≤ j
def RTurns (B : Nat) (w : World) (r : AtR) (s : RB) (w' : World) : Prop := ∃ r', RTurned B w r s w' r'
theorem RTurned.same {B : Nat} {w : World} {r : AtR} {s : RB} (h : Rk B w r s) : RTurned B w r s w r := ⟨rfl, h, Only.refl _ _, fun _ hj => .inl hj⟩
theorem RTurned.trans {B : Nat} {w w1 w2 : World} {r r1 r2 : AtR} {s1 s2 : RB} (h : RTurned B w r s1 w1 r1) (k : RTurned B w1 r1 s2 w2 r2) : RTurned B w r s2 w2 r2 := by
  refine ⟨k.m.trans h.m, k.rk, h.only.andThen k.only fun j hj hs => ?_, fun j hj => ?_⟩
  · rcases h.sub j hs with x | x
    · exact x
    · omega
  · rcases k.sub j hj with x | x
    · exact h.sub j x
    · exact .inr (Nat.le_trans h.only.size x)
theorem RTurned.still {B : Nat} {w w1 : World} {r : AtR} {s : RB} (h : Rk B w r s) (k : Below w.heap.size w w1) : RTurned B w r s w1 r :=
  ⟨rfl, h.below k, ⟨k.os, k.tape, k.output, k.size, fun j hj _ => k.block j hj⟩, fun _ hj => .inl hj⟩
/-- One thing more is laid behind the others. -/
theorem Rk.pushOld {B : Nat} {w W w3 : World} {r : AtR} {s : RB} (h : Rk B w r s) (hA : Below w.heap.size w W) {v3 v : Value} (hr : OffRow w3 B 9 1 v3 (s.olds.length + 1) (s.olds ++ [v])) (hg : W.grownBy w3 r.vo.ownBlock) (hat : v3.ownBlock = r.vo.ownBlock ∨ v3.ownBlock = some W.heap.size) :
    w3.cell? ⟨r.m, 2, none⟩ = some r.vo ∧ w3.frozen? ⟨r.m, 2, none⟩ = false ∧ RTurned B w r { s with olds := s.olds ++ [v] } (w3.setCell ⟨r.m, 2, none⟩ v3) ⟨r.m, r.c, v3, r.va⟩ := by
  have hk : ∀ j, j = r.m ∨ j = r.c ∨ r.va.ownBlock = some j → w3.heap[j]? = w.heap[j]? := by
    intro j hj
    have hlt : j < w.heap.size := (h.low j (by rcases hj with x | x | x; (exact .inl x); (exact .inr (.inl x)); (exact .inr (.inr (.inr x))))).2
    refine (hg.block j (Nat.lt_of_lt_of_le hlt hA.size) fun e => ?_).trans (hA.block j hlt)
    have := h.o_ne e.symm
    rcases hj with x | x | x
    · exact this.1 x
    · exact this.2.1 x
    · exact this.2.2 x
  have ho := (hk _ (.inl rfl)).trans h.obj
  refine ⟨by simp [World.cell?, ho], by simp [World.frozen?, ho], rfl, h.setOld hk (by rw [List.length_append]; exact hr), ?_, fun j hj => ?_⟩
  · have h1 : Only r.S w W := ⟨hA.os, hA.tape, hA.output, hA.size, fun k hk _ => hA.block k hk⟩
    exact (h1.grown hg fun j hj => .inl (.inr (.inr (.inl hj)))).setCell (p := ⟨r.m, 2, none⟩) (.inl (.inl rfl)) v3
  · rcases hj with x | x | x | x
    · exact .inl (.inl x)
    · exact .inl (.inr (.inl x))
    · rcases hat with e | e
      · exact .inl (.inr (.inr (.inl (e.symm.trans x))))
      · have hx : v3.ownBlock = some j := x
        rw [e] at hx
        injection hx with hx
        exact .inr (by rw [← hx]; exact hA.size)
    · exact .inl (.inr (.inr (.inr x)))
theorem Rk.pushAt {B : Nat} {w W w3 : World} {r : AtR} {s : RB} (h : Rk B w r s) (hA : Below w.heap.size w W) {v3 : Value} {t : Int} (hr : OffRow w3 B 3 1 v3 (s.ats.length + 1) (s.ats.map intV ++ [.int .i64 t])) (hg : W.grownBy w3 r.va.ownBlock) (hat : v3.ownBlock = r.va.ownBlock ∨ v3.ownBlock = some W.heap.size) :
    w3.cell? ⟨r.m, 3, none⟩ = some r.va ∧ w3.frozen? ⟨r.m, 3, none⟩ = false ∧ RTurned B w r { s with ats := s.ats ++ [t] } (w3.setCell ⟨r.m, 3, none⟩ v3) ⟨r.m, r.c, r.vo, v3⟩ := by
  have hk : ∀ j, j = r.m ∨ j = r.c ∨ r.vo.ownBlock = some j → w3.heap[j]? = w.heap[j]? := by
    intro j hj
    have hlt : j < w.heap.size := (h.low j (by rcases hj with x | x | x; (exact .inl x); (exact .inr (.inl x)); (exact .inr (.inr (.inl x))))).2
    refine (hg.block j (Nat.lt_of_lt_of_le hlt hA.size) fun e => ?_).trans (hA.block j hlt)
    have := h.a_ne e.symm
    rcases hj with x | x | x
    · exact this.1 x
    · exact this.2.1 x
    · exact this.2.2 x
  have ho := (hk _ (.inl rfl)).trans h.obj
  have hcl := (h.low r.c (.inr (.inl rfl))).2
  refine ⟨by simp [World.cell?, ho], by simp [World.frozen?, ho], rfl, h.setAt hk (l := s.ats ++ [t]) (by rw [List.length_append, List.map_append]; exact hr) ?_, ?_, fun j hj => ?_⟩
  · rcases hat with e | e
    · rw [e]; exact h.ne
    · rw [e]
      intro e2
      injection e2 with e2
      have := hA.size
      omega
  · have h1 : Only r.S w W := ⟨hA.os, hA.tape, hA.output, hA.size, fun k hk _ => hA.block k hk⟩
    exact (h1.grown hg fun j hj => .inl (.inr (.inr (.inr hj)))).setCell (p := ⟨r.m, 3, none⟩) (.inl (.inl rfl)) v3
  · rcases hj with x | x | x | x
    · exact .inl (.inl x)
    · exact .inl (.inr (.inl x))
    · exact .inl (.inr (.inr (.inl x)))
    · rcases hat with e | e
      · exact .inl (.inr (.inr (.inr (e.symm.trans x))))
      · have hx : v3.ownBlock = some j := x
        rw [e] at hx
        injection hx with hx
        exact .inr (by rw [← hx]; exact hA.size)
section
variable {B : Nat} {w : World} {r : AtR} {s : EB}
set_option maxHeartbeats 1000000 in
theorem ref_Enter (h : Rk B w r s.rb) (i t : Int) (hl : s.came.length ≤ 16) (hc : ∀ x ∈ s.came, 0 ≤ x) : Calls Try.prog 11 #[.pointer (some ⟨r.m, 0, none⟩), .int .i64 i, .int .i64 t] w fun e w' => e = .returned (.int .i64 (s.enter i t).2) ∧ RTurned B w r (s.enter i t).1.rb w' r := by
  have c0 : w.cell? ⟨r.m, 0, none⟩ = some (.int .i64 s.now) := h.c0
  have c1 : w.cell? ⟨r.m, 1, none⟩ = some (.slice (some ⟨r.c, 0, none⟩) s.came.length s.came.length) := h.c1
  by_cases h1 : 0 ≤ i
  · obtain ⟨n, rfl⟩ : ∃ n : Nat, i = n := ⟨i.toNat, by omega⟩
    by_cases hn : n < s.came.length
    · have hn' : (n : Int) < (s.came.length : Int) := by omega
      by_cases h2 : t ≤ 0
      · have e : s.enter n t = (s, 1) := by unfold EB.enter; rw [if_neg (by omega)]
        have HT := Lib.hid (RTurned.same h)
        rw [e]
        clear h e hc
        go_enter Try.func11, Try.ntmps11
        go_wp2
        go_ret
        exact ⟨rfl, HT.out⟩
      have h2' : 1 ≤ t := by omega
      by_cases h3 : s.now < t
      · have e : s.enter n t = (s, 1) := by unfold EB.enter; rw [if_neg (by omega)]
        have HT := Lib.hid (RTurned.same h)
        rw [e]
        clear h e hc
        go_enter Try.func11, Try.ntmps11
        go_wp2
        go_ret
        exact ⟨rfl, HT.out⟩
      have h3' : t ≤ s.now := by omega
      obtain ⟨x, hx⟩ : ∃ x, s.came[n]? = some x := ⟨_, List.getElem?_eq_getElem hn⟩
      have cc : w.cell? ⟨r.c, n, none⟩ = some (.int .i64 x) := h.cc hx
      have hx0 := hc x (List.mem_of_getElem? hx)
      have hg : s.came.getD n 0 = x := by rw [List.getD_eq_getElem?_getD, hx]; rfl
      by_cases h4 : x = 0
      · subst h4
        have e : s.enter n t = ({ s with came := s.came.set n t }, 0) := by unfold EB.enter; rw [if_pos (by omega), show (n : Int).toNat = n by omega, hg, if_pos rfl]
        rw [e]
        have fc := h.fc n
        have HT := Lib.hid (show RTurned B w r ({ s with came := s.came.set n t } : EB).rb (w.setCell ⟨r.c, n, none⟩ (.int .i64 t)) r from ⟨rfl, h.setCame n t, (Only.refl _ _).setCell (.inl (.inr (.inl rfl))) _, fun _ hj => .inl hj⟩)
        clear h h2 h3 hg e hx hc
        go_enter Try.func11, Try.ntmps11
        go_wp2
        go_ret
        exact ⟨rfl, HT.out⟩
      · have e : s.enter n t = (s, 11) := by unfold EB.enter; rw [if_pos (by omega), show (n : Int).toNat = n by omega, hg, if_neg h4]
        rw [e]
        have HT := Lib.hid (RTurned.same h)
        have h4' : 0 < x := by omega
        clear h h2 h3 hg e hx hc
        go_enter Try.func11, Try.ntmps11
        go_wp2
        go_ret
        exact ⟨rfl, HT.out⟩
    · have hn' : (s.came.length : Int) ≤ (n : Int) := by omega
      have e : s.enter n t = (s, 1) := by unfold EB.enter; rw [if_neg (by omega)]
      have HT := Lib.hid (RTurned.same h)
      rw [e]
      clear h e hc
      go_enter Try.func11, Try.ntmps11
      go_wp2
      go_ret
      exact ⟨rfl, HT.out⟩
  · have e : s.enter i t = (s, 1) := by unfold EB.enter; rw [if_neg (by omega)]
    have h1' : i < 0 := by omega
    have HT := Lib.hid (RTurned.same h)
    rw [e]
    clear h e hc
    go_enter Try.func11, Try.ntmps11
    go_wp2
    go_ret
    exact ⟨rfl, HT.out⟩
set_option maxHeartbeats 1000000 in
theorem ref_Leave (h : Rk B w r s.rb) (i : Int) (hl : s.came.length ≤ 16) : Calls Try.prog 13 #[.pointer (some ⟨r.m, 0, none⟩), .int .i64 i] w fun e w' => e = .returned (.int .i64 (s.leave i).2) ∧ RTurned B w r (s.leave i).1.rb w' r := by
  have c1 : w.cell? ⟨r.m, 1, none⟩ = some (.slice (some ⟨r.c, 0, none⟩) s.came.length s.came.length) := h.c1
  by_cases h1 : 0 ≤ i
  · obtain ⟨n, rfl⟩ : ∃ n : Nat, i = n := ⟨i.toNat, by omega⟩
    by_cases hn : n < s.came.length
    · have hn' : (n : Int) < (s.came.length : Int) := by omega
      obtain ⟨x, hx⟩ : ∃ x, s.came[n]? = some x := ⟨_, List.getElem?_eq_getElem hn⟩
      have cc : w.cell? ⟨r.c, n, none⟩ = some (.int .i64 x) := h.cc hx
      have hg : s.came.getD n 0 = x := by rw [List.getD_eq_getElem?_getD, hx]; rfl
      by_cases h4 : x = 0
      · subst h4
        have e : s.leave n = (s, 11) := by unfold EB.leave; rw [if_pos (by omega), show (n : Int).toNat = n by omega, hg, if_pos rfl]
        rw [e]
        have HT := Lib.hid (RTurned.same h)
        clear h hg e hx
        go_enter Try.func13, Try.ntmps13
        go_wp2
        go_ret
        exact ⟨rfl, HT.out⟩
      · have e : s.leave n = ({ s with came := s.came.set n 0 }, 0) := by unfold EB.leave; rw [if_pos (by omega), show (n : Int).toNat = n by omega, hg, if_neg h4]
        rw [e]
        have fc := h.fc n
        have HT := Lib.hid (show RTurned B w r ({ s with came := s.came.set n 0 } : EB).rb (w.setCell ⟨r.c, n, none⟩ (.int .i64 0)) r from ⟨rfl, h.setCame n 0, (Only.refl _ _).setCell (.inl (.inr (.inl rfl))) _, fun _ hj => .inl hj⟩)
        have h4' : (x == 0) = false := by simpa using h4
        clear h hg e hx
        go_enter Try.func13, Try.ntmps13
        go_wp2
        go_ret
        exact ⟨rfl, HT.out⟩
    · have hn' : (s.came.length : Int) ≤ (n : Int) := by omega
      have e : s.leave n = (s, 1) := by unfold EB.leave; rw [if_neg (by omega)]
      have HT := Lib.hid (RTurned.same h)
      rw [e]
      clear h e
      go_enter Try.func13, Try.ntmps13
      go_wp2
      go_ret
      exact ⟨rfl, HT.out⟩
  · have e : s.leave i = (s, 1) := by unfold EB.leave; rw [if_neg (by omega)]
    have h1' : i < 0 := by omega
    have HT := Lib.hid (RTurned.same h)
    rw [e]
    clear h e
    go_enter Try.func13, Try.ntmps13
    go_wp2
    go_ret
    exact ⟨rfl, HT.out⟩
set_option maxHeartbeats 1000000 in
theorem ref_Readers (h : Rk B w r s.rb) (hl : s.came.length ≤ 16) (hc : ∀ x ∈ s.came, 0 ≤ x) : Calls Try.prog 22 #[.pointer (some ⟨r.m, 0, none⟩)] w fun e w' => e = .returned (.int .i64 (EB.cnt s.came : Int)) ∧ w = w' := by
  have c1 : w.cell? ⟨r.m, 1, none⟩ = some (.slice (some ⟨r.c, 0, none⟩) s.came.length s.came.length) := h.c1
  have hcc := Lib.hid (fun (i : Nat) (x : Int) (hx : s.came[i]? = some x) => h.cc hx)
  have HC := Lib.hid hc
  clear h hc
  go_enter Try.func22, Try.ntmps22
  go_wp2_with fail
  go_loop [3, 4] (fun m i => ∃ k : Nat, k ≤ s.came.length ∧ i = .int .i64 (k : Int) ∧ m = .int .i64 (EB.cnt (s.came.take k) : Int)) (fun _ i => s.came.length - (intOf i).toNat)
  case atStart => exact ⟨0, Nat.zero_le _, rfl, rfl⟩
  case round =>
    obtain ⟨k, hk, rfl, rfl⟩ := hrel
    by_cases hlt : k < s.came.length
    · obtain ⟨x, hx⟩ : ∃ x, s.came[k]? = some x := ⟨_, List.getElem?_eq_getElem hlt⟩
      have cc := hcc.out k x hx
      have hx0 := HC.out x (List.mem_of_getElem? hx)
      have HN := Lib.hid (show EB.cnt (s.came.take (k + 1)) = EB.cnt (s.came.take k) + if x = 0 then 0 else 1 by rw [take_next hx, EB.cnt_app]; rfl)
      have hlt' : (k : Int) < (s.came.length : Int) := by omega
      have hb : EB.cnt (s.came.take k) ≤ k := Nat.le_trans (EB.cnt_le _) (List.length_take_le _ _)
      clear hx
      generalize EB.cnt (s.came.take k) = m at *
      by_cases h0 : x = 0
      · subst h0
        go_wp2
        go_round
        case rel => exact ⟨k + 1, by omega, by go_num, by rw [HN.out, if_pos rfl]; rfl⟩
        case measure => simp [intOf]; omega
      · have h0' : 0 < x := by omega
        go_wp2
        go_round
        case rel => exact ⟨k + 1, by omega, by go_num, by rw [HN.out, if_neg h0]; go_num⟩
        case measure => simp [intOf]; omega
    · have e : s.came.take k = s.came := List.take_of_length_le (by omega)
      rw [e]
      go_wp2
      go_ret
      exact ⟨rfl, rfl⟩
end
end Go.Proofs.Ytagadjgemgajjaa
