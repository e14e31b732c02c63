/- What a task does next: the program's closures. -/
import Derived.Test.YtccliallljcjgaaDoing
set_option linter.unusedVariables false
namespace Go.Proofs.Ytccliallljcjgaa
open Go.RowKit

/-- The mutex that a step takes. -/
def mutA (g : AtG) (x : INS) : Option Addr := if x.mutex = 0 then none else some ⟨g.m (x.mutex - 1), 0, none⟩
/-- A closure that does a program's step, and answers what comes next. -/
def CloAt (w : World) (g : AtG) (B : Nat) (f : Value) (a : Option Addr) (cap : Nat) (l : List INS) (k : Nat) : Prop :=
  ∃ pw px pl pa, f = .func (.func 45) #[] #[.pointer (some ⟨pw, 0, none⟩), .pointer (some ⟨px, 0, none⟩), .pointer (some ⟨pl, 0, none⟩), .pointer (some ⟨pa, 0, none⟩)] ∧
    w.heap[pw]? = some (.cells #[.pointer (some ⟨g.W, 0, none⟩)] 25 (0, 0)) ∧ w.heap[px]? = some (.cells (l.getD k default).vals 73 (0, 0)) ∧
    w.heap[pl]? = some (.cells #[.slice a l.length cap] 44 (0, 0)) ∧ w.heap[pa]? = some (.cells #[.int .i64 (k : Int)] 3 (0, 0)) ∧ ¬ g.Z pa ∧ IsProg w B a l.length l ∧ k < l.length
/-- What comes next, from a place on. -/
def NextOf (w : World) (g : AtG) (B : Nat) (a : Option Addr) (cap : Nat) (l : List INS) (k : Nat) (f : Value) (m : Option Addr) : Prop :=
  (l.length ≤ k ∧ f = .nilFunc ∧ m = none) ∨ (CloAt w g B f a cap l k ∧ m = mutA g (l.getD k default))

theorem info60 : (Try.prog.info? 60).map (·.size) = some 2 := by kernel_rfl
/-- A world on to which blocks are laid. -/
theorem heap_new2 (w : World) (A B : Obj) : ((w.alloc A).alloc B).heap[w.heap.size]? = some A := by
  rw [Below.heap_alloc _ _ _ (by simp)]
  exact heap_new w A
/-- The blocks that 'next' lays: the world's pointer, the program, the place, the answer, the step, what comes next. -/
structure NW (w0 : World) (g : AtG) (a : Option Addr) (len cap k : Nat) (x : INS) (nx : Array Value) (wx : World) : Prop where
  b0 : wx.heap[w0.heap.size]? = some (.cells #[.pointer (some ⟨g.W, 0, none⟩)] 25 (0, 0))
  b1 : wx.heap[w0.heap.size + 1]? = some (.cells #[.slice a len cap] 44 (0, 0))
  b2 : wx.heap[w0.heap.size + 2]? = some (.cells #[.int .i64 (k : Int)] 3 (0, 0))
  b3 : wx.heap[w0.heap.size + 3]? = some (.cells #[.nilFunc, .pointer none] 60 (0, 0))
  b4 : wx.heap[w0.heap.size + 4]? = some (.cells x.vals 73 (0, 0))
  b5 : wx.heap[w0.heap.size + 5]? = some (.cells nx 60 (0, 0))
  size : wx.heap.size = w0.heap.size + 6
  below : Below w0.heap.size w0 wx
theorem nw_mk (w : World) (g : AtG) (a : Option Addr) (len cap k : Nat) (x : INS) (nx : Array Value) :
    NW w g a len cap k x nx ((((((w.alloc (.cells #[.pointer (some ⟨g.W, 0, none⟩)] 25)).alloc (.cells #[.slice a len cap] 44)).alloc (.cells #[.int .i64 (k : Int)] 3)).alloc (.cells #[.nilFunc, .pointer none] 60)).alloc (.cells x.vals 73)).alloc (.cells nx 60)) := by
  have n1 : ∀ (w : World) (o : Obj), (w.alloc o).heap.size = w.heap.size + 1 := fun w o => by simp
  have new : ∀ (w : World) (o : Obj) (k : Nat), k = w.heap.size → (w.alloc o).heap[k]? = some o := fun w o k hk => by rw [hk]; exact heap_new w o
  have old : ∀ (w : World) (o : Obj) (k : Nat), k < w.heap.size → (w.alloc o).heap[k]? = w.heap[k]? := fun w o k hk => Below.heap_alloc w o k hk
  refine ⟨?_, ?_, ?_, ?_, ?_, ?_, ?_, ?_⟩
  · rw [old _ _ _ (by simp only [n1]; omega), old _ _ _ (by simp only [n1]; omega), old _ _ _ (by simp only [n1]; omega), old _ _ _ (by simp only [n1]; omega), old _ _ _ (by simp only [n1]; omega), new _ _ _ (by simp only [n1])]
  · rw [old _ _ _ (by simp only [n1]; omega), old _ _ _ (by simp only [n1]; omega), old _ _ _ (by simp only [n1]; omega), old _ _ _ (by simp only [n1]; omega), new _ _ _ (by simp only [n1])]
  · rw [old _ _ _ (by simp only [n1]; omega), old _ _ _ (by simp only [n1]; omega), old _ _ _ (by simp only [n1]; omega), new _ _ _ (by simp only [n1])]
  · rw [old _ _ _ (by simp only [n1]; omega), old _ _ _ (by simp only [n1]; omega), new _ _ _ (by simp only [n1])]
  · rw [old _ _ _ (by simp only [n1]; omega), new _ _ _ (by simp only [n1])]
  · rw [new _ _ _ (by simp only [n1])]
  · simp only [n1]
  · exact ((((((Below.refl _ w).alloc (Nat.le_refl _) _).alloc (by simp only [n1]; omega) _).alloc (by simp only [n1]; omega) _).alloc (by simp only [n1]; omega) _).alloc (by simp only [n1]; omega) _).alloc (by simp only [n1]; omega) _

set_option maxHeartbeats 4000000 in
set_option maxRecDepth 100000 in
theorem next_end {w : World} (W : Addr) (a : Option Addr) (len cap : Nat) (k : Nat) (hk : len ≤ k) (hk2 : k ≤ 100) :
    Calls Try.prog 40 #[.pointer (some W), .slice a len cap, .int .i64 (k : Int)] w fun e w' => e = .returned (.agg #[.nilFunc, .pointer none]) ∧ Below w.heap.size w w' := by
  have hk' : (len : Int) ≤ (k : Int) := by omega
  have hd : decide ((len : Int) ≤ (k : Int)) = true := by simpa using hk'
  have HB := Lib.hid (show Below w.heap.size w ((((w.alloc (.cells #[.pointer (some W)] 25)).alloc (.cells #[.slice a len cap] 44)).alloc (.cells #[.int .i64 (k : Int)] 3)).alloc (.cells #[.nilFunc, .pointer none] 60)) from
    ((((Below.refl _ w).alloc (Nat.le_refl _) _).alloc (by simp) _).alloc (by simp; omega) _).alloc (by simp; omega) _)
  have HN := Lib.hid (heap_new (((w.alloc (.cells #[.pointer (some W)] 25)).alloc (.cells #[.slice a len cap] 44)).alloc (.cells #[.int .i64 (k : Int)] 3)) (.cells #[.nilFunc, .pointer none] 60))
  clear hk
  go_enter Try.func40, Try.ntmps40
  go_wp2
  refine bodyPost_ret (v := .agg #[.nilFunc, .pointer none]) (results_cell_row rfl _ _ (w.heap.size + 1 + 1 + 1) 60 _ (0, 0) _ rfl ?_ Try.underlying60 rfl info60) rfl ?_
  · have := HN.out
    simp only [World.size_alloc] at this
    exact this
  · exact ⟨rfl, HB.out⟩

set_option maxHeartbeats 4000000 in
set_option maxRecDepth 100000 in
theorem law_next {w : World} {g : AtG} {n : Nat} {C X H K : List Int} (h : Cel w g n C X H K) (hz : ∀ j, g.Z j → j < w.heap.size) {B : Nat} {a : Option Addr} {cap : Nat} {l : List INS} (hp : IsProg w B a l.length l) (k : Nat) (hk : k ≤ l.length) :
    Calls Try.prog 40 #[.pointer (some ⟨g.W, 0, none⟩), .slice a l.length cap, .int .i64 (k : Int)] w fun e w' => ∃ f m, e = .returned (.agg #[f, .pointer m]) ∧ NextOf w' g B a cap l k f m ∧ Below w.heap.size w w' := by
  have h60 := hp.2.1
  by_cases hend : l.length ≤ k
  · exact (next_end ⟨g.W, 0, none⟩ a l.length cap k hend (by omega)).mono fun e w' ⟨he, hb⟩ => ⟨.nilFunc, none, he, .inl ⟨hend, rfl, rfl⟩, hb⟩
  · have hlt : k < l.length := by omega
    have hlt' : (k : Int) < ((l.length : Nat) : Int) := by omega
    have hd : decide (((l.length : Nat) : Int) ≤ (k : Int)) = false := by simp; omega
    have HP := Lib.hid hp
    have H := Lib.hid h
    have HZZ := Lib.hid hz
    have HL := Lib.hid hlt
    obtain ⟨_, _, hok, b, off, hbB, ha, hr⟩ := hp
    have hae : a = some ⟨b, off, none⟩ := ha.resolve_left (by omega)
    obtain ⟨r1, r2⟩ := hr k hlt
    have hx : l.getD k default = l[k] := by rw [List.getD_eq_getElem?_getD, List.getElem?_eq_getElem hlt]; rfl
    have xok := hok _ (List.getElem_mem hlt)
    replace r2 : ∀ j, j < 5 → w.cell? ⟨b, off + k * 5 + j, none⟩ = (l.getD k default).vals[j]? := fun j hj => by rw [hx]; exact r2 j hj
    replace xok : (l.getD k default).Ok := by rw [hx]; exact xok
    generalize hxx : l.getD k default = x at r2 xok
    have HXX := Lib.hid hxx
    have x0 : w.cell? ⟨b, off + k * 5, none⟩ = some (.int .i64 x.kind) := r2 0 (by omega)
    have x1 : w.cell? ⟨b, off + k * 5 + 1, none⟩ = some (.int .i64 (x.cell : Int)) := r2 1 (by omega)
    have x2 : w.cell? ⟨b, off + k * 5 + 2, none⟩ = some (.int .i64 x.n) := r2 2 (by omega)
    have x3 : w.cell? ⟨b, off + k * 5 + 3, none⟩ = some (.int .i64 (x.mutex : Int)) := r2 3 (by omega)
    have x4 : w.cell? ⟨b, off + k * 5 + 4, none⟩ = some (.int .i64 (x.free : Int)) := r2 4 (by omega)
    have HAE := Lib.hid hae
    have HB := Lib.hid hbB
    have HX := Lib.hid xok
    have HM := Lib.hid (nw_mk w g a l.length cap k x #[.func (.func 45) #[] #[.pointer (some ⟨w.heap.size, 0, none⟩), .pointer (some ⟨w.heap.size + 4, 0, none⟩), .pointer (some ⟨w.heap.size + 1, 0, none⟩), .pointer (some ⟨w.heap.size + 2, 0, none⟩)], .pointer none])
    have hA := ((((Below.refl w.heap.size w).alloc (Nat.le_refl _) (.cells #[.pointer (some ⟨g.W, 0, none⟩)] 25)).alloc (by simp) (.cells #[.slice a l.length cap] 44)).alloc (by simp; omega) (.cells #[.int .i64 (k : Int)] 3)).alloc (by simp; omega) (.cells #[.nilFunc, .pointer none] 60)
    have y0 := (hA.cell (p := ⟨b, off + k * 5, none⟩) r1).trans x0
    have y1 := (hA.cell (p := ⟨b, off + k * 5 + 1, none⟩) r1).trans x1
    have y2 := (hA.cell (p := ⟨b, off + k * 5 + 2, none⟩) r1).trans x2
    have y3 := (hA.cell (p := ⟨b, off + k * 5 + 3, none⟩) r1).trans x3
    have y4 := (hA.cell (p := ⟨b, off + k * 5 + 4, none⟩) r1).trans x4
    clear hr r2 xok hx hok ha h hz hend hbB hxx hA x0 x1 x2 x3 x4
    subst hae
    have hmf : ∀ (fn : Fn) (first cap : Array Value) (w : World), (Instr.makeFunc fn first cap).run Try.prog w = .ok (.func fn first cap) w := fun _ _ _ _ => rfl
    go_enter Try.func40, Try.ntmps40
    go_upto_region 4 with fail
    go_cut [3, 4, 5, 6, 7, 8] from 9 (fun s3 s4 s5 s6 s7 s8 wx => s3 = .pointer (some ⟨w.heap.size, 0, none⟩) ∧ s4 = .pointer (some ⟨w.heap.size + 1, 0, none⟩) ∧ s5 = .pointer (some ⟨w.heap.size + 2, 0, none⟩) ∧ s6 = .pointer (some ⟨w.heap.size + 3, 0, none⟩) ∧ s7 = .pointer (some ⟨w.heap.size + 4, 0, none⟩) ∧ s8 = .pointer (some ⟨w.heap.size + 5, 0, none⟩) ∧
      Hid (NW w g (some ⟨b, off, none⟩) l.length cap k x #[.func (.func 45) #[] #[.pointer (some ⟨w.heap.size, 0, none⟩), .pointer (some ⟨w.heap.size + 4, 0, none⟩), .pointer (some ⟨w.heap.size + 1, 0, none⟩), .pointer (some ⟨w.heap.size + 2, 0, none⟩)], .pointer none] wx))
    case first =>
      go_wp2_with fail
      go_meet
      exact ⟨rfl, rfl, rfl, rfl, rfl, rfl, HM⟩
    case rest =>
    obtain ⟨rfl, rfl, rfl, rfl, rfl, rfl, hM⟩ := hcut
    obtain ⟨w1, hw1⟩ : ∃ w1, w1 = wc := ⟨_, rfl⟩
    subst hw1
    clear y0 y1 y2 y3 y4 r1 hlt hlt' hd hmf HM
    have N := hM.out
    obtain ⟨f, hf⟩ : ∃ f, f = Value.func (.func 45) #[] #[.pointer (some ⟨w.heap.size, 0, none⟩), .pointer (some ⟨w.heap.size + 4, 0, none⟩), .pointer (some ⟨w.heap.size + 1, 0, none⟩), .pointer (some ⟨w.heap.size + 2, 0, none⟩)] := ⟨_, rfl⟩
    -- the ends
    have ends : ∀ (m : Option Addr) (w2 : World), m = mutA g x → Only (fun j => j = w.heap.size + 3 ∨ j = w.heap.size + 5) w1 w2 → NextOf w2 g B (some ⟨b, off, none⟩) cap l k f m ∧ Below w.heap.size w w2 := by
      intro m w2 hm hO
      have hBel : Below w.heap.size w w2 := N.below.trans ((hO.below (fun j hj hs => by omega) (by rw [N.size]; omega)))
      refine ⟨.inr ⟨⟨w.heap.size, w.heap.size + 4, w.heap.size + 1, w.heap.size + 2, hf, ?_, ?_, ?_, ?_, ?_, ?_, HL.out⟩, by rw [HXX.out]; exact hm⟩, hBel⟩
      · rw [hO.block _ (by rw [N.size]; omega) (by omega)]; exact N.b0
      · rw [hO.block _ (by rw [N.size]; omega) (by omega), HXX.out]; exact N.b4
      · rw [hO.block _ (by rw [N.size]; omega) (by omega)]; exact N.b1
      · rw [hO.block _ (by rw [N.size]; omega) (by omega)]; exact N.b2
      · intro hj
        have := HZZ.out _ hj
        omega
      · have hp := HP.out
        rw [HAE.out] at hp
        exact hp.kept hBel.size fun j hj hjB => hBel.block j hj
    have b3 := N.b3
    have b5 := N.b5
    rw [← hf] at b5
    have ENDS := Lib.hid ends
    have cx : w1.cell? ⟨w.heap.size + 4, 3, none⟩ = some (.int .i64 (x.mutex : Int)) := by simp [World.cell?, N.b4, INS.vals]
    have c30 : w1.cell? ⟨w.heap.size + 3, 0, none⟩ = some .nilFunc := by simp [World.cell?, b3]
    have c31 : w1.cell? ⟨w.heap.size + 3, 1, none⟩ = some (.pointer none) := by simp [World.cell?, b3]
    have f3 : ∀ o, w1.frozen? ⟨w.heap.size + 3, o, none⟩ = false := fun o => by simp [World.frozen?, b3]
    have f30 := f3 0
    have f31 := f3 1
    have c50 : w1.cell? ⟨w.heap.size + 5, 0, none⟩ = some f := by simp [World.cell?, b5]
    have c51 : w1.cell? ⟨w.heap.size + 5, 1, none⟩ = some (.pointer none) := by simp [World.cell?, b5]
    have f51 : w1.frozen? ⟨w.heap.size + 5, 1, none⟩ = false := by simp [World.frozen?, b5]
    have xm5 := HX.out.m
    have B3 := Lib.hid b3
    have B5 := Lib.hid b5
    have HF := Lib.hid hf
    have c0W : w1.cell? ⟨w.heap.size, 0, none⟩ = some (.pointer (some ⟨g.W, 0, none⟩)) := by simp [World.cell?, N.b0]
    have C := H.out.below N.below
    have o1 := C.o1
    have HRM := Lib.hid (fun i (hi : i < 4) => C.rm hi)
    have hne : w.heap.size + 3 ≠ w.heap.size + 5 := by omega
    clear ends N hM b3 b5 C f3
    by_cases hm : x.mutex = 0
    · have hm0 : (x.mutex : Int) = 0 := by omega
      have E := Lib.hid (ENDS.out none ((w1.setCell ⟨w.heap.size + 3, 0, none⟩ f).setCell ⟨w.heap.size + 3, 1, none⟩ (.pointer none)) (by unfold mutA; rw [if_pos hm]) (((Only.refl (fun j => j = w.heap.size + 3 ∨ j = w.heap.size + 5) w1).setCell (p := ⟨w.heap.size + 3, 0, none⟩) (.inl (.inl rfl)) f).setCell (p := ⟨w.heap.size + 3, 1, none⟩) (.inl (.inl rfl)) _))
      have hh := Lib.hid (heap_set (o := 1) (heap_set (o := 0) B3.out f) (.pointer none))
      clear hm ENDS
      subst hf
      go_wp2_with fail
      refine bodyPost_ret (v := .agg #[_, .pointer none]) (results_cell_row rfl _ _ (w.heap.size + 3) 60 _ (0, 0) _ rfl hh.out Try.underlying60 rfl info60) rfl ?_
      exact ⟨_, none, rfl, E.out⟩
    · obtain ⟨q, hq⟩ : ∃ q, x.mutex = q + 1 := ⟨x.mutex - 1, by omega⟩
      have hz : (x.mutex : Int) - 1 = (q : Int) := by omega
      have hzw : IntKind.i64.wrap (q : Int) = (q : Int) := by rw [IntKind.wrap_i64]; omega
      have hzw' : wrap64 (q : Int) = (q : Int) := by rw [wrap_64]; exact hzw
      have hq4 : q < 4 := by omega
      have hq4' : (q : Int) < 4 := by omega
      have hq0 : (0 : Int) ≤ (q : Int) := by omega
      have hd : decide (0 < x.mutex) = true := by simp; omega
      have rm := HRM.out q hq4
      have hmA : some ⟨g.m q, 0, none⟩ = mutA g x := by unfold mutA; rw [if_neg hm, hq]; rfl
      have O1 : Only (fun j => j = w.heap.size + 3 ∨ j = w.heap.size + 5) w1 ((w1.drewN 1).setCell ⟨w.heap.size + 5, 1, none⟩ (.pointer (some ⟨g.m q, 0, none⟩))) := ((Only.refl _ w1).drewN 1).setCell (S := fun j => j = w.heap.size + 3 ∨ j = w.heap.size + 5) (p := ⟨w.heap.size + 5, 1, none⟩) (.inl (.inr rfl)) _
      have B5' := heap_set (w := w1.drewN 1) (o := 1) B5.out (.pointer (some ⟨g.m q, 0, none⟩))
      have B3' := (heap_set_other (w := w1.drewN 1) (b := w.heap.size + 5) (o := 1) hne (.pointer (some ⟨g.m q, 0, none⟩))).trans B3.out
      obtain ⟨w2, hw2⟩ : ∃ w2, w2 = (w1.drewN 1).setCell ⟨w.heap.size + 5, 1, none⟩ (.pointer (some ⟨g.m q, 0, none⟩)) := ⟨_, rfl⟩
      have HW2 := Lib.hid hw2
      rw [← hw2] at O1 B5' B3'
      have E := Lib.hid (ENDS.out (some ⟨g.m q, 0, none⟩) ((w2.setCell ⟨w.heap.size + 3, 0, none⟩ f).setCell ⟨w.heap.size + 3, 1, none⟩ (.pointer (some ⟨g.m q, 0, none⟩))) hmA ((O1.setCell (p := ⟨w.heap.size + 3, 0, none⟩) (.inl (.inl rfl)) f).setCell (p := ⟨w.heap.size + 3, 1, none⟩) (.inl (.inl rfl)) _))
      have hh := Lib.hid (heap_set (o := 1) (heap_set (o := 0) B3' f) (.pointer (some ⟨g.m q, 0, none⟩)))
      have OO := Lib.hid O1
      have e50 : w2.cell? ⟨w.heap.size + 5, 0, none⟩ = some f := by simp [World.cell?, B5']
      have e51 : w2.cell? ⟨w.heap.size + 5, 1, none⟩ = some (.pointer (some ⟨g.m q, 0, none⟩)) := by simp [World.cell?, B5']
      have e30 : w2.cell? ⟨w.heap.size + 3, 0, none⟩ = some .nilFunc := by simp [World.cell?, B3']
      have e31 : w2.cell? ⟨w.heap.size + 3, 1, none⟩ = some (.pointer none) := by simp [World.cell?, B3']
      have g30 : w2.frozen? ⟨w.heap.size + 3, 0, none⟩ = false := by simp [World.frozen?, B3']
      have g31 : w2.frozen? ⟨w.heap.size + 3, 1, none⟩ = false := by simp [World.frozen?, B3']
      clear hm ENDS O1 B5' B3' hq hq4 hmA hw2
      subst hf
      go_upto_region 6 with fail
      go_cut [] from 9 (fun wx => Hid (wx = w2))
      case first =>
        go_wp2_with fail
        go_region
        all_goals (go_wp2_with fail; go_meet; exact Lib.hid (by rw [HW2.out]; rfl))
      case rest =>
      have hcut2 := hcut.out
      clear hcut
      subst hcut2
      go_wp2_with fail
      refine bodyPost_ret (v := .agg #[_, .pointer (some ⟨g.m q, 0, none⟩)]) (results_cell_row rfl _ _ (w.heap.size + 3) 60 _ (0, 0) _ rfl hh.out Try.underlying60 rfl info60) rfl ?_
      exact ⟨_, some ⟨g.m q, 0, none⟩, rfl, E.out⟩
end Go.Proofs.Ytccliallljcjgaa
