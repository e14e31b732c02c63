/- A task that is ready does its step, whatever that is; a pick. -/
import Derived.Test.YtccliallljcjgaaPicks
import Derived.Laws.EntriesVeiled
set_option linter.unusedVariables false
namespace Go.Proofs.Ytccliallljcjgaa
open Go.RowKit

/-- The next step, or none. -/
def Nx (f : Value) : Prop := f = .nilFunc ∨ IsFn f
/-- What is in the slot behind a step. -/
def nextT (k : Nat) (f : Value) (m : Option Addr) : Option TS := match f with
  | .nilFunc => none
  | f => some ⟨k, f, m⟩
/-- The world in which a task's function is called: it has its mutex. -/
def Takes (w : World) (x : TS) (i : Nat) (w1 : World) : Prop := (x.m = none ∧ w1 = w) ∨ ∃ a, x.m = some a ∧ w1 = w.setCell a (.int .i64 (i : Int))

theorem under78 : Try.prog.underlying 78 = some (.pointer 60) := by kernel_rfl
theorem ptr_eqIn (k : Nat) (d : Nat) (w : World) : Sem.run Try.prog (Op.equalIn (d + 1) 78 (.pointer (some ⟨k, 0, none⟩)) (.pointer (some ⟨k, 0, none⟩))) w = .ok true w := by
  simp [Op.equalIn, run_underlying under78, sameAddr]
theorem ptr_equal (k : Nat) (w : World) : Sem.run Try.prog (Op.equal 78 (.pointer (some ⟨k, 0, none⟩)) (.pointer (some ⟨k, 0, none⟩))) w = .ok true w := ptr_eqIn k 9999 w
theorem ptr_eq (k : Nat) (w : World) : Sem.run Try.prog (binOp .eql 78 (.pointer (some ⟨k, 0, none⟩)) (.pointer (some ⟨k, 0, none⟩))) w = .ok (.bool true) w := by
  simp only [binOp]
  simp [ptr_equal]
set_option maxHeartbeats 4000000 in
set_option maxRecDepth 100000 in
theorem step_does {w : World} {s t : Nat} {ts : List (Option TS)} {steps : Int} (h : Sch w s t ts steps) {i : Nat} {x : TS} (hx : ts[i]? = some (some x)) (hr : Rdy w (some x) true) (hfz : ∀ a, x.m = some a → w.frozen? a = false)
    {F : Nat} {c : Array Value} (hF : x.f = .func (.func F) #[] c) (eF : Enters Try.prog F) (R : Value → Option Addr → World → Prop)
    (hc : ∀ w1, Takes w x i w1 → Calls Try.prog F (#[.int .i64 (i : Int)] ++ c) w1 fun e w2 => ∃ f m, e = .returned (.agg #[f, .pointer m]) ∧ Nx f ∧ Sch w2 s t ts steps ∧ R f m w2) :
    Calls Try.prog 16 #[.pointer (some ⟨s, 0, none⟩), .int .i64 (i : Int)] w fun e w' => e = .returned (.int .i64 0) ∧
      ∃ f m w2, R f m w2 ∧ Nx f ∧ Only (fun j => j = s ∨ j = t ∨ j = x.k) w2 w' ∧ Sch w' s t (ts.set i (nextT x.k f m)) (wrap64 (steps + 1)) := by
  have hi := lt_of_get hx
  have hin := sched_in h hi
  have hal : Calls Try.prog 17 #[.pointer (some ⟨s, 0, none⟩), .int .i64 (i : Int)] w fun e w' => e = .returned (.bool true) ∧ w' = w := sched_Alive h hx
  have hrd := sched_Ready h hx hr
  have c0 := h.c0
  have cT : w.cell? ⟨t, i, none⟩ = some (.pointer (some ⟨x.k, 0, none⟩)) := h.cT hx
  have k0 := h.k0 hx
  rw [hF] at k0
  have k1 := h.k1 hx
  have hi' : (i : Int) < ((ts.length : Nat) : Int) := by omega
  have HX := Lib.hid hx
  have HI := Lib.hid hi
  obtain ⟨z, hz⟩ : ∃ z, z = wrap64 (steps + 1) := ⟨_, rfl⟩
  have HZ := Lib.hid hz
  have hwz : IntKind.i64.wrap (steps + 1) = z := by rw [hz, IntKind.wrap_i64]; unfold wrap64; rfl
  -- behind the call: for each f
  have tail : ∀ (f : Value) (m : Option Addr) (w2 : World), Sch w2 s t ts steps →
      (w2.cell? ⟨x.k, 0, none⟩ = some x.f ∧ w2.cell? ⟨x.k, 1, none⟩ = some (.pointer x.m) ∧ w2.frozen? ⟨x.k, 0, none⟩ = false ∧ w2.frozen? ⟨x.k, 1, none⟩ = false) ∧
      (((w2.setCell ⟨x.k, 0, none⟩ f).setCell ⟨x.k, 1, none⟩ (.pointer m)).cell? ⟨s, 1, none⟩ = some (.int .i64 steps) ∧ ((w2.setCell ⟨x.k, 0, none⟩ f).setCell ⟨x.k, 1, none⟩ (.pointer m)).frozen? ⟨s, 1, none⟩ = false) ∧
      (((((w2.setCell ⟨x.k, 0, none⟩ f).setCell ⟨x.k, 1, none⟩ (.pointer m)).setCell ⟨s, 1, none⟩ (.int .i64 z)).cell? ⟨x.k, 0, none⟩ = some f) ∧
       ((((w2.setCell ⟨x.k, 0, none⟩ f).setCell ⟨x.k, 1, none⟩ (.pointer m)).setCell ⟨s, 1, none⟩ (.int .i64 z)).cell? ⟨s, 0, none⟩ = some (.slice (some ⟨t, 0, none⟩) ts.length ts.length)) ∧
       ((((w2.setCell ⟨x.k, 0, none⟩ f).setCell ⟨x.k, 1, none⟩ (.pointer m)).setCell ⟨s, 1, none⟩ (.int .i64 z)).cell? ⟨t, i, none⟩ = some (.pointer (some ⟨x.k, 0, none⟩))) ∧
       ((((w2.setCell ⟨x.k, 0, none⟩ f).setCell ⟨x.k, 1, none⟩ (.pointer m)).setCell ⟨s, 1, none⟩ (.int .i64 z)).frozen? ⟨t, i, none⟩ = false)) ∧
      Sch (((w2.setCell ⟨x.k, 0, none⟩ f).setCell ⟨x.k, 1, none⟩ (.pointer m)).setCell ⟨s, 1, none⟩ (.int .i64 z)) s t (ts.set i (some ⟨x.k, f, m⟩)) z ∧
      Only (fun j => j = s ∨ j = t ∨ j = x.k) w2 (((w2.setCell ⟨x.k, 0, none⟩ f).setCell ⟨x.k, 1, none⟩ (.pointer m)).setCell ⟨s, 1, none⟩ (.int .i64 z)) := by
    intro f m w2 S2
    have hx := HX.out
    have S3 := S2.setNext hx f m
    have S4 := S3.setSteps z
    have hg : (ts.set i (some (⟨x.k, f, m⟩ : TS)))[i]? = some (some ⟨x.k, f, m⟩) := by rw [List.getElem?_set, if_pos rfl, if_pos HI.out]
    refine ⟨⟨S2.k0 hx, S2.k1 hx, S2.fk hx 0, S2.fk hx 1⟩, ⟨S3.c1, S3.f1 1⟩, ⟨S4.k0 hg, ?_, S4.cT hg, S4.fT i⟩, S4, ?_⟩
    · have := S4.c0
      rw [List.length_set] at this
      exact this
    · exact (((Only.refl (fun j => j = s ∨ j = t ∨ j = x.k) w2).setCell (p := ⟨x.k, 0, none⟩) (.inl (.inr (.inr rfl))) f).setCell (p := ⟨x.k, 1, none⟩) (.inl (.inr (.inr rfl))) _).setCell (p := ⟨s, 1, none⟩) (.inl (.inl rfl)) _
  have ends : ∀ (f : Value) (m : Option Addr) (w2 w4 : World), R f m w2 → Nx f → Sch w4 s t (ts.set i (some ⟨x.k, f, m⟩)) z → Only (fun j => j = s ∨ j = t ∨ j = x.k) w2 w4 →
      (f = .nilFunc → ∃ f m w2', R f m w2' ∧ Nx f ∧ Only (fun j => j = s ∨ j = t ∨ j = x.k) w2' (w4.setCell ⟨t, i, none⟩ (.pointer none)) ∧ Sch (w4.setCell ⟨t, i, none⟩ (.pointer none)) s t (ts.set i (nextT x.k f m)) (wrap64 (steps + 1))) ∧
      (IsFn f → ∃ f m w2', R f m w2' ∧ Nx f ∧ Only (fun j => j = s ∨ j = t ∨ j = x.k) w2' w4 ∧ Sch w4 s t (ts.set i (nextT x.k f m)) (wrap64 (steps + 1))) := by
    intro f m w2 w4 hR hN S4 O4
    refine ⟨fun e => ⟨f, m, w2, hR, hN, O4.setCell (p := ⟨t, i, none⟩) (.inl (.inr (.inl rfl))) _, ?_⟩, fun e => ⟨f, m, w2, hR, hN, O4, ?_⟩⟩
    · subst e
      have := S4.setSlot (i := i) (by simpa using HI.out) none (fun z hz => by cases hz)
      rw [List.set_set] at this
      rw [← HZ.out]
      exact this
    · obtain ⟨G, d, rfl⟩ := e
      rw [← HZ.out]
      exact S4
  have TAIL := Lib.hid tail
  have ENDS := Lib.hid ends
  have hnn := nil_nil
  have hpp := ptr_eq x.k
  unfold Enters at eF
  clear tail ends h hx hi hz hF
  rcases hr with ⟨hm, -⟩ | ⟨a, hv, hm, hca, hrr⟩
  · rw [hm] at k1
    have hcall := hc w (.inl ⟨hm, rfl⟩)
    have HM := Lib.hid hm
    clear hc hm hfz
    go_enter Try.func16, Try.ntmps16
    go_wp2_with (first | (go_at_call 42; refine hin.mono ?_; rintro e w' ⟨rfl, rfl⟩) | (go_at_call 17; refine hal.mono ?_; rintro e w' ⟨rfl, rfl⟩) | (go_at_call 18; refine hrd.mono ?_; rintro e w' ⟨rfl, rfl⟩))
    refine hcall.mono ?_
    rintro e w2 ⟨f, m, rfl, hN, S2, hR⟩
    obtain ⟨⟨a1, a2, a3, a4⟩, ⟨b1, b2⟩, ⟨d1, d2, d3, d4⟩, S4, O4⟩ := TAIL.out f m w2 S2
    have E := Lib.hid (ENDS.out f m w2 _ hR hN S4 O4)
    clear S2 hR S4 O4 c0 cT k0 k1 hin hal hrd hcall
    rcases hN with rfl | ⟨G, d, rfl⟩
    · go_wp2_with fail
      go_ret
      first | exact ⟨rfl, E.out.1 rfl⟩ | exact ⟨rfl, E.out.1 trivial⟩
    · have hfn := fn_nil G d
      go_wp2_with fail
      go_ret
      exact ⟨rfl, E.out.2 ⟨G, d, rfl⟩⟩
  · rw [hm] at k1
    have hcall := hc _ (.inr ⟨a, hm, rfl⟩)
    have fa := hfz a hm
    have k0' : (w.setCell a (.int .i64 (i : Int))).cell? ⟨x.k, 0, none⟩ = some (.func (.func F) #[] c) := (World.cell?_setCell_other _ _ _ _ (fun e => by rw [e, k0] at hca; injection hca with hca; cases hca)).trans k0
    have HM := Lib.hid hm
    clear hc hm hfz hrr
    go_enter Try.func16, Try.ntmps16
    go_wp2_with (first | (go_at_call 42; refine hin.mono ?_; rintro e w' ⟨rfl, rfl⟩) | (go_at_call 17; refine hal.mono ?_; rintro e w' ⟨rfl, rfl⟩) | (go_at_call 18; refine hrd.mono ?_; rintro e w' ⟨rfl, rfl⟩))
    refine hcall.mono ?_
    rintro e w2 ⟨f, m, rfl, hN, S2, hR⟩
    obtain ⟨⟨a1, a2, a3, a4⟩, ⟨b1, b2⟩, ⟨d1, d2, d3, d4⟩, S4, O4⟩ := TAIL.out f m w2 S2
    have E := Lib.hid (ENDS.out f m w2 _ hR hN S4 O4)
    clear S2 hR S4 O4 c0 cT k0 k1 hin hal hrd hcall
    rcases hN with rfl | ⟨G, d, rfl⟩
    · go_wp2_with fail
      go_ret
      first | exact ⟨rfl, E.out.1 rfl⟩ | exact ⟨rfl, E.out.1 trivial⟩
    · have hfn := fn_nil G d
      go_wp2_with fail
      go_ret
      exact ⟨rfl, E.out.2 ⟨G, d, rfl⟩⟩

theorem OwnN.nil {B : Nat} {v : Value} {w : World} (h : OwnN B v [] w) : ∃ a cap, v = .slice a 0 cap := by
  obtain ⟨_, ⟨rfl, _⟩ | ⟨g, cap, cur, rfl, _⟩⟩ := h
  · exact ⟨none, 0, rfl⟩
  · exact ⟨some ⟨g, 0, none⟩, cap, rfl⟩
theorem OwnN.form {B : Nat} {v : Value} {l : List Nat} {w : World} (h : OwnN B v l w) (hl : 0 < l.length) : ∃ g cap, v = .slice (some ⟨g, 0, none⟩) l.length cap ∧ B ≤ g ∧ g < w.heap.size ∧ ∀ k (hk : k < l.length), w.cell? ⟨g, k, none⟩ = some (.int .i64 (l[k] : Int)) := by
  obtain ⟨_, ⟨rfl, h0⟩ | ⟨g, cap, cur, rfl, hB, hg, h1, h2, h3, h4⟩⟩ := h
  · omega
  · refine ⟨g, cap, rfl, hB, heap_lt hg, fun k hk => ?_⟩
    have h5 : (cur.toList.take (l.length * 1))[k]? = (l.map natI)[k]? := by rw [h4]
    rw [List.getElem?_take, if_pos (by omega)] at h5
    simp only [World.cell?, hg]
    simp [hk, natI] at h5
    simp [h5]

/-- Nobody is ready. -/
theorem pick_none {w : World} {s t : Nat} {ts : List (Option TS)} {steps : Int} (h : Sch w s t ts steps) (r : Nat → Bool) (hr : ∀ (i : Nat) x, ts[i]? = some x → Rdy w x (r i)) (n : Int) (hl : readyL r ts.length = []) :
    Calls Try.prog 12 #[.pointer (some ⟨s, 0, none⟩), .int .i64 n] w fun e w' => e = .returned (.tuple #[.int .i64 0, .bool false]) ∧ Below w.heap.size w w' := by
  have hrd := sched_ready h r hr
  rw [hl] at hrd
  clear h hr hl
  go_enter Try.func12, Try.ntmps12
  go_wp2_with fail
  refine hrd.mono ?_
  rintro e w1 ⟨v, rfl, hown, hB⟩
  obtain ⟨a, cap, rfl⟩ := hown.nil
  have HB := Lib.hid hB
  clear hown hB hrd
  go_wp2_with fail
  go_ret2
  exact ⟨rfl, HB.out⟩
/-- The place of n among so many. -/
def placeN (n : Int) (k : Nat) : Nat := (n % (k : Int)).toNat
/-- One of the ready ones does its step. -/
theorem pick_does {w : World} {s t : Nat} {ts : List (Option TS)} {steps : Int} (h : Sch w s t ts steps) (r : Nat → Bool) (hr : ∀ (i : Nat) x, ts[i]? = some x → Rdy w x (r i)) (n : Int) (hl : 0 < (readyL r ts.length).length)
    (i : Nat) (hi : (readyL r ts.length).getD (placeN n (readyL r ts.length).length) 0 = i) (Q : World → World → Prop)
    (hstep : ∀ w1, Below w.heap.size w w1 → Calls Try.prog 16 #[.pointer (some ⟨s, 0, none⟩), .int .i64 (i : Int)] w1 fun e w' => e = .returned (.int .i64 0) ∧ Q w1 w' ∧ ∀ b, w.heap.size ≤ b → b < w1.heap.size → w'.heap[b]? = w1.heap[b]?) :
    Calls Try.prog 12 #[.pointer (some ⟨s, 0, none⟩), .int .i64 n] w fun e w' => e = .returned (.tuple #[.int .i64 (i : Int), .bool true]) ∧ ∃ w1, Below w.heap.size w w1 ∧ Q w1 w' := by
  have hrd := sched_ready h r hr
  have h16 : (readyL r ts.length).length ≤ 16 := Nat.le_trans (readyL_len _ _) h.few
  generalize readyL r ts.length = l at hrd hl hi h16
  obtain ⟨L, hL⟩ : ∃ L, L = l.length := ⟨_, rfl⟩
  obtain ⟨k, hk⟩ : ∃ k, k = placeN n L := ⟨_, rfl⟩
  have hkL : k < L := by rw [hk]; unfold placeN; have := Int.emod_lt_of_pos n (show (0 : Int) < (L : Int) by omega); have := Int.emod_nonneg n (show (L : Int) ≠ 0 by omega); omega
  rw [← hL, ← hk] at hi
  have hil : l[k]? = some i := by rw [← hi, List.getD_eq_getElem?_getD, List.getElem?_eq_getElem (by omega)]; rfl
  have hb0 : ((L : Int) == 0) = false := by simp; omega
  have hkI : (k : Int) < (L : Int) := by omega
  have hmod : (n.tmod L < 0 ∧ n.tmod L + L = k) ∨ (¬ n.tmod L < 0 ∧ n.tmod L = k) := by
    have h0 : (L : Int) ≠ 0 := by omega
    have hkk : (k : Int) = n % (L : Int) := by rw [hk]; unfold placeN; have := Int.emod_nonneg n h0; omega
    rw [hkk, Int.tmod_eq_emod]
    have e1 := Int.emod_nonneg n h0
    have e2 := Int.emod_lt_of_pos n (show (0 : Int) < (L : Int) by omega)
    split <;> omega
  have HIL := Lib.hid hil
  have HL := Lib.hid hL
  have HK := Lib.hid hkL
  have HST := Lib.hid hstep
  have hL16 : L ≤ 16 := by omega
  have hl0 : 0 < L := by omega
  clear h hr hi hk hstep h16 hl hil hkL
  go_enter Try.func12, Try.ntmps12
  go_wp2_with fail
  refine hrd.mono ?_
  rintro e w1 ⟨v, rfl, hown, hB⟩
  obtain ⟨g, cap, rfl, hg1, hg2, hcl⟩ := hown.form (by have := HL.out; omega)
  rw [← HL.out]
  have ck : w1.cell? ⟨g, k, none⟩ = some (.int .i64 (i : Int)) := by
    have h1 : k < l.length := by have := HL.out; have := HK.out; omega
    have h2 := HIL.out
    rw [List.getElem?_eq_getElem h1] at h2
    injection h2 with h2
    rw [hcl k h1, h2]
  have HB := Lib.hid hB
  have hstep := HST.out w1 hB
  have HG := Lib.hid (show ∀ w' : World, (∀ b, w.heap.size ≤ b → b < w1.heap.size → w'.heap[b]? = w1.heap[b]?) → w'.cell? ⟨g, k, none⟩ = some (.int .i64 (i : Int)) from fun w' hw => by
    have e := hw g hg1 hg2
    rw [← ck]
    simp only [World.cell?]
    rw [e])
  clear hown hB hrd hcl hg1 hg2 hL
  obtain ⟨d, hd⟩ : ∃ d, d = n.tmod (L : Int) := ⟨_, rfl⟩
  have HD := Lib.hid hd
  rw [← hd] at hmod
  rcases hmod with ⟨m1, m2⟩ | ⟨m1, m2⟩
  · have hdn : n.tmod (L : Int) = d := hd.symm
    clear hd
    go_wp2_with fail
    refine hstep.mono ?_
    rintro e w2 ⟨rfl, hQ, hw⟩
    have ck2 := HG.out w2 hw
    have HQ := Lib.hid hQ
    clear hw hQ ck hstep
    go_wp2_with fail
    go_ret2
    exact ⟨rfl, w1, HB.out, HQ.out⟩
  · have hdn : n.tmod (L : Int) = k := by rw [← hd]; exact m2
    have m3 : ¬ (k : Int) < 0 := by omega
    clear hd m1 m2
    go_wp2_with fail
    refine hstep.mono ?_
    rintro e w2 ⟨rfl, hQ, hw⟩
    have ck2 := HG.out w2 hw
    have HQ := Lib.hid hQ
    clear hw hQ ck hstep
    go_wp2_with fail
    go_ret2
    exact ⟨rfl, w1, HB.out, HQ.out⟩
end Go.Proofs.Ytccliallljcjgaa
