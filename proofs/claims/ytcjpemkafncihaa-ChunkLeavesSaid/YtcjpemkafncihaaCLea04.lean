/- Texts put together: ChunkNew, ChunkParts, ChunkMeetsPlain -/
import Derived.Test.YtcjpemkafncihaaCLea03
import Derived.RangeFuncWrites
import Derived.Test.YtcjpemkafncihaaCLea02
/- New; Parts: the boxes of its closure. -/
set_option linter.unusedVariables false
set_option maxRecDepth 100000
namespace Go.Proofs.Ytcjpemkafncihaa
open Go.RowKit

theorem Conf.not_ok {c : Conf} {l m M : Nat} (h : c.Nat3 l m M) : c.ok = true := by
  obtain ⟨e8, e9, e10, l1, m1, m2, M1, M2⟩ := h
  simp only [Conf.ok, okC, Bool.and_eq_true, decide_eq_true_eq]
  omega
set_option maxHeartbeats 4000000 in
theorem chk_New {c : Conf} {l m M : Nat} (h3 : c.Nat3 l m M) (w : World) : Calls Try.prog 15 #[.agg c.cells] w fun e w' => ∃ kb, e = .returned (.tuple #[.pointer (some ⟨kb, 0, none⟩), .int .i64 0]) ∧ w.heap.size ≤ kb ∧ CutB kb l m M [] 0 (.slice none 0 0) w' ∧ Below w.heap.size w w' := by
  have HCH := Lib.hid (fun W => chk_Check c W)
  rw [Conf.not_ok h3] at HCH
  obtain ⟨f, hf⟩ := c
  obtain ⟨e8, e9, e10, l1, m1, m2, M1, M2⟩ := h3
  simp only [Conf.cells] at e8 e9 e10 HCH ⊢
  rw [e8, e9, e10] at HCH ⊢
  generalize f 0 = c0 at *
  generalize f 1 = c1 at *
  generalize f 2 = c2 at *
  generalize f 3 = c3 at *
  generalize f 4 = c4 at *
  generalize f 5 = c5 at *
  generalize f 6 = c6 at *
  generalize f 7 = c7 at *
  generalize f 11 = c11 at *
  clear e8 e9 e10 hf f
  have hmw : IntKind.u32.wrap (m : Int) = (m : Int) := by rw [IntKind.wrap_u32']; omega
  obtain ⟨B, hB⟩ : ∃ B, B = w.heap.size := ⟨_, rfl⟩
  rw [← hB]
  have HB := Lib.hid hB
  obtain ⟨cs, hcs⟩ : ∃ cs : Array Value, cs = #[.int .i64 c0, .int .i64 c1, .int .i64 c2, .int .i64 c3, .int .i64 c4, .int .i64 c5, .int .i64 c6, .int .i64 c7, .int .i64 (l : Int), .int .i64 (m : Int), .int .i64 (M : Int), .int .i64 c11] := ⟨_, rfl⟩
  obtain ⟨w1, hw1⟩ : ∃ w1, w.alloc (.cells #[.int .i64 c0, .int .i64 c1, .int .i64 c2, .int .i64 c3, .int .i64 c4, .int .i64 c5, .int .i64 c6, .int .i64 c7, .int .i64 (l : Int), .int .i64 (m : Int), .int .i64 (M : Int), .int .i64 c11] 23) = w1 := ⟨_, rfl⟩
  have K1 := Lib.hid (show Below B w w1 by rw [← hw1, hB]; exact (Below.refl _ _).alloc (Nat.le_refl _) _)
  have X1 := Lib.hid (show w1.heap[B]? = some (.cells cs 23 (0, 0)) by rw [← hw1, hB, hcs]; exact heap_new w _)
  have HW1 := Lib.hid hw1
  have HCS := Lib.hid hcs
  clear hw1 hB hcs
  have q0 : w1.cell? ⟨B, 0, none⟩ = some (.int .i64 c0) := by simp [World.cell?, X1.out, HCS.out]
  have q1 : w1.cell? ⟨B, 1, none⟩ = some (.int .i64 c1) := by simp [World.cell?, X1.out, HCS.out]
  have q2 : w1.cell? ⟨B, 2, none⟩ = some (.int .i64 c2) := by simp [World.cell?, X1.out, HCS.out]
  have q3 : w1.cell? ⟨B, 3, none⟩ = some (.int .i64 c3) := by simp [World.cell?, X1.out, HCS.out]
  have q4 : w1.cell? ⟨B, 4, none⟩ = some (.int .i64 c4) := by simp [World.cell?, X1.out, HCS.out]
  have q5 : w1.cell? ⟨B, 5, none⟩ = some (.int .i64 c5) := by simp [World.cell?, X1.out, HCS.out]
  have q6 : w1.cell? ⟨B, 6, none⟩ = some (.int .i64 c6) := by simp [World.cell?, X1.out, HCS.out]
  have q7 : w1.cell? ⟨B, 7, none⟩ = some (.int .i64 c7) := by simp [World.cell?, X1.out, HCS.out]
  have q8 : w1.cell? ⟨B, 8, none⟩ = some (.int .i64 (l : Int)) := by simp [World.cell?, X1.out, HCS.out]
  have q9 : w1.cell? ⟨B, 9, none⟩ = some (.int .i64 (m : Int)) := by simp [World.cell?, X1.out, HCS.out]
  have q10 : w1.cell? ⟨B, 10, none⟩ = some (.int .i64 (M : Int)) := by simp [World.cell?, X1.out, HCS.out]
  have q11 : w1.cell? ⟨B, 11, none⟩ = some (.int .i64 c11) := by simp [World.cell?, X1.out, HCS.out]
  go_enter Try.func15, Try.ntmps15
  go_upto_region 1 with (fail)
  rw [HW1.out, ← HB.out]
  go_wp2_with fail
  refine (HCH.out _).mono ?_
  rintro e w2 ⟨rfl, k2⟩
  have K2 := Lib.hid (K1.out.trans (k2.mono (by have := heap_lt X1.out; omega)))
  have X2 := Lib.hid ((k2.block B (heap_lt X1.out)).trans X1.out)
  clear k2 q0 q1 q2 q3 q4 q5 q6 q7 q8 q9 q10 q11
  have q8 : w2.cell? ⟨B, 8, none⟩ = some (.int .i64 (l : Int)) := by simp [World.cell?, X2.out, HCS.out]
  have q9 : w2.cell? ⟨B, 9, none⟩ = some (.int .i64 (m : Int)) := by simp [World.cell?, X2.out, HCS.out]
  have q10 : w2.cell? ⟨B, 10, none⟩ = some (.int .i64 (M : Int)) := by simp [World.cell?, X2.out, HCS.out]
  simp only [cond_true]
  go_wp2_with fail
  go_ret2
  refine ⟨w2.heap.size, rfl, (by have := K2.out.size; have := HB.out; omega), ?_, K2.out.alloc (by have := K2.out.size; have := HB.out; omega) _⟩
  unfold CutB
  rw [heap_new]
  congr 2
/-- What the closure of Parts finds. -/
structure PartB (cb xb : Nat) (c : Conf) (v : Value) (D : List UInt8) (w : World) : Prop where
  hcb : w.heap[cb]? = some (.cells c.cells 23 (0, 0))
  hxb : w.heap[xb]? = some (.cells #[v] 24 (0, 0))
  data : BsV (fun k => v.ownBlock = some k) w v D
  acb : v.ownBlock ≠ some cb
  axb : v.ownBlock ≠ some xb
  lt : ∀ g, v.ownBlock = some g → g < w.heap.size
set_option maxHeartbeats 4000000 in
theorem chk_Parts {c : Conf} {Q : Nat → Prop} {v : Value} {D : List UInt8} {w : World} (h : Hid (BsV Q w v D)) (hl : D.length ≤ 10000000) : Calls Try.prog 18 #[.agg c.cells, v] w fun e w' => ∃ cb xb v', e = .returned (.func (.func 24) #[] #[.pointer (some ⟨cb, 0, none⟩), .pointer (some ⟨xb, 0, none⟩)]) ∧ PartB cb xb c v' D w' ∧ w.heap.size ≤ cb ∧ w.heap.size ≤ xb ∧ (∀ g, v'.ownBlock = some g → w.heap.size ≤ g) ∧ Below w.heap.size w w' := by
  obtain ⟨cs, hcs⟩ : ∃ cs, cs = c.cells := ⟨_, rfl⟩
  rw [← hcs]
  have HCS := Lib.hid hcs
  obtain ⟨B, hB⟩ : ∃ B, B = w.heap.size := ⟨_, rfl⟩
  rw [← hB]
  have HB := Lib.hid hB
  obtain ⟨w1, hw1⟩ : ∃ w1, w.alloc (.cells cs 23) = w1 := ⟨_, rfl⟩
  have K1 := Lib.hid (show Below B w w1 by rw [← hw1, hB]; exact (Below.refl _ _).alloc (Nat.le_refl _) _)
  have X1 := Lib.hid (show w1.heap[B]? = some (.cells cs 23 (0, 0)) by rw [← hw1, hB]; exact heap_new w _)
  have HW1 := Lib.hid hw1
  have HD1 := Lib.hid (h.out.below (hB ▸ K1.out))
  clear hw1 hB hcs
  go_enter Try.func18, Try.ntmps18
  go_upto_region 1 with (fail)
  rw [HW1.out, ← HB.out]
  go_wp2_with fail
  refine (clone_bytes HD1 hl).mono ?_
  rintro e w2 ⟨v', rfl, o2, k2⟩
  have K2 := Lib.hid (K1.out.trans (k2.mono (by have := heap_lt X1.out; omega)))
  have X2 := Lib.hid ((k2.block B (heap_lt X1.out)).trans X1.out)
  have O2 := Lib.hid o2
  have HS1 := Lib.hid (show B < w1.heap.size from heap_lt X1.out)
  clear k2 o2
  obtain ⟨va, vc, rfl⟩ := OffRow.slice O2.out
  obtain ⟨w3, hw3⟩ : ∃ w3, w3 = w2.alloc (.cells #[.slice va D.length vc] 24) := ⟨_, rfl⟩
  have HX3 := Lib.hid (show w3.heap[w2.heap.size]? = some (.cells #[.slice va D.length vc] 24 (0, 0)) by rw [hw3]; exact heap_new w2 _)
  have HC3 := Lib.hid (show ∀ k, k < w2.heap.size → w3.heap[k]? = w2.heap[k]? from fun k hk => by
    rw [hw3]
    exact ((Below.refl w2.heap.size w2).alloc (Nat.le_refl _) _).block k hk)
  have K3 := Lib.hid (show Below B w w3 by rw [hw3]; exact K2.out.alloc (by have := K2.out.size; have := HB.out; omega) _)
  have HW3 := Lib.hid hw3
  clear hw3
  have z0 := (Below.refl w2.heap.size w2).alloc (Nat.le_refl _) (.cells #[.slice none 0 0] 24)
  have zc : (w2.alloc (.cells #[.slice none 0 0] 24)).cell? ⟨w2.heap.size, 0, none⟩ = some (.slice none 0 0) := box_new _ _ _
  have zf : (w2.alloc (.cells #[.slice none 0 0] 24)).frozen? ⟨w2.heap.size, 0, none⟩ = false := box_free _ _ _
  go_upto_region 2 with (fail)
  rw [← HW3.out]
  clear z0 zc zf
  go_wp2_with fail
  go_ret
  have hB2 : B < w2.heap.size := heap_lt X2.out
  refine ⟨B, w2.heap.size, _, rfl, ⟨by rw [← HCS.out]; exact (HC3.out B hB2).trans X2.out, HX3.out, ?_, fun h => ?_, fun h => ?_, fun g hg => ?_⟩, Nat.le_refl _, by omega, fun g hg => ?_, K3.out⟩
  · exact (BsV.of_own (OffRow.kept (OffRow.weak O2.out (Nat.zero_le _)) fun j hj => HC3.out j (OffRow.lt O2.out j hj).2)).own
  · have := (OffRow.lt O2.out B h).1; have := HS1.out; omega
  · have := (OffRow.lt O2.out _ h).2; omega
  · have := (OffRow.lt O2.out g hg).2; have := heap_lt HX3.out; omega
  · have := (OffRow.lt O2.out g hg).1
    have := HS1.out
    omega
end Go.Proofs.Ytcjpemkafncihaa
/- The chunks, as a range over a function. -/
set_option linter.unusedVariables false
set_option maxRecDepth 100000
namespace Go.Proofs.Ytcjpemkafncihaa
open Go.RowKit
attribute [local go_sem] Oper.semAt_some

/-- A chunk, and where it begins. -/
def encP (x : Nat × List UInt8) (args : Array Value) (W : World) : Prop := ∃ v, args = #[.int .i64 (x.1 : Int), v] ∧ BsV (fun _ => True) W v x.2
theorem BsV.mono' {Q Q' : Nat → Prop} {w : World} {v v' : Value} {L : List UInt8} (h : BsV Q w v' L) (e : v = v') (k : ∀ b, v.ownBlock = some b → Q' b) : BsV Q' w v L := by
  subst e
  exact h.own.mono k
theorem BsV.putLoop {v : Value} {L : List UInt8} {A : World} {l : Nat} {r r' : Loop} (h : BsV (fun _ => True) A v L) (hl : A.heap[l]? = some (.loop r)) : BsV (fun _ => True) (A.putObj l (.loop r')) v L := by
  rcases h with h | ⟨a, cap, h1, h2, h3⟩
  · exact .inl h
  · refine .inr ⟨a, cap, h1, h2, ?_⟩
    rcases h3 with h3 | ⟨b, off, e, hq, hb, hc⟩
    · exact .inl h3
    · by_cases hL : L = []
      · exact .inl hL
      · have hpos : 0 < L.length := List.length_pos_iff.2 hL
        have hbl : b ≠ l := fun e => by
          have h0 := hc 0 hpos
          rw [e] at h0
          have h1 : (L.map byteV)[0]? = none := by rw [← h0]; simp [World.cell?, hl]
          rw [List.getElem?_map, List.getElem?_eq_getElem hpos] at h1
          cases h1
        refine .inr ⟨b, off, e, trivial, by simpa [World.putObj] using hb, fun k hk => ?_⟩
        rw [← hc k hk]
        unfold World.cell?
        rw [World.putObj_heap_other (fun e => hbl e)]
/-- What is the closure's of Parts. -/
def PFs (cb xb : Nat) (v : Value) (k : Nat) : Prop := k = cb ∨ k = xb ∨ v.ownBlock = some k
theorem PartB.c {cb xb : Nat} {c : Conf} {v : Value} {D : List UInt8} {w : World} (h : PartB cb xb c v D w) : w.cell? ⟨cb, 0, none⟩ = some (.int .i64 (c.f 0)) ∧ w.cell? ⟨cb, 1, none⟩ = some (.int .i64 (c.f 1)) ∧ w.cell? ⟨cb, 2, none⟩ = some (.int .i64 (c.f 2)) ∧ w.cell? ⟨cb, 3, none⟩ = some (.int .i64 (c.f 3)) ∧ w.cell? ⟨cb, 4, none⟩ = some (.int .i64 (c.f 4)) ∧ w.cell? ⟨cb, 5, none⟩ = some (.int .i64 (c.f 5)) ∧ w.cell? ⟨cb, 6, none⟩ = some (.int .i64 (c.f 6)) ∧ w.cell? ⟨cb, 7, none⟩ = some (.int .i64 (c.f 7)) ∧ w.cell? ⟨cb, 8, none⟩ = some (.int .i64 (c.f 8)) ∧ w.cell? ⟨cb, 9, none⟩ = some (.int .i64 (c.f 9)) ∧ w.cell? ⟨cb, 10, none⟩ = some (.int .i64 (c.f 10)) ∧ w.cell? ⟨cb, 11, none⟩ = some (.int .i64 (c.f 11)) ∧ w.cell? ⟨xb, 0, none⟩ = some v := by
  refine ⟨?_, ?_, ?_, ?_, ?_, ?_, ?_, ?_, ?_, ?_, ?_, ?_, ?_⟩ <;> simp [World.cell?, h.hcb, h.hxb, Conf.cells]
theorem PartB.below {cb xb : Nat} {c : Conf} {v : Value} {D : List UInt8} {w w' : World} (h : PartB cb xb c v D w) (k : Below w.heap.size w w') : PartB cb xb c v D w' :=
  ⟨(k.block cb (heap_lt h.hcb)).trans h.hcb, (k.block xb (heap_lt h.hxb)).trans h.hxb, h.data.below k, h.acb, h.axb, fun g hg => Nat.lt_of_lt_of_le (h.lt g hg) k.size⟩
theorem enA_next {c : Cf} {pre D : List UInt8} {n : Nat} : ∀ {j i e : Nat}, (enA c pre D n j)[i]? = some e → ((enA c pre D n j).take i).getLastD 0 ≤ e ∧ e ≤ j
  | 0, i, e, h => by simp [enA] at h
  | j + 1, i, e, h => by
    rw [enA] at h ⊢
    by_cases hi : i < (enA c pre D n j).length
    · rw [List.getElem?_append_left hi] at h
      have := enA_next h
      rw [List.take_append_of_le_length (Nat.le_of_lt hi)]
      omega
    · rw [List.getElem?_append_right (by omega)] at h
      split at h
      · rw [if_pos (by assumption)]
        have hi2 : i = (enA c pre D n j).length := by
          have := (List.getElem?_eq_some_iff.1 h).1
          simp at this
          omega
        subst hi2
        simp at h
        rw [List.take_append_of_le_length (Nat.le_refl _), List.take_length]
        refine ⟨?_, by omega⟩
        rw [List.getLastD_eq_getLast?]
        cases hg : (enA c pre D n j).getLast? with
        | none => simp
        | some x =>
          have := enA_le (c := c) (pre := pre) (D := D) (n := n) j x (List.mem_of_getLast? hg)
          simp only [Option.getD_some]
          omega
      · simp at h
theorem prs_at (D : List UInt8) : ∀ (b : Nat) (L : List Nat) (i e : Nat), L[i]? = some e → (prs D b L)[i]? = some ((L.take i).getLastD b, (D.take e).drop ((L.take i).getLastD b))
  | b, [], i, e, h => by simp at h
  | b, x :: L, 0, e, h => by
    simp at h
    subst h
    rfl
  | b, x :: L, i + 1, e, h => by
    have h2 := prs_at D x L i e (by simpa using h)
    show (prs D x L)[i]? = _
    rw [h2]
    rw [List.take_succ_cons]
    cases L.take i <;> rfl
theorem prE_take (D : List UInt8) : ∀ (b : Nat) (L : List Nat) (i : Nat), prE D b (L.take i) = (prE D b L).take i
  | b, [], i => by simp [prE]
  | b, x :: L, 0 => by simp [prE]
  | b, x :: L, i + 1 => by rw [List.take_succ_cons, prE, prE, List.take_succ_cons, prE_take D x L i]
theorem EndS.keep {Fs S : Nat → Prop} {kb db bb l m M n j : Nat} {dv : Value} {pre D : List UInt8} {w w' : World} (h : EndS Fs kb db bb l m M dv pre D n j w) (k : Only S w w') (hS : ∀ i, S i → ¬ Fs i) : EndS Fs kb db bb l m M dv pre D n j w' := by
  have hc : ∀ {pr : List UInt8} {z : Nat} {lv : Value}, CutB kb l m M pr z lv w → CutB kb l m M pr z lv w' := fun hcut => (k.block kb (h.1.lt _ h.1.fk) fun hs => hS _ hs h.1.fk).trans hcut
  refine ⟨⟨(k.block db (h.1.lt _ h.1.fd) fun hs => hS _ hs h.1.fd).trans h.1.hdb, (k.block bb (h.1.lt _ h.1.fb) fun hs => hS _ hs h.1.fb).trans h.1.hbb, h.1.data.kept (fun b hb hlt => k.block b hlt fun hs => hS _ hs hb.1) k.size, h.1.fk, h.1.fd, h.1.fb, fun i hi => Nat.lt_of_lt_of_le (h.1.lt i hi) k.size⟩, fun h0 => ?_, fun i e h1 h2 => ?_⟩
  · obtain ⟨lv, hl⟩ := h.2.1 h0; exact ⟨lv, hc hl⟩
  · obtain ⟨lv, hl⟩ := h.2.2 i e h1 h2; exact ⟨lv, hc hl⟩
theorem EndE.keep {Fs S : Nat → Prop} {kb db bb l m M n : Nat} {dv : Value} {pre D : List UInt8} {w w' : World} (h : EndE Fs kb db bb l m M dv pre D n w) (k : Only S w w') (hS : ∀ i, S i → ¬ Fs i) : EndE Fs kb db bb l m M dv pre D n w' := by
  obtain ⟨lv, hl⟩ := h.2
  exact ⟨⟨(k.block db (h.1.lt _ h.1.fd) fun hs => hS _ hs h.1.fd).trans h.1.hdb, (k.block bb (h.1.lt _ h.1.fb) fun hs => hS _ hs h.1.fb).trans h.1.hbb, h.1.data.kept (fun b hb hlt => k.block b hlt fun hs => hS _ hs hb.1) k.size, h.1.fk, h.1.fd, h.1.fb, fun i hi => Nat.lt_of_lt_of_le (h.1.lt i hi) k.size⟩, lv, (k.block kb (h.1.lt _ h.1.fk) fun hs => hS _ hs h.1.fk).trans hl⟩
/-- What is the inner range's: the cutter, its closure's boxes, the copy. -/
def EFs (kb bb : Nat) (v : Value) (k : Nat) : Prop := k = kb ∨ k = bb + 1 ∨ k = bb ∨ v.ownBlock = some k
/-- Behind the places pr: what the caller's own is, what our boxes hold. -/
structure PI (J : List (Nat × List UInt8) → (Nat → Prop) → World → Prop) (tb kb gb bb cb xb lp : Nat) (c : Conf) (v : Value) (D : List UInt8) (YE : List Nat) (pr : List Nat) (S : Nat → Prop) (S1 : Nat → Prop) (W' : World) : Prop where
  hs : ∀ k, S k ↔ (S1 k ∨ k = gb ∨ k < tb) ∧ ¬ EFs kb bb v k
  hj : J (prE D 0 pr) S1 W'
  hs1 : ∀ k, S1 k → k < W'.heap.size ∧ ¬ PFs cb xb v k ∧ (k < tb ∨ bb + 2 ≤ k)
  hpr : pr = YE.take pr.length
  hg : W'.heap[gb]? = some (.cells #[.int .i64 ((pr.getLastD 0 : Nat) : Int)] 3 (0, 0))
  ht : W'.heap[tb]? = some (.cells #[.func (.yield lp) #[] #[]] 62 (0, 0))
  hc : W'.heap[cb]? = some (.cells c.cells 23 (0, 0))
  hx : W'.heap[xb]? = some (.cells #[v] 24 (0, 0))
  hsz : bb + 2 ≤ W'.heap.size
set_option maxHeartbeats 16000000 in
theorem parts_in (n cb xb : Nat) {c : Conf} {l m M : Nat} (h3 : Hid (c.Nat3 l m M)) (v : Value) (D : List UInt8) (hD : D.length ≤ 1000000) (lp : Nat) (J : List (Nat × List UInt8) → (Nat → Prop) → World → Prop) (Jx : List (Nat × List UInt8) → World → Prop) (W : World) (S0 : Nat → Prop) (Y : List (Nat × List UInt8)) (hYY : Hid (Y = prs D 0 (enA ⟨l, m, M⟩ [] D 0 D.length)))
    (hJ : Hid (∀ pr S A B Sx, J pr S A → Only Sx A B → True → (∀ k, Sx k → (PFs cb xb v k ∨ W.heap.size ≤ k) ∧ ¬ S k) → J pr S B))
    (hY : Hid (∀ pr S x args W1, J pr S W1 → PartB cb xb c v D W1 → Y[pr.length]? = some x → encP x args W1 → YieldAt Fence.wide (n - 1) Try.prog lp args W1 fun e W' =>
      (e = .returned (.bool true) ∧ Only (fun k => S k ∨ k < W.heap.size) W1 W' ∧ PartB cb xb c v D W' ∧ ∃ S', (∀ k, S' k → (S k ∨ W1.heap.size ≤ k) ∧ k < W'.heap.size) ∧ J (pr ++ [x]) S' W') ∨ (e = .returned (.bool false) ∧ Only (fun k => S k ∨ k < W.heap.size) W1 W' ∧ PartB cb xb c v D W' ∧ Jx (pr ++ [x]) W')))
    (hJx : Hid (∀ pr A B, Jx pr A → Only (fun k => W.heap.size ≤ k) A B → Jx pr B))
    (h0 : Hid (J [] S0 W)) (hS0 : Hid (∀ k, S0 k → k < W.heap.size ∧ ¬ PFs cb xb v k)) (hC : Hid (PartB cb xb c v D W ∧ ∀ k, PFs cb xb v k → k < W.heap.size)) :
    Calls Try.prog 24 #[.func (.yield lp) #[] #[], .pointer (some ⟨cb, 0, none⟩), .pointer (some ⟨xb, 0, none⟩)] W fun en W' => (∃ v, en = .returned v) ∧ ((∃ S', J Y S' W') ∨ (∃ pr, Jx pr W')) := by
  obtain ⟨tb, htb⟩ : ∃ tb, tb = W.heap.size := ⟨_, rfl⟩
  have HTB := Lib.hid htb
  obtain ⟨w1, hw1⟩ : ∃ w1, W.alloc (.cells #[.func (.yield lp) #[] #[]] 62) = w1 := ⟨_, rfl⟩
  have T1 := Lib.hid (show w1.heap[tb]? = some (.cells #[.func (.yield lp) #[] #[]] 62 (0, 0)) by rw [← hw1, htb]; exact heap_new W _)
  have K1 := Lib.hid (show Below tb W w1 by rw [← hw1, htb]; exact (Below.refl _ _).alloc (Nat.le_refl _) _)
  have P1 := Lib.hid (hC.out.1.below (htb ▸ K1.out))
  have HW1 := Lib.hid hw1
  clear hw1 htb
  obtain ⟨q0, q1, q2, q3, q4, q5, q6, q7, q8, q9, q10, q11, qx⟩ := P1.out.c
  obtain ⟨va, vc, hva⟩ := hC.out.1.data.slice
  subst hva
  refine (callsIn_wide (n := 5)).1 ?_
  refine callsIn_of_wp_marks Try.func24 rfl trivial ?_ rfl
  simp only [Try.ntmps24, List.size_toArray, List.length_cons, List.length_nil, Nat.reduceAdd, Nat.reduceSub, Array.replicate_succ, Array.replicate_zero, List.push_toArray, List.append_toArray, List.nil_append, List.cons_append]
  refine (wpIn_wide (n := 5)).2 ?_
  go_upto_region 1 with (fail)
  rw [HW1.out, ← HTB.out]
  go_wp2_with fail
  refine (chk_New h3.out w1).mono ?_
  rintro e w2 ⟨kb, rfl, hkb, hcut, k2⟩
  have K2 := Lib.hid (K1.out.trans (k2.mono (Nat.le_of_lt (heap_lt T1.out))))
  have T2 := Lib.hid ((k2.block tb (heap_lt T1.out)).trans T1.out)
  have P2 := Lib.hid (P1.out.below k2)
  have C2 := Lib.hid hcut
  have HKB := Lib.hid (show tb < kb from Nat.lt_of_lt_of_le (heap_lt T1.out) hkb)
  clear hkb hcut k2 q0 q1 q2 q3 q4 q5 q6 q7 q8 q9 q10 q11 qx
  obtain ⟨w3, hw3⟩ : ∃ w3, w2.alloc (.cells #[.int .i64 0] 3) = w3 := ⟨_, rfl⟩
  obtain ⟨gb, hgb⟩ : ∃ gb, gb = w2.heap.size := ⟨_, rfl⟩
  have HGB := Lib.hid hgb
  have k3 : Below gb w2 w3 := by rw [← hw3, hgb]; exact (Below.refl _ _).alloc (Nat.le_refl _) _
  have G3 := Lib.hid (show w3.heap[gb]? = some (.cells #[.int .i64 0] 3 (0, 0)) by rw [← hw3, hgb]; exact heap_new w2 _)
  have HKG := Lib.hid (show kb < gb by rw [hgb]; exact heap_lt C2.out)
  rw [hgb] at k3
  have K3 := Lib.hid (K2.out.trans (k3.mono (by have := heap_lt T2.out; omega)))
  have T3 := Lib.hid ((k3.block tb (heap_lt T2.out)).trans T2.out)
  have P3 := Lib.hid (P2.out.below k3)
  have C3 := Lib.hid (show CutB kb l m M [] 0 (.slice none 0 0) w3 from (k3.block kb (heap_lt C2.out)).trans C2.out)
  have HW3 := Lib.hid hw3
  clear hw3 k3 hgb
  obtain ⟨-, -, -, -, -, -, -, -, -, -, -, -, qx⟩ := P3.out.c
  go_upto_region 4 with (fail)
  rw [HW3.out, ← HGB.out]
  go_wp2_with fail
  refine (cut_ends kb va D.length vc w3).mono ?_
  rintro e w5 ⟨rfl, hw5⟩
  have k5 : Below w3.heap.size w3 w5 := by rw [hw5]; exact ((Below.refl _ _).alloc (Nat.le_refl _) _).alloc (by simp) _
  obtain ⟨bb, hbb⟩ : ∃ bb, bb = w3.heap.size := ⟨_, rfl⟩
  rw [← hbb]
  have B5 := Lib.hid (show w5.heap[bb]? = some (.cells #[.pointer (some ⟨kb, 0, none⟩)] 36 (0, 0)) by rw [hw5, hbb]; exact (Below.heap_alloc _ _ _ (by simp)).trans (heap_new w3 _))
  have D5 := Lib.hid (show w5.heap[bb + 1]? = some (.cells #[.slice va D.length vc] 24 (0, 0)) by
    rw [hw5, hbb]
    have := heap_new (w3.alloc (.cells #[.pointer (some ⟨kb, 0, none⟩)] 36)) (.cells #[.slice va D.length vc] 24)
    rw [show (w3.alloc (.cells #[.pointer (some ⟨kb, 0, none⟩)] 36)).heap.size = w3.heap.size + 1 by simp] at this
    exact this)
  have S5 := Lib.hid (show w5.heap.size = bb + 2 by rw [hw5, hbb]; simp)
  have K5 := Lib.hid (K3.out.trans (k5.mono (by have := heap_lt T3.out; omega)))
  have T5 := Lib.hid ((k5.block tb (heap_lt T3.out)).trans T3.out)
  have G5 := Lib.hid ((k5.block gb (heap_lt G3.out)).trans G3.out)
  have P5 := Lib.hid (P3.out.below k5)
  have C5 := Lib.hid (show CutB kb l m M [] 0 (.slice none 0 0) w5 from (k5.block kb (heap_lt C3.out)).trans C3.out)
  have HGB5 := Lib.hid (show gb < bb by rw [hbb]; exact heap_lt G3.out)
  clear hw5 k5 hbb qx K1 K2 K3 T1 T2 T3 P1 P2 P3 C2 C3 G3 HW1 HW3
  go_wp2_with fail
  obtain ⟨v, hv⟩ : ∃ v, v = Value.slice va D.length vc := ⟨_, rfl⟩
  have HV := Lib.hid hv
  obtain ⟨YE, hYE⟩ : ∃ YE, YE = enA ⟨l, m, M⟩ [] D 0 D.length := ⟨_, rfl⟩
  have HYE := Lib.hid hYE
  clear hv hYE
  have m1 := h3.out.m1
  have m2 := h3.out.m2
  have hl4 : l ≤ 4096 := Nat.le_trans h3.out.M1 h3.out.M2
  have hM4 := h3.out.M2
  have HOWN := Lib.hid (show ∀ k, v.ownBlock = some k → k < tb ∧ k ≠ cb ∧ k ≠ xb from fun k hk => by
    rw [HV.out] at hk
    refine ⟨by rw [HTB.out]; exact hC.out.2 k (.inr (.inr hk)), fun e => ?_, fun e => ?_⟩
    · rw [e] at hk; exact hC.out.1.acb hk
    · rw [e] at hk; exact hC.out.1.axb hk)
  have HCB := Lib.hid (show cb < tb ∧ xb < tb by rw [HTB.out]; exact ⟨hC.out.2 cb (.inl rfl), hC.out.2 xb (.inr (.inl rfl))⟩)
  have HEF := Lib.hid (show ∀ k, EFs kb bb v k → k < bb + 2 from fun k hk => by
    have := HKB.out; have := HKG.out; have := HGB5.out
    rcases hk with h | h | h | h
    · omega
    · omega
    · omega
    · have := (HOWN.out k h).1; omega)
  have HST := Lib.hid (ends_stops 4 kb (bb + 1) bb l m M v [] D 0 (EFs kb bb v) m1 m2 hl4 hM4 (by omega) (by omega))
  rw [← HYE.out] at HST
  have HI0 := Lib.hid (show PI J tb kb gb bb cb xb lp c v D YE [] (fun k => (S0 k ∨ k = gb ∨ k < tb) ∧ ¬ EFs kb bb v k) S0 w5 from
    ⟨fun k => Iff.rfl, hJ.out _ _ _ _ (fun _ => False) h0.out (Only.of_below K5.out fun k h1 h2 => by have := HTB.out; omega) trivial (fun k hk => hk.elim), fun k hk => by
      have h1 := hS0.out k hk
      rw [← HV.out] at h1
      have h2 := HTB.out
      have h3 := HGB5.out
      have h4 := HKG.out
      have h5 := HKB.out
      exact ⟨by rw [S5.out]; omega, h1.2, .inl (by omega)⟩, by simp, G5.out, T5.out, P5.out.hcb, by rw [HV.out]; exact P5.out.hxb, by rw [S5.out]; exact Nat.le_refl _⟩)
  have HIK := Lib.hid (show ∀ pr S S1 A B Sx, PI J tb kb gb bb cb xb lp c v D YE pr S S1 A → Only Sx A B → (∀ k, Sx k → (EFs kb bb v k ∨ bb + 2 ≤ k) ∧ ¬ S k) → PI J tb kb gb bb cb xb lp c v D YE pr S S1 B from fun pr S S1 A B Sx hA hAB hSx => by
    have g1 := HKB.out
    have g2 := HKG.out
    have g3 := HGB5.out
    have g4 := HTB.out
    have g5 := HCB.out
    have old : ∀ k, k < tb → k ≠ kb → v.ownBlock ≠ some k → ¬ Sx k := fun k h1 h2 h3 hk => by
      rcases (hSx k hk).1 with h | h
      · rcases h with h | h | h | h
        · exact h2 h
        · omega
        · omega
        · exact h3 h
      · omega
    have hgbn : ¬ Sx gb := fun hk => by
      rcases (hSx gb hk).1 with h | h
      · rcases h with h | h | h | h
        · omega
        · omega
        · omega
        · have := (HOWN.out gb h).1; omega
      · omega
    have htbn : ¬ Sx tb := fun hk => by
      rcases (hSx tb hk).1 with h | h
      · rcases h with h | h | h | h
        · omega
        · omega
        · omega
        · have := (HOWN.out tb h).1; omega
      · omega
    refine ⟨hA.hs, hJ.out _ _ _ _ _ hA.hj hAB trivial (fun k hk => ?_), fun k hk => ?_, hA.hpr, (hAB.block gb (heap_lt hA.hg) hgbn).trans hA.hg, (hAB.block tb (heap_lt hA.ht) htbn).trans hA.ht, (hAB.block cb (heap_lt hA.hc) (old cb g5.1 (by omega) (fun h => (HOWN.out cb h).2.1 rfl))).trans hA.hc, (hAB.block xb (heap_lt hA.hx) (old xb g5.2 (by omega) (fun h => (HOWN.out xb h).2.2 rfl))).trans hA.hx, Nat.le_trans hA.hsz hAB.size⟩
    · have h1 := hSx k hk
      refine ⟨?_, fun hs1 => ?_⟩
      · rw [← HV.out, ← g4]
        rcases h1.1 with h | h
        · rcases h with h | h | h | h
          · right; omega
          · right; omega
          · right; omega
          · exact .inl (.inr (.inr h))
        · right; omega
      · have h2 := hA.hs1 k hs1
        rcases h1.1 with h | h
        · rcases h with h | h | h | h
          · have := h2.2.2; omega
          · have := h2.2.2; omega
          · have := h2.2.2; omega
          · exact h2.2.1 (.inr (.inr h))
        · exact h1.2 ((hA.hs k).2 ⟨.inl hs1, fun he => by have := HEF.out k he; omega⟩)
    · obtain ⟨h1, h2, h3⟩ := hA.hs1 k hk
      exact ⟨Nat.lt_of_lt_of_le h1 hAB.size, h2, h3⟩)
  refine (wpIn_wide (n := 5)).1 ?_
  refine wpIn_rangeFunc_sh (α := Nat) (n := 5) (by omega) (gf := 25) (lb := #[.pointer (some ⟨bb + 1, 0, none⟩), .pointer (some ⟨bb, 0, none⟩)]) rfl (enters_of Try.func25 (by kernel_rfl) rfl)
    kpl_trans kpl_putObj kpl_alloc HST.out (fun k hk => by rw [S5.out]; exact HEF.out k hk)
    (fun k A B hA hAB => hA.keep hAB (fun i hi he => by have := HEF.out i he; have := S5.out; omega)) (fun A B hA hAB => hA.keep hAB (fun i hi he => by have := HEF.out i he; have := S5.out; omega))
    (fun x args W h => by rw [show args = _ from h]; rfl) (fun x args A l r r' h _ => h)
    (fun pr S W' => ∃ S1, PI J tb kb gb bb cb xb lp c v D YE pr S S1 W') (fun cc pr W' => cc = .ret ∧ ∃ q, Jx q W') (fun k => (S0 k ∨ k = gb ∨ k < tb) ∧ ¬ EFs kb bb v k)
    (fun k hk => ⟨by
      have g3 := HGB5.out
      have g4 := HTB.out
      have g1 := HKB.out
      have g2 := HKG.out
      rw [S5.out]
      rcases hk.1 with h | h | h
      · have := (hS0.out k h).1; omega
      · omega
      · omega, hk.2⟩)
    (fun pr S A B Sx hA hAB _ hSx => by
      obtain ⟨S1, hP⟩ := hA
      exact ⟨S1, HIK.out pr S S1 A B Sx hP hAB (fun k hk => by have := hSx k hk; rw [S5.out] at this; exact this)⟩)
    (fun cc pr A B hA hAB => by
      obtain ⟨h1, q, hq⟩ := hA
      exact ⟨h1, q, hJx.out _ _ _ hq (hAB.mono fun k _ hk => by have := K5.out.size; have := HTB.out; omega)⟩)
    ⟨S0, HI0.out⟩ ⟨⟨by rw [HV.out]; exact D5.out, B5.out, P5.out.data.mono' HV.out (fun b hb => ⟨.inr (.inr (.inr hb)), fun e => by have := (HOWN.out b hb).1; have := HKB.out; omega⟩), .inl rfl, .inr (.inl rfl), .inr (.inr (.inl rfl)), fun k hk => by rw [S5.out]; exact HEF.out k hk⟩, fun _ => ⟨_, C5.out⟩, fun i e h => by omega⟩
    (fun t args => t.setIfInBounds 7 (args.getD 0 undef)) ?assign ?body ?done ?stop
  case assign =>
    intro lq x args W' K hR hK
    obtain rfl := hR
    gi_wp2
    simp at hK
    exact hK
  case body =>
    rintro lq pr S e args W' ⟨S1, hP⟩ hnF hES hx hR hsz
    obtain rfl := hR
    have g1 := HKB.out
    have g2 := HKG.out
    have g3 := HGB5.out
    have g4 := HTB.out
    have g5 := HCB.out
    obtain ⟨b, hb⟩ : ∃ b, b = pr.getLastD 0 := ⟨_, rfl⟩
    have hxx := hx
    rw [HYE.out] at hxx
    have hnx := enA_next hxx
    rw [← HYE.out, ← hP.hpr, ← hb] at hnx
    have hix := prs_at D 0 YE pr.length e hx
    rw [← hP.hpr, ← hb] at hix
    obtain ⟨vs, hsl, hvs⟩ := hES.1.data.part hnx.1 hnx.2
    rw [HV.out] at hsl
    have hPG := hP.hg
    rw [← hb] at hPG
    have HSN := Lib.hid (show prE D 0 (pr ++ [e]) = prE D 0 pr ++ [(b, (D.take e).drop b)] by rw [prE_snoc, hb])
    have HIX := Lib.hid (show Y[(prE D 0 pr).length]? = some (b, (D.take e).drop b) by rw [hYY.out, ← HYE.out, prE_len]; exact hix)
    have HP := Lib.hid hP
    have HES := Lib.hid hES
    have HX := Lib.hid hx
    have HVS := Lib.hid hvs
    have HPG := Lib.hid hPG
    have HPC := Lib.hid (And.intro hP.hpr (And.intro hb (show (D.take e).length = e by rw [List.length_take]; omega)))
    clear hxx hix hP hES hx hvs hPG hb g1 g2 g3 g4 g5
    gi_wp2
    refine wpIn_region_kept (fun V => V.cell? ⟨tb, 0, none⟩ = some (.func (.yield lp) #[] #[]) ∧ V.cell? ⟨gb, 0, none⟩ = some (.int .i64 (b : Int)) ∧ V.cell? ⟨xb, 0, none⟩ = some (.slice va D.length vc)) (by kernel_rfl) ?_
    have hS : W'.drew.cell? ⟨tb, 0, none⟩ = some (.func (.yield lp) #[] #[]) ∧ W'.drew.cell? ⟨gb, 0, none⟩ = some (.int .i64 (b : Int)) ∧ W'.drew.cell? ⟨xb, 0, none⟩ = some (.slice va D.length vc) := by
      refine ⟨?_, ?_, ?_⟩
      · show W'.cell? _ = _; simp [World.cell?, HP.out.ht]
      · show W'.cell? _ = _; simp [World.cell?, HPG.out]
      · show W'.cell? _ = _; simp [World.cell?, HP.out.hx, HV.out]
    have HD2 := Lib.hid (show Below W'.heap.size W' W'.drew from (Below.refl _ _).drew)
    generalize W'.drew = W2 at *
    refine keptIn_take (fenceOk_round (by kernel_rfl)) (i := 0) (d := 19) (v := (.func (.yield lp) #[] #[])) rfl rfl (by kernel_rfl) (by kernel_rfl) (by kernel_rfl) (fun _ _ _ h => h) (Or.inl ⟨by rfl, ?_⟩) hS ?_
    · intro w' hw'
      obtain ⟨r0, r1, r2⟩ := hw'
      go_simp
    try go_frame
    refine keptIn_take (fenceOk_round (by kernel_rfl)) (i := 1) (d := 20) (v := (.int .i64 (b : Int))) rfl rfl (by kernel_rfl) (by kernel_rfl) (by kernel_rfl) (fun _ _ _ h => h) (Or.inl ⟨by rfl, ?_⟩) hS ?_
    · intro w' hw'
      obtain ⟨r0, r1, r2⟩ := hw'
      go_simp
    try go_frame
    refine keptIn_take (fenceOk_round (by kernel_rfl)) (i := 2) (d := 21) (v := (.slice va D.length vc)) rfl rfl (by kernel_rfl) (by kernel_rfl) (by kernel_rfl) (fun _ _ _ h => h) (Or.inl ⟨by rfl, ?_⟩) hS ?_
    · intro w' hw'
      obtain ⟨r0, r1, r2⟩ := hw'
      go_simp
    try go_frame
    refine keptIn_take (fenceOk_round (by kernel_rfl)) (i := 3) (d := 22) (v := (.int .i64 (b : Int))) rfl rfl (by kernel_rfl) (by kernel_rfl) (by kernel_rfl) (fun _ _ _ h => h) (Or.inl ⟨by rfl, ?_⟩) hS ?_
    · intro w' hw'
      obtain ⟨r0, r1, r2⟩ := hw'
      go_simp
    try go_frame
    refine keptIn_take (fenceOk_round (by kernel_rfl)) (i := 4) (d := 23) (v := (.int .i64 (e : Int))) rfl rfl (by kernel_rfl) (by kernel_rfl) (by kernel_rfl) (fun _ _ _ h => h) (Or.inl ⟨by rfl, ?_⟩) hS ?_
    · intro w' hw'
      obtain ⟨r0, r1, r2⟩ := hw'
      go_simp
    try go_frame
    refine keptIn_take (fenceOk_round (by kernel_rfl)) (i := 5) (d := 24) (v := vs) rfl rfl (by kernel_rfl) (by kernel_rfl) (by kernel_rfl) (fun _ _ _ h => h) (Or.inl ⟨by rfl, ?_⟩) hS ?_
    · intro w' hw'
      obtain ⟨r0, r1, r2⟩ := hw'
      go_simp
    try go_frame
    refine keptIn_call (fenceOk_round (by kernel_rfl)) (wide_round _) (i := 6) (d := 25) rfl rfl (by kernel_rfl) (by rfl) 23 _ _ rfl (enters_of Try.func23 (by kernel_rfl) rfl) #[vs] (by simp [Act.eval]) (fun u V => OffRow V W2.heap.size 5 1 u ((D.take e).drop b).length (((D.take e).drop b).map byteV) ∧ Below W2.heap.size W2 V) (clone_bytes (Lib.hid (HVS.out.below HD2.out)) (by rw [List.length_drop]; have := HPC.out.2.2; omega)) ?_
    rintro u W3 ⟨ho3, hk3⟩
    have hS3 : W3.cell? ⟨tb, 0, none⟩ = some (.func (.yield lp) #[] #[]) ∧ W3.cell? ⟨gb, 0, none⟩ = some (.int .i64 (b : Int)) ∧ W3.cell? ⟨xb, 0, none⟩ = some (.slice va D.length vc) :=
      ⟨by rw [hk3.cell (cell_block hS.1)]; exact hS.1, by rw [hk3.cell (cell_block hS.2.1)]; exact hS.2.1, by rw [hk3.cell (cell_block hS.2.2)]; exact hS.2.2⟩
    have HK3 := Lib.hid (show Below W'.heap.size W' W3 from HD2.out.trans (hk3.mono HD2.out.size))
    have HO3 := Lib.hid (BsV.of_own ho3)
    refine ⟨hS3, ?_⟩
    clear hS ho3 hk3
    have hS := hS3
    clear hS3
    try go_frame
    have HJ3 := Lib.hid (HIK.out pr S S1 W' W3 (fun _ => False) HP.out (Only.of_below HK3.out fun k h1 h2 => by omega) (fun k hk => hk.elim))
    have HES3 := Lib.hid (HES.out.keep (Only.of_below (S := fun _ => False) HK3.out fun k h1 h2 => by omega) (fun i hi => hi.elim))
    have HPB3 := Lib.hid (show PartB cb xb c (.slice va D.length vc) D W3 from ⟨HJ3.out.hc, by rw [← HV.out]; exact HJ3.out.hx, by have h := HES3.out.1.data.own; rw [HV.out] at h; exact h, hC.out.1.acb, hC.out.1.axb, fun g hg => by have h1 := hC.out.1.lt g hg; have h2 := HTB.out; have h3 := HJ3.out.hsz; have h4 := HKB.out; have h5 := HKG.out; have h6 := HGB5.out; omega⟩)
    refine keptIn_yield (fenceOk_round (by kernel_rfl)) (i := 7) (d := 26) rfl rfl (by kernel_rfl) (by rfl) (.tmp 19) _ _ rfl (lp := lp) (by simp [Act.eval]) #[.int .i64 (b : Int), u] (by simp [Act.eval]) _ (hY.out (prE D 0 pr) S1 (b, (D.take e).drop b) #[.int .i64 (b : Int), u] W3 HJ3.out.hj HPB3.out HIX.out ⟨u, rfl, HO3.out.mono fun _ _ => trivial⟩) ?_
    have HN := Lib.hid (show (¬ EFs kb bb v gb) ∧ (∀ k, S1 k → k < tb ∨ bb + 2 ≤ k) ∧ (∀ k, tb ≤ k → k < bb + 2 → ¬ (S1 k ∨ k < W.heap.size)) from ⟨fun h => by
      have g1 := HKG.out
      have g2 := HGB5.out
      have g3 := HKB.out
      rcases h with h | h | h | h
      · omega
      · omega
      · omega
      · have := (HOWN.out gb h).1; omega, fun k hk => (HJ3.out.hs1 k hk).2.2, fun k h1 h2 h => by
      have g4 := HTB.out
      rcases h with h | h
      · have := (HJ3.out.hs1 k h).2.2; omega
      · omega⟩)
    have HOF := Lib.hid (show ∀ W4, Only (fun k => S1 k ∨ k < W.heap.size) W3 W4 → PartB cb xb c (.slice va D.length vc) D W4 → W4.heap[tb]? = some (.cells #[.func (.yield lp) #[] #[]] 62 (0, 0)) ∧ W4.heap[gb]? = some (.cells #[.int .i64 (b : Int)] 3 (0, 0)) ∧ EndS (EFs kb bb v) kb (bb + 1) bb l m M v [] D 0 (pr.length + 1) W4 ∧ Only (fun k => S k ∨ EFs kb bb v k) W' W4 from fun W4 ho hPB => by
      have g1 := HKG.out
      have g2 := HGB5.out
      have g3 := HKB.out
      have g4 := HTB.out
      have g6 := HJ3.out.hsz
      have hg3 := HJ3.out.hg
      rw [← HPC.out.2.1] at hg3
      refine ⟨(ho.block tb (heap_lt HJ3.out.ht) (HN.out.2.2 tb (Nat.le_refl _) (by omega))).trans HJ3.out.ht, (ho.block gb (heap_lt hg3) (HN.out.2.2 gb (by omega) (by omega))).trans hg3, ?_, ?_⟩
      · refine ⟨⟨(ho.block (bb + 1) (by omega) (HN.out.2.2 _ (by omega) (by omega))).trans HES3.out.1.hdb, (ho.block bb (by omega) (HN.out.2.2 _ (by omega) (by omega))).trans HES3.out.1.hbb, hPB.data.mono' HV.out (fun b' hb' => ⟨.inr (.inr (.inr hb')), fun e' => by have := (HOWN.out b' hb').1; omega⟩), .inl rfl, .inr (.inl rfl), .inr (.inr (.inl rfl)), fun k hk => Nat.lt_of_lt_of_le (HES3.out.1.lt k hk) ho.size⟩, fun h => by omega, fun i e' h1 h2 => ?_⟩
        obtain ⟨lv, hl⟩ := HES3.out.2.2 i e' h1 h2
        exact ⟨lv, (ho.block kb (by omega) (HN.out.2.2 _ (by omega) (by omega))).trans hl⟩
      · refine (Only.of_below HK3.out fun k h1 h2 => by omega).trans (ho.mono fun k _ hk => ?_)
        by_cases he : EFs kb bb v k
        · exact .inr he
        · refine .inl ((HP.out.hs k).2 ⟨?_, he⟩)
          rcases hk with hk | hk
          · exact .inl hk
          · exact .inr (.inr (by omega)))
    rintro en W4 (⟨rfl, ho, hPB, S1', hS1', hJ4⟩ | ⟨rfl, ho, hPB, hx5⟩)
    · obtain ⟨y1, y2, y3, y4⟩ := HOF.out W4 ho hPB
      have HY2 := Lib.hid y2
      have HES4 := Lib.hid y3
      have HON4 := Lib.hid y4
      have HT4 := Lib.hid y1
      have HPB4 := Lib.hid hPB
      have HJ4 := Lib.hid hJ4
      have HS4 := Lib.hid hS1'
      have HZ4 := Lib.hid ho.size
      have hS4 : W4.cell? ⟨tb, 0, none⟩ = some (.func (.yield lp) #[] #[]) ∧ W4.cell? ⟨gb, 0, none⟩ = some (.int .i64 (b : Int)) ∧ W4.cell? ⟨xb, 0, none⟩ = some (.slice va D.length vc) :=
        ⟨by simp [World.cell?, y1], by simp [World.cell?, y2], by simp [World.cell?, hPB.hxb]⟩
      refine ⟨_, rfl, hS4, ?_⟩
      clear hS y1 y2 y3 y4 hJ4 hS1' ho hPB
      have hS := hS4
      clear hS4
      try go_frame
      refine keptIn_take (fenceOk_round (by kernel_rfl)) (i := 8) (d := 27) (v := (.bool false)) rfl rfl (by kernel_rfl) (by kernel_rfl) (by kernel_rfl) (fun _ _ _ h => h) (Or.inl ⟨by rfl, ?_⟩) hS ?_
      · intro w' hw'
        go_simp
      try go_frame
      refine keptIn_done (by kernel_rfl) ?_ _
      have z1 := hS.2.1
      have z2 : W4.frozen? ⟨gb, 0, none⟩ = false := by simp [World.frozen?, HY2.out]
      clear hS
      gi_wp2
      have g1 := HKG.out
      have g2 := HGB5.out
      have g3 := HKB.out
      have g4 := HTB.out
      have g6 := HJ3.out.hsz
      have g5 := HCB.out
      have hSgb : S gb := (HP.out.hs gb).2 ⟨.inr (.inl rfl), HN.out.1⟩
      have hz5 : (W4.setCell ⟨gb, 0, none⟩ (.int .i64 (e : Int))).heap.size = W4.heap.size := by simp
      have hk3 := HK3.out.size
      refine ⟨HON4.out.setCell (p := ⟨gb, 0, none⟩) (.inl (.inl hSgb)) _, ?_, fun k => (S1' k ∨ k = gb ∨ k < tb) ∧ ¬ EFs kb bb v k, fun k hk => ?_, S1', ⟨fun k => Iff.rfl, ?_, fun k hk => ?_, ?_, ?_, ?_, ?_, ?_, ?_⟩⟩
      · rw [List.length_append, List.length_singleton]
        exact HES4.out.keep ((Only.refl (fun k => k = gb) W4).setCell (p := ⟨gb, 0, none⟩) (.inl rfl) _) (fun i hi he => by rw [hi] at he; exact HN.out.1 he)
      · refine ⟨?_, ?_⟩
        · rcases hk.1 with h | h
          · rcases (HS4.out k h).1 with h' | h'
            · exact .inl ((HP.out.hs k).2 ⟨.inl h', hk.2⟩)
            · exact .inr (by omega)
          · exact .inl ((HP.out.hs k).2 ⟨.inr h, hk.2⟩)
        · rw [hz5]
          rcases hk.1 with h | h | h
          · exact (HS4.out k h).2
          · have := HZ4.out; omega
          · have := HZ4.out; omega
      · rw [HSN.out]
        refine hJ.out _ _ _ _ (fun k => k = gb) HJ4.out ((Only.refl (fun k => k = gb) W4).setCell (p := ⟨gb, 0, none⟩) (.inl rfl) _) trivial (fun k hk => ⟨.inr (by omega), fun hs => ?_⟩)
        rw [hk] at hs
        rcases (HS4.out gb hs).1 with h | h
        · have := HN.out.2.1 gb h; omega
        · omega
      · rw [hz5]
        refine ⟨(HS4.out k hk).2, fun hp => ?_, ?_⟩
        · rcases (HS4.out k hk).1 with h | h
          · exact (HJ3.out.hs1 k h).2.1 hp
          · rcases hp with hp | hp | hp
            · omega
            · omega
            · have := (HOWN.out k hp).1; omega
        · rcases (HS4.out k hk).1 with h | h
          · exact HN.out.2.1 k h
          · right; omega
      · rw [List.length_append, List.length_singleton, List.take_add_one, ← HPC.out.1, HX.out]
        rfl
      · have hh := heap_set (o := 0) HY2.out (.int .i64 (e : Int))
        rw [hh]
        simp
      · exact (heap_set_other (by omega) _).trans HT4.out
      · exact (heap_set_other (by omega) _).trans HPB4.out.hcb
      · rw [HV.out]; exact (heap_set_other (by omega) _).trans HPB4.out.hxb
      · rw [hz5]; have := HZ4.out; omega
    · obtain ⟨y1, y2, y3, y4⟩ := HOF.out W4 ho hPB
      have HES4 := Lib.hid y3
      have HON4 := Lib.hid y4
      have HX5 := Lib.hid hx5
      have hS4 : W4.cell? ⟨tb, 0, none⟩ = some (.func (.yield lp) #[] #[]) ∧ W4.cell? ⟨gb, 0, none⟩ = some (.int .i64 (b : Int)) ∧ W4.cell? ⟨xb, 0, none⟩ = some (.slice va D.length vc) :=
        ⟨by simp [World.cell?, y1], by simp [World.cell?, y2], by simp [World.cell?, hPB.hxb]⟩
      refine ⟨_, rfl, hS4, ?_⟩
      clear hS y1 y2 y3 y4 hx5 ho hPB
      have hS := hS4
      clear hS4
      try go_frame
      refine keptIn_take (fenceOk_round (by kernel_rfl)) (i := 8) (d := 27) (v := (.bool true)) rfl rfl (by kernel_rfl) (by kernel_rfl) (by kernel_rfl) (fun _ _ _ h => h) (Or.inl ⟨by rfl, ?_⟩) hS ?_
      · intro w' hw'
        go_simp
      try go_frame
      refine keptIn_done (by kernel_rfl) ?_ _
      clear hS
      gi_wp2
      refine ⟨HON4.out, ?_, rfl, _, HX5.out⟩
      rw [List.length_append, List.length_singleton]
      exact HES4.out
  case done =>
    rintro Dm S V hDm ⟨S1, hP⟩ hE hK hsd
    have hFin := Lib.hid (show ∀ (V' : World) (q : Act), V'.heap[Dm]? = some (.deferred (some [])) → ((∃ S', J Y S' V' ∧ ¬ S' Dm) ∨ (∃ pr, Jx pr V')) → q.defers = [{ target := .collected Dm, args := #[] }] →
        bodyPostM Fence.wide 5 Try.prog Try.f24 (fun en W' => (∃ v, en = .returned v) ∧ ((∃ S', J Y S' W') ∨ (∃ pr, Jx pr W'))) .normal q V' from fun V' q hK' hJJ hq => by
      obtain ⟨tm, td⟩ := q
      subst hq
      have hW5 : W.heap.size ≤ Dm := Nat.le_trans K5.out.size hDm
      refine ⟨by simp, .inl ⟨_, _, rfl, run_takeDeferred hK', ?_⟩⟩
      refine ⟨_, results_none rfl _ _ _, ⟨_, rfl⟩, ?_⟩
      rcases hJJ with ⟨S', hj, hs⟩ | ⟨pr, hj⟩
      · exact .inl ⟨S', hJ.out _ _ _ _ (fun k => k = Dm) hj (only_putObj _ _ _ rfl) trivial (fun k hk => ⟨.inr (by omega), by rw [hk]; exact hs⟩)⟩
      · exact .inr ⟨pr, hJx.out _ _ _ hj (only_putObj _ _ _ hW5)⟩)
    have g1 := HKB.out
    have g2 := HKG.out
    have g3 := HGB5.out
    have g4 := HTB.out
    have g5 := HCB.out
    rw [S5.out] at hDm
    have HS1D := Lib.hid (show ¬ S1 Dm from fun h => hsd Dm ((hP.hs Dm).2 ⟨.inl h, fun he => by have := HEF.out Dm he; omega⟩) rfl)
    obtain ⟨lb, hlb⟩ : ∃ lb, lb = YE.getLastD 0 := ⟨_, rfl⟩
    have hg := hP.hg
    rw [← hlb] at hg
    have HG := Lib.hid hg
    have HYP := Lib.hid (show Y = prE D 0 YE ++ (if lb < D.length then [(lb, D.drop lb)] else []) by rw [hYY.out, ← HYE.out, prs_prE, hlb]; rfl)
    have HPV := Lib.hid hP
    have HKD := Lib.hid hK
    have HEE := Lib.hid hE
    have HDM := Lib.hid hDm
    have HPBV := Lib.hid (show PartB cb xb c (.slice va D.length vc) D V from ⟨hP.hc, by rw [← HV.out]; exact hP.hx, by have h := hE.1.data.own; rw [HV.out] at h; exact h, hC.out.1.acb, hC.out.1.axb, fun g hg => by have h1 := hC.out.1.lt g hg; have h2 := HTB.out; have h3 := hP.hsz; have h4 := HKB.out; have h5 := HKG.out; have h6 := HGB5.out; omega⟩)
    clear hP hE hK hsd hDm hg hlb g1 g2 g3 g4 g5
    have q0 : V.cell? ⟨gb, 0, none⟩ = some (.int .i64 (lb : Int)) := by simp [World.cell?, HG.out]
    have qx : V.cell? ⟨xb, 0, none⟩ = some (.slice va D.length vc) := by simp [World.cell?, HPBV.out.hxb]
    gi_wp2
    by_cases hr : lb < D.length
    · have hr1 : decide (lb < D.length) = true := by simpa using hr
      have hr2 : decide ((lb : Int) < (D.length : Int)) = true := by rw [decide_eq_true_eq]; omega
      have HR := Lib.hid hr
      clear hr
      go_upto_region 9 with (fail)
      refine (wpIn_wide (n := 5)).1 ?_
      refine wpIn_onlyN ?_
      refine wpIn_region_kept (fun V => V.cell? ⟨tb, 0, none⟩ = some (.func (.yield lp) #[] #[]) ∧ V.cell? ⟨gb, 0, none⟩ = some (.int .i64 (lb : Int)) ∧ V.cell? ⟨xb, 0, none⟩ = some (.slice va D.length vc)) (by kernel_rfl) ?_
      have hS : V.drew.cell? ⟨tb, 0, none⟩ = some (.func (.yield lp) #[] #[]) ∧ V.drew.cell? ⟨gb, 0, none⟩ = some (.int .i64 (lb : Int)) ∧ V.drew.cell? ⟨xb, 0, none⟩ = some (.slice va D.length vc) := ⟨by show V.cell? _ = _; simp [World.cell?, HPV.out.ht], q0, qx⟩
      have HD2 := Lib.hid (show Below V.heap.size V V.drew from (Below.refl _ _).drew)
      generalize V.drew = W2 at *
      obtain ⟨vs, hsl, hvs⟩ := HPBV.out.data.rest (Nat.le_of_lt HR.out)
      have HVS := Lib.hid hvs
      clear hvs q0 qx
      refine keptIn_take fenceOk_wide (i := 0) (d := 33) (v := (.func (.yield lp) #[] #[])) rfl rfl (by kernel_rfl) (by kernel_rfl) (by kernel_rfl) (fun _ _ _ h => h) (Or.inl ⟨by rfl, ?_⟩) hS ?_
      · intro w' hw'
        obtain ⟨r0, r1, r2⟩ := hw'
        go_simp
      try go_frame
      refine keptIn_take fenceOk_wide (i := 1) (d := 34) (v := (.int .i64 (lb : Int))) rfl rfl (by kernel_rfl) (by kernel_rfl) (by kernel_rfl) (fun _ _ _ h => h) (Or.inl ⟨by rfl, ?_⟩) hS ?_
      · intro w' hw'
        obtain ⟨r0, r1, r2⟩ := hw'
        go_simp
      try go_frame
      refine keptIn_take fenceOk_wide (i := 2) (d := 35) (v := (.slice va D.length vc)) rfl rfl (by kernel_rfl) (by kernel_rfl) (by kernel_rfl) (fun _ _ _ h => h) (Or.inl ⟨by rfl, ?_⟩) hS ?_
      · intro w' hw'
        obtain ⟨r0, r1, r2⟩ := hw'
        go_simp
      try go_frame
      refine keptIn_take fenceOk_wide (i := 3) (d := 36) (v := (.int .i64 (lb : Int))) rfl rfl (by kernel_rfl) (by kernel_rfl) (by kernel_rfl) (fun _ _ _ h => h) (Or.inl ⟨by rfl, ?_⟩) hS ?_
      · intro w' hw'
        obtain ⟨r0, r1, r2⟩ := hw'
        go_simp
      try go_frame
      refine keptIn_take fenceOk_wide (i := 4) (d := 37) (v := vs) rfl rfl (by kernel_rfl) (by kernel_rfl) (by kernel_rfl) (fun _ _ _ h => h) (Or.inl ⟨by rfl, ?_⟩) hS ?_
      · intro w' hw'
        obtain ⟨r0, r1, r2⟩ := hw'
        go_simp
      try go_frame
      refine keptIn_call fenceOk_wide wide_wide (i := 5) (d := 38) rfl rfl (by kernel_rfl) (by rfl) 23 _ _ rfl (enters_of Try.func23 (by kernel_rfl) rfl) #[vs] (by simp [Act.eval]) (fun u V => OffRow V W2.heap.size 5 1 u (D.drop lb).length ((D.drop lb).map byteV) ∧ Below W2.heap.size W2 V) (clone_bytes (Lib.hid (HVS.out.below HD2.out)) (by rw [List.length_drop]; omega)) ?_
      rintro u W3 ⟨ho3, hk3⟩
      have hS3 : W3.cell? ⟨tb, 0, none⟩ = some (.func (.yield lp) #[] #[]) ∧ W3.cell? ⟨gb, 0, none⟩ = some (.int .i64 (lb : Int)) ∧ W3.cell? ⟨xb, 0, none⟩ = some (.slice va D.length vc) :=
        ⟨by rw [hk3.cell (cell_block hS.1)]; exact hS.1, by rw [hk3.cell (cell_block hS.2.1)]; exact hS.2.1, by rw [hk3.cell (cell_block hS.2.2)]; exact hS.2.2⟩
      have HK3 := Lib.hid (show Below V.heap.size V W3 from HD2.out.trans (hk3.mono HD2.out.size))
      have HO3 := Lib.hid (BsV.of_own ho3)
      refine ⟨hS3, ?_⟩
      clear hS ho3 hk3
      have hS := hS3
      clear hS3
      try go_frame
      have HJ3 := Lib.hid (HIK.out YE S S1 V W3 (fun _ => False) HPV.out (Only.of_below HK3.out fun k h1 h2 => by omega) (fun k hk => hk.elim))
      have HKD3 := Lib.hid ((HK3.out.block Dm (heap_lt HKD.out)).trans HKD.out)
      have HPB3 := Lib.hid (HPBV.out.below HK3.out)
      have HIX := Lib.hid (show Y[(prE D 0 YE).length]? = some (lb, D.drop lb) by rw [HYP.out, if_pos HR.out, List.getElem?_append_right (Nat.le_refl _)]; simp)
      have HOF := Lib.hid (show ∀ W4, Only (fun k => S1 k ∨ k < W.heap.size) W3 W4 → PartB cb xb c (.slice va D.length vc) D W4 → W4.heap[tb]? = some (.cells #[.func (.yield lp) #[] #[]] 62 (0, 0)) ∧ W4.heap[gb]? = some (.cells #[.int .i64 (lb : Int)] 3 (0, 0)) ∧ W4.heap[Dm]? = some (.deferred (some [])) from fun W4 ho hPB => by
        have g1 := HKG.out
        have g2 := HGB5.out
        have g3 := HKB.out
        have g4 := HTB.out
        have g6 := HDM.out
        have hg3 := (HK3.out.block gb (heap_lt HG.out)).trans HG.out
        have non : ∀ k, tb ≤ k → k < bb + 2 → ¬ (S1 k ∨ k < W.heap.size) := fun k h1 h2 h => by
          rcases h with h | h
          · have := (HJ3.out.hs1 k h).2.2; omega
          · omega
        refine ⟨(ho.block tb (heap_lt HJ3.out.ht) (non tb (Nat.le_refl _) (by omega))).trans HJ3.out.ht, (ho.block gb (heap_lt hg3) (non gb (by omega) (by omega))).trans hg3, (ho.block Dm (heap_lt HKD3.out) fun h => ?_).trans HKD3.out⟩
        rcases h with h | h
        · exact HS1D.out h
        · omega)
      refine keptIn_yieldW (i := 6) (d := 39) rfl rfl (by kernel_rfl) (by rfl) (.tmp 33) _ _ rfl (lp := lp) (by simp [Act.eval]) #[.int .i64 (lb : Int), u] (by simp [Act.eval]) _ (hY.out (prE D 0 YE) S1 (lb, D.drop lb) #[.int .i64 (lb : Int), u] W3 HJ3.out.hj HPB3.out HIX.out ⟨u, rfl, HO3.out.mono fun _ _ => trivial⟩) ?_
      rintro en W4 (⟨rfl, ho, hPB, S1', hS1', hJ4⟩ | ⟨rfl, ho, hPB, hx5⟩)
      · obtain ⟨y1, y2, y3⟩ := HOF.out W4 ho hPB
        refine ⟨_, rfl, ⟨by simp [World.cell?, y1], by simp [World.cell?, y2], by simp [World.cell?, hPB.hxb]⟩, ?_⟩
        have HY3 := Lib.hid y3
        have HJ4 := Lib.hid (show ∃ S', J Y S' W4 ∧ ¬ S' Dm from ⟨S1', by rw [HYP.out, if_pos HR.out]; exact hJ4, fun h => by
          rcases (hS1' Dm h).1 with h' | h'
          · exact HS1D.out h'
          · have := heap_lt HKD3.out; omega⟩)
        clear y1 y2 y3 hS hS1' hJ4 ho hPB
        try go_frame
        refine keptIn_done (by kernel_rfl) ?_ _
        simp only [onlyN]
        gi_wp2
        go_wp2_with fail
        exact hFin.out _ _ HY3.out (.inl HJ4.out) rfl
      · obtain ⟨y1, y2, y3⟩ := HOF.out W4 ho hPB
        refine ⟨_, rfl, ⟨by simp [World.cell?, y1], by simp [World.cell?, y2], by simp [World.cell?, hPB.hxb]⟩, ?_⟩
        have HY3 := Lib.hid y3
        have HX5 := Lib.hid hx5
        clear y1 y2 y3 hS hx5 ho hPB
        try go_frame
        refine keptIn_done (by kernel_rfl) ?_ _
        simp only [onlyN]
        gi_wp2
        go_wp2_with fail
        exact hFin.out _ _ HY3.out (.inr ⟨_, HX5.out⟩) rfl
    · have hr1 : decide (lb < D.length) = false := by simpa using hr
      have hr2 : decide ((lb : Int) < (D.length : Int)) = false := by rw [decide_eq_false_iff_not]; omega
      have HR := Lib.hid (show Y = prE D 0 YE by rw [HYP.out, if_neg hr, List.append_nil])
      clear hr
      go_wp2_with fail
      exact hFin.out _ _ HKD.out (.inl ⟨S1, by rw [HR.out]; exact HPV.out.hj, HS1D.out⟩) rfl
  case stop =>
    rintro Dm cc pr V hDm ⟨rfl, q, hq⟩ hK
    have hW5 : W.heap.size ≤ Dm := Nat.le_trans K5.out.size hDm
    have HQ := Lib.hid hq
    have HK := Lib.hid hK
    gi_wp2
    refine ⟨by simp, .inl ⟨_, _, rfl, run_takeDeferred HK.out, ?_⟩⟩
    exact ⟨_, results_none rfl _ _ _, ⟨_, rfl⟩, .inr ⟨q, hJx.out _ _ _ HQ.out (only_putObj _ _ _ hW5)⟩⟩
/-- What is asked of no world. -/
def KpT (_ _ : World) : Prop := True
/-- The same, as a range over a function. -/
theorem PartB.all {cb xb : Nat} {c : Conf} {v : Value} {D : List UInt8} {w : World} (h : PartB cb xb c v D w) : ∀ k, PFs cb xb v k → k < w.heap.size := fun k hk => by
  rcases hk with rfl | rfl | hk
  · exact heap_lt h.hcb
  · exact heap_lt h.hxb
  · exact h.lt k hk
theorem PartB.keep {S : Nat → Prop} {cb xb : Nat} {c : Conf} {v : Value} {D : List UInt8} {w w' : World} (h : PartB cb xb c v D w) (k : Only S w w') (hS : ∀ i, S i → ¬ PFs cb xb v i) : PartB cb xb c v D w' :=
  ⟨(k.block cb (heap_lt h.hcb) fun hs => hS _ hs (.inl rfl)).trans h.hcb, (k.block xb (heap_lt h.hxb) fun hs => hS _ hs (.inr (.inl rfl))).trans h.hxb, h.data.kept (fun b hb hlt => k.block b hlt fun hs => hS _ hs (.inr (.inr hb))) k.size, h.acb, h.axb, fun g hg => Nat.lt_of_lt_of_le (h.lt g hg) k.size⟩
theorem parts_stops (n cb xb : Nat) {c : Conf} {l m M : Nat} (h3 : Hid (c.Nat3 l m M)) (v : Value) (D : List UInt8) (hD : D.length ≤ 1000000) :
    ShStops (PFs cb xb v) KpT (fun _ W => PartB cb xb c v D W) (fun _ => True) n Try.prog 24 #[.pointer (some ⟨cb, 0, none⟩), .pointer (some ⟨xb, 0, none⟩)] encP (prs D 0 (enA ⟨l, m, M⟩ [] D 0 D.length)) :=
  fun lp J Jx W S0 hJ hY hJx h0 hS0 hC => callsIn_wide.2 ((parts_in n cb xb h3 v D hD lp J Jx W S0 _ (Lib.hid rfl) (Lib.hid hJ) (Lib.hid hY) (Lib.hid hJx) (Lib.hid h0) (Lib.hid hS0) (Lib.hid ⟨hC, hC.all⟩)).mono fun e W' h => ⟨h.1, h.2.imp (fun ⟨S', hj⟩ => ⟨S', hj, trivial⟩) id⟩)
end Go.Proofs.Ytcjpemkafncihaa
/- Texts that end alike are cut alike from where they meet. -/
set_option linter.unusedVariables false
namespace Go.Proofs.Ytcjpemkafncihaa
open Go.RowKit

theorem last_next {p p' : List UInt8} (b : UInt8) (h : p.drop (p.length - 15) = p'.drop (p'.length - 15)) : (p ++ [b]).drop ((p ++ [b]).length - 15) = (p' ++ [b]).drop ((p' ++ [b]).length - 15) ∧ sumW (p ++ [b]) = sumW (p' ++ [b]) := by
  have key : ∀ q : List UInt8, (q ++ [b]).drop ((q ++ [b]).length - 16) = q.drop (q.length - 15) ++ [b] := fun q => by
    rw [List.length_append, List.length_singleton, show q.length + 1 - 16 = q.length - 15 by omega, List.drop_append_of_le_length (by omega)]
  have key2 : ∀ q : List UInt8, (q ++ [b]).drop ((q ++ [b]).length - 15) = ((q.drop (q.length - 15)) ++ [b]).drop ((q.drop (q.length - 15) ++ [b]).length - 15) := fun q => by
    rw [List.length_append, List.length_append, List.length_singleton, List.length_drop]
    by_cases hq : q.length < 15
    · rw [show q.length - 15 = 0 by omega, List.drop_zero, show q.length + 1 - 15 = q.length - 0 + 1 - 15 by omega]
    · rw [List.drop_append_of_le_length (by omega), show q.length - (q.length - 15) + 1 - 15 = 1 by omega, List.drop_append_of_le_length (by rw [List.length_drop]; omega), List.drop_drop]
      congr 2
      omega
  refine ⟨by rw [key2 p, key2 p', h], ?_⟩
  unfold sumW
  rw [key p, key p', h]
/-- What comes depends on the last 15 bytes alone. -/
theorem cutF_last (c : Cf) : ∀ (r p p' : List UInt8) (n : Nat), p.drop (p.length - 15) = p'.drop (p'.length - 15) → cutF c p n r = cutF c p' n r
  | [], p, p', n, h => rfl
  | b :: r, p, p', n, h => by
    obtain ⟨h1, h2⟩ := last_next b h
    rw [cutF, cutF, h2, cutF_last c r _ _ 0 h1, cutF_last c r _ _ (n + 1) h1]
theorem last_tail (a tail : List UInt8) (t : Nat) (h15 : 15 ≤ t) (ht : t ≤ tail.length) : ((a ++ tail).take (a.length + t)).drop (((a ++ tail).take (a.length + t)).length - 15) = (tail.take t).drop (t - 15) := by
  rw [List.length_take, List.length_append, Nat.min_eq_left (by omega), List.take_append, List.take_of_length_le (by omega), show a.length + t - a.length = t by omega, List.drop_append]
  rw [List.drop_eq_nil_of_le (by omega), List.nil_append]
  congr 1
  omega
/-- Sum of a list. -/
def sumN (L : List Nat) : Nat := L.foldl (· + ·) 0
theorem sumN_cons (x : Nat) (L : List Nat) : sumN (x :: L) = x + sumN L := by
  unfold sumN
  have : ∀ (L : List Nat) (a : Nat), L.foldl (· + ·) a = a + L.foldl (· + ·) 0 := by
    intro L
    induction L with
    | nil => intro a; simp
    | cons y L ih => intro a; rw [List.foldl_cons, List.foldl_cons, ih (a + y), ih (0 + y)]; omega
  rw [List.foldl_cons, this L (0 + x)]
  omega
/-- Behind the chunk i: as if bytes began there. -/
theorem cut_drop (c : Cf) : ∀ (r p : List UInt8) (n i : Nat), i < (cutF c p n r).length → ∃ s, n + s = sumN ((cutF c p n r).take (i + 1)) ∧ s ≤ r.length ∧ (cutF c p n r).drop (i + 1) = cutF c (p ++ r.take s) 0 (r.drop s)
  | [], p, n, i, h => by
    rw [cutF] at h ⊢
    by_cases hn : 0 < n
    · rw [if_pos hn] at h ⊢
      simp at h
      subst h
      exact ⟨0, by simp [sumN], by simp, by simp [cutF]⟩
    · rw [if_neg hn] at h
      simp at h
  | b :: r, p, n, i, h => by
    rw [cutF] at h ⊢
    by_cases he : endB c (n + 1) (sumW (p ++ [b])) = true
    · rw [if_pos he] at h ⊢
      cases i with
      | zero =>
        refine ⟨1, by simp [sumN], by simp, ?_⟩
        simp
      | succ i =>
        obtain ⟨s, h1, h2, h3⟩ := cut_drop c r (p ++ [b]) 0 i (by simpa using h)
        refine ⟨s + 1, ?_, by simpa using h2, ?_⟩
        · rw [List.take_succ_cons, sumN_cons, ← h1]
          omega
        · rw [List.drop_succ_cons, h3, List.take_succ_cons, List.drop_succ_cons, List.append_assoc]
          rfl
    · rw [if_neg he] at h ⊢
      obtain ⟨s, h1, h2, h3⟩ := cut_drop c r (p ++ [b]) (n + 1) i h
      refine ⟨s + 1, by omega, by simpa using h2, ?_⟩
      rw [h3, List.take_succ_cons, List.drop_succ_cons, List.append_assoc]
      rfl
/-- Where chunks end, counted from a place on. -/
def endsI : Int → List Nat → List Int
  | _, [] => []
  | a, n :: L => (a + (n : Int)) :: endsI (a + (n : Int)) L
theorem endsI_len (a : Int) (L : List Nat) : (endsI a L).length = L.length := by
  induction L generalizing a with
  | nil => rfl
  | cons n L ih => rw [endsI, List.length_cons, List.length_cons, ih]
theorem endsI_snoc (a : Int) (L : List Nat) (n : Nat) : endsI a (L ++ [n]) = endsI a L ++ [a + (sumN L : Int) + (n : Int)] := by
  induction L generalizing a with
  | nil => simp [endsI, sumN]
  | cons x L ih =>
    rw [List.cons_append, endsI, endsI, ih, sumN_cons, List.cons_append]
    congr 3
    omega
theorem endsI_drop (a : Int) : ∀ (L : List Nat) (i : Nat), i < L.length → (endsI a L).drop i = (a + (sumN (L.take (i + 1)) : Int)) :: endsI (a + (sumN (L.take (i + 1)) : Int)) (L.drop (i + 1))
  | [], i, h => by simp at h
  | n :: L, 0, h => by simp [endsI, sumN]
  | n :: L, i + 1, h => by
    rw [endsI, List.drop_succ_cons, endsI_drop (a + (n : Int)) L i (by simpa using h), List.take_succ_cons, sumN_cons, List.drop_succ_cons]
    have e : a + (n : Int) + (sumN (L.take (i + 1)) : Int) = a + ((n + sumN (L.take (i + 1)) : Nat) : Int) := by omega
    rw [e]
/-- 16.5. -/
theorem meets (c : Cf) (a b tail : List UInt8) (i j : Nat) (z : Int) (hi : (endsI (-(a.length : Int)) (cutF c [] 0 (a ++ tail)))[i]? = some z) (hj : (endsI (-(b.length : Int)) (cutF c [] 0 (b ++ tail)))[j]? = some z) (hz : 15 ≤ z) :
    (endsI (-(a.length : Int)) (cutF c [] 0 (a ++ tail))).drop i = (endsI (-(b.length : Int)) (cutF c [] 0 (b ++ tail))).drop j := by
  have hil := (List.getElem?_eq_some_iff.1 hi).1
  have hjl := (List.getElem?_eq_some_iff.1 hj).1
  rw [endsI_len] at hil hjl
  obtain ⟨s, s1, s2, s3⟩ := cut_drop c (a ++ tail) [] 0 i hil
  obtain ⟨u, u1, u2, u3⟩ := cut_drop c (b ++ tail) [] 0 j hjl
  have di := endsI_drop (-(a.length : Int)) _ i hil
  have dj := endsI_drop (-(b.length : Int)) _ j hjl
  rw [← s1] at di
  rw [← u1] at dj
  have zi : z = -(a.length : Int) + ((0 + s : Nat) : Int) := by
    have := hi
    rw [← Nat.add_zero i, ← List.getElem?_drop, di] at this
    simpa using this.symm
  have zj : z = -(b.length : Int) + ((0 + u : Nat) : Int) := by
    have := hj
    rw [← Nat.add_zero j, ← List.getElem?_drop, dj] at this
    simpa using this.symm
  rw [List.length_append] at s2 u2
  obtain ⟨t, ht⟩ : ∃ t : Nat, z = (t : Int) := ⟨z.toNat, by omega⟩
  have hs : s = a.length + t := by omega
  have hu : u = b.length + t := by omega
  rw [di, dj, ← zi, ← zj, s3, u3, List.nil_append, List.nil_append, hs, hu]
  congr 2
  have hd : (a ++ tail).drop (a.length + t) = tail.drop t := by rw [List.drop_append, List.drop_eq_nil_of_le (by omega), List.nil_append]; congr 1; omega
  have hd2 : (b ++ tail).drop (b.length + t) = tail.drop t := by rw [List.drop_append, List.drop_eq_nil_of_le (by omega), List.nil_append]; congr 1; omega
  rw [hd, hd2]
  exact cutF_last c _ _ _ _ (by rw [last_tail a tail t (by omega) (by omega), last_tail b tail t (by omega) (by omega)])
end Go.Proofs.Ytcjpemkafncihaa
