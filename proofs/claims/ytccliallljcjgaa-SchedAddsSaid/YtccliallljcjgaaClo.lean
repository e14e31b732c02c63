/- A closure of a program is called: it does its step, and answers what comes next. -/
import Derived.Test.YtccliallljcjgaaNext
set_option linter.unusedVariables false
namespace Go.Proofs.Ytccliallljcjgaa
open Go.RowKit

/-- A block that no step writes. -/
def Fix (w : World) (g : AtG) (j : Nat) : Prop := ∃ cur t, w.heap[j]? = some (.cells cur t (0, 0)) ∧ (t = 25 ∨ t = 73 ∨ t = 44 ∨ (t = 3 ∧ ¬ g.Z j))
theorem CloAt.kept {w w' : World} {g : AtG} {B : Nat} {f : Value} {a : Option Addr} {cap : Nat} {l : List INS} {k : Nat} (h : CloAt w g B f a cap l k) (hs : w.heap.size ≤ w'.heap.size)
    (hk : ∀ j, j < w.heap.size → (Fix w g j ∨ j < B) → w'.heap[j]? = w.heap[j]?) : CloAt w' g B f a cap l k := by
  obtain ⟨pw, px, pl, pa, hf, h1, h2, h3, h4, h5, h6, h7⟩ := h
  exact ⟨pw, px, pl, pa, hf, (hk _ (heap_lt h1) (.inl ⟨_, _, h1, .inl rfl⟩)).trans h1, (hk _ (heap_lt h2) (.inl ⟨_, _, h2, .inr (.inl rfl)⟩)).trans h2, (hk _ (heap_lt h3) (.inl ⟨_, _, h3, .inr (.inr (.inl rfl))⟩)).trans h3,
    (hk _ (heap_lt h4) (.inl ⟨_, _, h4, .inr (.inr (.inr ⟨rfl, h5⟩))⟩)).trans h4, h5, h6.kept hs fun j hj hb => hk j hj (.inr hb), h7⟩
theorem NextOf.kept {w w' : World} {g : AtG} {B : Nat} {f : Value} {a : Option Addr} {cap : Nat} {l : List INS} {k : Nat} {m : Option Addr} (h : NextOf w g B a cap l k f m) (hs : w.heap.size ≤ w'.heap.size)
    (hk : ∀ j, j < w.heap.size → (Fix w g j ∨ j < B) → w'.heap[j]? = w.heap[j]?) : NextOf w' g B a cap l k f m := by
  rcases h with h | ⟨h, hm⟩
  · exact .inl h
  · exact .inr ⟨h.kept hs hk, hm⟩
theorem Cel.fix_not {w : World} {g : AtG} {n : Nat} {C X H K : List Int} (h : Cel w g n C X H K) (hzk : g.Z g.K) {j : Nat} (hj : Fix w g j) : ¬ CS g j := by
  obtain ⟨cur, t, h1, h2⟩ := hj
  rintro (rfl | ⟨i, hi, rfl⟩ | ⟨i, hi, rfl⟩)
  · obtain ⟨c3, h5, h6⟩ := h.kr
    rw [h5] at h1
    injection h1 with h1
    injection h1 with h1 h3
    subst h3
    rcases h2 with h2 | h2 | h2 | h2
    · exact absurd h2 (by decide)
    · exact absurd h2 (by decide)
    · exact absurd h2 (by decide)
    · exact h2.2 hzk
  · rw [h.ce i hi] at h1
    injection h1 with h1
    injection h1 with h1 h3
    subst h3
    rcases h2 with h2 | h2 | h2 | h2
    · exact absurd h2 (by decide)
    · exact absurd h2 (by decide)
    · exact absurd h2 (by decide)
    · exact absurd h2.1 (by decide)
  · rw [h.mu i hi] at h1
    injection h1 with h1
    injection h1 with h1 h3
    subst h3
    rcases h2 with h2 | h2 | h2 | h2
    · exact absurd h2 (by decide)
    · exact absurd h2 (by decide)
    · exact absurd h2 (by decide)
    · exact absurd h2.1 (by decide)

set_option maxHeartbeats 4000000 in
set_option maxRecDepth 100000 in
theorem law_clo {w : World} {g : AtG} {n : Nat} {C X H K : List Int} (h : Cel w g n C X H K) (hz : ∀ j, g.Z j → j < w.heap.size) (hzk : g.Z g.K) {B : Nat} {f : Value} {a : Option Addr} {cap : Nat} {l : List INS} {k : Nat} (hc : CloAt w g B f a cap l k) (hlow : ∀ j, CS g j → B ≤ j) (i : Nat) (hi : i < n) (hn : n ≤ 16) (x : INS) (hx : l.getD k default = x) :
    ∃ c, f = .func (.func 45) #[] c ∧ Calls Try.prog 45 (#[.int .i64 (i : Int)] ++ c) w fun e w' => ∃ f' m', e = .returned (.agg #[f', .pointer m']) ∧ NextOf w' g B a cap l (k + 1) f' m' ∧
      Cel w' g n (C.set x.cell (doI x (C.getD x.cell 0) (X.getD x.cell 0) (K.getD i 0)).1) (X.set x.cell (doI x (C.getD x.cell 0) (X.getD x.cell 0) (K.getD i 0)).2.1) (freed x i H) (K.set i (doI x (C.getD x.cell 0) (X.getD x.cell 0) (K.getD i 0)).2.2) ∧ Only (CS g) w w' := by
  obtain ⟨pw, px, pl, pa, hf, h1, h2, h3, h4, h5, h6, h7⟩ := hc
  refine ⟨_, hf, ?_⟩
  have hxo : x.Ok := by
    rw [← hx, List.getD_eq_getElem?_getD, List.getElem?_eq_getElem h7]
    exact h6.2.2.1 _ (List.getElem_mem h7)
  rw [hx] at h2
  have h60 := h6.2.1
  -- the answer's cell
  have hA := (Below.refl w.heap.size w).alloc (Nat.le_refl _) (.cells #[.nilFunc, .pointer none] 60)
  have hdo := law_do (h.alloc (.cells #[.nilFunc, .pointer none] 60)) x hxo i hi hn
  generalize (C.set x.cell (doI x (C.getD x.cell 0) (X.getD x.cell 0) (K.getD i 0)).1) = C2 at *
  generalize (X.set x.cell (doI x (C.getD x.cell 0) (X.getD x.cell 0) (K.getD i 0)).2.1) = X2 at *
  generalize (K.set i (doI x (C.getD x.cell 0) (X.getD x.cell 0) (K.getD i 0)).2.2) = K2 at *
  generalize freed x i H = H2 at *
  have a1 := (hA.block pw (heap_lt h1)).trans h1
  have a2 := (hA.block px (heap_lt h2)).trans h2
  have a3 := (hA.block pl (heap_lt h3)).trans h3
  have a4 := (hA.block pa (heap_lt h4)).trans h4
  have a5 := heap_new w (.cells #[.nilFunc, .pointer none] 60)
  -- behind the step
  have mid : ∀ w2, Cel w2 g n C2 X2 H2 K2 → Only (CS g) (w.alloc (.cells #[.nilFunc, .pointer none] 60)) w2 →
      w2.heap[pw]? = some (.cells #[.pointer (some ⟨g.W, 0, none⟩)] 25 (0, 0)) ∧ w2.heap[pl]? = some (.cells #[.slice a l.length cap] 44 (0, 0)) ∧ w2.heap[pa]? = some (.cells #[.int .i64 (k : Int)] 3 (0, 0)) ∧ w2.heap[w.heap.size]? = some (.cells #[.nilFunc, .pointer none] 60 (0, 0)) ∧ IsProg w2 B a l.length l ∧ Only (CS g) w w2 := by
    intro w2 hC hO
    have hCa := h.alloc (.cells #[.nilFunc, .pointer none] 60)
    refine ⟨(hO.block pw (heap_lt a1) (hCa.fix_not hzk ⟨_, _, a1, .inl rfl⟩)).trans a1, (hO.block pl (heap_lt a3) (hCa.fix_not hzk ⟨_, _, a3, .inr (.inr (.inl rfl))⟩)).trans a3, (hO.block pa (heap_lt a4) (hCa.fix_not hzk ⟨_, _, a4, .inr (.inr (.inr ⟨rfl, h5⟩))⟩)).trans a4, (hO.block _ (heap_lt a5) ?_).trans a5, ?_, ?_⟩
    · intro hs
      have := h.lt (.inr (.inr (.inr hs)))
      omega
    · exact h6.kept (Nat.le_trans hA.size hO.size) fun j hj hb => (hO.block j (Nat.lt_of_lt_of_le hj hA.size) (fun hs => by have := hlow j hs; omega)).trans (hA.block j hj)
    · exact ((Only.refl _ w).alloc _).trans hO
  have hlk := Lib.hid h7
  have MID := Lib.hid mid
  have HZZ := Lib.hid hz
  have hkI : IntKind.i64.wrap ((k : Int) + 1) = ((k + 1 : Nat) : Int) := by rw [IntKind.wrap_i64]; omega
  have hkI' : wrap64 ((k : Int) + 1) = ((k + 1 : Nat) : Int) := by rw [wrap_64]; exact hkI
  have p1 : (w.alloc (.cells #[.nilFunc, .pointer none] 60)).cell? ⟨pw, 0, none⟩ = some (.pointer (some ⟨g.W, 0, none⟩)) := by simp [World.cell?, a1]
  have q0 : (w.alloc (.cells #[.nilFunc, .pointer none] 60)).cell? ⟨px, 0, none⟩ = some (.int .i64 x.kind) := by simp [World.cell?, a2, INS.vals]
  have q1 : (w.alloc (.cells #[.nilFunc, .pointer none] 60)).cell? ⟨px, 1, none⟩ = some (.int .i64 (x.cell : Int)) := by simp [World.cell?, a2, INS.vals]
  have q2 : (w.alloc (.cells #[.nilFunc, .pointer none] 60)).cell? ⟨px, 2, none⟩ = some (.int .i64 x.n) := by simp [World.cell?, a2, INS.vals]
  have q3 : (w.alloc (.cells #[.nilFunc, .pointer none] 60)).cell? ⟨px, 3, none⟩ = some (.int .i64 (x.mutex : Int)) := by simp [World.cell?, a2, INS.vals]
  have q4 : (w.alloc (.cells #[.nilFunc, .pointer none] 60)).cell? ⟨px, 4, none⟩ = some (.int .i64 (x.free : Int)) := by simp [World.cell?, a2, INS.vals]
  unfold INS.vals at hdo
  have HLOW := Lib.hid (show B ≤ w.heap.size by
    have h1 := hlow g.K (.inl rfl)
    have h2 := h.lt (.inr (.inr (.inr (.inl rfl))))
    omega)
  clear h hz hzk h1 h2 h3 h4 h5 h6 h7 mid hA a1 a2 a3 a4 a5 hx hxo hf hlow
  change Calls Try.prog 45 #[.int .i64 (i : Int), .pointer (some ⟨pw, 0, none⟩), .pointer (some ⟨px, 0, none⟩), .pointer (some ⟨pl, 0, none⟩), .pointer (some ⟨pa, 0, none⟩)] w _
  go_enter Try.func45, Try.ntmps45
  go_wp2_with fail
  refine hdo.mono ?_
  rintro e w2 ⟨rfl, hC, hO⟩
  obtain ⟨b1, b3, b4, b5, hP, hO2⟩ := MID.out w2 hC hO
  have hnx := law_next hC (fun j hj => Nat.lt_of_lt_of_le (HZZ.out j hj) hO2.size) (cap := cap) hP (k + 1) hlk.out
  have r1 : w2.cell? ⟨pw, 0, none⟩ = some (.pointer (some ⟨g.W, 0, none⟩)) := by simp [World.cell?, b1]
  have r3 : w2.cell? ⟨pl, 0, none⟩ = some (.slice a l.length cap) := by simp [World.cell?, b3]
  have r4 : w2.cell? ⟨pa, 0, none⟩ = some (.int .i64 (k : Int)) := by simp [World.cell?, b4]
  have tail : ∀ (f : Value) (m : Option Addr) (w3 : World), NextOf w3 g B a cap l (k + 1) f m → Below w2.heap.size w2 w3 →
      (w3.cell? ⟨w.heap.size, 0, none⟩ = some .nilFunc ∧ w3.cell? ⟨w.heap.size, 1, none⟩ = some (.pointer none) ∧ w3.frozen? ⟨w.heap.size, 0, none⟩ = false ∧ w3.frozen? ⟨w.heap.size, 1, none⟩ = false) ∧
      ((w3.setCell ⟨w.heap.size, 0, none⟩ f).setCell ⟨w.heap.size, 1, none⟩ (.pointer m)).heap[w.heap.size]? = some (.cells #[f, .pointer m] 60 (0, 0)) ∧
      (NextOf ((w3.setCell ⟨w.heap.size, 0, none⟩ f).setCell ⟨w.heap.size, 1, none⟩ (.pointer m)) g B a cap l (k + 1) f m ∧ Cel ((w3.setCell ⟨w.heap.size, 0, none⟩ f).setCell ⟨w.heap.size, 1, none⟩ (.pointer m)) g n C2 X2 H2 K2 ∧ Only (CS g) w ((w3.setCell ⟨w.heap.size, 0, none⟩ f).setCell ⟨w.heap.size, 1, none⟩ (.pointer m))) := by
    intro f m w3 hN hB
    have e5 := (hB.block _ (heap_lt b5)).trans b5
    have C3 := hC.below hB
    have O3 : Only (CS g) w w3 := ⟨hB.os.trans hO2.os, hB.tape.trans hO2.tape, hB.output.trans hO2.output, Nat.le_trans hO2.size hB.size, fun j hj hs => (hB.block j (Nat.lt_of_lt_of_le hj hO2.size)).trans (hO2.block j hj hs)⟩
    have ot : ∀ j, j ≠ w.heap.size → ((w3.setCell ⟨w.heap.size, 0, none⟩ f).setCell ⟨w.heap.size, 1, none⟩ (.pointer m)).heap[j]? = w3.heap[j]? := fun j hj => (heap_set_other hj _).trans (heap_set_other hj _)
    refine ⟨⟨by simp [World.cell?, e5], by simp [World.cell?, e5], by simp [World.frozen?, e5], by simp [World.frozen?, e5]⟩, heap_set (o := 1) (heap_set (o := 0) e5 f) _, ?_, ?_, ?_⟩
    · refine hN.kept (by simp [World.setCell]) fun j hj hs => ot j ?_
      rintro rfl
      rcases hs with ⟨cur, t, hh, ht⟩ | hs
      · rw [e5] at hh
        injection hh with hh
        injection hh with hh h3
        subst h3
        rcases ht with ht | ht | ht | ht
        · exact absurd ht (by decide)
        · exact absurd ht (by decide)
        · exact absurd ht (by decide)
        · exact absurd ht.1 (by decide)
      · have h1 := HLOW.out
        omega
    · refine C3.kept fun j hj => ot j ?_
      exact C3.own_ne hj e5 (by decide)
    · exact ((O3.setCell (p := ⟨w.heap.size, 0, none⟩) (.inr (Nat.le_refl _)) f).setCell (p := ⟨w.heap.size, 1, none⟩) (.inr (Nat.le_refl _)) _)
  have TAIL := Lib.hid tail
  clear tail hC hO b1 b3 b4 b5 hP hO2 hdo p1 q0 q1 q2 q3 q4
  go_wp2_with fail
  refine hnx.mono ?_
  rintro e w3 ⟨f', m', rfl, hN, hB⟩
  obtain ⟨⟨t1, t2, t3, t4⟩, hh, hend⟩ := TAIL.out f' m' w3 hN hB
  have HH := Lib.hid hh
  have HE := Lib.hid hend
  clear hh hend hnx r1 r3 r4
  have hcase : f' = .nilFunc ∨ ∃ c, f' = .func (.func 45) #[] c := by
    rcases hN with ⟨_, h, _⟩ | ⟨⟨pw, px, pl, pa, h, _⟩, _⟩
    · exact .inl h
    · exact .inr ⟨_, h⟩
  clear hN hB
  rcases hcase with rfl | ⟨c, rfl⟩
  · go_wp2_with fail
    refine bodyPost_ret (v := .agg #[_, .pointer m']) (results_cell_row rfl _ _ w.heap.size 60 _ (0, 0) _ rfl HH.out Try.underlying60 rfl info60) rfl ?_
    exact ⟨_, m', rfl, HE.out⟩
  · go_wp2_with fail
    refine bodyPost_ret (v := .agg #[_, .pointer m']) (results_cell_row rfl _ _ w.heap.size 60 _ (0, 0) _ rfl HH.out Try.underlying60 rfl info60) rfl ?_
    exact ⟨_, m', rfl, HE.out⟩
end Go.Proofs.Ytccliallljcjgaa
