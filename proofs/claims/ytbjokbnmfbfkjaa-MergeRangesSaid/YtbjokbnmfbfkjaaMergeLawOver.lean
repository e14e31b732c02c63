/- The law's own source: a row as a function, and a cursor over it. -/
import Derived.Test.YtbjokbnmfbfkjaaMergeOver
set_option linter.unusedVariables false
set_option maxRecDepth 100000
namespace Go.Proofs.Ytbjokbnmfbfkjaa
open Go.RowKit

/-- A variable that holds a number. -/
def BxI (c : Nat) (k : Int) (w : World) : Prop := w.heap[c]? = some (.cells #[.int .i64 k] 3 (0, 0))
theorem BxI.cell {c : Nat} {k : Int} {w : World} (h : BxI c k w) : w.cell? ⟨c, 0, none⟩ = some (.int .i64 k) := by unfold BxI at h; simp [World.cell?, h]
theorem BxI.free {c : Nat} {k : Int} {w : World} (h : BxI c k w) : w.frozen? ⟨c, 0, none⟩ = false := by unfold BxI at h; simp [World.frozen?, h]
theorem BxI.put {c : Nat} {k : Int} {w : World} (h : BxI c k w) (u : Int) : BxI c u (w.setCell ⟨c, 0, none⟩ (.int .i64 u)) := heap_set (o := 0) h _
theorem BxI.only {c : Nat} {k : Int} {w w' : World} {S : Nat → Prop} (h : BxI c k w) (kk : Only S w w') (hS : ¬ S c) : BxI c k w' := (kk.block c (heap_lt h) hS).trans h
/-- A variable that holds a bool. -/
def BxB (c : Nat) (k : Bool) (w : World) : Prop := w.heap[c]? = some (.cells #[.bool k] 4 (0, 0))
theorem BxB.cell {c : Nat} {k : Bool} {w : World} (h : BxB c k w) : w.cell? ⟨c, 0, none⟩ = some (.bool k) := by unfold BxB at h; simp [World.cell?, h]
theorem BxB.free {c : Nat} {k : Bool} {w : World} (h : BxB c k w) : w.frozen? ⟨c, 0, none⟩ = false := by unfold BxB at h; simp [World.frozen?, h]
theorem BxB.put {c : Nat} {k : Bool} {w : World} (h : BxB c k w) (u : Bool) : BxB c u (w.setCell ⟨c, 0, none⟩ (.bool u)) := heap_set (o := 0) h _
theorem BxB.only {c : Nat} {k : Bool} {w w' : World} {S : Nat → Prop} (h : BxB c k w) (kk : Only S w w') (hS : ¬ S c) : BxB c k w' := (kk.block c (heap_lt h) hS).trans h
/-- A variable that holds a row. -/
def BxR (c : Nat) (v : Value) (e : Int) (w : World) : Prop := w.heap[c]? = some (.cells #[v, .int .i64 e] 24 (0, 0))
theorem BxR.c0 {c : Nat} {v : Value} {e : Int} {w : World} (h : BxR c v e w) : w.cell? ⟨c, 0, none⟩ = some v := by unfold BxR at h; simp [World.cell?, h]
theorem BxR.c1 {c : Nat} {v : Value} {e : Int} {w : World} (h : BxR c v e w) : w.cell? ⟨c, 1, none⟩ = some (.int .i64 e) := by unfold BxR at h; simp [World.cell?, h]
theorem BxR.only {c : Nat} {v : Value} {e : Int} {w w' : World} {S : Nat → Prop} (h : BxR c v e w) (kk : Only S w w') (hS : ¬ S c) : BxR c v e w' := (kk.block c (heap_lt h) hS).trans h
/-- The law's function over a row: its variables. -/
structure LawV where
  pe : Nat
  pa : Nat
  po : Nat
  pr : Nat
  g : Nat
/-- The blocks of such a function. -/
def LawV.F (q : LawV) (k : Nat) : Prop := k = q.pe ∨ k = q.pa ∨ k = q.po ∨ k = q.pr ∨ k = q.g
structure LawV.Ok (q : LawV) (n : Nat) : Prop where
  pe : q.pe < n
  pa : q.pa < n
  po : q.po < n
  pr : q.pr < n
  g : q.g < n
  ea : q.pe ≠ q.pa
  eo : q.pe ≠ q.po
  er : q.pe ≠ q.pr
  ao : q.pa ≠ q.po
  ar : q.pa ≠ q.pr
def LawAt (q : LawV) (B : Nat) (L : List Ent) (k : Nat) (v r0 : Value) (e : Int) (w : World) : Prop :=
  BxB q.pe false w ∧ BxI q.pa k w ∧ BxS q.po v w ∧ OwnE w B v L ∧ (∀ j, v.ownBlock = some j → j = q.g ∧ j ≠ q.pe ∧ j ≠ q.pa) ∧ BxR q.pr r0 e w
def LawI (q : LawV) (B n : Nat) (R : List Ent) (e : Int) (w : World) : Prop :=
  n ≤ w.heap.size ∧ ∃ L k v r0, k ≤ L.length ∧ L.length ≤ 1000000 ∧ R = L.drop k ∧ LawAt q B L k v r0 e w
set_option maxHeartbeats 4000000 in
theorem law_next (q : LawV) (B n : Nat) (hq : Hid (q.Ok n)) (R : List Ent) (e : Int) (w : World) (hI : Hid (LawI q B n R e w)) :
    Calls Try.prog 27 #[.pointer (some ⟨q.pe, 0, none⟩), .pointer (some ⟨q.pa, 0, none⟩), .pointer (some ⟨q.po, 0, none⟩), .pointer (some ⟨q.pr, 0, none⟩)] w fun en w' => Ans R e en ∧ (R ≠ [] → LawI q B n R.tail e w') ∧ Only q.F w w' := by
  obtain ⟨hn, L, k, v, r0, hk, hL, hR, hpe, hpa, hpo, hO, hg, hr⟩ := hI.out
  obtain ⟨a, cap, rfl⟩ := hO.slice
  obtain ⟨pe, pa, po, pr, g⟩ := q
  obtain ⟨m, hm⟩ : ∃ m, L.length = m := ⟨_, rfl⟩
  obtain ⟨w1, hw1⟩ : ∃ w1, w1 = w.alloc (.cells #[.string ⟨#[]⟩, .string ⟨#[]⟩, .bool false] 32) := ⟨_, rfl⟩
  have K1 := Lib.hid (show Below w.heap.size w w1 by rw [hw1]; exact (Below.refl _ _).alloc (Nat.le_refl _) _)
  have on1 := Lib.hid (show Only (fun _ => False) w w1 from Only.of_below' K1.out rfl)
  have R1 := Lib.hid (show C3 w.heap.size 32 (.string ⟨#[]⟩) (.string ⟨#[]⟩) (.bool false) w1 by rw [hw1]; exact heap_new w _)
  have E1 := Lib.hid (hpe.only on1.out fun h => h)
  have A1 := Lib.hid (hpa.only on1.out fun h => h)
  have P1 := Lib.hid (hpo.only on1.out fun h => h)
  have Q1 := Lib.hid (hr.only on1.out fun h => h)
  have O1 := Lib.hid (hO.below K1.out)
  have HG := Lib.hid hg
  have HN := Lib.hid hn
  have HR := Lib.hid hR
  have HM := Lib.hid hm
  have HW1 := Lib.hid hw1
  rw [hm] at P1 O1 HG hk hL
  have k0 := E1.out.cell
  have k1 := A1.out.cell
  have k1f := A1.out.free
  obtain ⟨w2, hw2⟩ : ∃ w2, w2 = w1.setCell ⟨pa, 0, none⟩ (.int .i64 ((k : Int) + 1)) := ⟨_, rfl⟩
  have o2 := Lib.hid (show Only (fun j => j = pa) w1 w2 by rw [hw2]; exact (Only.refl (fun j => j = pa) w1).setCell (p := ⟨pa, 0, none⟩) (.inl rfl) _)
  have A2 := Lib.hid (show BxI pa ((k : Int) + 1) w2 by rw [hw2]; exact A1.out.put _)
  have E2 := Lib.hid (E1.out.only o2.out hq.out.ea)
  have P2 := Lib.hid (P1.out.only o2.out (Ne.symm hq.out.ao))
  have Q2 := Lib.hid (Q1.out.only o2.out (Ne.symm hq.out.ar))
  have O2 := Lib.hid (O1.out.only o2.out fun j hj h => (HG.out j hj).2.2 h)
  have hpz := Lib.hid (show pe < w.heap.size ∧ pa < w.heap.size ∧ po < w.heap.size ∧ pr < w.heap.size from ⟨heap_lt hpe, heap_lt hpa, heap_lt hpo, heap_lt hr⟩)
  have R2 := Lib.hid (R1.out.only o2.out (by have := hpz.out; omega))
  have HW2 := Lib.hid hw2
  have y1 := A2.out.cell
  have y2 := P2.out.cell
  clear hw1 hw2 hn hR hpe hpa hpo hO hg hr hm
  go_enter Try.func27, Try.ntmps27
  go_upto_region 1 with (fail)
  rw [← HW1.out]
  go_upto_region 4 with (fail)
  rw [← HW2.out]
  rcases Nat.lt_or_ge k m with hlt | hge
  · obtain ⟨x, hx⟩ : ∃ x, L[k]? = some x := ⟨_, List.getElem?_eq_getElem (by rw [HM.out]; exact hlt)⟩
    obtain ⟨b, off, rfl, _, hc⟩ := O2.out.ent hx
    have c0 := hc.c0
    have c1 := hc.c1
    have c2 := hc.c2
    have d0 := R2.out.c0
    have d1 := R2.out.c1
    have d2 := R2.out.c2
    have df := R2.out.free
    have hdr := Lib.hid (show R = x :: L.drop (k + 1) by
      rw [HR.out]
      have hlk : k < L.length := by rw [HM.out]; exact hlt
      rw [List.drop_eq_getElem_cons hlk]
      rw [List.getElem?_eq_getElem hlk] at hx
      injection hx with hx
      rw [hx])
    clear hc hx
    go_wp2_with fail
    refine bodyPost_ret (results_c3b rfl _ _ w.heap.size _ _ _ _ _ _ rfl rfl rfl (R2.out.put _ _ _) Try.underlying32 rfl sizeEnt) rfl ?_
    have o5 := put3_only w2 w.heap.size (.string (bs x.key)) (.string (bs x.val)) (.bool x.gone)
    have o : Only (LawV.F ⟨pe, pa, po, pr, g⟩) w w2 := (Only.of_below' K1.out rfl).trans (o2.out.mono fun _ _ h => .inr (.inl h))
    have hz := hpz.out
    rw [hdr.out]
    refine ⟨Ans.next x _ e, fun _ => ⟨Nat.le_trans HN.out (Nat.le_trans o.size o5.size), L, k + 1, _, r0, by rw [HM.out]; exact hlt, by rw [HM.out]; exact hL, rfl, E2.out.only o5 (show ¬ _ = w.heap.size by omega), ?_, P2.out.only o5 (show ¬ _ = w.heap.size by omega), O2.out.only o5 fun j hj h => ?_, HG.out, Q2.out.only o5 (show ¬ _ = w.heap.size by omega)⟩, only_put3 o (Nat.le_refl _) _ _ _⟩
    · exact A2.out.only o5 (show ¬ _ = w.heap.size by omega)
    · have := (OffRow.lt O1.out j hj).2
      have := (HG.out j hj).1
      have := hq.out.g
      have := HN.out
      simp at *
      omega
  · obtain rfl : k = m := by omega
    have hR0 := Lib.hid (show R = [] by rw [HR.out, ← HM.out, List.drop_length])
    obtain ⟨w3, hw3⟩ : ∃ w3, w3 = w2.setCell ⟨pe, 0, none⟩ (.bool true) := ⟨_, rfl⟩
    have o3 := Lib.hid (show Only (fun j => j = pe) w2 w3 by rw [hw3]; exact (Only.refl (fun j => j = pe) w2).setCell (p := ⟨pe, 0, none⟩) (.inl rfl) _)
    have HW3 := Lib.hid hw3
    have Q3 := Lib.hid (Q2.out.only o3.out (Ne.symm hq.out.er))
    have R3 := Lib.hid (R2.out.only o3.out (by have := hpz.out; omega))
    have e0 := E2.out.cell
    have ef := E2.out.free
    clear hw3
    go_upto_region 6 with (fail)
    rw [← HW3.out]
    have r1 := Q3.out.c1
    have r1' : w3.drew.cell? ⟨pr, 1, none⟩ = some (.int .i64 e) := r1
    have d0 := R3.out.c0
    have d1 := R3.out.c1
    have d2 := R3.out.c2
    have df := R3.out.free
    have d0' : w3.drew.cell? ⟨w.heap.size, 0, none⟩ = some (.string ⟨#[]⟩) := d0
    have d1' : w3.drew.cell? ⟨w.heap.size, 1, none⟩ = some (.string ⟨#[]⟩) := d1
    have d2' : w3.drew.cell? ⟨w.heap.size, 2, none⟩ = some (.bool false) := d2
    have df' : ∀ j, w3.drew.frozen? ⟨w.heap.size, j, none⟩ = false := df
    have hrz : pr ≠ w.heap.size := by have := hpz.out; omega
    have x3 : (((w3.setCell ⟨w.heap.size, 0, none⟩ (.string ⟨#[]⟩)).setCell ⟨w.heap.size, 1, none⟩ (.string ⟨#[]⟩)).setCell ⟨w.heap.size, 2, none⟩ (.bool false)).cell? ⟨pr, 1, none⟩ = some (.int .i64 e) := cell_same r1 (put3_other _ _ _ pr hrz)
    have x4 : (((w3.setCell ⟨w.heap.size, 0, none⟩ (.string ⟨#[]⟩)).setCell ⟨w.heap.size, 1, none⟩ (.string ⟨#[]⟩)).setCell ⟨w.heap.size, 2, none⟩ (.bool false)).drew.cell? ⟨pr, 1, none⟩ = some (.int .i64 e) := x3
    have x5 : (((w3.drew.setCell ⟨w.heap.size, 0, none⟩ (.string ⟨#[]⟩)).setCell ⟨w.heap.size, 1, none⟩ (.string ⟨#[]⟩)).setCell ⟨w.heap.size, 2, none⟩ (.bool false)).cell? ⟨pr, 1, none⟩ = some (.int .i64 e) := by rw [← set3_drew]; exact x3
    go_region
    all_goals
      go_wp2_with fail
      simp only [set3_drew]
      have R2' : C3 w.heap.size 32 (.string ⟨#[]⟩) (.string ⟨#[]⟩) (.bool false) w3.drew := R3.out
      refine bodyPost_ret (results_c3b rfl _ _ w.heap.size _ _ _ _ _ _ rfl rfl rfl (R2'.put _ _ _) Try.underlying32 rfl sizeEnt) rfl ?_
      have o : Only (LawV.F ⟨pe, pa, po, pr, g⟩) w w3.drew := (((Only.of_below' K1.out rfl).trans (o2.out.mono fun _ _ h => .inr (.inl h))).trans (o3.out.mono fun _ _ h => .inl h)).drew
      rw [hR0.out]
      exact ⟨Ans.ends e, fun h => absurd rfl h, only_put3 o (Nat.le_refl _) _ _ _⟩
/-- The law's row is such a function. -/
theorem raw_law {q : LawV} {B n : Nat} (hq : q.Ok n) : Raw 27 #[] #[.pointer (some ⟨q.pe, 0, none⟩), .pointer (some ⟨q.pa, 0, none⟩), .pointer (some ⟨q.po, 0, none⟩), .pointer (some ⟨q.pr, 0, none⟩)] n q.F (LawI q B n) where
  enter := fun args w => by kernel_rfl
  low := fun k h => by
    obtain ⟨h1, h2, h3, h4, h5, _⟩ := hq
    rcases h with rfl | rfl | rfl | rfl | rfl <;> assumption
  size := fun R e w h => h.1
  keep := fun R e w w' ⟨h0, L, k, v, r0, h1, h2, h3, h4, h5, h6, h7, h8, h9⟩ hs kk =>
    ⟨Nat.le_trans h0 hs, L, k, v, r0, h1, h2, h3, (kk _ (.inl rfl)).trans h4, (kk _ (.inr (.inl rfl))).trans h5, (kk _ (.inr (.inr (.inl rfl)))).trans h6, OffRow.kept h7 fun j hj => kk j (.inr (.inr (.inr (.inr (h8 j hj).1)))), h8, (kk _ (.inr (.inr (.inr (.inl rfl))))).trans h9⟩
  next := fun R e w h => law_next q B n (Lib.hid hq) R e w (Lib.hid h)
theorem src_ents' {w : World} {a : Option Addr} {n : Nat} (c : Nat) {T : List Ent} (h : IsE w a n T) (o : Obj) : Go.Src Try.prog 3 22 (.slice a n c) n (ecells T) (w.alloc o) := src_ents c (h.below ((Below.refl _ _).alloc (Nat.le_refl _) _))
set_option maxHeartbeats 2000000 in
theorem law_over (a : Option Addr) (n c : Nat) (T : List Ent) (e : Int) (w : World) (h : Hid (IsE w a n T)) (hn : n ≤ 1000000) :
    Calls Try.prog 13 #[.agg #[.slice a n c, .int .i64 e]] w (GotC w (fun _ => False) (toldP e none T).1 (toldP e none T).2) := by
  obtain ⟨i0, hi, hz0, hz1, hz2⟩ := info_parts infoE
  obtain ⟨w1, hw1⟩ : ∃ w1, w1 = w.alloc (.cells #[.slice a n c, .int .i64 e] 24) := ⟨_, rfl⟩
  have K1 := Lib.hid (show Below w.heap.size w w1 by rw [hw1]; exact (Below.refl _ _).alloc (Nat.le_refl _) _)
  have R1 := Lib.hid (show BxR w.heap.size (.slice a n c) e w1 by rw [hw1]; exact heap_new w _)
  have I1 := Lib.hid (h.out.below K1.out)
  have HLEN := Lib.hid h.out.1
  have HW1 := Lib.hid hw1
  have r0 := R1.out.c0
  have r0' : (w1.alloc (.cells #[] 32)).cell? ⟨w.heap.size, 0, none⟩ = some (.slice a n c) := cell_same r0 (Below.heap_alloc w1 _ _ (heap_lt R1.out))
  clear hw1
  go_enter Try.func13, Try.ntmps13
  go_upto_region 1 with (fail)
  rw [← HW1.out]
  go_wp2_with (at_builtin; refine wpList_append_off rfl (.tmp 6) (.tmp 8) 22 rfl w.heap.size 32 i0 _ 3 40 Try.underlying22 hi hz0 hz1 hz2 rfl (.slice (some ⟨w1.heap.size, 0, none⟩) 0 0) 0 [] rfl (off_empty w1 (K1.out.size) _ _) (.slice a n c) rfl n (ecells T) ?c2 ?c3 ?c4 ?c5 ?_)
  case c2 => exact src_ents' c I1.out _
  case c3 => unfold maxLen; omega
  case c4 => omega
  case c5 => have := K1.out.size; simp; omega
  intro v3 w3 hr3 hg3 _
  have O3 := Lib.hid (show OwnE w3 w.heap.size v3 T by
    unfold OwnE
    rw [← HLEN.out]
    simpa using hr3)
  have K3 := Lib.hid (show Below w1.heap.size w1 w3 from ((Below.refl _ _).alloc (Nat.le_refl _) _).grown hg3 (by simp) (fun k hk => by simp [Value.ownBlock] at hk; omega))
  have R3 := Lib.hid (R1.out.only (S := fun _ => False) (Only.of_below' K3.out rfl) fun h => h)
  have hOB := Lib.hid (fun j hj => (OffRow.lt O3.out j hj) : ∀ j, v3.ownBlock = some j → w.heap.size ≤ j ∧ j < w3.heap.size)
  have hOT := Lib.hid (show ∀ j, v3.ownBlock = some j → j ≠ w.heap.size from fun j hj h => by
    obtain ⟨cur, h1⟩ := OffRow.tag O3.out hj
    have h2 := R3.out
    unfold BxR at h2
    rw [h] at h1
    rw [h1] at h2
    cases h2)
  have hz := Lib.hid (show w.heap.size < w3.heap.size from heap_lt R3.out)
  obtain ⟨a3, cap3, rfl⟩ := O3.out.slice
  obtain ⟨z, hzz⟩ : ∃ z, z = w3.heap.size := ⟨_, rfl⟩
  obtain ⟨w4, hw4⟩ : ∃ w4, w4 = w3.alloc (.cells #[.slice a3 T.length cap3] 22) := ⟨_, rfl⟩
  obtain ⟨w5, hw5⟩ : ∃ w5, w5 = w4.alloc (.cells #[.int .i64 0] 3) := ⟨_, rfl⟩
  obtain ⟨w6, hw6⟩ : ∃ w6, w6 = w5.alloc (.cells #[.bool false] 4) := ⟨_, rfl⟩
  have s4 : w4.heap.size = z + 1 := by rw [hw4, hzz]; simp
  have s5 : w5.heap.size = z + 2 := by rw [hw5]; simp [s4]
  have s6 : w6.heap.size = z + 3 := by rw [hw6]; simp [s5]
  have K4 : Below w3.heap.size w3 w4 := by rw [hw4]; exact (Below.refl _ _).alloc (Nat.le_refl _) _
  have K5 : Below w4.heap.size w4 w5 := by rw [hw5]; exact (Below.refl _ _).alloc (Nat.le_refl _) _
  have K6 : Below w5.heap.size w5 w6 := by rw [hw6]; exact (Below.refl _ _).alloc (Nat.le_refl _) _
  have n4 : Only (fun _ => False) w3 w4 := Only.of_below' K4 rfl
  have n5 : Only (fun _ => False) w4 w5 := Only.of_below' K5 rfl
  have n6 : Only (fun _ => False) w5 w6 := Only.of_below' K6 rfl
  have B6 : BxS z (.slice a3 T.length cap3) w6 := by
    have h : BxS w3.heap.size (.slice a3 T.length cap3) w4 := by rw [hw4]; exact heap_new w3 _
    rw [← hzz] at h
    exact (h.only n5 fun h => h).only n6 fun h => h
  have A6 : BxI (z + 1) 0 w6 := by
    have h : BxI w4.heap.size 0 w5 := by rw [hw5]; exact heap_new w4 _
    rw [s4] at h
    exact h.only n6 fun h => h
  have E6 : BxB (z + 2) false w6 := by
    have h : BxB w5.heap.size false w6 := by rw [hw6]; exact heap_new w5 _
    rw [s5] at h
    exact h
  have R6 : BxR w.heap.size (.slice a n c) e w6 := R3.out.only ((n4.trans n5).trans n6) fun h => h
  have O6 : OwnE w6 w.heap.size (.slice a3 T.length cap3) T := ((O3.out.below K4).below K5).below K6
  have KK := Lib.hid (show Below w.heap.size w w6 from K1.out.trans ((K3.out.trans ((K4.trans ((K5.trans (K6.mono K5.size)).mono K4.size)).mono K3.out.size)).mono K1.out.size))
  have HC := Lib.hid (show Calls Try.prog 23 #[.func (.func 27) #[] #[.pointer (some ⟨w5.heap.size, 0, none⟩), .pointer (some ⟨w4.heap.size, 0, none⟩), .pointer (some ⟨w3.heap.size, 0, none⟩), .pointer (some ⟨w.heap.size, 0, none⟩)]] w6 (GotC w6 (fun k => w.heap.size ≤ k) (toldP e none T).1 (toldP e none T).2) by
   rw [s5, s4, ← hzz]
   refine (merge_From (raw_law (q := ⟨z + 2, z + 1, z, w.heap.size, ((Value.slice a3 T.length cap3).ownBlock).getD w.heap.size⟩) (B := w.heap.size) (n := z + 3) ⟨by simp, by simp, by simp, by have := hz.out; simp; omega, by
      have := hz.out
      cases h : (Value.slice a3 T.length cap3).ownBlock with
      | none => simp; omega
      | some j => have := hOB.out j h; simp; omega, by simp, by simp, by have := hz.out; simp; omega, by simp, by have := hz.out; simp; omega⟩) (R := T) (e := e) (w := w6)
      ⟨by rw [s6]; exact Nat.le_refl _, T, 0, _, _, Nat.zero_le _, by rw [← HLEN.out]; exact hn, rfl, E6, A6, B6, O6, fun j hj => ⟨by rw [hj]; rfl, by have := hOB.out j hj; simp; omega, by have := hOB.out j hj; simp; omega⟩, R6⟩).mono ?_
   rintro en w' ⟨c, h1, h2, h3, h4, h5⟩
   refine ⟨c, h1, h2, h3, fun k hk => .inl ?_, h5⟩
   rcases h4 k hk with (h | h | h | h | h) | h
   · rw [h]; have := hz.out; simp; omega
   · rw [h]; have := hz.out; simp; omega
   · rw [h]; have := hz.out; simp; omega
   · rw [h]; exact Nat.le_refl _
   · rw [h]
     cases ho : (Value.slice a3 T.length cap3).ownBlock with
     | none => exact Nat.le_refl _
     | some j => exact (hOB.out j ho).1
   · have := hz.out; omega)
  have HW4 := Lib.hid hw4
  have HW5 := Lib.hid hw5
  have HW6 := Lib.hid hw6
  have HKZ := Lib.hid (show w.heap.size ≤ w6.heap.size by have := hz.out; omega)
  clear hw4 hw5 hw6 s4 s5 s6 hzz K4 K5 K6 n4 n5 n6 B6 A6 E6 R6 O6 hr3 hg3 r0 r0' hi hz0 hz1 hz2
  go_upto_region 2 with (fail)
  rw [← HW4.out]
  go_upto_region 3 with (fail)
  rw [← HW5.out]
  go_upto_region 4 with (fail)
  rw [← HW6.out]
  go_wp2_with fail
  refine HC.out.mono ?_
  rintro en w7 ⟨d, hC⟩
  obtain ⟨a7, ha7⟩ := hC.ptr
  obtain ⟨e1, -, e3, e4, e5⟩ := hC
  rw [ha7] at e1
  subst e1
  have HD := Lib.hid (And.intro e3 (And.intro e4 e5))
  clear e3 e4 e5
  go_wp2_with fail
  go_ret
  refine ⟨d, by rw [ha7]; rfl, ⟨a7, ha7⟩, HD.out.1, fun k hk => .inr ?_, KK.out.trans (HD.out.2.2.mono KK.out.size)⟩
  rcases HD.out.2.1 k hk with h | h
  · exact h
  · have := HKZ.out; omega
end Go.Proofs.Ytbjokbnmfbfkjaa
