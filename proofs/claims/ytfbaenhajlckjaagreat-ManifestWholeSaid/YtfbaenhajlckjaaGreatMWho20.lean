/- Texts put together: LevMay, LevClos, LevThose, LevFiles -/
import Derived.Test.YtfbaenhajlckjaaGreatMWho12
import Derived.Test.YtfbaenhajlckjaaGreatMWho10
import Derived.Test.YtfbaenhajlckjaaGreatMWho19
import Derived.Lib.MinMaxS
import Derived.Test.YtfbaenhajlckjaaGreatMWho11
/- Whether a table may have a key. -/
set_option linter.unusedVariables false
set_option maxRecDepth 100000
namespace Go.Proofs.YtfbaenhajlckjaaGreat
open Go.RowKit

def maxB (a b : List UInt8) : List UInt8 := if ltB a b then b else a
def minB (a b : List UInt8) : List UInt8 := if ltB b a then b else a
theorem lt_bytes (a b : List UInt8) : a < b ↔ ltB a b = true := by
  have h1 := Proofs.bytesLess_eq a b
  rw [ltB_less] at h1
  rw [h1]; simp
theorem maxS_bs (a b : List UInt8) : Lib.maxS (bs a) (bs b) = bs (maxB a b) := by
  unfold Lib.maxS maxB
  rw [bs_list, bs_list]
  by_cases h : ltB a b = true
  · rw [if_pos ((lt_bytes a b).2 h), if_pos h]
  · rw [if_neg (fun x => h ((lt_bytes a b).1 x)), if_neg h]
theorem minS_bs (a b : List UInt8) : Lib.minS (bs a) (bs b) = bs (minB a b) := by
  unfold Lib.minS minB
  rw [bs_list, bs_list]
  rcases ltB_total a b with h | h | h
  · rw [if_pos (.inl ((lt_bytes a b).2 h)), ltB_asymm h]; rfl
  · subst h; rw [if_pos (.inr rfl), ltB_irrefl]; rfl
  · rw [if_neg, h, if_pos rfl]
    rintro (x | x)
    · have := (lt_bytes a b).1 x; rw [ltB_asymm h] at this; cases this
    · subst x; rw [ltB_irrefl] at h; cases h
theorem run_maxB (a b : List UInt8) (w : World) (ts : Array TypeId) (t : TypeId) : (Builtin.max_ ts t #[.string (bs a), .string (bs b)]).run Tryz.prog w = .ok (.string (bs (maxB a b))) w := by
  rw [← maxS_bs]; exact Lib.run_max_strs ..
theorem run_minB (a b : List UInt8) (w : World) (ts : Array TypeId) (t : TypeId) : (Builtin.min_ ts t #[.string (bs a), .string (bs b)]).run Tryz.prog w = .ok (.string (bs (minB a b))) w := by
  rw [← minS_bs]; exact Lib.run_min_strs ..
def mayB (t : Tb) (lo hi : List UInt8) : Bool := !ltB (minB t.high hi) (maxB t.low lo)
theorem ltB_le_trans {a b c : List UInt8} (h1 : ltB b a = false) (h2 : ltB c b = false) : ltB c a = false := ltB_ntrans h2 h1
theorem mayB_iff (t : Tb) (lo hi : List UInt8) : mayB t lo hi = true ↔ ltB t.high t.low = false ∧ ltB hi t.low = false ∧ ltB t.high lo = false ∧ ltB hi lo = false := by
  unfold mayB
  have e1 : ∀ x : List UInt8, ltB (minB t.high hi) x = false ↔ ltB t.high x = false ∧ ltB hi x = false := fun x => by
    unfold minB
    cases h : ltB hi t.high with
    | true =>
      rw [if_pos rfl]
      refine ⟨fun a => ⟨?_, a⟩, fun a => a.2⟩
      cases e : ltB t.high x with
      | false => rfl
      | true => have := ltB_trans h e; rw [a] at this; cases this
    | false =>
      rw [if_neg (by simp)]
      refine ⟨fun a => ⟨a, ?_⟩, fun a => a.1⟩
      cases e : ltB hi x with
      | false => rfl
      | true => have := ltB_le_lt h e; rw [a] at this; cases this
  have e2 : ∀ x : List UInt8, ltB x (maxB t.low lo) = false ↔ ltB x t.low = false ∧ ltB x lo = false := fun x => by
    unfold maxB
    cases h : ltB t.low lo with
    | true =>
      rw [if_pos rfl]
      refine ⟨fun a => ⟨?_, a⟩, fun a => a.2⟩
      cases e : ltB x t.low with
      | false => rfl
      | true => have := ltB_trans e h; rw [a] at this; cases this
    | false =>
      rw [if_neg (by simp)]
      refine ⟨fun a => ⟨a, ?_⟩, fun a => a.1⟩
      cases e : ltB x lo with
      | false => rfl
      | true => have := ltB_lt_le e h; rw [a] at this; cases this
  rw [Bool.not_eq_true', e2, e1, e1]
  constructor
  · rintro ⟨⟨a, b⟩, c, d⟩; exact ⟨a, b, c, d⟩
  · rintro ⟨a, b, c, d⟩; exact ⟨⟨a, b⟩, c, d⟩
set_option maxHeartbeats 1000000 in
theorem may_have (t : Tb) (lo hi : List UInt8) (w : World) : Calls Tryz.prog 94 #[.agg #[.int .i64 t.file, .int .i64 t.lev, .int .i64 t.cnt, .string (bs t.low), .string (bs t.high)], .string (bs lo), .string (bs hi)] w fun e w' => e = .returned (.bool (mayB t lo hi)) ∧ Below w.heap.size w w' := by
  obtain ⟨p1, q1, h1, h2, h3⟩ := leq_texts (maxB t.low lo) (minB t.high hi)
  obtain ⟨z, hz⟩ : ∃ z, z = mayB t lo hi := ⟨_, rfl⟩
  rw [← hz]
  have HZ := Lib.hid (show z = (p1 || q1) by rw [hz]; unfold mayB; rw [h3])
  have K0 := Lib.hid (show Below w.heap.size w (w.alloc (.cells #[.int .i64 t.file, .int .i64 t.lev, .int .i64 t.cnt, .string (bs t.low), .string (bs t.high)] 42)) from (Below.refl _ _).alloc (Nat.le_refl _) _)
  have hmx := run_maxB t.low lo
  have hmn := run_minB t.high hi
  generalize maxB t.low lo = mx at *
  generalize minB t.high hi = mn at *
  clear hz h3
  cases p1 <;> cases q1
  all_goals
    go_enter Tryz.func94, Tryz.ntmps94
    go_wp2
    go_ret
    exact ⟨by rw [HZ.out]; rfl, K0.out⟩
/-- A closure's look at a level. -/
theorem at_level {l : Int} {lb : Nat} (t : Tb) (w : World) (h : w.cell? ⟨lb, 0, none⟩ = some (.int .i64 l)) :
    Calls Tryz.prog 129 #[.agg #[.int .i64 t.file, .int .i64 t.lev, .int .i64 t.cnt, .string (bs t.low), .string (bs t.high)], .pointer (some ⟨lb, 0, none⟩)] w fun e w' => e = .returned (.bool (decide (t.lev = l))) ∧ Below w.heap.size w w' := by
  have K0 := Lib.hid (show Below w.heap.size w (w.alloc (.cells #[.int .i64 t.file, .int .i64 t.lev, .int .i64 t.cnt, .string (bs t.low), .string (bs t.high)] 42)) from (Below.refl _ _).alloc (Nat.le_refl _) _)
  have hlb : lb < w.heap.size := cell_block (v := .int .i64 l) h
  have h1 : (w.alloc (.cells #[.int .i64 t.file, .int .i64 t.lev, .int .i64 t.cnt, .string (bs t.low), .string (bs t.high)] 42)).cell? ⟨lb, 0, none⟩ = some (.int .i64 l) := by rw [K0.out.cell (p := ⟨lb, 0, none⟩) hlb]; exact h
  obtain ⟨z, hz⟩ : ∃ z, z = decide (t.lev = l) := ⟨_, rfl⟩
  rw [← hz]
  have hq : (t.lev == l) = z := by rw [hz]; rfl
  clear hz h
  go_enter Tryz.func129, Tryz.ntmps129
  go_wp2
  go_ret
  exact ⟨rfl, K0.out⟩
end Go.Proofs.YtfbaenhajlckjaaGreat
/- What the closures of layer 14 answer. -/
set_option linter.unusedVariables false
set_option maxRecDepth 100000
namespace Go.Proofs.YtfbaenhajlckjaaGreat
open Go.RowKit

set_option maxHeartbeats 1000000 in
theorem over_look {l : Int} {lo hi : List UInt8} {lb ob hb : Nat} (t : Tb) (w : World) (h0 : w.cell? ⟨lb, 0, none⟩ = some (.int .i64 l)) (h1 : w.cell? ⟨ob, 0, none⟩ = some (.string (bs lo))) (h2 : w.cell? ⟨hb, 0, none⟩ = some (.string (bs hi))) :
    Calls Tryz.prog 132 #[.agg #[.int .i64 t.file, .int .i64 t.lev, .int .i64 t.cnt, .string (bs t.low), .string (bs t.high)], .pointer (some ⟨lb, 0, none⟩), .pointer (some ⟨ob, 0, none⟩), .pointer (some ⟨hb, 0, none⟩)] w fun e w' => e = .returned (.bool (decide (t.lev = l) && mayB t lo hi)) ∧ Below w.heap.size w w' := by
  obtain ⟨w1, hw1⟩ : ∃ w1, w.alloc (.cells #[.int .i64 t.file, .int .i64 t.lev, .int .i64 t.cnt, .string (bs t.low), .string (bs t.high)] 42) = w1 := ⟨_, rfl⟩
  obtain ⟨tb, htb⟩ : ∃ tb, tb = w.heap.size := ⟨_, rfl⟩
  have K1 := Lib.hid (show Below w.heap.size w w1 by rw [← hw1]; exact (Below.refl _ _).alloc (Nat.le_refl _) _)
  have T1 := Lib.hid (show w1.heap[tb]? = some (.cells #[.int .i64 t.file, .int .i64 t.lev, .int .i64 t.cnt, .string (bs t.low), .string (bs t.high)] 42 (0, 0)) by rw [← hw1, htb]; exact heap_new w _)
  have g0 : w1.cell? ⟨lb, 0, none⟩ = some (.int .i64 l) := by rw [K1.out.cell (p := ⟨lb, 0, none⟩) (cell_block (v := .int .i64 l) h0)]; exact h0
  have g1 : w1.cell? ⟨ob, 0, none⟩ = some (.string (bs lo)) := by rw [K1.out.cell (p := ⟨ob, 0, none⟩) (cell_block (v := .string (bs lo)) h1)]; exact h1
  have g2 : w1.cell? ⟨hb, 0, none⟩ = some (.string (bs hi)) := by rw [K1.out.cell (p := ⟨hb, 0, none⟩) (cell_block (v := .string (bs hi)) h2)]; exact h2
  have t0 : w1.cell? ⟨tb, 0, none⟩ = some (.int .i64 t.file) := by simp [World.cell?, T1.out]
  have t1 : w1.cell? ⟨tb, 1, none⟩ = some (.int .i64 t.lev) := by simp [World.cell?, T1.out]
  have t2 : w1.cell? ⟨tb, 2, none⟩ = some (.int .i64 t.cnt) := by simp [World.cell?, T1.out]
  have t3 : w1.cell? ⟨tb, 3, none⟩ = some (.string (bs t.low)) := by simp [World.cell?, T1.out]
  have t4 : w1.cell? ⟨tb, 4, none⟩ = some (.string (bs t.high)) := by simp [World.cell?, T1.out]
  have HW1 := Lib.hid hw1
  have HTB := Lib.hid htb
  have HM := Lib.hid (may_have t lo hi w1)
  obtain ⟨z, hz⟩ : ∃ z, z = mayB t lo hi := ⟨_, rfl⟩
  rw [← hz] at HM ⊢
  clear hw1 htb hz h0 h1 h2
  by_cases hc : t.lev = l
  · have hd : (t.lev == l) = true := by simpa using hc
    have HV := Lib.hid (show (decide (t.lev = l) && z) = z by rw [decide_eq_true hc]; rfl)
    clear hc
    rw [HV.out]
    go_enter Tryz.func132, Tryz.ntmps132
    go_upto_region 1 with (fail)
    rw [HW1.out, ← HTB.out]
    go_wp2_with fail
    refine HM.out.mono ?_
    rintro e w2 ⟨rfl, k2⟩
    have K2 := Lib.hid (K1.out.trans (k2.mono K1.out.size))
    clear k2
    go_wp2
    go_ret
    exact ⟨rfl, K2.out⟩
  · have hd : (t.lev == l) = false := by simpa using hc
    have HV := Lib.hid (show (decide (t.lev = l) && z) = false by rw [decide_eq_false hc]; rfl)
    clear hc HM
    rw [HV.out]
    go_enter Tryz.func132, Tryz.ntmps132
    go_upto_region 1 with (fail)
    rw [HW1.out, ← HTB.out]
    go_wp2
    go_ret
    exact ⟨rfl, K1.out⟩
set_option maxHeartbeats 1000000 in
theorem find_look {lo : List UInt8} {ob : Nat} (t : Tb) (w : World) (h0 : w.cell? ⟨ob, 0, none⟩ = some (.string (bs lo))) :
    Calls Tryz.prog 98 #[.agg #[.int .i64 t.file, .int .i64 t.lev, .int .i64 t.cnt, .string (bs t.low), .string (bs t.high)], .pointer (some ⟨ob, 0, none⟩)] w fun e w' => e = .returned (.bool (mayB t lo lo)) ∧ Below w.heap.size w w' := by
  obtain ⟨w1, hw1⟩ : ∃ w1, w.alloc (.cells #[.int .i64 t.file, .int .i64 t.lev, .int .i64 t.cnt, .string (bs t.low), .string (bs t.high)] 42) = w1 := ⟨_, rfl⟩
  obtain ⟨tb, htb⟩ : ∃ tb, tb = w.heap.size := ⟨_, rfl⟩
  have K1 := Lib.hid (show Below w.heap.size w w1 by rw [← hw1]; exact (Below.refl _ _).alloc (Nat.le_refl _) _)
  have T1 := Lib.hid (show w1.heap[tb]? = some (.cells #[.int .i64 t.file, .int .i64 t.lev, .int .i64 t.cnt, .string (bs t.low), .string (bs t.high)] 42 (0, 0)) by rw [← hw1, htb]; exact heap_new w _)
  have g0 : w1.cell? ⟨ob, 0, none⟩ = some (.string (bs lo)) := by rw [K1.out.cell (p := ⟨ob, 0, none⟩) (cell_block (v := .string (bs lo)) h0)]; exact h0
  have t0 : w1.cell? ⟨tb, 0, none⟩ = some (.int .i64 t.file) := by simp [World.cell?, T1.out]
  have t1 : w1.cell? ⟨tb, 1, none⟩ = some (.int .i64 t.lev) := by simp [World.cell?, T1.out]
  have t2 : w1.cell? ⟨tb, 2, none⟩ = some (.int .i64 t.cnt) := by simp [World.cell?, T1.out]
  have t3 : w1.cell? ⟨tb, 3, none⟩ = some (.string (bs t.low)) := by simp [World.cell?, T1.out]
  have t4 : w1.cell? ⟨tb, 4, none⟩ = some (.string (bs t.high)) := by simp [World.cell?, T1.out]
  have HW1 := Lib.hid hw1
  have HTB := Lib.hid htb
  have HM := Lib.hid (may_have t lo lo w1)
  obtain ⟨z, hz⟩ : ∃ z, z = mayB t lo lo := ⟨_, rfl⟩
  rw [← hz] at HM ⊢
  clear hw1 htb hz h0
  go_enter Tryz.func98, Tryz.ntmps98
  go_upto_region 1 with (fail)
  rw [HW1.out, ← HTB.out]
  go_wp2_with fail
  refine HM.out.mono ?_
  rintro e w2 ⟨rfl, k2⟩
  have K2 := Lib.hid (K1.out.trans (k2.mono K1.out.size))
  clear k2
  go_wp2
  go_ret
  exact ⟨rfl, K2.out⟩
set_option maxHeartbeats 1000000 in
theorem pick_look {l : Int} {lo hi : List UInt8} {lb ob hb : Nat} (t : Tb) (w : World) (h0 : w.cell? ⟨lb, 0, none⟩ = some (.int .i64 l)) (h1 : w.cell? ⟨ob, 0, none⟩ = some (.string (bs lo))) (h2 : w.cell? ⟨hb, 0, none⟩ = some (.string (bs hi))) :
    Calls Tryz.prog 93 #[.agg #[.int .i64 t.file, .int .i64 t.lev, .int .i64 t.cnt, .string (bs t.low), .string (bs t.high)], .pointer (some ⟨lb, 0, none⟩), .pointer (some ⟨ob, 0, none⟩), .pointer (some ⟨hb, 0, none⟩)] w fun e w' => e = .returned (.bool (decide (l < t.lev) && mayB t lo hi)) ∧ Below w.heap.size w w' := by
  obtain ⟨w1, hw1⟩ : ∃ w1, w.alloc (.cells #[.int .i64 t.file, .int .i64 t.lev, .int .i64 t.cnt, .string (bs t.low), .string (bs t.high)] 42) = w1 := ⟨_, rfl⟩
  obtain ⟨tb, htb⟩ : ∃ tb, tb = w.heap.size := ⟨_, rfl⟩
  have K1 := Lib.hid (show Below w.heap.size w w1 by rw [← hw1]; exact (Below.refl _ _).alloc (Nat.le_refl _) _)
  have T1 := Lib.hid (show w1.heap[tb]? = some (.cells #[.int .i64 t.file, .int .i64 t.lev, .int .i64 t.cnt, .string (bs t.low), .string (bs t.high)] 42 (0, 0)) by rw [← hw1, htb]; exact heap_new w _)
  have g0 : w1.cell? ⟨lb, 0, none⟩ = some (.int .i64 l) := by rw [K1.out.cell (p := ⟨lb, 0, none⟩) (cell_block (v := .int .i64 l) h0)]; exact h0
  have g1 : w1.cell? ⟨ob, 0, none⟩ = some (.string (bs lo)) := by rw [K1.out.cell (p := ⟨ob, 0, none⟩) (cell_block (v := .string (bs lo)) h1)]; exact h1
  have g2 : w1.cell? ⟨hb, 0, none⟩ = some (.string (bs hi)) := by rw [K1.out.cell (p := ⟨hb, 0, none⟩) (cell_block (v := .string (bs hi)) h2)]; exact h2
  have t0 : w1.cell? ⟨tb, 0, none⟩ = some (.int .i64 t.file) := by simp [World.cell?, T1.out]
  have t1 : w1.cell? ⟨tb, 1, none⟩ = some (.int .i64 t.lev) := by simp [World.cell?, T1.out]
  have t2 : w1.cell? ⟨tb, 2, none⟩ = some (.int .i64 t.cnt) := by simp [World.cell?, T1.out]
  have t3 : w1.cell? ⟨tb, 3, none⟩ = some (.string (bs t.low)) := by simp [World.cell?, T1.out]
  have t4 : w1.cell? ⟨tb, 4, none⟩ = some (.string (bs t.high)) := by simp [World.cell?, T1.out]
  have HW1 := Lib.hid hw1
  have HTB := Lib.hid htb
  have HM := Lib.hid (may_have t lo hi w1)
  obtain ⟨z, hz⟩ : ∃ z, z = mayB t lo hi := ⟨_, rfl⟩
  rw [← hz] at HM ⊢
  clear hw1 htb hz h0 h1 h2
  by_cases hc : l < t.lev
  · have hd : decide (l < t.lev) = true := decide_eq_true hc
    have HV := Lib.hid (show (decide (l < t.lev) && z) = z by rw [decide_eq_true hc]; rfl)
    clear hc
    rw [HV.out]
    go_enter Tryz.func93, Tryz.ntmps93
    go_upto_region 1 with (fail)
    rw [HW1.out, ← HTB.out]
    go_wp2_with fail
    refine HM.out.mono ?_
    rintro e w2 ⟨rfl, k2⟩
    have K2 := Lib.hid (K1.out.trans (k2.mono K1.out.size))
    clear k2
    go_wp2
    go_ret
    exact ⟨rfl, K2.out⟩
  · have hd : decide (l < t.lev) = false := decide_eq_false hc
    have HV := Lib.hid (show (decide (l < t.lev) && z) = false by rw [decide_eq_false hc]; rfl)
    clear hc HM
    rw [HV.out]
    go_enter Tryz.func93, Tryz.ntmps93
    go_upto_region 1 with (fail)
    rw [HW1.out, ← HTB.out]
    go_wp2
    go_ret
    exact ⟨rfl, K1.out⟩
end Go.Proofs.YtfbaenhajlckjaaGreat
/- Those tables that are wanted, in the order in which they stand. -/
set_option linter.unusedVariables false
set_option maxRecDepth 100000
namespace Go.Proofs.YtfbaenhajlckjaaGreat
open Go.RowKit

theorem filter_next {α : Type} {p : α → Bool} {L : List α} {i : Nat} {y : α} (hy : L[i]? = some y) : (L.take (i + 1)).filter p = (L.take i).filter p ++ (if p y = true then [y] else []) := by
  rw [List.take_add_one, hy, List.filter_append]
  cases h : p y <;> simp [h]
set_option maxHeartbeats 4000000 in
theorem those_level {T : Nat → Prop} {w : World} {a : Option Addr} {n cap lb : Nat} {L : List Tb} {p : Tb → Bool} (h : Hid (RdL T w (.slice a n cap) n (flat tcell L))) (hL : Hid (n = L.length)) (hn : n ≤ 1000000000)
    (hF : Hid (∀ (y : Tb) (W : World), Below w.heap.size w W → Calls Tryz.prog 129 #[.agg #[.int .i64 y.file, .int .i64 y.lev, .int .i64 y.cnt, .string (bs y.low), .string (bs y.high)], .pointer (some ⟨lb, 0, none⟩)] W fun e w' => e = .returned (.bool (p y)) ∧ Below W.heap.size W w')) :
    Calls Tryz.prog 97 #[.slice a n cap, .func (.func 129) #[] #[.pointer (some ⟨lb, 0, none⟩)]] w fun e w' => ∃ v, e = .returned v ∧ OwnTb w' w.heap.size v (L.filter p) ∧ Below w.heap.size w w' := by
  have eg : ∀ args w, (callFunc 129 args).run Tryz.prog w = .ok (.enter 129 args) w := enters_of Tryz.func129 (by kernel_rfl) rfl
  obtain ⟨B, hB⟩ : ∃ B, B = w.heap.size := ⟨_, rfl⟩
  rw [← hB]
  have HB := Lib.hid hB
  obtain ⟨i0, hi0, hz0, hz1, hz2⟩ := info_parts infoTb
  have HI := Lib.hid (And.intro hi0 (And.intro hz0 (And.intro hz1 hz2)))
  clear hi0 hz0 hz1 hz2 hB
  go_enter Tryz.func97, Tryz.ntmps97
  go_wp2_with fail
  go_loopw [5, 10] (fun v iv wr => ∃ i : Nat, i ≤ n ∧ iv = .int .i64 (i : Int) ∧ Hid (OwnTb wr B v ((L.take i).filter p)) ∧ Hid (Below B w wr)) (fun v iv wr => n - (intOf iv).toNat)
  case atStart => exact ⟨0, Nat.zero_le _, rfl, Lib.hid (OffRow.nil _ _ _ _), Lib.hid (Below.refl _ _)⟩
  case round =>
    obtain ⟨i, hi, rfl, hO, hK⟩ := hrel
    obtain ⟨LL, hLL⟩ : ∃ LL, LL = (L.take i).filter p := ⟨_, rfl⟩
    obtain ⟨N, hN⟩ : ∃ N, N = LL.length := ⟨_, rfl⟩
    have hN9 : N ≤ 1000000000 := by
      have := List.length_filter_le p (L.take i)
      rw [hN, hLL]
      rw [List.length_take] at this
      omega
    have HNN := Lib.hid hN
    have HLL := Lib.hid hLL
    have HO := Lib.hid (show OffRow wr B 42 5 _ N (flat tcell LL) by have := hO.out; rw [← hLL] at this; unfold OwnTb at this; rw [← hN] at this; exact this)
    obtain ⟨a3, c3, rfl⟩ := OffRow.slice HO.out
    clear hN hO hLL
    have HBr := Lib.hid (show B ≤ wr.heap.size by have := hK.out.size; have := HB.out; omega)
    by_cases hlt : i < n
    · have hlt' : (i : Int) < (n : Int) := by omega
      obtain ⟨y, hy⟩ : ∃ y, L[i]? = some y := ⟨_, List.getElem?_eq_getElem (by have := hL.out; omega)⟩
      obtain ⟨b, off, rfl, ht, hb2, hc⟩ := RdL.atT h.out hy hlt
      have hcr : ∀ i' u, (tcell y)[i']? = some u → wr.cell? ⟨b, off + i * 5 + i', none⟩ = some u := fun i' u hu => by
        rw [← hc i' u hu]
        simp only [World.cell?, hK.out.block b (by rw [HB.out]; exact hb2)]
      have y0 : wr.cell? ⟨b, off + i * 5, none⟩ = _ := hcr 0 _ rfl
      have y1 := hcr 1 _ rfl
      have y2 := hcr 2 _ rfl
      have y3 := hcr 3 _ rfl
      have y4 := hcr 4 _ rfl
      have HNX := Lib.hid (filter_next (p := p) hy)
      obtain ⟨w4, hw4⟩ : ∃ w4, wr.alloc (.cells #[.int .i64 y.file, .int .i64 y.lev, .int .i64 y.cnt, .string (bs y.low), .string (bs y.high)] 42) = w4 := ⟨_, rfl⟩
      obtain ⟨tb, htb⟩ : ∃ tb, tb = wr.heap.size := ⟨_, rfl⟩
      have T4 := Lib.hid (show w4.heap[tb]? = some (.cells #[.int .i64 y.file, .int .i64 y.lev, .int .i64 y.cnt, .string (bs y.low), .string (bs y.high)] 42 (0, 0)) by rw [← hw4, htb]; exact heap_new wr _)
      have k4 : Below wr.heap.size wr w4 := by rw [← hw4]; exact (Below.refl _ _).alloc (Nat.le_refl _) _
      have K4 := Lib.hid (hK.out.trans (k4.mono HBr.out))
      have O4 := Lib.hid (OffRow.kept HO.out (w' := w4) fun j hj => k4.block j (OffRow.lt HO.out j hj).2)
      have HC := Lib.hid (hF.out y w4 (HB.out ▸ K4.out))
      obtain ⟨z, hz⟩ : ∃ z, z = p y := ⟨_, rfl⟩
      rw [← hz] at HC HNX
      have HW4 := Lib.hid hw4
      have HTB := Lib.hid htb
      clear hc hcr hy hw4 htb k4 hz
      go_upto_region 5 with (fail)
      rw [HW4.out, ← HTB.out]
      clear y0 y1 y2 y3 y4
      have t0 : w4.cell? ⟨tb, 0, none⟩ = some (.int .i64 y.file) := by simp [World.cell?, T4.out]
      have t1 : w4.cell? ⟨tb, 1, none⟩ = some (.int .i64 y.lev) := by simp [World.cell?, T4.out]
      have t2 : w4.cell? ⟨tb, 2, none⟩ = some (.int .i64 y.cnt) := by simp [World.cell?, T4.out]
      have t3 : w4.cell? ⟨tb, 3, none⟩ = some (.string (bs y.low)) := by simp [World.cell?, T4.out]
      have t4 : w4.cell? ⟨tb, 4, none⟩ = some (.string (bs y.high)) := by simp [World.cell?, T4.out]
      cases z with
      | false =>
        go_wp2_with fail
        refine HC.out.mono ?_
        rintro e w5 ⟨rfl, k5⟩
        have HB4 : B ≤ w4.heap.size := Nat.le_of_lt (by have := heap_lt T4.out; have := HBr.out; have := HTB.out; omega)
        have K5 := Lib.hid (K4.out.trans (k5.mono HB4))
        have O5 := Lib.hid (show OwnTb w5 B (.slice a3 N c3) ((L.take (i + 1)).filter p) by
          rw [HNX.out, if_neg (by simp), List.append_nil, ← HLL.out]
          unfold OwnTb
          rw [← HNN.out]
          exact OffRow.kept O4.out (w' := w5) fun j hj => k5.block j (OffRow.lt O4.out j hj).2)
        clear t0 t1 t2 t3 t4 k5 HC
        go_wp2_with fail
        go_roundw
        case rel => exact ⟨i + 1, by omega, by go_num, O5, K5⟩
        case measure => simp [intOf]; omega
      | true =>
        go_wp2_with fail
        refine HC.out.mono ?_
        rintro e w5 ⟨rfl, k5⟩
        have HB4 : B ≤ w4.heap.size := Nat.le_of_lt (by have := heap_lt T4.out; have := HBr.out; have := HTB.out; omega)
        have K5 := Lib.hid (K4.out.trans (k5.mono HB4))
        have O5 := Lib.hid (OffRow.kept O4.out (w' := w5) fun j hj => k5.block j (OffRow.lt O4.out j hj).2)
        have T5 := Lib.hid ((k5.block tb (heap_lt T4.out)).trans T4.out)
        have HB5 := Lib.hid (show B ≤ w5.heap.size from Nat.le_trans HB4 k5.size)
        clear t0 t1 t2 t3 t4 k5 HC O4
        have t0 : w5.cell? ⟨tb, 0, none⟩ = some (.int .i64 y.file) := by simp [World.cell?, T5.out]
        have t1 : w5.cell? ⟨tb, 1, none⟩ = some (.int .i64 y.lev) := by simp [World.cell?, T5.out]
        have t2 : w5.cell? ⟨tb, 2, none⟩ = some (.int .i64 y.cnt) := by simp [World.cell?, T5.out]
        have t3 : w5.cell? ⟨tb, 3, none⟩ = some (.string (bs y.low)) := by simp [World.cell?, T5.out]
        have t4 : w5.cell? ⟨tb, 4, none⟩ = some (.string (bs y.high)) := by simp [World.cell?, T5.out]
        obtain ⟨w6, hw6⟩ : ∃ w6, w6 = w5.alloc (.cells #[.int .i64 y.file, .int .i64 y.lev, .int .i64 y.cnt, .string (bs y.low), .string (bs y.high)] 42) := ⟨_, rfl⟩
        have O6 := Lib.hid (show OffRow w6 B 42 5 (.slice a3 N c3) N (flat tcell LL) by rw [hw6]; exact O5.out.allocd _)
        have K6 := Lib.hid (show Below w5.heap.size w5 w6 by rw [hw6]; exact (Below.refl _ _).alloc (Nat.le_refl _) _)
        have HSR := Lib.hid (show Src Tryz.prog 5 25 (.slice (some ⟨w5.heap.size, 0, none⟩) 1 1) 1 (tcell y) w6 by
          have hb : w6.heap[w5.heap.size]? = some (.cells #[.int .i64 y.file, .int .i64 y.lev, .int .i64 y.cnt, .string (bs y.low), .string (bs y.high)] 42 (0, 0)) := by
            rw [hw6]
            exact heap_new w5 _
          exact src_block (size := 5) (cs := #[.int .i64 y.file, .int .i64 y.lev, .int .i64 y.cnt, .string (bs y.low), .string (bs y.high)]) Tryz.underlying25 hb 1 1 rfl (tcell_one y))
        have HB6 := Lib.hid (show B ≤ w6.heap.size by have := K6.out.size; have := HB5.out; omega)
        rw [hw6] at O6 HSR HB6
        have HW6 := Lib.hid hw6
        clear hw6
        go_wp2_with (at_builtin; refine wpList_append_off rfl (.tmp 17) (.tmp 19) 25 rfl B 42 i0 _ 5 56 Tryz.underlying25 HI.out.1 HI.out.2.1 HI.out.2.2.1 HI.out.2.2.2 rfl (.slice a3 N c3) N _ rfl O6.out (.slice (some ⟨w5.heap.size, 0, none⟩) 1 1) rfl 1 _ HSR.out (by unfold maxLen; omega) (by omega) HB6.out ?_)
        intro v7 w7 hr7 hg7 hat7
        rw [← HW6.out] at hg7
        have O7 := Lib.hid (show OwnTb w7 B v7 ((L.take (i + 1)).filter p) by
          have e : (L.take (i + 1)).filter p = LL ++ [y] := by rw [HNX.out, ← HLL.out]; simp
          rw [e]
          unfold OwnTb
          rw [flat_append, flat_one, List.length_append, ← HNN.out]
          exact hr7)
        have K7 := Lib.hid ((K5.out.trans (K6.out.mono HB5.out)).grown hg7 (by rw [HW6.out]; exact HB6.out) (fun j hj => (OffRow.lt O5.out j hj).1))
        clear hr7 hg7 hat7 O6 HSR t0 t1 t2 t3 t4
        go_wp2_with fail
        go_roundw
        case rel => exact ⟨i + 1, by omega, by go_num, O7, K7⟩
        case measure => simp [intOf]; omega
    · have hge : (n : Int) ≤ (i : Int) := by omega
      have HE := Lib.hid (show OwnTb wr B (.slice a3 N c3) (L.filter p) by
        have e : (L.take i).filter p = L.filter p := by rw [List.take_of_length_le (by have := hL.out; omega)]
        unfold OwnTb
        rw [← e, ← HLL.out, ← HNN.out]
        exact HO.out)
      go_wp2
      go_ret
      exact ⟨_, rfl, HE.out, hK.out⟩
set_option maxHeartbeats 4000000 in
theorem those_over {T : Nat → Prop} {w : World} {a : Option Addr} {n cap lb ob hb : Nat} {L : List Tb} {p : Tb → Bool} (h : Hid (RdL T w (.slice a n cap) n (flat tcell L))) (hL : Hid (n = L.length)) (hn : n ≤ 1000000000)
    (hF : Hid (∀ (y : Tb) (W : World), Below w.heap.size w W → Calls Tryz.prog 132 #[.agg #[.int .i64 y.file, .int .i64 y.lev, .int .i64 y.cnt, .string (bs y.low), .string (bs y.high)], .pointer (some ⟨lb, 0, none⟩), .pointer (some ⟨ob, 0, none⟩), .pointer (some ⟨hb, 0, none⟩)] W fun e w' => e = .returned (.bool (p y)) ∧ Below W.heap.size W w')) :
    Calls Tryz.prog 97 #[.slice a n cap, .func (.func 132) #[] #[.pointer (some ⟨lb, 0, none⟩), .pointer (some ⟨ob, 0, none⟩), .pointer (some ⟨hb, 0, none⟩)]] w fun e w' => ∃ v, e = .returned v ∧ OwnTb w' w.heap.size v (L.filter p) ∧ Below w.heap.size w w' := by
  have eg : ∀ args w, (callFunc 132 args).run Tryz.prog w = .ok (.enter 132 args) w := enters_of Tryz.func132 (by kernel_rfl) rfl
  obtain ⟨B, hB⟩ : ∃ B, B = w.heap.size := ⟨_, rfl⟩
  rw [← hB]
  have HB := Lib.hid hB
  obtain ⟨i0, hi0, hz0, hz1, hz2⟩ := info_parts infoTb
  have HI := Lib.hid (And.intro hi0 (And.intro hz0 (And.intro hz1 hz2)))
  clear hi0 hz0 hz1 hz2 hB
  go_enter Tryz.func97, Tryz.ntmps97
  go_wp2_with fail
  go_loopw [5, 10] (fun v iv wr => ∃ i : Nat, i ≤ n ∧ iv = .int .i64 (i : Int) ∧ Hid (OwnTb wr B v ((L.take i).filter p)) ∧ Hid (Below B w wr)) (fun v iv wr => n - (intOf iv).toNat)
  case atStart => exact ⟨0, Nat.zero_le _, rfl, Lib.hid (OffRow.nil _ _ _ _), Lib.hid (Below.refl _ _)⟩
  case round =>
    obtain ⟨i, hi, rfl, hO, hK⟩ := hrel
    obtain ⟨LL, hLL⟩ : ∃ LL, LL = (L.take i).filter p := ⟨_, rfl⟩
    obtain ⟨N, hN⟩ : ∃ N, N = LL.length := ⟨_, rfl⟩
    have hN9 : N ≤ 1000000000 := by
      have := List.length_filter_le p (L.take i)
      rw [hN, hLL]
      rw [List.length_take] at this
      omega
    have HNN := Lib.hid hN
    have HLL := Lib.hid hLL
    have HO := Lib.hid (show OffRow wr B 42 5 _ N (flat tcell LL) by have := hO.out; rw [← hLL] at this; unfold OwnTb at this; rw [← hN] at this; exact this)
    obtain ⟨a3, c3, rfl⟩ := OffRow.slice HO.out
    clear hN hO hLL
    have HBr := Lib.hid (show B ≤ wr.heap.size by have := hK.out.size; have := HB.out; omega)
    by_cases hlt : i < n
    · have hlt' : (i : Int) < (n : Int) := by omega
      obtain ⟨y, hy⟩ : ∃ y, L[i]? = some y := ⟨_, List.getElem?_eq_getElem (by have := hL.out; omega)⟩
      obtain ⟨b, off, rfl, ht, hb2, hc⟩ := RdL.atT h.out hy hlt
      have hcr : ∀ i' u, (tcell y)[i']? = some u → wr.cell? ⟨b, off + i * 5 + i', none⟩ = some u := fun i' u hu => by
        rw [← hc i' u hu]
        simp only [World.cell?, hK.out.block b (by rw [HB.out]; exact hb2)]
      have y0 : wr.cell? ⟨b, off + i * 5, none⟩ = _ := hcr 0 _ rfl
      have y1 := hcr 1 _ rfl
      have y2 := hcr 2 _ rfl
      have y3 := hcr 3 _ rfl
      have y4 := hcr 4 _ rfl
      have HNX := Lib.hid (filter_next (p := p) hy)
      obtain ⟨w4, hw4⟩ : ∃ w4, wr.alloc (.cells #[.int .i64 y.file, .int .i64 y.lev, .int .i64 y.cnt, .string (bs y.low), .string (bs y.high)] 42) = w4 := ⟨_, rfl⟩
      obtain ⟨tb, htb⟩ : ∃ tb, tb = wr.heap.size := ⟨_, rfl⟩
      have T4 := Lib.hid (show w4.heap[tb]? = some (.cells #[.int .i64 y.file, .int .i64 y.lev, .int .i64 y.cnt, .string (bs y.low), .string (bs y.high)] 42 (0, 0)) by rw [← hw4, htb]; exact heap_new wr _)
      have k4 : Below wr.heap.size wr w4 := by rw [← hw4]; exact (Below.refl _ _).alloc (Nat.le_refl _) _
      have K4 := Lib.hid (hK.out.trans (k4.mono HBr.out))
      have O4 := Lib.hid (OffRow.kept HO.out (w' := w4) fun j hj => k4.block j (OffRow.lt HO.out j hj).2)
      have HC := Lib.hid (hF.out y w4 (HB.out ▸ K4.out))
      obtain ⟨z, hz⟩ : ∃ z, z = p y := ⟨_, rfl⟩
      rw [← hz] at HC HNX
      have HW4 := Lib.hid hw4
      have HTB := Lib.hid htb
      clear hc hcr hy hw4 htb k4 hz
      go_upto_region 5 with (fail)
      rw [HW4.out, ← HTB.out]
      clear y0 y1 y2 y3 y4
      have t0 : w4.cell? ⟨tb, 0, none⟩ = some (.int .i64 y.file) := by simp [World.cell?, T4.out]
      have t1 : w4.cell? ⟨tb, 1, none⟩ = some (.int .i64 y.lev) := by simp [World.cell?, T4.out]
      have t2 : w4.cell? ⟨tb, 2, none⟩ = some (.int .i64 y.cnt) := by simp [World.cell?, T4.out]
      have t3 : w4.cell? ⟨tb, 3, none⟩ = some (.string (bs y.low)) := by simp [World.cell?, T4.out]
      have t4 : w4.cell? ⟨tb, 4, none⟩ = some (.string (bs y.high)) := by simp [World.cell?, T4.out]
      cases z with
      | false =>
        go_wp2_with fail
        refine HC.out.mono ?_
        rintro e w5 ⟨rfl, k5⟩
        have HB4 : B ≤ w4.heap.size := Nat.le_of_lt (by have := heap_lt T4.out; have := HBr.out; have := HTB.out; omega)
        have K5 := Lib.hid (K4.out.trans (k5.mono HB4))
        have O5 := Lib.hid (show OwnTb w5 B (.slice a3 N c3) ((L.take (i + 1)).filter p) by
          rw [HNX.out, if_neg (by simp), List.append_nil, ← HLL.out]
          unfold OwnTb
          rw [← HNN.out]
          exact OffRow.kept O4.out (w' := w5) fun j hj => k5.block j (OffRow.lt O4.out j hj).2)
        clear t0 t1 t2 t3 t4 k5 HC
        go_wp2_with fail
        go_roundw
        case rel => exact ⟨i + 1, by omega, by go_num, O5, K5⟩
        case measure => simp [intOf]; omega
      | true =>
        go_wp2_with fail
        refine HC.out.mono ?_
        rintro e w5 ⟨rfl, k5⟩
        have HB4 : B ≤ w4.heap.size := Nat.le_of_lt (by have := heap_lt T4.out; have := HBr.out; have := HTB.out; omega)
        have K5 := Lib.hid (K4.out.trans (k5.mono HB4))
        have O5 := Lib.hid (OffRow.kept O4.out (w' := w5) fun j hj => k5.block j (OffRow.lt O4.out j hj).2)
        have T5 := Lib.hid ((k5.block tb (heap_lt T4.out)).trans T4.out)
        have HB5 := Lib.hid (show B ≤ w5.heap.size from Nat.le_trans HB4 k5.size)
        clear t0 t1 t2 t3 t4 k5 HC O4
        have t0 : w5.cell? ⟨tb, 0, none⟩ = some (.int .i64 y.file) := by simp [World.cell?, T5.out]
        have t1 : w5.cell? ⟨tb, 1, none⟩ = some (.int .i64 y.lev) := by simp [World.cell?, T5.out]
        have t2 : w5.cell? ⟨tb, 2, none⟩ = some (.int .i64 y.cnt) := by simp [World.cell?, T5.out]
        have t3 : w5.cell? ⟨tb, 3, none⟩ = some (.string (bs y.low)) := by simp [World.cell?, T5.out]
        have t4 : w5.cell? ⟨tb, 4, none⟩ = some (.string (bs y.high)) := by simp [World.cell?, T5.out]
        obtain ⟨w6, hw6⟩ : ∃ w6, w6 = w5.alloc (.cells #[.int .i64 y.file, .int .i64 y.lev, .int .i64 y.cnt, .string (bs y.low), .string (bs y.high)] 42) := ⟨_, rfl⟩
        have O6 := Lib.hid (show OffRow w6 B 42 5 (.slice a3 N c3) N (flat tcell LL) by rw [hw6]; exact O5.out.allocd _)
        have K6 := Lib.hid (show Below w5.heap.size w5 w6 by rw [hw6]; exact (Below.refl _ _).alloc (Nat.le_refl _) _)
        have HSR := Lib.hid (show Src Tryz.prog 5 25 (.slice (some ⟨w5.heap.size, 0, none⟩) 1 1) 1 (tcell y) w6 by
          have hb : w6.heap[w5.heap.size]? = some (.cells #[.int .i64 y.file, .int .i64 y.lev, .int .i64 y.cnt, .string (bs y.low), .string (bs y.high)] 42 (0, 0)) := by
            rw [hw6]
            exact heap_new w5 _
          exact src_block (size := 5) (cs := #[.int .i64 y.file, .int .i64 y.lev, .int .i64 y.cnt, .string (bs y.low), .string (bs y.high)]) Tryz.underlying25 hb 1 1 rfl (tcell_one y))
        have HB6 := Lib.hid (show B ≤ w6.heap.size by have := K6.out.size; have := HB5.out; omega)
        rw [hw6] at O6 HSR HB6
        have HW6 := Lib.hid hw6
        clear hw6
        go_wp2_with (at_builtin; refine wpList_append_off rfl (.tmp 17) (.tmp 19) 25 rfl B 42 i0 _ 5 56 Tryz.underlying25 HI.out.1 HI.out.2.1 HI.out.2.2.1 HI.out.2.2.2 rfl (.slice a3 N c3) N _ rfl O6.out (.slice (some ⟨w5.heap.size, 0, none⟩) 1 1) rfl 1 _ HSR.out (by unfold maxLen; omega) (by omega) HB6.out ?_)
        intro v7 w7 hr7 hg7 hat7
        rw [← HW6.out] at hg7
        have O7 := Lib.hid (show OwnTb w7 B v7 ((L.take (i + 1)).filter p) by
          have e : (L.take (i + 1)).filter p = LL ++ [y] := by rw [HNX.out, ← HLL.out]; simp
          rw [e]
          unfold OwnTb
          rw [flat_append, flat_one, List.length_append, ← HNN.out]
          exact hr7)
        have K7 := Lib.hid ((K5.out.trans (K6.out.mono HB5.out)).grown hg7 (by rw [HW6.out]; exact HB6.out) (fun j hj => (OffRow.lt O5.out j hj).1))
        clear hr7 hg7 hat7 O6 HSR t0 t1 t2 t3 t4
        go_wp2_with fail
        go_roundw
        case rel => exact ⟨i + 1, by omega, by go_num, O7, K7⟩
        case measure => simp [intOf]; omega
    · have hge : (n : Int) ≤ (i : Int) := by omega
      have HE := Lib.hid (show OwnTb wr B (.slice a3 N c3) (L.filter p) by
        have e : (L.take i).filter p = L.filter p := by rw [List.take_of_length_le (by have := hL.out; omega)]
        unfold OwnTb
        rw [← e, ← HLL.out, ← HNN.out]
        exact HO.out)
      go_wp2
      go_ret
      exact ⟨_, rfl, HE.out, hK.out⟩
set_option maxHeartbeats 4000000 in
theorem those_find {T : Nat → Prop} {w : World} {a : Option Addr} {n cap ob : Nat} {L : List Tb} {p : Tb → Bool} (h : Hid (RdL T w (.slice a n cap) n (flat tcell L))) (hL : Hid (n = L.length)) (hn : n ≤ 1000000000)
    (hF : Hid (∀ (y : Tb) (W : World), Below w.heap.size w W → Calls Tryz.prog 98 #[.agg #[.int .i64 y.file, .int .i64 y.lev, .int .i64 y.cnt, .string (bs y.low), .string (bs y.high)], .pointer (some ⟨ob, 0, none⟩)] W fun e w' => e = .returned (.bool (p y)) ∧ Below W.heap.size W w')) :
    Calls Tryz.prog 97 #[.slice a n cap, .func (.func 98) #[] #[.pointer (some ⟨ob, 0, none⟩)]] w fun e w' => ∃ v, e = .returned v ∧ OwnTb w' w.heap.size v (L.filter p) ∧ Below w.heap.size w w' := by
  have eg : ∀ args w, (callFunc 98 args).run Tryz.prog w = .ok (.enter 98 args) w := enters_of Tryz.func98 (by kernel_rfl) rfl
  obtain ⟨B, hB⟩ : ∃ B, B = w.heap.size := ⟨_, rfl⟩
  rw [← hB]
  have HB := Lib.hid hB
  obtain ⟨i0, hi0, hz0, hz1, hz2⟩ := info_parts infoTb
  have HI := Lib.hid (And.intro hi0 (And.intro hz0 (And.intro hz1 hz2)))
  clear hi0 hz0 hz1 hz2 hB
  go_enter Tryz.func97, Tryz.ntmps97
  go_wp2_with fail
  go_loopw [5, 10] (fun v iv wr => ∃ i : Nat, i ≤ n ∧ iv = .int .i64 (i : Int) ∧ Hid (OwnTb wr B v ((L.take i).filter p)) ∧ Hid (Below B w wr)) (fun v iv wr => n - (intOf iv).toNat)
  case atStart => exact ⟨0, Nat.zero_le _, rfl, Lib.hid (OffRow.nil _ _ _ _), Lib.hid (Below.refl _ _)⟩
  case round =>
    obtain ⟨i, hi, rfl, hO, hK⟩ := hrel
    obtain ⟨LL, hLL⟩ : ∃ LL, LL = (L.take i).filter p := ⟨_, rfl⟩
    obtain ⟨N, hN⟩ : ∃ N, N = LL.length := ⟨_, rfl⟩
    have hN9 : N ≤ 1000000000 := by
      have := List.length_filter_le p (L.take i)
      rw [hN, hLL]
      rw [List.length_take] at this
      omega
    have HNN := Lib.hid hN
    have HLL := Lib.hid hLL
    have HO := Lib.hid (show OffRow wr B 42 5 _ N (flat tcell LL) by have := hO.out; rw [← hLL] at this; unfold OwnTb at this; rw [← hN] at this; exact this)
    obtain ⟨a3, c3, rfl⟩ := OffRow.slice HO.out
    clear hN hO hLL
    have HBr := Lib.hid (show B ≤ wr.heap.size by have := hK.out.size; have := HB.out; omega)
    by_cases hlt : i < n
    · have hlt' : (i : Int) < (n : Int) := by omega
      obtain ⟨y, hy⟩ : ∃ y, L[i]? = some y := ⟨_, List.getElem?_eq_getElem (by have := hL.out; omega)⟩
      obtain ⟨b, off, rfl, ht, hb2, hc⟩ := RdL.atT h.out hy hlt
      have hcr : ∀ i' u, (tcell y)[i']? = some u → wr.cell? ⟨b, off + i * 5 + i', none⟩ = some u := fun i' u hu => by
        rw [← hc i' u hu]
        simp only [World.cell?, hK.out.block b (by rw [HB.out]; exact hb2)]
      have y0 : wr.cell? ⟨b, off + i * 5, none⟩ = _ := hcr 0 _ rfl
      have y1 := hcr 1 _ rfl
      have y2 := hcr 2 _ rfl
      have y3 := hcr 3 _ rfl
      have y4 := hcr 4 _ rfl
      have HNX := Lib.hid (filter_next (p := p) hy)
      obtain ⟨w4, hw4⟩ : ∃ w4, wr.alloc (.cells #[.int .i64 y.file, .int .i64 y.lev, .int .i64 y.cnt, .string (bs y.low), .string (bs y.high)] 42) = w4 := ⟨_, rfl⟩
      obtain ⟨tb, htb⟩ : ∃ tb, tb = wr.heap.size := ⟨_, rfl⟩
      have T4 := Lib.hid (show w4.heap[tb]? = some (.cells #[.int .i64 y.file, .int .i64 y.lev, .int .i64 y.cnt, .string (bs y.low), .string (bs y.high)] 42 (0, 0)) by rw [← hw4, htb]; exact heap_new wr _)
      have k4 : Below wr.heap.size wr w4 := by rw [← hw4]; exact (Below.refl _ _).alloc (Nat.le_refl _) _
      have K4 := Lib.hid (hK.out.trans (k4.mono HBr.out))
      have O4 := Lib.hid (OffRow.kept HO.out (w' := w4) fun j hj => k4.block j (OffRow.lt HO.out j hj).2)
      have HC := Lib.hid (hF.out y w4 (HB.out ▸ K4.out))
      obtain ⟨z, hz⟩ : ∃ z, z = p y := ⟨_, rfl⟩
      rw [← hz] at HC HNX
      have HW4 := Lib.hid hw4
      have HTB := Lib.hid htb
      clear hc hcr hy hw4 htb k4 hz
      go_upto_region 5 with (fail)
      rw [HW4.out, ← HTB.out]
      clear y0 y1 y2 y3 y4
      have t0 : w4.cell? ⟨tb, 0, none⟩ = some (.int .i64 y.file) := by simp [World.cell?, T4.out]
      have t1 : w4.cell? ⟨tb, 1, none⟩ = some (.int .i64 y.lev) := by simp [World.cell?, T4.out]
      have t2 : w4.cell? ⟨tb, 2, none⟩ = some (.int .i64 y.cnt) := by simp [World.cell?, T4.out]
      have t3 : w4.cell? ⟨tb, 3, none⟩ = some (.string (bs y.low)) := by simp [World.cell?, T4.out]
      have t4 : w4.cell? ⟨tb, 4, none⟩ = some (.string (bs y.high)) := by simp [World.cell?, T4.out]
      cases z with
      | false =>
        go_wp2_with fail
        refine HC.out.mono ?_
        rintro e w5 ⟨rfl, k5⟩
        have HB4 : B ≤ w4.heap.size := Nat.le_of_lt (by have := heap_lt T4.out; have := HBr.out; have := HTB.out; omega)
        have K5 := Lib.hid (K4.out.trans (k5.mono HB4))
        have O5 := Lib.hid (show OwnTb w5 B (.slice a3 N c3) ((L.take (i + 1)).filter p) by
          rw [HNX.out, if_neg (by simp), List.append_nil, ← HLL.out]
          unfold OwnTb
          rw [← HNN.out]
          exact OffRow.kept O4.out (w' := w5) fun j hj => k5.block j (OffRow.lt O4.out j hj).2)
        clear t0 t1 t2 t3 t4 k5 HC
        go_wp2_with fail
        go_roundw
        case rel => exact ⟨i + 1, by omega, by go_num, O5, K5⟩
        case measure => simp [intOf]; omega
      | true =>
        go_wp2_with fail
        refine HC.out.mono ?_
        rintro e w5 ⟨rfl, k5⟩
        have HB4 : B ≤ w4.heap.size := Nat.le_of_lt (by have := heap_lt T4.out; have := HBr.out; have := HTB.out; omega)
        have K5 := Lib.hid (K4.out.trans (k5.mono HB4))
        have O5 := Lib.hid (OffRow.kept O4.out (w' := w5) fun j hj => k5.block j (OffRow.lt O4.out j hj).2)
        have T5 := Lib.hid ((k5.block tb (heap_lt T4.out)).trans T4.out)
        have HB5 := Lib.hid (show B ≤ w5.heap.size from Nat.le_trans HB4 k5.size)
        clear t0 t1 t2 t3 t4 k5 HC O4
        have t0 : w5.cell? ⟨tb, 0, none⟩ = some (.int .i64 y.file) := by simp [World.cell?, T5.out]
        have t1 : w5.cell? ⟨tb, 1, none⟩ = some (.int .i64 y.lev) := by simp [World.cell?, T5.out]
        have t2 : w5.cell? ⟨tb, 2, none⟩ = some (.int .i64 y.cnt) := by simp [World.cell?, T5.out]
        have t3 : w5.cell? ⟨tb, 3, none⟩ = some (.string (bs y.low)) := by simp [World.cell?, T5.out]
        have t4 : w5.cell? ⟨tb, 4, none⟩ = some (.string (bs y.high)) := by simp [World.cell?, T5.out]
        obtain ⟨w6, hw6⟩ : ∃ w6, w6 = w5.alloc (.cells #[.int .i64 y.file, .int .i64 y.lev, .int .i64 y.cnt, .string (bs y.low), .string (bs y.high)] 42) := ⟨_, rfl⟩
        have O6 := Lib.hid (show OffRow w6 B 42 5 (.slice a3 N c3) N (flat tcell LL) by rw [hw6]; exact O5.out.allocd _)
        have K6 := Lib.hid (show Below w5.heap.size w5 w6 by rw [hw6]; exact (Below.refl _ _).alloc (Nat.le_refl _) _)
        have HSR := Lib.hid (show Src Tryz.prog 5 25 (.slice (some ⟨w5.heap.size, 0, none⟩) 1 1) 1 (tcell y) w6 by
          have hb : w6.heap[w5.heap.size]? = some (.cells #[.int .i64 y.file, .int .i64 y.lev, .int .i64 y.cnt, .string (bs y.low), .string (bs y.high)] 42 (0, 0)) := by
            rw [hw6]
            exact heap_new w5 _
          exact src_block (size := 5) (cs := #[.int .i64 y.file, .int .i64 y.lev, .int .i64 y.cnt, .string (bs y.low), .string (bs y.high)]) Tryz.underlying25 hb 1 1 rfl (tcell_one y))
        have HB6 := Lib.hid (show B ≤ w6.heap.size by have := K6.out.size; have := HB5.out; omega)
        rw [hw6] at O6 HSR HB6
        have HW6 := Lib.hid hw6
        clear hw6
        go_wp2_with (at_builtin; refine wpList_append_off rfl (.tmp 17) (.tmp 19) 25 rfl B 42 i0 _ 5 56 Tryz.underlying25 HI.out.1 HI.out.2.1 HI.out.2.2.1 HI.out.2.2.2 rfl (.slice a3 N c3) N _ rfl O6.out (.slice (some ⟨w5.heap.size, 0, none⟩) 1 1) rfl 1 _ HSR.out (by unfold maxLen; omega) (by omega) HB6.out ?_)
        intro v7 w7 hr7 hg7 hat7
        rw [← HW6.out] at hg7
        have O7 := Lib.hid (show OwnTb w7 B v7 ((L.take (i + 1)).filter p) by
          have e : (L.take (i + 1)).filter p = LL ++ [y] := by rw [HNX.out, ← HLL.out]; simp
          rw [e]
          unfold OwnTb
          rw [flat_append, flat_one, List.length_append, ← HNN.out]
          exact hr7)
        have K7 := Lib.hid ((K5.out.trans (K6.out.mono HB5.out)).grown hg7 (by rw [HW6.out]; exact HB6.out) (fun j hj => (OffRow.lt O5.out j hj).1))
        clear hr7 hg7 hat7 O6 HSR t0 t1 t2 t3 t4
        go_wp2_with fail
        go_roundw
        case rel => exact ⟨i + 1, by omega, by go_num, O7, K7⟩
        case measure => simp [intOf]; omega
    · have hge : (n : Int) ≤ (i : Int) := by omega
      have HE := Lib.hid (show OwnTb wr B (.slice a3 N c3) (L.filter p) by
        have e : (L.take i).filter p = L.filter p := by rw [List.take_of_length_le (by have := hL.out; omega)]
        unfold OwnTb
        rw [← e, ← HLL.out, ← HNN.out]
        exact HO.out)
      go_wp2
      go_ret
      exact ⟨_, rfl, HE.out, hK.out⟩
end Go.Proofs.YtfbaenhajlckjaaGreat
/- The files of tables; the least and the greatest key of tables. -/
set_option linter.unusedVariables false
set_option maxRecDepth 100000
namespace Go.Proofs.YtfbaenhajlckjaaGreat
open Go.RowKit

theorem map_next {α β : Type} {f : α → β} {L : List α} {i : Nat} {y : α} (hy : L[i]? = some y) : (L.take (i + 1)).map f = (L.take i).map f ++ [f y] := by
  rw [List.take_add_one, hy, List.map_append]; rfl
set_option maxHeartbeats 4000000 in
theorem lev_files {T : Nat → Prop} {w : World} {a : Option Addr} {n cap : Nat} {L : List Tb} (h : Hid (RdL T w (.slice a n cap) n (flat tcell L))) (hL : Hid (n = L.length)) (hn : n ≤ 1000000000) :
    Calls Tryz.prog 95 #[.slice a n cap] w fun e w' => ∃ v, e = .returned v ∧ OwnI w' w.heap.size v (L.map (·.file)) ∧ Below w.heap.size w w' := by
  obtain ⟨B, hB⟩ : ∃ B, B = w.heap.size := ⟨_, rfl⟩
  rw [← hB]
  have HB := Lib.hid hB
  obtain ⟨i0, hi0, hz0, hz1, hz2⟩ := info_parts infoInt
  have HI := Lib.hid (And.intro hi0 (And.intro hz0 (And.intro hz1 hz2)))
  clear hi0 hz0 hz1 hz2 hB
  go_enter Tryz.func95, Tryz.ntmps95
  go_wp2_with fail
  go_loopw [3, 8] (fun v iv wr => ∃ i : Nat, i ≤ n ∧ iv = .int .i64 (i : Int) ∧ Hid (OwnI wr B v ((L.take i).map (·.file))) ∧ Hid (Below B w wr)) (fun v iv wr => n - (intOf iv).toNat)
  case atStart => exact ⟨0, Nat.zero_le _, rfl, Lib.hid (OffRow.nil _ _ _ _), Lib.hid (Below.refl _ _)⟩
  case round =>
    obtain ⟨i, hi, rfl, hO, hK⟩ := hrel
    obtain ⟨LL, hLL⟩ : ∃ LL, LL = (L.take i).map (·.file) := ⟨_, rfl⟩
    obtain ⟨N, hN⟩ : ∃ N, N = LL.length := ⟨_, rfl⟩
    have hN9 : N ≤ 1000000000 := by
      rw [hN, hLL, List.length_map, List.length_take]
      omega
    have HNN := Lib.hid hN
    have HLL := Lib.hid hLL
    have HO := Lib.hid (show OffRow wr B 3 1 _ N (flat icell LL) by have := hO.out; rw [← hLL] at this; unfold OwnI at this; rw [← hN] at this; exact this)
    obtain ⟨a3, c3, rfl⟩ := OffRow.slice HO.out
    clear hN hO hLL
    have HBr := Lib.hid (show B ≤ wr.heap.size by have := hK.out.size; have := HB.out; omega)
    by_cases hlt : i < n
    · have hlt' : (i : Int) < (n : Int) := by omega
      obtain ⟨y, hy⟩ : ∃ y, L[i]? = some y := ⟨_, List.getElem?_eq_getElem (by have := hL.out; omega)⟩
      obtain ⟨b, off, rfl, ht, hb2, hc⟩ := RdL.atT h.out hy hlt
      have hcr : ∀ i' u, (tcell y)[i']? = some u → wr.cell? ⟨b, off + i * 5 + i', none⟩ = some u := fun i' u hu => by
        rw [← hc i' u hu]
        simp only [World.cell?, hK.out.block b (by rw [HB.out]; exact hb2)]
      have y0 : wr.cell? ⟨b, off + i * 5, none⟩ = _ := hcr 0 _ rfl
      have y1 := hcr 1 _ rfl
      have y2 := hcr 2 _ rfl
      have y3 := hcr 3 _ rfl
      have y4 := hcr 4 _ rfl
      have HNX := Lib.hid (map_next (f := Tb.file) hy)
      clear hc hcr hy
      obtain ⟨w4, hw4⟩ : ∃ w4, wr.alloc (.cells #[.int .i64 y.file, .int .i64 y.lev, .int .i64 y.cnt, .string (bs y.low), .string (bs y.high)] 42) = w4 := ⟨_, rfl⟩
      obtain ⟨tb, htb⟩ : ∃ tb, tb = wr.heap.size := ⟨_, rfl⟩
      have T4 := Lib.hid (show w4.heap[tb]? = some (.cells #[.int .i64 y.file, .int .i64 y.lev, .int .i64 y.cnt, .string (bs y.low), .string (bs y.high)] 42 (0, 0)) by rw [← hw4, htb]; exact heap_new wr _)
      have k4 : Below wr.heap.size wr w4 := by rw [← hw4]; exact (Below.refl _ _).alloc (Nat.le_refl _) _
      have K4 := Lib.hid (hK.out.trans (k4.mono HBr.out))
      have O4 := Lib.hid (OffRow.kept HO.out (w' := w4) fun j hj => k4.block j (OffRow.lt HO.out j hj).2)
      have HB4 : B ≤ w4.heap.size := Nat.le_trans HBr.out k4.size
      have HW4 := Lib.hid hw4
      have HTB := Lib.hid htb
      clear hw4 htb k4
      go_upto_region 5 with (fail)
      rw [HW4.out, ← HTB.out]
      clear y0 y1 y2 y3 y4
      have t0 : w4.cell? ⟨tb, 0, none⟩ = some (.int .i64 y.file) := by simp [World.cell?, T4.out]
      obtain ⟨w6, hw6⟩ : ∃ w6, w6 = w4.alloc (.cells #[.int .i64 y.file] 3) := ⟨_, rfl⟩
      have O6 := Lib.hid (show OffRow w6 B 3 1 (.slice a3 N c3) N (flat icell LL) by rw [hw6]; exact O4.out.allocd _)
      have K6 := Lib.hid (show Below w4.heap.size w4 w6 by rw [hw6]; exact (Below.refl _ _).alloc (Nat.le_refl _) _)
      have HSR := Lib.hid (show Src Tryz.prog 1 27 (.slice (some ⟨w4.heap.size, 0, none⟩) 1 1) 1 (icell y.file) w6 by
        have hb : w6.heap[w4.heap.size]? = some (.cells #[.int .i64 y.file] 3 (0, 0)) := by
          rw [hw6]
          exact heap_new w4 _
        exact src_block (size := 1) (cs := #[.int .i64 y.file]) Tryz.underlying27 hb 1 1 rfl (icell_one y.file))
      have HB6 := Lib.hid (show B ≤ w6.heap.size by have := K6.out.size; omega)
      rw [hw6] at O6 HSR HB6
      have HW6 := Lib.hid hw6
      clear hw6
      go_wp2_with (at_builtin; refine wpList_append_off rfl (.tmp 12) (.tmp 15) 27 rfl B 3 i0 _ 1 8 Tryz.underlying27 HI.out.1 HI.out.2.1 HI.out.2.2.1 HI.out.2.2.2 rfl (.slice a3 N c3) N _ rfl O6.out (.slice (some ⟨w4.heap.size, 0, none⟩) 1 1) rfl 1 _ HSR.out (by unfold maxLen; omega) (by omega) HB6.out ?_)
      intro v7 w7 hr7 hg7 hat7
      rw [← HW6.out] at hg7
      have O7 := Lib.hid (show OwnI w7 B v7 ((L.take (i + 1)).map (·.file)) by
        have e : (L.take (i + 1)).map (·.file) = LL ++ [y.file] := by rw [HNX.out, ← HLL.out]
        rw [e]
        unfold OwnI
        rw [flat_append, flat_one, List.length_append, ← HNN.out]
        exact hr7)
      have K7 := Lib.hid ((K4.out.trans (K6.out.mono HB4)).grown hg7 (by rw [HW6.out]; exact HB6.out) (fun j hj => (OffRow.lt O4.out j hj).1))
      clear hr7 hg7 hat7 O6 HSR t0
      go_wp2_with fail
      go_roundw
      case rel => exact ⟨i + 1, by omega, by go_num, O7, K7⟩
      case measure => simp [intOf]; omega
    · have hge : (n : Int) ≤ (i : Int) := by omega
      have HE := Lib.hid (show OwnI wr B (.slice a3 N c3) (L.map (·.file)) by
        have e : (L.take i).map (·.file) = L.map (·.file) := by rw [List.take_of_length_le (by have := hL.out; omega)]
        unfold OwnI
        rw [← e, ← HLL.out, ← HNN.out]
        exact HO.out)
      go_wp2
      go_ret
      exact ⟨_, rfl, HE.out, hK.out⟩

def lowL (L : List Tb) : List UInt8 := L.foldl (fun a t => minB a t.low) (L.headD default).low
def highL (L : List Tb) : List UInt8 := L.foldl (fun a t => maxB a t.high) (L.headD default).high
def lowT (L : List Tb) (i : Nat) : List UInt8 := (L.take i).foldl (fun a t => minB a t.low) (L.headD default).low
def highT (L : List Tb) (i : Nat) : List UInt8 := (L.take i).foldl (fun a t => maxB a t.high) (L.headD default).high
theorem lowT_next {L : List Tb} {i : Nat} {y : Tb} (hy : L[i]? = some y) : lowT L (i + 1) = minB (lowT L i) y.low := by
  unfold lowT; rw [List.take_add_one, hy, List.foldl_append]; rfl
theorem highT_next {L : List Tb} {i : Nat} {y : Tb} (hy : L[i]? = some y) : highT L (i + 1) = maxB (highT L i) y.high := by
  unfold highT; rw [List.take_add_one, hy, List.foldl_append]; rfl
set_option maxHeartbeats 4000000 in
theorem lev_ends {T : Nat → Prop} {w : World} {a : Option Addr} {n cap : Nat} {L : List Tb} (h : Hid (RdL T w (.slice a n cap) n (flat tcell L))) (hL : Hid (n = L.length)) (hn : n ≤ 1000000000) (hpos : 0 < n) :
    Calls Tryz.prog 91 #[.slice a n cap] w fun e w' => e = .returned (.tuple #[.string (bs (lowL L)), .string (bs (highL L))]) ∧ Below w.heap.size w w' := by
  obtain ⟨B, hB⟩ : ∃ B, B = w.heap.size := ⟨_, rfl⟩
  rw [← hB]
  have HB := Lib.hid hB
  obtain ⟨q, hq⟩ : ∃ q, L[0]? = some q := ⟨_, List.getElem?_eq_getElem (by have := hL.out; omega)⟩
  obtain ⟨b, off, rfl, ht, hb2, hc⟩ := RdL.atT h.out hq hpos
  have HL0 := Lib.hid (show lowT L 0 = q.low ∧ highT L 0 = q.high by
    cases L with
    | nil => cases hq
    | cons x L => have e : x = q := by simpa using hq
                  subst e; exact ⟨rfl, rfl⟩)
  have x3 := hc 3 _ rfl
  have x4 := hc 4 _ rfl
  have e0 : off + 0 * 5 + 3 = off + 3 := by omega
  have e1 : off + 0 * 5 + 4 = off + 4 := by omega
  rw [e0] at x3
  rw [e1] at x4
  have hposI : (0 : Int) < (n : Int) := by omega
  obtain ⟨ql, hql⟩ : ∃ ql, ql = q.low := ⟨_, rfl⟩
  obtain ⟨qh, hqh⟩ : ∃ qh, qh = q.high := ⟨_, rfl⟩
  rw [← hql] at x3 HL0
  rw [← hqh] at x4 HL0
  clear hB hq ht hb2 hc e0 e1 hql hqh
  go_enter Tryz.func91, Tryz.ntmps91
  go_wp2_with fail
  go_quiet (fail)
  rw [← HL0.out.1, ← HL0.out.2]
  generalize hw0 : World.drewN w _ = w0
  have K0 := Lib.hid (show Below B w w0 by rw [← hw0]; exact below_drewN (Below.refl _ _) _)
  clear x3 x4 hw0
  go_wp2_with fail
  go_loopw [2, 3, 16] (fun lv hv iv wr => ∃ i : Nat, i ≤ n ∧ iv = .int .i64 (i : Int) ∧ lv = .string (bs (lowT L i)) ∧ hv = .string (bs (highT L i)) ∧ Hid (Below B w wr)) (fun lv hv iv wr => n - (intOf iv).toNat)
  case atStart => exact ⟨0, Nat.zero_le _, rfl, rfl, rfl, K0⟩
  case round =>
    obtain ⟨i, hi, rfl, rfl, rfl, hK⟩ := hrel
    have HBr := Lib.hid (show B ≤ wr.heap.size by have := hK.out.size; have := HB.out; omega)
    by_cases hlt : i < n
    · have hlt' : (i : Int) < (n : Int) := by omega
      obtain ⟨y, hy⟩ : ∃ y, L[i]? = some y := ⟨_, List.getElem?_eq_getElem (by have := hL.out; omega)⟩
      obtain ⟨b', off', he, ht, hb2, hc⟩ := RdL.atT h.out hy hlt
      have hcr : ∀ i' u, (tcell y)[i']? = some u → wr.cell? ⟨b', off' + i * 5 + i', none⟩ = some u := fun i' u hu => by
        rw [← hc i' u hu]
        simp only [World.cell?, hK.out.block b' (by rw [HB.out]; exact hb2)]
      have y0 : wr.cell? ⟨b', off' + i * 5, none⟩ = _ := hcr 0 _ rfl
      have y1 := hcr 1 _ rfl
      have y2 := hcr 2 _ rfl
      have y3 := hcr 3 _ rfl
      have y4 := hcr 4 _ rfl
      obtain ⟨rfl, rfl⟩ : b = b' ∧ off = off' := by injection he with he; injection he with h1 h2; exact ⟨h1, h2⟩
      have HNL := Lib.hid (lowT_next hy)
      have HNH := Lib.hid (highT_next hy)
      have hmn := run_minB (lowT L i) y.low
      have hmx := run_maxB (highT L i) y.high
      rw [← HNL.out] at hmn
      rw [← HNH.out] at hmx
      clear hc hcr hy
      obtain ⟨w4, hw4⟩ : ∃ w4, wr.alloc (.cells #[.int .i64 y.file, .int .i64 y.lev, .int .i64 y.cnt, .string (bs y.low), .string (bs y.high)] 42) = w4 := ⟨_, rfl⟩
      obtain ⟨tb, htb⟩ : ∃ tb, tb = wr.heap.size := ⟨_, rfl⟩
      have T4 := Lib.hid (show w4.heap[tb]? = some (.cells #[.int .i64 y.file, .int .i64 y.lev, .int .i64 y.cnt, .string (bs y.low), .string (bs y.high)] 42 (0, 0)) by rw [← hw4, htb]; exact heap_new wr _)
      have k4 : Below wr.heap.size wr w4 := by rw [← hw4]; exact (Below.refl _ _).alloc (Nat.le_refl _) _
      have K4 := Lib.hid (hK.out.trans (k4.mono HBr.out))
      have HW4 := Lib.hid hw4
      have HTB := Lib.hid htb
      clear hw4 htb k4
      go_upto_region 5 with (fail)
      rw [HW4.out, ← HTB.out]
      clear y0 y1 y2 y3 y4
      have t3 : w4.cell? ⟨tb, 3, none⟩ = some (.string (bs y.low)) := by simp [World.cell?, T4.out]
      have t4 : w4.cell? ⟨tb, 4, none⟩ = some (.string (bs y.high)) := by simp [World.cell?, T4.out]
      obtain ⟨l1, hl1⟩ : ∃ l, l = lowT L (i + 1) := ⟨_, rfl⟩
      obtain ⟨h1, hh1⟩ : ∃ l, l = highT L (i + 1) := ⟨_, rfl⟩
      obtain ⟨l0, hl0⟩ : ∃ l, l = lowT L i := ⟨_, rfl⟩
      obtain ⟨h0, hh0⟩ : ∃ l, l = highT L i := ⟨_, rfl⟩
      rw [← hl0, ← hl1] at hmn
      rw [← hh0, ← hh1] at hmx
      rw [← hl0, ← hh0]
      have HL1 := Lib.hid (And.intro hl1 hh1)
      clear hl1 hh1 hl0 hh0
      go_region
      all_goals
        have K5 := Lib.hid (K4.out.drew)
        clear t3 t4 hmn hmx
        go_wp2_with fail
        go_roundw
        case rel => exact ⟨i + 1, by omega, by go_num, by rw [HL1.out.1], by rw [HL1.out.2], K5⟩
        case measure => simp [intOf]; omega
    · have hge : (n : Int) ≤ (i : Int) := by omega
      have HE := Lib.hid (show lowT L i = lowL L ∧ highT L i = highL L by
        have e : L.take i = L := List.take_of_length_le (by have := hL.out; omega)
        unfold lowT highT lowL highL
        rw [e]; exact ⟨rfl, rfl⟩)
      obtain ⟨l0, hl0⟩ : ∃ l, l = lowT L i := ⟨_, rfl⟩
      obtain ⟨h0, hh0⟩ : ∃ l, l = highT L i := ⟨_, rfl⟩
      rw [← hl0, ← hh0]
      have HV := Lib.hid (show l0 = lowL L ∧ h0 = highL L from ⟨hl0.trans HE.out.1, hh0.trans HE.out.2⟩)
      clear HE hl0 hh0
      go_wp2
      go_ret2
      exact ⟨by rw [HV.out.1, HV.out.2]; rfl, hK.out⟩
end Go.Proofs.YtfbaenhajlckjaaGreat
