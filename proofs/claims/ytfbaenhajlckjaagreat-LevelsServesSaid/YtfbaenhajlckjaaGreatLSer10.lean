/- Texts put together: LevLeave, QHeld, QLate, QTake -/
import Derived.Test.YtfbaenhajlckjaaGreatLSer09
import Derived.Test.YtfbaenhajlckjaaGreatLSer00
import Derived.Test.YtfbaenhajlckjaaGreatLSer06
import Derived.OrdersHeld
import Derived.Deep.RegionHeld
/- The tables that leave their level next; the tables of a level between two keys; the tables that may have a key. -/
set_option linter.unusedVariables false
set_option maxRecDepth 100000
namespace Go.Proofs.YtfbaenhajlckjaaGreat
open Go.RowKit

def atLev (T : List Tb) (l : Int) : List Tb := T.filter fun t => decide (t.lev = l)
def leaveUp (T : List Tb) (fan : Int) : List Nat → Int → List Tb
  | [], _ => []
  | l :: ls, m => if m * fan < ((atLev T (l : Int)).length : Int) then [minF (atLev T (l : Int))] else leaveUp T fan ls (m * fan)
def leaveL (T : List Tb) (fan : Int) : List Tb := if fan ≤ ((atLev T 0).length : Int) then atLev T 0 else leaveUp T fan [1, 2, 3, 4] 1
/-- What is answered from a level on. -/
def leaveAt (T : List Tb) (fan : Int) (l : Nat) (m : Int) : List Tb := if l = 0 then leaveL T fan else leaveUp T fan ([1, 2, 3, 4].drop (l - 1)) m
theorem leaveUp_is {T : List Tb} {fan : Int} : ∀ (ls : List Nat) (m : Int), 0 ≤ m → 0 ≤ fan → leaveUp T fan ls m = [] ∨ ∃ l ∈ ls, ∃ t ∈ T, t.lev = (l : Int) ∧ leaveUp T fan ls m = [t]
  | [], _, _, _ => .inl rfl
  | l :: ls, m, hm, hf => by
    unfold leaveUp
    split
    · rename_i h
      right
      have hmm : 0 ≤ m * fan := Int.mul_nonneg hm hf
      have hne : atLev T (l : Int) ≠ [] := fun e => by rw [e] at h; simp at h; omega
      have := minF_mem hne
      obtain ⟨h1, h2⟩ := List.mem_filter.1 this
      exact ⟨l, List.mem_cons_self .., _, h1, by simpa using h2, rfl⟩
    · rcases leaveUp_is ls (m * fan) (Int.mul_nonneg hm hf) hf with e | ⟨k, hk, t, ht, hl, e⟩
      · exact .inl e
      · exact .inr ⟨k, List.mem_cons_of_mem _ hk, t, ht, hl, e⟩
/-- What leaves: nothing, or all of level 0, or one table of a level from 1 to 4. -/
theorem leaveL_is {T : List Tb} {fan : Int} (hf : 0 ≤ fan) : leaveL T fan = [] ∨ leaveL T fan = atLev T 0 ∨ ∃ t ∈ T, 1 ≤ t.lev ∧ t.lev ≤ 4 ∧ leaveL T fan = [t] := by
  unfold leaveL
  split
  · exact .inr (.inl rfl)
  · rcases leaveUp_is [1, 2, 3, 4] 1 (by omega) hf (T := T) with e | ⟨k, hk, t, ht, hl, e⟩
    · exact .inl e
    · refine .inr (.inr ⟨t, ht, ?_, ?_, e⟩)
      · simp at hk; omega
      · simp at hk; omega
theorem atLev_len (T : List Tb) (l : Int) : (atLev T l).length ≤ T.length := List.length_filter_le _ _
set_option maxHeartbeats 8000000 in
theorem lev_leaving {T : Nat → Prop} {w : World} {a : Option Addr} {n cap : Nat} {L : List Tb} {fan : Int} (h : Hid (RdL T w (.slice a n cap) n (flat tcell L))) (hL : Hid (n = L.length)) (hn : n ≤ 1000000000) (hf : 2 ≤ fan ∧ fan ≤ 16) :
    Calls Tryz.prog 90 #[.slice a n cap, .int .i64 fan] w fun e w' => ∃ v, e = .returned v ∧ OwnTb w' w.heap.size v (leaveL L fan) ∧ Below w.heap.size w w' := by
  have eg : ∀ args w, (callFunc 129 args).run Tryz.prog w = .ok (.enter 129 args) w := enters_of Tryz.func129 (by kernel_rfl) rfl
  obtain ⟨B, hB⟩ : ∃ B, B = w.heap.size := ⟨_, rfl⟩
  rw [← hB]
  have HB := Lib.hid hB
  obtain ⟨LL, hLL⟩ : ∃ LL, LL = leaveL L fan := ⟨_, rfl⟩
  rw [← hLL]
  have HLL := Lib.hid (show leaveAt L fan 0 1 = LL by rw [hLL]; rfl)
  have HF := Lib.hid hf
  obtain ⟨hf1, hf2⟩ := hf
  clear hB hLL
  go_enter Tryz.func90, Tryz.ntmps90
  go_wp2_with fail
  go_loopw [5, 8] (fun mv iv wr => ∃ (l : Nat) (m : Int), l ≤ 5 ∧ iv = .int .i64 (l : Int) ∧ mv = .int .i64 m ∧ 0 ≤ m ∧ Hid (m ≤ 16 ^ l) ∧ Hid (l ≤ 1 → m = 1) ∧ Hid (leaveAt L fan l m = LL) ∧ Hid (Below B w wr)) (fun mv iv wr => 5 - (intOf iv).toNat)
  case atStart => exact ⟨0, 1, by omega, rfl, rfl, by omega, Lib.hid (by omega), Lib.hid (fun _ => rfl), HLL, Lib.hid (Below.refl _ _)⟩
  case round =>
    obtain ⟨l, m, hl, rfl, rfl, hm0, hm, hm1, hA, hK⟩ := hrel
    have HBr := Lib.hid (show B ≤ wr.heap.size by have := hK.out.size; have := HB.out; omega)
    by_cases hlt : l < 5
    · have hlt' : (l : Int) < 5 := by omega
      obtain ⟨w4, hw4⟩ : ∃ w4, wr.alloc (.cells #[.int .i64 (l : Int)] 3) = w4 := ⟨_, rfl⟩
      obtain ⟨lb, hlb⟩ : ∃ lb, lb = wr.heap.size := ⟨_, rfl⟩
      have T4 := Lib.hid (show w4.heap[lb]? = some (.cells #[.int .i64 (l : Int)] 3 (0, 0)) by rw [← hw4, hlb]; exact heap_new wr _)
      have k4 : Below wr.heap.size wr w4 := by rw [← hw4]; exact (Below.refl _ _).alloc (Nat.le_refl _) _
      have K4 := Lib.hid (hK.out.trans (k4.mono HBr.out))
      have HB4 := Lib.hid (show B ≤ w4.heap.size from Nat.le_trans HBr.out k4.size)
      have HC := Lib.hid (those_level (w := w4) (lb := lb) (p := fun t => decide (t.lev = (l : Int))) (Lib.hid (h.out.below (HB.out ▸ K4.out))) hL hn (Lib.hid fun y W k => at_level y W (by rw [k.cell (p := ⟨lb, 0, none⟩) (heap_lt T4.out)]; simp [World.cell?, T4.out])))
      have t0 : w4.cell? ⟨lb, 0, none⟩ = some (.int .i64 (l : Int)) := by simp [World.cell?, T4.out]
      have HW4 := Lib.hid hw4
      have HLB := Lib.hid hlb
      clear hw4 hlb k4
      go_upto_region 5 with (fail)
      rw [HW4.out, ← HLB.out]
      go_wp2_with fail
      refine HC.out.mono ?_
      rintro e w5 ⟨v, rfl, ho, k5⟩
      obtain ⟨va, vc, rfl⟩ := OffRow.slice ho
      have K5 := Lib.hid (K4.out.trans (k5.mono HB4.out))
      have T5 := Lib.hid ((k5.block lb (heap_lt T4.out)).trans T4.out)
      have O5 := Lib.hid (show OwnTb w5 B _ (atLev L (l : Int)) from own_mono ho HB4.out)
      have HB5 := Lib.hid (show B ≤ w5.heap.size from Nat.le_trans HB4.out k5.size)
      obtain ⟨q, hq⟩ : ∃ q, q = (atLev L (l : Int)).length := ⟨_, rfl⟩
      rw [show (L.filter fun t => decide (t.lev = (l : Int))).length = q from hq.symm] at O5 ⊢
      have hq9 : q ≤ 1000000000 := by rw [hq]; have := atLev_len L (l : Int); have := hL.out; omega
      have HQ := Lib.hid hq
      clear ho k5 t0 HC hq
      by_cases hl0 : l = 0
      · subst hl0
        have HM1 := Lib.hid (hm1.out (by omega))
        have HQ0 := Lib.hid (show q = (atLev L 0).length from HQ.out)
        have O50 := Lib.hid (show OwnTb w5 B _ (atLev L 0) from O5.out)
        have t0 : w5.cell? ⟨lb, 0, none⟩ = some (.int .i64 0) := by simp [World.cell?, T5.out]
        by_cases hge : fan ≤ (q : Int)
        · have HE := Lib.hid (show atLev L ((0 : Nat) : Int) = LL by
            rw [← hA.out]
            unfold leaveAt leaveL
            rw [if_pos rfl, if_pos (by rw [← HQ0.out]; exact hge)]
            rfl)
          go_wp2
          go_ret
          exact ⟨_, rfl, by rw [← HE.out]; exact O50.out, K5.out⟩
        · have hge' : (q : Int) < fan := by omega
          have HE := Lib.hid (show leaveAt L fan 1 m = LL by
            rw [← hA.out, HM1.out]
            show leaveUp L fan [1, 2, 3, 4] 1 = leaveL L fan
            unfold leaveL
            rw [if_neg (by rw [← HQ0.out]; exact hge)])
          clear hge
          go_wp2_with fail
          go_roundw
          case rel => exact ⟨1, m, by omega, by go_num, rfl, hm0, Lib.hid (by rw [HM1.out]; omega), Lib.hid (fun _ => HM1.out), HE, K5⟩
          case measure => simp [intOf]
      · have t0 : w5.cell? ⟨lb, 0, none⟩ = some (.int .i64 (l : Int)) := by simp [World.cell?, T5.out]
        have hl1 : ((l : Int) == 0) = false := by simpa using hl0
        have hpow : (16 : Int) ^ l ≤ 65536 := by
          have : l = 1 ∨ l = 2 ∨ l = 3 ∨ l = 4 := by omega
          rcases this with e | e | e | e <;> subst e <;> decide
        have hmb : m ≤ 65536 := by have := hm.out; omega
        have hm2b : m * fan ≤ 65536 * 16 := Int.mul_le_mul hmb HF.out.2 (by omega) (by omega)
        have hm20 : 0 ≤ m * fan := Int.mul_nonneg hm0 (by omega)
        have HPW := Lib.hid (show m * fan ≤ 16 ^ (l + 1) by
          rw [Int.pow_succ]
          exact Int.mul_le_mul hm.out HF.out.2 (by omega) (by exact Int.pow_nonneg (by omega)))
        obtain ⟨m2, hm2⟩ : ∃ m2, m2 = m * fan := ⟨_, rfl⟩
        have hwm : IntKind.i64.wrap (m * fan) = m2 := by rw [← hm2]; rw [← hm2] at hm2b hm20; exact IntWalk.i64_in _ (by omega)
        have HUP := Lib.hid (show leaveUp L fan ([1, 2, 3, 4].drop (l - 1)) m = LL by
          rw [← hA.out]
          unfold leaveAt
          rw [if_neg hl0])
        have HDR := Lib.hid (show [1, 2, 3, 4].drop (l - 1) = l :: [1, 2, 3, 4].drop l by
          have : l = 1 ∨ l = 2 ∨ l = 3 ∨ l = 4 := by omega
          rcases this with e | e | e | e <;> subst e <;> rfl)
        rw [← hm2] at hm2b hm20 HPW
        have HM2 := Lib.hid hm2
        have hl0' : ¬ (l : Int) = 0 := by omega
        clear hm2 hpow hmb
        by_cases hgt : m2 < (q : Int)
        · have hq0 : 0 < q := by omega
          have HMF := Lib.hid (min_func (w := w5) (Lib.hid (show RdL (fun b => B ≤ b) w5 (.slice va q vc) q (flat tcell (atLev L (l : Int))) by have := O5.out; unfold OwnTb at this; rw [← HQ.out] at this; exact OffRow.rdL this)) HQ hq9 hq0)
          have HE := Lib.hid (show LL = [minF (atLev L (l : Int))] by
            rw [← HUP.out, HDR.out]
            unfold leaveUp
            rw [if_pos (by rw [← HM2.out, ← HQ.out]; exact hgt)])
          obtain ⟨t, ht⟩ : ∃ t, t = minF (atLev L (l : Int)) := ⟨_, rfl⟩
          rw [← ht] at HE HMF
          clear ht hq0
          go_wp2_with fail
          refine HMF.out.mono ?_
          rintro e w6 ⟨rfl, k6⟩
          have K6 := Lib.hid (K5.out.trans (k6.mono HB5.out))
          have HB6 := Lib.hid (show B ≤ w6.heap.size from Nat.le_trans HB5.out k6.size)
          have KE := Lib.hid (show Below B w (w6.alloc (.cells #[.int .i64 t.file, .int .i64 t.lev, .int .i64 t.cnt, .string (bs t.low), .string (bs t.high)] 42)) from K6.out.alloc HB6.out _)
          have OE := Lib.hid (show OwnTb (w6.alloc (.cells #[.int .i64 t.file, .int .i64 t.lev, .int .i64 t.cnt, .string (bs t.low), .string (bs t.high)] 42)) B (.slice (some ⟨w6.heap.size, 0, none⟩) 1 1) LL by
            rw [HE.out]
            refine ⟨rfl, .inr ⟨w6.heap.size, 0, 1, _, rfl, HB6.out, heap_new w6 _, Nat.le_refl _, by unfold maxLen; omega, by simp, fun j hj => ?_⟩⟩
            rw [flat_one, Nat.zero_add]
            exact Array.getElem?_toList.symm)
          clear HMF k6
          go_wp2
          go_ret
          exact ⟨_, rfl, OE.out, KE.out⟩
        · have hle : (q : Int) ≤ m2 := by omega
          have HE := Lib.hid (show leaveAt L fan (l + 1) m2 = LL by
            rw [← HUP.out, HDR.out]
            show leaveUp L fan ([1, 2, 3, 4].drop l) m2 = _
            conv => rhs; unfold leaveUp
            rw [if_neg (by rw [← HM2.out, ← HQ.out]; exact hgt), ← HM2.out])
          clear hgt
          go_wp2_with fail
          go_roundw
          case rel => exact ⟨l + 1, m2, by omega, by go_num, rfl, hm20, HPW, Lib.hid (fun h => by omega), HE, K5⟩
          case measure => simp [intOf]; omega
    · obtain rfl : l = 5 := by omega
      have HE := Lib.hid (show LL = [] by rw [← hA.out]; rfl)
      go_wp2
      go_ret
      exact ⟨_, rfl, by rw [HE.out]; exact OffRow.nil _ _ _ _, hK.out⟩
end Go.Proofs.YtfbaenhajlckjaaGreat
/- A region that draws its order within a round, gone through by hand. -/
set_option linter.unusedVariables false
namespace Go.Proofs.YtfbaenhajlckjaaGreat
open Go.RowKit

section
variable {P : Program} {ops : Array Oper} {md : Region.Mode} {Q : Exit → Act → World → Prop}
theorem rowsIn_round {r n : Nat} {row : String} {args : Array Value} {w : World} {R : Value → World → Prop} (h : Rows P row args w R) : RowsIn (Fence.wide.inRound r) n P row args w R :=
  fun c cs _ => let ⟨v, w', q, s⟩ := h c cs; ⟨v, w', q, stepsIn_wide.2 s⟩
theorem operIn_of_wp {r n : Nat} {o : Oper} {a : Act} {w : World} {K K' : Act → World → Prop} (hse : ∀ ρ, Oper.semAt (Fence.wide.inRound r).round ρ o = execOp ρ o) (hL : ¬ LetsOut Q) (hK : ∀ a w, K a w → K' a w) (h : o.wp P a w K Q) : o.wpIn (Fence.wide.inRound r) n P a w K' Q := by
  unfold Oper.wp at h
  unfold Oper.wpIn
  refine ⟨fun _ _ => trivial, ?_⟩
  rw [hse]
  generalize (execOp a.eval o).run P w = x at *
  cases x with
  | ok x w' =>
    cases x <;> simp only [Oper.upon] at h <;> simp only [Oper.uponIn]
    case value u => exact hK _ _ h
    case skip => exact hK _ _ h
    case defer d => exact hK _ _ h
    case enter f args =>
      refine ⟨fun e => by simp [Fence.wide] at e, (wide_round r).calls (Calls.mono h fun e w'' he => ?_)⟩
      cases e with
      | returned v => exact hK _ _ he
      | panicked c => exact he
      | outgrown => exact he
    case row row args => exact ⟨fun e => by simp [Fence.wide] at e, rowsIn_round (Rows.mono h fun v w'' he => hK _ _ he)⟩
  | halt x w' =>
    cases x <;> simp only [Oper.upon] at h <;> simp only [Oper.uponIn]
    case panic v => exact h
theorem opIn_of_wp {r n i : Nat} {a : Act} {w : World} {K K' : Act → World → Prop} (hse : ∀ o, ops[i]? = some o → ∀ ρ, Oper.semAt (Fence.wide.inRound r).round ρ o = execOp ρ o) (hL : ¬ LetsOut Q) (hK : ∀ a w, K a w → K' a w) (h : wpOp P ops Q i K a w) : wpOpIn (Fence.wide.inRound r) n P ops Q i K' a w := by
  unfold wpOp at h
  unfold wpOpIn
  split
  · rename_i ho; simp only [ho] at h; exact hK _ _ h
  · rename_i o ho
    simp only [ho] at h
    split
    · rename_i hw
      simp only [hw, if_true] at h
      rcases h with h | h
      · exact operIn_of_wp (hse o ho) hL hK h
      · exact absurd h.2 hL
    · rename_i hw
      simp only [hw] at h
      exact ⟨fun _ _ => trivial, hK _ _ h⟩
theorem anyIn_of_wp {r n : Nat} (hse : ∀ (i : Nat) (o : Oper), ops[i]? = some o → ∀ ρ, Oper.semAt (Fence.wide.inRound r).round ρ o = execOp ρ o) (hL : ¬ LetsOut Q) : ∀ (fuel : Nat) (listed : Array Bool) (a : Act) (w : World), wpAny P md ops Q fuel listed a w → wpAnyIn (Fence.wide.inRound r) n P md ops Q fuel listed a w
  | 0, _, _, _, h => h
  | fuel + 1, _, _, _, h => ⟨h.1, fun i hi => opIn_of_wp (hse i) hL (fun _ _ h' => anyIn_of_wp hse hL fuel _ _ _ h') (h.2 i hi)⟩
/-- A region within a round, by hand. -/
theorem wpIn_round_held {r n id : Nat} {a : Act} {w : World} {l : List Oper} (S : World → Prop) (hm : P.follows .mixedOrders = true) (hd : noDefer l = true) (hL : ¬ LetsOut Q)
    (h : wpAnyH P .any l.toArray Q S l.toArray.size (Array.replicate l.toArray.size false) a { w with drawn := w.drawn + 1 }) : (Code.region id l.toArray true).wpIn (Fence.wide.inRound r) n P Q a w :=
  wpIn_region_any hm (anyIn_of_wp (noDefer_sem hd _) hL _ _ _ _ (wpAny_of_held _ _ _ _ h))
end
end Go.Proofs.YtfbaenhajlckjaaGreat
/- A region that draws its order: a load that only the last operations await, taken first, where what is written is written by those alone. -/
set_option linter.unusedVariables false
namespace Go.Proofs.YtfbaenhajlckjaaGreat
open Go.RowKit

section
variable {P : Program} {ops : Array Oper} {Q : Exit → Act → World → Prop} {md : Region.Mode} {S : World → Prop} {E : Nat → Bool}
/-- Whatever order is picked from here on, and S holds behind every operation that isn't one of E. -/
def wpAnyE (P : Program) (md : Region.Mode) (ops : Array Oper) (Q : Exit → Act → World → Prop) (S : World → Prop) (E : Nat → Bool) : Nat → Array Bool → Act → World → Prop
  | 0, listed, a, w => Region.ready md ops listed = [] ∧ Q .normal a w
  | fuel + 1, listed, a, w =>
    (Region.ready md ops listed = [] → Q .normal a w) ∧
    ∀ i ∈ Region.ready md ops listed, wpOp P ops Q i (fun a' w' => (E i = false → S w') ∧ wpAnyE P md ops Q S E fuel (listed.setIfInBounds i true) a' w') a w
theorem wpAny_of_E : ∀ (fuel : Nat) (listed : Array Bool) (a : Act) (w : World), wpAnyE P md ops Q S E fuel listed a w → wpAny P md ops Q fuel listed a w
  | 0, _, _, _, h => h
  | fuel + 1, _, _, _, h => ⟨h.1, fun i hi => wpOp_mono (fun a' w' h' => wpAny_of_E fuel _ a' w' h'.2) (h.2 i hi)⟩
theorem wpAnyE_first {i : Nat} {oi : Oper} {v : Value} (hi : ops[i]? = some oi) (hsel : ∀ (j : Nat) (o : Oper) cs b, ops[j]? = some o → o.op ≠ .select cs b)
    (hE : ∀ j oj, ops[j]? = some oj → E j = true → ∃ e ∈ oj.after, Region.binds md e = true ∧ e.on = i)
    (hQ : ∀ c a w, Q (.panic c) (a.put oi.dst v) w → Q (.panic c) a w) :
    ∀ (fuel : Nat) (listed : Array Bool) (a : Act) (w : World),
      (∀ j oj, ops[j]? = some oj → j ≠ i → listed.getD j true = false → (∀ e ∈ oj.after, Region.binds md e = true → e.on ≠ i) → oi.apart ops oj = true) →
      i ∈ Region.ready md ops listed → YieldsIf P ops S oi v a → S w →
      wpAnyE P md ops Q S E fuel (listed.setIfInBounds i true) (a.put oi.dst v) w → wpAny P md ops Q (fuel + 1) listed a w := by
  intro fuel
  induction fuel with
  | zero =>
    intro listed a w _ hr hy hS H
    refine ⟨fun h => (by rw [h] at hr; cases hr), fun j hj => ?_⟩
    by_cases hji : j = i
    · subst hji; exact hy.wpOp hi hS H
    · have := ready_mono hj hji
      rw [H.1] at this
      cases this
  | succ fuel ih =>
    intro listed a w hfree hr hy hS H
    refine ⟨fun h => (by rw [h] at hr; cases hr), fun j hj => ?_⟩
    by_cases hji : j = i
    · subst hji; exact hy.wpOp hi hS (wpAny_of_E _ _ _ _ H)
    · have h1 := H.2 j (ready_mono hj hji)
      obtain ⟨hjun, oj, hoj, hall⟩ := mem_ready.1 hj
      have hnot : ∀ e ∈ oj.after, Region.binds md e = true → e.on ≠ i := fun e he hb heq => by
        have h1 := hall e he hb
        have h0 := (mem_ready.1 hr).1
        rw [heq] at h1
        rcases Nat.lt_or_ge i listed.size with h' | h'
        · simp [h'] at h0 h1; rw [h0] at h1; cases h1
        · simp [Array.getElem?_eq_none h'] at h1
      have hEj : E j = false := by
        cases hc : E j with
        | false => rfl
        | true =>
          obtain ⟨e, he, hb, hon⟩ := hE j oj hoj hc
          exact absurd hon (hnot e he hb)
      have h2 := wpOp_putIf hoj (hfree j oj hoj hji hjun hnot) (fun cs b => hsel i oi cs b hi) (fun cs b => hsel j oj cs b hoj) hQ hy h1
      have hfree' : ∀ k ok, ops[k]? = some ok → k ≠ i → (listed.setIfInBounds j true).getD k true = false →
          (∀ e ∈ ok.after, Region.binds md e = true → e.on ≠ i) → oi.apart ops ok = true := fun k ok hk hki hun hno => by
        refine hfree k ok hk hki ?_ hno
        by_cases hjk : j = k
        · subst hjk; exact hjun
        · rw [getD_set_ne true hjk] at hun; exact hun
      refine wpOp_mono (fun a' w' h3 => ih (listed.setIfInBounds j true) a' w' hfree' (ready_mono hr (Ne.symm hji)) h3.1 (h3.2.1 hEj) ?_) h2
      rw [Array.setIfInBounds_comm _ _ hji]
      exact h3.2.2
def lateB (md : Region.Mode) (ops : Array Oper) (E : Nat → Bool) (i : Nat) : Bool :=
  (List.range ops.size).all fun j => !E j || (match ops[j]? with | some o => o.after.any fun e => Region.binds md e && e.on == i | none => false)
theorem late_spec {i : Nat} (h : lateB md ops E i = true) : ∀ j oj, ops[j]? = some oj → E j = true → ∃ e ∈ oj.after, Region.binds md e = true ∧ e.on = i := fun j oj hj hE => by
  have h1 := List.all_eq_true.1 h j (List.mem_range.2 (Array.getElem?_eq_some_iff.1 hj).1)
  rw [hE, hj] at h1
  simp only [Bool.not_true, Bool.false_or] at h1
  obtain ⟨e, he, h2⟩ := Array.any_eq_true'.1 h1
  simp only [Bool.and_eq_true, beq_iff_eq] at h2
  exact ⟨e, he, h2.1, h2.2⟩
/-- A load is taken first. -/
theorem wpAny_late {i d : Nat} {oi : Oper} {v : Value} {fuel : Nat} {listed : Array Bool} {a : Act} {w : World} (S : World → Prop) (E : Nat → Bool) (hi : ops[i]? = some oi) (hd : oi.dst = some d)
    (hs : Region.noSelect ops = true) (hl : lateB md ops E i = true) (hf : Region.free md ops listed i = true) (hr : (Region.ready md ops listed).contains i = true)
    (hQ : ∀ c a w, Q (.panic c) (a.put oi.dst v) w → Q (.panic c) a w) (hy : YieldsIf P ops S oi v a) (hS : S w)
    (h : wpAnyE P md ops Q S E fuel (listed.setIfInBounds i true) (a.put (some d) v) w) : wpAny P md ops Q (fuel + 1) listed a w :=
  wpAnyE_first hi (Region.noSelect_spec hs) (late_spec hl) hQ fuel listed a w (Region.free_spec hi hf) (by simpa using hr) hy hS (by rw [hd]; exact h)
theorem any_take {i d : Nat} {oi : Oper} {v : Value} {fuel : Nat} {listed : Array Bool} {a : Act} {w : World} (hi : ops[i]? = some oi) (hd : oi.dst = some d)
    (hs : Region.noSelect ops = true) (hf : Region.free md ops listed i = true) (hr : (Region.ready md ops listed).contains i = true)
    (hQ : ∀ c a w, Q (.panic c) (a.put oi.dst v) w → Q (.panic c) a w) (hy : Yields P ops oi v a)
    (h : wpAny P md ops Q fuel (listed.setIfInBounds i true) (a.put (some d) v) w) : wpAny P md ops Q (fuel + 1) listed a w :=
  wpAny_take hi hs hf hr hQ hy (by rw [hd]; exact h)
/-- The next one, whichever it is. -/
def AllE (P : Program) (md : Region.Mode) (ops : Array Oper) (Q : Exit → Act → World → Prop) (S : World → Prop) (E : Nat → Bool) (fuel : Nat) (listed : Array Bool) (a : Act) (w : World) (rs : List Nat) : Prop :=
  ∀ i ∈ rs, wpOp P ops Q i (fun a' w' => (E i = false → S w') ∧ wpAnyE P md ops Q S E fuel (listed.setIfInBounds i true) a' w') a w
theorem AllE.nil {fuel : Nat} {listed : Array Bool} {a : Act} {w : World} : AllE P md ops Q S E fuel listed a w [] := fun _ h => by cases h
theorem AllE.cons {fuel : Nat} {listed : Array Bool} {a : Act} {w : World} {i : Nat} {o : Oper} {rs : List Nat} (ho : ops[i]? = some o)
    (h : ∀ K' : Act → World → Prop, Shut (∀ a w, (E i = false → S w) → ((E i = false → S w) → wpAnyE P md ops Q S E fuel (listed.setIfInBounds i true) a w) → K' a w) → if Region.wanted o (yielded ops a.tmps) = true then Oper.wp P o a w K' Q else K' (a.put o.dst undef) w)
    (hs : AllE P md ops Q S E fuel listed a w rs) : AllE P md ops Q S E fuel listed a w (i :: rs) := fun j hj => by
  rcases List.mem_cons.1 hj with rfl | hj
  · exact wpOp_step ho (fun K' hK => h K' (fun a w hS hW => hK a w ⟨hS, hW hS⟩))
  · exact hs j hj
theorem wpAnyE_ready {rs : List Nat} {fuel : Nat} {listed : Array Bool} {a : Act} {w : World} (hr : Region.ready md ops listed = rs) (hne : rs ≠ [])
    (h : AllE P md ops Q S E fuel listed a w rs) : wpAnyE P md ops Q S E (fuel + 1) listed a w := ⟨fun h0 => absurd (hr ▸ h0) hne, hr ▸ h⟩
theorem wpAnyE_done {listed : Array Bool} {a : Act} {w : World} (hr : Region.ready md ops listed = []) (h : Q .normal a w) : ∀ fuel, wpAnyE P md ops Q S E fuel listed a w
  | 0 => ⟨hr, h⟩
  | _ + 1 => ⟨fun _ => h, by rw [hr]; simp⟩
theorem wpIn_round_any {r n id : Nat} {a : Act} {w : World} {l : List Oper} (hm : P.follows .mixedOrders = true) (hd : noDefer l = true) (hL : ¬ LetsOut Q)
    (h : wpAny P .any l.toArray Q l.toArray.size (Array.replicate l.toArray.size false) a { w with drawn := w.drawn + 1 }) : (Code.region id l.toArray true).wpIn (Fence.wide.inRound r) n P Q a w :=
  wpIn_region_any hm (anyIn_of_wp (noDefer_sem hd _) hL _ _ _ _ h)
end
end Go.Proofs.YtfbaenhajlckjaaGreat
/- A region that draws its order: reads taken first, where what they read stays behind every operation. -/
set_option linter.unusedVariables false
namespace Go.Proofs.YtfbaenhajlckjaaGreat
open Go.RowKit

section
variable {P : Program} {ops : Array Oper} {Q : Exit → Act → World → Prop} {md : Region.Mode} {S : World → Prop}
theorem kept_first {i : Nat} {oi : Oper} {v : Value} (hi : ops[i]? = some oi) (hsel : ∀ (j : Nat) (o : Oper) cs b, ops[j]? = some o → o.op ≠ .select cs b)
    (hQ : ∀ c a w, Q (.panic c) (a.put oi.dst v) w → Q (.panic c) a w) :
    ∀ (fuel : Nat) (listed : Array Bool) (a : Act) (w : World),
      (∀ j oj, ops[j]? = some oj → j ≠ i → listed.getD j true = false → (∀ e ∈ oj.after, Region.binds md e = true → e.on ≠ i) → oi.apart ops oj = true) →
      i ∈ Region.ready md ops listed → YieldsIf P ops S oi v a → S w →
      wpAnyE P md ops Q S (fun _ => false) fuel (listed.setIfInBounds i true) (a.put oi.dst v) w → wpAnyE P md ops Q S (fun _ => false) (fuel + 1) listed a w := by
  intro fuel
  induction fuel with
  | zero =>
    intro listed a w _ hr hy hS H
    refine ⟨fun h => (by rw [h] at hr; cases hr), fun j hj => ?_⟩
    by_cases hji : j = i
    · subst hji; exact hy.wpOp hi hS ⟨fun _ => hS, H⟩
    · have := ready_mono hj hji
      rw [H.1] at this
      cases this
  | succ fuel ih =>
    intro listed a w hfree hr hy hS H
    refine ⟨fun h => (by rw [h] at hr; cases hr), fun j hj => ?_⟩
    by_cases hji : j = i
    · subst hji; exact hy.wpOp hi hS ⟨fun _ => hS, H⟩
    · have h1 := H.2 j (ready_mono hj hji)
      obtain ⟨hjun, oj, hoj, hall⟩ := mem_ready.1 hj
      have hnot : ∀ e ∈ oj.after, Region.binds md e = true → e.on ≠ i := fun e he hb heq => by
        have h1 := hall e he hb
        have h0 := (mem_ready.1 hr).1
        rw [heq] at h1
        rcases Nat.lt_or_ge i listed.size with h' | h'
        · simp [h'] at h0 h1; rw [h0] at h1; cases h1
        · simp [Array.getElem?_eq_none h'] at h1
      have h2 := wpOp_putIf hoj (hfree j oj hoj hji hjun hnot) (fun cs b => hsel i oi cs b hi) (fun cs b => hsel j oj cs b hoj) hQ hy h1
      have hfree' : ∀ k ok, ops[k]? = some ok → k ≠ i → (listed.setIfInBounds j true).getD k true = false →
          (∀ e ∈ ok.after, Region.binds md e = true → e.on ≠ i) → oi.apart ops ok = true := fun k ok hk hki hun hno => by
        refine hfree k ok hk hki ?_ hno
        by_cases hjk : j = k
        · subst hjk; exact hjun
        · rw [getD_set_ne true hjk] at hun; exact hun
      refine wpOp_mono (fun a' w' h3 => ⟨h3.2.1, ih (listed.setIfInBounds j true) a' w' hfree' (ready_mono hr (Ne.symm hji)) h3.1 (h3.2.1 rfl) ?_⟩) h2
      rw [Array.setIfInBounds_comm _ _ hji]
      exact h3.2.2
/-- A read is taken first. -/
theorem kept_take {i d : Nat} {oi : Oper} {v : Value} {fuel : Nat} {listed : Array Bool} {a : Act} {w : World} (hi : ops[i]? = some oi) (hd : oi.dst = some d)
    (hs : Region.noSelect ops = true) (hf : Region.free md ops listed i = true) (hr : (Region.ready md ops listed).contains i = true)
    (hQ : ∀ c a w, Q (.panic c) (a.put oi.dst v) w → Q (.panic c) a w) (hy : YieldsIf P ops S oi v a) (hS : S w)
    (h : wpAnyE P md ops Q S (fun _ => false) fuel (listed.setIfInBounds i true) (a.put (some d) v) w) : wpAnyE P md ops Q S (fun _ => false) (fuel + 1) listed a w :=
  kept_first hi (Region.noSelect_spec hs) hQ fuel listed a w (Region.free_spec hi hf) (by simpa using hr) hy hS (by rw [hd]; exact h)
/-- A region by hand. -/
theorem wp_region_kept {id : Nat} {a : Act} {w : World} {l : List Oper} (S : World → Prop) (hm : P.follows .mixedOrders = true)
    (h : wpAnyE P .any l.toArray Q S (fun _ => false) l.toArray.size (Array.replicate l.toArray.size false) a { w with drawn := w.drawn + 1 }) : (Code.region id l.toArray true).wp P Q a w :=
  wp_region_any hm (wpAny_of_E _ _ _ _ h)
end
end Go.Proofs.YtfbaenhajlckjaaGreat
