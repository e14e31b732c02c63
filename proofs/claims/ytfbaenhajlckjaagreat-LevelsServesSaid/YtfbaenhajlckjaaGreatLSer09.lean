/- Texts put together: LevThose, LevFiles, LevMin -/
import Derived.Test.YtfbaenhajlckjaaGreatLSer08
import Derived.Test.YtfbaenhajlckjaaGreatLSer03
import Derived.Test.YtfbaenhajlckjaaGreatLSer01
import Derived.Test.YtfbaenhajlckjaaGreatLSer07
/- Those tables that are wanted, in the order in which they stand. -/
set_option linter.unusedVariables false
set_option maxRecDepth 100000
namespace Go.Proofs.YtfbaenhajlckjaaGreat
open Go.RowKit

theorem filter_next {α : Type} {p : α → Bool} {L : List α} {i : Nat} {y : α} (hy : L[i]? = some y) : (L.take (i + 1)).filter p = (L.take i).filter p ++ (if p y = true then [y] else []) := by
  rw [List.take_add_one, hy, List.filter_append]
  cases h : p y <;> simp [h]
set_option maxHeartbeats 4000000 in
theorem those_level {T : Nat → Prop} {w : World} {a : Option Addr} {n cap lb : Nat} {L : List Tb} {p : Tb → Bool} (h : Hid (RdL T w (.slice a n cap) n (flat tcell L))) (hL : Hid (n = L.length)) (hn : n ≤ 1000000000)
    (hF : Hid (∀ (y : Tb) (W : World), Below w.heap.size w W → Calls Tryz.prog 129 #[.agg #[.int .i64 y.file, .int .i64 y.lev, .int .i64 y.cnt, .string (bs y.low), .string (bs y.high)], .pointer (some ⟨lb, 0, none⟩)] W fun e w' => e = .returned (.bool (p y)) ∧ Below W.heap.size W w')) :
    Calls Tryz.prog 97 #[.slice a n cap, .func (.func 129) #[] #[.pointer (some ⟨lb, 0, none⟩)]] w fun e w' => ∃ v, e = .returned v ∧ OwnTb w' w.heap.size v (L.filter p) ∧ Below w.heap.size w w' := by
  have eg : ∀ args w, (callFunc 129 args).run Tryz.prog w = .ok (.enter 129 args) w := enters_of Tryz.func129 (by kernel_rfl) rfl
  obtain ⟨B, hB⟩ : ∃ B, B = w.heap.size := ⟨_, rfl⟩
  rw [← hB]
  have HB := Lib.hid hB
  obtain ⟨i0, hi0, hz0, hz1, hz2⟩ := info_parts infoTb
  have HI := Lib.hid (And.intro hi0 (And.intro hz0 (And.intro hz1 hz2)))
  clear hi0 hz0 hz1 hz2 hB
  go_enter Tryz.func97, Tryz.ntmps97
  go_wp2_with fail
  go_loopw [5, 10] (fun v iv wr => ∃ i : Nat, i ≤ n ∧ iv = .int .i64 (i : Int) ∧ Hid (OwnTb wr B v ((L.take i).filter p)) ∧ Hid (Below B w wr)) (fun v iv wr => n - (intOf iv).toNat)
  case atStart => exact ⟨0, Nat.zero_le _, rfl, Lib.hid (OffRow.nil _ _ _ _), Lib.hid (Below.refl _ _)⟩
  case round =>
    obtain ⟨i, hi, rfl, hO, hK⟩ := hrel
    obtain ⟨LL, hLL⟩ : ∃ LL, LL = (L.take i).filter p := ⟨_, rfl⟩
    obtain ⟨N, hN⟩ : ∃ N, N = LL.length := ⟨_, rfl⟩
    have hN9 : N ≤ 1000000000 := by
      have := List.length_filter_le p (L.take i)
      rw [hN, hLL]
      rw [List.length_take] at this
      omega
    have HNN := Lib.hid hN
    have HLL := Lib.hid hLL
    have HO := Lib.hid (show OffRow wr B 42 5 _ N (flat tcell LL) by have := hO.out; rw [← hLL] at this; unfold OwnTb at this; rw [← hN] at this; exact this)
    obtain ⟨a3, c3, rfl⟩ := OffRow.slice HO.out
    clear hN hO hLL
    have HBr := Lib.hid (show B ≤ wr.heap.size by have := hK.out.size; have := HB.out; omega)
    by_cases hlt : i < n
    · have hlt' : (i : Int) < (n : Int) := by omega
      obtain ⟨y, hy⟩ : ∃ y, L[i]? = some y := ⟨_, List.getElem?_eq_getElem (by have := hL.out; omega)⟩
      obtain ⟨b, off, rfl, ht, hb2, hc⟩ := RdL.atT h.out hy hlt
      have hcr : ∀ i' u, (tcell y)[i']? = some u → wr.cell? ⟨b, off + i * 5 + i', none⟩ = some u := fun i' u hu => by
        rw [← hc i' u hu]
        simp only [World.cell?, hK.out.block b (by rw [HB.out]; exact hb2)]
      have y0 : wr.cell? ⟨b, off + i * 5, none⟩ = _ := hcr 0 _ rfl
      have y1 := hcr 1 _ rfl
      have y2 := hcr 2 _ rfl
      have y3 := hcr 3 _ rfl
      have y4 := hcr 4 _ rfl
      have HNX := Lib.hid (filter_next (p := p) hy)
      obtain ⟨w4, hw4⟩ : ∃ w4, wr.alloc (.cells #[.int .i64 y.file, .int .i64 y.lev, .int .i64 y.cnt, .string (bs y.low), .string (bs y.high)] 42) = w4 := ⟨_, rfl⟩
      obtain ⟨tb, htb⟩ : ∃ tb, tb = wr.heap.size := ⟨_, rfl⟩
      have T4 := Lib.hid (show w4.heap[tb]? = some (.cells #[.int .i64 y.file, .int .i64 y.lev, .int .i64 y.cnt, .string (bs y.low), .string (bs y.high)] 42 (0, 0)) by rw [← hw4, htb]; exact heap_new wr _)
      have k4 : Below wr.heap.size wr w4 := by rw [← hw4]; exact (Below.refl _ _).alloc (Nat.le_refl _) _
      have K4 := Lib.hid (hK.out.trans (k4.mono HBr.out))
      have O4 := Lib.hid (OffRow.kept HO.out (w' := w4) fun j hj => k4.block j (OffRow.lt HO.out j hj).2)
      have HC := Lib.hid (hF.out y w4 (HB.out ▸ K4.out))
      obtain ⟨z, hz⟩ : ∃ z, z = p y := ⟨_, rfl⟩
      rw [← hz] at HC HNX
      have HW4 := Lib.hid hw4
      have HTB := Lib.hid htb
      clear hc hcr hy hw4 htb k4 hz
      go_upto_region 5 with (fail)
      rw [HW4.out, ← HTB.out]
      clear y0 y1 y2 y3 y4
      have t0 : w4.cell? ⟨tb, 0, none⟩ = some (.int .i64 y.file) := by simp [World.cell?, T4.out]
      have t1 : w4.cell? ⟨tb, 1, none⟩ = some (.int .i64 y.lev) := by simp [World.cell?, T4.out]
      have t2 : w4.cell? ⟨tb, 2, none⟩ = some (.int .i64 y.cnt) := by simp [World.cell?, T4.out]
      have t3 : w4.cell? ⟨tb, 3, none⟩ = some (.string (bs y.low)) := by simp [World.cell?, T4.out]
      have t4 : w4.cell? ⟨tb, 4, none⟩ = some (.string (bs y.high)) := by simp [World.cell?, T4.out]
      cases z with
      | false =>
        go_wp2_with fail
        refine HC.out.mono ?_
        rintro e w5 ⟨rfl, k5⟩
        have HB4 : B ≤ w4.heap.size := Nat.le_of_lt (by have := heap_lt T4.out; have := HBr.out; have := HTB.out; omega)
        have K5 := Lib.hid (K4.out.trans (k5.mono HB4))
        have O5 := Lib.hid (show OwnTb w5 B (.slice a3 N c3) ((L.take (i + 1)).filter p) by
          rw [HNX.out, if_neg (by simp), List.append_nil, ← HLL.out]
          unfold OwnTb
          rw [← HNN.out]
          exact OffRow.kept O4.out (w' := w5) fun j hj => k5.block j (OffRow.lt O4.out j hj).2)
        clear t0 t1 t2 t3 t4 k5 HC
        go_wp2_with fail
        go_roundw
        case rel => exact ⟨i + 1, by omega, by go_num, O5, K5⟩
        case measure => simp [intOf]; omega
      | true =>
        go_wp2_with fail
        refine HC.out.mono ?_
        rintro e w5 ⟨rfl, k5⟩
        have HB4 : B ≤ w4.heap.size := Nat.le_of_lt (by have := heap_lt T4.out; have := HBr.out; have := HTB.out; omega)
        have K5 := Lib.hid (K4.out.trans (k5.mono HB4))
        have O5 := Lib.hid (OffRow.kept O4.out (w' := w5) fun j hj => k5.block j (OffRow.lt O4.out j hj).2)
        have T5 := Lib.hid ((k5.block tb (heap_lt T4.out)).trans T4.out)
        have HB5 := Lib.hid (show B ≤ w5.heap.size from Nat.le_trans HB4 k5.size)
        clear t0 t1 t2 t3 t4 k5 HC O4
        have t0 : w5.cell? ⟨tb, 0, none⟩ = some (.int .i64 y.file) := by simp [World.cell?, T5.out]
        have t1 : w5.cell? ⟨tb, 1, none⟩ = some (.int .i64 y.lev) := by simp [World.cell?, T5.out]
        have t2 : w5.cell? ⟨tb, 2, none⟩ = some (.int .i64 y.cnt) := by simp [World.cell?, T5.out]
        have t3 : w5.cell? ⟨tb, 3, none⟩ = some (.string (bs y.low)) := by simp [World.cell?, T5.out]
        have t4 : w5.cell? ⟨tb, 4, none⟩ = some (.string (bs y.high)) := by simp [World.cell?, T5.out]
        obtain ⟨w6, hw6⟩ : ∃ w6, w6 = w5.alloc (.cells #[.int .i64 y.file, .int .i64 y.lev, .int .i64 y.cnt, .string (bs y.low), .string (bs y.high)] 42) := ⟨_, rfl⟩
        have O6 := Lib.hid (show OffRow w6 B 42 5 (.slice a3 N c3) N (flat tcell LL) by rw [hw6]; exact O5.out.allocd _)
        have K6 := Lib.hid (show Below w5.heap.size w5 w6 by rw [hw6]; exact (Below.refl _ _).alloc (Nat.le_refl _) _)
        have HSR := Lib.hid (show Src Tryz.prog 5 25 (.slice (some ⟨w5.heap.size, 0, none⟩) 1 1) 1 (tcell y) w6 by
          have hb : w6.heap[w5.heap.size]? = some (.cells #[.int .i64 y.file, .int .i64 y.lev, .int .i64 y.cnt, .string (bs y.low), .string (bs y.high)] 42 (0, 0)) := by
            rw [hw6]
            exact heap_new w5 _
          exact src_block (size := 5) (cs := #[.int .i64 y.file, .int .i64 y.lev, .int .i64 y.cnt, .string (bs y.low), .string (bs y.high)]) Tryz.underlying25 hb 1 1 rfl (tcell_one y))
        have HB6 := Lib.hid (show B ≤ w6.heap.size by have := K6.out.size; have := HB5.out; omega)
        rw [hw6] at O6 HSR HB6
        have HW6 := Lib.hid hw6
        clear hw6
        go_wp2_with (at_builtin; refine wpList_append_off rfl (.tmp 17) (.tmp 19) 25 rfl B 42 i0 _ 5 56 Tryz.underlying25 HI.out.1 HI.out.2.1 HI.out.2.2.1 HI.out.2.2.2 rfl (.slice a3 N c3) N _ rfl O6.out (.slice (some ⟨w5.heap.size, 0, none⟩) 1 1) rfl 1 _ HSR.out (by unfold maxLen; omega) (by omega) HB6.out ?_)
        intro v7 w7 hr7 hg7 hat7
        rw [← HW6.out] at hg7
        have O7 := Lib.hid (show OwnTb w7 B v7 ((L.take (i + 1)).filter p) by
          have e : (L.take (i + 1)).filter p = LL ++ [y] := by rw [HNX.out, ← HLL.out]; simp
          rw [e]
          unfold OwnTb
          rw [flat_append, flat_one, List.length_append, ← HNN.out]
          exact hr7)
        have K7 := Lib.hid ((K5.out.trans (K6.out.mono HB5.out)).grown hg7 (by rw [HW6.out]; exact HB6.out) (fun j hj => (OffRow.lt O5.out j hj).1))
        clear hr7 hg7 hat7 O6 HSR t0 t1 t2 t3 t4
        go_wp2_with fail
        go_roundw
        case rel => exact ⟨i + 1, by omega, by go_num, O7, K7⟩
        case measure => simp [intOf]; omega
    · have hge : (n : Int) ≤ (i : Int) := by omega
      have HE := Lib.hid (show OwnTb wr B (.slice a3 N c3) (L.filter p) by
        have e : (L.take i).filter p = L.filter p := by rw [List.take_of_length_le (by have := hL.out; omega)]
        unfold OwnTb
        rw [← e, ← HLL.out, ← HNN.out]
        exact HO.out)
      go_wp2
      go_ret
      exact ⟨_, rfl, HE.out, hK.out⟩
set_option maxHeartbeats 4000000 in
theorem those_over {T : Nat → Prop} {w : World} {a : Option Addr} {n cap lb ob hb : Nat} {L : List Tb} {p : Tb → Bool} (h : Hid (RdL T w (.slice a n cap) n (flat tcell L))) (hL : Hid (n = L.length)) (hn : n ≤ 1000000000)
    (hF : Hid (∀ (y : Tb) (W : World), Below w.heap.size w W → Calls Tryz.prog 132 #[.agg #[.int .i64 y.file, .int .i64 y.lev, .int .i64 y.cnt, .string (bs y.low), .string (bs y.high)], .pointer (some ⟨lb, 0, none⟩), .pointer (some ⟨ob, 0, none⟩), .pointer (some ⟨hb, 0, none⟩)] W fun e w' => e = .returned (.bool (p y)) ∧ Below W.heap.size W w')) :
    Calls Tryz.prog 97 #[.slice a n cap, .func (.func 132) #[] #[.pointer (some ⟨lb, 0, none⟩), .pointer (some ⟨ob, 0, none⟩), .pointer (some ⟨hb, 0, none⟩)]] w fun e w' => ∃ v, e = .returned v ∧ OwnTb w' w.heap.size v (L.filter p) ∧ Below w.heap.size w w' := by
  have eg : ∀ args w, (callFunc 132 args).run Tryz.prog w = .ok (.enter 132 args) w := enters_of Tryz.func132 (by kernel_rfl) rfl
  obtain ⟨B, hB⟩ : ∃ B, B = w.heap.size := ⟨_, rfl⟩
  rw [← hB]
  have HB := Lib.hid hB
  obtain ⟨i0, hi0, hz0, hz1, hz2⟩ := info_parts infoTb
  have HI := Lib.hid (And.intro hi0 (And.intro hz0 (And.intro hz1 hz2)))
  clear hi0 hz0 hz1 hz2 hB
  go_enter Tryz.func97, Tryz.ntmps97
  go_wp2_with fail
  go_loopw [5, 10] (fun v iv wr => ∃ i : Nat, i ≤ n ∧ iv = .int .i64 (i : Int) ∧ Hid (OwnTb wr B v ((L.take i).filter p)) ∧ Hid (Below B w wr)) (fun v iv wr => n - (intOf iv).toNat)
  case atStart => exact ⟨0, Nat.zero_le _, rfl, Lib.hid (OffRow.nil _ _ _ _), Lib.hid (Below.refl _ _)⟩
  case round =>
    obtain ⟨i, hi, rfl, hO, hK⟩ := hrel
    obtain ⟨LL, hLL⟩ : ∃ LL, LL = (L.take i).filter p := ⟨_, rfl⟩
    obtain ⟨N, hN⟩ : ∃ N, N = LL.length := ⟨_, rfl⟩
    have hN9 : N ≤ 1000000000 := by
      have := List.length_filter_le p (L.take i)
      rw [hN, hLL]
      rw [List.length_take] at this
      omega
    have HNN := Lib.hid hN
    have HLL := Lib.hid hLL
    have HO := Lib.hid (show OffRow wr B 42 5 _ N (flat tcell LL) by have := hO.out; rw [← hLL] at this; unfold OwnTb at this; rw [← hN] at this; exact this)
    obtain ⟨a3, c3, rfl⟩ := OffRow.slice HO.out
    clear hN hO hLL
    have HBr := Lib.hid (show B ≤ wr.heap.size by have := hK.out.size; have := HB.out; omega)
    by_cases hlt : i < n
    · have hlt' : (i : Int) < (n : Int) := by omega
      obtain ⟨y, hy⟩ : ∃ y, L[i]? = some y := ⟨_, List.getElem?_eq_getElem (by have := hL.out; omega)⟩
      obtain ⟨b, off, rfl, ht, hb2, hc⟩ := RdL.atT h.out hy hlt
      have hcr : ∀ i' u, (tcell y)[i']? = some u → wr.cell? ⟨b, off + i * 5 + i', none⟩ = some u := fun i' u hu => by
        rw [← hc i' u hu]
        simp only [World.cell?, hK.out.block b (by rw [HB.out]; exact hb2)]
      have y0 : wr.cell? ⟨b, off + i * 5, none⟩ = _ := hcr 0 _ rfl
      have y1 := hcr 1 _ rfl
      have y2 := hcr 2 _ rfl
      have y3 := hcr 3 _ rfl
      have y4 := hcr 4 _ rfl
      have HNX := Lib.hid (filter_next (p := p) hy)
      obtain ⟨w4, hw4⟩ : ∃ w4, wr.alloc (.cells #[.int .i64 y.file, .int .i64 y.lev, .int .i64 y.cnt, .string (bs y.low), .string (bs y.high)] 42) = w4 := ⟨_, rfl⟩
      obtain ⟨tb, htb⟩ : ∃ tb, tb = wr.heap.size := ⟨_, rfl⟩
      have T4 := Lib.hid (show w4.heap[tb]? = some (.cells #[.int .i64 y.file, .int .i64 y.lev, .int .i64 y.cnt, .string (bs y.low), .string (bs y.high)] 42 (0, 0)) by rw [← hw4, htb]; exact heap_new wr _)
      have k4 : Below wr.heap.size wr w4 := by rw [← hw4]; exact (Below.refl _ _).alloc (Nat.le_refl _) _
      have K4 := Lib.hid (hK.out.trans (k4.mono HBr.out))
      have O4 := Lib.hid (OffRow.kept HO.out (w' := w4) fun j hj => k4.block j (OffRow.lt HO.out j hj).2)
      have HC := Lib.hid (hF.out y w4 (HB.out ▸ K4.out))
      obtain ⟨z, hz⟩ : ∃ z, z = p y := ⟨_, rfl⟩
      rw [← hz] at HC HNX
      have HW4 := Lib.hid hw4
      have HTB := Lib.hid htb
      clear hc hcr hy hw4 htb k4 hz
      go_upto_region 5 with (fail)
      rw [HW4.out, ← HTB.out]
      clear y0 y1 y2 y3 y4
      have t0 : w4.cell? ⟨tb, 0, none⟩ = some (.int .i64 y.file) := by simp [World.cell?, T4.out]
      have t1 : w4.cell? ⟨tb, 1, none⟩ = some (.int .i64 y.lev) := by simp [World.cell?, T4.out]
      have t2 : w4.cell? ⟨tb, 2, none⟩ = some (.int .i64 y.cnt) := by simp [World.cell?, T4.out]
      have t3 : w4.cell? ⟨tb, 3, none⟩ = some (.string (bs y.low)) := by simp [World.cell?, T4.out]
      have t4 : w4.cell? ⟨tb, 4, none⟩ = some (.string (bs y.high)) := by simp [World.cell?, T4.out]
      cases z with
      | false =>
        go_wp2_with fail
        refine HC.out.mono ?_
        rintro e w5 ⟨rfl, k5⟩
        have HB4 : B ≤ w4.heap.size := Nat.le_of_lt (by have := heap_lt T4.out; have := HBr.out; have := HTB.out; omega)
        have K5 := Lib.hid (K4.out.trans (k5.mono HB4))
        have O5 := Lib.hid (show OwnTb w5 B (.slice a3 N c3) ((L.take (i + 1)).filter p) by
          rw [HNX.out, if_neg (by simp), List.append_nil, ← HLL.out]
          unfold OwnTb
          rw [← HNN.out]
          exact OffRow.kept O4.out (w' := w5) fun j hj => k5.block j (OffRow.lt O4.out j hj).2)
        clear t0 t1 t2 t3 t4 k5 HC
        go_wp2_with fail
        go_roundw
        case rel => exact ⟨i + 1, by omega, by go_num, O5, K5⟩
        case measure => simp [intOf]; omega
      | true =>
        go_wp2_with fail
        refine HC.out.mono ?_
        rintro e w5 ⟨rfl, k5⟩
        have HB4 : B ≤ w4.heap.size := Nat.le_of_lt (by have := heap_lt T4.out; have := HBr.out; have := HTB.out; omega)
        have K5 := Lib.hid (K4.out.trans (k5.mono HB4))
        have O5 := Lib.hid (OffRow.kept O4.out (w' := w5) fun j hj => k5.block j (OffRow.lt O4.out j hj).2)
        have T5 := Lib.hid ((k5.block tb (heap_lt T4.out)).trans T4.out)
        have HB5 := Lib.hid (show B ≤ w5.heap.size from Nat.le_trans HB4 k5.size)
        clear t0 t1 t2 t3 t4 k5 HC O4
        have t0 : w5.cell? ⟨tb, 0, none⟩ = some (.int .i64 y.file) := by simp [World.cell?, T5.out]
        have t1 : w5.cell? ⟨tb, 1, none⟩ = some (.int .i64 y.lev) := by simp [World.cell?, T5.out]
        have t2 : w5.cell? ⟨tb, 2, none⟩ = some (.int .i64 y.cnt) := by simp [World.cell?, T5.out]
        have t3 : w5.cell? ⟨tb, 3, none⟩ = some (.string (bs y.low)) := by simp [World.cell?, T5.out]
        have t4 : w5.cell? ⟨tb, 4, none⟩ = some (.string (bs y.high)) := by simp [World.cell?, T5.out]
        obtain ⟨w6, hw6⟩ : ∃ w6, w6 = w5.alloc (.cells #[.int .i64 y.file, .int .i64 y.lev, .int .i64 y.cnt, .string (bs y.low), .string (bs y.high)] 42) := ⟨_, rfl⟩
        have O6 := Lib.hid (show OffRow w6 B 42 5 (.slice a3 N c3) N (flat tcell LL) by rw [hw6]; exact O5.out.allocd _)
        have K6 := Lib.hid (show Below w5.heap.size w5 w6 by rw [hw6]; exact (Below.refl _ _).alloc (Nat.le_refl _) _)
        have HSR := Lib.hid (show Src Tryz.prog 5 25 (.slice (some ⟨w5.heap.size, 0, none⟩) 1 1) 1 (tcell y) w6 by
          have hb : w6.heap[w5.heap.size]? = some (.cells #[.int .i64 y.file, .int .i64 y.lev, .int .i64 y.cnt, .string (bs y.low), .string (bs y.high)] 42 (0, 0)) := by
            rw [hw6]
            exact heap_new w5 _
          exact src_block (size := 5) (cs := #[.int .i64 y.file, .int .i64 y.lev, .int .i64 y.cnt, .string (bs y.low), .string (bs y.high)]) Tryz.underlying25 hb 1 1 rfl (tcell_one y))
        have HB6 := Lib.hid (show B ≤ w6.heap.size by have := K6.out.size; have := HB5.out; omega)
        rw [hw6] at O6 HSR HB6
        have HW6 := Lib.hid hw6
        clear hw6
        go_wp2_with (at_builtin; refine wpList_append_off rfl (.tmp 17) (.tmp 19) 25 rfl B 42 i0 _ 5 56 Tryz.underlying25 HI.out.1 HI.out.2.1 HI.out.2.2.1 HI.out.2.2.2 rfl (.slice a3 N c3) N _ rfl O6.out (.slice (some ⟨w5.heap.size, 0, none⟩) 1 1) rfl 1 _ HSR.out (by unfold maxLen; omega) (by omega) HB6.out ?_)
        intro v7 w7 hr7 hg7 hat7
        rw [← HW6.out] at hg7
        have O7 := Lib.hid (show OwnTb w7 B v7 ((L.take (i + 1)).filter p) by
          have e : (L.take (i + 1)).filter p = LL ++ [y] := by rw [HNX.out, ← HLL.out]; simp
          rw [e]
          unfold OwnTb
          rw [flat_append, flat_one, List.length_append, ← HNN.out]
          exact hr7)
        have K7 := Lib.hid ((K5.out.trans (K6.out.mono HB5.out)).grown hg7 (by rw [HW6.out]; exact HB6.out) (fun j hj => (OffRow.lt O5.out j hj).1))
        clear hr7 hg7 hat7 O6 HSR t0 t1 t2 t3 t4
        go_wp2_with fail
        go_roundw
        case rel => exact ⟨i + 1, by omega, by go_num, O7, K7⟩
        case measure => simp [intOf]; omega
    · have hge : (n : Int) ≤ (i : Int) := by omega
      have HE := Lib.hid (show OwnTb wr B (.slice a3 N c3) (L.filter p) by
        have e : (L.take i).filter p = L.filter p := by rw [List.take_of_length_le (by have := hL.out; omega)]
        unfold OwnTb
        rw [← e, ← HLL.out, ← HNN.out]
        exact HO.out)
      go_wp2
      go_ret
      exact ⟨_, rfl, HE.out, hK.out⟩
set_option maxHeartbeats 4000000 in
theorem those_find {T : Nat → Prop} {w : World} {a : Option Addr} {n cap ob : Nat} {L : List Tb} {p : Tb → Bool} (h : Hid (RdL T w (.slice a n cap) n (flat tcell L))) (hL : Hid (n = L.length)) (hn : n ≤ 1000000000)
    (hF : Hid (∀ (y : Tb) (W : World), Below w.heap.size w W → Calls Tryz.prog 98 #[.agg #[.int .i64 y.file, .int .i64 y.lev, .int .i64 y.cnt, .string (bs y.low), .string (bs y.high)], .pointer (some ⟨ob, 0, none⟩)] W fun e w' => e = .returned (.bool (p y)) ∧ Below W.heap.size W w')) :
    Calls Tryz.prog 97 #[.slice a n cap, .func (.func 98) #[] #[.pointer (some ⟨ob, 0, none⟩)]] w fun e w' => ∃ v, e = .returned v ∧ OwnTb w' w.heap.size v (L.filter p) ∧ Below w.heap.size w w' := by
  have eg : ∀ args w, (callFunc 98 args).run Tryz.prog w = .ok (.enter 98 args) w := enters_of Tryz.func98 (by kernel_rfl) rfl
  obtain ⟨B, hB⟩ : ∃ B, B = w.heap.size := ⟨_, rfl⟩
  rw [← hB]
  have HB := Lib.hid hB
  obtain ⟨i0, hi0, hz0, hz1, hz2⟩ := info_parts infoTb
  have HI := Lib.hid (And.intro hi0 (And.intro hz0 (And.intro hz1 hz2)))
  clear hi0 hz0 hz1 hz2 hB
  go_enter Tryz.func97, Tryz.ntmps97
  go_wp2_with fail
  go_loopw [5, 10] (fun v iv wr => ∃ i : Nat, i ≤ n ∧ iv = .int .i64 (i : Int) ∧ Hid (OwnTb wr B v ((L.take i).filter p)) ∧ Hid (Below B w wr)) (fun v iv wr => n - (intOf iv).toNat)
  case atStart => exact ⟨0, Nat.zero_le _, rfl, Lib.hid (OffRow.nil _ _ _ _), Lib.hid (Below.refl _ _)⟩
  case round =>
    obtain ⟨i, hi, rfl, hO, hK⟩ := hrel
    obtain ⟨LL, hLL⟩ : ∃ LL, LL = (L.take i).filter p := ⟨_, rfl⟩
    obtain ⟨N, hN⟩ : ∃ N, N = LL.length := ⟨_, rfl⟩
    have hN9 : N ≤ 1000000000 := by
      have := List.length_filter_le p (L.take i)
      rw [hN, hLL]
      rw [List.length_take] at this
      omega
    have HNN := Lib.hid hN
    have HLL := Lib.hid hLL
    have HO := Lib.hid (show OffRow wr B 42 5 _ N (flat tcell LL) by have := hO.out; rw [← hLL] at this; unfold OwnTb at this; rw [← hN] at this; exact this)
    obtain ⟨a3, c3, rfl⟩ := OffRow.slice HO.out
    clear hN hO hLL
    have HBr := Lib.hid (show B ≤ wr.heap.size by have := hK.out.size; have := HB.out; omega)
    by_cases hlt : i < n
    · have hlt' : (i : Int) < (n : Int) := by omega
      obtain ⟨y, hy⟩ : ∃ y, L[i]? = some y := ⟨_, List.getElem?_eq_getElem (by have := hL.out; omega)⟩
      obtain ⟨b, off, rfl, ht, hb2, hc⟩ := RdL.atT h.out hy hlt
      have hcr : ∀ i' u, (tcell y)[i']? = some u → wr.cell? ⟨b, off + i * 5 + i', none⟩ = some u := fun i' u hu => by
        rw [← hc i' u hu]
        simp only [World.cell?, hK.out.block b (by rw [HB.out]; exact hb2)]
      have y0 : wr.cell? ⟨b, off + i * 5, none⟩ = _ := hcr 0 _ rfl
      have y1 := hcr 1 _ rfl
      have y2 := hcr 2 _ rfl
      have y3 := hcr 3 _ rfl
      have y4 := hcr 4 _ rfl
      have HNX := Lib.hid (filter_next (p := p) hy)
      obtain ⟨w4, hw4⟩ : ∃ w4, wr.alloc (.cells #[.int .i64 y.file, .int .i64 y.lev, .int .i64 y.cnt, .string (bs y.low), .string (bs y.high)] 42) = w4 := ⟨_, rfl⟩
      obtain ⟨tb, htb⟩ : ∃ tb, tb = wr.heap.size := ⟨_, rfl⟩
      have T4 := Lib.hid (show w4.heap[tb]? = some (.cells #[.int .i64 y.file, .int .i64 y.lev, .int .i64 y.cnt, .string (bs y.low), .string (bs y.high)] 42 (0, 0)) by rw [← hw4, htb]; exact heap_new wr _)
      have k4 : Below wr.heap.size wr w4 := by rw [← hw4]; exact (Below.refl _ _).alloc (Nat.le_refl _) _
      have K4 := Lib.hid (hK.out.trans (k4.mono HBr.out))
      have O4 := Lib.hid (OffRow.kept HO.out (w' := w4) fun j hj => k4.block j (OffRow.lt HO.out j hj).2)
      have HC := Lib.hid (hF.out y w4 (HB.out ▸ K4.out))
      obtain ⟨z, hz⟩ : ∃ z, z = p y := ⟨_, rfl⟩
      rw [← hz] at HC HNX
      have HW4 := Lib.hid hw4
      have HTB := Lib.hid htb
      clear hc hcr hy hw4 htb k4 hz
      go_upto_region 5 with (fail)
      rw [HW4.out, ← HTB.out]
      clear y0 y1 y2 y3 y4
      have t0 : w4.cell? ⟨tb, 0, none⟩ = some (.int .i64 y.file) := by simp [World.cell?, T4.out]
      have t1 : w4.cell? ⟨tb, 1, none⟩ = some (.int .i64 y.lev) := by simp [World.cell?, T4.out]
      have t2 : w4.cell? ⟨tb, 2, none⟩ = some (.int .i64 y.cnt) := by simp [World.cell?, T4.out]
      have t3 : w4.cell? ⟨tb, 3, none⟩ = some (.string (bs y.low)) := by simp [World.cell?, T4.out]
      have t4 : w4.cell? ⟨tb, 4, none⟩ = some (.string (bs y.high)) := by simp [World.cell?, T4.out]
      cases z with
      | false =>
        go_wp2_with fail
        refine HC.out.mono ?_
        rintro e w5 ⟨rfl, k5⟩
        have HB4 : B ≤ w4.heap.size := Nat.le_of_lt (by have := heap_lt T4.out; have := HBr.out; have := HTB.out; omega)
        have K5 := Lib.hid (K4.out.trans (k5.mono HB4))
        have O5 := Lib.hid (show OwnTb w5 B (.slice a3 N c3) ((L.take (i + 1)).filter p) by
          rw [HNX.out, if_neg (by simp), List.append_nil, ← HLL.out]
          unfold OwnTb
          rw [← HNN.out]
          exact OffRow.kept O4.out (w' := w5) fun j hj => k5.block j (OffRow.lt O4.out j hj).2)
        clear t0 t1 t2 t3 t4 k5 HC
        go_wp2_with fail
        go_roundw
        case rel => exact ⟨i + 1, by omega, by go_num, O5, K5⟩
        case measure => simp [intOf]; omega
      | true =>
        go_wp2_with fail
        refine HC.out.mono ?_
        rintro e w5 ⟨rfl, k5⟩
        have HB4 : B ≤ w4.heap.size := Nat.le_of_lt (by have := heap_lt T4.out; have := HBr.out; have := HTB.out; omega)
        have K5 := Lib.hid (K4.out.trans (k5.mono HB4))
        have O5 := Lib.hid (OffRow.kept O4.out (w' := w5) fun j hj => k5.block j (OffRow.lt O4.out j hj).2)
        have T5 := Lib.hid ((k5.block tb (heap_lt T4.out)).trans T4.out)
        have HB5 := Lib.hid (show B ≤ w5.heap.size from Nat.le_trans HB4 k5.size)
        clear t0 t1 t2 t3 t4 k5 HC O4
        have t0 : w5.cell? ⟨tb, 0, none⟩ = some (.int .i64 y.file) := by simp [World.cell?, T5.out]
        have t1 : w5.cell? ⟨tb, 1, none⟩ = some (.int .i64 y.lev) := by simp [World.cell?, T5.out]
        have t2 : w5.cell? ⟨tb, 2, none⟩ = some (.int .i64 y.cnt) := by simp [World.cell?, T5.out]
        have t3 : w5.cell? ⟨tb, 3, none⟩ = some (.string (bs y.low)) := by simp [World.cell?, T5.out]
        have t4 : w5.cell? ⟨tb, 4, none⟩ = some (.string (bs y.high)) := by simp [World.cell?, T5.out]
        obtain ⟨w6, hw6⟩ : ∃ w6, w6 = w5.alloc (.cells #[.int .i64 y.file, .int .i64 y.lev, .int .i64 y.cnt, .string (bs y.low), .string (bs y.high)] 42) := ⟨_, rfl⟩
        have O6 := Lib.hid (show OffRow w6 B 42 5 (.slice a3 N c3) N (flat tcell LL) by rw [hw6]; exact O5.out.allocd _)
        have K6 := Lib.hid (show Below w5.heap.size w5 w6 by rw [hw6]; exact (Below.refl _ _).alloc (Nat.le_refl _) _)
        have HSR := Lib.hid (show Src Tryz.prog 5 25 (.slice (some ⟨w5.heap.size, 0, none⟩) 1 1) 1 (tcell y) w6 by
          have hb : w6.heap[w5.heap.size]? = some (.cells #[.int .i64 y.file, .int .i64 y.lev, .int .i64 y.cnt, .string (bs y.low), .string (bs y.high)] 42 (0, 0)) := by
            rw [hw6]
            exact heap_new w5 _
          exact src_block (size := 5) (cs := #[.int .i64 y.file, .int .i64 y.lev, .int .i64 y.cnt, .string (bs y.low), .string (bs y.high)]) Tryz.underlying25 hb 1 1 rfl (tcell_one y))
        have HB6 := Lib.hid (show B ≤ w6.heap.size by have := K6.out.size; have := HB5.out; omega)
        rw [hw6] at O6 HSR HB6
        have HW6 := Lib.hid hw6
        clear hw6
        go_wp2_with (at_builtin; refine wpList_append_off rfl (.tmp 17) (.tmp 19) 25 rfl B 42 i0 _ 5 56 Tryz.underlying25 HI.out.1 HI.out.2.1 HI.out.2.2.1 HI.out.2.2.2 rfl (.slice a3 N c3) N _ rfl O6.out (.slice (some ⟨w5.heap.size, 0, none⟩) 1 1) rfl 1 _ HSR.out (by unfold maxLen; omega) (by omega) HB6.out ?_)
        intro v7 w7 hr7 hg7 hat7
        rw [← HW6.out] at hg7
        have O7 := Lib.hid (show OwnTb w7 B v7 ((L.take (i + 1)).filter p) by
          have e : (L.take (i + 1)).filter p = LL ++ [y] := by rw [HNX.out, ← HLL.out]; simp
          rw [e]
          unfold OwnTb
          rw [flat_append, flat_one, List.length_append, ← HNN.out]
          exact hr7)
        have K7 := Lib.hid ((K5.out.trans (K6.out.mono HB5.out)).grown hg7 (by rw [HW6.out]; exact HB6.out) (fun j hj => (OffRow.lt O5.out j hj).1))
        clear hr7 hg7 hat7 O6 HSR t0 t1 t2 t3 t4
        go_wp2_with fail
        go_roundw
        case rel => exact ⟨i + 1, by omega, by go_num, O7, K7⟩
        case measure => simp [intOf]; omega
    · have hge : (n : Int) ≤ (i : Int) := by omega
      have HE := Lib.hid (show OwnTb wr B (.slice a3 N c3) (L.filter p) by
        have e : (L.take i).filter p = L.filter p := by rw [List.take_of_length_le (by have := hL.out; omega)]
        unfold OwnTb
        rw [← e, ← HLL.out, ← HNN.out]
        exact HO.out)
      go_wp2
      go_ret
      exact ⟨_, rfl, HE.out, hK.out⟩
end Go.Proofs.YtfbaenhajlckjaaGreat
/- The files of tables; the least and the greatest key of tables. -/
set_option linter.unusedVariables false
set_option maxRecDepth 100000
namespace Go.Proofs.YtfbaenhajlckjaaGreat
open Go.RowKit

theorem map_next {α β : Type} {f : α → β} {L : List α} {i : Nat} {y : α} (hy : L[i]? = some y) : (L.take (i + 1)).map f = (L.take i).map f ++ [f y] := by
  rw [List.take_add_one, hy, List.map_append]; rfl
set_option maxHeartbeats 4000000 in
theorem lev_files {T : Nat → Prop} {w : World} {a : Option Addr} {n cap : Nat} {L : List Tb} (h : Hid (RdL T w (.slice a n cap) n (flat tcell L))) (hL : Hid (n = L.length)) (hn : n ≤ 1000000000) :
    Calls Tryz.prog 95 #[.slice a n cap] w fun e w' => ∃ v, e = .returned v ∧ OwnI w' w.heap.size v (L.map (·.file)) ∧ Below w.heap.size w w' := by
  obtain ⟨B, hB⟩ : ∃ B, B = w.heap.size := ⟨_, rfl⟩
  rw [← hB]
  have HB := Lib.hid hB
  obtain ⟨i0, hi0, hz0, hz1, hz2⟩ := info_parts infoInt
  have HI := Lib.hid (And.intro hi0 (And.intro hz0 (And.intro hz1 hz2)))
  clear hi0 hz0 hz1 hz2 hB
  go_enter Tryz.func95, Tryz.ntmps95
  go_wp2_with fail
  go_loopw [3, 8] (fun v iv wr => ∃ i : Nat, i ≤ n ∧ iv = .int .i64 (i : Int) ∧ Hid (OwnI wr B v ((L.take i).map (·.file))) ∧ Hid (Below B w wr)) (fun v iv wr => n - (intOf iv).toNat)
  case atStart => exact ⟨0, Nat.zero_le _, rfl, Lib.hid (OffRow.nil _ _ _ _), Lib.hid (Below.refl _ _)⟩
  case round =>
    obtain ⟨i, hi, rfl, hO, hK⟩ := hrel
    obtain ⟨LL, hLL⟩ : ∃ LL, LL = (L.take i).map (·.file) := ⟨_, rfl⟩
    obtain ⟨N, hN⟩ : ∃ N, N = LL.length := ⟨_, rfl⟩
    have hN9 : N ≤ 1000000000 := by
      rw [hN, hLL, List.length_map, List.length_take]
      omega
    have HNN := Lib.hid hN
    have HLL := Lib.hid hLL
    have HO := Lib.hid (show OffRow wr B 3 1 _ N (flat icell LL) by have := hO.out; rw [← hLL] at this; unfold OwnI at this; rw [← hN] at this; exact this)
    obtain ⟨a3, c3, rfl⟩ := OffRow.slice HO.out
    clear hN hO hLL
    have HBr := Lib.hid (show B ≤ wr.heap.size by have := hK.out.size; have := HB.out; omega)
    by_cases hlt : i < n
    · have hlt' : (i : Int) < (n : Int) := by omega
      obtain ⟨y, hy⟩ : ∃ y, L[i]? = some y := ⟨_, List.getElem?_eq_getElem (by have := hL.out; omega)⟩
      obtain ⟨b, off, rfl, ht, hb2, hc⟩ := RdL.atT h.out hy hlt
      have hcr : ∀ i' u, (tcell y)[i']? = some u → wr.cell? ⟨b, off + i * 5 + i', none⟩ = some u := fun i' u hu => by
        rw [← hc i' u hu]
        simp only [World.cell?, hK.out.block b (by rw [HB.out]; exact hb2)]
      have y0 : wr.cell? ⟨b, off + i * 5, none⟩ = _ := hcr 0 _ rfl
      have y1 := hcr 1 _ rfl
      have y2 := hcr 2 _ rfl
      have y3 := hcr 3 _ rfl
      have y4 := hcr 4 _ rfl
      have HNX := Lib.hid (map_next (f := Tb.file) hy)
      clear hc hcr hy
      obtain ⟨w4, hw4⟩ : ∃ w4, wr.alloc (.cells #[.int .i64 y.file, .int .i64 y.lev, .int .i64 y.cnt, .string (bs y.low), .string (bs y.high)] 42) = w4 := ⟨_, rfl⟩
      obtain ⟨tb, htb⟩ : ∃ tb, tb = wr.heap.size := ⟨_, rfl⟩
      have T4 := Lib.hid (show w4.heap[tb]? = some (.cells #[.int .i64 y.file, .int .i64 y.lev, .int .i64 y.cnt, .string (bs y.low), .string (bs y.high)] 42 (0, 0)) by rw [← hw4, htb]; exact heap_new wr _)
      have k4 : Below wr.heap.size wr w4 := by rw [← hw4]; exact (Below.refl _ _).alloc (Nat.le_refl _) _
      have K4 := Lib.hid (hK.out.trans (k4.mono HBr.out))
      have O4 := Lib.hid (OffRow.kept HO.out (w' := w4) fun j hj => k4.block j (OffRow.lt HO.out j hj).2)
      have HB4 : B ≤ w4.heap.size := Nat.le_trans HBr.out k4.size
      have HW4 := Lib.hid hw4
      have HTB := Lib.hid htb
      clear hw4 htb k4
      go_upto_region 5 with (fail)
      rw [HW4.out, ← HTB.out]
      clear y0 y1 y2 y3 y4
      have t0 : w4.cell? ⟨tb, 0, none⟩ = some (.int .i64 y.file) := by simp [World.cell?, T4.out]
      obtain ⟨w6, hw6⟩ : ∃ w6, w6 = w4.alloc (.cells #[.int .i64 y.file] 3) := ⟨_, rfl⟩
      have O6 := Lib.hid (show OffRow w6 B 3 1 (.slice a3 N c3) N (flat icell LL) by rw [hw6]; exact O4.out.allocd _)
      have K6 := Lib.hid (show Below w4.heap.size w4 w6 by rw [hw6]; exact (Below.refl _ _).alloc (Nat.le_refl _) _)
      have HSR := Lib.hid (show Src Tryz.prog 1 27 (.slice (some ⟨w4.heap.size, 0, none⟩) 1 1) 1 (icell y.file) w6 by
        have hb : w6.heap[w4.heap.size]? = some (.cells #[.int .i64 y.file] 3 (0, 0)) := by
          rw [hw6]
          exact heap_new w4 _
        exact src_block (size := 1) (cs := #[.int .i64 y.file]) Tryz.underlying27 hb 1 1 rfl (icell_one y.file))
      have HB6 := Lib.hid (show B ≤ w6.heap.size by have := K6.out.size; omega)
      rw [hw6] at O6 HSR HB6
      have HW6 := Lib.hid hw6
      clear hw6
      go_wp2_with (at_builtin; refine wpList_append_off rfl (.tmp 12) (.tmp 15) 27 rfl B 3 i0 _ 1 8 Tryz.underlying27 HI.out.1 HI.out.2.1 HI.out.2.2.1 HI.out.2.2.2 rfl (.slice a3 N c3) N _ rfl O6.out (.slice (some ⟨w4.heap.size, 0, none⟩) 1 1) rfl 1 _ HSR.out (by unfold maxLen; omega) (by omega) HB6.out ?_)
      intro v7 w7 hr7 hg7 hat7
      rw [← HW6.out] at hg7
      have O7 := Lib.hid (show OwnI w7 B v7 ((L.take (i + 1)).map (·.file)) by
        have e : (L.take (i + 1)).map (·.file) = LL ++ [y.file] := by rw [HNX.out, ← HLL.out]
        rw [e]
        unfold OwnI
        rw [flat_append, flat_one, List.length_append, ← HNN.out]
        exact hr7)
      have K7 := Lib.hid ((K4.out.trans (K6.out.mono HB4)).grown hg7 (by rw [HW6.out]; exact HB6.out) (fun j hj => (OffRow.lt O4.out j hj).1))
      clear hr7 hg7 hat7 O6 HSR t0
      go_wp2_with fail
      go_roundw
      case rel => exact ⟨i + 1, by omega, by go_num, O7, K7⟩
      case measure => simp [intOf]; omega
    · have hge : (n : Int) ≤ (i : Int) := by omega
      have HE := Lib.hid (show OwnI wr B (.slice a3 N c3) (L.map (·.file)) by
        have e : (L.take i).map (·.file) = L.map (·.file) := by rw [List.take_of_length_le (by have := hL.out; omega)]
        unfold OwnI
        rw [← e, ← HLL.out, ← HNN.out]
        exact HO.out)
      go_wp2
      go_ret
      exact ⟨_, rfl, HE.out, hK.out⟩

def lowL (L : List Tb) : List UInt8 := L.foldl (fun a t => minB a t.low) (L.headD default).low
def highL (L : List Tb) : List UInt8 := L.foldl (fun a t => maxB a t.high) (L.headD default).high
def lowT (L : List Tb) (i : Nat) : List UInt8 := (L.take i).foldl (fun a t => minB a t.low) (L.headD default).low
def highT (L : List Tb) (i : Nat) : List UInt8 := (L.take i).foldl (fun a t => maxB a t.high) (L.headD default).high
theorem lowT_next {L : List Tb} {i : Nat} {y : Tb} (hy : L[i]? = some y) : lowT L (i + 1) = minB (lowT L i) y.low := by
  unfold lowT; rw [List.take_add_one, hy, List.foldl_append]; rfl
theorem highT_next {L : List Tb} {i : Nat} {y : Tb} (hy : L[i]? = some y) : highT L (i + 1) = maxB (highT L i) y.high := by
  unfold highT; rw [List.take_add_one, hy, List.foldl_append]; rfl
set_option maxHeartbeats 4000000 in
theorem lev_ends {T : Nat → Prop} {w : World} {a : Option Addr} {n cap : Nat} {L : List Tb} (h : Hid (RdL T w (.slice a n cap) n (flat tcell L))) (hL : Hid (n = L.length)) (hn : n ≤ 1000000000) (hpos : 0 < n) :
    Calls Tryz.prog 91 #[.slice a n cap] w fun e w' => e = .returned (.tuple #[.string (bs (lowL L)), .string (bs (highL L))]) ∧ Below w.heap.size w w' := by
  obtain ⟨B, hB⟩ : ∃ B, B = w.heap.size := ⟨_, rfl⟩
  rw [← hB]
  have HB := Lib.hid hB
  obtain ⟨q, hq⟩ : ∃ q, L[0]? = some q := ⟨_, List.getElem?_eq_getElem (by have := hL.out; omega)⟩
  obtain ⟨b, off, rfl, ht, hb2, hc⟩ := RdL.atT h.out hq hpos
  have HL0 := Lib.hid (show lowT L 0 = q.low ∧ highT L 0 = q.high by
    cases L with
    | nil => cases hq
    | cons x L => have e : x = q := by simpa using hq
                  subst e; exact ⟨rfl, rfl⟩)
  have x3 := hc 3 _ rfl
  have x4 := hc 4 _ rfl
  have e0 : off + 0 * 5 + 3 = off + 3 := by omega
  have e1 : off + 0 * 5 + 4 = off + 4 := by omega
  rw [e0] at x3
  rw [e1] at x4
  have hposI : (0 : Int) < (n : Int) := by omega
  obtain ⟨ql, hql⟩ : ∃ ql, ql = q.low := ⟨_, rfl⟩
  obtain ⟨qh, hqh⟩ : ∃ qh, qh = q.high := ⟨_, rfl⟩
  rw [← hql] at x3 HL0
  rw [← hqh] at x4 HL0
  clear hB hq ht hb2 hc e0 e1 hql hqh
  go_enter Tryz.func91, Tryz.ntmps91
  go_wp2_with fail
  go_quiet (fail)
  rw [← HL0.out.1, ← HL0.out.2]
  generalize hw0 : World.drewN w _ = w0
  have K0 := Lib.hid (show Below B w w0 by rw [← hw0]; exact below_drewN (Below.refl _ _) _)
  clear x3 x4 hw0
  go_wp2_with fail
  go_loopw [2, 3, 16] (fun lv hv iv wr => ∃ i : Nat, i ≤ n ∧ iv = .int .i64 (i : Int) ∧ lv = .string (bs (lowT L i)) ∧ hv = .string (bs (highT L i)) ∧ Hid (Below B w wr)) (fun lv hv iv wr => n - (intOf iv).toNat)
  case atStart => exact ⟨0, Nat.zero_le _, rfl, rfl, rfl, K0⟩
  case round =>
    obtain ⟨i, hi, rfl, rfl, rfl, hK⟩ := hrel
    have HBr := Lib.hid (show B ≤ wr.heap.size by have := hK.out.size; have := HB.out; omega)
    by_cases hlt : i < n
    · have hlt' : (i : Int) < (n : Int) := by omega
      obtain ⟨y, hy⟩ : ∃ y, L[i]? = some y := ⟨_, List.getElem?_eq_getElem (by have := hL.out; omega)⟩
      obtain ⟨b', off', he, ht, hb2, hc⟩ := RdL.atT h.out hy hlt
      have hcr : ∀ i' u, (tcell y)[i']? = some u → wr.cell? ⟨b', off' + i * 5 + i', none⟩ = some u := fun i' u hu => by
        rw [← hc i' u hu]
        simp only [World.cell?, hK.out.block b' (by rw [HB.out]; exact hb2)]
      have y0 : wr.cell? ⟨b', off' + i * 5, none⟩ = _ := hcr 0 _ rfl
      have y1 := hcr 1 _ rfl
      have y2 := hcr 2 _ rfl
      have y3 := hcr 3 _ rfl
      have y4 := hcr 4 _ rfl
      obtain ⟨rfl, rfl⟩ : b = b' ∧ off = off' := by injection he with he; injection he with h1 h2; exact ⟨h1, h2⟩
      have HNL := Lib.hid (lowT_next hy)
      have HNH := Lib.hid (highT_next hy)
      have hmn := run_minB (lowT L i) y.low
      have hmx := run_maxB (highT L i) y.high
      rw [← HNL.out] at hmn
      rw [← HNH.out] at hmx
      clear hc hcr hy
      obtain ⟨w4, hw4⟩ : ∃ w4, wr.alloc (.cells #[.int .i64 y.file, .int .i64 y.lev, .int .i64 y.cnt, .string (bs y.low), .string (bs y.high)] 42) = w4 := ⟨_, rfl⟩
      obtain ⟨tb, htb⟩ : ∃ tb, tb = wr.heap.size := ⟨_, rfl⟩
      have T4 := Lib.hid (show w4.heap[tb]? = some (.cells #[.int .i64 y.file, .int .i64 y.lev, .int .i64 y.cnt, .string (bs y.low), .string (bs y.high)] 42 (0, 0)) by rw [← hw4, htb]; exact heap_new wr _)
      have k4 : Below wr.heap.size wr w4 := by rw [← hw4]; exact (Below.refl _ _).alloc (Nat.le_refl _) _
      have K4 := Lib.hid (hK.out.trans (k4.mono HBr.out))
      have HW4 := Lib.hid hw4
      have HTB := Lib.hid htb
      clear hw4 htb k4
      go_upto_region 5 with (fail)
      rw [HW4.out, ← HTB.out]
      clear y0 y1 y2 y3 y4
      have t3 : w4.cell? ⟨tb, 3, none⟩ = some (.string (bs y.low)) := by simp [World.cell?, T4.out]
      have t4 : w4.cell? ⟨tb, 4, none⟩ = some (.string (bs y.high)) := by simp [World.cell?, T4.out]
      obtain ⟨l1, hl1⟩ : ∃ l, l = lowT L (i + 1) := ⟨_, rfl⟩
      obtain ⟨h1, hh1⟩ : ∃ l, l = highT L (i + 1) := ⟨_, rfl⟩
      obtain ⟨l0, hl0⟩ : ∃ l, l = lowT L i := ⟨_, rfl⟩
      obtain ⟨h0, hh0⟩ : ∃ l, l = highT L i := ⟨_, rfl⟩
      rw [← hl0, ← hl1] at hmn
      rw [← hh0, ← hh1] at hmx
      rw [← hl0, ← hh0]
      have HL1 := Lib.hid (And.intro hl1 hh1)
      clear hl1 hh1 hl0 hh0
      go_region
      all_goals
        have K5 := Lib.hid (K4.out.drew)
        clear t3 t4 hmn hmx
        go_wp2_with fail
        go_roundw
        case rel => exact ⟨i + 1, by omega, by go_num, by rw [HL1.out.1], by rw [HL1.out.2], K5⟩
        case measure => simp [intOf]; omega
    · have hge : (n : Int) ≤ (i : Int) := by omega
      have HE := Lib.hid (show lowT L i = lowL L ∧ highT L i = highL L by
        have e : L.take i = L := List.take_of_length_le (by have := hL.out; omega)
        unfold lowT highT lowL highL
        rw [e]; exact ⟨rfl, rfl⟩)
      obtain ⟨l0, hl0⟩ : ∃ l, l = lowT L i := ⟨_, rfl⟩
      obtain ⟨h0, hh0⟩ : ∃ l, l = highT L i := ⟨_, rfl⟩
      rw [← hl0, ← hh0]
      have HV := Lib.hid (show l0 = lowL L ∧ h0 = highL L from ⟨hl0.trans HE.out.1, hh0.trans HE.out.2⟩)
      clear HE hl0 hh0
      go_wp2
      go_ret2
      exact ⟨by rw [HV.out.1, HV.out.2]; rfl, hK.out⟩
end Go.Proofs.YtfbaenhajlckjaaGreat
/- The table of the least file. -/
set_option linter.unusedVariables false
set_option maxRecDepth 100000
namespace Go.Proofs.YtfbaenhajlckjaaGreat
open Go.RowKit

/-- A variable that holds a table. -/
def B5 (b : Nat) (t : Tb) (w : World) : Prop := w.heap[b]? = some (.cells #[.int .i64 t.file, .int .i64 t.lev, .int .i64 t.cnt, .string (bs t.low), .string (bs t.high)] 42 (0, 0))
namespace B5
variable {b : Nat} {t u : Tb} {w w' : World}
theorem c0 (h : B5 b t w) : w.cell? ⟨b, 0, none⟩ = some (.int .i64 t.file) ∧ w.cell? ⟨b, 1, none⟩ = some (.int .i64 t.lev) ∧ w.cell? ⟨b, 2, none⟩ = some (.int .i64 t.cnt) ∧ w.cell? ⟨b, 3, none⟩ = some (.string (bs t.low)) ∧ w.cell? ⟨b, 4, none⟩ = some (.string (bs t.high)) := by unfold B5 at h; simp [World.cell?, h]
theorem free (h : B5 b t w) (j : Nat) : w.frozen? ⟨b, j, none⟩ = false := by unfold B5 at h; simp [World.frozen?, h]
theorem below (h : B5 b t w) (k : Below w.heap.size w w') : B5 b t w' := (k.block b (heap_lt h)).trans h
theorem put (h : B5 b t w) (u : Tb) : B5 b u (((((w.setCell ⟨b, 0, none⟩ (.int .i64 u.file)).setCell ⟨b, 1, none⟩ (.int .i64 u.lev)).setCell ⟨b, 2, none⟩ (.int .i64 u.cnt)).setCell ⟨b, 3, none⟩ (.string (bs u.low))).setCell ⟨b, 4, none⟩ (.string (bs u.high))) := by
  have h0 := heap_set (o := 0) h (.int .i64 u.file)
  have h1 := heap_set (o := 1) h0 (.int .i64 u.lev)
  have h2 := heap_set (o := 2) h1 (.int .i64 u.cnt)
  have h3 := heap_set (o := 3) h2 (.string (bs u.low))
  have h4 := heap_set (o := 4) h3 (.string (bs u.high))
  exact h4
theorem range (h : B5 b t w) : w.rangeAt b 0 [.int .i64 t.file, .int .i64 t.lev, .int .i64 t.cnt, .string (bs t.low), .string (bs t.high)] := fun j v hj => by
  obtain ⟨e0, e1, e2, e3, e4⟩ := h.c0
  match j, hj with
  | 0, hj => cases hj; exact e0
  | 1, hj => cases hj; exact e1
  | 2, hj => cases hj; exact e2
  | 3, hj => cases hj; exact e3
  | 4, hj => cases hj; exact e4
  | n + 5, hj => cases hj
end B5
theorem heap_set5 {w : World} {b j : Nat} (hj : j ≠ b) (u0 u1 u2 u3 u4 : Value) : (((((w.setCell ⟨b, 0, none⟩ u0).setCell ⟨b, 1, none⟩ u1).setCell ⟨b, 2, none⟩ u2).setCell ⟨b, 3, none⟩ u3).setCell ⟨b, 4, none⟩ u4).heap[j]? = w.heap[j]? := by
  rw [heap_set_other hj, heap_set_other hj, heap_set_other hj, heap_set_other hj, heap_set_other hj]
theorem below_set5 {B g : Nat} {a w : World} (h : Below B a w) (hB : B ≤ g) (u0 u1 u2 u3 u4 : Value) : Below B a (((((w.setCell ⟨g, 0, none⟩ u0).setCell ⟨g, 1, none⟩ u1).setCell ⟨g, 2, none⟩ u2).setCell ⟨g, 3, none⟩ u3).setCell ⟨g, 4, none⟩ u4) :=
  ((((h.setCell (p := ⟨g, 0, none⟩) hB u0).setCell (p := ⟨g, 1, none⟩) hB u1).setCell (p := ⟨g, 2, none⟩) hB u2).setCell (p := ⟨g, 3, none⟩) hB u3).setCell (p := ⟨g, 4, none⟩) hB u4
theorem sizeTb : (Tryz.prog.info? 42).map (·.size) = some 5 := by kernel_rfl
theorem zeroTb : (⟨0, 0, 0, [], []⟩ : Tb) = default := rfl

def minF (L : List Tb) : Tb := L.foldl (fun m t => if t.file < m.file then t else m) (L.headD default)
def minT (L : List Tb) (i : Nat) : Tb := (L.take i).foldl (fun m t => if t.file < m.file then t else m) (L.headD default)
theorem minT_next {L : List Tb} {i : Nat} {y : Tb} (hy : L[i]? = some y) : minT L (i + 1) = if y.file < (minT L i).file then y else minT L i := by
  unfold minT; rw [List.take_add_one, hy, List.foldl_append]; rfl
theorem minT_one {L : List Tb} {q : Tb} (h : L[0]? = some q) : minT L 1 = q := by
  cases L with
  | nil => cases h
  | cons x L => have e : x = q := by simpa using h
                subst e; simp [minT]
theorem minT_mem : ∀ (M : List Tb) (q : Tb), M.foldl (fun m t => if t.file < m.file then t else m) q = q ∨ M.foldl (fun m t => if t.file < m.file then t else m) q ∈ M
  | [], q => .inl rfl
  | t :: M, q => by
    rw [List.foldl_cons]
    split
    · rcases minT_mem M t with e | e
      · right; rw [e]; exact List.mem_cons_self ..
      · right; exact List.mem_cons_of_mem _ e
    · rcases minT_mem M q with e | e
      · exact .inl e
      · right; exact List.mem_cons_of_mem _ e
theorem minF_mem {L : List Tb} (h : L ≠ []) : minF L ∈ L := by
  cases L with
  | nil => exact absurd rfl h
  | cons x L =>
    unfold minF
    rcases minT_mem (x :: L) x with e | e
    · show (x :: L).foldl _ x ∈ _
      rw [e]; exact List.mem_cons_self ..
    · exact e
set_option maxHeartbeats 1000000 in
theorem file_order (a b : Tb) (w : World) : Calls Tryz.prog 131 #[.agg #[.int .i64 a.file, .int .i64 a.lev, .int .i64 a.cnt, .string (bs a.low), .string (bs a.high)], .agg #[.int .i64 b.file, .int .i64 b.lev, .int .i64 b.cnt, .string (bs b.low), .string (bs b.high)]] w fun e w' => e = .returned (.int .i64 (cmpI a.file b.file)) ∧ Below w.heap.size w w' := by
  have hI := fun x y W => Lib.hid (cmp_int x y W)
  have K0 := Lib.hid (show Below w.heap.size w ((w.alloc (.cells #[.int .i64 a.file, .int .i64 a.lev, .int .i64 a.cnt, .string (bs a.low), .string (bs a.high)] 42)).alloc (.cells #[.int .i64 b.file, .int .i64 b.lev, .int .i64 b.cnt, .string (bs b.low), .string (bs b.high)] 42)) from ((Below.refl _ _).alloc (Nat.le_refl _) _).alloc (by simp) _)
  go_enter Tryz.func131, Tryz.ntmps131
  go_wp2_with (go_at_call 135; with_reducible refine (hI _ _ _).out.mono ?_; rintro e w1 ⟨rfl, rfl⟩)
  go_ret
  exact ⟨rfl, K0.out⟩
set_option maxHeartbeats 8000000 in
theorem min_func {T : Nat → Prop} {w : World} {a : Option Addr} {n cap : Nat} {L : List Tb} (h : Hid (RdL T w (.slice a n cap) n (flat tcell L))) (hL : Hid (n = L.length)) (hn : n ≤ 1000000000) (hpos : 0 < n) :
    Calls Tryz.prog 130 #[.slice a n cap, .func (.func 131) #[] #[]] w fun e w' => e = .returned (.agg #[.int .i64 (minF L).file, .int .i64 (minF L).lev, .int .i64 (minF L).cnt, .string (bs (minF L).low), .string (bs (minF L).high)]) ∧ Below w.heap.size w w' := by
  have eg : ∀ args w, (callFunc 131 args).run Tryz.prog w = .ok (.enter 131 args) w := enters_of Tryz.func131 (by kernel_rfl) rfl
  obtain ⟨q, hq⟩ : ∃ q, L[0]? = some q := ⟨_, List.getElem?_eq_getElem (by have := hL.out; omega)⟩
  obtain ⟨b, off, rfl, ht, hb2, hc⟩ := RdL.atT h.out hq hpos
  obtain ⟨B, hB⟩ : ∃ B, B = w.heap.size := ⟨_, rfl⟩
  rw [← hB]
  have HBB := Lib.hid (show b < B by rw [hB]; exact hb2)
  have HB := Lib.hid hB
  have M1 := Lib.hid (minT_one hq)
  have hposI : (0 : Int) < (n : Int) := by omega
  have hge1 : (1 : Int) ≤ (n : Int) := by omega
  obtain ⟨w1, hw1⟩ : ∃ w1, w.alloc (.cells #[.int .i64 0, .int .i64 0, .int .i64 0, .string { data := #[] }, .string { data := #[] }] 42) = w1 := ⟨_, rfl⟩
  have K1 := Lib.hid (show Below B w w1 by rw [← hw1, hB]; exact (Below.refl _ _).alloc (Nat.le_refl _) _)
  have R1 := Lib.hid (show B5 B ⟨0, 0, 0, [], []⟩ w1 by rw [← hw1, hB]; exact heap_new w _)
  have hcr : ∀ i' u, (tcell q)[i']? = some u → w1.cell? ⟨b, off + i', none⟩ = some u := fun i' u hu => by
    have := hc i' u hu
    rw [show off + 0 * 5 + i' = off + i' by omega] at this
    rw [← this]
    simp only [World.cell?, K1.out.block b HBB.out]
  have y0 : w1.cell? ⟨b, off, none⟩ = _ := hcr 0 _ rfl
  have y1 := hcr 1 _ rfl
  have y2 := hcr 2 _ rfl
  have y3 := hcr 3 _ rfl
  have y4 := hcr 4 _ rfl
  have HW1 := Lib.hid hw1
  obtain ⟨w2, hw2⟩ : ∃ w2, w1.alloc (.cells #[.int .i64 q.file, .int .i64 q.lev, .int .i64 q.cnt, .string (bs q.low), .string (bs q.high)] 42) = w2 := ⟨_, rfl⟩
  obtain ⟨mb, hmb⟩ : ∃ mb, mb = w1.heap.size := ⟨_, rfl⟩
  have M2 := Lib.hid (show B5 mb (minT L 1) w2 by rw [M1.out, ← hw2, hmb]; exact heap_new w1 _)
  have k2 : Below w1.heap.size w1 w2 := by rw [← hw2]; exact (Below.refl _ _).alloc (Nat.le_refl _) _
  have R2 := Lib.hid (R1.out.below k2)
  have HBM := Lib.hid (show B < mb by rw [hmb]; exact heap_lt R1.out)
  have K2 := Lib.hid (K1.out.trans (k2.mono (Nat.le_of_lt (heap_lt R1.out))))
  have HW2 := Lib.hid hw2
  have HMB := Lib.hid hmb
  clear hw1 hw2 hmb hB hc hcr ht hb2 hq k2
  go_enter Tryz.func130, Tryz.ntmps130
  go_upto_region 1 with (fail)
  rw [HW1.out, ← HB.out]
  go_upto_region 4 with (fail)
  rw [HW2.out, ← HMB.out]
  clear y0 y1 y2 y3 y4
  go_wp2_with fail
  go_loopw [6] (fun iv wr => ∃ i : Nat, 1 ≤ i ∧ i ≤ n ∧ iv = .int .i64 (i : Int) ∧ Hid (B5 mb (minT L i) wr) ∧ Hid (B5 B ⟨0, 0, 0, [], []⟩ wr) ∧ Hid (Below B w wr)) (fun iv wr => n - (intOf iv).toNat)
  case atStart => exact ⟨1, Nat.le_refl _, by omega, rfl, M2, R2, K2⟩
  case round =>
    obtain ⟨i, hi1, hi, rfl, hM, hR, hK⟩ := hrel
    obtain ⟨m, hm⟩ : ∃ m, m = minT L i := ⟨_, rfl⟩
    rw [← hm] at hM
    have HMM := Lib.hid hm
    clear hm
    by_cases hlt : i < n
    · have hlt' : (i : Int) < (n : Int) := by omega
      obtain ⟨y, hy⟩ : ∃ y, L[i]? = some y := ⟨_, List.getElem?_eq_getElem (by have := hL.out; omega)⟩
      obtain ⟨b', off', he, ht, hb2, hc⟩ := RdL.atT h.out hy hlt
      obtain ⟨rfl, rfl⟩ : b = b' ∧ off = off' := by injection he with he; injection he with h1 h2; exact ⟨h1, h2⟩
      have hcr : ∀ W, Below B w W → ∀ i' u, (tcell y)[i']? = some u → W.cell? ⟨b, off + i * 5 + i', none⟩ = some u := fun W k i' u hu => by
        rw [← hc i' u hu]
        simp only [World.cell?, k.block b HBB.out]
      have HCR := Lib.hid hcr
      have HNX := Lib.hid (minT_next hy)
      have HBr := Lib.hid (show B ≤ wr.heap.size from Nat.le_of_lt (heap_lt hR.out))
      have y0 : ∀ x : Seen wr, x.val.cell? ⟨b, off + i * 5, none⟩ = some (.int .i64 y.file) := fun x => HCR.out x.val (hK.out.trans (x.below.mono HBr.out)) 0 _ rfl
      have y1 : ∀ x : Seen wr, x.val.cell? ⟨b, off + i * 5 + 1, none⟩ = some (.int .i64 y.lev) := fun x => HCR.out x.val (hK.out.trans (x.below.mono HBr.out)) 1 _ rfl
      have y2 : ∀ x : Seen wr, x.val.cell? ⟨b, off + i * 5 + 2, none⟩ = some (.int .i64 y.cnt) := fun x => HCR.out x.val (hK.out.trans (x.below.mono HBr.out)) 2 _ rfl
      have y3 : ∀ x : Seen wr, x.val.cell? ⟨b, off + i * 5 + 3, none⟩ = some (.string (bs y.low)) := fun x => HCR.out x.val (hK.out.trans (x.below.mono HBr.out)) 3 _ rfl
      have y4 : ∀ x : Seen wr, x.val.cell? ⟨b, off + i * 5 + 4, none⟩ = some (.string (bs y.high)) := fun x => HCR.out x.val (hK.out.trans (x.below.mono HBr.out)) 4 _ rfl
      have m0 : ∀ x : Seen wr, x.val.cell? ⟨mb, 0, none⟩ = some (.int .i64 m.file) := fun x => (hM.out.below x.below).c0.1
      have m1 : ∀ x : Seen wr, x.val.cell? ⟨mb, 1, none⟩ = some (.int .i64 m.lev) := fun x => (hM.out.below x.below).c0.2.1
      have m2 : ∀ x : Seen wr, x.val.cell? ⟨mb, 2, none⟩ = some (.int .i64 m.cnt) := fun x => (hM.out.below x.below).c0.2.2.1
      have m3 : ∀ x : Seen wr, x.val.cell? ⟨mb, 3, none⟩ = some (.string (bs m.low)) := fun x => (hM.out.below x.below).c0.2.2.2.1
      have m4 : ∀ x : Seen wr, x.val.cell? ⟨mb, 4, none⟩ = some (.string (bs m.high)) := fun x => (hM.out.below x.below).c0.2.2.2.2
      have HFO := fun x : Seen wr => Lib.hid (show Calls Tryz.prog 131 #[.agg #[.int .i64 y.file, .int .i64 y.lev, .int .i64 y.cnt, .string (bs y.low), .string (bs y.high)], .agg #[.int .i64 m.file, .int .i64 m.lev, .int .i64 m.cnt, .string (bs m.low), .string (bs m.high)]] x.val fun e w' => e = .returned (.int .i64 (cmpI y.file m.file)) ∧ ∃ z : Seen wr, w' = z.val from
        (file_order y m x.val).mono fun e w' ⟨h1, h2⟩ => ⟨h1, ⟨w', x.below.trans (h2.mono x.below.size)⟩, rfl⟩)
      obtain ⟨cv, hcv⟩ : ∃ cv, cv = cmpI y.file m.file := ⟨_, rfl⟩
      rw [← hcv] at HFO
      have HCV := Lib.hid hcv
      clear hy hc hcr he hcv
      go_wp2_with fail
      refine region_seen (by kernel_rfl) (by kernel_rfl) ?_
      repeat go_big_quiet_step (first | (go_at_call 131; with_reducible exact (HFO _).out))
      refine wpQuiet_nil ?_
      rintro _ ⟨x5, rfl⟩
      have K5 := Lib.hid (hK.out.trans (x5.below.mono HBr.out))
      have M5 := Lib.hid (hM.out.below x5.below)
      have R5 := Lib.hid (hR.out.below x5.below)
      generalize x5.val = w5 at *
      clear y0 y1 y2 y3 y4 m0 m1 m2 m3 m4 HFO
      by_cases hc0 : cv < 0
      · have hcd : decide (cv < 0) = true := decide_eq_true hc0
        have HE := Lib.hid (show minT L (i + 1) = y by
          rw [HNX.out, ← HMM.out, if_pos]
          have := cmpI_neg y.file m.file
          rw [← HCV.out, hcd] at this
          simpa using this.symm)
        have z0 : w5.cell? ⟨b, off + i * 5, none⟩ = some (.int .i64 y.file) := HCR.out w5 K5.out 0 _ rfl
        have z1 := HCR.out w5 K5.out 1 _ rfl
        have z2 := HCR.out w5 K5.out 2 _ rfl
        have z3 := HCR.out w5 K5.out 3 _ rfl
        have z4 := HCR.out w5 K5.out 4 _ rfl
        have gf := M5.out.free
        obtain ⟨m0, m1, m2, m3, m4⟩ := M5.out.c0
        clear hcd
        go_wp2_with fail
        have M6 := Lib.hid (M5.out.put y)
        have R6 := Lib.hid (show B5 B ⟨0, 0, 0, [], []⟩ (((((w5.setCell ⟨mb, 0, none⟩ (.int .i64 y.file)).setCell ⟨mb, 1, none⟩ (.int .i64 y.lev)).setCell ⟨mb, 2, none⟩ (.int .i64 y.cnt)).setCell ⟨mb, 3, none⟩ (.string (bs y.low))).setCell ⟨mb, 4, none⟩ (.string (bs y.high))) from (heap_set5 (by have := HBM.out; omega) _ _ _ _ _).trans R5.out)
        have K6 := Lib.hid (below_set5 K5.out (Nat.le_of_lt HBM.out) (.int .i64 y.file) (.int .i64 y.lev) (.int .i64 y.cnt) (.string (bs y.low)) (.string (bs y.high)))
        rw [← HE.out] at M6
        have M7 := Lib.hid (show B5 mb (minT L (i + 1)) (((((w5.setCell ⟨mb, 0, none⟩ (.int .i64 y.file)).setCell ⟨mb, 1, none⟩ (.int .i64 y.lev)).setCell ⟨mb, 2, none⟩ (.int .i64 y.cnt)).setCell ⟨mb, 3, none⟩ (.string (bs y.low))).setCell ⟨mb, 4, none⟩ (.string (bs y.high))) by rw [HE.out]; exact M5.out.put y)
        clear z0 z1 z2 z3 z4 m0 m1 m2 m3 m4 gf M6
        go_roundw
        case rel => exact ⟨i + 1, by omega, by omega, by go_num, M7, R6, K6⟩
        case measure => simp [intOf]; omega
      · have hcd : decide (cv < 0) = false := decide_eq_false hc0
        have HE := Lib.hid (show minT L (i + 1) = m by
          rw [HNX.out, ← HMM.out, if_neg]
          have := cmpI_neg y.file m.file
          rw [← HCV.out, hcd] at this
          simpa using this.symm)
        have hc1 : 0 ≤ cv := by omega
        clear hc0 hcd
        go_wp2_with fail
        go_roundw
        case rel => exact ⟨i + 1, by omega, by omega, by go_num, Lib.hid (by rw [HE.out]; exact M5.out), R5, K5⟩
        case measure => simp [intOf]; omega
    · have hge : (n : Int) ≤ (i : Int) := by omega
      have HE := Lib.hid (show m = minF L by
        rw [HMM.out]
        unfold minT minF
        rw [List.take_of_length_le (by have := hL.out; omega)])
      obtain ⟨m0, m1, m2, m3, m4⟩ := hM.out.c0
      have gf := hR.out.free
      obtain ⟨r0, r1, r2, r3, r4⟩ := hR.out.c0
      go_wp2
      have KE := Lib.hid (below_set5 hK.out (Nat.le_refl B) (.int .i64 m.file) (.int .i64 m.lev) (.int .i64 m.cnt) (.string (bs m.low)) (.string (bs m.high)))
      rw [← HE.out]
      refine bodyPost_ret (results_cell1 rfl _ Tryz.prog _ B 0 _ _ rfl (hR.out.put m).range Tryz.underlying42 rfl sizeTb) rfl ?_
      exact ⟨rfl, KE.out⟩
end Go.Proofs.YtfbaenhajlckjaaGreat
