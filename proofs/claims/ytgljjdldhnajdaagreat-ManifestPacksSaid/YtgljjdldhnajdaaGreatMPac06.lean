/- Texts put together: ManPut, ManRdX, ManPack, ManUnPlain, DiskPlain -/
import Derived.Test.YtgljjdldhnajdaaGreatMPac05
import Derived.Test.YtgljjdldhnajdaaGreatMPac01
import Derived.Test.YtgljjdldhnajdaaGreatMPac03
/- An edit's bytes, written. -/
set_option linter.unusedVariables false
set_option maxRecDepth 100000
namespace Go.Proofs.YtgljjdldhnajdaaGreat
open Go.RowKit

def wholes (L : List Int) : List UInt8 := L.flatMap whole
def textsB (L : List (List UInt8)) : List UInt8 := L.flatMap text
theorem wholes_snoc (L : List Int) (v : Int) : wholes (L ++ [v]) = wholes L ++ whole v := by simp [wholes]
theorem textsB_snoc (L : List (List UInt8)) (v : List UInt8) : textsB (L ++ [v]) = textsB L ++ text v := by simp [textsB]
/-- The numbers and the texts behind an edit's kind. -/
def numsOf (x : Ed) : List Int := if x.kind = 1 then [x.file, x.lev, x.cnt] else if x.kind = 3 then [x.file, x.lev] else [x.file]
def offsOf (x : Ed) : List Nat := if x.kind = 1 then [1, 2, 3] else if x.kind = 3 then [1, 2] else [1]
def textsOf (x : Ed) : List (List UInt8) := if x.kind = 1 then [x.low, x.high] else []
def toffsOf (x : Ed) : List Nat := if x.kind = 1 then [4, 5] else []
def edB (x : Ed) : List UInt8 := whole x.kind ++ wholes (numsOf x) ++ textsB (textsOf x)
/-- An edit whose numbers are int's. -/
def Ed.Fits (x : Ed) : Prop := (-9223372036854775808 ≤ x.kind ∧ x.kind ≤ 9223372036854775807) ∧ (-9223372036854775808 ≤ x.file ∧ x.file ≤ 9223372036854775807) ∧ (-9223372036854775808 ≤ x.lev ∧ x.lev ≤ 9223372036854775807) ∧ (-9223372036854775808 ≤ x.cnt ∧ x.cnt ≤ 9223372036854775807)
def EdAt (eb : Nat) (x : Ed) (w : World) : Prop := w.heap[eb]? = some (.cells #[.int .i64 x.kind, .int .i64 x.file, .int .i64 x.lev, .int .i64 x.cnt, .string (bs x.low), .string (bs x.high)] 31 (0, 0))
theorem offs_at {x : Ed} {eb : Nat} {w : World} (h : EdAt eb x w) : (numsOf x).length = (offsOf x).length ∧ ∀ (i o : Nat), (offsOf x)[i]? = some o → ∃ v, (numsOf x)[i]? = some v ∧ w.cell? ⟨eb, o, none⟩ = some (.int .i64 v) := by
  unfold EdAt at h
  unfold numsOf offsOf
  by_cases h1 : x.kind = 1
  · rw [if_pos h1, if_pos h1]
    refine ⟨rfl, fun i o ho => ?_⟩
    match i, ho with
    | 0, ho => cases ho; exact ⟨_, rfl, by simp [World.cell?, h]⟩
    | 1, ho => cases ho; exact ⟨_, rfl, by simp [World.cell?, h]⟩
    | 2, ho => cases ho; exact ⟨_, rfl, by simp [World.cell?, h]⟩
    | n + 3, ho => cases ho
  · rw [if_neg h1, if_neg h1]
    by_cases h3 : x.kind = 3
    · rw [if_pos h3, if_pos h3]
      refine ⟨rfl, fun i o ho => ?_⟩
      match i, ho with
      | 0, ho => cases ho; exact ⟨_, rfl, by simp [World.cell?, h]⟩
      | 1, ho => cases ho; exact ⟨_, rfl, by simp [World.cell?, h]⟩
      | n + 2, ho => cases ho
    · rw [if_neg h3, if_neg h3]
      refine ⟨rfl, fun i o ho => ?_⟩
      match i, ho with
      | 0, ho => cases ho; exact ⟨_, rfl, by simp [World.cell?, h]⟩
      | n + 1, ho => cases ho
theorem toffs_at {x : Ed} {eb : Nat} {w : World} (h : EdAt eb x w) : (textsOf x).length = (toffsOf x).length ∧ ∀ (i o : Nat), (toffsOf x)[i]? = some o → ∃ v, (textsOf x)[i]? = some v ∧ w.cell? ⟨eb, o, none⟩ = some (.string (bs v)) := by
  unfold EdAt at h
  unfold textsOf toffsOf
  by_cases h1 : x.kind = 1
  · rw [if_pos h1, if_pos h1]
    refine ⟨rfl, fun i o ho => ?_⟩
    match i, ho with
    | 0, ho => cases ho; exact ⟨_, rfl, by simp [World.cell?, h]⟩
    | 1, ho => cases ho; exact ⟨_, rfl, by simp [World.cell?, h]⟩
    | n + 2, ho => cases ho
  · rw [if_neg h1, if_neg h1]
    exact ⟨rfl, fun i o ho => by cases ho⟩
theorem numsOf_fit {x : Ed} (h : x.Fits) : ∀ v ∈ numsOf x, -9223372036854775808 ≤ v ∧ v ≤ 9223372036854775807 := by
  obtain ⟨h1, h2, h3, h4⟩ := h
  unfold numsOf
  intro v hv
  split at hv
  · simp at hv; rcases hv with rfl | rfl | rfl <;> assumption
  · split at hv
    · simp at hv; rcases hv with rfl | rfl <;> assumption
    · simp at hv; subst hv; assumption
theorem offs_len (x : Ed) : (offsOf x).length ≤ 3 ∧ (toffsOf x).length ≤ 2 := by
  unfold offsOf toffsOf
  constructor
  · split
    · simp
    · split <;> simp
  · split <;> simp
theorem numbers_all (eb : Nat) (x : Ed) (w : World) (h : EdAt eb x w) : Calls Tryz.prog 73 #[.pointer (some ⟨eb, 0, none⟩)] w (PtrPost eb (offsOf x) 141 w) := by
  unfold offsOf
  by_cases h1 : x.kind = 1
  · rw [if_pos h1]; exact numbers_1 eb x w h h1
  · rw [if_neg h1]
    by_cases h3 : x.kind = 3
    · rw [if_pos h3]; exact numbers_3 eb x w h h3
    · rw [if_neg h3]; exact numbers_0 eb x w h h1 h3
/-- A row of pointers, or nil. -/
def PtrNil (eb : Nat) (offs : List Nat) (ty : TypeId) (w : World) (e : Ending) (w' : World) : Prop :=
  ∃ a, e = .returned (.slice a offs.length offs.length) ∧ (offs.length = 0 ∨ ∃ nb, a = some ⟨nb, 0, none⟩ ∧ w.heap.size ≤ nb ∧ w'.heap[nb]? = some (.cells (offs.map fun o => Value.pointer (some ⟨eb, o, none⟩)).toArray ty (0, 0))) ∧ Below w.heap.size w w'
theorem texts_all (eb : Nat) (x : Ed) (w : World) (h : EdAt eb x w) : Calls Tryz.prog 74 #[.pointer (some ⟨eb, 0, none⟩)] w (PtrNil eb (toffsOf x) 144 w) := by
  unfold toffsOf
  by_cases h1 : x.kind = 1
  · rw [if_pos h1]
    refine (texts_1 eb x w h h1).mono ?_
    rintro e w' ⟨nb, rfl, h2, h3, h4⟩
    exact ⟨_, rfl, .inr ⟨nb, rfl, h2, h3⟩, h4⟩
  · rw [if_neg h1]
    refine (texts_0 eb x w h h1).mono ?_
    rintro e w' ⟨rfl, rfl⟩
    exact ⟨none, rfl, .inl rfl, Below.refl _ _⟩
theorem wb_below {B b : Nat} {w w1 w2 : World} (h : Wb B b w w1) (k : Below w1.heap.size w1 w2) (hB : B ≤ w1.heap.size) : Wb B b w w2 :=
  h.grown (row := none) ⟨k.os, k.tape, k.output, k.size, fun j hj _ => k.block j hj⟩ hB (fun _ e => by cases e) (fun _ e => by cases e)

set_option maxHeartbeats 4000000 in
theorem put_edit (B b : Nat) (l : List UInt8) (x : Ed) (w : World) (h : Wt B b l w) (hx : Hid x.Fits) (hlo : x.low.length ≤ 1000000000) (hhi : x.high.length ≤ 1000000000) (hl : l.length ≤ 100000000000000) (hBw : B ≤ w.heap.size) (hbw : b < w.heap.size) :
    Calls Tryz.prog 35 #[.pointer (some ⟨b, 0, none⟩), .agg #[.int .i64 x.kind, .int .i64 x.file, .int .i64 x.lev, .int .i64 x.cnt, .string (bs x.low), .string (bs x.high)]] w fun e w' => e = .returned (.tuple #[]) ∧ Wt B b (l ++ edB x) w' ∧ Wb B b w w' := by
  obtain ⟨w1, hw1⟩ : ∃ w1, w.alloc (.cells #[.int .i64 x.kind, .int .i64 x.file, .int .i64 x.lev, .int .i64 x.cnt, .string (bs x.low), .string (bs x.high)] 31) = w1 := ⟨_, rfl⟩
  obtain ⟨eb, heb⟩ : ∃ eb, eb = w.heap.size := ⟨_, rfl⟩
  have E1 := Lib.hid (show EdAt eb x w1 by rw [← hw1, heb]; exact heap_new w _)
  have W1 := Lib.hid (show Wt B b l w1 by rw [← hw1]; exact h.alloc _)
  have K1 := Lib.hid (show Wb B b w w1 by rw [← hw1]; exact (Wb.refl B b w).alloc hBw _)
  have HW1 := Lib.hid hw1
  have HEB := Lib.hid heb
  have hne : eb ≠ b := by omega
  have HNE := Lib.hid hne
  have c0 : w1.cell? ⟨eb, 0, none⟩ = some (.int .i64 x.kind) := by have := E1.out; unfold EdAt at this; simp [World.cell?, this]
  obtain ⟨n, hn⟩ : ∃ n, n = (offsOf x).length := ⟨_, rfl⟩
  obtain ⟨m, hm⟩ : ∃ m, m = (toffsOf x).length := ⟨_, rfl⟩
  have HN := Lib.hid (And.intro hn hm)
  have hn3 : n ≤ 3 := by have := (offs_len x).1; omega
  have hm3 : m ≤ 2 := by have := (offs_len x).2; omega
  have HH := Lib.hid h
  clear hw1 heb hn hm hne h
  go_enter Tryz.func35, Tryz.ntmps35
  go_upto_region 1 with (fail)
  rw [HW1.out, ← HEB.out]
  go_wp2_with fail
  refine (six_WholeO B b l x.kind w1 W1.out hx.out.1.1 hx.out.1.2 (by omega)).mono ?_
  rintro e w2 ⟨rfl, h2, k2⟩
  have W2 := Lib.hid h2
  have K2 := Lib.hid (K1.out.trans k2)
  have E2 := Lib.hid (show EdAt eb x w2 from k2.keeps E1.out HNE.out (by decide))
  have hBw2 := Lib.hid (show B ≤ w2.heap.size from Nat.le_trans hBw K2.out.size)
  clear h2 k2 c0
  go_wp2_with fail
  refine (numbers_all eb x w2 E2.out).mono ?_
  rintro e w3 ⟨nb, rfl, hnb, hrow, k3⟩
  rw [← HN.out.1]
  have W3 := Lib.hid (show Wt B b (l ++ whole x.kind) w3 from W2.out.keep k3)
  have K3 := Lib.hid (wb_below K2.out k3 hBw2.out)
  have E3 := Lib.hid (show EdAt eb x w3 from (k3.block eb (heap_lt E2.out)).trans E2.out)
  have R3 := Lib.hid hrow
  have HNB := Lib.hid (show nb ≠ b ∧ nb ≠ eb from ⟨by have := W2.out.lt; omega, by have := heap_lt E2.out; omega⟩)
  have hwk := Lib.hid (show (whole x.kind).length ≤ 11 from (whole_len hx.out.1.1 hx.out.1.2).1)
  clear hnb hrow k3
  go_wp2_with fail
  go_loopw [14] (fun iv wr => ∃ i : Nat, i ≤ n ∧ iv = .int .i64 (i : Int) ∧ Hid (Wt B b (l ++ whole x.kind ++ wholes ((numsOf x).take i)) wr) ∧ Hid ((wholes ((numsOf x).take i)).length ≤ 11 * i) ∧ Hid (Wb B b w wr) ∧ Hid (EdAt eb x wr) ∧ Hid (wr.heap[nb]? = some (.cells ((offsOf x).map fun o => Value.pointer (some ⟨eb, o, none⟩)).toArray 141 (0, 0)))) (fun iv wr => n - (intOf iv).toNat)
  case atStart => exact ⟨0, Nat.zero_le _, rfl, Lib.hid (by simpa [wholes] using W3.out), Lib.hid (by simp [wholes]), K3, E3, R3⟩
  case round =>
    obtain ⟨i, hi, rfl, hW, hLn, hK, hE, hR⟩ := hrel
    by_cases hlt : i < n
    · have hlt' : (i : Int) < (n : Int) := by omega
      obtain ⟨o, ho⟩ : ∃ o, (offsOf x)[i]? = some o := ⟨_, List.getElem?_eq_getElem (by have := HN.out.1; omega)⟩
      obtain ⟨v, hv, hc⟩ := (offs_at hE.out).2 i o ho
      have y0 : wr.cell? ⟨nb, i, none⟩ = some (.pointer (some ⟨eb, o, none⟩)) := by
        have := hR.out
        simp [World.cell?, this, ho]
      have HV := Lib.hid (show -9223372036854775808 ≤ v ∧ v ≤ 9223372036854775807 from numsOf_fit hx.out v (List.mem_of_getElem? hv))
      have HNX := Lib.hid (show wholes ((numsOf x).take (i + 1)) = wholes ((numsOf x).take i) ++ whole v by rw [List.take_add_one, hv]; exact wholes_snoc _ v)
      have hvl := Lib.hid (show (whole v).length ≤ 11 from (whole_len HV.out.1 HV.out.2).1)
      clear ho hv
      go_wp2_with fail
      refine (six_WholeO B b _ v wr hW.out HV.out.1 HV.out.2 (by rw [List.length_append, List.length_append]; have := hLn.out; have := hwk.out; omega)).mono ?_
      rintro e w5 ⟨rfl, h5, k5⟩
      have W5 := Lib.hid (show Wt B b (l ++ whole x.kind ++ wholes ((numsOf x).take (i + 1))) w5 by rw [HNX.out, ← List.append_assoc]; exact h5)
      have L5 := Lib.hid (show (wholes ((numsOf x).take (i + 1))).length ≤ 11 * (i + 1) by rw [HNX.out, List.length_append]; have := hLn.out; have := hvl.out; omega)
      have K5 := Lib.hid (hK.out.trans k5)
      have E5 := Lib.hid (show EdAt eb x w5 from k5.keeps hE.out HNE.out (by decide))
      have R5 := Lib.hid (k5.keeps hR.out HNB.out.1 (by decide))
      clear h5 k5 y0 hc
      go_wp2_with fail
      go_roundw
      case rel => exact ⟨i + 1, hlt, by go_num, W5, L5, K5, E5, R5⟩
      case measure => simp [intOf]; omega
    · obtain rfl : i = n := by omega
      have HALL := Lib.hid (show (numsOf x).take i = numsOf x from List.take_of_length_le (by have := (offs_at hE.out).1; have := HN.out.1; omega))
      rw [HALL.out] at hW hLn
      obtain ⟨PRE, hPRE⟩ : ∃ PRE, PRE = l ++ whole x.kind ++ wholes (numsOf x) := ⟨_, rfl⟩
      rw [← hPRE] at hW
      have HP := Lib.hid hPRE
      have hpl : PRE.length ≤ 100000000000100 := by
        rw [hPRE, List.length_append, List.length_append]
        have := hLn.out; have := hwk.out
        omega
      have hBr := Lib.hid (show B ≤ wr.heap.size from Nat.le_trans hBw hK.out.size)
      obtain ⟨wo, hwo⟩ : ∃ wo, wo = wr := ⟨_, rfl⟩
      subst hwo
      clear hPRE hR
      go_wp2_with fail
      refine (texts_all eb x wo hE.out).mono ?_
      rintro e w6 ⟨ta, rfl, hrow, k6⟩
      rw [← HN.out.2] at hrow ⊢
      have W6 := Lib.hid (hW.out.keep k6)
      have K6 := Lib.hid (wb_below hK.out k6 hBr.out)
      have E6 := Lib.hid (show EdAt eb x w6 from (k6.block eb (heap_lt hE.out)).trans hE.out)
      have R6 := Lib.hid (show m = 0 ∨ ∃ tb, ta = some ⟨tb, 0, none⟩ ∧ tb ≠ b ∧ w6.heap[tb]? = some (.cells ((toffsOf x).map fun o => Value.pointer (some ⟨eb, o, none⟩)).toArray 144 (0, 0)) from by
        rcases hrow with h0 | ⟨tb, h1, h2, h3⟩
        · exact .inl h0
        · exact .inr ⟨tb, h1, by have := hW.out.lt; omega, h3⟩)
      clear hrow k6 hW hK hE
      go_wp2_with fail
      go_loopw [26] (fun iv wq => ∃ j : Nat, j ≤ m ∧ iv = .int .i64 (j : Int) ∧ Hid (Wt B b (PRE ++ textsB ((textsOf x).take j)) wq) ∧ Hid ((textsB ((textsOf x).take j)).length ≤ 1000000011 * j) ∧ Hid (Wb B b w wq) ∧ Hid (EdAt eb x wq) ∧ Hid (m = 0 ∨ ∃ tb, ta = some ⟨tb, 0, none⟩ ∧ tb ≠ b ∧ wq.heap[tb]? = some (.cells ((toffsOf x).map fun o => Value.pointer (some ⟨eb, o, none⟩)).toArray 144 (0, 0)))) (fun iv wq => m - (intOf iv).toNat)
      case atStart => exact ⟨0, Nat.zero_le _, rfl, Lib.hid (by simpa [textsB] using W6.out), Lib.hid (by simp [textsB]), K6, E6, R6⟩
      case round =>
        obtain ⟨j, hj, rfl, hW, hLn, hK, hE, hR⟩ := hrel
        by_cases hlt : j < m
        · have hlt' : (j : Int) < (m : Int) := by omega
          obtain ⟨o, ho⟩ : ∃ o, (toffsOf x)[j]? = some o := ⟨_, List.getElem?_eq_getElem (by have := HN.out.2; omega)⟩
          obtain ⟨v, hv, hc⟩ := (toffs_at hE.out).2 j o ho
          obtain ⟨tb, rfl, htb, hrow⟩ := hR.out.resolve_left (by omega)
          have y0 : wr.cell? ⟨tb, j, none⟩ = some (.pointer (some ⟨eb, o, none⟩)) := by simp [World.cell?, hrow, ho]
          have HV := Lib.hid (show v.length ≤ 1000000000 by
            have hm := List.mem_of_getElem? hv
            unfold textsOf at hm
            split at hm
            · simp at hm; rcases hm with rfl | rfl <;> assumption
            · cases hm)
          have HNX := Lib.hid (show textsB ((textsOf x).take (j + 1)) = textsB ((textsOf x).take j) ++ text v by rw [List.take_add_one, hv]; exact textsB_snoc _ v)
          have hvl := Lib.hid (show (text v).length ≤ 1000000011 by
            have := (whole_len (n := (v.length : Int)) (by have := HV.out; omega) (by have := HV.out; omega)).1
            rw [text, List.length_append]
            have := HV.out
            omega)
          have HTB := Lib.hid htb
          have HRW := Lib.hid hrow
          clear ho hv hrow htb hR
          go_wp2_with fail
          refine (six_TextO B b _ (bs v) wr hW.out (by rw [bs_size, List.length_append]; have := hLn.out; have := HV.out; omega)).mono ?_
          rintro e w7 ⟨rfl, h7, k7⟩
          rw [bs_list] at h7
          have W7 := Lib.hid (show Wt B b (PRE ++ textsB ((textsOf x).take (j + 1))) w7 by rw [HNX.out, ← List.append_assoc]; exact h7)
          have L7 := Lib.hid (show (textsB ((textsOf x).take (j + 1))).length ≤ 1000000011 * (j + 1) by rw [HNX.out, List.length_append]; have := hLn.out; have := hvl.out; omega)
          have K7 := Lib.hid (hK.out.trans k7)
          have E7 := Lib.hid (show EdAt eb x w7 from k7.keeps hE.out HNE.out (by decide))
          have R7 := Lib.hid (k7.keeps HRW.out HTB.out (by decide))
          clear h7 k7 y0 hc
          go_wp2_with fail
          go_roundw
          case rel => exact ⟨j + 1, hlt, by go_num, W7, L7, K7, E7, Lib.hid (.inr ⟨tb, rfl, HTB.out, R7.out⟩)⟩
          case measure => simp [intOf]; omega
        · obtain rfl : j = m := by omega
          have HEND := Lib.hid (show Wt B b (l ++ edB x) wr by
            have h1 := hW.out
            rw [List.take_of_length_le (by have := (toffs_at hE.out).1; have := HN.out.2; omega), HP.out] at h1
            unfold edB
            simpa [List.append_assoc] using h1)
          go_wp2
          go_end0
          exact ⟨rfl, HEND.out, hK.out⟩
end Go.Proofs.YtgljjdldhnajdaaGreat
/- A slice that reads, or that has nothing to be read (wherever it is said to lie). -/
set_option linter.unusedVariables false
set_option maxRecDepth 100000
namespace Go.Proofs.YtgljjdldhnajdaaGreat
open Go.RowKit

/-- A slice that reads as n elements' cells; where n is 0 it may be said to lie anywhere. -/
def RdX (T : Nat → Prop) (w : World) (v : Value) (n : Nat) (xs : List Value) : Prop := (∃ a cap, v = .slice a n cap) ∧ (n = 0 ∨ RdL T w v n xs)
namespace RdX
variable {T T' : Nat → Prop} {w w' : World} {v : Value} {n : Nat} {xs : List Value}
theorem below (h : RdX T w v n xs) (k : Below w.heap.size w w') : RdX T w' v n xs := ⟨h.1, h.2.imp id fun h => h.below k⟩
theorem mono (h : RdX T w v n xs) (hT : ∀ b, b < w.heap.size → T b → T' b) : RdX T' w v n xs := ⟨h.1, h.2.imp id fun h => h.mono hT⟩
end RdX
theorem RdL.x {T : Nat → Prop} {w : World} {v : Value} {n : Nat} {xs : List Value} (h : RdL T w v n xs) : RdX T w v n xs := ⟨h.slice, .inr h⟩
theorem RdX.atE {T : Nat → Prop} {w : World} {a : Option Addr} {n cap : Nat} {L : List Ed} (h : RdX T w (.slice a n cap) n (flat ecell L)) {m : Nat} {x : Ed} (hx : L[m]? = some x) (hm : m < n) :
    ∃ b off, a = some ⟨b, off, none⟩ ∧ T b ∧ b < w.heap.size ∧ ∀ i u, (ecell x)[i]? = some u → w.cell? ⟨b, off + m * 6 + i, none⟩ = some u := by
  rcases h.2 with h0 | h
  · omega
  · exact h.atE hx hm
end Go.Proofs.YtgljjdldhnajdaaGreat
/- Edits' bytes. -/
set_option linter.unusedVariables false
set_option maxRecDepth 100000
namespace Go.Proofs.YtgljjdldhnajdaaGreat
open Go.RowKit

def edsB (L : List Ed) : List UInt8 := L.flatMap edB
def packL (L : List Ed) : List UInt8 := whole (L.length : Int) ++ edsB L
theorem edsB_snoc {L : List Ed} {i : Nat} {x : Ed} (h : L[i]? = some x) : edsB (L.take (i + 1)) = edsB (L.take i) ++ edB x := by
  rw [List.take_add_one, h]; simp [edsB]
theorem edsB_take (L : List Ed) (i : Nat) : (edsB (L.take i)).length ≤ (edsB L).length := by
  conv => rhs; rw [← List.take_append_drop i L]
  unfold edsB
  rw [List.flatMap_append, List.length_append]
  omega
/-- Edits of sizes that are packed. -/
def EdsFit (L : List Ed) : Prop := ∀ x ∈ L, x.Fits ∧ x.low.length ≤ 1000000000 ∧ x.high.length ≤ 1000000000
set_option maxHeartbeats 4000000 in
theorem put_edits (B b : Nat) {a : Option Addr} {n cap : Nat} {L : List Ed} {w : World} (h : Wt B b [] w) (he : Hid (RdX (fun c => c < B) w (.slice a n cap) n (flat ecell L))) (hL : Hid (n = L.length)) (hn : n ≤ 1000000000) (hf : Hid (EdsFit L)) (hsz : Hid ((packL L).length ≤ 100000000000000)) (hBw : Hid (B ≤ w.heap.size)) :
    Calls Tryz.prog 34 #[.pointer (some ⟨b, 0, none⟩), .slice a n cap, .func (.func 35) #[] #[]] w fun e w' => e = .returned (.int .i64 0) ∧ Wt B b (packL L) w' ∧ Below B w w' := by
  have hfn : ∀ w : World, (binOp .eql 79 (.func (.func 35) #[] #[]) .nilFunc).run Tryz.prog w = .ok (.bool false) w := fun _ => by kernel_rfl
  have HW := Lib.hid h
  clear h
  go_enter Tryz.func34, Tryz.ntmps34
  go_wp2_with fail
  refine (six_CountO B b [] n w HW.out (by omega) (by simp)).mono ?_
  rintro e w2 ⟨rfl, h2, k2⟩
  rw [List.nil_append] at h2
  have H2 := Lib.hid h2
  have K2 := Lib.hid k2.bel
  clear h2 k2
  go_wp2_with fail
  go_loopw [21] (fun iv wr => ∃ i : Nat, i ≤ n ∧ iv = .int .i64 (i : Int) ∧ Hid (Wt B b (whole (n : Int) ++ edsB (L.take i)) wr) ∧ Hid (Below B w wr)) (fun iv wr => n - (intOf iv).toNat)
  case atStart => exact ⟨0, Nat.zero_le _, rfl, Lib.hid (by simpa [edsB] using H2.out), K2⟩
  case round =>
    obtain ⟨i, hi, rfl, hW, hK⟩ := hrel
    by_cases hlt : i < n
    · have hlt' : (i : Int) < (n : Int) := by omega
      obtain ⟨x, hx⟩ : ∃ x, L[i]? = some x := ⟨_, List.getElem?_eq_getElem (by have := hL.out; omega)⟩
      obtain ⟨c, off, rfl, ht, hb2, hc⟩ := RdX.atE he.out hx hlt
      have hcr : ∀ i' u, (ecell x)[i']? = some u → wr.cell? ⟨c, off + i * 6 + i', none⟩ = some u := fun i' u hu => by
        rw [← hc i' u hu]
        simp only [World.cell?, hK.out.block c ht]
      have y0 : wr.cell? ⟨c, off + i * 6, none⟩ = _ := hcr 0 _ rfl
      have y1 := hcr 1 _ rfl
      have y2 := hcr 2 _ rfl
      have y3 := hcr 3 _ rfl
      have y4 := hcr 4 _ rfl
      have y5 := hcr 5 _ rfl
      obtain ⟨w1, hw1⟩ : ∃ w1, w1 = wr.alloc (.cells #[.int .i64 x.kind, .int .i64 x.file, .int .i64 x.lev, .int .i64 x.cnt, .string (bs x.low), .string (bs x.high)] 31) := ⟨_, rfl⟩
      have hBr : B ≤ wr.heap.size := Nat.le_trans hBw.out hK.out.size
      have W1 := Lib.hid (show Wt B b (whole (n : Int) ++ edsB (L.take i)) w1 by rw [hw1]; exact hW.out.alloc _)
      have K1 := Lib.hid (show Below B w w1 by rw [hw1]; exact hK.out.alloc hBr _)
      have hfx := hf.out x (List.mem_of_getElem? hx)
      have HLEN := Lib.hid (show (whole (n : Int) ++ edsB (L.take i)).length ≤ 100000000000000 by
        have := hsz.out
        have := edsB_take L i
        unfold packL at *
        rw [← hL.out] at *
        simp only [List.length_append] at *
        omega)
      have HNX := Lib.hid (edsB_snoc hx)
      have HP := Lib.hid (put_edit B b _ x w1 W1.out (Lib.hid hfx.1) hfx.2.1 hfx.2.2 HLEN.out (Nat.le_trans hBw.out K1.out.size) W1.out.lt)
      rw [hw1] at HP
      have HW1 := Lib.hid hw1
      clear hcr hc hx hfx hw1
      go_wp2_with fail
      refine HP.out.mono ?_
      rintro e w5 ⟨rfl, h5, k5⟩
      rw [← HW1.out] at k5
      have W5 := Lib.hid (show Wt B b (whole (n : Int) ++ edsB (L.take (i + 1))) w5 by rw [HNX.out, ← List.append_assoc]; exact h5)
      have K5 := Lib.hid (K1.out.trans k5.bel)
      clear h5 k5
      go_wp2_with fail
      go_roundw
      case rel => exact ⟨i + 1, hlt, by go_num, W5, K5⟩
      case measure => simp [intOf]; omega
    · obtain rfl : i = n := by omega
      have HEND := Lib.hid (show Wt B b (packL L) wr by
        have h1 := hW.out
        rw [List.take_of_length_le (by have := hL.out; omega), hL.out] at h1
        exact h1)
      go_wp2
      go_ret
      exact ⟨rfl, HEND.out, hK.out⟩
set_option maxHeartbeats 1000000 in
theorem man_Pack {a : Option Addr} {n cap : Nat} {L : List Ed} {w : World} (he : Hid (RdX (fun c => c < w.heap.size) w (.slice a n cap) n (flat ecell L))) (hL : Hid (n = L.length)) (hn : n ≤ 1000000000) (hf : Hid (EdsFit L)) (hsz : Hid ((packL L).length ≤ 100000000000000)) :
    Calls Tryz.prog 9 #[.slice a n cap] w fun e w' => e = .returned (.string (bs (packL L))) ∧ Below w.heap.size w w' := by
  obtain ⟨B, hB⟩ : ∃ B, B = w.heap.size := ⟨_, rfl⟩
  have HB := Lib.hid hB
  have HE := Lib.hid (show RdX (fun c => c < B) w (.slice a n cap) n (flat ecell L) by rw [hB]; exact he.out)
  rw [← hB]
  clear hB
  go_enter Tryz.func9, Tryz.ntmps9
  go_wp2_with fail
  refine (six_New w).mono ?_
  rintro e w1 ⟨rfl, h1⟩
  have W1 : Hid (Wt B B [] w1) := Lib.hid (by rw [← h1, HB.out]; exact wt_new w)
  have K1 : Hid (Below B w w1) := Lib.hid (by rw [← h1, HB.out]; exact (Below.refl _ _).alloc (Nat.le_refl _) _)
  rw [← HB.out]
  have HE1 := Lib.hid (HE.out.below (HB.out ▸ K1.out))
  have HP := Lib.hid (put_edits B B W1.out HE1 hL hn hf hsz (Lib.hid (by have := K1.out.size; have := HB.out; omega)))
  clear h1
  go_wp2_with fail
  refine HP.out.mono ?_
  rintro e w2 ⟨rfl, h2, k2⟩
  have W2 := Lib.hid h2
  have K2 := Lib.hid (K1.out.trans k2)
  clear h2 k2
  go_wp2_with fail
  refine (six_Bytes B B _ w2 W2.out).mono ?_
  rintro e w3 ⟨rfl, h3, k3, _⟩
  have K3 := Lib.hid (K2.out.trans k3)
  clear h3 k3
  go_wp2
  go_ret
  exact ⟨rfl, K3.out⟩
end Go.Proofs.YtgljjdldhnajdaaGreat
/- Edits read of bytes (plain). -/
set_option linter.unusedVariables false
set_option maxRecDepth 100000
namespace Go.Proofs.YtgljjdldhnajdaaGreat

/-- What was read, with something ahead of it. -/
def appR {α β : Type} (M : List α) : Int ⊕ (List α × β) → Int ⊕ (List α × β)
  | .inl e => .inl e
  | .inr (L, r) => .inr (M ++ L, r)
theorem appR_nil {α β : Type} (R : Int ⊕ (List α × β)) : appR [] R = R := by rcases R with e | ⟨L, r⟩ <;> rfl
theorem appR_app {α β : Type} (M N : List α) (R : Int ⊕ (List α × β)) : appR M (appR N R) = appR (M ++ N) R := by
  rcases R with e | ⟨L, r⟩
  · rfl
  · simp [appR]
/-- So many Wholes, so many Texts. -/
def rdNums : Nat → List UInt8 → Int ⊕ (List Int × List UInt8)
  | 0, l => .inr ([], l)
  | n + 1, l => if re l = 0 then appR [rn l] (rdNums n (l.drop (rk l))) else .inl (re l)
def rdTexts : Nat → List UInt8 → Int ⊕ (List (List UInt8) × List UInt8)
  | 0, l => .inr ([], l)
  | n + 1, l => if te l = 0 then appR [ts l] (rdTexts n (l.drop (tk l))) else .inl (te l)
def numsN (k : Int) : Nat := if k = 1 then 3 else if k = 3 then 2 else 1
def textsN (k : Int) : Nat := if k = 1 then 2 else 0
def mkEd (k : Int) (vs : List Int) (us : List (List UInt8)) : Ed := ⟨k, vs.getD 0 0, vs.getD 1 0, vs.getD 2 0, us.getD 0 [], us.getD 1 []⟩
/-- What is read behind the numbers. -/
def rdEdT (k : Int) (vs : List Int) : Int ⊕ (List (List UInt8) × List UInt8) → Int ⊕ (Ed × List UInt8)
  | .inl e => .inl e
  | .inr (us, r) => .inr (mkEd k vs us, r)
def rdEdN (k : Int) : Int ⊕ (List Int × List UInt8) → Int ⊕ (Ed × List UInt8)
  | .inl e => .inl e
  | .inr (vs, r) => rdEdT k vs (rdTexts (textsN k) r)
/-- An edit. -/
def rdEd (l : List UInt8) : Int ⊕ (Ed × List UInt8) := if re l = 0 then rdEdN (rn l) (rdNums (numsN (rn l)) (l.drop (rk l))) else .inl (re l)
/-- So many edits. -/
def rdEds : Nat → List UInt8 → Int ⊕ (List Ed × List UInt8)
  | 0, l => .inr ([], l)
  | n + 1, l => match rdEd l with
    | .inl e => .inl e
    | .inr (x, r) => appR [x] (rdEds n r)
def unpT : Int ⊕ (List Ed × List UInt8) → Int × List Ed
  | .inl e => (e, [])
  | .inr (L, r) => if r = [] then (0, L) else (5, [])
/-- Edits that bytes are: the error, the edits. -/
def unp (l : List UInt8) : Int × List Ed := if ce l = 0 then unpT (rdEds (cn l).toNat (l.drop (ck l))) else (ce l, [])
/-- An edit without what its kind has no use for. -/
def clean (x : Ed) : Ed := mkEd x.kind (numsOf x) (textsOf x)

theorem rdNums_err : ∀ {n : Nat} {l : List UInt8} {e : Int}, rdNums n l = .inl e → e = 2 ∨ e = 3
  | 0, l, e, h => by cases h
  | n + 1, l, e, h => by
    unfold rdNums at h
    split at h
    · cases h2 : rdNums n (l.drop (rk l)) with
      | inl f => rw [h2] at h; cases h; exact rdNums_err h2
      | inr x => rw [h2] at h; cases h
    · rename_i hz
      cases h
      rcases rd_cases l with c | c
      · exact absurd c.1 hz
      · exact c.1
theorem rdTexts_err : ∀ {n : Nat} {l : List UInt8} {e : Int}, rdTexts n l = .inl e → e = 2 ∨ e = 3
  | 0, l, e, h => by cases h
  | n + 1, l, e, h => by
    unfold rdTexts at h
    split at h
    · cases h2 : rdTexts n (l.drop (tk l)) with
      | inl f => rw [h2] at h; cases h; exact rdTexts_err h2
      | inr x => rw [h2] at h; cases h
    · rename_i hz
      cases h
      rcases td_cases l with c | c
      · exact absurd c.1 hz
      · exact c.1
theorem rdEd_err {l : List UInt8} {e : Int} (h : rdEd l = .inl e) : e = 2 ∨ e = 3 := by
  unfold rdEd at h
  split at h
  · cases h1 : rdNums (numsN (rn l)) (l.drop (rk l)) with
    | inl f => rw [h1] at h; cases h; exact rdNums_err h1
    | inr x =>
      obtain ⟨vs, r⟩ := x
      rw [h1] at h
      cases h2 : rdTexts (textsN (rn l)) r with
      | inl f => simp only [rdEdN, h2] at h; cases h; exact rdTexts_err h2
      | inr y => simp only [rdEdN, h2] at h; cases h
  · rename_i hz
    cases h
    rcases rd_cases l with c | c
    · exact absurd c.1 hz
    · exact c.1
theorem rdEds_err : ∀ {n : Nat} {l : List UInt8} {e : Int}, rdEds n l = .inl e → e = 2 ∨ e = 3
  | 0, l, e, h => by cases h
  | n + 1, l, e, h => by
    unfold rdEds at h
    cases h1 : rdEd l with
    | inl f => rw [h1] at h; cases h; exact rdEd_err h1
    | inr x =>
      obtain ⟨x, r⟩ := x
      rw [h1] at h
      cases h2 : rdEds n r with
      | inl f => simp only [h2] at h; cases h; exact rdEds_err h2
      | inr y => simp only [h2] at h; cases h
/-! ### what was written is read -/
theorem rdNums_back : ∀ (vs : List Int) (t : List UInt8), (∀ v ∈ vs, -9223372036854775808 ≤ v ∧ v ≤ 9223372036854775807) → rdNums vs.length (wholes vs ++ t) = .inr (vs, t)
  | [], t, _ => rfl
  | v :: vs, t, h => by
    have hv := h v (List.mem_cons_self ..)
    have e : wholes (v :: vs) ++ t = whole v ++ (wholes vs ++ t) := by simp [wholes]
    obtain ⟨h1, h2, h3⟩ := rd_whole hv.1 hv.2 (wholes vs ++ t)
    rw [e, List.length_cons, rdNums, if_pos h3, h1, h2, List.drop_left, rdNums_back vs t fun u hu => h u (List.mem_cons_of_mem _ hu)]
    rfl
theorem rdTexts_back : ∀ (us : List (List UInt8)) (t : List UInt8), (∀ u ∈ us, u.length ≤ 9223372036854775807) → rdTexts us.length (textsB us ++ t) = .inr (us, t)
  | [], t, _ => rfl
  | u :: us, t, h => by
    have hu := h u (List.mem_cons_self ..)
    have e : textsB (u :: us) ++ t = text u ++ (textsB us ++ t) := by simp [textsB]
    obtain ⟨h1, h2, h3⟩ := td_text hu (textsB us ++ t)
    rw [e, List.length_cons, rdTexts, if_pos h1, h2, h3, List.drop_left, rdTexts_back us t fun v hv => h v (List.mem_cons_of_mem _ hv)]
    rfl
theorem numsOf_len (x : Ed) : (numsOf x).length = numsN x.kind ∧ (textsOf x).length = textsN x.kind := by
  unfold numsOf numsN textsOf textsN
  split
  · exact ⟨rfl, rfl⟩
  · split <;> exact ⟨rfl, rfl⟩
theorem rdEd_back {x : Ed} (h : x.Fits) (h1 : x.low.length ≤ 1000000000) (h2 : x.high.length ≤ 1000000000) (t : List UInt8) : rdEd (edB x ++ t) = .inr (clean x, t) := by
  have e : edB x ++ t = whole x.kind ++ (wholes (numsOf x) ++ (textsB (textsOf x) ++ t)) := by simp [edB]
  obtain ⟨a1, a2, a3⟩ := rd_whole h.1.1 h.1.2 (wholes (numsOf x) ++ (textsB (textsOf x) ++ t))
  rw [e, rdEd, if_pos a3, a1, a2, List.drop_left, ← (numsOf_len x).1, rdNums_back _ _ (numsOf_fit h)]
  show rdEdT x.kind (numsOf x) (rdTexts (textsN x.kind) (textsB (textsOf x) ++ t)) = _
  rw [← (numsOf_len x).2, rdTexts_back _ _ fun u hu => by
    unfold textsOf at hu
    split at hu
    · simp at hu; rcases hu with rfl | rfl <;> omega
    · cases hu]
  rfl
theorem rdEds_back : ∀ (L : List Ed) (t : List UInt8), EdsFit L → rdEds L.length (edsB L ++ t) = .inr (L.map clean, t)
  | [], t, _ => rfl
  | x :: L, t, h => by
    have hx := h x (List.mem_cons_self ..)
    have e : edsB (x :: L) ++ t = edB x ++ (edsB L ++ t) := by simp [edsB]
    rw [e, List.length_cons, rdEds, rdEd_back hx.1 hx.2.1 hx.2.2]
    show appR [clean x] (rdEds L.length (edsB L ++ t)) = _
    rw [rdEds_back L t fun y hy => h y (List.mem_cons_of_mem _ hy)]
    rfl
theorem unp_pack {L : List Ed} (h : EdsFit L) (hl : L.length ≤ 9223372036854775807) : unp (packL L) = (0, L.map clean) := by
  obtain ⟨a1, a2, a3⟩ := cd_whole hl (edsB L)
  unfold unp packL
  have := rdEds_back L [] h
  rw [List.append_nil] at this
  rw [if_pos a1, a2, a3, List.drop_left, Int.toNat_natCast, this]
  rfl
/-! ### what is read was written so -/
theorem rdNums_of : ∀ {n : Nat} {l : List UInt8} {vs : List Int} {r : List UInt8}, rdNums n l = .inr (vs, r) → l = wholes vs ++ r ∧ vs.length = n ∧ ∀ v ∈ vs, -9223372036854775808 ≤ v ∧ v ≤ 9223372036854775807
  | 0, l, vs, r, h => by cases h; exact ⟨rfl, rfl, fun v hv => by cases hv⟩
  | n + 1, l, vs, r, h => by
    unfold rdNums at h
    split at h
    · rename_i hz
      cases h2 : rdNums n (l.drop (rk l)) with
      | inl f => rw [h2] at h; cases h
      | inr x =>
        obtain ⟨vs', r'⟩ := x
        rw [h2] at h
        cases h
        obtain ⟨b1, b2, b3⟩ := rdNums_of h2
        refine ⟨?_, by simp [b2], fun v hv => ?_⟩
        · have := (rd_back hz).1
          rw [b1] at this
          refine this.symm.trans ?_
          simp [wholes]
        · rcases List.mem_append.1 hv with hv | hv
          · obtain rfl := List.mem_singleton.1 hv
            rcases rd_cases l with c | c
            · exact c.2.2.2
            · omega
          · exact b3 v hv
    · cases h
theorem rdTexts_of : ∀ {n : Nat} {l : List UInt8} {us : List (List UInt8)} {r : List UInt8}, rdTexts n l = .inr (us, r) → l = textsB us ++ r ∧ us.length = n
  | 0, l, vs, r, h => by cases h; exact ⟨rfl, rfl⟩
  | n + 1, l, vs, r, h => by
    unfold rdTexts at h
    split at h
    · rename_i hz
      cases h2 : rdTexts n (l.drop (tk l)) with
      | inl f => rw [h2] at h; cases h
      | inr x =>
        obtain ⟨vs', r'⟩ := x
        rw [h2] at h
        cases h
        obtain ⟨b1, b2⟩ := rdTexts_of h2
        refine ⟨?_, by simp [b2]⟩
        have := (td_back hz).1
        rw [b1] at this
        refine this.symm.trans ?_
        simp [textsB]
    · cases h
theorem mkEd_nums {k : Int} {vs : List Int} {us : List (List UInt8)} (h1 : vs.length = numsN k) (h2 : us.length = textsN k) : numsOf (mkEd k vs us) = vs ∧ textsOf (mkEd k vs us) = us ∧ clean (mkEd k vs us) = mkEd k vs us := by
  have e : numsOf (mkEd k vs us) = vs ∧ textsOf (mkEd k vs us) = us := by
    unfold numsOf textsOf
    unfold numsN at h1
    unfold textsN at h2
    by_cases k1 : k = 1
    · rw [if_pos k1] at h1 h2
      match vs, h1, us, h2 with
      | [a, b, c], _, [d, f], _ => simp [mkEd, k1]
    · rw [if_neg k1] at h1 h2
      have hu : us = [] := List.eq_nil_of_length_eq_zero h2
      subst hu
      by_cases k3 : k = 3
      · rw [if_pos k3] at h1
        match vs, h1 with
        | [a, b], _ => simp [mkEd, k3]
      · rw [if_neg k3] at h1
        match vs, h1 with
        | [a], _ => simp [mkEd, k1, k3]
  refine ⟨e.1, e.2, ?_⟩
  unfold clean
  rw [e.1, e.2]
  rfl
theorem rdEd_of {l r : List UInt8} {x : Ed} (h : rdEd l = .inr (x, r)) : l = edB x ++ r ∧ x.Fits ∧ clean x = x := by
  unfold rdEd at h
  split at h
  · rename_i hz
    cases h1 : rdNums (numsN (rn l)) (l.drop (rk l)) with
    | inl f => rw [h1] at h; cases h
    | inr y =>
      obtain ⟨vs, r1⟩ := y
      rw [h1] at h
      cases h2 : rdTexts (textsN (rn l)) r1 with
      | inl f => simp only [rdEdN, h2] at h; cases h
      | inr z =>
        obtain ⟨us, r2⟩ := z
        simp only [rdEdN, h2, rdEdT] at h
        cases h
        obtain ⟨b1, b2, b3⟩ := rdNums_of h1
        obtain ⟨c1, c2⟩ := rdTexts_of h2
        obtain ⟨m1, m2, m3⟩ := mkEd_nums b2 c2
        have hk : -9223372036854775808 ≤ rn l ∧ rn l ≤ 9223372036854775807 := by
          rcases rd_cases l with c | c
          · exact c.2.2.2
          · omega
        refine ⟨?_, ⟨hk, ?_, ?_, ?_⟩, m3⟩
        · have := (rd_back hz).1
          rw [b1, c1] at this
          unfold edB
          rw [m1, m2]
          refine this.symm.trans ?_
          show _ = whole (rn l) ++ wholes vs ++ textsB us ++ r
          simp
        all_goals
          have hb := b3
          clear h1 h2 b1 c1
          match vs, hb with
          | [], _ => simp [mkEd]
          | [a], hb => have := hb a (by simp); simp [mkEd]; try omega
          | [a, b], hb => have := hb a (by simp); have := hb b (by simp); simp [mkEd]; try omega
          | a :: b :: c :: q, hb => have := hb a (by simp); have := hb b (by simp); have := hb c (by simp); simp [mkEd]; try omega
  · cases h
theorem rdEds_of : ∀ {n : Nat} {l r : List UInt8} {L : List Ed}, rdEds n l = .inr (L, r) → l = edsB L ++ r ∧ L.length = n ∧ ∀ x ∈ L, x.Fits
  | 0, l, r, L, h => by cases h; exact ⟨rfl, rfl, fun x hx => by cases hx⟩
  | n + 1, l, r, L, h => by
    unfold rdEds at h
    cases h1 : rdEd l with
    | inl f => rw [h1] at h; cases h
    | inr y =>
      obtain ⟨x, r1⟩ := y
      rw [h1] at h
      cases h2 : rdEds n r1 with
      | inl f => simp only [h2] at h; cases h
      | inr z =>
        obtain ⟨L', r2⟩ := z
        simp only [h2, appR] at h
        cases h
        obtain ⟨b1, b2, b3⟩ := rdEds_of h2
        obtain ⟨c1, c2, c3⟩ := rdEd_of h1
        refine ⟨?_, by simp [b2], fun y hy => ?_⟩
        · rw [c1, b1]; simp [edsB]
        · rcases List.mem_append.1 hy with hy | hy
          · obtain rfl := List.mem_singleton.1 hy; exact c2
          · exact b3 y hy
theorem unp_of {l : List UInt8} {L : List Ed} (h : unp l = (0, L)) : packL L = l ∧ ∀ x ∈ L, x.Fits := by
  unfold unp at h
  split at h
  · rename_i hz
    cases h1 : rdEds (cn l).toNat (l.drop (ck l)) with
    | inl f =>
      rw [h1] at h
      have := rdEds_err h1
      simp only [unpT] at h
      injection h with h0 _
      omega
    | inr y =>
      obtain ⟨L', r⟩ := y
      rw [h1] at h
      simp only [unpT] at h
      split at h
      · rename_i hr
        injection h with _ h0
        subst h0 hr
        obtain ⟨b1, b2, b3⟩ := rdEds_of h1
        refine ⟨?_, b3⟩
        have hc : re l = 0 ∧ cn l = rn l ∧ ck l = rk l ∧ 0 ≤ cn l := by
          rcases cd_cases l with c | c
          · exact ⟨c.2.2.2.2.2.1, c.2.2.2.2.2.2.1, c.2.2.2.2.2.2.2, c.2.2.2.1⟩
          · omega
        unfold packL
        rw [b2, Int.toNat_of_nonneg hc.2.2.2, hc.2.1]
        rw [List.append_nil] at b1
        rw [← b1, hc.2.2.1]
        exact (rd_back hc.1).1
      · injection h with h0 _; omega
  · rename_i hz
    injection h with h0 _
    exact absurd h0 hz
end Go.Proofs.YtgljjdldhnajdaaGreat
/- The disk as the document tells it, in plain words: files, blocks, changes, a loss of power. -/
set_option linter.unusedVariables false
set_option maxRecDepth 100000
namespace Go.Proofs.YtgljjdldhnajdaaGreat

/-- A file: its number, tier, bytes; whether it is sure, and how many of its bytes are. -/
structure DF where
  n : Int
  t : Int
  data : List UInt8
  sure : Bool
  sb : Nat
/-- A disk: blocks in the tiers, files, root, changes done, changes till the power goes, whether it is gone. -/
structure DS where
  r0 : Nat
  r1 : Nat
  fs : List DF
  root : Int
  steps : Nat
  left : Int
  down : Bool

/-- Blocks of so many bytes. -/
def blk (n : Nat) : Nat := 1 + (n + 63) / 64
def usedL (t : Int) : List DF → Nat
  | [] => 0
  | f :: r => (if f.t = t then blk f.data.length else 0) + usedL t r
def findL (n : Int) : List DF → Option DF
  | [] => none
  | f :: r => if f.n = n then some f else findL n r
def updL (n : Int) (g : DF → DF) (l : List DF) : List DF := l.map fun f => if f.n = n then g f else f
def delL (n : Int) (l : List DF) : List DF := l.filter fun f => decide (f.n ≠ n)
def DS.room (s : DS) (t : Int) : Nat := if t = 0 then s.r0 else s.r1
def DS.used (s : DS) (t : Int) : Nat := usedL t s.fs

/-- What holds of every disk. -/
structure DS.Fit (s : DS) : Prop where
  r0 : s.r0 ≤ 1048576
  r1 : s.r1 ≤ 1048576
  u0 : usedL 0 s.fs ≤ s.r0
  u1 : usedL 1 s.fs ≤ s.r1
  nod : (s.fs.map (·.n)).Nodup
  file : ∀ f ∈ s.fs, (f.t = 0 ∨ f.t = 1) ∧ f.sb ≤ f.data.length ∧ (f.sure = false → f.sb = 0) ∧ 1 ≤ f.n ∧ f.n ≤ 9223372036854775807
  root : s.root = 0 ∨ ∃ f ∈ s.fs, f.n = s.root ∧ f.sure = true
  l0 : -1 ≤ s.left
  l1 : s.left ≤ 9223372036854775807

/-! ### lists of files -/
theorem usedL_append (t : Int) : ∀ (a b : List DF), usedL t (a ++ b) = usedL t a + usedL t b
  | [], b => by simp [usedL]
  | f :: r, b => by simp [usedL, usedL_append t r b]; omega
theorem usedL_perm (t : Int) {a b : List DF} (h : a.Perm b) : usedL t a = usedL t b := by
  induction h with
  | nil => rfl
  | cons x _ ih => simp [usedL, ih]
  | swap x y l => simp [usedL]; omega
  | trans _ _ h1 h2 => exact h1.trans h2
theorem blk_pos (n : Nat) : 1 ≤ blk n := by unfold blk; omega
theorem blk_zero : blk 0 = 1 := rfl
theorem blk_mono {a b : Nat} (h : a ≤ b) : blk a ≤ blk b := by unfold blk; omega
theorem blk_le (n : Nat) : n ≤ 64 * blk n := by unfold blk; omega
theorem length_le_used : ∀ (l : List DF), (∀ f ∈ l, f.t = 0 ∨ f.t = 1) → l.length ≤ usedL 0 l + usedL 1 l
  | [], _ => by simp
  | f :: r, h => by
    have ih := length_le_used r (fun x hx => h x (by simp [hx]))
    have hb := blk_pos f.data.length
    rcases h f (by simp) with e | e <;> simp [usedL, e] <;> omega
theorem findL_mem {n : Int} {f : DF} : ∀ {l : List DF}, findL n l = some f → f ∈ l ∧ f.n = n
  | [], h => by cases h
  | g :: r, h => by
    unfold findL at h
    split at h
    · cases h; exact ⟨by simp, by assumption⟩
    · obtain ⟨h1, h2⟩ := findL_mem h
      exact ⟨by simp [h1], h2⟩
theorem findL_none {n : Int} : ∀ {l : List DF}, findL n l = none → ∀ f ∈ l, f.n ≠ n
  | [], _, f, hf => by cases hf
  | g :: r, h, f, hf => by
    unfold findL at h
    split at h
    · cases h
    · rcases List.mem_cons.1 hf with rfl | hf
      · assumption
      · exact findL_none h f hf
theorem findL_of {n : Int} {f : DF} {l : List DF} (hn : (l.map (·.n)).Nodup) (hm : f ∈ l) (hf : f.n = n) : findL n l = some f := by
  cases h : findL n l with
  | none => exact absurd hf (findL_none h f hm)
  | some g =>
    obtain ⟨h1, h2⟩ := findL_mem h
    have : ∀ {l : List DF}, (l.map (·.n)).Nodup → f ∈ l → g ∈ l → f = g := by
      intro l
      induction l with
      | nil => intro _ h; cases h
      | cons a r ih =>
        intro hn ha hb
        simp only [List.map_cons, List.nodup_cons] at hn
        rcases List.mem_cons.1 ha with rfl | ha'
        · rcases List.mem_cons.1 hb with rfl | hb'
          · rfl
          · exact absurd (List.mem_map.2 ⟨g, hb', by rw [h2, hf]⟩) hn.1
        · rcases List.mem_cons.1 hb with rfl | hb'
          · exact absurd (List.mem_map.2 ⟨f, ha', by rw [h2, hf]⟩) hn.1
          · exact ih hn.2 ha' hb'
    rw [this hn hm h1]
theorem upd_map_n (n : Int) (g : DF → DF) (hg : ∀ f, (g f).n = f.n) (l : List DF) : (updL n g l).map (·.n) = l.map (·.n) := by
  unfold updL
  rw [List.map_map]
  apply List.map_congr_left
  intro f _
  simp only [Function.comp]
  split
  · exact hg f
  · rfl
theorem upd_none {n : Int} (g : DF → DF) {l : List DF} (h : ∀ f ∈ l, f.n ≠ n) : updL n g l = l := by
  unfold updL
  conv => rhs; rw [← List.map_id l]
  apply List.map_congr_left
  intro f hf
  rw [if_neg (h f hf)]
  rfl
theorem del_none {n : Int} {l : List DF} (h : ∀ f ∈ l, f.n ≠ n) : delL n l = l := List.filter_eq_self.2 fun f hf => by simpa using h f hf
/-- What a file that is changed does to the blocks taken. -/
theorem used_upd (t n : Int) (g : DF → DF) (hg : ∀ f, (g f).t = f.t) : ∀ {l : List DF} {f : DF}, (l.map (·.n)).Nodup → findL n l = some f →
    usedL t (updL n g l) + (if f.t = t then blk f.data.length else 0) = usedL t l + (if f.t = t then blk (g f).data.length else 0)
  | [], f, _, h => by cases h
  | a :: r, f, hn, h => by
    simp only [List.map_cons, List.nodup_cons] at hn
    unfold findL at h
    by_cases ha : a.n = n
    · rw [if_pos ha] at h
      cases h
      have hr : updL n g r = r := upd_none g fun x hx e => hn.1 (List.mem_map.2 ⟨x, hx, by rw [e, ha]⟩)
      have : updL n g (a :: r) = g a :: r := by
        show (if a.n = n then g a else a) :: updL n g r = _
        rw [if_pos ha, hr]
      rw [this]
      simp only [usedL, hg]
      omega
    · rw [if_neg ha] at h
      have ih := used_upd t n g hg hn.2 h
      have : updL n g (a :: r) = a :: updL n g r := by
        show (if a.n = n then g a else a) :: updL n g r = _
        rw [if_neg ha]
      rw [this]
      simp only [usedL]
      omega
theorem used_del (t n : Int) : ∀ {l : List DF} {f : DF}, (l.map (·.n)).Nodup → findL n l = some f → usedL t (delL n l) + (if f.t = t then blk f.data.length else 0) = usedL t l
  | [], f, _, h => by cases h
  | a :: r, f, hn, h => by
    simp only [List.map_cons, List.nodup_cons] at hn
    unfold findL at h
    by_cases ha : a.n = n
    · rw [if_pos ha] at h
      cases h
      have hr : delL n r = r := del_none fun x hx e => hn.1 (List.mem_map.2 ⟨x, hx, by rw [e, ha]⟩)
      have : delL n (a :: r) = r := by
        unfold delL at hr ⊢
        rw [List.filter_cons, if_neg (by simp [ha]), hr]
      rw [this]
      simp only [usedL]
      omega
    · rw [if_neg ha] at h
      have ih := used_del t n hn.2 h
      have : delL n (a :: r) = a :: delL n r := by
        unfold delL
        rw [List.filter_cons, if_pos (by simp [ha])]
      rw [this]
      simp only [usedL]
      omega
theorem upd_mem {n : Int} {g : DF → DF} {l : List DF} {x : DF} (h : x ∈ updL n g l) : (∃ f ∈ l, f.n = n ∧ x = g f) ∨ (x ∈ l ∧ x.n ≠ n) := by
  unfold updL at h
  obtain ⟨f, hf, rfl⟩ := List.mem_map.1 h
  by_cases e : f.n = n
  · rw [if_pos e]; exact .inl ⟨f, hf, e, rfl⟩
  · rw [if_neg e]; exact .inr ⟨hf, e⟩
theorem mem_upd {n : Int} {g : DF → DF} {l : List DF} {f : DF} (h : f ∈ l) : (if f.n = n then g f else f) ∈ updL n g l := List.mem_map.2 ⟨f, h, rfl⟩
theorem used_ge {t : Int} {l : List DF} {f : DF} (h : f ∈ l) (ht : f.t = t) : blk f.data.length ≤ usedL t l := by
  induction l with
  | nil => cases h
  | cons a r ih =>
    rcases List.mem_cons.1 h with rfl | h
    · simp [usedL, ht]
    · have := ih h; simp only [usedL]; omega

/-! ### what the calls do -/
/-- A change that isn't refused. -/
def DS.tick (s : DS) : DS := { s with left := if s.left < 0 then s.left else s.left - 1, steps := s.steps + 1 }
def DS.off (s : DS) : DS := { s with down := true }
/-- A file's answer to a call that asks for a file. -/
def DS.make (s : DS) (t n : Int) : DS × Int :=
  if s.down = true then (s, 8) else if ¬ (t = 0 ∨ t = 1) ∨ n < 1 then (s, 1) else if (findL n s.fs).isSome then (s, 10) else if s.room t ≤ s.used t then (s, 7)
  else if s.left = 0 then (s.off, 8) else ({ s.tick with fs := s.fs ++ [⟨n, t, [], false, 0⟩] }, 0)
def addF (b : List UInt8) (f : DF) : DF := { f with data := f.data ++ b }
def DS.add (s : DS) (n : Int) (b : List UInt8) : DS × Int :=
  if s.down = true then (s, 8) else match findL n s.fs with
  | none => (s, 9)
  | some f => if s.room f.t < s.used f.t + (blk (f.data.length + b.length) - blk f.data.length) then (s, 7)
    else if s.left = 0 then ({ s.off with fs := updL n (addF b) s.fs }, 8) else ({ s.tick with fs := updL n (addF b) s.fs }, 0)
def syncF (f : DF) : DF := { f with sure := true, sb := f.data.length }
def DS.sync (s : DS) (n : Int) : DS × Int :=
  if s.down = true then (s, 8) else match findL n s.fs with
  | none => (s, 9)
  | some _ => if s.left = 0 then (s.off, 8) else ({ s.tick with fs := updL n syncF s.fs }, 0)
def DS.drop (s : DS) (n : Int) : DS × Int :=
  if s.down = true then (s, 8) else match findL n s.fs with
  | none => (s, 9)
  | some _ => if n = s.root then (s, 11) else if s.left = 0 then (s.off, 8) else ({ s.tick with fs := delL n s.fs }, 0)
def DS.point (s : DS) (n : Int) : DS × Int :=
  if s.down = true then (s, 8) else match findL n s.fs with
  | none => (s, 9)
  | some f => if f.sure = false ∨ f.sb < f.data.length then (s, 11) else if s.left = 0 then (s.off, 8) else ({ s.tick with root := n }, 0)
def DS.arm (s : DS) (n : Int) : DS := { s with left := max n (-1) }
/-- What the first Keep says that names a file. -/
def keepOf (ks : List (Int × Int)) (n : Int) : Option Int := (ks.find? fun k => decide (k.1 = n)).map (·.2)
def most (ks : List (Int × Int)) (n : Int) : Int := (keepOf ks n).getD 0
def loseF (k : Int) (f : DF) : DF :=
  let m := f.sb + min k.toNat (f.data.length - f.sb)
  { f with data := f.data.take m, sure := true, sb := m }
def backF (ks : List (Int × Int)) (f : DF) : Option DF := if keepOf ks f.n = none ∧ f.sure = false then none else some (loseF (most ks f.n) f)
def DS.back (s : DS) (ks : List (Int × Int)) : DS := { s with fs := s.fs.filterMap (backF ks), left := -1, down := false }
def DS.size (s : DS) (n : Int) : Int × Int × Int :=
  if s.down = true then (0, 0, 8) else match findL n s.fs with
  | none => (0, 0, 9)
  | some f => (f.data.length, f.t, 0)
def DS.read (s : DS) (n at_ size : Int) : List UInt8 × Int :=
  if s.down = true then ([], 8) else match findL n s.fs with
  | none => ([], 9)
  | some f => if at_ < 0 ∨ size < 0 ∨ (f.data.length : Int) - at_ < size then ([], 1) else ((f.data.drop at_.toNat).take size.toNat, 0)
def DS.new (hot cold : Nat) : DS := ⟨hot, cold, [], 0, 0, -1, false⟩

end Go.Proofs.YtgljjdldhnajdaaGreat
