/- Texts put together: ManNums, ManPut, ManPack, ManSame, ManSameSt -/
import Derived.Test.YtljjielekgilpaaGreatMApp09
import Derived.Test.YtljjielekgilpaaGreatMApp00
import Derived.Test.YtljjielekgilpaaGreatMApp07
import Derived.Test.YtljjielekgilpaaGreatMApp08
import Derived.Test.YtljjielekgilpaaGreatMApp06
import Derived.Test.YtljjielekgilpaaGreatMApp03
import Derived.Test.YtljjielekgilpaaGreatMApp02
/- An edit written. -/
set_option linter.unusedVariables false
set_option maxRecDepth 100000
namespace Go.Proofs.YtljjielekgilpaaGreat
open Go.RowKit

set_option maxHeartbeats 400000 in
theorem six_WholeO (B b : Nat) (l : List UInt8) (n : Int) (w : World) (h : Wt B b l w) (hn1 : -9223372036854775808 ≤ n) (hn2 : n ≤ 9223372036854775807) (hlen : l.length + 11 ≤ 140737488355328) :
    Calls Tryz.prog 88 #[.pointer (some ⟨b, 0, none⟩), .int .i64 n] w fun e w' => e = .returned (.int .i64 0) ∧ Wt B b (l ++ whole n) w' ∧ Wb B b w w' := by
  have HW := Lib.hid h
  clear h
  by_cases h0 : n < 0
  · obtain ⟨m, hm⟩ : ∃ m : Nat, -1 - n = m := ⟨(-1 - n).toNat, by omega⟩
    have hg := Lib.hid (show whole n = grp m 128 by unfold whole; rw [if_pos h0, hm]; rfl)
    have hm1 : m ≤ 9223372036854775807 := by omega
    have hsub : -1 - n = (m : Int) := hm
    clear hm
    go_enter Tryz.func88, Tryz.ntmps88
    go_wp2_with fail
    refine (six_groupsO B b l m 128 w HW.out hm1 (.inr rfl) hlen).mono ?_
    rintro e w2 ⟨rfl, h2, k2⟩
    have H2 := Lib.hid h2
    have K2 := Lib.hid k2
    clear h2 k2
    go_wp2
    go_ret
    exact ⟨rfl, by rw [hg.out]; exact H2.out, K2.out⟩
  · obtain ⟨m, rfl⟩ : ∃ m : Nat, n = m := ⟨n.toNat, by omega⟩
    have hg := Lib.hid (show whole m = grp m 64 by unfold whole; rw [if_neg (by omega)]; rfl)
    go_enter Tryz.func88, Tryz.ntmps88
    go_wp2_with fail
    refine (six_groupsO B b l m 64 w HW.out (by omega) (.inl rfl) hlen).mono ?_
    rintro e w2 ⟨rfl, h2, k2⟩
    have H2 := Lib.hid h2
    have K2 := Lib.hid k2
    clear h2 k2
    go_wp2
    go_ret
    exact ⟨rfl, by rw [hg.out]; exact H2.out, K2.out⟩

/-- A new row of pointers to the cells of a variable. -/
def PtrPost (eb : Nat) (offs : List Nat) (ty : TypeId) (w : World) (e : Ending) (w' : World) : Prop :=
  ∃ nb, e = .returned (.slice (some ⟨nb, 0, none⟩) offs.length offs.length) ∧ w.heap.size ≤ nb ∧ w'.heap[nb]? = some (.cells (offs.map fun o => Value.pointer (some ⟨eb, o, none⟩)).toArray ty (0, 0)) ∧ Below w.heap.size w w'
set_option maxHeartbeats 1000000 in
theorem numbers_1 (eb : Nat) (x : Ed) (w : World) (h : w.heap[eb]? = some (.cells #[.int .i64 x.kind, .int .i64 x.file, .int .i64 x.lev, .int .i64 x.cnt, .string (bs x.low), .string (bs x.high)] 44 (0, 0))) (hk : x.kind = 1) :
    Calls Tryz.prog 89 #[.pointer (some ⟨eb, 0, none⟩)] w (PtrPost eb [1, 2, 3] 157 w) := by
  obtain ⟨kd, hkd⟩ : ∃ kd, kd = x.kind := ⟨_, rfl⟩
  have c0 : w.cell? ⟨eb, 0, none⟩ = some (.int .i64 kd) := by simp [World.cell?, h, hkd]
  have hk1 : kd = 1 := by omega
  clear hk
  subst hk1
  clear h hkd
  go_enter Tryz.func89, Tryz.ntmps89
  go_wp2_with fail
  refine wp_region_seen_tail 9 (by kernel_rfl) (by kernel_rfl) ?_
  simp only [List.take_succ_cons, List.take_zero, List.drop_succ_cons, List.drop_zero]
  repeat go_big_quiet_step (fail)
  refine wpQuiet_nil ?_
  rintro _ ⟨m1, rfl⟩
  have K1 := Lib.hid m1.below
  generalize m1.val = w1 at *
  go_wp2
  go_ret
  exact ⟨w1.heap.size, rfl, K1.out.size, heap_new w1 _, K1.out.alloc K1.out.size _⟩
set_option maxHeartbeats 1000000 in
theorem numbers_3 (eb : Nat) (x : Ed) (w : World) (h : w.heap[eb]? = some (.cells #[.int .i64 x.kind, .int .i64 x.file, .int .i64 x.lev, .int .i64 x.cnt, .string (bs x.low), .string (bs x.high)] 44 (0, 0))) (hk : x.kind = 3) :
    Calls Tryz.prog 89 #[.pointer (some ⟨eb, 0, none⟩)] w (PtrPost eb [1, 2] 157 w) := by
  obtain ⟨kd, hkd⟩ : ∃ kd, kd = x.kind := ⟨_, rfl⟩
  have c0 : w.cell? ⟨eb, 0, none⟩ = some (.int .i64 kd) := by simp [World.cell?, h, hkd]
  have hk1 : kd = 3 := by omega
  clear hk
  subst hk1
  clear h hkd
  go_enter Tryz.func89, Tryz.ntmps89
  go_wp2_with fail
  refine wp_region_seen_tail 6 (by kernel_rfl) (by kernel_rfl) ?_
  simp only [List.take_succ_cons, List.take_zero, List.drop_succ_cons, List.drop_zero]
  repeat go_big_quiet_step (fail)
  refine wpQuiet_nil ?_
  rintro _ ⟨m1, rfl⟩
  have K1 := Lib.hid m1.below
  generalize m1.val = w1 at *
  go_wp2
  go_ret
  exact ⟨w1.heap.size, rfl, K1.out.size, heap_new w1 _, K1.out.alloc K1.out.size _⟩
set_option maxHeartbeats 1000000 in
theorem numbers_0 (eb : Nat) (x : Ed) (w : World) (h : w.heap[eb]? = some (.cells #[.int .i64 x.kind, .int .i64 x.file, .int .i64 x.lev, .int .i64 x.cnt, .string (bs x.low), .string (bs x.high)] 44 (0, 0))) (h1 : ¬ x.kind = 1) (h3 : ¬ x.kind = 3) :
    Calls Tryz.prog 89 #[.pointer (some ⟨eb, 0, none⟩)] w (PtrPost eb [1] 157 w) := by
  obtain ⟨kd, hkd⟩ : ∃ kd, kd = x.kind := ⟨_, rfl⟩
  have c0 : w.cell? ⟨eb, 0, none⟩ = some (.int .i64 kd) := by simp [World.cell?, h, hkd]
  have k1 : (kd == 1) = false := by simpa [hkd] using h1
  have k3 : (kd == 3) = false := by simpa [hkd] using h3
  clear h1 h3
  clear h hkd
  go_enter Tryz.func89, Tryz.ntmps89
  go_wp2_with fail
  go_wp2
  go_ret
  exact ⟨w.heap.size, rfl, Nat.le_refl _, heap_new w _, (Below.refl _ _).alloc (Nat.le_refl _) _⟩
set_option maxHeartbeats 1000000 in
theorem texts_1 (eb : Nat) (x : Ed) (w : World) (h : w.heap[eb]? = some (.cells #[.int .i64 x.kind, .int .i64 x.file, .int .i64 x.lev, .int .i64 x.cnt, .string (bs x.low), .string (bs x.high)] 44 (0, 0))) (hk : x.kind = 1) :
    Calls Tryz.prog 90 #[.pointer (some ⟨eb, 0, none⟩)] w (PtrPost eb [4, 5] 160 w) := by
  obtain ⟨kd, hkd⟩ : ∃ kd, kd = x.kind := ⟨_, rfl⟩
  have c0 : w.cell? ⟨eb, 0, none⟩ = some (.int .i64 kd) := by simp [World.cell?, h, hkd]
  have hk1 : kd = 1 := by omega
  clear hk
  subst hk1
  clear h hkd
  go_enter Tryz.func90, Tryz.ntmps90
  go_wp2_with fail
  refine wp_region_seen_tail 6 (by kernel_rfl) (by kernel_rfl) ?_
  simp only [List.take_succ_cons, List.take_zero, List.drop_succ_cons, List.drop_zero]
  repeat go_big_quiet_step (fail)
  refine wpQuiet_nil ?_
  rintro _ ⟨m1, rfl⟩
  have K1 := Lib.hid m1.below
  generalize m1.val = w1 at *
  go_wp2
  go_ret
  exact ⟨w1.heap.size, rfl, K1.out.size, heap_new w1 _, K1.out.alloc K1.out.size _⟩
set_option maxHeartbeats 1000000 in
theorem texts_0 (eb : Nat) (x : Ed) (w : World) (h : w.heap[eb]? = some (.cells #[.int .i64 x.kind, .int .i64 x.file, .int .i64 x.lev, .int .i64 x.cnt, .string (bs x.low), .string (bs x.high)] 44 (0, 0))) (h1 : ¬ x.kind = 1) :
    Calls Tryz.prog 90 #[.pointer (some ⟨eb, 0, none⟩)] w fun e w' => e = .returned (.slice none 0 0) ∧ w = w' := by
  obtain ⟨kd, hkd⟩ : ∃ kd, kd = x.kind := ⟨_, rfl⟩
  have c0 : w.cell? ⟨eb, 0, none⟩ = some (.int .i64 kd) := by simp [World.cell?, h, hkd]
  have k1 : (kd == 1) = false := by simpa [hkd] using h1
  clear h hkd h1
  go_enter Tryz.func90, Tryz.ntmps90
  go_wp2
  go_ret
  exact ⟨rfl, rfl⟩
end Go.Proofs.YtljjielekgilpaaGreat
/- An edit's bytes, written. -/
set_option linter.unusedVariables false
set_option maxRecDepth 100000
namespace Go.Proofs.YtljjielekgilpaaGreat
open Go.RowKit

def wholes (L : List Int) : List UInt8 := L.flatMap whole
def textsB (L : List (List UInt8)) : List UInt8 := L.flatMap text
theorem wholes_snoc (L : List Int) (v : Int) : wholes (L ++ [v]) = wholes L ++ whole v := by simp [wholes]
theorem textsB_snoc (L : List (List UInt8)) (v : List UInt8) : textsB (L ++ [v]) = textsB L ++ text v := by simp [textsB]
/-- The numbers and the texts behind an edit's kind. -/
def numsOf (x : Ed) : List Int := if x.kind = 1 then [x.file, x.lev, x.cnt] else if x.kind = 3 then [x.file, x.lev] else [x.file]
def offsOf (x : Ed) : List Nat := if x.kind = 1 then [1, 2, 3] else if x.kind = 3 then [1, 2] else [1]
def textsOf (x : Ed) : List (List UInt8) := if x.kind = 1 then [x.low, x.high] else []
def toffsOf (x : Ed) : List Nat := if x.kind = 1 then [4, 5] else []
def edB (x : Ed) : List UInt8 := whole x.kind ++ wholes (numsOf x) ++ textsB (textsOf x)
/-- An edit whose numbers are int's. -/
def Ed.Fits (x : Ed) : Prop := (-9223372036854775808 ≤ x.kind ∧ x.kind ≤ 9223372036854775807) ∧ (-9223372036854775808 ≤ x.file ∧ x.file ≤ 9223372036854775807) ∧ (-9223372036854775808 ≤ x.lev ∧ x.lev ≤ 9223372036854775807) ∧ (-9223372036854775808 ≤ x.cnt ∧ x.cnt ≤ 9223372036854775807)
def EdAt (eb : Nat) (x : Ed) (w : World) : Prop := w.heap[eb]? = some (.cells #[.int .i64 x.kind, .int .i64 x.file, .int .i64 x.lev, .int .i64 x.cnt, .string (bs x.low), .string (bs x.high)] 44 (0, 0))
theorem offs_at {x : Ed} {eb : Nat} {w : World} (h : EdAt eb x w) : (numsOf x).length = (offsOf x).length ∧ ∀ (i o : Nat), (offsOf x)[i]? = some o → ∃ v, (numsOf x)[i]? = some v ∧ w.cell? ⟨eb, o, none⟩ = some (.int .i64 v) := by
  unfold EdAt at h
  unfold numsOf offsOf
  by_cases h1 : x.kind = 1
  · rw [if_pos h1, if_pos h1]
    refine ⟨rfl, fun i o ho => ?_⟩
    match i, ho with
    | 0, ho => cases ho; exact ⟨_, rfl, by simp [World.cell?, h]⟩
    | 1, ho => cases ho; exact ⟨_, rfl, by simp [World.cell?, h]⟩
    | 2, ho => cases ho; exact ⟨_, rfl, by simp [World.cell?, h]⟩
    | n + 3, ho => cases ho
  · rw [if_neg h1, if_neg h1]
    by_cases h3 : x.kind = 3
    · rw [if_pos h3, if_pos h3]
      refine ⟨rfl, fun i o ho => ?_⟩
      match i, ho with
      | 0, ho => cases ho; exact ⟨_, rfl, by simp [World.cell?, h]⟩
      | 1, ho => cases ho; exact ⟨_, rfl, by simp [World.cell?, h]⟩
      | n + 2, ho => cases ho
    · rw [if_neg h3, if_neg h3]
      refine ⟨rfl, fun i o ho => ?_⟩
      match i, ho with
      | 0, ho => cases ho; exact ⟨_, rfl, by simp [World.cell?, h]⟩
      | n + 1, ho => cases ho
theorem toffs_at {x : Ed} {eb : Nat} {w : World} (h : EdAt eb x w) : (textsOf x).length = (toffsOf x).length ∧ ∀ (i o : Nat), (toffsOf x)[i]? = some o → ∃ v, (textsOf x)[i]? = some v ∧ w.cell? ⟨eb, o, none⟩ = some (.string (bs v)) := by
  unfold EdAt at h
  unfold textsOf toffsOf
  by_cases h1 : x.kind = 1
  · rw [if_pos h1, if_pos h1]
    refine ⟨rfl, fun i o ho => ?_⟩
    match i, ho with
    | 0, ho => cases ho; exact ⟨_, rfl, by simp [World.cell?, h]⟩
    | 1, ho => cases ho; exact ⟨_, rfl, by simp [World.cell?, h]⟩
    | n + 2, ho => cases ho
  · rw [if_neg h1, if_neg h1]
    exact ⟨rfl, fun i o ho => by cases ho⟩
theorem numsOf_fit {x : Ed} (h : x.Fits) : ∀ v ∈ numsOf x, -9223372036854775808 ≤ v ∧ v ≤ 9223372036854775807 := by
  obtain ⟨h1, h2, h3, h4⟩ := h
  unfold numsOf
  intro v hv
  split at hv
  · simp at hv; rcases hv with rfl | rfl | rfl <;> assumption
  · split at hv
    · simp at hv; rcases hv with rfl | rfl <;> assumption
    · simp at hv; subst hv; assumption
theorem offs_len (x : Ed) : (offsOf x).length ≤ 3 ∧ (toffsOf x).length ≤ 2 := by
  unfold offsOf toffsOf
  constructor
  · split
    · simp
    · split <;> simp
  · split <;> simp
theorem numbers_all (eb : Nat) (x : Ed) (w : World) (h : EdAt eb x w) : Calls Tryz.prog 89 #[.pointer (some ⟨eb, 0, none⟩)] w (PtrPost eb (offsOf x) 157 w) := by
  unfold offsOf
  by_cases h1 : x.kind = 1
  · rw [if_pos h1]; exact numbers_1 eb x w h h1
  · rw [if_neg h1]
    by_cases h3 : x.kind = 3
    · rw [if_pos h3]; exact numbers_3 eb x w h h3
    · rw [if_neg h3]; exact numbers_0 eb x w h h1 h3
/-- A row of pointers, or nil. -/
def PtrNil (eb : Nat) (offs : List Nat) (ty : TypeId) (w : World) (e : Ending) (w' : World) : Prop :=
  ∃ a, e = .returned (.slice a offs.length offs.length) ∧ (offs.length = 0 ∨ ∃ nb, a = some ⟨nb, 0, none⟩ ∧ w.heap.size ≤ nb ∧ w'.heap[nb]? = some (.cells (offs.map fun o => Value.pointer (some ⟨eb, o, none⟩)).toArray ty (0, 0))) ∧ Below w.heap.size w w'
theorem texts_all (eb : Nat) (x : Ed) (w : World) (h : EdAt eb x w) : Calls Tryz.prog 90 #[.pointer (some ⟨eb, 0, none⟩)] w (PtrNil eb (toffsOf x) 160 w) := by
  unfold toffsOf
  by_cases h1 : x.kind = 1
  · rw [if_pos h1]
    refine (texts_1 eb x w h h1).mono ?_
    rintro e w' ⟨nb, rfl, h2, h3, h4⟩
    exact ⟨_, rfl, .inr ⟨nb, rfl, h2, h3⟩, h4⟩
  · rw [if_neg h1]
    refine (texts_0 eb x w h h1).mono ?_
    rintro e w' ⟨rfl, rfl⟩
    exact ⟨none, rfl, .inl rfl, Below.refl _ _⟩
theorem wb_below {B b : Nat} {w w1 w2 : World} (h : Wb B b w w1) (k : Below w1.heap.size w1 w2) (hB : B ≤ w1.heap.size) : Wb B b w w2 :=
  h.grown (row := none) ⟨k.os, k.tape, k.output, k.size, fun j hj _ => k.block j hj⟩ hB (fun _ e => by cases e) (fun _ e => by cases e)

set_option maxHeartbeats 4000000 in
theorem put_edit (B b : Nat) (l : List UInt8) (x : Ed) (w : World) (h : Wt B b l w) (hx : Hid x.Fits) (hlo : x.low.length ≤ 1000000000) (hhi : x.high.length ≤ 1000000000) (hl : l.length ≤ 100000000000000) (hBw : B ≤ w.heap.size) (hbw : b < w.heap.size) :
    Calls Tryz.prog 44 #[.pointer (some ⟨b, 0, none⟩), .agg #[.int .i64 x.kind, .int .i64 x.file, .int .i64 x.lev, .int .i64 x.cnt, .string (bs x.low), .string (bs x.high)]] w fun e w' => e = .returned (.tuple #[]) ∧ Wt B b (l ++ edB x) w' ∧ Wb B b w w' := by
  obtain ⟨w1, hw1⟩ : ∃ w1, w.alloc (.cells #[.int .i64 x.kind, .int .i64 x.file, .int .i64 x.lev, .int .i64 x.cnt, .string (bs x.low), .string (bs x.high)] 44) = w1 := ⟨_, rfl⟩
  obtain ⟨eb, heb⟩ : ∃ eb, eb = w.heap.size := ⟨_, rfl⟩
  have E1 := Lib.hid (show EdAt eb x w1 by rw [← hw1, heb]; exact heap_new w _)
  have W1 := Lib.hid (show Wt B b l w1 by rw [← hw1]; exact h.alloc _)
  have K1 := Lib.hid (show Wb B b w w1 by rw [← hw1]; exact (Wb.refl B b w).alloc hBw _)
  have HW1 := Lib.hid hw1
  have HEB := Lib.hid heb
  have hne : eb ≠ b := by omega
  have HNE := Lib.hid hne
  have c0 : w1.cell? ⟨eb, 0, none⟩ = some (.int .i64 x.kind) := by have := E1.out; unfold EdAt at this; simp [World.cell?, this]
  obtain ⟨n, hn⟩ : ∃ n, n = (offsOf x).length := ⟨_, rfl⟩
  obtain ⟨m, hm⟩ : ∃ m, m = (toffsOf x).length := ⟨_, rfl⟩
  have HN := Lib.hid (And.intro hn hm)
  have hn3 : n ≤ 3 := by have := (offs_len x).1; omega
  have hm3 : m ≤ 2 := by have := (offs_len x).2; omega
  have HH := Lib.hid h
  clear hw1 heb hn hm hne h
  go_enter Tryz.func44, Tryz.ntmps44
  go_upto_region 1 with (fail)
  rw [HW1.out, ← HEB.out]
  go_wp2_with fail
  refine (six_WholeO B b l x.kind w1 W1.out hx.out.1.1 hx.out.1.2 (by omega)).mono ?_
  rintro e w2 ⟨rfl, h2, k2⟩
  have W2 := Lib.hid h2
  have K2 := Lib.hid (K1.out.trans k2)
  have E2 := Lib.hid (show EdAt eb x w2 from k2.keeps E1.out HNE.out (by decide))
  have hBw2 := Lib.hid (show B ≤ w2.heap.size from Nat.le_trans hBw K2.out.size)
  clear h2 k2 c0
  go_wp2_with fail
  refine (numbers_all eb x w2 E2.out).mono ?_
  rintro e w3 ⟨nb, rfl, hnb, hrow, k3⟩
  rw [← HN.out.1]
  have W3 := Lib.hid (show Wt B b (l ++ whole x.kind) w3 from W2.out.keep k3)
  have K3 := Lib.hid (wb_below K2.out k3 hBw2.out)
  have E3 := Lib.hid (show EdAt eb x w3 from (k3.block eb (heap_lt E2.out)).trans E2.out)
  have R3 := Lib.hid hrow
  have HNB := Lib.hid (show nb ≠ b ∧ nb ≠ eb from ⟨by have := W2.out.lt; omega, by have := heap_lt E2.out; omega⟩)
  have hwk := Lib.hid (show (whole x.kind).length ≤ 11 from (whole_len hx.out.1.1 hx.out.1.2).1)
  clear hnb hrow k3
  go_wp2_with fail
  go_loopw [14] (fun iv wr => ∃ i : Nat, i ≤ n ∧ iv = .int .i64 (i : Int) ∧ Hid (Wt B b (l ++ whole x.kind ++ wholes ((numsOf x).take i)) wr) ∧ Hid ((wholes ((numsOf x).take i)).length ≤ 11 * i) ∧ Hid (Wb B b w wr) ∧ Hid (EdAt eb x wr) ∧ Hid (wr.heap[nb]? = some (.cells ((offsOf x).map fun o => Value.pointer (some ⟨eb, o, none⟩)).toArray 157 (0, 0)))) (fun iv wr => n - (intOf iv).toNat)
  case atStart => exact ⟨0, Nat.zero_le _, rfl, Lib.hid (by simpa [wholes] using W3.out), Lib.hid (by simp [wholes]), K3, E3, R3⟩
  case round =>
    obtain ⟨i, hi, rfl, hW, hLn, hK, hE, hR⟩ := hrel
    by_cases hlt : i < n
    · have hlt' : (i : Int) < (n : Int) := by omega
      obtain ⟨o, ho⟩ : ∃ o, (offsOf x)[i]? = some o := ⟨_, List.getElem?_eq_getElem (by have := HN.out.1; omega)⟩
      obtain ⟨v, hv, hc⟩ := (offs_at hE.out).2 i o ho
      have y0 : wr.cell? ⟨nb, i, none⟩ = some (.pointer (some ⟨eb, o, none⟩)) := by
        have := hR.out
        simp [World.cell?, this, ho]
      have HV := Lib.hid (show -9223372036854775808 ≤ v ∧ v ≤ 9223372036854775807 from numsOf_fit hx.out v (List.mem_of_getElem? hv))
      have HNX := Lib.hid (show wholes ((numsOf x).take (i + 1)) = wholes ((numsOf x).take i) ++ whole v by rw [List.take_add_one, hv]; exact wholes_snoc _ v)
      have hvl := Lib.hid (show (whole v).length ≤ 11 from (whole_len HV.out.1 HV.out.2).1)
      clear ho hv
      go_wp2_with fail
      refine (six_WholeO B b _ v wr hW.out HV.out.1 HV.out.2 (by rw [List.length_append, List.length_append]; have := hLn.out; have := hwk.out; omega)).mono ?_
      rintro e w5 ⟨rfl, h5, k5⟩
      have W5 := Lib.hid (show Wt B b (l ++ whole x.kind ++ wholes ((numsOf x).take (i + 1))) w5 by rw [HNX.out, ← List.append_assoc]; exact h5)
      have L5 := Lib.hid (show (wholes ((numsOf x).take (i + 1))).length ≤ 11 * (i + 1) by rw [HNX.out, List.length_append]; have := hLn.out; have := hvl.out; omega)
      have K5 := Lib.hid (hK.out.trans k5)
      have E5 := Lib.hid (show EdAt eb x w5 from k5.keeps hE.out HNE.out (by decide))
      have R5 := Lib.hid (k5.keeps hR.out HNB.out.1 (by decide))
      clear h5 k5 y0 hc
      go_wp2_with fail
      go_roundw
      case rel => exact ⟨i + 1, hlt, by go_num, W5, L5, K5, E5, R5⟩
      case measure => simp [intOf]; omega
    · obtain rfl : i = n := by omega
      have HALL := Lib.hid (show (numsOf x).take i = numsOf x from List.take_of_length_le (by have := (offs_at hE.out).1; have := HN.out.1; omega))
      rw [HALL.out] at hW hLn
      obtain ⟨PRE, hPRE⟩ : ∃ PRE, PRE = l ++ whole x.kind ++ wholes (numsOf x) := ⟨_, rfl⟩
      rw [← hPRE] at hW
      have HP := Lib.hid hPRE
      have hpl : PRE.length ≤ 100000000000100 := by
        rw [hPRE, List.length_append, List.length_append]
        have := hLn.out; have := hwk.out
        omega
      have hBr := Lib.hid (show B ≤ wr.heap.size from Nat.le_trans hBw hK.out.size)
      obtain ⟨wo, hwo⟩ : ∃ wo, wo = wr := ⟨_, rfl⟩
      subst hwo
      clear hPRE hR
      go_wp2_with fail
      refine (texts_all eb x wo hE.out).mono ?_
      rintro e w6 ⟨ta, rfl, hrow, k6⟩
      rw [← HN.out.2] at hrow ⊢
      have W6 := Lib.hid (hW.out.keep k6)
      have K6 := Lib.hid (wb_below hK.out k6 hBr.out)
      have E6 := Lib.hid (show EdAt eb x w6 from (k6.block eb (heap_lt hE.out)).trans hE.out)
      have R6 := Lib.hid (show m = 0 ∨ ∃ tb, ta = some ⟨tb, 0, none⟩ ∧ tb ≠ b ∧ w6.heap[tb]? = some (.cells ((toffsOf x).map fun o => Value.pointer (some ⟨eb, o, none⟩)).toArray 160 (0, 0)) from by
        rcases hrow with h0 | ⟨tb, h1, h2, h3⟩
        · exact .inl h0
        · exact .inr ⟨tb, h1, by have := hW.out.lt; omega, h3⟩)
      clear hrow k6 hW hK hE
      go_wp2_with fail
      go_loopw [26] (fun iv wq => ∃ j : Nat, j ≤ m ∧ iv = .int .i64 (j : Int) ∧ Hid (Wt B b (PRE ++ textsB ((textsOf x).take j)) wq) ∧ Hid ((textsB ((textsOf x).take j)).length ≤ 1000000011 * j) ∧ Hid (Wb B b w wq) ∧ Hid (EdAt eb x wq) ∧ Hid (m = 0 ∨ ∃ tb, ta = some ⟨tb, 0, none⟩ ∧ tb ≠ b ∧ wq.heap[tb]? = some (.cells ((toffsOf x).map fun o => Value.pointer (some ⟨eb, o, none⟩)).toArray 160 (0, 0)))) (fun iv wq => m - (intOf iv).toNat)
      case atStart => exact ⟨0, Nat.zero_le _, rfl, Lib.hid (by simpa [textsB] using W6.out), Lib.hid (by simp [textsB]), K6, E6, R6⟩
      case round =>
        obtain ⟨j, hj, rfl, hW, hLn, hK, hE, hR⟩ := hrel
        by_cases hlt : j < m
        · have hlt' : (j : Int) < (m : Int) := by omega
          obtain ⟨o, ho⟩ : ∃ o, (toffsOf x)[j]? = some o := ⟨_, List.getElem?_eq_getElem (by have := HN.out.2; omega)⟩
          obtain ⟨v, hv, hc⟩ := (toffs_at hE.out).2 j o ho
          obtain ⟨tb, rfl, htb, hrow⟩ := hR.out.resolve_left (by omega)
          have y0 : wr.cell? ⟨tb, j, none⟩ = some (.pointer (some ⟨eb, o, none⟩)) := by simp [World.cell?, hrow, ho]
          have HV := Lib.hid (show v.length ≤ 1000000000 by
            have hm := List.mem_of_getElem? hv
            unfold textsOf at hm
            split at hm
            · simp at hm; rcases hm with rfl | rfl <;> assumption
            · cases hm)
          have HNX := Lib.hid (show textsB ((textsOf x).take (j + 1)) = textsB ((textsOf x).take j) ++ text v by rw [List.take_add_one, hv]; exact textsB_snoc _ v)
          have hvl := Lib.hid (show (text v).length ≤ 1000000011 by
            have := (whole_len (n := (v.length : Int)) (by have := HV.out; omega) (by have := HV.out; omega)).1
            rw [text, List.length_append]
            have := HV.out
            omega)
          have HTB := Lib.hid htb
          have HRW := Lib.hid hrow
          clear ho hv hrow htb hR
          go_wp2_with fail
          refine (six_TextO B b _ (bs v) wr hW.out (by rw [bs_size, List.length_append]; have := hLn.out; have := HV.out; omega)).mono ?_
          rintro e w7 ⟨rfl, h7, k7⟩
          rw [bs_list] at h7
          have W7 := Lib.hid (show Wt B b (PRE ++ textsB ((textsOf x).take (j + 1))) w7 by rw [HNX.out, ← List.append_assoc]; exact h7)
          have L7 := Lib.hid (show (textsB ((textsOf x).take (j + 1))).length ≤ 1000000011 * (j + 1) by rw [HNX.out, List.length_append]; have := hLn.out; have := hvl.out; omega)
          have K7 := Lib.hid (hK.out.trans k7)
          have E7 := Lib.hid (show EdAt eb x w7 from k7.keeps hE.out HNE.out (by decide))
          have R7 := Lib.hid (k7.keeps HRW.out HTB.out (by decide))
          clear h7 k7 y0 hc
          go_wp2_with fail
          go_roundw
          case rel => exact ⟨j + 1, hlt, by go_num, W7, L7, K7, E7, Lib.hid (.inr ⟨tb, rfl, HTB.out, R7.out⟩)⟩
          case measure => simp [intOf]; omega
        · obtain rfl : j = m := by omega
          have HEND := Lib.hid (show Wt B b (l ++ edB x) wr by
            have h1 := hW.out
            rw [List.take_of_length_le (by have := (toffs_at hE.out).1; have := HN.out.2; omega), HP.out] at h1
            unfold edB
            simpa [List.append_assoc] using h1)
          go_wp2
          go_end0
          exact ⟨rfl, HEND.out, hK.out⟩
end Go.Proofs.YtljjielekgilpaaGreat
/- Edits' bytes. -/
set_option linter.unusedVariables false
set_option maxRecDepth 100000
namespace Go.Proofs.YtljjielekgilpaaGreat
open Go.RowKit

def edsB (L : List Ed) : List UInt8 := L.flatMap edB
def packL (L : List Ed) : List UInt8 := whole (L.length : Int) ++ edsB L
theorem edsB_snoc {L : List Ed} {i : Nat} {x : Ed} (h : L[i]? = some x) : edsB (L.take (i + 1)) = edsB (L.take i) ++ edB x := by
  rw [List.take_add_one, h]; simp [edsB]
theorem edsB_take (L : List Ed) (i : Nat) : (edsB (L.take i)).length ≤ (edsB L).length := by
  conv => rhs; rw [← List.take_append_drop i L]
  unfold edsB
  rw [List.flatMap_append, List.length_append]
  omega
/-- Edits of sizes that are packed. -/
def EdsFit (L : List Ed) : Prop := ∀ x ∈ L, x.Fits ∧ x.low.length ≤ 1000000000 ∧ x.high.length ≤ 1000000000
set_option maxHeartbeats 4000000 in
theorem put_edits (B b : Nat) {a : Option Addr} {n cap : Nat} {L : List Ed} {w : World} (h : Wt B b [] w) (he : Hid (RdX (fun c => c < B) w (.slice a n cap) n (flat ecell L))) (hL : Hid (n = L.length)) (hn : n ≤ 1000000000) (hf : Hid (EdsFit L)) (hsz : Hid ((packL L).length ≤ 100000000000000)) (hBw : Hid (B ≤ w.heap.size)) :
    Calls Tryz.prog 43 #[.pointer (some ⟨b, 0, none⟩), .slice a n cap, .func (.func 44) #[] #[]] w fun e w' => e = .returned (.int .i64 0) ∧ Wt B b (packL L) w' ∧ Below B w w' := by
  have hfn : ∀ w : World, (binOp .eql 94 (.func (.func 44) #[] #[]) .nilFunc).run Tryz.prog w = .ok (.bool false) w := fun _ => by kernel_rfl
  have HW := Lib.hid h
  clear h
  go_enter Tryz.func43, Tryz.ntmps43
  go_wp2_with fail
  refine (six_CountO B b [] n w HW.out (by omega) (by simp)).mono ?_
  rintro e w2 ⟨rfl, h2, k2⟩
  rw [List.nil_append] at h2
  have H2 := Lib.hid h2
  have K2 := Lib.hid k2.bel
  clear h2 k2
  go_wp2_with fail
  go_loopw [21] (fun iv wr => ∃ i : Nat, i ≤ n ∧ iv = .int .i64 (i : Int) ∧ Hid (Wt B b (whole (n : Int) ++ edsB (L.take i)) wr) ∧ Hid (Below B w wr)) (fun iv wr => n - (intOf iv).toNat)
  case atStart => exact ⟨0, Nat.zero_le _, rfl, Lib.hid (by simpa [edsB] using H2.out), K2⟩
  case round =>
    obtain ⟨i, hi, rfl, hW, hK⟩ := hrel
    by_cases hlt : i < n
    · have hlt' : (i : Int) < (n : Int) := by omega
      obtain ⟨x, hx⟩ : ∃ x, L[i]? = some x := ⟨_, List.getElem?_eq_getElem (by have := hL.out; omega)⟩
      obtain ⟨c, off, rfl, ht, hb2, hc⟩ := RdX.atE he.out hx hlt
      have hcr : ∀ i' u, (ecell x)[i']? = some u → wr.cell? ⟨c, off + i * 6 + i', none⟩ = some u := fun i' u hu => by
        rw [← hc i' u hu]
        simp only [World.cell?, hK.out.block c ht]
      have y0 : wr.cell? ⟨c, off + i * 6, none⟩ = _ := hcr 0 _ rfl
      have y1 := hcr 1 _ rfl
      have y2 := hcr 2 _ rfl
      have y3 := hcr 3 _ rfl
      have y4 := hcr 4 _ rfl
      have y5 := hcr 5 _ rfl
      obtain ⟨w1, hw1⟩ : ∃ w1, w1 = wr.alloc (.cells #[.int .i64 x.kind, .int .i64 x.file, .int .i64 x.lev, .int .i64 x.cnt, .string (bs x.low), .string (bs x.high)] 44) := ⟨_, rfl⟩
      have hBr : B ≤ wr.heap.size := Nat.le_trans hBw.out hK.out.size
      have W1 := Lib.hid (show Wt B b (whole (n : Int) ++ edsB (L.take i)) w1 by rw [hw1]; exact hW.out.alloc _)
      have K1 := Lib.hid (show Below B w w1 by rw [hw1]; exact hK.out.alloc hBr _)
      have hfx := hf.out x (List.mem_of_getElem? hx)
      have HLEN := Lib.hid (show (whole (n : Int) ++ edsB (L.take i)).length ≤ 100000000000000 by
        have := hsz.out
        have := edsB_take L i
        unfold packL at *
        rw [← hL.out] at *
        simp only [List.length_append] at *
        omega)
      have HNX := Lib.hid (edsB_snoc hx)
      have HP := Lib.hid (put_edit B b _ x w1 W1.out (Lib.hid hfx.1) hfx.2.1 hfx.2.2 HLEN.out (Nat.le_trans hBw.out K1.out.size) W1.out.lt)
      rw [hw1] at HP
      have HW1 := Lib.hid hw1
      clear hcr hc hx hfx hw1
      go_wp2_with fail
      refine HP.out.mono ?_
      rintro e w5 ⟨rfl, h5, k5⟩
      rw [← HW1.out] at k5
      have W5 := Lib.hid (show Wt B b (whole (n : Int) ++ edsB (L.take (i + 1))) w5 by rw [HNX.out, ← List.append_assoc]; exact h5)
      have K5 := Lib.hid (K1.out.trans k5.bel)
      clear h5 k5
      go_wp2_with fail
      go_roundw
      case rel => exact ⟨i + 1, hlt, by go_num, W5, K5⟩
      case measure => simp [intOf]; omega
    · obtain rfl : i = n := by omega
      have HEND := Lib.hid (show Wt B b (packL L) wr by
        have h1 := hW.out
        rw [List.take_of_length_le (by have := hL.out; omega), hL.out] at h1
        exact h1)
      go_wp2
      go_ret
      exact ⟨rfl, HEND.out, hK.out⟩
set_option maxHeartbeats 1000000 in
theorem man_Pack {a : Option Addr} {n cap : Nat} {L : List Ed} {w : World} (he : Hid (RdX (fun c => c < w.heap.size) w (.slice a n cap) n (flat ecell L))) (hL : Hid (n = L.length)) (hn : n ≤ 1000000000) (hf : Hid (EdsFit L)) (hsz : Hid ((packL L).length ≤ 100000000000000)) :
    Calls Tryz.prog 17 #[.slice a n cap] w fun e w' => e = .returned (.string (bs (packL L))) ∧ Below w.heap.size w w' := by
  obtain ⟨B, hB⟩ : ∃ B, B = w.heap.size := ⟨_, rfl⟩
  have HB := Lib.hid hB
  have HE := Lib.hid (show RdX (fun c => c < B) w (.slice a n cap) n (flat ecell L) by rw [hB]; exact he.out)
  rw [← hB]
  clear hB
  go_enter Tryz.func17, Tryz.ntmps17
  go_wp2_with fail
  refine (six_New w).mono ?_
  rintro e w1 ⟨rfl, h1⟩
  have W1 : Hid (Wt B B [] w1) := Lib.hid (by rw [← h1, HB.out]; exact wt_new w)
  have K1 : Hid (Below B w w1) := Lib.hid (by rw [← h1, HB.out]; exact (Below.refl _ _).alloc (Nat.le_refl _) _)
  rw [← HB.out]
  have HE1 := Lib.hid (HE.out.below (HB.out ▸ K1.out))
  have HP := Lib.hid (put_edits B B W1.out HE1 hL hn hf hsz (Lib.hid (by have := K1.out.size; have := HB.out; omega)))
  clear h1
  go_wp2_with fail
  refine HP.out.mono ?_
  rintro e w2 ⟨rfl, h2, k2⟩
  have W2 := Lib.hid h2
  have K2 := Lib.hid (K1.out.trans k2)
  clear h2 k2
  go_wp2_with fail
  refine (six_Bytes B B _ w2 W2.out).mono ?_
  rintro e w3 ⟨rfl, h3, k3, _⟩
  have K3 := Lib.hid (K2.out.trans k3)
  clear h3 k3
  go_wp2
  go_ret
  exact ⟨rfl, K3.out⟩
end Go.Proofs.YtljjielekgilpaaGreat
/- The document's side: equal lists of numbers, states that are nothing. -/
set_option linter.unusedVariables false
set_option maxRecDepth 100000
namespace Go.Proofs.YtljjielekgilpaaGreat
open Go.RowKit

theorem zero_box (w : World) : C4 w.heap.size (.slice none 0 0) (.slice none 0 0) (.slice none 0 0) (.int .i64 0) (w.alloc (.cells #[.slice none 0 0, .slice none 0 0, .slice none 0 0, .int .i64 0] 29)) := heap_new w _

set_option maxHeartbeats 2000000 in
theorem same_ints {T T' : Nat → Prop} {va vb : Value} {L : List Int} {w : World} (ha : RdL T w va L.length (flat icell L)) (hb : RdL T' w vb L.length (flat icell L)) (hl : L.length ≤ 1000000000) :
    Calls Tryz.prog 14 #[va, vb] w fun e w' => e = .returned (.bool true) ∧ Below w.heap.size w w' := by
  obtain ⟨a, ca, rfl⟩ := RdL.slice ha
  obtain ⟨b, cb, rfl⟩ := RdL.slice hb
  have HA := Lib.hid ha
  have HB := Lib.hid hb
  obtain ⟨len, hlen⟩ : ∃ len, len = L.length := ⟨_, rfl⟩
  rw [← hlen] at HA HB hl ⊢
  have HL := Lib.hid hlen
  clear hlen ha hb
  go_enter Tryz.func14, Tryz.ntmps14
  go_wp2_with fail
  go_loopw [5] (fun i wr => ∃ k : Nat, k ≤ len ∧ i = .int .i64 k ∧ Hid (Below w.heap.size w wr)) (fun i wr => len - (intOf i).toNat)
  case atStart => exact ⟨0, Nat.zero_le _, rfl, Lib.hid (Below.refl _ _)⟩
  case round =>
    obtain ⟨k, hk, rfl, hK⟩ := hrel
    by_cases hlt : k < len
    · obtain ⟨t, ht⟩ : ∃ t, L[k]? = some t := ⟨_, List.getElem?_eq_getElem (by have := HL.out; omega)⟩
      obtain ⟨b0, off0, rfl, _, hb0, c0'⟩ := (HA.out.below hK.out).atI ht hlt
      obtain ⟨b1, off1, rfl, _, hb1, c1'⟩ := (HB.out.below hK.out).atI ht hlt
      have c0 := c0' 0 _ rfl
      have c1 := c1' 0 _ rfl
      simp only [Nat.mul_one, Nat.add_zero] at c0 c1
      have hlt2 : (k : Int) < (len : Int) := by omega
      clear ht c0' c1'
      go_wp2_with fail
      go_quiet (fail)
      go_wp2
      go_roundw
      case rel => exact ⟨k + 1, by omega, by go_num, Lib.hid (below_drewN hK.out _)⟩
      case measure => simp [intOf]; omega
    · go_wp2
      go_ret
      exact ⟨rfl, hK.out⟩
set_option maxHeartbeats 2000000 in
theorem same_zero (w : World) :
    Calls Tryz.prog 12 #[.agg #[.slice none 0 0, .slice none 0 0, .slice none 0 0, .int .i64 0], .agg #[.slice none 0 0, .slice none 0 0, .slice none 0 0, .int .i64 0]] w fun e w' => e = .returned (.bool true) ∧ Below w.heap.size w w' := by
  obtain ⟨B, hB⟩ : ∃ B, B = w.heap.size := ⟨_, rfl⟩
  rw [← hB]
  have HB := Lib.hid hB
  obtain ⟨w1, hw1⟩ : ∃ w1, (w.alloc (.cells #[.slice none 0 0, .slice none 0 0, .slice none 0 0, .int .i64 0] 29)).alloc (.cells #[.slice none 0 0, .slice none 0 0, .slice none 0 0, .int .i64 0] 29) = w1 := ⟨_, rfl⟩
  have K1 := Lib.hid (show Below B w w1 by rw [← hw1, hB]; exact ((Below.refl _ _).alloc (Nat.le_refl _) _).alloc (by simp) _)
  have X1 := Lib.hid (show C4 B _ _ _ _ w1 by rw [← hw1, hB]; exact (Below.heap_alloc _ _ _ (by simp)).trans (zero_box w))
  have R1 := Lib.hid (show C4 (B + 1) _ _ _ _ w1 by
    rw [← hw1, hB]
    have := zero_box (w.alloc (.cells #[.slice none 0 0, .slice none 0 0, .slice none 0 0, .int .i64 0] 29))
    rw [show (w.alloc (.cells #[.slice none 0 0, .slice none 0 0, .slice none 0 0, .int .i64 0] 29)).heap.size = w.heap.size + 1 by simp] at this
    exact this)
  have HW1 := Lib.hid hw1
  clear hw1 hB
  have hB1 : B ≤ w1.heap.size := Nat.le_of_lt (heap_lt X1.out)
  obtain ⟨x0, x1, x2, x3⟩ := X1.out.c0
  obtain ⟨r0, r1, r2, r3⟩ := R1.out.c0
  have HI := Lib.hid (same_ints (L := []) (w := w1) (zero_own w1 0).stv.logs (zero_own w1 0).stv.logs (by simp))
  go_enter Tryz.func12, Tryz.ntmps12
  go_upto_region 1 with (fail)
  rw [HW1.out, ← HB.out]
  go_wp2_with fail
  refine HI.out.mono ?_
  rintro e w2 ⟨rfl, k2⟩
  have X2 := Lib.hid (X1.out.below k2)
  have R2 := Lib.hid (R1.out.below k2)
  have K2 := Lib.hid (K1.out.trans (k2.mono hB1))
  clear k2 x0 x1 x2 x3 r0 r1 r2 r3 HI
  obtain ⟨x0, x1, x2, x3⟩ := X2.out.c0
  obtain ⟨r0, r1, r2, r3⟩ := R2.out.c0
  go_wp2_with fail
  go_loopw [5] (fun iv wr => iv = .int .i64 0 ∧ Hid (wr = w2)) (fun _ _ => 0)
  case atStart => exact ⟨rfl, Lib.hid rfl⟩
  case round =>
    obtain ⟨rfl, hw⟩ := hrel
    obtain rfl := hw.out
    go_wp2_with fail
    go_loopw [6] (fun iv wq => iv = .int .i64 0 ∧ Hid (wq = wr)) (fun _ _ => 0)
    case atStart => exact ⟨rfl, Lib.hid rfl⟩
    case round =>
      obtain ⟨rfl, hw⟩ := hrel
      obtain rfl := hw.out
      go_wp2
      go_ret
      exact ⟨rfl, K2.out⟩
end Go.Proofs.YtljjielekgilpaaGreat
/- The document's side: two equal states. -/
set_option linter.unusedVariables false
set_option maxRecDepth 100000
namespace Go.Proofs.YtljjielekgilpaaGreat
open Go.RowKit

set_option maxHeartbeats 4000000 in
theorem same_st {T T' : Nat → Prop} {w : World} {tv sv lv tv' sv' lv' : Value} {s : St} (ha : Hid (StV T w tv sv lv s)) (hb : Hid (StV T' w tv' sv' lv' s)) (hs : Hid (s.small 1000000000)) :
    Calls Tryz.prog 12 #[.agg #[tv, sv, lv, .int .i64 s.next], .agg #[tv', sv', lv', .int .i64 s.next]] w fun e w' => e = .returned (.bool true) ∧ Below w.heap.size w w' := by
  obtain ⟨ta, tc, rfl⟩ := RdL.slice ha.out.tabs
  obtain ⟨sa, sc, rfl⟩ := RdL.slice ha.out.stos
  obtain ⟨la, lc, rfl⟩ := RdL.slice ha.out.logs
  obtain ⟨ta', tc', rfl⟩ := RdL.slice hb.out.tabs
  obtain ⟨sa', sc', rfl⟩ := RdL.slice hb.out.stos
  obtain ⟨la', lc', rfl⟩ := RdL.slice hb.out.logs
  have hsm := hs.out
  unfold St.small at hsm
  obtain ⟨nt, hnt⟩ : ∃ n, n = s.tabs.length := ⟨_, rfl⟩
  obtain ⟨ns, hns⟩ : ∃ n, n = s.stos.length := ⟨_, rfl⟩
  obtain ⟨nl, hnl⟩ : ∃ n, n = s.logs.length := ⟨_, rfl⟩
  obtain ⟨nx, hnx⟩ : ∃ n, n = s.next := ⟨_, rfl⟩
  have ht1 : nt ≤ 1000000000 := by omega
  have hs1 : ns ≤ 1000000000 := by omega
  have hl1 : nl ≤ 1000000000 := by omega
  have HT := Lib.hid ha.out.tabs
  have HS := Lib.hid ha.out.stos
  have HL := Lib.hid ha.out.logs
  have HT' := Lib.hid hb.out.tabs
  have HS' := Lib.hid hb.out.stos
  have HL' := Lib.hid hb.out.logs
  rw [← hnt] at HT HT' ⊢
  rw [← hns] at HS HS' ⊢
  rw [← hnl] at HL HL' ⊢
  rw [← hnx]
  have HN := Lib.hid (And.intro hnt (And.intro hns hnl))
  obtain ⟨B, hB⟩ : ∃ B, B = w.heap.size := ⟨_, rfl⟩
  rw [← hB]
  have HB := Lib.hid hB
  obtain ⟨w1, hw1⟩ : ∃ w1, (w.alloc (.cells #[.slice ta nt tc, .slice sa ns sc, .slice la nl lc, .int .i64 nx] 29)).alloc (.cells #[.slice ta' nt tc', .slice sa' ns sc', .slice la' nl lc', .int .i64 nx] 29) = w1 := ⟨_, rfl⟩
  have k1 : Below w.heap.size w w1 := by rw [← hw1]; exact ((Below.refl _ _).alloc (Nat.le_refl _) _).alloc (by simp) _
  have K1 := Lib.hid (show Below B w w1 by rw [hB]; exact k1)
  have X1 := Lib.hid (show C4 B (.slice ta nt tc) (.slice sa ns sc) (.slice la nl lc) (.int .i64 nx) w1 by rw [← hw1, hB]; exact (Below.heap_alloc _ _ _ (by simp)).trans (heap_new w _))
  have R1 := Lib.hid (show C4 (B + 1) (.slice ta' nt tc') (.slice sa' ns sc') (.slice la' nl lc') (.int .i64 nx) w1 by
    rw [← hw1, hB]
    have := heap_new (w.alloc (.cells #[.slice ta nt tc, .slice sa ns sc, .slice la nl lc, .int .i64 nx] 29)) (.cells #[.slice ta' nt tc', .slice sa' ns sc', .slice la' nl lc', .int .i64 nx] 29)
    rw [show (w.alloc (.cells #[.slice ta nt tc, .slice sa ns sc, .slice la nl lc, .int .i64 nx] 29)).heap.size = w.heap.size + 1 by simp] at this
    exact this)
  have T1 := Lib.hid (HT.out.below k1)
  have T1' := Lib.hid (HT'.out.below k1)
  have S1 := Lib.hid (HS.out.below k1)
  have S1' := Lib.hid (HS'.out.below k1)
  have HI := Lib.hid (show Calls Tryz.prog 14 #[.slice la nl lc, .slice la' nl lc'] w1 fun e w' => e = .returned (.bool true) ∧ Below w1.heap.size w1 w' by
    have h1 := HL.out.below k1
    have h2 := HL'.out.below k1
    rw [hnl] at h1 h2 ⊢
    exact same_ints h1 h2 (by omega))
  have HW1 := Lib.hid hw1
  have hB1 := Lib.hid (show B ≤ w1.heap.size from Nat.le_of_lt (heap_lt X1.out))
  clear hw1 hB k1 hnt hns hnl hnx hsm HT HS HL HT' HS' HL'
  obtain ⟨x0, x1, x2, x3⟩ := X1.out.c0
  obtain ⟨r0, r1, r2, r3⟩ := R1.out.c0
  go_enter Tryz.func12, Tryz.ntmps12
  go_upto_region 1 with (fail)
  rw [HW1.out, ← HB.out]
  go_wp2_with fail
  refine HI.out.mono ?_
  rintro e w2 ⟨rfl, k2⟩
  have X2 := Lib.hid (X1.out.below k2)
  have R2 := Lib.hid (R1.out.below k2)
  have T2 := Lib.hid (T1.out.below k2)
  have T2' := Lib.hid (T1'.out.below k2)
  have S2 := Lib.hid (S1.out.below k2)
  have S2' := Lib.hid (S1'.out.below k2)
  have K2 := Lib.hid (K1.out.trans (k2.mono hB1.out))
  clear k2 x0 x1 x2 x3 r0 r1 r2 r3 HI
  obtain ⟨x0, x1, x2, x3⟩ := X2.out.c0
  obtain ⟨r0, r1, r2, r3⟩ := R2.out.c0
  go_wp2_with fail
  clear x0 x1 x2 x3 r0 r1 r2 r3
  go_loopw [5] (fun iv wr => ∃ i : Nat, i ≤ nt ∧ iv = .int .i64 (i : Int) ∧ Hid (Below w2.heap.size w2 wr)) (fun iv wr => nt - (intOf iv).toNat)
  case atStart => exact ⟨0, Nat.zero_le _, rfl, Lib.hid (Below.refl _ _)⟩
  case round =>
    obtain ⟨i, hi, rfl, hK⟩ := hrel
    obtain ⟨x0, x1, x2, x3⟩ := (X2.out.below hK.out).c0
    obtain ⟨r0, r1, r2, r3⟩ := (R2.out.below hK.out).c0
    by_cases hlt : i < nt
    · have hlt2 : (i : Int) < (nt : Int) := by omega
      obtain ⟨t, ht⟩ : ∃ t, s.tabs[i]? = some t := ⟨_, List.getElem?_eq_getElem (by have := HN.out.1; omega)⟩
      obtain ⟨b0, o0, rfl, _, hb0, c0⟩ := (T2.out.below hK.out).atT ht hlt
      obtain ⟨b1, o1, rfl, _, hb1, c1⟩ := (T2'.out.below hK.out).atT ht hlt
      have y0 := c0 0 _ rfl
      have y1 := c0 1 _ rfl
      have y2 := c0 2 _ rfl
      have y3 := c0 3 _ rfl
      have y4 := c0 4 _ rfl
      have z0 := c1 0 _ rfl
      have z1 := c1 1 _ rfl
      have z2 := c1 2 _ rfl
      have z3 := c1 3 _ rfl
      have z4 := c1 4 _ rfl
      simp only [Nat.add_zero] at y0 z0
      clear ht c0 c1 hb0 hb1
      go_wp2_with fail
      go_quiet (fail)
      go_wp2
      go_roundw
      case rel => exact ⟨i + 1, by omega, by go_num, Lib.hid (below_drewN hK.out _)⟩
      case measure => simp [intOf]; omega
    · have hge : (nt : Int) ≤ (i : Int) := by omega
      have X3 := Lib.hid (X2.out.below hK.out)
      have R3 := Lib.hid (R2.out.below hK.out)
      have U3 := Lib.hid (S2.out.below hK.out)
      have U3' := Lib.hid (S2'.out.below hK.out)
      have K3 := Lib.hid (K2.out.trans (hK.out.mono (show B ≤ w2.heap.size from Nat.le_of_lt (heap_lt X2.out))))
      have hB3 := Lib.hid (show B ≤ wr.heap.size from Nat.le_of_lt (heap_lt X3.out))
      clear hK
      go_wp2_with fail
      clear x0 x1 x2 x3 r0 r1 r2 r3
      obtain ⟨w3, hw3⟩ : ∃ w3, w3 = wr := ⟨_, rfl⟩
      rw [← hw3] at X3 R3 U3 U3' K3 hB3 ⊢
      clear hw3 wr
      go_loopw [6] (fun iv wr => ∃ i : Nat, i ≤ ns ∧ iv = .int .i64 (i : Int) ∧ Hid (Below w3.heap.size w3 wr)) (fun iv wr => ns - (intOf iv).toNat)
      case atStart => exact ⟨0, Nat.zero_le _, rfl, Lib.hid (Below.refl _ _)⟩
      case round =>
        obtain ⟨j, hj, rfl, hK⟩ := hrel
        obtain ⟨x0, x1, x2, x3⟩ := (X3.out.below hK.out).c0
        obtain ⟨r0, r1, r2, r3⟩ := (R3.out.below hK.out).c0
        by_cases hlt : j < ns
        · have hlt2 : (j : Int) < (ns : Int) := by omega
          obtain ⟨t, ht⟩ : ∃ t, s.stos[j]? = some t := ⟨_, List.getElem?_eq_getElem (by have := HN.out.2.1; omega)⟩
          obtain ⟨b0, o0, rfl, _, hb0, c0⟩ := (U3.out.below hK.out).atS ht hlt
          obtain ⟨b1, o1, rfl, _, hb1, c1⟩ := (U3'.out.below hK.out).atS ht hlt
          have y0 := c0 0 _ rfl
          have y1 := c0 1 _ rfl
          have z0 := c1 0 _ rfl
          have z1 := c1 1 _ rfl
          simp only [Nat.add_zero] at y0 z0
          clear ht c0 c1 hb0 hb1
          go_wp2_with fail
          go_quiet (fail)
          go_wp2
          go_roundw
          case rel => exact ⟨j + 1, by omega, by go_num, Lib.hid (below_drewN hK.out _)⟩
          case measure => simp [intOf]; omega
        · have hge : (ns : Int) ≤ (j : Int) := by omega
          go_wp2
          go_ret
          exact ⟨rfl, K3.out.trans (hK.out.mono hB3.out)⟩
end Go.Proofs.YtljjielekgilpaaGreat
