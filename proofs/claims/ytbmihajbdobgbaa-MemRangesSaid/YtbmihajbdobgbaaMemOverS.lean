/- A tree of keys (of string values): how high, how many keys; a node over two sides. -/
import Derived.Test.YtbmihajbdobgbaaMemMem
set_option linter.unusedVariables false
set_option maxRecDepth 100000
namespace Go.Proofs.Ytbmihajbdobgbaa.MS
open Go.RowKit

def val (x : ByteArray) : Value := .string x
/-- A tree lies in a world. -/
def In (B : Nat) (w : World) (t : Tr ByteArray) : Prop := InT 74 val B w t
namespace In
variable {B C : Nat} {w w' : World} {t l r : Tr ByteArray} {b : Nat} {k : List UInt8} {x : ByteArray}
theorem nil (B : Nat) (w : World) : In B w .nil := trivial
theorem below (h : In B w t) (k : Below B w w') : In B w' t := InT.below h k
theorem mono (h : In B w t) (k : B ≤ C) : In C w t := InT.mono h k
theorem low (h : In B w t) : In w.heap.size w t := InT.low h
theorem seen (h : In B w t) (k : Below w.heap.size w w') : In w'.heap.size w' t := InT.seen h k
theorem c0 (h : In B w (.node b k x l r)) : w.cell? ⟨b, 0, none⟩ = some (.string (bs k)) := InT.c0 h
theorem c1 (h : In B w (.node b k x l r)) : w.cell? ⟨b, 1, none⟩ = some (.string x) := InT.c1 h
theorem c2 (h : In B w (.node b k x l r)) : w.cell? ⟨b, 2, none⟩ = some l.ptr := InT.c2 h
theorem c3 (h : In B w (.node b k x l r)) : w.cell? ⟨b, 3, none⟩ = some r.ptr := InT.c3 h
theorem c4 (h : In B w (.node b k x l r)) : w.cell? ⟨b, 4, none⟩ = some (.int .i64 ((1 + max l.ht r.ht : Nat) : Int)) := InT.c4 h
theorem c5 (h : In B w (.node b k x l r)) : w.cell? ⟨b, 5, none⟩ = some (.int .i64 ((1 + l.sz + r.sz : Nat) : Int)) := InT.c5 h
theorem left (h : In B w (.node b k x l r)) : In B w l := h.2.1
theorem right (h : In B w (.node b k x l r)) : In B w r := h.2.2
theorem lt (h : In B w (.node b k x l r)) : b < w.heap.size := heap_lt h.1.2
end In

theorem high {B : Nat} {t : Tr ByteArray} {w : World} (h : In B w t) : Calls Try.prog 42 #[t.ptr] w fun e w' => e = .returned (.int .i64 (t.ht : Int)) ∧ w' = w := by
  cases t with
  | nil =>
    show Calls Try.prog 42 #[.pointer none] w _
    go_enter Try.func42, Try.ntmps42
    go_wp2
    go_ret
    exact ⟨rfl, rfl⟩
  | node b k x l r =>
    show Calls Try.prog 42 #[.pointer (some ⟨b, 0, none⟩)] w _
    have c4 := h.c4
    obtain ⟨c, hc⟩ : ∃ c : Int, c = ((1 + max l.ht r.ht : Nat) : Int) := ⟨_, rfl⟩
    rw [← hc] at c4
    have HC := Lib.hid hc
    clear hc h
    go_enter Try.func42, Try.ntmps42
    go_wp2
    go_ret
    exact ⟨by rw [HC.out]; rfl, rfl⟩
theorem keys {B : Nat} {t : Tr ByteArray} {w : World} (h : In B w t) : Calls Try.prog 34 #[t.ptr] w fun e w' => e = .returned (.int .i64 (t.sz : Int)) ∧ w' = w := by
  cases t with
  | nil =>
    show Calls Try.prog 34 #[.pointer none] w _
    go_enter Try.func34, Try.ntmps34
    go_wp2
    go_ret
    exact ⟨rfl, rfl⟩
  | node b k x l r =>
    show Calls Try.prog 34 #[.pointer (some ⟨b, 0, none⟩)] w _
    have c5 := h.c5
    obtain ⟨c, hc⟩ : ∃ c : Int, c = ((1 + l.sz + r.sz : Nat) : Int) := ⟨_, rfl⟩
    rw [← hc] at c5
    have HC := Lib.hid hc
    clear hc h
    go_enter Try.func34, Try.ntmps34
    go_wp2
    go_ret
    exact ⟨by rw [HC.out]; rfl, rfl⟩
theorem seen_high {t : Tr ByteArray} {W : World} (h : Hid (In W.heap.size W t)) (n : Seen W) : Calls Try.prog 42 #[t.ptr] n.val fun e w'' => e = .returned (.int .i64 (t.ht : Int)) ∧ ∃ m : Seen W, w'' = m.val :=
  (high (h.out.below n.below)).mono fun e w' ⟨h1, h2⟩ => ⟨h1, n, h2⟩
theorem seen_keys {t : Tr ByteArray} {W : World} (h : Hid (In W.heap.size W t)) (n : Seen W) : Calls Try.prog 34 #[t.ptr] n.val fun e w'' => e = .returned (.int .i64 (t.sz : Int)) ∧ ∃ m : Seen W, w'' = m.val :=
  (keys (h.out.below n.below)).mono fun e w' ⟨h1, h2⟩ => ⟨h1, n, h2⟩

/-- A new node over two sides. -/
def OverPost (k : List UInt8) (x : ByteArray) (l r : Tr ByteArray) (w : World) (e : Ending) (w' : World) : Prop :=
  ∃ b', e = .returned (.pointer (some ⟨b', 0, none⟩)) ∧ In w'.heap.size w' (.node b' k x l r) ∧ Below w.heap.size w w'
theorem over_done {k : List UInt8} {x : ByteArray} {l r : Tr ByteArray} {w m : World} (K : Below w.heap.size w m) (hl : In w.heap.size w l) (hr : In w.heap.size w r) {c4 c5 : Int} (h4 : c4 = ((1 + max l.ht r.ht : Nat) : Int)) (h5 : c5 = ((1 + l.sz + r.sz : Nat) : Int)) {pl pr : Option Addr} (hpl : l.ptr = .pointer pl) (hpr : r.ptr = .pointer pr) :
    OverPost k x l r w (.returned (.pointer (some ⟨m.heap.size, 0, none⟩))) (m.alloc (.cells #[.string (bs k), .string x, .pointer pl, .pointer pr, .int .i64 c4, .int .i64 c5] 74)) := by
  have K' : Below w.heap.size w (m.alloc (.cells #[.string (bs k), .string x, .pointer pl, .pointer pr, .int .i64 c4, .int .i64 c5] 74)) := K.alloc K.size _
  refine ⟨m.heap.size, rfl, ⟨⟨by simp, ?_⟩, hl.seen K', hr.seen K'⟩, K'⟩
  rw [heap_new, h4, h5, ← hpl, ← hpr]
  rfl
set_option maxHeartbeats 1000000 in
theorem over {b : Nat} {k : List UInt8} {x : ByteArray} {l r : Tr ByteArray} {w : World} (h0 : w.cell? ⟨b, 0, none⟩ = some (.string (bs k))) (h1 : w.cell? ⟨b, 1, none⟩ = some (.string x))
    (hl : Hid (In w.heap.size w l)) (hr : Hid (In w.heap.size w r)) (hs : l.sz + r.sz ≤ 1000000) : Calls Try.prog 43 #[.pointer (some ⟨b, 0, none⟩), l.ptr, r.ptr] w fun e w' => OverPost k x l r w e w' := by
  have hb := cell_block h0
  have n0 : ∀ n : Seen w, n.val.cell? ⟨b, 0, none⟩ = some (.string (bs k)) := fun n => by rw [n.below.cell hb]; exact h0
  have n1 : ∀ n : Seen w, n.val.cell? ⟨b, 1, none⟩ = some (.string x) := fun n => by rw [n.below.cell hb]; exact h1
  obtain ⟨pl, hpl⟩ := l.ptr_is
  obtain ⟨pr, hpr⟩ := r.ptr_is
  have HL := fun n => Lib.hid (seen_high hl n)
  have HR := fun n => Lib.hid (seen_high hr n)
  have KL := fun n => Lib.hid (seen_keys hl n)
  have KR := fun n => Lib.hid (seen_keys hr n)
  rw [hpl] at HL KL
  rw [hpr] at HR KR
  have HPL := Lib.hid hpl
  have HPR := Lib.hid hpr
  have e1 := l.ht_le
  have e2 := r.ht_le
  obtain ⟨a1, ha1⟩ : ∃ a : Nat, a = l.ht := ⟨_, rfl⟩
  obtain ⟨a2, ha2⟩ : ∃ a : Nat, a = r.ht := ⟨_, rfl⟩
  obtain ⟨b1, hb1⟩ : ∃ a : Nat, a = l.sz := ⟨_, rfl⟩
  obtain ⟨b2, hb2⟩ : ∃ a : Nat, a = r.sz := ⟨_, rfl⟩
  rw [← ha1] at HL e1
  rw [← ha2] at HR e2
  rw [← hb1] at KL e1 hs
  rw [← hb2] at KR e2 hs
  have A1 := Lib.hid ha1
  have A2 := Lib.hid ha2
  have B1 := Lib.hid hb1
  have B2 := Lib.hid hb2
  rw [hpl, hpr]
  clear hpl hpr ha1 ha2 hb1 hb2 h0 h1
  go_enter Try.func43, Try.ntmps43
  go_wp2_with fail
  refine wp_region_seen_tail 22 (by kernel_rfl) (by kernel_rfl) ?_
  simp only [List.take_succ_cons, List.take_zero, List.drop_succ_cons, List.drop_zero]
  repeat go_big_quiet_step (first | (go_at_call 42; with_reducible exact (HL _).out) | (go_at_call 42; with_reducible exact (HR _).out) | (go_at_call 34; with_reducible exact (KL _).out) | (go_at_call 34; with_reducible exact (KR _).out))
  refine wpQuiet_nil ?_
  rintro _ ⟨m1, rfl⟩
  go_wp2_with fail
  all_goals go_ret
  all_goals exact over_done m1.below hl.out hr.out (by rw [← A1.out, ← A2.out]; omega) (by rw [← B1.out, ← B2.out]; omega) HPL.out HPR.out
end Go.Proofs.Ytbmihajbdobgbaa.MS
