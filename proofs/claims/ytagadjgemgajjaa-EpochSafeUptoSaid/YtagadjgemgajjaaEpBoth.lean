/- The program's book beside the document's. -/
import Derived.Test.YtagadjgemgajjaaEpRefFree
import Derived.Test.YtagadjgemgajjaaEpAwake
set_option linter.unusedVariables false
namespace Go.Proofs.Ytagadjgemgajjaa
open Go.RowKit

/-- Both lie from block B on, apart from one another. -/
structure Mid (B : Nat) (w0 w : World) (q : AtB) (r : AtR) (s1 s2 : EB) : Prop where
  bk : Bk 58 62 B w q s1
  rk : Rk B w r s2.rb
  dis : ∀ j, q.S j → ¬ r.S j
  bel : Below B w0 w
  bz : B ≤ w.heap.size
namespace Mid
variable {B : Nat} {w0 w w1 : World} {q q' : AtB} {r r' : AtR} {s1 s2 s' : EB}
theorem go (h : Mid B w0 w q r s1 s2) (k : Turned 58 62 B w q s' w1 q') : Mid B w0 w1 q' r s' s2 := by
  refine ⟨k.bk, h.rk.only k.only fun j hj hq => h.dis j hq hj, fun j hj hr => ?_, h.bel.trans (k.bel h.bk h.bz), Nat.le_trans h.bz k.only.size⟩
  rcases k.sub j hj with x | x
  · exact h.dis j x hr
  · have := (h.rk.low j hr).2
    omega
theorem ref (h : Mid B w0 w q r s1 s2) (k : RTurned B w r s'.rb w1 r') : Mid B w0 w1 q r' s1 s' := by
  refine ⟨h.bk.only k.only fun j hj hq => h.dis j hj hq, k.rk, fun j hj hr => ?_, h.bel.trans (k.only.below (fun k _ hs => (h.rk.low k hs).1) h.bz), Nat.le_trans h.bz k.only.size⟩
  rcases k.sub j hr with x | x
  · exact h.dis j hj x
  · have := (h.bk.low j hj).2
    omega
theorem kept (h : Mid B w0 w q r s1 s2) (k : Below w.heap.size w w1) : Mid B w0 w1 q r s1 s2 :=
  ⟨h.bk.below k, h.rk.below k, h.dis, h.bel.trans (k.mono h.bz), Nat.le_trans h.bz k.size⟩
end Mid
theorem below_drewN {w0 w : World} {B : Nat} (h : Below B w0 w) (n : Nat) : Below B w0 (w.drewN n) := ⟨h.os, h.tape, h.output, h.size, h.block⟩
/-- A slice that is appended as it is. -/
theorem src_vals {t e' : TypeId} (hk : Try.prog.underlying t = some (.slice e')) {w : World} {a : Option Addr} {n : Nat} (c : Nat) {l : List Value} (h : IsVals w a n l) (h1 : ∀ v ∈ l, v.oneCell' = true) : Src Try.prog 1 t (.slice a n c) n l w := by
  obtain ⟨hn, b, off, ha, hc⟩ := h
  cases a with
  | none =>
    have h0 : n = 0 := by
      rcases ha with x | x
      · exact x
      · cases x
    subst h0
    obtain rfl : l = [] := List.eq_nil_of_length_eq_zero hn.symm
    exact Src.ofNil w hk c
  | some x =>
    refine Src.ofSlice w hk x n c l (by omega) (fun j u hu => ?_) h1
    have hj := (List.getElem?_eq_some_iff.1 hu).1
    have := ha.resolve_left (by omega)
    injection this with this
    subst this
    rw [addr_add]
    exact (hc j u hu).2
/-- A row that is made and holds nothing. -/
theorem off_empty (w : World) {B : Nat} (hB : B ≤ w.heap.size) (e : TypeId) (size : Nat) : OffRow (w.alloc (.cells #[] e)) B e size (.slice (some ⟨w.heap.size, 0, none⟩) 0 0) 0 [] :=
  ⟨by simp, .inr ⟨w.heap.size, 0, 0, #[], rfl, hB, heap_new w _, Nat.le_refl _, by unfold maxLen; omega, by simp, fun j hj => by simp at hj⟩⟩
/-- Two slices of the same texts are the same. -/
theorem law_Same {w : World} {a b : Option Addr} {n : Nat} (c d : Nat) {l : List Value} (ha : IsVals w a n l) (hb : IsVals w b n l) (hn : n ≤ 1099511627776) (hs : ∀ v ∈ l, ∃ t, v = Value.string t) : Calls Try.prog 16 #[.slice a n c, .slice b n d] w fun e w' => e = .returned (.bool true) ∧ ∃ m, w' = w.drewN m := by
  have HA := Lib.hid ha
  have HB := Lib.hid hb
  have HS := Lib.hid hs
  clear ha hb hs
  go_enter Try.func16, Try.ntmps16
  go_wp2_with fail
  go_loopw [5] (fun i wr => ∃ k : Nat, k ≤ n ∧ i = .int .i64 (k : Int) ∧ Hid (∃ m, wr = w.drewN m)) (fun i _ => n - (intOf i).toNat)
  case atStart => exact ⟨0, Nat.zero_le _, rfl, Lib.hid ⟨0, rfl⟩⟩
  case round =>
    obtain ⟨k, hk, rfl, hw⟩ := hrel
    by_cases hlt : k < n
    · have hlt' : (k : Int) < (n : Int) := by omega
      have hk0 : (0 : Int) ≤ (k : Int) := by omega
      obtain ⟨h1, b1, o1, x1, y1⟩ := HA.out
      obtain ⟨h2, b2, o2, x2, y2⟩ := HB.out
      obtain ⟨v, hv⟩ : ∃ v, l[k]? = some v := ⟨_, List.getElem?_eq_getElem (by omega)⟩
      obtain ⟨t, rfl⟩ := HS.out v (List.mem_of_getElem? hv)
      have z1 : ∀ m, (wr.drewN m).cell? ⟨b1, o1 + k, none⟩ = some (.string t) := by obtain ⟨m, rfl⟩ := hw.out; intro _; exact (y1 k _ hv).2
      have z2 : ∀ m, (wr.drewN m).cell? ⟨b2, o2 + k, none⟩ = some (.string t) := by obtain ⟨m, rfl⟩ := hw.out; intro _; exact (y2 k _ hv).2
      have e1 := x1.resolve_left (by omega)
      have e2 := x2.resolve_left (by omega)
      subst e1 e2
      clear h1 h2 x1 x2 y1 y2 hv
      go_wp2_with fail
      go_quiet (fail)
      go_wp2_with fail
      go_roundw
      case rel => exact ⟨k + 1, by omega, by go_num, Lib.hid (by obtain ⟨m, hm⟩ := hw.out; exact ⟨_, by rw [hm, World.drewN_drewN]⟩)⟩
      case measure => simp [intOf]; omega
    · go_wp2_with fail
      go_ret
      exact ⟨rfl, hw.out⟩
end Go.Proofs.Ytagadjgemgajjaa
