/- The closure that goes over one entry after the other. -/
import Derived.Test.YtmmdhmhcfpghfaaBlockBytes
import Derived.Test.YtmmdhmhcfpghfaaQTail
set_option linter.unusedVariables false
set_option maxRecDepth 100000
namespace Go.Proofs.Ytmmdhmhcfpghfaa
open Go.RowKit

/-- An entry read, in parts. -/
theorem rdE_parts (first : Bool) (last l : List UInt8) :
    (kE last l ≠ 0 ∧ (rdE first last l).1 = kE last l) ∨
    (kE last l = 0 ∧ ∃ (k : Nat) (rest l2 : List UInt8), k = (cn l).toNat ∧ rest = ts (l.drop (ck l)) ∧ l2 = (l.drop (ck l)).drop (tk (l.drop (ck l))) ∧ k ≤ last.length ∧ sharedL last (last.take k ++ rest) = k ∧ k + rest.length ≤ 65536 ∧
      ((vE l2 ≠ 0 ∧ (rdE first last l).1 = vE l2) ∨
       (vE l2 = 0 ∧ ((first = false ∧ ltB last (last.take k ++ rest) = false ∧ (rdE first last l).1 = 3) ∨
          (¬ (first = false ∧ ltB last (last.take k ++ rest) = false) ∧ ∃ n, rdE first last l = (0, ⟨last.take k ++ rest, (l2.drop (ck l2)).take ((cn l2).toNat - 1), (cn l2).toNat == 0⟩, n) ∧ l.drop n = (l2.drop (ck l2)).drop ((cn l2).toNat - 1)))))) := by
  obtain ⟨l1, hl1⟩ : ∃ l1, l1 = l.drop (ck l) := ⟨_, rfl⟩
  obtain ⟨l2, hl2⟩ : ∃ l2, l2 = l1.drop (tk l1) := ⟨_, rfl⟩
  obtain ⟨l3, hl3⟩ : ∃ l3, l3 = l2.drop (ck l2) := ⟨_, rfl⟩
  obtain ⟨k, hk⟩ : ∃ k, k = (cn l).toNat := ⟨_, rfl⟩
  obtain ⟨v, hv⟩ : ∃ v, v = (cn l2).toNat := ⟨_, rfl⟩
  have hK : kE last l = if ce l ≠ 0 then ce l else if te l1 ≠ 0 then te l1 else if last.length < k ∨ sharedL last (last.take k ++ ts l1) ≠ k then 3 else if 65536 < k + (ts l1).length then 6 else 0 := by unfold kE; rw [← hl1, ← hk]
  have hR : rdE first last l = (if ce l ≠ 0 then (ce l, ⟨[], [], false⟩, 0) else if te l1 ≠ 0 then (te l1, ⟨[], [], false⟩, 0) else if last.length < k ∨ sharedL last (last.take k ++ ts l1) ≠ k then (3, ⟨[], [], false⟩, 0) else if 65536 < k + (ts l1).length then (6, ⟨[], [], false⟩, 0)
      else if ce l2 ≠ 0 then (ce l2, ⟨[], [], false⟩, 0) else if 65537 < v then (6, ⟨[], [], false⟩, 0) else if l3.length + 1 < v then (2, ⟨[], [], false⟩, 0) else if first = false ∧ ltB last (last.take k ++ ts l1) = false then (3, ⟨[], [], false⟩, 0)
      else (0, ⟨last.take k ++ ts l1, l3.take (v - 1), v == 0⟩, ck l + tk l1 + ck l2 + (v - 1))) := by
    unfold rdE
    simp only [← hl1, ← hk]
    simp only [← hl2]
    simp only [← hl3, ← hv]
  have hV : vE l2 = if ce l2 ≠ 0 then ce l2 else if 65537 < v then 6 else if l3.length + 1 < v then 2 else 0 := by unfold vE; rw [← hl3, ← hv]
  by_cases g1 : ce l ≠ 0
  · exact .inl (by rw [hK, hR, if_pos g1, if_pos g1]; exact ⟨g1, rfl⟩)
  by_cases g2 : te l1 ≠ 0
  · exact .inl (by rw [hK, hR, if_neg g1, if_neg g1, if_pos g2, if_pos g2]; exact ⟨g2, rfl⟩)
  by_cases g3 : last.length < k ∨ sharedL last (last.take k ++ ts l1) ≠ k
  · exact .inl (by rw [hK, hR, if_neg g1, if_neg g1, if_neg g2, if_neg g2, if_pos g3, if_pos g3]; exact ⟨by decide, rfl⟩)
  by_cases g4 : 65536 < k + (ts l1).length
  · exact .inl (by rw [hK, hR, if_neg g1, if_neg g1, if_neg g2, if_neg g2, if_neg g3, if_neg g3, if_pos g4, if_pos g4]; exact ⟨by decide, rfl⟩)
  rw [if_neg g1, if_neg g2, if_neg g3, if_neg g4] at hK hR
  refine .inr ⟨hK, k, ts l1, l2, hk, by rw [hl1], by rw [hl2, hl1], by omega, Decidable.of_not_not fun e => g3 (.inr e), by omega, ?_⟩
  by_cases g5 : ce l2 ≠ 0
  · exact .inl (by rw [hV, hR, if_pos g5, if_pos g5]; exact ⟨g5, rfl⟩)
  by_cases g6 : 65537 < v
  · exact .inl (by rw [hV, hR, if_neg g5, if_neg g5, if_pos g6, if_pos g6]; exact ⟨by decide, rfl⟩)
  by_cases g7 : l3.length + 1 < v
  · exact .inl (by rw [hV, hR, if_neg g5, if_neg g5, if_neg g6, if_neg g6, if_pos g7, if_pos g7]; exact ⟨by decide, rfl⟩)
  rw [if_neg g5, if_neg g6, if_neg g7] at hV hR
  refine .inr ⟨hV, ?_⟩
  by_cases g8 : first = false ∧ ltB last (last.take k ++ ts l1) = false
  · exact .inl ⟨g8.1, g8.2, by rw [hR, if_pos g8]⟩
  · refine .inr ⟨g8, ck l + tk l1 + ck l2 + (v - 1), by rw [hR, if_neg g8, ← hl3, ← hv], ?_⟩
    rw [← hl3, ← hv, hl3, hl2, hl1, List.drop_drop, List.drop_drop, List.drop_drop]
    congr 1
    omega
/-- What the closure remembers: the key ahead, and whether there is one. -/
structure Ahd (B c1 c2 : Nat) (first : Bool) (last : List UInt8) (w : World) : Prop where
  row : ∃ v, w.heap[c1]? = some (.cells #[v] 39 (0, 0)) ∧ OffRow w B 5 1 v last.length (last.map fun b => Value.int .u8 b.toNat)
  flag : w.heap[c2]? = some (.cells #[.bool first] 4 (0, 0))
  b1 : B ≤ c1
  b2 : B ≤ c2
/-- All below B is kept, and all rows of what is told. -/
structure Tb (B : Nat) (w w' : World) : Prop where
  bel : Below B w w'
  keep : ∀ (k : Nat) (cs : Array Value) (z : Nat × Nat), w.heap[k]? = some (.cells cs 64 z) → w'.heap[k]? = some (.cells cs 64 z)
theorem Tb.trans {B : Nat} {a b c : World} (h : Tb B a b) (k : Tb B b c) : Tb B a c := ⟨h.bel.trans k.bel, fun i cs z hi => k.keep i cs z (h.keep i cs z hi)⟩
theorem Tb.of_below {B : Nat} {w w' : World} (h : Below w.heap.size w w') (hB : B ≤ w.heap.size) : Tb B w w' := ⟨h.mono hB, fun k cs z hk => (h.block k (heap_lt hk)).trans hk⟩
theorem Tb.of_read {B r : Nat} {s : ByteArray} {w w' : World} (h : Only (fun k => k = r) w w') (hr : Rt r s w) (hB : B ≤ r) : Tb B w w' :=
  ⟨h.below (fun k _ e => by omega) (by have := hr.lt; omega), fun k cs z hk => (h.block k (heap_lt hk) (fun e => by subst e; unfold Rt at hr; rw [hr] at hk; injection hk with hk; injection hk with _ hk; cases hk)).trans hk⟩
/-- What is remembered is kept where other kinds of blocks are written. -/
theorem Ahd.keep {B c1 c2 : Nat} {first : Bool} {last : List UInt8} {w w' : World} (h : Ahd B c1 c2 first last w) (k : ∀ (j : Nat) (cs : Array Value) (t : TypeId) (z : Nat × Nat), w.heap[j]? = some (.cells cs t z) → (t = 39 ∨ t = 4 ∨ t = 5) → w'.heap[j]? = some (.cells cs t z)) : Ahd B c1 c2 first last w' := by
  obtain ⟨v, h1, h2⟩ := h.row
  refine ⟨⟨v, k _ _ _ _ h1 (.inl rfl), ?_⟩, k _ _ _ _ h.flag (.inr (.inl rfl)), h.b1, h.b2⟩
  refine h2.kept fun j hj => ?_
  obtain ⟨cur, hc⟩ := h2.tag hj
  rw [hc]
  exact k _ _ _ _ hc (.inr (.inr rfl))
theorem Ahd.below {B c1 c2 : Nat} {first : Bool} {last : List UInt8} {w w' : World} (h : Ahd B c1 c2 first last w) (k : Below w.heap.size w w') : Ahd B c1 c2 first last w' := h.keep fun j cs t z hj _ => (k.block j (heap_lt hj)).trans hj
theorem Ahd.read {B c1 c2 r : Nat} {first : Bool} {last : List UInt8} {s : ByteArray} {w w' : World} (h : Ahd B c1 c2 first last w) (hr : Rt r s w) (k : Only (fun k => k = r) w w') : Ahd B c1 c2 first last w' :=
  h.keep fun j cs t z hj ht => (k.block j (heap_lt hj) (fun e => by
    subst e
    unfold Rt at hr
    rw [hr] at hj
    injection hj with hj
    injection hj with _ hj
    subst hj
    rcases ht with h | h | h <;> cases h)).trans hj
theorem Ahd.by {B c1 c2 : Nat} {first : Bool} {last : List UInt8} {w : World} (h : Ahd B c1 c2 first last w) : ∃ v, w.cell? ⟨c1, 0, none⟩ = some v ∧ IsBy w v last := by
  obtain ⟨v, h1, h2⟩ := h.row
  exact ⟨v, by simp [World.cell?, h1], h2.by⟩
/-- What the closure leaves. -/
structure TakerPost (B r c1 c2 : Nat) (first : Bool) (last l : List UInt8) (w : World) (e : Ending) (w' : World) : Prop where
  out : ∃ t s, e = .returned (.tuple #[Tld.V t, .int .i64 (rdE first last l).1]) ∧ Rt r (bs s) w' ∧ ((rdE first last l).1 = 0 → t = tldOf last (rdE first last l).2.1 ∧ s = l.drop (rdE first last l).2.2 ∧ Ahd B c1 c2 false (rdE first last l).2.1.key w')
  tb : Tb B w w'
end Go.Proofs.Ytmmdhmhcfpghfaa
