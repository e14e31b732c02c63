/- What a walk of a tree has before it; slices of one's own, shorter. -/
import Derived.Test.YtbmihajbdobgbaaMemKept
set_option linter.unusedVariables false
set_option maxRecDepth 100000
namespace Go.Proofs.Ytbmihajbdobgbaa
open Go.RowKit

theorem OffRow.take {w : World} {B : Nat} {e : TypeId} {size : Nat} {a : Option Addr} {n cap : Nat} {xs : List Value} (h : OffRow w B e size (.slice a n cap) n xs) {k : Nat} (hk : k ≤ n) : OffRow w B e size (.slice a k cap) k (xs.take (k * size)) := by
  have hle : k * size ≤ n * size := Nat.mul_le_mul_right _ hk
  refine ⟨by rw [List.length_take, h.1]; omega, ?_⟩
  rcases h.2 with ⟨h0, rfl⟩ | ⟨g, off, cap', cur, h0, hB, hg, h1, h2, h3, h4⟩
  · injection h0 with e1 _ e3
    subst e1 e3
    obtain rfl : k = 0 := by omega
    exact .inl ⟨rfl, rfl⟩
  · injection h0 with e1 _ e3
    subst e1 e3
    exact .inr ⟨g, off, cap, cur, rfl, hB, hg, by omega, h2, h3, fun j hj => by rw [h4 j (by omega), List.getElem?_take, if_pos hj]⟩
theorem OffRow.le {w : World} {B : Nat} {e : TypeId} {size : Nat} {a : Option Addr} {n cap : Nat} {xs : List Value} (h : OffRow w B e size (.slice a n cap) n xs) : n ≤ cap ∧ cap ≤ maxLen ∧ (a = none → cap = 0) ∧ ∀ x, a = some x → x.spot = none := by
  rcases h.2 with ⟨h0, rfl⟩ | ⟨g, off, cap', cur, h0, hB, hg, h1, h2, h3, h4⟩
  · injection h0 with e1 _ e3
    subst e1 e3
    exact ⟨Nat.le_refl _, by unfold maxLen; omega, fun _ => rfl, fun x hx => by cases hx⟩
  · injection h0 with e1 _ e3
    subst e1 e3
    exact ⟨h1, h2, fun hx => (by cases hx), fun x hx => (by injection hx with hx; rw [← hx])⟩
/-- The slice expression 's[:k]'. -/
theorem slice_to {P : Program} {t e : TypeId} {i : TypeInfo} (ht : P.underlying t = some (.slice e)) (hi : P.info? e = some i) {a : Option Addr} {n cap k : Nat} (hk : k ≤ cap) (ha : ∀ x, a = some x → x.spot = none) (hn : a = none → cap = 0) (W : World) :
    (Instr.slice t (.slice a n cap) none (some (.int .i64 (k : Int))) none).run P W = .ok (.slice a k cap) W := by
  have h1 : (k : Int) ≤ (cap : Int) := by omega
  cases a with
  | none =>
    obtain rfl : cap = 0 := hn rfl
    obtain rfl : k = 0 := by omega
    simp [Instr.slice, run_underlying ht, Instr.sliceBounds, run_sliceBound, sizeOf, typeInfo, hi]
  | some x =>
    obtain ⟨b, off, spot⟩ := x
    have := ha _ rfl
    simp only at this
    subst this
    simp [Instr.slice, run_underlying ht, Instr.sliceBounds, run_sliceBound, sizeOf, typeInfo, hi, hk, h1, addr_add]
theorem OffRow.allocd {w : World} {B n size : Nat} {e : TypeId} {v : Value} {xs : List Value} (h : OffRow w B e size v n xs) (o : Obj) : OffRow (w.alloc o) B e size v n xs := h.kept fun j hj => Below.heap_alloc w o j (h.lt j hj).2
theorem OffRow.below {w w' : World} {B n size : Nat} {e : TypeId} {v : Value} {xs : List Value} (h : OffRow w B e size v n xs) (k : Below w.heap.size w w') : OffRow w' B e size v n xs := h.kept fun j hj => k.block j (h.lt j hj).2
theorem OffRow.mono {w : World} {B C n size : Nat} {e : TypeId} {v : Value} {xs : List Value} (h : OffRow w B e size v n xs) (hv : ∀ j, v.ownBlock = some j → C ≤ j) : OffRow w C e size v n xs := by
  refine ⟨h.1, ?_⟩
  rcases h.2 with h0 | ⟨g, off, cap, cur, rfl, hB, hg, h1⟩
  · exact .inl h0
  · exact .inr ⟨g, off, cap, cur, rfl, hv g rfl, hg, h1⟩

section
variable {α : Type}
/-- The way down to a key: the nodes that are not below it. -/
def path (k : List UInt8) : Tr α → List (Tr α)
  | .nil => []
  | .node b k0 x l r => if ltB k0 k then path k r else .node b k0 x l r :: path k l
theorem path_len (k : List UInt8) : ∀ t : Tr α, (path k t).length ≤ t.ht
  | .nil => Nat.le_refl _
  | .node b k0 x l r => by
    have := path_len k l
    have := path_len k r
    simp only [path, Tr.ht]
    split
    · omega
    · simp only [List.length_cons]; omega
/-- What nodes tell, each itself and what is above it. -/
def tl : List (Tr α) → List (List UInt8 × α)
  | [] => []
  | .nil :: R => tl R
  | .node _ k x _ r :: R => (k, x) :: (r.prs ++ tl R)
theorem tl_path {k : List UInt8} : ∀ {t : Tr α} {R : List (Tr α)}, ris t.prs → tl ((path k t).reverse ++ R) = fromP k t.prs ++ tl R
  | .nil, R, _ => rfl
  | .node b k0 x l r, R, h => by
    have hm := ris_mid h
    simp only [path, Tr.prs]
    cases hk : ltB k0 k with
    | true =>
      rw [if_pos rfl, tl_path hm.2.1, fromP_low hk hm.2.2.1]
    | false =>
      rw [if_neg (by decide), fromP_high hk hm.2.2.2]
      simp only [List.reverse_cons, List.append_assoc, List.cons_append, List.nil_append]
      rw [tl_path hm.1]
      rfl
theorem path_mem {k : List UInt8} {s : Tr α} : ∀ {t : Tr α}, s ∈ path k t → ∀ (p : Tr α → Prop), p t → (∀ b k0 x l r, p (.node b k0 x l r) → p l ∧ p r) → p s ∧ ∃ b k0 x l r, s = .node b k0 x l r
  | .nil, h, _, _, _ => by cases h
  | .node b k0 x l r, h, p, h0, hp => by
    simp only [path] at h
    split at h
    · exact path_mem h p (hp _ _ _ _ _ h0).2 hp
    · rcases List.mem_cons.1 h with rfl | h
      · exact ⟨h0, _, _, _, _, _, rfl⟩
      · exact path_mem h p (hp _ _ _ _ _ h0).1 hp
theorem tl_len : ∀ {S : List (Tr α)}, (∀ s ∈ S, ∃ b k0 x l r, s = Tr.node b k0 x l r) → S.length ≤ (tl S).length
  | [], _ => Nat.le_refl _
  | s :: S, h => by
    obtain ⟨b, k0, x, l, r, rfl⟩ := h s (by simp)
    have := tl_len fun s' hs => h s' (List.mem_cons_of_mem _ hs)
    simp only [tl, List.length_cons, List.length_append]
    omega
end
end Go.Proofs.Ytbmihajbdobgbaa
