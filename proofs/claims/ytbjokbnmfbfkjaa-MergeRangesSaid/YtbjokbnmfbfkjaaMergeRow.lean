/- The program's row: what a function answers, entry by entry, looked at once each. -/
import Derived.Test.YtbjokbnmfbfkjaaMergeNext
set_option linter.unusedVariables false
set_option maxRecDepth 100000
namespace Go.Proofs.Ytbjokbnmfbfkjaa
open Go.RowKit

/-- A function that answers the entries R one by one, then the error e. -/
structure Raw (f : Nat) (b c : Array Value) (n : Nat) (G : Nat → Prop) (N : List Ent → Int → World → Prop) : Prop where
  enter : Enters Try.prog f
  low : ∀ k, G k → k < n
  size : ∀ R e w, N R e w → n ≤ w.heap.size
  keep : ∀ R e w w', N R e w → w.heap.size ≤ w'.heap.size → (∀ k, G k → w'.heap[k]? = w.heap[k]?) → N R e w'
  next : ∀ R e w, N R e w → Calls Try.prog f (b ++ c) w fun en w' => Ans R e en ∧ (R ≠ [] → N R.tail e w') ∧ Only G w w'
theorem Raw.only {f : Nat} {b c : Array Value} {n : Nat} {G S : Nat → Prop} {N : List Ent → Int → World → Prop} (h : Raw f b c n G N) {R : List Ent} {e : Int} {w w' : World} (hN : N R e w) (k : Only S w w') (hS : ∀ k, G k → ¬ S k) : N R e w' :=
  h.keep _ _ _ _ hN k.size fun j hj => k.block j (Nat.lt_of_lt_of_le (h.low j hj) (h.size _ _ _ hN)) (hS j hj)
theorem Raw.below {f : Nat} {b c : Array Value} {n : Nat} {G : Nat → Prop} {N : List Ent → Int → World → Prop} (h : Raw f b c n G N) {R : List Ent} {e : Int} {w w' : World} (hN : N R e w) (k : Below w.heap.size w w') : N R e w' :=
  h.only hN (Only.of_below' (S := fun _ => False) k rfl) fun _ _ h => h
/-- A row in memory. -/
def Row6 (r : Nat) (nx : Value) (y : Ent) (g k : Bool) (w : World) : Prop := w.heap[r]? = some (.cells #[nx, .string (bs y.key), .string (bs y.val), .bool y.gone, .bool g, .bool k] 63 (0, 0))
namespace Row6
variable {r : Nat} {nx : Value} {y : Ent} {g k : Bool} {w w' : World}
theorem c0 (h : Row6 r nx y g k w) : w.cell? ⟨r, 0, none⟩ = some nx := by unfold Row6 at h; simp [World.cell?, h]
theorem c1 (h : Row6 r nx y g k w) : w.cell? ⟨r, 1, none⟩ = some (.string (bs y.key)) := by unfold Row6 at h; simp [World.cell?, h]
theorem c2 (h : Row6 r nx y g k w) : w.cell? ⟨r, 2, none⟩ = some (.string (bs y.val)) := by unfold Row6 at h; simp [World.cell?, h]
theorem c3 (h : Row6 r nx y g k w) : w.cell? ⟨r, 3, none⟩ = some (.bool y.gone) := by unfold Row6 at h; simp [World.cell?, h]
theorem c4 (h : Row6 r nx y g k w) : w.cell? ⟨r, 4, none⟩ = some (.bool g) := by unfold Row6 at h; simp [World.cell?, h]
theorem c5 (h : Row6 r nx y g k w) : w.cell? ⟨r, 5, none⟩ = some (.bool k) := by unfold Row6 at h; simp [World.cell?, h]
theorem free (h : Row6 r nx y g k w) (j : Nat) : w.frozen? ⟨r, j, none⟩ = false := by unfold Row6 at h; simp [World.frozen?, h]
theorem below (h : Row6 r nx y g k w) (kk : Below w.heap.size w w') : Row6 r nx y g k w' := (kk.block r (heap_lt h)).trans h
theorem only {S : Nat → Prop} (h : Row6 r nx y g k w) (kk : Only S w w') (hS : ¬ S r) : Row6 r nx y g k w' := (kk.block r (heap_lt h) hS).trans h
theorem put5 (h : Row6 r nx y g k w) (k' : Bool) : Row6 r nx y g k' (w.setCell ⟨r, 5, none⟩ (.bool k')) := heap_set (o := 5) h _
theorem put (h : Row6 r nx y g k w) (x : Ent) (g' k' : Bool) : Row6 r nx x g' k' (((((w.setCell ⟨r, 1, none⟩ (.string (bs x.key))).setCell ⟨r, 2, none⟩ (.string (bs x.val))).setCell ⟨r, 3, none⟩ (.bool x.gone)).setCell ⟨r, 4, none⟩ (.bool g')).setCell ⟨r, 5, none⟩ (.bool k')) := by
  have h1 := heap_set (o := 1) h (.string (bs x.key))
  have h2 := heap_set (o := 2) h1 (.string (bs x.val))
  have h3 := heap_set (o := 3) h2 (.bool x.gone)
  have h4 := heap_set (o := 4) h3 (.bool g')
  exact heap_set (o := 5) h4 _
end Row6
/-- The key behind which the row goes on. -/
def lastOf (g : Bool) (y : Ent) : Option (List UInt8) := if g then some y.key else none
/-- What is known of a row of which l is left, then e. -/
def RowI (r n : Nat) (nx : Value) (N : List Ent → Int → World → Prop) (l : List Ent) (e : Int) (b : Bool) (w : World) : Prop :=
  n ≤ w.heap.size ∧ ∃ y g k, Row6 r nx y g k w ∧
    ((b = true ∧ l = []) ∨ (k = true ∧ g = true ∧ ∃ R er, N R er w ∧ l = y :: (toldP er (some y.key) R).1 ∧ e = (toldP er (some y.key) R).2) ∨
      (k = false ∧ b = false ∧ ∃ R er, N R er w ∧ toldP er (lastOf g y) R = (l, e)))
section
variable {f : Nat} {b0 c0 : Array Value} {n0 : Nat} {G : Nat → Prop} {N : List Ent → Int → World → Prop}
theorem rowI_keep (hR : Raw f b0 c0 n0 G N) {r n : Nat} {nx : Value} {l : List Ent} {e : Int} {b : Bool} {w w' : World} (h : RowI r n nx N l e b w) (hs : w.heap.size ≤ w'.heap.size) (k : ∀ j, G j ∨ j = r → w'.heap[j]? = w.heap[j]?) : RowI r n nx N l e b w' := by
  obtain ⟨h1, y, g, kk, h2, h3⟩ := h
  refine ⟨Nat.le_trans h1 hs, y, g, kk, (k r (.inr rfl)).trans h2, ?_⟩
  rcases h3 with h3 | ⟨a, b, R, er, hN, c, d⟩ | ⟨a, b, R, er, hN, c⟩
  · exact .inl h3
  · exact .inr (.inl ⟨a, b, R, er, hR.keep _ _ _ _ hN hs fun j hj => k j (.inl hj), c, d⟩)
  · exact .inr (.inr ⟨a, b, R, er, hR.keep _ _ _ _ hN hs fun j hj => k j (.inl hj), c⟩)
set_option maxHeartbeats 2000000 in
theorem row_drop (hR : Hid (Raw f b0 c0 n0 G N)) (r n : Nat) (hrG : Hid (¬ G r)) (nx : Value) (l : List Ent) (e : Int) (w : World) (key : List UInt8) (hI : Hid (RowI r n nx N l e true w)) :
    Calls Try.prog 36 #[.pointer (some ⟨r, 0, none⟩), .string (bs key)] w fun en w' => en = .returned (.tuple #[]) ∧ RowI r n nx N (passL key l) e l.isEmpty w' ∧ Only (fun k => G k ∨ k = r) w w' := by
  obtain ⟨h1, y, g, k, h6, h3⟩ := hI.out
  have H6 := Lib.hid h6
  have H3 := Lib.hid h3
  have H1 := Lib.hid h1
  have x1 := h6.c1
  have x5 := h6.c5
  have xf := h6.free
  have hsm := same_bytes y.key key
  clear h6 h3 h1
  by_cases hk : y.key = key
  · have hb : ((bs y.key).toList == (bs key).toList) = true := hsm.2 hk
    have HK := Lib.hid hk
    clear hsm hk
    go_enter Try.func36, Try.ntmps36
    go_wp2_with fail
    go_end0
    have hO : Only (fun k => G k ∨ k = r) w (w.setCell ⟨r, 5, none⟩ (.bool false)) := (Only.refl _ _).setCell (p := ⟨r, 5, none⟩) (.inl (.inr rfl)) _
    have hO' : Only (fun k => k = r) w (w.setCell ⟨r, 5, none⟩ (.bool false)) := (Only.refl (fun k => k = r) w).setCell (p := ⟨r, 5, none⟩) (.inl rfl) _
    refine ⟨rfl, ⟨Nat.le_trans H1.out hO.size, y, g, false, H6.out.put5 false, ?_⟩, hO⟩
    rcases H3.out with ⟨_, rfl⟩ | ⟨rfl, rfl, R, er, hN, rfl, rfl⟩ | ⟨_, h, _⟩
    · exact .inl ⟨rfl, rfl⟩
    · refine .inr (.inr ⟨rfl, rfl, R, er, hR.out.only hN hO' fun k hk e => hrG.out (e ▸ hk), ?_⟩)
      simp [passL, HK.out, lastOf]
    · cases h
  · have hb : ((bs y.key).toList == (bs key).toList) = false := by
      cases h : ((bs y.key).toList == (bs key).toList) with
      | false => rfl
      | true => exact absurd (hsm.1 h) hk
    have HK := Lib.hid hk
    clear hsm hk
    go_enter Try.func36, Try.ntmps36
    go_wp2_with fail
    go_end0
    refine ⟨rfl, ⟨H1.out, y, g, k, H6.out, ?_⟩, Only.refl _ _⟩
    rcases H3.out with ⟨_, rfl⟩ | ⟨rfl, rfl, R, er, hN, rfl, rfl⟩ | ⟨_, h, _⟩
    · exact .inl ⟨rfl, rfl⟩
    · refine .inr (.inl ⟨rfl, rfl, R, er, hN, ?_, rfl⟩)
      simp [passL, HK.out]
    · cases h
end
end Go.Proofs.Ytbjokbnmfbfkjaa
