/- Programs made so that their cells and mutexes are there. -/
import Derived.Test.YtccliallljcjgaaRefBegun
set_option linter.unusedVariables false
namespace Go.Proofs.Ytccliallljcjgaa
open Go.RowKit

/-- A step as it comes in. -/
structure RI where
  k : Int
  c : Int
  n : Int
  m : Int
  f : Int
instance : Inhabited RI := ⟨⟨0, 0, 0, 0, 0⟩⟩
def RI.vals (x : RI) : List Value := [.int .i64 x.k, .int .i64 x.c, .int .i64 x.n, .int .i64 x.m, .int .i64 x.f]
def inI (z : Int) : Prop := -9223372036854775808 ≤ z ∧ z ≤ 9223372036854775807
structure RI.In (x : RI) : Prop where
  k : inI x.k
  c : inI x.c
  n : inI x.n
  m : inI x.m
  f : inI x.f
def ub (z : Int) (d : Int) : Nat := (z % 18446744073709551616 % d).toNat
def clean (x : RI) : INS := ⟨x.k, ub x.c 4, x.n.tmod 1000, ub x.m 5, ub x.f 5⟩
theorem ub_lt (z d : Int) (h : 0 < d) : (ub z d : Int) < d := by
  unfold ub
  have h1 := Int.emod_nonneg (z % 18446744073709551616) (show d ≠ 0 by omega)
  have h2 := Int.emod_lt_of_pos (z % 18446744073709551616) h
  omega
theorem clean_ok (x : RI) (h : x.In) : (clean x).Ok := by
  have h1 := ub_lt x.c 4 (by omega)
  have h2 := ub_lt x.m 5 (by omega)
  have h3 := ub_lt x.f 5 (by omega)
  have h4 := Int.tmod_lt_of_pos x.n (show (0 : Int) < 1000 by omega)
  have h5 : -1000 < x.n.tmod 1000 := by
    have e1 := Int.emod_nonneg x.n (show (1000 : Int) ≠ 0 by omega)
    rw [Int.tmod_eq_emod]
    split <;> omega
  exact ⟨by simp only [clean]; omega, by simp only [clean]; omega, by simp only [clean]; omega, h5, h4, h.k⟩
/-- A program as it comes in. -/
structure RP where
  a : Option Addr
  cap : Nat
  l : List RI
instance : Inhabited RP := ⟨⟨none, 0, []⟩⟩
def RowR (b off : Nat) (l : List RI) (w : World) : Prop := ∀ k (h : k < l.length), b < w.heap.size ∧ (∀ j, j < 5 → w.cell? ⟨b, off + k * 5 + j, none⟩ = (l[k].vals)[j]?) ∧ l[k].In
/-- Programs as they come in. -/
structure Raw (w : World) (a : Option Addr) (n : Nat) (R : List RP) : Prop where
  len : n = R.length
  row : ∃ b off, (n = 0 ∨ a = some ⟨b, off, none⟩) ∧ ∀ (i : Nat) (q : RP), R[i]? = some q → b < w.heap.size ∧ w.cell? ⟨b, off + i, none⟩ = some (.slice q.a q.l.length q.cap)
  each : ∀ (i : Nat) (q : RP), R[i]? = some q → ∃ b off, (q.l.length = 0 ∨ q.a = some ⟨b, off, none⟩) ∧ RowR b off q.l w
theorem info73 : (Try.prog.info? 73).map (fun i => (i.zero, i.size, i.bytes)) = some (some (.agg #[.int .i64 0, .int .i64 0, .int .i64 0, .int .i64 0, .int .i64 0]), 5, 40) := by kernel_rfl
theorem info44 : (Try.prog.info? 44).map (fun i => (i.zero, i.size, i.bytes)) = some (some (.slice none 0 0), 1, 24) := by kernel_rfl
def ivs (l : List INS) : List Value := l.flatMap fun x => x.vals.toList
/-- A program's row that a call has made. -/
def OwnI (B : Nat) (v : Value) (l : List INS) (w : World) : Prop := w.ownsRow B 73 5 v l.length (ivs l)

theorem ivs_len (l : List INS) : (ivs l).length = l.length * 5 := by
  induction l with
  | nil => rfl
  | cons x l ih =>
    have e : ivs (x :: l) = x.vals.toList ++ ivs l := rfl
    rw [e, List.length_append, ih]
    simp [INS.vals]
    omega
theorem ivs_get (l : List INS) (i j : Nat) (hi : i < l.length) (hj : j < 5) : (ivs l)[i * 5 + j]? = (l[i].vals)[j]? := by
  induction l generalizing i with
  | nil => simp at hi
  | cons x l ih =>
    have e : ivs (x :: l) = x.vals.toList ++ ivs l := rfl
    have h5 : x.vals.toList.length = 5 := rfl
    rw [e]
    cases i with
    | zero =>
      rw [List.getElem?_append_left (by omega)]
      simp
    | succ i =>
      rw [List.getElem?_append_right (by omega), h5, show (i + 1) * 5 + j - 5 = i * 5 + j by omega, ih i (by simp at hi; omega)]
      rfl
/-- A task that has done nothing. -/
structure Fresh (w : World) (t : TK) : Prop where
  ok : ∀ x ∈ t.l, x.Ok
  few : t.l.length ≤ 60
  row : t.l.length = 0 ∨ ∃ b cur, t.a = some ⟨b, 0, none⟩ ∧ w.heap[b]? = some (.cells cur 73 (0, 0)) ∧ ∀ k (hk : k < t.l.length) j, j < 5 → cur[k * 5 + j]? = (t.l[k].vals)[j]?
  a : t.at_ = 0
  k : t.known = 0
  g : t.gone = decide (t.l.length = 0)
theorem OwnI.fresh {B : Nat} {v : Value} {l : List INS} {w : World} (h : OwnI B v l w) (hok : ∀ x ∈ l, x.Ok) (h60 : l.length ≤ 60) : ∃ a cap, v = .slice a l.length cap ∧ Fresh w ⟨a, cap, l, 0, 0, decide (l.length = 0)⟩ := by
  obtain ⟨_, ⟨rfl, h1⟩ | ⟨g, cap, cur, rfl, hB, hg, h1, h2, h3, h4⟩⟩ := h
  · exact ⟨none, 0, by rw [h1], hok, h60, .inl h1, rfl, rfl, rfl⟩
  · refine ⟨some ⟨g, 0, none⟩, cap, rfl, hok, h60, .inr ⟨g, cur, rfl, hg, fun k hk j hj => ?_⟩, rfl, rfl, rfl⟩
    have h5 : (cur.toList.take (l.length * 5))[k * 5 + j]? = (ivs l)[k * 5 + j]? := by rw [h4]
    rw [List.getElem?_take, if_pos (by simp only at hk; omega), ivs_get l k j hk hj] at h5
    simpa using h5
theorem Fresh.kept {w w' : World} {t : TK} (h : Fresh w t) (k : ∀ (b : Nat) (cur : Array Value), w.heap[b]? = some (.cells cur 73 (0, 0)) → w'.heap[b]? = w.heap[b]?) : Fresh w' t := by
  refine ⟨h.ok, h.few, ?_, h.a, h.k, h.g⟩
  rcases h.row with h1 | ⟨b, cur, h1, h2, h3⟩
  · exact .inl h1
  · exact .inr ⟨b, cur, h1, (k b cur h2).trans h2, h3⟩
theorem Fresh.below {w w' : World} {t : TK} (h : Fresh w t) (k : Below w.heap.size w w') : Fresh w' t := h.kept fun b cur hb => k.block b (heap_lt hb)
theorem Fresh.prog {w : World} {t : TK} (h : Fresh w t) (h0 : 0 < w.heap.size) : IsProg w w.heap.size t.a t.l.length t.l := by
  rcases h.row with h1 | ⟨b, cur, h1, h2, h3⟩
  · exact ⟨rfl, h.few, h.ok, 0, 0, h0, .inl h1, fun k hk => by omega⟩
  · refine ⟨rfl, h.few, h.ok, b, 0, heap_lt h2, .inr h1, fun k hk => ⟨heap_lt h2, fun j hj => ?_⟩⟩
    simp only [World.cell?, h2, Nat.zero_add]
    exact h3 k hk j hj
/-- A row of programs that a call has made. -/
def sv (t : TK) : Value := .slice t.a t.l.length t.cap
def OwnS (B : Nat) (v : Value) (L : List TK) (w : World) : Prop := w.ownsRow B 44 1 v L.length (L.map sv)
theorem OwnS.tag {B : Nat} {v : Value} {L : List TK} {w : World} (h : OwnS B v L w) {q : Nat} (hq : v.ownBlock = some q) : ∃ cur, w.heap[q]? = some (.cells cur 44 (0, 0)) := by
  obtain ⟨_, ⟨rfl, h0⟩ | ⟨g, cap, cur, rfl, hB, hg, _⟩⟩ := h
  · simp [Value.ownBlock] at hq
  · simp [Value.ownBlock] at hq
    subst hq
    exact ⟨cur, hg⟩
theorem OwnS.kept {w w' : World} {B : Nat} {v : Value} {L : List TK} (h : OwnS B v L w) (k : Below w.heap.size w w') : OwnS B v L w' := by
  obtain ⟨h1, ⟨rfl, h0⟩ | ⟨g, cap, cur, rfl, hB, hg, h2⟩⟩ := h
  · exact ⟨h1, .inl ⟨rfl, h0⟩⟩
  · exact ⟨h1, .inr ⟨g, cap, cur, rfl, hB, (k.block g (heap_lt hg)).trans hg, h2⟩⟩
theorem Fresh.grown {w wA w' : World} {t : TK} (h : Fresh w t) {B : Nat} {v : Value} {L : List TK} (ho : OwnS B v L w) (hA : Below w.heap.size w wA) (hg : wA.grownBy w' v.ownBlock) : Fresh w' t :=
  h.kept fun b cur hb => (hg.block b (Nat.lt_of_lt_of_le (heap_lt hb) hA.size) (fun e => by
    obtain ⟨c, hc⟩ := ho.tag e.symm
    rw [hc] at hb
    injection hb with hb
    injection hb with _ hb
    exact absurd hb (by decide))).trans (hA.block b (heap_lt hb))
/-- The programs, for the tasks that are begun of them. -/
theorem OwnS.progs {B : Nat} {v : Value} {L : List TK} {w : World} (h : OwnS B v L w) (hf : ∀ t ∈ L, Fresh w t) (h8 : L.length ≤ 8) : ∃ a cap, v = .slice a L.length cap ∧ (0 < L.length → Progs w w.heap.size a L.length L) := by
  have hmem : ∀ (i : Nat) (q : TK), L[i]? = some q → q ∈ L := fun i q hq => List.mem_of_getElem? hq
  obtain ⟨_, ⟨rfl, h1⟩ | ⟨g, cap, cur, rfl, hB, hg, h1, h2, h3, h4⟩⟩ := h
  · exact ⟨none, 0, by rw [h1], fun h => by omega⟩
  · have h0 : 0 < w.heap.size := by have := heap_lt hg; omega
    refine ⟨some ⟨g, 0, none⟩, cap, rfl, fun _ => ⟨rfl, h8, ⟨g, 0, .inr rfl, heap_lt hg, fun i q hq => ⟨heap_lt hg, ?_⟩⟩, fun i q hq => ?_⟩⟩
    · have hi := lt_of_get hq
      have h5 : (cur.toList.take (L.length * 1))[i]? = (L.map sv)[i]? := by rw [h4]
      rw [List.getElem?_take, if_pos (by omega), List.getElem?_map, hq] at h5
      simp only [World.cell?, hg, Nat.zero_add]
      simpa [sv] using h5
    · have hF := hf q (hmem i q hq)
      exact ⟨hF.prog h0, hF.a, hF.k, hF.g⟩
end Go.Proofs.Ytccliallljcjgaa
