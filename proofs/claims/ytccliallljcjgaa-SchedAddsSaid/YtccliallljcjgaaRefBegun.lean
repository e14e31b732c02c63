/- The document's world is begun: as a whole. -/
import Derived.Test.YtccliallljcjgaaRefNew
set_option linter.unusedVariables false
namespace Go.Proofs.Ytccliallljcjgaa
open Go.RowKit

theorem Progs.mono {w : World} {B B' : Nat} {a : Option Addr} {n : Nat} {L : List TK} (h : Progs w B a n L) (hB : B ≤ B') : Progs w B' a n L := by
  obtain ⟨b, off, h1, h2, h3⟩ := h.row
  refine ⟨h.len, h.few, ⟨b, off, h1, by omega, h3⟩, fun i q hq => ?_⟩
  obtain ⟨⟨p0, p1, p2, b', off', p3, p4, p5⟩, r⟩ := h.each i q hq
  exact ⟨⟨p0, p1, p2, b', off', by omega, p4, p5⟩, r⟩
theorem Progs.below {w w' : World} {B : Nat} {a : Option Addr} {n : Nat} {L : List TK} (h : Progs w B a n L) (k : Below w.heap.size w w') : Progs w' B a n L := by
  obtain ⟨b, off, h1, h2, h3⟩ := h.row
  refine ⟨h.len, h.few, ⟨b, off, h1, h2, fun i q hq => ?_⟩, fun i q hq => ?_⟩
  · obtain ⟨r1, r2⟩ := h3 i q hq
    exact ⟨Nat.lt_of_lt_of_le r1 k.size, (k.cell (p := ⟨b, off + i, none⟩) r1).trans r2⟩
  · obtain ⟨r1, r⟩ := h.each i q hq
    exact ⟨r1.kept k.size fun j hj _ => k.block j hj, r⟩
/-- The blocks of the document's world. -/
def SS5 (q : At5) (j : Nat) : Prop := j = q.m ∨ j = q.T ∨ j = q.C ∨ j = q.X ∨ j = q.H
theorem ref_New {w : World} {B : Nat} {a : Option Addr} {n cap : Nat} {L : List TK} (h : Progs w B a n L) (hB : B ≤ w.heap.size) (h1 : 1 ≤ n) : Calls Try.prog 11 #[.slice a n cap] w fun e w' => ∃ q : At5, e = .returned (.agg (q.cells L.length 0)) ∧ Below w.heap.size w w' ∧
    (w.heap.size ≤ q.T ∧ w.heap.size ≤ q.C ∧ w.heap.size ≤ q.X ∧ w.heap.size ≤ q.H) ∧
    ∀ m wx, w'.heap.size ≤ m → Below w'.heap.size w' wx → wx.heap[m]? = some (.cells (q.cells L.length 0) 31 (0, 0)) → Lay5 B (SS5 { q with m := m }) wx { q with m := m } (PW.start L) := by
  refine (ref_New_walk (h.mono hB) h1).mono ?_
  rintro e w' ⟨vT, he, w1, hN, hO⟩
  have hLp : 0 < L.length := by have := h.len; omega
  obtain ⟨T, cp, rfl, hBT, hT⟩ := hN.t.row hLp
  have hlt : ∀ k c, w1.heap[k]? = some c → k ≠ w.heap.size → w'.heap[k]? = some c := fun k c hk hne => (hO.block k (heap_lt hk) hne).trans hk
  have hc := hlt _ _ hN.c (by omega)
  have hx := hlt _ _ hN.x (by omega)
  have hh := hlt _ _ hN.h (by omega)
  have hbel : Below w.heap.size w w' := hN.below.trans (hO.below (fun k _ hk => by omega) hN.below.size)
  have hTw : TRow w' T L := by
    obtain ⟨cur, t1, t2⟩ := hT
    have hne : T ≠ w.heap.size := by
      intro e
      rw [e, hN.r] at t1
      injection t1 with t1
      injection t1 with _ t1
      exact absurd t1 (by decide)
    exact ⟨cur, hlt _ _ t1 hne, t2⟩
  refine ⟨⟨0, T, w.heap.size + 1, w.heap.size + 2, w.heap.size + 3, cp⟩, he, hbel, ⟨hBT, by simp only; omega, by simp only; omega, by simp only; omega⟩, fun m wx hm hwx ho => ?_⟩
  have hszs := hbel.size
  obtain ⟨cur, t1, t2⟩ := hTw
  have hTl := heap_lt t1
  have keep : ∀ k c, w'.heap[k]? = some c → wx.heap[k]? = some c := fun k c hk => (hwx.block k (heap_lt hk)).trans hk
  refine ⟨ho, ⟨cur, keep _ _ t1, t2⟩, fun i hi => ?_, ⟨rfl, keep _ _ hc, ?_⟩, ⟨rfl, keep _ _ hx, ?_⟩, ⟨rfl, keep _ _ hh, ?_⟩, by have := h.few; have := h.len; simp only [PW.start]; omega, ⟨by simp only; omega, by simp only; omega, by simp only; omega⟩, by simp [PW.start], .inl rfl, .inr (.inl rfl), .inr (.inr (.inl rfl)), .inr (.inr (.inr (.inl rfl))), .inr (.inr (.inr (.inr rfl))), fun k hk => ?_⟩
  · simp only [PW.start] at hi ⊢
    have hq := List.getElem?_eq_getElem hi
    rw [getD_of hq]
    obtain ⟨r1, r2, r3, r4⟩ := h.each i _ hq
    refine ⟨r1.kept (Nat.le_trans hszs hwx.size) fun j hj _ => (hwx.block j (Nat.lt_of_lt_of_le hj hszs)).trans (hbel.block j hj), by rw [r2]; exact Nat.zero_le _, by rw [r3]; omega, by rw [r3]; omega⟩
  · intro z hz; simp [PW.start] at hz; omega
  · intro z hz; simp [PW.start] at hz; omega
  · intro z hz; simp [PW.start] at hz; omega
  · rcases hk with rfl | rfl | rfl | rfl | rfl <;> (try simp only) <;> omega
end Go.Proofs.Ytccliallljcjgaa
