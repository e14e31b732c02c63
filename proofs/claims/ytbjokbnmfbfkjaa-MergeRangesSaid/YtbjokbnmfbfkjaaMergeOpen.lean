/- Rows and lists of entries that come in. -/
import Derived.Test.YtbjokbnmfbfkjaaMergeTellsWalk
import Derived.Test.YtbjokbnmfbfkjaaBlockIn
set_option linter.unusedVariables false
set_option maxRecDepth 100000
namespace Go.Proofs.Ytbjokbnmfbfkjaa
open Go.ChangeShapes Go.WideShapes Go.Deep
open Go.RowKit (Below)

instance : Inhabited Rw := ⟨⟨none, 0, 0, [], 0⟩⟩
instance : Inhabited Lst := ⟨⟨none, 0, 0, []⟩⟩
section
variable {H : Type} {enc : TypeId × Value → H} {w : World} {base : Nat} {spare : Nat → Bool} {held : Bool}
theorem oneR : ∃ fs, Try.prog.underlying 24 = some (.struct fs) ∧ oneCellFields Try.prog fs = true ∧ Try.prog.cellsOf 24 = fs.size ∧ fs.size = 2 ∧ (fs[0]?.map (·.type)) = some 22 ∧ (fs[1]?.map (·.type)) = some 3 := ⟨_, Try.underlying24, by kernel_rfl, by kernel_rfl, by kernel_rfl, by kernel_rfl, by kernel_rfl⟩
/-- What is known of a row that came in. -/
def InR (w : World) (r : Rw) : Prop := InE w r.a r.len r.cap r.T ∧ -9223372036854775808 ≤ r.e ∧ r.e ≤ 9223372036854775807
def Rw.vals (r : Rw) : List Value := [.slice r.a r.len r.cap, .int .i64 r.e]
theorem row_read {fuel : Nat} {cs : List Value} {x : DataW H × List MemPlace} (h : DataW.trod enc Try.prog w base spare held fuel 24 cs = some x) : ∃ r : Rw, cs = r.vals ∧ InR w r := by
  obtain ⟨fs, hs, hone, hC, h2, t0, t1⟩ := oneR
  obtain ⟨hlen, n, hf⟩ := fields_read hs hone hC h
  obtain ⟨f0, e0, g0⟩ := map_some t0
  obtain ⟨f1, e1, g1⟩ := map_some t1
  obtain ⟨v0, y0, c0, r0⟩ := hf 0 f0 e0
  obtain ⟨v1, y1, c1, r1⟩ := hf 1 f1 e1
  rw [g0] at r0
  rw [g1] at r1
  obtain ⟨a, len, cap, T, hv0, hE⟩ := ents_read r0
  obtain ⟨i, hv1, _, hwf⟩ := DataW.trod_int Try.underlying3 r1
  injection hv0 with hv0 _
  injection hv1 with hv1 _
  subst hv0 hv1
  refine ⟨⟨a, len, cap, T, i⟩, ?_, hE, ?_⟩
  · match cs, hlen.trans h2 with
    | [x0, x1], _ =>
      simp at c0 c1
      subst c0 c1
      rfl
  · simp [Lit.wf, IntKind.min, IntKind.max, IntKind.signed, IntKind.bits] at hwf
    exact hwf
theorem rows_read {fuel : Nat} {cs : List Value} {x : DataW H × List MemPlace} (h : DataW.trod enc Try.prog w base spare held fuel 27 cs = some x) : ∃ a len cap Rs, cs = [.slice a len cap] ∧ IsRows w a len Rs ∧ len ≤ 9223372036854775807 ∧ len ≤ cap := by
  rcases open_slice Try.underlying27 h with ⟨hcs, _⟩ | ⟨a, len, cap, m, n, D, Pl, hcs, _, hl, hm, hmm, _, hi⟩
  · exact ⟨none, 0, 0, [], hcs, ⟨rfl, ⟨0, 0, .inl rfl, fun k r hr => by simp at hr⟩, fun r hr => by cases hr⟩, by omega, Nat.le_refl _⟩
  · refine ⟨some a, len, cap, ?_⟩
    have hlm : len ≤ m := by rw [hmm]; split <;> omega
    obtain ⟨fs, _, _, hC, h2, _⟩ := oneR
    have hcell : ∀ i, i < len → ∃ r : Rw, (∀ j, j < 2 → w.cell? ((a.add (i * 2)).add j) = r.vals[j]?) ∧ InR w r := by
      intro i hil
      obtain ⟨cs', hc, ht⟩ := hi i (by omega)
      rw [hC, h2] at hc
      obtain ⟨_, hcl, hat⟩ := World.cells?_some hc
      obtain ⟨r, rfl, hr⟩ := row_read ht
      exact ⟨r, fun j hj => hat j hj, hr⟩
    obtain ⟨V, hV⟩ := choose_lt (α := Rw) hcell
    refine ⟨(List.range len).map V, hcs, ⟨by simp, ?_, fun r hr => ?_⟩, by unfold maxLen at hm; omega, hl⟩
    · by_cases h0 : len = 0
      · subst h0
        exact ⟨0, 0, .inl rfl, fun k r hr => by simp at hr⟩
      · obtain ⟨c0, _⟩ := hV 0 (by omega)
        have c00 := c0 0 (by omega)
        have ha : ∃ b off, a = ⟨b, off, none⟩ := by
          obtain ⟨b, off, spot⟩ := a
          have := World.cell?_spot (v := .slice (V 0).a (V 0).len (V 0).cap) c00
          have hs : spot = none := by simpa [Addr.add] using this
          subst hs
          exact ⟨b, off, rfl⟩
        obtain ⟨b, off, rfl⟩ := ha
        refine ⟨b, off, .inr rfl, fun k r hr => ?_⟩
        have hk' : k < len := by have := (List.getElem?_eq_some_iff.1 hr).1; simpa using this
        have hrV : r = V k := by simpa [hk'] using hr.symm
        subst hrV
        obtain ⟨h1, _⟩ := hV k hk'
        have q0 := h1 0 (by omega)
        have q1 := h1 1 (by omega)
        rw [addr_add, addr_add] at q0 q1
        exact ⟨cell_block (v := .slice (V k).a (V k).len (V k).cap) q0, q0, q1⟩
    · obtain ⟨i, hi, rfl⟩ := List.mem_map.1 hr
      obtain ⟨h1, _⟩ := (hV i (by simpa using hi)).2
      exact ⟨h1.is, h1.big, h1.fit⟩
/-- Lists in memory. -/
structure IsLists (w : World) (a : Option Addr) (n : Nat) (Ls : List Lst) : Prop where
  len : n = Ls.length
  at' : ∃ b off, (n = 0 ∨ a = some ⟨b, off, none⟩) ∧ ∀ k l, Ls[k]? = some l → b < w.heap.size ∧ w.cell? ⟨b, off + k, none⟩ = some (.slice l.a l.n l.cap)
  is : ∀ l ∈ Ls, InE w l.a l.n l.cap l.T
theorem lists_read {fuel : Nat} {cs : List Value} {x : DataW H × List MemPlace} (h : DataW.trod enc Try.prog w base spare held fuel 42 cs = some x) : ∃ a len cap Ls, cs = [.slice a len cap] ∧ IsLists w a len Ls ∧ len ≤ 9223372036854775807 ∧ len ≤ cap := by
  rcases open_slice Try.underlying42 h with ⟨hcs, _⟩ | ⟨a, len, cap, m, n, D, Pl, hcs, _, hl, hm, hmm, _, hi⟩
  · exact ⟨none, 0, 0, [], hcs, ⟨rfl, ⟨0, 0, .inl rfl, fun k r hr => by simp at hr⟩, fun r hr => by cases hr⟩, by omega, Nat.le_refl _⟩
  · refine ⟨some a, len, cap, ?_⟩
    have hlm : len ≤ m := by rw [hmm]; split <;> omega
    have hC : Try.prog.cellsOf 22 = 1 := by kernel_rfl
    have hcell : ∀ i, i < len → ∃ l : Lst, w.cell? (a.add i) = some (.slice l.a l.n l.cap) ∧ InE w l.a l.n l.cap l.T := by
      intro i hil
      obtain ⟨cs', hc, ht⟩ := hi i (by omega)
      rw [hC] at hc
      obtain ⟨_, hcl, hat⟩ := World.cells?_some hc
      obtain ⟨a', len', cap', T', rfl, hr⟩ := ents_read ht
      have h0 := hat 0 (by omega)
      have he : (a.add (i * 1)).add 0 = a.add i := by unfold Addr.add; split <;> simp_all
      rw [he] at h0
      exact ⟨⟨a', len', cap', T'⟩, h0, hr⟩
    obtain ⟨V, hV⟩ := choose_lt (α := Lst) hcell
    refine ⟨(List.range len).map V, hcs, ⟨by simp, ?_, fun r hr => ?_⟩, by unfold maxLen at hm; omega, hl⟩
    · by_cases h0 : len = 0
      · subst h0
        exact ⟨0, 0, .inl rfl, fun k r hr => by simp at hr⟩
      · obtain ⟨c0, _⟩ := hV 0 (by omega)
        have ha : ∃ b off, a = ⟨b, off, none⟩ := by
          obtain ⟨b, off, spot⟩ := a
          have := World.cell?_spot (v := .slice (V 0).a (V 0).n (V 0).cap) c0
          have hs : spot = none := by simpa [Addr.add] using this
          subst hs
          exact ⟨b, off, rfl⟩
        obtain ⟨b, off, rfl⟩ := ha
        refine ⟨b, off, .inr rfl, fun k r hr => ?_⟩
        have hk' : k < len := by have := (List.getElem?_eq_some_iff.1 hr).1; simpa using this
        have hrV : r = V k := by simpa [hk'] using hr.symm
        subst hrV
        obtain ⟨q0, _⟩ := hV k hk'
        rw [addr_add] at q0
        exact ⟨cell_block (v := .slice (V k).a (V k).n (V k).cap) q0, q0⟩
    · obtain ⟨i, hi, rfl⟩ := List.mem_map.1 hr
      exact (hV i (by simpa using hi)).2
end
theorem open_row {H : Type} {enc : TypeId × Value → H} {W : World} {d : DataW H} {p : List MemPlace} {cs : Array Value} (h : DataW.Trod enc Try.prog W 0 (fun _ => true) true 24 (.agg cs) d p) : ∃ r : Rw, cs = #[.slice r.a r.len r.cap, .int .i64 r.e] ∧ InR W r := by
  obtain ⟨fuel, hf⟩ := h
  obtain ⟨r, hcs, hi⟩ := row_read hf
  refine ⟨r, ?_, hi⟩
  have : cs.toList = r.vals := hcs
  rw [show cs = cs.toList.toArray by simp, this]
  rfl
theorem open_rows {H : Type} {enc : TypeId × Value → H} {W : World} {d : DataW H} {p : List MemPlace} {a : Option Addr} {len cap : Nat} (h : DataW.Trod enc Try.prog W 0 (fun _ => true) true 27 (.slice a len cap) d p) : ∃ Rs, IsRows W a len Rs ∧ len ≤ 9223372036854775807 ∧ len ≤ cap := by
  obtain ⟨fuel, hf⟩ := h
  obtain ⟨a', len', cap', T, hcs, hi⟩ := rows_read hf
  simp [Value.cells] at hcs
  obtain ⟨rfl, rfl, rfl⟩ := hcs
  exact ⟨T, hi⟩
theorem open_lists {H : Type} {enc : TypeId × Value → H} {W : World} {d : DataW H} {p : List MemPlace} {a : Option Addr} {len cap : Nat} (h : DataW.Trod enc Try.prog W 0 (fun _ => true) true 42 (.slice a len cap) d p) : ∃ Ls, IsLists W a len Ls ∧ len ≤ 9223372036854775807 ∧ len ≤ cap := by
  obtain ⟨fuel, hf⟩ := h
  obtain ⟨a', len', cap', T, hcs, hi⟩ := lists_read hf
  simp [Value.cells] at hcs
  obtain ⟨rfl, rfl, rfl⟩ := hcs
  exact ⟨T, hi⟩
end Go.Proofs.Ytbjokbnmfbfkjaa
