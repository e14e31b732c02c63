/- Programs that come in: what is known of them. -/
import Derived.Test.YtccliallljcjgaaRaw
import Derived.Deep.Slices
import Derived.Deep.Fields
import Derived.ChangeSame
set_option linter.unusedVariables false
namespace Go.Proofs.Ytccliallljcjgaa
open Go.ChangeShapes Go.WideShapes Go.Deep
open Go.RowKit (Below)

section
variable {H : Type} {enc : TypeId × Value → H} {w : World} {base : Nat} {spare : Nat → Bool} {held : Bool}
/-- A struct of one-cell fields, field by field. -/
theorem fields_read {P : Program} {t : TypeId} {fs : Array Field} {fuel : Nat} {cs : List Value} {x : DataW H × List MemPlace} (hs : P.underlying t = some (.struct fs)) (hone : oneCellFields P fs = true) (hC : P.cellsOf t = fs.size)
    (h : DataW.trod enc P w base spare held fuel t cs = some x) : cs.length = fs.size ∧ ∃ n, ∀ (j : Nat) (f : Field), fs[j]? = some f → ∃ v y, cs[j]? = some v ∧ DataW.trod enc P w base spare held n f.type [v] = some y := by
  obtain ⟨xs, n, _, _, hlen, hxl, hg⟩ := DataW.trod_struct hs h
  refine ⟨hlen.trans hC, n, fun j f hj => ?_⟩
  obtain ⟨ho, hk⟩ := hone_of hone j f hj
  have hjs : j < fs.size := (Array.getElem?_eq_some_iff.1 hj).1
  have hjc : j < cs.length := by omega
  have hjx : j < xs.length := by omega
  have h1 := hg j f hj
  rw [ho, hk, List.getElem?_eq_getElem hjx] at h1
  have h2 : (cs.drop j).take 1 = [cs[j]] := by rw [List.drop_eq_getElem_cons hjc]; rfl
  rw [h2] at h1
  exact ⟨cs[j], xs[j], List.getElem?_eq_getElem hjc, h1⟩
theorem one73 : ∃ fs, Try.prog.underlying 73 = some (.struct fs) ∧ oneCellFields Try.prog fs = true ∧ Try.prog.cellsOf 73 = fs.size ∧ fs.size = 5 ∧ (fs[0]?.map (·.type)) = some 3 ∧ (fs[1]?.map (·.type)) = some 3 ∧ (fs[2]?.map (·.type)) = some 3 ∧ (fs[3]?.map (·.type)) = some 3 ∧ (fs[4]?.map (·.type)) = some 3 :=
  ⟨_, Try.underlying73, by kernel_rfl, by kernel_rfl, by kernel_rfl, by kernel_rfl, by kernel_rfl, by kernel_rfl, by kernel_rfl, by kernel_rfl⟩
theorem cells44 : Try.prog.cellsOf 44 = 1 := by kernel_rfl
theorem map_some {α β : Type} {o : Option α} {f : α → β} {b : β} (h : o.map f = some b) : ∃ a, o = some a ∧ f a = b := by
  cases o with
  | none => cases h
  | some a => exact ⟨a, rfl, by injection h⟩
theorem int_field {n : Nat} {v : Value} {y : DataW H × List MemPlace} {t : TypeId} (ht : t = 3) (h : DataW.trod enc Try.prog w base spare held n t [v] = some y) : ∃ z, v = .int .i64 z ∧ inI z := by
  subst ht
  obtain ⟨z, h1, _, h2⟩ := DataW.trod_int Try.underlying3 h
  refine ⟨z, by injection h1, ?_⟩
  have h3 := h2
  simp [Lit.wf, IntKind.min, IntKind.max, IntKind.signed, IntKind.bits] at h3
  unfold inI
  omega
theorem no_spot {a : Addr} {v : Value} (h : w.cell? a = some v) : ∃ b off, a = ⟨b, off, none⟩ := by
  obtain ⟨b, off, spot⟩ := a
  have := World.cell?_spot h
  simp only at this
  subst this
  exact ⟨b, off, rfl⟩
theorem spot_add {a : Addr} {v : Value} (h : w.cell? (a.add 0) = some v) : ∃ b off, a = ⟨b, off, none⟩ := by
  obtain ⟨b, off, spot⟩ := a
  have := World.cell?_spot h
  have hs : spot = none := by simpa [Addr.add] using this
  subst hs
  exact ⟨b, off, rfl⟩
/-- A step, its five cells read. -/
theorem ins_read {fuel : Nat} {cs : List Value} {x : DataW H × List MemPlace} (h : DataW.trod enc Try.prog w base spare held fuel 73 cs = some x) : ∃ o : RI, cs = o.vals ∧ o.In := by
  obtain ⟨fs, hs, hone, hC, h5, t0, t1, t2, t3, t4⟩ := one73
  obtain ⟨hlen, n, hf⟩ := fields_read hs hone hC h
  obtain ⟨f0, e0, g0⟩ := map_some t0
  obtain ⟨f1, e1, g1⟩ := map_some t1
  obtain ⟨f2, e2, g2⟩ := map_some t2
  obtain ⟨f3, e3, g3⟩ := map_some t3
  obtain ⟨f4, e4, g4⟩ := map_some t4
  obtain ⟨v0, y0, c0, r0⟩ := hf 0 f0 e0
  obtain ⟨v1, y1, c1, r1⟩ := hf 1 f1 e1
  obtain ⟨v2, y2, c2, r2⟩ := hf 2 f2 e2
  obtain ⟨v3, y3, c3, r3⟩ := hf 3 f3 e3
  obtain ⟨v4, y4, c4, r4⟩ := hf 4 f4 e4
  obtain ⟨z0, rfl, w0⟩ := int_field g0 r0
  obtain ⟨z1, rfl, w1⟩ := int_field g1 r1
  obtain ⟨z2, rfl, w2⟩ := int_field g2 r2
  obtain ⟨z3, rfl, w3⟩ := int_field g3 r3
  obtain ⟨z4, rfl, w4⟩ := int_field g4 r4
  refine ⟨⟨z0, z1, z2, z3, z4⟩, ?_, ⟨w0, w1, w2, w3, w4⟩⟩
  match cs, hlen.trans h5 with
  | [x0, x1, x2, x3, x4], _ =>
    simp at c0 c1 c2 c3 c4
    subst c0 c1 c2 c3 c4
    rfl
/-- A program. -/
theorem prog_read {fuel : Nat} {cs : List Value} {x : DataW H × List MemPlace} (h : DataW.trod enc Try.prog w base spare held fuel 44 cs = some x) : ∃ q : RP, cs = [.slice q.a q.l.length q.cap] ∧ q.l.length ≤ 9223372036854775807 ∧ ∃ b off, (q.l.length = 0 ∨ q.a = some ⟨b, off, none⟩) ∧ RowR b off q.l w := by
  rcases open_slice Try.underlying44 h with ⟨hcs, _⟩ | ⟨a, len, cap, m, n, D, Pl, hcs, _, hl, hm, hmm, _, hi⟩
  · exact ⟨⟨none, 0, []⟩, hcs, by simp, 0, 0, .inl rfl, fun k hk => by simp at hk⟩
  · have hlm : len ≤ m := by rw [hmm]; split <;> omega
    obtain ⟨fs, hs, hone, hC, h5, _⟩ := one73
    have hcell : ∀ i, i < len → ∃ o : RI, (∀ j, j < 5 → w.cell? ((a.add (i * 5)).add j) = o.vals[j]?) ∧ o.In := by
      intro i hil
      obtain ⟨cs', hc, ht⟩ := hi i (by omega)
      rw [hC, h5] at hc
      obtain ⟨o, rfl, hin⟩ := ins_read ht
      obtain ⟨_, hcl, hat⟩ := World.cells?_some hc
      exact ⟨o, fun j hj => hat j (by simpa using hj), hin⟩
    obtain ⟨V, hV⟩ := choose_lt (α := RI) hcell
    refine ⟨⟨some a, cap, (List.range len).map V⟩, by rw [hcs]; simp, by simp; unfold maxLen at hm; omega, ?_⟩
    by_cases h0 : len = 0
    · subst h0
      exact ⟨0, 0, .inl (by simp), fun k hk => by simp at hk⟩
    · obtain ⟨hV0, _⟩ := hV 0 (by omega)
      have hz := hV0 0 (by omega)
      obtain ⟨b', off', hb'⟩ := no_spot (w := w) (v := .int .i64 (V 0).k) hz
      have ha : ∃ b off, a = ⟨b, off, none⟩ := by
        obtain ⟨b, off, spot⟩ := a
        refine ⟨b, off, ?_⟩
        have h1 := World.cell?_spot (w := w) (v := .int .i64 (V 0).k) hz
        have hs : spot = none := by simpa [Addr.add] using h1
        rw [hs]
      obtain ⟨b, off, rfl⟩ := ha
      refine ⟨b, off, .inr rfl, fun k hk => ?_⟩
      have hk' : k < len := by simpa using hk
      obtain ⟨hV1, hV2⟩ := hV k hk'
      have hg : ((List.range len).map V)[k] = V k := by simp
      simp only at hk ⊢
      rw [hg]
      have hc : ∀ j, j < 5 → w.cell? ⟨b, off + k * 5 + j, none⟩ = (V k).vals[j]? := fun j hj => by
        have := hV1 j hj
        rw [addr_add, addr_add] at this
        exact this
      exact ⟨cell_block (v := .int .i64 (V k).k) (hc 0 (by omega)), hc, hV2⟩
/-- Programs. -/
theorem raw_read {fuel : Nat} {cs : List Value} {x : DataW H × List MemPlace} (h : DataW.trod enc Try.prog w base spare held fuel 22 cs = some x) : ∃ a n cap R, cs = [.slice a n cap] ∧ Raw w a n R ∧ n ≤ 9223372036854775807 ∧ ∀ (i : Nat) (q : RP), R[i]? = some q → q.l.length ≤ 9223372036854775807 := by
  rcases open_slice Try.underlying22 h with ⟨hcs, _⟩ | ⟨a, len, cap, m, n, D, Pl, hcs, _, hl, hm, hmm, _, hi⟩
  · exact ⟨none, 0, 0, [], hcs, ⟨rfl, ⟨0, 0, .inl rfl, fun i q hq => by simp at hq⟩, fun i q hq => by simp at hq⟩, by omega, fun i q hq => by simp at hq⟩
  · have hlm : len ≤ m := by rw [hmm]; split <;> omega
    have hcell : ∀ i, i < len → ∃ q : RP, w.cell? (a.add i) = some (.slice q.a q.l.length q.cap) ∧ q.l.length ≤ 9223372036854775807 ∧ ∃ b off, (q.l.length = 0 ∨ q.a = some ⟨b, off, none⟩) ∧ RowR b off q.l w := by
      intro i hil
      obtain ⟨cs', hc, ht⟩ := hi i (by omega)
      rw [cells44] at hc
      obtain ⟨q, rfl, hql, hr⟩ := prog_read ht
      obtain ⟨_, hcl, hat⟩ := World.cells?_some hc
      have h0 := hat 0 (by omega)
      simp only [Nat.mul_one] at h0
      refine ⟨q, ?_, hql, hr⟩
      obtain ⟨b, off, hb⟩ := spot_add (w := w) (a := a.add i) (v := .slice q.a q.l.length q.cap) h0
      rw [hb] at h0 ⊢
      rw [addr_add] at h0
      exact h0
    obtain ⟨V, hV⟩ := choose_lt (α := RP) hcell
    have hget : ∀ (i : Nat) (q : RP), ((List.range len).map V)[i]? = some q → i < len ∧ q = V i := fun i q hq => by
      have hlt := lt_of_get hq
      rw [List.length_map, List.length_range] at hlt
      refine ⟨hlt, ?_⟩
      rw [List.getElem?_map, List.getElem?_range hlt] at hq
      simpa using hq.symm
    refine ⟨some a, len, cap, (List.range len).map V, hcs, ⟨by simp, ?_, fun i q hq => ?_⟩, by unfold maxLen at hm; omega, fun i q hq => ?_⟩
    · by_cases h0 : len = 0
      · subst h0
        exact ⟨0, 0, .inl rfl, fun i q hq => by have := (hget i q hq).1; omega⟩
      · obtain ⟨c0, _⟩ := hV 0 (by omega)
        obtain ⟨b, off, rfl⟩ := spot_add c0
        refine ⟨b, off, .inr rfl, fun i q hq => ?_⟩
        obtain ⟨hi', rfl⟩ := hget i q hq
        obtain ⟨h1, _⟩ := hV i hi'
        rw [addr_add] at h1
        exact ⟨cell_block h1, h1⟩
    · obtain ⟨hi', rfl⟩ := hget i q hq
      exact (hV i hi').2.2
    · obtain ⟨hi', rfl⟩ := hget i q hq
      exact (hV i hi').2.1
end
end Go.Proofs.Ytccliallljcjgaa
