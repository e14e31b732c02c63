/- Slices of entries that come in. -/
import Derived.Test.YtbjokbnmfbfkjaaBlockRise
import Derived.Deep.Slices
import Derived.Deep.Fields
import Derived.ChangeSame
set_option linter.unusedVariables false
set_option maxRecDepth 100000
set_option maxRecDepth 100000
namespace Go.Proofs.Ytbjokbnmfbfkjaa
open Go.ChangeShapes Go.WideShapes Go.Deep
open Go.RowKit (Below)

/-- What is known of a slice of entries that came in. -/
structure InE (w : World) (a : Option Addr) (len cap : Nat) (T : List Ent) : Prop where
  is : IsE w a len T
  big : len ≤ 9223372036854775807
  room : len ≤ cap
  fit : fitE T
section
variable {H : Type} {enc : TypeId × Value → H} {w : World} {base : Nat} {spare : Nat → Bool} {held : Bool}
/-- A struct of one-cell fields, field by field. -/
theorem fields_read {P : Program} {t : TypeId} {fs : Array Field} {fuel : Nat} {cs : List Value} {x : DataW H × List MemPlace} (hs : P.underlying t = some (.struct fs)) (hone : oneCellFields P fs = true) (hC : P.cellsOf t = fs.size)
    (h : DataW.trod enc P w base spare held fuel t cs = some x) : cs.length = fs.size ∧ ∃ n, ∀ (j : Nat) (f : Field), fs[j]? = some f → ∃ v y, cs[j]? = some v ∧ DataW.trod enc P w base spare held n f.type [v] = some y := by
  obtain ⟨xs, n, _, _, hlen, hxl, hg⟩ := DataW.trod_struct hs h
  refine ⟨hlen.trans hC, n, fun j f hj => ?_⟩
  obtain ⟨ho, hk⟩ := hone_of hone j f hj
  have hjs : j < fs.size := (Array.getElem?_eq_some_iff.1 hj).1
  have hjc : j < cs.length := by omega
  have hjx : j < xs.length := by omega
  have h1 := hg j f hj
  rw [ho, hk, List.getElem?_eq_getElem hjx] at h1
  have h2 : (cs.drop j).take 1 = [cs[j]] := by rw [List.drop_eq_getElem_cons hjc]; rfl
  rw [h2] at h1
  exact ⟨cs[j], xs[j], List.getElem?_eq_getElem hjc, h1⟩
theorem oneE : ∃ fs, Try.prog.underlying 32 = some (.struct fs) ∧ oneCellFields Try.prog fs = true ∧ Try.prog.cellsOf 32 = fs.size ∧ fs.size = 3 ∧ (fs[0]?.map (·.type)) = some 9 ∧ (fs[1]?.map (·.type)) = some 9 ∧ (fs[2]?.map (·.type)) = some 4 := ⟨_, Try.underlying32, by kernel_rfl, by kernel_rfl, by kernel_rfl, by kernel_rfl, by kernel_rfl, by kernel_rfl⟩
theorem map_some {α β : Type} {o : Option α} {f : α → β} {b : β} (h : o.map f = some b) : ∃ a, o = some a ∧ f a = b := by
  cases o with
  | none => cases h
  | some a => exact ⟨a, rfl, by injection h⟩
theorem string_field {n : Nat} {v : Value} {y : DataW H × List MemPlace} {t : TypeId} (ht : t = 9) (h : DataW.trod enc Try.prog w base spare held n t [v] = some y) : ∃ l : List UInt8, v = .string (bs l) ∧ l.length ≤ 9223372036854775807 := by
  subst ht
  obtain ⟨tx, hv, _, htx⟩ := DataW.trod_string Try.underlying9 h
  injection hv with hv _
  refine ⟨tx.data.toList, by rw [hv, bs_eq (s := tx) rfl]; rfl, ?_⟩
  have : tx.data.toList.length = tx.size := by rw [← Lib.size_eq]
  rw [this]
  unfold maxLen at htx
  omega
theorem ent_read {fuel : Nat} {cs : List Value} {x : DataW H × List MemPlace} (h : DataW.trod enc Try.prog w base spare held fuel 32 cs = some x) : ∃ e : Ent, cs = e.vals ∧ e.key.length ≤ 9223372036854775807 ∧ e.val.length ≤ 9223372036854775807 := by
  obtain ⟨fs, hs, hone, hC, h3, t0, t1, t2⟩ := oneE
  obtain ⟨hlen, n, hf⟩ := fields_read hs hone hC h
  obtain ⟨f0, e0, g0⟩ := map_some t0
  obtain ⟨f1, e1, g1⟩ := map_some t1
  obtain ⟨f2, e2, g2⟩ := map_some t2
  obtain ⟨v0, y0, c0, r0⟩ := hf 0 f0 e0
  obtain ⟨v1, y1, c1, r1⟩ := hf 1 f1 e1
  obtain ⟨v2, y2, c2, r2⟩ := hf 2 f2 e2
  obtain ⟨k, rfl, hk⟩ := string_field g0 r0
  obtain ⟨u, rfl, hu⟩ := string_field g1 r1
  rw [g2] at r2
  obtain ⟨g, hv, _⟩ := DataW.trod_bool Try.underlying4 r2
  injection hv with hv _
  subst hv
  refine ⟨⟨k, u, g⟩, ?_, hk, hu⟩
  match cs, hlen.trans h3 with
  | [x0, x1, x2], _ =>
    simp at c0 c1 c2
    subst c0 c1 c2
    rfl
/-- A slice of entries. -/
theorem ents_read {fuel : Nat} {cs : List Value} {x : DataW H × List MemPlace} (h : DataW.trod enc Try.prog w base spare held fuel 22 cs = some x) : ∃ a len cap T, cs = [.slice a len cap] ∧ InE w a len cap T := by
  rcases open_slice Try.underlying22 h with ⟨hcs, _⟩ | ⟨a, len, cap, m, n, D, Pl, hcs, _, hl, hm, hmm, _, hi⟩
  · exact ⟨none, 0, 0, [], hcs, IsE.nil _ _, by omega, Nat.le_refl _, fun x hx => by cases hx⟩
  · refine ⟨some a, len, cap, ?_⟩
    have hlm : len ≤ m := by rw [hmm]; split <;> omega
    obtain ⟨fs, _, _, hC, h3, _⟩ := oneE
    have hcell : ∀ i, i < len → ∃ e : Ent, (∀ j, j < 3 → w.cell? ((a.add (i * 3)).add j) = e.vals[j]?) ∧ e.key.length ≤ 9223372036854775807 ∧ e.val.length ≤ 9223372036854775807 := by
      intro i hil
      obtain ⟨cs', hc, ht⟩ := hi i (by omega)
      rw [hC, h3] at hc
      obtain ⟨_, hcl, hat⟩ := World.cells?_some hc
      obtain ⟨e, rfl, he⟩ := ent_read ht
      exact ⟨e, fun j hj => hat j hj, he⟩
    obtain ⟨V, hV⟩ := choose_lt (α := Ent) hcell
    refine ⟨(List.range len).map V, hcs, ?_, by unfold maxLen at hm; omega, hl, fun e he => ?_⟩
    · refine ⟨by simp, ?_⟩
      by_cases h0 : len = 0
      · subst h0
        exact ⟨0, 0, .inl rfl, fun k hk => absurd hk (by simp)⟩
      · obtain ⟨c0, _⟩ := hV 0 (by omega)
        have c00 := c0 0 (by omega)
        have ha : ∃ b off, a = ⟨b, off, none⟩ := by
          obtain ⟨b, off, spot⟩ := a
          have := World.cell?_spot (v := .string (bs (V 0).key)) c00
          have hs : spot = none := by simpa [Addr.add] using this
          subst hs
          exact ⟨b, off, rfl⟩
        obtain ⟨b, off, rfl⟩ := ha
        refine ⟨b, off, .inr rfl, fun k hk => ?_⟩
        have hk' : k < len := by simpa using hk
        obtain ⟨h1, _⟩ := hV k hk'
        have hg : ((List.range len).map V)[k] = V k := by simp
        rw [hg]
        have q0 := h1 0 (by omega)
        have q1 := h1 1 (by omega)
        have q2 := h1 2 (by omega)
        rw [addr_add, addr_add] at q0 q1 q2
        exact ⟨cell_block (v := .string (bs (V k).key)) q0, q0, q1, q2⟩
    · obtain ⟨i, hi, rfl⟩ := List.mem_map.1 he
      exact (hV i (by simpa using hi)).2
end
theorem open_ents {H : Type} {enc : TypeId × Value → H} {W : World} {d : DataW H} {p : List MemPlace} {a : Option Addr} {len cap : Nat} (h : DataW.Trod enc Try.prog W 0 (fun _ => true) true 22 (.slice a len cap) d p) : ∃ T, InE W a len cap T := by
  obtain ⟨fuel, hf⟩ := h
  obtain ⟨a', len', cap', T, hcs, hi⟩ := ents_read hf
  simp [Value.cells] at hcs
  obtain ⟨rfl, rfl, rfl⟩ := hcs
  exact ⟨T, hi⟩
end Go.Proofs.Ytbjokbnmfbfkjaa
