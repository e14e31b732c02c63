/- Scripts of calls that come in. -/
import Derived.Test.YtbmihajbdobgbaaMemLaw
import Derived.Deep.Slices
import Derived.Deep.Fields
import Derived.ChangeSame
set_option linter.unusedVariables false
set_option maxRecDepth 100000
namespace Go.Proofs.Ytbmihajbdobgbaa
open Go.ChangeShapes Go.WideShapes Go.Deep
open Go.RowKit (Below)

/-- A call. -/
structure OpM where
  kind : Int
  key : List UInt8
  val : Int
def OpM.vals (o : OpM) : List Value := [.int .i64 o.kind, .string (bs o.key), .int .i64 o.val]
/-- A number of 64 bits. -/
def i64R (z : Int) : Prop := -9223372036854775808 ≤ z ∧ z ≤ 9223372036854775807
/-- What is known of a slice of calls. -/
structure InO (w : World) (a : Option Addr) (len cap : Nat) (T : List OpM) : Prop where
  lenT : len = T.length
  is : ∃ b off, (len = 0 ∨ a = some ⟨b, off, none⟩) ∧ ∀ k (hk : k < T.length), b < w.heap.size ∧ w.cell? ⟨b, off + k * 3, none⟩ = some (.int .i64 T[k].kind) ∧ w.cell? ⟨b, off + k * 3 + 1, none⟩ = some (.string (bs T[k].key)) ∧ w.cell? ⟨b, off + k * 3 + 2, none⟩ = some (.int .i64 T[k].val)
  big : len ≤ 9223372036854775807
  fit : ∀ o ∈ T, i64R o.kind ∧ i64R o.val ∧ o.key.length ≤ 9223372036854775807
theorem InO.below {w w' : World} {a : Option Addr} {len cap : Nat} {T : List OpM} (h : InO w a len cap T) (k : Below w.heap.size w w') : InO w' a len cap T := by
  obtain ⟨b, off, h1, h2⟩ := h.is
  refine ⟨h.lenT, ⟨b, off, h1, fun i hi => ?_⟩, h.big, h.fit⟩
  obtain ⟨h3, h4, h5, h6⟩ := h2 i hi
  exact ⟨Nat.lt_of_lt_of_le h3 k.size, by rw [k.cell (p := ⟨b, off + i * 3, none⟩) h3]; exact h4, by rw [k.cell (p := ⟨b, off + i * 3 + 1, none⟩) h3]; exact h5, by rw [k.cell (p := ⟨b, off + i * 3 + 2, none⟩) h3]; exact h6⟩
theorem InO.at {w : World} {a : Option Addr} {len cap : Nat} {T : List OpM} (h : InO w a len cap T) {i : Nat} (hi : i < len) : ∃ b off o, a = some ⟨b, off, none⟩ ∧ T[i]? = some o ∧ b < w.heap.size ∧ w.cell? ⟨b, off + i * 3, none⟩ = some (.int .i64 o.kind) ∧ w.cell? ⟨b, off + i * 3 + 1, none⟩ = some (.string (bs o.key)) ∧ w.cell? ⟨b, off + i * 3 + 2, none⟩ = some (.int .i64 o.val) := by
  obtain ⟨b, off, h1, h2⟩ := h.is
  have hl : i < T.length := by rw [← h.lenT]; exact hi
  obtain ⟨h3, h4, h5, h6⟩ := h2 i hl
  exact ⟨b, off, T[i], by rcases h1 with e | e; (omega); (exact e), List.getElem?_eq_getElem hl, h3, h4, h5, h6⟩
section
variable {H : Type} {enc : TypeId × Value → H} {w : World} {base : Nat} {spare : Nat → Bool} {held : Bool}
/-- A struct of one-cell fields, field by field. -/
theorem fields_read {P : Program} {t : TypeId} {fs : Array Field} {fuel : Nat} {cs : List Value} {x : DataW H × List MemPlace} (hs : P.underlying t = some (.struct fs)) (hone : oneCellFields P fs = true) (hC : P.cellsOf t = fs.size)
    (h : DataW.trod enc P w base spare held fuel t cs = some x) : cs.length = fs.size ∧ ∃ n, ∀ (j : Nat) (f : Field), fs[j]? = some f → ∃ v y, cs[j]? = some v ∧ DataW.trod enc P w base spare held n f.type [v] = some y := by
  obtain ⟨xs, n, _, _, hlen, hxl, hg⟩ := DataW.trod_struct hs h
  refine ⟨hlen.trans hC, n, fun j f hj => ?_⟩
  obtain ⟨ho, hk⟩ := hone_of hone j f hj
  have hjs : j < fs.size := (Array.getElem?_eq_some_iff.1 hj).1
  have hjc : j < cs.length := by omega
  have hjx : j < xs.length := by omega
  have h1 := hg j f hj
  rw [ho, hk, List.getElem?_eq_getElem hjx] at h1
  have h2 : (cs.drop j).take 1 = [cs[j]] := by rw [List.drop_eq_getElem_cons hjc]; rfl
  rw [h2] at h1
  exact ⟨cs[j], xs[j], List.getElem?_eq_getElem hjc, h1⟩
theorem oneO : ∃ fs, Try.prog.underlying 32 = some (.struct fs) ∧ oneCellFields Try.prog fs = true ∧ Try.prog.cellsOf 32 = fs.size ∧ fs.size = 3 ∧ (fs[0]?.map (·.type)) = some 3 ∧ (fs[1]?.map (·.type)) = some 9 ∧ (fs[2]?.map (·.type)) = some 3 :=
  ⟨_, Try.underlying32, by kernel_rfl, by kernel_rfl, by kernel_rfl, by kernel_rfl, by kernel_rfl, by kernel_rfl⟩
theorem map_some {α β : Type} {o : Option α} {f : α → β} {b : β} (h : o.map f = some b) : ∃ a, o = some a ∧ f a = b := by
  cases o with
  | none => cases h
  | some a => exact ⟨a, rfl, by injection h⟩
theorem string_field {n : Nat} {v : Value} {y : DataW H × List MemPlace} {t : TypeId} (ht : t = 9) (h : DataW.trod enc Try.prog w base spare held n t [v] = some y) : ∃ l : List UInt8, v = .string (bs l) ∧ l.length ≤ 9223372036854775807 := by
  subst ht
  obtain ⟨tx, hv, _, htx⟩ := DataW.trod_string Try.underlying9 h
  injection hv with hv _
  refine ⟨tx.data.toList, by rw [hv, bs_eq (s := tx) rfl]; rfl, ?_⟩
  have : tx.data.toList.length = tx.size := by rw [← Lib.size_eq]
  rw [this]
  unfold maxLen at htx
  omega
theorem int_field {n : Nat} {v : Value} {y : DataW H × List MemPlace} {t : TypeId} (ht : t = 3) (h : DataW.trod enc Try.prog w base spare held n t [v] = some y) : ∃ z, v = .int .i64 z ∧ i64R z := by
  subst ht
  obtain ⟨z, h1, _, h2⟩ := DataW.trod_int Try.underlying3 h
  exact ⟨z, by injection h1, by simp [Lit.wf, IntKind.min, IntKind.max, IntKind.signed, IntKind.bits] at h2; exact ⟨by omega, by omega⟩⟩
theorem op_read {fuel : Nat} {cs : List Value} {x : DataW H × List MemPlace} (h : DataW.trod enc Try.prog w base spare held fuel 32 cs = some x) : ∃ o : OpM, cs = o.vals ∧ i64R o.kind ∧ i64R o.val ∧ o.key.length ≤ 9223372036854775807 := by
  obtain ⟨fs, hs, hone, hC, h3, t0, t1, t2⟩ := oneO
  obtain ⟨hlen, n, hf⟩ := fields_read hs hone hC h
  obtain ⟨f0, e0, g0⟩ := map_some t0
  obtain ⟨f1, e1, g1⟩ := map_some t1
  obtain ⟨f2, e2, g2⟩ := map_some t2
  obtain ⟨v0, y0, c0, r0⟩ := hf 0 f0 e0
  obtain ⟨v1, y1, c1, r1⟩ := hf 1 f1 e1
  obtain ⟨v2, y2, c2, r2⟩ := hf 2 f2 e2
  obtain ⟨k, rfl, hk⟩ := int_field g0 r0
  obtain ⟨u, rfl, hu⟩ := string_field g1 r1
  obtain ⟨z, rfl, hz⟩ := int_field g2 r2
  refine ⟨⟨k, u, z⟩, ?_, hk, hz, hu⟩
  match cs, hlen.trans h3 with
  | [x0, x1, x2], _ =>
    simp at c0 c1 c2
    subst c0 c1 c2
    rfl
/-- A slice of calls. -/
theorem ops_read {fuel : Nat} {cs : List Value} {x : DataW H × List MemPlace} (h : DataW.trod enc Try.prog w base spare held fuel 22 cs = some x) : ∃ a len cap T, cs = [.slice a len cap] ∧ InO w a len cap T := by
  rcases open_slice Try.underlying22 h with ⟨hcs, _⟩ | ⟨a, len, cap, m, n, D, Pl, hcs, _, hl, hm, hmm, _, hi⟩
  · exact ⟨none, 0, 0, [], hcs, rfl, ⟨0, 0, .inl rfl, fun k hk => absurd hk (by simp)⟩, by omega, fun x hx => by cases hx⟩
  · refine ⟨some a, len, cap, ?_⟩
    have hlm : len ≤ m := by rw [hmm]; split <;> omega
    obtain ⟨fs, _, _, hC, h3, _⟩ := oneO
    haveI : Inhabited OpM := ⟨⟨0, [], 0⟩⟩
    have hcell : ∀ i, i < len → ∃ e : OpM, (∀ j, j < 3 → w.cell? ((a.add (i * 3)).add j) = e.vals[j]?) ∧ i64R e.kind ∧ i64R e.val ∧ e.key.length ≤ 9223372036854775807 := by
      intro i hil
      obtain ⟨cs', hc, ht⟩ := hi i (by omega)
      rw [hC, h3] at hc
      obtain ⟨_, hcl, hat⟩ := World.cells?_some hc
      obtain ⟨e, rfl, he⟩ := op_read ht
      exact ⟨e, fun j hj => hat j hj, he⟩
    obtain ⟨V, hV⟩ := choose_lt (α := OpM) hcell
    refine ⟨(List.range len).map V, hcs, by simp, ?_, by unfold maxLen at hm; omega, fun e he => ?_⟩
    · by_cases h0 : len = 0
      · subst h0
        exact ⟨0, 0, .inl rfl, fun k hk => absurd hk (by simp)⟩
      · obtain ⟨c0, _⟩ := hV 0 (by omega)
        have c00 := c0 0 (by omega)
        have ha : ∃ b off, a = ⟨b, off, none⟩ := by
          obtain ⟨b, off, spot⟩ := a
          have := World.cell?_spot (v := .int .i64 (V 0).kind) c00
          have hs : spot = none := by simpa [Addr.add] using this
          subst hs
          exact ⟨b, off, rfl⟩
        obtain ⟨b, off, rfl⟩ := ha
        refine ⟨b, off, .inr rfl, fun k hk => ?_⟩
        have hk' : k < len := by simpa using hk
        obtain ⟨h1, _⟩ := hV k hk'
        have hg : ((List.range len).map V)[k] = V k := by simp
        rw [hg]
        have q0 := h1 0 (by omega)
        have q1 := h1 1 (by omega)
        have q2 := h1 2 (by omega)
        rw [addr_add, addr_add] at q0 q1 q2
        exact ⟨cell_block (v := .int .i64 (V k).kind) q0, q0, q1, q2⟩
    · obtain ⟨i, hi, rfl⟩ := List.mem_map.1 he
      exact (hV i (by simpa using hi)).2
end
theorem open_ops {H : Type} {enc : TypeId × Value → H} {W : World} {d : DataW H} {p : List MemPlace} {a : Option Addr} {len cap : Nat} (h : DataW.Trod enc Try.prog W 0 (fun _ => true) true 22 (.slice a len cap) d p) : ∃ T, InO W a len cap T := by
  obtain ⟨fuel, hf⟩ := h
  obtain ⟨a', len', cap', T, hcs, hi⟩ := ops_read hf
  simp [Value.cells] at hcs
  obtain ⟨rfl, rfl, rfl⟩ := hcs
  exact ⟨T, hi⟩
end Go.Proofs.Ytbmihajbdobgbaa
