/- Scripts that come in, of bounded bulk: what is known of them. -/
import Derived.Test.YtagadjgemgajjaaRows
import Derived.Test.YtagadjgemgajjaaEpBoth
import Derived.Deep.Slices
import Derived.Deep.Fields
import Derived.ChangeSame
set_option linter.unusedVariables false
namespace Go.Proofs.Ytagadjgemgajjaa
open Go.ChangeShapes Go.WideShapes Go.Deep
open Go.RowKit (Below)

theorem bulk_pos {H : Type} (d : DataW H) : 1 ≤ Rows.uptoBulk d := by
  cases d with
  | lit l => cases l <;> simp [Rows.uptoBulk]
  | nil => simp [Rows.uptoBulk]
  | ptr d => simp [Rows.uptoBulk]
  | slice elems spare => simp [Rows.uptoBulk]
  | agg parts => simp [Rows.uptoBulk]
  | iface t d => simp [Rows.uptoBulk]
  | map entries => simp [Rows.uptoBulk]
  | held h => simp [Rows.uptoBulk]
theorem bulk_len {H : Type} (l : List (DataW H)) : l.length ≤ Rows.uptoBulkAll l := by
  induction l with
  | nil => simp
  | cons x r ih => have := bulk_pos x; simp only [Rows.uptoBulkAll, List.length_cons]; omega
theorem bulk_mem {H : Type} {l : List (DataW H)} {d : DataW H} (h : d ∈ l) : Rows.uptoBulk d ≤ Rows.uptoBulkAll l := by
  induction l with
  | nil => cases h
  | cons x r ih =>
    simp only [Rows.uptoBulkAll]
    rcases List.mem_cons.1 h with rfl | h
    · omega
    · have := ih h; omega
theorem bulk_slice {H : Type} (elems spare : List (DataW H)) : Rows.uptoBulkAll elems ≤ Rows.uptoBulk (.slice elems spare) := by
  simp only [Rows.uptoBulk]
  omega
theorem bulk_two {H : Type} {a b : DataW H} (h : Rows.uptoSmall H [a, b] = true) : Rows.uptoBulk a + Rows.uptoBulk b ≤ 1048576 := by
  have h1 : Rows.uptoBulkAll [a, b] ≤ 1048576 := of_decide_eq_true h
  simp only [Rows.uptoBulkAll] at h1
  omega
/-- A call. -/
structure OPE where
  kind : Int
  slot : Int
  at_ : Int
  a : Option Addr
  len : Nat
  cap : Nat
  T : List ByteArray
def OPE.vals (o : OPE) : Array Value := #[.int .i64 o.kind, .int .i64 o.slot, .int .i64 o.at_, .slice o.a o.len o.cap]
structure OPE.Ok (o : OPE) (w : World) : Prop where
  things : IsVals w o.a o.len (o.T.map Value.string)
  few : o.len ≤ 1048576
  ws : (Lit.int .i64 o.slot).wf = true
def IsOps (w : World) (a : Option Addr) (len : Nat) (os : List OPE) : Prop :=
  len = os.length ∧ len ≤ 9223372036854775807 ∧ ∃ b off, (len = 0 ∨ a = some ⟨b, off, none⟩) ∧ ∀ k (hk : k < os.length), b < w.heap.size ∧ (∀ j, j < 4 → w.cell? ⟨b, off + k * 4 + j, none⟩ = os[k].vals[j]?) ∧ os[k].Ok w
section
variable {H : Type} {enc : TypeId × Value → H} {w : World} {base : Nat} {spare : Nat → Bool} {held : Bool}
theorem no_spot {a : Addr} {v : Value} (h : w.cell? a = some v) : ∃ b off, a = ⟨b, off, none⟩ := by
  obtain ⟨b, off, spot⟩ := a
  have := World.cell?_spot h
  simp only at this
  subst this
  exact ⟨b, off, rfl⟩
/-- A slice of texts. -/
theorem texts_read {fuel : Nat} {cs : List Value} {x : DataW H × List MemPlace} (h : DataW.trod enc Try.prog w base spare held fuel 28 cs = some x) : ∃ (a : Option Addr) (len cap : Nat) (T : List ByteArray), cs = [.slice a len cap] ∧ IsVals w a len (T.map Value.string) ∧ len ≤ Rows.uptoBulk x.1 := by
  rcases open_slice1 Try.underlying28 (by kernel_rfl) h with ⟨hcs, _⟩ | ⟨a, len, cap, m, n, V, D, Pl, hcs, _, hl, hm, hmm, hx, hi⟩
  · exact ⟨none, 0, 0, [], hcs, ⟨rfl, 0, 0, .inl rfl, fun k v hv => by simp at hv⟩, by omega⟩
  · have hlm : len ≤ m := by rw [hmm]; split <;> omega
    have hstr : ∀ i, i < len → ∃ t : ByteArray, w.cell? (a.add i) = some (.string t) := fun i hil => by
      obtain ⟨h1, h2⟩ := hi i (by omega)
      obtain ⟨tx, hv, _, _⟩ := DataW.trod_string Try.underlying9 h2
      injection hv with hv
      exact ⟨tx, by rw [h1, hv]⟩
    obtain ⟨W, hW⟩ := choose_lt (α := ByteArray) hstr
    refine ⟨some a, len, cap, (List.range len).map W, hcs, ?_, ?_⟩
    · refine ⟨by simp, ?_⟩
      by_cases h0 : len = 0
      · subst h0
        exact ⟨0, 0, .inl rfl, fun k v hv => by simp at hv⟩
      · have hb : ∃ b off, a = ⟨b, off, none⟩ := by
          obtain ⟨b, off, spot⟩ := a
          have := World.cell?_spot (hW 0 (by omega))
          have hs : spot = none := by simpa [Addr.add] using this
          subst hs
          exact ⟨b, off, rfl⟩
        obtain ⟨b, off, rfl⟩ := hb
        refine ⟨b, off, .inr rfl, fun k v hv => ?_⟩
        have hk : k < len := by have := (List.getElem?_eq_some_iff.1 hv).1; simpa using this
        have h1 := hW k hk
        rw [addr_add] at h1
        have hv' : v = .string (W k) := by
          simp [hk] at hv
          exact hv.symm
        exact ⟨cell_block h1, by rw [hv']; exact h1⟩
    · rw [hx]
      have h2 := bulk_slice ((List.range len).map D) ((List.range (m - len)).map fun j => D (len + j))
      have h3 := bulk_len ((List.range len).map D)
      simp only [List.length_map, List.length_range] at h3
      simp only
      omega
theorem one35 : ∃ fs, Try.prog.underlying 35 = some (.struct fs) ∧ oneCellFields Try.prog fs = true ∧ Try.prog.cellsOf 35 = fs.size ∧ fs.size = 4 ∧ (fs[0]?.map (·.type)) = some 3 ∧ (fs[1]?.map (·.type)) = some 3 ∧ (fs[2]?.map (·.type)) = some 3 ∧ (fs[3]?.map (·.type)) = some 28 :=
  ⟨_, Try.underlying35, by kernel_rfl, by kernel_rfl, by kernel_rfl, by kernel_rfl, by kernel_rfl, by kernel_rfl, by kernel_rfl⟩
theorem map_some {α β : Type} {o : Option α} {f : α → β} {b : β} (h : o.map f = some b) : ∃ a, o = some a ∧ f a = b := by
  cases o with
  | none => cases h
  | some a => exact ⟨a, rfl, by injection h⟩
theorem int_field {n : Nat} {v : Value} {y : DataW H × List MemPlace} {t : TypeId} (ht : t = 3) (h : DataW.trod enc Try.prog w base spare held n t [v] = some y) : ∃ z, v = .int .i64 z ∧ (Lit.int .i64 z).wf = true := by
  subst ht
  obtain ⟨z, h1, _, h2⟩ := DataW.trod_int Try.underlying3 h
  exact ⟨z, by injection h1, h2⟩
/-- A struct of one-cell fields, field by field, with what each holds. -/
theorem fields_read {P : Program} {t : TypeId} {fs : Array Field} {fuel : Nat} {cs : List Value} {x : DataW H × List MemPlace} (hs : P.underlying t = some (.struct fs)) (hone : oneCellFields P fs = true) (hC : P.cellsOf t = fs.size)
    (h : DataW.trod enc P w base spare held fuel t cs = some x) : cs.length = fs.size ∧ ∃ n, ∀ (j : Nat) (f : Field), fs[j]? = some f → ∃ v y, cs[j]? = some v ∧ DataW.trod enc P w base spare held n f.type [v] = some y ∧ Rows.uptoBulk y.1 ≤ Rows.uptoBulk x.1 := by
  obtain ⟨xs, n, _, hx, hlen, hxl, hg⟩ := DataW.trod_struct hs h
  refine ⟨hlen.trans hC, n, fun j f hj => ?_⟩
  obtain ⟨ho, hk⟩ := hone_of hone j f hj
  have hjs : j < fs.size := (Array.getElem?_eq_some_iff.1 hj).1
  have hjc : j < cs.length := by omega
  have hjx : j < xs.length := by omega
  have h1 := hg j f hj
  rw [ho, hk, List.getElem?_eq_getElem hjx] at h1
  have h2 : (cs.drop j).take 1 = [cs[j]] := by rw [List.drop_eq_getElem_cons hjc]; rfl
  rw [h2] at h1
  refine ⟨cs[j], xs[j], List.getElem?_eq_getElem hjc, h1, ?_⟩
  rw [hx]
  simp only [Rows.uptoBulk]
  have := bulk_mem (l := xs.map (·.1)) (d := xs[j].1) (List.mem_map.2 ⟨xs[j], List.getElem_mem _, rfl⟩)
  omega
theorem op_read {fuel : Nat} {cs : List Value} {x : DataW H × List MemPlace} (h : DataW.trod enc Try.prog w base spare held fuel 35 cs = some x) (hb : Rows.uptoBulk x.1 ≤ 1048576) : ∃ o : OPE, cs = o.vals.toList ∧ o.Ok w := by
  obtain ⟨fs, hs, hone, hC, h4, t0, t1, t2, t3⟩ := one35
  obtain ⟨hlen, n, hf⟩ := fields_read hs hone hC h
  obtain ⟨f0, e0, g0⟩ := map_some t0
  obtain ⟨f1, e1, g1⟩ := map_some t1
  obtain ⟨f2, e2, g2⟩ := map_some t2
  obtain ⟨f3, e3, g3⟩ := map_some t3
  obtain ⟨v0, y0, c0, r0, _⟩ := hf 0 f0 e0
  obtain ⟨v1, y1, c1, r1, _⟩ := hf 1 f1 e1
  obtain ⟨v2, y2, c2, r2, _⟩ := hf 2 f2 e2
  obtain ⟨v3, y3, c3, r3, b3⟩ := hf 3 f3 e3
  obtain ⟨z0, rfl, w0⟩ := int_field g0 r0
  obtain ⟨z1, rfl, w1⟩ := int_field g1 r1
  obtain ⟨z2, rfl, w2⟩ := int_field g2 r2
  rw [g3] at r3
  obtain ⟨ka, kl, kc, T, hv3, hT, hl⟩ := texts_read r3
  injection hv3 with hv3 _
  subst hv3
  refine ⟨⟨z0, z1, z2, ka, kl, kc, T⟩, ?_, hT, by simp only; omega, w1⟩
  match cs, hlen.trans h4 with
  | [x0, x1, x2, x3], _ =>
    simp at c0 c1 c2 c3
    subst c0 c1 c2 c3
    simp [OPE.vals]
/-- A script. -/
theorem ops_read {fuel : Nat} {cs : List Value} {x : DataW H × List MemPlace} (h : DataW.trod enc Try.prog w base spare held fuel 22 cs = some x) (hb : Rows.uptoBulk x.1 ≤ 1048576) : ∃ a len cap os, cs = [.slice a len cap] ∧ IsOps w a len os := by
  rcases open_slice Try.underlying22 h with ⟨hcs, _⟩ | ⟨a, len, cap, m, n, D, Pl, hcs, _, hl, hm, hmm, hx, hi⟩
  · exact ⟨none, 0, 0, [], hcs, rfl, by omega, 0, 0, .inl rfl, fun k hk => absurd hk (by simp)⟩
  · refine ⟨some a, len, cap, ?_⟩
    have hlm : len ≤ m := by rw [hmm]; split <;> omega
    obtain ⟨fs, _, _, hC, h4, _⟩ := one35
    haveI : Inhabited OPE := ⟨⟨0, 0, 0, none, 0, 0, []⟩⟩
    have hcell : ∀ i, i < len → ∃ o : OPE, (∀ j, j < 4 → w.cell? ((a.add (i * 4)).add j) = o.vals[j]?) ∧ o.Ok w := by
      intro i hil
      obtain ⟨cs', hc, ht⟩ := hi i (by omega)
      rw [hC, h4] at hc
      obtain ⟨_, hcl, hat⟩ := World.cells?_some hc
      have hbi : Rows.uptoBulk (D i) ≤ 1048576 := by
        rw [hx] at hb
        have h2 := bulk_slice ((List.range len).map D) ((List.range (m - len)).map fun j => D (len + j))
        have h3 := bulk_mem (l := (List.range len).map D) (d := D i) (List.mem_map.2 ⟨i, by simpa using hil, rfl⟩)
        simp only at hb
        omega
      obtain ⟨o, ho, hok⟩ := op_read ht hbi
      exact ⟨o, fun j hj => by rw [hat j hj, ho]; simp, hok⟩
    obtain ⟨V, hV⟩ := choose_lt (α := OPE) hcell
    refine ⟨(List.range len).map V, hcs, by simp, by unfold maxLen at hm; omega, ?_⟩
    by_cases h0 : len = 0
    · subst h0
      exact ⟨0, 0, .inl rfl, fun k hk => absurd hk (by simp)⟩
    · obtain ⟨c0, _⟩ := hV 0 (by omega)
      have c00 := c0 0 (by omega)
      have ha : ∃ b off, a = ⟨b, off, none⟩ := by
        obtain ⟨b, off, spot⟩ := a
        have := World.cell?_spot (v := .int .i64 (V 0).kind) c00
        have hs : spot = none := by simpa [Addr.add] using this
        subst hs
        exact ⟨b, off, rfl⟩
      obtain ⟨b, off, rfl⟩ := ha
      refine ⟨b, off, .inr rfl, fun k hk => ?_⟩
      have hk' : k < len := by simpa using hk
      obtain ⟨h1, h2⟩ := hV k hk'
      have hg : ((List.range len).map V)[k] = V k := by simp
      rw [hg]
      refine ⟨?_, fun j hj => ?_, h2⟩
      · have := h1 0 (by omega)
        rw [addr_add, addr_add] at this
        exact cell_block (v := .int .i64 (V k).kind) this
      · have := h1 j hj
        rw [addr_add, addr_add] at this
        exact this
end
theorem OPE.Ok.below {o : OPE} {w w' : World} (h : o.Ok w) (k : Below w.heap.size w w') : o.Ok w' := ⟨h.things.below k, h.few, h.ws⟩
theorem IsOps.below {w w' : World} {a : Option Addr} {len : Nat} {os : List OPE} (h : IsOps w a len os) (k : Below w.heap.size w w') : IsOps w' a len os := by
  obtain ⟨h1, h2, b, off, h3, h4⟩ := h
  refine ⟨h1, h2, b, off, h3, fun i hi => ?_⟩
  obtain ⟨h5, h6, h7⟩ := h4 i hi
  exact ⟨Nat.lt_of_lt_of_le h5 k.size, fun j hj => by rw [k.cell h5]; exact h6 j hj, h7.below k⟩
end Go.Proofs.Ytagadjgemgajjaa
