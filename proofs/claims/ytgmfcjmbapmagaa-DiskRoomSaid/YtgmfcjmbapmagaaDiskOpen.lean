/- Scripts, calls and Keeps that come in: what is known of them. -/
import Derived.Test.YtgmfcjmbapmagaaDiskTell
import Derived.Deep.Slices
import Derived.Deep.Fields
import Derived.ChangeSame
set_option linter.unusedVariables false
namespace Go.Proofs.Ytgmfcjmbapmagaa
open Go.ChangeShapes Go.WideShapes Go.Deep
open Go.RowKit (Below)

section
variable {H : Type} {enc : TypeId × Value → H} {w : World} {base : Nat} {spare : Nat → Bool} {held : Bool}
/-- A struct of one-cell fields, field by field. -/
theorem fields_read {P : Program} {t : TypeId} {fs : Array Field} {fuel : Nat} {cs : List Value} {x : DataW H × List MemPlace} (hs : P.underlying t = some (.struct fs)) (hone : oneCellFields P fs = true) (hC : P.cellsOf t = fs.size)
    (h : DataW.trod enc P w base spare held fuel t cs = some x) : cs.length = fs.size ∧ ∃ n, ∀ (j : Nat) (f : Field), fs[j]? = some f → ∃ v y, cs[j]? = some v ∧ DataW.trod enc P w base spare held n f.type [v] = some y := by
  obtain ⟨xs, n, _, _, hlen, hxl, hg⟩ := DataW.trod_struct hs h
  refine ⟨hlen.trans hC, n, fun j f hj => ?_⟩
  obtain ⟨ho, hk⟩ := hone_of hone j f hj
  have hjs : j < fs.size := (Array.getElem?_eq_some_iff.1 hj).1
  have hjc : j < cs.length := by omega
  have hjx : j < xs.length := by omega
  have h1 := hg j f hj
  rw [ho, hk, List.getElem?_eq_getElem hjx] at h1
  have h2 : (cs.drop j).take 1 = [cs[j]] := by rw [List.drop_eq_getElem_cons hjc]; rfl
  rw [h2] at h1
  exact ⟨cs[j], xs[j], List.getElem?_eq_getElem hjc, h1⟩
theorem one53 : ∃ fs, Try.prog.underlying 53 = some (.struct fs) ∧ oneCellFields Try.prog fs = true ∧ Try.prog.cellsOf 53 = fs.size ∧ fs.size = 2 ∧ (fs[0]?.map (·.type)) = some 3 ∧ (fs[1]?.map (·.type)) = some 3 := ⟨_, Try.underlying53, by kernel_rfl, by kernel_rfl, by kernel_rfl, by kernel_rfl, by kernel_rfl⟩
theorem one32 : ∃ fs, Try.prog.underlying 32 = some (.struct fs) ∧ oneCellFields Try.prog fs = true ∧ Try.prog.cellsOf 32 = fs.size ∧ fs.size = 7 ∧ (fs[0]?.map (·.type)) = some 3 ∧ (fs[1]?.map (·.type)) = some 3 ∧ (fs[2]?.map (·.type)) = some 3 ∧ (fs[3]?.map (·.type)) = some 3 ∧ (fs[4]?.map (·.type)) = some 3 ∧ (fs[5]?.map (·.type)) = some 9 ∧ (fs[6]?.map (·.type)) = some 23 :=
  ⟨_, Try.underlying32, by kernel_rfl, by kernel_rfl, by kernel_rfl, by kernel_rfl, by kernel_rfl, by kernel_rfl, by kernel_rfl, by kernel_rfl, by kernel_rfl, by kernel_rfl⟩
theorem map_some {α β : Type} {o : Option α} {f : α → β} {b : β} (h : o.map f = some b) : ∃ a, o = some a ∧ f a = b := by
  cases o with
  | none => cases h
  | some a => exact ⟨a, rfl, by injection h⟩
theorem int_field {n : Nat} {v : Value} {y : DataW H × List MemPlace} {t : TypeId} (ht : t = 3) (h : DataW.trod enc Try.prog w base spare held n t [v] = some y) : ∃ z, v = .int .i64 z ∧ (Lit.int .i64 z).wf = true := by
  subst ht
  obtain ⟨z, h1, _, h2⟩ := DataW.trod_int Try.underlying3 h
  exact ⟨z, by injection h1, h2⟩
theorem no_spot {a : Addr} {v : Value} (h : w.cell? a = some v) : ∃ b off, a = ⟨b, off, none⟩ := by
  obtain ⟨b, off, spot⟩ := a
  have := World.cell?_spot h
  simp only at this
  subst this
  exact ⟨b, off, rfl⟩
/-- Keeps. -/
theorem keeps_read {fuel : Nat} {cs : List Value} {x : DataW H × List MemPlace} (h : DataW.trod enc Try.prog w base spare held fuel 23 cs = some x) : ∃ a len cap ks, cs = [.slice a len cap] ∧ IsKeeps w a len ks := by
  rcases open_slice Try.underlying23 h with ⟨hcs, _⟩ | ⟨a, len, cap, m, n, D, Pl, hcs, _, hl, hm, hmm, _, hi⟩
  · exact ⟨none, 0, 0, [], hcs, IsKeeps.nil w⟩
  · refine ⟨some a, len, cap, ?_⟩
    have hlm : len ≤ m := by rw [hmm]; split <;> omega
    obtain ⟨fs, hs, hone, hC, h2, t0, t1⟩ := one53
    obtain ⟨f0, e0, g0⟩ := map_some t0
    obtain ⟨f1, e1, g1⟩ := map_some t1
    have hcell : ∀ i, i < len → ∃ p : Int × Int, w.cell? (a.add (i * 2)) = some (.int .i64 p.1) ∧ w.cell? ((a.add (i * 2)).add 1) = some (.int .i64 p.2) ∧ (Lit.int .i64 p.1).wf = true ∧ (Lit.int .i64 p.2).wf = true := by
      intro i hil
      obtain ⟨cs', hc, ht⟩ := hi i (by omega)
      rw [hC, h2] at hc
      obtain ⟨_, hcl, hat⟩ := World.cells?_some hc
      obtain ⟨_, k, hf⟩ := fields_read hs hone hC ht
      obtain ⟨v0, y0, c0, r0⟩ := hf 0 f0 e0
      obtain ⟨v1, y1, c1, r1⟩ := hf 1 f1 e1
      obtain ⟨z0, rfl, w0⟩ := int_field g0 r0
      obtain ⟨z1, rfl, w1⟩ := int_field g1 r1
      have h00 := hat 0 (by omega)
      have h01 := hat 1 (by omega)
      rw [c0] at h00
      rw [c1] at h01
      refine ⟨(z0, z1), ?_, h01, w0, w1⟩
      have : (a.add (i * 2)).add 0 = a.add (i * 2) := by
        obtain ⟨b, off, hb⟩ := no_spot h00
        have hs := World.cell?_spot h00
        unfold Addr.add at hs hb ⊢
        revert hs hb
        split <;> simp_all
      rw [this] at h00
      exact h00
    obtain ⟨V, hV⟩ := choose_lt (α := Int × Int) hcell
    refine ⟨(List.range len).map V, hcs, by simp, by unfold maxLen at hm; omega, ?_⟩
    by_cases h0 : len = 0
    · subst h0
      exact ⟨0, 0, .inl rfl, fun k hk => absurd hk (by simp)⟩
    · obtain ⟨c0, _⟩ := hV 0 (by omega)
      have ha : ∃ b off, a = ⟨b, off, none⟩ := by
        obtain ⟨b, off, spot⟩ := a
        have := World.cell?_spot c0
        have hs : spot = none := by simpa [Addr.add] using this
        subst hs
        exact ⟨b, off, rfl⟩
      obtain ⟨b, off, rfl⟩ := ha
      refine ⟨b, off, .inr rfl, fun k hk => ?_⟩
      have hk' : k < len := by simpa using hk
      obtain ⟨h1, h2, h3, h4⟩ := hV k hk'
      rw [addr_add] at h1 h2
      rw [addr_add] at h2
      have hg : ((List.range len).map V).getD k (0, 0) = V k := by simp [List.getD_eq_getElem?_getD, hk']
      rw [hg]
      exact ⟨cell_block h1, h1, h2, h3, h4⟩
/-- A call, its seven cells read. -/
theorem op_read {fuel : Nat} {cs : List Value} {x : DataW H × List MemPlace} (h : DataW.trod enc Try.prog w base spare held fuel 32 cs = some x) : ∃ o : OP, cs = o.vals.toList ∧ o.Ok w := by
  obtain ⟨fs, hs, hone, hC, h7, t0, t1, t2, t3, t4, t5, t6⟩ := one32
  obtain ⟨hlen, n, hf⟩ := fields_read hs hone hC h
  obtain ⟨f0, e0, g0⟩ := map_some t0
  obtain ⟨f1, e1, g1⟩ := map_some t1
  obtain ⟨f2, e2, g2⟩ := map_some t2
  obtain ⟨f3, e3, g3⟩ := map_some t3
  obtain ⟨f4, e4, g4⟩ := map_some t4
  obtain ⟨f5, e5, g5⟩ := map_some t5
  obtain ⟨f6, e6, g6⟩ := map_some t6
  obtain ⟨v0, y0, c0, r0⟩ := hf 0 f0 e0
  obtain ⟨v1, y1, c1, r1⟩ := hf 1 f1 e1
  obtain ⟨v2, y2, c2, r2⟩ := hf 2 f2 e2
  obtain ⟨v3, y3, c3, r3⟩ := hf 3 f3 e3
  obtain ⟨v4, y4, c4, r4⟩ := hf 4 f4 e4
  obtain ⟨v5, y5, c5, r5⟩ := hf 5 f5 e5
  obtain ⟨v6, y6, c6, r6⟩ := hf 6 f6 e6
  obtain ⟨z0, rfl, w0⟩ := int_field g0 r0
  obtain ⟨z1, rfl, w1⟩ := int_field g1 r1
  obtain ⟨z2, rfl, w2⟩ := int_field g2 r2
  obtain ⟨z3, rfl, w3⟩ := int_field g3 r3
  obtain ⟨z4, rfl, w4⟩ := int_field g4 r4
  rw [g5] at r5
  rw [g6] at r6
  obtain ⟨tx, hv5, _, htx⟩ := DataW.trod_string Try.underlying9 r5
  obtain ⟨ka, kl, kc, ks, hv6, hks⟩ := keeps_read r6
  injection hv5 with hv5 _
  injection hv6 with hv6 _
  subst hv5 hv6
  refine ⟨⟨z0, z1, z2, z3, z4, tx.data.toList, ka, kl, kc, ks⟩, ?_, ⟨w0, w2, ?_, hks⟩⟩
  · have hb : bs tx.data.toList = tx := (bs_eq rfl).symm
    match cs, hlen.trans h7 with
    | [x0, x1, x2, x3, x4, x5, x6], _ =>
      simp at c0 c1 c2 c3 c4 c5 c6
      subst c0 c1 c2 c3 c4 c5 c6
      simp [OP.vals, hb]
  · have : tx.data.toList.length = tx.size := by rw [← Lib.size_eq]
    simp only
    rw [this]
    unfold maxLen at htx
    omega
/-- A script. -/
theorem ops_read {fuel : Nat} {cs : List Value} {x : DataW H × List MemPlace} (h : DataW.trod enc Try.prog w base spare held fuel 22 cs = some x) : ∃ a len cap os, cs = [.slice a len cap] ∧ IsOps w a len os := by
  rcases open_slice Try.underlying22 h with ⟨hcs, _⟩ | ⟨a, len, cap, m, n, D, Pl, hcs, _, hl, hm, hmm, _, hi⟩
  · exact ⟨none, 0, 0, [], hcs, rfl, by omega, 0, 0, .inl rfl, fun k hk => absurd hk (by simp)⟩
  · refine ⟨some a, len, cap, ?_⟩
    have hlm : len ≤ m := by rw [hmm]; split <;> omega
    obtain ⟨fs, _, _, hC, h7, _⟩ := one32
    haveI : Inhabited OP := ⟨⟨0, 0, 0, 0, 0, [], none, 0, 0, []⟩⟩
    have hcell : ∀ i, i < len → ∃ o : OP, (∀ j, j < 7 → w.cell? ((a.add (i * 7)).add j) = o.vals[j]?) ∧ o.Ok w := by
      intro i hil
      obtain ⟨cs', hc, ht⟩ := hi i (by omega)
      rw [hC, h7] at hc
      obtain ⟨_, hcl, hat⟩ := World.cells?_some hc
      obtain ⟨o, ho, hok⟩ := op_read ht
      exact ⟨o, fun j hj => by rw [hat j hj, ho]; simp, hok⟩
    obtain ⟨V, hV⟩ := choose_lt (α := OP) hcell
    refine ⟨(List.range len).map V, hcs, by simp, by unfold maxLen at hm; omega, ?_⟩
    by_cases h0 : len = 0
    · subst h0
      exact ⟨0, 0, .inl rfl, fun k hk => absurd hk (by simp)⟩
    · obtain ⟨c0, _⟩ := hV 0 (by omega)
      have c00 := c0 0 (by omega)
      have ha : ∃ b off, a = ⟨b, off, none⟩ := by
        obtain ⟨b, off, spot⟩ := a
        have := World.cell?_spot (v := .int .i64 (V 0).kind) c00
        have hs : spot = none := by simpa [Addr.add] using this
        subst hs
        exact ⟨b, off, rfl⟩
      obtain ⟨b, off, rfl⟩ := ha
      refine ⟨b, off, .inr rfl, fun k hk => ?_⟩
      have hk' : k < len := by simpa using hk
      obtain ⟨h1, h2⟩ := hV k hk'
      have hg : ((List.range len).map V)[k] = V k := by simp
      rw [hg]
      refine ⟨?_, fun j hj => ?_, h2⟩
      · have := h1 0 (by omega)
        rw [addr_add, addr_add] at this
        exact cell_block (v := .int .i64 (V k).kind) this
      · have := h1 j hj
        rw [addr_add, addr_add] at this
        exact this
end
end Go.Proofs.Ytgmfcjmbapmagaa
