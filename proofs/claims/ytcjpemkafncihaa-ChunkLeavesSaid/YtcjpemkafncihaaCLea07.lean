/- Texts put together: ChunkOpen -/
import Derived.Test.YtcjpemkafncihaaCLea01
import Derived.Deep.Slices
import Derived.Deep.Fields
import Derived.ChangeSame
import Derived.SizedLaws
/- A conf, and bytes, that come in. -/
set_option linter.unusedVariables false
set_option maxRecDepth 100000
namespace Go.Proofs.Ytcjpemkafncihaa
open Go.ChangeShapes Go.WideShapes Go.Deep
open Go.RowKit (Below)

/-- A number of 64 bits. -/
def i64R (z : Int) : Prop := -9223372036854775808 ≤ z ∧ z ≤ 9223372036854775807
section
variable {H : Type} {enc : TypeId × Value → H} {w : World} {base : Nat} {spare : Nat → Bool} {held : Bool}
/-- A struct of one-cell fields, field by field. -/
theorem fields_read {P : Program} {t : TypeId} {fs : Array Field} {fuel : Nat} {cs : List Value} {x : DataW H × List MemPlace} (hs : P.underlying t = some (.struct fs)) (hone : oneCellFields P fs = true) (hC : P.cellsOf t = fs.size)
    (h : DataW.trod enc P w base spare held fuel t cs = some x) : cs.length = fs.size ∧ ∃ n, ∀ (j : Nat) (f : Field), fs[j]? = some f → ∃ v y, cs[j]? = some v ∧ DataW.trod enc P w base spare held n f.type [v] = some y := by
  obtain ⟨xs, n, _, _, hlen, hxl, hg⟩ := DataW.trod_struct hs h
  refine ⟨hlen.trans hC, n, fun j f hj => ?_⟩
  obtain ⟨ho, hk⟩ := hone_of hone j f hj
  have hjs : j < fs.size := (Array.getElem?_eq_some_iff.1 hj).1
  have hjc : j < cs.length := by omega
  have hjx : j < xs.length := by omega
  have h1 := hg j f hj
  rw [ho, hk, List.getElem?_eq_getElem hjx] at h1
  have h2 : (cs.drop j).take 1 = [cs[j]] := by rw [List.drop_eq_getElem_cons hjc]; rfl
  rw [h2] at h1
  exact ⟨cs[j], xs[j], List.getElem?_eq_getElem hjc, h1⟩
theorem map_some {α β : Type} {o : Option α} {f : α → β} {b : β} (h : o.map f = some b) : ∃ a, o = some a ∧ f a = b := by
  cases o with
  | none => cases h
  | some a => exact ⟨a, rfl, by injection h⟩
theorem int_field {n : Nat} {v : Value} {y : DataW H × List MemPlace} {t : TypeId} (ht : t = 3) (h : DataW.trod enc Try.prog w base spare held n t [v] = some y) : ∃ z, v = .int .i64 z ∧ i64R z := by
  subst ht
  obtain ⟨z, h1, _, h2⟩ := DataW.trod_int Try.underlying3 h
  exact ⟨z, by injection h1, by simp [Lit.wf, IntKind.min, IntKind.max, IntKind.signed, IntKind.bits] at h2; exact ⟨by omega, by omega⟩⟩
theorem oneC : ∃ fs, Try.prog.underlying 23 = some (.struct fs) ∧ oneCellFields Try.prog fs = true ∧ Try.prog.cellsOf 23 = fs.size ∧ fs.size = 12 ∧ ∀ j, j < 12 → (fs[j]?.map (·.type)) = some 3 :=
  ⟨_, Try.underlying23, by kernel_rfl, by kernel_rfl, by kernel_rfl, fun j hj => by
    have : j = 0 ∨ j = 1 ∨ j = 2 ∨ j = 3 ∨ j = 4 ∨ j = 5 ∨ j = 6 ∨ j = 7 ∨ j = 8 ∨ j = 9 ∨ j = 10 ∨ j = 11 := by omega
    rcases this with rfl | rfl | rfl | rfl | rfl | rfl | rfl | rfl | rfl | rfl | rfl | rfl <;> rfl⟩
/-- A conf that comes in. -/
theorem conf_read {fuel : Nat} {cs : List Value} {x : DataW H × List MemPlace} (h : DataW.trod enc Try.prog w base spare held fuel 23 cs = some x) : ∃ c : Conf, cs = c.cells.toList := by
  obtain ⟨fs, hs, hone, hC, h12, ht⟩ := oneC
  obtain ⟨hlen, n, hf⟩ := fields_read hs hone hC h
  have hv : ∀ j, j < 12 → ∃ z : Int, cs[j]? = some (.int .i64 z) ∧ i64R z := fun j hj => by
    obtain ⟨f, e, g⟩ := map_some (ht j hj)
    obtain ⟨v, y, c, r⟩ := hf j f e
    obtain ⟨z, rfl, hz⟩ := int_field g r
    exact ⟨z, c, hz⟩
  obtain ⟨V, hV⟩ := choose_lt (α := Int) hv
  have hfit : ∀ i, -9223372036854775808 ≤ (if i < 12 then V i else 0) ∧ (if i < 12 then V i else 0) ≤ 9223372036854775807 := fun i => by
    by_cases hi : i < 12
    · have := (hV i hi).2
      simp only [hi, if_true]
      exact this
    · simp only [hi, if_false]
      omega
  refine ⟨⟨fun i => if i < 12 then V i else 0, hfit⟩, ?_⟩
  · apply List.ext_getElem?
    intro j
    by_cases hj : j < 12
    · rw [(hV j hj).1]
      have : j = 0 ∨ j = 1 ∨ j = 2 ∨ j = 3 ∨ j = 4 ∨ j = 5 ∨ j = 6 ∨ j = 7 ∨ j = 8 ∨ j = 9 ∨ j = 10 ∨ j = 11 := by omega
      rcases this with rfl | rfl | rfl | rfl | rfl | rfl | rfl | rfl | rfl | rfl | rfl | rfl <;> rfl
    · rw [List.getElem?_eq_none (by omega), List.getElem?_eq_none (by simp [Conf.cells]; omega)]
theorem byte_read {fuel : Nat} {cs : List Value} {x : DataW H × List MemPlace} (h : DataW.trod enc Try.prog w base spare held fuel 5 cs = some x) : ∃ b : UInt8, cs = [byteV b] := by
  obtain ⟨z, h1, _, h2⟩ := DataW.trod_int Try.underlying5 h
  simp [Lit.wf, IntKind.min, IntKind.max, IntKind.signed, IntKind.bits] at h2
  refine ⟨UInt8.ofNat z.toNat, ?_⟩
  rw [h1]
  unfold byteV
  rw [ofNat_toNat]
  congr 2
  omega
/-- Bytes that come in. -/
theorem bytes_read {fuel : Nat} {cs : List Value} {x : DataW H × List MemPlace} (h : DataW.trod enc Try.prog w base spare held fuel 24 cs = some x) : ∃ v D, cs = [v] ∧ BsV (fun b => b < w.heap.size) w v D ∧ D.length ≤ 9223372036854775807 := by
  rcases open_slice Try.underlying24 h with ⟨hcs, _⟩ | ⟨a, len, cap, m, n, D, Pl, hcs, _, hl, hm, hmm, _, hi⟩
  · exact ⟨_, [], hcs, .inl ⟨rfl, rfl⟩, by simp⟩
  · have hlm : len ≤ m := by rw [hmm]; split <;> omega
    have hC : Try.prog.cellsOf 5 = 1 := by kernel_rfl
    have hcell : ∀ i, i < len → ∃ b : UInt8, w.cell? (a.add i) = some (byteV b) := by
      intro i hil
      obtain ⟨cs', hc, ht⟩ := hi i (by omega)
      rw [hC, Nat.mul_one] at hc
      obtain ⟨_, hcl, hat⟩ := World.cells?_some hc
      obtain ⟨b, rfl⟩ := byte_read ht
      have := hat 0 (by omega)
      refine ⟨b, ?_⟩
      simpa [Addr.add] using this
    obtain ⟨V, hV⟩ := choose_lt (α := UInt8) hcell
    refine ⟨_, (List.range len).map V, hcs, .inr ⟨a, cap, by simp, by simpa using hl, ?_⟩, by simp; unfold maxLen at hm; omega⟩
    by_cases h0 : len = 0
    · left; subst h0; rfl
    · right
      have c00 := hV 0 (by omega)
      have ha : ∃ b off, a = ⟨b, off, none⟩ := by
        obtain ⟨b, off, spot⟩ := a
        have := World.cell?_spot (v := byteV (V 0)) c00
        have hs : spot = none := by simpa [Addr.add] using this
        subst hs
        exact ⟨b, off, rfl⟩
      obtain ⟨b, off, rfl⟩ := ha
      have hb : b < w.heap.size := cell_block (v := byteV (V 0)) (by simpa [Addr.add] using c00)
      refine ⟨b, off, rfl, hb, hb, fun k hk => ?_⟩
      have hk' : k < len := by simpa using hk
      have q := hV k hk'
      rw [addr_add] at q
      rw [q]
      simp [hk']
end
theorem open_conf {H : Type} {enc : TypeId × Value → H} {W : World} {d : DataW H} {p : List MemPlace} {cs : Array Value} (h : DataW.Trod enc Try.prog W 0 (fun _ => true) true 23 (.agg cs) d p) : ∃ c : Conf, cs = c.cells := by
  obtain ⟨n, hn⟩ := h
  obtain ⟨c, hc⟩ := conf_read hn
  exact ⟨c, by rw [← Array.toList_inj]; simpa [Value.cells] using hc⟩
theorem open_bts {H : Type} {enc : TypeId × Value → H} {W : World} {d : DataW H} {p : List MemPlace} {a : Option Addr} {len cap : Nat} (h : DataW.Trod enc Try.prog W 0 (fun _ => true) true 24 (.slice a len cap) d p) : ∃ D, BsV (fun b => b < W.heap.size) W (.slice a len cap) D ∧ D.length ≤ 9223372036854775807 := by
  obtain ⟨n, hn⟩ := h
  obtain ⟨v, D, e, h1, h2⟩ := bytes_read hn
  have : v = .slice a len cap := by simpa [Value.cells] using e.symm
  subst this
  exact ⟨D, h1, h2⟩
theorem bytesU8 : Try.prog.bytesOf 5 = 1 := by kernel_rfl
/-- Bytes that come in are no more than the row's own reach allows. -/
theorem open_btz {H : Type} {enc : TypeId × Value → H} {W : World} {d : DataW H} {p : List MemPlace} {a : Option Addr} {len cap : Nat} (h : DataW.Trod enc Try.prog W 0 (fun _ => true) true 24 (.slice a len cap) d p)
    (hz : ∀ n ∈ d.weights Try.prog 24, n ≤ reachBytes) : ∃ D, BsV (fun b => b < W.heap.size) W (.slice a len cap) D ∧ D.length ≤ 140737488351232 := by
  obtain ⟨D, h1, -⟩ := open_bts h
  refine ⟨D, h1, ?_⟩
  have hD : D.length = len := by
    obtain ⟨a', c', e⟩ := h1.slice
    injection e with _ e _
    exact e.symm
  rw [hD]
  obtain ⟨fuel, hf⟩ := h
  rcases open_slice Try.underlying24 hf with ⟨hcs, _⟩ | ⟨a', len', cap', m, n, D', Pl, hcs, _, hl, hm, hmm, hx, _⟩
  · simp [Value.cells] at hcs
    omega
  · simp [Value.cells] at hcs
    obtain ⟨rfl, rfl, rfl⟩ := hcs
    injection hx with hx _
    subst hx
    have h1 : (((List.range len).map D').length + ((List.range (m - len)).map fun j => D' (len + j)).length) * Try.prog.bytesOf 5 ∈ DataW.weights Try.prog 24 (DataW.slice ((List.range len).map D') ((List.range (m - len)).map fun j => D' (len + j))) := by
      simp only [DataW.weights, Try.underlying24, List.mem_cons]
      exact .inl trivial
    have h2 := hz _ h1
    rw [bytesU8, List.length_map, List.length_range] at h2
    unfold reachBytes at h2
    omega
end Go.Proofs.Ytcjpemkafncihaa
