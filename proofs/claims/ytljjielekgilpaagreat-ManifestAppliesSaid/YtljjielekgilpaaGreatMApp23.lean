/- Texts put together: ManOpen2, ManFew, ManLawBase, ManRefApply, ManRefEds -/
import Derived.Test.YtljjielekgilpaaGreatMApp22
import Derived.Test.YtljjielekgilpaaGreatMApp11
import Derived.Test.YtljjielekgilpaaGreatMApp12
import Derived.Test.YtljjielekgilpaaGreatMApp15
import Derived.Test.YtljjielekgilpaaGreatMApp16
import Derived.Test.YtljjielekgilpaaGreatMApp17
import Derived.Test.YtljjielekgilpaaGreatMApp18
import Derived.Test.YtljjielekgilpaaGreatMApp19
import Derived.Test.YtljjielekgilpaaGreatMApp20
import Derived.Test.YtljjielekgilpaaGreatMApp21
import Derived.Test.YtljjielekgilpaaGreatMApp08
import Derived.Test.YtljjielekgilpaaGreatMApp07
/- Slices of edits, and slices of those, that come in. -/
set_option linter.unusedVariables false
set_option maxRecDepth 100000
namespace Go.Proofs.YtljjielekgilpaaGreat
open Go.ChangeShapes Go.WideShapes Go.Deep
open Go.RowKit (Below)

instance : Inhabited Ed := ⟨⟨0, 0, 0, 0, [], []⟩⟩
/-- What is known of a slice of edits that came in. -/
structure InL (w : World) (a : Option Addr) (n cap : Nat) (L : List Ed) : Prop where
  len : n = L.length
  big : n ≤ maxLen
  is : RdX (fun b => b < w.heap.size) w (.slice a n cap) n (flat ecell L)
  fit : ∀ x ∈ L, x.In
theorem InL.below {w w' : World} {a : Option Addr} {n cap : Nat} {L : List Ed} (h : InL w a n cap L) (k : Below w.heap.size w w') : InL w' a n cap L := ⟨h.len, h.big, (h.is.below k).mono fun b hb _ => hb, h.fit⟩
/-- A list of edits in memory. -/
structure Gr where
  a : Option Addr
  n : Nat
  cap : Nat
  L : List Ed
instance : Inhabited Gr := ⟨⟨none, 0, 0, []⟩⟩
structure InG (w : World) (a : Option Addr) (n cap : Nat) (Gs : List Gr) : Prop where
  len : n = Gs.length
  big : n ≤ maxLen
  at' : ∃ b off, (n = 0 ∨ a = some ⟨b, off, none⟩) ∧ ∀ k l, Gs[k]? = some l → b < w.heap.size ∧ w.cell? ⟨b, off + k, none⟩ = some (.slice l.a l.n l.cap)
  is : ∀ g ∈ Gs, InL w g.a g.n g.cap g.L
theorem InG.below {w w' : World} {a : Option Addr} {n cap : Nat} {Gs : List Gr} (h : InG w a n cap Gs) (k : Below w.heap.size w w') : InG w' a n cap Gs := by
  obtain ⟨b, off, h1, h2⟩ := h.at'
  refine ⟨h.len, h.big, ⟨b, off, h1, fun i l hl => ?_⟩, fun g hg => (h.is g hg).below k⟩
  obtain ⟨h3, h4⟩ := h2 i l hl
  exact ⟨Nat.lt_of_lt_of_le h3 k.size, by rw [k.cell (p := ⟨b, off + i, none⟩) h3]; exact h4⟩
theorem InG.at {w : World} {a : Option Addr} {n cap : Nat} {Gs : List Gr} (h : InG w a n cap Gs) {i : Nat} (hi : i < n) : ∃ b off g, a = some ⟨b, off, none⟩ ∧ Gs[i]? = some g ∧ b < w.heap.size ∧ w.cell? ⟨b, off + i, none⟩ = some (.slice g.a g.n g.cap) ∧ InL w g.a g.n g.cap g.L := by
  obtain ⟨b, off, h1, h2⟩ := h.at'
  have hl : i < Gs.length := by rw [← h.len]; exact hi
  obtain ⟨h3, h4⟩ := h2 i _ (List.getElem?_eq_getElem hl)
  exact ⟨b, off, Gs[i], by rcases h1 with e | e; (omega); (exact e), List.getElem?_eq_getElem hl, h3, h4, h.is _ (List.getElem_mem hl)⟩
section
variable {H : Type} {enc : TypeId × Value → H} {w : World} {base : Nat} {spare : Nat → Bool} {held : Bool}
theorem eds_read {fuel : Nat} {cs : List Value} {x : DataW H × List MemPlace} (h : DataW.trod enc Tryz.prog w base spare held fuel 30 cs = some x) : ∃ a len cap T, cs = [.slice a len cap] ∧ InL w a len cap T := by
  rcases open_slice Tryz.underlying30 h with ⟨hcs, _⟩ | ⟨a, len, cap, m, n, D, Pl, hcs, _, hl, hm, hmm, _, hi⟩
  · exact ⟨none, 0, 0, [], hcs, rfl, Nat.zero_le _, ⟨⟨_, _, rfl⟩, .inl rfl⟩, fun x hx => by cases hx⟩
  · refine ⟨some a, len, cap, ?_⟩
    have hlm : len ≤ m := by rw [hmm]; split <;> omega
    obtain ⟨fs, _, _, hC, h6, _⟩ := oneEd
    have hcell : ∀ i, i < len → ∃ e : Ed, (∀ j, j < 6 → w.cell? ((a.add (i * 6)).add j) = (ecell e)[j]?) ∧ e.In := by
      intro i hil
      obtain ⟨cs', hc, ht⟩ := hi i (by omega)
      rw [hC, h6] at hc
      obtain ⟨_, hcl, hat⟩ := World.cells?_some hc
      obtain ⟨e, rfl, he⟩ := ed_read ht
      exact ⟨e, fun j hj => hat j hj, he⟩
    obtain ⟨V, hV⟩ := choose_lt (α := Ed) hcell
    refine ⟨(List.range len).map V, hcs, by simp, by omega, ⟨⟨_, _, rfl⟩, ?_⟩, fun e he => ?_⟩
    · by_cases h0 : len = 0
      · exact .inl h0
      · right
        obtain ⟨c0, _⟩ := hV 0 (by omega)
        have c00 := c0 0 (by omega)
        have ha : ∃ b off, a = ⟨b, off, none⟩ := by
          obtain ⟨b, off, spot⟩ := a
          have := World.cell?_spot (v := .int .i64 (V 0).kind) c00
          have hs : spot = none := by simpa [Addr.add] using this
          subst hs
          exact ⟨b, off, rfl⟩
        obtain ⟨b, off, rfl⟩ := ha
        rw [addr_add, addr_add] at c00
        refine ⟨_, _, rfl, by omega, .inr ⟨b, off, rfl, cell_block (v := .int .i64 (V 0).kind) c00, cell_block (v := .int .i64 (V 0).kind) c00, fun j u hu => ?_⟩⟩
        have hj : j < len * 6 := by
          have := (List.getElem?_eq_some_iff.1 hu).1
          rw [flat_len ecell_len] at this
          simpa using this
        have hk : j / 6 < len := by omega
        obtain ⟨h1, _⟩ := hV (j / 6) hk
        have q := h1 (j % 6) (by omega)
        rw [addr_add, addr_add] at q
        have hx : ((List.range len).map V)[j / 6]? = some (V (j / 6)) := by simp [hk]
        have hf := flat_at ecell_len hx (i := j % 6) (by omega)
        rw [show j / 6 * 6 + j % 6 = j by omega, hu] at hf
        rw [← hf, Nat.add_assoc, show j / 6 * 6 + j % 6 = j by omega] at q
        exact q
    · obtain ⟨i, hi, rfl⟩ := List.mem_map.1 he
      exact (hV i (by simpa using hi)).2
theorem groups_read {fuel : Nat} {cs : List Value} {x : DataW H × List MemPlace} (h : DataW.trod enc Tryz.prog w base spare held fuel 22 cs = some x) : ∃ a len cap Gs, cs = [.slice a len cap] ∧ InG w a len cap Gs := by
  rcases open_slice Tryz.underlying22 h with ⟨hcs, _⟩ | ⟨a, len, cap, m, n, D, Pl, hcs, _, hl, hm, hmm, _, hi⟩
  · exact ⟨none, 0, 0, [], hcs, rfl, Nat.zero_le _, ⟨0, 0, .inl rfl, fun k r hr => by simp at hr⟩, fun r hr => by cases hr⟩
  · refine ⟨some a, len, cap, ?_⟩
    have hlm : len ≤ m := by rw [hmm]; split <;> omega
    have hC : Tryz.prog.cellsOf 30 = 1 := by kernel_rfl
    have hcell : ∀ i, i < len → ∃ l : Gr, w.cell? (a.add i) = some (.slice l.a l.n l.cap) ∧ InL w l.a l.n l.cap l.L := by
      intro i hil
      obtain ⟨cs', hc, ht⟩ := hi i (by omega)
      rw [hC] at hc
      obtain ⟨_, hcl, hat⟩ := World.cells?_some hc
      obtain ⟨a', len', cap', T', rfl, hr⟩ := eds_read ht
      have h0 := hat 0 (by omega)
      have he : (a.add (i * 1)).add 0 = a.add i := by unfold Addr.add; split <;> simp_all
      rw [he] at h0
      exact ⟨⟨a', len', cap', T'⟩, h0, hr⟩
    obtain ⟨V, hV⟩ := choose_lt (α := Gr) hcell
    refine ⟨(List.range len).map V, hcs, by simp, by omega, ?_, fun r hr => ?_⟩
    · by_cases h0 : len = 0
      · subst h0
        exact ⟨0, 0, .inl rfl, fun k r hr => by simp at hr⟩
      · obtain ⟨c0, _⟩ := hV 0 (by omega)
        have ha : ∃ b off, a = ⟨b, off, none⟩ := by
          obtain ⟨b, off, spot⟩ := a
          have := World.cell?_spot (v := .slice (V 0).a (V 0).n (V 0).cap) c0
          have hs : spot = none := by simpa [Addr.add] using this
          subst hs
          exact ⟨b, off, rfl⟩
        obtain ⟨b, off, rfl⟩ := ha
        refine ⟨b, off, .inr rfl, fun k r hr => ?_⟩
        have hk' : k < len := by have := (List.getElem?_eq_some_iff.1 hr).1; simpa using this
        have hrV : r = V k := by simpa [hk'] using hr.symm
        subst hrV
        obtain ⟨q0, _⟩ := hV k hk'
        rw [addr_add] at q0
        exact ⟨cell_block (v := .slice (V k).a (V k).n (V k).cap) q0, q0⟩
    · obtain ⟨i, hi, rfl⟩ := List.mem_map.1 hr
      exact (hV i (by simpa using hi)).2
end
theorem open_eds {H : Type} {enc : TypeId × Value → H} {W : World} {d : DataW H} {p : List MemPlace} {a : Option Addr} {len cap : Nat} (h : DataW.Trod enc Tryz.prog W 0 (fun _ => true) true 30 (.slice a len cap) d p) : ∃ T, InL W a len cap T := by
  obtain ⟨fuel, hf⟩ := h
  obtain ⟨a', len', cap', T, hcs, hi⟩ := eds_read hf
  simp [Value.cells] at hcs
  obtain ⟨rfl, rfl, rfl⟩ := hcs
  exact ⟨T, hi⟩
theorem open_groups {H : Type} {enc : TypeId × Value → H} {W : World} {d : DataW H} {p : List MemPlace} {a : Option Addr} {len cap : Nat} (h : DataW.Trod enc Tryz.prog W 0 (fun _ => true) true 22 (.slice a len cap) d p) : ∃ Gs, InG W a len cap Gs := by
  obtain ⟨fuel, hf⟩ := h
  obtain ⟨a', len', cap', T, hcs, hi⟩ := groups_read hf
  simp [Value.cells] at hcs
  obtain ⟨rfl, rfl, rfl⟩ := hcs
  exact ⟨T, hi⟩
end Go.Proofs.YtljjielekgilpaaGreat
/- The law's own look: whether groups of edits are few. -/
set_option linter.unusedVariables false
set_option maxRecDepth 100000
namespace Go.Proofs.YtljjielekgilpaaGreat
open Go.RowKit

/-- The look, edit by edit: n edits and b bytes were looked at; none where it ends early. -/
def fewF : List Ed → Nat → Nat → Option Nat
  | [], _, b => some b
  | x :: L, n, b => if 200 < n + 1 ∨ 20000 < x.low.length ∨ 20000 < x.high.length ∨ 20000 < b then none else fewF L (n + 1) (b + x.low.length + x.high.length)
def fewR (n : Nat) : Option Nat → Bool
  | none => false
  | some b => decide (n ≤ 200) && decide (b ≤ 20000)
def fewB (Gs : List Gr) : Bool := fewR Gs.length (fewF (Gs.flatMap (·.L)) 0 0)
theorem fewF_of : ∀ (L : List Ed) (n b z : Nat), fewF L n b = some z → n ≤ 200 → n + L.length ≤ 200 ∧ (∀ x ∈ L, x.low.length ≤ 20000 ∧ x.high.length ≤ 20000)
  | [], n, b, z, _, hn => ⟨by simpa using hn, fun x hx => by cases hx⟩
  | x :: L, n, b, z, h, hn => by
    unfold fewF at h
    split at h
    · cases h
    · rename_i hx
      obtain ⟨h1, h2⟩ := fewF_of L _ _ z h (by omega)
      refine ⟨by simp; omega, fun y hy => ?_⟩
      rcases List.mem_cons.1 hy with rfl | hy
      · omega
      · exact h2 y hy
/-- Few groups: how much they are at most. -/
theorem few_of {Gs : List Gr} (h : fewB Gs = true) : Gs.length ≤ 200 ∧ (Gs.flatMap (·.L)).length ≤ 200 ∧ ∀ x ∈ Gs.flatMap (·.L), x.low.length ≤ 20000 ∧ x.high.length ≤ 20000 := by
  unfold fewB at h
  cases hb : fewF (Gs.flatMap (·.L)) 0 0 with
  | none => rw [hb] at h; cases h
  | some b =>
    rw [hb] at h
    obtain ⟨h1, h2⟩ := fewF_of _ _ _ _ hb (Nat.zero_le _)
    simp [fewR] at h
    exact ⟨h.1, by simpa using h1, h2⟩
theorem few_step {L : List Ed} {n b : Nat} {x : Ed} {R : Option Nat} (h : fewF (x :: L) n b = R) : (200 < n + 1 ∨ 20000 < x.low.length ∨ 20000 < x.high.length ∨ 20000 < b) ∧ R = none ∨ (n + 1 ≤ 200 ∧ x.low.length ≤ 20000 ∧ x.high.length ≤ 20000 ∧ b ≤ 20000) ∧ fewF L (n + 1) (b + x.low.length + x.high.length) = R := by
  unfold fewF at h
  split at h
  · rename_i hx; exact .inl ⟨hx, h.symm⟩
  · rename_i hx; exact .inr ⟨by omega, h⟩
set_option maxHeartbeats 4000000 in
theorem law_few {a : Option Addr} {len cap : Nat} {Gs : List Gr} {w : World} (h : Hid (InG w a len cap Gs)) :
    Calls Tryz.prog 9 #[.slice a len cap] w fun e w' => e = .returned (.bool (fewB Gs)) ∧ Below w.heap.size w w' := by
  obtain ⟨R, hR⟩ : ∃ R, fewF (Gs.flatMap (·.L)) 0 0 = R := ⟨_, rfl⟩
  have HR := Lib.hid hR
  have hbig : len ≤ 9223372036854775807 := by have := h.out.big; unfold maxLen at this; omega
  have HL := Lib.hid h.out.len
  have HF : Hid (fewB Gs = fewR len R) := Lib.hid (by unfold fewB; rw [hR, h.out.len])
  obtain ⟨F, hF⟩ : ∃ F, F = fewB Gs := ⟨_, rfl⟩
  rw [← hF] at HF ⊢
  clear hR hF
  go_enter Tryz.func9, Tryz.ntmps9
  go_wp2_with fail
  go_loopw [3, 4, 5] (fun nv bv iv wr => ∃ n b i : Nat, i ≤ len ∧ nv = .int .i64 (n : Int) ∧ bv = .int .i64 (b : Int) ∧ iv = .int .i64 (i : Int) ∧ Hid (n ≤ 200 ∧ b ≤ 60000) ∧ Hid (fewF ((Gs.drop i).flatMap (·.L)) n b = R) ∧ Hid (Below w.heap.size w wr)) (fun nv bv iv wr => len - (intOf iv).toNat)
  case atStart => exact ⟨0, 0, 0, Nat.zero_le _, rfl, rfl, rfl, Lib.hid ⟨by omega, by omega⟩, HR, Lib.hid (Below.refl _ _)⟩
  case round =>
    obtain ⟨n, b, i, hi, rfl, rfl, rfl, hnb, hf, hK⟩ := hrel
    by_cases hlt : i < len
    · obtain ⟨bb, off, g, rfl, hg, hb, hc, hI⟩ := h.out.at hlt
      have hlt2 : (i : Int) < (len : Int) := by omega
      have HI := Lib.hid hI
      have HB := Lib.hid hb
      have HC := Lib.hid hc
      have hgl : g.n ≤ 9223372036854775807 := by have := hI.big; unfold maxLen at this; omega
      obtain ⟨rest, hrest⟩ : ∃ rest, rest = (Gs.drop (i + 1)).flatMap (·.L) := ⟨_, rfl⟩
      have HS := Lib.hid (show fewF (g.L.drop 0 ++ rest) n b = R by
        rw [← hf.out, hrest, List.drop_zero]
        congr 1
        have hi' := (List.getElem?_eq_some_iff.1 hg)
        obtain ⟨hi', hgi⟩ := hi'
        rw [List.drop_eq_getElem_cons hi', hgi, List.flatMap_cons])
      have HREST := Lib.hid hrest
      clear hg hI hc hb hrest
      obtain ⟨ga, gn, gc, gL⟩ := g
      simp only at HI HC HS hgl
      go_wp2_with fail
      go_loopw [3, 4, 6] (fun nv bv kv wq => ∃ n b k : Nat, k ≤ gn ∧ nv = .int .i64 (n : Int) ∧ bv = .int .i64 (b : Int) ∧ kv = .int .i64 (k : Int) ∧ Hid (n ≤ 200 ∧ b ≤ 60000) ∧ Hid (fewF (gL.drop k ++ rest) n b = R) ∧ Hid (Below w.heap.size w wq)) (fun nv bv kv wq => gn - (intOf kv).toNat)
      case atStart => exact ⟨n, b, 0, Nat.zero_le _, rfl, rfl, rfl, hnb, HS, hK⟩
      case round =>
        obtain ⟨n', b', k, hk, rfl, rfl, rfl, hnb', hf', hK'⟩ := hrel
        have c0 : wr.cell? ⟨bb, off + i, none⟩ = some (.slice ga gn gc) := by rw [hK'.out.cell (p := ⟨bb, off + i, none⟩) HB.out]; exact HC.out
        by_cases hkl : k < gn
        · have hkl2 : (k : Int) < (gn : Int) := by omega
          obtain ⟨x, hx⟩ : ∃ x, gL[k]? = some x := ⟨_, List.getElem?_eq_getElem (by have := HI.out.len; omega)⟩
          obtain ⟨xb, xo, rfl, _, hxb, hxc⟩ := (HI.out.below hK'.out).is.atE hx hkl
          have y0 := hxc 0 _ rfl
          have y1 := hxc 1 _ rfl
          have y2 := hxc 2 _ rfl
          have y3 := hxc 3 _ rfl
          have y4 := hxc 4 _ rfl
          have y5 := hxc 5 _ rfl
          simp only [Nat.add_zero] at y0
          obtain ⟨w1, hw1⟩ : ∃ w1, wr.alloc (.cells #[.int .i64 x.kind, .int .i64 x.file, .int .i64 x.lev, .int .i64 x.cnt, .string (bs x.low), .string (bs x.high)] 44) = w1 := ⟨_, rfl⟩
          have hBq : w.heap.size ≤ wr.heap.size := hK'.out.size
          have K1 := Lib.hid (show Below w.heap.size w w1 by rw [← hw1]; exact hK'.out.alloc hBq _)
          have E1 := Lib.hid (show w1.heap[wr.heap.size]? = some (.cells #[.int .i64 x.kind, .int .i64 x.file, .int .i64 x.lev, .int .i64 x.cnt, .string (bs x.low), .string (bs x.high)] 44 (0, 0)) by rw [← hw1]; exact heap_new wr _)
          obtain ⟨G, hG⟩ : ∃ G, G = wr.heap.size := ⟨_, rfl⟩
          rw [← hG] at E1
          have e4 : w1.cell? ⟨G, 4, none⟩ = some (.string (bs x.low)) := by simp [World.cell?, E1.out]
          have e5 : w1.cell? ⟨G, 5, none⟩ = some (.string (bs x.high)) := by simp [World.cell?, E1.out]
          have HW1 := Lib.hid hw1
          have HG := Lib.hid hG
          have hst := few_step (show fewF (x :: (gL.drop (k + 1) ++ rest)) n' b' = R by
            rw [← hf'.out]
            obtain ⟨hkl', hxe⟩ := List.getElem?_eq_some_iff.1 hx
            rw [List.drop_eq_getElem_cons hkl', hxe, List.cons_append])
          clear hw1 hG hx hxb hxc
          have hn2 : n' ≤ 200 := hnb'.out.1
          have hb2 : b' ≤ 60000 := hnb'.out.2
          have hsl : ((bs x.low).size : Int) = (x.low.length : Int) := by rw [bs_size]
          have hsh : ((bs x.high).size : Int) = (x.high.length : Int) := by rw [bs_size]
          have HSL := Lib.hid (And.intro hsl hsh)
          go_upto_region 9 with (fail)
          rw [HW1.out, ← HG.out]
          clear y0 y1 y2 y3 y4 y5 c0
          rcases hst with ⟨hor, hnone⟩ | ⟨⟨h1, h2, h3, h4⟩, hnext⟩
          · have HFF := Lib.hid (show F = false by rw [HF.out, hnone]; rfl)
            clear hnone
            by_cases h1 : 200 < n' + 1
            · have q1 : (200 : Int) < (n' : Int) + 1 := by omega
              clear hor hsl hsh
              go_wp2
              go_ret
              exact ⟨by rw [HFF.out]; rfl, K1.out⟩
            · have q1 : (n' : Int) + 1 ≤ 200 := by omega
              by_cases h2 : 20000 < x.low.length
              · have q2 : (20000 : Int) < ((bs x.low).size : Int) := by omega
                clear hor hsl hsh h2
                go_wp2
                go_ret
                exact ⟨by rw [HFF.out]; rfl, K1.out⟩
              · have q2 : ((bs x.low).size : Int) ≤ 20000 := by omega
                by_cases h3 : 20000 < x.high.length
                · have q3 : (20000 : Int) < ((bs x.high).size : Int) := by omega
                  clear hor hsl hsh h2 h3
                  go_wp2
                  go_ret
                  exact ⟨by rw [HFF.out]; rfl, K1.out⟩
                · have q3 : ((bs x.high).size : Int) ≤ 20000 := by omega
                  have q4 : (20000 : Int) < (b' : Int) := by omega
                  clear hor hsl hsh h2 h3
                  go_wp2
                  go_ret
                  exact ⟨by rw [HFF.out]; rfl, K1.out⟩
          · have q1 : (n' : Int) + 1 ≤ 200 := by omega
            have q2 : ((bs x.low).size : Int) ≤ 20000 := by omega
            have q3 : ((bs x.high).size : Int) ≤ 20000 := by omega
            have q4 : (b' : Int) ≤ 20000 := by omega
            have HNEXT := Lib.hid hnext
            have HQ := Lib.hid (show n' + 1 ≤ 200 ∧ b' + x.low.length + x.high.length ≤ 60000 by omega)
            clear hnext hsl hsh h1 h2 h3 h4
            go_wp2_with fail
            go_roundw
            case rel => exact ⟨n' + 1, b' + x.low.length + x.high.length, k + 1, by omega, by go_num, by rw [HSL.out.1, HSL.out.2]; go_num, by go_num, HQ, HNEXT, K1⟩
            case measure => simp [intOf]; omega
        · have hkn : ¬ k < gn := hkl
          have hge : (gn : Int) ≤ (k : Int) := by omega
          have HN := Lib.hid (show fewF ((Gs.drop (i + 1)).flatMap (·.L)) n' b' = R by
            rw [← hf'.out, ← HREST.out, List.drop_of_length_le (by have := HI.out.len; omega), List.nil_append])
          go_wp2_with fail
          go_roundw
          case rel => exact ⟨n', b', i + 1, by omega, rfl, rfl, by go_num, hnb', HN, hK'⟩
          case measure => simp [intOf]; omega
    · have hN : R = some b := by
        rw [← hf.out, List.drop_of_length_le (by have := HL.out; omega)]
        rfl
      have HFF := Lib.hid (show F = (decide (len ≤ 200) && decide (b ≤ 20000)) by rw [HF.out, hN]; rfl)
      have hge : (len : Int) ≤ (i : Int) := by omega
      clear hN
      by_cases h1 : len ≤ 200
      · have q1 : (len : Int) ≤ 200 := by omega
        by_cases h2 : b ≤ 20000
        · have q2 : (b : Int) ≤ 20000 := by omega
          have HT := Lib.hid (show F = true by rw [HFF.out]; simp [h1, h2])
          clear HFF h1 h2
          go_wp2
          go_ret
          exact ⟨by rw [HT.out]; rfl, hK.out⟩
        · have q2 : decide ((b : Int) ≤ 20000) = false := decide_eq_false (by omega)
          have HT := Lib.hid (show F = false by rw [HFF.out]; simp [h2])
          clear HFF h1 h2
          go_wp2
          go_ret
          exact ⟨by rw [HT.out]; rfl, hK.out⟩
      · have q1 : (200 : Int) < (len : Int) := by omega
        have HT := Lib.hid (show F = false by rw [HFF.out]; simp [h1])
        clear HFF h1
        go_wp2
        go_ret
        exact ⟨by rw [HT.out]; rfl, hK.out⟩
end Go.Proofs.YtljjielekgilpaaGreat
/- What the laws' walks use: a variable that holds a state; Apply as they call it. -/
set_option linter.unusedVariables false
set_option maxRecDepth 100000
namespace Go.Proofs.YtljjielekgilpaaGreat
open Go.RowKit

theorem next_one {s : St} (h : s.next ≤ 9223372036854775807) {x : Ed} (hx : x.fit) : (oneS s x).next ≤ 9223372036854775807 := by
  unfold oneS
  split
  · exact h
  split
  · exact h
  split
  · exact h
  split
  · exact h
  split
  · exact h
  split
  · exact h
  · exact hx.2
theorem app_nfit : ∀ (L : List Ed) {s : St}, s.next ≤ 9223372036854775807 → (∀ x ∈ L, x.fit) → (app s L).2.next ≤ 9223372036854775807
  | [], s, h, _ => h
  | x :: L, s, h, hL => by
    by_cases h0 : oneE s x = 0
    · rw [app_cons_ok h0]; exact app_nfit L (next_one h (hL x (List.mem_cons_self ..))) fun y hy => hL y (List.mem_cons_of_mem _ hy)
    · rw [app_cons_no h0]; simp [St.zero]
theorem whole_fit {s : St} (hok : s.Ok) (hfit : s.fit) (hn : s.next ≤ 9223372036854775807) : ∀ x ∈ wholeL s, x.fit := by
  intro x hx
  have hf : ∀ f ∈ s.files, -9223372036854775808 ≤ f ∧ f ≤ 9223372036854775807 := fun f h => ⟨by have := hok.pos f h; omega, hfit f h⟩
  unfold wholeL at hx
  simp only [List.mem_append, List.mem_map] at hx
  rcases hx with ((hx | ⟨f, hf', rfl⟩) | ⟨t, ht, rfl⟩) | ⟨t, ht, rfl⟩
  · unfold nextL at hx
    split at hx
    · cases hx
    · obtain rfl := List.mem_singleton.1 hx
      exact ⟨by have := hok.next; show -9223372036854775808 ≤ s.next; omega, hn⟩
  · exact hf f (mem_files.2 (.inr (.inr hf')))
  · exact hf t.file (mem_files.2 (.inr (.inl (List.mem_map.2 ⟨t, ht, rfl⟩))))
  · exact hf t.file (mem_files.2 (.inl (List.mem_map.2 ⟨t, ht, rfl⟩)))
theorem wholeL_len {s : St} {n : Nat} (h : s.small n) : (wholeL s).length ≤ n + 1 := by
  unfold St.small at h
  unfold wholeL
  have := nextL_len s
  simp only [List.length_append, List.length_map]
  omega
theorem own_put4 {w : World} {B b : Nat} {tv sv lv : Value} {s : St} (h : OwnSt w B tv sv lv s) (hb : ∀ j, B ≤ j → j < w.heap.size → tv.ownBlock = some j ∨ sv.ownBlock = some j ∨ lv.ownBlock = some j → j ≠ b) (u0 u1 u2 u3 : Value) :
    OwnSt ((((w.setCell ⟨b, 0, none⟩ u0).setCell ⟨b, 1, none⟩ u1).setCell ⟨b, 2, none⟩ u2).setCell ⟨b, 3, none⟩ u3) B tv sv lv s := by
  have e : ∀ j, j ≠ b → ((((w.setCell ⟨b, 0, none⟩ u0).setCell ⟨b, 1, none⟩ u1).setCell ⟨b, 2, none⟩ u2).setCell ⟨b, 3, none⟩ u3).heap[j]? = w.heap[j]? := fun j hj => by
    rw [heap_set_other hj, heap_set_other hj, heap_set_other hj, heap_set_other hj]
  refine ⟨OffRow.kept h.tabs fun j hj => e j ?_, OffRow.kept h.stos fun j hj => e j ?_, OffRow.kept h.logs fun j hj => e j ?_⟩
  · exact hb j (OffRow.lt h.tabs j hj).1 (OffRow.lt h.tabs j hj).2 (.inl hj)
  · exact hb j (OffRow.lt h.stos j hj).1 (OffRow.lt h.stos j hj).2 (.inr (.inl hj))
  · exact hb j (OffRow.lt h.logs j hj).1 (OffRow.lt h.logs j hj).2 (.inr (.inr hj))
theorem own_stmono {w : World} {B B' : Nat} {tv sv lv : Value} {s : St} (h : OwnSt w B tv sv lv s) (hB : B' ≤ B) : OwnSt w B' tv sv lv s := ⟨own_mono h.tabs hB, own_mono h.stos hB, own_mono h.logs hB⟩
/-- A variable that holds a state of at most n things. -/
def WSt (G n : Nat) (w : World) : Prop := ∃ tv sv lv st, C4 G tv sv lv (.int .i64 st.next) w ∧ StV (fun b => b ≠ G) w tv sv lv st ∧ st.Ok ∧ st.fit ∧ st.next ≤ 9223372036854775807 ∧ st.small n
theorem WSt.below {G n : Nat} {w w' : World} (h : WSt G n w) (k : Below w.heap.size w w') : WSt G n w' := by
  obtain ⟨tv, sv, lv, st, h1, h2, h3⟩ := h
  exact ⟨tv, sv, lv, st, h1.below k, h2.below k, h3⟩
theorem take_flat {Gs : List Gr} {i : Nat} {g : Gr} (hg : Gs[i]? = some g) : ((Gs.take (i + 1)).flatMap (·.L)) = (Gs.take i).flatMap (·.L) ++ g.L := by
  rw [List.take_add_one, hg, List.flatMap_append]
  simp
theorem flat_le (Gs : List Gr) (i : Nat) : ((Gs.take i).flatMap (·.L)).length ≤ (Gs.flatMap (·.L)).length := by
  conv => rhs; rw [← List.take_append_drop i Gs]
  rw [List.flatMap_append, List.length_append]
  omega
/-- Apply, as the law calls it. -/
theorem apply_call {w : World} {T : Nat → Prop} {ta sa la ga : Option Addr} {tc sc lc gn gc n : Nat} {st : St} {L : List Ed} (h : StV T w (.slice ta st.tabs.length tc) (.slice sa st.stos.length sc) (.slice la st.logs.length lc) st) (hok : st.Ok) (hfit : st.fit) (hsm : st.small n) (hI : InL w ga gn gc L) (hnm : n + gn ≤ 1000000000) :
    Calls Tryz.prog 10 #[.agg #[.slice ta st.tabs.length tc, .slice sa st.stos.length sc, .slice la st.logs.length lc, .int .i64 st.next], .slice ga gn gc] w fun e w' => (∃ xa xc ya yc za zc, e = .returned (.tuple #[.agg #[.slice xa (app st L).2.tabs.length xc, .slice ya (app st L).2.stos.length yc, .slice za (app st L).2.logs.length zc, .int .i64 (app st L).2.next], .int .i64 (app st L).1]) ∧ OwnSt w' w.heap.size (.slice xa (app st L).2.tabs.length xc) (.slice ya (app st L).2.stos.length yc) (.slice za (app st L).2.logs.length zc) (app st L).2) ∧ Below w.heap.size w w' := by
  refine (man_Apply (M := n) (Lib.hid h) (Lib.hid hok) (Lib.hid hfit) (Lib.hid hI.is) (Lib.hid hI.len) (Lib.hid fun x hx => ⟨(hI.fit x hx).file.1, (hI.fit x hx).file.2⟩) (Lib.hid hsm) hnm).mono ?_
  rintro e w' ⟨⟨tv, sv, lv, rfl, ho⟩, k⟩
  obtain ⟨xa, xc, rfl⟩ := OffRow.slice ho.tabs
  obtain ⟨ya, yc, rfl⟩ := OffRow.slice ho.stos
  obtain ⟨za, zc, rfl⟩ := OffRow.slice ho.logs
  exact ⟨⟨xa, xc, ya, yc, za, zc, rfl, ho⟩, k⟩

end Go.Proofs.YtljjielekgilpaaGreat
/- The document's side: edits applied to a state. -/
set_option linter.unusedVariables false
set_option maxRecDepth 100000
namespace Go.Proofs.YtljjielekgilpaaGreat
open Go.RowKit

theorem ref_one {T : Nat → Prop} {w : World} {tv sv lv : Value} {s : St} {x : Ed} (h : Hid (StV T w tv sv lv s)) (hs : Hid (s.small 400000000)) :
    Calls Tryz.prog 39 #[.agg #[tv, sv, lv, .int .i64 s.next], .agg #[.int .i64 x.kind, .int .i64 x.file, .int .i64 x.lev, .int .i64 x.cnt, .string (bs x.low), .string (bs x.high)]] w (OnePost s x w) := by
  by_cases k1 : x.kind = 1
  · exact one_1 h hs (Lib.hid k1)
  by_cases k2 : x.kind = 2
  · exact one_2 h hs (Lib.hid k2)
  by_cases k3 : x.kind = 3
  · by_cases l0 : x.lev = 0
    · exact one_3_0 h hs (Lib.hid k3) (Lib.hid l0)
    · by_cases l1 : x.lev = 1
      · exact one_3_1 h hs (Lib.hid k3) (Lib.hid l1)
      · exact one_3_c h hs (Lib.hid k3) (Lib.hid (fun e => e.elim l0 l1))
  by_cases k4 : x.kind = 4
  · exact one_4 h hs (Lib.hid k4)
  by_cases k5 : x.kind = 5
  · exact one_5 h hs (Lib.hid k5)
  by_cases k6 : x.kind = 6
  · exact one_6 h hs (Lib.hid k6)
  by_cases k7 : x.kind = 7
  · exact one_7 h hs (Lib.hid k7)
  exact one_B h hs (Lib.hid (by omega))
theorem StV.only {T S : Nat → Prop} {w w' : World} {tv sv lv : Value} {s : St} (h : StV T w tv sv lv s) (k : Only S w w') (hT : ∀ j, j < w.heap.size → T j → ¬ S j) : StV T w' tv sv lv s := ⟨h.tabs.only k hT, h.stos.only k hT, h.logs.only k hT⟩
theorem only_put4 (w : World) (b : Nat) (u0 u1 u2 u3 : Value) : Only (fun j => j = b) w ((((w.setCell ⟨b, 0, none⟩ u0).setCell ⟨b, 1, none⟩ u1).setCell ⟨b, 2, none⟩ u2).setCell ⟨b, 3, none⟩ u3) :=
  ((((Only.refl (fun j => j = b) w).setCell (p := ⟨b, 0, none⟩) (.inl rfl) u0).setCell (p := ⟨b, 1, none⟩) (.inl rfl) u1).setCell (p := ⟨b, 2, none⟩) (.inl rfl) u2).setCell (p := ⟨b, 3, none⟩) (.inl rfl) u3
theorem St.small.mono {s : St} {m n : Nat} (h : s.small m) (hm : m ≤ n) : s.small n := by unfold St.small at *; omega
set_option maxHeartbeats 16000000 in
theorem ref_apply {T : Nat → Prop} {w : World} {tv sv lv : Value} {s : St} {a : Option Addr} {n cap M : Nat} {L : List Ed} (h : Hid (StV T w tv sv lv s)) (he : Hid (RdX (fun b => b < w.heap.size) w (.slice a n cap) n (flat ecell L))) (hL : Hid (n = L.length)) (hs : Hid (s.small M)) (hM : M + n ≤ 300000000) :
    Calls Tryz.prog 11 #[.agg #[tv, sv, lv, .int .i64 s.next], .slice a n cap] w fun e w' => (∃ xa xc ya yc za zc, e = .returned (.tuple #[.agg #[.slice xa (app s L).2.tabs.length xc, .slice ya (app s L).2.stos.length yc, .slice za (app s L).2.logs.length zc, .int .i64 (app s L).2.next], .int .i64 (app s L).1]) ∧ StV (fun b => T b ∨ w.heap.size ≤ b) w' (.slice xa (app s L).2.tabs.length xc) (.slice ya (app s L).2.stos.length yc) (.slice za (app s L).2.logs.length zc) (app s L).2) ∧ Below w.heap.size w w' := by
  obtain ⟨ta0, tc0, rfl⟩ := RdL.slice h.out.tabs
  obtain ⟨sa0, sc0, rfl⟩ := RdL.slice h.out.stos
  obtain ⟨la0, lc0, rfl⟩ := RdL.slice h.out.logs
  obtain ⟨B, hB⟩ : ∃ B, B = w.heap.size := ⟨_, rfl⟩
  have HB := Lib.hid hB
  have HE := Lib.hid (show RdX (fun b => b < B) w (.slice a n cap) n (flat ecell L) by rw [hB]; exact he.out)
  obtain ⟨w1, hw1⟩ : ∃ w1, (w.alloc (.cells #[.slice ta0 s.tabs.length tc0, .slice sa0 s.stos.length sc0, .slice la0 s.logs.length lc0, .int .i64 s.next] 29)).alloc (.cells #[.slice none 0 0, .slice none 0 0, .slice none 0 0, .int .i64 0] 29) = w1 := ⟨_, rfl⟩
  have K1 := Lib.hid (show Below B w w1 by rw [← hw1, hB]; exact ((Below.refl _ _).alloc (Nat.le_refl _) _).alloc (by simp) _)
  have X1 := Lib.hid (show C4 B (.slice ta0 s.tabs.length tc0) (.slice sa0 s.stos.length sc0) (.slice la0 s.logs.length lc0) (.int .i64 s.next) w1 by rw [← hw1, hB]; exact (Below.heap_alloc _ _ _ (by simp)).trans (heap_new w _))
  have R1 := Lib.hid (show C4 (B + 1) (.slice none 0 0) (.slice none 0 0) (.slice none 0 0) (.int .i64 0) w1 by
    rw [← hw1, hB]
    have := heap_new (w.alloc (.cells #[.slice ta0 s.tabs.length tc0, .slice sa0 s.stos.length sc0, .slice la0 s.logs.length lc0, .int .i64 s.next] 29)) (.cells #[.slice none 0 0, .slice none 0 0, .slice none 0 0, .int .i64 0] 29)
    rw [show (w.alloc (.cells #[.slice ta0 s.tabs.length tc0, .slice sa0 s.stos.length sc0, .slice la0 s.logs.length lc0, .int .i64 s.next] 29)).heap.size = w.heap.size + 1 by simp] at this
    exact this)
  have S1 := Lib.hid (show StV (fun b => (T b ∧ b < B) ∨ B + 1 < b) w1 (.slice ta0 s.tabs.length tc0) (.slice sa0 s.stos.length sc0) (.slice la0 s.logs.length lc0) s from (h.out.mono (fun b hb ht => .inl ⟨ht, by rw [hB]; exact hb⟩)).below (hB ▸ K1.out))
  have HW1 := Lib.hid hw1
  obtain ⟨z0, hz0⟩ : ∃ z, z = app s L := ⟨_, rfl⟩
  have HZ := Lib.hid hz0
  rw [← hz0, ← hB]
  clear hw1 hB hz0
  go_enter Tryz.func11, Tryz.ntmps11
  go_upto_region 1 with (fail)
  rw [HW1.out, ← HB.out]
  go_wp2_with fail
  go_loopw [6] (fun iv wr => ∃ (i : Nat) (si : St) (tv1 sv1 lv1 : Value), i ≤ n ∧ iv = .int .i64 (i : Int) ∧ Hid (app s (L.take i) = (0, si)) ∧ Hid (C4 B tv1 sv1 lv1 (.int .i64 si.next) wr ∧ StV (fun b => (T b ∧ b < B) ∨ B + 1 < b) wr tv1 sv1 lv1 si) ∧ Hid (C4 (B + 1) (.slice none 0 0) (.slice none 0 0) (.slice none 0 0) (.int .i64 0) wr) ∧ Hid (Below B w wr)) (fun iv wr => n - (intOf iv).toNat)
  case atStart => exact ⟨0, s, _, _, _, Nat.zero_le _, rfl, Lib.hid (by rw [List.take_zero]; rfl), Lib.hid ⟨X1.out, S1.out⟩, R1, K1⟩
  case round =>
    obtain ⟨i, si, tv1, sv1, lv1, hi, rfl, hA, hX, hR, hK⟩ := hrel
    obtain ⟨ta, tc, rfl⟩ := RdL.slice hX.out.2.tabs
    obtain ⟨sa, sc, rfl⟩ := RdL.slice hX.out.2.stos
    obtain ⟨la, lc, rfl⟩ := RdL.slice hX.out.2.logs
    have hsi : si = (app s (L.take i)).2 := by rw [hA.out]
    have SMi := Lib.hid (show si.small 400000000 by
      rw [hsi]
      refine (app_small (L.take i) hs.out).mono ?_
      rw [List.length_take]
      omega)
    clear hsi
    obtain ⟨nt, hnt⟩ : ∃ n, n = si.tabs.length := ⟨_, rfl⟩
    obtain ⟨ns, hns⟩ : ∃ n, n = si.stos.length := ⟨_, rfl⟩
    obtain ⟨nl, hnl⟩ : ∃ n, n = si.logs.length := ⟨_, rfl⟩
    obtain ⟨nx, hnx⟩ : ∃ n, n = si.next := ⟨_, rfl⟩
    have HNN := Lib.hid (And.intro hnt (And.intro hns (And.intro hnl hnx)))
    have C1 := Lib.hid (show C4 B (.slice ta nt tc) (.slice sa ns sc) (.slice la nl lc) (.int .i64 nx) wr by rw [hnt, hns, hnl, hnx]; exact hX.out.1)
    have V1 := Lib.hid (show StV (fun b => (T b ∧ b < B) ∨ B + 1 < b) wr (.slice ta nt tc) (.slice sa ns sc) (.slice la nl lc) si by rw [hnt, hns, hnl]; exact hX.out.2)
    by_cases hlt : i < n
    · have hlt' : (i : Int) < (n : Int) := by omega
      obtain ⟨x, hx⟩ : ∃ x, L[i]? = some x := ⟨_, List.getElem?_eq_getElem (by have := hL.out; omega)⟩
      obtain ⟨eb, eo, rfl, hte, heb, hec⟩ := RdX.atE HE.out hx hlt
      have HEC := Lib.hid (show ∀ W, Below B w W → ∀ i' u, (ecell x)[i']? = some u → W.cell? ⟨eb, eo + i * 6 + i', none⟩ = some u from fun W kW i' u hu => by
        rw [← hec i' u hu]
        simp only [World.cell?, kW.block eb hte])
      have HT := Lib.hid (app_take (s := s) hx (by rw [hA.out]))
      rw [hA.out] at HT
      have HAP := Lib.hid (show ∀ W, Below wr.heap.size wr W → Calls Tryz.prog 39 #[.agg #[.slice ta nt tc, .slice sa ns sc, .slice la nl lc, .int .i64 nx], .agg #[.int .i64 x.kind, .int .i64 x.file, .int .i64 x.lev, .int .i64 x.cnt, .string (bs x.low), .string (bs x.high)]] W (OnePost si x W) from fun W kW => by rw [hnx]; exact ref_one (Lib.hid (V1.out.below kW)) SMi)
      have HBW := Lib.hid (show B + 1 < wr.heap.size from heap_lt hR.out)
      clear hx hec hte heb hnt hns hnl hnx hX
      obtain ⟨z, hz⟩ : ∃ z, z = oneE si x := ⟨_, rfl⟩
      have HZ1 := Lib.hid hz
      clear hz
      obtain ⟨wa, hwa⟩ : ∃ wa, wa = wr := ⟨_, rfl⟩
      rw [← hwa] at C1 V1 hR hK HAP HBW ⊢
      clear hwa wr
      go_upto_region 4 with (fail)
      refine wp_region_kept (fun W => Below wa.heap.size wa W) (by kernel_rfl) ?_
      change wpAnyE _ _ _ _ _ _ _ _ _ wa.drew
      have hS : Below wa.heap.size wa wa.drew := (Below.refl _ _).drew
      generalize wa.drew = w4 at *
      refine kept_take (i := 1) (d := 17) (v := (.slice (some ⟨eb, eo, none⟩) n cap)) rfl rfl (by kernel_rfl) (by kernel_rfl) (by kernel_rfl) (fun _ _ _ h => h) (Or.inl ⟨by rfl, ?_⟩) hS ?_
      · intro w' hw'
        go_simp
      try go_frame
      refine kept_take (i := 2) (d := 18) (v := (.int .i64 (i : Int))) rfl rfl (by kernel_rfl) (by kernel_rfl) (by kernel_rfl) (fun _ _ _ h => h) (Or.inl ⟨by rfl, ?_⟩) hS ?_
      · intro w' hw'
        go_simp
      try go_frame
      refine kept_take (i := 3) (d := 19) (v := (.pointer (some ⟨eb, eo + i * 6, none⟩))) rfl rfl (by kernel_rfl) (by kernel_rfl) (by kernel_rfl) (fun _ _ _ h => h) (Or.inl ⟨by rfl, ?_⟩) hS ?_
      · intro w' hw'
        go_simp
      try go_frame
      refine kept_take (i := 4) (d := 20) (v := (.agg #[.int .i64 x.kind, .int .i64 x.file, .int .i64 x.lev, .int .i64 x.cnt, .string (bs x.low), .string (bs x.high)])) rfl rfl (by kernel_rfl) (by kernel_rfl) (by kernel_rfl) (fun _ _ _ h => h) (Or.inl ⟨by rfl, ?_⟩) hS ?_
      · intro w' hw'
        have kk := hK.out.trans (hw'.mono (Nat.le_of_lt (Nat.lt_of_succ_lt HBW.out)))
        have y0 : w'.cell? ⟨eb, eo + i * 6, none⟩ = _ := HEC.out w' kk 0 _ rfl
        have y1 := HEC.out w' kk 1 _ rfl
        have y2 := HEC.out w' kk 2 _ rfl
        have y3 := HEC.out w' kk 3 _ rfl
        have y4 := HEC.out w' kk 4 _ rfl
        have y5 := HEC.out w' kk 5 _ rfl
        go_simp
      try go_frame
      refine kept_take (i := 0) (d := 16) (v := (.agg #[.slice ta nt tc, .slice sa ns sc, .slice la nl lc, .int .i64 nx])) rfl rfl (by kernel_rfl) (by kernel_rfl) (by kernel_rfl) (fun _ _ _ h => h) (Or.inl ⟨by rfl, ?_⟩) hS ?_
      · intro w' hw'
        obtain ⟨z0, z1, z2, z3⟩ := (C1.out.below hw').c0
        go_simp
      try go_frame
      refine wpAnyE_ready (rs := [5, 9]) (by kernel_rfl) (by simp) (AllE.cons rfl (fun K hK0 => ?_) (AllE.cons rfl (fun K hK0 => ?_) AllE.nil))
      · go_simp
        refine Calls.mono (HAP.out _ hS) ?_
        rintro e w5 ⟨xa, xn, xc, ya, yn, yc, za, zn, zc, nx', rfl, ho, k⟩
        rw [← HZ1.out] at ho ⊢
        have hS2 : Below wa.heap.size wa w5 := hS.trans (k.mono hS.size)
        have HO := Lib.hid (show z = 0 → nx' = (oneS si x).next ∧ OwnSt w5 wa.heap.size (.slice xa xn xc) (.slice ya yn yc) (.slice za zn zc) (oneS si x) from fun hq => ⟨(ho hq).1, ⟨own_mono (ho hq).2.tabs hS.size, own_mono (ho hq).2.stos hS.size, own_mono (ho hq).2.logs hS.size⟩⟩)
        refine hK0.out _ _ (fun _ => hS2) (fun _ => ?_)
        clear hK0 K hS k ho
        have hS := hS2
        clear hS2
        try go_frame
        refine kept_take (i := 6) (d := 15) (v := (.tuple #[(.agg #[.slice xa xn xc, .slice ya yn yc, .slice za zn zc, .int .i64 nx']), .int .i64 z])) rfl rfl (by kernel_rfl) (by kernel_rfl) (by kernel_rfl) (fun _ _ _ h => h) (Or.inl ⟨by rfl, ?_⟩) hS ?_
        · intro w' hw'
          go_simp
        try go_frame
        refine kept_take (i := 7) (d := 22) (v := (.agg #[.slice xa xn xc, .slice ya yn yc, .slice za zn zc, .int .i64 nx'])) rfl rfl (by kernel_rfl) (by kernel_rfl) (by kernel_rfl) (fun _ _ _ h => h) (Or.inl ⟨by rfl, ?_⟩) hS ?_
        · intro w' hw'
          go_simp
        try go_frame
        refine kept_take (i := 8) (d := 23) (v := (.int .i64 z)) rfl rfl (by kernel_rfl) (by kernel_rfl) (by kernel_rfl) (fun _ _ _ h => h) (Or.inl ⟨by rfl, ?_⟩) hS ?_
        · intro w' hw'
          go_simp
        try go_frame
        refine wpAnyE_ready (rs := [9]) (by kernel_rfl) (by simp) (AllE.cons rfl (fun K hK0 => ?_) AllE.nil)
        go_simp
        obtain ⟨w6, hw6⟩ : ∃ w6, w6 = w5.alloc (.cells #[.slice none 0 0, .slice none 0 0, .slice none 0 0, .int .i64 0] 29) := ⟨_, rfl⟩
        obtain ⟨tb, htb⟩ : ∃ tb, tb = w5.heap.size := ⟨_, rfl⟩
        have hS2 : Below wa.heap.size wa w6 := by rw [hw6]; exact hS.alloc hS.size _
        have D6 := Lib.hid (show C4 tb (.slice none 0 0) (.slice none 0 0) (.slice none 0 0) (.int .i64 0) w6 by rw [hw6, htb]; exact heap_new w5 _)
        have HO6 := Lib.hid (show z = 0 → nx' = (oneS si x).next ∧ OwnSt w6 wa.heap.size (.slice xa xn xc) (.slice ya yn yc) (.slice za zn zc) (oneS si x) from fun hq => ⟨(HO.out hq).1, (HO.out hq).2.below (fun j hj => by rw [hw6]; exact Below.heap_alloc w5 _ j hj)⟩)
        have HNE := Lib.hid (show z = 0 → ∀ j, wa.heap.size ≤ j → j < w6.heap.size → (Value.slice xa xn xc).ownBlock = some j ∨ (Value.slice ya yn yc).ownBlock = some j ∨ (Value.slice za zn zc).ownBlock = some j → j ≠ tb by
          intro hq j _ _ hj e
          have : j < w5.heap.size := by rcases hj with hj | hj | hj; (exact (OffRow.lt (HO.out hq).2.tabs j hj).2); (exact (OffRow.lt (HO.out hq).2.stos j hj).2); (exact (OffRow.lt (HO.out hq).2.logs j hj).2)
          omega)
        have HTB := Lib.hid (show wa.heap.size ≤ tb by rw [htb]; exact hS.size)
        rw [← hw6, ← htb]
        refine hK0.out _ _ (fun _ => hS2) (fun _ => ?_)
        clear hK0 K hS hw6 htb
        have hS := hS2
        clear hS2 HO
        try go_frame
        obtain ⟨d0, d1, d2, d3⟩ := D6.out.c0
        have df := D6.out.free
        refine wpAnyE_ready (rs := [10]) (by kernel_rfl) (by simp) (AllE.cons rfl (fun K hK0 => ?_) AllE.nil)
        go_simp
        have hS2 : Below wa.heap.size wa (((((w6.setCell ⟨tb, 0, none⟩ (.slice xa xn xc)).setCell ⟨tb, 1, none⟩ (.slice ya yn yc)).setCell ⟨tb, 2, none⟩ (.slice za zn zc)).setCell ⟨tb, 3, none⟩ (.int .i64 nx'))) := below_put4 hS HTB.out _ _ _ _
        have D7 := Lib.hid (D6.out.put (.slice xa xn xc) (.slice ya yn yc) (.slice za zn zc) (.int .i64 nx'))
        have HO7 := Lib.hid (show z = 0 → nx' = (oneS si x).next ∧ OwnSt (((((w6.setCell ⟨tb, 0, none⟩ (.slice xa xn xc)).setCell ⟨tb, 1, none⟩ (.slice ya yn yc)).setCell ⟨tb, 2, none⟩ (.slice za zn zc)).setCell ⟨tb, 3, none⟩ (.int .i64 nx'))) wa.heap.size (.slice xa xn xc) (.slice ya yn yc) (.slice za zn zc) (oneS si x) from fun hq => ⟨(HO6.out hq).1, own_put4 (HO6.out hq).2 (HNE.out hq) (.slice xa xn xc) (.slice ya yn yc) (.slice za zn zc) (.int .i64 nx')⟩)
        refine hK0.out _ _ (fun _ => hS2) (fun _ => ?_)
        clear hK0 K hS d0 d1 d2 d3 df
        have hS := hS2
        clear hS2
        try go_frame
        generalize (((((w6.setCell ⟨tb, 0, none⟩ (.slice xa xn xc)).setCell ⟨tb, 1, none⟩ (.slice ya yn yc)).setCell ⟨tb, 2, none⟩ (.slice za zn zc)).setCell ⟨tb, 3, none⟩ (.int .i64 nx'))) = w7 at *
        refine kept_take (i := 11) (d := 8) (v := (.int .i64 z)) rfl rfl (by kernel_rfl) (by kernel_rfl) (by kernel_rfl) (fun _ _ _ h => h) (Or.inl ⟨by rfl, ?_⟩) hS ?_
        · intro w' hw'
          go_simp
        try go_frame
        refine wpAnyE_done (by kernel_rfl) ?_ _
        have KS := Lib.hid hS
        clear hS D6 HO6 HNE
        have C7 := Lib.hid (C1.out.below KS.out)
        have R7 := Lib.hid (hR.out.below KS.out)
        have V7 := Lib.hid (V1.out.below KS.out)
        have K7 := Lib.hid (hK.out.trans (KS.out.mono (by have := HBW.out; omega)))
        obtain ⟨d0, d1, d2, d3⟩ := D7.out.c0
        by_cases hz0 : z = 0
        · subst hz0
          have gf := C7.out.free
          obtain ⟨r0, r1, r2, r3⟩ := C7.out.c0
          have HNEW := Lib.hid (show app s (L.take (i + 1)) = (0, oneS si x) by rw [HT.out.2, app_cons_ok HZ1.out.symm]; rfl)
          obtain ⟨e1, ho⟩ := HO7.out rfl
          have E1 := Lib.hid e1
          have HOS := Lib.hid ho
          clear e1 ho
          go_wp2_with fail
          have K8 := Lib.hid (below_put4 K7.out (Nat.le_refl B) (.slice xa xn xc) (.slice ya yn yc) (.slice za zn zc) (.int .i64 nx'))
          have C8 := Lib.hid (C7.out.put (.slice xa xn xc) (.slice ya yn yc) (.slice za zn zc) (.int .i64 nx'))
          have R8 := Lib.hid (show C4 (B + 1) (.slice none 0 0) (.slice none 0 0) (.slice none 0 0) (.int .i64 0) _ from ((only_put4 w7 B (.slice xa xn xc) (.slice ya yn yc) (.slice za zn zc) (.int .i64 nx')).block (B + 1) (heap_lt R7.out) (by omega)).trans R7.out)
          have S8 := Lib.hid (StV.only (HOS.out.stv.mono (T' := fun b => (T b ∧ b < B) ∨ B + 1 < b) (fun b _ hb => .inr (by have := HBW.out; omega))) (only_put4 w7 B (.slice xa xn xc) (.slice ya yn yc) (.slice za zn zc) (.int .i64 nx')) (fun j _ hj e => by rcases hj with hj | hj <;> omega))
          clear r0 r1 r2 r3 d0 d1 d2 d3 gf
          go_roundw
          case rel => exact ⟨i + 1, oneS si x, _, _, _, hlt, by go_num, HNEW, Lib.hid ⟨by rw [← E1.out]; exact C8.out, S8.out⟩, R8, K8⟩
          case measure => simp [intOf]; omega
        · have HBAD := Lib.hid (show z0 = (z, St.zero) by rw [HZ.out, HT.out.1, app_cons_no (by rw [← HZ1.out]; exact hz0), ← HZ1.out])
          obtain ⟨r0, r1, r2, r3⟩ := R7.out.c0
          have rf := R7.out.free
          clear d0 d1 d2 d3
          go_wp2
          refine bodyPost_ret (results_st2 rfl _ _ (B + 1) _ _ _ _ _ rfl rfl (R7.out.put _ _ _ _)) rfl ?_
          rw [HBAD.out]
          exact ⟨⟨none, 0, none, 0, none, 0, rfl, ⟨RdL.none' _ _, RdL.none' _ _, RdL.none' _ _⟩⟩, below_put4 K7.out (by omega) _ _ _ _⟩
      · go_simp
        obtain ⟨w5, hw5⟩ : ∃ w5, w5 = w4.alloc (.cells #[.slice none 0 0, .slice none 0 0, .slice none 0 0, .int .i64 0] 29) := ⟨_, rfl⟩
        obtain ⟨tb, htb⟩ : ∃ tb, tb = w4.heap.size := ⟨_, rfl⟩
        have hS2 : Below wa.heap.size wa w5 := by rw [hw5]; exact hS.alloc hS.size _
        have D5 := Lib.hid (show C4 tb (.slice none 0 0) (.slice none 0 0) (.slice none 0 0) (.int .i64 0) w5 by rw [hw5, htb]; exact heap_new w4 _)
        have HTB := Lib.hid (show wa.heap.size ≤ tb by rw [htb]; exact hS.size)
        rw [← hw5, ← htb]
        refine hK0.out _ _ (fun _ => hS2) (fun _ => ?_)
        clear hK0 K hS hw5 htb
        have hS := hS2
        clear hS2
        try go_frame
        refine wpAnyE_ready (rs := [5]) (by kernel_rfl) (by simp) (AllE.cons rfl (fun K hK0 => ?_) AllE.nil)
        go_simp
        refine Calls.mono (HAP.out _ hS) ?_
        rintro e w6 ⟨xa, xn, xc, ya, yn, yc, za, zn, zc, nx', rfl, ho, k⟩
        rw [← HZ1.out] at ho ⊢
        have hS2 : Below wa.heap.size wa w6 := hS.trans (k.mono hS.size)
        have HNE := Lib.hid (show z = 0 → ∀ j, wa.heap.size ≤ j → j < w6.heap.size → (Value.slice xa xn xc).ownBlock = some j ∨ (Value.slice ya yn yc).ownBlock = some j ∨ (Value.slice za zn zc).ownBlock = some j → j ≠ tb by
          intro hq j _ _ hj e
          have : w5.heap.size ≤ j := by rcases hj with hj | hj | hj; (exact (OffRow.lt (ho hq).2.tabs j hj).1); (exact (OffRow.lt (ho hq).2.stos j hj).1); (exact (OffRow.lt (ho hq).2.logs j hj).1)
          have := heap_lt D5.out
          omega)
        have HO6 := Lib.hid (show z = 0 → nx' = (oneS si x).next ∧ OwnSt w6 wa.heap.size (.slice xa xn xc) (.slice ya yn yc) (.slice za zn zc) (oneS si x) from fun hq => ⟨(ho hq).1, ⟨own_mono (ho hq).2.tabs hS.size, own_mono (ho hq).2.stos hS.size, own_mono (ho hq).2.logs hS.size⟩⟩)
        have D6 := Lib.hid (D5.out.below k)
        refine hK0.out _ _ (fun _ => hS2) (fun _ => ?_)
        clear hK0 K hS k ho D5
        have hS := hS2
        clear hS2
        try go_frame
        refine kept_take (i := 6) (d := 15) (v := (.tuple #[(.agg #[.slice xa xn xc, .slice ya yn yc, .slice za zn zc, .int .i64 nx']), .int .i64 z])) rfl rfl (by kernel_rfl) (by kernel_rfl) (by kernel_rfl) (fun _ _ _ h => h) (Or.inl ⟨by rfl, ?_⟩) hS ?_
        · intro w' hw'
          go_simp
        try go_frame
        refine kept_take (i := 7) (d := 22) (v := (.agg #[.slice xa xn xc, .slice ya yn yc, .slice za zn zc, .int .i64 nx'])) rfl rfl (by kernel_rfl) (by kernel_rfl) (by kernel_rfl) (fun _ _ _ h => h) (Or.inl ⟨by rfl, ?_⟩) hS ?_
        · intro w' hw'
          go_simp
        try go_frame
        refine kept_take (i := 8) (d := 23) (v := (.int .i64 z)) rfl rfl (by kernel_rfl) (by kernel_rfl) (by kernel_rfl) (fun _ _ _ h => h) (Or.inl ⟨by rfl, ?_⟩) hS ?_
        · intro w' hw'
          go_simp
        try go_frame
        obtain ⟨d0, d1, d2, d3⟩ := D6.out.c0
        have df := D6.out.free
        refine wpAnyE_ready (rs := [10]) (by kernel_rfl) (by simp) (AllE.cons rfl (fun K hK0 => ?_) AllE.nil)
        go_simp
        have hS2 : Below wa.heap.size wa (((((w6.setCell ⟨tb, 0, none⟩ (.slice xa xn xc)).setCell ⟨tb, 1, none⟩ (.slice ya yn yc)).setCell ⟨tb, 2, none⟩ (.slice za zn zc)).setCell ⟨tb, 3, none⟩ (.int .i64 nx'))) := below_put4 hS HTB.out _ _ _ _
        have D7 := Lib.hid (D6.out.put (.slice xa xn xc) (.slice ya yn yc) (.slice za zn zc) (.int .i64 nx'))
        have HO7 := Lib.hid (show z = 0 → nx' = (oneS si x).next ∧ OwnSt (((((w6.setCell ⟨tb, 0, none⟩ (.slice xa xn xc)).setCell ⟨tb, 1, none⟩ (.slice ya yn yc)).setCell ⟨tb, 2, none⟩ (.slice za zn zc)).setCell ⟨tb, 3, none⟩ (.int .i64 nx'))) wa.heap.size (.slice xa xn xc) (.slice ya yn yc) (.slice za zn zc) (oneS si x) from fun hq => ⟨(HO6.out hq).1, own_put4 (HO6.out hq).2 (HNE.out hq) (.slice xa xn xc) (.slice ya yn yc) (.slice za zn zc) (.int .i64 nx')⟩)
        refine hK0.out _ _ (fun _ => hS2) (fun _ => ?_)
        clear hK0 K hS d0 d1 d2 d3 df
        have hS := hS2
        clear hS2
        try go_frame
        generalize (((((w6.setCell ⟨tb, 0, none⟩ (.slice xa xn xc)).setCell ⟨tb, 1, none⟩ (.slice ya yn yc)).setCell ⟨tb, 2, none⟩ (.slice za zn zc)).setCell ⟨tb, 3, none⟩ (.int .i64 nx'))) = w7 at *
        refine kept_take (i := 11) (d := 8) (v := (.int .i64 z)) rfl rfl (by kernel_rfl) (by kernel_rfl) (by kernel_rfl) (fun _ _ _ h => h) (Or.inl ⟨by rfl, ?_⟩) hS ?_
        · intro w' hw'
          go_simp
        try go_frame
        refine wpAnyE_done (by kernel_rfl) ?_ _
        have KS := Lib.hid hS
        clear hS D6 HO6 HNE
        have C7 := Lib.hid (C1.out.below KS.out)
        have R7 := Lib.hid (hR.out.below KS.out)
        have V7 := Lib.hid (V1.out.below KS.out)
        have K7 := Lib.hid (hK.out.trans (KS.out.mono (by have := HBW.out; omega)))
        obtain ⟨d0, d1, d2, d3⟩ := D7.out.c0
        by_cases hz0 : z = 0
        · subst hz0
          have gf := C7.out.free
          obtain ⟨r0, r1, r2, r3⟩ := C7.out.c0
          have HNEW := Lib.hid (show app s (L.take (i + 1)) = (0, oneS si x) by rw [HT.out.2, app_cons_ok HZ1.out.symm]; rfl)
          obtain ⟨e1, ho⟩ := HO7.out rfl
          have E1 := Lib.hid e1
          have HOS := Lib.hid ho
          clear e1 ho
          go_wp2_with fail
          have K8 := Lib.hid (below_put4 K7.out (Nat.le_refl B) (.slice xa xn xc) (.slice ya yn yc) (.slice za zn zc) (.int .i64 nx'))
          have C8 := Lib.hid (C7.out.put (.slice xa xn xc) (.slice ya yn yc) (.slice za zn zc) (.int .i64 nx'))
          have R8 := Lib.hid (show C4 (B + 1) (.slice none 0 0) (.slice none 0 0) (.slice none 0 0) (.int .i64 0) _ from ((only_put4 w7 B (.slice xa xn xc) (.slice ya yn yc) (.slice za zn zc) (.int .i64 nx')).block (B + 1) (heap_lt R7.out) (by omega)).trans R7.out)
          have S8 := Lib.hid (StV.only (HOS.out.stv.mono (T' := fun b => (T b ∧ b < B) ∨ B + 1 < b) (fun b _ hb => .inr (by have := HBW.out; omega))) (only_put4 w7 B (.slice xa xn xc) (.slice ya yn yc) (.slice za zn zc) (.int .i64 nx')) (fun j _ hj e => by rcases hj with hj | hj <;> omega))
          clear r0 r1 r2 r3 d0 d1 d2 d3 gf
          go_roundw
          case rel => exact ⟨i + 1, oneS si x, _, _, _, hlt, by go_num, HNEW, Lib.hid ⟨by rw [← E1.out]; exact C8.out, S8.out⟩, R8, K8⟩
          case measure => simp [intOf]; omega
        · have HBAD := Lib.hid (show z0 = (z, St.zero) by rw [HZ.out, HT.out.1, app_cons_no (by rw [← HZ1.out]; exact hz0), ← HZ1.out])
          obtain ⟨r0, r1, r2, r3⟩ := R7.out.c0
          have rf := R7.out.free
          clear d0 d1 d2 d3
          go_wp2
          refine bodyPost_ret (results_st2 rfl _ _ (B + 1) _ _ _ _ _ rfl rfl (R7.out.put _ _ _ _)) rfl ?_
          rw [HBAD.out]
          exact ⟨⟨none, 0, none, 0, none, 0, rfl, ⟨RdL.none' _ _, RdL.none' _ _, RdL.none' _ _⟩⟩, below_put4 K7.out (by omega) _ _ _ _⟩
    · obtain rfl : i = n := by omega
      have HEND := Lib.hid (show z0 = (0, si) by
        have := hA.out
        rw [List.take_of_length_le (by have := hL.out; omega)] at this
        rw [HZ.out, this])
      obtain ⟨r0, r1, r2, r3⟩ := hR.out.c0
      have rf := hR.out.free
      obtain ⟨c0, c1, c2, c3⟩ := C1.out.c0
      clear hnt hns hnl hnx hX
      go_wp2
      refine bodyPost_ret (results_st2 rfl _ _ (B + 1) _ _ _ _ _ rfl rfl (hR.out.put _ _ _ _)) rfl ?_
      rw [HEND.out]
      have hv : StV (fun b => T b ∨ B ≤ b) _ (.slice ta nt tc) (.slice sa ns sc) (.slice la nl lc) si := (StV.only V1.out (only_put4 wr (B + 1) (.slice ta nt tc) (.slice sa ns sc) (.slice la nl lc) (.int .i64 nx)) (fun j _ hj e => by rcases hj with hj | hj <;> omega)).mono (fun b _ hb => by rcases hb with hb | hb; (exact .inl hb.1); (exact .inr (by omega)))
      refine ⟨?_, below_put4 hK.out (by omega) _ _ _ _⟩
      rw [HNN.out.1, HNN.out.2.1, HNN.out.2.2.1, HNN.out.2.2.2]
      rw [HNN.out.1, HNN.out.2.1, HNN.out.2.2.1, HNN.out.2.2.2] at hv
      exact ⟨_, _, _, _, _, _, rfl, hv⟩
end Go.Proofs.YtljjielekgilpaaGreat
/- The document's side: equal edits. -/
set_option linter.unusedVariables false
set_option maxRecDepth 100000
namespace Go.Proofs.YtljjielekgilpaaGreat
open Go.RowKit

set_option maxHeartbeats 2000000 in
theorem same_eds {T T' : Nat → Prop} {a b : Option Addr} {n ca cb : Nat} {L : List Ed} {w : World} (ha : Hid (RdX T w (.slice a n ca) n (flat ecell L))) (hb : Hid (RdX T' w (.slice b n cb) n (flat ecell L))) (hL : Hid (n = L.length)) (hn : n ≤ 1000000000) :
    Calls Tryz.prog 13 #[.slice a n ca, .slice b n cb] w fun e w' => e = .returned (.bool true) ∧ Below w.heap.size w w' := by
  go_enter Tryz.func13, Tryz.ntmps13
  go_wp2_with fail
  go_loopw [5] (fun i wr => ∃ k : Nat, k ≤ n ∧ i = .int .i64 (k : Int) ∧ Hid (Below w.heap.size w wr)) (fun i wr => n - (intOf i).toNat)
  case atStart => exact ⟨0, Nat.zero_le _, rfl, Lib.hid (Below.refl _ _)⟩
  case round =>
    obtain ⟨k, hk, rfl, hK⟩ := hrel
    by_cases hlt : k < n
    · obtain ⟨t, ht⟩ : ∃ t, L[k]? = some t := ⟨_, List.getElem?_eq_getElem (by have := hL.out; omega)⟩
      obtain ⟨b0, o0, rfl, _, hb0, c0⟩ := RdX.atE ha.out ht hlt
      obtain ⟨b1, o1, rfl, _, hb1, c1⟩ := RdX.atE hb.out ht hlt
      have k0 : ∀ i' u, (ecell t)[i']? = some u → wr.cell? ⟨b0, o0 + k * 6 + i', none⟩ = some u := fun i' u hu => by
        rw [← c0 i' u hu]; simp only [World.cell?, hK.out.block b0 hb0]
      have k1 : ∀ i' u, (ecell t)[i']? = some u → wr.cell? ⟨b1, o1 + k * 6 + i', none⟩ = some u := fun i' u hu => by
        rw [← c1 i' u hu]; simp only [World.cell?, hK.out.block b1 hb1]
      have y0 : wr.cell? ⟨b0, o0 + k * 6, none⟩ = _ := k0 0 _ rfl
      have y1 := k0 1 _ rfl
      have y2 := k0 2 _ rfl
      have y3 := k0 3 _ rfl
      have y4 := k0 4 _ rfl
      have y5 := k0 5 _ rfl
      have z0 : wr.cell? ⟨b1, o1 + k * 6, none⟩ = _ := k1 0 _ rfl
      have z1 := k1 1 _ rfl
      have z2 := k1 2 _ rfl
      have z3 := k1 3 _ rfl
      have z4 := k1 4 _ rfl
      have z5 := k1 5 _ rfl
      have hlt2 : (k : Int) < (n : Int) := by omega
      clear ht c0 c1 k0 k1 hb0 hb1
      go_wp2_with fail
      go_quiet (fail)
      go_wp2
      go_roundw
      case rel => exact ⟨k + 1, by omega, by go_num, Lib.hid (below_drewN hK.out _)⟩
      case measure => simp [intOf]; omega
    · go_wp2
      go_ret
      exact ⟨rfl, hK.out⟩
end Go.Proofs.YtljjielekgilpaaGreat
