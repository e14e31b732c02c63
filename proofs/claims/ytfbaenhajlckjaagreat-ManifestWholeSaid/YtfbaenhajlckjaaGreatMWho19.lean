/- Texts put together: ManOpen2, ManFew, QHeld, QLate, QTake, LevPlain -/
import Derived.Test.YtfbaenhajlckjaaGreatMWho18
import Derived.Test.YtfbaenhajlckjaaGreatMWho04
import Derived.Test.YtfbaenhajlckjaaGreatMWho15
import Derived.OrdersHeld
import Derived.Deep.RegionHeld
import Derived.Test.YtfbaenhajlckjaaGreatMWho10
/- Slices of edits, and slices of those, that come in. -/
set_option linter.unusedVariables false
set_option maxRecDepth 100000
namespace Go.Proofs.YtfbaenhajlckjaaGreat
open Go.ChangeShapes Go.WideShapes Go.Deep
open Go.RowKit (Below)

instance : Inhabited Ed := ⟨⟨0, 0, 0, 0, [], []⟩⟩
/-- What is known of a slice of edits that came in. -/
structure InL (w : World) (a : Option Addr) (n cap : Nat) (L : List Ed) : Prop where
  len : n = L.length
  big : n ≤ maxLen
  is : RdX (fun b => b < w.heap.size) w (.slice a n cap) n (flat ecell L)
  fit : ∀ x ∈ L, x.In
theorem InL.below {w w' : World} {a : Option Addr} {n cap : Nat} {L : List Ed} (h : InL w a n cap L) (k : Below w.heap.size w w') : InL w' a n cap L := ⟨h.len, h.big, (h.is.below k).mono fun b hb _ => hb, h.fit⟩
/-- A list of edits in memory. -/
structure Gr where
  a : Option Addr
  n : Nat
  cap : Nat
  L : List Ed
instance : Inhabited Gr := ⟨⟨none, 0, 0, []⟩⟩
structure InG (w : World) (a : Option Addr) (n cap : Nat) (Gs : List Gr) : Prop where
  len : n = Gs.length
  big : n ≤ maxLen
  at' : ∃ b off, (n = 0 ∨ a = some ⟨b, off, none⟩) ∧ ∀ k l, Gs[k]? = some l → b < w.heap.size ∧ w.cell? ⟨b, off + k, none⟩ = some (.slice l.a l.n l.cap)
  is : ∀ g ∈ Gs, InL w g.a g.n g.cap g.L
theorem InG.below {w w' : World} {a : Option Addr} {n cap : Nat} {Gs : List Gr} (h : InG w a n cap Gs) (k : Below w.heap.size w w') : InG w' a n cap Gs := by
  obtain ⟨b, off, h1, h2⟩ := h.at'
  refine ⟨h.len, h.big, ⟨b, off, h1, fun i l hl => ?_⟩, fun g hg => (h.is g hg).below k⟩
  obtain ⟨h3, h4⟩ := h2 i l hl
  exact ⟨Nat.lt_of_lt_of_le h3 k.size, by rw [k.cell (p := ⟨b, off + i, none⟩) h3]; exact h4⟩
theorem InG.at {w : World} {a : Option Addr} {n cap : Nat} {Gs : List Gr} (h : InG w a n cap Gs) {i : Nat} (hi : i < n) : ∃ b off g, a = some ⟨b, off, none⟩ ∧ Gs[i]? = some g ∧ b < w.heap.size ∧ w.cell? ⟨b, off + i, none⟩ = some (.slice g.a g.n g.cap) ∧ InL w g.a g.n g.cap g.L := by
  obtain ⟨b, off, h1, h2⟩ := h.at'
  have hl : i < Gs.length := by rw [← h.len]; exact hi
  obtain ⟨h3, h4⟩ := h2 i _ (List.getElem?_eq_getElem hl)
  exact ⟨b, off, Gs[i], by rcases h1 with e | e; (omega); (exact e), List.getElem?_eq_getElem hl, h3, h4, h.is _ (List.getElem_mem hl)⟩
section
variable {H : Type} {enc : TypeId × Value → H} {w : World} {base : Nat} {spare : Nat → Bool} {held : Bool}
theorem eds_read {fuel : Nat} {cs : List Value} {x : DataW H × List MemPlace} (h : DataW.trod enc Tryz.prog w base spare held fuel 30 cs = some x) : ∃ a len cap T, cs = [.slice a len cap] ∧ InL w a len cap T := by
  rcases open_slice Tryz.underlying30 h with ⟨hcs, _⟩ | ⟨a, len, cap, m, n, D, Pl, hcs, _, hl, hm, hmm, _, hi⟩
  · exact ⟨none, 0, 0, [], hcs, rfl, Nat.zero_le _, ⟨⟨_, _, rfl⟩, .inl rfl⟩, fun x hx => by cases hx⟩
  · refine ⟨some a, len, cap, ?_⟩
    have hlm : len ≤ m := by rw [hmm]; split <;> omega
    obtain ⟨fs, _, _, hC, h6, _⟩ := oneEd
    have hcell : ∀ i, i < len → ∃ e : Ed, (∀ j, j < 6 → w.cell? ((a.add (i * 6)).add j) = (ecell e)[j]?) ∧ e.In := by
      intro i hil
      obtain ⟨cs', hc, ht⟩ := hi i (by omega)
      rw [hC, h6] at hc
      obtain ⟨_, hcl, hat⟩ := World.cells?_some hc
      obtain ⟨e, rfl, he⟩ := ed_read ht
      exact ⟨e, fun j hj => hat j hj, he⟩
    obtain ⟨V, hV⟩ := choose_lt (α := Ed) hcell
    refine ⟨(List.range len).map V, hcs, by simp, by omega, ⟨⟨_, _, rfl⟩, ?_⟩, fun e he => ?_⟩
    · by_cases h0 : len = 0
      · exact .inl h0
      · right
        obtain ⟨c0, _⟩ := hV 0 (by omega)
        have c00 := c0 0 (by omega)
        have ha : ∃ b off, a = ⟨b, off, none⟩ := by
          obtain ⟨b, off, spot⟩ := a
          have := World.cell?_spot (v := .int .i64 (V 0).kind) c00
          have hs : spot = none := by simpa [Addr.add] using this
          subst hs
          exact ⟨b, off, rfl⟩
        obtain ⟨b, off, rfl⟩ := ha
        rw [addr_add, addr_add] at c00
        refine ⟨_, _, rfl, by omega, .inr ⟨b, off, rfl, cell_block (v := .int .i64 (V 0).kind) c00, cell_block (v := .int .i64 (V 0).kind) c00, fun j u hu => ?_⟩⟩
        have hj : j < len * 6 := by
          have := (List.getElem?_eq_some_iff.1 hu).1
          rw [flat_len ecell_len] at this
          simpa using this
        have hk : j / 6 < len := by omega
        obtain ⟨h1, _⟩ := hV (j / 6) hk
        have q := h1 (j % 6) (by omega)
        rw [addr_add, addr_add] at q
        have hx : ((List.range len).map V)[j / 6]? = some (V (j / 6)) := by simp [hk]
        have hf := flat_at ecell_len hx (i := j % 6) (by omega)
        rw [show j / 6 * 6 + j % 6 = j by omega, hu] at hf
        rw [← hf, Nat.add_assoc, show j / 6 * 6 + j % 6 = j by omega] at q
        exact q
    · obtain ⟨i, hi, rfl⟩ := List.mem_map.1 he
      exact (hV i (by simpa using hi)).2
theorem groups_read {fuel : Nat} {cs : List Value} {x : DataW H × List MemPlace} (h : DataW.trod enc Tryz.prog w base spare held fuel 22 cs = some x) : ∃ a len cap Gs, cs = [.slice a len cap] ∧ InG w a len cap Gs := by
  rcases open_slice Tryz.underlying22 h with ⟨hcs, _⟩ | ⟨a, len, cap, m, n, D, Pl, hcs, _, hl, hm, hmm, _, hi⟩
  · exact ⟨none, 0, 0, [], hcs, rfl, Nat.zero_le _, ⟨0, 0, .inl rfl, fun k r hr => by simp at hr⟩, fun r hr => by cases hr⟩
  · refine ⟨some a, len, cap, ?_⟩
    have hlm : len ≤ m := by rw [hmm]; split <;> omega
    have hC : Tryz.prog.cellsOf 30 = 1 := by kernel_rfl
    have hcell : ∀ i, i < len → ∃ l : Gr, w.cell? (a.add i) = some (.slice l.a l.n l.cap) ∧ InL w l.a l.n l.cap l.L := by
      intro i hil
      obtain ⟨cs', hc, ht⟩ := hi i (by omega)
      rw [hC] at hc
      obtain ⟨_, hcl, hat⟩ := World.cells?_some hc
      obtain ⟨a', len', cap', T', rfl, hr⟩ := eds_read ht
      have h0 := hat 0 (by omega)
      have he : (a.add (i * 1)).add 0 = a.add i := by unfold Addr.add; split <;> simp_all
      rw [he] at h0
      exact ⟨⟨a', len', cap', T'⟩, h0, hr⟩
    obtain ⟨V, hV⟩ := choose_lt (α := Gr) hcell
    refine ⟨(List.range len).map V, hcs, by simp, by omega, ?_, fun r hr => ?_⟩
    · by_cases h0 : len = 0
      · subst h0
        exact ⟨0, 0, .inl rfl, fun k r hr => by simp at hr⟩
      · obtain ⟨c0, _⟩ := hV 0 (by omega)
        have ha : ∃ b off, a = ⟨b, off, none⟩ := by
          obtain ⟨b, off, spot⟩ := a
          have := World.cell?_spot (v := .slice (V 0).a (V 0).n (V 0).cap) c0
          have hs : spot = none := by simpa [Addr.add] using this
          subst hs
          exact ⟨b, off, rfl⟩
        obtain ⟨b, off, rfl⟩ := ha
        refine ⟨b, off, .inr rfl, fun k r hr => ?_⟩
        have hk' : k < len := by have := (List.getElem?_eq_some_iff.1 hr).1; simpa using this
        have hrV : r = V k := by simpa [hk'] using hr.symm
        subst hrV
        obtain ⟨q0, _⟩ := hV k hk'
        rw [addr_add] at q0
        exact ⟨cell_block (v := .slice (V k).a (V k).n (V k).cap) q0, q0⟩
    · obtain ⟨i, hi, rfl⟩ := List.mem_map.1 hr
      exact (hV i (by simpa using hi)).2
end
theorem open_eds {H : Type} {enc : TypeId × Value → H} {W : World} {d : DataW H} {p : List MemPlace} {a : Option Addr} {len cap : Nat} (h : DataW.Trod enc Tryz.prog W 0 (fun _ => true) true 30 (.slice a len cap) d p) : ∃ T, InL W a len cap T := by
  obtain ⟨fuel, hf⟩ := h
  obtain ⟨a', len', cap', T, hcs, hi⟩ := eds_read hf
  simp [Value.cells] at hcs
  obtain ⟨rfl, rfl, rfl⟩ := hcs
  exact ⟨T, hi⟩
theorem open_groups {H : Type} {enc : TypeId × Value → H} {W : World} {d : DataW H} {p : List MemPlace} {a : Option Addr} {len cap : Nat} (h : DataW.Trod enc Tryz.prog W 0 (fun _ => true) true 22 (.slice a len cap) d p) : ∃ Gs, InG W a len cap Gs := by
  obtain ⟨fuel, hf⟩ := h
  obtain ⟨a', len', cap', T, hcs, hi⟩ := groups_read hf
  simp [Value.cells] at hcs
  obtain ⟨rfl, rfl, rfl⟩ := hcs
  exact ⟨T, hi⟩
end Go.Proofs.YtfbaenhajlckjaaGreat
/- The law's own look: whether groups of edits are few. -/
set_option linter.unusedVariables false
set_option maxRecDepth 100000
namespace Go.Proofs.YtfbaenhajlckjaaGreat
open Go.RowKit

/-- The look, edit by edit: n edits and b bytes were looked at; none where it ends early. -/
def fewF : List Ed → Nat → Nat → Option Nat
  | [], _, b => some b
  | x :: L, n, b => if 200 < n + 1 ∨ 20000 < x.low.length ∨ 20000 < x.high.length ∨ 20000 < b then none else fewF L (n + 1) (b + x.low.length + x.high.length)
def fewR (n : Nat) : Option Nat → Bool
  | none => false
  | some b => decide (n ≤ 200) && decide (b ≤ 20000)
def fewB (Gs : List Gr) : Bool := fewR Gs.length (fewF (Gs.flatMap (·.L)) 0 0)
theorem fewF_of : ∀ (L : List Ed) (n b z : Nat), fewF L n b = some z → n ≤ 200 → n + L.length ≤ 200 ∧ (∀ x ∈ L, x.low.length ≤ 20000 ∧ x.high.length ≤ 20000)
  | [], n, b, z, _, hn => ⟨by simpa using hn, fun x hx => by cases hx⟩
  | x :: L, n, b, z, h, hn => by
    unfold fewF at h
    split at h
    · cases h
    · rename_i hx
      obtain ⟨h1, h2⟩ := fewF_of L _ _ z h (by omega)
      refine ⟨by simp; omega, fun y hy => ?_⟩
      rcases List.mem_cons.1 hy with rfl | hy
      · omega
      · exact h2 y hy
/-- Few groups: how much they are at most. -/
theorem few_of {Gs : List Gr} (h : fewB Gs = true) : Gs.length ≤ 200 ∧ (Gs.flatMap (·.L)).length ≤ 200 ∧ ∀ x ∈ Gs.flatMap (·.L), x.low.length ≤ 20000 ∧ x.high.length ≤ 20000 := by
  unfold fewB at h
  cases hb : fewF (Gs.flatMap (·.L)) 0 0 with
  | none => rw [hb] at h; cases h
  | some b =>
    rw [hb] at h
    obtain ⟨h1, h2⟩ := fewF_of _ _ _ _ hb (Nat.zero_le _)
    simp [fewR] at h
    exact ⟨h.1, by simpa using h1, h2⟩
theorem few_step {L : List Ed} {n b : Nat} {x : Ed} {R : Option Nat} (h : fewF (x :: L) n b = R) : (200 < n + 1 ∨ 20000 < x.low.length ∨ 20000 < x.high.length ∨ 20000 < b) ∧ R = none ∨ (n + 1 ≤ 200 ∧ x.low.length ≤ 20000 ∧ x.high.length ≤ 20000 ∧ b ≤ 20000) ∧ fewF L (n + 1) (b + x.low.length + x.high.length) = R := by
  unfold fewF at h
  split at h
  · rename_i hx; exact .inl ⟨hx, h.symm⟩
  · rename_i hx; exact .inr ⟨by omega, h⟩
set_option maxHeartbeats 4000000 in
theorem law_few {a : Option Addr} {len cap : Nat} {Gs : List Gr} {w : World} (h : Hid (InG w a len cap Gs)) :
    Calls Tryz.prog 12 #[.slice a len cap] w fun e w' => e = .returned (.bool (fewB Gs)) ∧ Below w.heap.size w w' := by
  obtain ⟨R, hR⟩ : ∃ R, fewF (Gs.flatMap (·.L)) 0 0 = R := ⟨_, rfl⟩
  have HR := Lib.hid hR
  have hbig : len ≤ 9223372036854775807 := by have := h.out.big; unfold maxLen at this; omega
  have HL := Lib.hid h.out.len
  have HF : Hid (fewB Gs = fewR len R) := Lib.hid (by unfold fewB; rw [hR, h.out.len])
  obtain ⟨F, hF⟩ : ∃ F, F = fewB Gs := ⟨_, rfl⟩
  rw [← hF] at HF ⊢
  clear hR hF
  go_enter Tryz.func12, Tryz.ntmps12
  go_wp2_with fail
  go_loopw [3, 4, 5] (fun nv bv iv wr => ∃ n b i : Nat, i ≤ len ∧ nv = .int .i64 (n : Int) ∧ bv = .int .i64 (b : Int) ∧ iv = .int .i64 (i : Int) ∧ Hid (n ≤ 200 ∧ b ≤ 60000) ∧ Hid (fewF ((Gs.drop i).flatMap (·.L)) n b = R) ∧ Hid (Below w.heap.size w wr)) (fun nv bv iv wr => len - (intOf iv).toNat)
  case atStart => exact ⟨0, 0, 0, Nat.zero_le _, rfl, rfl, rfl, Lib.hid ⟨by omega, by omega⟩, HR, Lib.hid (Below.refl _ _)⟩
  case round =>
    obtain ⟨n, b, i, hi, rfl, rfl, rfl, hnb, hf, hK⟩ := hrel
    by_cases hlt : i < len
    · obtain ⟨bb, off, g, rfl, hg, hb, hc, hI⟩ := h.out.at hlt
      have hlt2 : (i : Int) < (len : Int) := by omega
      have HI := Lib.hid hI
      have HB := Lib.hid hb
      have HC := Lib.hid hc
      have hgl : g.n ≤ 9223372036854775807 := by have := hI.big; unfold maxLen at this; omega
      obtain ⟨rest, hrest⟩ : ∃ rest, rest = (Gs.drop (i + 1)).flatMap (·.L) := ⟨_, rfl⟩
      have HS := Lib.hid (show fewF (g.L.drop 0 ++ rest) n b = R by
        rw [← hf.out, hrest, List.drop_zero]
        congr 1
        have hi' := (List.getElem?_eq_some_iff.1 hg)
        obtain ⟨hi', hgi⟩ := hi'
        rw [List.drop_eq_getElem_cons hi', hgi, List.flatMap_cons])
      have HREST := Lib.hid hrest
      clear hg hI hc hb hrest
      obtain ⟨ga, gn, gc, gL⟩ := g
      simp only at HI HC HS hgl
      go_wp2_with fail
      go_loopw [3, 4, 6] (fun nv bv kv wq => ∃ n b k : Nat, k ≤ gn ∧ nv = .int .i64 (n : Int) ∧ bv = .int .i64 (b : Int) ∧ kv = .int .i64 (k : Int) ∧ Hid (n ≤ 200 ∧ b ≤ 60000) ∧ Hid (fewF (gL.drop k ++ rest) n b = R) ∧ Hid (Below w.heap.size w wq)) (fun nv bv kv wq => gn - (intOf kv).toNat)
      case atStart => exact ⟨n, b, 0, Nat.zero_le _, rfl, rfl, rfl, hnb, HS, hK⟩
      case round =>
        obtain ⟨n', b', k, hk, rfl, rfl, rfl, hnb', hf', hK'⟩ := hrel
        have c0 : wr.cell? ⟨bb, off + i, none⟩ = some (.slice ga gn gc) := by rw [hK'.out.cell (p := ⟨bb, off + i, none⟩) HB.out]; exact HC.out
        by_cases hkl : k < gn
        · have hkl2 : (k : Int) < (gn : Int) := by omega
          obtain ⟨x, hx⟩ : ∃ x, gL[k]? = some x := ⟨_, List.getElem?_eq_getElem (by have := HI.out.len; omega)⟩
          obtain ⟨xb, xo, rfl, _, hxb, hxc⟩ := (HI.out.below hK'.out).is.atE hx hkl
          have y0 := hxc 0 _ rfl
          have y1 := hxc 1 _ rfl
          have y2 := hxc 2 _ rfl
          have y3 := hxc 3 _ rfl
          have y4 := hxc 4 _ rfl
          have y5 := hxc 5 _ rfl
          simp only [Nat.add_zero] at y0
          obtain ⟨w1, hw1⟩ : ∃ w1, wr.alloc (.cells #[.int .i64 x.kind, .int .i64 x.file, .int .i64 x.lev, .int .i64 x.cnt, .string (bs x.low), .string (bs x.high)] 47) = w1 := ⟨_, rfl⟩
          have hBq : w.heap.size ≤ wr.heap.size := hK'.out.size
          have K1 := Lib.hid (show Below w.heap.size w w1 by rw [← hw1]; exact hK'.out.alloc hBq _)
          have E1 := Lib.hid (show w1.heap[wr.heap.size]? = some (.cells #[.int .i64 x.kind, .int .i64 x.file, .int .i64 x.lev, .int .i64 x.cnt, .string (bs x.low), .string (bs x.high)] 47 (0, 0)) by rw [← hw1]; exact heap_new wr _)
          obtain ⟨G, hG⟩ : ∃ G, G = wr.heap.size := ⟨_, rfl⟩
          rw [← hG] at E1
          have e4 : w1.cell? ⟨G, 4, none⟩ = some (.string (bs x.low)) := by simp [World.cell?, E1.out]
          have e5 : w1.cell? ⟨G, 5, none⟩ = some (.string (bs x.high)) := by simp [World.cell?, E1.out]
          have HW1 := Lib.hid hw1
          have HG := Lib.hid hG
          have hst := few_step (show fewF (x :: (gL.drop (k + 1) ++ rest)) n' b' = R by
            rw [← hf'.out]
            obtain ⟨hkl', hxe⟩ := List.getElem?_eq_some_iff.1 hx
            rw [List.drop_eq_getElem_cons hkl', hxe, List.cons_append])
          clear hw1 hG hx hxb hxc
          have hn2 : n' ≤ 200 := hnb'.out.1
          have hb2 : b' ≤ 60000 := hnb'.out.2
          have hsl : ((bs x.low).size : Int) = (x.low.length : Int) := by rw [bs_size]
          have hsh : ((bs x.high).size : Int) = (x.high.length : Int) := by rw [bs_size]
          have HSL := Lib.hid (And.intro hsl hsh)
          go_upto_region 9 with (fail)
          rw [HW1.out, ← HG.out]
          clear y0 y1 y2 y3 y4 y5 c0
          rcases hst with ⟨hor, hnone⟩ | ⟨⟨h1, h2, h3, h4⟩, hnext⟩
          · have HFF := Lib.hid (show F = false by rw [HF.out, hnone]; rfl)
            clear hnone
            by_cases h1 : 200 < n' + 1
            · have q1 : (200 : Int) < (n' : Int) + 1 := by omega
              clear hor hsl hsh
              go_wp2
              go_ret
              exact ⟨by rw [HFF.out]; rfl, K1.out⟩
            · have q1 : (n' : Int) + 1 ≤ 200 := by omega
              by_cases h2 : 20000 < x.low.length
              · have q2 : (20000 : Int) < ((bs x.low).size : Int) := by omega
                clear hor hsl hsh h2
                go_wp2
                go_ret
                exact ⟨by rw [HFF.out]; rfl, K1.out⟩
              · have q2 : ((bs x.low).size : Int) ≤ 20000 := by omega
                by_cases h3 : 20000 < x.high.length
                · have q3 : (20000 : Int) < ((bs x.high).size : Int) := by omega
                  clear hor hsl hsh h2 h3
                  go_wp2
                  go_ret
                  exact ⟨by rw [HFF.out]; rfl, K1.out⟩
                · have q3 : ((bs x.high).size : Int) ≤ 20000 := by omega
                  have q4 : (20000 : Int) < (b' : Int) := by omega
                  clear hor hsl hsh h2 h3
                  go_wp2
                  go_ret
                  exact ⟨by rw [HFF.out]; rfl, K1.out⟩
          · have q1 : (n' : Int) + 1 ≤ 200 := by omega
            have q2 : ((bs x.low).size : Int) ≤ 20000 := by omega
            have q3 : ((bs x.high).size : Int) ≤ 20000 := by omega
            have q4 : (b' : Int) ≤ 20000 := by omega
            have HNEXT := Lib.hid hnext
            have HQ := Lib.hid (show n' + 1 ≤ 200 ∧ b' + x.low.length + x.high.length ≤ 60000 by omega)
            clear hnext hsl hsh h1 h2 h3 h4
            go_wp2_with fail
            go_roundw
            case rel => exact ⟨n' + 1, b' + x.low.length + x.high.length, k + 1, by omega, by go_num, by rw [HSL.out.1, HSL.out.2]; go_num, by go_num, HQ, HNEXT, K1⟩
            case measure => simp [intOf]; omega
        · have hkn : ¬ k < gn := hkl
          have hge : (gn : Int) ≤ (k : Int) := by omega
          have HN := Lib.hid (show fewF ((Gs.drop (i + 1)).flatMap (·.L)) n' b' = R by
            rw [← hf'.out, ← HREST.out, List.drop_of_length_le (by have := HI.out.len; omega), List.nil_append])
          go_wp2_with fail
          go_roundw
          case rel => exact ⟨n', b', i + 1, by omega, rfl, rfl, by go_num, hnb', HN, hK'⟩
          case measure => simp [intOf]; omega
    · have hN : R = some b := by
        rw [← hf.out, List.drop_of_length_le (by have := HL.out; omega)]
        rfl
      have HFF := Lib.hid (show F = (decide (len ≤ 200) && decide (b ≤ 20000)) by rw [HF.out, hN]; rfl)
      have hge : (len : Int) ≤ (i : Int) := by omega
      clear hN
      by_cases h1 : len ≤ 200
      · have q1 : (len : Int) ≤ 200 := by omega
        by_cases h2 : b ≤ 20000
        · have q2 : (b : Int) ≤ 20000 := by omega
          have HT := Lib.hid (show F = true by rw [HFF.out]; simp [h1, h2])
          clear HFF h1 h2
          go_wp2
          go_ret
          exact ⟨by rw [HT.out]; rfl, hK.out⟩
        · have q2 : decide ((b : Int) ≤ 20000) = false := decide_eq_false (by omega)
          have HT := Lib.hid (show F = false by rw [HFF.out]; simp [h2])
          clear HFF h1 h2
          go_wp2
          go_ret
          exact ⟨by rw [HT.out]; rfl, hK.out⟩
      · have q1 : (200 : Int) < (len : Int) := by omega
        have HT := Lib.hid (show F = false by rw [HFF.out]; simp [h1])
        clear HFF h1
        go_wp2
        go_ret
        exact ⟨by rw [HT.out]; rfl, hK.out⟩
end Go.Proofs.YtfbaenhajlckjaaGreat
/- A region that draws its order within a round, gone through by hand. -/
set_option linter.unusedVariables false
namespace Go.Proofs.YtfbaenhajlckjaaGreat
open Go.RowKit

section
variable {P : Program} {ops : Array Oper} {md : Region.Mode} {Q : Exit → Act → World → Prop}
theorem rowsIn_round {r n : Nat} {row : String} {args : Array Value} {w : World} {R : Value → World → Prop} (h : Rows P row args w R) : RowsIn (Fence.wide.inRound r) n P row args w R :=
  fun c cs _ => let ⟨v, w', q, s⟩ := h c cs; ⟨v, w', q, stepsIn_wide.2 s⟩
theorem operIn_of_wp {r n : Nat} {o : Oper} {a : Act} {w : World} {K K' : Act → World → Prop} (hse : ∀ ρ, Oper.semAt (Fence.wide.inRound r).round ρ o = execOp ρ o) (hL : ¬ LetsOut Q) (hK : ∀ a w, K a w → K' a w) (h : o.wp P a w K Q) : o.wpIn (Fence.wide.inRound r) n P a w K' Q := by
  unfold Oper.wp at h
  unfold Oper.wpIn
  refine ⟨fun _ _ => trivial, ?_⟩
  rw [hse]
  generalize (execOp a.eval o).run P w = x at *
  cases x with
  | ok x w' =>
    cases x <;> simp only [Oper.upon] at h <;> simp only [Oper.uponIn]
    case value u => exact hK _ _ h
    case skip => exact hK _ _ h
    case defer d => exact hK _ _ h
    case enter f args =>
      refine ⟨fun e => by simp [Fence.wide] at e, (wide_round r).calls (Calls.mono h fun e w'' he => ?_)⟩
      cases e with
      | returned v => exact hK _ _ he
      | panicked c => exact he
      | outgrown => exact he
    case row row args => exact ⟨fun e => by simp [Fence.wide] at e, rowsIn_round (Rows.mono h fun v w'' he => hK _ _ he)⟩
  | halt x w' =>
    cases x <;> simp only [Oper.upon] at h <;> simp only [Oper.uponIn]
    case panic v => exact h
theorem opIn_of_wp {r n i : Nat} {a : Act} {w : World} {K K' : Act → World → Prop} (hse : ∀ o, ops[i]? = some o → ∀ ρ, Oper.semAt (Fence.wide.inRound r).round ρ o = execOp ρ o) (hL : ¬ LetsOut Q) (hK : ∀ a w, K a w → K' a w) (h : wpOp P ops Q i K a w) : wpOpIn (Fence.wide.inRound r) n P ops Q i K' a w := by
  unfold wpOp at h
  unfold wpOpIn
  split
  · rename_i ho; simp only [ho] at h; exact hK _ _ h
  · rename_i o ho
    simp only [ho] at h
    split
    · rename_i hw
      simp only [hw, if_true] at h
      rcases h with h | h
      · exact operIn_of_wp (hse o ho) hL hK h
      · exact absurd h.2 hL
    · rename_i hw
      simp only [hw] at h
      exact ⟨fun _ _ => trivial, hK _ _ h⟩
theorem anyIn_of_wp {r n : Nat} (hse : ∀ (i : Nat) (o : Oper), ops[i]? = some o → ∀ ρ, Oper.semAt (Fence.wide.inRound r).round ρ o = execOp ρ o) (hL : ¬ LetsOut Q) : ∀ (fuel : Nat) (listed : Array Bool) (a : Act) (w : World), wpAny P md ops Q fuel listed a w → wpAnyIn (Fence.wide.inRound r) n P md ops Q fuel listed a w
  | 0, _, _, _, h => h
  | fuel + 1, _, _, _, h => ⟨h.1, fun i hi => opIn_of_wp (hse i) hL (fun _ _ h' => anyIn_of_wp hse hL fuel _ _ _ h') (h.2 i hi)⟩
/-- A region within a round, by hand. -/
theorem wpIn_round_held {r n id : Nat} {a : Act} {w : World} {l : List Oper} (S : World → Prop) (hm : P.follows .mixedOrders = true) (hd : noDefer l = true) (hL : ¬ LetsOut Q)
    (h : wpAnyH P .any l.toArray Q S l.toArray.size (Array.replicate l.toArray.size false) a { w with drawn := w.drawn + 1 }) : (Code.region id l.toArray true).wpIn (Fence.wide.inRound r) n P Q a w :=
  wpIn_region_any hm (anyIn_of_wp (noDefer_sem hd _) hL _ _ _ _ (wpAny_of_held _ _ _ _ h))
end
end Go.Proofs.YtfbaenhajlckjaaGreat
/- A region that draws its order: a load that only the last operations await, taken first, where what is written is written by those alone. -/
set_option linter.unusedVariables false
namespace Go.Proofs.YtfbaenhajlckjaaGreat
open Go.RowKit

section
variable {P : Program} {ops : Array Oper} {Q : Exit → Act → World → Prop} {md : Region.Mode} {S : World → Prop} {E : Nat → Bool}
/-- Whatever order is picked from here on, and S holds behind every operation that isn't one of E. -/
def wpAnyE (P : Program) (md : Region.Mode) (ops : Array Oper) (Q : Exit → Act → World → Prop) (S : World → Prop) (E : Nat → Bool) : Nat → Array Bool → Act → World → Prop
  | 0, listed, a, w => Region.ready md ops listed = [] ∧ Q .normal a w
  | fuel + 1, listed, a, w =>
    (Region.ready md ops listed = [] → Q .normal a w) ∧
    ∀ i ∈ Region.ready md ops listed, wpOp P ops Q i (fun a' w' => (E i = false → S w') ∧ wpAnyE P md ops Q S E fuel (listed.setIfInBounds i true) a' w') a w
theorem wpAny_of_E : ∀ (fuel : Nat) (listed : Array Bool) (a : Act) (w : World), wpAnyE P md ops Q S E fuel listed a w → wpAny P md ops Q fuel listed a w
  | 0, _, _, _, h => h
  | fuel + 1, _, _, _, h => ⟨h.1, fun i hi => wpOp_mono (fun a' w' h' => wpAny_of_E fuel _ a' w' h'.2) (h.2 i hi)⟩
theorem wpAnyE_first {i : Nat} {oi : Oper} {v : Value} (hi : ops[i]? = some oi) (hsel : ∀ (j : Nat) (o : Oper) cs b, ops[j]? = some o → o.op ≠ .select cs b)
    (hE : ∀ j oj, ops[j]? = some oj → E j = true → ∃ e ∈ oj.after, Region.binds md e = true ∧ e.on = i)
    (hQ : ∀ c a w, Q (.panic c) (a.put oi.dst v) w → Q (.panic c) a w) :
    ∀ (fuel : Nat) (listed : Array Bool) (a : Act) (w : World),
      (∀ j oj, ops[j]? = some oj → j ≠ i → listed.getD j true = false → (∀ e ∈ oj.after, Region.binds md e = true → e.on ≠ i) → oi.apart ops oj = true) →
      i ∈ Region.ready md ops listed → YieldsIf P ops S oi v a → S w →
      wpAnyE P md ops Q S E fuel (listed.setIfInBounds i true) (a.put oi.dst v) w → wpAny P md ops Q (fuel + 1) listed a w := by
  intro fuel
  induction fuel with
  | zero =>
    intro listed a w _ hr hy hS H
    refine ⟨fun h => (by rw [h] at hr; cases hr), fun j hj => ?_⟩
    by_cases hji : j = i
    · subst hji; exact hy.wpOp hi hS H
    · have := ready_mono hj hji
      rw [H.1] at this
      cases this
  | succ fuel ih =>
    intro listed a w hfree hr hy hS H
    refine ⟨fun h => (by rw [h] at hr; cases hr), fun j hj => ?_⟩
    by_cases hji : j = i
    · subst hji; exact hy.wpOp hi hS (wpAny_of_E _ _ _ _ H)
    · have h1 := H.2 j (ready_mono hj hji)
      obtain ⟨hjun, oj, hoj, hall⟩ := mem_ready.1 hj
      have hnot : ∀ e ∈ oj.after, Region.binds md e = true → e.on ≠ i := fun e he hb heq => by
        have h1 := hall e he hb
        have h0 := (mem_ready.1 hr).1
        rw [heq] at h1
        rcases Nat.lt_or_ge i listed.size with h' | h'
        · simp [h'] at h0 h1; rw [h0] at h1; cases h1
        · simp [Array.getElem?_eq_none h'] at h1
      have hEj : E j = false := by
        cases hc : E j with
        | false => rfl
        | true =>
          obtain ⟨e, he, hb, hon⟩ := hE j oj hoj hc
          exact absurd hon (hnot e he hb)
      have h2 := wpOp_putIf hoj (hfree j oj hoj hji hjun hnot) (fun cs b => hsel i oi cs b hi) (fun cs b => hsel j oj cs b hoj) hQ hy h1
      have hfree' : ∀ k ok, ops[k]? = some ok → k ≠ i → (listed.setIfInBounds j true).getD k true = false →
          (∀ e ∈ ok.after, Region.binds md e = true → e.on ≠ i) → oi.apart ops ok = true := fun k ok hk hki hun hno => by
        refine hfree k ok hk hki ?_ hno
        by_cases hjk : j = k
        · subst hjk; exact hjun
        · rw [getD_set_ne true hjk] at hun; exact hun
      refine wpOp_mono (fun a' w' h3 => ih (listed.setIfInBounds j true) a' w' hfree' (ready_mono hr (Ne.symm hji)) h3.1 (h3.2.1 hEj) ?_) h2
      rw [Array.setIfInBounds_comm _ _ hji]
      exact h3.2.2
def lateB (md : Region.Mode) (ops : Array Oper) (E : Nat → Bool) (i : Nat) : Bool :=
  (List.range ops.size).all fun j => !E j || (match ops[j]? with | some o => o.after.any fun e => Region.binds md e && e.on == i | none => false)
theorem late_spec {i : Nat} (h : lateB md ops E i = true) : ∀ j oj, ops[j]? = some oj → E j = true → ∃ e ∈ oj.after, Region.binds md e = true ∧ e.on = i := fun j oj hj hE => by
  have h1 := List.all_eq_true.1 h j (List.mem_range.2 (Array.getElem?_eq_some_iff.1 hj).1)
  rw [hE, hj] at h1
  simp only [Bool.not_true, Bool.false_or] at h1
  obtain ⟨e, he, h2⟩ := Array.any_eq_true'.1 h1
  simp only [Bool.and_eq_true, beq_iff_eq] at h2
  exact ⟨e, he, h2.1, h2.2⟩
/-- A load is taken first. -/
theorem wpAny_late {i d : Nat} {oi : Oper} {v : Value} {fuel : Nat} {listed : Array Bool} {a : Act} {w : World} (S : World → Prop) (E : Nat → Bool) (hi : ops[i]? = some oi) (hd : oi.dst = some d)
    (hs : Region.noSelect ops = true) (hl : lateB md ops E i = true) (hf : Region.free md ops listed i = true) (hr : (Region.ready md ops listed).contains i = true)
    (hQ : ∀ c a w, Q (.panic c) (a.put oi.dst v) w → Q (.panic c) a w) (hy : YieldsIf P ops S oi v a) (hS : S w)
    (h : wpAnyE P md ops Q S E fuel (listed.setIfInBounds i true) (a.put (some d) v) w) : wpAny P md ops Q (fuel + 1) listed a w :=
  wpAnyE_first hi (Region.noSelect_spec hs) (late_spec hl) hQ fuel listed a w (Region.free_spec hi hf) (by simpa using hr) hy hS (by rw [hd]; exact h)
theorem any_take {i d : Nat} {oi : Oper} {v : Value} {fuel : Nat} {listed : Array Bool} {a : Act} {w : World} (hi : ops[i]? = some oi) (hd : oi.dst = some d)
    (hs : Region.noSelect ops = true) (hf : Region.free md ops listed i = true) (hr : (Region.ready md ops listed).contains i = true)
    (hQ : ∀ c a w, Q (.panic c) (a.put oi.dst v) w → Q (.panic c) a w) (hy : Yields P ops oi v a)
    (h : wpAny P md ops Q fuel (listed.setIfInBounds i true) (a.put (some d) v) w) : wpAny P md ops Q (fuel + 1) listed a w :=
  wpAny_take hi hs hf hr hQ hy (by rw [hd]; exact h)
/-- The next one, whichever it is. -/
def AllE (P : Program) (md : Region.Mode) (ops : Array Oper) (Q : Exit → Act → World → Prop) (S : World → Prop) (E : Nat → Bool) (fuel : Nat) (listed : Array Bool) (a : Act) (w : World) (rs : List Nat) : Prop :=
  ∀ i ∈ rs, wpOp P ops Q i (fun a' w' => (E i = false → S w') ∧ wpAnyE P md ops Q S E fuel (listed.setIfInBounds i true) a' w') a w
theorem AllE.nil {fuel : Nat} {listed : Array Bool} {a : Act} {w : World} : AllE P md ops Q S E fuel listed a w [] := fun _ h => by cases h
theorem AllE.cons {fuel : Nat} {listed : Array Bool} {a : Act} {w : World} {i : Nat} {o : Oper} {rs : List Nat} (ho : ops[i]? = some o)
    (h : ∀ K' : Act → World → Prop, Shut (∀ a w, (E i = false → S w) → ((E i = false → S w) → wpAnyE P md ops Q S E fuel (listed.setIfInBounds i true) a w) → K' a w) → if Region.wanted o (yielded ops a.tmps) = true then Oper.wp P o a w K' Q else K' (a.put o.dst undef) w)
    (hs : AllE P md ops Q S E fuel listed a w rs) : AllE P md ops Q S E fuel listed a w (i :: rs) := fun j hj => by
  rcases List.mem_cons.1 hj with rfl | hj
  · exact wpOp_step ho (fun K' hK => h K' (fun a w hS hW => hK a w ⟨hS, hW hS⟩))
  · exact hs j hj
theorem wpAnyE_ready {rs : List Nat} {fuel : Nat} {listed : Array Bool} {a : Act} {w : World} (hr : Region.ready md ops listed = rs) (hne : rs ≠ [])
    (h : AllE P md ops Q S E fuel listed a w rs) : wpAnyE P md ops Q S E (fuel + 1) listed a w := ⟨fun h0 => absurd (hr ▸ h0) hne, hr ▸ h⟩
theorem wpAnyE_done {listed : Array Bool} {a : Act} {w : World} (hr : Region.ready md ops listed = []) (h : Q .normal a w) : ∀ fuel, wpAnyE P md ops Q S E fuel listed a w
  | 0 => ⟨hr, h⟩
  | _ + 1 => ⟨fun _ => h, by rw [hr]; simp⟩
theorem wpIn_round_any {r n id : Nat} {a : Act} {w : World} {l : List Oper} (hm : P.follows .mixedOrders = true) (hd : noDefer l = true) (hL : ¬ LetsOut Q)
    (h : wpAny P .any l.toArray Q l.toArray.size (Array.replicate l.toArray.size false) a { w with drawn := w.drawn + 1 }) : (Code.region id l.toArray true).wpIn (Fence.wide.inRound r) n P Q a w :=
  wpIn_region_any hm (anyIn_of_wp (noDefer_sem hd _) hL _ _ _ _ h)
end
end Go.Proofs.YtfbaenhajlckjaaGreat
/- A region that draws its order: reads taken first, where what they read stays behind every operation. -/
set_option linter.unusedVariables false
namespace Go.Proofs.YtfbaenhajlckjaaGreat
open Go.RowKit

section
variable {P : Program} {ops : Array Oper} {Q : Exit → Act → World → Prop} {md : Region.Mode} {S : World → Prop}
theorem kept_first {i : Nat} {oi : Oper} {v : Value} (hi : ops[i]? = some oi) (hsel : ∀ (j : Nat) (o : Oper) cs b, ops[j]? = some o → o.op ≠ .select cs b)
    (hQ : ∀ c a w, Q (.panic c) (a.put oi.dst v) w → Q (.panic c) a w) :
    ∀ (fuel : Nat) (listed : Array Bool) (a : Act) (w : World),
      (∀ j oj, ops[j]? = some oj → j ≠ i → listed.getD j true = false → (∀ e ∈ oj.after, Region.binds md e = true → e.on ≠ i) → oi.apart ops oj = true) →
      i ∈ Region.ready md ops listed → YieldsIf P ops S oi v a → S w →
      wpAnyE P md ops Q S (fun _ => false) fuel (listed.setIfInBounds i true) (a.put oi.dst v) w → wpAnyE P md ops Q S (fun _ => false) (fuel + 1) listed a w := by
  intro fuel
  induction fuel with
  | zero =>
    intro listed a w _ hr hy hS H
    refine ⟨fun h => (by rw [h] at hr; cases hr), fun j hj => ?_⟩
    by_cases hji : j = i
    · subst hji; exact hy.wpOp hi hS ⟨fun _ => hS, H⟩
    · have := ready_mono hj hji
      rw [H.1] at this
      cases this
  | succ fuel ih =>
    intro listed a w hfree hr hy hS H
    refine ⟨fun h => (by rw [h] at hr; cases hr), fun j hj => ?_⟩
    by_cases hji : j = i
    · subst hji; exact hy.wpOp hi hS ⟨fun _ => hS, H⟩
    · have h1 := H.2 j (ready_mono hj hji)
      obtain ⟨hjun, oj, hoj, hall⟩ := mem_ready.1 hj
      have hnot : ∀ e ∈ oj.after, Region.binds md e = true → e.on ≠ i := fun e he hb heq => by
        have h1 := hall e he hb
        have h0 := (mem_ready.1 hr).1
        rw [heq] at h1
        rcases Nat.lt_or_ge i listed.size with h' | h'
        · simp [h'] at h0 h1; rw [h0] at h1; cases h1
        · simp [Array.getElem?_eq_none h'] at h1
      have h2 := wpOp_putIf hoj (hfree j oj hoj hji hjun hnot) (fun cs b => hsel i oi cs b hi) (fun cs b => hsel j oj cs b hoj) hQ hy h1
      have hfree' : ∀ k ok, ops[k]? = some ok → k ≠ i → (listed.setIfInBounds j true).getD k true = false →
          (∀ e ∈ ok.after, Region.binds md e = true → e.on ≠ i) → oi.apart ops ok = true := fun k ok hk hki hun hno => by
        refine hfree k ok hk hki ?_ hno
        by_cases hjk : j = k
        · subst hjk; exact hjun
        · rw [getD_set_ne true hjk] at hun; exact hun
      refine wpOp_mono (fun a' w' h3 => ⟨h3.2.1, ih (listed.setIfInBounds j true) a' w' hfree' (ready_mono hr (Ne.symm hji)) h3.1 (h3.2.1 rfl) ?_⟩) h2
      rw [Array.setIfInBounds_comm _ _ hji]
      exact h3.2.2
/-- A read is taken first. -/
theorem kept_take {i d : Nat} {oi : Oper} {v : Value} {fuel : Nat} {listed : Array Bool} {a : Act} {w : World} (hi : ops[i]? = some oi) (hd : oi.dst = some d)
    (hs : Region.noSelect ops = true) (hf : Region.free md ops listed i = true) (hr : (Region.ready md ops listed).contains i = true)
    (hQ : ∀ c a w, Q (.panic c) (a.put oi.dst v) w → Q (.panic c) a w) (hy : YieldsIf P ops S oi v a) (hS : S w)
    (h : wpAnyE P md ops Q S (fun _ => false) fuel (listed.setIfInBounds i true) (a.put (some d) v) w) : wpAnyE P md ops Q S (fun _ => false) (fuel + 1) listed a w :=
  kept_first hi (Region.noSelect_spec hs) hQ fuel listed a w (Region.free_spec hi hf) (by simpa using hr) hy hS (by rw [hd]; exact h)
/-- A region by hand. -/
theorem wp_region_kept {id : Nat} {a : Act} {w : World} {l : List Oper} (S : World → Prop) (hm : P.follows .mixedOrders = true)
    (h : wpAnyE P .any l.toArray Q S (fun _ => false) l.toArray.size (Array.replicate l.toArray.size false) a { w with drawn := w.drawn + 1 }) : (Code.region id l.toArray true).wp P Q a w :=
  wp_region_any hm (wpAny_of_E _ _ _ _ h)
end
end Go.Proofs.YtfbaenhajlckjaaGreat
/- Tables that come, and are merged: the first that has a key has what was laid there last (plain). -/
set_option linter.unusedVariables false
set_option maxRecDepth 100000
namespace Go.Proofs.YtfbaenhajlckjaaGreat

/-! ### the first of a rising row that has a value -/
theorem fs_cons {α β : Type} {f : α → Option β} {a : α} {L : List α} : (a :: L).findSome? f = (match f a with | some b => some b | none => L.findSome? f) := by
  rw [List.findSome?_cons]
  cases f a <;> rfl
theorem fs_none {α β : Type} {f : α → Option β} {L : List α} : L.findSome? f = none ↔ ∀ a ∈ L, f a = none := by
  rw [List.findSome?_eq_none_iff]
theorem fs_iff {β : Type} {f : Tb → Option β} {v : β} : ∀ {L : List Tb}, (L.Pairwise fun a b => tlt a b = true) → (L.findSome? f = some v ↔ ∃ t ∈ L, f t = some v ∧ ∀ u ∈ L, tlt u t = true → f u = none)
  | [], _ => by simp
  | a :: L, h => by
    rw [List.pairwise_cons] at h
    rw [fs_cons]
    cases e : f a with
    | some b =>
      constructor
      · rintro hb
        refine ⟨a, List.mem_cons_self .., by rw [e]; exact hb, fun u hu hlt => ?_⟩
        rcases List.mem_cons.1 hu with rfl | hu
        · rw [tlt_irrefl] at hlt; cases hlt
        · rw [tlt_asymm (h.1 u hu)] at hlt; cases hlt
      · rintro ⟨t, ht, hft, hmin⟩
        rcases List.mem_cons.1 ht with rfl | ht
        · rw [← hft, e]
        · have := hmin a (List.mem_cons_self ..) (h.1 t ht)
          rw [e] at this; cases this
    | none =>
      show L.findSome? f = some v ↔ _
      rw [fs_iff h.2]
      constructor
      · rintro ⟨t, ht, hft, hmin⟩
        refine ⟨t, List.mem_cons_of_mem _ ht, hft, fun u hu hlt => ?_⟩
        rcases List.mem_cons.1 hu with rfl | hu
        · exact e
        · exact hmin u hu hlt
      · rintro ⟨t, ht, hft, hmin⟩
        rcases List.mem_cons.1 ht with rfl | ht
        · rw [e] at hft; cases hft
        · exact ⟨t, ht, hft, fun u hu hlt => hmin u (List.mem_cons_of_mem _ hu) hlt⟩
theorem fs_mem {α β : Type} {f : α → Option β} {v : β} {L : List α} (h : L.findSome? f = some v) : ∃ t ∈ L, f t = some v := List.exists_of_findSome?_eq_some h
theorem fs_sub {β : Type} {f : Tb → Option β} {p : Tb → Bool} : ∀ {L : List Tb}, (∀ t ∈ L, p t = false → f t = none) → (L.filter p).findSome? f = L.findSome? f
  | [], _ => rfl
  | a :: L, h => by
    rw [List.filter_cons]
    have ih := fs_sub (f := f) (p := p) (L := L) fun t ht => h t (List.mem_cons_of_mem _ ht)
    cases e : p a with
    | true => rw [if_pos rfl, fs_cons, fs_cons, ih]
    | false =>
      rw [if_neg (by simp), ih, fs_cons, h a (List.mem_cons_self ..) e]

/-- A key lies within a table. -/
def inT (t : Tb) (k : List UInt8) : Prop := ltB k t.low = false ∧ ltB t.high k = false
theorem apart_one {s : St} (h : s.Ok) {t u : Tb} (ht : t ∈ s.tabs) (hu : u ∈ s.tabs) (hl : t.lev = u.lev) (h0 : 0 < t.lev) {k : List UInt8} (kt : inT t k) (ku : inT u k) : t = u := by
  obtain ⟨i, hi, rfl⟩ := List.getElem_of_mem ht
  obtain ⟨j, hj, rfl⟩ := List.getElem_of_mem hu
  have hp := List.pairwise_iff_getElem.1 h.apart
  rcases Nat.lt_trichotomy i j with e | e | e
  · have := hp i j hi hj e hl h0
    have h1 := ltB_lt_le this ku.1
    rw [kt.2] at h1; cases h1
  · subst e; rfl
  · have := hp j i hj hi e hl.symm (hl ▸ h0)
    have h1 := ltB_lt_le this kt.1
    rw [ku.2] at h1; cases h1

/-- A plan: what is merged, to which level, between which keys. -/
structure PlanOk (s : St) (I : List Tb) (out : Int) (low high : List UInt8) : Prop where
  sub : ∀ t ∈ I, t ∈ s.tabs
  rise : I.Pairwise fun a b => tlt a b = true
  ne : I ≠ []
  lo : 1 ≤ out
  hi : out ≤ 5
  lev : ∀ t ∈ I, t.lev = out - 1 ∨ t.lev = out
  all : out = 1 → ∀ u ∈ s.tabs, u.lev = 0 → u ∈ I
  inn : ∀ t ∈ I, ltB t.low low = false ∧ ltB high t.high = false
  le : ltB high low = false
  out : ∀ u ∈ s.tabs, u.lev = out → u ∉ I → ltB u.high low = true ∨ ltB high u.low = true
theorem PlanOk.key {s : St} {I : List Tb} {out : Int} {low high : List UInt8} (h : PlanOk s I out low high) {t : Tb} (ht : t ∈ I) {k : List UInt8} (hk : inT t k) : ltB k low = false ∧ ltB high k = false := by
  obtain ⟨h1, h2⟩ := h.inn t ht
  exact ⟨ltB_ntrans hk.1 h1, ltB_ntrans h2 hk.2⟩

/-- What is known of tables and of what they have. -/
structure Serve (s : St) (n : Int) (val : Int → List UInt8 → Option Int) (last : List UInt8 → Option Int) : Prop where
  ok : s.Ok
  few : ∀ f ∈ s.files, f ≤ n
  key : ∀ t ∈ s.tabs, ∀ k v, val t.file k = some v → inT t k
  first : ∀ k, s.tabs.findSome? (fun t => val t.file k) = last k
def setV (val : Int → List UInt8 → Option Int) (n : Int) (g : List UInt8 → Option Int) : Int → List UInt8 → Option Int := fun f => if f = n then g else val f
theorem tab_file {s : St} {t : Tb} (ht : t ∈ s.tabs) : t.file ∈ s.files := mem_files.2 (.inl (List.mem_map.2 ⟨t, ht, rfl⟩))

/-! ### tables that go -/
def dropEd (t : Tb) : Ed := ⟨2, t.file, 0, 0, [], []⟩
theorem drops_app : ∀ (I : List Tb) {s : St}, s.files.Nodup → I.Nodup → (∀ t ∈ I, t ∈ s.tabs) → app s (I.map dropEd) = (0, { s with tabs := s.tabs.filter fun t => decide (t.file ∉ I.map (·.file)) })
  | [], s, _, _, _ => by simp [app]; rw [show s.tabs.filter (fun _ => true) = s.tabs from List.filter_eq_self.2 (by simp)]
  | a :: I, s, hn, hI, hs => by
    have ha : a.file ∈ s.tabs.map (·.file) := List.mem_map.2 ⟨a, hs a (List.mem_cons_self ..), rfl⟩
    have e0 : oneE s (dropEd a) = 0 := by
      unfold oneE dropEd
      rw [if_neg (by simp), if_pos (by simp), if_pos ha]
    have e1 : oneS s (dropEd a) = { s with tabs := s.tabs.filter fun t => decide (t.file ≠ a.file) } := by
      unfold oneS dropEd
      rw [if_neg (by simp), if_pos (by simp)]
    rw [List.map_cons, app_cons_ok e0, e1]
    rw [List.nodup_cons] at hI
    have hsub : (s.tabs.filter fun t => decide (t.file ≠ a.file)).Sublist s.tabs := List.filter_sublist
    have hfs : ({ s with tabs := s.tabs.filter fun t => decide (t.file ≠ a.file) } : St).files.Sublist s.files := (((hsub.map _).append (.refl _)).append (.refl _))
    have hn1 : (s.tabs.map (·.file)).Nodup := (List.nodup_append.1 (List.nodup_append.1 hn).1).1
    rw [drops_app I (hn.sublist hfs) hI.2 ?_]
    · simp only [List.filter_filter, List.map_cons, List.mem_cons, not_or, Bool.decide_and]
      congr 2
      refine List.filter_congr fun t ht => ?_
      rw [Bool.and_comm]
    · intro t ht
      refine List.mem_filter.2 ⟨hs t (List.mem_cons_of_mem _ ht), ?_⟩
      have : t.file ≠ a.file := fun e => by
        have : t = a := by
          obtain ⟨i, hi, h1⟩ := List.getElem_of_mem (hs t (List.mem_cons_of_mem _ ht))
          obtain ⟨j, hj, h2⟩ := List.getElem_of_mem (hs a (List.mem_cons_self ..))
          have hij : i = j := by
            refine (List.getElem_inj (h₀ := by simpa using hi) (h₁ := by simpa using hj) hn1).1 ?_
            simp [h1, h2, e]
          subst hij
          rw [← h1, ← h2]
        exact hI.1 (this ▸ ht)
      simpa using this
theorem rise_nodup {I : List Tb} (h : I.Pairwise fun a b => tlt a b = true) : I.Nodup := h.imp fun {a b} hab e => by subst e; rw [tlt_irrefl] at hab; cases hab

/-! ### a new table -/
def newT (n out cnt : Int) (low high : List UInt8) : Tb := ⟨n, out, cnt, low, high⟩
def addEd (n out cnt : Int) (low high : List UInt8) : Ed := ⟨1, n, out, cnt, low, high⟩
theorem add_ok {s : St} {n out cnt : Int} {low high : List UInt8} (h0 : 0 ≤ out) (h5 : out ≤ 5) (hc : 1 ≤ cnt) (hl : ltB high low = false) (hn : 1 ≤ n) (hf : n ∉ s.files) (hm : 0 < out → ∀ u ∈ s.tabs, u.lev = out → ltB u.high low = true ∨ ltB high u.low = true) :
    app s [addEd n out cnt low high] = (0, { s with tabs := insT (newT n out cnt low high) s.tabs }) := by
  have e0 : oneE s (addEd n out cnt low high) = 0 := by
    have hb : badTab (addEd n out cnt low high) = false := by
      show (decide (out < 0) || decide (5 < out) || decide (cnt < 1) || ltB high low) = false
      rw [decide_eq_false (by omega), decide_eq_false (by omega), decide_eq_false (by omega), hl]; rfl
    unfold oneE
    rw [if_pos (show (addEd n out cnt low high).kind = 1 from rfl), if_neg (by rw [hb]; simp only [addEd]; simp; omega), if_neg (show (addEd n out cnt low high).file ∉ s.files from hf), if_neg]
    rintro ⟨hl0, ha⟩
    obtain ⟨u, hu, hmu⟩ := List.any_eq_true.1 ha
    simp only [meets, Bool.and_eq_true, decide_eq_true_eq, Bool.not_eq_true'] at hmu
    have a1 : ltB u.high low = false := hmu.1.2
    have a2 : ltB high u.low = false := hmu.2
    rcases hm hl0 u hu hmu.1.1 with e | e
    · rw [a1] at e; cases e
    · rw [a2] at e; cases e
  rw [app_cons_ok e0]
  unfold oneS
  rw [if_pos (show (addEd n out cnt low high).kind = 1 from rfl)]
  rfl

/-- KEYS ARE LAID. -/
theorem Serve.lay {s : St} {n : Int} {val : Int → List UInt8 → Option Int} {last : List UInt8 → Option Int} (h : Serve s n val last) (hn : 0 ≤ n) {cnt : Int} (hc : 1 ≤ cnt) {low high : List UInt8} {g : List UInt8 → Option Int} (hle : ltB high low = false) (hg : ∀ k v, g k = some v → ltB k low = false ∧ ltB high k = false) :
    app s [addEd (n + 1) 0 cnt low high] = (0, { s with tabs := insT (newT (n + 1) 0 cnt low high) s.tabs }) ∧
    Serve { s with tabs := insT (newT (n + 1) 0 cnt low high) s.tabs } (n + 1) (setV val (n + 1) g) (fun k => match g k with | some v => some v | none => last k) := by
  have hf : n + 1 ∉ s.files := fun hf => by have := h.few _ hf; omega
  have ha := add_ok (s := s) (n := n + 1) (out := 0) (cnt := cnt) (low := low) (high := high) (by omega) (by omega) hc hle (by omega) hf (fun z => by omega)
  refine ⟨ha, ?_⟩
  have hok : ({ s with tabs := insT (newT (n + 1) 0 cnt low high) s.tabs } : St).Ok := by have := app_ok [addEd (n + 1) 0 cnt low high] h.ok; rw [ha] at this; exact this
  have hne : ∀ t ∈ s.tabs, ¬ t.file = n + 1 := fun t ht e => hf (e ▸ tab_file ht)
  refine ⟨hok, ?_, ?_, ?_⟩
  · intro f hfm
    rcases mem_files.1 hfm with a | a | a
    · obtain ⟨t, ht, rfl⟩ := List.mem_map.1 a
      rcases mem_insT.1 ht with rfl | ht
      · exact Int.le_refl _
      · have := h.few _ (tab_file ht); omega
    · have := h.few f (mem_files.2 (.inr (.inl a))); omega
    · have := h.few f (mem_files.2 (.inr (.inr a))); omega
  · intro t ht k v hv
    rcases mem_insT.1 ht with rfl | ht
    · have : g k = some v := by simpa [setV, newT] using hv
      exact hg k v this
    · unfold setV at hv
      rw [if_neg (hne t ht)] at hv
      exact h.key t ht k v hv
  · intro k
    have hx : ∀ u ∈ s.tabs, tlt (newT (n + 1) 0 cnt low high) u = true := fun u hu => by
      have h1 := h.few _ (tab_file hu)
      have h2 := (h.ok.tab u hu).1
      unfold tlt newT
      by_cases z : u.lev = 0
      · rw [if_pos z.symm, if_pos rfl]; simp; omega
      · rw [if_neg (fun e => z e.symm)]; simp; omega
    have hins : insT (newT (n + 1) 0 cnt low high) s.tabs = newT (n + 1) 0 cnt low high :: s.tabs := by
      cases hT : s.tabs with
      | nil => rfl
      | cons u L => unfold insT; rw [if_pos (hx u (by rw [hT]; exact List.mem_cons_self ..))]
    show (insT (newT (n + 1) 0 cnt low high) s.tabs).findSome? _ = _
    rw [hins, fs_cons]
    have e1 : setV val (n + 1) g (newT (n + 1) 0 cnt low high).file k = g k := by simp [setV, newT]
    rw [e1]
    cases hgk : g k with
    | some v => rfl
    | none =>
      show s.tabs.findSome? _ = last k
      rw [← h.first k]
      have : ∀ (T : List Tb), (∀ t ∈ T, ¬ t.file = n + 1) → T.findSome? (fun t => setV val (n + 1) g t.file k) = T.findSome? (fun t => val t.file k) := fun T hT => by
        induction T with
        | nil => rfl
        | cons a T ih =>
          rw [fs_cons, fs_cons, ih fun t ht => hT t (List.mem_cons_of_mem _ ht)]
          unfold setV
          rw [if_neg (hT a (List.mem_cons_self ..))]
      exact this _ hne

/-- A PLAN IS DONE. -/
theorem Serve.merge {s : St} {n : Int} {val : Int → List UInt8 → Option Int} {last : List UInt8 → Option Int} (h : Serve s n val last) (hn : 0 ≤ n) {I : List Tb} {out : Int} {low high : List UInt8} (hp : PlanOk s I out low high) {cnt : Int} (hc : 1 ≤ cnt) :
    ∃ s', app s (I.map dropEd ++ [addEd (n + 1) out cnt low high]) = (0, s') ∧ Serve s' (n + 1) (setV val (n + 1) fun k => I.findSome? fun t => val t.file k) last ∧ s'.stos = s.stos ∧ s'.logs = s.logs := by
  have hnd := rise_nodup hp.rise
  have hd := drops_app I h.ok.nod hnd hp.sub
  have hok1 := app_ok (I.map dropEd) h.ok
  rw [hd] at hok1
  have hfile : ∀ t ∈ s.tabs, t.file ∈ I.map (·.file) → t ∈ I := fun t ht hm => by
    obtain ⟨u, hu, e⟩ := List.mem_map.1 hm
    have hn1 : (s.tabs.map (·.file)).Nodup := (List.nodup_append.1 (List.nodup_append.1 h.ok.nod).1).1
    obtain ⟨i, hi, h1⟩ := List.getElem_of_mem ht
    obtain ⟨j, hj, h2⟩ := List.getElem_of_mem (hp.sub u hu)
    have hij : i = j := by
      refine (List.getElem_inj (h₀ := by simpa using hi) (h₁ := by simpa using hj) hn1).1 ?_
      simp [h1, h2, e]
    subst hij
    rw [← h1, h2]; exact hu
  obtain ⟨s1, hs1⟩ : ∃ s1 : St, s1 = { s with tabs := s.tabs.filter fun t => decide (t.file ∉ I.map (·.file)) } := ⟨_, rfl⟩
  rw [← hs1] at hd hok1
  have hm1 : ∀ u, u ∈ s1.tabs ↔ u ∈ s.tabs ∧ u ∉ I := fun u => by
    rw [hs1]
    show u ∈ s.tabs.filter _ ↔ _
    rw [List.mem_filter]
    constructor
    · rintro ⟨a, b⟩
      exact ⟨a, fun hu => by simp at b; exact b u hu rfl⟩
    · rintro ⟨a, b⟩
      exact ⟨a, by simpa using fun x hx e => b (hfile u a (List.mem_map.2 ⟨x, hx, e⟩))⟩
  have hfs : ∀ f, f ∈ s1.files → f ∈ s.files := fun f hf => by
    have hsub : (s.tabs.filter fun t => decide (t.file ∉ I.map (·.file))).Sublist s.tabs := List.filter_sublist
    have hfs : ({ s with tabs := s.tabs.filter fun t => decide (t.file ∉ I.map (·.file)) } : St).files.Sublist s.files := (((hsub.map _).append (.refl _)).append (.refl _))
    rw [hs1] at hf
    exact hfs.subset hf
  have hf : n + 1 ∉ s1.files := fun hf => by have := h.few _ (hfs _ hf); omega
  have ho := hp.lo
  have ho5 := hp.hi
  have ha := add_ok (s := s1) (n := n + 1) (out := out) (cnt := cnt) (low := low) (high := high) (by omega) (by omega) hc hp.le (by omega) hf (fun _ u hu hl => hp.out u ((hm1 u).1 hu).1 hl ((hm1 u).1 hu).2)
  obtain ⟨x, hx⟩ : ∃ x, x = newT (n + 1) out cnt low high := ⟨_, rfl⟩
  rw [← hx] at ha
  have hxl : x.lev = out := by rw [hx]; rfl
  have hxf : x.file = n + 1 := by rw [hx]; rfl
  have hxw : x.low = low ∧ x.high = high := by rw [hx]; exact ⟨rfl, rfl⟩
  refine ⟨{ s1 with tabs := insT x s1.tabs }, ?_, ?_, by rw [hs1], by rw [hs1]⟩
  · rw [app_append _ _ _ (by rw [hd]), hd]; exact ha
  have hok2 : ({ s1 with tabs := insT x s1.tabs } : St).Ok := by have := app_ok [addEd (n + 1) out cnt low high] hok1; rw [ha] at this; exact this
  have hne : ∀ t ∈ s.tabs, ¬ t.file = n + 1 := fun t ht e => by have := h.few _ (tab_file ht); omega
  refine ⟨hok2, ?_, ?_, ?_⟩
  · intro f hfm
    rcases mem_files.1 hfm with a | a | a
    · obtain ⟨t, ht, rfl⟩ := List.mem_map.1 a
      rcases mem_insT.1 ht with rfl | ht
      · rw [hxf]; exact Int.le_refl _
      · have := h.few _ (hfs _ (tab_file ht)); omega
    · have := h.few f (hfs f (mem_files.2 (.inr (.inl a)))); omega
    · have := h.few f (hfs f (mem_files.2 (.inr (.inr a)))); omega
  · intro t ht k v hv
    rcases mem_insT.1 ht with rfl | ht
    · unfold setV at hv
      rw [if_pos hxf] at hv
      obtain ⟨u, hu, hfu⟩ := fs_mem hv
      have := hp.key hu (h.key u (hp.sub u hu) k v hfu)
      unfold inT
      rw [hxw.1, hxw.2]
      exact this
    · have ht' := ((hm1 t).1 ht).1
      unfold setV at hv
      rw [if_neg (hne t ht')] at hv
      exact h.key t ht' k v hv
  · intro k
    rw [← h.first k]
    show (insT x s1.tabs).findSome? (fun t => setV val (n + 1) _ t.file k) = s.tabs.findSome? (fun t => val t.file k)
    have hfx : setV val (n + 1) (fun k => I.findSome? fun t => val t.file k) x.file k = I.findSome? fun t => val t.file k := by unfold setV; rw [if_pos hxf]
    have hfu : ∀ u ∈ s.tabs, setV val (n + 1) (fun k => I.findSome? fun t => val t.file k) u.file k = val u.file k := fun u hu => by unfold setV; rw [if_neg (hne u hu)]
    cases hb : s.tabs.findSome? (fun t => val t.file k) with
    | none =>
      rw [fs_none] at hb ⊢
      intro t ht
      rcases mem_insT.1 ht with rfl | ht
      · rw [hfx, fs_none]
        exact fun u hu => hb u (hp.sub u hu)
      · have ht' := ((hm1 t).1 ht).1
        rw [hfu t ht']; exact hb t ht'
    | some v =>
      obtain ⟨t, ht, hft, hmin⟩ := (fs_iff h.ok.rise).1 hb
      have kt := h.key t ht k v hft
      refine (fs_iff hok2.rise).2 ?_
      by_cases htI : t ∈ I
      · have hIv : I.findSome? (fun t => val t.file k) = some v := (fs_iff hp.rise).2 ⟨t, htI, hft, fun u hu hlt => hmin u (hp.sub u hu) hlt⟩
        refine ⟨x, mem_insT.2 (.inl rfl), by rw [hfx]; exact hIv, fun u hu hlt => ?_⟩
        rcases mem_insT.1 hu with rfl | hu
        · rw [tlt_irrefl] at hlt; cases hlt
        obtain ⟨hus, huI⟩ := (hm1 u).1 hu
        rw [hfu u hus]
        cases hvu : val u.file k with
        | none => rfl
        | some v' =>
          exfalso
          have ku := h.key u hus k v' hvu
          have htu : tlt u t = false := by
            cases hh : tlt u t with
            | false => rfl
            | true => have := hmin u hus hh; rw [hvu] at this; cases this
          have l1 : t.lev ≤ u.lev := by
            have hne' : t ≠ u := fun e => huI (e ▸ htI)
            unfold tlt at htu
            split at htu
            · omega
            · simp at htu; omega
          have l2 := tlt_lev hlt
          rw [hxl] at l2
          have kx := hp.key htI kt
          by_cases hlo : u.lev = out
          · rcases hp.out u hus hlo huI with e | e
            · have := ltB_lt_le e kx.1
              rw [ku.2] at this; cases this
            · have := ltB_le_lt kx.2 e
              rw [ku.1] at this; cases this
          · have htl : t.lev = out - 1 := by rcases hp.lev t htI with e | e; (exact e); (omega)
            have hul : u.lev = out - 1 := by omega
            by_cases ho1 : out = 1
            · exact huI (hp.all ho1 u hus (by omega))
            · exact huI ((apart_one h.ok ht hus (by omega) (by omega) kt ku) ▸ htI)
      · refine ⟨t, mem_insT.2 (.inr ((hm1 t).2 ⟨ht, htI⟩)), by rw [hfu t ht]; exact hft, fun u hu hlt => ?_⟩
        rcases mem_insT.1 hu with rfl | hu
        · rw [hfx]
          cases hvx : I.findSome? (fun t => val t.file k) with
          | none => rfl
          | some v' =>
            exfalso
            obtain ⟨t1, ht1, hf1⟩ := fs_mem hvx
            have k1 := h.key t1 (hp.sub t1 ht1) k v' hf1
            have htu : tlt t1 t = false := by
              cases hh : tlt t1 t with
              | false => rfl
              | true => have := hmin t1 (hp.sub t1 ht1) hh; rw [hf1] at this; cases this
            have l1 : t.lev ≤ t1.lev := by
              unfold tlt at htu
              split at htu
              · omega
              · simp at htu; omega
            have l2 := tlt_lev hlt
            rw [hxl] at l2
            have l3 : t1.lev ≤ out := by rcases hp.lev t1 ht1 with e | e <;> omega
            exact htI ((apart_one h.ok ht (hp.sub t1 ht1) (by omega) (by omega) kt k1) ▸ ht1)
        · rw [hfu u ((hm1 u).1 hu).1]
          exact hmin u ((hm1 u).1 hu).1 hlt
end Go.Proofs.YtfbaenhajlckjaaGreat
