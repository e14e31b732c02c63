/- Texts put together: ManAwake, ManOpen, ManOpen2, ManFew, ManPacksWalk -/
import Derived.Test.YtgljjdldhnajdaaGreatMPac20
import Derived.Deep.Slices
import Derived.Deep.Fields
import Derived.ChangeSame
import Derived.SizedLaws
import Derived.Test.YtgljjdldhnajdaaGreatMPac19
/- The law's awake: the program lays its file of two edits. -/
set_option linter.unusedVariables false
set_option maxRecDepth 100000
namespace Go.Proofs.YtgljjdldhnajdaaGreat
open Go.RowKit

def awakeL : List Ed := [⟨5, 2, 0, 0, [], []⟩, ⟨7, 3, 0, 0, [], []⟩]
theorem whole_small {n : Nat} (h : n < 64) : whole (n : Int) = [UInt8.ofNat (64 + n)] := by
  unfold whole grp
  rw [if_neg (by omega), show ((n : Int)).toNat / 64 = 0 by simp; omega, lead_zero, show ((n : Int)).toNat % 64 = n by simp; omega]
  rfl
theorem awake_pack : packL awakeL = [66, 69, 66, 71, 67] := by
  have h2 : whole 2 = [66] := whole_small (n := 2) (by decide)
  have h3 : whole 3 = [67] := whole_small (n := 3) (by decide)
  have h5 : whole 5 = [69] := whole_small (n := 5) (by decide)
  have h7 : whole 7 = [71] := whole_small (n := 7) (by decide)
  have hp : packL awakeL = whole 2 ++ ((whole 5 ++ (whole 2 ++ []) ++ []) ++ ((whole 7 ++ (whole 3 ++ []) ++ []) ++ [])) := rfl
  rw [hp, h2, h3, h5, h7]
  rfl
theorem awake_app : app St.zero awakeL = (0, ⟨[], [], [2], 3⟩) := by
  simp [app, awakeL, oneE, oneS, St.zero, St.files]
theorem cells_rdl {w : World} {T : Nat → Prop} {b n : Nat} {e : TypeId} {xs : List Value} (h : w.heap[b]? = some (.cells xs.toArray e (0, 0))) (hT : T b) (hn : n ≤ 1000) : RdL T w (.slice (some ⟨b, 0, none⟩) n n) n xs := by
  refine ⟨_, _, rfl, by unfold maxLen; omega, .inr ⟨b, 0, rfl, hT, heap_lt h, fun j u hu => ?_⟩⟩
  simpa [World.cell?, h] using hu
set_option maxHeartbeats 2000000 in
theorem law_awake13 (w : World) : Calls Tryz.prog 7 #[] w fun e w' => e = .returned (.bool true) ∧ Below w.heap.size w w' := by
  obtain ⟨B, hB⟩ : ∃ B, B = w.heap.size := ⟨_, rfl⟩
  rw [← hB]
  have HB := Lib.hid hB
  obtain ⟨w1, hw1⟩ : ∃ w1, w.alloc (.cells #[.int .i64 5, .int .i64 2, .int .i64 0, .int .i64 0, .string { data := #[] }, .string { data := #[] }, .int .i64 7, .int .i64 3, .int .i64 0, .int .i64 0, .string { data := #[] }, .string { data := #[] }] 31) = w1 := ⟨_, rfl⟩
  have K1 := Lib.hid (show Below B w w1 by rw [← hw1, hB]; exact (Below.refl _ _).alloc (Nat.le_refl _) _)
  have E1 := Lib.hid (show RdX (fun b => b < w1.heap.size) w1 (.slice (some ⟨B, 0, none⟩) 2 2) 2 (flat ecell awakeL) from (cells_rdl (e := 31) (by rw [← hw1, hB]; exact heap_new w _) (by rw [← hw1, hB]; simp) (by omega)).x)
  have HW1 := Lib.hid hw1
  have HB1 := Lib.hid (show B ≤ w1.heap.size by have := K1.out.size; omega)
  clear hw1 hB
  have HA := Lib.hid (man_Apply (M := 0) (n := 2) (Lib.hid (zero_own w1 0).stv) (Lib.hid St.Ok.zero) (Lib.hid (fun f hf => by simp [St.files, St.zero] at hf)) E1 (Lib.hid rfl) (Lib.hid (by unfold Ed.fit; simp [awakeL])) (Lib.hid (by simp [St.small, St.zero])) (by omega))
  unfold ApplyPost at HA
  rw [awake_app] at HA
  have HP5 := Lib.hid (fun (w5 : World) (k : Below w1.heap.size w1 w5) => man_Pack (w := w5) (Lib.hid (((E1.out.below k).mono (fun b _ hb => Nat.lt_of_lt_of_le hb k.size)))) (Lib.hid (rfl : 2 = awakeL.length)) (by omega) (Lib.hid (by unfold EdsFit Ed.Fits; simp [awakeL])) (Lib.hid (by rw [awake_pack]; simp)))
  rw [awake_pack] at HP5
  go_enter Tryz.func7, Tryz.ntmps7
  go_upto_region 2 with (fail)
  rw [HW1.out, ← HB.out]
  go_wp2_with fail
  refine HA.out.mono ?_
  rintro e w2 ⟨⟨tv, sv, lv, rfl, ho⟩, k2⟩
  obtain ⟨ta, tc, ht⟩ := OffRow.slice ho.tabs
  obtain ⟨sa, sc, hs⟩ := OffRow.slice ho.stos
  obtain ⟨la, lc, hl⟩ := OffRow.slice ho.logs
  obtain rfl : tv = .slice ta 0 tc := ht
  obtain rfl : sv = .slice sa 0 sc := hs
  obtain rfl : lv = .slice la 1 lc := hl
  have K2 := Lib.hid k2
  have L2 := Lib.hid (show RdL (fun b => b < w2.heap.size) w2 (.slice la 1 lc) 1 (flat icell [2]) from RdL.mono (OffRow.rdL ho.logs) (fun b hlt _ => hlt))
  obtain ⟨w3, hw3⟩ : ∃ w3, w2.alloc (.cells #[.slice ta 0 tc, .slice sa 0 sc, .slice la 1 lc, .int .i64 3] 46) = w3 := ⟨_, rfl⟩
  have X3 := Lib.hid (show C4 w2.heap.size (.slice ta 0 tc) (.slice sa 0 sc) (.slice la 1 lc) (.int .i64 3) w3 by rw [← hw3]; exact heap_new w2 _)
  have k3 : Below w2.heap.size w2 w3 := by rw [← hw3]; exact (Below.refl _ _).alloc (Nat.le_refl _) _
  have L3 := Lib.hid (L2.out.below k3)
  have K3 := Lib.hid (show Below w1.heap.size w1 w3 from K2.out.trans (k3.mono K2.out.size))
  have HW3 := Lib.hid hw3
  clear hw3 ho k2 k3 HA
  go_upto_region 3 with (fail)
  rw [HW3.out]
  obtain ⟨G, hG⟩ : ∃ G, G = w2.heap.size := ⟨_, rfl⟩
  rw [← hG] at X3 ⊢
  clear hG
  obtain ⟨r0, r1, r2, r3⟩ := X3.out.c0
  obtain ⟨w4, hw4⟩ : ∃ w4, w3.alloc (.cells #[.int .i64 2] 3) = w4 := ⟨_, rfl⟩
  have k4 : Below w3.heap.size w3 w4 := by rw [← hw4]; exact (Below.refl _ _).alloc (Nat.le_refl _) _
  have N4 := Lib.hid (show RdL (fun _ => True) w4 (.slice (some ⟨w3.heap.size, 0, none⟩) 1 1) 1 (flat icell [2]) from cells_rdl (e := 3) (by rw [← hw4]; exact heap_new w3 _) trivial (by omega))
  have L4 := Lib.hid (L3.out.below k4)
  have K4 := Lib.hid (show Below w1.heap.size w1 w4 from K3.out.trans (k4.mono K3.out.size))
  have X4 := Lib.hid (X3.out.below k4)
  have HW4 := Lib.hid hw4
  have HS := Lib.hid (same_ints (L := [2]) L4.out N4.out (by simp))
  clear hw4 k4
  go_wp2_with fail
  rw [HW4.out]
  refine HS.out.mono ?_
  rintro e w5 ⟨rfl, k5⟩
  have X5 := Lib.hid (X4.out.below k5)
  have K5 := Lib.hid (show Below w1.heap.size w1 w5 from K4.out.trans (k5.mono K4.out.size))
  clear r0 r1 r2 r3 k5 HS
  obtain ⟨r0, r1, r2, r3⟩ := X5.out.c0
  have HP := Lib.hid (HP5.out w5 K5.out)
  clear HP5
  go_wp2_with fail
  refine HP.out.mono ?_
  rintro e w6 ⟨rfl, k6⟩
  have K6 := Lib.hid (show Below B w w6 from K1.out.trans ((K5.out.trans (k6.mono K5.out.size)).mono HB1.out))
  have hbs : bs [66, 69, 66, 71, 67] = { data := #[66, 69, 66, 71, 67] } := rfl
  rw [hbs]
  clear hbs k6
  go_wp2
  go_ret
  exact ⟨rfl, K6.out⟩
end Go.Proofs.YtgljjdldhnajdaaGreat
/- Edits that come in. -/
set_option linter.unusedVariables false
set_option maxRecDepth 100000
namespace Go.Proofs.YtgljjdldhnajdaaGreat
open Go.ChangeShapes Go.WideShapes Go.Deep
open Go.RowKit (Below)

def i64R (z : Int) : Prop := -9223372036854775808 ≤ z ∧ z ≤ 9223372036854775807
/-- What is known of an edit that came in. -/
structure Ed.In (x : Ed) : Prop where
  kind : i64R x.kind
  file : i64R x.file
  lev : i64R x.lev
  cnt : i64R x.cnt
  low : x.low.length ≤ 9223372036854775807
  high : x.high.length ≤ 9223372036854775807
section
variable {H : Type} {enc : TypeId × Value → H} {w : World} {base : Nat} {spare : Nat → Bool} {held : Bool}
/-- A struct of one-cell fields, field by field. -/
theorem fields_read {P : Program} {t : TypeId} {fs : Array Field} {fuel : Nat} {cs : List Value} {x : DataW H × List MemPlace} (hs : P.underlying t = some (.struct fs)) (hone : oneCellFields P fs = true) (hC : P.cellsOf t = fs.size)
    (h : DataW.trod enc P w base spare held fuel t cs = some x) : cs.length = fs.size ∧ ∃ n, ∀ (j : Nat) (f : Field), fs[j]? = some f → ∃ v y, cs[j]? = some v ∧ DataW.trod enc P w base spare held n f.type [v] = some y := by
  obtain ⟨xs, n, _, _, hlen, hxl, hg⟩ := DataW.trod_struct hs h
  refine ⟨hlen.trans hC, n, fun j f hj => ?_⟩
  obtain ⟨ho, hk⟩ := hone_of hone j f hj
  have hjs : j < fs.size := (Array.getElem?_eq_some_iff.1 hj).1
  have hjc : j < cs.length := by omega
  have hjx : j < xs.length := by omega
  have h1 := hg j f hj
  rw [ho, hk, List.getElem?_eq_getElem hjx] at h1
  have h2 : (cs.drop j).take 1 = [cs[j]] := by rw [List.drop_eq_getElem_cons hjc]; rfl
  rw [h2] at h1
  exact ⟨cs[j], xs[j], List.getElem?_eq_getElem hjc, h1⟩
theorem map_some {α β : Type} {o : Option α} {f : α → β} {b : β} (h : o.map f = some b) : ∃ a, o = some a ∧ f a = b := by
  cases o with
  | none => cases h
  | some a => exact ⟨a, rfl, by injection h⟩
theorem string_field {n : Nat} {v : Value} {y : DataW H × List MemPlace} {t : TypeId} (ht : t = 9) (h : DataW.trod enc Tryz.prog w base spare held n t [v] = some y) : ∃ l : List UInt8, v = .string (bs l) ∧ l.length ≤ 9223372036854775807 := by
  subst ht
  obtain ⟨tx, hv, _, htx⟩ := DataW.trod_string Tryz.underlying9 h
  injection hv with hv _
  refine ⟨tx.data.toList, by rw [hv, bs_eq (s := tx) rfl]; rfl, ?_⟩
  have : tx.data.toList.length = tx.size := by rw [← Lib.size_eq]
  rw [this]
  unfold maxLen at htx
  omega
theorem int_field {n : Nat} {v : Value} {y : DataW H × List MemPlace} {t : TypeId} (ht : t = 3) (h : DataW.trod enc Tryz.prog w base spare held n t [v] = some y) : ∃ z, v = .int .i64 z ∧ i64R z := by
  subst ht
  obtain ⟨z, h1, _, h2⟩ := DataW.trod_int Tryz.underlying3 h
  exact ⟨z, by injection h1, by simp [Lit.wf, IntKind.min, IntKind.max, IntKind.signed, IntKind.bits] at h2; exact ⟨by omega, by omega⟩⟩
theorem oneEd : ∃ fs, Tryz.prog.underlying 31 = some (.struct fs) ∧ oneCellFields Tryz.prog fs = true ∧ Tryz.prog.cellsOf 31 = fs.size ∧ fs.size = 6 ∧ (fs[0]?.map (·.type)) = some 3 ∧ (fs[1]?.map (·.type)) = some 3 ∧ (fs[2]?.map (·.type)) = some 3 ∧ (fs[3]?.map (·.type)) = some 3 ∧ (fs[4]?.map (·.type)) = some 9 ∧ (fs[5]?.map (·.type)) = some 9 :=
  ⟨_, Tryz.underlying31, by kernel_rfl, by kernel_rfl, by kernel_rfl, by kernel_rfl, by kernel_rfl, by kernel_rfl, by kernel_rfl, by kernel_rfl, by kernel_rfl⟩
theorem ed_read {fuel : Nat} {cs : List Value} {x : DataW H × List MemPlace} (h : DataW.trod enc Tryz.prog w base spare held fuel 31 cs = some x) : ∃ o : Ed, cs = ecell o ∧ o.In := by
  obtain ⟨fs, hs, hone, hC, h3, t0, t1, t2, t3, t4, t5⟩ := oneEd
  obtain ⟨hlen, n, hf⟩ := fields_read hs hone hC h
  obtain ⟨f0, e0, g0⟩ := map_some t0
  obtain ⟨f1, e1, g1⟩ := map_some t1
  obtain ⟨f2, e2, g2⟩ := map_some t2
  obtain ⟨f3, e3, g3⟩ := map_some t3
  obtain ⟨f4, e4, g4⟩ := map_some t4
  obtain ⟨f5, e5, g5⟩ := map_some t5
  obtain ⟨v0, y0, c0, r0⟩ := hf 0 f0 e0
  obtain ⟨v1, y1, c1, r1⟩ := hf 1 f1 e1
  obtain ⟨v2, y2, c2, r2⟩ := hf 2 f2 e2
  obtain ⟨v3, y3, c3, r3⟩ := hf 3 f3 e3
  obtain ⟨v4, y4, c4, r4⟩ := hf 4 f4 e4
  obtain ⟨v5, y5, c5, r5⟩ := hf 5 f5 e5
  obtain ⟨k, rfl, hk⟩ := int_field g0 r0
  obtain ⟨f, rfl, hfi⟩ := int_field g1 r1
  obtain ⟨l, rfl, hl⟩ := int_field g2 r2
  obtain ⟨c, rfl, hc⟩ := int_field g3 r3
  obtain ⟨lo, rfl, hlo⟩ := string_field g4 r4
  obtain ⟨hi, rfl, hhi⟩ := string_field g5 r5
  refine ⟨⟨k, f, l, c, lo, hi⟩, ?_, ⟨hk, hfi, hl, hc, hlo, hhi⟩⟩
  match cs, hlen.trans h3 with
  | [x0, x1, x2, x3, x4, x5], _ =>
    simp at c0 c1 c2 c3 c4 c5
    subst c0 c1 c2 c3 c4 c5
    rfl
end
theorem open_edit {H : Type} {enc : TypeId × Value → H} {W : World} {d : DataW H} {p : List MemPlace} {cs : Array Value} (h : DataW.Trod enc Tryz.prog W 0 (fun _ => true) true 31 (.agg cs) d p) : ∃ x : Ed, cs = #[.int .i64 x.kind, .int .i64 x.file, .int .i64 x.lev, .int .i64 x.cnt, .string (bs x.low), .string (bs x.high)] ∧ x.In := by
  obtain ⟨fuel, hf⟩ := h
  obtain ⟨r, hcs, hi⟩ := ed_read hf
  refine ⟨r, ?_, hi⟩
  have : cs.toList = ecell r := hcs
  rw [show cs = cs.toList.toArray by simp, this]
  rfl
end Go.Proofs.YtgljjdldhnajdaaGreat
/- Slices of edits, and slices of those, that come in. -/
set_option linter.unusedVariables false
set_option maxRecDepth 100000
namespace Go.Proofs.YtgljjdldhnajdaaGreat
open Go.ChangeShapes Go.WideShapes Go.Deep
open Go.RowKit (Below)

instance : Inhabited Ed := ⟨⟨0, 0, 0, 0, [], []⟩⟩
/-- What is known of a slice of edits that came in. -/
structure InL (w : World) (a : Option Addr) (n cap : Nat) (L : List Ed) : Prop where
  len : n = L.length
  big : n ≤ maxLen
  is : RdX (fun b => b < w.heap.size) w (.slice a n cap) n (flat ecell L)
  fit : ∀ x ∈ L, x.In
theorem InL.below {w w' : World} {a : Option Addr} {n cap : Nat} {L : List Ed} (h : InL w a n cap L) (k : Below w.heap.size w w') : InL w' a n cap L := ⟨h.len, h.big, (h.is.below k).mono fun b hb _ => hb, h.fit⟩
/-- A list of edits in memory. -/
structure Gr where
  a : Option Addr
  n : Nat
  cap : Nat
  L : List Ed
instance : Inhabited Gr := ⟨⟨none, 0, 0, []⟩⟩
structure InG (w : World) (a : Option Addr) (n cap : Nat) (Gs : List Gr) : Prop where
  len : n = Gs.length
  big : n ≤ maxLen
  at' : ∃ b off, (n = 0 ∨ a = some ⟨b, off, none⟩) ∧ ∀ k l, Gs[k]? = some l → b < w.heap.size ∧ w.cell? ⟨b, off + k, none⟩ = some (.slice l.a l.n l.cap)
  is : ∀ g ∈ Gs, InL w g.a g.n g.cap g.L
theorem InG.below {w w' : World} {a : Option Addr} {n cap : Nat} {Gs : List Gr} (h : InG w a n cap Gs) (k : Below w.heap.size w w') : InG w' a n cap Gs := by
  obtain ⟨b, off, h1, h2⟩ := h.at'
  refine ⟨h.len, h.big, ⟨b, off, h1, fun i l hl => ?_⟩, fun g hg => (h.is g hg).below k⟩
  obtain ⟨h3, h4⟩ := h2 i l hl
  exact ⟨Nat.lt_of_lt_of_le h3 k.size, by rw [k.cell (p := ⟨b, off + i, none⟩) h3]; exact h4⟩
theorem InG.at {w : World} {a : Option Addr} {n cap : Nat} {Gs : List Gr} (h : InG w a n cap Gs) {i : Nat} (hi : i < n) : ∃ b off g, a = some ⟨b, off, none⟩ ∧ Gs[i]? = some g ∧ b < w.heap.size ∧ w.cell? ⟨b, off + i, none⟩ = some (.slice g.a g.n g.cap) ∧ InL w g.a g.n g.cap g.L := by
  obtain ⟨b, off, h1, h2⟩ := h.at'
  have hl : i < Gs.length := by rw [← h.len]; exact hi
  obtain ⟨h3, h4⟩ := h2 i _ (List.getElem?_eq_getElem hl)
  exact ⟨b, off, Gs[i], by rcases h1 with e | e; (omega); (exact e), List.getElem?_eq_getElem hl, h3, h4, h.is _ (List.getElem_mem hl)⟩
section
variable {H : Type} {enc : TypeId × Value → H} {w : World} {base : Nat} {spare : Nat → Bool} {held : Bool}
theorem eds_read {fuel : Nat} {cs : List Value} {x : DataW H × List MemPlace} (h : DataW.trod enc Tryz.prog w base spare held fuel 22 cs = some x) : ∃ a len cap T, cs = [.slice a len cap] ∧ InL w a len cap T := by
  rcases open_slice Tryz.underlying22 h with ⟨hcs, _⟩ | ⟨a, len, cap, m, n, D, Pl, hcs, _, hl, hm, hmm, _, hi⟩
  · exact ⟨none, 0, 0, [], hcs, rfl, Nat.zero_le _, ⟨⟨_, _, rfl⟩, .inl rfl⟩, fun x hx => by cases hx⟩
  · refine ⟨some a, len, cap, ?_⟩
    have hlm : len ≤ m := by rw [hmm]; split <;> omega
    obtain ⟨fs, _, _, hC, h6, _⟩ := oneEd
    have hcell : ∀ i, i < len → ∃ e : Ed, (∀ j, j < 6 → w.cell? ((a.add (i * 6)).add j) = (ecell e)[j]?) ∧ e.In := by
      intro i hil
      obtain ⟨cs', hc, ht⟩ := hi i (by omega)
      rw [hC, h6] at hc
      obtain ⟨_, hcl, hat⟩ := World.cells?_some hc
      obtain ⟨e, rfl, he⟩ := ed_read ht
      exact ⟨e, fun j hj => hat j hj, he⟩
    obtain ⟨V, hV⟩ := choose_lt (α := Ed) hcell
    refine ⟨(List.range len).map V, hcs, by simp, by omega, ⟨⟨_, _, rfl⟩, ?_⟩, fun e he => ?_⟩
    · by_cases h0 : len = 0
      · exact .inl h0
      · right
        obtain ⟨c0, _⟩ := hV 0 (by omega)
        have c00 := c0 0 (by omega)
        have ha : ∃ b off, a = ⟨b, off, none⟩ := by
          obtain ⟨b, off, spot⟩ := a
          have := World.cell?_spot (v := .int .i64 (V 0).kind) c00
          have hs : spot = none := by simpa [Addr.add] using this
          subst hs
          exact ⟨b, off, rfl⟩
        obtain ⟨b, off, rfl⟩ := ha
        rw [addr_add, addr_add] at c00
        refine ⟨_, _, rfl, by omega, .inr ⟨b, off, rfl, cell_block (v := .int .i64 (V 0).kind) c00, cell_block (v := .int .i64 (V 0).kind) c00, fun j u hu => ?_⟩⟩
        have hj : j < len * 6 := by
          have := (List.getElem?_eq_some_iff.1 hu).1
          rw [flat_len ecell_len] at this
          simpa using this
        have hk : j / 6 < len := by omega
        obtain ⟨h1, _⟩ := hV (j / 6) hk
        have q := h1 (j % 6) (by omega)
        rw [addr_add, addr_add] at q
        have hx : ((List.range len).map V)[j / 6]? = some (V (j / 6)) := by simp [hk]
        have hf := flat_at ecell_len hx (i := j % 6) (by omega)
        rw [show j / 6 * 6 + j % 6 = j by omega, hu] at hf
        rw [← hf, Nat.add_assoc, show j / 6 * 6 + j % 6 = j by omega] at q
        exact q
    · obtain ⟨i, hi, rfl⟩ := List.mem_map.1 he
      exact (hV i (by simpa using hi)).2
theorem groups_read {fuel : Nat} {cs : List Value} {x : DataW H × List MemPlace} (h : DataW.trod enc Tryz.prog w base spare held fuel 25 cs = some x) : ∃ a len cap Gs, cs = [.slice a len cap] ∧ InG w a len cap Gs := by
  rcases open_slice Tryz.underlying25 h with ⟨hcs, _⟩ | ⟨a, len, cap, m, n, D, Pl, hcs, _, hl, hm, hmm, _, hi⟩
  · exact ⟨none, 0, 0, [], hcs, rfl, Nat.zero_le _, ⟨0, 0, .inl rfl, fun k r hr => by simp at hr⟩, fun r hr => by cases hr⟩
  · refine ⟨some a, len, cap, ?_⟩
    have hlm : len ≤ m := by rw [hmm]; split <;> omega
    have hC : Tryz.prog.cellsOf 22 = 1 := by kernel_rfl
    have hcell : ∀ i, i < len → ∃ l : Gr, w.cell? (a.add i) = some (.slice l.a l.n l.cap) ∧ InL w l.a l.n l.cap l.L := by
      intro i hil
      obtain ⟨cs', hc, ht⟩ := hi i (by omega)
      rw [hC] at hc
      obtain ⟨_, hcl, hat⟩ := World.cells?_some hc
      obtain ⟨a', len', cap', T', rfl, hr⟩ := eds_read ht
      have h0 := hat 0 (by omega)
      have he : (a.add (i * 1)).add 0 = a.add i := by unfold Addr.add; split <;> simp_all
      rw [he] at h0
      exact ⟨⟨a', len', cap', T'⟩, h0, hr⟩
    obtain ⟨V, hV⟩ := choose_lt (α := Gr) hcell
    refine ⟨(List.range len).map V, hcs, by simp, by omega, ?_, fun r hr => ?_⟩
    · by_cases h0 : len = 0
      · subst h0
        exact ⟨0, 0, .inl rfl, fun k r hr => by simp at hr⟩
      · obtain ⟨c0, _⟩ := hV 0 (by omega)
        have ha : ∃ b off, a = ⟨b, off, none⟩ := by
          obtain ⟨b, off, spot⟩ := a
          have := World.cell?_spot (v := .slice (V 0).a (V 0).n (V 0).cap) c0
          have hs : spot = none := by simpa [Addr.add] using this
          subst hs
          exact ⟨b, off, rfl⟩
        obtain ⟨b, off, rfl⟩ := ha
        refine ⟨b, off, .inr rfl, fun k r hr => ?_⟩
        have hk' : k < len := by have := (List.getElem?_eq_some_iff.1 hr).1; simpa using this
        have hrV : r = V k := by simpa [hk'] using hr.symm
        subst hrV
        obtain ⟨q0, _⟩ := hV k hk'
        rw [addr_add] at q0
        exact ⟨cell_block (v := .slice (V k).a (V k).n (V k).cap) q0, q0⟩
    · obtain ⟨i, hi, rfl⟩ := List.mem_map.1 hr
      exact (hV i (by simpa using hi)).2
end
theorem open_eds {H : Type} {enc : TypeId × Value → H} {W : World} {d : DataW H} {p : List MemPlace} {a : Option Addr} {len cap : Nat} (h : DataW.Trod enc Tryz.prog W 0 (fun _ => true) true 22 (.slice a len cap) d p) : ∃ T, InL W a len cap T := by
  obtain ⟨fuel, hf⟩ := h
  obtain ⟨a', len', cap', T, hcs, hi⟩ := eds_read hf
  simp [Value.cells] at hcs
  obtain ⟨rfl, rfl, rfl⟩ := hcs
  exact ⟨T, hi⟩
theorem open_groups {H : Type} {enc : TypeId × Value → H} {W : World} {d : DataW H} {p : List MemPlace} {a : Option Addr} {len cap : Nat} (h : DataW.Trod enc Tryz.prog W 0 (fun _ => true) true 25 (.slice a len cap) d p) : ∃ Gs, InG W a len cap Gs := by
  obtain ⟨fuel, hf⟩ := h
  obtain ⟨a', len', cap', T, hcs, hi⟩ := groups_read hf
  simp [Value.cells] at hcs
  obtain ⟨rfl, rfl, rfl⟩ := hcs
  exact ⟨T, hi⟩
end Go.Proofs.YtgljjdldhnajdaaGreat
/- The law's own look: whether groups of edits are few. -/
set_option linter.unusedVariables false
set_option maxRecDepth 100000
namespace Go.Proofs.YtgljjdldhnajdaaGreat
open Go.RowKit

/-- The look, edit by edit: n edits and b bytes were looked at; none where it ends early. -/
def fewF : List Ed → Nat → Nat → Option Nat
  | [], _, b => some b
  | x :: L, n, b => if 200 < n + 1 ∨ 20000 < x.low.length ∨ 20000 < x.high.length ∨ 20000 < b then none else fewF L (n + 1) (b + x.low.length + x.high.length)
def fewR (n : Nat) : Option Nat → Bool
  | none => false
  | some b => decide (n ≤ 200) && decide (b ≤ 20000)
def fewB (Gs : List Gr) : Bool := fewR Gs.length (fewF (Gs.flatMap (·.L)) 0 0)
theorem fewF_of : ∀ (L : List Ed) (n b z : Nat), fewF L n b = some z → n ≤ 200 → n + L.length ≤ 200 ∧ (∀ x ∈ L, x.low.length ≤ 20000 ∧ x.high.length ≤ 20000)
  | [], n, b, z, _, hn => ⟨by simpa using hn, fun x hx => by cases hx⟩
  | x :: L, n, b, z, h, hn => by
    unfold fewF at h
    split at h
    · cases h
    · rename_i hx
      obtain ⟨h1, h2⟩ := fewF_of L _ _ z h (by omega)
      refine ⟨by simp; omega, fun y hy => ?_⟩
      rcases List.mem_cons.1 hy with rfl | hy
      · omega
      · exact h2 y hy
/-- Few groups: how much they are at most. -/
theorem few_of {Gs : List Gr} (h : fewB Gs = true) : Gs.length ≤ 200 ∧ (Gs.flatMap (·.L)).length ≤ 200 ∧ ∀ x ∈ Gs.flatMap (·.L), x.low.length ≤ 20000 ∧ x.high.length ≤ 20000 := by
  unfold fewB at h
  cases hb : fewF (Gs.flatMap (·.L)) 0 0 with
  | none => rw [hb] at h; cases h
  | some b =>
    rw [hb] at h
    obtain ⟨h1, h2⟩ := fewF_of _ _ _ _ hb (Nat.zero_le _)
    simp [fewR] at h
    exact ⟨h.1, by simpa using h1, h2⟩
theorem few_step {L : List Ed} {n b : Nat} {x : Ed} {R : Option Nat} (h : fewF (x :: L) n b = R) : (200 < n + 1 ∨ 20000 < x.low.length ∨ 20000 < x.high.length ∨ 20000 < b) ∧ R = none ∨ (n + 1 ≤ 200 ∧ x.low.length ≤ 20000 ∧ x.high.length ≤ 20000 ∧ b ≤ 20000) ∧ fewF L (n + 1) (b + x.low.length + x.high.length) = R := by
  unfold fewF at h
  split at h
  · rename_i hx; exact .inl ⟨hx, h.symm⟩
  · rename_i hx; exact .inr ⟨by omega, h⟩
set_option maxHeartbeats 4000000 in
theorem law_few {a : Option Addr} {len cap : Nat} {Gs : List Gr} {w : World} (h : Hid (InG w a len cap Gs)) :
    Calls Tryz.prog 8 #[.slice a len cap] w fun e w' => e = .returned (.bool (fewB Gs)) ∧ Below w.heap.size w w' := by
  obtain ⟨R, hR⟩ : ∃ R, fewF (Gs.flatMap (·.L)) 0 0 = R := ⟨_, rfl⟩
  have HR := Lib.hid hR
  have hbig : len ≤ 9223372036854775807 := by have := h.out.big; unfold maxLen at this; omega
  have HL := Lib.hid h.out.len
  have HF : Hid (fewB Gs = fewR len R) := Lib.hid (by unfold fewB; rw [hR, h.out.len])
  obtain ⟨F, hF⟩ : ∃ F, F = fewB Gs := ⟨_, rfl⟩
  rw [← hF] at HF ⊢
  clear hR hF
  go_enter Tryz.func8, Tryz.ntmps8
  go_wp2_with fail
  go_loopw [3, 4, 5] (fun nv bv iv wr => ∃ n b i : Nat, i ≤ len ∧ nv = .int .i64 (n : Int) ∧ bv = .int .i64 (b : Int) ∧ iv = .int .i64 (i : Int) ∧ Hid (n ≤ 200 ∧ b ≤ 60000) ∧ Hid (fewF ((Gs.drop i).flatMap (·.L)) n b = R) ∧ Hid (Below w.heap.size w wr)) (fun nv bv iv wr => len - (intOf iv).toNat)
  case atStart => exact ⟨0, 0, 0, Nat.zero_le _, rfl, rfl, rfl, Lib.hid ⟨by omega, by omega⟩, HR, Lib.hid (Below.refl _ _)⟩
  case round =>
    obtain ⟨n, b, i, hi, rfl, rfl, rfl, hnb, hf, hK⟩ := hrel
    by_cases hlt : i < len
    · obtain ⟨bb, off, g, rfl, hg, hb, hc, hI⟩ := h.out.at hlt
      have hlt2 : (i : Int) < (len : Int) := by omega
      have HI := Lib.hid hI
      have HB := Lib.hid hb
      have HC := Lib.hid hc
      have hgl : g.n ≤ 9223372036854775807 := by have := hI.big; unfold maxLen at this; omega
      obtain ⟨rest, hrest⟩ : ∃ rest, rest = (Gs.drop (i + 1)).flatMap (·.L) := ⟨_, rfl⟩
      have HS := Lib.hid (show fewF (g.L.drop 0 ++ rest) n b = R by
        rw [← hf.out, hrest, List.drop_zero]
        congr 1
        have hi' := (List.getElem?_eq_some_iff.1 hg)
        obtain ⟨hi', hgi⟩ := hi'
        rw [List.drop_eq_getElem_cons hi', hgi, List.flatMap_cons])
      have HREST := Lib.hid hrest
      clear hg hI hc hb hrest
      obtain ⟨ga, gn, gc, gL⟩ := g
      simp only at HI HC HS hgl
      go_wp2_with fail
      go_loopw [3, 4, 6] (fun nv bv kv wq => ∃ n b k : Nat, k ≤ gn ∧ nv = .int .i64 (n : Int) ∧ bv = .int .i64 (b : Int) ∧ kv = .int .i64 (k : Int) ∧ Hid (n ≤ 200 ∧ b ≤ 60000) ∧ Hid (fewF (gL.drop k ++ rest) n b = R) ∧ Hid (Below w.heap.size w wq)) (fun nv bv kv wq => gn - (intOf kv).toNat)
      case atStart => exact ⟨n, b, 0, Nat.zero_le _, rfl, rfl, rfl, hnb, HS, hK⟩
      case round =>
        obtain ⟨n', b', k, hk, rfl, rfl, rfl, hnb', hf', hK'⟩ := hrel
        have c0 : wr.cell? ⟨bb, off + i, none⟩ = some (.slice ga gn gc) := by rw [hK'.out.cell (p := ⟨bb, off + i, none⟩) HB.out]; exact HC.out
        by_cases hkl : k < gn
        · have hkl2 : (k : Int) < (gn : Int) := by omega
          obtain ⟨x, hx⟩ : ∃ x, gL[k]? = some x := ⟨_, List.getElem?_eq_getElem (by have := HI.out.len; omega)⟩
          obtain ⟨xb, xo, rfl, _, hxb, hxc⟩ := (HI.out.below hK'.out).is.atE hx hkl
          have y0 := hxc 0 _ rfl
          have y1 := hxc 1 _ rfl
          have y2 := hxc 2 _ rfl
          have y3 := hxc 3 _ rfl
          have y4 := hxc 4 _ rfl
          have y5 := hxc 5 _ rfl
          simp only [Nat.add_zero] at y0
          obtain ⟨w1, hw1⟩ : ∃ w1, wr.alloc (.cells #[.int .i64 x.kind, .int .i64 x.file, .int .i64 x.lev, .int .i64 x.cnt, .string (bs x.low), .string (bs x.high)] 31) = w1 := ⟨_, rfl⟩
          have hBq : w.heap.size ≤ wr.heap.size := hK'.out.size
          have K1 := Lib.hid (show Below w.heap.size w w1 by rw [← hw1]; exact hK'.out.alloc hBq _)
          have E1 := Lib.hid (show w1.heap[wr.heap.size]? = some (.cells #[.int .i64 x.kind, .int .i64 x.file, .int .i64 x.lev, .int .i64 x.cnt, .string (bs x.low), .string (bs x.high)] 31 (0, 0)) by rw [← hw1]; exact heap_new wr _)
          obtain ⟨G, hG⟩ : ∃ G, G = wr.heap.size := ⟨_, rfl⟩
          rw [← hG] at E1
          have e4 : w1.cell? ⟨G, 4, none⟩ = some (.string (bs x.low)) := by simp [World.cell?, E1.out]
          have e5 : w1.cell? ⟨G, 5, none⟩ = some (.string (bs x.high)) := by simp [World.cell?, E1.out]
          have HW1 := Lib.hid hw1
          have HG := Lib.hid hG
          have hst := few_step (show fewF (x :: (gL.drop (k + 1) ++ rest)) n' b' = R by
            rw [← hf'.out]
            obtain ⟨hkl', hxe⟩ := List.getElem?_eq_some_iff.1 hx
            rw [List.drop_eq_getElem_cons hkl', hxe, List.cons_append])
          clear hw1 hG hx hxb hxc
          have hn2 : n' ≤ 200 := hnb'.out.1
          have hb2 : b' ≤ 60000 := hnb'.out.2
          have hsl : ((bs x.low).size : Int) = (x.low.length : Int) := by rw [bs_size]
          have hsh : ((bs x.high).size : Int) = (x.high.length : Int) := by rw [bs_size]
          have HSL := Lib.hid (And.intro hsl hsh)
          go_upto_region 9 with (fail)
          rw [HW1.out, ← HG.out]
          clear y0 y1 y2 y3 y4 y5 c0
          rcases hst with ⟨hor, hnone⟩ | ⟨⟨h1, h2, h3, h4⟩, hnext⟩
          · have HFF := Lib.hid (show F = false by rw [HF.out, hnone]; rfl)
            clear hnone
            by_cases h1 : 200 < n' + 1
            · have q1 : (200 : Int) < (n' : Int) + 1 := by omega
              clear hor hsl hsh
              go_wp2
              go_ret
              exact ⟨by rw [HFF.out]; rfl, K1.out⟩
            · have q1 : (n' : Int) + 1 ≤ 200 := by omega
              by_cases h2 : 20000 < x.low.length
              · have q2 : (20000 : Int) < ((bs x.low).size : Int) := by omega
                clear hor hsl hsh h2
                go_wp2
                go_ret
                exact ⟨by rw [HFF.out]; rfl, K1.out⟩
              · have q2 : ((bs x.low).size : Int) ≤ 20000 := by omega
                by_cases h3 : 20000 < x.high.length
                · have q3 : (20000 : Int) < ((bs x.high).size : Int) := by omega
                  clear hor hsl hsh h2 h3
                  go_wp2
                  go_ret
                  exact ⟨by rw [HFF.out]; rfl, K1.out⟩
                · have q3 : ((bs x.high).size : Int) ≤ 20000 := by omega
                  have q4 : (20000 : Int) < (b' : Int) := by omega
                  clear hor hsl hsh h2 h3
                  go_wp2
                  go_ret
                  exact ⟨by rw [HFF.out]; rfl, K1.out⟩
          · have q1 : (n' : Int) + 1 ≤ 200 := by omega
            have q2 : ((bs x.low).size : Int) ≤ 20000 := by omega
            have q3 : ((bs x.high).size : Int) ≤ 20000 := by omega
            have q4 : (b' : Int) ≤ 20000 := by omega
            have HNEXT := Lib.hid hnext
            have HQ := Lib.hid (show n' + 1 ≤ 200 ∧ b' + x.low.length + x.high.length ≤ 60000 by omega)
            clear hnext hsl hsh h1 h2 h3 h4
            go_wp2_with fail
            go_roundw
            case rel => exact ⟨n' + 1, b' + x.low.length + x.high.length, k + 1, by omega, by go_num, by rw [HSL.out.1, HSL.out.2]; go_num, by go_num, HQ, HNEXT, K1⟩
            case measure => simp [intOf]; omega
        · have hkn : ¬ k < gn := hkl
          have hge : (gn : Int) ≤ (k : Int) := by omega
          have HN := Lib.hid (show fewF ((Gs.drop (i + 1)).flatMap (·.L)) n' b' = R by
            rw [← hf'.out, ← HREST.out, List.drop_of_length_le (by have := HI.out.len; omega), List.nil_append])
          go_wp2_with fail
          go_roundw
          case rel => exact ⟨n', b', i + 1, by omega, rfl, rfl, by go_num, hnb', HN, hK'⟩
          case measure => simp [intOf]; omega
    · have hN : R = some b := by
        rw [← hf.out, List.drop_of_length_le (by have := HL.out; omega)]
        rfl
      have HFF := Lib.hid (show F = (decide (len ≤ 200) && decide (b ≤ 20000)) by rw [HF.out, hN]; rfl)
      have hge : (len : Int) ≤ (i : Int) := by omega
      clear hN
      by_cases h1 : len ≤ 200
      · have q1 : (len : Int) ≤ 200 := by omega
        by_cases h2 : b ≤ 20000
        · have q2 : (b : Int) ≤ 20000 := by omega
          have HT := Lib.hid (show F = true by rw [HFF.out]; simp [h1, h2])
          clear HFF h1 h2
          go_wp2
          go_ret
          exact ⟨by rw [HT.out]; rfl, hK.out⟩
        · have q2 : decide ((b : Int) ≤ 20000) = false := decide_eq_false (by omega)
          have HT := Lib.hid (show F = false by rw [HFF.out]; simp [h2])
          clear HFF h1 h2
          go_wp2
          go_ret
          exact ⟨by rw [HT.out]; rfl, hK.out⟩
      · have q1 : (200 : Int) < (len : Int) := by omega
        have HT := Lib.hid (show F = false by rw [HFF.out]; simp [h1])
        clear HFF h1
        go_wp2
        go_ret
        exact ⟨by rw [HT.out]; rfl, hK.out⟩
end Go.Proofs.YtgljjdldhnajdaaGreat
/- ManifestPacks, walked: edits have the document's bytes and come back; any bytes are edits or refused. -/
set_option linter.unusedVariables false
set_option maxRecDepth 100000
namespace Go.Proofs.YtgljjdldhnajdaaGreat
open Go.RowKit

theorem text_ge (u : List UInt8) : u.length ≤ (text u).length := by unfold text; rw [List.length_append]; omega
theorem edB_low {x : Ed} (h : clean x = x) : x.low.length ≤ (edB x).length ∧ x.high.length ≤ (edB x).length := by
  by_cases hk : x.kind = 1
  · have h1 := text_ge x.low
    have h2 := text_ge x.high
    have : edB x = whole x.kind ++ wholes (numsOf x) ++ (text x.low ++ text x.high) := by
      unfold edB textsOf; rw [if_pos hk]; simp [textsB]
    rw [this, List.length_append, List.length_append, List.length_append]
    omega
  · have h1 : (clean x).low = [] := by simp [clean, mkEd, textsOf, hk]
    have h2 : (clean x).high = [] := by simp [clean, mkEd, textsOf, hk]
    rw [h] at h1 h2
    rw [h1, h2]
    simp
theorem rdEds_low : ∀ {n : Nat} {l r : List UInt8} {L : List Ed}, rdEds n l = .inr (L, r) → ∀ x ∈ L, x.low.length ≤ l.length ∧ x.high.length ≤ l.length
  | 0, l, r, L, h => by cases h; exact fun x hx => by cases hx
  | n + 1, l, r, L, h => by
    unfold rdEds at h
    cases h1 : rdEd l with
    | inl f => rw [h1] at h; cases h
    | inr y =>
      obtain ⟨x, r1⟩ := y
      rw [h1] at h
      cases h2 : rdEds n r1 with
      | inl f => simp only [h2] at h; cases h
      | inr z =>
        obtain ⟨L', r2⟩ := z
        simp only [h2, appR] at h
        cases h
        obtain ⟨c1, c2, c3⟩ := rdEd_of h1
        have hl : l.length = (edB x).length + r1.length := by rw [c1, List.length_append]
        intro y hy
        rcases List.mem_append.1 hy with hy | hy
        · obtain rfl := List.mem_singleton.1 hy
          have := edB_low c3
          omega
        · have := rdEds_low h2 y hy
          omega
theorem unp_low {l : List UInt8} : ∀ x ∈ (unp l).2, x.low.length ≤ l.length ∧ x.high.length ≤ l.length := by
  intro x hx
  unfold unp at hx
  split at hx
  · cases h1 : rdEds (cn l).toNat (l.drop (ck l)) with
    | inl f => rw [h1] at hx; simp [unpT] at hx
    | inr y =>
      obtain ⟨L', r⟩ := y
      rw [h1] at hx
      simp only [unpT] at hx
      split at hx
      · have := rdEds_low h1 x hx
        rw [List.length_drop] at this
        omega
      · simp at hx
  · simp at hx
theorem unp_none {l : List UInt8} (h : ¬ (unp l).1 = 0) : (unp l).2 = [] := by
  unfold unp at h ⊢
  split
  · rename_i hz
    rw [if_pos hz] at h
    cases h1 : rdEds (cn l).toNat (l.drop (ck l)) with
    | inl f => rfl
    | inr y =>
      obtain ⟨L', r⟩ := y
      rw [h1] at h
      simp only [unpT] at h ⊢
      split
      · rename_i hr
        rw [if_pos hr] at h
        exact absurd rfl h
      · rfl
  · rfl
theorem edsB_count : ∀ (L : List Ed), (∀ x ∈ L, x.Fits) → L.length ≤ (edsB L).length
  | [], _ => Nat.zero_le _
  | x :: L, h => by
    have h1 := edB_pos x (h x (by simp))
    have h2 := edsB_count L fun y hy => h y (by simp [hy])
    have e : edsB (x :: L) = edB x ++ edsB L := by simp [edsB]
    rw [e, List.length_append, List.length_cons]
    omega
set_option maxHeartbeats 16000000 in
theorem packs_walk {a : Option Addr} {n cap : Nat} {L : List Ed} {l : List UInt8} {w : World} (h : Hid (InL w a n cap L)) (hs : l.length ≤ 9223372036854775807) :
    Calls Tryz.prog 3 #[.slice a n cap, .string (bs l)] w fun e w' => e = .returned (.bool true) ∧ Below w.heap.size w w' := by
  have hsz : (bs l).size = l.length := bs_size l
  obtain ⟨ll, hll⟩ : ∃ ll, ll = l.length := ⟨_, rfl⟩
  have HLL := Lib.hid hll
  rw [← hll] at hsz hs
  clear hll
  have hn63 : n ≤ 9223372036854775807 := by have := h.out.big; unfold maxLen at this; omega
  go_enter Tryz.func3, Tryz.ntmps3
  go_wp2_with fail
  refine (law_awake13 w).mono ?_
  rintro e w1 ⟨rfl, k1⟩
  have K1 := Lib.hid k1
  clear k1
  obtain ⟨wg, hwg⟩ : ∃ wg, wg = w1.alloc (.cells #[.slice a n cap] 22) := ⟨_, rfl⟩
  have KG := Lib.hid (show Below w1.heap.size w1 wg by rw [hwg]; exact (Below.refl _ _).alloc (Nat.le_refl _) _)
  have HG := Lib.hid (show InG wg (some ⟨w1.heap.size, 0, none⟩) 1 1 [⟨a, n, cap, L⟩] from ⟨rfl, by unfold maxLen; omega, ⟨w1.heap.size, 0, .inr rfl, fun k g hg => by
    cases k with
    | zero =>
      injection hg with hg
      subst hg
      have hb := heap_new w1 (.cells #[.slice a n cap] 22)
      rw [← hwg] at hb
      exact ⟨heap_lt hb, by simp [World.cell?, hb]⟩
    | succ k => simp at hg⟩, fun g hg => by
      obtain rfl := List.mem_singleton.1 hg
      exact (h.out.below K1.out).below KG.out⟩)
  have HFW := Lib.hid (law_few HG)
  rw [hwg] at HFW
  have HWG := Lib.hid hwg
  clear hwg
  obtain ⟨F, hF⟩ : ∃ F, fewB [⟨a, n, cap, L⟩] = F := ⟨_, rfl⟩
  rw [hF] at HFW
  have HF := Lib.hid hF
  clear hF
  go_wp2_with fail
  refine HFW.out.mono ?_
  rintro e w2 ⟨rfl, k2⟩
  rw [← HWG.out] at k2
  have K2 := Lib.hid (K1.out.trans ((KG.out.trans (k2.mono KG.out.size)).mono K1.out.size))
  clear k2 HFW
  cases F with
  | false =>
    go_wp2_with fail
    refine (law_awake13 w2).mono ?_
    rintro e w3 ⟨rfl, k3⟩
    have K3 := Lib.hid (K2.out.trans (k3.mono K2.out.size))
    clear k3
    go_wp2
    go_ret
    exact ⟨rfl, K3.out⟩
  | true =>
    have HFE := Lib.hid (few_of HF.out)
    by_cases hlong : 20000 < ll
    · have q1 : decide ((20000 : Int) < (ll : Int)) = true := by rw [decide_eq_true_eq]; omega
      clear hlong
      go_wp2_with fail
      refine (law_awake13 w2).mono ?_
      rintro e w3 ⟨rfl, k3⟩
      have K3 := Lib.hid (K2.out.trans (k3.mono K2.out.size))
      clear k3
      go_wp2
      go_ret
      exact ⟨rfl, K3.out⟩
    · have q1 : decide ((20000 : Int) < (ll : Int)) = false := by rw [decide_eq_false_iff_not]; omega
      have hll : ll ≤ 20000 := by omega
      have HS := Lib.hid (show n ≤ 200 ∧ ∀ x ∈ L, x.low.length ≤ 20000 ∧ x.high.length ≤ 20000 by
        obtain ⟨-, h2, h3⟩ := HFE.out
        simp only [List.flatMap_cons, List.flatMap_nil, List.append_nil] at h2 h3
        exact ⟨by rw [h.out.len]; exact h2, h3⟩)
      have hn200 : n ≤ 200 := HS.out.1
      have HFit := Lib.hid (show ∀ x ∈ L, x.Fits ∧ x.low.length ≤ 1000000 ∧ x.high.length ≤ 1000000 from fun x hx => ⟨⟨(h.out.fit x hx).kind, (h.out.fit x hx).file, (h.out.fit x hx).lev, (h.out.fit x hx).cnt⟩, by have := HS.out.2 x hx; omega, by have := HS.out.2 x hx; omega⟩)
      have HEF := Lib.hid (show EdsFit L from fun x hx => by have := HFit.out x hx; exact ⟨this.1, by omega, by omega⟩)
      have HPL := Lib.hid (show (packL L).length ≤ 500000000 by
        have h1 := edsB_len HFit.out
        have h2 := whole_small' (n := (L.length : Int)) (by rw [← h.out.len]; omega)
        have h3 := h.out.len
        unfold packL
        rw [List.length_append]
        have h4 : 2000066 * L.length ≤ 2000066 * 200 := Nat.mul_le_mul_left _ (by omega)
        omega)
      clear hlong
      have RX := fun (W : World) (k : Below w.heap.size w W) => (show RdX (fun c => c < W.heap.size) W (.slice a n cap) n (flat ecell L) from (h.out.is.below k).mono fun b hb _ => by have := k.size; omega)
      have HRX := Lib.hid RX
      clear RX
      obtain ⟨P, hP⟩ : ∃ P, P = packL L := ⟨_, rfl⟩
      have HPK := Lib.hid (man_Pack (w := w2) (Lib.hid (HRX.out w2 K2.out)) (Lib.hid h.out.len) (by omega) HEF (Lib.hid (by have := HPL.out; omega)))
      rw [← hP] at HPK
      have HUN := Lib.hid (fun W => man_Unpack P W (by rw [hP]; have := HPL.out; omega))
      have HUP := Lib.hid (show unp P = (0, L.map clean) by rw [hP]; exact unp_pack HEF.out (by have := h.out.len; omega))
      rw [HUP.out] at HUN
      simp only at HUN
      rw [List.length_map, ← h.out.len] at HUN
      have HRP := Lib.hid (fun (W : World) (k : Below w.heap.size w W) => ref_Pack (w := W) (Lib.hid (HRX.out W k)) (Lib.hid h.out.len) (by omega) HFit)
      rw [← hP] at HRP
      clear hP HPL
      go_wp2_with fail
      refine HPK.out.mono ?_
      rintro e w3 ⟨rfl, k3⟩
      have K3 := Lib.hid (K2.out.trans (k3.mono K2.out.size))
      clear k3 HPK
      go_wp2_with fail
      refine (HUN.out w3).mono ?_
      rintro e w4 ⟨v4, rfl, o4, k4⟩
      have K4 := Lib.hid (K3.out.trans (k4.mono K3.out.size))
      have O4 := Lib.hid o4
      clear k4 o4 HUN
      obtain ⟨va, vc, rfl⟩ := OffRow.slice O4.out
      go_wp2_with fail
      refine (HRP.out w4 K4.out).mono ?_
      rintro e w5 ⟨rfl, k5⟩
      have K5 := Lib.hid (K4.out.trans (k5.mono K4.out.size))
      have O5 := Lib.hid (OffRow.kept O4.out fun j hj => k5.block j (OffRow.lt O4.out j hj).2)
      clear k5 HRP O4
      go_wp2_with fail
      go_loopw [8] (fun iv wr => ∃ i : Nat, i ≤ n ∧ iv = .int .i64 (i : Int) ∧ Hid (Below w5.heap.size w5 wr)) (fun iv wr => n - (intOf iv).toNat)
      case atStart => exact ⟨0, Nat.zero_le _, rfl, Lib.hid (Below.refl _ _)⟩
      case round =>
        obtain ⟨i, hi, rfl, hK⟩ := hrel
        by_cases hlt : i < n
        · have hlt2 : (i : Int) < (n : Int) := by omega
          obtain ⟨x, hx⟩ : ∃ x, L[i]? = some x := ⟨_, List.getElem?_eq_getElem (by have := h.out.len; omega)⟩
          have hcx : (L.map clean)[i]? = some (clean x) := by rw [List.getElem?_map, hx]; rfl
          have KW := Lib.hid (K5.out.trans (hK.out.mono K5.out.size))
          have RB := Lib.hid (show RdX (fun b => w3.heap.size ≤ b) w5 (.slice va n vc) n (flat ecell (L.map clean)) from (OffRow.rdL O5.out).x)
          obtain ⟨b0, o0, rfl, _, hb0, c0⟩ := RdX.atE RB.out hcx hlt
          obtain ⟨b1, o1, rfl, _, hb1, c1⟩ := RdX.atE h.out.is hx hlt
          obtain ⟨y, hy⟩ : ∃ y, y = clean x := ⟨_, rfl⟩
          have G0 := Lib.hid (fun m : Seen wr => ed_seen (ref_Clean x) m)
          rw [← hy] at c0 G0
          clear hy hx hcx RB
          have m0 : ∀ (m : Seen wr) i' u, (ecell y)[i']? = some u → m.val.cell? ⟨b0, o0 + i * 6 + i', none⟩ = some u := fun m i' u hu => by
            rw [← c0 i' u hu]
            have k := hK.out.trans (m.below.mono hK.out.size)
            simp only [World.cell?, k.block b0 hb0]
          have m1 : ∀ (m : Seen wr) i' u, (ecell x)[i']? = some u → m.val.cell? ⟨b1, o1 + i * 6 + i', none⟩ = some u := fun m i' u hu => by
            rw [← c1 i' u hu]
            have k := KW.out.trans (m.below.mono KW.out.size)
            simp only [World.cell?, k.block b1 hb1]
          have y0 : ∀ m : Seen wr, m.val.cell? ⟨b0, o0 + i * 6, none⟩ = _ := fun m => m0 m 0 _ rfl
          have y1 := fun m => m0 m 1 _ rfl
          have y2 := fun m => m0 m 2 _ rfl
          have y3 := fun m => m0 m 3 _ rfl
          have y4 := fun m => m0 m 4 _ rfl
          have y5 := fun m => m0 m 5 _ rfl
          have z0 : ∀ m : Seen wr, m.val.cell? ⟨b1, o1 + i * 6, none⟩ = _ := fun m => m1 m 0 _ rfl
          have z1 := fun m => m1 m 1 _ rfl
          have z2 := fun m => m1 m 2 _ rfl
          have z3 := fun m => m1 m 3 _ rfl
          have z4 := fun m => m1 m 4 _ rfl
          have z5 := fun m => m1 m 5 _ rfl
          clear c0 c1 m0 m1 hb0 hb1
          go_upto_region 10 with (fail)
          refine region_seen (by kernel_rfl) (by kernel_rfl) ?_
          repeat go_big_quiet_step (first | (go_at_call 12; with_reducible exact G0.out _))
          refine wpQuiet_nil ?_
          rintro _ ⟨ms, rfl⟩
          have K7 := Lib.hid (hK.out.trans (ms.below.mono hK.out.size))
          clear y0 y1 y2 y3 y4 y5 z0 z1 z2 z3 z4 z5 G0
          generalize ms.val = w7 at *
          go_wp2
          go_roundw
          case rel => exact ⟨i + 1, hlt, by go_num, K7⟩
          case measure => simp [intOf]; omega
        · have K6 := Lib.hid (K5.out.trans (hK.out.mono K5.out.size))
          have HU1 := Lib.hid (fun W => man_Unpack l W (by have := HLL.out; omega))
          have HU2 := Lib.hid (fun W => ref_Unpack l W (by have := HLL.out; omega))
          obtain ⟨E, hE⟩ : ∃ E, E = (unp l).1 := ⟨_, rfl⟩
          obtain ⟨M, hM⟩ : ∃ M, M = (unp l).2 := ⟨_, rfl⟩
          have HFM := Lib.hid (show M.length ≤ 1000000 ∧ EdsFit M ∧ (E = 0 → packL M = l) by
            by_cases h0 : E = 0
            · have hu : unp l = (0, M) := by rw [← h0, hE, hM]
              obtain ⟨u1, u2⟩ := unp_of hu
              have hc := edsB_count M u2
              have hl : (packL M).length = ll := by rw [u1]; exact HLL.out.symm
              unfold packL at hl
              rw [List.length_append] at hl
              refine ⟨by omega, fun x hx => ?_, fun _ => u1⟩
              have hlo := unp_low (l := l) x (by rw [← hM]; exact hx)
              have := HLL.out
              exact ⟨u2 x hx, by omega, by omega⟩
            · have hu : M = [] := by rw [hM]; exact unp_none (by rw [← hE]; exact h0)
              subst hu
              exact ⟨by simp, (fun x hx => (by cases hx)), fun h => absurd h h0⟩)
          rw [← hE, ← hM] at HU1 HU2
          obtain ⟨mn, hmn⟩ : ∃ mn, mn = M.length := ⟨_, rfl⟩
          rw [← hmn] at HU1 HU2 HFM
          have HMN := Lib.hid hmn
          have hmn2 : mn ≤ 1000000 := HFM.out.1
          clear hE hM hmn
          go_wp2_with fail
          refine (HU1.out wr).mono ?_
          rintro e w7 ⟨v7, rfl, o7, k7⟩
          have K7 := Lib.hid (K6.out.trans (k7.mono K6.out.size))
          have O7 := Lib.hid o7
          clear k7 o7 HU1
          obtain ⟨xa, xc, rfl⟩ := OffRow.slice O7.out
          go_wp2_with fail
          refine (HU2.out w7).mono ?_
          rintro e w8 ⟨v8, rfl, o8, k8⟩
          have K8 := Lib.hid (K7.out.trans (k8.mono K7.out.size))
          have O8 := Lib.hid o8
          have O78 := Lib.hid (OffRow.kept O7.out fun j hj => k8.block j (OffRow.lt O7.out j hj).2)
          clear k8 o8 HU2 O7
          obtain ⟨ya, yc, rfl⟩ := OffRow.slice O8.out
          go_wp2_with fail
          refine (same_eds (Lib.hid (OffRow.rdL O78.out).x) (Lib.hid (OffRow.rdL O8.out).x) (Lib.hid HMN.out) (by omega)).mono ?_
          rintro e w9 ⟨rfl, k9⟩
          have K9 := Lib.hid (K8.out.trans (k9.mono K8.out.size))
          have O9 := Lib.hid (OffRow.kept O78.out fun j hj => k9.block j (OffRow.lt O78.out j hj).2)
          clear k9 O78 O8
          by_cases hE0 : E = 0
          · have qE : (E == 0) = true := by rw [beq_iff_eq]; exact hE0
            have HPM := Lib.hid (HFM.out.2.2 hE0)
            have HPK := Lib.hid (man_Pack (w := w9) (Lib.hid ((OffRow.rdL O9.out).x.mono fun b hb _ => hb)) (Lib.hid HMN.out) (by omega) (Lib.hid HFM.out.2.1) (Lib.hid (by rw [HPM.out, ← HLL.out]; omega)))
            rw [HPM.out] at HPK
            subst hE0
            go_wp2_with fail
            refine HPK.out.mono ?_
            rintro e w10 ⟨rfl, k10⟩
            have K10 := Lib.hid (K9.out.trans (k10.mono K9.out.size))
            clear k10
            go_wp2
            go_ret
            exact ⟨rfl, K10.out⟩
          · have qE : (E == 0) = false := by rw [beq_eq_false_iff_ne]; exact hE0
            go_wp2
            go_ret
            exact ⟨rfl, K9.out⟩
end Go.Proofs.YtgljjdldhnajdaaGreat
