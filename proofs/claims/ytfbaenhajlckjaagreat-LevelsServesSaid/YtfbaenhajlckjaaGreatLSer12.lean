/- Texts put together: LevIn, LevSame, LevAwake, LevOwn, LevSt, LevSt2, LevCode -/
import Derived.Test.YtfbaenhajlckjaaGreatLSer08
import Derived.Test.YtfbaenhajlckjaaGreatLSer11
import Derived.Test.YtfbaenhajlckjaaGreatLSer06
import Derived.Test.YtfbaenhajlckjaaGreatLSer07
/- Texts, and turns, that come in. -/
set_option linter.unusedVariables false
set_option maxRecDepth 100000
namespace Go.Proofs.YtfbaenhajlckjaaGreat
open Go.ChangeShapes Go.WideShapes Go.Deep
open Go.RowKit (Below)

/-- What is known of a slice of texts that came in. -/
structure InS (w : World) (a : Option Addr) (n cap : Nat) (L : List (List UInt8)) : Prop where
  len : n = L.length
  big : n ≤ maxLen
  at' : ∃ b off, (n = 0 ∨ a = some ⟨b, off, none⟩) ∧ ∀ k l, L[k]? = some l → b < w.heap.size ∧ w.cell? ⟨b, off + k, none⟩ = some (.string (bs l))
  fit : ∀ l ∈ L, l.length ≤ maxLen
theorem InS.below {w w' : World} {a : Option Addr} {n cap : Nat} {L : List (List UInt8)} (h : InS w a n cap L) (k : Below w.heap.size w w') : InS w' a n cap L := by
  obtain ⟨b, off, h1, h2⟩ := h.at'
  refine ⟨h.len, h.big, ⟨b, off, h1, fun i l hl => ?_⟩, h.fit⟩
  obtain ⟨h3, h4⟩ := h2 i l hl
  exact ⟨Nat.lt_of_lt_of_le h3 k.size, by rw [k.cell (p := ⟨b, off + i, none⟩) h3]; exact h4⟩
theorem InS.at {w : World} {a : Option Addr} {n cap : Nat} {L : List (List UInt8)} (h : InS w a n cap L) {i : Nat} (hi : i < n) : ∃ b off g, a = some ⟨b, off, none⟩ ∧ L[i]? = some g ∧ b < w.heap.size ∧ w.cell? ⟨b, off + i, none⟩ = some (.string (bs g)) ∧ g.length ≤ maxLen := by
  obtain ⟨b, off, h1, h2⟩ := h.at'
  have hl : i < L.length := by rw [← h.len]; exact hi
  obtain ⟨h3, h4⟩ := h2 i _ (List.getElem?_eq_getElem hl)
  exact ⟨b, off, L[i], by rcases h1 with e | e; (omega); (exact e), List.getElem?_eq_getElem hl, h3, h4, h.fit _ (List.getElem_mem hl)⟩
/-- A turn in memory. -/
structure Tn where
  a : Option Addr
  n : Nat
  cap : Nat
  L : List (List UInt8)
instance : Inhabited Tn := ⟨⟨none, 0, 0, []⟩⟩
structure InT (w : World) (a : Option Addr) (n cap : Nat) (Gs : List Tn) : Prop where
  len : n = Gs.length
  big : n ≤ maxLen
  at' : ∃ b off, (n = 0 ∨ a = some ⟨b, off, none⟩) ∧ ∀ k l, Gs[k]? = some l → b < w.heap.size ∧ w.cell? ⟨b, off + k, none⟩ = some (.slice l.a l.n l.cap)
  is : ∀ g ∈ Gs, InS w g.a g.n g.cap g.L
theorem InT.below {w w' : World} {a : Option Addr} {n cap : Nat} {Gs : List Tn} (h : InT w a n cap Gs) (k : Below w.heap.size w w') : InT w' a n cap Gs := by
  obtain ⟨b, off, h1, h2⟩ := h.at'
  refine ⟨h.len, h.big, ⟨b, off, h1, fun i l hl => ?_⟩, fun g hg => (h.is g hg).below k⟩
  obtain ⟨h3, h4⟩ := h2 i l hl
  exact ⟨Nat.lt_of_lt_of_le h3 k.size, by rw [k.cell (p := ⟨b, off + i, none⟩) h3]; exact h4⟩
theorem InT.at {w : World} {a : Option Addr} {n cap : Nat} {Gs : List Tn} (h : InT w a n cap Gs) {i : Nat} (hi : i < n) : ∃ b off g, a = some ⟨b, off, none⟩ ∧ Gs[i]? = some g ∧ b < w.heap.size ∧ w.cell? ⟨b, off + i, none⟩ = some (.slice g.a g.n g.cap) ∧ InS w g.a g.n g.cap g.L := by
  obtain ⟨b, off, h1, h2⟩ := h.at'
  have hl : i < Gs.length := by rw [← h.len]; exact hi
  obtain ⟨h3, h4⟩ := h2 i _ (List.getElem?_eq_getElem hl)
  exact ⟨b, off, Gs[i], by rcases h1 with e | e; (omega); (exact e), List.getElem?_eq_getElem hl, h3, h4, h.is _ (List.getElem_mem hl)⟩
section
variable {H : Type} {enc : TypeId × Value → H} {w : World} {base : Nat} {spare : Nat → Bool} {held : Bool}
theorem texts_read {fuel : Nat} {cs : List Value} {x : DataW H × List MemPlace} (h : DataW.trod enc Tryz.prog w base spare held fuel 52 cs = some x) : ∃ a len cap Gs, cs = [.slice a len cap] ∧ InS w a len cap Gs := by
  rcases open_slice Tryz.underlying52 h with ⟨hcs, _⟩ | ⟨a, len, cap, m, n, D, Pl, hcs, _, hl, hm, hmm, _, hi⟩
  · exact ⟨none, 0, 0, [], hcs, rfl, Nat.zero_le _, ⟨0, 0, .inl rfl, fun k r hr => by simp at hr⟩, fun r hr => by cases hr⟩
  · refine ⟨some a, len, cap, ?_⟩
    have hlm : len ≤ m := by rw [hmm]; split <;> omega
    have hC : Tryz.prog.cellsOf 9 = 1 := by kernel_rfl
    have hcell : ∀ i, i < len → ∃ l : List UInt8, w.cell? (a.add i) = some (.string (bs l)) ∧ l.length ≤ maxLen := by
      intro i hil
      obtain ⟨cs', hc, ht⟩ := hi i (by omega)
      rw [hC] at hc
      obtain ⟨_, hcl, hat⟩ := World.cells?_some hc
      obtain ⟨tx, rfl, _, hts⟩ := DataW.trod_string Tryz.underlying9 ht
      have h0 := hat 0 (by omega)
      have he : (a.add (i * 1)).add 0 = a.add i := by unfold Addr.add; split <;> simp_all
      rw [he] at h0
      refine ⟨tx.data.toList, ?_, ?_⟩
      · rw [h0, bs_eq (s := tx) rfl]; rfl
      · rw [show tx.data.toList.length = tx.size by rw [← Lib.size_eq]]; exact hts
    obtain ⟨V, hV⟩ := choose_lt (α := List UInt8) hcell
    refine ⟨(List.range len).map V, hcs, by simp, by omega, ?_, fun r hr => ?_⟩
    · by_cases h0 : len = 0
      · subst h0
        exact ⟨0, 0, .inl rfl, fun k r hr => by simp at hr⟩
      · obtain ⟨c0, _⟩ := hV 0 (by omega)
        have ha : ∃ b off, a = ⟨b, off, none⟩ := by
          obtain ⟨b, off, spot⟩ := a
          have := World.cell?_spot (v := .string (bs (V 0))) c0
          have hs : spot = none := by simpa [Addr.add] using this
          subst hs
          exact ⟨b, off, rfl⟩
        obtain ⟨b, off, rfl⟩ := ha
        refine ⟨b, off, .inr rfl, fun k r hr => ?_⟩
        have hk' : k < len := by have := (List.getElem?_eq_some_iff.1 hr).1; simpa using this
        have hrV : r = V k := by simpa [hk'] using hr.symm
        subst hrV
        obtain ⟨q0, _⟩ := hV k hk'
        rw [addr_add] at q0
        exact ⟨cell_block (v := .string (bs (V k))) q0, q0⟩
    · obtain ⟨i, hi, rfl⟩ := List.mem_map.1 hr
      exact (hV i (by simpa using hi)).2
theorem oneTn : ∃ fs, Tryz.prog.underlying 91 = some (.struct fs) ∧ oneCellFields Tryz.prog fs = true ∧ Tryz.prog.cellsOf 91 = fs.size ∧ fs.size = 1 ∧ (fs[0]?.map (·.type)) = some 52 :=
  ⟨_, Tryz.underlying91, by kernel_rfl, by kernel_rfl, by kernel_rfl, by kernel_rfl⟩
theorem turn_read {fuel : Nat} {cs : List Value} {x : DataW H × List MemPlace} (h : DataW.trod enc Tryz.prog w base spare held fuel 91 cs = some x) : ∃ l : Tn, cs = [.slice l.a l.n l.cap] ∧ InS w l.a l.n l.cap l.L := by
  obtain ⟨fs, hs, hone, hC, h1, t0⟩ := oneTn
  obtain ⟨hlen, n, hf⟩ := fields_read hs hone hC h
  obtain ⟨f0, e0, g0⟩ := map_some t0
  obtain ⟨v0, y0, c0, r0⟩ := hf 0 f0 e0
  rw [g0] at r0
  obtain ⟨a, len, cap, L, hv0, hE⟩ := texts_read r0
  injection hv0 with hv0 _
  subst hv0
  refine ⟨⟨a, len, cap, L⟩, ?_, hE⟩
  match cs, hlen.trans h1 with
  | [x0], _ =>
    simp at c0
    subst c0
    rfl
theorem turns_read {fuel : Nat} {cs : List Value} {x : DataW H × List MemPlace} (h : DataW.trod enc Tryz.prog w base spare held fuel 87 cs = some x) : ∃ a len cap Gs, cs = [.slice a len cap] ∧ InT w a len cap Gs := by
  rcases open_slice Tryz.underlying87 h with ⟨hcs, _⟩ | ⟨a, len, cap, m, n, D, Pl, hcs, _, hl, hm, hmm, _, hi⟩
  · exact ⟨none, 0, 0, [], hcs, rfl, Nat.zero_le _, ⟨0, 0, .inl rfl, fun k r hr => by simp at hr⟩, fun r hr => by cases hr⟩
  · refine ⟨some a, len, cap, ?_⟩
    have hlm : len ≤ m := by rw [hmm]; split <;> omega
    have hC : Tryz.prog.cellsOf 91 = 1 := by kernel_rfl
    have hcell : ∀ i, i < len → ∃ l : Tn, w.cell? (a.add i) = some (.slice l.a l.n l.cap) ∧ InS w l.a l.n l.cap l.L := by
      intro i hil
      obtain ⟨cs', hc, ht⟩ := hi i (by omega)
      rw [hC] at hc
      obtain ⟨_, hcl, hat⟩ := World.cells?_some hc
      obtain ⟨l, rfl, hr⟩ := turn_read ht
      have h0 := hat 0 (by omega)
      have he : (a.add (i * 1)).add 0 = a.add i := by unfold Addr.add; split <;> simp_all
      rw [he] at h0
      exact ⟨l, h0, hr⟩
    obtain ⟨V, hV⟩ := choose_lt (α := Tn) hcell
    refine ⟨(List.range len).map V, hcs, by simp, by omega, ?_, fun r hr => ?_⟩
    · by_cases h0 : len = 0
      · subst h0
        exact ⟨0, 0, .inl rfl, fun k r hr => by simp at hr⟩
      · obtain ⟨c0, _⟩ := hV 0 (by omega)
        have ha : ∃ b off, a = ⟨b, off, none⟩ := by
          obtain ⟨b, off, spot⟩ := a
          have := World.cell?_spot (v := .slice (V 0).a (V 0).n (V 0).cap) c0
          have hs : spot = none := by simpa [Addr.add] using this
          subst hs
          exact ⟨b, off, rfl⟩
        obtain ⟨b, off, rfl⟩ := ha
        refine ⟨b, off, .inr rfl, fun k r hr => ?_⟩
        have hk' : k < len := by have := (List.getElem?_eq_some_iff.1 hr).1; simpa using this
        have hrV : r = V k := by simpa [hk'] using hr.symm
        subst hrV
        obtain ⟨q0, _⟩ := hV k hk'
        rw [addr_add] at q0
        exact ⟨cell_block (v := .slice (V k).a (V k).n (V k).cap) q0, q0⟩
    · obtain ⟨i, hi, rfl⟩ := List.mem_map.1 hr
      exact (hV i (by simpa using hi)).2
end
theorem open_texts14 {H : Type} {enc : TypeId × Value → H} {W : World} {d : DataW H} {p : List MemPlace} {a : Option Addr} {len cap : Nat} (h : DataW.Trod enc Tryz.prog W 0 (fun _ => true) true 52 (.slice a len cap) d p) : ∃ T, InS W a len cap T := by
  obtain ⟨fuel, hf⟩ := h
  obtain ⟨a', len', cap', T, hcs, hi⟩ := texts_read hf
  simp [Value.cells] at hcs
  obtain ⟨rfl, rfl, rfl⟩ := hcs
  exact ⟨T, hi⟩
theorem open_turns {H : Type} {enc : TypeId × Value → H} {W : World} {d : DataW H} {p : List MemPlace} {a : Option Addr} {len cap : Nat} (h : DataW.Trod enc Tryz.prog W 0 (fun _ => true) true 87 (.slice a len cap) d p) : ∃ Gs, InT W a len cap Gs := by
  obtain ⟨fuel, hf⟩ := h
  obtain ⟨a', len', cap', T, hcs, hi⟩ := turns_read hf
  simp [Value.cells] at hcs
  obtain ⟨rfl, rfl, rfl⟩ := hcs
  exact ⟨T, hi⟩
end Go.Proofs.YtfbaenhajlckjaaGreat
/- Equal lists of numbers. -/
set_option linter.unusedVariables false
set_option maxRecDepth 100000
namespace Go.Proofs.YtfbaenhajlckjaaGreat
open Go.RowKit
set_option maxHeartbeats 2000000 in
theorem same_ints {T T' : Nat → Prop} {va vb : Value} {L : List Int} {w : World} (ha : RdL T w va L.length (flat icell L)) (hb : RdL T' w vb L.length (flat icell L)) (hl : L.length ≤ 1000000000) :
    Calls Tryz.prog 17 #[va, vb] w fun e w' => e = .returned (.bool true) ∧ Below w.heap.size w w' := by
  obtain ⟨a, ca, rfl⟩ := RdL.slice ha
  obtain ⟨b, cb, rfl⟩ := RdL.slice hb
  have HA := Lib.hid ha
  have HB := Lib.hid hb
  obtain ⟨len, hlen⟩ : ∃ len, len = L.length := ⟨_, rfl⟩
  rw [← hlen] at HA HB hl ⊢
  have HL := Lib.hid hlen
  clear hlen ha hb
  go_enter Tryz.func17, Tryz.ntmps17
  go_wp2_with fail
  go_loopw [5] (fun i wr => ∃ k : Nat, k ≤ len ∧ i = .int .i64 k ∧ Hid (Below w.heap.size w wr)) (fun i wr => len - (intOf i).toNat)
  case atStart => exact ⟨0, Nat.zero_le _, rfl, Lib.hid (Below.refl _ _)⟩
  case round =>
    obtain ⟨k, hk, rfl, hK⟩ := hrel
    by_cases hlt : k < len
    · obtain ⟨t, ht⟩ : ∃ t, L[k]? = some t := ⟨_, List.getElem?_eq_getElem (by have := HL.out; omega)⟩
      obtain ⟨b0, off0, rfl, _, hb0, c0'⟩ := (HA.out.below hK.out).atI ht hlt
      obtain ⟨b1, off1, rfl, _, hb1, c1'⟩ := (HB.out.below hK.out).atI ht hlt
      have c0 := c0' 0 _ rfl
      have c1 := c1' 0 _ rfl
      simp only [Nat.mul_one, Nat.add_zero] at c0 c1
      have hlt2 : (k : Int) < (len : Int) := by omega
      clear ht c0' c1'
      go_wp2_with fail
      go_quiet (fail)
      go_wp2
      go_roundw
      case rel => exact ⟨k + 1, by omega, by go_num, Lib.hid (below_drewN hK.out _)⟩
      case measure => simp [intOf]; omega
    · go_wp2
      go_ret
      exact ⟨rfl, hK.out⟩
theorem cells_rdl {w : World} {T : Nat → Prop} {b n : Nat} {e : TypeId} {xs : List Value} (h : w.heap[b]? = some (.cells xs.toArray e (0, 0))) (hT : T b) (hn : n ≤ 1000) : RdL T w (.slice (some ⟨b, 0, none⟩) n n) n xs := by
  refine ⟨_, _, rfl, by unfold maxLen; omega, .inr ⟨b, 0, rfl, hT, heap_lt h, fun j u hu => ?_⟩⟩
  simpa [World.cell?, h] using hu
end Go.Proofs.YtfbaenhajlckjaaGreat
/- The law's awake: the document's example. -/
set_option linter.unusedVariables false
set_option maxRecDepth 100000
namespace Go.Proofs.YtfbaenhajlckjaaGreat
open Go.RowKit

def exL : List Tb := [⟨4, 0, 0, [98], [99]⟩, ⟨3, 0, 0, [97], [98]⟩, ⟨2, 1, 0, [99], [100]⟩, ⟨1, 1, 0, [101], [102]⟩]
theorem ex_leave : leaveL exL 2 = [⟨4, 0, 0, [98], [99]⟩, ⟨3, 0, 0, [97], [98]⟩] := by
  have h0 : atLev exL 0 = [⟨4, 0, 0, [98], [99]⟩, ⟨3, 0, 0, [97], [98]⟩] := by simp [atLev, exL]
  unfold leaveL
  rw [h0, if_pos (by decide)]
theorem ex_plan : planL exL (leaveL exL 2) = ⟨[⟨4, 0, 0, [98], [99]⟩, ⟨3, 0, 0, [97], [98]⟩, ⟨2, 1, 0, [99], [100]⟩], 1, [97], [100], true⟩ := by
  rw [ex_leave]
  have hl : lowL [⟨4, 0, 0, [98], [99]⟩, ⟨3, 0, 0, [97], [98]⟩] = [97] := by simp [lowL, minB, ltB]
  have hh : highL [⟨4, 0, 0, [98], [99]⟩, ⟨3, 0, 0, [97], [98]⟩] = [99] := by simp [highL, maxB, ltB]
  have hi : insL exL [⟨4, 0, 0, [98], [99]⟩, ⟨3, 0, 0, [97], [98]⟩] 1 = [⟨4, 0, 0, [98], [99]⟩, ⟨3, 0, 0, [97], [98]⟩, ⟨2, 1, 0, [99], [100]⟩] := by
    unfold insL
    rw [hl, hh]
    simp [exL, mayB, maxB, minB, ltB]
  have hl2 : lowL [⟨4, 0, 0, [98], [99]⟩, ⟨3, 0, 0, [97], [98]⟩, ⟨2, 1, 0, [99], [100]⟩] = [97] := by simp [lowL, minB, ltB]
  have hh2 : highL [⟨4, 0, 0, [98], [99]⟩, ⟨3, 0, 0, [97], [98]⟩, ⟨2, 1, 0, [99], [100]⟩] = [100] := by simp [highL, maxB, ltB]
  have e : (([⟨4, 0, 0, [98], [99]⟩, ⟨3, 0, 0, [97], [98]⟩] : List Tb).headD default).lev + 1 = 1 := rfl
  unfold planL
  rw [e, hi, hl2, hh2]
  simp [exL, hidesB]
set_option maxHeartbeats 4000000 in
theorem law_awake14 (w : World) : Calls Tryz.prog 47 #[] w fun e w' => e = .returned (.bool true) ∧ Below w.heap.size w w' := by
  obtain ⟨B, hB⟩ : ∃ B, B = w.heap.size := ⟨_, rfl⟩
  rw [← hB]
  have HB := Lib.hid hB
  obtain ⟨w1, hw1⟩ : ∃ w1, w.alloc (.cells #[.int .i64 4, .int .i64 0, .int .i64 0, .string { data := #[98] }, .string { data := #[99] }, .int .i64 3, .int .i64 0, .int .i64 0, .string { data := #[97] }, .string { data := #[98] }, .int .i64 2, .int .i64 1, .int .i64 0, .string { data := #[99] }, .string { data := #[100] }, .int .i64 1, .int .i64 1, .int .i64 0, .string { data := #[101] }, .string { data := #[102] }] 42) = w1 := ⟨_, rfl⟩
  have K1 := Lib.hid (show Below B w w1 by rw [← hw1, hB]; exact (Below.refl _ _).alloc (Nat.le_refl _) _)
  have E1 := Lib.hid (show RdL (fun b => True) w1 (.slice (some ⟨B, 0, none⟩) 4 4) 4 (flat tcell exL) from cells_rdl (e := 42) (by rw [← hw1, hB]; exact heap_new w _) trivial (by omega))
  have HW1 := Lib.hid hw1
  have HB1 := Lib.hid (show B ≤ w1.heap.size by have := K1.out.size; omega)
  have HP := Lib.hid (lev_pick (fan := 2) E1 (Lib.hid (show 4 = exL.length from rfl)) (by omega) (by omega) (Lib.hid (by simp [exL])))
  unfold PickPost at HP
  rw [ex_plan, ex_leave] at HP
  clear hw1 hB
  go_enter Tryz.func47, Tryz.ntmps47
  go_upto_region 2 with (fail)
  rw [HW1.out, ← HB.out]
  go_wp2_with fail
  refine HP.out.mono ?_
  rintro e w2 ⟨hp, k2⟩
  have hp2 : ∃ a c, e = .returned (.tuple #[.agg #[.slice a 3 c, .int .i64 1, .string (bs [97]), .string (bs [100]), .bool true], .bool true]) ∧ OwnI w2 w1.heap.size (.slice a 3 c) [4, 3, 2] := by
    rcases hp with ⟨h0, _⟩ | ⟨_, a, c, h1, h2⟩
    · cases h0
    · exact ⟨a, c, h1, h2⟩
  obtain ⟨pa, pc, rfl, ho⟩ := hp2
  have K2 := Lib.hid (K1.out.trans (k2.mono HB1.out))
  have HB2 := Lib.hid (show B ≤ w2.heap.size from Nat.le_trans HB1.out k2.size)
  clear hp k2 HP
  obtain ⟨w3, hw3⟩ : ∃ w3, w2.alloc (.cells #[.slice pa 3 pc, .int .i64 1, .string (bs [97]), .string (bs [100]), .bool true] 93) = w3 := ⟨_, rfl⟩
  obtain ⟨pb, hpb⟩ : ∃ pb, pb = w2.heap.size := ⟨_, rfl⟩
  have k3 : Below w2.heap.size w2 w3 := by rw [← hw3]; exact (Below.refl _ _).alloc (Nat.le_refl _) _
  have P3 := Lib.hid (show P5 pb (.slice pa 3 pc) 1 (bs [97]) (bs [100]) true w3 by rw [← hw3, hpb]; exact heap_new w2 _)
  have L3 := Lib.hid ((OffRow.rdL ho).below k3)
  have K3 := Lib.hid (K2.out.trans (k3.mono HB2.out))
  have HB3 := Lib.hid (show B ≤ w3.heap.size from Nat.le_trans HB2.out k3.size)
  have HW3 := Lib.hid hw3
  have HPB := Lib.hid hpb
  clear hw3 hpb k3 ho
  go_upto_region 3 with (fail)
  rw [HW3.out, ← HPB.out]
  obtain ⟨r0, r1, r2, r3, r4⟩ := P3.out.c0
  obtain ⟨w4, hw4⟩ : ∃ w4, w3.alloc (.cells #[.int .i64 4, .int .i64 3, .int .i64 2] 3) = w4 := ⟨_, rfl⟩
  have k4 : Below w3.heap.size w3 w4 := by rw [← hw4]; exact (Below.refl _ _).alloc (Nat.le_refl _) _
  have N4 := Lib.hid (show RdL (fun _ => True) w4 (.slice (some ⟨w3.heap.size, 0, none⟩) 3 3) 3 (flat icell [4, 3, 2]) from cells_rdl (e := 3) (by rw [← hw4]; exact heap_new w3 _) trivial (by omega))
  have K4 := Lib.hid (K3.out.trans (k4.mono HB3.out))
  have HB4 := Lib.hid (show B ≤ w4.heap.size from Nat.le_trans HB3.out k4.size)
  have P4 := Lib.hid (P3.out.below k4)
  have HS := Lib.hid (same_ints (L := [4, 3, 2]) (L3.out.below k4) N4.out (by simp))
  have HW4 := Lib.hid hw4
  clear hw4 k4
  go_wp2_with fail
  rw [HW4.out]
  refine HS.out.mono ?_
  rintro e w5 ⟨rfl, k5⟩
  have P5' := Lib.hid (P4.out.below k5)
  have K5 := Lib.hid (K4.out.trans (k5.mono HB4.out))
  have hb97 : bs [97] = { data := #[97] } := rfl
  have hb100 : bs [100] = { data := #[100] } := rfl
  clear r0 r1 r2 r3 r4 k5 HS
  obtain ⟨r0, r1, r2, r3, r4⟩ := P5'.out.c0
  rw [hb97] at r2
  rw [hb100] at r3
  go_wp2
  go_ret
  exact ⟨rfl, K5.out⟩
end Go.Proofs.YtfbaenhajlckjaaGreat
/- A state's own rows. -/
set_option linter.unusedVariables false
set_option maxRecDepth 100000
namespace Go.Proofs.YtfbaenhajlckjaaGreat
open Go.RowKit
theorem own_put4 {w : World} {B b : Nat} {tv sv lv : Value} {s : St} (h : OwnSt w B tv sv lv s) (hb : ∀ j, B ≤ j → j < w.heap.size → tv.ownBlock = some j ∨ sv.ownBlock = some j ∨ lv.ownBlock = some j → j ≠ b) (u0 u1 u2 u3 : Value) :
    OwnSt ((((w.setCell ⟨b, 0, none⟩ u0).setCell ⟨b, 1, none⟩ u1).setCell ⟨b, 2, none⟩ u2).setCell ⟨b, 3, none⟩ u3) B tv sv lv s := by
  have e : ∀ j, j ≠ b → ((((w.setCell ⟨b, 0, none⟩ u0).setCell ⟨b, 1, none⟩ u1).setCell ⟨b, 2, none⟩ u2).setCell ⟨b, 3, none⟩ u3).heap[j]? = w.heap[j]? := fun j hj => by
    rw [heap_set_other hj, heap_set_other hj, heap_set_other hj, heap_set_other hj]
  refine ⟨OffRow.kept h.tabs fun j hj => e j ?_, OffRow.kept h.stos fun j hj => e j ?_, OffRow.kept h.logs fun j hj => e j ?_⟩
  · exact hb j (OffRow.lt h.tabs j hj).1 (OffRow.lt h.tabs j hj).2 (.inl hj)
  · exact hb j (OffRow.lt h.stos j hj).1 (OffRow.lt h.stos j hj).2 (.inr (.inl hj))
  · exact hb j (OffRow.lt h.logs j hj).1 (OffRow.lt h.logs j hj).2 (.inr (.inr hj))
theorem own_stmono {w : World} {B B' : Nat} {tv sv lv : Value} {s : St} (h : OwnSt w B tv sv lv s) (hB : B' ≤ B) : OwnSt w B' tv sv lv s := ⟨own_mono h.tabs hB, own_mono h.stos hB, own_mono h.logs hB⟩
end Go.Proofs.YtfbaenhajlckjaaGreat
/- What the law of layer 14 has in memory, and how it goes on. -/
set_option linter.unusedVariables false
set_option maxRecDepth 100000
namespace Go.Proofs.YtfbaenhajlckjaaGreat
open Go.RowKit

/-- A variable that holds an edit. -/
def E6 (b : Nat) (x : Ed) (w : World) : Prop := w.heap[b]? = some (.cells #[.int .i64 x.kind, .int .i64 x.file, .int .i64 x.lev, .int .i64 x.cnt, .string (bs x.low), .string (bs x.high)] 47 (0, 0))
namespace E6
variable {b : Nat} {x : Ed} {w w' : World}
theorem c0 (h : E6 b x w) : w.cell? ⟨b, 0, none⟩ = some (.int .i64 x.kind) ∧ w.cell? ⟨b, 1, none⟩ = some (.int .i64 x.file) ∧ w.cell? ⟨b, 2, none⟩ = some (.int .i64 x.lev) ∧ w.cell? ⟨b, 3, none⟩ = some (.int .i64 x.cnt) ∧ w.cell? ⟨b, 4, none⟩ = some (.string (bs x.low)) ∧ w.cell? ⟨b, 5, none⟩ = some (.string (bs x.high)) := by unfold E6 at h; simp [World.cell?, h]
theorem free (h : E6 b x w) (j : Nat) : w.frozen? ⟨b, j, none⟩ = false := by unfold E6 at h; simp [World.frozen?, h]
theorem kept (h : E6 b x w) (k : w'.heap[b]? = w.heap[b]?) : E6 b x w' := k.trans h
theorem below (h : E6 b x w) (k : Below w.heap.size w w') : E6 b x w' := (k.block b (heap_lt h)).trans h
theorem put2 (h : E6 b x w) (l : Int) : E6 b { x with lev := l } (w.setCell ⟨b, 2, none⟩ (.int .i64 l)) := heap_set (o := 2) h _
theorem put3 (h : E6 b x w) (l : Int) : E6 b { x with cnt := l } (w.setCell ⟨b, 3, none⟩ (.int .i64 l)) := heap_set (o := 3) h _
theorem put4 (h : E6 b x w) (l : List UInt8) : E6 b { x with low := l } (w.setCell ⟨b, 4, none⟩ (.string (bs l))) := heap_set (o := 4) h _
theorem put5 (h : E6 b x w) (l : List UInt8) : E6 b { x with high := l } (w.setCell ⟨b, 5, none⟩ (.string (bs l))) := heap_set (o := 5) h _
end E6

/-- All blocks but one are kept. -/
structure Kp (lb : Nat) (w w' : World) : Prop where
  size : w.heap.size ≤ w'.heap.size
  kept : ∀ j, j < w.heap.size → j ≠ lb → w'.heap[j]? = w.heap[j]?
theorem Kp.refl (lb : Nat) (w : World) : Kp lb w w := ⟨Nat.le_refl _, fun _ _ _ => rfl⟩
theorem Kp.below {lb : Nat} {w w' w'' : World} (h : Kp lb w w') (k : Below w'.heap.size w' w'') : Kp lb w w'' := ⟨Nat.le_trans h.size k.size, fun j hj hne => (k.block j (Nat.lt_of_lt_of_le hj h.size)).trans (h.kept j hj hne)⟩
theorem Kp.set {lb : Nat} {w w' : World} (h : Kp lb w w') {b o : Nat} (hb : w.heap.size ≤ b) (u : Value) : Kp lb w (w'.setCell ⟨b, o, none⟩ u) := ⟨by have := h.size; rw [World.size_setCell]; exact this, fun j hj hne => (heap_set_other (by omega) u).trans (h.kept j hj hne)⟩
theorem Kp.grown {lb : Nat} {w w' w'' : World} (h : Kp lb w w') {b : Nat} (hg : w'.grownBy w'' (some b)) (hb : b = lb ∨ w.heap.size ≤ b) : Kp lb w w'' := ⟨Nat.le_trans h.size hg.size, fun j hj hne => (hg.block j (Nat.lt_of_lt_of_le hj h.size) (fun e => by injection e with e; omega)).trans (h.kept j hj hne)⟩
theorem Kp.other {lb : Nat} {w w' w'' : World} (h : Kp lb w w') (hs : w'.heap.size ≤ w''.heap.size) (k : ∀ j, j < w.heap.size → w''.heap[j]? = w'.heap[j]?) : Kp lb w w'' := ⟨Nat.le_trans h.size hs, fun j hj hne => (k j hj).trans (h.kept j hj hne)⟩

/-- The law's variables ahead of turn i. -/
structure LI (w : World) (G hb lb : Nat) (Gs : List Tn) (i : Nat) (tv sv lv : Value) (s : St) (val : Int → List UInt8 → Option Int) (last : List UInt8 → Option Int) (blk : Int → Option Nat) : Prop where
  st : C4 G tv sv lv (.int .i64 s.next) w
  rd : StV (fun b => b ≠ G) w tv sv lv s
  sr : Serve s i val last
  z1 : s.stos = []
  z2 : s.logs = []
  z3 : s.next = 0
  few : s.tabs.length ≤ i
  mo : MO w hb i blk
  ml : MS w lb (i * 30) last
  mi : ∀ t ∈ s.tabs, ∃ b, blk t.file = some b ∧ lb < b ∧ MS w b 400000 (val t.file)
  key : ∀ t ∈ s.tabs, ∀ k v, val t.file k = some v → ∃ j g, j < i ∧ Gs[j]? = some g ∧ k ∈ g.L
  short : ∀ j g, j < i → Gs[j]? = some g → g.n ≤ 30
  o1 : G < hb
  o2 : hb < lb
theorem rdl_map {T : Nat → Prop} {w w' : World} {v : Value} {n : Nat} {xs : List Value} {mb : Nat} {es : Array MapEntry} {c : Nat} (h : RdL T w v n xs) (hm : w.heap[mb]? = some (.map es c)) (k : Kp mb w w') : RdL T w' v n xs := by
  obtain ⟨a, cap, rfl, hn, h⟩ := h
  refine ⟨a, cap, rfl, hn, ?_⟩
  rcases h with h | ⟨b, off, rfl, ht, hb, hc⟩
  · exact .inl h
  · refine .inr ⟨b, off, rfl, ht, Nat.lt_of_lt_of_le hb k.size, fun j u hj => ?_⟩
    have h1 := hc j u hj
    have hne : b ≠ mb := by
      rintro rfl
      simp [World.cell?, hm] at h1
    rw [← h1]
    simp only [World.cell?, k.kept b hb hne]
theorem Serve.mono {s : St} {n m : Int} {val : Int → List UInt8 → Option Int} {last : List UInt8 → Option Int} (h : Serve s n val last) (hm : n ≤ m) : Serve s m val last := ⟨h.ok, fun f hf => by have := h.few f hf; omega, h.key, h.first⟩
namespace LI
variable {w w' : World} {G hb lb : Nat} {Gs : List Tn} {i : Nat} {tv sv lv : Value} {s : St} {val : Int → List UInt8 → Option Int} {last : List UInt8 → Option Int} {blk : Int → Option Nat}
theorem gl (h : LI w G hb lb Gs i tv sv lv s val last blk) : G < w.heap.size := heap_lt h.st
theorem stk (h : LI w G hb lb Gs i tv sv lv s val last blk) (k : Kp lb w w') : C4 G tv sv lv (.int .i64 s.next) w' := (k.kept G h.gl (by have := h.o1; have := h.o2; omega)).trans h.st
theorem rdk (h : LI w G hb lb Gs i tv sv lv s val last blk) (k : Kp lb w w') : StV (fun b => b ≠ G) w' tv sv lv s := by
  obtain ⟨es, c, hm⟩ := h.ml.tag
  exact ⟨rdl_map h.rd.tabs hm k, rdl_map h.rd.stos hm k, rdl_map h.rd.logs hm k⟩
theorem mok (h : LI w G hb lb Gs i tv sv lv s val last blk) (k : Kp lb w w') : MO w' hb i blk := h.mo.kept (k.kept hb h.mo.lt (by have := h.o2; omega))
theorem mik (h : LI w G hb lb Gs i tv sv lv s val last blk) (k : Kp lb w w') : ∀ t ∈ s.tabs, ∃ b, blk t.file = some b ∧ lb < b ∧ b < w.heap.size ∧ MS w' b 400000 (val t.file) := fun t ht => by
  obtain ⟨b, h1, h2, h3⟩ := h.mi t ht
  exact ⟨b, h1, h2, h3.lt, h3.kept (k.kept b h3.lt (by omega))⟩
/-- A turn that does nothing. -/
theorem skip (h : LI w G hb lb Gs i tv sv lv s val last blk) (k : Kp lb w w') (hl : MS w' lb ((i + 1) * 30) last) {g : Tn} (hg : Gs[i]? = some g) (hn : g.n ≤ 30) : LI w' G hb lb Gs (i + 1) tv sv lv s val last blk := by
  refine ⟨h.stk k, h.rdk k, h.sr.mono (by omega), h.z1, h.z2, h.z3, by have := h.few; omega, (h.mok k).mono (by omega), hl, fun t ht => ?_, fun t ht q v hv => ?_, fun j g' hj hg' => ?_, h.o1, h.o2⟩
  · obtain ⟨b, h1, h2, _, h3⟩ := h.mik k t ht
    exact ⟨b, h1, h2, h3⟩
  · obtain ⟨j, g', h1, h2, h3⟩ := h.key t ht q v hv
    exact ⟨j, g', by omega, h2, h3⟩
  · rcases Nat.lt_or_ge j i with e | e
    · exact h.short j g' e hg'
    · obtain rfl : j = i := by omega
      rw [hg] at hg'
      injection hg' with hg'
      rw [← hg']; exact hn
theorem fits (h : LI w G hb lb Gs i tv sv lv s val last blk) (hi : i ≤ 100) : s.fit := fun f hf => by have := h.sr.few f hf; omega
theorem files (h : LI w G hb lb Gs i tv sv lv s val last blk) : s.files = s.tabs.map (·.file) := by unfold St.files; rw [h.z1, h.z2]; simp
end LI

/-! ### what is laid, key by key -/
def laidG (i : Int) (L : List (List UInt8)) (k : Nat) (old : List UInt8 → Option Int) : List UInt8 → Option Int := fun x => if x ∈ L.take k then some i else old x
theorem laid_next {i : Int} {L : List (List UInt8)} {k : Nat} {old : List UInt8 → Option Int} {y : List UInt8} (hy : L[k]? = some y) : putG (laidG i L k old) y i = laidG i L (k + 1) old := by
  funext x
  unfold putG laidG
  rw [List.take_add_one, hy]
  by_cases e : x = y
  · subst e; simp
  · rw [if_neg e]
    simp [List.mem_append, e]
theorem laid_zero (i : Int) (L : List (List UInt8)) (old : List UInt8 → Option Int) : laidG i L 0 old = old := by funext x; simp [laidG]
def lowS (L : List (List UInt8)) (k : Nat) : List UInt8 := (L.take k).foldl minB (L.headD [])
def highS (L : List (List UInt8)) (k : Nat) : List UInt8 := (L.take k).foldl maxB (L.headD [])
theorem lowS_next {L : List (List UInt8)} {k : Nat} {y : List UInt8} (hy : L[k]? = some y) : lowS L (k + 1) = minB (lowS L k) y := by unfold lowS; rw [List.take_add_one, hy, List.foldl_append]; rfl
theorem highS_next {L : List (List UInt8)} {k : Nat} {y : List UInt8} (hy : L[k]? = some y) : highS L (k + 1) = maxB (highS L k) y := by unfold highS; rw [List.take_add_one, hy, List.foldl_append]; rfl
theorem lowS_le : ∀ (M : List (List UInt8)) (a : List UInt8), ltB a (M.foldl minB a) = false ∧ ∀ x ∈ M, ltB x (M.foldl minB a) = false
  | [], a => ⟨ltB_irrefl a, fun x h => by cases h⟩
  | y :: M, a => by
    rw [List.foldl_cons]
    obtain ⟨h1, h2⟩ := lowS_le M (minB a y)
    obtain ⟨m1, m2⟩ := minB_le a y
    refine ⟨ltB_ntrans m1 h1, fun x hx => ?_⟩
    rcases List.mem_cons.1 hx with rfl | hx
    · exact ltB_ntrans m2 h1
    · exact h2 x hx
theorem highS_ge : ∀ (M : List (List UInt8)) (a : List UInt8), ltB (M.foldl maxB a) a = false ∧ ∀ x ∈ M, ltB (M.foldl maxB a) x = false
  | [], a => ⟨ltB_irrefl a, fun x h => by cases h⟩
  | y :: M, a => by
    rw [List.foldl_cons]
    obtain ⟨h1, h2⟩ := highS_ge M (maxB a y)
    obtain ⟨m1, m2⟩ := maxB_ge a y
    refine ⟨ltB_ntrans h1 m1, fun x hx => ?_⟩
    rcases List.mem_cons.1 hx with rfl | hx
    · exact ltB_ntrans h1 m2
    · exact h2 x hx

/-! ### what is merged, key by key -/
def hereK (val : Int → List UInt8 → Option Int) (I : List Tb) (k : Nat) : List UInt8 → Option Int := fun x => (I.take k).findSome? fun t => val t.file x
def hereS (h : List UInt8 → Option Int) (f : List UInt8 → Option Int) (seen : List (List UInt8)) : List UInt8 → Option Int := fun x => match h x with | some v => some v | none => if x ∈ seen then f x else none
theorem hereS_nil (h f : List UInt8 → Option Int) : hereS h f [] = h := by funext x; unfold hereS; cases h x <;> simp
theorem hereS_put {h f : List UInt8 → Option Int} {seen : List (List UInt8)} {y : List UInt8} {v : Int} (hf : f y = some v) (hn : hereS h f seen y = none) : putG (hereS h f seen) y v = hereS h f (seen ++ [y]) := by
  funext x
  unfold putG
  by_cases e : x = y
  · subst e
    rw [if_pos rfl]
    unfold hereS at hn ⊢
    cases hx : h x with
    | some u => rw [hx] at hn; cases hn
    | none => simp [hf]
  · rw [if_neg e]
    unfold hereS
    cases h x with
    | some u => rfl
    | none => simp [List.mem_append, e]
theorem hereS_same {h f : List UInt8 → Option Int} {seen : List (List UInt8)} {y : List UInt8} (hn : f y = none ∨ hereS h f seen y ≠ none) : hereS h f seen = hereS h f (seen ++ [y]) := by
  funext x
  unfold hereS at hn ⊢
  cases hx : h x with
  | some u => rfl
  | none =>
    by_cases e : x = y
    · subst e
      rw [hx] at hn
      rcases hn with hf | hf
      · simp [hf]
      · simp only at hf
        split at hf
        · rename_i hs; simp [hs]
        · exact absurd rfl hf
    · simp [List.mem_append, e]
theorem hereS_all {val : Int → List UInt8 → Option Int} {I : List Tb} {k : Nat} {t : Tb} {seen : List (List UInt8)} (ht : I[k]? = some t) (hs : ∀ x v, val t.file x = some v → x ∈ seen) : hereS (hereK val I k) (val t.file) seen = hereK val I (k + 1) := by
  funext x
  unfold hereS hereK
  rw [List.take_add_one, ht, List.findSome?_append]
  cases h : (I.take k).findSome? (fun t => val t.file x) with
  | some v => rfl
  | none =>
    simp only [Option.none_or, Option.toList, List.findSome?_cons, List.findSome?_nil]
    cases hv : val t.file x with
    | some v => rw [if_pos (hs x v hv)]
    | none => simp
theorem hereK_zero (val : Int → List UInt8 → Option Int) (I : List Tb) : hereK val I 0 = fun _ => none := by funext x; simp [hereK]
theorem hereK_all (val : Int → List UInt8 → Option Int) (I : List Tb) : hereK val I I.length = fun x => I.findSome? fun t => val t.file x := by funext x; simp [hereK]
theorem seen_next {Gs : List Tn} {j : Nat} {g : Tn} (hg : Gs[j]? = some g) : (Gs.take (j + 1)).flatMap (·.L) = (Gs.take j).flatMap (·.L) ++ g.L := by rw [List.take_add_one, hg, List.flatMap_append]; simp
end Go.Proofs.YtfbaenhajlckjaaGreat
/- What a turn has ready ahead of its edits. -/
set_option linter.unusedVariables false
set_option maxRecDepth 100000
namespace Go.Proofs.YtfbaenhajlckjaaGreat
open Go.RowKit

theorem app_sub : ∀ (L : List Ed) {s s' : St}, (∀ x ∈ L, x.kind = 1 ∨ x.kind = 2) → app s L = (0, s') → s'.stos = s.stos ∧ s'.logs = s.logs ∧ s'.next = s.next ∧ (∀ t ∈ s'.tabs, t ∈ s.tabs ∨ ∃ x ∈ L, x.kind = 1 ∧ t = x.tab) ∧ s'.tabs.length ≤ s.tabs.length + (L.filter fun x => decide (x.kind = 1)).length
  | [], s, s', _, h => by
    have : s = s' := congrArg Prod.snd h
    subst this
    exact ⟨rfl, rfl, rfl, fun t ht => .inl ht, by simp⟩
  | x :: L, s, s', hk, h => by
    by_cases h0 : oneE s x = 0
    · rw [app_cons_ok h0] at h
      obtain ⟨h1, h2, h3, h4, h5⟩ := app_sub L (fun y hy => hk y (List.mem_cons_of_mem _ hy)) h
      rcases hk x (List.mem_cons_self ..) with e | e
      · have e1 : oneS s x = { s with tabs := insT x.tab s.tabs } := by unfold oneS; rw [if_pos e]
        rw [e1] at h1 h2 h3 h4 h5
        refine ⟨h1, h2, h3, fun t ht => ?_, ?_⟩
        · rcases h4 t ht with q | ⟨y, hy, hq⟩
          · rcases mem_insT.1 q with rfl | q
            · exact .inr ⟨x, List.mem_cons_self .., e, rfl⟩
            · exact .inl q
          · exact .inr ⟨y, List.mem_cons_of_mem _ hy, hq⟩
        · have := (insT_perm x.tab s.tabs).length_eq
          rw [List.filter_cons, if_pos (by simp [e])]
          simp only [List.length_cons] at this ⊢
          simp only at h5
          omega
      · have e1 : oneS s x = { s with tabs := s.tabs.filter fun t => decide (t.file ≠ x.file) } := by unfold oneS; rw [if_neg (by omega), if_pos e]
        rw [e1] at h1 h2 h3 h4 h5
        refine ⟨h1, h2, h3, fun t ht => ?_, ?_⟩
        · rcases h4 t ht with q | ⟨y, hy, hq⟩
          · exact .inl (List.mem_filter.1 q).1
          · exact .inr ⟨y, List.mem_cons_of_mem _ hy, hq⟩
        · have := List.length_filter_le (fun t : Tb => decide (t.file ≠ x.file)) s.tabs
          rw [List.filter_cons, if_neg (by simp [e])]
          simp only at h5
          omega
    · rw [app_cons_no h0] at h
      exact absurd (congrArg Prod.fst h) h0
theorem nodup_len {α : Type} : ∀ {A B : List α}, A.Nodup → (∀ a ∈ A, a ∈ B) → A.length ≤ B.length
  | [], _, _, _ => by simp
  | a :: A, B, hn, hs => by
    rw [List.nodup_cons] at hn
    obtain ⟨s, t, rfl⟩ := List.append_of_mem (hs a (List.mem_cons_self ..))
    have := nodup_len (A := A) (B := s ++ t) hn.2 fun x hx => by
      have h1 := hs x (List.mem_cons_of_mem _ hx)
      rw [List.mem_append, List.mem_cons] at h1
      rw [List.mem_append]
      rcases h1 with e | e | e
      · exact .inl e
      · subst e; exact absurd hx hn.1
      · exact .inr e
    simp only [List.length_cons, List.length_append] at this ⊢
    omega
theorem MS.wf {w : World} {b n : Nat} {g : List UInt8 → Option Int} (h : MS w b n g) {k : List UInt8} (hk : k.length ≤ maxLen) {v : Int} (e : g k = some v) : (Lit.int .i64 v).wf = true := by
  obtain ⟨D, h, hD⟩ := h
  obtain ⟨h1, h2⟩ := hD k
  have hz : (zeroValue 3).run Tryz.prog w = .ok (.int .i64 0) w := by kernel_rfl
  obtain ⟨v', ps, hrun, hv⟩ := h.look_ok keyedS Tryz.underlying89 hz (plainElem_int Tryz.underlying3 (by decide)) (key_str hk)
  obtain ⟨c, rfl, hc, hw⟩ := plainElem_int_inv Tryz.underlying3 hv
  have hc1 : D.atKey (.string k) (.lit (.int .i64 0)) = .lit (.int .i64 c) := congrArg Prod.fst hc
  rw [h2, e] at hc1
  injection hc1 with hc1
  injection hc1 with _ hc1
  have hvc : v = c := hc1
  rw [hvc]; exact hw
/-- What is ready where the turn's edits are applied. -/
def RD (B : Nat) (w w0 : World) (lb hm xb i : Nat) (Gs : List Tn) (s : St) (val : Int → List UInt8 → Option Int) (v : Value) (wx : World) : Prop :=
  ∃ ea en ec D out low high gH last, v = .slice ea en ec ∧ en = D.length ∧ en ≤ 100 ∧ (∀ x ∈ D, x.fit ∧ x.kind = 2) ∧ OffRow wx (xb + 1) 47 6 (.slice ea en ec) en (flat ecell D) ∧ E6 xb ⟨1, (i : Int) + 1, out, 0, low, high⟩ wx ∧ MS wx hm 400000 gH ∧ MS wx lb ((i + 1) * 30) last ∧ Kp lb w0 wx ∧ Below B w wx ∧
    (∀ cnt, 1 ≤ cnt → ∃ s', app s (D ++ [addEd ((i : Int) + 1) out cnt low high]) = (0, s') ∧ Serve s' ((i : Int) + 1) (setV val ((i : Int) + 1) gH) last) ∧
    (∀ k v, gH k = some v → ∃ j g, j < i + 1 ∧ Gs[j]? = some g ∧ k ∈ g.L)
/-- What there is behind the turn's edits. -/
def RD2 (B : Nat) (w w0 : World) (lb hm xb i : Nat) (Gs : List Tn) (s : St) (val : Int → List UInt8 → Option Int) (tb : Nat) (wx : World) : Prop :=
  ∃ xa xc ya yc za zc s' gH last, C4 tb (.slice xa s'.tabs.length xc) (.slice ya s'.stos.length yc) (.slice za s'.logs.length zc) (.int .i64 s'.next) wx ∧ OwnSt wx w0.heap.size (.slice xa s'.tabs.length xc) (.slice ya s'.stos.length yc) (.slice za s'.logs.length zc) s' ∧ w0.heap.size ≤ tb ∧
    Serve s' ((i : Int) + 1) (setV val ((i : Int) + 1) gH) last ∧ (s'.stos = s.stos ∧ s'.logs = s.logs ∧ s'.next = s.next) ∧ (∀ t ∈ s'.tabs, t.file = (i : Int) + 1 ∨ t ∈ s.tabs) ∧ s'.tabs.length ≤ s.tabs.length + 1 ∧
    wx.cell? ⟨xb, 1, none⟩ = some (.int .i64 ((i : Int) + 1)) ∧ MS wx hm 400000 gH ∧ MS wx lb ((i + 1) * 30) last ∧ Kp lb w0 wx ∧ Below B w wx ∧ (∀ k v, gH k = some v → ∃ j g, j < i + 1 ∧ Gs[j]? = some g ∧ k ∈ g.L)
theorem LI.keep {w w' : World} {G hb lb : Nat} {Gs : List Tn} {i : Nat} {tv sv lv : Value} {s : St} {val : Int → List UInt8 → Option Int} {last : List UInt8 → Option Int} {blk : Int → Option Nat} (h : LI w G hb lb Gs i tv sv lv s val last blk) (k : Below w.heap.size w w') : LI w' G hb lb Gs i tv sv lv s val last blk :=
  ⟨h.st.below k, h.rd.below k, h.sr, h.z1, h.z2, h.z3, h.few, h.mo.below k, h.ml.below k, fun t ht => by
    obtain ⟨b, h1, h2, h3⟩ := h.mi t ht
    exact ⟨b, h1, h2, h3.below k⟩, h.key, h.short, h.o1, h.o2⟩
/-- Behind the edits the law goes on. -/
theorem LI.next {w w' : World} {G hb lb hm : Nat} {Gs : List Tn} {i : Nat} {tv sv lv tv' sv' lv' : Value} {s s' : St} {val : Int → List UInt8 → Option Int} {last last' gH : List UInt8 → Option Int} {blk : Int → Option Nat} {g : Tn} (h : LI w G hb lb Gs i tv sv lv s val last blk)
    (hst : C4 G tv' sv' lv' (.int .i64 s'.next) w') (hrd : StV (fun b => b ≠ G) w' tv' sv' lv' s') (hsr : Serve s' ((i : Int) + 1) (setV val ((i : Int) + 1) gH) last') (hz : s'.stos = s.stos ∧ s'.logs = s.logs ∧ s'.next = s.next) (htabs : ∀ t ∈ s'.tabs, t.file = (i : Int) + 1 ∨ t ∈ s.tabs) (hlen : s'.tabs.length ≤ s.tabs.length + 1)
    (hmo : MO w' hb (i + 1) (putO blk ((i : Int) + 1) hm)) (hml : MS w' lb ((i + 1) * 30) last') (hmm : MS w' hm 400000 gH) (hlm : lb < hm) (hold : ∀ b, lb < b → b < w.heap.size → w'.heap[b]? = w.heap[b]?)
    (hkey : ∀ k v, gH k = some v → ∃ j g, j < i + 1 ∧ Gs[j]? = some g ∧ k ∈ g.L) (hg : Gs[i]? = some g) (hn : g.n ≤ 30) : LI w' G hb lb Gs (i + 1) tv' sv' lv' s' (setV val ((i : Int) + 1) gH) last' (putO blk ((i : Int) + 1) hm) := by
  have hne : ∀ t ∈ s.tabs, t.file ≠ (i : Int) + 1 := fun t ht e => by have := h.sr.few _ (tab_file ht); omega
  refine ⟨hst, hrd, by simpa using hsr, by rw [hz.1, h.z1], by rw [hz.2.1, h.z2], by rw [hz.2.2, h.z3], by have := h.few; omega, hmo, hml, fun t ht => ?_, fun t ht q v hv => ?_, fun j g' hj hg' => ?_, h.o1, h.o2⟩
  · by_cases e : t.file = (i : Int) + 1
    · refine ⟨hm, by unfold putO; rw [if_pos e], hlm, ?_⟩
      have : setV val ((i : Int) + 1) gH t.file = gH := by unfold setV; rw [if_pos e]
      rw [this]; exact hmm
    · have ht' := (htabs t ht).resolve_left e
      obtain ⟨b, h1, h2, h3⟩ := h.mi t ht'
      refine ⟨b, by unfold putO; rw [if_neg e]; exact h1, h2, ?_⟩
      have : setV val ((i : Int) + 1) gH t.file = val t.file := by unfold setV; rw [if_neg e]
      rw [this]
      exact h3.kept (hold b h2 h3.lt)
  · by_cases e : t.file = (i : Int) + 1
    · have : setV val ((i : Int) + 1) gH t.file = gH := by unfold setV; rw [if_pos e]
      rw [this] at hv
      exact hkey q v hv
    · have : setV val ((i : Int) + 1) gH t.file = val t.file := by unfold setV; rw [if_neg e]
      rw [this] at hv
      obtain ⟨j, g', h1, h2, h3⟩ := h.key t ((htabs t ht).resolve_left e) q v hv
      exact ⟨j, g', by omega, h2, h3⟩
  · rcases Nat.lt_or_ge j i with e | e
    · exact h.short j g' e hg'
    · obtain rfl : j = i := by omega
      rw [hg] at hg'
      injection hg' with hg'
      rw [← hg']; exact hn
/-- What Find tells first. -/
def askR (F : List Tb) (val : Int → List UInt8 → Option Int) (y : List UInt8) (j : Nat) : Option Int := (F.take j).findSome? fun t => val t.file y
theorem ask_next {F : List Tb} {val : Int → List UInt8 → Option Int} {y : List UInt8} {j : Nat} {t : Tb} (ht : F[j]? = some t) (hn : askR F val y j = none) : askR F val y (j + 1) = val t.file y := by
  unfold askR at hn ⊢
  rw [List.take_add_one, ht, List.findSome?_append, hn]
  simp only [Option.none_or, Option.toList, List.findSome?_cons, List.findSome?_nil]
  cases val t.file y <;> rfl
theorem ask_done {F : List Tb} {val : Int → List UInt8 → Option Int} {y : List UInt8} {j : Nat} (h : F.length ≤ j ∨ askR F val y j ≠ none) : askR F val y j = F.findSome? fun t => val t.file y := by
  unfold askR at h ⊢
  rcases h with e | e
  · rw [List.take_of_length_le e]
  · conv => rhs; rw [← List.take_append_drop j F, List.findSome?_append]
    cases hv : (F.take j).findSome? (fun t => val t.file y) with
    | some v => rfl
    | none => exact absurd hv e
end Go.Proofs.YtfbaenhajlckjaaGreat
/- Pieces of a function's code. -/
namespace Go.Proofs.YtfbaenhajlckjaaGreat

def pickIf (n : Nat) : Code → Option Code
  | .cond (.tmp t) a b => if n = t then some (.cond (.tmp t) a b) else match pickIf n a with
    | some c => some c
    | none => pickIf n b
  | .cond _ a b => match pickIf n a with
    | some c => some c
    | none => pickIf n b
  | .seq a b => match pickIf n a with
    | some c => some c
    | none => pickIf n b
  | .loop c => pickIf n c
  | .block _ c => pickIf n c
  | .scope c => pickIf n c
  | _ => none

def pickReg (n : Nat) : Code → Option Code
  | .region i o d => if n = i then some (.region i o d) else none
  | .cond _ a b => match pickReg n a with
    | some c => some c
    | none => pickReg n b
  | .seq a b => match pickReg n a with
    | some c => some c
    | none => pickReg n b
  | .loop c => pickReg n c
  | .block _ c => pickReg n c
  | .scope c => pickReg n c
  | _ => none

/-- The body of the loop that stands in block n. -/
def pickLoop (n : Nat) : Code → Option Code
  | .cond _ a b => match pickLoop n a with
    | some c => some c
    | none => pickLoop n b
  | .seq a b => match pickLoop n a with
    | some c => some c
    | none => pickLoop n b
  | .loop c => pickLoop n c
  | .block i c => if n = i then (match c with | .loop d => some d | d => some d) else pickLoop n c
  | .scope c => pickLoop n c
  | _ => none

/-- What stands behind a region, in its row. -/
def pickAfter (n : Nat) : Code → Option Code
  | .seq (.region i o d) b => if n = i then some b else pickAfter n b
  | .cond _ a b => match pickAfter n a with
    | some c => some c
    | none => pickAfter n b
  | .seq a b => match pickAfter n a with
    | some c => some c
    | none => pickAfter n b
  | .loop c => pickAfter n c
  | .block _ c => pickAfter n c
  | .scope c => pickAfter n c
  | _ => none

noncomputable def codeRest : Code := (pickAfter 41 (Tryz.f10.body.getD .skip)).getD .skip
noncomputable def codeStep : Code := (pickReg 8 (Tryz.f10.body.getD .skip)).getD .skip
noncomputable def codeLay : Code := (pickIf 73 (Tryz.f10.body.getD .skip)).getD .skip
noncomputable def codeTake : Code := (pickLoop 4 (Tryz.f10.body.getD .skip)).getD .skip
noncomputable def codeEdits : Code := (pickReg 39 (Tryz.f10.body.getD .skip)).getD .skip
noncomputable def codeDo : Code := (pickReg 41 (Tryz.f10.body.getD .skip)).getD .skip
noncomputable def codeAsk : Code := (pickLoop 10 (Tryz.f10.body.getD .skip)).getD .skip
end Go.Proofs.YtfbaenhajlckjaaGreat
