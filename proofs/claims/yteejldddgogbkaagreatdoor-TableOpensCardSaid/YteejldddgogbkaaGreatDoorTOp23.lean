/- Texts put together: TableNext, TableStart -/
import Derived.Test.YteejldddgogbkaaGreatDoorTOp22
/- The program's Walk, and what it answers, called. -/
set_option linter.unusedVariables false
set_option maxRecDepth 100000
namespace Go.Proofs.YteejldddgogbkaaGreatDoor
open Go.RowKit

def nextOf (nb : Nat) (W : World) : Nat := match W.cell? ⟨nb, 0, none⟩ with
  | some (.int _ i) => i.toNat
  | _ => 0
/-- The function that a walk answers. -/
def walkV (lb fb nb tb kb : Nat) : Value := .func (.func 80) #[] #[.pointer (some ⟨lb, 0, none⟩), .pointer (some ⟨fb, 0, none⟩), .pointer (some ⟨nb, 0, none⟩), .pointer (some ⟨tb, 0, none⟩), .pointer (some ⟨kb, 0, none⟩)]
/-- A walk that has yet to tell L, and then z. -/
structure WalkS (lb fb nb tb kb p G F : Nat) (c : Array Value) (K : List (Nat × Obj)) (t : Tab) (d : Int) (n0 : Int) (key : List UInt8) (Z : Int) (L : List Ent) (W : World) : Prop where
  st : ∃ R z i, WalkM lb fb nb tb kb p G key R z i W ∧ TabM p (srcV F c) (n0 + (i : Int)) t W ∧ (z ≠ 0 → R = []) ∧ i ≤ t.index.length ∧ restW t d key R z i = (Z, L)
  keep : Keep K W
  lt : p < lb ∧ p < fb ∧ p < nb
theorem WalkS.below {lb fb nb tb kb p G F : Nat} {c : Array Value} {K : List (Nat × Obj)} {t : Tab} {d : Int} {n0 : Int} {key : List UInt8} {Z : Int} {L : List Ent} {W W' : World} (h : WalkS lb fb nb tb kb p G F c K t d n0 key Z L W) (k : Below W.heap.size W W') : WalkS lb fb nb tb kb p G F c K t d n0 key Z L W' := by
  obtain ⟨R, z, i, h1, h2, h3⟩ := h.st
  exact ⟨⟨R, z, i, h1.below k, h2.below k, h3⟩, h.keep.below k, h.lt⟩
/-- A block that is new is none of a walk's. -/
theorem WalkS.fresh {lb fb nb tb kb p G G' F : Nat} {c : Array Value} {K : List (Nat × Obj)} {t : Tab} {d : Int} {n0 : Int} {key : List UInt8} {Z : Int} {L : List Ent} {W : World} (h : WalkS lb fb nb tb kb p G F c K t d n0 key Z L W) (hG : W.heap.size ≤ G') : WalkS lb fb nb tb kb p G' F c K t d n0 key Z L W := by
  obtain ⟨R, z, i, h1, h2, h3⟩ := h.st
  refine ⟨⟨R, z, i, ⟨h1.left, h1.fail, h1.next, h1.tab, h1.kb, fun a cap b off e ha hne => ?_⟩, h2, h3⟩, h.keep, h.lt⟩
  obtain ⟨a0, cap0, g1, g2, g3⟩ := h1.left
  rw [g1] at e
  injection e with e
  injection e with e _ _
  have hh := congrArg (fun v => v.toList) e
  simp at hh
  have hR : 0 < R.length := List.length_pos_iff.2 hne
  obtain ⟨b1, off1, x, e1, _, _, hc⟩ := g3.at hR
  rw [hh.1, ha] at e1
  injection e1 with e1
  injection e1 with e1 _ _
  have := hc.lt
  omega
/-- Where another block is written, beside the entries that are left. -/
theorem WalkM.others {lb fb nb tb kb p G g : Nat} {key : List UInt8} {R : List Ent} {z : Int} {i : Nat} {W W' : World} (h : WalkM lb fb nb tb kb p G key R z i W) (hl : lb ≠ g ∧ fb ≠ g ∧ nb ≠ g ∧ tb ≠ g ∧ kb ≠ g) (k : ∀ j, j ≠ g → W'.heap[j]? = W.heap[j]?) (hE : ∀ a, IsE W a R.length R → (∃ cap, W.heap[lb]? = some (.cells #[.slice a R.length cap] 22 (0, 0))) → IsE W' a R.length R) : WalkM lb fb nb tb kb p G key R z i W' := by
  obtain ⟨a, cap, h1, h2, h3⟩ := h.left
  exact ⟨⟨a, cap, (k _ hl.1).trans h1, h2, hE a h3 ⟨cap, h1⟩⟩, (k _ hl.2.1).trans h.fail, (k _ hl.2.2.1).trans h.next, (k _ hl.2.2.2.1).trans h.tab, (k _ hl.2.2.2.2).trans h.kb, fun a' cap' b off e => h.row a' cap' b off (by rw [← k _ hl.1]; exact e)⟩
theorem put3_same {W : World} {g : Nat} (v0 v1 v2 : Value) : ∀ j, j ≠ g → (((W.setCell ⟨g, 0, none⟩ v0).setCell ⟨g, 1, none⟩ v1).setCell ⟨g, 2, none⟩ v2).heap[j]? = W.heap[j]? := fun j hj => by
  rw [heap_set_other hj, heap_set_other hj, heap_set_other hj]
theorem WalkS.row {lb fb nb tb kb p G G2 F : Nat} {c : Array Value} {K : List (Nat × Obj)} {t : Tab} {d : Int} {n0 : Int} {key : List UInt8} {Z : Int} {L : List Ent} {W W' : World} (h : WalkS lb fb nb tb kb p G F c K t d n0 key Z L W) (hl : lb < G ∧ fb < G ∧ nb < G ∧ tb < G ∧ kb < G) (hK : ∀ q ∈ K, q.1 < G) (hG2 : G2 = G ∨ W.heap.size ≤ G2) (k : ∀ j, j < W.heap.size → j ≠ G → W'.heap[j]? = W.heap[j]?) : WalkS lb fb nb tb kb p G2 F c K t d n0 key Z L W' := by
  obtain ⟨R, z, i, h1, h2, h3⟩ := h.st
  obtain ⟨a, cap, g1, g2, g3⟩ := h1.left
  have k' : ∀ j vs ty z, W.heap[j]? = some (.cells vs ty z) → j ≠ G → W'.heap[j]? = W.heap[j]? := fun j vs ty z hj hne => k j (heap_lt hj) hne
  refine ⟨⟨R, z, i, ⟨⟨a, cap, (k' _ _ _ _ g1 (by omega)).trans g1, g2, ?_⟩, (k' _ _ _ _ h1.fail (by omega)).trans h1.fail, (k' _ _ _ _ h1.next (by omega)).trans h1.next, (k' _ _ _ _ h1.tab (by omega)).trans h1.tab, (k' _ _ _ _ h1.kb (by omega)).trans h1.kb, fun a' cap' b off e ha hne => ?_⟩, ?_, h3⟩, fun q hq => (k _ (heap_lt (h.keep q hq)) (by have := hK q hq; omega)).trans (h.keep q hq), h.lt⟩
  · by_cases hR : R = []
    · subst hR; exact IsE.nil _ _
    · have hpos : 0 < R.length := List.length_pos_iff.2 hR
      obtain ⟨e, b, off, ho, hr⟩ := g3
      have ha : a = some ⟨b, off, none⟩ := by rcases ho with h | h; (omega); (exact h)
      have hb := h1.row a cap b off g1 ha hR
      refine ⟨e, b, off, ho, fun i hi => ?_⟩
      have hc := hr i hi
      have hs := k b hc.lt hb
      exact ⟨lt_of_same (cell_block hc.c0) hs, cell_same hc.c0 hs, cell_same hc.c1 hs, cell_same hc.c2 hs⟩
  · have e' : W.heap[lb]? = _ := (k' _ _ _ _ g1 (by omega)).symm.trans e
    rcases hG2 with rfl | hG2
    · exact h1.row a' cap' b off e' ha hne
    · rw [g1] at e'
      injection e' with e'
      injection e' with e' _ _
      have hh := congrArg (fun v => v.toList) e'
      simp at hh
      obtain ⟨b1, off1, x, e1, _, _, hc⟩ := g3.at (List.length_pos_iff.2 hne)
      rw [hh.1, ha] at e1
      injection e1 with e1
      injection e1 with e1 _ _
      have := hc.lt
      omega
  · obtain ⟨aa, cap', fb', fg, q1, q2, q3, q4, q5⟩ := h2.ex
    have hp := h.lt
    have kk : ∀ j, j < W.heap.size → j ≤ p → W'.heap[j]? = W.heap[j]? := fun j hj hj2 => k j hj (by omega)
    exact ⟨aa, cap', fb', fg, (kk p (heap_lt q1) (Nat.le_refl _)).trans q1, q2.keep fun j hj hj2 => kk j hj2 (by omega), q3.blocks (kk fb' q3.lt (by omega)) (kk fg q3.row.1 (by omega)), q4, q5⟩
/-- Behind the first of two entries or more there is no block of three cells. -/
theorem IsE.tail {W W' : World} {a a' : Option Addr} {m g : Nat} {R : List Ent} {ty : TypeId} {v0 v1 v2 : Value} (h : IsE W a m R) (ht : IsE W a' (m - 1) (R.drop 1)) (ha : ∀ b off, 1 < m → a = some ⟨b, off, none⟩ → a' = some ⟨b, off + 1 * 3, none⟩) (hg : C3 g ty v0 v1 v2 W) (k : ∀ j, j ≠ g → W'.heap[j]? = W.heap[j]?) : IsE W' a' (m - 1) (R.drop 1) := by
  obtain ⟨e, b, off, ho, hr⟩ := h
  obtain ⟨e', b', off', ho', hr'⟩ := ht
  rcases Nat.lt_or_ge 1 m with hm | hm
  · have ha2 : a = some ⟨b, off, none⟩ := by rcases ho with h | h; (omega); (exact h)
    have ha3 := ha b off hm ha2
    have hb : b ≠ g := fun e => by
      subst e
      have h0 := (hr 1 (by omega)).c2
      unfold C3 at hg
      simp only [World.cell?, hg] at h0
      simp at h0
    have hbb : b' = b := by
      rcases ho' with h | h
      · omega
      · rw [ha3] at h
        injection h with h
        injection h with h _ _
        exact h.symm
    subst hbb
    refine ⟨e', b', off', ho', fun i hi => ?_⟩
    have hc := hr' i hi
    have hs := k b' hb
    exact ⟨lt_of_same (cell_block hc.c0) hs, cell_same hc.c0 hs, cell_same hc.c1 hs, cell_same hc.c2 hs⟩
  · have hd : R.drop 1 = [] := List.drop_eq_nil_of_le (by omega)
    have hm1 : m - 1 = 0 := by omega
    rw [hd, hm1]
    exact IsE.nil _ _
theorem set3_drew (w : World) (p q r : Addr) (a b c : Value) : (((w.setCell p a).setCell q b).setCell r c).drew = ((w.drew.setCell p a).setCell q b).setCell r c := by
  simp only [World.drew, World.setCell]
  repeat split
  all_goals first | rfl | simp_all
/-- What a call of it writes. -/
def WS4 (lb fb nb p : Nat) (j : Nat) : Prop := j = p ∨ j = lb ∨ j = fb ∨ j = nb
theorem drop_place {k : List UInt8} {T : List Ent} (hT : rises T) : T.drop (place k T) = fromE k T :=
  fromE_drop hT (place_le _ _) (fun x h0 hx => by rw [place_iff k hT _ x hx]; exact decide_eq_true (by omega)) (fun x hx => by rw [place_iff k hT _ x hx]; exact decide_eq_false (by omega))
set_option maxHeartbeats 4000000 in
theorem table_next (lb fb nb tb kb p G F : Nat) (c : Array Value) (K : List (Nat × Obj)) (t : Tab) (d n0 : Int) (key : List UInt8) (Z : Int) (L : List Ent) (w : World) (hW : Hid (WalkS lb fb nb tb kb p G F c K t d n0 key Z L w)) (hf : Hid (FineT t)) (hs : Hid (Src F c K d t.bytes)) (hKp : Hid (∀ q ∈ K, ¬ WS4 lb fb nb p q.1)) (hG : Hid (G < w.heap.size)) (hn1 : -100000000000000000 ≤ n0) (hn2 : n0 ≤ 100000000000000000) (hl : t.bytes.length ≤ 100000000000) :
    Calls Tryz.prog 80 #[.pointer (some ⟨lb, 0, none⟩), .pointer (some ⟨fb, 0, none⟩), .pointer (some ⟨nb, 0, none⟩), .pointer (some ⟨tb, 0, none⟩), .pointer (some ⟨kb, 0, none⟩)] w fun e w' =>
      ((L = [] ∧ e = .returned (.tuple #[EV ⟨[], [], false⟩, .bool false, .int .i64 Z]) ∧ WalkS lb fb nb tb kb p G F c K t d n0 key Z [] w' ∧ (Z = 0 → TabM p (srcV F c) (n0 + (t.index.length : Int)) t w')) ∨
        (∃ x L1, L = x :: L1 ∧ e = .returned (.tuple #[EV x, .bool true, .int .i64 0]) ∧ WalkS lb fb nb tb kb p G F c K t d n0 key Z L1 w')) ∧ Only (WS4 lb fb nb p) w w' := by
  obtain ⟨w1, hw1⟩ : ∃ w1, w1 = w.alloc (.cells #[.string ⟨#[]⟩, .string ⟨#[]⟩, .bool false] 49) := ⟨_, rfl⟩
  have A1 := Lib.hid (show Below w.heap.size w w1 by rw [hw1]; exact (Below.refl _ _).alloc (Nat.le_refl _) _)
  have C1 := Lib.hid (show C3 w.heap.size 49 (.string ⟨#[]⟩) (.string ⟨#[]⟩) (.bool false) w1 by rw [hw1]; exact heap_new w _)
  have W1 := Lib.hid (hW.out.below A1.out)
  have O1 := Lib.hid (show Only (WS4 lb fb nb p) w w1 from Only.of_below' A1.out rfl)
  have hwl := Lib.hid (show p < w.heap.size ∧ lb < w.heap.size ∧ fb < w.heap.size ∧ nb < w.heap.size ∧ tb < w.heap.size ∧ kb < w.heap.size by
    obtain ⟨R, z, i, h1, h2, _⟩ := hW.out.st
    obtain ⟨a, cap, g1, _⟩ := h1.left
    exact ⟨h2.lt, heap_lt g1, heap_lt h1.fail, heap_lt h1.next, heap_lt h1.tab, heap_lt h1.kb⟩)
  have hlts := Lib.hid hW.out.lt
  obtain ⟨len, hlen⟩ : ∃ len, len = t.index.length := ⟨_, rfl⟩
  have HLen := Lib.hid hlen
  have hfew : len ≤ 65536 := by rw [hlen]; exact hf.out.few
  have HW1 := Lib.hid hw1
  clear hw1 hlen
  go_enter Tryz.func80, Tryz.ntmps80
  go_upto_region 1 with (fail)
  rw [← HW1.out]
  go_loopw [] (fun wr => Hid (WalkS lb fb nb tb kb p G F c K t d n0 key Z L wr) ∧ Hid (C3 w.heap.size 49 (.string ⟨#[]⟩) (.string ⟨#[]⟩) (.bool false) wr) ∧ Hid (Only (WS4 lb fb nb p) w wr)) (fun wr => len - nextOf nb wr)
  case atStart => exact ⟨W1, C1, O1⟩
  case round =>
    obtain ⟨hWr, hCr, hOr⟩ := hrel
    obtain ⟨R, z, i, hM, hT, hzR, hil, hrest⟩ := hWr.out.st
    obtain ⟨a, cap, m1, m2, m3⟩ := hM.left
    obtain ⟨ta, tcap, tfb, tfg, t1, t2, t3, t4, t5⟩ := hT.ex
    rw [← HLen.out] at t1 hil
    have cl : wr.cell? ⟨lb, 0, none⟩ = some (.slice a R.length cap) := by simp [World.cell?, m1]
    have cfl : wr.cell? ⟨fb, 0, none⟩ = some (.int .i64 z) := by simp [World.cell?, hM.fail]
    have cn : wr.cell? ⟨nb, 0, none⟩ = some (.int .i64 (i : Int)) := by simp [World.cell?, hM.next]
    have ct : wr.cell? ⟨tb, 0, none⟩ = some (.pointer (some ⟨p, 0, none⟩)) := hM.tab.cell
    have cp : wr.cell? ⟨p, 1, none⟩ = some (.slice ta len tcap) := by simp [World.cell?, t1]
    obtain ⟨m, hm⟩ : ∃ m, m = R.length := ⟨_, rfl⟩
    rw [← hm] at cl m1 m2 m3
    have HM := Lib.hid hM
    have HT := Lib.hid hT
    have HR := Lib.hid hrest
    have HZR := Lib.hid hzR
    have Hm := Lib.hid hm
    have HE := Lib.hid m3
    clear hM hT hrest hzR m1 m3 t1 t2 t3 t4 t5 hm
    by_cases hm0 : m = 0
    · by_cases hz0 : z = 0
      · by_cases hi0 : i < len
        · -- a block more
          subst hm0 hz0
          have hlt' : (i : Int) < (len : Int) := by omega
          have HRB := Lib.hid (fun (W : World) (hW : TabM p (srcV F c) (n0 + (i : Int)) t W) (hKW : Keep K W) => table_readBlock p F c K d t (n0 + (i : Int)) i W (Lib.hid hW) hf hs (Lib.hid hKW) (Lib.hid fun q hq e => hKp.out q hq (.inl e)) (by rw [← HLen.out]; exact hi0) (by omega) (by omega) hl)
          have hRz := Lib.hid (show R = [] from List.length_eq_zero_iff.1 Hm.out.symm)
          have HI0 := Lib.hid hi0
          clear hi0
          go_wp2_with fail
          go_quiet (fail)
          obtain ⟨w3, hw3⟩ : ∃ w3, w3 = wr.drewN nq := ⟨_, rfl⟩
          have B3 := Lib.hid (show Below wr.heap.size wr w3 by rw [hw3]; exact below_drewN (Below.refl _ _) _)
          rw [← hw3]
          have cn3 : w3.cell? ⟨nb, 0, none⟩ = some (.int .i64 (i : Int)) := by rw [B3.out.cell (cell_block cn)]; exact cn
          have ct3 : w3.cell? ⟨tb, 0, none⟩ = some (.pointer (some ⟨p, 0, none⟩)) := by rw [B3.out.cell (cell_block ct)]; exact ct
          have M3 := Lib.hid (HM.out.below B3.out)
          have T3 := Lib.hid (HT.out.below B3.out)
          have K3 := Lib.hid (hWr.out.keep.below B3.out)
          have C3' := Lib.hid (hCr.out.below B3.out)
          have O3 := Lib.hid (hOr.out.trans (Only.of_below' (S := WS4 lb fb nb p) B3.out rfl))
          clear hw3 cl cfl cn ct cp
          go_wp2_with fail
          refine (HRB.out w3 T3.out K3.out).mono ?_
          rintro e w4 ⟨⟨xa, xc, rfl, hxc, hxe⟩, hT4, hO4, hN4⟩
          have N4 := Lib.hid (show ∀ b off, xa = some ⟨b, off, none⟩ → b ≠ G from fun b off h => by have h1 := hN4 b off _ _ _ (by rw [h]); have h2 := hG.out; have h3 := O3.out.size; omega)
          clear hN4
          have M4 := Lib.hid (M3.out.table T3.out (fun s e => by cases e) hO4)
          have T4 := Lib.hid hT4
          have E4 := Lib.hid hxe
          have K4 := Lib.hid (K3.out.only hO4 fun q hq e => hKp.out q hq (.inl e))
          have C4 := Lib.hid (C3'.out.table hO4 (by have := hwl.out; omega))
          have O4 := Lib.hid (O3.out.trans (hO4.mono fun j _ h => .inl h))
          obtain ⟨Rb, hRb⟩ : ∃ Rb, Rb = blockD t d i := ⟨_, rfl⟩
          rw [← hRb] at hxc E4 ⊢
          have HRb := Lib.hid hRb
          have hbr := Lib.hid (show rises Rb.2 by rw [hRb]; exact blockD_rises t d i)
          have hbf := Lib.hid (show Rb.2.length ≤ 65536 by rw [hRb]; exact blockD_few t d i)
          have hbe := Lib.hid (show Rb.1 ≠ 0 → Rb.2 = [] by rw [hRb]; exact blockD_err t d i)
          clear hT4 hxe hO4 hRb cn3 ct3 HRB
          have fl4 : w4.frozen? ⟨lb, 0, none⟩ = false ∧ (∃ v, w4.cell? ⟨lb, 0, none⟩ = some v) := by obtain ⟨a, cap, h, _⟩ := M4.out.left; simp [World.frozen?, World.cell?, h]
          obtain ⟨fl4, vl4, cl4⟩ := fl4
          have cf4 : w4.cell? ⟨fb, 0, none⟩ = some (.int .i64 0) := by simp [World.cell?, M4.out.fail]
          have ff4 : w4.frozen? ⟨fb, 0, none⟩ = false := by simp [World.frozen?, M4.out.fail]
          obtain ⟨z5, hz5⟩ : ∃ z, z = Rb.1 := ⟨_, rfl⟩
          obtain ⟨T5, hT5⟩ : ∃ T, T = Rb.2 := ⟨_, rfl⟩
          rw [← hz5, ← hT5]
          rw [← hT5] at hxc E4
          have M5 := Lib.hid ((M4.out.setLeft (a := xa) (cap := xc) hxc E4.out fun b off h _ => N4.out b off h).setFail z5)
          obtain ⟨m5, hm5⟩ : ∃ m, m = T5.length := ⟨_, rfl⟩
          rw [← hm5] at M5 hxc E4 ⊢
          obtain ⟨w5, hw5⟩ : ∃ w5, w5 = (w4.setCell ⟨lb, 0, none⟩ (.slice xa m5 xc)).setCell ⟨fb, 0, none⟩ (.int .i64 z5) := ⟨_, rfl⟩
          rw [← hw5] at M5
          have T5' := Lib.hid (show TabM p (srcV F c) (n0 + (i : Int) + 1) t w5 by
            obtain ⟨a0, cap0, g1, _⟩ := M4.out.left
            have h1 := T4.out.other g1 hlts.out.1 (fun j _ hne => heap_set_other (u := Value.slice xa m5 xc) (o := 0) hne)
            have g2 : (w4.setCell ⟨lb, 0, none⟩ (.slice xa m5 xc)).heap[fb]? = some (.cells #[.int .i64 0] 25 (0, 0)) := (heap_set_other (ne_tag M4.out.fail g1 (by decide)) _).trans M4.out.fail
            rw [hw5]
            exact h1.other g2 hlts.out.2.1 (fun j _ hne => heap_set_other hne _))
          have O45 := Lib.hid (show Only (WS4 lb fb nb p) w4 w5 by rw [hw5]; exact ((Only.refl (WS4 lb fb nb p) w4).setCell (p := ⟨lb, 0, none⟩) (.inl (.inr (.inl rfl))) _).setCell (p := ⟨fb, 0, none⟩) (.inl (.inr (.inr (.inl rfl)))) _)
          have O5 := Lib.hid (O4.out.trans (O45.out.mono fun j _ h => h))
          have K5 := Lib.hid (K4.out.only O45.out fun q hq => hKp.out q hq)
          have C5 := Lib.hid (show C3 w.heap.size 49 (.string ⟨#[]⟩) (.string ⟨#[]⟩) (.bool false) w5 from (O45.out.block _ (heap_lt C4.out) (by have := hwl.out; unfold WS4; omega)).trans C4.out)
          obtain ⟨a5, cap5, l1, l2, E5⟩ := M5.out.left
          have cl5 : w5.cell? ⟨lb, 0, none⟩ = some (.slice xa m5 xc) := by
            rw [hw5]
            obtain ⟨a0, cap0, g1, _⟩ := M4.out.left
            have := heap_set (o := 0) g1 (.slice xa m5 xc)
            have h2 : ((w4.setCell ⟨lb, 0, none⟩ (.slice xa m5 xc)).setCell ⟨fb, 0, none⟩ (.int .i64 z5)).heap[lb]? = _ := (heap_set_other (ne_tag g1 M4.out.fail (by decide)) _).trans this
            simp [World.cell?, h2]
          have hae : a5 = xa ∧ cap5 = xc := by
            have h3 : w5.cell? ⟨lb, 0, none⟩ = some (.slice a5 T5.length cap5) := by simp [World.cell?, l1]
            rw [cl5] at h3
            injection h3 with h3
            injection h3 with h3 _ h4
            exact ⟨h3.symm, h4.symm⟩
          rw [hae.1] at E5
          have E5' := Lib.hid (show IsE w5 xa m5 T5 by rw [hm5]; exact E5)
          have ck5 : w5.cell? ⟨kb, 0, none⟩ = some (.string (bs key)) := M5.out.kb.cell
          obtain ⟨r, hr⟩ : ∃ r, r = place key T5 := ⟨_, rfl⟩
          have hrm : r ≤ m5 := by rw [hr, hm5]; exact place_le _ _
          have hm5b : m5 ≤ 65536 := by rw [hm5, hT5]; exact hbf.out
          have hdp := Lib.hid (show T5.drop r = fromE key T5 by rw [hr]; exact drop_place (by rw [hT5]; exact hbr.out))
          have hT5r : rises T5 := by rw [hT5]; exact hbr.out
          have HFd := Lib.hid (fun m : Seen w5 => by
            have h := (block_Find xa m5 xc T5 key m.val (Lib.hid (E5'.out.below m.below)) (by omega)).mono (R' := fun e w'' => e = .returned (.int .i64 (r : Int)) ∧ ∃ q : Seen w5, w'' = q.val) (by
              rintro e w'' ⟨⟨r', rfl, g1, g2, g3⟩, k⟩
              have := find_place hT5r g1 g2 g3
              exact ⟨by rw [hr, this], ⟨⟨w'', m.below.trans (k.mono m.below.size)⟩, rfl⟩⟩)
            exact h)
          obtain ⟨a6, hsl, hsE, hsA⟩ := slice_ents (a := xa) (n := m5) (cap := xc) (g := r) hrm hxc
          have HSE := Lib.hid (fun w => hsE w T5)
          have HSL := Lib.hid hsl
          have HSA := Lib.hid (slice_same (G := G) hsA E5'.out fun b off h _ => N4.out b off h)
          have HW5 := Lib.hid hw5
          have Hm5 := Lib.hid hm5
          have HT5 := Lib.hid hT5
          have Hz5 := Lib.hid hz5
          have hnl : ∀ m : Seen w5, m.val.cell? ⟨lb, 0, none⟩ = some (.slice xa m5 xc) := fun m => by rw [m.below.cell (cell_block cl5)]; exact cl5
          have hnk : ∀ m : Seen w5, m.val.cell? ⟨kb, 0, none⟩ = some (.string (bs key)) := fun m => by rw [m.below.cell (cell_block ck5)]; exact ck5
          clear hw5 l1 l2 E5 hae hr hm5 hT5 hz5 hsE hT5r hsl hsA
          have cf5 : (w4.setCell ⟨lb, 0, none⟩ (.slice xa m5 xc)).cell? ⟨fb, 0, none⟩ = some (.int .i64 0) ∧ (w4.setCell ⟨lb, 0, none⟩ (.slice xa m5 xc)).frozen? ⟨fb, 0, none⟩ = false := by
            obtain ⟨a0, cap0, g1, _⟩ := M4.out.left
            have g2 : (w4.setCell ⟨lb, 0, none⟩ (.slice xa m5 xc)).heap[fb]? = some (.cells #[.int .i64 0] 25 (0, 0)) := (heap_set_other (ne_tag M4.out.fail g1 (by decide)) _).trans M4.out.fail
            simp [World.cell?, World.frozen?, g2]
          obtain ⟨cf5, ff5⟩ := cf5
          go_upto_region 3 with (fail)
          rw [← HW5.out]
          clear cf5 ff5 cf4 ff4 cl4 fl4
          refine wp_region_seen_tail 5 (by kernel_rfl) (by kernel_rfl) ?_
          simp only [List.take_succ_cons, List.take_zero, List.drop_succ_cons, List.drop_zero]
          try go_frame
          have hsl := HSL.out
          repeat go_big_quiet_step (first | (go_at_call 50; with_reducible exact HFd.out _))
          refine wpQuiet_nil ?_
          rintro _ ⟨m1, rfl⟩
          obtain ⟨w6, hw6⟩ : ∃ w6, w6 = m1.val := ⟨_, rfl⟩
          have B6 := Lib.hid (show Below w5.heap.size w5 w6 by rw [hw6]; exact m1.below)
          rw [← hw6]
          have M6 := Lib.hid (M5.out.below B6.out)
          have T6 := Lib.hid (T5'.out.below B6.out)
          have K6 := Lib.hid (K5.out.below B6.out)
          have C6 := Lib.hid (C5.out.below B6.out)
          have O6 := Lib.hid (O5.out.trans (Only.of_below' (S := WS4 lb fb nb p) B6.out rfl))
          have E6 := Lib.hid (HSE.out w6 (E5'.out.below B6.out))
          have fl6 : w6.frozen? ⟨lb, 0, none⟩ = false ∧ (∃ v, w6.cell? ⟨lb, 0, none⟩ = some v) := by obtain ⟨a, cap, h, _⟩ := M6.out.left; simp [World.frozen?, World.cell?, h]
          obtain ⟨fl6, vl6, cl6⟩ := fl6
          have hlen6 : (T5.drop r).length = m5 - r := by rw [List.length_drop, Hm5.out]
          have M7 := Lib.hid (M6.out.setLeft (a := a6) (cap := xc - r) (R' := T5.drop r) (by rw [hlen6]; omega) (by rw [hlen6]; exact E6.out) HSA.out)
          rw [hlen6] at M7
          obtain ⟨w7, hw7⟩ : ∃ w7, w7 = w6.setCell ⟨lb, 0, none⟩ (.slice a6 (m5 - r) (xc - r)) := ⟨_, rfl⟩
          rw [← hw7] at M7
          have T7 := Lib.hid (show TabM p (srcV F c) (n0 + (i : Int) + 1) t w7 by
            obtain ⟨a0, cap0, g1, _⟩ := M6.out.left
            rw [hw7]
            exact T6.out.other g1 hlts.out.1 (fun j _ hne => heap_set_other hne _))
          have O67 := Lib.hid (show Only (WS4 lb fb nb p) w6 w7 by rw [hw7]; exact (Only.refl (WS4 lb fb nb p) w6).setCell (p := ⟨lb, 0, none⟩) (.inl (.inr (.inl rfl))) _)
          have O7 := Lib.hid (O6.out.trans (O67.out.mono fun j _ h => h))
          have K7 := Lib.hid (K6.out.only O67.out fun q hq => hKp.out q hq)
          have C7 := Lib.hid (show C3 w.heap.size 49 (.string ⟨#[]⟩) (.string ⟨#[]⟩) (.bool false) w7 from (O67.out.block _ (heap_lt C6.out) (by have := hwl.out; unfold WS4; omega)).trans C6.out)
          have cn7 : w7.cell? ⟨nb, 0, none⟩ = some (.int .i64 (i : Int)) := by simp [World.cell?, M7.out.next]
          have fn7 : w7.frozen? ⟨nb, 0, none⟩ = false := by simp [World.frozen?, M7.out.next]
          have HW7 := Lib.hid hw7
          clear hw6 hw7 hnl hnk hsl cl5 ck5 HFd
          go_upto_region 4 with (fail)
          rw [← HW7.out]
          clear fl6 cl6
          obtain ⟨w8, hw8⟩ : ∃ w8, w8 = w7.setCell ⟨nb, 0, none⟩ (.int .i64 ((i : Int) + 1)) := ⟨_, rfl⟩
          have M8 := Lib.hid (show WalkM lb fb nb tb kb p G key (T5.drop r) z5 (i + 1) w8 by rw [hw8]; exact M7.out.setNext (i + 1))
          have T8 := Lib.hid (show TabM p (srcV F c) (n0 + ((i + 1 : Nat) : Int)) t w8 by
            have h1 := T7.out.other M7.out.next hlts.out.2.2 (W' := w8) (fun j _ hne => by rw [hw8]; exact heap_set_other hne _)
            rwa [show n0 + ((i + 1 : Nat) : Int) = n0 + (i : Int) + 1 by omega])
          have O78 := Lib.hid (show Only (WS4 lb fb nb p) w7 w8 by rw [hw8]; exact (Only.refl (WS4 lb fb nb p) w7).setCell (p := ⟨nb, 0, none⟩) (.inl (.inr (.inr (.inr rfl)))) _)
          have O8 := Lib.hid (O7.out.trans (O78.out.mono fun j _ h => h))
          have K8 := Lib.hid (K7.out.only O78.out fun q hq => hKp.out q hq)
          have C8 := Lib.hid (show C3 w.heap.size 49 (.string ⟨#[]⟩) (.string ⟨#[]⟩) (.bool false) w8 from (O78.out.block _ (heap_lt C7.out) (by have := hwl.out; unfold WS4; omega)).trans C7.out)
          have S8 := Lib.hid (show WalkS lb fb nb tb kb p G F c K t d n0 key Z L w8 by
            refine ⟨⟨T5.drop r, z5, i + 1, M8.out, T8.out, fun hz => ?_, by rw [← HLen.out]; have := HI0.out; omega, ?_⟩, K8.out, hlts.out⟩
            · rw [HT5.out, hbe.out (by rw [← Hz5.out]; exact hz), List.drop_nil]
            · have h1 := HR.out
              rw [hRz.out, rest_next (by rw [← HLen.out]; exact HI0.out), ← HRb.out, ← Hz5.out, ← HT5.out] at h1
              rw [hdp.out]
              by_cases hz : z5 = 0
              · rw [if_neg (fun h => h hz)] at h1; exact h1
              · rw [if_pos hz] at h1
                have : T5 = [] := by rw [HT5.out, hbe.out (by rw [← Hz5.out]; exact hz)]
                rw [this]; exact h1)
          have hmeas : nextOf nb w8 = i + 1 := by
            unfold nextOf
            simp [World.cell?, M8.out.next]
          have hmeas0 : nextOf nb wr = i := by
            unfold nextOf
            simp [World.cell?, HM.out.next]
          have HW8 := Lib.hid hw8
          have hI := HI0.out
          clear hw8
          go_wp2_with fail
          rw [← HW8.out]
          go_roundw
          case rel => exact ⟨S8, C8, O8⟩
          case measure => rw [hmeas, hmeas0]; omega
        · -- nothing is left
          subst hm0 hz0
          have hie : i = len := by omega
          have hlt' : ¬ (i : Int) < (len : Int) := by omega
          have hltd : decide ((i : Int) < (len : Int)) = false := decide_eq_false hlt'
          have HLe := Lib.hid (show Z = 0 ∧ L = [] by
            have h1 := HR.out
            rw [List.length_eq_zero_iff.1 Hm.out.symm, rest_end (by rw [← HLen.out]; omega)] at h1
            injection h1 with h1 h2
            exact ⟨h1.symm, h2.symm⟩)
          have HIe := Lib.hid hie
          clear hi0 hie
          go_wp2_with fail
          go_quiet (fail)
          obtain ⟨w3, hw3⟩ : ∃ w3, w3 = wr.drewN nq := ⟨_, rfl⟩
          have B3 := Lib.hid (show Below wr.heap.size wr w3 by rw [hw3]; exact below_drewN (Below.refl _ _) _)
          rw [← hw3]
          have cl3 : w3.cell? ⟨lb, 0, none⟩ = some (.slice a 0 cap) := by rw [B3.out.cell (cell_block cl)]; exact cl
          have cf3 : w3.cell? ⟨fb, 0, none⟩ = some (.int .i64 0) := by rw [B3.out.cell (cell_block cfl)]; exact cfl
          have C3' := Lib.hid (hCr.out.below B3.out)
          have O3 := Lib.hid (hOr.out.trans (Only.of_below' (S := WS4 lb fb nb p) B3.out rfl))
          clear hw3 cl cfl cn ct cp
          obtain ⟨w4, hw4⟩ : ∃ w4, w4 = w3.drew := ⟨_, rfl⟩
          have B4 := Lib.hid (show Below w3.heap.size w3 w4 by rw [hw4]; exact (Below.refl _ _).drew)
          have C4 := Lib.hid (C3'.out.below B4.out)
          have O4 := Lib.hid (O3.out.trans (Only.of_below' (S := WS4 lb fb nb p) B4.out rfl))
          have z0 : w3.cell? ⟨w.heap.size, 0, none⟩ = some (.string ⟨#[]⟩) := C3'.out.c0
          have z1 : w3.cell? ⟨w.heap.size, 1, none⟩ = some (.string ⟨#[]⟩) := C3'.out.c1
          have z2 : w3.cell? ⟨w.heap.size, 2, none⟩ = some (.bool false) := C3'.out.c2
          have zf : ∀ j, w3.frozen? ⟨w.heap.size, j, none⟩ = false := C3'.out.free
          have q0 : w3.drew.cell? ⟨w.heap.size, 0, none⟩ = some (.string ⟨#[]⟩) := by rw [← hw4]; exact C4.out.c0
          have q1 : w3.drew.cell? ⟨w.heap.size, 1, none⟩ = some (.string ⟨#[]⟩) := by rw [← hw4]; exact C4.out.c1
          have q2 : w3.drew.cell? ⟨w.heap.size, 2, none⟩ = some (.bool false) := by rw [← hw4]; exact C4.out.c2
          have qf : ∀ j, w3.drew.frozen? ⟨w.heap.size, j, none⟩ = false := by rw [← hw4]; exact C4.out.free
          have f4 : w3.drew.cell? ⟨fb, 0, none⟩ = some (.int .i64 0) := cf3
          have f5 : (((w3.drew.setCell ⟨w.heap.size, 0, none⟩ (.string ⟨#[]⟩)).setCell ⟨w.heap.size, 1, none⟩ (.string ⟨#[]⟩)).setCell ⟨w.heap.size, 2, none⟩ (.bool false)).cell? ⟨fb, 0, none⟩ = some (.int .i64 0) := cell_same f4 (put3_same _ _ _ _ (by have := hwl.out; omega))
          have f6 : (((w3.setCell ⟨w.heap.size, 0, none⟩ (.string ⟨#[]⟩)).setCell ⟨w.heap.size, 1, none⟩ (.string ⟨#[]⟩)).setCell ⟨w.heap.size, 2, none⟩ (.bool false)).cell? ⟨fb, 0, none⟩ = some (.int .i64 0) := cell_same cf3 (put3_same _ _ _ _ (by have := hwl.out; omega))
          have M4 := Lib.hid (show WalkM lb fb nb tb kb p G key [] 0 i w4 by have h := (HM.out.below B3.out).below B4.out; rw [List.length_eq_zero_iff.1 Hm.out.symm] at h; exact h)
          have T4 := Lib.hid ((HT.out.below B3.out).below B4.out)
          have K4 := Lib.hid ((hWr.out.keep.below B3.out).below B4.out)
          have FIN := Lib.hid (show WalkS lb fb nb tb kb p G F c K t d n0 key Z [] (((w4.setCell ⟨w.heap.size, 0, none⟩ (.string ⟨#[]⟩)).setCell ⟨w.heap.size, 1, none⟩ (.string ⟨#[]⟩)).setCell ⟨w.heap.size, 2, none⟩ (.bool false)) from by
            have h1 := HR.out
            rw [List.length_eq_zero_iff.1 Hm.out.symm, HLe.out.2] at h1
            have h2 := hwl.out
            exact ⟨⟨[], 0, i, M4.out.others (g := w.heap.size) (by omega) (put3_same _ _ _) (fun a _ _ => IsE.nil _ _), T4.out.put3 (a := w) (Nat.le_refl _) hwl.out.1 _ _ _, fun _ => rfl, by rw [← HLen.out]; exact hil, h1⟩, fun q hq => (put3_same _ _ _ _ (by have := heap_lt (hW.out.keep q hq); omega)).trans (K4.out q hq), hlts.out⟩)
          have TF := Lib.hid (T4.out.put3 (a := w) (g := w.heap.size) (Nat.le_refl _) hwl.out.1 (.string ⟨#[]⟩) (.string ⟨#[]⟩) (.bool false))
          have HW4 := Lib.hid hw4
          clear hw4
          go_upto_region 6 with (fail)
          go_region
          all_goals
            go_wp2_with fail
            simp only [set3_drew, ← HW4.out]
            refine bodyPost_ret (results_c3b rfl _ _ w.heap.size _ _ _ _ _ _ rfl rfl rfl (C4.out.put _ _ _) Tryz.underlying49 rfl sizeEnt) rfl ?_
            refine ⟨.inl ⟨HLe.out.2, by rw [HLe.out.1]; rfl, FIN.out, ?_⟩, only_put3 O4.out (Nat.le_refl _) _ _ _⟩
            intro _
            have h1 := TF.out
            rw [HIe.out, HLen.out] at h1
            exact h1
      · subst hm0
        have hzb : (z == 0) = false := beq_eq_false_iff_ne.2 hz0
        have HLe := Lib.hid (show Z = z ∧ L = [] by
          have h1 := HR.out
          rw [HZR.out hz0, rest_bad hz0] at h1
          injection h1 with h1 h2
          exact ⟨h1.symm, h2.symm⟩)
        have HZ0 := Lib.hid hz0
        go_wp2_with fail
        go_quiet (fail)
        obtain ⟨w3, hw3⟩ : ∃ w3, w3 = wr.drewN nq := ⟨_, rfl⟩
        have B3 := Lib.hid (show Below wr.heap.size wr w3 by rw [hw3]; exact below_drewN (Below.refl _ _) _)
        rw [← hw3]
        have cl3 : w3.cell? ⟨lb, 0, none⟩ = some (.slice a 0 cap) := by rw [B3.out.cell (cell_block cl)]; exact cl
        have cf3 : w3.cell? ⟨fb, 0, none⟩ = some (.int .i64 z) := by rw [B3.out.cell (cell_block cfl)]; exact cfl
        have C3' := Lib.hid (hCr.out.below B3.out)
        have O3 := Lib.hid (hOr.out.trans (Only.of_below' (S := WS4 lb fb nb p) B3.out rfl))
        clear hw3 cl cfl cn ct cp
        obtain ⟨w4, hw4⟩ : ∃ w4, w4 = w3.drew := ⟨_, rfl⟩
        have B4 := Lib.hid (show Below w3.heap.size w3 w4 by rw [hw4]; exact (Below.refl _ _).drew)
        have C4 := Lib.hid (C3'.out.below B4.out)
        have O4 := Lib.hid (O3.out.trans (Only.of_below' (S := WS4 lb fb nb p) B4.out rfl))
        have z0 : w3.cell? ⟨w.heap.size, 0, none⟩ = some (.string ⟨#[]⟩) := C3'.out.c0
        have z1 : w3.cell? ⟨w.heap.size, 1, none⟩ = some (.string ⟨#[]⟩) := C3'.out.c1
        have z2 : w3.cell? ⟨w.heap.size, 2, none⟩ = some (.bool false) := C3'.out.c2
        have zf : ∀ j, w3.frozen? ⟨w.heap.size, j, none⟩ = false := C3'.out.free
        have q0 : w3.drew.cell? ⟨w.heap.size, 0, none⟩ = some (.string ⟨#[]⟩) := by rw [← hw4]; exact C4.out.c0
        have q1 : w3.drew.cell? ⟨w.heap.size, 1, none⟩ = some (.string ⟨#[]⟩) := by rw [← hw4]; exact C4.out.c1
        have q2 : w3.drew.cell? ⟨w.heap.size, 2, none⟩ = some (.bool false) := by rw [← hw4]; exact C4.out.c2
        have qf : ∀ j, w3.drew.frozen? ⟨w.heap.size, j, none⟩ = false := by rw [← hw4]; exact C4.out.free
        have f4 : w3.drew.cell? ⟨fb, 0, none⟩ = some (.int .i64 z) := cf3
        have f5 : (((w3.drew.setCell ⟨w.heap.size, 0, none⟩ (.string ⟨#[]⟩)).setCell ⟨w.heap.size, 1, none⟩ (.string ⟨#[]⟩)).setCell ⟨w.heap.size, 2, none⟩ (.bool false)).cell? ⟨fb, 0, none⟩ = some (.int .i64 z) := cell_same f4 (put3_same _ _ _ _ (by have := hwl.out; omega))
        have f6 : (((w3.setCell ⟨w.heap.size, 0, none⟩ (.string ⟨#[]⟩)).setCell ⟨w.heap.size, 1, none⟩ (.string ⟨#[]⟩)).setCell ⟨w.heap.size, 2, none⟩ (.bool false)).cell? ⟨fb, 0, none⟩ = some (.int .i64 z) := cell_same cf3 (put3_same _ _ _ _ (by have := hwl.out; omega))
        have M4 := Lib.hid (show WalkM lb fb nb tb kb p G key [] z i w4 by have h := (HM.out.below B3.out).below B4.out; rw [List.length_eq_zero_iff.1 Hm.out.symm] at h; exact h)
        have T4 := Lib.hid ((HT.out.below B3.out).below B4.out)
        have K4 := Lib.hid ((hWr.out.keep.below B3.out).below B4.out)
        have FIN := Lib.hid (show WalkS lb fb nb tb kb p G F c K t d n0 key Z [] (((w4.setCell ⟨w.heap.size, 0, none⟩ (.string ⟨#[]⟩)).setCell ⟨w.heap.size, 1, none⟩ (.string ⟨#[]⟩)).setCell ⟨w.heap.size, 2, none⟩ (.bool false)) from by
          have h1 := HR.out
          rw [List.length_eq_zero_iff.1 Hm.out.symm, HLe.out.2] at h1
          have h2 := hwl.out
          exact ⟨⟨[], z, i, M4.out.others (g := w.heap.size) (by omega) (put3_same _ _ _) (fun a _ _ => IsE.nil _ _), T4.out.put3 (a := w) (Nat.le_refl _) hwl.out.1 _ _ _, fun _ => rfl, by rw [← HLen.out]; exact hil, h1⟩, fun q hq => (put3_same _ _ _ _ (by have := heap_lt (hW.out.keep q hq); omega)).trans (K4.out q hq), hlts.out⟩)
        have TF := Lib.hid (T4.out.put3 (a := w) (g := w.heap.size) (Nat.le_refl _) hwl.out.1 (.string ⟨#[]⟩) (.string ⟨#[]⟩) (.bool false))
        have HW4 := Lib.hid hw4
        clear hw4
        go_upto_region 6 with (fail)
        go_region
        all_goals
          go_wp2_with fail
          simp only [set3_drew, ← HW4.out]
          refine bodyPost_ret (results_c3b rfl _ _ w.heap.size _ _ _ _ _ _ rfl rfl rfl (C4.out.put _ _ _) Tryz.underlying49 rfl sizeEnt) rfl ?_
          refine ⟨.inl ⟨HLe.out.2, by rw [HLe.out.1]; rfl, FIN.out, ?_⟩, only_put3 O4.out (Nat.le_refl _) _ _ _⟩
          intro h
          exact absurd (HLe.out.1.symm.trans h) HZ0.out
    · -- an entry
      have hm1 : 0 < m := by omega
      obtain ⟨b, off, x, rfl, hx, hdr, hcE⟩ := HE.out.at hm1
      obtain ⟨R1, hR1⟩ : ∃ R1, R1 = R.drop 1 := ⟨_, rfl⟩
      have HXR := Lib.hid (show R = x :: R1 by rw [hR1]; simpa using hdr)
      have hR1l : R1.length = m - 1 := by rw [hR1, List.length_drop, Hm.out]
      have hmb : ((m : Int) == 0) = false := beq_eq_false_iff_ne.2 (by omega)
      have hoz : off + 0 * 3 = off := by omega
      rw [hoz] at hcE
      have HCE := Lib.hid hcE
      obtain ⟨a1, hsl, hsE, hsa⟩ := slice_ents (a := some ⟨b, off, none⟩) (n := m) (cap := cap) (g := 1) hm1 m2
      have HSL := Lib.hid (show ∀ W, (Instr.slice 22 (.slice (some ⟨b, off, none⟩) m cap) (some (.int .i64 1)) none none).run Tryz.prog W = .ok (.slice a1 (m - 1) (cap - 1)) W from hsl)
      have HSE := Lib.hid (fun w => hsE w R)
      have HSA := Lib.hid hsa
      have HR1 := Lib.hid hR1
      have HR1l := Lib.hid hR1l
      have HM2 := Lib.hid m2
      clear hx hdr hcE hsl hsE hsa hR1 hR1l hoz m2 hm0
      go_wp2_with fail
      go_quiet (fail)
      obtain ⟨w3, hw3⟩ : ∃ w3, w3 = wr.drewN nq := ⟨_, rfl⟩
      have B3 := Lib.hid (show Below wr.heap.size wr w3 by rw [hw3]; exact below_drewN (Below.refl _ _) _)
      rw [← hw3]
      have cl3 : w3.cell? ⟨lb, 0, none⟩ = some (.slice (some ⟨b, off, none⟩) m cap) := by rw [B3.out.cell (cell_block cl)]; exact cl
      have CE3 := Lib.hid (HCE.out.below B3.out)
      have x0 := CE3.out.c0
      have x1 := CE3.out.c1
      have x2 := CE3.out.c2
      have M3 := Lib.hid (HM.out.below B3.out)
      have T3 := Lib.hid (HT.out.below B3.out)
      have K3 := Lib.hid (hWr.out.keep.below B3.out)
      have C3' := Lib.hid (hCr.out.below B3.out)
      have E3 := Lib.hid (HE.out.below B3.out)
      have O3 := Lib.hid (hOr.out.trans (Only.of_below' (S := WS4 lb fb nb p) B3.out rfl))
      clear hw3 cl cfl cn ct cp
      obtain ⟨w4, hw4⟩ : ∃ w4, w4 = w3.alloc (.cells #[.string (bs x.key), .string (bs x.val), .bool x.gone] 49) := ⟨_, rfl⟩
      have B4 := Lib.hid (show Below w3.heap.size w3 w4 by rw [hw4]; exact (Below.refl _ _).alloc (Nat.le_refl _) _)
      have X4 := Lib.hid (show C3 w3.heap.size 49 (.string (bs x.key)) (.string (bs x.val)) (.bool x.gone) w4 by rw [hw4]; exact heap_new w3 _)
      have cl4 : w4.cell? ⟨lb, 0, none⟩ = some (.slice (some ⟨b, off, none⟩) m cap) := by rw [B4.out.cell (cell_block cl3)]; exact cl3
      have M4 := Lib.hid (M3.out.below B4.out)
      have fl4 : w4.frozen? ⟨lb, 0, none⟩ = false := by obtain ⟨a, cap, h, _⟩ := M4.out.left; simp [World.frozen?, h]
      have T4 := Lib.hid (T3.out.below B4.out)
      have K4 := Lib.hid (K3.out.below B4.out)
      have C4 := Lib.hid (C3'.out.below B4.out)
      have E4 := Lib.hid (E3.out.below B4.out)
      have O4 := Lib.hid (O3.out.trans (Only.of_below' (S := WS4 lb fb nb p) B4.out rfl))
      have hg3 := Lib.hid (show w.heap.size < w3.heap.size ∧ lb < w3.heap.size from ⟨heap_lt C3'.out, cell_block cl3⟩)
      have HW4 := Lib.hid hw4
      clear hw4
      go_upto_region 8 with (fail)
      rw [← HW4.out]
      clear cl3 x0 x1 x2
      obtain ⟨w5, hw5⟩ : ∃ w5, w5 = w4.setCell ⟨lb, 0, none⟩ (.slice a1 (m - 1) (cap - 1)) := ⟨_, rfl⟩
      have M5 := Lib.hid (show WalkM lb fb nb tb kb p G key R1 z i w5 ∧ w5.heap[lb]? = some (.cells #[.slice a1 R1.length (cap - 1)] 22 (0, 0)) by
        have h := M4.out.setLeft (a := a1) (cap := cap - 1) (R' := R1) (by rw [HR1l.out]; have := HM2.out; omega) (by rw [HR1l.out, HR1.out]; exact HSE.out _ E4.out) (by rw [HR1.out]; exact slice_same (G := G) HSA.out E4.out fun b' off' h hne => (by obtain ⟨a0, cap0, g1, _⟩ := M4.out.left; have hc0 : w4.cell? ⟨lb, 0, none⟩ = some (.slice a0 R.length cap0) := (by simp [World.cell?, g1]); rw [cl4] at hc0; injection hc0 with hc0; injection hc0 with hc0 _ _; exact M4.out.row a0 cap0 b' off' g1 (by rw [← hc0]; exact h) hne))
        rw [HR1l.out] at h ⊢
        rw [hw5]
        obtain ⟨a0, cap0, g1, _⟩ := M4.out.left
        exact ⟨h, by rw [heap_set (o := 0) g1]; rfl⟩)
      obtain ⟨a0, cap0, g1, _⟩ := M4.out.left
      have T5 := Lib.hid (show TabM p (srcV F c) (n0 + (i : Int)) t w5 by rw [hw5]; exact T4.out.other g1 hlts.out.1 (fun j _ hne => heap_set_other hne _))
      have O45 := Lib.hid (show Only (WS4 lb fb nb p) w4 w5 by rw [hw5]; exact (Only.refl (WS4 lb fb nb p) w4).setCell (p := ⟨lb, 0, none⟩) (.inl (.inr (.inl rfl))) _)
      have O5 := Lib.hid (O4.out.trans (O45.out.mono fun j _ h => h))
      have K5 := Lib.hid (K4.out.only O45.out fun q hq => hKp.out q hq)
      have C5 := Lib.hid (show C3 w.heap.size 49 (.string ⟨#[]⟩) (.string ⟨#[]⟩) (.bool false) w5 by rw [hw5]; exact (heap_set_other (by have := hwl.out; omega) _).trans C4.out)
      have X5 := Lib.hid (show C3 w3.heap.size 49 (.string (bs x.key)) (.string (bs x.val)) (.bool x.gone) w5 by rw [hw5]; exact (heap_set_other (by have := hg3.out; omega) _).trans X4.out)
      have E5 := Lib.hid (show IsE w5 (some ⟨b, off, none⟩) m R by rw [hw5]; exact E4.out.beside g1 (by simp) fun j _ hne => heap_set_other hne _)
      have E5' := Lib.hid (HSE.out _ E5.out)
      have HW5 := Lib.hid hw5
      clear hw5 g1
      have hsl := HSL.out
      go_upto_region 9 with (fail)
      rw [← HW5.out]
      clear hsl cl4 fl4
      have x0 := X5.out.c0
      have x1 := X5.out.c1
      have x2 := X5.out.c2
      have q0 := C5.out.c0
      have q1 := C5.out.c1
      have q2 := C5.out.c2
      have qf := C5.out.free
      obtain ⟨L1, hL1, hrest⟩ := rest_cons (show restW t d key (x :: R1) z i = (Z, L) from by have h := HR.out; rw [HXR.out] at h; exact h)
      have HL1 := Lib.hid hL1
      have FIN := Lib.hid (show WalkS lb fb nb tb kb p G F c K t d n0 key Z L1 (((w5.setCell ⟨w.heap.size, 0, none⟩ (.string (bs x.key))).setCell ⟨w.heap.size, 1, none⟩ (.string (bs x.val))).setCell ⟨w.heap.size, 2, none⟩ (.bool x.gone)) from by
        have h2 := hwl.out
        refine ⟨⟨R1, z, i, M5.out.1.others (g := w.heap.size) (by omega) (put3_same _ _ _) (fun a _ hex => ?_), T5.out.put3 (a := w) (Nat.le_refl _) hwl.out.1 _ _ _, fun hz => ?_, by rw [← HLen.out]; exact hil, hrest⟩, fun q hq => (put3_same _ _ _ _ (by have := heap_lt (hW.out.keep q hq); omega)).trans (K5.out q hq), hlts.out⟩
        · obtain ⟨cap', hex⟩ := hex
          rw [M5.out.2] at hex
          injection hex with hex
          injection hex with hex _ _
          have hh := congrArg (fun v => v.toList) hex
          simp only [List.cons.injEq, and_true] at hh
          injection hh with hh _ _
          subst hh
          have h3 := IsE.tail E5.out E5'.out (fun b' off' h h' => HSA.out b' off' h h') C5.out (put3_same (.string (bs x.key)) (.string (bs x.val)) (.bool x.gone))
          rw [HR1l.out, HR1.out]
          exact h3
        · have := HZR.out hz
          rw [HXR.out] at this
          cases this)
      clear hrest hL1
      go_wp2_with fail
      refine bodyPost_ret (results_c3b rfl _ _ w.heap.size _ _ _ _ _ _ rfl rfl rfl (C5.out.put _ _ _) Tryz.underlying49 rfl sizeEnt) rfl ?_
      exact ⟨.inr ⟨x, L1, HL1.out, rfl, FIN.out⟩, only_put3 O5.out (Nat.le_refl _) _ _ _⟩
end Go.Proofs.YteejldddgogbkaaGreatDoor
/- The program's Walk called. -/
set_option linter.unusedVariables false
set_option maxRecDepth 100000
namespace Go.Proofs.YteejldddgogbkaaGreatDoor
open Go.RowKit

/-- From a key on, up to the first error; the source refuses with d. -/
def scanU (t : Tab) (d : Int) (k : List UInt8) : Int × List Ent :=
  scanD t d k (t.index.length - (fromN k (t.index.map (·.key)) - 1)) (fromN k (t.index.map (·.key)) - 1)
theorem scanU_zero (t : Tab) (k : List UInt8) : scanU t 0 k = scanT t k := scanD_zero t k _ _
theorem scanU_rest (t : Tab) (d : Int) (k : List UInt8) : restW t d k [] 0 (fromN k (t.index.map (·.key)) - 1) = scanU t d k := by
  unfold restW scanU
  rw [if_neg (fun h => h rfl), List.nil_append]
/-- What Walk answers. -/
structure WalkPost (p F : Nat) (c : Array Value) (K : List (Nat × Obj)) (t : Tab) (d n : Int) (key : List UInt8) (w : World) (e : Ending) (w' : World) : Prop where
  out : ∃ lb fb nb tb kb, e = .returned (walkV lb fb nb tb kb) ∧ (w.heap.size ≤ lb ∧ w.heap.size ≤ fb ∧ w.heap.size ≤ nb) ∧ (∀ G, WalkS lb fb nb tb kb p G F c K t d (n - ((fromN key (t.index.map (·.key)) - 1 : Nat) : Int)) key (scanU t d key).1 (scanU t d key).2 w') ∧ (lb < w'.heap.size ∧ fb < w'.heap.size ∧ nb < w'.heap.size ∧ tb < w'.heap.size ∧ kb < w'.heap.size)
  below : Below w.heap.size w w'
set_option maxHeartbeats 2000000 in
theorem table_Walk (p F : Nat) (c : Array Value) (K : List (Nat × Obj)) (t : Tab) (d n : Int) (key : List UInt8) (w : World) (hT : Hid (TabM p (srcV F c) n t w)) (hf : Hid (FineT t)) (hK : Hid (Keep K w)) :
    Calls Tryz.prog 54 #[.pointer (some ⟨p, 0, none⟩), .string (bs key)] w (WalkPost p F c K t d n key w) := by
  obtain ⟨w0, hw0⟩ : ∃ w0, (w.alloc (.cells #[.pointer (some ⟨p, 0, none⟩)] 34)).alloc (.cells #[.string (bs key)] 9) = w0 := ⟨_, rfl⟩
  have K0 := Lib.hid (show Below w.heap.size w w0 by rw [← hw0]; exact ((Below.refl _ _).alloc (Nat.le_refl _) _).alloc (by simp) _)
  have S0 := Lib.hid (show BxP w.heap.size p w0 by rw [← hw0]; exact (Below.heap_alloc _ _ _ (by simp)).trans (heap_new w _))
  have S1 := Lib.hid (show Bx (w.heap.size + 1) key w0 by
    have h := heap_new (w.alloc (.cells #[.pointer (some ⟨p, 0, none⟩)] 34)) (.cells #[.string (bs key)] 9)
    rw [show (w.alloc (.cells #[.pointer (some ⟨p, 0, none⟩)] 34)).heap.size = w.heap.size + 1 by simp] at h
    rw [← hw0]; exact h)
  have T0 := Lib.hid (hT.out.below K0.out)
  have Q0 := Lib.hid (hK.out.below K0.out)
  have hp := Lib.hid hT.out.lt
  have h0 : w0.cell? ⟨w.heap.size, 0, none⟩ = some (.pointer (some ⟨p, 0, none⟩)) := S0.out.cell
  have h1 : w0.cell? ⟨w.heap.size + 1, 0, none⟩ = some (.string (bs key)) := S1.out.cell
  obtain ⟨r, hr⟩ : ∃ r, r = fromN key (t.index.map (·.key)) := ⟨_, rfl⟩
  obtain ⟨i, hi⟩ : ∃ i, i = r - 1 := ⟨_, rfl⟩
  have hrl : r ≤ t.index.length := by rw [hr]; have := fromN_le key (t.index.map (·.key)); rwa [List.length_map] at this
  have hfew := hf.out.few
  have HC := Lib.hid (show Calls Tryz.prog 48 #[.pointer (some ⟨p, 0, none⟩), .string (bs key)] w0 fun e w' => e = .returned (.int .i64 ((r : Int) - 1)) ∧ Below w0.heap.size w0 w' by
    obtain ⟨a, cap, fb, fg, g1, g2, g3, g4, g5⟩ := T0.out.ex
    have h := table_blockOf p _ a _ cap (piecesOf t) key w0 (Lib.hid (by simp [World.cell?, g1])) (Lib.hid g2) (Lib.hid (pieces_rise hf.out)) (by omega)
    rw [pieces_keys hf.out, ← hr] at h
    exact h)
  have HS := Lib.hid (show restW t d key [] 0 i = ((scanU t d key).1, (scanU t d key).2) by rw [hi, hr, scanU_rest])
  have HI := Lib.hid (show i = fromN key (t.index.map (·.key)) - 1 by rw [hi, hr])
  have hmax : max ((r : Int) - 1) 0 = (i : Int) := by omega
  have HIL := Lib.hid (show i ≤ t.index.length by omega)
  have HW0 := Lib.hid hw0
  clear hw0 hr hi hrl hfew
  go_enter Tryz.func54, Tryz.ntmps54
  go_upto_region 1 with (fail)
  rw [HW0.out]
  go_wp2_with fail
  refine HC.out.mono ?_
  rintro e w1 ⟨rfl, k1⟩
  have T1 := Lib.hid (T0.out.below k1)
  have Q1 := Lib.hid (Q0.out.below k1)
  have B1 := Lib.hid (show Bx (w.heap.size + 1) key w1 from (k1.block _ (heap_lt S1.out)).trans S1.out)
  have P1 := Lib.hid (show BxP w.heap.size p w1 from (k1.block _ (heap_lt S0.out)).trans S0.out)
  have K1 := Lib.hid (K0.out.trans (k1.mono K0.out.size))
  clear k1 h0 h1
  obtain ⟨w2, hw2⟩ : ∃ w2, w2 = w1.alloc (.cells #[.int .i64 (i : Int)] 3) := ⟨_, rfl⟩
  obtain ⟨w3, hw3⟩ : ∃ w3, w3 = w2.alloc (.cells #[.slice none 0 0] 22) := ⟨_, rfl⟩
  obtain ⟨w4, hw4⟩ : ∃ w4, w4 = w3.alloc (.cells #[.int .i64 0] 25) := ⟨_, rfl⟩
  have b2 : Below w1.heap.size w1 w2 := by rw [hw2]; exact (Below.refl _ _).alloc (Nat.le_refl _) _
  have b3 : Below w2.heap.size w2 w3 := by rw [hw3]; exact (Below.refl _ _).alloc (Nat.le_refl _) _
  have b4 : Below w3.heap.size w3 w4 := by rw [hw4]; exact (Below.refl _ _).alloc (Nat.le_refl _) _
  have s2 : w2.heap.size = w1.heap.size + 1 := by rw [hw2]; simp
  have s3 : w3.heap.size = w1.heap.size + 2 := by rw [hw3]; simp [s2]
  have b14 : Below w1.heap.size w1 w4 := b2.trans ((b3.mono (by omega)).trans (b4.mono (by omega)))
  have n4 : w4.heap[w1.heap.size]? = some (.cells #[.int .i64 (i : Int)] 3 (0, 0)) := ((b4.block _ (by omega)).trans (b3.block _ (by omega))).trans (by rw [hw2]; exact heap_new w1 _)
  have l4 : w4.heap[w1.heap.size + 1]? = some (.cells #[.slice none 0 0] 22 (0, 0)) := (b4.block _ (by omega)).trans (by rw [hw3, ← s2]; exact heap_new w2 _)
  have f4 : w4.heap[w1.heap.size + 2]? = some (.cells #[.int .i64 0] 25 (0, 0)) := by rw [hw4, ← s3]; exact heap_new w3 _
  have FIN := Lib.hid (show ∀ G, WalkS (w1.heap.size + 1) (w1.heap.size + 2) w1.heap.size w.heap.size (w.heap.size + 1) p G F c K t d (n - ((fromN key (t.index.map (·.key)) - 1 : Nat) : Int)) key (scanU t d key).1 (scanU t d key).2 w4 by
    intro G
    refine ⟨⟨[], 0, i, ⟨⟨none, 0, l4, Nat.le_refl _, IsE.nil _ _⟩, f4, n4, (b14.block _ (heap_lt P1.out)).trans P1.out, (b14.block _ (heap_lt B1.out)).trans B1.out, fun _ _ _ _ _ _ hne => absurd rfl hne⟩, ?_, fun _ => rfl, HIL.out, HS.out⟩, Q1.out.below b14, ?_⟩
    · rw [← HI.out, show n - (i : Int) + (i : Int) = n by omega]
      exact T1.out.below b14
    · have := hp.out
      have := K1.out.size
      omega)
  have L4 := Lib.hid (show w1.heap.size + 1 < w4.heap.size ∧ w1.heap.size + 2 < w4.heap.size ∧ w1.heap.size < w4.heap.size ∧ w.heap.size < w4.heap.size ∧ w.heap.size + 1 < w4.heap.size from ⟨heap_lt l4, heap_lt f4, heap_lt n4, Nat.lt_of_lt_of_le (heap_lt P1.out) b14.size, Nat.lt_of_lt_of_le (heap_lt B1.out) b14.size⟩)
  have K4 := Lib.hid (K1.out.trans (b14.mono K1.out.size))
  have HW4 := Lib.hid (show ((w1.alloc (.cells #[.int .i64 (i : Int)] 3)).alloc (.cells #[.slice none 0 0] 22)).alloc (.cells #[.int .i64 0] 25) = w4 by rw [hw4, hw3, hw2])
  have hs1 := Lib.hid K1.out.size
  clear hw2 hw3 hw4 b2 b3 b4 s2 s3 b14 n4 l4 f4
  go_wp2_with fail
  go_ret
  rw [HW4.out]
  exact ⟨⟨w1.heap.size + 1, w1.heap.size + 2, w1.heap.size, w.heap.size, w.heap.size + 1, rfl, by have := hs1.out; omega, FIN.out, L4.out⟩, K4.out⟩
end Go.Proofs.YteejldddgogbkaaGreatDoor
