/- The document's filter of any bytes. -/
import Derived.Test.YtbiifdnicieamaaDoorBloomRefPack
import Derived.Test.YtbiifdnicieamaaDoorRange
import Derived.Deep.AppendLies
set_option linter.unusedVariables false
set_option maxRecDepth 100000
namespace Go.Proofs.YtbiifdnicieamaaDoor
open Go.RowKit

theorem results_fv' {fn : Func} {p u : Tmp} (h : fn.results = #[.cell p 31, .tmp u]) (tmps : Array Value) (w : World) (b : Nat) (v0 v1 x : Value) (hp : tmps.getD p undef = .pointer (some ⟨b, 0, none⟩)) (hx : tmps.getD u undef = x) (h0 : w.cell? ⟨b, 0, none⟩ = some v0) (h1 : w.cell? ⟨b, 1, none⟩ = some v1) :
    (results fn tmps).run Tryd.prog w = .ok (.tuple #[.agg #[v0, v1], x]) w := by
  obtain ⟨d, hd, hr⟩ := row31
  exact results_cell_bool h tmps Tryd.prog w b 0 [v0, v1] d x hp hx (range2 h0 h1) hd hr size31

/-- A slice of bits of the call's own: the first n bits of the bytes T. -/
def OwnB (B : Nat) (v : Value) (T : List UInt8) (n : Nat) (w : World) : Prop := w.ownsRow B 4 1 v n ((List.range n).map fun x => Value.bool (bitAt T x))
theorem OwnB.push {B : Nat} {v' : Value} {T : List UInt8} {n : Nat} {w' : World} {c : Bool} (h : w'.ownsRow B 4 1 v' (n + 1) (((List.range n).map fun x => Value.bool (bitAt T x)) ++ [.bool c])) (hc : c = bitAt T n) : OwnB B v' T (n + 1) w' := by
  unfold OwnB
  rw [List.range_succ, List.map_append, List.map_cons, List.map_nil, ← hc]
  exact h
theorem grown_setCell (w : World) (b o : Nat) (v : Value) : w.grownBy (w.setCell ⟨b, o, none⟩ v) (some b) :=
  ⟨rfl, rfl, rfl, by simp, fun j hj hne => Below.heap_setCell w ⟨b, o, none⟩ v j (fun e => hne (by rw [e]))⟩
theorem OwnB.set {B F o : Nat} {v u : Value} {T : List UInt8} {n : Nat} {w : World} (h : OwnB B v T n w) (hF : F < B) : OwnB B v T n (w.setCell ⟨F, o, none⟩ u) :=
  World.ownsRow.kept h (grown_setCell w F o u) (by
    cases e : v.ownBlock with
    | none => exact .inl rfl
    | some x => exact .inr (fun e2 => by have := (World.ownsRow.lt h x e).1; cases e2; omega))
theorem OwnB.row {B : Nat} {v : Value} {T : List UInt8} {n : Nat} {w : World} (h : OwnB B v T n w) (hn : 0 < n) : ∃ g cap, v = .slice (some ⟨g, 0, none⟩) n cap ∧ B ≤ g ∧ RowB g (bitAt T) n w := by
  have h' := h
  rcases h.2 with ⟨_, h0⟩ | ⟨g, cap, cur, rfl, hB, hg, _⟩
  · omega
  · refine ⟨g, cap, rfl, hB, (Array.getElem?_eq_some_iff.1 hg).1, fun j hj => ⟨?_, World.ownsRow.frozenAt h' j⟩⟩
    rw [World.ownsRow.cellAt h' j (by omega)]
    simp [hj]
theorem OwnB.slice {B : Nat} {v : Value} {T : List UInt8} {n : Nat} {w : World} (h : OwnB B v T n w) : ∃ a cap, v = .slice a n cap := by
  rcases h.2 with ⟨rfl, rfl⟩ | ⟨g, cap, cur, rfl, _⟩
  · exact ⟨none, 0, rfl⟩
  · exact ⟨_, _, rfl⟩
theorem OwnB.below {B : Nat} {v : Value} {T : List UInt8} {n : Nat} {w w' : World} (h : OwnB B v T n w) (k : Below w.heap.size w w') : OwnB B v T n w' := World.ownsRow.kept (row := none) h ⟨k.os, k.tape, k.output, k.size, fun j hj _ => k.block j hj⟩ (by cases e : v.ownBlock with
  | none => exact .inl rfl
  | some x => exact .inr (by simp))
/-- What stands in the filter's block while its bits come. -/
structure Half (F B : Nat) (n : Int) (T : List UInt8) (b : Nat) (W w : World) : Prop where
  c0 : w.cell? ⟨F, 0, none⟩ = some (.int .i64 n)
  c1 : ∃ a cap, w.cell? ⟨F, 1, none⟩ = some (.slice a b cap) ∧ OwnB B (.slice a b cap) T b w
  fz : w.frozen? ⟨F, 1, none⟩ = false
  on : Only (fun j => j = F) W w
theorem bitAt_byte (T : List UInt8) (q j : Nat) (h : j < 8) : bitAt T (8 * q + j) = (byteAt T q / 2 ^ j % 2 == 1) := by
  unfold bitAt
  rw [show (8 * q + j) / 8 = q by omega, show (8 * q + j) % 8 = j by omega]

def ROpened (n k e1 e2 m : Int) (T : List UInt8) (s : ByteArray) (w : World) (e : Ending) (w' : World) : Prop := Below w.heap.size w w' ∧
      ((e1 ≠ 0 ∧ e = .returned (.tuple #[noF, .int .i64 e1])) ∨ (e1 = 0 ∧ (n < 1 ∨ 8 < n) ∧ e = .returned (.tuple #[noF, .int .i64 3])) ∨
       (e1 = 0 ∧ ¬ (n < 1 ∨ 8 < n) ∧ e2 ≠ 0 ∧ e = .returned (.tuple #[noF, .int .i64 e2])) ∨ (e1 = 0 ∧ ¬ (n < 1 ∨ 8 < n) ∧ e2 = 0 ∧ (T = [] ∨ T.length % 8 ≠ 0) ∧ e = .returned (.tuple #[noF, .int .i64 3])) ∨
       (e1 = 0 ∧ ¬ (n < 1 ∨ 8 < n) ∧ e2 = 0 ∧ ¬ (T = [] ∨ T.length % 8 ≠ 0) ∧ k + m ≠ (s.size : Int) ∧ e = .returned (.tuple #[noF, .int .i64 5])) ∨
       (e1 = 0 ∧ ¬ (n < 1 ∨ 8 < n) ∧ e2 = 0 ∧ ¬ (T = [] ∨ T.length % 8 ≠ 0) ∧ k + m = (s.size : Int) ∧ ∃ g cap, w.heap.size ≤ g ∧ e = .returned (.tuple #[fv n.toNat g (8 * T.length) cap, .int .i64 0]) ∧ RowB g (bitAt T) (8 * T.length) w'))

set_option maxHeartbeats 1000000 in
theorem ropen_core (s S1 : ByteArray) (T : List UInt8) (n e1 e2 m : Int) (k : Nat) (w : World)
    (h1 : Hid (∀ w', Calls Tryd.prog 34 #[.string s] w' fun e w'' => e = .returned (.tuple #[.int .i64 n, .int .i64 (k : Int), .int .i64 e1]) ∧ w' = w''))
    (h2 : Hid (∀ w', Calls Tryd.prog 35 #[.string S1] w' fun e w'' => e = .returned (.tuple #[.string (bs T), .int .i64 m, .int .i64 e2]) ∧ w' = w''))
    (hS : s.extract k s.size = S1) (hk : k ≤ s.size) (hs : s.size ≤ 1000000) (hm : 0 ≤ m ∧ m ≤ 1000000) (hT : T.length ≤ 1000000) :
    Calls Tryd.prog 17 #[.string s] w (ROpened n k e1 e2 m T s w) := by
  obtain ⟨i0, hi, hz0, hz1, hz2⟩ := info_parts info4
  obtain ⟨Z, hZ⟩ : ∃ Z, Z = w.heap.size := ⟨_, rfl⟩
  obtain ⟨w1, hw1⟩ : ∃ w1, w1 = w.alloc (.cells #[.int .i64 0, .slice none 0 0] 31) := ⟨_, rfl⟩
  have B1 := Lib.hid (show Below w.heap.size w w1 by rw [hw1]; exact (Below.refl _ _).alloc (Nat.le_refl _) _)
  have S1z := Lib.hid (show w1.heap.size = Z + 1 by rw [hw1, hZ]; simp)
  have HZ := Lib.hid hZ
  have HW1 := Lib.hid hw1
  have r1 := Lib.hid (show w1.cell? ⟨Z, 0, none⟩ = some (.int .i64 0) ∧ w1.cell? ⟨Z, 1, none⟩ = some (.slice none 0 0) ∧ w1.frozen? ⟨Z, 0, none⟩ = false ∧ w1.frozen? ⟨Z, 1, none⟩ = false by
    rw [hw1, hZ, World.cell?_alloc_mark, World.cell?_alloc_mark, World.frozen?_alloc_mark, World.frozen?_alloc_mark]; exact ⟨rfl, rfl, rfl, rfl⟩)
  have a0 := r1.out.1
  have a1 := r1.out.2.1
  have a2 := r1.out.2.2.1
  have a3 := r1.out.2.2.2
  have hset : ∀ x : World → Prop, x ((w1.setCell ⟨Z, 0, none⟩ (.int .i64 0)).setCell ⟨Z, 1, none⟩ (.slice none 0 0)) → True := fun _ _ => trivial
  obtain ⟨w2, hw2⟩ : ∃ w2, w2 = (w1.setCell ⟨Z, 0, none⟩ (.int .i64 0)).setCell ⟨Z, 1, none⟩ (.slice none 0 0) := ⟨_, rfl⟩
  have B2 := Lib.hid (show Below w.heap.size w w2 by rw [hw2]; exact (B1.out.setCell (p := ⟨Z, 0, none⟩) (by rw [hZ]; exact Nat.le_refl _) _).setCell (p := ⟨Z, 1, none⟩) (by rw [hZ]; exact Nat.le_refl _) _)
  have b0 := Lib.hid (show w2.cell? ⟨Z, 0, none⟩ = some (.int .i64 0) by rw [hw2, World.cell?_setCell_other _ _ _ _ (by simp), World.cell?_setCell_same' _ _ _ (by rw [a0]; rfl)])
  have b1 := Lib.hid (show w2.cell? ⟨Z, 1, none⟩ = some (.slice none 0 0) by rw [hw2, World.cell?_setCell_same' _ _ _ (by rw [World.cell?_setCell_other _ _ _ _ (by simp), a1]; rfl)])
  have HW2 := Lib.hid hw2
  clear hset hw2 hw1 hZ
  go_enter Tryd.func17, Tryd.ntmps17
  go_upto_region 1 with (fail)
  change Code.wp _ _ _ _ (w.alloc (.cells #[.int .i64 0, .slice none 0 0] 31))
  rw [← HW1.out, ← HZ.out]
  go_wp2_with fail
  refine (h1.out w1).mono ?_
  rintro e _ ⟨rfl, rfl⟩
  by_cases he1 : e1 = 0
  · subst he1
    by_cases hn : n < 1 ∨ 8 < n
    · rcases hn with hn | hn
      · go_wp2_with fail
        rw [← HW2.out]
        exact bodyPost_ret (results_fv' rfl _ _ Z (.int .i64 0) (.slice none 0 0) (.int .i64 3) rfl rfl b0.out b1.out) rfl ⟨B2.out, .inr (.inl ⟨rfl, .inl hn, rfl⟩)⟩
      · have hn1 : ¬ n < 1 := by omega
        go_wp2_with fail
        rw [← HW2.out]
        exact bodyPost_ret (results_fv' rfl _ _ Z (.int .i64 0) (.slice none 0 0) (.int .i64 3) rfl rfl b0.out b1.out) rfl ⟨B2.out, .inr (.inl ⟨rfl, .inr hn, rfl⟩)⟩
    · have hn1 : ¬ n < 1 := fun h => hn (.inl h)
      have hn8 : ¬ 8 < n := fun h => hn (.inr h)
      have Hn := Lib.hid hn
      clear hn
      go_wp2_with fail
      refine (h2.out w1).mono ?_
      rintro e _ ⟨rfl, rfl⟩
      by_cases he2 : e2 = 0
      · subst he2
        by_cases hT0 : T = []
        · subst hT0
          have hE : (bs []).toList.isEmpty = true := by rw [Lib.toList_data, bs_list]; rfl
          have ht := Lib.hid hT
          clear hT
          go_wp2_with fail
          rw [← HW2.out]
          exact bodyPost_ret (results_fv' rfl _ _ Z (.int .i64 0) (.slice none 0 0) (.int .i64 3) rfl rfl b0.out b1.out) rfl ⟨B2.out, .inr (.inr (.inr (.inl ⟨rfl, Hn.out, rfl, .inl rfl, rfl⟩)))⟩
        · have hE : (bs T).toList.isEmpty = false := by rw [Lib.toList_data, bs_list]; cases T with | nil => exact absurd rfl hT0 | cons a l => rfl
          have HT0 := Lib.hid hT0
          obtain ⟨L, hml⟩ : ∃ L, L = T.length := ⟨_, rfl⟩
          have hml' : (bs T).size = L := by rw [bs_size, hml]
          have hmb : L ≤ 1000000 := by rw [hml]; exact hT
          by_cases hm8 : T.length % 8 = 0
          · have HM := Lib.hid hm8
            have hrem : (L : Int) % 8 = 0 := by omega
            have HML := Lib.hid hml
            clear hm8 hT0 hml hT
            by_cases hkm : (k : Int) + m = (s.size : Int)
            · have HKM := Lib.hid hkm
              have hL1 : 1 ≤ L := by
                have := HT0.out
                rw [HML.out]
                cases T with
                | nil => exact absurd rfl this
                | cons a l => simp
              obtain ⟨F, hF⟩ : ∃ F, F = Z + 1 := ⟨_, rfl⟩
              obtain ⟨W2, hW2⟩ : ∃ W2, W2 = w1.alloc (.cells #[.int .i64 n, .slice none 0 0] 31) := ⟨_, rfl⟩
              have S2 := Lib.hid (show W2.heap.size = F + 1 by rw [hW2]; simp [S1z.out, hF])
              have q2 := Lib.hid (show Half F W2.heap.size n T 0 W2 W2 from by
                have h0 := World.cell?_alloc_mark w1 #[.int .i64 n, .slice none 0 0] 31 (0, 0)
                have h3 := World.frozen?_alloc_mark w1 #[.int .i64 n, .slice none 0 0] 31 0 0
                rw [S1z.out, ← hF, ← hW2] at h0 h3
                exact ⟨(h0 0).trans rfl, ⟨none, 0, (h0 1).trans rfl, World.ownsRow_nil _ _ _ _⟩, (h3 1).trans (by simp), Only.refl _ _⟩)
              have r2 := Lib.hid (show W2.cell? ⟨Z, 0, none⟩ = some (.int .i64 0) ∧ W2.cell? ⟨Z, 1, none⟩ = some (.slice none 0 0) ∧ W2.frozen? ⟨Z, 0, none⟩ = false ∧ W2.frozen? ⟨Z, 1, none⟩ = false by
                have k1 : Below (Z + 1) w1 W2 := by rw [hW2, ← S1z.out]; exact (Below.refl _ _).alloc (Nat.le_refl _) _
                rw [k1.cell (p := ⟨Z, 0, none⟩) (by simp), k1.cell (p := ⟨Z, 1, none⟩) (by simp), YtbiifdnicieamaaDoor.Below.frozen k1 (by omega), YtbiifdnicieamaaDoor.Below.frozen k1 (by omega)]
                exact r1.out)
              have BW2 := Lib.hid (show Below w.heap.size w W2 by rw [hW2]; exact B1.out.alloc B1.out.size _)
              have HW2' := Lib.hid hW2
              have HF := Lib.hid hF
              have hFe := S1z.out
              rw [← hF] at hFe
              clear hW2 hF a0 a1 a2 a3
              go_upto_region 14 with (fail)
              change Code.wp _ _ _ _ (w1.alloc (.cells #[.int .i64 n, .slice none 0 0] 31))
              rw [← HW2'.out]
              clear hkm hFe hrem
              go_wp2_with fail
              go_loopw [10] (fun vi wr => ∃ q : Nat, q ≤ L ∧ vi = .int .i64 q ∧ Hid (Half F W2.heap.size n T (8 * q) W2 wr)) (fun vi wr => L - (intOf vi).toNat)
              case atStart => exact ⟨0, by omega, rfl, q2⟩
              case round =>
                obtain ⟨q, hq, rfl, hH⟩ := hrel
                rcases Nat.lt_or_ge q L with hqL | hqL
                · have hbx := byte_bs T q (by rw [hml']; exact hqL)
                  obtain ⟨X0, hX0⟩ : ∃ X0, X0 = byteAt T q := ⟨_, rfl⟩
                  rw [← hX0] at hbx
                  have HX0 := Lib.hid hX0
                  clear hX0
                  go_wp2_with fail
                  go_loopw [11, 12] (fun vx vj wr => ∃ j : Nat, j ≤ 8 ∧ vj = .int .i64 j ∧ vx = .int .u8 ((byteAt T q / 2 ^ j : Nat) : Int) ∧ Hid (Half F W2.heap.size n T (8 * q + j) W2 wr)) (fun vx vj wr => 8 - (intOf vj).toNat)
                  case atStart => exact ⟨0, by omega, rfl, by rw [HX0.out]; simp, hH⟩
                  case round =>
                    obtain ⟨j, hj8, rfl, rfl, hHj⟩ := hrel
                    rcases Nat.lt_or_ge j 8 with hjl | hjl
                    · obtain ⟨c0, ⟨sa, cap, c1, hOw⟩, fz, on⟩ := hHj.out
                      obtain ⟨b, hb⟩ : ∃ b, b = 8 * q + j := ⟨_, rfl⟩
                      rw [← hb] at c1 hOw
                      have hbl : b < 8 * L := by omega
                      obtain ⟨X, hX⟩ : ∃ X, X = byteAt T q / 2 ^ j := ⟨_, rfl⟩
                      obtain ⟨X2, hX2⟩ : ∃ X2, X2 = byteAt T q / 2 ^ (j + 1) := ⟨_, rfl⟩
                      have hXX : X2 = X / 2 := by rw [hX2, hX, Nat.pow_succ, Nat.div_div_eq_div_mul]
                      obtain ⟨y, hy⟩ : ∃ y, y = bitAt T b := ⟨_, rfl⟩
                      have hyX : (X % 2 == 1) = y := by rw [hy, hb, bitAt_byte T q j hjl, hX]
                      have hy1 : (((X : Int) % 2) == 1) = y := by
                        rw [← hyX, Bool.eq_iff_iff]; simp; omega
                      have hdv : (X : Int) / 2 = (X2 : Int) := by omega
                      have hX256 : X < 256 := by rw [hX]; exact Nat.lt_of_le_of_lt (Nat.div_le_self _ _) (byteAt_lt _ _)
                      have HO := Lib.hid hOw
                      have HC0 := Lib.hid c0
                      have HON := Lib.hid on
                      have hsz := Lib.hid (show W2.heap.size ≤ wr.heap.size from on.size)
                      have HY := Lib.hid hy
                      have HX2 := Lib.hid hX2
                      have HB := Lib.hid (show 8 * q + (j + 1) = b + 1 by omega)
                      have HNE := Lib.hid (show some F ≠ (Value.slice sa b cap).ownBlock ∧ ∀ y, F < (wr.alloc (.cells #[.bool y] 4)).heap.size from ⟨fun e => by have := (World.ownsRow.lt hOw F e.symm).1; rw [S2.out] at this; omega, fun y => by have := on.size; rw [S2.out] at this; simp; omega⟩)
                      have HFz := Lib.hid fz
                      have HC1 := Lib.hid c1
                      rw [← hX]
                      clear hX hX2 hXX hy hyX hOw c0 on hb
                      go_wp2_with (first | (refine wpList_append_own _ rfl (.tmp 74) (.tmp 78) 29 rfl W2.heap.size 4 i0 (.bool false) 1 1 Tryd.underlying29 hi hz0 hz1 hz2 rfl (by decide) (.slice sa b cap) b ((List.range b).map fun x => Value.bool (bitAt T x)) (by simp [Act.eval, Act.put]) (World.ownsRow.alloc HO.out _) ⟨wr.heap.size, 0, none⟩ 1 1 [.bool y] (by simp [Act.eval, Act.put]) rfl (fun j u hj => cell_one_new _ _ _ j u hj) (by simp [Value.oneCell']) (by unfold maxLen; omega) (by omega) (by have := hsz.out; simp; omega) ?_; intro v3 w3 hown3 hg3 _; obtain ⟨sa3, cap3, rfl⟩ := OwnB.slice (OwnB.push hown3 HY.out); have c1' : w3.cell? ⟨F, 1, none⟩ = some (.slice sa b cap) := (World.grownBy.cell_far hg3 ⟨F, 1, none⟩ (HNE.out.2 y) (HNE.out.1)).trans (cell_on _ HC1.out); have fz' : w3.frozen? ⟨F, 1, none⟩ = false := (World.grownBy.frozen_far hg3 ⟨F, 1, none⟩ (HNE.out.2 y) (HNE.out.1)).trans (free_on _ HC1.out HFz.out)))
                      have HO3 := Lib.hid (OwnB.push hown3 HY.out)
                      go_roundw
                      case rel =>
                        refine ⟨j + 1, by omega, by go_num, by rw [HX2.out], Lib.hid ?_⟩
                        rw [HB.out]
                        have kF : F < wr.heap.size := by have := hsz.out; rw [S2.out] at this; omega
                        refine ⟨?_, ⟨sa3, cap3, World.cell?_setCell_same' _ _ _ (by rw [c1']; rfl), HO3.out.set (by rw [S2.out]; omega)⟩, by rw [World.frozen?_setCell]; exact fz', ?_⟩
                        · rw [World.cell?_setCell_other _ _ _ _ (by simp)]
                          exact (World.grownBy.cell_far hg3 ⟨F, 0, none⟩ (HNE.out.2 y) (HNE.out.1)).trans (cell_on _ HC0.out)
                        · exact (((HON.out.alloc _)).grown hg3 (fun i hi => .inr (World.ownsRow.lt HO.out i hi).1)).setCell (.inl rfl) _
                      case measure => simp [intOf]; omega
                    · obtain rfl : j = 8 := by omega
                      go_wp2_with fail
                      exact ⟨⟨q + 1, by omega, by go_num, by rw [show 8 * (q + 1) = 8 * q + 8 by omega]; exact hHj⟩, by simp [intOf]; omega⟩
                · obtain rfl : q = L := by omega
                  obtain ⟨c0, ⟨sa, cap, c1, hOw⟩, fz, on⟩ := hH.out
                  obtain ⟨g, cg, hsl, hgB, hrow⟩ := OwnB.row hOw (by omega)
                  obtain ⟨b, hb⟩ : ∃ b, b = 8 * q := ⟨_, rfl⟩
                  rw [← hb] at c1 hOw hsl hrow
                  have hsl' : sa = some ⟨g, 0, none⟩ ∧ cap = cg := by cases hsl; exact ⟨rfl, rfl⟩
                  obtain ⟨rfl, rfl⟩ := hsl'
                  have z := on.block Z (by rw [S2.out]; have := HF.out; omega) (by have := HF.out; omega)
                  have z0 : wr.cell? ⟨Z, 0, none⟩ = some (.int .i64 0) ∧ wr.cell? ⟨Z, 1, none⟩ = some (.slice none 0 0) ∧ wr.frozen? ⟨Z, 0, none⟩ = false ∧ wr.frozen? ⟨Z, 1, none⟩ = false := by
                    have h1 := r2.out
                    unfold World.cell? World.frozen? at h1 ⊢
                    rw [z]
                    exact h1
                  obtain ⟨z0, z1, z2, z3⟩ := z0
                  have t0 := Lib.hid (show ((wr.setCell ⟨Z, 0, none⟩ (.int .i64 n)).setCell ⟨Z, 1, none⟩ (.slice (some ⟨g, 0, none⟩) b cap)).cell? ⟨Z, 0, none⟩ = some (.int .i64 n) by
                    rw [World.cell?_setCell_other _ _ _ _ (by simp), World.cell?_setCell_same' _ _ _ (by rw [z0]; rfl)])
                  have t1 := Lib.hid (show ((wr.setCell ⟨Z, 0, none⟩ (.int .i64 n)).setCell ⟨Z, 1, none⟩ (.slice (some ⟨g, 0, none⟩) b cap)).cell? ⟨Z, 1, none⟩ = some (.slice (some ⟨g, 0, none⟩) b cap) by
                    rw [World.cell?_setCell_same' _ _ _ (by rw [World.cell?_setCell_other _ _ _ _ (by simp), z1]; rfl)])
                  have hgZ : Z ≠ g := by have := HF.out; rw [S2.out] at hgB; omega
                  have tr := Lib.hid (show RowB g (bitAt T) b ((wr.setCell ⟨Z, 0, none⟩ (.int .i64 n)).setCell ⟨Z, 1, none⟩ (.slice (some ⟨g, 0, none⟩) b cap)) from
                    ⟨by have := hrow.1; simpa using this, fun j hj => ⟨by rw [World.cell?_setCell_other _ _ _ _ (fun e => hgZ (by injection e)), World.cell?_setCell_other _ _ _ _ (fun e => hgZ (by injection e))]; exact (hrow.2 j hj).1, by rw [World.frozen?_setCell, World.frozen?_setCell]; exact (hrow.2 j hj).2⟩⟩)
                  have tb := Lib.hid (show Below w.heap.size w ((wr.setCell ⟨Z, 0, none⟩ (.int .i64 n)).setCell ⟨Z, 1, none⟩ (.slice (some ⟨g, 0, none⟩) b cap)) from
                    ((BW2.out.trans (on.below (fun j _ e => by rw [e, HF.out, HZ.out]; omega) BW2.out.size)).setCell (p := ⟨Z, 0, none⟩) (by rw [HZ.out]; exact Nat.le_refl _) _).setCell (p := ⟨Z, 1, none⟩) (by rw [HZ.out]; exact Nat.le_refl _) _)
                  have Hb := Lib.hid (show b = 8 * T.length by rw [hb, HML.out])
                  have HgB := Lib.hid (show w.heap.size ≤ g from Nat.le_trans BW2.out.size hgB)
                  have HNN := Lib.hid (show ((n.toNat : Nat) : Int) = n by have := Hn.out; omega)
                  clear hOw hrow on hgB hsl z hb
                  go_wp2_with fail
                  refine bodyPost_ret (results_fv' rfl _ _ Z (.int .i64 n) (.slice (some ⟨g, 0, none⟩) b cap) (.int .i64 0) rfl rfl t0.out t1.out) rfl ⟨tb.out, .inr (.inr (.inr (.inr (.inr ⟨rfl, Hn.out, rfl, fun h => h.elim HT0.out (fun h => h HM.out), HKM.out, g, cap, HgB.out, ?_, ?_⟩))))⟩
                  · unfold fv
                    rw [← Hb.out, HNN.out]
                  · rw [← Hb.out]
                    exact tr.out
            · have hb : ((k : Int) + m == (s.size : Int)) = false := beq_eq_false_iff_ne.2 hkm
              have HKM := Lib.hid hkm
              clear hkm
              go_wp2_with fail
              rw [← HW2.out]
              exact bodyPost_ret (results_fv' rfl _ _ Z (.int .i64 0) (.slice none 0 0) (.int .i64 5) rfl rfl b0.out b1.out) rfl ⟨B2.out, .inr (.inr (.inr (.inr (.inl ⟨rfl, Hn.out, rfl, fun h => h.elim HT0.out (fun h => h HM.out), HKM.out, rfl⟩))))⟩
          · have HM := Lib.hid hm8
            have hrem : ((L : Int) % 8 != 0) = true := by rw [bne_iff_ne]; omega
            have HML := Lib.hid hml
            clear hm8 hT0 hml hT
            go_wp2_with fail
            rw [← HW2.out]
            exact bodyPost_ret (results_fv' rfl _ _ Z (.int .i64 0) (.slice none 0 0) (.int .i64 3) rfl rfl b0.out b1.out) rfl ⟨B2.out, .inr (.inr (.inr (.inl ⟨rfl, Hn.out, rfl, .inr HM.out, rfl⟩)))⟩
      · have hb : (e2 == 0) = false := beq_eq_false_iff_ne.2 he2
        have He2 := Lib.hid he2
        clear he2
        go_wp2_with fail
        rw [← HW2.out]
        exact bodyPost_ret (results_fv' rfl _ _ Z (.int .i64 0) (.slice none 0 0) (.int .i64 e2) rfl rfl b0.out b1.out) rfl ⟨B2.out, .inr (.inr (.inl ⟨rfl, Hn.out, He2.out, rfl⟩))⟩
  · have hb : (e1 == 0) = false := beq_eq_false_iff_ne.2 he1
    have He1 := Lib.hid he1
    clear he1
    go_wp2_with fail
    rw [← HW2.out]
    exact bodyPost_ret (results_fv' rfl _ _ Z (.int .i64 0) (.slice none 0 0) (.int .i64 e1) rfl rfl b0.out b1.out) rfl ⟨B2.out, .inl ⟨He1.out, rfl⟩⟩

def ROpenPost (l : List UInt8) (w : World) (e : Ending) (w' : World) : Prop :=
  Below w.heap.size w w' ∧ ((openE l ≠ 0 ∧ e = .returned (.tuple #[noF, .int .i64 (openE l)])) ∨
    (openE l = 0 ∧ ∃ g cap, w.heap.size ≤ g ∧ e = .returned (.tuple #[fv (openH l) g (8 * (openT l).length) cap, .int .i64 0]) ∧ RowB g (bitAt (openT l)) (8 * (openT l).length) w'))
theorem ref_Open (s : ByteArray) (w : World) (hs : s.size ≤ 900000) : Calls Tryd.prog 17 #[.string s] w (ROpenPost s.data.toList w) := by
  obtain ⟨l, hl⟩ : ∃ l, l = s.data.toList := ⟨_, rfl⟩
  have hlen : l.length = s.size := by rw [hl, ← Lib.size_eq]
  have hm : maxLen = 9223372036854775807 := rfl
  obtain ⟨S1, hS1⟩ : ∃ S1, S1 = s.extract (ck l) s.size := ⟨_, rfl⟩
  have e1 : S1.data.toList = openL l := by rw [hS1, extract_rest, ← hl]; rfl
  have z1 : S1.size ≤ maxLen := by rw [hS1, extract_size]; omega
  have hck : ck l ≤ l.length := by
    rcases cd_cases l with ⟨_, _, h3, _⟩ | ⟨_, _, h3⟩ <;> omega
  have l1 : (openL l).length = l.length - ck l := by unfold openL; simp
  have htk : tk (openL l) ≤ (openL l).length := by
    rcases td_cases (openL l) with ⟨_, _, _, h4, _, h6, _⟩ | ⟨_, _, h3⟩ <;> omega
  have hts : (ts (openL l)).length ≤ (openL l).length := by
    rcases td_cases (openL l) with ⟨_, _, _, h4, _, _, h7⟩ | ⟨_, h2, _⟩
    · rw [h7]; simp; omega
    · rw [h2]; simp
  have c1 := fun w' => ref_ReadCount s w' (by omega)
  have c2 := fun w' => ref_ReadText S1 w' z1
  rw [← hl] at c1
  rw [e1] at c2
  refine (ropen_core s S1 (ts (openL l)) (cn l) (ce l) (te (openL l)) (tk (openL l)) (ck l) w (Lib.hid c1) (Lib.hid c2) hS1.symm (by omega) (by omega) (by omega) (by omega)).mono ?_
  rw [← hl]
  rintro e w' ⟨hb, h⟩
  refine ⟨hb, ?_⟩
  rcases h with ⟨a1, a2⟩ | ⟨a1, a2, a3⟩ | ⟨a1, a2, a3, a4⟩ | ⟨a1, a2, a3, a4, a5⟩ | ⟨a1, a2, a3, a4, a5, a6⟩ | ⟨a1, a2, a3, a4, a5, a6⟩
  · have : openE l = ce l := by unfold openE; rw [if_pos a1]
    exact .inl ⟨by rw [this]; exact a1, by rw [this]; exact a2⟩
  · have : openE l = 3 := by unfold openE; rw [if_neg (by omega), if_pos a2]
    exact .inl ⟨by rw [this]; decide, by rw [this]; exact a3⟩
  · have : openE l = te (openL l) := by unfold openE; rw [if_neg (by omega), if_neg a2, if_pos a3]
    exact .inl ⟨by rw [this]; exact a3, by rw [this]; exact a4⟩
  · have : openE l = 3 := by unfold openE; rw [if_neg (by omega), if_neg a2, if_neg (by omega), if_pos a4]
    exact .inl ⟨by rw [this]; decide, by rw [this]; exact a5⟩
  · have hne : ¬ ((openL l).length = tk (openL l)) := by omega
    have : openE l = 5 := by unfold openE; rw [if_neg (by omega), if_neg a2, if_neg (by omega), if_neg a4, if_pos hne]
    exact .inl ⟨by rw [this]; decide, by rw [this]; exact a6⟩
  · have : openE l = 0 := by unfold openE; rw [if_neg (by omega), if_neg a2, if_neg (by omega), if_neg a4, if_neg (by omega)]
    exact .inr ⟨this, a6⟩
end Go.Proofs.YtbiifdnicieamaaDoor
