/- Texts put together: TableAll, TableOver, TableLaw, TableOpensIn, QHeld, QLate, QTake, TableBuilt, TableChunk, TableParts -/
import Derived.Test.YteejldddgogbkaaGreatDoorTOp23
import Derived.Test.YteejldddgogbkaaGreatDoorTOp19
import Derived.Test.YteejldddgogbkaaGreatDoorTOp16
import Derived.Test.YteejldddgogbkaaGreatDoorTOp00
import Derived.Test.YteejldddgogbkaaGreatDoorTOp20
import Derived.Test.YteejldddgogbkaaGreatDoorTOp21
import Derived.Test.YteejldddgogbkaaGreatDoorTOp22
import Derived.Test.YteejldddgogbkaaGreatDoorTOp06
import Derived.Test.YteejldddgogbkaaGreatDoorTOp05
import Derived.OrdersHeld
import Derived.Deep.RegionHeld
import Derived.Test.YteejldddgogbkaaGreatDoorTOp17
import Derived.Test.YteejldddgogbkaaGreatDoorTOp08
import Derived.Test.YteejldddgogbkaaGreatDoorTOp14
/- The law's "all": what a walk tells, up to its end. -/
set_option linter.unusedVariables false
set_option maxRecDepth 100000
namespace Go.Proofs.YteejldddgogbkaaGreatDoor
open Go.RowKit

/-- A function that tells entries, one by one, and then an error. -/
structure Walker (lb fb nb tb kb : Nat) (Z : Int) (S : Nat → Prop) (B : Nat) (I : Nat → List Ent → World → Prop) (E : World → Prop) : Prop where
  next : ∀ G L W, I G L W → G < W.heap.size → Calls Tryz.prog 80 #[.pointer (some ⟨lb, 0, none⟩), .pointer (some ⟨fb, 0, none⟩), .pointer (some ⟨nb, 0, none⟩), .pointer (some ⟨tb, 0, none⟩), .pointer (some ⟨kb, 0, none⟩)] W fun e w' =>
    ((L = [] ∧ e = .returned (.tuple #[.agg #[.string ⟨#[]⟩, .string ⟨#[]⟩, .bool false], .bool false, .int .i64 Z]) ∧ I G [] w' ∧ E w') ∨ (∃ x L1, L = x :: L1 ∧ e = .returned (.tuple #[.agg #[.string (bs x.key), .string (bs x.val), .bool x.gone], .bool true, .int .i64 0]) ∧ I G L1 w')) ∧ Only S W w'
  below : ∀ G L W W', I G L W → Below W.heap.size W W' → I G L W'
  row : ∀ G G2 L W W', I G L W → B ≤ G → (G2 = G ∨ W.heap.size ≤ G2) → (∀ j, j < W.heap.size → j ≠ G → W'.heap[j]? = W.heap[j]?) → I G2 L W'
  fresh : ∀ G G2 L W, I G L W → W.heap.size ≤ G2 → I G2 L W
  low : ∀ j, S j → j < B
  pos : 0 < B
  last : ∀ W W', E W → Below W.heap.size W W' → E W'
theorem OwnE.only {w w' : World} {B : Nat} {S : Nat → Prop} {v : Value} {R : List Ent} (h : OwnE w B v R) (k : Only S w w') (hS : ∀ j, S j → j < B) : OwnE w' B v R :=
  OffRow.kept h fun j hj => k.block j (OffRow.lt h j hj).2 fun e => by have := (OffRow.lt h j hj).1; have := hS j e; omega
theorem fn_walk (F : Nat) (c : Array Value) (w : World) : (binOp .eql 103 (.func (.func F) #[] c) .nilFunc).run Tryz.prog w = .ok (.bool false) w := by kernel_rfl
structure AllPost (L : List Ent) (Z : Int) (p : Nat) (E : World → Prop) (w : World) (e : Ending) (w' : World) : Prop where
  out : ∃ a cap, e = .returned (.tuple #[.slice a L.length cap, .int .i64 Z]) ∧ IsE w' a L.length L
  last : E w'
  only : Only (fun j => j = p) w w'
set_option maxHeartbeats 4000000 in
theorem law_all (tv : Value) (key : List UInt8) (L : List Ent) (Z : Int) (p : Nat) (E : World → Prop) (w : World)
    (hW : Hid (Calls Tryz.prog 54 #[tv, .string (bs key)] w fun e w1 => ∃ lb fb nb tb kb I S, e = .returned (walkV lb fb nb tb kb) ∧ Walker lb fb nb tb kb Z S w1.heap.size I E ∧ (∀ G, I G L w1) ∧ (∀ j, S j → j = p ∨ w.heap.size ≤ j) ∧ Below w.heap.size w w1))
    (hL : L.length < 100000) :
    Calls Tryz.prog 17 #[tv, .string (bs key)] w (AllPost L Z p E w) := by
  obtain ⟨i0, hi0, hz0, hz1, hz2⟩ := info_parts infoE
  have HI0 := Lib.hid (And.intro hi0 (And.intro hz0 (And.intro hz1 hz2)))
  clear hi0 hz0 hz1 hz2
  go_enter Tryz.func17, Tryz.ntmps17
  go_upto_region 2 with (fail)
  go_wp2_with fail
  refine hW.out.mono ?_
  rintro e w1 ⟨lb, fb, nb, tb, kb, I, S, rfl, hWk, hI, hS, hB1⟩
  have HWK := Lib.hid hWk
  have HS := Lib.hid hS
  have HB1 := Lib.hid hB1
  obtain ⟨B, hB⟩ : ∃ B, B = w1.heap.size := ⟨_, rfl⟩
  rw [← hB] at HWK
  have HB := Lib.hid hB
  have I0 := Lib.hid (hI 0)
  clear hWk hI hS hB1 hB
  unfold walkV
  have hfn := fn_walk
  go_wp2_with fail
  clear hfn
  go_loopw [6, 8] (fun v iv wr => ∃ done rest G, L = done ++ rest ∧ iv = .int .i64 (done.length : Int) ∧ Hid (OwnE wr B v done) ∧ Hid (I G rest wr) ∧ Hid (∀ g, v.ownBlock = some g → g = G) ∧ Hid (G < wr.heap.size) ∧ Hid (Only S w1 wr)) (fun v iv wr => L.length - (intOf iv).toNat)
  case atStart => exact ⟨[], L, 0, rfl, rfl, Lib.hid (OwnE.nil _ _), I0, Lib.hid (fun g h => by cases h), Lib.hid (by have := HWK.out.pos; rw [HB.out] at this; exact this), Lib.hid (Only.refl _ _)⟩
  case round =>
    obtain ⟨done, rest, G, hsplit, rfl, hO, hI, hOwn, hGl, hOn⟩ := hrel
    have hLen : L.length = done.length + rest.length := by rw [hsplit, List.length_append]
    have hBr := Lib.hid (show B ≤ wr.heap.size from HB.out ▸ hOn.out.size)
    have HSp := Lib.hid hsplit
    obtain ⟨n, hn⟩ : ∃ n, n = done.length := ⟨_, rfl⟩
    obtain ⟨a, cap, hv⟩ := hO.out.slice
    rw [← hn] at hLen hv ⊢
    have HN := Lib.hid hn
    have hlt : (n : Int) < 100000 := by omega
    have HNX := Lib.hid (HWK.out.next G rest wr hI.out hGl.out)
    subst hv
    clear hsplit hn
    go_wp2_with fail
    refine HNX.out.mono ?_
    rintro e w2 ⟨hcase, hOn2⟩
    have O2 := Lib.hid (hOn.out.trans (hOn2.mono fun j _ h => h))
    have R2 := Lib.hid (hO.out.only hOn2 HWK.out.low)
    have G2 := Lib.hid (Nat.lt_of_lt_of_le hGl.out hOn2.size)
    have B2 := Lib.hid (Nat.le_trans hBr.out hOn2.size)
    clear hOn2
    rcases hcase with ⟨hrest, rfl, hI2, hE2⟩ | ⟨x, L1, hrest, rfl, hI2⟩
    · -- the end
      subst hrest
      have HLD := Lib.hid (show L = done by have := HSp.out; rwa [List.append_nil] at this)
      have HI2 := Lib.hid hI2
      clear hI2 hE2
      obtain ⟨w3, hw3⟩ : ∃ w3, w3 = w2.alloc (.cells #[.string ⟨#[]⟩, .string ⟨#[]⟩, .bool false] 49) := ⟨_, rfl⟩
      have K3 := Lib.hid (show Below w2.heap.size w2 w3 by rw [hw3]; exact (Below.refl _ _).alloc (Nat.le_refl _) _)
      have C3' := Lib.hid (show C3 w2.heap.size 49 (.string ⟨#[]⟩) (.string ⟨#[]⟩) (.bool false) w3 by rw [hw3]; exact heap_new w2 _)
      have HI3 := Lib.hid (HWK.out.below _ _ _ _ HI2.out K3.out)
      have O3 := Lib.hid (O2.out.trans (Only.of_below' (S := S) K3.out rfl))
      have R3 := Lib.hid (R2.out.below K3.out)
      have HNX3 := Lib.hid (HWK.out.next G [] w3 HI3.out (Nat.lt_of_lt_of_le G2.out K3.out.size))
      have HW3 := Lib.hid hw3
      clear hw3
      go_upto_region 10 with (fail)
      rw [← HW3.out]
      go_wp2_with fail
      refine HNX3.out.mono ?_
      rintro e w4 ⟨hcase, hOn4⟩
      rcases hcase with ⟨_, rfl, hI4, hE4⟩ | ⟨x, L1, hrest, _, _⟩
      rotate_left
      · cases hrest
      have C4 := Lib.hid (show C3 w2.heap.size 49 (.string ⟨#[]⟩) (.string ⟨#[]⟩) (.bool false) w4 from (hOn4.block _ (heap_lt C3'.out) (fun e => by have := HWK.out.low _ e; have := B2.out; omega)).trans C3'.out)
      have O4 := Lib.hid (O3.out.trans (hOn4.mono fun j _ h => h))
      have R4 := Lib.hid (R3.out.only hOn4 HWK.out.low)
      have E4 := Lib.hid hE4
      clear hOn4 hI4 hE4
      obtain ⟨w5, hw5⟩ : ∃ w5, w5 = w4.alloc (.cells #[.string ⟨#[]⟩, .string ⟨#[]⟩, .bool false] 49) := ⟨_, rfl⟩
      have K5 := Lib.hid (show Below w4.heap.size w4 w5 by rw [hw5]; exact (Below.refl _ _).alloc (Nat.le_refl _) _)
      have D5 := Lib.hid (show C3 w4.heap.size 49 (.string ⟨#[]⟩) (.string ⟨#[]⟩) (.bool false) w5 by rw [hw5]; exact heap_new w4 _)
      have C5 := Lib.hid (C4.out.below K5.out)
      have O5 := Lib.hid (O4.out.trans (Only.of_below' (S := S) K5.out rfl))
      have R5 := Lib.hid (R4.out.below K5.out)
      have E5 := Lib.hid (HWK.out.last _ _ E4.out K5.out)
      have x0 := C5.out.c0
      have x1 := C5.out.c1
      have x2 := C5.out.c2
      have y0 := D5.out.c0
      have y1 := D5.out.c1
      have y2 := D5.out.c2
      have hsame := ent_same ⟨#[]⟩ ⟨#[]⟩ false
      have hZ : (Z == Z) = true := beq_self_eq_true Z
      have HW5 := Lib.hid hw5
      clear hw5
      go_upto_region 11 with (fail)
      rw [← HW5.out]
      go_wp2_with fail
      go_ret2
      have hb := Lib.hid (Below.refl w5.heap.size w5)
      have hO6 := O5
      refine ⟨⟨a, cap, by rw [HLD.out, ← HN.out]; rfl, ?_⟩, HWK.out.last _ _ E5.out hb.out, ?_⟩
      · have h := (R5.out.below hb.out).is HN.out
        rw [HLD.out, ← HN.out]
        exact h
      · have h1 : Only (fun j => j = p) w w1 := Only.of_below' HB1.out rfl
        refine h1.andThen hO6.out fun j hj h => ?_
        rcases HS.out j h with h | h
        · exact h
        · omega
    · -- an entry more
      subst hrest
      have hLen2 : L.length = n + (L1.length + 1) := by rw [hLen]; simp
      have HI2 := Lib.hid hI2
      clear hI2
      obtain ⟨w3, hw3⟩ : ∃ w3, w3 = w2.alloc (.cells #[.string (bs x.key), .string (bs x.val), .bool x.gone] 49) := ⟨_, rfl⟩
      have K3 := Lib.hid (show Below w2.heap.size w2 w3 by rw [hw3]; exact (Below.refl _ _).alloc (Nat.le_refl _) _)
      have C3' := Lib.hid (show C3 w2.heap.size 49 (.string (bs x.key)) (.string (bs x.val)) (.bool x.gone) w3 by rw [hw3]; exact heap_new w2 _)
      have HI3 := Lib.hid (HWK.out.below _ _ _ _ HI2.out K3.out)
      have O3 := Lib.hid (O2.out.trans (Only.of_below' (S := S) K3.out rfl))
      have R3 := Lib.hid (R2.out.below K3.out)
      have G3 := Lib.hid (Nat.lt_of_lt_of_le G2.out K3.out.size)
      have B3 := Lib.hid (Nat.le_trans B2.out K3.out.size)
      have x0 := C3'.out.c0
      have x1 := C3'.out.c1
      have x2 := C3'.out.c2
      have HW3 := Lib.hid hw3
      clear hw3
      go_upto_region 14 with (fail)
      rw [← HW3.out]
      obtain ⟨hi0, hz0, hz1, hz2⟩ := HI0.out
      go_wp2_with (at_builtin; refine wpList_append_off rfl (.tmp 56) (.tmp 58) 22 rfl B 49 i0 _ 3 40 Tryz.underlying22 hi0 hz0 hz1 hz2 rfl (.slice a n cap) n (ecells done) rfl ?c1 (.slice (some ⟨w3.heap.size, 0, none⟩) 1 1) rfl 1 x.vals ?c2 ?c3 ?c4 ?c5 ?_)
      case c1 => have := R3.out; unfold OwnE at this; rw [← HN.out] at this; exact OffRow.allocd this _
      case c2 => exact src_block (size := 3) (cs := #[.string (bs x.key), .string (bs x.val), .bool x.gone]) Tryz.underlying22 (heap_new _ _) 1 1 rfl (by intro u hu; simp at hu; rcases hu with rfl | rfl | rfl <;> rfl)
      case c3 => unfold maxLen; omega
      case c4 => omega
      case c5 => have := B3.out; simp; omega
      intro v5 w5 hr5 hg5 hat5
      obtain ⟨w4, hw4⟩ : ∃ w4, w4 = w3.alloc (.cells #[.string (bs x.key), .string (bs x.val), .bool x.gone] 49) := ⟨_, rfl⟩
      have K4 := Lib.hid (show Below w3.heap.size w3 w4 by rw [hw4]; exact (Below.refl _ _).alloc (Nat.le_refl _) _)
      have hs4 : w4.heap.size = w3.heap.size + 1 := by rw [hw4]; simp
      rw [← hw4] at hg5
      rw [← hs4] at hat5
      have HI4 := Lib.hid (HWK.out.below _ _ _ _ HI3.out K4.out)
      have O4 := Lib.hid (O3.out.trans (Only.of_below' (S := S) K4.out rfl))
      have R4 := Lib.hid (R3.out.below K4.out)
      have hO5 := Lib.hid (show OwnE w5 B v5 (done ++ [x]) by
        unfold OwnE
        rw [ecells_snoc, List.length_append, ← HN.out]
        exact hr5)
      have hOn5 := Lib.hid (show Only S w1 w5 from O4.out.grown hg5 fun j hj => .inr (by rw [← HB.out]; exact (OffRow.lt R4.out j hj).1))
      have hKey := Lib.hid (show ∃ G2, I G2 L1 w5 ∧ (∀ g, v5.ownBlock = some g → g = G2) ∧ G2 < w5.heap.size by
        rcases hat5 with hat | hat
        · by_cases hob : ∃ g, (Value.slice a n cap).ownBlock = some g
          · obtain ⟨g, hob⟩ := hob
            have hgG := hOwn.out g hob
            refine ⟨G, HWK.out.row G G L1 w4 w5 HI4.out (by rw [← hgG]; exact (OffRow.lt R4.out g hob).1) (.inl rfl) (fun j hj hne => hg5.block j hj (by rw [hob, hgG]; intro e; injection e with e; exact hne e)), fun g' hg' => ?_, ?_⟩
            · rw [hat, hob] at hg'
              injection hg' with hg'
              rw [← hg', hgG]
            · have := hg5.size; have := G3.out; omega
          · refine ⟨G, HWK.out.below G L1 w4 w5 HI4.out ((Below.refl _ _).grown hg5 (Nat.le_refl _) fun k hk => absurd ⟨k, hk⟩ hob), fun g' hg' => absurd ⟨g', hat ▸ hg'⟩ hob, ?_⟩
            have := hg5.size; have := G3.out; omega
        · have hlt5 : w4.heap.size < w5.heap.size := (OffRow.lt hr5 _ hat).2
          by_cases hob : ∃ g, (Value.slice a n cap).ownBlock = some g
          · obtain ⟨g, hob⟩ := hob
            have hgG := hOwn.out g hob
            refine ⟨w4.heap.size, HWK.out.row G _ L1 w4 w5 HI4.out (by rw [← hgG]; exact (OffRow.lt R4.out g hob).1) (.inr (Nat.le_refl _)) (fun j hj hne => hg5.block j hj (by rw [hob, hgG]; intro e; injection e with e; exact hne e)), fun g' hg' => ?_, hlt5⟩
            rw [hat] at hg'
            injection hg' with hg'
            exact hg'.symm
          · refine ⟨w4.heap.size, HWK.out.below _ L1 w4 w5 (HWK.out.fresh G _ L1 w4 HI4.out (Nat.le_refl _)) ((Below.refl _ _).grown hg5 (Nat.le_refl _) fun k hk => absurd ⟨k, hk⟩ hob), fun g' hg' => ?_, hlt5⟩
            rw [hat] at hg'
            injection hg' with hg'
            exact hg'.symm)
      obtain ⟨G5, hI5, hOw5, hGl5⟩ := hKey.out
      have HI5 := Lib.hid hI5
      have HOw5 := Lib.hid hOw5
      have HGl5 := Lib.hid hGl5
      have hdl := Lib.hid (show ((done ++ [x]).length : Int) = (n : Int) + 1 by rw [List.length_append, ← HN.out]; rfl)
      clear hr5 hg5 hat5 hw4 hs4 hI5 hOw5 hGl5 hi0 hz0 hz1 hz2
      go_wp2_with fail
      go_roundw
      case rel => exact ⟨done ++ [x], L1, G5, by rw [HSp.out]; simp, by rw [hdl.out], hO5, HI5, HOw5, HGl5, hOn5⟩
      case measure => simp [intOf]; omega
end Go.Proofs.YteejldddgogbkaaGreatDoor
/- The law's source of a text. -/
set_option linter.unusedVariables false
set_option maxRecDepth 100000
set_option maxRecDepth 100000
namespace Go.Proofs.YteejldddgogbkaaGreatDoor
open Go.RowKit

/-- A source of s: its box is b. -/
def overV (b : Nat) : Value := .func (.func 41) #[] #[.pointer (some ⟨b, 0, none⟩)]
theorem law_over (s : ByteArray) (w : World) : Calls Tryz.prog 12 #[.string s] w fun e w' => e = .returned (overV w.heap.size) ∧ w' = w.alloc (.cells #[.string s] 9) := by
  go_enter Tryz.func12, Tryz.ntmps12
  go_wp2_with fail
  go_ret
  exact ⟨rfl, rfl⟩
/-- What a source answers. -/
def overE (n : Nat) (at_ size : Int) : Int := if at_ < 0 ∨ size < 0 ∨ at_ > n ∨ size > n - at_ then 1 else 0
set_option maxHeartbeats 1000000 in
theorem over_no (b : Nat) (s : ByteArray) (at_ size : Int) (w : World) (hc : w.cell? ⟨b, 0, none⟩ = some (.string s)) (ha : -9223372036854775808 ≤ at_) (ha2 : at_ ≤ 9223372036854775807) (hs : s.size ≤ 9223372036854775807) (h : at_ < 0 ∨ size < 0 ∨ at_ > (s.size : Int) ∨ size > (s.size : Int) - at_) :
    Calls Tryz.prog 41 #[.int .i64 at_, .int .i64 size, .pointer (some ⟨b, 0, none⟩)] w fun e w' => e = .returned (.tuple #[.string (bs []), .int .i64 1]) ∧ Below w.heap.size w w' := by
  by_cases h1 : at_ < 0
  · go_enter Tryz.func41, Tryz.ntmps41
    go_wp2_with fail
    go_ret2
    exact ⟨rfl, Below.refl _ _⟩
  by_cases h2 : size < 0
  · go_enter Tryz.func41, Tryz.ntmps41
    go_wp2_with fail
    go_ret2
    exact ⟨rfl, Below.refl _ _⟩
  by_cases h3 : at_ > (s.size : Int)
  · go_enter Tryz.func41, Tryz.ntmps41
    go_wp2_with fail
    go_ret2
    exact ⟨rfl, Below.refl _ _⟩
  · have h4 : size > (s.size : Int) - at_ := by omega
    go_enter Tryz.func41, Tryz.ntmps41
    go_wp2_with fail
    go_ret2
    exact ⟨rfl, Below.refl _ _⟩
set_option maxHeartbeats 1000000 in
theorem over_yes (b : Nat) (s : ByteArray) (n k : Nat) (w : World) (hc : w.cell? ⟨b, 0, none⟩ = some (.string s)) (h : n + k ≤ s.size) (hs : s.size ≤ 9223372036854775807) :
    Calls Tryz.prog 41 #[.int .i64 (n : Int), .int .i64 (k : Int), .pointer (some ⟨b, 0, none⟩)] w fun e w' => e = .returned (.tuple #[.string (s.extract n (n + k)), .int .i64 0]) ∧ Below w.heap.size w w' := by
  go_enter Tryz.func41, Tryz.ntmps41
  go_wp2_with fail
  go_ret2
  exact ⟨rfl, Below.refl _ _⟩
end Go.Proofs.YteejldddgogbkaaGreatDoor
/- What the laws call: a table over a source, all of it from a key on. -/
set_option linter.unusedVariables false
set_option maxRecDepth 100000
namespace Go.Proofs.YteejldddgogbkaaGreatDoor
open Go.RowKit

theorem bs_cut (L : List UInt8) (n k : Nat) : (bs L).extract n (n + k) = bs ((L.drop n).take k) :=
  bs_eq (by rw [Lib.extract_data, bs_list]; congr 1; omega)
/-- The box of a source of a text. -/
def overK (b : Nat) (L : List UInt8) : List (Nat × Obj) := [(b, .cells #[.string (bs L)] 9 (0, 0))]
theorem over_src (b : Nat) (L : List UInt8) (hl : L.length ≤ 100000000000) : Src 41 #[.pointer (some ⟨b, 0, none⟩)] (overK b L) 0 L where
  enters := enters_of Tryz.func41 (by kernel_rfl) rfl
  calls W hK n k hnk := by
    have h0 : W.heap[b]? = some (.cells #[.string (bs L)] 9 (0, 0)) := hK (b, _) (by simp [overK])
    refine (over_yes b (bs L) n k W (by simp [World.cell?, h0]) (by rw [bs_size]; exact hnk) (by rw [bs_size]; omega)).mono ?_
    rintro e w' ⟨rfl, h⟩
    exact ⟨by rw [bs_cut, if_pos rfl], h⟩
/-- A table in memory whose source has what it needs. -/
structure TabS (p F : Nat) (c : Array Value) (K : List (Nat × Obj)) (t : Tab) (lo hi : Int) (W : World) : Prop where
  ex : ∃ n, lo ≤ n ∧ n ≤ hi ∧ TabM p (srcV F c) n t W
  keep : Keep K W
theorem TabS.below {p F : Nat} {c : Array Value} {K : List (Nat × Obj)} {t : Tab} {lo hi : Int} {W W' : World} (h : TabS p F c K t lo hi W) (k : Below W.heap.size W W') : TabS p F c K t lo hi W' := by
  obtain ⟨n, h1, h2, h3⟩ := h.ex
  exact ⟨⟨n, h1, h2, h3.below k⟩, h.keep.below k⟩
/-- The first block that a walk reads. -/
def firstB (t : Tab) (key : List UInt8) : Nat := fromN key (t.index.map (·.key)) - 1
theorem firstB_le (t : Tab) (key : List UInt8) : firstB t key ≤ t.index.length := by
  have := fromN_le key (t.index.map (·.key))
  rw [List.length_map] at this
  unfold firstB
  omega
/-- How many blocks were read behind a walk: at least, at most. -/
def readLo (t : Tab) (key : List UInt8) (n Z : Int) : Int := if Z = 0 then n - (firstB t key : Int) + (t.index.length : Int) else n - 65536
def readHi (t : Tab) (key : List UInt8) (n Z : Int) : Int := if Z = 0 then n - (firstB t key : Int) + (t.index.length : Int) else n + 65536
theorem walker_of {p F : Nat} {c : Array Value} {K : List (Nat × Obj)} {t : Tab} {d n : Int} {key : List UInt8} {lb fb nb tb kb B : Nat} (Z : Int) (hf : FineT t) (hs : Src F c K d t.bytes) (hK : ∀ q ∈ K, q.1 < lb ∧ q.1 < fb ∧ q.1 < nb ∧ q.1 ≠ p)
    (hB : p < B ∧ lb < B ∧ fb < B ∧ nb < B ∧ tb < B ∧ kb < B) (hn1 : -10000000000000000 ≤ n) (hn2 : n ≤ 10000000000000000) (hl : t.bytes.length ≤ 100000000000) :
    Walker lb fb nb tb kb Z (WS4 lb fb nb p) B (fun G L W => WalkS lb fb nb tb kb p G F c K t d (n - (firstB t key : Int)) key Z L W) (TabS p F c K t (readLo t key n Z) (readHi t key n Z)) where
  next G L W h hG := by
    have hfew := hf.few
    have hfl := firstB_le t key
    refine (table_next lb fb nb tb kb p G F c K t d (n - (firstB t key : Int)) key Z L W (Lib.hid h) (Lib.hid hf) (Lib.hid hs) (Lib.hid fun q hq e => ?_) (Lib.hid hG) (by omega) (by omega) hl).mono ?_
    · have := hK q hq
      rcases e with e | e | e | e <;> omega
    · rintro e w' ⟨hc, ho⟩
      refine ⟨?_, ho⟩
      rcases hc with ⟨h1, h2, h3, h4⟩ | ⟨x, L1, h1, h2, h3⟩
      · refine .inl ⟨h1, h2, h3, ?_, h3.keep⟩
        by_cases hZ : Z = 0
        · exact ⟨_, by unfold readLo; rw [if_pos hZ]; exact Int.le_refl _, by unfold readHi; rw [if_pos hZ]; exact Int.le_refl _, h4 hZ⟩
        · obtain ⟨R, z, i, g1, g2, g3, g4, g5⟩ := h3.st
          exact ⟨_, by unfold readLo; rw [if_neg hZ]; omega, by unfold readHi; rw [if_neg hZ]; omega, g2⟩
      · exact .inr ⟨x, L1, h1, h2, h3⟩
  below G L W W' h k := h.below k
  row G G2 L W W' h hG hG2 k := h.row (by omega) (fun q hq => by have := hK q hq; omega) hG2 k
  fresh G G2 L W h hG := h.fresh hG
  low j h := by rcases h with h | h | h | h <;> omega
  pos := by omega
  last W W' h k := h.below k
/-- All from a key on. -/
theorem all_tab (p F : Nat) (c : Array Value) (K : List (Nat × Obj)) (t : Tab) (d n : Int) (key : List UInt8) (w : World) (hT : Hid (TabM p (srcV F c) n t w)) (hf : Hid (FineT t)) (hs : Hid (Src F c K d t.bytes)) (hK : Hid (Keep K w)) (hKp : Hid (∀ q ∈ K, q.1 ≠ p))
    (hn1 : -10000000000000000 ≤ n) (hn2 : n ≤ 10000000000000000) (hl : t.bytes.length ≤ 100000000000) (hL : (scanU t d key).2.length < 100000) :
    Calls Tryz.prog 17 #[.pointer (some ⟨p, 0, none⟩), .string (bs key)] w (AllPost (scanU t d key).2 (scanU t d key).1 p (TabS p F c K t (readLo t key n (scanU t d key).1) (readHi t key n (scanU t d key).1)) w) := by
  refine law_all _ key _ _ p _ w (Lib.hid ((table_Walk p F c K t d n key w hT hf hK).mono ?_)) hL
  rintro e w1 ⟨⟨lb, fb, nb, tb, kb, rfl, h1, h2, h3⟩, hb⟩
  have hp := hT.out.lt
  have hsz := hb.size
  refine ⟨lb, fb, nb, tb, kb, _, _, rfl, walker_of (n := n) _ hf.out hs.out (fun q hq => ?_) (by omega) hn1 hn2 hl, h2, fun j hj => ?_, hb⟩
  · have h4 := heap_lt (hK.out q hq)
    have h5 := hKp.out q hq
    omega
  · rcases hj with h | h | h | h
    · exact .inl h
    · right; omega
    · right; omega
    · right; omega
end Go.Proofs.YteejldddgogbkaaGreatDoor
/- The document's Get and Scan upon what its Open left. -/
set_option linter.unusedVariables false
set_option maxRecDepth 100000
namespace Go.Proofs.YteejldddgogbkaaGreatDoor
open Go.RowKit

theorem open_hash {s : List UInt8} {t : Tab} (h : openTab s = (0, t)) : 1 ≤ t.h ∧ t.count < 4294967296 := by
  unfold openTab at h
  simp only at h
  split at h
  · injection h with h _; cases h
  split at h
  · rename_i _ h0; injection h with h _; exact absurd h h0
  split at h
  · injection h with h _; cases h
  split at h
  · rename_i h0; injection h with h _; exact absurd h h0
  split at h
  · rename_i h0; injection h with h _; exact absurd h h0
  split at h
  · injection h with h _; cases h
  split at h
  · rename_i h0; injection h with h _; exact absurd h h0
  split at h
  · rename_i h0; injection h with h _; exact absurd h h0
  rename_i hq
  injection h with _ h
  subst h
  exact ⟨(open_ok (Decidable.of_not_not hq)).2.1, num4_lt _⟩
theorem get_reads (t : Tab) (k : List UInt8) : (getT t k).2.2.2 ≤ 1 := by
  unfold getT
  simp only
  split
  · exact Nat.zero_le _
  · split <;> exact Nat.le_refl _
theorem placesD (Q : List (Nat × Nat)) (i : Nat) : (Q.map (·.1)).getD i 0 = (Q.getD i (0, 0)).1 ∧ (Q.map (·.2)).getD i 0 = (Q.getD i (0, 0)).2 := by
  simp only [List.getD_eq_getElem?_getD, List.getElem?_map]
  cases Q[i]? <;> simp
theorem blkR_eq {L : List UInt8} {t : Tab} (hb : t.bytes = L) : (fun i => blkR (opnS ((L.drop ((t.places.map (·.1)).getD i 0)).take ((t.places.map (·.2)).getD i 0))) ((t.index.map (·.key)).getD i [])) = blockT t := by
  subst hb
  funext i
  rw [(placesD _ i).1, (placesD _ i).2]
  exact blkR_t t i
theorem blockT_few (t : Tab) (i : Nat) : (blockT t i).2.length ≤ 65536 := by
  rw [← blkR_t]
  unfold blkR
  split
  · exact Nat.zero_le _
  · split
    · exact Nat.zero_le _
    · exact opnS_few _
theorem places_in {L : List UInt8} {t : Tab} (hf : FineT t) (hb : t.bytes = L) (i : Nat) (hi : i < t.index.length) : (t.places.map (·.1)).getD i 0 + (t.places.map (·.2)).getD i 0 ≤ L.length := by
  have hl : i < t.places.length := by rw [hf.pl]; exact hi
  rw [(placesD _ i).1, (placesD _ i).2, List.getD_eq_getElem?_getD, List.getElem?_eq_getElem hl, Option.getD_some, ← hb]
  exact hf.inn _ (List.getElem_mem hl)
theorem ref_getT {L : List UInt8} {t : Tab} {B n ic ac sc g cap : Nat} {ia aa sa : Option Addr} (hot : openTab L = (0, t)) (hL : L.length ≤ 200000) (count : Int) (kl : List UInt8) (hk : kl.length ≤ 140737488351232) (W : World) (hP : Hid (RParts B n t.index t.places t.bits ia aa ac sa sc g W)) :
    Calls Tryz.prog 15 #[.agg #[.string (bs L), .slice ia n ic, .slice aa n ac, .slice sa n sc, .int .i64 (t.h : Int), .slice (some ⟨g, 0, none⟩) (8 * t.bits.length) cap, .int .i64 count], .string (bs kl)] W (RGetPost (getT t kl) W) := by
  obtain ⟨hf, hb⟩ := open_fine hot
  have h := hP.out
  have hbl := hf.bits
  have hfw := hf.few
  have hn := h.lenX
  rw [hb] at hbl
  have hG := ref_Get L ia n ic aa n ac sa n sc t.h g (8 * t.bits.length) cap count (bitAt t.bits) t.index (t.places.map (·.1)) (t.places.map (·.2)) kl W (Lib.hid h.idx)
    (Lib.hid (h.at'.is (by rw [List.length_map]; exact h.lenQ))) (Lib.hid (h.size.is (by rw [List.length_map]; exact h.lenQ))) (Lib.hid h.row) rfl rfl (by omega) (Lib.hid fun i hi => places_in hf hb i (by omega)) (by omega) (open_hash hot).1 hf.h8 (by omega) (by omega) hk
    (Lib.hid fun i _ => by have hc : _ = _ := congrFun (blkR_eq hb) i; have hl := blockT_few t i; rw [← hc] at hl; exact hl)
  rw [blkR_eq hb, show 8 * t.bits.length = t.bits.length * 8 from Nat.mul_comm _ _, getR_t] at hG
  rw [Nat.mul_comm]
  exact hG
theorem ref_scanT {L : List UInt8} {t : Tab} {B n ic ac sc g cap : Nat} {ia aa sa : Option Addr} (hot : openTab L = (0, t)) (hL : L.length ≤ 200000) (count : Int) (kl : List UInt8) (W : World) (hP : Hid (RParts B n t.index t.places t.bits ia aa ac sa sc g W)) :
    Calls Tryz.prog 18 #[.agg #[.string (bs L), .slice ia n ic, .slice aa n ac, .slice sa n sc, .int .i64 (t.h : Int), .slice (some ⟨g, 0, none⟩) (8 * t.bits.length) cap, .int .i64 count], .string (bs kl)] W (BlockPost (scanT t kl) W) := by
  obtain ⟨hf, hb⟩ := open_fine hot
  have h := hP.out
  have hfw := hf.few
  have hn := h.lenX
  have hG := ref_Scan L ia n ic aa n ac sa n sc t.h g (8 * t.bits.length) cap count t.index (t.places.map (·.1)) (t.places.map (·.2)) kl W (Lib.hid h.idx)
    (Lib.hid (h.at'.is (by rw [List.length_map]; exact h.lenQ))) (Lib.hid (h.size.is (by rw [List.length_map]; exact h.lenQ))) rfl rfl (by omega) (Lib.hid fun i hi => places_in hf hb i (by omega)) (by omega)
    (Lib.hid fun i _ => by have hc : _ = _ := congrFun (blkR_eq hb) i; have hl := blockT_few t i; rw [← hc] at hl; exact hl)
  rw [blkR_eq hb, scanR_t] at hG
  rw [show scanT t kl = scanG t kl (n - (fromN kl (t.index.map (·.key)) - 1)) (fromN kl (t.index.map (·.key)) - 1) by unfold scanT; rw [hn]]
  exact hG
end Go.Proofs.YteejldddgogbkaaGreatDoor
/- A region that draws its order within a round, gone through by hand. -/
set_option linter.unusedVariables false
namespace Go.Proofs.YteejldddgogbkaaGreatDoor
open Go.RowKit

section
variable {P : Program} {ops : Array Oper} {md : Region.Mode} {Q : Exit → Act → World → Prop}
theorem rowsIn_round {r n : Nat} {row : String} {args : Array Value} {w : World} {R : Value → World → Prop} (h : Rows P row args w R) : RowsIn (Fence.wide.inRound r) n P row args w R :=
  fun c cs _ => let ⟨v, w', q, s⟩ := h c cs; ⟨v, w', q, stepsIn_wide.2 s⟩
theorem operIn_of_wp {r n : Nat} {o : Oper} {a : Act} {w : World} {K K' : Act → World → Prop} (hse : ∀ ρ, Oper.semAt (Fence.wide.inRound r).round ρ o = execOp ρ o) (hL : ¬ LetsOut Q) (hK : ∀ a w, K a w → K' a w) (h : o.wp P a w K Q) : o.wpIn (Fence.wide.inRound r) n P a w K' Q := by
  unfold Oper.wp at h
  unfold Oper.wpIn
  refine ⟨fun _ _ => trivial, ?_⟩
  rw [hse]
  generalize (execOp a.eval o).run P w = x at *
  cases x with
  | ok x w' =>
    cases x <;> simp only [Oper.upon] at h <;> simp only [Oper.uponIn]
    case value u => exact hK _ _ h
    case skip => exact hK _ _ h
    case defer d => exact hK _ _ h
    case enter f args =>
      refine ⟨fun e => by simp [Fence.wide] at e, (wide_round r).calls (Calls.mono h fun e w'' he => ?_)⟩
      cases e with
      | returned v => exact hK _ _ he
      | panicked c => exact he
      | outgrown => exact he
    case row row args => exact ⟨fun e => by simp [Fence.wide] at e, rowsIn_round (Rows.mono h fun v w'' he => hK _ _ he)⟩
  | halt x w' =>
    cases x <;> simp only [Oper.upon] at h <;> simp only [Oper.uponIn]
    case panic v => exact h
theorem opIn_of_wp {r n i : Nat} {a : Act} {w : World} {K K' : Act → World → Prop} (hse : ∀ o, ops[i]? = some o → ∀ ρ, Oper.semAt (Fence.wide.inRound r).round ρ o = execOp ρ o) (hL : ¬ LetsOut Q) (hK : ∀ a w, K a w → K' a w) (h : wpOp P ops Q i K a w) : wpOpIn (Fence.wide.inRound r) n P ops Q i K' a w := by
  unfold wpOp at h
  unfold wpOpIn
  split
  · rename_i ho; simp only [ho] at h; exact hK _ _ h
  · rename_i o ho
    simp only [ho] at h
    split
    · rename_i hw
      simp only [hw, if_true] at h
      rcases h with h | h
      · exact operIn_of_wp (hse o ho) hL hK h
      · exact absurd h.2 hL
    · rename_i hw
      simp only [hw] at h
      exact ⟨fun _ _ => trivial, hK _ _ h⟩
theorem anyIn_of_wp {r n : Nat} (hse : ∀ (i : Nat) (o : Oper), ops[i]? = some o → ∀ ρ, Oper.semAt (Fence.wide.inRound r).round ρ o = execOp ρ o) (hL : ¬ LetsOut Q) : ∀ (fuel : Nat) (listed : Array Bool) (a : Act) (w : World), wpAny P md ops Q fuel listed a w → wpAnyIn (Fence.wide.inRound r) n P md ops Q fuel listed a w
  | 0, _, _, _, h => h
  | fuel + 1, _, _, _, h => ⟨h.1, fun i hi => opIn_of_wp (hse i) hL (fun _ _ h' => anyIn_of_wp hse hL fuel _ _ _ h') (h.2 i hi)⟩
/-- A region within a round, by hand. -/
theorem wpIn_round_held {r n id : Nat} {a : Act} {w : World} {l : List Oper} (S : World → Prop) (hm : P.follows .mixedOrders = true) (hd : noDefer l = true) (hL : ¬ LetsOut Q)
    (h : wpAnyH P .any l.toArray Q S l.toArray.size (Array.replicate l.toArray.size false) a { w with drawn := w.drawn + 1 }) : (Code.region id l.toArray true).wpIn (Fence.wide.inRound r) n P Q a w :=
  wpIn_region_any hm (anyIn_of_wp (noDefer_sem hd _) hL _ _ _ _ (wpAny_of_held _ _ _ _ h))
end
end Go.Proofs.YteejldddgogbkaaGreatDoor
/- A region that draws its order: a load that only the last operations await, taken first, where what is written is written by those alone. -/
set_option linter.unusedVariables false
namespace Go.Proofs.YteejldddgogbkaaGreatDoor
open Go.RowKit

section
variable {P : Program} {ops : Array Oper} {Q : Exit → Act → World → Prop} {md : Region.Mode} {S : World → Prop} {E : Nat → Bool}
/-- Whatever order is picked from here on, and S holds behind every operation that isn't one of E. -/
def wpAnyE (P : Program) (md : Region.Mode) (ops : Array Oper) (Q : Exit → Act → World → Prop) (S : World → Prop) (E : Nat → Bool) : Nat → Array Bool → Act → World → Prop
  | 0, listed, a, w => Region.ready md ops listed = [] ∧ Q .normal a w
  | fuel + 1, listed, a, w =>
    (Region.ready md ops listed = [] → Q .normal a w) ∧
    ∀ i ∈ Region.ready md ops listed, wpOp P ops Q i (fun a' w' => (E i = false → S w') ∧ wpAnyE P md ops Q S E fuel (listed.setIfInBounds i true) a' w') a w
theorem wpAny_of_E : ∀ (fuel : Nat) (listed : Array Bool) (a : Act) (w : World), wpAnyE P md ops Q S E fuel listed a w → wpAny P md ops Q fuel listed a w
  | 0, _, _, _, h => h
  | fuel + 1, _, _, _, h => ⟨h.1, fun i hi => wpOp_mono (fun a' w' h' => wpAny_of_E fuel _ a' w' h'.2) (h.2 i hi)⟩
theorem wpAnyE_first {i : Nat} {oi : Oper} {v : Value} (hi : ops[i]? = some oi) (hsel : ∀ (j : Nat) (o : Oper) cs b, ops[j]? = some o → o.op ≠ .select cs b)
    (hE : ∀ j oj, ops[j]? = some oj → E j = true → ∃ e ∈ oj.after, Region.binds md e = true ∧ e.on = i)
    (hQ : ∀ c a w, Q (.panic c) (a.put oi.dst v) w → Q (.panic c) a w) :
    ∀ (fuel : Nat) (listed : Array Bool) (a : Act) (w : World),
      (∀ j oj, ops[j]? = some oj → j ≠ i → listed.getD j true = false → (∀ e ∈ oj.after, Region.binds md e = true → e.on ≠ i) → oi.apart ops oj = true) →
      i ∈ Region.ready md ops listed → YieldsIf P ops S oi v a → S w →
      wpAnyE P md ops Q S E fuel (listed.setIfInBounds i true) (a.put oi.dst v) w → wpAny P md ops Q (fuel + 1) listed a w := by
  intro fuel
  induction fuel with
  | zero =>
    intro listed a w _ hr hy hS H
    refine ⟨fun h => (by rw [h] at hr; cases hr), fun j hj => ?_⟩
    by_cases hji : j = i
    · subst hji; exact hy.wpOp hi hS H
    · have := ready_mono hj hji
      rw [H.1] at this
      cases this
  | succ fuel ih =>
    intro listed a w hfree hr hy hS H
    refine ⟨fun h => (by rw [h] at hr; cases hr), fun j hj => ?_⟩
    by_cases hji : j = i
    · subst hji; exact hy.wpOp hi hS (wpAny_of_E _ _ _ _ H)
    · have h1 := H.2 j (ready_mono hj hji)
      obtain ⟨hjun, oj, hoj, hall⟩ := mem_ready.1 hj
      have hnot : ∀ e ∈ oj.after, Region.binds md e = true → e.on ≠ i := fun e he hb heq => by
        have h1 := hall e he hb
        have h0 := (mem_ready.1 hr).1
        rw [heq] at h1
        rcases Nat.lt_or_ge i listed.size with h' | h'
        · simp [h'] at h0 h1; rw [h0] at h1; cases h1
        · simp [Array.getElem?_eq_none h'] at h1
      have hEj : E j = false := by
        cases hc : E j with
        | false => rfl
        | true =>
          obtain ⟨e, he, hb, hon⟩ := hE j oj hoj hc
          exact absurd hon (hnot e he hb)
      have h2 := wpOp_putIf hoj (hfree j oj hoj hji hjun hnot) (fun cs b => hsel i oi cs b hi) (fun cs b => hsel j oj cs b hoj) hQ hy h1
      have hfree' : ∀ k ok, ops[k]? = some ok → k ≠ i → (listed.setIfInBounds j true).getD k true = false →
          (∀ e ∈ ok.after, Region.binds md e = true → e.on ≠ i) → oi.apart ops ok = true := fun k ok hk hki hun hno => by
        refine hfree k ok hk hki ?_ hno
        by_cases hjk : j = k
        · subst hjk; exact hjun
        · rw [getD_set_ne true hjk] at hun; exact hun
      refine wpOp_mono (fun a' w' h3 => ih (listed.setIfInBounds j true) a' w' hfree' (ready_mono hr (Ne.symm hji)) h3.1 (h3.2.1 hEj) ?_) h2
      rw [Array.setIfInBounds_comm _ _ hji]
      exact h3.2.2
def lateB (md : Region.Mode) (ops : Array Oper) (E : Nat → Bool) (i : Nat) : Bool :=
  (List.range ops.size).all fun j => !E j || (match ops[j]? with | some o => o.after.any fun e => Region.binds md e && e.on == i | none => false)
theorem late_spec {i : Nat} (h : lateB md ops E i = true) : ∀ j oj, ops[j]? = some oj → E j = true → ∃ e ∈ oj.after, Region.binds md e = true ∧ e.on = i := fun j oj hj hE => by
  have h1 := List.all_eq_true.1 h j (List.mem_range.2 (Array.getElem?_eq_some_iff.1 hj).1)
  rw [hE, hj] at h1
  simp only [Bool.not_true, Bool.false_or] at h1
  obtain ⟨e, he, h2⟩ := Array.any_eq_true'.1 h1
  simp only [Bool.and_eq_true, beq_iff_eq] at h2
  exact ⟨e, he, h2.1, h2.2⟩
/-- A load is taken first. -/
theorem wpAny_late {i d : Nat} {oi : Oper} {v : Value} {fuel : Nat} {listed : Array Bool} {a : Act} {w : World} (S : World → Prop) (E : Nat → Bool) (hi : ops[i]? = some oi) (hd : oi.dst = some d)
    (hs : Region.noSelect ops = true) (hl : lateB md ops E i = true) (hf : Region.free md ops listed i = true) (hr : (Region.ready md ops listed).contains i = true)
    (hQ : ∀ c a w, Q (.panic c) (a.put oi.dst v) w → Q (.panic c) a w) (hy : YieldsIf P ops S oi v a) (hS : S w)
    (h : wpAnyE P md ops Q S E fuel (listed.setIfInBounds i true) (a.put (some d) v) w) : wpAny P md ops Q (fuel + 1) listed a w :=
  wpAnyE_first hi (Region.noSelect_spec hs) (late_spec hl) hQ fuel listed a w (Region.free_spec hi hf) (by simpa using hr) hy hS (by rw [hd]; exact h)
theorem any_take {i d : Nat} {oi : Oper} {v : Value} {fuel : Nat} {listed : Array Bool} {a : Act} {w : World} (hi : ops[i]? = some oi) (hd : oi.dst = some d)
    (hs : Region.noSelect ops = true) (hf : Region.free md ops listed i = true) (hr : (Region.ready md ops listed).contains i = true)
    (hQ : ∀ c a w, Q (.panic c) (a.put oi.dst v) w → Q (.panic c) a w) (hy : Yields P ops oi v a)
    (h : wpAny P md ops Q fuel (listed.setIfInBounds i true) (a.put (some d) v) w) : wpAny P md ops Q (fuel + 1) listed a w :=
  wpAny_take hi hs hf hr hQ hy (by rw [hd]; exact h)
/-- The next one, whichever it is. -/
def AllE (P : Program) (md : Region.Mode) (ops : Array Oper) (Q : Exit → Act → World → Prop) (S : World → Prop) (E : Nat → Bool) (fuel : Nat) (listed : Array Bool) (a : Act) (w : World) (rs : List Nat) : Prop :=
  ∀ i ∈ rs, wpOp P ops Q i (fun a' w' => (E i = false → S w') ∧ wpAnyE P md ops Q S E fuel (listed.setIfInBounds i true) a' w') a w
theorem AllE.nil {fuel : Nat} {listed : Array Bool} {a : Act} {w : World} : AllE P md ops Q S E fuel listed a w [] := fun _ h => by cases h
theorem AllE.cons {fuel : Nat} {listed : Array Bool} {a : Act} {w : World} {i : Nat} {o : Oper} {rs : List Nat} (ho : ops[i]? = some o)
    (h : ∀ K' : Act → World → Prop, Shut (∀ a w, (E i = false → S w) → ((E i = false → S w) → wpAnyE P md ops Q S E fuel (listed.setIfInBounds i true) a w) → K' a w) → if Region.wanted o (yielded ops a.tmps) = true then Oper.wp P o a w K' Q else K' (a.put o.dst undef) w)
    (hs : AllE P md ops Q S E fuel listed a w rs) : AllE P md ops Q S E fuel listed a w (i :: rs) := fun j hj => by
  rcases List.mem_cons.1 hj with rfl | hj
  · exact wpOp_step ho (fun K' hK => h K' (fun a w hS hW => hK a w ⟨hS, hW hS⟩))
  · exact hs j hj
theorem wpAnyE_ready {rs : List Nat} {fuel : Nat} {listed : Array Bool} {a : Act} {w : World} (hr : Region.ready md ops listed = rs) (hne : rs ≠ [])
    (h : AllE P md ops Q S E fuel listed a w rs) : wpAnyE P md ops Q S E (fuel + 1) listed a w := ⟨fun h0 => absurd (hr ▸ h0) hne, hr ▸ h⟩
theorem wpAnyE_done {listed : Array Bool} {a : Act} {w : World} (hr : Region.ready md ops listed = []) (h : Q .normal a w) : ∀ fuel, wpAnyE P md ops Q S E fuel listed a w
  | 0 => ⟨hr, h⟩
  | _ + 1 => ⟨fun _ => h, by rw [hr]; simp⟩
theorem wpIn_round_any {r n id : Nat} {a : Act} {w : World} {l : List Oper} (hm : P.follows .mixedOrders = true) (hd : noDefer l = true) (hL : ¬ LetsOut Q)
    (h : wpAny P .any l.toArray Q l.toArray.size (Array.replicate l.toArray.size false) a { w with drawn := w.drawn + 1 }) : (Code.region id l.toArray true).wpIn (Fence.wide.inRound r) n P Q a w :=
  wpIn_region_any hm (anyIn_of_wp (noDefer_sem hd _) hL _ _ _ _ h)
end
end Go.Proofs.YteejldddgogbkaaGreatDoor
/- A region that draws its order: reads taken first, where what they read stays behind every operation. -/
set_option linter.unusedVariables false
namespace Go.Proofs.YteejldddgogbkaaGreatDoor
open Go.RowKit

section
variable {P : Program} {ops : Array Oper} {Q : Exit → Act → World → Prop} {md : Region.Mode} {S : World → Prop}
theorem kept_first {i : Nat} {oi : Oper} {v : Value} (hi : ops[i]? = some oi) (hsel : ∀ (j : Nat) (o : Oper) cs b, ops[j]? = some o → o.op ≠ .select cs b)
    (hQ : ∀ c a w, Q (.panic c) (a.put oi.dst v) w → Q (.panic c) a w) :
    ∀ (fuel : Nat) (listed : Array Bool) (a : Act) (w : World),
      (∀ j oj, ops[j]? = some oj → j ≠ i → listed.getD j true = false → (∀ e ∈ oj.after, Region.binds md e = true → e.on ≠ i) → oi.apart ops oj = true) →
      i ∈ Region.ready md ops listed → YieldsIf P ops S oi v a → S w →
      wpAnyE P md ops Q S (fun _ => false) fuel (listed.setIfInBounds i true) (a.put oi.dst v) w → wpAnyE P md ops Q S (fun _ => false) (fuel + 1) listed a w := by
  intro fuel
  induction fuel with
  | zero =>
    intro listed a w _ hr hy hS H
    refine ⟨fun h => (by rw [h] at hr; cases hr), fun j hj => ?_⟩
    by_cases hji : j = i
    · subst hji; exact hy.wpOp hi hS ⟨fun _ => hS, H⟩
    · have := ready_mono hj hji
      rw [H.1] at this
      cases this
  | succ fuel ih =>
    intro listed a w hfree hr hy hS H
    refine ⟨fun h => (by rw [h] at hr; cases hr), fun j hj => ?_⟩
    by_cases hji : j = i
    · subst hji; exact hy.wpOp hi hS ⟨fun _ => hS, H⟩
    · have h1 := H.2 j (ready_mono hj hji)
      obtain ⟨hjun, oj, hoj, hall⟩ := mem_ready.1 hj
      have hnot : ∀ e ∈ oj.after, Region.binds md e = true → e.on ≠ i := fun e he hb heq => by
        have h1 := hall e he hb
        have h0 := (mem_ready.1 hr).1
        rw [heq] at h1
        rcases Nat.lt_or_ge i listed.size with h' | h'
        · simp [h'] at h0 h1; rw [h0] at h1; cases h1
        · simp [Array.getElem?_eq_none h'] at h1
      have h2 := wpOp_putIf hoj (hfree j oj hoj hji hjun hnot) (fun cs b => hsel i oi cs b hi) (fun cs b => hsel j oj cs b hoj) hQ hy h1
      have hfree' : ∀ k ok, ops[k]? = some ok → k ≠ i → (listed.setIfInBounds j true).getD k true = false →
          (∀ e ∈ ok.after, Region.binds md e = true → e.on ≠ i) → oi.apart ops ok = true := fun k ok hk hki hun hno => by
        refine hfree k ok hk hki ?_ hno
        by_cases hjk : j = k
        · subst hjk; exact hjun
        · rw [getD_set_ne true hjk] at hun; exact hun
      refine wpOp_mono (fun a' w' h3 => ⟨h3.2.1, ih (listed.setIfInBounds j true) a' w' hfree' (ready_mono hr (Ne.symm hji)) h3.1 (h3.2.1 rfl) ?_⟩) h2
      rw [Array.setIfInBounds_comm _ _ hji]
      exact h3.2.2
/-- A read is taken first. -/
theorem kept_take {i d : Nat} {oi : Oper} {v : Value} {fuel : Nat} {listed : Array Bool} {a : Act} {w : World} (hi : ops[i]? = some oi) (hd : oi.dst = some d)
    (hs : Region.noSelect ops = true) (hf : Region.free md ops listed i = true) (hr : (Region.ready md ops listed).contains i = true)
    (hQ : ∀ c a w, Q (.panic c) (a.put oi.dst v) w → Q (.panic c) a w) (hy : YieldsIf P ops S oi v a) (hS : S w)
    (h : wpAnyE P md ops Q S (fun _ => false) fuel (listed.setIfInBounds i true) (a.put (some d) v) w) : wpAnyE P md ops Q S (fun _ => false) (fuel + 1) listed a w :=
  kept_first hi (Region.noSelect_spec hs) hQ fuel listed a w (Region.free_spec hi hf) (by simpa using hr) hy hS (by rw [hd]; exact h)
/-- A region by hand. -/
theorem wp_region_kept {id : Nat} {a : Act} {w : World} {l : List Oper} (S : World → Prop) (hm : P.follows .mixedOrders = true)
    (h : wpAnyE P .any l.toArray Q S (fun _ => false) l.toArray.size (Array.replicate l.toArray.size false) a { w with drawn := w.drawn + 1 }) : (Code.region id l.toArray true).wp P Q a w :=
  wp_region_any hm (wpAny_of_E _ _ _ _ h)
end
end Go.Proofs.YteejldddgogbkaaGreatDoor
/- A table that was built, as the laws need it. -/
set_option linter.unusedVariables false
namespace Go.Proofs.YteejldddgogbkaaGreatDoor
open Go.RowKit

structure Built (each : Nat) (T : List Ent) (t : Tab) (S : List UInt8) : Prop where
  opened : openTab S = (0, t)
  fine : FineT t
  bytes : t.bytes = S
  len : S.length ≤ 1000000000
  least : 16 ≤ S.length
  bits : t.bits.length ≤ 100000000
  count : t.count = T.length
  get : ∀ k, ∃ r, r ≤ 1 ∧ ((T.find? (isKey k)).isSome = true → r = 1) ∧ getT t k = ((T.find? (isKey k)).getD ⟨[], [], false⟩, (T.find? (isKey k)).isSome, 0, r)
  scan : ∀ k, scanT t k = (0, fromE k T)
  index : t.index = idxs 0 (chunks each T)
theorem tab_len {each per : Nat} {T : List Ent} (h1 : 1 ≤ each) (h2 : each ≤ 256) (h3 : 1 ≤ per) (h4 : per ≤ 32) (hl : T.length ≤ 3001) (hT : chkE T = 0) : (tabB each per T).length ≤ 1000000000 ∧ 16 ≤ (tabB each per T).length := by
  obtain ⟨hok, _⟩ := (chkE_ok T).1 hT
  have hsm := smallE_of hok
  obtain ⟨hfl, hcn⟩ := chunks_all (k := each) (by omega) T
  obtain ⟨C, hC⟩ : ∃ C, C = chunks each T := ⟨_, rfl⟩
  rw [← hC] at hfl hcn
  have hcs : ∀ c ∈ C, smallE c ∧ 1 ≤ c.length ∧ c.length ≤ 65536 := fun c hc => ⟨fun x hx => hsm x (by rw [← hfl]; exact List.mem_flatten.2 ⟨c, hc, hx⟩), (hcn c hc).1, by have := (hcn c hc).2; omega⟩
  have hbl := blks_len C hcs
  rw [hfl] at hbl
  have hxs := idxs_small C 0 hcs (by omega)
  have hYl := blkB_len hxs (by rw [idxs_len]; omega)
  rw [idxs_len] at hYl
  have hfol : (filB per T).length ≤ 300000 := filB_len h3 h4 (by omega)
  have htab : tabB each per T = blksB C ++ blkB (idxs 0 C) ++ crcd (filB per T) ++ crcd (footB (blksB C).length ((blksB C).length + (blkB (idxs 0 C)).length) T.length) := by unfold tabB tabC; rw [← hC]
  have hE : (footB (blksB C).length ((blksB C).length + (blkB (idxs 0 C)).length) T.length).length = 12 := rfl
  rw [htab]
  simp only [List.length_append, crcd_len, hE]
  omega
theorem built_tab {each per : Nat} {T : List Ent} (h1 : 1 ≤ each) (h2 : each ≤ 256) (h3 : 1 ≤ per) (h4 : per ≤ 32) (hl : T.length ≤ 3001) (hT : chkE T = 0) : ∃ t, Built each T t (tabB each per T) := by
  have ho := open_tab h1 h2 h3 h4 hl hT
  have hlen := tab_len h1 h2 h3 h4 hl hT
  obtain ⟨hok, _⟩ := (chkE_ok T).1 hT
  obtain ⟨hfl, hcn⟩ := chunks_all (k := each) (by omega) T
  obtain ⟨C, hC⟩ : ∃ C, C = chunks each T := ⟨_, rfl⟩
  rw [← hC] at hfl hcn ho
  have hcs : ∀ c ∈ C, 1 ≤ c.length ∧ c.length ≤ 65536 := fun c hc => ⟨(hcn c hc).1, by have := (hcn c hc).2; omega⟩
  have htab : tabB each per T = blksB C ++ (blkB (idxs 0 C) ++ crcd (filB per T) ++ crcd (footB (blksB C).length ((blksB C).length + (blkB (idxs 0 C)).length) T.length)) := by unfold tabB tabC; rw [← hC]; simp only [List.append_assoc]
  obtain ⟨hf, hb⟩ := open_fine ho
  refine ⟨_, ho, hf, rfl, hlen.1, hlen.2, ?_, rfl, fun k => ?_, fun k => ?_, by rw [hC]⟩
  · show (bytesOf _ _).length ≤ _
    rw [bytesOf_len]
    have := Nat.mul_le_mul h4 (show T.length ≤ 65536 by omega)
    unfold wordsOf
    omega
  · rw [htab]
    exact get_built hfl hok hcs (wordsOf_pos per T.length)
  · rw [htab]
    exact scan_built hfl hok hcs
end Go.Proofs.YteejldddgogbkaaGreatDoor
/- The parts of a slice of entries, one by one: the iterator's contract. -/
set_option linter.unusedVariables false
set_option maxRecDepth 100000
namespace Go.Proofs.YteejldddgogbkaaGreatDoor
open Go.RowKit

/-- What a round of the parts must keep: two variables. -/
def Kp2 (sb nb : Nat) (W W' : World) : Prop := W.heap.size ≤ W'.heap.size ∧ W'.heap[sb]? = W.heap[sb]? ∧ W'.heap[nb]? = W.heap[nb]?
theorem Kp2.refl (sb nb : Nat) (W : World) : Kp2 sb nb W W := ⟨Nat.le_refl _, rfl, rfl⟩
theorem Kp2.trans {sb nb : Nat} {A B C : World} (h : Kp2 sb nb A B) (k : Kp2 sb nb B C) : Kp2 sb nb A C := ⟨Nat.le_trans h.1 k.1, k.2.1.trans h.2.1, k.2.2.trans h.2.2⟩
theorem Kp2.putObj {sb nb B : Nat} (h1 : sb < B) (h2 : nb < B) (W : World) (l : Nat) (o' : Obj) (hl : B ≤ l) : Kp2 sb nb W (W.putObj l o') :=
  ⟨(grownBy_putObj' W l o').size, World.putObj_heap_other (by omega), World.putObj_heap_other (by omega)⟩
theorem Kp2.of_below {sb nb : Nat} {W W' : World} (h : Below W.heap.size W W') (h1 : sb < W.heap.size) (h2 : nb < W.heap.size) : Kp2 sb nb W W' := ⟨h.size, h.block _ h1, h.block _ h2⟩
/-- How many entries the q-th part has. -/
def partN (k len q : Nat) : Nat := min k (len - q * k)
def partV (b off k len q : Nat) : Value := .slice (some ⟨b, off + q * k * 3, none⟩) (partN k len q) (partN k len q)
set_option maxHeartbeats 2000000 in
theorem chunk_in (n l sb nb b off k len cap M : Nat) (a : Option Addr) (J Jx : List (Num M) → World → Prop) (W : World)
    (hk1 : 1 ≤ k) (hk2 : k ≤ 256) (hl : len ≤ 65536) (hcap : len ≤ cap) (ha : Hid (len = 0 ∨ a = some ⟨b, off, none⟩)) (hM : Hid (M = (len + k - 1) / k))
    (hJ : Hid (AbidesFrom W.heap.size J))
    (hY : Hid (∀ pre (q : Num M) W1, J pre W1 → pre.length < M → YieldAt Fence.wide (n - 1) Tryz.prog l #[partV b off k len q.1] W1 fun e W' =>
      (e = .returned (.bool true) ∧ J (pre ++ [q]) W' ∧ Kp2 sb nb W1 W') ∨ (e = .returned (.bool false) ∧ Jx (pre ++ [q]) W')))
    (h1 : Hid (W.heap[sb]? = some (.cells #[.slice a len cap] 22 (0, 0)))) (h2 : Hid (W.heap[nb]? = some (.cells #[.int .i64 (k : Int)] 3 (0, 0)))) (h0 : Hid (J [] W)) :
    Calls Tryz.prog 81 #[.func (.yield l) #[] #[], .pointer (some ⟨sb, 0, none⟩), .pointer (some ⟨nb, 0, none⟩)] W fun e W' => (∃ v, e = .returned v) ∧
      ((∃ xs, xs.map (·.1) = List.range M ∧ J xs W') ∨ (∃ pre, True ∧ Jx pre W')) := by
  go_enter Tryz.func81, Tryz.ntmps81
  go_wp2_with fail
  go_loopw [4] (fun vi wr => ∃ (q i : Nat) (pre : List (Num M)), q ≤ M ∧ Hid (i = q * k) ∧ i ≤ 66000 ∧ vi = .int .i64 (i : Int) ∧ Hid (pre.map (·.1) = List.range q) ∧ Hid (J pre wr) ∧ Hid (Kp2 sb nb W wr)) (fun vi wr => 66000 - (intOf vi).toNat)
  case atStart => exact ⟨0, 0, [], by omega, Lib.hid (by omega), by omega, rfl, Lib.hid rfl, h0, Lib.hid (Kp2.refl _ _ _)⟩
  case round =>
    obtain ⟨q, i, pre, hq, hi, hi6, rfl, hpre, hJs, hkc⟩ := hrel
    have hs1 : wr.cell? ⟨sb, 0, none⟩ = some (.slice a len cap) := by simp [World.cell?, hkc.out.2.1, h1.out]
    have hn1 : wr.cell? ⟨nb, 0, none⟩ = some (.int .i64 (k : Int)) := by simp [World.cell?, hkc.out.2.2, h2.out]
    rcases Nat.lt_or_ge i len with hlt | hge
    · have hlt' : (i : Int) < (len : Int) := by omega
      have hbs := Lib.hid (show sb < wr.heap.size ∧ nb < wr.heap.size from ⟨cell_block hs1, cell_block hn1⟩)
      obtain ⟨p, hp⟩ : ∃ p, p = min k (len - i) := ⟨_, rfl⟩
      have hmin : min (k : Int) ((len - i : Nat) : Int) = (p : Int) := by omega
      have hp1 : i + p ≤ len := by omega
      have htn : ((i : Int) + (p : Int)).toNat - i = p := by omega
      obtain rfl : a = some ⟨b, off, none⟩ := by rcases ha.out with h | h; (omega); (exact h)
      have hqM := Lib.hid (show q < M by
        have h1 := hM.out
        have h2 := hi.out
        rcases Nat.lt_or_ge q M with h | h
        · exact h
        · have h3 : M * k ≤ q * k := Nat.mul_le_mul_right _ h
          have h4 : len ≤ M * k := by
            rw [h1]
            have := Nat.div_add_mod (len + k - 1) k
            have h5 := Nat.mod_lt (len + k - 1) (show 0 < k by omega)
            rw [Nat.mul_comm] at this
            omega
          omega)
      have hpv := Lib.hid (show Value.slice (some ⟨b, off + i * 3, none⟩) p p = partV b off k len q by unfold partV partN; rw [← hi.out, ← hp])
      have hik := Lib.hid (show i + k = (q + 1) * k by rw [Nat.add_mul, Nat.one_mul, ← hi.out])
      have hpl := Lib.hid hp
      clear hp
      go_wp2_with fail
      go_quiet (fail)
      go_upto_region 4 with (fail)
      refine (wpIn_wide (n := n)).1 ?_
      have hs2 : (wr.drewN nq).cell? ⟨sb, 0, none⟩ = some (.slice (some ⟨b, off, none⟩) len cap) := hs1
      have hbd := Lib.hid (below_drewN (Below.refl wr.heap.size wr) nq)
      have HJr := Lib.hid (hJ.out _ wr _ none hJs.out (grown_of_below hbd.out) (fun r e => by cases e))
      obtain ⟨fn, tm, asg, bdy, hy, hR⟩ := hY.out pre ⟨q, hqM.out⟩ (wr.drewN nq) HJr.out (by rw [← List.length_map (f := (·.1)), hpre.out, List.length_range]; exact hqM.out)
      rw [← hpv.out] at hy
      gi_wp2
      refine ⟨fun h => by simp [Fence.wide] at h, hR.mono ?_⟩
      have hkc2 := Lib.hid (hkc.out.trans (Kp2.of_below hbd.out hbs.out.1 hbs.out.2))
      rintro e W5 (⟨rfl, hJ5, hk5⟩ | ⟨rfl, hx5⟩)
      · have HK5 := Lib.hid (hkc2.out.trans hk5)
        have HJ5 := Lib.hid hJ5
        have hn5 : W5.cell? ⟨nb, 0, none⟩ = some (.int .i64 (k : Int)) := by simp [World.cell?, HK5.out.2.2, h2.out]
        clear hJ5 hk5 hs1 hn1 hs2
        gi_wp2
        go_wp2_with fail
        go_roundw
        case rel => exact ⟨q + 1, i + k, pre ++ [⟨q, hqM.out⟩], by have := hqM.out; omega, hik, by omega, by go_num, Lib.hid (by rw [List.map_append, hpre.out, List.range_succ]; rfl), HJ5, HK5⟩
        case measure => simp [intOf]; omega
      · gi_wp2
        go_wp2_with fail
        refine bodyPost_ret (results_none rfl _ _ _) rfl ?_
        exact ⟨⟨_, rfl⟩, .inr ⟨_, trivial, hx5⟩⟩
    · go_wp2_with fail
      go_end0
      exact ⟨⟨_, rfl⟩, .inl ⟨pre, by
        have h1 := hM.out
        have h2 := hi.out
        have h3 : q = M := by
          rcases Nat.lt_or_ge q M with h | h
          · have h3 : (q + 1) * k ≤ M * k := Nat.mul_le_mul_right _ h
            have := Nat.div_mul_le_self (len + k - 1) k
            rw [← h1] at this
            rw [Nat.add_mul, Nat.one_mul] at h3
            omega
          · omega
        rw [hpre.out, h3], hJs.out⟩⟩
theorem chunk_stops (n sb nb b off k len cap M : Nat) (a : Option Addr) (w : World)
    (hk1 : 1 ≤ k) (hk2 : k ≤ 256) (hl : len ≤ 65536) (hcap : len ≤ cap) (ha : Hid (len = 0 ∨ a = some ⟨b, off, none⟩)) (hM : Hid (M = (len + k - 1) / k))
    (h1 : w.heap[sb]? = some (.cells #[.slice a len cap] 22 (0, 0))) (h2 : w.heap[nb]? = some (.cells #[.int .i64 (k : Int)] 3 (0, 0))) :
    SeqStopsK Fence.wide n Tryz.prog 81 #[.pointer (some ⟨sb, 0, none⟩), .pointer (some ⟨nb, 0, none⟩)] (fun q : Num M => #[partV b off k len q.1]) (Kp2 sb nb) (fun xs => xs.map (·.1) = List.range M) (fun pre => True) M w := fun l J Jx W hW hJ hJx hY h0 =>
  callsIn_wide.2 (chunk_in n l sb nb b off k len cap M a J Jx W hk1 hk2 hl hcap ha hM (Lib.hid hJ) (Lib.hid hY) (Lib.hid ((hW.block _ (heap_lt h1)).trans h1)) (Lib.hid ((hW.block _ (heap_lt h2)).trans h2)) (Lib.hid h0))
end Go.Proofs.YteejldddgogbkaaGreatDoor
/- The parts of a list by their numbers, in plain words. -/
set_option linter.unusedVariables false
namespace Go.Proofs.YteejldddgogbkaaGreatDoor
open Go.RowKit

def chunkAt (k : Nat) (T : List Ent) (q : Nat) : List Ent := (T.drop (q * k)).take k
theorem chunkAt_len (k : Nat) (T : List Ent) (q : Nat) : (chunkAt k T q).length = min k (T.length - q * k) := by unfold chunkAt; rw [List.length_take, List.length_drop]
theorem chunks_count {k n : Nat} (hk : 0 < k) (hn : 0 < n) : (n + k - 1) / k = (n - k + k - 1) / k + 1 := by
  rcases Nat.lt_or_ge n k with h | h
  · have h1 : n - k = 0 := by omega
    have h2 : (k - 1) / k = 0 := Nat.div_eq_of_lt (by omega)
    have h3 : (n + k - 1) / k = 1 := Nat.div_eq_of_lt_le (by omega) (by omega)
    rw [h1, show 0 + k - 1 = k - 1 by omega, h2, h3]
  · rw [show n + k - 1 = (n - k + k - 1) + k by omega, Nat.add_div_right _ hk]
theorem parts_range {k : Nat} (hk : 0 < k) : ∀ (f : Nat) (T : List Ent), T.length ≤ f → parts f k T = (List.range ((T.length + k - 1) / k)).map (chunkAt k T)
  | 0, T, h => by
    have h0 : T.length = 0 := by omega
    rw [h0, show 0 + k - 1 = k - 1 by omega, Nat.div_eq_of_lt (by omega)]
    rfl
  | f + 1, T, h => by
    unfold parts
    cases hT : T with
    | nil =>
      simp only [List.length_nil]
      rw [show 0 + k - 1 = k - 1 by omega, Nat.div_eq_of_lt (by omega)]
      rfl
    | cons x U =>
      rw [← hT]
      have hl : 0 < T.length := by rw [hT]; simp
      have ih := parts_range hk f (T.drop k) (by rw [List.length_drop]; omega)
      rw [chunks_count hk hl, List.range_succ_eq_map, List.map_cons, List.map_map]
      have e0 : chunkAt k T 0 = T.take k := by simp [chunkAt]
      have e1 : ∀ q, chunkAt k T (q + 1) = chunkAt k (T.drop k) q := fun q => by
        unfold chunkAt
        rw [List.drop_drop, Nat.add_mul, Nat.one_mul, Nat.add_comm]
      have hne : T.isEmpty = false := by rw [hT]; rfl
      rw [hne, e0, ih, List.length_drop]
      simp only [Function.comp_def, Nat.succ_eq_add_one, e1]
      rfl
theorem chunks_range {k : Nat} (hk : 0 < k) (T : List Ent) : chunks k T = (List.range ((T.length + k - 1) / k)).map (chunkAt k T) := parts_range hk _ T (Nat.le_refl _)
theorem rises_part {T : List Ent} (h : rises T) (i n : Nat) : rises ((T.drop i).take n) := by
  have h1 := (rises_app (A := T.take i) (D := T.drop i) (by rw [List.take_append_drop]; exact h)).2.1
  exact (rises_app (A := (T.drop i).take n) (D := (T.drop i).drop n) (by rw [List.take_append_drop]; exact h1)).1
theorem okE_fields : ∀ {T : List Ent} {first : Bool} {last : List UInt8}, okEs first last T → ∀ x ∈ T, x.key.length ≤ 65536 ∧ x.val.length ≤ 65536 ∧ (x.gone = true → x.val = [])
  | [], _, _, _, x, hx => by cases hx
  | y :: T, _, _, h, x, hx => by
    rcases List.mem_cons.1 hx with rfl | hx
    · exact ⟨h.1.1, h.1.2.1, h.1.2.2.1⟩
    · exact okE_fields h.2 x hx
theorem chk_part {T : List Ent} (h : chkE T = 0) (i n : Nat) : chkE ((T.drop i).take n) = 0 := by
  obtain ⟨hok, hl⟩ := (chkE_ok T).1 h
  refine (chkE_ok _).2 ⟨okEs_of_rises true [] (rises_part (rises_of_okEs true [] hok).1 i n) (fun x hx => okE_fields hok x ?_) (fun e => by cases e), ?_⟩
  · exact List.mem_of_mem_drop (List.mem_of_mem_take hx)
  · rw [List.length_take, List.length_drop]; omega
theorem chk_chunk {T : List Ent} (h : chkE T = 0) (k q : Nat) : chkE (chunkAt k T q) = 0 := chk_part h _ _
theorem pack_chk {T : List Ent} (h : chkE T = 0) : packB T = blkB T := by unfold packB; rw [if_pos h, blkB_eq]
end Go.Proofs.YteejldddgogbkaaGreatDoor
