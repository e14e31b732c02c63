/- Texts for layer 9, put together: TableAll, TableOver, TableLaw, TableBuilt, TableChunk, TableParts, TableSb, QHeld -/
import Derived.Test.YteejldddgogbkaaDoorTTel16
import Derived.Test.YteejldddgogbkaaDoorTTel12
import Derived.Test.YteejldddgogbkaaDoorTTel00
import Derived.Test.YteejldddgogbkaaDoorTTel14
import Derived.Test.YteejldddgogbkaaDoorTTel13
import Derived.Test.YteejldddgogbkaaDoorTTel11
import Derived.Test.YteejldddgogbkaaDoorTTel01
import Derived.Test.YteejldddgogbkaaDoorTTel06
import Derived.Test.YteejldddgogbkaaDoorTTel05
import Derived.OrdersHeld
/- The law's "all": what a walk tells, up to its end. -/
set_option linter.unusedVariables false
set_option maxRecDepth 100000
namespace Go.Proofs.YteejldddgogbkaaDoor
open Go.RowKit

/-- A function that tells entries, one by one, and then an error. -/
structure Walker (lb fb nb tb kb : Nat) (Z : Int) (S : Nat → Prop) (B : Nat) (I : Nat → List Ent → World → Prop) (E : World → Prop) : Prop where
  next : ∀ G L W, I G L W → G < W.heap.size → Calls Tryd.prog 61 #[.pointer (some ⟨lb, 0, none⟩), .pointer (some ⟨fb, 0, none⟩), .pointer (some ⟨nb, 0, none⟩), .pointer (some ⟨tb, 0, none⟩), .pointer (some ⟨kb, 0, none⟩)] W fun e w' =>
    ((L = [] ∧ e = .returned (.tuple #[.agg #[.string ⟨#[]⟩, .string ⟨#[]⟩, .bool false], .bool false, .int .i64 Z]) ∧ I G [] w' ∧ E w') ∨ (∃ x L1, L = x :: L1 ∧ e = .returned (.tuple #[.agg #[.string (bs x.key), .string (bs x.val), .bool x.gone], .bool true, .int .i64 0]) ∧ I G L1 w')) ∧ Only S W w'
  below : ∀ G L W W', I G L W → Below W.heap.size W W' → I G L W'
  row : ∀ G G2 L W W', I G L W → B ≤ G → (G2 = G ∨ W.heap.size ≤ G2) → (∀ j, j < W.heap.size → j ≠ G → W'.heap[j]? = W.heap[j]?) → I G2 L W'
  fresh : ∀ G G2 L W, I G L W → W.heap.size ≤ G2 → I G2 L W
  low : ∀ j, S j → j < B
  pos : 0 < B
  last : ∀ W W', E W → Below W.heap.size W W' → E W'
theorem OwnE.only {w w' : World} {B : Nat} {S : Nat → Prop} {v : Value} {R : List Ent} (h : OwnE w B v R) (k : Only S w w') (hS : ∀ j, S j → j < B) : OwnE w' B v R :=
  OffRow.kept h fun j hj => k.block j (OffRow.lt h j hj).2 fun e => by have := (OffRow.lt h j hj).1; have := hS j e; omega
theorem fn_walk (F : Nat) (c : Array Value) (w : World) : (binOp .eql 83 (.func (.func F) #[] c) .nilFunc).run Tryd.prog w = .ok (.bool false) w := by kernel_rfl
structure AllPost (L : List Ent) (Z : Int) (p : Nat) (E : World → Prop) (w : World) (e : Ending) (w' : World) : Prop where
  out : ∃ a cap, e = .returned (.tuple #[.slice a L.length cap, .int .i64 Z]) ∧ IsE w' a L.length L
  last : E w'
  only : Only (fun j => j = p) w w'
set_option maxHeartbeats 4000000 in
theorem law_all (tv : Value) (key : List UInt8) (L : List Ent) (Z : Int) (p : Nat) (E : World → Prop) (w : World)
    (hW : Hid (Calls Tryd.prog 40 #[tv, .string (bs key)] w fun e w1 => ∃ lb fb nb tb kb I S, e = .returned (walkV lb fb nb tb kb) ∧ Walker lb fb nb tb kb Z S w1.heap.size I E ∧ (∀ G, I G L w1) ∧ (∀ j, S j → j = p ∨ w.heap.size ≤ j) ∧ Below w.heap.size w w1))
    (hL : L.length < 100000) :
    Calls Tryd.prog 16 #[tv, .string (bs key)] w (AllPost L Z p E w) := by
  obtain ⟨i0, hi0, hz0, hz1, hz2⟩ := info_parts infoE
  have HI0 := Lib.hid (And.intro hi0 (And.intro hz0 (And.intro hz1 hz2)))
  clear hi0 hz0 hz1 hz2
  go_enter Tryd.func16, Tryd.ntmps16
  go_upto_region 2 with (fail)
  go_wp2_with fail
  refine hW.out.mono ?_
  rintro e w1 ⟨lb, fb, nb, tb, kb, I, S, rfl, hWk, hI, hS, hB1⟩
  have HWK := Lib.hid hWk
  have HS := Lib.hid hS
  have HB1 := Lib.hid hB1
  obtain ⟨B, hB⟩ : ∃ B, B = w1.heap.size := ⟨_, rfl⟩
  rw [← hB] at HWK
  have HB := Lib.hid hB
  have I0 := Lib.hid (hI 0)
  clear hWk hI hS hB1 hB
  unfold walkV
  have hfn := fn_walk
  go_wp2_with fail
  clear hfn
  go_loopw [6, 8] (fun v iv wr => ∃ done rest G, L = done ++ rest ∧ iv = .int .i64 (done.length : Int) ∧ Hid (OwnE wr B v done) ∧ Hid (I G rest wr) ∧ Hid (∀ g, v.ownBlock = some g → g = G) ∧ Hid (G < wr.heap.size) ∧ Hid (Only S w1 wr)) (fun v iv wr => L.length - (intOf iv).toNat)
  case atStart => exact ⟨[], L, 0, rfl, rfl, Lib.hid (OwnE.nil _ _), I0, Lib.hid (fun g h => by cases h), Lib.hid (by have := HWK.out.pos; rw [HB.out] at this; exact this), Lib.hid (Only.refl _ _)⟩
  case round =>
    obtain ⟨done, rest, G, hsplit, rfl, hO, hI, hOwn, hGl, hOn⟩ := hrel
    have hLen : L.length = done.length + rest.length := by rw [hsplit, List.length_append]
    have hBr := Lib.hid (show B ≤ wr.heap.size from HB.out ▸ hOn.out.size)
    have HSp := Lib.hid hsplit
    obtain ⟨n, hn⟩ : ∃ n, n = done.length := ⟨_, rfl⟩
    obtain ⟨a, cap, hv⟩ := hO.out.slice
    rw [← hn] at hLen hv ⊢
    have HN := Lib.hid hn
    have hlt : (n : Int) < 100000 := by omega
    have HNX := Lib.hid (HWK.out.next G rest wr hI.out hGl.out)
    subst hv
    clear hsplit hn
    go_wp2_with fail
    refine HNX.out.mono ?_
    rintro e w2 ⟨hcase, hOn2⟩
    have O2 := Lib.hid (hOn.out.trans (hOn2.mono fun j _ h => h))
    have R2 := Lib.hid (hO.out.only hOn2 HWK.out.low)
    have G2 := Lib.hid (Nat.lt_of_lt_of_le hGl.out hOn2.size)
    have B2 := Lib.hid (Nat.le_trans hBr.out hOn2.size)
    clear hOn2
    rcases hcase with ⟨hrest, rfl, hI2, hE2⟩ | ⟨x, L1, hrest, rfl, hI2⟩
    · -- the end
      subst hrest
      have HLD := Lib.hid (show L = done by have := HSp.out; rwa [List.append_nil] at this)
      have HI2 := Lib.hid hI2
      clear hI2 hE2
      obtain ⟨w3, hw3⟩ : ∃ w3, w3 = w2.alloc (.cells #[.string ⟨#[]⟩, .string ⟨#[]⟩, .bool false] 38) := ⟨_, rfl⟩
      have K3 := Lib.hid (show Below w2.heap.size w2 w3 by rw [hw3]; exact (Below.refl _ _).alloc (Nat.le_refl _) _)
      have C3' := Lib.hid (show C3 w2.heap.size 38 (.string ⟨#[]⟩) (.string ⟨#[]⟩) (.bool false) w3 by rw [hw3]; exact heap_new w2 _)
      have HI3 := Lib.hid (HWK.out.below _ _ _ _ HI2.out K3.out)
      have O3 := Lib.hid (O2.out.trans (Only.of_below' (S := S) K3.out rfl))
      have R3 := Lib.hid (R2.out.below K3.out)
      have HNX3 := Lib.hid (HWK.out.next G [] w3 HI3.out (Nat.lt_of_lt_of_le G2.out K3.out.size))
      have HW3 := Lib.hid hw3
      clear hw3
      go_upto_region 10 with (fail)
      rw [← HW3.out]
      go_wp2_with fail
      refine HNX3.out.mono ?_
      rintro e w4 ⟨hcase, hOn4⟩
      rcases hcase with ⟨_, rfl, hI4, hE4⟩ | ⟨x, L1, hrest, _, _⟩
      rotate_left
      · cases hrest
      have C4 := Lib.hid (show C3 w2.heap.size 38 (.string ⟨#[]⟩) (.string ⟨#[]⟩) (.bool false) w4 from (hOn4.block _ (heap_lt C3'.out) (fun e => by have := HWK.out.low _ e; have := B2.out; omega)).trans C3'.out)
      have O4 := Lib.hid (O3.out.trans (hOn4.mono fun j _ h => h))
      have R4 := Lib.hid (R3.out.only hOn4 HWK.out.low)
      have E4 := Lib.hid hE4
      clear hOn4 hI4 hE4
      obtain ⟨w5, hw5⟩ : ∃ w5, w5 = w4.alloc (.cells #[.string ⟨#[]⟩, .string ⟨#[]⟩, .bool false] 38) := ⟨_, rfl⟩
      have K5 := Lib.hid (show Below w4.heap.size w4 w5 by rw [hw5]; exact (Below.refl _ _).alloc (Nat.le_refl _) _)
      have D5 := Lib.hid (show C3 w4.heap.size 38 (.string ⟨#[]⟩) (.string ⟨#[]⟩) (.bool false) w5 by rw [hw5]; exact heap_new w4 _)
      have C5 := Lib.hid (C4.out.below K5.out)
      have O5 := Lib.hid (O4.out.trans (Only.of_below' (S := S) K5.out rfl))
      have R5 := Lib.hid (R4.out.below K5.out)
      have E5 := Lib.hid (HWK.out.last _ _ E4.out K5.out)
      have x0 := C5.out.c0
      have x1 := C5.out.c1
      have x2 := C5.out.c2
      have y0 := D5.out.c0
      have y1 := D5.out.c1
      have y2 := D5.out.c2
      have hsame := ent_same ⟨#[]⟩ ⟨#[]⟩ false
      have hZ : (Z == Z) = true := beq_self_eq_true Z
      have HW5 := Lib.hid hw5
      clear hw5
      go_upto_region 11 with (fail)
      rw [← HW5.out]
      go_wp2_with fail
      go_ret2
      have hb := Lib.hid (Below.refl w5.heap.size w5)
      have hO6 := O5
      refine ⟨⟨a, cap, by rw [HLD.out, ← HN.out]; rfl, ?_⟩, HWK.out.last _ _ E5.out hb.out, ?_⟩
      · have h := (R5.out.below hb.out).is HN.out
        rw [HLD.out, ← HN.out]
        exact h
      · have h1 : Only (fun j => j = p) w w1 := Only.of_below' HB1.out rfl
        refine h1.andThen hO6.out fun j hj h => ?_
        rcases HS.out j h with h | h
        · exact h
        · omega
    · -- an entry more
      subst hrest
      have hLen2 : L.length = n + (L1.length + 1) := by rw [hLen]; simp
      have HI2 := Lib.hid hI2
      clear hI2
      obtain ⟨w3, hw3⟩ : ∃ w3, w3 = w2.alloc (.cells #[.string (bs x.key), .string (bs x.val), .bool x.gone] 38) := ⟨_, rfl⟩
      have K3 := Lib.hid (show Below w2.heap.size w2 w3 by rw [hw3]; exact (Below.refl _ _).alloc (Nat.le_refl _) _)
      have C3' := Lib.hid (show C3 w2.heap.size 38 (.string (bs x.key)) (.string (bs x.val)) (.bool x.gone) w3 by rw [hw3]; exact heap_new w2 _)
      have HI3 := Lib.hid (HWK.out.below _ _ _ _ HI2.out K3.out)
      have O3 := Lib.hid (O2.out.trans (Only.of_below' (S := S) K3.out rfl))
      have R3 := Lib.hid (R2.out.below K3.out)
      have G3 := Lib.hid (Nat.lt_of_lt_of_le G2.out K3.out.size)
      have B3 := Lib.hid (Nat.le_trans B2.out K3.out.size)
      have x0 := C3'.out.c0
      have x1 := C3'.out.c1
      have x2 := C3'.out.c2
      have HW3 := Lib.hid hw3
      clear hw3
      go_upto_region 14 with (fail)
      rw [← HW3.out]
      obtain ⟨hi0, hz0, hz1, hz2⟩ := HI0.out
      go_wp2_with (at_builtin; refine wpList_append_off rfl (.tmp 56) (.tmp 58) 22 rfl B 38 i0 _ 3 40 Tryd.underlying22 hi0 hz0 hz1 hz2 rfl (.slice a n cap) n (ecells done) rfl ?c1 (.slice (some ⟨w3.heap.size, 0, none⟩) 1 1) rfl 1 x.vals ?c2 ?c3 ?c4 ?c5 ?_)
      case c1 => have := R3.out; unfold OwnE at this; rw [← HN.out] at this; exact OffRow.allocd this _
      case c2 => exact src_block (size := 3) (cs := #[.string (bs x.key), .string (bs x.val), .bool x.gone]) Tryd.underlying22 (heap_new _ _) 1 1 rfl (by intro u hu; simp at hu; rcases hu with rfl | rfl | rfl <;> rfl)
      case c3 => unfold maxLen; omega
      case c4 => omega
      case c5 => have := B3.out; simp; omega
      intro v5 w5 hr5 hg5 hat5
      obtain ⟨w4, hw4⟩ : ∃ w4, w4 = w3.alloc (.cells #[.string (bs x.key), .string (bs x.val), .bool x.gone] 38) := ⟨_, rfl⟩
      have K4 := Lib.hid (show Below w3.heap.size w3 w4 by rw [hw4]; exact (Below.refl _ _).alloc (Nat.le_refl _) _)
      have hs4 : w4.heap.size = w3.heap.size + 1 := by rw [hw4]; simp
      rw [← hw4] at hg5
      rw [← hs4] at hat5
      have HI4 := Lib.hid (HWK.out.below _ _ _ _ HI3.out K4.out)
      have O4 := Lib.hid (O3.out.trans (Only.of_below' (S := S) K4.out rfl))
      have R4 := Lib.hid (R3.out.below K4.out)
      have hO5 := Lib.hid (show OwnE w5 B v5 (done ++ [x]) by
        unfold OwnE
        rw [ecells_snoc, List.length_append, ← HN.out]
        exact hr5)
      have hOn5 := Lib.hid (show Only S w1 w5 from O4.out.grown hg5 fun j hj => .inr (by rw [← HB.out]; exact (OffRow.lt R4.out j hj).1))
      have hKey := Lib.hid (show ∃ G2, I G2 L1 w5 ∧ (∀ g, v5.ownBlock = some g → g = G2) ∧ G2 < w5.heap.size by
        rcases hat5 with hat | hat
        · by_cases hob : ∃ g, (Value.slice a n cap).ownBlock = some g
          · obtain ⟨g, hob⟩ := hob
            have hgG := hOwn.out g hob
            refine ⟨G, HWK.out.row G G L1 w4 w5 HI4.out (by rw [← hgG]; exact (OffRow.lt R4.out g hob).1) (.inl rfl) (fun j hj hne => hg5.block j hj (by rw [hob, hgG]; intro e; injection e with e; exact hne e)), fun g' hg' => ?_, ?_⟩
            · rw [hat, hob] at hg'
              injection hg' with hg'
              rw [← hg', hgG]
            · have := hg5.size; have := G3.out; omega
          · refine ⟨G, HWK.out.below G L1 w4 w5 HI4.out ((Below.refl _ _).grown hg5 (Nat.le_refl _) fun k hk => absurd ⟨k, hk⟩ hob), fun g' hg' => absurd ⟨g', hat ▸ hg'⟩ hob, ?_⟩
            have := hg5.size; have := G3.out; omega
        · have hlt5 : w4.heap.size < w5.heap.size := (OffRow.lt hr5 _ hat).2
          by_cases hob : ∃ g, (Value.slice a n cap).ownBlock = some g
          · obtain ⟨g, hob⟩ := hob
            have hgG := hOwn.out g hob
            refine ⟨w4.heap.size, HWK.out.row G _ L1 w4 w5 HI4.out (by rw [← hgG]; exact (OffRow.lt R4.out g hob).1) (.inr (Nat.le_refl _)) (fun j hj hne => hg5.block j hj (by rw [hob, hgG]; intro e; injection e with e; exact hne e)), fun g' hg' => ?_, hlt5⟩
            rw [hat] at hg'
            injection hg' with hg'
            exact hg'.symm
          · refine ⟨w4.heap.size, HWK.out.below _ L1 w4 w5 (HWK.out.fresh G _ L1 w4 HI4.out (Nat.le_refl _)) ((Below.refl _ _).grown hg5 (Nat.le_refl _) fun k hk => absurd ⟨k, hk⟩ hob), fun g' hg' => ?_, hlt5⟩
            rw [hat] at hg'
            injection hg' with hg'
            exact hg'.symm)
      obtain ⟨G5, hI5, hOw5, hGl5⟩ := hKey.out
      have HI5 := Lib.hid hI5
      have HOw5 := Lib.hid hOw5
      have HGl5 := Lib.hid hGl5
      have hdl := Lib.hid (show ((done ++ [x]).length : Int) = (n : Int) + 1 by rw [List.length_append, ← HN.out]; rfl)
      clear hr5 hg5 hat5 hw4 hs4 hI5 hOw5 hGl5 hi0 hz0 hz1 hz2
      go_wp2_with fail
      go_roundw
      case rel => exact ⟨done ++ [x], L1, G5, by rw [HSp.out]; simp, by rw [hdl.out], hO5, HI5, HOw5, HGl5, hOn5⟩
      case measure => simp [intOf]; omega
end Go.Proofs.YteejldddgogbkaaDoor
/- The law's source of a text. -/
set_option linter.unusedVariables false
set_option maxRecDepth 100000
set_option maxRecDepth 100000
namespace Go.Proofs.YteejldddgogbkaaDoor
open Go.RowKit

/-- A source of s: its box is b. -/
def overV (b : Nat) : Value := .func (.func 35) #[] #[.pointer (some ⟨b, 0, none⟩)]
theorem law_over (s : ByteArray) (w : World) : Calls Tryd.prog 12 #[.string s] w fun e w' => e = .returned (overV w.heap.size) ∧ w' = w.alloc (.cells #[.string s] 9) := by
  go_enter Tryd.func12, Tryd.ntmps12
  go_wp2_with fail
  go_ret
  exact ⟨rfl, rfl⟩
/-- What a source answers. -/
def overE (n : Nat) (at_ size : Int) : Int := if at_ < 0 ∨ size < 0 ∨ at_ > n ∨ size > n - at_ then 1 else 0
set_option maxHeartbeats 1000000 in
theorem over_no (b : Nat) (s : ByteArray) (at_ size : Int) (w : World) (hc : w.cell? ⟨b, 0, none⟩ = some (.string s)) (ha : -9223372036854775808 ≤ at_) (ha2 : at_ ≤ 9223372036854775807) (hs : s.size ≤ 9223372036854775807) (h : at_ < 0 ∨ size < 0 ∨ at_ > (s.size : Int) ∨ size > (s.size : Int) - at_) :
    Calls Tryd.prog 35 #[.int .i64 at_, .int .i64 size, .pointer (some ⟨b, 0, none⟩)] w fun e w' => e = .returned (.tuple #[.string (bs []), .int .i64 1]) ∧ Below w.heap.size w w' := by
  by_cases h1 : at_ < 0
  · go_enter Tryd.func35, Tryd.ntmps35
    go_wp2_with fail
    go_ret2
    exact ⟨rfl, Below.refl _ _⟩
  by_cases h2 : size < 0
  · go_enter Tryd.func35, Tryd.ntmps35
    go_wp2_with fail
    go_ret2
    exact ⟨rfl, Below.refl _ _⟩
  by_cases h3 : at_ > (s.size : Int)
  · go_enter Tryd.func35, Tryd.ntmps35
    go_wp2_with fail
    go_ret2
    exact ⟨rfl, Below.refl _ _⟩
  · have h4 : size > (s.size : Int) - at_ := by omega
    go_enter Tryd.func35, Tryd.ntmps35
    go_wp2_with fail
    go_ret2
    exact ⟨rfl, Below.refl _ _⟩
set_option maxHeartbeats 1000000 in
theorem over_yes (b : Nat) (s : ByteArray) (n k : Nat) (w : World) (hc : w.cell? ⟨b, 0, none⟩ = some (.string s)) (h : n + k ≤ s.size) (hs : s.size ≤ 9223372036854775807) :
    Calls Tryd.prog 35 #[.int .i64 (n : Int), .int .i64 (k : Int), .pointer (some ⟨b, 0, none⟩)] w fun e w' => e = .returned (.tuple #[.string (s.extract n (n + k)), .int .i64 0]) ∧ Below w.heap.size w w' := by
  go_enter Tryd.func35, Tryd.ntmps35
  go_wp2_with fail
  go_ret2
  exact ⟨rfl, Below.refl _ _⟩
end Go.Proofs.YteejldddgogbkaaDoor
/- What the laws call: a table over a source, all of it from a key on. -/
set_option linter.unusedVariables false
set_option maxRecDepth 100000
namespace Go.Proofs.YteejldddgogbkaaDoor
open Go.RowKit

theorem bs_cut (L : List UInt8) (n k : Nat) : (bs L).extract n (n + k) = bs ((L.drop n).take k) :=
  bs_eq (by rw [Lib.extract_data, bs_list]; congr 1; omega)
/-- The box of a source of a text. -/
def overK (b : Nat) (L : List UInt8) : List (Nat × Obj) := [(b, .cells #[.string (bs L)] 9 (0, 0))]
theorem over_src (b : Nat) (L : List UInt8) (hl : L.length ≤ 100000000000) : Src 35 #[.pointer (some ⟨b, 0, none⟩)] (overK b L) 0 L where
  enters := enters_of Tryd.func35 (by kernel_rfl) rfl
  calls W hK n k hnk := by
    have h0 : W.heap[b]? = some (.cells #[.string (bs L)] 9 (0, 0)) := hK (b, _) (by simp [overK])
    refine (over_yes b (bs L) n k W (by simp [World.cell?, h0]) (by rw [bs_size]; exact hnk) (by rw [bs_size]; omega)).mono ?_
    rintro e w' ⟨rfl, h⟩
    exact ⟨by rw [bs_cut, if_pos rfl], h⟩
/-- A table in memory whose source has what it needs. -/
structure TabS (p F : Nat) (c : Array Value) (K : List (Nat × Obj)) (t : Tab) (lo hi : Int) (W : World) : Prop where
  ex : ∃ n, lo ≤ n ∧ n ≤ hi ∧ TabM p (srcV F c) n t W
  keep : Keep K W
theorem TabS.below {p F : Nat} {c : Array Value} {K : List (Nat × Obj)} {t : Tab} {lo hi : Int} {W W' : World} (h : TabS p F c K t lo hi W) (k : Below W.heap.size W W') : TabS p F c K t lo hi W' := by
  obtain ⟨n, h1, h2, h3⟩ := h.ex
  exact ⟨⟨n, h1, h2, h3.below k⟩, h.keep.below k⟩
/-- The first block that a walk reads. -/
def firstB (t : Tab) (key : List UInt8) : Nat := fromN key (t.index.map (·.key)) - 1
theorem firstB_le (t : Tab) (key : List UInt8) : firstB t key ≤ t.index.length := by
  have := fromN_le key (t.index.map (·.key))
  rw [List.length_map] at this
  unfold firstB
  omega
/-- How many blocks were read behind a walk: at least, at most. -/
def readLo (t : Tab) (key : List UInt8) (n Z : Int) : Int := if Z = 0 then n - (firstB t key : Int) + (t.index.length : Int) else n - 65536
def readHi (t : Tab) (key : List UInt8) (n Z : Int) : Int := if Z = 0 then n - (firstB t key : Int) + (t.index.length : Int) else n + 65536
theorem walker_of {p F : Nat} {c : Array Value} {K : List (Nat × Obj)} {t : Tab} {d n : Int} {key : List UInt8} {lb fb nb tb kb B : Nat} (Z : Int) (hf : FineT t) (hs : Src F c K d t.bytes) (hK : ∀ q ∈ K, q.1 < lb ∧ q.1 < fb ∧ q.1 < nb ∧ q.1 ≠ p)
    (hB : p < B ∧ lb < B ∧ fb < B ∧ nb < B ∧ tb < B ∧ kb < B) (hn1 : -10000000000000000 ≤ n) (hn2 : n ≤ 10000000000000000) (hl : t.bytes.length ≤ 100000000000) :
    Walker lb fb nb tb kb Z (WS4 lb fb nb p) B (fun G L W => WalkS lb fb nb tb kb p G F c K t d (n - (firstB t key : Int)) key Z L W) (TabS p F c K t (readLo t key n Z) (readHi t key n Z)) where
  next G L W h hG := by
    have hfew := hf.few
    have hfl := firstB_le t key
    refine (table_next lb fb nb tb kb p G F c K t d (n - (firstB t key : Int)) key Z L W (Lib.hid h) (Lib.hid hf) (Lib.hid hs) (Lib.hid fun q hq e => ?_) (Lib.hid hG) (by omega) (by omega) hl).mono ?_
    · have := hK q hq
      rcases e with e | e | e | e <;> omega
    · rintro e w' ⟨hc, ho⟩
      refine ⟨?_, ho⟩
      rcases hc with ⟨h1, h2, h3, h4⟩ | ⟨x, L1, h1, h2, h3⟩
      · refine .inl ⟨h1, h2, h3, ?_, h3.keep⟩
        by_cases hZ : Z = 0
        · exact ⟨_, by unfold readLo; rw [if_pos hZ]; exact Int.le_refl _, by unfold readHi; rw [if_pos hZ]; exact Int.le_refl _, h4 hZ⟩
        · obtain ⟨R, z, i, g1, g2, g3, g4, g5⟩ := h3.st
          exact ⟨_, by unfold readLo; rw [if_neg hZ]; omega, by unfold readHi; rw [if_neg hZ]; omega, g2⟩
      · exact .inr ⟨x, L1, h1, h2, h3⟩
  below G L W W' h k := h.below k
  row G G2 L W W' h hG hG2 k := h.row (by omega) (fun q hq => by have := hK q hq; omega) hG2 k
  fresh G G2 L W h hG := h.fresh hG
  low j h := by rcases h with h | h | h | h <;> omega
  pos := by omega
  last W W' h k := h.below k
/-- All from a key on. -/
theorem all_tab (p F : Nat) (c : Array Value) (K : List (Nat × Obj)) (t : Tab) (d n : Int) (key : List UInt8) (w : World) (hT : Hid (TabM p (srcV F c) n t w)) (hf : Hid (FineT t)) (hs : Hid (Src F c K d t.bytes)) (hK : Hid (Keep K w)) (hKp : Hid (∀ q ∈ K, q.1 ≠ p))
    (hn1 : -10000000000000000 ≤ n) (hn2 : n ≤ 10000000000000000) (hl : t.bytes.length ≤ 100000000000) (hL : (scanU t d key).2.length < 100000) :
    Calls Tryd.prog 16 #[.pointer (some ⟨p, 0, none⟩), .string (bs key)] w (AllPost (scanU t d key).2 (scanU t d key).1 p (TabS p F c K t (readLo t key n (scanU t d key).1) (readHi t key n (scanU t d key).1)) w) := by
  refine law_all _ key _ _ p _ w (Lib.hid ((table_Walk p F c K t d n key w hT hf hK).mono ?_)) hL
  rintro e w1 ⟨⟨lb, fb, nb, tb, kb, rfl, h1, h2, h3⟩, hb⟩
  have hp := hT.out.lt
  have hsz := hb.size
  refine ⟨lb, fb, nb, tb, kb, _, _, rfl, walker_of (n := n) _ hf.out hs.out (fun q hq => ?_) (by omega) hn1 hn2 hl, h2, fun j hj => ?_, hb⟩
  · have h4 := heap_lt (hK.out q hq)
    have h5 := hKp.out q hq
    omega
  · rcases hj with h | h | h | h
    · exact .inl h
    · right; omega
    · right; omega
    · right; omega
end Go.Proofs.YteejldddgogbkaaDoor
/- A table that was built, as the laws need it. -/
set_option linter.unusedVariables false
namespace Go.Proofs.YteejldddgogbkaaDoor
open Go.RowKit

structure Built (each : Nat) (T : List Ent) (t : Tab) (S : List UInt8) : Prop where
  opened : openTab S = (0, t)
  fine : FineT t
  bytes : t.bytes = S
  len : S.length ≤ 1000000000
  least : 16 ≤ S.length
  bits : t.bits.length ≤ 100000000
  count : t.count = T.length
  get : ∀ k, ∃ r, r ≤ 1 ∧ ((T.find? (isKey k)).isSome = true → r = 1) ∧ getT t k = ((T.find? (isKey k)).getD ⟨[], [], false⟩, (T.find? (isKey k)).isSome, 0, r)
  scan : ∀ k, scanT t k = (0, fromE k T)
  index : t.index = idxs 0 (chunks each T)
theorem tab_len {each per : Nat} {T : List Ent} (h1 : 1 ≤ each) (h2 : each ≤ 256) (h3 : 1 ≤ per) (h4 : per ≤ 32) (hl : T.length ≤ 3001) (hT : chkE T = 0) : (tabB each per T).length ≤ 1000000000 ∧ 16 ≤ (tabB each per T).length := by
  obtain ⟨hok, _⟩ := (chkE_ok T).1 hT
  have hsm := smallE_of hok
  obtain ⟨hfl, hcn⟩ := chunks_all (k := each) (by omega) T
  obtain ⟨C, hC⟩ : ∃ C, C = chunks each T := ⟨_, rfl⟩
  rw [← hC] at hfl hcn
  have hcs : ∀ c ∈ C, smallE c ∧ 1 ≤ c.length ∧ c.length ≤ 65536 := fun c hc => ⟨fun x hx => hsm x (by rw [← hfl]; exact List.mem_flatten.2 ⟨c, hc, hx⟩), (hcn c hc).1, by have := (hcn c hc).2; omega⟩
  have hbl := blks_len C hcs
  rw [hfl] at hbl
  have hxs := idxs_small C 0 hcs (by omega)
  have hYl := blkB_len hxs (by rw [idxs_len]; omega)
  rw [idxs_len] at hYl
  have hfol : (filB per T).length ≤ 300000 := filB_len h3 h4 (by omega)
  have htab : tabB each per T = blksB C ++ blkB (idxs 0 C) ++ crcd (filB per T) ++ crcd (footB (blksB C).length ((blksB C).length + (blkB (idxs 0 C)).length) T.length) := by unfold tabB tabC; rw [← hC]
  have hE : (footB (blksB C).length ((blksB C).length + (blkB (idxs 0 C)).length) T.length).length = 12 := rfl
  rw [htab]
  simp only [List.length_append, crcd_len, hE]
  omega
theorem built_tab {each per : Nat} {T : List Ent} (h1 : 1 ≤ each) (h2 : each ≤ 256) (h3 : 1 ≤ per) (h4 : per ≤ 32) (hl : T.length ≤ 3001) (hT : chkE T = 0) : ∃ t, Built each T t (tabB each per T) := by
  have ho := open_tab h1 h2 h3 h4 hl hT
  have hlen := tab_len h1 h2 h3 h4 hl hT
  obtain ⟨hok, _⟩ := (chkE_ok T).1 hT
  obtain ⟨hfl, hcn⟩ := chunks_all (k := each) (by omega) T
  obtain ⟨C, hC⟩ : ∃ C, C = chunks each T := ⟨_, rfl⟩
  rw [← hC] at hfl hcn ho
  have hcs : ∀ c ∈ C, 1 ≤ c.length ∧ c.length ≤ 65536 := fun c hc => ⟨(hcn c hc).1, by have := (hcn c hc).2; omega⟩
  have htab : tabB each per T = blksB C ++ (blkB (idxs 0 C) ++ crcd (filB per T) ++ crcd (footB (blksB C).length ((blksB C).length + (blkB (idxs 0 C)).length) T.length)) := by unfold tabB tabC; rw [← hC]; simp only [List.append_assoc]
  obtain ⟨hf, hb⟩ := open_fine ho
  refine ⟨_, ho, hf, rfl, hlen.1, hlen.2, ?_, rfl, fun k => ?_, fun k => ?_, by rw [hC]⟩
  · show (bytesOf _ _).length ≤ _
    rw [bytesOf_len]
    have := Nat.mul_le_mul h4 (show T.length ≤ 65536 by omega)
    unfold wordsOf
    omega
  · rw [htab]
    exact get_built hfl hok hcs (wordsOf_pos per T.length)
  · rw [htab]
    exact scan_built hfl hok hcs
end Go.Proofs.YteejldddgogbkaaDoor
/- The parts of a slice of entries, one by one: the iterator's contract. -/
set_option linter.unusedVariables false
set_option maxRecDepth 100000
namespace Go.Proofs.YteejldddgogbkaaDoor
open Go.RowKit

/-- What a round of the parts must keep: two variables. -/
def Kp2 (sb nb : Nat) (W W' : World) : Prop := W.heap.size ≤ W'.heap.size ∧ W'.heap[sb]? = W.heap[sb]? ∧ W'.heap[nb]? = W.heap[nb]?
theorem Kp2.refl (sb nb : Nat) (W : World) : Kp2 sb nb W W := ⟨Nat.le_refl _, rfl, rfl⟩
theorem Kp2.trans {sb nb : Nat} {A B C : World} (h : Kp2 sb nb A B) (k : Kp2 sb nb B C) : Kp2 sb nb A C := ⟨Nat.le_trans h.1 k.1, k.2.1.trans h.2.1, k.2.2.trans h.2.2⟩
theorem Kp2.putObj {sb nb B : Nat} (h1 : sb < B) (h2 : nb < B) (W : World) (l : Nat) (o' : Obj) (hl : B ≤ l) : Kp2 sb nb W (W.putObj l o') :=
  ⟨(grownBy_putObj' W l o').size, World.putObj_heap_other (by omega), World.putObj_heap_other (by omega)⟩
theorem Kp2.of_below {sb nb : Nat} {W W' : World} (h : Below W.heap.size W W') (h1 : sb < W.heap.size) (h2 : nb < W.heap.size) : Kp2 sb nb W W' := ⟨h.size, h.block _ h1, h.block _ h2⟩
/-- How many entries the q-th part has. -/
def partN (k len q : Nat) : Nat := min k (len - q * k)
def partV (b off k len q : Nat) : Value := .slice (some ⟨b, off + q * k * 3, none⟩) (partN k len q) (partN k len q)
set_option maxHeartbeats 2000000 in
theorem chunk_in (n l sb nb b off k len cap M : Nat) (a : Option Addr) (J Jx : List (Num M) → World → Prop) (W : World)
    (hk1 : 1 ≤ k) (hk2 : k ≤ 256) (hl : len ≤ 65536) (hcap : len ≤ cap) (ha : Hid (len = 0 ∨ a = some ⟨b, off, none⟩)) (hM : Hid (M = (len + k - 1) / k))
    (hJ : Hid (AbidesFrom W.heap.size J))
    (hY : Hid (∀ pre (q : Num M) W1, J pre W1 → pre.length < M → YieldAt Fence.wide (n - 1) Tryd.prog l #[partV b off k len q.1] W1 fun e W' =>
      (e = .returned (.bool true) ∧ J (pre ++ [q]) W' ∧ Kp2 sb nb W1 W') ∨ (e = .returned (.bool false) ∧ Jx (pre ++ [q]) W')))
    (h1 : Hid (W.heap[sb]? = some (.cells #[.slice a len cap] 22 (0, 0)))) (h2 : Hid (W.heap[nb]? = some (.cells #[.int .i64 (k : Int)] 3 (0, 0)))) (h0 : Hid (J [] W)) :
    Calls Tryd.prog 62 #[.func (.yield l) #[] #[], .pointer (some ⟨sb, 0, none⟩), .pointer (some ⟨nb, 0, none⟩)] W fun e W' => (∃ v, e = .returned v) ∧
      ((∃ xs, xs.map (·.1) = List.range M ∧ J xs W') ∨ (∃ pre, True ∧ Jx pre W')) := by
  go_enter Tryd.func62, Tryd.ntmps62
  go_wp2_with fail
  go_loopw [4] (fun vi wr => ∃ (q i : Nat) (pre : List (Num M)), q ≤ M ∧ Hid (i = q * k) ∧ i ≤ 66000 ∧ vi = .int .i64 (i : Int) ∧ Hid (pre.map (·.1) = List.range q) ∧ Hid (J pre wr) ∧ Hid (Kp2 sb nb W wr)) (fun vi wr => 66000 - (intOf vi).toNat)
  case atStart => exact ⟨0, 0, [], by omega, Lib.hid (by omega), by omega, rfl, Lib.hid rfl, h0, Lib.hid (Kp2.refl _ _ _)⟩
  case round =>
    obtain ⟨q, i, pre, hq, hi, hi6, rfl, hpre, hJs, hkc⟩ := hrel
    have hs1 : wr.cell? ⟨sb, 0, none⟩ = some (.slice a len cap) := by simp [World.cell?, hkc.out.2.1, h1.out]
    have hn1 : wr.cell? ⟨nb, 0, none⟩ = some (.int .i64 (k : Int)) := by simp [World.cell?, hkc.out.2.2, h2.out]
    rcases Nat.lt_or_ge i len with hlt | hge
    · have hlt' : (i : Int) < (len : Int) := by omega
      have hbs := Lib.hid (show sb < wr.heap.size ∧ nb < wr.heap.size from ⟨cell_block hs1, cell_block hn1⟩)
      obtain ⟨p, hp⟩ : ∃ p, p = min k (len - i) := ⟨_, rfl⟩
      have hmin : min (k : Int) ((len - i : Nat) : Int) = (p : Int) := by omega
      have hp1 : i + p ≤ len := by omega
      have htn : ((i : Int) + (p : Int)).toNat - i = p := by omega
      obtain rfl : a = some ⟨b, off, none⟩ := by rcases ha.out with h | h; (omega); (exact h)
      have hqM := Lib.hid (show q < M by
        have h1 := hM.out
        have h2 := hi.out
        rcases Nat.lt_or_ge q M with h | h
        · exact h
        · have h3 : M * k ≤ q * k := Nat.mul_le_mul_right _ h
          have h4 : len ≤ M * k := by
            rw [h1]
            have := Nat.div_add_mod (len + k - 1) k
            have h5 := Nat.mod_lt (len + k - 1) (show 0 < k by omega)
            rw [Nat.mul_comm] at this
            omega
          omega)
      have hpv := Lib.hid (show Value.slice (some ⟨b, off + i * 3, none⟩) p p = partV b off k len q by unfold partV partN; rw [← hi.out, ← hp])
      have hik := Lib.hid (show i + k = (q + 1) * k by rw [Nat.add_mul, Nat.one_mul, ← hi.out])
      have hpl := Lib.hid hp
      clear hp
      go_wp2_with fail
      go_quiet (fail)
      go_upto_region 4 with (fail)
      refine (wpIn_wide (n := n)).1 ?_
      have hs2 : (wr.drewN nq).cell? ⟨sb, 0, none⟩ = some (.slice (some ⟨b, off, none⟩) len cap) := hs1
      have hbd := Lib.hid (below_drewN (Below.refl wr.heap.size wr) nq)
      have HJr := Lib.hid (hJ.out _ wr _ none hJs.out (grown_of_below hbd.out) (fun r e => by cases e))
      obtain ⟨fn, tm, asg, bdy, hy, hR⟩ := hY.out pre ⟨q, hqM.out⟩ (wr.drewN nq) HJr.out (by rw [← List.length_map (f := (·.1)), hpre.out, List.length_range]; exact hqM.out)
      rw [← hpv.out] at hy
      gi_wp2
      refine ⟨fun h => by simp [Fence.wide] at h, hR.mono ?_⟩
      have hkc2 := Lib.hid (hkc.out.trans (Kp2.of_below hbd.out hbs.out.1 hbs.out.2))
      rintro e W5 (⟨rfl, hJ5, hk5⟩ | ⟨rfl, hx5⟩)
      · have HK5 := Lib.hid (hkc2.out.trans hk5)
        have HJ5 := Lib.hid hJ5
        have hn5 : W5.cell? ⟨nb, 0, none⟩ = some (.int .i64 (k : Int)) := by simp [World.cell?, HK5.out.2.2, h2.out]
        clear hJ5 hk5 hs1 hn1 hs2
        gi_wp2
        go_wp2_with fail
        go_roundw
        case rel => exact ⟨q + 1, i + k, pre ++ [⟨q, hqM.out⟩], by have := hqM.out; omega, hik, by omega, by go_num, Lib.hid (by rw [List.map_append, hpre.out, List.range_succ]; rfl), HJ5, HK5⟩
        case measure => simp [intOf]; omega
      · gi_wp2
        go_wp2_with fail
        refine bodyPost_ret (results_none rfl _ _ _) rfl ?_
        exact ⟨⟨_, rfl⟩, .inr ⟨_, trivial, hx5⟩⟩
    · go_wp2_with fail
      go_end0
      exact ⟨⟨_, rfl⟩, .inl ⟨pre, by
        have h1 := hM.out
        have h2 := hi.out
        have h3 : q = M := by
          rcases Nat.lt_or_ge q M with h | h
          · have h3 : (q + 1) * k ≤ M * k := Nat.mul_le_mul_right _ h
            have := Nat.div_mul_le_self (len + k - 1) k
            rw [← h1] at this
            rw [Nat.add_mul, Nat.one_mul] at h3
            omega
          · omega
        rw [hpre.out, h3], hJs.out⟩⟩
theorem chunk_stops (n sb nb b off k len cap M : Nat) (a : Option Addr) (w : World)
    (hk1 : 1 ≤ k) (hk2 : k ≤ 256) (hl : len ≤ 65536) (hcap : len ≤ cap) (ha : Hid (len = 0 ∨ a = some ⟨b, off, none⟩)) (hM : Hid (M = (len + k - 1) / k))
    (h1 : w.heap[sb]? = some (.cells #[.slice a len cap] 22 (0, 0))) (h2 : w.heap[nb]? = some (.cells #[.int .i64 (k : Int)] 3 (0, 0))) :
    SeqStopsK Fence.wide n Tryd.prog 62 #[.pointer (some ⟨sb, 0, none⟩), .pointer (some ⟨nb, 0, none⟩)] (fun q : Num M => #[partV b off k len q.1]) (Kp2 sb nb) (fun xs => xs.map (·.1) = List.range M) (fun pre => True) M w := fun l J Jx W hW hJ hJx hY h0 =>
  callsIn_wide.2 (chunk_in n l sb nb b off k len cap M a J Jx W hk1 hk2 hl hcap ha hM (Lib.hid hJ) (Lib.hid hY) (Lib.hid ((hW.block _ (heap_lt h1)).trans h1)) (Lib.hid ((hW.block _ (heap_lt h2)).trans h2)) (Lib.hid h0))
end Go.Proofs.YteejldddgogbkaaDoor
/- The parts of a list by their numbers, in plain words. -/
set_option linter.unusedVariables false
namespace Go.Proofs.YteejldddgogbkaaDoor
open Go.RowKit

def chunkAt (k : Nat) (T : List Ent) (q : Nat) : List Ent := (T.drop (q * k)).take k
theorem chunkAt_len (k : Nat) (T : List Ent) (q : Nat) : (chunkAt k T q).length = min k (T.length - q * k) := by unfold chunkAt; rw [List.length_take, List.length_drop]
theorem chunks_count {k n : Nat} (hk : 0 < k) (hn : 0 < n) : (n + k - 1) / k = (n - k + k - 1) / k + 1 := by
  rcases Nat.lt_or_ge n k with h | h
  · have h1 : n - k = 0 := by omega
    have h2 : (k - 1) / k = 0 := Nat.div_eq_of_lt (by omega)
    have h3 : (n + k - 1) / k = 1 := Nat.div_eq_of_lt_le (by omega) (by omega)
    rw [h1, show 0 + k - 1 = k - 1 by omega, h2, h3]
  · rw [show n + k - 1 = (n - k + k - 1) + k by omega, Nat.add_div_right _ hk]
theorem parts_range {k : Nat} (hk : 0 < k) : ∀ (f : Nat) (T : List Ent), T.length ≤ f → parts f k T = (List.range ((T.length + k - 1) / k)).map (chunkAt k T)
  | 0, T, h => by
    have h0 : T.length = 0 := by omega
    rw [h0, show 0 + k - 1 = k - 1 by omega, Nat.div_eq_of_lt (by omega)]
    rfl
  | f + 1, T, h => by
    unfold parts
    cases hT : T with
    | nil =>
      simp only [List.length_nil]
      rw [show 0 + k - 1 = k - 1 by omega, Nat.div_eq_of_lt (by omega)]
      rfl
    | cons x U =>
      rw [← hT]
      have hl : 0 < T.length := by rw [hT]; simp
      have ih := parts_range hk f (T.drop k) (by rw [List.length_drop]; omega)
      rw [chunks_count hk hl, List.range_succ_eq_map, List.map_cons, List.map_map]
      have e0 : chunkAt k T 0 = T.take k := by simp [chunkAt]
      have e1 : ∀ q, chunkAt k T (q + 1) = chunkAt k (T.drop k) q := fun q => by
        unfold chunkAt
        rw [List.drop_drop, Nat.add_mul, Nat.one_mul, Nat.add_comm]
      have hne : T.isEmpty = false := by rw [hT]; rfl
      rw [hne, e0, ih, List.length_drop]
      simp only [Function.comp_def, Nat.succ_eq_add_one, e1]
      rfl
theorem chunks_range {k : Nat} (hk : 0 < k) (T : List Ent) : chunks k T = (List.range ((T.length + k - 1) / k)).map (chunkAt k T) := parts_range hk _ T (Nat.le_refl _)
theorem rises_part {T : List Ent} (h : rises T) (i n : Nat) : rises ((T.drop i).take n) := by
  have h1 := (rises_app (A := T.take i) (D := T.drop i) (by rw [List.take_append_drop]; exact h)).2.1
  exact (rises_app (A := (T.drop i).take n) (D := (T.drop i).drop n) (by rw [List.take_append_drop]; exact h1)).1
theorem okE_fields : ∀ {T : List Ent} {first : Bool} {last : List UInt8}, okEs first last T → ∀ x ∈ T, x.key.length ≤ 65536 ∧ x.val.length ≤ 65536 ∧ (x.gone = true → x.val = [])
  | [], _, _, _, x, hx => by cases hx
  | y :: T, _, _, h, x, hx => by
    rcases List.mem_cons.1 hx with rfl | hx
    · exact ⟨h.1.1, h.1.2.1, h.1.2.2.1⟩
    · exact okE_fields h.2 x hx
theorem chk_part {T : List Ent} (h : chkE T = 0) (i n : Nat) : chkE ((T.drop i).take n) = 0 := by
  obtain ⟨hok, hl⟩ := (chkE_ok T).1 h
  refine (chkE_ok _).2 ⟨okEs_of_rises true [] (rises_part (rises_of_okEs true [] hok).1 i n) (fun x hx => okE_fields hok x ?_) (fun e => by cases e), ?_⟩
  · exact List.mem_of_mem_drop (List.mem_of_mem_take hx)
  · rw [List.length_take, List.length_drop]; omega
theorem chk_chunk {T : List Ent} (h : chkE T = 0) (k q : Nat) : chkE (chunkAt k T q) = 0 := chk_part h _ _
theorem pack_chk {T : List Ent} (h : chkE T = 0) : packB T = blkB T := by unfold packB; rw [if_pos h, blkB_eq]
end Go.Proofs.YteejldddgogbkaaDoor
/- strings.Builder in a block of its own: what it is left with, and that it keeps every other block that is no row of bytes. -/
set_option linter.unusedVariables false
set_option maxRecDepth 100000
namespace Go.Proofs.YteejldddgogbkaaDoor
open Go.RowKit

theorem liesS : liesAt Tryd.prog Tryd.prog.depth 56 (2 / Tryd.prog.cellsOf 56) 0 56 1 = true := by kernel_rfl
set_option maxHeartbeats 1000000 in
theorem copyCheck_freshS (b : Nat) (w : World) (h0 : w.cell? ⟨b, 0, none⟩ = some (.pointer none)) (hsh : w.shape? b = some (56, 2)) (hfz : w.frozen? ⟨b, 0, none⟩ = false) :
    Calls Tryd.prog 48 #[.pointer (some ⟨b, 0, none⟩)] w fun e w' => e = .returned (.tuple #[]) ∧ w.setCell ⟨b, 0, none⟩ (.pointer (some ⟨b, 0, none⟩)) = w' := by
  obtain ⟨j, hj, hjs⟩ := Option.map_eq_some_iff.1 size63
  go_enter Tryd.func48, Tryd.ntmps48
  go_wp2
  rw [Lib.run_to_unsafe w ⟨b, 0, none⟩ u61 u86 hj (by rw [hjs]; decide) hsh (Nat.zero_lt_succ 1)]
  simp only [Result.andThen]
  rw [Oper.upon_value]
  go_wp2
  rw [run_callFunc_extern Tryd.func67 (by kernel_rfl) (by kernel_rfl) (by kernel_rfl) (e := Extern.AbiNoEscape.same) (by kernel_rfl)]
  rw [Lib.run_noEscape]
  simp only [Result.andThen]
  rw [Oper.upon_value]
  go_wp2
  rw [Lib.run_from_unsafe w ⟨b, 0, none⟩ u86 u61 hj hsh liesS]
  simp only [Result.andThen]
  rw [Oper.upon_value]
  go_wp2
  go_end0
  exact ⟨rfl, rfl⟩

/-- In block b there is a builder that holds the bytes l; what it has laid lies in blocks from B on. -/
def Sb (B b : Nat) (l : List UInt8) (w : World) : Prop := Lib.IsBuilderF 56 5 B b (Lib.byteCells l) w

theorem Sb.lt {B b : Nat} {l : List UInt8} {w : World} (h : Sb B b l w) : b < w.heap.size := by
  rcases h with h | h
  · exact h.lt
  · exact h.lt
theorem Sb.le {B b : Nat} {l : List UInt8} {w : World} (h : Sb B b l w) : B ≤ b := by
  rcases h with h | h
  · exact h.1
  · exact h.1

theorem copyCheck_anyS (B b : Nat) (bs : List Value) (w : World) (h : Lib.IsBuilderF 56 5 B b bs w) :
    Calls Tryd.prog 48 #[.pointer (some ⟨b, 0, none⟩)] w fun e w' => e = .returned (.tuple #[]) ∧ (Lib.BuilderAtF 56 5 B b (.pointer (some ⟨b, 0, none⟩)) bs w' ∧ Wb B b w w') := by
  rcases h with h | h
  · refine (copyCheck_freshS b w h.cell0 h.shape h.frozen0).mono ?_
    rintro e w' ⟨rfl, rfl⟩
    exact ⟨rfl, h.used _, (Wb.refl B b w).setCell (p := ⟨b, 0, none⟩) h.1 rfl _⟩
  · refine (copyCheck_used b w h.cell0).mono ?_
    rintro e w' ⟨rfl, rfl⟩
    exact ⟨rfl, h, Wb.refl B b _⟩

set_option maxHeartbeats 2000000 in
set_option maxRecDepth 100000 in
theorem sb_WriteString (B b : Nat) (l : List UInt8) (s : ByteArray) (w : World) (h : Sb B b l w) (hlen : l.length + s.size ≤ 140737488355328) :
    Calls Tryd.prog 25 #[.pointer (some ⟨b, 0, none⟩), .string s] w fun e w' => e = .returned (.tuple #[.int .i64 s.size, .nilIface]) ∧ Sb B b (l ++ s.data.toList) w' ∧ Wb B b w w' := by
  have hBw : B ≤ w.heap.size := by have := h.lt; have := h.le; omega
  obtain ⟨i0, hi, hz0, hz1, hz2⟩ := info_parts info5
  have HL := Lib.hid (Lib.byteCells_length l)
  have HW := Lib.hid h
  clear h
  go_enter Tryd.func25, Tryd.ntmps25
  go_wp2_with (go_at_call 48; refine (copyCheck_anyS B b _ _ HW.out).mono ?_)
  rintro e w1 ⟨rfl, h1, hb1⟩
  obtain ⟨hB, v, hbk, hown, hne⟩ := h1
  have c0 : w1.cell? ⟨b, 0, none⟩ = some (.pointer (some ⟨b, 0, none⟩)) := by rw [Lib.cell_of_heap hbk]; rfl
  have c1 : w1.cell? ⟨b, 1, none⟩ = some v := by rw [Lib.cell_of_heap hbk]; rfl
  go_wp2_with (at_builtin; refine Lib.wpList_append_own_stringF _ rfl _ _ 45 9 rfl B 5 i0 Tryd.underlying45 Tryd.underlying9 hi hz0 hz1 hz2 _ _ _ rfl hown s rfl ?c3 ?c4 ?c5 ?_)
  case c3 => unfold maxLen; have := HL.out; omega
  case c4 => have := HL.out; omega
  case c5 => have := hb1.size; omega
  intro v' w2 hown' hgrow _
  have hlt : b < w1.heap.size := by
    rcases Nat.lt_or_ge b w1.heap.size with h' | h'
    · exact h'
    · simp [Array.getElem?_eq_none h'] at hbk
  have hb2 : w2.heap[b]? = some (.cells #[.pointer (some ⟨b, 0, none⟩), v] 56 (0, 0)) := by
    rw [hgrow.block b hlt (fun e => hne e.symm)]
    exact hbk
  have d0 : w2.cell? ⟨b, 0, none⟩ = some (.pointer (some ⟨b, 0, none⟩)) := by rw [Lib.cell_of_heap hb2]; rfl
  have d1 : w2.cell? ⟨b, 1, none⟩ = some v := by rw [Lib.cell_of_heap hb2]; rfl
  have f1 : w2.frozen? ⟨b, 1, none⟩ = false := Lib.frozen_of_heap hb2 1
  obtain ⟨ao, n', cap, rfl⟩ : ∃ ao n' cap, v' = .slice ao n' cap := by
    rcases hown'.2 with ⟨hv, _⟩ | ⟨g, cap, cur, fz, hv, _⟩
    · exact ⟨_, _, _, hv⟩
    · exact ⟨_, _, _, hv⟩
  go_wp2
  go_ret2
  refine ⟨rfl, ?_, ?_⟩
  · refine .inr ?_
    rw [byteCells_append]
    exact Lib.BuilderAtF.put (T := 56) (e := 5) hB hb2 (bs' := Lib.byteCells l ++ Lib.strCells s) (by simpa [Lib.strCells_length] using hown') (by decide)
  · exact (hb1.grown hgrow (by have := hb1.size; omega) (fun k hk => (hown.lt k hk).1) (Lib.ownsRowF_kind hown)).setCell (p := ⟨b, 1, none⟩) hB rfl _

set_option maxHeartbeats 1000000 in
set_option maxRecDepth 100000 in
theorem sb_String_some (B b : Nat) (l : List UInt8) (w : World) (h : Sb B b l w) (h0 : l ≠ []) :
    Calls Tryd.prog 31 #[.pointer (some ⟨b, 0, none⟩)] w fun e w' => e = .returned (.string (bs l)) ∧ Sb B b l w' ∧ Below B w w' ∧ Lib.OthersKept 5 (some b) w w' := by
  obtain ⟨p, hp, hAt⟩ : ∃ p, (p = .pointer none ∨ p = .pointer (some ⟨b, 0, none⟩)) ∧ Lib.BuilderAtF 56 5 B b p (Lib.byteCells l) w := by
    rcases h with h | h
    · exact ⟨_, .inl rfl, h⟩
    · exact ⟨_, .inr rfl, h⟩
  obtain ⟨hB, v, hbk, hown, hne⟩ := hAt
  have hl0 : l.length ≠ 0 := by simpa using h0
  rw [Lib.byteCells_length] at hown
  obtain ⟨g, cap, cur, fz, rfl, hbg, hg, hfz, hnc, hcm, hcs, htake⟩ : ∃ g cap cur fz, v = .slice (some ⟨g, 0, none⟩) l.length cap ∧ B ≤ g ∧ w.heap[g]? = some (.cells cur 5 fz) ∧ fz.2 ≤ l.length * 1 ∧ l.length ≤ cap ∧ cap ≤ maxLen ∧ cur.size = cap * 1 ∧ cur.toList.take (l.length * 1) = Lib.byteCells l := by
    rcases hown.2 with ⟨_, hz⟩ | ⟨g, cap, cur, fz, hv, r⟩
    · exact absurd hz hl0
    · exact ⟨g, cap, cur, fz, hv, r⟩
  have c1 : w.drew.cell? ⟨b, 1, none⟩ = some (.slice (some ⟨g, 0, none⟩) l.length cap) := by
    have : w.drew.heap[b]? = some (.cells #[p, .slice (some ⟨g, 0, none⟩) l.length cap] 56 (0, 0)) := hbk
    rw [Lib.cell_of_heap this]; rfl
  have hSD : (Builtin.unsafeSliceData_ #[45] 103 #[.slice (some ⟨g, 0, none⟩) l.length cap]).run Tryd.prog w.drew = .ok (.pointer (some ⟨g, 0, none⟩)) w.drew :=
    Lib.run_unsafeSliceData_row _ _ _ _ _ _ (by omega)
  have hUS : (Builtin.unsafeString_ #[103, 3] 9 #[.pointer (some ⟨g, 0, none⟩), .int .i64 l.length]).run Tryd.prog w.drew = .ok (.string ⟨l.toArray⟩) (w.drew.freeze ⟨g, 0, none⟩ l.length) := by
    refine Lib.run_unsafeString_row w.drew 103 3 9 5 u85 cells5 g cur.size (by have hg' : w.drew.heap[g]? = some (.cells cur 5 fz) := hg; simp [World.shape?, hg']) l h0 (by omega) (by unfold maxLen at hcm; omega) ?_
    intro j x hx
    have := hown.cells (g := g) rfl j (.int .u8 x.toNat) (by simp [Lib.byteCells, hx])
    exact this
  have hkeep : Lib.IsBuilderF 56 5 B b (Lib.byteCells l) (w.drew.freeze ⟨g, 0, none⟩ l.length) := by
    have hA : Lib.BuilderAtF 56 5 B b p (Lib.byteCells l) w.drew := ⟨hB, _, hbk, by rw [Lib.byteCells_length]; exact hown, hne⟩
    have hF := hA.froze (g := g) (cap := cap) (by rw [Lib.byteCells_length]; exact c1)
    rw [Lib.byteCells_length] at hF
    rcases hp with rfl | rfl
    · exact .inl hF
    · exact .inr hF
  have HO := Lib.hid (show ∃ c fz, w.drew.heap[g]? = some (.cells c 5 fz) from ⟨_, _, hg⟩)
  go_enter Tryd.func31, Tryd.ntmps31
  go_wp2
  go_region
  all_goals (go_wp2; go_ret; exact ⟨rfl, hkeep, Lib.below_freeze (Below.drew (Below.refl B w)) (p := ⟨g, 0, none⟩) hbg _, (Lib.OthersKept.drew (Lib.OthersKept.refl 5 (some b) w)).freeze ⟨g, 0, none⟩ _ HO.out⟩)

set_option maxHeartbeats 1000000 in
set_option maxRecDepth 100000 in
theorem sb_String_nil (B b : Nat) (p : Value) (w : World) (hbk : w.heap[b]? = some (.cells #[p, .slice none 0 0] 56 (0, 0))) (hA : Hid (Lib.BuilderAtF 56 5 B b p [] w)) :
    Calls Tryd.prog 31 #[.pointer (some ⟨b, 0, none⟩)] w fun e w' => e = .returned (.string ⟨#[]⟩) ∧ (Lib.BuilderAtF 56 5 B b p [] w' ∧ Below B w w' ∧ Lib.OthersKept 5 (some b) w w') := by
  have hUS := unsafeString_none
  have c1 : w.drew.cell? ⟨b, 1, none⟩ = some (.slice none 0 0) := by
    have : w.drew.heap[b]? = some (.cells #[p, .slice none 0 0] 56 (0, 0)) := hbk
    rw [Lib.cell_of_heap this]; rfl
  have hSD : (Builtin.unsafeSliceData_ #[45] 103 #[.slice none 0 0]).run Tryd.prog w.drew = .ok (.pointer none) w.drew := rfl
  go_enter Tryd.func31, Tryd.ntmps31
  go_wp2
  go_region
  all_goals (go_wp2; go_ret; exact ⟨rfl, hA.out.drew, Below.drew (Below.refl B w), Lib.OthersKept.drew (Lib.OthersKept.refl 5 (some b) w)⟩)

set_option maxHeartbeats 1000000 in
set_option maxRecDepth 100000 in
theorem sb_String_noroom (B b g : Nat) (p : Value) (cur : Array Value) (w : World) (hBw : B ≤ w.heap.size) (hbk : w.heap[b]? = some (.cells #[p, .slice (some ⟨g, 0, none⟩) 0 0] 56 (0, 0))) (fz : Nat × Nat) (hg : w.heap[g]? = some (.cells cur 5 fz)) (hA : Hid (Lib.BuilderAtF 56 5 B b p [] w)) :
    Calls Tryd.prog 31 #[.pointer (some ⟨b, 0, none⟩)] w fun e w' => e = .returned (.string ⟨#[]⟩) ∧ (Lib.BuilderAtF 56 5 B b p [] w' ∧ Below B w w' ∧ Lib.OthersKept 5 (some b) w w') := by
  have hUS := unsafeString_none
  have hlt : b < w.heap.size := by
    rcases Nat.lt_or_ge b w.heap.size with h' | h'
    · exact h'
    · simp [Array.getElem?_eq_none h'] at hbk
  have c1 : w.drew.cell? ⟨b, 1, none⟩ = some (.slice (some ⟨g, 0, none⟩) 0 0) := by
    have : w.drew.heap[b]? = some (.cells #[p, .slice (some ⟨g, 0, none⟩) 0 0] 56 (0, 0)) := hbk
    rw [Lib.cell_of_heap this]; rfl
  have hSD : (Builtin.unsafeSliceData_ #[45] 103 #[.slice (some ⟨g, 0, none⟩) 0 0]).run Tryd.prog w.drew = .ok (.pointer (some ⟨w.drew.heap.size, 0, none⟩)) (w.drew.alloc (.view ⟨g, 0, none⟩ 5)) :=
    Lib.run_unsafeSliceData_zero w.drew _ _ 5 u85 ⟨g, 0, none⟩ 0 (5, cur.size) (by have hg' : w.drew.heap[g]? = some (.cells cur 5 fz) := hg; simp [World.shape?, hg'])
  have c2 : (w.drew.alloc (.view ⟨g, 0, none⟩ 5)).cell? ⟨b, 1, none⟩ = some (.slice (some ⟨g, 0, none⟩) 0 0) := by
    have : (w.drew.alloc (.view ⟨g, 0, none⟩ 5)).heap[b]? = _ := (Lib.alloc_old w.drew _ b hlt).trans hbk
    rw [Lib.cell_of_heap this]; rfl
  have c3 : (w.alloc (.view ⟨g, 0, none⟩ 5)).drew.cell? ⟨b, 1, none⟩ = some (.slice (some ⟨g, 0, none⟩) 0 0) := c2
  have c0 : w.cell? ⟨b, 1, none⟩ = some (.slice (some ⟨g, 0, none⟩) 0 0) := c1
  go_enter Tryd.func31, Tryd.ntmps31
  go_wp2
  go_region
  all_goals (go_wp2; go_ret; exact ⟨rfl, hA.out.drew.alloc _, (Below.drew (Below.refl B w)).alloc hBw _, (Lib.OthersKept.drew (Lib.OthersKept.refl 5 (some b) w)).alloc _⟩)

set_option maxHeartbeats 1000000 in
set_option maxRecDepth 100000 in
theorem sb_String_room (B b g cap : Nat) (p : Value) (w : World) (hc0 : cap ≠ 0) (hbk : w.heap[b]? = some (.cells #[p, .slice (some ⟨g, 0, none⟩) 0 cap] 56 (0, 0))) (hA : Hid (Lib.BuilderAtF 56 5 B b p [] w)) :
    Calls Tryd.prog 31 #[.pointer (some ⟨b, 0, none⟩)] w fun e w' => e = .returned (.string ⟨#[]⟩) ∧ (Lib.BuilderAtF 56 5 B b p [] w' ∧ Below B w w' ∧ Lib.OthersKept 5 (some b) w w') := by
  have hUS := unsafeString_none
  have c1 : w.drew.cell? ⟨b, 1, none⟩ = some (.slice (some ⟨g, 0, none⟩) 0 cap) := by
    have : w.drew.heap[b]? = some (.cells #[p, .slice (some ⟨g, 0, none⟩) 0 cap] 56 (0, 0)) := hbk
    rw [Lib.cell_of_heap this]; rfl
  have hSD : (Builtin.unsafeSliceData_ #[45] 103 #[.slice (some ⟨g, 0, none⟩) 0 cap]).run Tryd.prog w.drew = .ok (.pointer (some ⟨g, 0, none⟩)) w.drew :=
    Lib.run_unsafeSliceData_row _ _ _ _ _ _ hc0
  clear hc0
  go_enter Tryd.func31, Tryd.ntmps31
  go_wp2
  go_region
  all_goals (go_wp2; go_ret; exact ⟨rfl, hA.out.drew, Below.drew (Below.refl B w), Lib.OthersKept.drew (Lib.OthersKept.refl 5 (some b) w)⟩)

theorem sb_String (B b : Nat) (l : List UInt8) (w : World) (h : Sb B b l w) :
    Calls Tryd.prog 31 #[.pointer (some ⟨b, 0, none⟩)] w fun e w' => e = .returned (.string (bs l)) ∧ Sb B b l w' ∧ Below B w w' ∧ Lib.OthersKept 5 (some b) w w' := by
  have hBw : B ≤ w.heap.size := by have := h.lt; have := h.le; omega
  cases l with
  | cons x r => exact sb_String_some B b (x :: r) w h (by simp)
  | nil =>
    obtain ⟨p, hp, hA⟩ : ∃ p, (p = .pointer none ∨ p = .pointer (some ⟨b, 0, none⟩)) ∧ Lib.BuilderAtF 56 5 B b p [] w := by
      rcases h with h | h
      · exact ⟨_, .inl rfl, h⟩
      · exact ⟨_, .inr rfl, h⟩
    have fin : ∀ (e : Ending) (w' : World), (e = .returned (.string ⟨#[]⟩) ∧ (Lib.BuilderAtF 56 5 B b p [] w' ∧ Below B w w' ∧ Lib.OthersKept 5 (some b) w w')) → e = .returned (.string (bs [])) ∧ Sb B b [] w' ∧ Below B w w' ∧ Lib.OthersKept 5 (some b) w w' := by
      rintro e w' ⟨he, hk, hb⟩
      rcases hp with rfl | rfl
      · exact ⟨he, .inl hk, hb⟩
      · exact ⟨he, .inr hk, hb⟩
    have hA' := hA
    obtain ⟨hB, v, hbk, hown, hne⟩ := hA
    rcases hown.2 with ⟨rfl, _⟩ | ⟨g, cap, cur, fz, rfl, hbg, hg, _, _, _, _, _⟩
    · exact (sb_String_nil B b p w hbk (Lib.hid hA')).mono fin
    · by_cases hc0 : cap = 0
      · subst hc0
        exact (sb_String_noroom B b g p cur w hBw hbk fz hg (Lib.hid hA')).mono fin
      · exact (sb_String_room B b g cap p w hc0 hbk (Lib.hid hA')).mono fin

theorem sb_new (w : World) : Sb w.heap.size w.heap.size [] (w.alloc (.cells #[.pointer none, .slice none 0 0] 56)) := by
  refine .inl ⟨Nat.le_refl _, .slice none 0 0, ?_, World.ownsRowF_nil _ _ _ _, by simp [Value.ownBlock]⟩
  show (w.heap.push _)[w.heap.size]? = _
  simp


theorem Sb.same {B b : Nat} {l : List UInt8} {w w' : World} (h : Sb B b l w) (k : ∀ j, j < w.heap.size → (j = b ∨ ∃ cs fz, w.heap[j]? = some (.cells cs 5 fz)) → w'.heap[j]? = w.heap[j]?) : Sb B b l w' := by
  have core : ∀ p, Lib.BuilderAtF 56 5 B b p (Lib.byteCells l) w → Lib.BuilderAtF 56 5 B b p (Lib.byteCells l) w' := by
    rintro p ⟨hB, v, hbk, hown, hne⟩
    have hlt : b < w.heap.size := Lib.BuilderAtF.lt ⟨hB, v, hbk, hown, hne⟩
    refine ⟨hB, v, ?_, ⟨hown.1, ?_⟩, hne⟩
    · rw [k b hlt (.inl rfl), hbk]
    · rcases hown.2 with hn | ⟨g, cap, cur, fz, hv, hbg, hg, rest⟩
      · exact .inl hn
      · refine .inr ⟨g, cap, cur, fz, hv, hbg, ?_, rest⟩
        rw [k g (Array.getElem?_eq_some_iff.1 hg).1 (.inr ⟨_, _, hg⟩), hg]
  rcases h with h | h
  · exact .inl (core _ h)
  · exact .inr (core _ h)
theorem Sb.keep {B b : Nat} {l : List UInt8} {w w' : World} (h : Sb B b l w) (k : Below w.heap.size w w') : Sb B b l w' := h.same (fun j hj _ => k.block j hj)
theorem Sb.alloc {B b : Nat} {l : List UInt8} {w : World} (h : Sb B b l w) (o : Obj) : Sb B b l (w.alloc o) := h.same (fun j hj _ => Below.heap_alloc w o j hj)
theorem Sb.block {B b : Nat} {l : List UInt8} {w : World} (h : Sb B b l w) : ∃ p v, w.heap[b]? = some (.cells #[p, v] 56 (0, 0)) := by
  rcases h with ⟨_, v, h, _⟩ | ⟨_, v, h, _⟩
  · exact ⟨_, v, h⟩
  · exact ⟨_, v, h⟩
/-- Where another block is written, that is no row of bytes. -/
theorem Sb.other {B b c : Nat} {l : List UInt8} {w w' : World} {o : Obj} (h : Sb B b l w) (hc : w.heap[c]? = some o) (hb : c ≠ b) (ht : ∀ cs fz, o ≠ .cells cs 5 fz) (k : ∀ j, j < w.heap.size → j ≠ c → w'.heap[j]? = w.heap[j]?) : Sb B b l w' :=
  h.same fun j hj hs => k j hj fun e => by
    subst e
    rcases hs with e | ⟨cs, fz, e⟩
    · exact hb e
    · rw [hc] at e; injection e with e; exact ht _ _ e
/-- How many bytes it holds. -/
theorem sb_Len (B b : Nat) (l : List UInt8) (w : World) (h : Sb B b l w) :
    Calls Tryd.prog 23 #[.pointer (some ⟨b, 0, none⟩)] w fun e w' => e = .returned (.int .i64 (l.length : Int)) ∧ w = w' := by
  obtain ⟨v, c1, hv⟩ : ∃ v, w.cell? ⟨b, 1, none⟩ = some v ∧ ∃ a cap, v = .slice a l.length cap := by
    have core : ∀ p, Lib.BuilderAtF 56 5 B b p (Lib.byteCells l) w → ∃ v, w.cell? ⟨b, 1, none⟩ = some v ∧ ∃ a cap, v = .slice a l.length cap := by
      rintro p ⟨hB, v, hbk, hown, hne⟩
      rw [Lib.byteCells_length] at hown
      refine ⟨v, by rw [Lib.cell_of_heap hbk]; rfl, ?_⟩
      rcases hown.2 with ⟨hv, hz⟩ | ⟨g, cap, cur, fz, hv, r⟩
      · exact ⟨none, 0, by rw [hv, hz]⟩
      · exact ⟨_, _, hv⟩
    rcases h with h | h
    · exact core _ h
    · exact core _ h
  obtain ⟨a, cap, rfl⟩ := hv
  go_enter Tryd.func23, Tryd.ntmps23
  go_wp2
  go_ret
  exact ⟨rfl, rfl⟩
end Go.Proofs.YteejldddgogbkaaDoor
/- A region that draws its order within a round, gone through by hand. -/
set_option linter.unusedVariables false
namespace Go.Proofs.YteejldddgogbkaaDoor
open Go.RowKit

section
variable {P : Program} {ops : Array Oper} {md : Region.Mode} {Q : Exit → Act → World → Prop}
theorem rowsIn_round {r n : Nat} {row : String} {args : Array Value} {w : World} {R : Value → World → Prop} (h : Rows P row args w R) : RowsIn (Fence.wide.inRound r) n P row args w R :=
  fun c cs _ => let ⟨v, w', q, s⟩ := h c cs; ⟨v, w', q, stepsIn_wide.2 s⟩
theorem operIn_of_wp {r n : Nat} {o : Oper} {a : Act} {w : World} {K K' : Act → World → Prop} (hse : ∀ ρ, Oper.semAt (Fence.wide.inRound r).round ρ o = execOp ρ o) (hL : ¬ LetsOut Q) (hK : ∀ a w, K a w → K' a w) (h : o.wp P a w K Q) : o.wpIn (Fence.wide.inRound r) n P a w K' Q := by
  unfold Oper.wp at h
  unfold Oper.wpIn
  refine ⟨fun _ _ => trivial, ?_⟩
  rw [hse]
  generalize (execOp a.eval o).run P w = x at *
  cases x with
  | ok x w' =>
    cases x <;> simp only [Oper.upon] at h <;> simp only [Oper.uponIn]
    case value u => exact hK _ _ h
    case skip => exact hK _ _ h
    case defer d => exact hK _ _ h
    case enter f args =>
      refine ⟨fun e => by simp [Fence.wide] at e, (wide_round r).calls (Calls.mono h fun e w'' he => ?_)⟩
      cases e with
      | returned v => exact hK _ _ he
      | panicked c => exact he
      | outgrown => exact he
    case row row args => exact ⟨fun e => by simp [Fence.wide] at e, rowsIn_round (Rows.mono h fun v w'' he => hK _ _ he)⟩
  | halt x w' =>
    cases x <;> simp only [Oper.upon] at h <;> simp only [Oper.uponIn]
    case panic v => exact h
theorem opIn_of_wp {r n i : Nat} {a : Act} {w : World} {K K' : Act → World → Prop} (hse : ∀ o, ops[i]? = some o → ∀ ρ, Oper.semAt (Fence.wide.inRound r).round ρ o = execOp ρ o) (hL : ¬ LetsOut Q) (hK : ∀ a w, K a w → K' a w) (h : wpOp P ops Q i K a w) : wpOpIn (Fence.wide.inRound r) n P ops Q i K' a w := by
  unfold wpOp at h
  unfold wpOpIn
  split
  · rename_i ho; simp only [ho] at h; exact hK _ _ h
  · rename_i o ho
    simp only [ho] at h
    split
    · rename_i hw
      simp only [hw, if_true] at h
      rcases h with h | h
      · exact operIn_of_wp (hse o ho) hL hK h
      · exact absurd h.2 hL
    · rename_i hw
      simp only [hw] at h
      exact ⟨fun _ _ => trivial, hK _ _ h⟩
theorem anyIn_of_wp {r n : Nat} (hse : ∀ (i : Nat) (o : Oper), ops[i]? = some o → ∀ ρ, Oper.semAt (Fence.wide.inRound r).round ρ o = execOp ρ o) (hL : ¬ LetsOut Q) : ∀ (fuel : Nat) (listed : Array Bool) (a : Act) (w : World), wpAny P md ops Q fuel listed a w → wpAnyIn (Fence.wide.inRound r) n P md ops Q fuel listed a w
  | 0, _, _, _, h => h
  | fuel + 1, _, _, _, h => ⟨h.1, fun i hi => opIn_of_wp (hse i) hL (fun _ _ h' => anyIn_of_wp hse hL fuel _ _ _ h') (h.2 i hi)⟩
/-- A region within a round, by hand. -/
theorem wpIn_round_held {r n id : Nat} {a : Act} {w : World} {l : List Oper} (S : World → Prop) (hm : P.follows .mixedOrders = true) (hd : noDefer l = true) (hL : ¬ LetsOut Q)
    (h : wpAnyH P .any l.toArray Q S l.toArray.size (Array.replicate l.toArray.size false) a { w with drawn := w.drawn + 1 }) : (Code.region id l.toArray true).wpIn (Fence.wide.inRound r) n P Q a w :=
  wpIn_region_any hm (anyIn_of_wp (noDefer_sem hd _) hL _ _ _ _ (wpAny_of_held _ _ _ _ h))
end
end Go.Proofs.YteejldddgogbkaaDoor
