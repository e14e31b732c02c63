/- Texts for layer 9, put together: TableRows, TableAll, TableOver, TableLaw, TableRange -/
import Derived.Test.YteejldddgogbkaaDoorTSca13
import Derived.Test.YteejldddgogbkaaDoorTSca12
import Derived.Test.YteejldddgogbkaaDoorTSca15
import Derived.Test.YteejldddgogbkaaDoorTSca00
import Derived.Test.YteejldddgogbkaaDoorTSca07
import Derived.RangeFuncWrites
/- The rows of the document's Build: a part, the index, the keys. -/
set_option linter.unusedVariables false
set_option maxRecDepth 100000
set_option maxRecDepth 100000
namespace Go.Proofs.YteejldddgogbkaaDoor
open Go.RowKit

def kcells (K : List (List UInt8)) : List Value := K.map fun l => Value.string (bs l)
theorem kcells_snoc (K : List (List UInt8)) (l : List UInt8) : kcells (K ++ [l]) = kcells K ++ [.string (bs l)] := by simp [kcells]
/-- A row of keys of the call's own. -/
def OwnK (w : World) (B : Nat) (v : Value) (K : List (List UInt8)) : Prop := OffRow w B 9 1 v K.length (kcells K)
theorem OwnK.nil (w : World) (B : Nat) : OwnK w B (.slice none 0 0) [] := OffRow.nil _ _ _ _
theorem OwnK.slice {w : World} {B : Nat} {v : Value} {K : List (List UInt8)} (h : OwnK w B v K) : ∃ a cap, v = .slice a K.length cap := OffRow.slice h
theorem OwnK.below {w w' : World} {B : Nat} {v : Value} {K : List (List UInt8)} (h : OwnK w B v K) (k : Below w.heap.size w w') : OwnK w' B v K := OffRow.kept h fun j hj => k.block j (OffRow.lt h j hj).2
theorem OwnK.rows {w : World} {B : Nat} {a : Option Addr} {n cap : Nat} {K : List (List UInt8)} (h : OwnK w B (.slice a n cap) K) (hn : n = K.length) : ∃ kb koff, (n = 0 ∨ a = some ⟨kb, koff, none⟩) ∧ RowS kb koff (K.map bs) w := by
  rcases Nat.eq_zero_or_pos n with h0 | h0
  · refine ⟨0, 0, .inl h0, fun k hk => ?_⟩
    rw [List.length_map] at hk
    omega
  · obtain ⟨g, off, cp, cur, e1, hB, hg, hc⟩ := OffRow.form h (by omega)
    injection e1 with e1 _ _
    refine ⟨g, off, .inr e1, fun k hk => ⟨heap_lt hg, ?_⟩⟩
    rw [List.length_map] at hk
    have := hc k (by omega)
    rw [this]
    simp [kcells, hk, List.getD_eq_getElem?_getD]
/-- Two rows of unlike elements lie apart. -/
theorem off_apart {w : World} {B1 B2 : Nat} {e1 e2 : TypeId} {s1 s2 n1 n2 : Nat} {v1 v2 : Value} {x1 x2 : List Value} (h1 : OffRow w B1 e1 s1 v1 n1 x1) (h2 : OffRow w B2 e2 s2 v2 n2 x2) (he : e1 ≠ e2) : ∀ g, v1.ownBlock = some g → v2.ownBlock ≠ some g := fun g a b => by
  obtain ⟨c1, d1⟩ := h1.tag a
  obtain ⟨c2, d2⟩ := h2.tag b
  rw [d1] at d2
  injection d2 with d2
  injection d2 with _ d2 _
  exact he d2
/-- A row stays where another grows. -/
theorem off_grown {w w' : World} {B1 : Nat} {e1 : TypeId} {s1 n1 : Nat} {v1 v2 : Value} {x1 : List Value} (h1 : OffRow w B1 e1 s1 v1 n1 x1) (hg : w.grownBy w' v2.ownBlock) (ha : ∀ g, v1.ownBlock = some g → v2.ownBlock ≠ some g) : OffRow w' B1 e1 s1 v1 n1 x1 :=
  OffRow.kept h1 fun j hj => hg.block j (OffRow.lt h1 j hj).2 fun e => ha j hj e.symm
structure R3 (w : World) (B : Nat) (p x k : Value) (P X : List Ent) (K : List (List UInt8)) : Prop where
  part : OwnE w B p P
  index : OwnE w B x X
  keys : OwnK w B k K
  apart : ∀ g, p.ownBlock = some g → x.ownBlock ≠ some g
namespace R3
variable {w w' : World} {B : Nat} {p x k : Value} {P X : List Ent} {K : List (List UInt8)}
theorem start (w : World) (B : Nat) : R3 w B (.slice none 0 0) (.slice none 0 0) (.slice none 0 0) [] [] [] := ⟨OwnE.nil _ _, OwnE.nil _ _, OwnK.nil _ _, fun g h => by cases h⟩
theorem below (h : R3 w B p x k P X K) (b : Below w.heap.size w w') : R3 w' B p x k P X K := ⟨h.part.below b, h.index.below b, h.keys.below b, h.apart⟩
theorem none (h : R3 w B p x k P X K) : R3 w B (.slice none 0 0) x k [] X K := ⟨OwnE.nil _ _, h.index, h.keys, fun g h => by cases h⟩
theorem ne1 : (38 : TypeId) ≠ 9 := by decide
theorem addPart (h : R3 w B p x k P X K) {p' : Value} {P' : List Ent} (hg : w.grownBy w' p.ownBlock) (ho : OwnE w' B p' P') (ha : p'.ownBlock = p.ownBlock ∨ p'.ownBlock = some w.heap.size) : R3 w' B p' x k P' X K :=
  ⟨ho, off_grown h.index hg fun g a b => h.apart g b a, off_grown h.keys hg (off_apart h.keys h.part ne1.symm), fun g a b => by
    rcases ha with ha | ha
    · exact h.apart g (ha ▸ a) b
    · rw [ha] at a
      injection a with a
      have := (OffRow.lt h.index g b).2
      omega⟩
theorem addIndex (h : R3 w B p x k P X K) {x' : Value} {X' : List Ent} (hg : w.grownBy w' x.ownBlock) (ho : OwnE w' B x' X') (ha : x'.ownBlock = x.ownBlock ∨ x'.ownBlock = some w.heap.size) : R3 w' B p x' k P X' K :=
  ⟨off_grown h.part hg h.apart, ho, off_grown h.keys hg (off_apart h.keys h.index ne1.symm), fun g a b => by
    rcases ha with ha | ha
    · exact h.apart g a (ha ▸ b)
    · rw [ha] at b
      injection b with b
      have := (OffRow.lt h.part g a).2
      omega⟩
theorem addKey (h : R3 w B p x k P X K) {k' : Value} {K' : List (List UInt8)} (hg : w.grownBy w' k.ownBlock) (ho : OwnK w' B k' K') : R3 w' B p x k' P X K' :=
  ⟨off_grown h.part hg (off_apart h.part h.keys ne1), off_grown h.index hg (off_apart h.index h.keys ne1), ho, h.apart⟩
end R3
theorem infoK : (Tryd.prog.info? 9).map (fun i => (i.zero, i.size, i.bytes)) = some (some (.string ByteArray.empty), 1, 16) := by kernel_rfl
theorem ecells_snoc (R : List Ent) (x : Ent) : ecells (R ++ [x]) = ecells R ++ x.vals := by rw [ecells_append]; simp [ecells]
end Go.Proofs.YteejldddgogbkaaDoor
/- The law's "all": what a walk tells, up to its end. -/
set_option linter.unusedVariables false
set_option maxRecDepth 100000
namespace Go.Proofs.YteejldddgogbkaaDoor
open Go.RowKit

/-- A function that tells entries, one by one, and then an error. -/
structure Walker (lb fb nb tb kb : Nat) (Z : Int) (S : Nat → Prop) (B : Nat) (I : Nat → List Ent → World → Prop) (E : World → Prop) : Prop where
  next : ∀ G L W, I G L W → G < W.heap.size → Calls Tryd.prog 61 #[.pointer (some ⟨lb, 0, none⟩), .pointer (some ⟨fb, 0, none⟩), .pointer (some ⟨nb, 0, none⟩), .pointer (some ⟨tb, 0, none⟩), .pointer (some ⟨kb, 0, none⟩)] W fun e w' =>
    ((L = [] ∧ e = .returned (.tuple #[.agg #[.string ⟨#[]⟩, .string ⟨#[]⟩, .bool false], .bool false, .int .i64 Z]) ∧ I G [] w' ∧ E w') ∨ (∃ x L1, L = x :: L1 ∧ e = .returned (.tuple #[.agg #[.string (bs x.key), .string (bs x.val), .bool x.gone], .bool true, .int .i64 0]) ∧ I G L1 w')) ∧ Only S W w'
  below : ∀ G L W W', I G L W → Below W.heap.size W W' → I G L W'
  row : ∀ G G2 L W W', I G L W → B ≤ G → (G2 = G ∨ W.heap.size ≤ G2) → (∀ j, j < W.heap.size → j ≠ G → W'.heap[j]? = W.heap[j]?) → I G2 L W'
  fresh : ∀ G G2 L W, I G L W → W.heap.size ≤ G2 → I G2 L W
  low : ∀ j, S j → j < B
  pos : 0 < B
  last : ∀ W W', E W → Below W.heap.size W W' → E W'
theorem OwnE.only {w w' : World} {B : Nat} {S : Nat → Prop} {v : Value} {R : List Ent} (h : OwnE w B v R) (k : Only S w w') (hS : ∀ j, S j → j < B) : OwnE w' B v R :=
  OffRow.kept h fun j hj => k.block j (OffRow.lt h j hj).2 fun e => by have := (OffRow.lt h j hj).1; have := hS j e; omega
theorem fn_walk (F : Nat) (c : Array Value) (w : World) : (binOp .eql 83 (.func (.func F) #[] c) .nilFunc).run Tryd.prog w = .ok (.bool false) w := by kernel_rfl
structure AllPost (L : List Ent) (Z : Int) (p : Nat) (E : World → Prop) (w : World) (e : Ending) (w' : World) : Prop where
  out : ∃ a cap, e = .returned (.tuple #[.slice a L.length cap, .int .i64 Z]) ∧ IsE w' a L.length L
  last : E w'
  only : Only (fun j => j = p) w w'
set_option maxHeartbeats 4000000 in
theorem law_all (tv : Value) (key : List UInt8) (L : List Ent) (Z : Int) (p : Nat) (E : World → Prop) (w : World)
    (hW : Hid (Calls Tryd.prog 40 #[tv, .string (bs key)] w fun e w1 => ∃ lb fb nb tb kb I S, e = .returned (walkV lb fb nb tb kb) ∧ Walker lb fb nb tb kb Z S w1.heap.size I E ∧ (∀ G, I G L w1) ∧ (∀ j, S j → j = p ∨ w.heap.size ≤ j) ∧ Below w.heap.size w w1))
    (hL : L.length < 100000) :
    Calls Tryd.prog 16 #[tv, .string (bs key)] w (AllPost L Z p E w) := by
  obtain ⟨i0, hi0, hz0, hz1, hz2⟩ := info_parts infoE
  have HI0 := Lib.hid (And.intro hi0 (And.intro hz0 (And.intro hz1 hz2)))
  clear hi0 hz0 hz1 hz2
  go_enter Tryd.func16, Tryd.ntmps16
  go_upto_region 2 with (fail)
  go_wp2_with fail
  refine hW.out.mono ?_
  rintro e w1 ⟨lb, fb, nb, tb, kb, I, S, rfl, hWk, hI, hS, hB1⟩
  have HWK := Lib.hid hWk
  have HS := Lib.hid hS
  have HB1 := Lib.hid hB1
  obtain ⟨B, hB⟩ : ∃ B, B = w1.heap.size := ⟨_, rfl⟩
  rw [← hB] at HWK
  have HB := Lib.hid hB
  have I0 := Lib.hid (hI 0)
  clear hWk hI hS hB1 hB
  unfold walkV
  have hfn := fn_walk
  go_wp2_with fail
  clear hfn
  go_loopw [6, 8] (fun v iv wr => ∃ done rest G, L = done ++ rest ∧ iv = .int .i64 (done.length : Int) ∧ Hid (OwnE wr B v done) ∧ Hid (I G rest wr) ∧ Hid (∀ g, v.ownBlock = some g → g = G) ∧ Hid (G < wr.heap.size) ∧ Hid (Only S w1 wr)) (fun v iv wr => L.length - (intOf iv).toNat)
  case atStart => exact ⟨[], L, 0, rfl, rfl, Lib.hid (OwnE.nil _ _), I0, Lib.hid (fun g h => by cases h), Lib.hid (by have := HWK.out.pos; rw [HB.out] at this; exact this), Lib.hid (Only.refl _ _)⟩
  case round =>
    obtain ⟨done, rest, G, hsplit, rfl, hO, hI, hOwn, hGl, hOn⟩ := hrel
    have hLen : L.length = done.length + rest.length := by rw [hsplit, List.length_append]
    have hBr := Lib.hid (show B ≤ wr.heap.size from HB.out ▸ hOn.out.size)
    have HSp := Lib.hid hsplit
    obtain ⟨n, hn⟩ : ∃ n, n = done.length := ⟨_, rfl⟩
    obtain ⟨a, cap, hv⟩ := hO.out.slice
    rw [← hn] at hLen hv ⊢
    have HN := Lib.hid hn
    have hlt : (n : Int) < 100000 := by omega
    have HNX := Lib.hid (HWK.out.next G rest wr hI.out hGl.out)
    subst hv
    clear hsplit hn
    go_wp2_with fail
    refine HNX.out.mono ?_
    rintro e w2 ⟨hcase, hOn2⟩
    have O2 := Lib.hid (hOn.out.trans (hOn2.mono fun j _ h => h))
    have R2 := Lib.hid (hO.out.only hOn2 HWK.out.low)
    have G2 := Lib.hid (Nat.lt_of_lt_of_le hGl.out hOn2.size)
    have B2 := Lib.hid (Nat.le_trans hBr.out hOn2.size)
    clear hOn2
    rcases hcase with ⟨hrest, rfl, hI2, hE2⟩ | ⟨x, L1, hrest, rfl, hI2⟩
    · -- the end
      subst hrest
      have HLD := Lib.hid (show L = done by have := HSp.out; rwa [List.append_nil] at this)
      have HI2 := Lib.hid hI2
      clear hI2 hE2
      obtain ⟨w3, hw3⟩ : ∃ w3, w3 = w2.alloc (.cells #[.string ⟨#[]⟩, .string ⟨#[]⟩, .bool false] 38) := ⟨_, rfl⟩
      have K3 := Lib.hid (show Below w2.heap.size w2 w3 by rw [hw3]; exact (Below.refl _ _).alloc (Nat.le_refl _) _)
      have C3' := Lib.hid (show C3 w2.heap.size 38 (.string ⟨#[]⟩) (.string ⟨#[]⟩) (.bool false) w3 by rw [hw3]; exact heap_new w2 _)
      have HI3 := Lib.hid (HWK.out.below _ _ _ _ HI2.out K3.out)
      have O3 := Lib.hid (O2.out.trans (Only.of_below' (S := S) K3.out rfl))
      have R3 := Lib.hid (R2.out.below K3.out)
      have HNX3 := Lib.hid (HWK.out.next G [] w3 HI3.out (Nat.lt_of_lt_of_le G2.out K3.out.size))
      have HW3 := Lib.hid hw3
      clear hw3
      go_upto_region 10 with (fail)
      rw [← HW3.out]
      go_wp2_with fail
      refine HNX3.out.mono ?_
      rintro e w4 ⟨hcase, hOn4⟩
      rcases hcase with ⟨_, rfl, hI4, hE4⟩ | ⟨x, L1, hrest, _, _⟩
      rotate_left
      · cases hrest
      have C4 := Lib.hid (show C3 w2.heap.size 38 (.string ⟨#[]⟩) (.string ⟨#[]⟩) (.bool false) w4 from (hOn4.block _ (heap_lt C3'.out) (fun e => by have := HWK.out.low _ e; have := B2.out; omega)).trans C3'.out)
      have O4 := Lib.hid (O3.out.trans (hOn4.mono fun j _ h => h))
      have R4 := Lib.hid (R3.out.only hOn4 HWK.out.low)
      have E4 := Lib.hid hE4
      clear hOn4 hI4 hE4
      obtain ⟨w5, hw5⟩ : ∃ w5, w5 = w4.alloc (.cells #[.string ⟨#[]⟩, .string ⟨#[]⟩, .bool false] 38) := ⟨_, rfl⟩
      have K5 := Lib.hid (show Below w4.heap.size w4 w5 by rw [hw5]; exact (Below.refl _ _).alloc (Nat.le_refl _) _)
      have D5 := Lib.hid (show C3 w4.heap.size 38 (.string ⟨#[]⟩) (.string ⟨#[]⟩) (.bool false) w5 by rw [hw5]; exact heap_new w4 _)
      have C5 := Lib.hid (C4.out.below K5.out)
      have O5 := Lib.hid (O4.out.trans (Only.of_below' (S := S) K5.out rfl))
      have R5 := Lib.hid (R4.out.below K5.out)
      have E5 := Lib.hid (HWK.out.last _ _ E4.out K5.out)
      have x0 := C5.out.c0
      have x1 := C5.out.c1
      have x2 := C5.out.c2
      have y0 := D5.out.c0
      have y1 := D5.out.c1
      have y2 := D5.out.c2
      have hsame := ent_same ⟨#[]⟩ ⟨#[]⟩ false
      have hZ : (Z == Z) = true := beq_self_eq_true Z
      have HW5 := Lib.hid hw5
      clear hw5
      go_upto_region 11 with (fail)
      rw [← HW5.out]
      go_wp2_with fail
      go_ret2
      have hb := Lib.hid (Below.refl w5.heap.size w5)
      have hO6 := O5
      refine ⟨⟨a, cap, by rw [HLD.out, ← HN.out]; rfl, ?_⟩, HWK.out.last _ _ E5.out hb.out, ?_⟩
      · have h := (R5.out.below hb.out).is HN.out
        rw [HLD.out, ← HN.out]
        exact h
      · have h1 : Only (fun j => j = p) w w1 := Only.of_below' HB1.out rfl
        refine h1.andThen hO6.out fun j hj h => ?_
        rcases HS.out j h with h | h
        · exact h
        · omega
    · -- an entry more
      subst hrest
      have hLen2 : L.length = n + (L1.length + 1) := by rw [hLen]; simp
      have HI2 := Lib.hid hI2
      clear hI2
      obtain ⟨w3, hw3⟩ : ∃ w3, w3 = w2.alloc (.cells #[.string (bs x.key), .string (bs x.val), .bool x.gone] 38) := ⟨_, rfl⟩
      have K3 := Lib.hid (show Below w2.heap.size w2 w3 by rw [hw3]; exact (Below.refl _ _).alloc (Nat.le_refl _) _)
      have C3' := Lib.hid (show C3 w2.heap.size 38 (.string (bs x.key)) (.string (bs x.val)) (.bool x.gone) w3 by rw [hw3]; exact heap_new w2 _)
      have HI3 := Lib.hid (HWK.out.below _ _ _ _ HI2.out K3.out)
      have O3 := Lib.hid (O2.out.trans (Only.of_below' (S := S) K3.out rfl))
      have R3 := Lib.hid (R2.out.below K3.out)
      have G3 := Lib.hid (Nat.lt_of_lt_of_le G2.out K3.out.size)
      have B3 := Lib.hid (Nat.le_trans B2.out K3.out.size)
      have x0 := C3'.out.c0
      have x1 := C3'.out.c1
      have x2 := C3'.out.c2
      have HW3 := Lib.hid hw3
      clear hw3
      go_upto_region 14 with (fail)
      rw [← HW3.out]
      obtain ⟨hi0, hz0, hz1, hz2⟩ := HI0.out
      go_wp2_with (at_builtin; refine wpList_append_off rfl (.tmp 56) (.tmp 58) 22 rfl B 38 i0 _ 3 40 Tryd.underlying22 hi0 hz0 hz1 hz2 rfl (.slice a n cap) n (ecells done) rfl ?c1 (.slice (some ⟨w3.heap.size, 0, none⟩) 1 1) rfl 1 x.vals ?c2 ?c3 ?c4 ?c5 ?_)
      case c1 => have := R3.out; unfold OwnE at this; rw [← HN.out] at this; exact OffRow.allocd this _
      case c2 => exact src_block (size := 3) (cs := #[.string (bs x.key), .string (bs x.val), .bool x.gone]) Tryd.underlying22 (heap_new _ _) 1 1 rfl (by intro u hu; simp at hu; rcases hu with rfl | rfl | rfl <;> rfl)
      case c3 => unfold maxLen; omega
      case c4 => omega
      case c5 => have := B3.out; simp; omega
      intro v5 w5 hr5 hg5 hat5
      obtain ⟨w4, hw4⟩ : ∃ w4, w4 = w3.alloc (.cells #[.string (bs x.key), .string (bs x.val), .bool x.gone] 38) := ⟨_, rfl⟩
      have K4 := Lib.hid (show Below w3.heap.size w3 w4 by rw [hw4]; exact (Below.refl _ _).alloc (Nat.le_refl _) _)
      have hs4 : w4.heap.size = w3.heap.size + 1 := by rw [hw4]; simp
      rw [← hw4] at hg5
      rw [← hs4] at hat5
      have HI4 := Lib.hid (HWK.out.below _ _ _ _ HI3.out K4.out)
      have O4 := Lib.hid (O3.out.trans (Only.of_below' (S := S) K4.out rfl))
      have R4 := Lib.hid (R3.out.below K4.out)
      have hO5 := Lib.hid (show OwnE w5 B v5 (done ++ [x]) by
        unfold OwnE
        rw [ecells_snoc, List.length_append, ← HN.out]
        exact hr5)
      have hOn5 := Lib.hid (show Only S w1 w5 from O4.out.grown hg5 fun j hj => .inr (by rw [← HB.out]; exact (OffRow.lt R4.out j hj).1))
      have hKey := Lib.hid (show ∃ G2, I G2 L1 w5 ∧ (∀ g, v5.ownBlock = some g → g = G2) ∧ G2 < w5.heap.size by
        rcases hat5 with hat | hat
        · by_cases hob : ∃ g, (Value.slice a n cap).ownBlock = some g
          · obtain ⟨g, hob⟩ := hob
            have hgG := hOwn.out g hob
            refine ⟨G, HWK.out.row G G L1 w4 w5 HI4.out (by rw [← hgG]; exact (OffRow.lt R4.out g hob).1) (.inl rfl) (fun j hj hne => hg5.block j hj (by rw [hob, hgG]; intro e; injection e with e; exact hne e)), fun g' hg' => ?_, ?_⟩
            · rw [hat, hob] at hg'
              injection hg' with hg'
              rw [← hg', hgG]
            · have := hg5.size; have := G3.out; omega
          · refine ⟨G, HWK.out.below G L1 w4 w5 HI4.out ((Below.refl _ _).grown hg5 (Nat.le_refl _) fun k hk => absurd ⟨k, hk⟩ hob), fun g' hg' => absurd ⟨g', hat ▸ hg'⟩ hob, ?_⟩
            have := hg5.size; have := G3.out; omega
        · have hlt5 : w4.heap.size < w5.heap.size := (OffRow.lt hr5 _ hat).2
          by_cases hob : ∃ g, (Value.slice a n cap).ownBlock = some g
          · obtain ⟨g, hob⟩ := hob
            have hgG := hOwn.out g hob
            refine ⟨w4.heap.size, HWK.out.row G _ L1 w4 w5 HI4.out (by rw [← hgG]; exact (OffRow.lt R4.out g hob).1) (.inr (Nat.le_refl _)) (fun j hj hne => hg5.block j hj (by rw [hob, hgG]; intro e; injection e with e; exact hne e)), fun g' hg' => ?_, hlt5⟩
            rw [hat] at hg'
            injection hg' with hg'
            exact hg'.symm
          · refine ⟨w4.heap.size, HWK.out.below _ L1 w4 w5 (HWK.out.fresh G _ L1 w4 HI4.out (Nat.le_refl _)) ((Below.refl _ _).grown hg5 (Nat.le_refl _) fun k hk => absurd ⟨k, hk⟩ hob), fun g' hg' => ?_, hlt5⟩
            rw [hat] at hg'
            injection hg' with hg'
            exact hg'.symm)
      obtain ⟨G5, hI5, hOw5, hGl5⟩ := hKey.out
      have HI5 := Lib.hid hI5
      have HOw5 := Lib.hid hOw5
      have HGl5 := Lib.hid hGl5
      have hdl := Lib.hid (show ((done ++ [x]).length : Int) = (n : Int) + 1 by rw [List.length_append, ← HN.out]; rfl)
      clear hr5 hg5 hat5 hw4 hs4 hI5 hOw5 hGl5 hi0 hz0 hz1 hz2
      go_wp2_with fail
      go_roundw
      case rel => exact ⟨done ++ [x], L1, G5, by rw [HSp.out]; simp, by rw [hdl.out], hO5, HI5, HOw5, HGl5, hOn5⟩
      case measure => simp [intOf]; omega
end Go.Proofs.YteejldddgogbkaaDoor
/- The law's source of a text. -/
set_option linter.unusedVariables false
set_option maxRecDepth 100000
set_option maxRecDepth 100000
namespace Go.Proofs.YteejldddgogbkaaDoor
open Go.RowKit

/-- A source of s: its box is b. -/
def overV (b : Nat) : Value := .func (.func 35) #[] #[.pointer (some ⟨b, 0, none⟩)]
theorem law_over (s : ByteArray) (w : World) : Calls Tryd.prog 12 #[.string s] w fun e w' => e = .returned (overV w.heap.size) ∧ w' = w.alloc (.cells #[.string s] 9) := by
  go_enter Tryd.func12, Tryd.ntmps12
  go_wp2_with fail
  go_ret
  exact ⟨rfl, rfl⟩
/-- What a source answers. -/
def overE (n : Nat) (at_ size : Int) : Int := if at_ < 0 ∨ size < 0 ∨ at_ > n ∨ size > n - at_ then 1 else 0
set_option maxHeartbeats 1000000 in
theorem over_no (b : Nat) (s : ByteArray) (at_ size : Int) (w : World) (hc : w.cell? ⟨b, 0, none⟩ = some (.string s)) (ha : -9223372036854775808 ≤ at_) (ha2 : at_ ≤ 9223372036854775807) (hs : s.size ≤ 9223372036854775807) (h : at_ < 0 ∨ size < 0 ∨ at_ > (s.size : Int) ∨ size > (s.size : Int) - at_) :
    Calls Tryd.prog 35 #[.int .i64 at_, .int .i64 size, .pointer (some ⟨b, 0, none⟩)] w fun e w' => e = .returned (.tuple #[.string (bs []), .int .i64 1]) ∧ Below w.heap.size w w' := by
  by_cases h1 : at_ < 0
  · go_enter Tryd.func35, Tryd.ntmps35
    go_wp2_with fail
    go_ret2
    exact ⟨rfl, Below.refl _ _⟩
  by_cases h2 : size < 0
  · go_enter Tryd.func35, Tryd.ntmps35
    go_wp2_with fail
    go_ret2
    exact ⟨rfl, Below.refl _ _⟩
  by_cases h3 : at_ > (s.size : Int)
  · go_enter Tryd.func35, Tryd.ntmps35
    go_wp2_with fail
    go_ret2
    exact ⟨rfl, Below.refl _ _⟩
  · have h4 : size > (s.size : Int) - at_ := by omega
    go_enter Tryd.func35, Tryd.ntmps35
    go_wp2_with fail
    go_ret2
    exact ⟨rfl, Below.refl _ _⟩
set_option maxHeartbeats 1000000 in
theorem over_yes (b : Nat) (s : ByteArray) (n k : Nat) (w : World) (hc : w.cell? ⟨b, 0, none⟩ = some (.string s)) (h : n + k ≤ s.size) (hs : s.size ≤ 9223372036854775807) :
    Calls Tryd.prog 35 #[.int .i64 (n : Int), .int .i64 (k : Int), .pointer (some ⟨b, 0, none⟩)] w fun e w' => e = .returned (.tuple #[.string (s.extract n (n + k)), .int .i64 0]) ∧ Below w.heap.size w w' := by
  go_enter Tryd.func35, Tryd.ntmps35
  go_wp2_with fail
  go_ret2
  exact ⟨rfl, Below.refl _ _⟩
end Go.Proofs.YteejldddgogbkaaDoor
/- What the laws call: a table over a source, all of it from a key on. -/
set_option linter.unusedVariables false
set_option maxRecDepth 100000
namespace Go.Proofs.YteejldddgogbkaaDoor
open Go.RowKit

theorem bs_cut (L : List UInt8) (n k : Nat) : (bs L).extract n (n + k) = bs ((L.drop n).take k) :=
  bs_eq (by rw [Lib.extract_data, bs_list]; congr 1; omega)
/-- The box of a source of a text. -/
def overK (b : Nat) (L : List UInt8) : List (Nat × Obj) := [(b, .cells #[.string (bs L)] 9 (0, 0))]
theorem over_src (b : Nat) (L : List UInt8) (hl : L.length ≤ 100000000000) : Src 35 #[.pointer (some ⟨b, 0, none⟩)] (overK b L) 0 L where
  enters := enters_of Tryd.func35 (by kernel_rfl) rfl
  calls W hK n k hnk := by
    have h0 : W.heap[b]? = some (.cells #[.string (bs L)] 9 (0, 0)) := hK (b, _) (by simp [overK])
    refine (over_yes b (bs L) n k W (by simp [World.cell?, h0]) (by rw [bs_size]; exact hnk) (by rw [bs_size]; omega)).mono ?_
    rintro e w' ⟨rfl, h⟩
    exact ⟨by rw [bs_cut, if_pos rfl], h⟩
/-- A table in memory whose source has what it needs. -/
structure TabS (p F : Nat) (c : Array Value) (K : List (Nat × Obj)) (t : Tab) (lo hi : Int) (W : World) : Prop where
  ex : ∃ n, lo ≤ n ∧ n ≤ hi ∧ TabM p (srcV F c) n t W
  keep : Keep K W
theorem TabS.below {p F : Nat} {c : Array Value} {K : List (Nat × Obj)} {t : Tab} {lo hi : Int} {W W' : World} (h : TabS p F c K t lo hi W) (k : Below W.heap.size W W') : TabS p F c K t lo hi W' := by
  obtain ⟨n, h1, h2, h3⟩ := h.ex
  exact ⟨⟨n, h1, h2, h3.below k⟩, h.keep.below k⟩
/-- The first block that a walk reads. -/
def firstB (t : Tab) (key : List UInt8) : Nat := fromN key (t.index.map (·.key)) - 1
theorem firstB_le (t : Tab) (key : List UInt8) : firstB t key ≤ t.index.length := by
  have := fromN_le key (t.index.map (·.key))
  rw [List.length_map] at this
  unfold firstB
  omega
/-- How many blocks were read behind a walk: at least, at most. -/
def readLo (t : Tab) (key : List UInt8) (n Z : Int) : Int := if Z = 0 then n - (firstB t key : Int) + (t.index.length : Int) else n - 65536
def readHi (t : Tab) (key : List UInt8) (n Z : Int) : Int := if Z = 0 then n - (firstB t key : Int) + (t.index.length : Int) else n + 65536
theorem walker_of {p F : Nat} {c : Array Value} {K : List (Nat × Obj)} {t : Tab} {d n : Int} {key : List UInt8} {lb fb nb tb kb B : Nat} (Z : Int) (hf : FineT t) (hs : Src F c K d t.bytes) (hK : ∀ q ∈ K, q.1 < lb ∧ q.1 < fb ∧ q.1 < nb ∧ q.1 ≠ p)
    (hB : p < B ∧ lb < B ∧ fb < B ∧ nb < B ∧ tb < B ∧ kb < B) (hn1 : -10000000000000000 ≤ n) (hn2 : n ≤ 10000000000000000) (hl : t.bytes.length ≤ 100000000000) :
    Walker lb fb nb tb kb Z (WS4 lb fb nb p) B (fun G L W => WalkS lb fb nb tb kb p G F c K t d (n - (firstB t key : Int)) key Z L W) (TabS p F c K t (readLo t key n Z) (readHi t key n Z)) where
  next G L W h hG := by
    have hfew := hf.few
    have hfl := firstB_le t key
    refine (table_next lb fb nb tb kb p G F c K t d (n - (firstB t key : Int)) key Z L W (Lib.hid h) (Lib.hid hf) (Lib.hid hs) (Lib.hid fun q hq e => ?_) (Lib.hid hG) (by omega) (by omega) hl).mono ?_
    · have := hK q hq
      rcases e with e | e | e | e <;> omega
    · rintro e w' ⟨hc, ho⟩
      refine ⟨?_, ho⟩
      rcases hc with ⟨h1, h2, h3, h4⟩ | ⟨x, L1, h1, h2, h3⟩
      · refine .inl ⟨h1, h2, h3, ?_, h3.keep⟩
        by_cases hZ : Z = 0
        · exact ⟨_, by unfold readLo; rw [if_pos hZ]; exact Int.le_refl _, by unfold readHi; rw [if_pos hZ]; exact Int.le_refl _, h4 hZ⟩
        · obtain ⟨R, z, i, g1, g2, g3, g4, g5⟩ := h3.st
          exact ⟨_, by unfold readLo; rw [if_neg hZ]; omega, by unfold readHi; rw [if_neg hZ]; omega, g2⟩
      · exact .inr ⟨x, L1, h1, h2, h3⟩
  below G L W W' h k := h.below k
  row G G2 L W W' h hG hG2 k := h.row (by omega) (fun q hq => by have := hK q hq; omega) hG2 k
  fresh G G2 L W h hG := h.fresh hG
  low j h := by rcases h with h | h | h | h <;> omega
  pos := by omega
  last W W' h k := h.below k
/-- All from a key on. -/
theorem all_tab (p F : Nat) (c : Array Value) (K : List (Nat × Obj)) (t : Tab) (d n : Int) (key : List UInt8) (w : World) (hT : Hid (TabM p (srcV F c) n t w)) (hf : Hid (FineT t)) (hs : Hid (Src F c K d t.bytes)) (hK : Hid (Keep K w)) (hKp : Hid (∀ q ∈ K, q.1 ≠ p))
    (hn1 : -10000000000000000 ≤ n) (hn2 : n ≤ 10000000000000000) (hl : t.bytes.length ≤ 100000000000) (hL : (scanU t d key).2.length < 100000) :
    Calls Tryd.prog 16 #[.pointer (some ⟨p, 0, none⟩), .string (bs key)] w (AllPost (scanU t d key).2 (scanU t d key).1 p (TabS p F c K t (readLo t key n (scanU t d key).1) (readHi t key n (scanU t d key).1)) w) := by
  refine law_all _ key _ _ p _ w (Lib.hid ((table_Walk p F c K t d n key w hT hf hK).mono ?_)) hL
  rintro e w1 ⟨⟨lb, fb, nb, tb, kb, rfl, h1, h2, h3⟩, hb⟩
  have hp := hT.out.lt
  have hsz := hb.size
  refine ⟨lb, fb, nb, tb, kb, _, _, rfl, walker_of (n := n) _ hf.out hs.out (fun q hq => ?_) (by omega) hn1 hn2 hl, h2, fun j hj => ?_, hb⟩
  · have h4 := heap_lt (hK.out q hq)
    have h5 := hKp.out q hq
    omega
  · rcases hj with h | h | h | h
    · exact .inl h
    · right; omega
    · right; omega
    · right; omega
end Go.Proofs.YteejldddgogbkaaDoor
/- A range over a function that writes blocks of its own between its rounds (a table's), while the rounds write some that hold numbers: the caller's invariant says nothing of the first. -/
set_option linter.unusedVariables false
set_option maxRecDepth 100000
namespace Go.Proofs.YteejldddgogbkaaDoor
open Go.RowKit

theorem Only.grown2 {S : Nat → Prop} {a w w' : World} {row : Option Nat} (h : Only S a w) (hg : w.grownBy w' row) (hr : ∀ k, row = some k → a.heap.size ≤ k ∨ S k) : Only S a w' :=
  ⟨hg.os.trans h.os, hg.tape.trans h.tape, hg.output.trans h.output, Nat.le_trans h.size hg.size, fun k hk hs => (hg.block k (Nat.lt_of_lt_of_le hk h.size) (fun e => by rcases hr k e.symm with h | h; (omega); (exact hs h))).trans (h.block k hk hs)⟩
theorem only_putObj {S : Nat → Prop} (W : World) (l : Nat) (o' : Obj) (hl : S l) : Only S W (W.putObj l o') :=
  (Only.refl S W).grown2 (grownBy_putObj' W l o') fun j hj => .inr (by injection hj with hj; rw [← hj]; exact hl)
/-- How a round may be left: where it goes on, it wrote its own blocks alone. -/
def scPost {α : Type} (B : Nat) (Nb : Nat → Prop) (Cn : World → Prop) (I : List α → World → Prop) (Ix : Code → List α → World → Prop) (xs : List α) (W : World) : Exit → Act → World → Prop
  | .normal, _, W' => KeepsFrom B W W' ∧ Only Nb W W' ∧ Cn W' ∧ I xs W'
  | .ret, _, W' => KeepsFrom B W W' ∧ Ix .ret xs W'
  | .exit id, _, W' => KeepsFrom B W W' ∧ Ix (.exit id) xs W'
  | .goto t, _, W' => KeepsFrom B W W' ∧ Ix (.goto t) xs W'
  | .panic _, _, _ => False
  | .outgrown, _, _ => False
/-- A function that goes through Y and writes Fw between. -/
def ScStops {α : Type} (n : Nat) (P : Program) (g : Nat) (lb : Array Value) (encs : α → Array Value) (Fw Nb : Nat → Prop) (Cn CS : World → Prop) (lo : Nat) (Y : List α) : Prop :=
  ∀ (l : Nat) (J Jx : List α → World → Prop) (W : World), lo ≤ W.heap.size →
    (∀ pre A B, J pre A → Only (fun k => Fw k ∨ W.heap.size ≤ k) A B → J pre B) →
    (∀ pre x W1, J pre W1 → Cn W1 → Y[pre.length]? = some x → YieldAt Fence.wide (n - 1) P l (encs x) W1 fun e W' =>
      (e = .returned (.bool true) ∧ J (pre ++ [x]) W' ∧ Cn W' ∧ Only (fun k => Nb k ∨ lo ≤ k) W1 W' ∧ ∀ j o, lo ≤ j → W1.heap[j]? = some o → o.isCells = true → W'.heap[j]? = some o) ∨ (e = .returned (.bool false) ∧ Jx (pre ++ [x]) W')) →
    J [] W → Cn W → CS W →
    CallsIn Fence.wide n P g (#[.func (.yield l) #[] #[]] ++ lb) W fun e W' => (∃ v, e = .returned v) ∧ (J Y W' ∨ (∃ pre, Jx pre W'))
section
variable {n : Nat} {P : Program}
theorem wpIn_rangeFunc_sc {α : Type} {g : Operand} {ps : Array Tmp} {assign body : Code} {Q : Exit → Act → World → Prop} {a : Act} {w : World}
    (h1 : 1 ≤ n) {gf : Nat} {lb : Array Value} (hg : a.eval g = .func (.func gf) #[] lb) (eg : ∀ args w, (callFunc gf args).run P w = .ok (.enter gf args) w)
    {encs : α → Array Value} {Fw Nb : Nat → Prop} {Cn CS : World → Prop} {Y : List α} (hseq : ScStops (n - 1) P gf lb encs Fw Nb Cn CS w.heap.size Y)
    (hF : ∀ k, Fw k → k < w.heap.size) (hNb : ∀ k, Nb k → k < w.heap.size) (hCn : ∀ A B, Cn A → Only (fun j => ¬ Nb j) A B → Cn B) (hCS : ∀ A B, CS A → Only (fun j => w.heap.size ≤ j) A B → CS B) (hps : ∀ x, (encs x).size = ps.size)
    (I : List α → World → Prop) (Ix : Code → List α → World → Prop) (hI : ∀ pre A B, I pre A → Only (fun k => Fw k ∨ w.heap.size ≤ k) A B → I pre B) (hIx : ∀ c pre A B, Ix c pre A → Only (fun k => w.heap.size ≤ k) A B → Ix c pre B) (h0 : I [] w) (hn0 : Cn w) (hc0 : CS w)
    (At : α → Act → World → Prop) (hAt : ∀ x a' A B, At x a' A → (∀ (k : Nat) (o : Obj), A.heap[k]? = some o → o.isCells = true → B.heap[k]? = some o) → At x a' B)
    (hassign : ∀ (l : Nat) (x : α) (W : World) (K : Act → World → Prop), (∀ a' Wa, At x a' Wa → Only (fun _ => False) W Wa → KeepsFrom w.heap.size W Wa → K a' Wa) →
      assign.wpIn (Fence.wide.inRound l) (n - 1 - 1) P (Exit.then K (fun _ _ _ => False)) { tmps := (ps.zip (encs x)).foldl (fun t (p, v) => t.setIfInBounds p v) a.tmps, defers := [] } W)
    (hbody : ∀ (l : Nat) (pre : List α) (x : α) (a' : Act) (W : World), I pre W → Cn W → Y[pre.length]? = some x → At x a' W → body.wpIn (Fence.wide.inRound l) (n - 1 - 1) P (scPost w.heap.size Nb Cn I Ix (pre ++ [x]) W) a' W)
    (hdone : ∀ (D : Nat) (W : World), w.heap.size ≤ D → I Y W → W.heap[D]? = some (.deferred (some [])) → Q .normal { a with defers := { target := .collected D, args := #[] } :: a.defers } W)
    (hstop : ∀ (D : Nat) (c : Code) (pre : List α) (W : World), w.heap.size ≤ D → Ix c pre W → W.heap[D]? = some (.deferred (some [])) → c.wpIn Fence.wide n P Q { a with defers := { target := .collected D, args := #[] } :: a.defers } W) :
    (Code.rangeFunc g ps assign body).wpIn Fence.wide n P Q a w := by
  refine wpIn_rangeFunc fun fn hfn => ?_
  obtain ⟨D, hD⟩ : ∃ D, D = w.heap.size := ⟨_, rfl⟩
  obtain ⟨rec, hrec⟩ : ∃ rec : LoopState → Option Code → Loop, rec = fun st pe => { state := st, pending := pe, fn, tmps := a.tmps, params := ps, assign, body, defers := D } := ⟨_, rfl⟩
  obtain ⟨V, hV⟩ : ∃ V, V = (w.alloc (.deferred (some []))).alloc (.loop (rec .ready none)) := ⟨_, rfl⟩
  have hVl : V.heap[D + 1]? = some (.loop (rec .ready none)) := by
    have := World.alloc_heap_new (w.alloc (.deferred (some []))) (.loop (rec .ready none))
    rw [World.size_alloc] at this
    rw [hV, hD]
    exact this
  have hVd : V.heap[D]? = some (.deferred (some [])) := by
    rw [hV, hD]
    exact (Below.heap_alloc _ _ _ (by simp)).trans (World.alloc_heap_new w _)
  have hVs : V.heap.size = D + 2 := by rw [hV, hD]; simp
  have onV : ∀ (S : Nat → Prop), Only S w V := fun S => by rw [hV]; exact ((Only.refl S w).alloc _).alloc _
  have big : ∀ {A B : World}, Only (fun k => Fw k ∨ V.heap.size ≤ k) A B → ∀ (k : Nat) (o : Obj), D ≤ k → k < V.heap.size → A.heap[k]? = some o → B.heap[k]? = some o := fun {A B} h k o hk hlt hA => by
    refine (h.block k (heap_lt hA) fun hh => ?_).trans hA
    rcases hh with hh | hh
    · have := hF k hh; omega
    · omega
  have hnN : ∀ k, w.heap.size ≤ k → ¬ Nb k := fun k h hh => by have := hNb k hh; omega
  have hCn' : ∀ A B, Cn A → Only (fun j => w.heap.size ≤ j) A B → Cn B := fun A B h o => hCn A B h (o.mono fun j _ hj => hnN j hj)
  refine ⟨D + 1, [{ target := .collected D, args := #[] }], V, { target := .fn (.func gf) lb, args := #[.func (.yield (D + 1)) #[] #[]] }, V, gf,
    #[.func (.yield (D + 1)) #[] #[]] ++ lb, V, ?_, ?_, fun f' hf' => trivial, ?_, fun _ => h1, ?_⟩
  · rw [hV, hrec, hD]
    exact run_enterLoop_outer _ _ _ _ _
  · simp only [resolve, hg]
    simp [go_sem]
  · simp [invoke, go_sem, eg]
  refine (hseq (D + 1) (fun pre W => I pre W ∧ W.heap[D + 1]? = some (.loop (rec .ready none)) ∧ W.heap[D]? = some (.deferred (some [])))
    (fun pre W => ∃ c, Ix c pre W ∧ W.heap[D + 1]? = some (.loop (rec .done (some c))) ∧ W.heap[D]? = some (.deferred (some []))) V (by omega)
    (fun pre A B hj hAB => ⟨hI _ _ _ hj.1 (hAB.mono fun k _ hk => hk.imp id fun h => by omega), big hAB _ _ (by omega) (by omega) hj.2.1, big hAB _ _ (by omega) (by omega) hj.2.2⟩)
    ?_ ⟨hI _ _ _ h0 (onV _), hVl, hVd⟩ (hCn' _ _ hn0 (onV _)) (hCS _ _ hc0 (onV _))).mono ?_
  · rintro pre x W ⟨hi, hl, hd⟩ hcs hx
    have hy := run_yield (P := P) (args := encs x) hl (by rw [hrec]; exact hps x)
    rw [hrec] at hy
    refine ⟨fn, _, assign, body, hy, roundIn_of_wpIn hfn (hassign _ x W _ fun a' Wa hat hon0 hkf => ?_)⟩
    have hon : Only (fun k => w.heap.size ≤ k) W Wa := hon0.mono fun _ _ h => h.elim
    have hon' : Only (fun k => Nb k ∨ w.heap.size ≤ k) W Wa := hon0.mono fun _ _ h => h.elim
    have hla := hkf.same _ _ (by omega) hl rfl
    have hda := hkf.same _ _ (by omega) hd rfl
    refine ⟨_, run_beginRound hla (by rw [hrec]), ?_⟩
    obtain ⟨W2, hW2⟩ : ∃ W2, W2 = Wa.putObj (D + 1) (.loop { rec .ready none with state := .busy }) := ⟨_, rfl⟩
    have hl2 : W2.heap[D + 1]? = some (.loop { rec .ready none with state := .busy }) := by rw [hW2]; exact World.putObj_heap_same (heap_lt hla)
    have hd2 : W2.heap[D]? = some (.deferred (some [])) := by rw [hW2]; exact (World.putObj_heap_other (by omega)).trans hda
    have on2 : Only (fun k => w.heap.size ≤ k) W W2 := hon.trans (by rw [hW2]; exact only_putObj _ _ _ (by omega))
    have hat2 : At x a' W2 := hAt _ _ _ _ hat fun k o hk hc => by
      rw [hW2]
      refine (World.putObj_heap_other fun e => ?_).trans hk
      rw [e, hla] at hk
      injection hk with hk
      rw [← hk] at hc
      cases hc
    rw [← hW2]
    refine wpIn_mono (hbody _ pre x a' W2 (hI _ _ _ hi (on2.mono fun _ _ h => .inr h)) (hCn' _ _ hcs on2) hx hat2) ?_
    have fin : ∀ (jump : Option Code) (W3 : World), KeepsFrom w.heap.size W2 W3 → ∃ W4, W4 = W3.putObj (D + 1) (.loop (rec (if jump.isNone then .ready else .done) jump)) ∧
        (Instr.endRound (D + 1) jump).run P W3 = .ok (.bool jump.isNone) W4 ∧ Only (fun k => w.heap.size ≤ k) W3 W4 ∧ W4.heap[D + 1]? = some (.loop (rec (if jump.isNone then .ready else .done) jump)) ∧ W4.heap[D]? = some (.deferred (some [])) := fun jump W3 hk3 => by
      have hl3 := hk3.same _ _ (by omega) hl2 rfl
      have hr := run_endRound (P := P) jump hl3
      rw [hrec] at hr
      refine ⟨_, rfl, by rw [hrec]; exact hr, only_putObj _ _ _ (by omega), World.putObj_heap_same (heap_lt hl3), (World.putObj_heap_other (by omega)).trans (hk3.same _ _ (by omega) hd2 rfl)⟩
    intro e a3 W3 hp
    cases e with
    | normal =>
      obtain ⟨hk3, hc3, hn3, hi3⟩ := hp
      obtain ⟨W4, hW4, hr, on4, hl4, hd4⟩ := fin none W3 hk3
      have hput : ∀ (X : World) (o : Obj), Only (fun k => Nb k ∨ w.heap.size ≤ k) X (X.putObj (D + 1) o) := fun X o => only_putObj _ _ _ (.inr (by omega))
      refine ⟨_, W4, hr, .inl ⟨rfl, ⟨hI _ _ _ hi3 (on4.mono fun _ _ h => .inr h), hl4, hd4⟩, hCn' _ _ hn3 on4, ?_, fun j o hj hjo hco => ?_⟩⟩
      · rw [hW4]
        refine ((hon'.trans ?_).trans (hc3.mono fun k _ hk => .inl hk)).trans (hput _ _)
        rw [hW2]
        exact hput _ _
      · have hne : j ≠ D + 1 := fun e => by
          rw [e, hl] at hjo
          injection hjo with hjo
          rw [← hjo] at hco
          cases hco
        have h1 := (hon0.block j (heap_lt hjo) (fun h => h)).trans hjo
        have h2 : W2.heap[j]? = some o := by rw [hW2]; exact (World.putObj_heap_other hne).trans h1
        have h3 := (hc3.block j (heap_lt h2) (hnN j hj)).trans h2
        rw [hW4]
        exact (World.putObj_heap_other hne).trans h3
    | ret =>
      obtain ⟨W4, -, hr, on4, hl4, hd4⟩ := fin (some .ret) W3 hp.1
      exact ⟨_, W4, hr, .inr ⟨rfl, .ret, hIx _ _ _ _ hp.2 on4, hl4, hd4⟩⟩
    | exit id =>
      obtain ⟨W4, -, hr, on4, hl4, hd4⟩ := fin (some (.exit id)) W3 hp.1
      exact ⟨_, W4, hr, .inr ⟨rfl, .exit id, hIx _ _ _ _ hp.2 on4, hl4, hd4⟩⟩
    | goto t =>
      obtain ⟨W4, -, hr, on4, hl4, hd4⟩ := fin (some (.goto t)) W3 hp.1
      exact ⟨_, W4, hr, .inr ⟨rfl, .goto t, hIx _ _ _ _ hp.2 on4, hl4, hd4⟩⟩
    | panic ch => exact hp.elim
    | outgrown => exact hp.elim
  · rintro e W2 ⟨⟨v, rfl⟩, ⟨hi, hl, hd⟩ | ⟨pre, c, hi, hl, hd⟩⟩
    · refine ⟨none, _, by have := run_endLoop (P := P) hl (by rw [hrec]; simp); rw [hrec] at this; exact this, ?_⟩
      exact hdone D _ (by omega) (hI _ _ _ hi (only_putObj _ _ _ (.inr (by omega)))) ((World.putObj_heap_other (by omega)).trans hd)
    · refine ⟨some c, _, by have := run_endLoop (P := P) hl (by rw [hrec]; simp); rw [hrec] at this; exact this, ?_⟩
      exact hstop D c pre _ (by omega) (hIx _ _ _ _ hi (only_putObj _ _ _ (by omega))) ((World.putObj_heap_other (by omega)).trans hd)
end
end Go.Proofs.YteejldddgogbkaaDoor
