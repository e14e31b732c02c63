/- Texts put together: ManAwake, ManNilWalk, ManOpen -/
import Derived.Test.YtbfcdpddgninhaaGreatMNil17
import Derived.Deep.Slices
import Derived.Deep.Fields
import Derived.ChangeSame
import Derived.SizedLaws
/- The law's awake: the program lays its file of two edits. -/
set_option linter.unusedVariables false
set_option maxRecDepth 100000
namespace Go.Proofs.YtbfcdpddgninhaaGreat
open Go.RowKit

def awakeL : List Ed := [⟨5, 2, 0, 0, [], []⟩, ⟨7, 3, 0, 0, [], []⟩]
theorem whole_small {n : Nat} (h : n < 64) : whole (n : Int) = [UInt8.ofNat (64 + n)] := by
  unfold whole grp
  rw [if_neg (by omega), show ((n : Int)).toNat / 64 = 0 by simp; omega, lead_zero, show ((n : Int)).toNat % 64 = n by simp; omega]
  rfl
theorem awake_pack : packL awakeL = [66, 69, 66, 71, 67] := by
  have h2 : whole 2 = [66] := whole_small (n := 2) (by decide)
  have h3 : whole 3 = [67] := whole_small (n := 3) (by decide)
  have h5 : whole 5 = [69] := whole_small (n := 5) (by decide)
  have h7 : whole 7 = [71] := whole_small (n := 7) (by decide)
  have hp : packL awakeL = whole 2 ++ ((whole 5 ++ (whole 2 ++ []) ++ []) ++ ((whole 7 ++ (whole 3 ++ []) ++ []) ++ [])) := rfl
  rw [hp, h2, h3, h5, h7]
  rfl
theorem awake_app : app St.zero awakeL = (0, ⟨[], [], [2], 3⟩) := by
  simp [app, awakeL, oneE, oneS, St.zero, St.files]
theorem cells_rdl {w : World} {T : Nat → Prop} {b n : Nat} {e : TypeId} {xs : List Value} (h : w.heap[b]? = some (.cells xs.toArray e (0, 0))) (hT : T b) (hn : n ≤ 1000) : RdL T w (.slice (some ⟨b, 0, none⟩) n n) n xs := by
  refine ⟨_, _, rfl, by unfold maxLen; omega, .inr ⟨b, 0, rfl, hT, heap_lt h, fun j u hu => ?_⟩⟩
  simpa [World.cell?, h] using hu
set_option maxHeartbeats 2000000 in
theorem law_awake13 (w : World) : Calls Tryz.prog 10 #[] w fun e w' => e = .returned (.bool true) ∧ Below w.heap.size w w' := by
  obtain ⟨B, hB⟩ : ∃ B, B = w.heap.size := ⟨_, rfl⟩
  rw [← hB]
  have HB := Lib.hid hB
  obtain ⟨w1, hw1⟩ : ∃ w1, w.alloc (.cells #[.int .i64 5, .int .i64 2, .int .i64 0, .int .i64 0, .string { data := #[] }, .string { data := #[] }, .int .i64 7, .int .i64 3, .int .i64 0, .int .i64 0, .string { data := #[] }, .string { data := #[] }] 47) = w1 := ⟨_, rfl⟩
  have K1 := Lib.hid (show Below B w w1 by rw [← hw1, hB]; exact (Below.refl _ _).alloc (Nat.le_refl _) _)
  have E1 := Lib.hid (show RdL (fun b => b < w1.heap.size) w1 (.slice (some ⟨B, 0, none⟩) 2 2) 2 (flat ecell awakeL) from cells_rdl (e := 47) (by rw [← hw1, hB]; exact heap_new w _) (by rw [← hw1, hB]; simp) (by omega))
  have HW1 := Lib.hid hw1
  have HB1 := Lib.hid (show B ≤ w1.heap.size by have := K1.out.size; omega)
  clear hw1 hB
  have HA := Lib.hid (man_Apply (M := 0) (n := 2) (Lib.hid (zero_own w1 0).stv) (Lib.hid St.Ok.zero) (Lib.hid (fun f hf => by simp [St.files, St.zero] at hf)) E1 (Lib.hid rfl) (Lib.hid (by unfold Ed.fit; simp [awakeL])) (Lib.hid (by simp [St.small, St.zero])) (by omega))
  unfold ApplyPost at HA
  rw [awake_app] at HA
  have HP5 := Lib.hid (fun (w5 : World) (k : Below w1.heap.size w1 w5) => man_Pack (w := w5) (Lib.hid (((E1.out.below k).mono (fun b _ hb => Nat.lt_of_lt_of_le hb k.size)))) (Lib.hid (rfl : 2 = awakeL.length)) (by omega) (Lib.hid (by unfold EdsFit Ed.Fits; simp [awakeL])) (Lib.hid (by rw [awake_pack]; simp)))
  rw [awake_pack] at HP5
  go_enter Tryz.func10, Tryz.ntmps10
  go_upto_region 2 with (fail)
  rw [HW1.out, ← HB.out]
  go_wp2_with fail
  refine HA.out.mono ?_
  rintro e w2 ⟨⟨tv, sv, lv, rfl, ho⟩, k2⟩
  obtain ⟨ta, tc, ht⟩ := OffRow.slice ho.tabs
  obtain ⟨sa, sc, hs⟩ := OffRow.slice ho.stos
  obtain ⟨la, lc, hl⟩ := OffRow.slice ho.logs
  obtain rfl : tv = .slice ta 0 tc := ht
  obtain rfl : sv = .slice sa 0 sc := hs
  obtain rfl : lv = .slice la 1 lc := hl
  have K2 := Lib.hid k2
  have L2 := Lib.hid (show RdL (fun b => b < w2.heap.size) w2 (.slice la 1 lc) 1 (flat icell [2]) from RdL.mono (OffRow.rdL ho.logs) (fun b hlt _ => hlt))
  obtain ⟨w3, hw3⟩ : ∃ w3, w2.alloc (.cells #[.slice ta 0 tc, .slice sa 0 sc, .slice la 1 lc, .int .i64 3] 29) = w3 := ⟨_, rfl⟩
  have X3 := Lib.hid (show C4 w2.heap.size (.slice ta 0 tc) (.slice sa 0 sc) (.slice la 1 lc) (.int .i64 3) w3 by rw [← hw3]; exact heap_new w2 _)
  have k3 : Below w2.heap.size w2 w3 := by rw [← hw3]; exact (Below.refl _ _).alloc (Nat.le_refl _) _
  have L3 := Lib.hid (L2.out.below k3)
  have K3 := Lib.hid (show Below w1.heap.size w1 w3 from K2.out.trans (k3.mono K2.out.size))
  have HW3 := Lib.hid hw3
  clear hw3 ho k2 k3 HA
  go_upto_region 3 with (fail)
  rw [HW3.out]
  obtain ⟨G, hG⟩ : ∃ G, G = w2.heap.size := ⟨_, rfl⟩
  rw [← hG] at X3 ⊢
  clear hG
  obtain ⟨r0, r1, r2, r3⟩ := X3.out.c0
  obtain ⟨w4, hw4⟩ : ∃ w4, w3.alloc (.cells #[.int .i64 2] 3) = w4 := ⟨_, rfl⟩
  have k4 : Below w3.heap.size w3 w4 := by rw [← hw4]; exact (Below.refl _ _).alloc (Nat.le_refl _) _
  have N4 := Lib.hid (show RdL (fun _ => True) w4 (.slice (some ⟨w3.heap.size, 0, none⟩) 1 1) 1 (flat icell [2]) from cells_rdl (e := 3) (by rw [← hw4]; exact heap_new w3 _) trivial (by omega))
  have L4 := Lib.hid (L3.out.below k4)
  have K4 := Lib.hid (show Below w1.heap.size w1 w4 from K3.out.trans (k4.mono K3.out.size))
  have X4 := Lib.hid (X3.out.below k4)
  have HW4 := Lib.hid hw4
  have HS := Lib.hid (same_ints (L := [2]) L4.out N4.out (by simp))
  clear hw4 k4
  go_wp2_with fail
  rw [HW4.out]
  refine HS.out.mono ?_
  rintro e w5 ⟨rfl, k5⟩
  have X5 := Lib.hid (X4.out.below k5)
  have K5 := Lib.hid (show Below w1.heap.size w1 w5 from K4.out.trans (k5.mono K4.out.size))
  clear r0 r1 r2 r3 k5 HS
  obtain ⟨r0, r1, r2, r3⟩ := X5.out.c0
  have HP := Lib.hid (HP5.out w5 K5.out)
  clear HP5
  go_wp2_with fail
  refine HP.out.mono ?_
  rintro e w6 ⟨rfl, k6⟩
  have K6 := Lib.hid (show Below B w w6 from K1.out.trans ((K5.out.trans (k6.mono K5.out.size)).mono HB1.out))
  have hbs : bs [66, 69, 66, 71, 67] = { data := #[66, 69, 66, 71, 67] } := rfl
  rw [hbs]
  clear hbs k6
  go_wp2
  go_ret
  exact ⟨rfl, K6.out⟩
end Go.Proofs.YtbfcdpddgninhaaGreat
/- ManifestNil, walked: a nil book, and a disk that is none. -/
set_option linter.unusedVariables false
set_option maxRecDepth 100000
namespace Go.Proofs.YtbfcdpddgninhaaGreat
open Go.RowKit

set_option maxHeartbeats 8000000 in
theorem nil_walk (k f l c n : Int) (lo hi : ByteArray) (w : World) :
    Calls Tryz.prog 9 #[.agg #[.int .i64 k, .int .i64 f, .int .i64 l, .int .i64 c, .string lo, .string hi], .int .i64 n] w fun e w' => e = .returned (.bool true) ∧ Below w.heap.size w w' := by
  obtain ⟨B, hB⟩ : ∃ B, B = w.heap.size := ⟨_, rfl⟩
  rw [← hB]
  have HB := Lib.hid hB
  obtain ⟨w1, hw1⟩ : ∃ w1, w.alloc (.cells #[.int .i64 k, .int .i64 f, .int .i64 l, .int .i64 c, .string lo, .string hi] 47) = w1 := ⟨_, rfl⟩
  have K1 := Lib.hid (show Below B w w1 by rw [← hw1, hB]; exact (Below.refl _ _).alloc (Nat.le_refl _) _)
  have E1 := Lib.hid (show w1.heap[B]? = some (.cells #[.int .i64 k, .int .i64 f, .int .i64 l, .int .i64 c, .string lo, .string hi] 47 (0, 0)) by rw [← hw1, hB]; exact heap_new w _)
  have HW1 := Lib.hid hw1
  have HB1 := Lib.hid (show B < w1.heap.size from heap_lt E1.out)
  clear hw1 hB
  go_enter Tryz.func9, Tryz.ntmps9
  go_upto_region 1 with (fail)
  rw [HW1.out, ← HB.out]
  go_wp2_with fail
  refine (book_nil_Undo w1).mono ?_
  rintro e w2 ⟨rfl, rfl⟩
  go_wp2_with fail
  refine (man_Begin_nil n w1).mono ?_
  rintro e w2 ⟨rfl, k2⟩
  have K2 := Lib.hid k2
  clear k2
  go_wp2_with fail
  refine (man_Load_nil w2).mono ?_
  rintro e w3 ⟨rfl, k3⟩
  have K3 := Lib.hid (K2.out.trans (k3.mono K2.out.size))
  obtain ⟨w4, hw4⟩ : ∃ w4, w3.alloc (.cells #[.slice none 0 0, .slice none 0 0, .slice none 0 0, .int .i64 0] 29) = w4 := ⟨_, rfl⟩
  obtain ⟨G, hG⟩ : ∃ G, G = w3.heap.size := ⟨_, rfl⟩
  have X4 := Lib.hid (show C4 G (.slice none 0 0) (.slice none 0 0) (.slice none 0 0) (.int .i64 0) w4 by rw [← hw4, hG]; exact heap_new w3 _)
  have K4 := Lib.hid (show Below w1.heap.size w1 w4 by rw [← hw4]; exact K3.out.alloc K3.out.size _)
  have HW4 := Lib.hid hw4
  have HG := Lib.hid hG
  clear hw4 k3 hG
  go_upto_region 5 with (fail)
  rw [HW4.out, ← HG.out]
  go_wp2_with fail
  refine (law_awake13 w4).mono ?_
  rintro e w5 ⟨rfl, k5⟩
  have X5 := Lib.hid (X4.out.below k5)
  have K5 := Lib.hid (K4.out.trans (k5.mono K4.out.size))
  clear k5
  obtain ⟨r0, r1, r2, r3⟩ := X5.out.c0
  go_wp2_with fail
  refine (same_zero w5).mono ?_
  rintro e w6 ⟨rfl, k6⟩
  have K6 := Lib.hid (K5.out.trans (k6.mono K5.out.size))
  clear k6 r0 r1 r2 r3
  go_wp2_with fail
  refine (book_nil_File w6).mono ?_
  rintro e w7 ⟨rfl, rfl⟩
  have E6 := Lib.hid ((K6.out.block B HB1.out).trans E1.out)
  have e0 : w6.cell? ⟨B, 0, none⟩ = some (.int .i64 k) := by simp [World.cell?, E6.out]
  have e1 : w6.cell? ⟨B, 1, none⟩ = some (.int .i64 f) := by simp [World.cell?, E6.out]
  have e2 : w6.cell? ⟨B, 2, none⟩ = some (.int .i64 l) := by simp [World.cell?, E6.out]
  have e3 : w6.cell? ⟨B, 3, none⟩ = some (.int .i64 c) := by simp [World.cell?, E6.out]
  have e4 : w6.cell? ⟨B, 4, none⟩ = some (.string lo) := by simp [World.cell?, E6.out]
  have e5 : w6.cell? ⟨B, 5, none⟩ = some (.string hi) := by simp [World.cell?, E6.out]
  obtain ⟨w8, hw8⟩ : ∃ w8, w6.alloc (.cells #[.int .i64 k, .int .i64 f, .int .i64 l, .int .i64 c, .string lo, .string hi] 47) = w8 := ⟨_, rfl⟩
  have K8 := Lib.hid (show Below w1.heap.size w1 w8 by rw [← hw8]; exact K6.out.alloc K6.out.size _)
  have HW8 := Lib.hid hw8
  clear hw8
  go_wp2_with fail
  rw [HW8.out]
  refine (book_nil_Note _ _ _ w8).mono ?_
  rintro e w9 ⟨rfl, k9⟩
  have K9 := Lib.hid (K8.out.trans (k9.mono K8.out.size))
  clear k9 e0 e1 e2 e3 e4 e5
  go_wp2_with fail
  refine (book_nil_Lay w9).mono ?_
  rintro e w10 ⟨rfl, rfl⟩
  go_wp2_with fail
  refine (book_nil_Sync w9).mono ?_
  rintro e w10 ⟨rfl, rfl⟩
  go_wp2_with fail
  refine (book_nil_Point w9).mono ?_
  rintro e w10 ⟨rfl, rfl⟩
  go_wp2_with fail
  refine (book_nil_State w9).mono ?_
  rintro e w10 ⟨rfl, k10⟩
  have K10 := Lib.hid (K9.out.trans (k10.mono K9.out.size))
  clear k10
  go_wp2_with fail
  refine (same_zero w10).mono ?_
  rintro e w11 ⟨rfl, k11⟩
  have K11 := Lib.hid (K1.out.trans ((K10.out.trans (k11.mono K10.out.size)).mono (Nat.le_of_lt HB1.out)))
  clear k11
  go_wp2
  go_ret
  exact ⟨rfl, K11.out⟩
end Go.Proofs.YtbfcdpddgninhaaGreat
/- Edits that come in. -/
set_option linter.unusedVariables false
set_option maxRecDepth 100000
namespace Go.Proofs.YtbfcdpddgninhaaGreat
open Go.ChangeShapes Go.WideShapes Go.Deep
open Go.RowKit (Below)

def i64R (z : Int) : Prop := -9223372036854775808 ≤ z ∧ z ≤ 9223372036854775807
/-- What is known of an edit that came in. -/
structure Ed.In (x : Ed) : Prop where
  kind : i64R x.kind
  file : i64R x.file
  lev : i64R x.lev
  cnt : i64R x.cnt
  low : x.low.length ≤ 9223372036854775807
  high : x.high.length ≤ 9223372036854775807
section
variable {H : Type} {enc : TypeId × Value → H} {w : World} {base : Nat} {spare : Nat → Bool} {held : Bool}
/-- A struct of one-cell fields, field by field. -/
theorem fields_read {P : Program} {t : TypeId} {fs : Array Field} {fuel : Nat} {cs : List Value} {x : DataW H × List MemPlace} (hs : P.underlying t = some (.struct fs)) (hone : oneCellFields P fs = true) (hC : P.cellsOf t = fs.size)
    (h : DataW.trod enc P w base spare held fuel t cs = some x) : cs.length = fs.size ∧ ∃ n, ∀ (j : Nat) (f : Field), fs[j]? = some f → ∃ v y, cs[j]? = some v ∧ DataW.trod enc P w base spare held n f.type [v] = some y := by
  obtain ⟨xs, n, _, _, hlen, hxl, hg⟩ := DataW.trod_struct hs h
  refine ⟨hlen.trans hC, n, fun j f hj => ?_⟩
  obtain ⟨ho, hk⟩ := hone_of hone j f hj
  have hjs : j < fs.size := (Array.getElem?_eq_some_iff.1 hj).1
  have hjc : j < cs.length := by omega
  have hjx : j < xs.length := by omega
  have h1 := hg j f hj
  rw [ho, hk, List.getElem?_eq_getElem hjx] at h1
  have h2 : (cs.drop j).take 1 = [cs[j]] := by rw [List.drop_eq_getElem_cons hjc]; rfl
  rw [h2] at h1
  exact ⟨cs[j], xs[j], List.getElem?_eq_getElem hjc, h1⟩
theorem map_some {α β : Type} {o : Option α} {f : α → β} {b : β} (h : o.map f = some b) : ∃ a, o = some a ∧ f a = b := by
  cases o with
  | none => cases h
  | some a => exact ⟨a, rfl, by injection h⟩
theorem string_field {n : Nat} {v : Value} {y : DataW H × List MemPlace} {t : TypeId} (ht : t = 9) (h : DataW.trod enc Tryz.prog w base spare held n t [v] = some y) : ∃ l : List UInt8, v = .string (bs l) ∧ l.length ≤ 9223372036854775807 := by
  subst ht
  obtain ⟨tx, hv, _, htx⟩ := DataW.trod_string Tryz.underlying9 h
  injection hv with hv _
  refine ⟨tx.data.toList, by rw [hv, bs_eq (s := tx) rfl]; rfl, ?_⟩
  have : tx.data.toList.length = tx.size := by rw [← Lib.size_eq]
  rw [this]
  unfold maxLen at htx
  omega
theorem int_field {n : Nat} {v : Value} {y : DataW H × List MemPlace} {t : TypeId} (ht : t = 3) (h : DataW.trod enc Tryz.prog w base spare held n t [v] = some y) : ∃ z, v = .int .i64 z ∧ i64R z := by
  subst ht
  obtain ⟨z, h1, _, h2⟩ := DataW.trod_int Tryz.underlying3 h
  exact ⟨z, by injection h1, by simp [Lit.wf, IntKind.min, IntKind.max, IntKind.signed, IntKind.bits] at h2; exact ⟨by omega, by omega⟩⟩
theorem oneEd : ∃ fs, Tryz.prog.underlying 47 = some (.struct fs) ∧ oneCellFields Tryz.prog fs = true ∧ Tryz.prog.cellsOf 47 = fs.size ∧ fs.size = 6 ∧ (fs[0]?.map (·.type)) = some 3 ∧ (fs[1]?.map (·.type)) = some 3 ∧ (fs[2]?.map (·.type)) = some 3 ∧ (fs[3]?.map (·.type)) = some 3 ∧ (fs[4]?.map (·.type)) = some 9 ∧ (fs[5]?.map (·.type)) = some 9 :=
  ⟨_, Tryz.underlying47, by kernel_rfl, by kernel_rfl, by kernel_rfl, by kernel_rfl, by kernel_rfl, by kernel_rfl, by kernel_rfl, by kernel_rfl, by kernel_rfl⟩
theorem ed_read {fuel : Nat} {cs : List Value} {x : DataW H × List MemPlace} (h : DataW.trod enc Tryz.prog w base spare held fuel 47 cs = some x) : ∃ o : Ed, cs = ecell o ∧ o.In := by
  obtain ⟨fs, hs, hone, hC, h3, t0, t1, t2, t3, t4, t5⟩ := oneEd
  obtain ⟨hlen, n, hf⟩ := fields_read hs hone hC h
  obtain ⟨f0, e0, g0⟩ := map_some t0
  obtain ⟨f1, e1, g1⟩ := map_some t1
  obtain ⟨f2, e2, g2⟩ := map_some t2
  obtain ⟨f3, e3, g3⟩ := map_some t3
  obtain ⟨f4, e4, g4⟩ := map_some t4
  obtain ⟨f5, e5, g5⟩ := map_some t5
  obtain ⟨v0, y0, c0, r0⟩ := hf 0 f0 e0
  obtain ⟨v1, y1, c1, r1⟩ := hf 1 f1 e1
  obtain ⟨v2, y2, c2, r2⟩ := hf 2 f2 e2
  obtain ⟨v3, y3, c3, r3⟩ := hf 3 f3 e3
  obtain ⟨v4, y4, c4, r4⟩ := hf 4 f4 e4
  obtain ⟨v5, y5, c5, r5⟩ := hf 5 f5 e5
  obtain ⟨k, rfl, hk⟩ := int_field g0 r0
  obtain ⟨f, rfl, hfi⟩ := int_field g1 r1
  obtain ⟨l, rfl, hl⟩ := int_field g2 r2
  obtain ⟨c, rfl, hc⟩ := int_field g3 r3
  obtain ⟨lo, rfl, hlo⟩ := string_field g4 r4
  obtain ⟨hi, rfl, hhi⟩ := string_field g5 r5
  refine ⟨⟨k, f, l, c, lo, hi⟩, ?_, ⟨hk, hfi, hl, hc, hlo, hhi⟩⟩
  match cs, hlen.trans h3 with
  | [x0, x1, x2, x3, x4, x5], _ =>
    simp at c0 c1 c2 c3 c4 c5
    subst c0 c1 c2 c3 c4 c5
    rfl
end
theorem open_edit {H : Type} {enc : TypeId × Value → H} {W : World} {d : DataW H} {p : List MemPlace} {cs : Array Value} (h : DataW.Trod enc Tryz.prog W 0 (fun _ => true) true 47 (.agg cs) d p) : ∃ x : Ed, cs = #[.int .i64 x.kind, .int .i64 x.file, .int .i64 x.lev, .int .i64 x.cnt, .string (bs x.low), .string (bs x.high)] ∧ x.In := by
  obtain ⟨fuel, hf⟩ := h
  obtain ⟨r, hcs, hi⟩ := ed_read hf
  refine ⟨r, ?_, hi⟩
  have : cs.toList = ecell r := hcs
  rw [show cs = cs.toList.toArray by simp, this]
  rfl
end Go.Proofs.YtbfcdpddgninhaaGreat
