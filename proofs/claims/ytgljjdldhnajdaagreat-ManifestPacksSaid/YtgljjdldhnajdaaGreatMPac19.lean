/- Texts put together: ManRefPack, ManRefUnpack -/
import Derived.Test.YtgljjdldhnajdaaGreatMPac18
import Derived.Test.YtgljjdldhnajdaaGreatMPac03
/- The document's side: edits' bytes; an edit without what its kind has no use for. -/
set_option linter.unusedVariables false
set_option maxRecDepth 100000
namespace Go.Proofs.YtgljjdldhnajdaaGreat
open Go.RowKit

theorem ed_seen {P : Program} {F : FuncId} {args : Array Value} {r : Value} {W : World} (h : ∀ w, Calls P F args w fun e w' => e = .returned r ∧ Below w.heap.size w w') (n : Seen W) : Calls P F args n.val fun e w'' => e = .returned r ∧ ∃ m : Seen W, w'' = m.val :=
  (h n.val).mono fun _ w'' ⟨h1, h2⟩ => ⟨h1, ⟨⟨w'', n.below.trans (h2.mono n.below.size)⟩, rfl⟩⟩
theorem ed_sum (l m : List UInt8) (h : l.length + m.length ≤ 9223372036854775807) : ((bs l).size : Int) + ((bs m).size : Int) ≤ 9223372036854775807 := by rw [bs_size, bs_size]; omega
theorem ed_join (l m : List UInt8) : bs l ++ bs m = bs (l ++ m) := by rw [bs_cat, bs_list]
theorem whole_small' {n : Int} (h : -9223372036854775808 ≤ n ∧ n ≤ 9223372036854775807) : (whole n).length ≤ 11 := (whole_len h.1 h.2).1
theorem edB_len {x : Ed} (h : x.Fits) (h1 : x.low.length ≤ 1000000) (h2 : x.high.length ≤ 1000000) : (edB x).length ≤ 2000066 := by
  have t1 : (text x.low).length ≤ x.low.length + 11 := text_le (by omega)
  have t2 : (text x.high).length ≤ x.high.length + 11 := text_le (by omega)
  have w0 := whole_small' h.1
  have w1 := whole_small' h.2.1
  have w2 := whole_small' h.2.2.1
  have w3 := whole_small' h.2.2.2
  unfold edB numsOf textsOf
  by_cases k1 : x.kind = 1
  · rw [if_pos k1, if_pos k1]
    simp [wholes, textsB]
    omega
  · rw [if_neg k1, if_neg k1]
    by_cases k3 : x.kind = 3
    · rw [if_pos k3]; simp [wholes, textsB]; omega
    · rw [if_neg k3]; simp [wholes, textsB]; omega
theorem edsB_len : ∀ {L : List Ed}, (∀ x ∈ L, x.Fits ∧ x.low.length ≤ 1000000 ∧ x.high.length ≤ 1000000) → (edsB L).length ≤ 2000066 * L.length
  | [], _ => by simp [edsB]
  | x :: L, h => by
    have hx := h x (List.mem_cons_self ..)
    have := edB_len hx.1 hx.2.1 hx.2.2
    have ih := edsB_len (L := L) fun y hy => h y (List.mem_cons_of_mem _ hy)
    have e : edsB (x :: L) = edB x ++ edsB L := by simp [edsB]
    rw [e, List.length_append, List.length_cons]
    omega
set_option maxHeartbeats 8000000 in
theorem ref_Pack {a : Option Addr} {n cap : Nat} {L : List Ed} {w : World} (he : Hid (RdX (fun c => c < w.heap.size) w (.slice a n cap) n (flat ecell L))) (hL : Hid (n = L.length)) (hn : n ≤ 1000) (hf : Hid (∀ x ∈ L, x.Fits ∧ x.low.length ≤ 1000000 ∧ x.high.length ≤ 1000000)) :
    Calls Tryz.prog 11 #[.slice a n cap] w fun e w' => e = .returned (.string (bs (packL L))) ∧ Below w.heap.size w w' := by
  obtain ⟨C, hC⟩ : ∃ C, C = whole (n : Int) := ⟨_, rfl⟩
  have hCl : C.length ≤ 11 := by rw [hC]; exact whole_small' ⟨by omega, by omega⟩
  have h0 := ref_Whole (n : Int) w (by omega) (by omega)
  rw [← hC] at h0
  have H0 := Lib.hid h0
  have HP := Lib.hid (show packL L = C ++ edsB L by rw [hC, hL.out]; rfl)
  clear h0 hC
  go_enter Tryz.func11, Tryz.ntmps11
  go_wp2_with fail
  refine H0.out.mono ?_
  rintro e w1 ⟨rfl, k1⟩
  have K1 := Lib.hid k1
  clear k1 H0
  go_wp2_with fail
  go_loopw [3, 4] (fun sv iv wr => ∃ i : Nat, i ≤ n ∧ iv = .int .i64 (i : Int) ∧ sv = .string (bs (C ++ edsB (L.take i))) ∧ Hid (Below w.heap.size w wr)) (fun sv iv wr => n - (intOf iv).toNat)
  case atStart => exact ⟨0, Nat.zero_le _, rfl, by simp [edsB], K1⟩
  case round =>
    obtain ⟨i, hi, rfl, rfl, hB⟩ := hrel
    by_cases hlt : i < n
    · have hlt' : (i : Int) < (n : Int) := by omega
      obtain ⟨x, hx⟩ : ∃ x, L[i]? = some x := ⟨_, List.getElem?_eq_getElem (by have := hL.out; omega)⟩
      have hfx := hf.out x (List.mem_of_getElem? hx)
      obtain ⟨c, off, rfl, ht, _, hc⟩ := RdX.atE he.out hx hlt
      have hcr : ∀ i' u, (ecell x)[i']? = some u → wr.cell? ⟨c, off + i * 6 + i', none⟩ = some u := fun i' u hu => by
        rw [← hc i' u hu]
        simp only [World.cell?, hB.out.block c ht]
      have y0 : wr.cell? ⟨c, off + i * 6, none⟩ = _ := hcr 0 _ rfl
      have y1 := hcr 1 _ rfl
      have y2 := hcr 2 _ rfl
      have y3 := hcr 3 _ rfl
      have y4 := hcr 4 _ rfl
      have y5 := hcr 5 _ rfl
      obtain ⟨S, hS⟩ : ∃ S, S = C ++ edsB (L.take i) := ⟨_, rfl⟩
      have hSl : S.length ≤ 3000000000 := by
        have := edsB_len (L := L.take i) fun y hy => hf.out y (List.take_subset _ _ hy)
        rw [hS, List.length_append]
        rw [List.length_take] at this
        omega
      have HNX := Lib.hid (show C ++ edsB (L.take (i + 1)) = S ++ edB x by rw [edsB_snoc hx, hS, List.append_assoc])
      obtain ⟨A0, hA0⟩ : ∃ A, A = whole x.kind := ⟨_, rfl⟩
      obtain ⟨A1, hA1⟩ : ∃ A, A = whole x.file := ⟨_, rfl⟩
      obtain ⟨A2, hA2⟩ : ∃ A, A = whole x.lev := ⟨_, rfl⟩
      obtain ⟨A3, hA3⟩ : ∃ A, A = whole x.cnt := ⟨_, rfl⟩
      obtain ⟨X4, hX4⟩ : ∃ A, A = text x.low := ⟨_, rfl⟩
      obtain ⟨X5, hX5⟩ : ∃ A, A = text x.high := ⟨_, rfl⟩
      have HE := Lib.hid (show edB x = if x.kind = 1 then A0 ++ A1 ++ A2 ++ A3 ++ X4 ++ X5 else if x.kind = 3 then A0 ++ A1 ++ A2 else A0 ++ A1 by
        rw [hA0, hA1, hA2, hA3, hX4, hX5]
        unfold edB numsOf textsOf
        by_cases k1 : x.kind = 1
        · rw [if_pos k1, if_pos k1, if_pos k1]; simp [wholes, textsB]
        · rw [if_neg k1, if_neg k1, if_neg k1]
          by_cases k3 : x.kind = 3
          · rw [if_pos k3, if_pos k3]; simp [wholes, textsB]
          · rw [if_neg k3, if_neg k3]; simp [wholes, textsB])
      have l0 : A0.length ≤ 11 := by rw [hA0]; exact whole_small' hfx.1.1
      have l1 : A1.length ≤ 11 := by rw [hA1]; exact whole_small' hfx.1.2.1
      have l2 : A2.length ≤ 11 := by rw [hA2]; exact whole_small' hfx.1.2.2.1
      have l3 : A3.length ≤ 11 := by rw [hA3]; exact whole_small' hfx.1.2.2.2
      have l4 : X4.length ≤ 1000011 := by rw [hX4]; have := text_le (r := x.low) (by omega); omega
      have l5 : X5.length ≤ 1000011 := by rw [hX5]; have := text_le (r := x.high) (by omega); omega
      have W0 := Lib.hid (fun W : World => by have h := ref_Whole x.kind W hfx.1.1.1 hfx.1.1.2; rw [← hA0] at h; exact h)
      have W1 := Lib.hid (fun W : World => by have h := ref_Whole x.file W hfx.1.2.1.1 hfx.1.2.1.2; rw [← hA1] at h; exact h)
      have W2 := Lib.hid (fun W : World => by have h := ref_Whole x.lev W hfx.1.2.2.1.1 hfx.1.2.2.1.2; rw [← hA2] at h; exact h)
      have W3 := Lib.hid (fun W : World => by have h := ref_Whole x.cnt W hfx.1.2.2.2.1 hfx.1.2.2.2.2; rw [← hA3] at h; exact h)
      have T4 := Lib.hid (fun W : World => by have h := ref_Text (bs x.low) W (by rw [bs_size]; omega); rw [bs_list, ← hX4] at h; exact h)
      have T5 := Lib.hid (fun W : World => by have h := ref_Text (bs x.high) W (by rw [bs_size]; omega); rw [bs_list, ← hX5] at h; exact h)
      obtain ⟨wa, hwa⟩ : ∃ wa, wr.alloc (.cells #[.int .i64 x.kind, .int .i64 x.file, .int .i64 x.lev, .int .i64 x.cnt, .string (bs x.low), .string (bs x.high)] 31) = wa := ⟨_, rfl⟩
      obtain ⟨Z, hZ⟩ : ∃ Z, Z = wr.heap.size := ⟨_, rfl⟩
      have P0 := Lib.hid (show EdAt Z x wa ∧ Below w.heap.size w wa by rw [← hwa, hZ]; exact ⟨heap_new wr _, hB.out.alloc hB.out.size _⟩)
      have HWA := Lib.hid hwa
      have HZ := Lib.hid hZ
      rw [← hS]
      clear hx hc hcr hS hA0 hA1 hA2 hA3 hX4 hX5 hwa hZ hfx ht
      go_upto_region 6 with (fail)
      rw [HWA.out, ← HZ.out]
      clear HWA HZ y0 y1 y2 y3 y4 y5 hB
      have n0 : ∀ n : Seen wa, n.val.cell? ⟨Z, 0, none⟩ = some (.int .i64 x.kind) := fun n => by rw [n.below.cell (p := ⟨Z, 0, none⟩) (heap_lt P0.out.1)]; exact P0.out.1.cc.1
      have n1 : ∀ n : Seen wa, n.val.cell? ⟨Z, 1, none⟩ = some (.int .i64 x.file) := fun n => by rw [n.below.cell (p := ⟨Z, 1, none⟩) (heap_lt P0.out.1)]; exact P0.out.1.cc.2.1
      obtain ⟨S1, hS1⟩ : ∃ S1, S1 = S ++ A0 := ⟨_, rfl⟩
      obtain ⟨S2, hS2⟩ : ∃ S2, S2 = S1 ++ A1 := ⟨_, rfl⟩
      have j1 : bs S ++ bs A0 = bs S1 := by rw [ed_join, hS1]
      have j2 : bs S1 ++ bs A1 = bs S2 := by rw [ed_join, hS2]
      have s1 := ed_sum S A0 (by omega)
      have hS1l : S1.length ≤ 3000000011 := by rw [hS1, List.length_append]; omega
      have s2 := ed_sum S1 A1 (by omega)
      have hS2l : S2.length ≤ 3000000022 := by rw [hS2, List.length_append]; omega
      have HS2 := Lib.hid (show S2 = S ++ A0 ++ A1 by rw [hS2, hS1])
      have G0 := Lib.hid (fun n : Seen wa => ed_seen W0.out n)
      have G1 := Lib.hid (fun n : Seen wa => ed_seen W1.out n)
      clear hS1 hS2
      refine region_seen (by kernel_rfl) (by kernel_rfl) ?_
      repeat go_big_quiet_step (first | (go_at_call 41; with_reducible exact G0.out _) | (go_at_call 41; with_reducible exact G1.out _))
      refine wpQuiet_nil ?_
      rintro _ ⟨m1, rfl⟩
      have P2 := Lib.hid (show EdAt Z x m1.val ∧ Below w.heap.size w m1.val from ⟨(m1.below.block Z (heap_lt P0.out.1)).trans P0.out.1, P0.out.2.trans (m1.below.mono P0.out.2.size)⟩)
      clear G0 G1 n0 n1 j1 j2 s1 s2 P0
      generalize m1.val = wb at *
      obtain ⟨d0, d1, d2, d3, d4, d5⟩ := P2.out.1.cc
      by_cases k1 : x.kind = 1
      · have HF := Lib.hid (show S ++ edB x = S2 ++ A2 ++ A3 ++ X4 ++ X5 by rw [HE.out, if_pos k1, HS2.out]; simp only [List.append_assoc])
        have HK1 := Lib.hid k1
        rw [k1] at d0
        clear k1
        go_upto_region 8 with (fail)
        have n2 : ∀ n : Seen wb, n.val.cell? ⟨Z, 2, none⟩ = some (.int .i64 x.lev) := fun n => by rw [n.below.cell (p := ⟨Z, 2, none⟩) (heap_lt P2.out.1)]; exact P2.out.1.cc.2.2.1
        have n3 : ∀ n : Seen wb, n.val.cell? ⟨Z, 3, none⟩ = some (.int .i64 x.cnt) := fun n => by rw [n.below.cell (p := ⟨Z, 3, none⟩) (heap_lt P2.out.1)]; exact P2.out.1.cc.2.2.2.1
        have n4 : ∀ n : Seen wb, n.val.cell? ⟨Z, 4, none⟩ = some (.string (bs x.low)) := fun n => by rw [n.below.cell (p := ⟨Z, 4, none⟩) (heap_lt P2.out.1)]; exact P2.out.1.cc.2.2.2.2.1
        have n5 : ∀ n : Seen wb, n.val.cell? ⟨Z, 5, none⟩ = some (.string (bs x.high)) := fun n => by rw [n.below.cell (p := ⟨Z, 5, none⟩) (heap_lt P2.out.1)]; exact P2.out.1.cc.2.2.2.2.2
        obtain ⟨S3, hS3⟩ : ∃ S3, S3 = S2 ++ A2 := ⟨_, rfl⟩
        obtain ⟨S4, hS4⟩ : ∃ S4, S4 = S3 ++ A3 := ⟨_, rfl⟩
        obtain ⟨S5, hS5⟩ : ∃ S5, S5 = S4 ++ X4 := ⟨_, rfl⟩
        obtain ⟨S6, hS6⟩ : ∃ S6, S6 = S5 ++ X5 := ⟨_, rfl⟩
        have j1 : bs S2 ++ bs A2 = bs S3 := by rw [ed_join, hS3]
        have j2 : bs S3 ++ bs A3 = bs S4 := by rw [ed_join, hS4]
        have j3 : bs S4 ++ bs X4 = bs S5 := by rw [ed_join, hS5]
        have j4 : bs S5 ++ bs X5 = bs S6 := by rw [ed_join, hS6]
        have s1 := ed_sum S2 A2 (by omega)
        have hS3l : S3.length ≤ 3000000033 := by rw [hS3, List.length_append]; omega
        have s2 := ed_sum S3 A3 (by omega)
        have hS4l : S4.length ≤ 3000000044 := by rw [hS4, List.length_append]; omega
        have s3 := ed_sum S4 X4 (by omega)
        have hS5l : S5.length ≤ 3001000055 := by rw [hS5, List.length_append]; omega
        have s4 := ed_sum S5 X5 (by omega)
        have HS6 := Lib.hid (show S6 = S ++ edB x by rw [HF.out, hS6, hS5, hS4, hS3])
        have G2 := Lib.hid (fun n : Seen wb => ed_seen W2.out n)
        have G3 := Lib.hid (fun n : Seen wb => ed_seen W3.out n)
        have G4 := Lib.hid (fun n : Seen wb => ed_seen T4.out n)
        have G5 := Lib.hid (fun n : Seen wb => ed_seen T5.out n)
        clear hS3 hS4 hS5 hS6 d0 d1 d2 d3 d4 d5
        refine region_seen (by kernel_rfl) (by kernel_rfl) ?_
        repeat go_big_quiet_step (first | (go_at_call 41; with_reducible exact G2.out _) | (go_at_call 41; with_reducible exact G3.out _) | (go_at_call 42; with_reducible exact G4.out _) | (go_at_call 42; with_reducible exact G5.out _))
        refine wpQuiet_nil ?_
        rintro _ ⟨m2, rfl⟩
        have P3 := Lib.hid (show EdAt Z x m2.val ∧ Below w.heap.size w m2.val from ⟨(m2.below.block Z (heap_lt P2.out.1)).trans P2.out.1, P2.out.2.trans (m2.below.mono P2.out.2.size)⟩)
        clear n2 n3 n4 n5 G2 G3 G4 G5 j1 j2 j3 j4 s1 s2 s3 s4
        generalize m2.val = wc at *
        have d0 : wc.cell? ⟨Z, 0, none⟩ = some (.int .i64 1) := by rw [← HK1.out]; exact P3.out.1.cc.1
        go_wp2
        go_roundw
        case rel => exact ⟨i + 1, hlt, by go_num, by rw [HNX.out, ← HS6.out], Lib.hid P3.out.2⟩
        case measure => simp [intOf]; omega
      · by_cases k3 : x.kind = 3
        · have HF := Lib.hid (show S ++ edB x = S2 ++ A2 by rw [HE.out, if_neg k1, if_pos k3, HS2.out]; simp only [List.append_assoc])
          rw [k3] at d0
          clear k1 k3
          obtain ⟨S3, hS3⟩ : ∃ S3, S3 = S2 ++ A2 := ⟨_, rfl⟩
          have j1 : bs S2 ++ bs A2 = bs S3 := by rw [ed_join, hS3]
          have s1 := ed_sum S2 A2 (by omega)
          have HS3 := Lib.hid (show S3 = S ++ edB x by rw [HF.out, hS3])
          clear hS3
          go_wp2_with fail
          refine (W2.out wb).mono ?_
          rintro e wc ⟨rfl, k5⟩
          have K5 := Lib.hid (P2.out.2.trans (k5.mono P2.out.2.size))
          clear k5 d0 d1 d2 d3 d4 d5
          go_wp2
          go_roundw
          case rel => exact ⟨i + 1, hlt, by go_num, by rw [HNX.out, ← HS3.out], K5⟩
          case measure => simp [intOf]; omega
        · have HF := Lib.hid (show S ++ edB x = S2 by rw [HE.out, if_neg k1, if_neg k3, HS2.out]; simp only [List.append_assoc])
          have q1 : (x.kind == 1) = false := by simpa using k1
          have q3 : (x.kind == 3) = false := by simpa using k3
          clear k1 k3
          go_wp2
          go_roundw
          case rel => exact ⟨i + 1, hlt, by go_num, by rw [HNX.out, HF.out], Lib.hid P2.out.2⟩
          case measure => simp [intOf]; omega
    · obtain rfl : i = n := by omega
      have HEND := Lib.hid (show packL L = C ++ edsB (L.take i) by rw [HP.out, List.take_of_length_le (by have := hL.out; omega)])
      go_wp2
      go_ret
      exact ⟨by rw [HEND.out]; rfl, hB.out⟩
set_option maxHeartbeats 2000000 in
theorem ref_Clean (x : Ed) (w : World) : Calls Tryz.prog 12 #[.agg #[.int .i64 x.kind, .int .i64 x.file, .int .i64 x.lev, .int .i64 x.cnt, .string (bs x.low), .string (bs x.high)]] w fun e w' => e = .returned (.agg #[.int .i64 (clean x).kind, .int .i64 (clean x).file, .int .i64 (clean x).lev, .int .i64 (clean x).cnt, .string (bs (clean x).low), .string (bs (clean x).high)]) ∧ Below w.heap.size w w' := by
  obtain ⟨B, hB⟩ : ∃ B, B = w.heap.size := ⟨_, rfl⟩
  have HB := Lib.hid hB
  obtain ⟨wa, hwa⟩ : ∃ wa, w.alloc (.cells #[.int .i64 x.kind, .int .i64 x.file, .int .i64 x.lev, .int .i64 x.cnt, .string (bs x.low), .string (bs x.high)] 31) = wa := ⟨_, rfl⟩
  obtain ⟨wb, hwb⟩ : ∃ wb, wa.alloc (.cells #[.int .i64 0, .int .i64 0, .int .i64 0, .int .i64 0, .string ⟨#[]⟩, .string ⟨#[]⟩] 31) = wb := ⟨_, rfl⟩
  obtain ⟨wc, hwc⟩ : ∃ wc, wb.alloc (.cells #[.int .i64 x.kind, .int .i64 x.file, .int .i64 0, .int .i64 0, .string ⟨#[]⟩, .string ⟨#[]⟩] 31) = wc := ⟨_, rfl⟩
  have za : wa.heap.size = B + 1 := by rw [← hwa, hB]; simp
  have zb : wb.heap.size = B + 2 := by rw [← hwb, show B + 2 = B + 1 + 1 from rfl, ← za]; simp
  have ba : Below B w wa := by rw [← hwa, hB]; exact (Below.refl _ _).alloc (Nat.le_refl _) _
  have bb : Below wa.heap.size wa wb := by rw [← hwb]; exact (Below.refl _ _).alloc (Nat.le_refl _) _
  have bc : Below wb.heap.size wb wc := by rw [← hwc]; exact (Below.refl _ _).alloc (Nat.le_refl _) _
  have KC := Lib.hid (show Below B w wc from (ba.trans (bb.mono (by omega))).trans (bc.mono (by omega)))
  have V := Lib.hid (show EdAt B x wc ∧ EdAt (B + 1) noEd wc ∧ EdAt (B + 2) ⟨x.kind, x.file, 0, 0, [], []⟩ wc by
    have na := heap_new w (.cells #[.int .i64 x.kind, .int .i64 x.file, .int .i64 x.lev, .int .i64 x.cnt, .string (bs x.low), .string (bs x.high)] 31)
    have nb := heap_new wa (.cells #[.int .i64 0, .int .i64 0, .int .i64 0, .int .i64 0, .string ⟨#[]⟩, .string ⟨#[]⟩] 31)
    have nc := heap_new wb (.cells #[.int .i64 x.kind, .int .i64 x.file, .int .i64 0, .int .i64 0, .string ⟨#[]⟩, .string ⟨#[]⟩] 31)
    rw [hwa, ← hB] at na
    rw [hwb, za] at nb
    rw [hwc, zb] at nc
    exact ⟨(bc.block B (by omega)).trans ((bb.block B (by omega)).trans na), (bc.block (B + 1) (by omega)).trans nb, nc⟩)
  rw [← hwb, ← hwa] at hwc
  have HWC := Lib.hid hwc
  rw [← hB]
  clear hwa hwb hwc za zb ba bb bc hB
  obtain ⟨e0, e1, e2, e3, e4, e5⟩ := V.out.1.cc
  obtain ⟨r0, r1, r2, r3, r4, r5⟩ := V.out.2.1.cc
  have rf := V.out.2.1.free
  obtain ⟨n0, n1, n2, n3, n4, n5⟩ := V.out.2.2.cc
  have nf := V.out.2.2.free 2
  obtain ⟨y, hy⟩ : ∃ y, y = clean x := ⟨_, rfl⟩
  rw [← hy]
  have HY := Lib.hid hy
  clear hy
  go_enter Tryz.func12, Tryz.ntmps12
  go_upto_region 2 with (fail)
  rw [HWC.out, ← HB.out, show B + 1 + 1 = B + 2 from rfl]
  clear HWC
  have res : ∀ (q : Ed) (W : World), EdAt (B + 1) q W → ∀ (fn : Func) (tmps : Array Value), fn.results = #[.cell 2 31] → tmps.getD 2 undef = .pointer (some ⟨B + 1, 0, none⟩) → (results fn tmps).run Tryz.prog W = .ok (.agg #[.int .i64 q.kind, .int .i64 q.file, .int .i64 q.lev, .int .i64 q.cnt, .string (bs q.low), .string (bs q.high)]) W := fun q W hq fn tmps hf hp => results_cell1 hf tmps Tryz.prog W (B + 1) 0 (ecell q) _ hp hq.range Tryz.underlying31 rfl sizeEd
  have putK := fun (q : Ed) (W : World) (k : Below B w W) => (((((k.setCell (p := ⟨B + 1, 0, none⟩) (Nat.le_succ B) (.int .i64 q.kind)).setCell (p := ⟨B + 1, 1, none⟩) (Nat.le_succ B) (.int .i64 q.file)).setCell (p := ⟨B + 1, 2, none⟩) (Nat.le_succ B) (.int .i64 q.lev)).setCell (p := ⟨B + 1, 3, none⟩) (Nat.le_succ B) (.int .i64 q.cnt)).setCell (p := ⟨B + 1, 4, none⟩) (Nat.le_succ B) (.string (bs q.low))).setCell (p := ⟨B + 1, 5, none⟩) (Nat.le_succ B) (.string (bs q.high))
  have RES := Lib.hid res
  have PUT := Lib.hid putK
  clear res putK
  by_cases k1 : x.kind = 1
  · have HC := Lib.hid (show y = x by rw [HY.out]; unfold clean numsOf textsOf; rw [if_pos k1, if_pos k1]; rfl)
    rw [k1] at e0
    have HK1 := Lib.hid k1
    clear k1
    go_wp2
    have e := V.out.2.1.put x
    rw [HK1.out] at e
    refine bodyPost_ret (RES.out x _ e _ _ rfl rfl) rfl ?_
    rw [HC.out]
    have := PUT.out x _ KC.out
    rw [HK1.out] at this
    exact ⟨rfl, this⟩
  · by_cases k3 : x.kind = 3
    · have HC := Lib.hid (show y = ⟨x.kind, x.file, x.lev, 0, [], []⟩ by rw [HY.out]; unfold clean numsOf textsOf; rw [if_neg k1, if_neg k1, if_pos k3]; rfl)
      obtain ⟨wd, hwd⟩ : ∃ wd, wd = wc.setCell ⟨B + 2, 2, none⟩ (.int .i64 x.lev) := ⟨_, rfl⟩
      have VD := Lib.hid (show EdAt (B + 1) noEd wd ∧ EdAt (B + 2) ⟨x.kind, x.file, x.lev, 0, [], []⟩ wd by
        rw [hwd]
        exact ⟨(heap_set_other (by omega) _).trans V.out.2.1, heap_set (o := 2) V.out.2.2 _⟩)
      have KD := Lib.hid (show Below B w wd by rw [hwd]; exact KC.out.setCell (p := ⟨B + 2, 2, none⟩) (by show B ≤ B + 2; omega) _)
      have HWD := Lib.hid hwd
      rw [k3] at e0
      clear k1 k3 hwd
      go_upto_region 6 with (fail)
      rw [← HWD.out]
      clear HWD e0 e1 e2 e3 e4 e5 r0 r1 r2 r3 r4 r5 rf n0 n1 n2 n3 n4 n5 nf
      obtain ⟨r0, r1, r2, r3, r4, r5⟩ := VD.out.1.cc
      have rf := VD.out.1.free
      obtain ⟨n0, n1, n2, n3, n4, n5⟩ := VD.out.2.cc
      go_wp2
      refine bodyPost_ret (RES.out y _ (by rw [HC.out]; exact VD.out.1.put ⟨x.kind, x.file, x.lev, 0, [], []⟩) _ _ rfl rfl) rfl ?_
      exact ⟨rfl, PUT.out ⟨x.kind, x.file, x.lev, 0, [], []⟩ _ KD.out⟩
    · have HC := Lib.hid (show y = ⟨x.kind, x.file, 0, 0, [], []⟩ by rw [HY.out]; unfold clean numsOf textsOf; rw [if_neg k1, if_neg k1, if_neg k3]; rfl)
      have q1 : (x.kind == 1) = false := by simpa using k1
      have q3 : (x.kind == 3) = false := by simpa using k3
      clear k1 k3
      go_wp2
      refine bodyPost_ret (RES.out y _ (by rw [HC.out]; exact V.out.2.1.put ⟨x.kind, x.file, 0, 0, [], []⟩) _ _ rfl rfl) rfl ?_
      exact ⟨rfl, PUT.out ⟨x.kind, x.file, 0, 0, [], []⟩ _ KC.out⟩
end Go.Proofs.YtgljjdldhnajdaaGreat
/- The document's side: edits read of any bytes. -/
set_option linter.unusedVariables false
set_option maxRecDepth 100000
namespace Go.Proofs.YtgljjdldhnajdaaGreat
open Go.RowKit

/-- How many numbers are to be read in all, by those that were read. -/
def kOf : List Int → Nat
  | [] => 2
  | [_] => 2
  | k :: _ :: _ => numsN k + 1
/-- What the edit is, by the numbers that were read and the bytes that are left. -/
def contE : List Int → List UInt8 → Int ⊕ (Ed × List UInt8)
  | [], r => rdEd r
  | k :: vs, r => rdEdN k (appR vs (rdNums (numsN k - vs.length) r))
theorem numsN_ge (k : Int) : 1 ≤ numsN k := by unfold numsN; (repeat' split) <;> omega
theorem kOf_le (ws : List Int) : kOf ws ≤ 4 := by
  match ws with
  | [] => show 2 ≤ 4; omega
  | [_] => show 2 ≤ 4; omega
  | k :: _ :: _ => have := (numsN_le k).1; show numsN k + 1 ≤ 4; omega
theorem cont_err {ws : List Int} {r : List UInt8} (h : ws.length < kOf ws) (hz : ¬ re r = 0) : contE ws r = .inl (re r) := by
  match ws, h with
  | [], _ => show rdEd r = _; unfold rdEd; rw [if_neg hz]
  | [k], _ =>
    have := numsN_ge k
    show rdEdN k (appR [] (rdNums (numsN k - 0) r)) = _
    rw [show numsN k - 0 = (numsN k - 1) + 1 by omega, rdNums, if_neg hz]
    rfl
  | k :: a :: vs, h =>
    have h' : vs.length + 2 < numsN k + 1 := h
    show rdEdN k (appR (a :: vs) (rdNums (numsN k - (vs.length + 1)) r)) = _
    rw [show numsN k - (vs.length + 1) = (numsN k - (vs.length + 2)) + 1 by omega, rdNums, if_neg hz]
    rfl
theorem cont_next {ws : List Int} {r : List UInt8} (h : ws.length < kOf ws) (hz : re r = 0) : contE ws r = contE (ws ++ [rn r]) (r.drop (rk r)) := by
  match ws, h with
  | [], _ =>
    show rdEd r = rdEdN (rn r) (appR [] (rdNums (numsN (rn r) - 0) (r.drop (rk r))))
    unfold rdEd
    rw [if_pos hz, appR_nil, Nat.sub_zero]
  | [k], _ =>
    have := numsN_ge k
    show rdEdN k (appR [] (rdNums (numsN k - 0) r)) = rdEdN k (appR [rn r] (rdNums (numsN k - 1) (r.drop (rk r))))
    rw [show numsN k - 0 = (numsN k - 1) + 1 by omega, rdNums, if_pos hz, appR_nil]
  | k :: a :: vs, h =>
    have h' : vs.length + 2 < numsN k + 1 := h
    show rdEdN k (appR (a :: vs) (rdNums (numsN k - (vs.length + 1)) r)) = rdEdN k (appR (a :: vs ++ [rn r]) (rdNums (numsN k - (a :: vs ++ [rn r]).length + 0) (r.drop (rk r))))
    rw [show numsN k - (vs.length + 1) = (numsN k - (vs.length + 2)) + 1 by omega, rdNums, if_pos hz, appR_app]
    congr 3
    simp
theorem cont_end {k : Int} {vs : List Int} {r : List UInt8} (h : vs.length = numsN k) : contE (k :: vs) r = rdEdT k vs (rdTexts (textsN k) r) := by
  show rdEdN k (appR vs (rdNums (numsN k - vs.length) r)) = _
  rw [h, Nat.sub_self]
  show rdEdN k (.inr (vs ++ [], r)) = _
  rw [List.append_nil]
  rfl
/-- The four numbers in memory. -/
def Arr (b : Nat) (ws : List Int) (w : World) : Prop := w.heap[b]? = some (.cells #[.int .i64 (ws.getD 0 0), .int .i64 (ws.getD 1 0), .int .i64 (ws.getD 2 0), .int .i64 (ws.getD 3 0)] 90 (0, 0))
theorem Arr.c {b : Nat} {ws : List Int} {w : World} (h : Arr b ws w) : w.cell? ⟨b, 0, none⟩ = some (.int .i64 (ws.getD 0 0)) ∧ w.cell? ⟨b, 1, none⟩ = some (.int .i64 (ws.getD 1 0)) ∧ w.cell? ⟨b, 2, none⟩ = some (.int .i64 (ws.getD 2 0)) ∧ w.cell? ⟨b, 3, none⟩ = some (.int .i64 (ws.getD 3 0)) := by
  unfold Arr at h
  simp [World.cell?, h]
theorem Arr.free {b : Nat} {ws : List Int} {w : World} (h : Arr b ws w) (j : Nat) : w.frozen? ⟨b, j, none⟩ = false := by unfold Arr at h; simp [World.frozen?, h]
theorem Arr.some {b : Nat} {ws : List Int} {w : World} (h : Arr b ws w) {j : Nat} (hj : j < 4) : ∃ u, w.cell? ⟨b, j, none⟩ = some u := by
  have := h.c
  match j, hj with
  | 0, _ => exact ⟨_, this.1⟩
  | 1, _ => exact ⟨_, this.2.1⟩
  | 2, _ => exact ⟨_, this.2.2.1⟩
  | 3, _ => exact ⟨_, this.2.2.2⟩
theorem Arr.put {b : Nat} {ws : List Int} {w : World} (h : Arr b ws w) (hw : ws.length < 4) (v : Int) : Arr b (ws ++ [v]) (w.setCell ⟨b, ws.length, none⟩ (.int .i64 v)) := by
  have := heap_set (o := ws.length) h (.int .i64 v)
  match ws, hw with
  | [], _ => exact this
  | [a], _ => exact this
  | [a, c], _ => exact this
  | [a, c, d], _ => exact this
theorem whole_of_end {ws : List Int} (h : ¬ ws.length < kOf ws) (h2 : ws.length ≤ kOf ws) : ∃ k vs, ws = k :: vs ∧ vs.length = numsN k := by
  match ws, h, h2 with
  | [], h, _ => exact absurd (show 0 < 2 by omega) h
  | [_], h, _ => exact absurd (show 1 < 2 by omega) h
  | k :: a :: vs, h, h2 => exact ⟨k, a :: vs, rfl, by have h3 : ¬ vs.length + 2 < numsN k + 1 := h; have h4 : vs.length + 2 ≤ numsN k + 1 := h2; show vs.length + 1 = numsN k; omega⟩
set_option maxHeartbeats 8000000 in
theorem ref_Unpack (l : List UInt8) (w : World) (hl : l.length ≤ 1000000000) : Calls Tryz.prog 13 #[.string (bs l)] w fun e w' => ∃ v, e = .returned (.tuple #[v, .int .i64 (unp l).1]) ∧ OffRow w' w.heap.size 31 6 v (unp l).2.length (flat ecell (unp l).2) ∧ Below w.heap.size w w' := by
  obtain ⟨iE, hi0, hz0, hz1, hz2⟩ := info_parts infoEd
  have HIE := Lib.hid (And.intro hi0 (And.intro hz0 (And.intro hz1 hz2)))
  clear hi0 hz0 hz1 hz2
  obtain ⟨B, hB⟩ : ∃ B, B = w.heap.size := ⟨_, rfl⟩
  rw [← hB]
  have HB := Lib.hid hB
  obtain ⟨Z, hZ⟩ : ∃ Z, Z = unp l := ⟨_, rfl⟩
  rw [← hZ]
  have HZ := Lib.hid (hZ.trans (unp_rdL l))
  obtain ⟨s, hs⟩ : ∃ s, s = bs l := ⟨_, rfl⟩
  have HSS := Lib.hid hs
  have hss : s.size = l.length := by rw [hs, bs_size]
  have h0 := ref_ReadCount s w (by unfold maxLen; omega)
  have hsl : s.data.toList = l := by rw [hs, bs_list]
  rw [hsl] at h0
  have HCD := Lib.hid (cd_cases l)
  obtain ⟨z, hz⟩ : ∃ z, z = ce l := ⟨_, rfl⟩
  obtain ⟨nn, hnn⟩ : ∃ nn, nn = cn l := ⟨_, rfl⟩
  obtain ⟨k0, hk0⟩ : ∃ k, k = ck l := ⟨_, rfl⟩
  rw [← hz, ← hnn, ← hk0] at h0
  have H0 := Lib.hid h0
  have HC := Lib.hid (And.intro hz (And.intro hnn hk0))
  obtain ⟨R, hR⟩ : ∃ R, R = rdL l := ⟨_, rfl⟩
  rw [← hR] at HZ
  have HRR := Lib.hid hR
  rw [← hs]
  clear hB hZ hs h0 hz hnn hk0 hR
  go_enter Tryz.func13, Tryz.ntmps13
  go_wp2_with fail
  refine H0.out.mono ?_
  rintro e w1 ⟨rfl, rfl⟩
  by_cases hz0 : z = 0
  · subst hz0
    obtain ⟨n, rfl⟩ : ∃ n : Nat, nn = n := ⟨nn.toNat, by have := HCD.out; have := HC.out.1; have := HC.out.2.1; omega⟩
    have HRD := Lib.hid (show R = rdEds n (l.drop k0) by
      rw [HRR.out]
      unfold rdL
      rw [if_pos HC.out.1.symm, ← HC.out.2.1, ← HC.out.2.2, Int.toNat_natCast])
    have hk0l : k0 ≤ l.length := by have := HCD.out; have := HC.out.1; have := HC.out.2.2; omega
    clear HCD
    go_wp2_with fail
    go_loopw [5, 7, 8] (fun av v iv wr => ∃ (i at' : Nat) (M : List Ed), i ≤ n ∧ av = .int .i64 (at' : Int) ∧ iv = .int .i64 (i : Int) ∧ Hid (M.length = i ∧ at' ≤ l.length ∧ i + (l.length - at') ≤ l.length) ∧ Hid (rdEds n (l.drop k0) = appR M (rdEds (n - i) (l.drop at'))) ∧ Hid (OffRow wr B 31 6 v i (flat ecell M)) ∧ Hid (Below B w wr)) (fun av v iv wr => n - (intOf iv).toNat)
    case atStart => exact ⟨0, k0, [], Nat.zero_le _, rfl, rfl, Lib.hid ⟨rfl, hk0l, by omega⟩, Lib.hid (by rw [appR_nil]; rfl), Lib.hid (OffRow.nil _ _ _ _), Lib.hid (Below.refl _ _)⟩
    case round =>
      obtain ⟨i, at', M, hi, rfl, rfl, hM, hA, hO, hK⟩ := hrel
      obtain ⟨a3, c3, rfl⟩ := OffRow.slice hO.out
      have hi9 : i ≤ 1000000000 := by have := hM.out.2.2; omega
      by_cases hlt : i < n
      · have hlt' : (i : Int) < (n : Int) := by omega
        have HBW := Lib.hid (show B ≤ wr.heap.size by rw [HB.out]; exact hK.out.size)
        obtain ⟨wa, hwa⟩ : ∃ wa, wr.alloc (.cells #[.int .i64 0, .int .i64 0, .int .i64 0, .int .i64 0] 90) = wa := ⟨_, rfl⟩
        obtain ⟨lb, hlb⟩ : ∃ lb, lb = wr.heap.size := ⟨_, rfl⟩
        have ka : Below wr.heap.size wr wa := by rw [← hwa]; exact (Below.refl _ _).alloc (Nat.le_refl _) _
        have AA := Lib.hid (show Arr lb [] wa by rw [← hwa, hlb]; exact heap_new wr _)
        have OA := Lib.hid (OffRow.kept hO.out (w' := wa) fun k hk => ka.block k (OffRow.lt hO.out k hk).2)
        have KA := Lib.hid (hK.out.trans (ka.mono HBW.out))
        have HLB := Lib.hid (show B ≤ lb by rw [hlb]; exact HBW.out)
        have HWA := Lib.hid hwa
        have HLBE := Lib.hid hlb
        clear ka hwa hlb
        go_upto_region 9 with (fail)
        rw [HWA.out, ← HLBE.out]
        clear HWA HLBE
        go_wp2_with fail
        go_loopw [5, 10, 11] (fun av kv jv wq => ∃ (p K j : Nat) (ws : List Int), av = .int .i64 (p : Int) ∧ kv = .int .i64 (K : Int) ∧ jv = .int .i64 (j : Int) ∧ Hid (K = kOf ws ∧ j = ws.length ∧ j ≤ K) ∧ Hid (at' ≤ p ∧ p ≤ l.length) ∧ Hid (rdEd (l.drop at') = contE ws (l.drop p)) ∧ Hid (Arr lb ws wq) ∧ Hid (OffRow wq B 31 6 (.slice a3 i c3) i (flat ecell M)) ∧ Hid (Below B w wq)) (fun av kv jv wq => 4 - (intOf jv).toNat)
        case atStart => exact ⟨at', 2, 0, [], rfl, rfl, rfl, Lib.hid ⟨rfl, rfl, by omega⟩, Lib.hid ⟨Nat.le_refl _, hM.out.2.1⟩, Lib.hid rfl, AA, OA, KA⟩
        case round =>
          obtain ⟨p, K, j, ws, rfl, rfl, rfl, hW, hp, hC, hAr, hO2, hK2⟩ := hrel
          have hK4 : K ≤ 4 := by have := kOf_le ws; have := hW.out.1; omega
          by_cases hj : j < K
          · have hj' : (j : Int) < (K : Int) := by omega
            have hj4 : (j : Int) < 4 := by omega
            have hps : (p : Int) ≤ (s.size : Int) := by have := hp.out.2; omega
            have HRW := Lib.hid (show Calls Tryz.prog 44 #[.string (s.extract p l.length)] wr (fun e w' => e = .returned (.tuple #[.int .i64 (rn (l.drop p)), .int .i64 (rk (l.drop p)), .int .i64 (re (l.drop p))]) ∧ wr = w') by
              have := ref_ReadWhole (s.extract p s.size) wr (by rw [extract_size]; unfold maxLen; omega)
              rw [extract_rest, HSS.out, bs_list] at this
              rw [← hss, HSS.out]
              exact this)
            have HRC := Lib.hid (rd_cases (l.drop p))
            obtain ⟨v, hv⟩ : ∃ v, v = rn (l.drop p) := ⟨_, rfl⟩
            obtain ⟨m, hm⟩ : ∃ m, m = rk (l.drop p) := ⟨_, rfl⟩
            obtain ⟨z', hz'⟩ : ∃ z', z' = re (l.drop p) := ⟨_, rfl⟩
            rw [← hv, ← hm, ← hz'] at HRW
            have HV := Lib.hid (And.intro hv (And.intro hm hz'))
            clear hv hm hz'
            go_wp2_with fail
            refine HRW.out.mono ?_
            rintro e w5 ⟨rfl, rfl⟩
            by_cases hz1 : z' = 0
            · subst hz1
              have hml : p + m ≤ l.length := by
                have := HRC.out
                rw [← HV.out.2.2, ← HV.out.2.1, List.length_drop] at this
                have := hp.out.2
                omega
              have HCN := Lib.hid (show rdEd (l.drop at') = contE (ws ++ [v]) (l.drop (p + m)) by
                rw [hC.out, cont_next (by rw [← hW.out.2.1, ← hW.out.1]; exact hj) HV.out.2.2.symm, ← HV.out.1, ← HV.out.2.1, List.drop_drop])
              obtain ⟨u, hu⟩ := hAr.out.some (j := j) (by omega)
              have hfx := hAr.out.free j
              obtain ⟨w6, hw6⟩ : ∃ w6, w6 = wr.setCell ⟨lb, j, none⟩ (.int .i64 v) := ⟨_, rfl⟩
              have A6 := Lib.hid (show Arr lb (ws ++ [v]) w6 by
                have := hAr.out.put (by have := hW.out.2.1; omega) v
                rw [← hW.out.2.1] at this
                rw [hw6]
                exact this)
              have O6 := Lib.hid (show OffRow w6 B 31 6 (.slice a3 i c3) i (flat ecell M) by
                rw [hw6]
                refine OffRow.kept hO2.out fun k hk => heap_set_other (fun e => ?_) _
                obtain ⟨cur, h1⟩ := OffRow.tag hO2.out hk
                have h2 := hAr.out
                unfold Arr at h2
                rw [e, h2] at h1
                simp at h1)
              have K6 := Lib.hid (show Below B w w6 by rw [hw6]; exact hK2.out.setCell (p := ⟨lb, j, none⟩) HLB.out _)
              have HW6 := Lib.hid hw6
              clear hw6
              go_upto_region 17 with (fail)
              rw [← HW6.out]
              clear hu hfx HW6
              have hpm : IntKind.i64.wrap ((p : Int) + (m : Int)) = ((p + m : Nat) : Int) := by rw [IntWalk.i64_in _ (by omega)]; omega
              obtain ⟨q0, q1, q2, q3⟩ := A6.out.c
              by_cases hj1 : j = 1
              · obtain ⟨kk, hkk⟩ : ∃ kk, ws = [kk] := by
                  have := hW.out.2.1
                  match ws, this with
                  | [a], _ => exact ⟨a, rfl⟩
                  | [], h => simp at h; omega
                  | _ :: _ :: _, h => simp at h; omega
                have HKK := Lib.hid hkk
                have q0' : w6.cell? ⟨lb, 0, none⟩ = some (.int .i64 kk) := by rw [q0, hkk]; rfl
                have HKN := Lib.hid (show kOf (ws ++ [v]) = numsN kk + 1 by rw [hkk]; rfl)
                clear q0 q1 q2 q3 hkk
                subst hj1
                by_cases h3 : kk = 3
                · have HK3 := Lib.hid (show 3 = kOf (ws ++ [v]) by rw [HKN.out, h3]; rfl)
                  rw [h3] at q0'
                  clear h3
                  go_wp2
                  go_roundw
                  case rel => exact ⟨p + m, 3, 2, ws ++ [v], by go_num, rfl, by go_num, Lib.hid ⟨HK3.out, by rw [List.length_append, ← hW.out.2.1]; rfl, by omega⟩, Lib.hid ⟨by have := hp.out.1; omega, hml⟩, HCN, A6, O6, K6⟩
                  case measure => first | (simp [intOf]; done) | (simp [intOf]; omega)
                · by_cases h1 : kk = 1
                  · have HK3 := Lib.hid (show 4 = kOf (ws ++ [v]) by rw [HKN.out, h1]; rfl)
                    rw [h1] at q0'
                    clear h1 h3
                    go_wp2
                    go_roundw
                    case rel => exact ⟨p + m, 4, 2, ws ++ [v], by go_num, rfl, by go_num, Lib.hid ⟨HK3.out, by rw [List.length_append, ← hW.out.2.1]; rfl, by omega⟩, Lib.hid ⟨by have := hp.out.1; omega, hml⟩, HCN, A6, O6, K6⟩
                    case measure => first | (simp [intOf]; done) | (simp [intOf]; omega)
                  · have HK3 := Lib.hid (show K = kOf (ws ++ [v]) by
                      rw [HKN.out, hW.out.1, HKK.out]
                      show 2 = numsN kk + 1
                      unfold numsN
                      rw [if_neg h1, if_neg h3])
                    have g1 : (kk == 1) = false := by simpa using h1
                    have g3 : (kk == 3) = false := by simpa using h3
                    clear h1 h3
                    go_wp2
                    go_roundw
                    case rel => exact ⟨p + m, K, 2, ws ++ [v], by go_num, rfl, by go_num, Lib.hid ⟨HK3.out, by rw [List.length_append, ← hW.out.2.1]; rfl, by omega⟩, Lib.hid ⟨by have := hp.out.1; omega, hml⟩, HCN, A6, O6, K6⟩
                    case measure => first | (simp [intOf]; done) | (simp [intOf]; omega)
              · have HK3 := Lib.hid (show K = kOf (ws ++ [v]) by
                  rw [hW.out.1]
                  have h1 := hW.out.2.1
                  match ws, h1 with
                  | [], _ => rfl
                  | [_], h => exact absurd h hj1
                  | _ :: _ :: _, _ => rfl)
                have g1 : ((j : Int) == 1) = false := by rw [beq_eq_false_iff_ne]; omega
                clear hj1
                go_wp2
                go_roundw
                case rel => exact ⟨p + m, K, j + 1, ws ++ [v], by go_num, rfl, by go_num, Lib.hid ⟨HK3.out, by rw [List.length_append, ← hW.out.2.1]; rfl, by omega⟩, Lib.hid ⟨by have := hp.out.1; omega, hml⟩, HCN, A6, O6, K6⟩
                case measure => first | (simp [intOf]; done) | (simp [intOf]; omega)
            · have g : (z' == 0) = false := by simpa using hz1
              have g2 : (z' != 0) = true := by simpa using hz1
              have HQ := Lib.hid (show rdEd (l.drop at') = .inl z' by rw [hC.out, cont_err (by rw [← hW.out.2.1, ← hW.out.1]; exact hj) (by rw [← HV.out.2.2]; exact hz1), ← HV.out.2.2])
              have HBAD := Lib.hid (show Z = (z', []) by
                rw [HZ.out, HRD.out, hA.out, show n - i = n - (i + 1) + 1 by omega, rdEds, HQ.out]
                rfl)
              go_wp2
              go_ret2
              rw [HBAD.out]
              exact ⟨_, rfl, OffRow.nil _ _ _ _, hK2.out⟩
          · obtain ⟨kk, vs, hws, hvs⟩ := whole_of_end (ws := ws) (by rw [← hW.out.2.1, ← hW.out.1]; exact hj) (by rw [← hW.out.2.1, ← hW.out.1]; exact hW.out.2.2)
            have hj' : ¬ (j : Int) < (K : Int) := by omega
            obtain ⟨q0, q1, q2, q3⟩ := hAr.out.c
            have q0' : wr.cell? ⟨lb, 0, none⟩ = some (.int .i64 kk) := by rw [q0, hws]; rfl
            have q1' : wr.cell? ⟨lb, 1, none⟩ = some (.int .i64 (vs.getD 0 0)) := by rw [q1, hws]; rfl
            have q2' : wr.cell? ⟨lb, 2, none⟩ = some (.int .i64 (vs.getD 1 0)) := by rw [q2, hws]; rfl
            have q3' : wr.cell? ⟨lb, 3, none⟩ = some (.int .i64 (vs.getD 2 0)) := by rw [q3, hws]; rfl
            clear q0 q1 q2 q3
            obtain ⟨v1, hv1⟩ : ∃ v, v = vs.getD 0 0 := ⟨_, rfl⟩
            obtain ⟨v2, hv2⟩ : ∃ v, v = vs.getD 1 0 := ⟨_, rfl⟩
            obtain ⟨v3, hv3⟩ : ∃ v, v = vs.getD 2 0 := ⟨_, rfl⟩
            rw [← hv1] at q1'
            rw [← hv2] at q2'
            rw [← hv3] at q3'
            have HV1 := Lib.hid (And.intro hv1 (And.intro hv2 hv3))
            clear hv1 hv2 hv3
            obtain ⟨wd, hwd⟩ : ∃ wd, wr.alloc (.cells #[.int .i64 kk, .int .i64 v1, .int .i64 v2, .int .i64 v3, .string ⟨#[]⟩, .string ⟨#[]⟩] 31) = wd := ⟨_, rfl⟩
            obtain ⟨eb, heb⟩ : ∃ eb, eb = wr.heap.size := ⟨_, rfl⟩
            have HBQ := Lib.hid (show B ≤ wr.heap.size by rw [HB.out]; exact hK2.out.size)
            have kd : Below wr.heap.size wr wd := by rw [← hwd]; exact (Below.refl _ _).alloc (Nat.le_refl _) _
            have XD := Lib.hid (show EdAt eb (mkEd kk vs []) wd by
              unfold mkEd
              rw [← HV1.out.1, ← HV1.out.2.1, ← HV1.out.2.2, ← hwd, heb]
              exact heap_new wr _)
            have OD := Lib.hid (OffRow.kept hO2.out (w' := wd) fun k hk => kd.block k (OffRow.lt hO2.out k hk).2)
            have KD := Lib.hid (hK2.out.trans (kd.mono HBQ.out))
            have HBD := Lib.hid (show B ≤ wd.heap.size from Nat.le_trans HBQ.out kd.size)
            have HEB := Lib.hid (show B ≤ eb by rw [heb]; exact HBQ.out)
            have HNE := Lib.hid (show ∀ k, (Value.slice a3 i c3).ownBlock = some k → k ≠ eb from fun k hk => by have := (OffRow.lt hO2.out k hk).2; omega)
            have HWD := Lib.hid hwd
            have HEE := Lib.hid heb
            have HCE := Lib.hid (show rdEd (l.drop at') = rdEdT kk vs (rdTexts (textsN kk) (l.drop p)) by rw [hC.out, hws, cont_end hvs])
            clear kd hwd heb
            go_upto_region 23 with (fail)
            rw [HWD.out, ← HEE.out]
            clear HWD HEE q0' q1' q2' q3'
            by_cases h1 : kk = 1
            · subst h1
              have RT : ∀ (q : Nat) (W : World), Calls Tryz.prog 45 #[.string (s.extract q l.length)] W (fun e w' => e = .returned (.tuple #[.string (bs (ts (l.drop q))), .int .i64 (tk (l.drop q)), .int .i64 (te (l.drop q))]) ∧ W = w') := fun q W => by
                have := ref_ReadText (s.extract q s.size) W (by rw [extract_size]; unfold maxLen; omega)
                rw [extract_rest, HSS.out, bs_list] at this
                rw [← hss, HSS.out]
                exact this
              have HT1 := Lib.hid (RT p wd)
              have HRT := Lib.hid RT
              have HD1 := Lib.hid (td_cases (l.drop p))
              obtain ⟨t1, ht1⟩ : ∃ t, t = ts (l.drop p) := ⟨_, rfl⟩
              obtain ⟨m1, hm1⟩ : ∃ m, m = tk (l.drop p) := ⟨_, rfl⟩
              obtain ⟨z1, hz1⟩ : ∃ z, z = te (l.drop p) := ⟨_, rfl⟩
              rw [← ht1, ← hm1, ← hz1] at HT1
              have HV2 := Lib.hid (And.intro ht1 (And.intro hm1 hz1))
              have hps : (p : Int) ≤ (s.size : Int) := by have := hp.out.2; omega
              have hk8 : wd.cell? ⟨eb, 0, none⟩ = some (.int .i64 1) := XD.out.cc.1
              clear RT ht1 hm1 hz1
              go_wp2_with fail
              refine HT1.out.mono ?_
              rintro e w5 ⟨rfl, rfl⟩
              by_cases hz1 : z1 = 0
              · subst hz1
                have hml : p + m1 ≤ l.length := by
                  have a := HD1.out
                  rw [← HV2.out.2.2, ← HV2.out.2.1, List.length_drop] at a
                  have := hp.out.2
                  rcases a with a | a
                  · have := a.2.2.2.1; have := a.2.2.2.2.2.1; omega
                  · have := a.1; omega
                have HC2 := Lib.hid (show rdEd (l.drop at') = rdEdT 1 vs (appR [t1] (rdTexts 1 (l.drop (p + m1)))) by
                  rw [HCE.out, show textsN 1 = 2 from rfl, rdTexts, if_pos HV2.out.2.2.symm, ← HV2.out.1, ← HV2.out.2.1, List.drop_drop])
                have x4 := XD.out.cc.2.2.2.2.1
                have xf := XD.out.free
                obtain ⟨w6, hw6⟩ : ∃ w6, w6 = wd.setCell ⟨eb, 4, none⟩ (.string (bs t1)) := ⟨_, rfl⟩
                have X6 := Lib.hid (show EdAt eb (mkEd 1 vs [t1]) w6 by rw [hw6]; exact XD.out.txt (us := []) (by show 0 < 2; omega) t1)
                have O6 := Lib.hid (show OffRow w6 B 31 6 (.slice a3 i c3) i (flat ecell M) by
                  rw [hw6]
                  exact OffRow.kept OD.out fun k hk => heap_set_other (fun e => HNE.out k hk e) _)
                have K6 := Lib.hid (show Below B w w6 by rw [hw6]; exact KD.out.setCell (p := ⟨eb, 4, none⟩) HEB.out _)
                have HW6 := Lib.hid hw6
                have hpm : IntKind.i64.wrap ((p : Int) + (m1 : Int)) = ((p + m1 : Nat) : Int) := by rw [IntWalk.i64_in _ (by omega)]; omega
                clear hw6 hk8
                go_upto_region 29 with (fail)
                rw [← HW6.out]
                clear HW6 x4 xf
                have HT2 := Lib.hid (HRT.out (p + m1) w6)
                have HD2 := Lib.hid (td_cases (l.drop (p + m1)))
                obtain ⟨t2, ht2⟩ : ∃ t, t = ts (l.drop (p + m1)) := ⟨_, rfl⟩
                obtain ⟨m2, hm2⟩ : ∃ m, m = tk (l.drop (p + m1)) := ⟨_, rfl⟩
                obtain ⟨z2, hz2⟩ : ∃ z, z = te (l.drop (p + m1)) := ⟨_, rfl⟩
                rw [← ht2, ← hm2, ← hz2] at HT2
                have HV3 := Lib.hid (And.intro ht2 (And.intro hm2 hz2))
                have hps1 : (p : Int) + (m1 : Int) ≤ (s.size : Int) := by omega
                have hps2 : ((p + m1 : Nat) : Int) ≤ (s.size : Int) := by omega
                clear ht2 hm2 hz2
                go_wp2_with fail
                refine HT2.out.mono ?_
                rintro e w5 ⟨rfl, rfl⟩
                by_cases hz2 : z2 = 0
                · subst hz2
                  have hml2 : p + m1 + m2 ≤ l.length := by
                    have a := HD2.out
                    rw [← HV3.out.2.2, ← HV3.out.2.1, List.length_drop] at a
                    rcases a with a | a
                    · have := a.2.2.2.1; have := a.2.2.2.2.2.1; omega
                    · have := a.1; omega
                  have HRE := Lib.hid (show rdEd (l.drop at') = .inr (mkEd 1 vs [t1, t2], l.drop (p + m1 + m2)) by
                    rw [HC2.out, rdTexts, if_pos HV3.out.2.2.symm, ← HV3.out.1, ← HV3.out.2.1, List.drop_drop]
                    rfl)
                  have x5 := X6.out.cc.2.2.2.2.2
                  have xf := X6.out.free
                  obtain ⟨w7, hw7⟩ : ∃ w7, w7 = w6.setCell ⟨eb, 5, none⟩ (.string (bs t2)) := ⟨_, rfl⟩
                  have X7 := Lib.hid (show EdAt eb (mkEd 1 vs [t1, t2]) w7 by rw [hw7]; exact X6.out.txt (us := [t1]) (by show 1 < 2; omega) t2)
                  have O7 := Lib.hid (show OffRow w7 B 31 6 (.slice a3 i c3) i (flat ecell M) by
                    rw [hw7]
                    exact OffRow.kept O6.out fun k hk => heap_set_other (fun e => HNE.out k hk e) _)
                  have K7 := Lib.hid (show Below B w w7 by rw [hw7]; exact K6.out.setCell (p := ⟨eb, 5, none⟩) HEB.out _)
                  have HB7 := Lib.hid (show B ≤ w7.heap.size by rw [HB.out]; exact K7.out.size)
                  have HW7 := Lib.hid hw7
                  have hpm2 : IntKind.i64.wrap ((p : Int) + (m1 : Int) + (m2 : Int)) = ((p + m1 + m2 : Nat) : Int) := by rw [IntWalk.i64_in _ (by omega)]; omega
                  clear hw7
                  obtain ⟨x, hx⟩ : ∃ x, x = mkEd 1 vs [t1, t2] := ⟨_, rfl⟩
                  rw [← hx] at X7 HRE
                  clear hx
                  have HNX := Lib.hid (show rdEds n (l.drop k0) = appR (M ++ [x]) (rdEds (n - (i + 1)) (l.drop (p + m1 + m2))) by
                    rw [hA.out, show n - i = n - (i + 1) + 1 by omega, rdEds, HRE.out]
                    exact appR_app _ _ _)
                  have HLN := Lib.hid (show (M ++ [x]).length = i + 1 ∧ p + m1 + m2 ≤ l.length ∧ i + 1 + (l.length - (p + m1 + m2)) ≤ l.length by
                    refine ⟨by rw [List.length_append, hM.out.1]; rfl, hml2, ?_⟩
                    obtain ⟨b1, b2, _⟩ := rdEd_of HRE.out
                    have := edB_pos _ b2
                    have e := congrArg List.length b1
                    rw [List.length_append, List.length_drop, List.length_drop] at e
                    have := hM.out.2
                    omega)
                  go_upto_region 34 with (fail)
                  rw [← HW7.out]
                  clear HW7 x5 xf
                  obtain ⟨x0, x1, x2, x3, x4, x5⟩ := X7.out.cc
                  obtain ⟨w9, hw9⟩ : ∃ w9, w9 = w7.alloc (.cells #[.int .i64 x.kind, .int .i64 x.file, .int .i64 x.lev, .int .i64 x.cnt, .string (bs x.low), .string (bs x.high)] 31) := ⟨_, rfl⟩
                  have k9 : Below w7.heap.size w7 w9 := by rw [hw9]; exact (Below.refl _ _).alloc (Nat.le_refl _) _
                  have W9 := Lib.hid (OffRow.kept O7.out (w' := w9) fun k hk => k9.block k (OffRow.lt O7.out k hk).2)
                  have HSR := Lib.hid (show Src Tryz.prog 6 22 (.slice (some ⟨w7.heap.size, 0, none⟩) 1 1) 1 (ecell x) w9 by
                    have hb : w9.heap[w7.heap.size]? = some (.cells #[.int .i64 x.kind, .int .i64 x.file, .int .i64 x.lev, .int .i64 x.cnt, .string (bs x.low), .string (bs x.high)] 31 (0, 0)) := by
                      rw [hw9]
                      exact heap_new w7 _
                    exact src_block (size := 6) (cs := #[.int .i64 x.kind, .int .i64 x.file, .int .i64 x.lev, .int .i64 x.cnt, .string (bs x.low), .string (bs x.high)]) Tryz.underlying22 hb 1 1 rfl (ecell_one x))
                  have HB9 := Lib.hid (show B ≤ w9.heap.size from Nat.le_trans HB7.out k9.size)
                  have K9 := Lib.hid (K7.out.trans (k9.mono HB7.out))
                  rw [hw9] at W9 HSR HB9
                  have HW9 := Lib.hid hw9
                  clear hw9 k9
                  go_wp2_with (at_builtin; refine wpList_append_off rfl (.tmp 113) (.tmp 115) 22 rfl B 31 iE _ 6 64 Tryz.underlying22 HIE.out.1 HIE.out.2.1 HIE.out.2.2.1 HIE.out.2.2.2 rfl (.slice a3 i c3) i _ rfl W9.out (.slice (some ⟨w7.heap.size, 0, none⟩) 1 1) rfl 1 _ HSR.out ?q3 ?q4 HB9.out ?_)
                  case q3 => unfold maxLen; omega
                  case q4 => omega
                  intro v8 w8 hr8 hg8 hat8
                  rw [← HW9.out] at hg8
                  have W8 := Lib.hid (show OffRow w8 B 31 6 v8 (i + 1) (flat ecell (M ++ [x])) by
                    rw [flat_append, flat_one]
                    exact hr8)
                  have HRW := Lib.hid (show ∀ k, (Value.slice a3 i c3).ownBlock = some k → B ≤ k from fun k hk => (OffRow.lt O7.out k hk).1)
                  have K8 := Lib.hid (show Below B w w8 from K9.out.trans ⟨hg8.os, hg8.tape, hg8.output, hg8.size, fun k hk => hg8.block k (Nat.lt_of_lt_of_le hk (by have := K9.out.size; have := HB.out; omega)) (fun e => by have := HRW.out k e.symm; omega)⟩)
                  clear hr8 hg8 hat8 HSR x0 x1 x2 x3 x4 x5
                  go_wp2_with fail
                  go_roundw
                  case rel => exact ⟨i + 1, p + m1 + m2, M ++ [x], hlt, by go_num, by go_num, HLN, HNX, W8, K8⟩
                  case measure => simp [intOf]; omega
                · have g : (z2 == 0) = false := by simpa using hz2
                  have g2 : (z2 != 0) = true := by simpa using hz2
                  have HQ := Lib.hid (show rdEd (l.drop at') = .inl z2 by
                    rw [HC2.out, rdTexts, if_neg (by rw [← HV3.out.2.2]; exact hz2), ← HV3.out.2.2]
                    rfl)
                  have HBAD := Lib.hid (show Z = (z2, []) by
                    rw [HZ.out, HRD.out, hA.out, show n - i = n - (i + 1) + 1 by omega, rdEds, HQ.out]
                    rfl)
                  go_wp2
                  go_ret2
                  rw [HBAD.out]
                  exact ⟨_, rfl, OffRow.nil _ _ _ _, K6.out⟩
              · have g : (z1 == 0) = false := by simpa using hz1
                have g2 : (z1 != 0) = true := by simpa using hz1
                have HQ := Lib.hid (show rdEd (l.drop at') = .inl z1 by
                  rw [HCE.out, show textsN 1 = 2 from rfl, rdTexts, if_neg (by rw [← HV2.out.2.2]; exact hz1), ← HV2.out.2.2]
                  rfl)
                have HBAD := Lib.hid (show Z = (z1, []) by
                  rw [HZ.out, HRD.out, hA.out, show n - i = n - (i + 1) + 1 by omega, rdEds, HQ.out]
                  rfl)
                go_wp2
                go_ret2
                rw [HBAD.out]
                exact ⟨_, rfl, OffRow.nil _ _ _ _, KD.out⟩
            · have g1 : (kk == 1) = false := by simpa using h1
              have HNX := Lib.hid (show rdEds n (l.drop k0) = appR (M ++ [mkEd kk vs []]) (rdEds (n - (i + 1)) (l.drop p)) by
                have e : rdEd (l.drop at') = .inr (mkEd kk vs [], l.drop p) := by
                  rw [HCE.out, show textsN kk = 0 by unfold textsN; rw [if_neg h1]]
                  rfl
                rw [hA.out, show n - i = n - (i + 1) + 1 by omega, rdEds, e]
                exact appR_app _ _ _)
              have HLN := Lib.hid (show (M ++ [mkEd kk vs []]).length = i + 1 ∧ p ≤ l.length ∧ i + 1 + (l.length - p) ≤ l.length by
                refine ⟨by rw [List.length_append, hM.out.1]; rfl, hp.out.2, ?_⟩
                have e : rdEd (l.drop at') = .inr (mkEd kk vs [], l.drop p) := by
                  rw [HCE.out, show textsN kk = 0 by unfold textsN; rw [if_neg h1]]
                  rfl
                obtain ⟨b1, b2, _⟩ := rdEd_of e
                have := edB_pos _ b2
                have e := congrArg List.length b1
                rw [List.length_append, List.length_drop, List.length_drop] at e
                have := hM.out.2
                have := hp.out
                omega)
              have hk8 : wd.cell? ⟨eb, 0, none⟩ = some (.int .i64 kk) := XD.out.cc.1
              go_upto_region 34 with (fail)
              clear g1 h1 hk8
              obtain ⟨x, hx⟩ : ∃ x, x = mkEd kk vs [] := ⟨_, rfl⟩
              rw [← hx] at XD HNX HLN
              clear hx
              obtain ⟨x0, x1, x2, x3, x4, x5⟩ := XD.out.cc
              obtain ⟨w9, hw9⟩ : ∃ w9, w9 = wd.alloc (.cells #[.int .i64 x.kind, .int .i64 x.file, .int .i64 x.lev, .int .i64 x.cnt, .string (bs x.low), .string (bs x.high)] 31) := ⟨_, rfl⟩
              have k9 : Below wd.heap.size wd w9 := by rw [hw9]; exact (Below.refl _ _).alloc (Nat.le_refl _) _
              have W9 := Lib.hid (OffRow.kept OD.out (w' := w9) fun k hk => k9.block k (OffRow.lt OD.out k hk).2)
              have HSR := Lib.hid (show Src Tryz.prog 6 22 (.slice (some ⟨wd.heap.size, 0, none⟩) 1 1) 1 (ecell x) w9 by
                have hb : w9.heap[wd.heap.size]? = some (.cells #[.int .i64 x.kind, .int .i64 x.file, .int .i64 x.lev, .int .i64 x.cnt, .string (bs x.low), .string (bs x.high)] 31 (0, 0)) := by
                  rw [hw9]
                  exact heap_new wd _
                exact src_block (size := 6) (cs := #[.int .i64 x.kind, .int .i64 x.file, .int .i64 x.lev, .int .i64 x.cnt, .string (bs x.low), .string (bs x.high)]) Tryz.underlying22 hb 1 1 rfl (ecell_one x))
              have HB9 := Lib.hid (show B ≤ w9.heap.size from Nat.le_trans HBD.out k9.size)
              have K9 := Lib.hid (KD.out.trans (k9.mono HBD.out))
              rw [hw9] at W9 HSR HB9
              have HW9 := Lib.hid hw9
              clear hw9 k9
              go_wp2_with (at_builtin; refine wpList_append_off rfl (.tmp 113) (.tmp 115) 22 rfl B 31 iE _ 6 64 Tryz.underlying22 HIE.out.1 HIE.out.2.1 HIE.out.2.2.1 HIE.out.2.2.2 rfl (.slice a3 i c3) i _ rfl W9.out (.slice (some ⟨wd.heap.size, 0, none⟩) 1 1) rfl 1 _ HSR.out ?q3 ?q4 HB9.out ?_)
              case q3 => unfold maxLen; omega
              case q4 => omega
              intro v8 w8 hr8 hg8 hat8
              rw [← HW9.out] at hg8
              have W8 := Lib.hid (show OffRow w8 B 31 6 v8 (i + 1) (flat ecell (M ++ [x])) by
                rw [flat_append, flat_one]
                exact hr8)
              have HRW := Lib.hid (show ∀ k, (Value.slice a3 i c3).ownBlock = some k → B ≤ k from fun k hk => (OffRow.lt OD.out k hk).1)
              have K8 := Lib.hid (show Below B w w8 from K9.out.trans ⟨hg8.os, hg8.tape, hg8.output, hg8.size, fun k hk => hg8.block k (Nat.lt_of_lt_of_le hk (by have := K9.out.size; have := HB.out; omega)) (fun e => by have := HRW.out k e.symm; omega)⟩)
              clear hr8 hg8 hat8 HSR x0 x1 x2 x3 x4 x5
              go_wp2_with fail
              go_roundw
              case rel => exact ⟨i + 1, p, M ++ [x], hlt, by go_num, by go_num, HLN, HNX, W8, K8⟩
              case measure => simp [intOf]; omega
      · obtain rfl : i = n := by omega
        have HEND := Lib.hid (show R = .inr (M, l.drop at') by
          rw [HRD.out, hA.out, Nat.sub_self]
          show Sum.inr (M ++ [], l.drop at') = _
          rw [List.append_nil])
        by_cases hat : at' < l.length
        · have q : (at' : Int) < (s.size : Int) := by omega
          have HZ3 := Lib.hid (show Z = (5, []) by
            rw [HZ.out, HEND.out]
            show (if l.drop at' = [] then _ else _) = _
            rw [if_neg (fun e => by have := congrArg List.length e; rw [List.length_drop] at this; simp at this; omega)])
          go_wp2
          go_ret2
          rw [HZ3.out]
          exact ⟨_, rfl, OffRow.nil _ _ _ _, hK.out⟩
        · have q : ¬ (at' : Int) < (s.size : Int) := by omega
          have HZ3 := Lib.hid (show Z = (0, M) by
            rw [HZ.out, HEND.out]
            show (if l.drop at' = [] then _ else _) = _
            rw [if_pos (List.drop_of_length_le (by omega))])
          go_wp2
          go_ret2
          rw [HZ3.out]
          exact ⟨_, rfl, by rw [hM.out.1]; exact hO.out, hK.out⟩
  · have q : (z == 0) = false := by simpa using hz0
    have q2 : (z != 0) = true := by simpa using hz0
    have HZ2 := Lib.hid (show Z = (z, []) by
      rw [HZ.out, HRR.out]
      unfold rdL
      rw [if_neg (by rw [← HC.out.1]; exact hz0), ← HC.out.1]
      rfl)
    go_wp2
    go_ret2
    rw [HZ2.out]
    exact ⟨_, rfl, OffRow.nil _ _ _ _, Below.refl _ _⟩
end Go.Proofs.YtgljjdldhnajdaaGreat
