/- The document's example: the law is awake. -/
import Derived.Test.YtbmihajbdobgbaaMemRef2
set_option linter.unusedVariables false
set_option maxRecDepth 100000
namespace Go.Proofs.Ytbmihajbdobgbaa.MI
open Go.RowKit

theorem pl_block {w : World} {b : Nat} {L : PL} {n : Nat} {cs : Array Value} (hb : w.heap[b]? = some (.cells cs 59 (0, 0))) (hc : cs.toList = pcells L) (hn : n = L.length) (hl : n ≤ 1000) : Pl w (.slice (some ⟨b, 0, none⟩) n n) L := by
  have hs : cs.size = n * 2 := by rw [← Array.length_toList, hc, pcells_len, hn]
  unfold Pl
  rw [← hn]
  refine ⟨by rw [pcells_len, hn], .inr ⟨b, 0, n, cs, rfl, Nat.zero_le _, hb, Nat.le_refl _, by unfold maxLen; omega, by omega, fun j hj => ?_⟩⟩
  rw [← hc]
  simp
set_option maxHeartbeats 4000000 in
theorem law_awake (w : World) : Calls Try.prog 7 #[] w fun e w' => e = .returned (.bool true) ∧ Below w.heap.size w w' := by
  have HP1 := Lib.hid (show ∀ y, Calls Try.prog 14 #[.agg #[.pointer none], .string ⟨#[98]⟩, .int .i64 1] y fun e w' => MapPost [([98], 1)] y e w' from fun y => map_Put (t := .nil) (k := [98]) (x := 1) (Lib.hid (IsM.nil y)) rfl (by simp [Tr.sz]))
  have HP2 := Lib.hid (show ∀ (t : Tr Int) u y, IsM y t → t.ptr = .pointer u → t.prs = [([98], 1)] → Calls Try.prog 14 #[.agg #[.pointer u], .string ⟨#[97]⟩, .int .i64 2] y fun e w' => MapPost [([97], 2), ([98], 1)] y e w' from fun t u y h1 h2 h3 => by
    have := map_Put (k := [97]) (x := 2) (Lib.hid h1) h2 (by rw [t.sz_prs, h3]; simp)
    rw [h3] at this
    exact this)
  have HI := Lib.hid (show ∀ (t : Tr Int) u v y, IsM y t → t.ptr = .pointer u → Pl y v t.prs → t.prs.length ≤ 2 → Calls Try.prog 13 #[.agg #[.pointer u], v, .string ⟨#[]⟩] y fun e w' => e = .returned (.bool true) ∧ Below y.heap.size y w' from fun t u v y h1 h2 h3 h4 => law_is (k := []) (Lib.hid h1) h2 (Lib.hid h3) (by rw [t.sz_prs]; omega))
  have HL := Lib.hid (show ∀ y, Calls Try.prog 12 #[.agg #[.pointer none]] y fun e w' => e = .returned (.int .i64 0) ∧ Below y.heap.size y w' from fun y => map_Len (t := .nil) (Lib.hid trivial) rfl)
  obtain ⟨w1, hw1⟩ : ∃ w1, w1 = w.alloc (.cells #[.pointer none] 27) := ⟨_, rfl⟩
  have K1 := Lib.hid (show Below w.heap.size w w1 by rw [hw1]; exact (Below.refl _ _).alloc (Nat.le_refl _) _)
  have C1 := Lib.hid (show w1.cell? ⟨w.heap.size, 0, none⟩ = some (.pointer none) by rw [hw1, World.cell?_alloc_mark]; rfl)
  have HW := Lib.hid hw1
  have hsz : w.heap.size < w1.heap.size := by rw [hw1]; simp
  have HS := Lib.hid hsz
  clear hw1 hsz
  go_enter Try.func7, Try.ntmps7
  go_upto_region 2 with (fail)
  rw [← HW.out]
  have c1 := C1.out
  go_wp2_with fail
  refine (HP1.out _).mono ?_
  rintro e y1 ⟨t1, u1, e1, rfl, M1, B1, L1⟩
  have T1 := Lib.hid (And.intro e1 (And.intro M1 L1))
  have K2 := Lib.hid (K1.out.trans (B1.mono K1.out.size))
  have C2 := Lib.hid (show y1.cell? ⟨w.heap.size, 0, none⟩ = some (.pointer none) by rw [B1.cell (p := ⟨w.heap.size, 0, none⟩) HS.out]; exact C1.out)
  obtain ⟨y2, hy2⟩ : ∃ y2, y2 = y1.alloc (.cells #[.pointer u1] 27) := ⟨_, rfl⟩
  have B2 := Lib.hid (show Below y1.heap.size y1 y2 by rw [hy2]; exact (Below.refl _ _).alloc (Nat.le_refl _) _)
  have D2 := Lib.hid (show y2.cell? ⟨y1.heap.size, 0, none⟩ = some (.pointer u1) by rw [hy2, World.cell?_alloc_mark]; rfl)
  have S1 := Lib.hid (show w.heap.size < y1.heap.size from Nat.lt_of_lt_of_le HS.out B1.size)
  have S2 := Lib.hid (show y1.heap.size < y2.heap.size by rw [hy2]; simp)
  have HY := Lib.hid hy2
  clear e1 M1 B1 L1 hy2 c1
  go_upto_region 3 with (fail)
  rw [← HY.out]
  have d2 := D2.out
  have HPX := Lib.hid (HP2.out t1 u1 y2 (T1.out.2.1.seen B2.out) T1.out.1 T1.out.2.2)
  go_wp2_with fail
  refine HPX.out.mono ?_
  rintro e y3 ⟨t3, u3, e3, rfl, M3, B3, L3⟩
  have T3 := Lib.hid (And.intro e3 (And.intro M3 L3))
  have K3 := Lib.hid ((K2.out.trans (B2.out.mono K2.out.size)).trans (B3.mono (Nat.le_trans K2.out.size B2.out.size)))
  have C3 := Lib.hid (show y3.cell? ⟨w.heap.size, 0, none⟩ = some (.pointer none) by rw [B3.cell (p := ⟨w.heap.size, 0, none⟩) (Nat.lt_trans S1.out S2.out), B2.out.cell (p := ⟨w.heap.size, 0, none⟩) S1.out]; exact C2.out)
  have D3 := Lib.hid (show y3.cell? ⟨y1.heap.size, 0, none⟩ = some (.pointer u1) by rw [B3.cell (p := ⟨y1.heap.size, 0, none⟩) S2.out]; exact D2.out)
  have M31 := Lib.hid ((T1.out.2.1.seen B2.out).seen B3)
  obtain ⟨y4, hy4⟩ : ∃ y4, y4 = y3.alloc (.cells #[.pointer u3] 27) := ⟨_, rfl⟩
  have B4 := Lib.hid (show Below y3.heap.size y3 y4 by rw [hy4]; exact (Below.refl _ _).alloc (Nat.le_refl _) _)
  have E4 := Lib.hid (show y4.cell? ⟨y3.heap.size, 0, none⟩ = some (.pointer u3) by rw [hy4, World.cell?_alloc_mark]; rfl)
  have S3 := Lib.hid (show y2.heap.size ≤ y3.heap.size from B3.size)
  have HY4 := Lib.hid hy4
  clear e3 M3 B3 L3 hy4 d2
  go_upto_region 4 with (fail)
  rw [← HY4.out]
  have e4 := E4.out
  have C4 := Lib.hid (show y4.cell? ⟨w.heap.size, 0, none⟩ = some (.pointer none) by rw [B4.out.cell (p := ⟨w.heap.size, 0, none⟩) (by have := S1.out; have := S2.out; have := S3.out; simp only; omega)]; exact C3.out)
  have D4 := Lib.hid (show y4.cell? ⟨y1.heap.size, 0, none⟩ = some (.pointer u1) by rw [B4.out.cell (p := ⟨y1.heap.size, 0, none⟩) (by have := S2.out; have := S3.out; simp only; omega)]; exact D3.out)
  have K4 := Lib.hid (K3.out.trans (B4.out.mono K3.out.size))
  have HIX := Lib.hid (show Calls Try.prog 13 #[.agg #[.pointer u3], .slice (some ⟨y4.heap.size, 0, none⟩) 2 2, .string ⟨#[]⟩] (y4.alloc (.cells #[.string ⟨#[97]⟩, .int .i64 2, .string ⟨#[98]⟩, .int .i64 1] 59)) fun e w' => e = .returned (.bool true) ∧ Below (y4.alloc (.cells #[.string ⟨#[97]⟩, .int .i64 2, .string ⟨#[98]⟩, .int .i64 1] 59)).heap.size (y4.alloc (.cells #[.string ⟨#[97]⟩, .int .i64 2, .string ⟨#[98]⟩, .int .i64 1] 59)) w' from
    HI.out t3 u3 _ _ ((T3.out.2.1.seen B4.out).seen ((Below.refl _ _).alloc (Nat.le_refl _) _)) T3.out.1 (by rw [T3.out.2.2]; exact pl_block (heap_new _ _) rfl rfl (by omega)) (by rw [T3.out.2.2]; simp))
  go_wp2_with fail
  refine HIX.out.mono ?_
  rintro e y5 ⟨rfl, B5a⟩
  have B5 := Lib.hid (show Below y4.heap.size y4 y5 from ((Below.refl _ y4).alloc (Nat.le_refl _) _).trans (B5a.mono (by simp)))
  have s4 : y3.heap.size ≤ y4.heap.size := B4.out.size
  have D5 := Lib.hid (show y5.cell? ⟨y1.heap.size, 0, none⟩ = some (.pointer u1) by rw [B5.out.cell (p := ⟨y1.heap.size, 0, none⟩) (by have := S2.out; have := S3.out; simp only; omega)]; exact D4.out)
  have C5 := Lib.hid (show y5.cell? ⟨w.heap.size, 0, none⟩ = some (.pointer none) by rw [B5.out.cell (p := ⟨w.heap.size, 0, none⟩) (by have := S1.out; have := S2.out; have := S3.out; simp only; omega)]; exact C4.out)
  have HIY := Lib.hid (show Calls Try.prog 13 #[.agg #[.pointer u1], .slice (some ⟨y5.heap.size, 0, none⟩) 1 1, .string ⟨#[]⟩] (y5.alloc (.cells #[.string ⟨#[98]⟩, .int .i64 1] 59)) fun e w' => e = .returned (.bool true) ∧ Below (y5.alloc (.cells #[.string ⟨#[98]⟩, .int .i64 1] 59)).heap.size (y5.alloc (.cells #[.string ⟨#[98]⟩, .int .i64 1] 59)) w' from
    HI.out t1 u1 _ _ (((M31.out.seen B4.out).seen B5.out).seen ((Below.refl _ _).alloc (Nat.le_refl _) _)) T1.out.1 (by rw [T1.out.2.2]; exact pl_block (heap_new _ _) rfl rfl (by omega)) (by rw [T1.out.2.2]; simp))
  have d5 := D5.out
  clear B5a e4
  go_wp2_with fail
  refine HIY.out.mono ?_
  rintro e y6 ⟨rfl, B6a⟩
  have B6 := Lib.hid (show Below y5.heap.size y5 y6 from ((Below.refl _ y5).alloc (Nat.le_refl _) _).trans (B6a.mono (by simp)))
  have s5 : y4.heap.size ≤ y5.heap.size := B5.out.size
  have c6 : y6.cell? ⟨w.heap.size, 0, none⟩ = some (.pointer none) := by rw [B6.out.cell (p := ⟨w.heap.size, 0, none⟩) (by have := S1.out; have := S2.out; have := S3.out; simp only; omega)]; exact C5.out
  clear B6a d5 s4
  go_wp2_with fail
  refine (HL.out _).mono ?_
  rintro e y7 ⟨rfl, B7⟩
  have K7 := Lib.hid (((K4.out.trans (B5.out.mono K4.out.size)).trans (B6.out.mono (Nat.le_trans K4.out.size s5))).trans (B7.mono (Nat.le_trans (Nat.le_trans K4.out.size s5) B6.out.size)))
  clear B7 c6 s5
  go_wp2_with fail
  go_ret
  exact ⟨rfl, K7.out⟩
end Go.Proofs.Ytbmihajbdobgbaa.MI
