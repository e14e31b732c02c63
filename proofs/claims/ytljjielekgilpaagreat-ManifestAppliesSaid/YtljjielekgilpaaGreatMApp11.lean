/- Texts put together: ManWhole, ManWhole2, ManWhole3, ManInsPlain, ManRefPlain, QHeld, QLate -/
import Derived.Test.YtljjielekgilpaaGreatMApp10
import Derived.Test.YtljjielekgilpaaGreatMApp08
import Derived.Test.YtljjielekgilpaaGreatMApp02
import Derived.Test.YtljjielekgilpaaGreatMApp00
import Derived.Test.YtljjielekgilpaaGreatMApp06
import Derived.OrdersHeld
import Derived.Deep.RegionHeld
/- The program's Whole: the edits that make a state of nothing. -/
set_option linter.unusedVariables false
set_option maxRecDepth 100000
namespace Go.Proofs.YtljjielekgilpaaGreat
open Go.RowKit Go.Maps Go.WideShapes Go.ChangeMaps

def nextL (s : St) : List Ed := if s.next = 0 then [] else [⟨7, s.next, 0, 0, [], []⟩]
def lgEd (f : Int) : Ed := ⟨5, f, 0, 0, [], []⟩
def soEd (t : So) : Ed := ⟨3, t.file, t.tier, 0, [], []⟩
def tbEd (t : Tb) : Ed := ⟨1, t.file, t.lev, t.cnt, t.low, t.high⟩
/-- The whole of a state. -/
def wholeL (s : St) : List Ed := nextL s ++ s.logs.map lgEd ++ s.stos.map soEd ++ s.tabs.map tbEd
theorem nextL_len (s : St) : (nextL s).length ≤ 1 := by unfold nextL; split <;> simp
theorem own_ed (w : World) (B : Nat) : OffRow w B 44 6 (.slice none 0 0) ([] : List Ed).length (flat ecell []) := OffRow.nil _ _ _ _
set_option maxHeartbeats 4000000 in
theorem man_Whole {T : Nat → Prop} {w : World} {tv sv lv : Value} {s : St} (h : Hid (StV T w tv sv lv s)) (hs : Hid (s.small 1000000000)) :
    Calls Tryz.prog 103 #[.agg #[tv, sv, lv, .int .i64 s.next]] w fun e w' => ∃ v, e = .returned v ∧ OffRow w' w.heap.size 44 6 v (wholeL s).length (flat ecell (wholeL s)) ∧ Below w.heap.size w w' := by
  obtain ⟨ta, tc, rfl⟩ := RdL.slice h.out.tabs
  obtain ⟨sa, sc, rfl⟩ := RdL.slice h.out.stos
  obtain ⟨la, lc, rfl⟩ := RdL.slice h.out.logs
  have hsm := hs.out
  unfold St.small at hsm
  obtain ⟨nt, hnt⟩ : ∃ n, n = s.tabs.length := ⟨_, rfl⟩
  obtain ⟨ns, hns⟩ : ∃ n, n = s.stos.length := ⟨_, rfl⟩
  obtain ⟨nl, hnl⟩ : ∃ n, n = s.logs.length := ⟨_, rfl⟩
  obtain ⟨nx, hnx⟩ : ∃ n, n = s.next := ⟨_, rfl⟩
  have ht1 : nt ≤ 1000000000 := by omega
  have hs1 : ns ≤ 1000000000 := by omega
  have hl1 : nl ≤ 1000000000 := by omega
  have HT := Lib.hid h.out.tabs
  have HS := Lib.hid h.out.stos
  have HL := Lib.hid h.out.logs
  rw [← hnt] at HT ⊢
  rw [← hns] at HS ⊢
  rw [← hnl] at HL ⊢
  rw [← hnx]
  have HN := Lib.hid (And.intro hnt (And.intro hns hnl))
  have HNX0 := Lib.hid hnx
  have HQ := Lib.hid (show s.tabs.length + s.stos.length + s.logs.length ≤ 1000000000 ∧ (nextL s).length ≤ 1 from ⟨hsm, nextL_len s⟩)
  obtain ⟨B, hB⟩ : ∃ B, B = w.heap.size := ⟨_, rfl⟩
  rw [← hB]
  have HB := Lib.hid hB
  obtain ⟨w1, hw1⟩ : ∃ w1, w.alloc (.cells #[.slice ta nt tc, .slice sa ns sc, .slice la nl lc, .int .i64 nx] 29) = w1 := ⟨_, rfl⟩
  have K1 := Lib.hid (show Below B w w1 by rw [← hw1, hB]; exact (Below.refl _ _).alloc (Nat.le_refl _) _)
  have X1 := Lib.hid (show C4 B (.slice ta nt tc) (.slice sa ns sc) (.slice la nl lc) (.int .i64 nx) w1 by rw [← hw1, hB]; exact heap_new w _)
  have HW1 := Lib.hid hw1
  obtain ⟨i0, hi0, hz0, hz1, hz2⟩ := info_parts infoEd
  have HI := Lib.hid (And.intro hi0 (And.intro hz0 (And.intro hz1 hz2)))
  clear hw1 hB hnt hns hnl hnx hsm hi0 hz0 hz1 hz2
  obtain ⟨r0, r1, r2, r3⟩ := X1.out.c0
  go_enter Tryz.func103, Tryz.ntmps103
  go_upto_region 1 with (fail)
  rw [HW1.out, ← HB.out]
  by_cases hz : nx = 0
  case' pos =>
    have HO0 := Lib.hid (show OffRow w1 B 44 6 (.slice none 0 0) (nextL s ++ (s.logs.take 0).map lgEd).length (flat ecell (nextL s ++ (s.logs.take 0).map lgEd)) by
      have e : nextL s ++ (s.logs.take 0).map lgEd = [] := by unfold nextL; rw [if_pos (by rw [← HNX0.out]; exact hz)]; rfl
      rw [e]
      exact own_ed _ _)
    have HX0 := X1
    have HK0 := K1
    have q : (nx != 0) = false := by simp [hz]
    clear hz
    go_wp2_with fail
    clear r0 r1 r2 r3 q
  case' neg =>
    have HE := Lib.hid (show nextL s ++ (s.logs.take 0).map lgEd = [] ++ [⟨7, nx, 0, 0, [], []⟩] by unfold nextL; rw [if_neg (by rw [← HNX0.out]; exact hz), HNX0.out]; rfl)
    have q : (nx != 0) = true := by simpa using hz
    obtain ⟨wr, hwr⟩ : ∃ wr, wr = w1 := ⟨_, rfl⟩
    rw [← hwr] at X1 K1 r0 r1 r2 r3 ⊢
    obtain ⟨a3, ha3⟩ : ∃ a : Option Addr, a = none := ⟨_, rfl⟩
    obtain ⟨N, hN0⟩ : ∃ N : Nat, N = 0 := ⟨_, rfl⟩
    obtain ⟨c3, hc3⟩ : ∃ c : Nat, c = 0 := ⟨_, rfl⟩
    obtain ⟨LL, hLL⟩ : ∃ LL : List Ed, LL = [] := ⟨_, rfl⟩
    have HO := Lib.hid (show OffRow wr B 44 6 (.slice a3 N c3) N (flat ecell LL) by rw [ha3, hN0, hc3, hLL]; exact own_ed _ _)
    have HNN := Lib.hid (show N = LL.length by rw [hN0, hLL]; rfl)
    have HX := X1
    have hK := K1
    have HZZ := Lib.hid (And.intro ha3 (And.intro hN0 hc3))
    clear hz hwr
    subst ha3 hN0 hc3
    obtain ⟨w4, hw4⟩ : ∃ w4, w4 = wr.alloc (.cells #[.int .i64 7, .int .i64 nx, .int .i64 0, .int .i64 0, .string { data := #[] }, .string { data := #[] }] 44) := ⟨_, rfl⟩
    have O4 := Lib.hid (show OffRow w4 B 44 6 (.slice none 0 0) 0 (flat ecell LL) by rw [hw4]; exact HO.out.allocd _)
    have K4 := Lib.hid (show Below wr.heap.size wr w4 by rw [hw4]; exact (Below.refl _ _).alloc (Nat.le_refl _) _)
    have HSR := Lib.hid (show Src Tryz.prog 6 30 (.slice (some ⟨wr.heap.size, 0, none⟩) 1 1) 1 (ecell (⟨7, nx, 0, 0, [], []⟩ : Ed)) w4 by
      have hb : w4.heap[wr.heap.size]? = some (.cells #[.int .i64 7, .int .i64 nx, .int .i64 0, .int .i64 0, .string { data := #[] }, .string { data := #[] }] 44 (0, 0)) := by
        rw [hw4]
        exact heap_new wr _
      exact src_block (size := 6) (cs := #[.int .i64 7, .int .i64 nx, .int .i64 0, .int .i64 0, .string { data := #[] }, .string { data := #[] }]) Tryz.underlying30 hb 1 1 rfl (ecell_one (⟨7, nx, 0, 0, [], []⟩ : Ed)))
    have HB4 := Lib.hid (show B ≤ w4.heap.size by have := K4.out.size; have := heap_lt HX.out; omega)
    rw [hw4] at O4 HSR HB4
    have HW4 := Lib.hid hw4
    clear hw4
    go_wp2_with (at_builtin; refine wpList_append_off rfl (.tmp 13) (.tmp 17) 30 rfl B 44 i0 _ 6 64 Tryz.underlying30 HI.out.1 HI.out.2.1 HI.out.2.2.1 HI.out.2.2.2 rfl (.slice none 0 0) 0 _ rfl O4.out (.slice (some ⟨wr.heap.size, 0, none⟩) 1 1) rfl 1 _ HSR.out (by unfold maxLen; omega) (by omega) HB4.out ?_)
    intro v7 w7 hr7 hg7 hat7
    rw [← HW4.out] at hg7
    have O7 := Lib.hid (show OffRow w7 B 44 6 v7 (LL ++ [(⟨7, nx, 0, 0, [], []⟩ : Ed)]).length (flat ecell (LL ++ [(⟨7, nx, 0, 0, [], []⟩ : Ed)])) by
      rw [flat_append, flat_one, List.length_append, ← HNN.out]
      rw [hLL]; exact hr7)
    have K7 := Lib.hid ((hK.out.trans (K4.out.mono (Nat.le_of_lt (heap_lt HX.out)))).grown hg7 (by rw [HW4.out]; exact HB4.out) (fun j hj => (OffRow.lt HO.out j hj).1))
    have J7 := Lib.hid (show C4 B _ _ _ _ w7 from
      (hg7.block B (Nat.lt_of_lt_of_le (heap_lt HX.out) K4.out.size) (fun e => by
        obtain ⟨cur, hc⟩ := OffRow.tag HO.out e.symm
        have hx := HX.out
        unfold C4 at hx
        rw [hx] at hc
        simp at hc)).trans ((K4.out.block B (heap_lt HX.out)).trans HX.out))
    clear hr7 hg7 hat7 O4 HSR
    have HO0 := Lib.hid (show OffRow w7 B 44 6 v7 (nextL s ++ (s.logs.take 0).map lgEd).length (flat ecell (nextL s ++ (s.logs.take 0).map lgEd)) by
      have := O7.out
      rw [hLL] at this
      rw [HE.out]
      exact this)
    have HX0 := J7
    have HK0 := K7
    obtain ⟨r0', r1', r2', r3'⟩ := J7.out.c0
    go_wp2_with fail
    clear r0 r1 r2 r3 r0' r1' r2' r3' q
  all_goals
    go_loopw [3, 22] (fun v iv wr => ∃ i : Nat, i ≤ nl ∧ iv = .int .i64 (i : Int) ∧ Hid (OffRow wr B 44 6 v (nextL s ++ (s.logs.take i).map lgEd).length (flat ecell (nextL s ++ (s.logs.take i).map lgEd))) ∧ Hid (C4 B (.slice ta nt tc) (.slice sa ns sc) (.slice la nl lc) (.int .i64 nx) wr) ∧ Hid (Below B w wr)) (fun v iv wr => nl - (intOf iv).toNat)
    case atStart => exact ⟨0, Nat.zero_le _, rfl, HO0, HX0, HK0⟩
    case round =>
      obtain ⟨i, hi, rfl, hO, HX, hK⟩ := hrel
      obtain ⟨LL, hLL⟩ : ∃ LL, LL = nextL s ++ (s.logs.take i).map lgEd := ⟨_, rfl⟩
      obtain ⟨N, hN⟩ : ∃ N, N = LL.length := ⟨_, rfl⟩
      have hN9 : N ≤ 4000000000 := by
        rw [hN, hLL]
        simp only [List.length_append, List.length_map, List.length_take]
        have := HQ.out
        omega
      have HNN := Lib.hid hN
      have HLL := Lib.hid hLL
      have HO := Lib.hid (show OffRow wr B 44 6 _ N (flat ecell LL) by have := hO.out; rw [← hLL, ← hN] at this; exact this)
      obtain ⟨a3, c3, rfl⟩ := OffRow.slice HO.out
      clear hN hO hLL
      obtain ⟨r0, r1, r2, r3⟩ := HX.out.c0
      by_cases hlt : i < nl
      · have hlt' : (i : Int) < (nl : Int) := by omega
        obtain ⟨y, hy⟩ : ∃ y, s.logs[i]? = some y := ⟨_, List.getElem?_eq_getElem (by have := HN.out; omega)⟩
        obtain ⟨b, off, rfl, ht, hb2, hc⟩ := RdL.atI HL.out hy hlt
        have hcr : ∀ i' u, (icell y)[i']? = some u → wr.cell? ⟨b, off + i * 1 + i', none⟩ = some u := fun i' u hu => by
          rw [← hc i' u hu]
          simp only [World.cell?, hK.out.block b (by rw [HB.out]; exact hb2)]
        have y0 := hcr 0 _ rfl
        simp only [Nat.mul_one, Nat.add_zero] at y0
        have HNX := Lib.hid (show LL ++ [(lgEd y)] = nextL s ++ (s.logs.take (i + 1)).map lgEd by
          rw [HLL.out, List.take_add_one, hy, List.map_append, List.append_assoc]
          rfl)
        clear hc hcr hy
        obtain ⟨w4, hw4⟩ : ∃ w4, w4 = wr.alloc (.cells #[.int .i64 5, .int .i64 y, .int .i64 0, .int .i64 0, .string { data := #[] }, .string { data := #[] }] 44) := ⟨_, rfl⟩
        have O4 := Lib.hid (show OffRow w4 B 44 6 (.slice a3 N c3) N (flat ecell LL) by rw [hw4]; exact HO.out.allocd _)
        have K4 := Lib.hid (show Below wr.heap.size wr w4 by rw [hw4]; exact (Below.refl _ _).alloc (Nat.le_refl _) _)
        have HSR := Lib.hid (show Src Tryz.prog 6 30 (.slice (some ⟨wr.heap.size, 0, none⟩) 1 1) 1 (ecell (lgEd y)) w4 by
          have hb : w4.heap[wr.heap.size]? = some (.cells #[.int .i64 5, .int .i64 y, .int .i64 0, .int .i64 0, .string { data := #[] }, .string { data := #[] }] 44 (0, 0)) := by
            rw [hw4]
            exact heap_new wr _
          exact src_block (size := 6) (cs := #[.int .i64 5, .int .i64 y, .int .i64 0, .int .i64 0, .string { data := #[] }, .string { data := #[] }]) Tryz.underlying30 hb 1 1 rfl (ecell_one (lgEd y)))
        have HB4 := Lib.hid (show B ≤ w4.heap.size by have := K4.out.size; have := heap_lt HX.out; omega)
        rw [hw4] at O4 HSR HB4
        have HW4 := Lib.hid hw4
        clear hw4
        go_wp2_with (at_builtin; refine wpList_append_off rfl (.tmp 26) (.tmp 29) 30 rfl B 44 i0 _ 6 64 Tryz.underlying30 HI.out.1 HI.out.2.1 HI.out.2.2.1 HI.out.2.2.2 rfl (.slice a3 N c3) N _ rfl O4.out (.slice (some ⟨wr.heap.size, 0, none⟩) 1 1) rfl 1 _ HSR.out (by unfold maxLen; omega) (by omega) HB4.out ?_)
        intro v7 w7 hr7 hg7 hat7
        rw [← HW4.out] at hg7
        have O7 := Lib.hid (show OffRow w7 B 44 6 v7 (LL ++ [(lgEd y)]).length (flat ecell (LL ++ [(lgEd y)])) by
          rw [flat_append, flat_one, List.length_append, ← HNN.out]
          exact hr7)
        have K7 := Lib.hid ((hK.out.trans (K4.out.mono (Nat.le_of_lt (heap_lt HX.out)))).grown hg7 (by rw [HW4.out]; exact HB4.out) (fun j hj => (OffRow.lt HO.out j hj).1))
        have J7 := Lib.hid (show C4 B _ _ _ _ w7 from
          (hg7.block B (Nat.lt_of_lt_of_le (heap_lt HX.out) K4.out.size) (fun e => by
            obtain ⟨cur, hc⟩ := OffRow.tag HO.out e.symm
            have hx := HX.out
            unfold C4 at hx
            rw [hx] at hc
            simp at hc)).trans ((K4.out.block B (heap_lt HX.out)).trans HX.out))
        clear hr7 hg7 hat7 O4 HSR
        have OR := Lib.hid (show OffRow w7 B 44 6 v7 (nextL s ++ (s.logs.take (i + 1)).map lgEd).length (flat ecell (nextL s ++ (s.logs.take (i + 1)).map lgEd)) by rw [← HNX.out]; exact O7.out)
        clear O7
        go_wp2_with fail
        go_roundw
        case rel => first | exact ⟨i + 1, hlt, by go_num, OR, J7, K7⟩ | exact ⟨_, _, _, _, _, _, _, _, _, _, _, _, _, _, _, ⟨i + 1, hlt, by go_num, OR, J7, K7⟩, rfl⟩ | exact ⟨_, _, _, _, _, _, _, _, _, _, _, _, _, _, _, _, _, _, _, _, _, ⟨i + 1, hlt, by go_num, OR, J7, K7⟩, rfl⟩
        case measure => simp [intOf]; omega
      · have hge : (nl : Int) ≤ (i : Int) := by omega
        have hin : i = nl := by omega
        have HFIN := Lib.hid (show LL = nextL s ++ s.logs.map lgEd by rw [HLL.out, List.take_of_length_le (by have := HN.out; omega)]; try rfl)
        have HO0 := Lib.hid (show OffRow wr B 44 6 (.slice a3 N c3) (nextL s ++ s.logs.map lgEd ++ (s.stos.take 0).map soEd).length (flat ecell (nextL s ++ s.logs.map lgEd ++ (s.stos.take 0).map soEd)) by
          have e : nextL s ++ s.logs.map lgEd ++ (s.stos.take 0).map soEd = LL := by rw [HFIN.out]; simp
          rw [e, ← HNN.out]
          exact HO.out)
        have HX0 := HX
        have HK0 := hK
        clear HO HX hK hin HNN HLL HFIN hN9 hi
        go_wp2_with fail
        clear r0 r1 r2 r3 hlt hge
        go_loopw [3, 35] (fun v iv wr => ∃ i : Nat, i ≤ ns ∧ iv = .int .i64 (i : Int) ∧ Hid (OffRow wr B 44 6 v (nextL s ++ s.logs.map lgEd ++ (s.stos.take i).map soEd).length (flat ecell (nextL s ++ s.logs.map lgEd ++ (s.stos.take i).map soEd))) ∧ Hid (C4 B (.slice ta nt tc) (.slice sa ns sc) (.slice la nl lc) (.int .i64 nx) wr) ∧ Hid (Below B w wr)) (fun v iv wr => ns - (intOf iv).toNat)
        case atStart => exact ⟨0, Nat.zero_le _, rfl, HO0, HX0, HK0⟩
        case round =>
          obtain ⟨i, hi, rfl, hO, HX, hK⟩ := hrel
          obtain ⟨LL, hLL⟩ : ∃ LL, LL = nextL s ++ s.logs.map lgEd ++ (s.stos.take i).map soEd := ⟨_, rfl⟩
          obtain ⟨N, hN⟩ : ∃ N, N = LL.length := ⟨_, rfl⟩
          have hN9 : N ≤ 4000000000 := by
            rw [hN, hLL]
            simp only [List.length_append, List.length_map, List.length_take]
            have := HQ.out
            omega
          have HNN := Lib.hid hN
          have HLL := Lib.hid hLL
          have HO := Lib.hid (show OffRow wr B 44 6 _ N (flat ecell LL) by have := hO.out; rw [← hLL, ← hN] at this; exact this)
          obtain ⟨a3, c3, rfl⟩ := OffRow.slice HO.out
          clear hN hO hLL
          obtain ⟨r0, r1, r2, r3⟩ := HX.out.c0
          by_cases hlt : i < ns
          · have hlt' : (i : Int) < (ns : Int) := by omega
            obtain ⟨y, hy⟩ : ∃ y, s.stos[i]? = some y := ⟨_, List.getElem?_eq_getElem (by have := HN.out; omega)⟩
            obtain ⟨b, off, rfl, ht, hb2, hc⟩ := RdL.atS HS.out hy hlt
            have hcr : ∀ i' u, (socell y)[i']? = some u → wr.cell? ⟨b, off + i * 2 + i', none⟩ = some u := fun i' u hu => by
              rw [← hc i' u hu]
              simp only [World.cell?, hK.out.block b (by rw [HB.out]; exact hb2)]
            have y0 := hcr 0 _ rfl
            simp only [Nat.mul_one, Nat.add_zero] at y0
            have y1 := hcr 1 _ rfl
            have HNX := Lib.hid (show LL ++ [(soEd y)] = nextL s ++ s.logs.map lgEd ++ (s.stos.take (i + 1)).map soEd by
              rw [HLL.out, List.take_add_one, hy, List.map_append, List.append_assoc]
              rfl)
            clear hc hcr hy
            obtain ⟨w4, hw4⟩ : ∃ w4, w4 = (wr.alloc (.cells #[.int .i64 y.file, .int .i64 y.tier] 88)).alloc (.cells #[.int .i64 3, .int .i64 y.file, .int .i64 y.tier, .int .i64 0, .string { data := #[] }, .string { data := #[] }] 44) := ⟨_, rfl⟩
            have O4 := Lib.hid (show OffRow w4 B 44 6 (.slice a3 N c3) N (flat ecell LL) by rw [hw4]; exact (HO.out.allocd _).allocd _)
            have K4 := Lib.hid (show Below wr.heap.size wr w4 by rw [hw4]; exact ((Below.refl _ _).alloc (Nat.le_refl _) _).alloc (by simp) _)
            have HSR := Lib.hid (show Src Tryz.prog 6 30 (.slice (some ⟨wr.heap.size + 1, 0, none⟩) 1 1) 1 (ecell (soEd y)) w4 by
              have hb : w4.heap[wr.heap.size + 1]? = some (.cells #[.int .i64 3, .int .i64 y.file, .int .i64 y.tier, .int .i64 0, .string { data := #[] }, .string { data := #[] }] 44 (0, 0)) := by
                rw [hw4]
                have := heap_new (wr.alloc (.cells #[.int .i64 y.file, .int .i64 y.tier] 88)) (.cells #[.int .i64 3, .int .i64 y.file, .int .i64 y.tier, .int .i64 0, .string { data := #[] }, .string { data := #[] }] 44)
                simpa using this
              exact src_block (size := 6) (cs := #[.int .i64 3, .int .i64 y.file, .int .i64 y.tier, .int .i64 0, .string { data := #[] }, .string { data := #[] }]) Tryz.underlying30 hb 1 1 rfl (ecell_one (soEd y)))
            have HB4 := Lib.hid (show B ≤ w4.heap.size by have := K4.out.size; have := heap_lt HX.out; omega)
            rw [hw4] at O4 HSR HB4
            have HW4 := Lib.hid hw4
            clear hw4
            go_wp2_with (at_builtin; refine wpList_append_off rfl (.tmp 39) (.tmp 45) 30 rfl B 44 i0 _ 6 64 Tryz.underlying30 HI.out.1 HI.out.2.1 HI.out.2.2.1 HI.out.2.2.2 rfl (.slice a3 N c3) N _ rfl O4.out (.slice (some ⟨wr.heap.size + 1, 0, none⟩) 1 1) rfl 1 _ HSR.out (by unfold maxLen; omega) (by omega) HB4.out ?_)
            intro v7 w7 hr7 hg7 hat7
            rw [← HW4.out] at hg7
            have O7 := Lib.hid (show OffRow w7 B 44 6 v7 (LL ++ [(soEd y)]).length (flat ecell (LL ++ [(soEd y)])) by
              rw [flat_append, flat_one, List.length_append, ← HNN.out]
              exact hr7)
            have K7 := Lib.hid ((hK.out.trans (K4.out.mono (Nat.le_of_lt (heap_lt HX.out)))).grown hg7 (by rw [HW4.out]; exact HB4.out) (fun j hj => (OffRow.lt HO.out j hj).1))
            have J7 := Lib.hid (show C4 B _ _ _ _ w7 from
              (hg7.block B (Nat.lt_of_lt_of_le (heap_lt HX.out) K4.out.size) (fun e => by
                obtain ⟨cur, hc⟩ := OffRow.tag HO.out e.symm
                have hx := HX.out
                unfold C4 at hx
                rw [hx] at hc
                simp at hc)).trans ((K4.out.block B (heap_lt HX.out)).trans HX.out))
            clear hr7 hg7 hat7 O4 HSR
            have OR := Lib.hid (show OffRow w7 B 44 6 v7 (nextL s ++ s.logs.map lgEd ++ (s.stos.take (i + 1)).map soEd).length (flat ecell (nextL s ++ s.logs.map lgEd ++ (s.stos.take (i + 1)).map soEd)) by rw [← HNX.out]; exact O7.out)
            clear O7
            go_wp2_with fail
            go_roundw
            case rel => first | exact ⟨i + 1, hlt, by go_num, OR, J7, K7⟩ | exact ⟨_, _, _, _, _, _, _, _, _, _, _, _, _, _, _, ⟨i + 1, hlt, by go_num, OR, J7, K7⟩, rfl⟩ | exact ⟨_, _, _, _, _, _, _, _, _, _, _, _, _, _, _, _, _, _, _, _, _, ⟨i + 1, hlt, by go_num, OR, J7, K7⟩, rfl⟩
            case measure => simp [intOf]; omega
          · have hge : (ns : Int) ≤ (i : Int) := by omega
            have hin : i = ns := by omega
            have HFIN := Lib.hid (show LL = nextL s ++ s.logs.map lgEd ++ s.stos.map soEd by rw [HLL.out, List.take_of_length_le (by have := HN.out; omega)]; try rfl)
            have HO0 := Lib.hid (show OffRow wr B 44 6 (.slice a3 N c3) (nextL s ++ s.logs.map lgEd ++ s.stos.map soEd ++ (s.tabs.take 0).map tbEd).length (flat ecell (nextL s ++ s.logs.map lgEd ++ s.stos.map soEd ++ (s.tabs.take 0).map tbEd)) by
              have e : nextL s ++ s.logs.map lgEd ++ s.stos.map soEd ++ (s.tabs.take 0).map tbEd = LL := by rw [HFIN.out]; simp
              rw [e, ← HNN.out]
              exact HO.out)
            have HX0 := HX
            have HK0 := hK
            clear HO HX hK hin HNN HLL HFIN hN9 hi
            go_wp2_with fail
            clear r0 r1 r2 r3 hlt hge
            go_loopw [3, 51] (fun v iv wr => ∃ i : Nat, i ≤ nt ∧ iv = .int .i64 (i : Int) ∧ Hid (OffRow wr B 44 6 v (nextL s ++ s.logs.map lgEd ++ s.stos.map soEd ++ (s.tabs.take i).map tbEd).length (flat ecell (nextL s ++ s.logs.map lgEd ++ s.stos.map soEd ++ (s.tabs.take i).map tbEd))) ∧ Hid (C4 B (.slice ta nt tc) (.slice sa ns sc) (.slice la nl lc) (.int .i64 nx) wr) ∧ Hid (Below B w wr)) (fun v iv wr => nt - (intOf iv).toNat)
            case atStart => exact ⟨0, Nat.zero_le _, rfl, HO0, HX0, HK0⟩
            case round =>
              obtain ⟨i, hi, rfl, hO, HX, hK⟩ := hrel
              obtain ⟨LL, hLL⟩ : ∃ LL, LL = nextL s ++ s.logs.map lgEd ++ s.stos.map soEd ++ (s.tabs.take i).map tbEd := ⟨_, rfl⟩
              obtain ⟨N, hN⟩ : ∃ N, N = LL.length := ⟨_, rfl⟩
              have hN9 : N ≤ 4000000000 := by
                rw [hN, hLL]
                simp only [List.length_append, List.length_map, List.length_take]
                have := HQ.out
                omega
              have HNN := Lib.hid hN
              have HLL := Lib.hid hLL
              have HO := Lib.hid (show OffRow wr B 44 6 _ N (flat ecell LL) by have := hO.out; rw [← hLL, ← hN] at this; exact this)
              obtain ⟨a3, c3, rfl⟩ := OffRow.slice HO.out
              clear hN hO hLL
              obtain ⟨r0, r1, r2, r3⟩ := HX.out.c0
              by_cases hlt : i < nt
              · have hlt' : (i : Int) < (nt : Int) := by omega
                obtain ⟨y, hy⟩ : ∃ y, s.tabs[i]? = some y := ⟨_, List.getElem?_eq_getElem (by have := HN.out; omega)⟩
                obtain ⟨b, off, rfl, ht, hb2, hc⟩ := RdL.atT HT.out hy hlt
                have hcr : ∀ i' u, (tcell y)[i']? = some u → wr.cell? ⟨b, off + i * 5 + i', none⟩ = some u := fun i' u hu => by
                  rw [← hc i' u hu]
                  simp only [World.cell?, hK.out.block b (by rw [HB.out]; exact hb2)]
                have y0 := hcr 0 _ rfl
                simp only [Nat.mul_one, Nat.add_zero] at y0
                have y1 := hcr 1 _ rfl
                have y2 := hcr 2 _ rfl
                have y3 := hcr 3 _ rfl
                have y4 := hcr 4 _ rfl
                have HNX := Lib.hid (show LL ++ [(tbEd y)] = nextL s ++ s.logs.map lgEd ++ s.stos.map soEd ++ (s.tabs.take (i + 1)).map tbEd by
                  rw [HLL.out, List.take_add_one, hy, List.map_append, List.append_assoc]
                  rfl)
                clear hc hcr hy
                obtain ⟨w4, hw4⟩ : ∃ w4, w4 = (wr.alloc (.cells #[.int .i64 y.file, .int .i64 y.lev, .int .i64 y.cnt, .string (bs y.low), .string (bs y.high)] 86)).alloc (.cells #[.int .i64 1, .int .i64 y.file, .int .i64 y.lev, .int .i64 y.cnt, .string (bs y.low), .string (bs y.high)] 44) := ⟨_, rfl⟩
                have O4 := Lib.hid (show OffRow w4 B 44 6 (.slice a3 N c3) N (flat ecell LL) by rw [hw4]; exact (HO.out.allocd _).allocd _)
                have K4 := Lib.hid (show Below wr.heap.size wr w4 by rw [hw4]; exact ((Below.refl _ _).alloc (Nat.le_refl _) _).alloc (by simp) _)
                have HSR := Lib.hid (show Src Tryz.prog 6 30 (.slice (some ⟨wr.heap.size + 1, 0, none⟩) 1 1) 1 (ecell (tbEd y)) w4 by
                  have hb : w4.heap[wr.heap.size + 1]? = some (.cells #[.int .i64 1, .int .i64 y.file, .int .i64 y.lev, .int .i64 y.cnt, .string (bs y.low), .string (bs y.high)] 44 (0, 0)) := by
                    rw [hw4]
                    have := heap_new (wr.alloc (.cells #[.int .i64 y.file, .int .i64 y.lev, .int .i64 y.cnt, .string (bs y.low), .string (bs y.high)] 86)) (.cells #[.int .i64 1, .int .i64 y.file, .int .i64 y.lev, .int .i64 y.cnt, .string (bs y.low), .string (bs y.high)] 44)
                    simpa using this
                  exact src_block (size := 6) (cs := #[.int .i64 1, .int .i64 y.file, .int .i64 y.lev, .int .i64 y.cnt, .string (bs y.low), .string (bs y.high)]) Tryz.underlying30 hb 1 1 rfl (ecell_one (tbEd y)))
                have HB4 := Lib.hid (show B ≤ w4.heap.size by have := K4.out.size; have := heap_lt HX.out; omega)
                rw [hw4] at O4 HSR HB4
                have HW4 := Lib.hid hw4
                clear hw4
                go_wp2_with (at_builtin; refine wpList_append_off rfl (.tmp 55) (.tmp 67) 30 rfl B 44 i0 _ 6 64 Tryz.underlying30 HI.out.1 HI.out.2.1 HI.out.2.2.1 HI.out.2.2.2 rfl (.slice a3 N c3) N _ rfl O4.out (.slice (some ⟨wr.heap.size + 1, 0, none⟩) 1 1) rfl 1 _ HSR.out (by unfold maxLen; omega) (by omega) HB4.out ?_)
                intro v7 w7 hr7 hg7 hat7
                rw [← HW4.out] at hg7
                have O7 := Lib.hid (show OffRow w7 B 44 6 v7 (LL ++ [(tbEd y)]).length (flat ecell (LL ++ [(tbEd y)])) by
                  rw [flat_append, flat_one, List.length_append, ← HNN.out]
                  exact hr7)
                have K7 := Lib.hid ((hK.out.trans (K4.out.mono (Nat.le_of_lt (heap_lt HX.out)))).grown hg7 (by rw [HW4.out]; exact HB4.out) (fun j hj => (OffRow.lt HO.out j hj).1))
                have J7 := Lib.hid (show C4 B _ _ _ _ w7 from
                  (hg7.block B (Nat.lt_of_lt_of_le (heap_lt HX.out) K4.out.size) (fun e => by
                    obtain ⟨cur, hc⟩ := OffRow.tag HO.out e.symm
                    have hx := HX.out
                    unfold C4 at hx
                    rw [hx] at hc
                    simp at hc)).trans ((K4.out.block B (heap_lt HX.out)).trans HX.out))
                clear hr7 hg7 hat7 O4 HSR
                have OR := Lib.hid (show OffRow w7 B 44 6 v7 (nextL s ++ s.logs.map lgEd ++ s.stos.map soEd ++ (s.tabs.take (i + 1)).map tbEd).length (flat ecell (nextL s ++ s.logs.map lgEd ++ s.stos.map soEd ++ (s.tabs.take (i + 1)).map tbEd)) by rw [← HNX.out]; exact O7.out)
                clear O7
                go_wp2_with fail
                go_roundw
                case rel => first | exact ⟨i + 1, hlt, by go_num, OR, J7, K7⟩ | exact ⟨_, _, _, _, _, _, _, _, _, _, _, _, _, _, _, ⟨i + 1, hlt, by go_num, OR, J7, K7⟩, rfl⟩ | exact ⟨_, _, _, _, _, _, _, _, _, _, _, _, _, _, _, _, _, _, _, _, _, ⟨i + 1, hlt, by go_num, OR, J7, K7⟩, rfl⟩
                case measure => simp [intOf]; omega
              · have hge : (nt : Int) ≤ (i : Int) := by omega
                have hin : i = nt := by omega
                have HFIN := Lib.hid (show LL = wholeL s by rw [HLL.out, List.take_of_length_le (by have := HN.out; omega)]; try rfl)
                go_wp2
                refine bodyPost_ret (results_tmp rfl _ _ _) rfl ?_
                exact ⟨_, rfl, by rw [← HFIN.out, ← HNN.out]; exact HO.out, hK.out⟩
end Go.Proofs.YtljjielekgilpaaGreat
/- The whole of a state makes it anew (plain). -/
set_option linter.unusedVariables false
set_option maxRecDepth 100000
namespace Go.Proofs.YtljjielekgilpaaGreat

theorem insS_last {t : So} : ∀ {P : List So}, (∀ u ∈ P, u.file < t.file) → insS t P = P ++ [t]
  | [], _ => rfl
  | u :: P, h => by
    unfold insS
    have := h u (List.mem_cons_self ..)
    rw [if_neg (by omega), insS_last fun v hv => h v (List.mem_cons_of_mem _ hv)]
    rfl
theorem insT_last {t : Tb} : ∀ {P : List Tb}, (∀ u ∈ P, tlt u t = true) → insT t P = P ++ [t]
  | [], _ => rfl
  | u :: P, h => by
    unfold insT
    have h1 := h u (List.mem_cons_self ..)
    have h2 : ¬ tlt t u = true := fun h2 => by
      have := tlt_trans h1 h2
      rw [tlt_irrefl] at this
      cases this
    rw [if_neg h2, insT_last fun v hv => h v (List.mem_cons_of_mem _ hv)]
    rfl
theorem app_logs (nx : Int) : ∀ (M P : List Int), (P ++ M).Nodup → (∀ f ∈ P ++ M, 1 ≤ f) → app ⟨[], [], P, nx⟩ (M.map lgEd) = (0, ⟨[], [], P ++ M, nx⟩)
  | [], P, _, _ => by simp [app]
  | f :: M, P, hn, hp => by
    have h1 : 1 ≤ f := hp f (by simp)
    have h2 : f ∉ P := fun hf => by
      rw [List.nodup_append] at hn
      exact hn.2.2 f hf f (by simp) rfl
    have e0 : oneE ⟨[], [], P, nx⟩ (lgEd f) = 0 := by
      simp [oneE, lgEd, St.files, h2, show ¬ f < 1 by omega]
    rw [List.map_cons, app_cons_ok e0]
    have e1 : oneS ⟨[], [], P, nx⟩ (lgEd f) = ⟨[], [], P ++ [f], nx⟩ := by simp [oneS, lgEd]
    rw [e1, app_logs nx M (P ++ [f]) (by simpa using hn) (by simpa using hp)]
    simp
theorem app_stos (nx : Int) (G : List Int) : ∀ (M P : List So), ((P ++ M).Pairwise fun a b => a.file < b.file) → ((P ++ M).map (·.file) ++ G).Nodup → (∀ t ∈ P ++ M, t.tier = 0 ∨ t.tier = 1) → (∀ t ∈ P ++ M, 1 ≤ t.file) → app ⟨[], P, G, nx⟩ (M.map soEd) = (0, ⟨[], P ++ M, G, nx⟩)
  | [], P, _, _, _, _ => by simp [app]
  | t :: M, P, hr, hn, ht, hp => by
    have h1 := hp t (by simp)
    have h3 := ht t (by simp)
    have h4 : ∀ u ∈ P, u.file < t.file := fun u hu => (List.pairwise_append.1 hr).2.2 u hu t (by simp)
    have h2 : t.file ∉ P.map (·.file) ++ G := fun hf => by
      rcases List.mem_append.1 hf with hf | hf
      · obtain ⟨u, hu, e⟩ := List.mem_map.1 hf
        have := h4 u hu
        omega
      · exact (List.nodup_append.1 hn).2.2 t.file (List.mem_map.2 ⟨t, by simp, rfl⟩) t.file hf rfl
    have e0 : oneE ⟨[], P, G, nx⟩ (soEd t) = 0 := by
      unfold oneE
      rw [if_neg (by simp [soEd]), if_neg (by simp [soEd]), if_pos (by simp [soEd]), if_neg (by simp only [soEd]; omega), if_neg (by simpa [soEd, St.files] using h2)]
    rw [List.map_cons, app_cons_ok e0]
    have e1 : oneS ⟨[], P, G, nx⟩ (soEd t) = ⟨[], P ++ [t], G, nx⟩ := by
      have := insS_last h4
      simp [oneS, soEd, Ed.sto]
      exact this
    rw [e1, app_stos nx G M (P ++ [t]) (by simpa using hr) (by simpa using hn) (by simpa using ht) (by simpa using hp)]
    simp
theorem app_tabs (nx : Int) (S : List So) (G : List Int) : ∀ (M P : List Tb), ((P ++ M).Pairwise fun a b => tlt a b = true) → ((P ++ M).Pairwise fun a b => a.lev = b.lev → 0 < a.lev → ltB a.high b.low = true) → ((P ++ M).map (·.file) ++ S.map (·.file) ++ G).Nodup →
    (∀ t ∈ P ++ M, 0 ≤ t.lev ∧ t.lev ≤ 5 ∧ 1 ≤ t.cnt ∧ ltB t.high t.low = false) → (∀ t ∈ P ++ M, 1 ≤ t.file) → app ⟨P, S, G, nx⟩ (M.map tbEd) = (0, ⟨P ++ M, S, G, nx⟩)
  | [], P, _, _, _, _, _ => by simp [app]
  | t :: M, P, hr, ha, hn, ht, hp => by
    have h1 := hp t (by simp)
    have h3 := ht t (by simp)
    have h4 : ∀ u ∈ P, tlt u t = true := fun u hu => (List.pairwise_append.1 hr).2.2 u hu t (by simp)
    have h5 : ∀ u ∈ P, u.lev = t.lev → 0 < u.lev → ltB u.high t.low = true := fun u hu => (List.pairwise_append.1 ha).2.2 u hu t (by simp)
    have h2 : t.file ∉ P.map (·.file) ++ S.map (·.file) ++ G := fun hf => by
      rw [List.map_append, List.map_cons, List.append_assoc, List.append_assoc, List.nodup_append] at hn
      rw [List.append_assoc] at hf
      rcases List.mem_append.1 hf with hf | hf
      · exact hn.2.2 t.file hf t.file (by simp) rfl
      · exact (List.nodup_cons.1 hn.2.1).1 (List.mem_append_right _ hf)
    have h6 : ¬ (0 < t.lev ∧ P.any (meets t) = true) := fun ⟨hl, hm⟩ => by
      obtain ⟨u, hu, hmu⟩ := List.any_eq_true.1 hm
      simp only [meets, Bool.and_eq_true, decide_eq_true_eq, Bool.not_eq_true'] at hmu
      have := h5 u hu hmu.1.1 (by omega)
      rw [this] at hmu
      exact absurd hmu.1.2 (by simp)
    have hb : badTab (tbEd t) = false := by
      show (decide (t.lev < 0) || decide (5 < t.lev) || decide (t.cnt < 1) || ltB t.high t.low) = false
      rw [decide_eq_false (show ¬ t.lev < 0 by omega), decide_eq_false (show ¬ 5 < t.lev by omega), decide_eq_false (show ¬ t.cnt < 1 by omega), h3.2.2.2]
      rfl
    have e0 : oneE ⟨P, S, G, nx⟩ (tbEd t) = 0 := by
      unfold oneE
      rw [if_pos (by simp [tbEd]), if_neg (by rw [hb]; simp only [tbEd]; simp; omega), if_neg (by simpa [tbEd, St.files] using h2)]
      show (if 0 < t.lev ∧ P.any (meets t) = true then (11 : Int) else 0) = 0
      rw [if_neg h6]
    rw [List.map_cons, app_cons_ok e0]
    have e1 : oneS ⟨P, S, G, nx⟩ (tbEd t) = ⟨P ++ [t], S, G, nx⟩ := by
      have := insT_last h4
      simp [oneS, tbEd, Ed.tab]
      exact this
    rw [e1, app_tabs nx S G M (P ++ [t]) (by simpa using hr) (by simpa using ha) (by simpa using hn) (by simpa using ht) (by simpa using hp)]
    simp
/-- THE WHOLE MAKES THE STATE ANEW. -/
theorem app_whole {s : St} (h : s.Ok) : app St.zero (wholeL s) = (0, s) := by
  obtain ⟨T, S, G, nx⟩ := s
  have hnod := h.nod
  have hpos := h.pos
  have hnx := h.next
  simp only [St.files] at hnod hpos hnx
  have e0 : app St.zero (nextL ⟨T, S, G, nx⟩) = (0, ⟨[], [], [], nx⟩) := by
    unfold nextL
    split
    · rename_i hz; simp only at hz; subst hz; rfl
    · rename_i hz
      simp only at hz
      have e : oneE St.zero ⟨7, nx, 0, 0, [], []⟩ = 0 := by simp [oneE, St.zero]; omega
      rw [app_cons_ok e]
      rfl
  have e1 := app_logs nx G [] (by simpa using (List.nodup_append.1 hnod).2.1) (fun f hf => hpos f (by simp at hf ⊢; simp [hf]))
  have e2 := app_stos nx G S [] (by simpa using h.stos) (by rw [List.append_assoc] at hnod; simpa using (List.nodup_append.1 hnod).2.1) (by simpa using h.tier) (fun t ht => hpos t.file (by simp at ht ⊢; exact .inr (.inl ⟨t, ht, rfl⟩)))
  have e3 := app_tabs nx S G T [] (by simpa using h.rise) (by simpa using h.apart) (by simpa using hnod) (by simpa using h.tab) (fun t ht => hpos t.file (by simp at ht ⊢; exact .inl ⟨t, ht, rfl⟩))
  unfold wholeL
  simp only [List.nil_append] at e1 e2 e3
  rw [List.append_assoc, List.append_assoc, app_append _ _ _ (by rw [e0]), e0, app_append _ _ _ (by rw [e1]), e1, app_append _ _ _ (by rw [e2]), e2, e3]
end Go.Proofs.YtljjielekgilpaaGreat
/- What the law of the whole looks at last: files rise, tables stand in their order (plain). -/
set_option linter.unusedVariables false
set_option maxRecDepth 100000
namespace Go.Proofs.YtljjielekgilpaaGreat

theorem filesOf_perm (s : St) : (filesOf s).Perm s.files := by
  unfold filesOf sortI St.files
  refine (List.mergeSort_perm _ _).trans ?_
  rw [List.append_assoc]
  exact List.perm_append_comm
theorem filesOf_rise {s : St} (h : s.Ok) : (filesOf s).Pairwise fun a b => a < b := by
  have hn : (filesOf s).Nodup := (filesOf_perm s).nodup_iff.2 h.nod
  have hs : (filesOf s).Pairwise fun a b => decide (a ≤ b) = true := by
    unfold filesOf sortI
    exact List.pairwise_mergeSort (fun a b c h1 h2 => by simp at h1 h2 ⊢; omega) (fun a b => by simp; omega) _
  exact (hs.and hn).imp fun ⟨h1, h2⟩ => by simp at h1; omega
theorem filesOf_next {s : St} (h : s.Ok) {i : Nat} {a b : Int} (ha : (filesOf s)[i]? = some a) (hb : (filesOf s)[i + 1]? = some b) : a < b := by
  obtain ⟨h1, e1⟩ := List.getElem?_eq_some_iff.1 ha
  obtain ⟨h2, e2⟩ := List.getElem?_eq_some_iff.1 hb
  have := List.pairwise_iff_getElem.1 (filesOf_rise h) i (i + 1) h1 h2 (by omega)
  rw [e1, e2] at this
  exact this
/-- Two tables that stand side by side. -/
theorem tabs_next {s : St} (h : s.Ok) {i : Nat} {a b : Tb} (ha : s.tabs[i]? = some a) (hb : s.tabs[i + 1]? = some b) : ¬ (b.lev < a.lev) ∧ (a.lev = b.lev → a.lev = 0 → ¬ a.file ≤ b.file) ∧ (a.lev = b.lev → 0 < a.lev → ltB a.high b.low = true) := by
  obtain ⟨h1, e1⟩ := List.getElem?_eq_some_iff.1 ha
  obtain ⟨h2, e2⟩ := List.getElem?_eq_some_iff.1 hb
  have hr := List.pairwise_iff_getElem.1 h.rise i (i + 1) h1 h2 (by omega)
  have hp := List.pairwise_iff_getElem.1 h.apart i (i + 1) h1 h2 (by omega)
  rw [e1, e2] at hr hp
  refine ⟨by have := tlt_lev hr; omega, fun hl h0 => ?_, hp⟩
  unfold tlt at hr
  rw [if_pos hl, if_pos h0] at hr
  simp at hr
  omega
end Go.Proofs.YtljjielekgilpaaGreat
/- Numbers put in their order one by one (plain). -/
set_option linter.unusedVariables false
set_option maxRecDepth 100000
namespace Go.Proofs.YtljjielekgilpaaGreat

/-- A list in which x stands at a place of P, ahead of S. -/
def atK (P : List Int) (x : Int) (k : Nat) (S : List Int) : List Int := P.take k ++ x :: P.drop k ++ S
theorem atK_len (P : List Int) (x : Int) (k : Nat) (S : List Int) : (atK P x k S).length = P.length + 1 + S.length := by
  unfold atK
  have := congrArg List.length (List.take_append_drop k P)
  simp only [List.length_append, List.length_cons] at this ⊢
  omega
theorem atK_end (P : List Int) (x : Int) (S : List Int) : atK P x P.length S = P ++ x :: S := by
  unfold atK
  rw [List.take_length, List.drop_length]
  simp
theorem atK_here {P : List Int} {x : Int} {k : Nat} {S : List Int} (hk : k ≤ P.length) : (atK P x k S)[k]? = some x := by
  unfold atK
  rw [List.append_assoc, List.getElem?_append_right (by rw [List.length_take]; omega), List.length_take, Nat.min_eq_left hk, Nat.sub_self]
  rfl
theorem atK_below {P : List Int} {x : Int} {k : Nat} {S : List Int} (hk : k < P.length) : (atK P x (k + 1) S)[k]? = P[k]? := by
  unfold atK
  rw [List.append_assoc, List.getElem?_append_left (by rw [List.length_take]; omega), List.getElem?_take, if_pos (by omega)]
/-- One step down: the two beside each other change places. -/
theorem atK_swap {P : List Int} {x y : Int} {k : Nat} {S : List Int} (hy : P[k]? = some y) : ((atK P x (k + 1) S).set (k + 1) y).set k x = atK P x k S := by
  have hk := (List.getElem?_eq_some_iff.1 hy).1
  apply List.ext_getElem?
  intro j
  have e : P.take (k + 1) = P.take k ++ [y] := by rw [List.take_add_one, hy]; rfl
  have d : P.drop k = y :: P.drop (k + 1) := by
    have := List.drop_eq_getElem_cons hk
    rw [this]
    have h2 := (List.getElem?_eq_some_iff.1 hy).2
    rw [h2]
  have l : (P.take k).length = k := by rw [List.length_take]; omega
  unfold atK
  rw [e, d]
  have e2 : P.take k ++ [y] ++ x :: P.drop (k + 1) ++ S = P.take k ++ (y :: x :: (P.drop (k + 1) ++ S)) := by simp
  have e3 : P.take k ++ x :: (y :: P.drop (k + 1)) ++ S = P.take k ++ (x :: y :: (P.drop (k + 1) ++ S)) := by simp
  rw [e2, e3, List.set_append_right _ _ (by omega), List.set_append_right _ _ (by omega), l, Nat.sub_self, show k + 1 - k = 1 by omega]
  rfl
theorem atK_perm (P : List Int) (x : Int) (k : Nat) : (P.take k ++ x :: P.drop k).Perm (x :: P) := by
  have := @List.perm_middle _ x (P.take k) (P.drop k)
  rwa [List.take_append_drop] at this
theorem atK_rise {P : List Int} {x : Int} {k : Nat} (h : P.Pairwise fun a b => a ≤ b) (hd : ∀ y ∈ P.drop k, x ≤ y) (ht : ∀ y ∈ P.take k, y ≤ x) : (P.take k ++ x :: P.drop k).Pairwise fun a b => a ≤ b := by
  have h' : (P.take k ++ P.drop k).Pairwise fun a b => a ≤ b := by rwa [List.take_append_drop]
  obtain ⟨h1, h2, h3⟩ := List.pairwise_append.1 h'
  refine List.pairwise_append.2 ⟨h1, List.pairwise_cons.2 ⟨hd, h2⟩, fun a ha b hb => ?_⟩
  rcases List.mem_cons.1 hb with rfl | hb
  · exact ht a ha
  · exact h3 a ha b hb
theorem take_le {P : List Int} {x y : Int} {k : Nat} (h : P.Pairwise fun a b => a ≤ b) (hy : P[k]? = some y) (hx : y ≤ x) : ∀ z ∈ P.take (k + 1), z ≤ x := by
  intro z hz
  obtain ⟨j, hj⟩ := List.mem_iff_getElem?.1 hz
  rw [List.getElem?_take] at hj
  split at hj
  · rename_i hlt
    obtain ⟨h1, e1⟩ := List.getElem?_eq_some_iff.1 hj
    obtain ⟨h2, e2⟩ := List.getElem?_eq_some_iff.1 hy
    by_cases e : j = k
    · subst e
      rw [hj] at hy
      obtain rfl := Option.some.inj hy
      exact hx
    · have := List.pairwise_iff_getElem.1 h j k h1 h2 (by omega)
      omega
  · cases hj
/-- Two rising rows of the same numbers are one. -/
theorem rise_same {L M : List Int} (hp : L.Perm M) (hL : L.Pairwise fun a b => a ≤ b) (hM : M.Pairwise fun a b => a ≤ b) : L = M :=
  hp.eq_of_pairwise (fun a b _ _ h1 h2 => by omega) hL hM
end Go.Proofs.YtljjielekgilpaaGreat
/- The document's walk over a state's lists, for one edit (plain). -/
set_option linter.unusedVariables false
set_option maxRecDepth 100000
namespace Go.Proofs.YtljjielekgilpaaGreat

/-- Tables ahead of a place; the new one is among them as soon as one stands behind it. -/
def anyT (t : Tb) (P : List Tb) : Bool := P.any (tlt t)
def anyS (t : So) (P : List So) : Bool := P.any fun u => decide (t.file < u.file)
def midT (t : Tb) (P : List Tb) : List Tb := if anyT t P = true then insT t P else P
def midS (t : So) (P : List So) : List So := if anyS t P = true then insS t P else P
theorem anyT_app (t u : Tb) (P : List Tb) : anyT t (P ++ [u]) = (anyT t P || tlt t u) := by simp [anyT]
theorem anyS_app (t u : So) (P : List So) : anyS t (P ++ [u]) = (anyS t P || decide (t.file < u.file)) := by simp [anyS]
theorem insT_app {t u : Tb} : ∀ {P : List Tb}, anyT t P = true → insT t (P ++ [u]) = insT t P ++ [u]
  | [], h => by simp [anyT] at h
  | v :: P, h => by
    cases hv : tlt t v with
    | true => simp [insT, hv]
    | false =>
      have h' : anyT t P = true := by simpa [anyT, hv] using h
      simp [insT, hv, insT_app h']
theorem insT_here {t u : Tb} : ∀ {P : List Tb}, anyT t P = false → tlt t u = true → insT t (P ++ [u]) = P ++ [t] ++ [u]
  | [], _, hu => by simp [insT, hu]
  | v :: P, h, hu => by
    have hh : tlt t v = false ∧ anyT t P = false := by simpa [anyT] using h
    simp [insT, hh.1, insT_here hh.2 hu]
theorem insT_none {t : Tb} : ∀ {P : List Tb}, anyT t P = false → insT t P = P ++ [t]
  | [], _ => rfl
  | v :: P, h => by
    have hh : tlt t v = false ∧ anyT t P = false := by simpa [anyT] using h
    simp [insT, hh.1, insT_none hh.2]
theorem insS_app {t u : So} : ∀ {P : List So}, anyS t P = true → insS t (P ++ [u]) = insS t P ++ [u]
  | [], h => by simp [anyS] at h
  | v :: P, h => by
    by_cases hv : t.file < v.file
    · simp [insS, hv]
    · have h' : anyS t P = true := by
        simp only [anyS, List.any_cons, Bool.or_eq_true, decide_eq_true_eq] at h ⊢
        rcases h with h | h
        · exact absurd h hv
        · exact h
      simp [insS, hv, insS_app h']
theorem anyS_no {t v : So} {P : List So} (h : anyS t (v :: P) = false) : ¬ t.file < v.file ∧ anyS t P = false := by
  simp only [anyS, List.any_cons, Bool.or_eq_false_iff, decide_eq_false_iff_not] at h ⊢
  exact h
theorem insS_here {t u : So} : ∀ {P : List So}, anyS t P = false → t.file < u.file → insS t (P ++ [u]) = P ++ [t] ++ [u]
  | [], _, hu => by simp [insS, hu]
  | v :: P, h, hu => by
    obtain ⟨h1, h2⟩ := anyS_no h
    simp [insS, h1, insS_here h2 hu]
theorem insS_none {t : So} : ∀ {P : List So}, anyS t P = false → insS t P = P ++ [t]
  | [], _ => rfl
  | v :: P, h => by
    obtain ⟨h1, h2⟩ := anyS_no h
    simp [insS, h1, insS_none h2]
theorem midT_put {t u : Tb} {P : List Tb} (h : anyT t P = true) : midT t (P ++ [u]) = midT t P ++ [u] := by
  unfold midT; rw [if_pos h, if_pos (by rw [anyT_app, h]; rfl), insT_app h]
theorem midT_here {t u : Tb} {P : List Tb} (h : anyT t P = false) (hu : tlt t u = true) : midT t (P ++ [u]) = midT t P ++ [t] ++ [u] := by
  unfold midT; rw [if_pos (c := anyT t (P ++ [u]) = true) (by rw [anyT_app, hu]; simp), if_neg (c := anyT t P = true) (by rw [h]; simp), insT_here h hu]
theorem midT_on {t u : Tb} {P : List Tb} (h : anyT t P = false) (hu : tlt t u = false) : midT t (P ++ [u]) = midT t P ++ [u] := by
  unfold midT; rw [if_neg (c := anyT t (P ++ [u]) = true) (by rw [anyT_app, h, hu]; simp), if_neg (c := anyT t P = true) (by rw [h]; simp)]
theorem midT_end {t : Tb} {P : List Tb} : insT t P = if anyT t P = true then midT t P else midT t P ++ [t] := by
  cases h : anyT t P with
  | true => unfold midT; rw [h]; rfl
  | false => unfold midT; rw [h]; simpa using insT_none h
theorem midS_put {t u : So} {P : List So} (h : anyS t P = true) : midS t (P ++ [u]) = midS t P ++ [u] := by
  unfold midS; rw [if_pos h, if_pos (by rw [anyS_app, h]; rfl), insS_app h]
theorem midS_here {t u : So} {P : List So} (h : anyS t P = false) (hu : t.file < u.file) : midS t (P ++ [u]) = midS t P ++ [t] ++ [u] := by
  unfold midS; rw [if_pos (c := anyS t (P ++ [u]) = true) (by rw [anyS_app]; simp [hu]), if_neg (c := anyS t P = true) (by rw [h]; simp), insS_here h hu]
theorem midS_on {t u : So} {P : List So} (h : anyS t P = false) (hu : ¬ t.file < u.file) : midS t (P ++ [u]) = midS t P ++ [u] := by
  unfold midS; rw [if_neg (c := anyS t (P ++ [u]) = true) (by rw [anyS_app, h]; simp [hu]), if_neg (c := anyS t P = true) (by rw [h]; simp)]
theorem midS_end {t : So} {P : List So} : insS t P = if anyS t P = true then midS t P else midS t P ++ [t] := by
  cases h : anyS t P with
  | true => unfold midS; rw [h]; rfl
  | false => unfold midS; rw [h]; simpa using insS_none h
theorem midT_len (t : Tb) (P : List Tb) : (midT t P).length ≤ P.length + 1 := by
  unfold midT; split
  · have := (insT_perm t P).length_eq; simp only [List.length_cons] at this; omega
  · omega
theorem midS_len (t : So) (P : List So) : (midS t P).length ≤ P.length + 1 := by
  unfold midS; split
  · have := (insS_perm t P).length_eq; simp only [List.length_cons] at this; omega
  · omega
/-- What is taken out of a list, element by element. -/
theorem del_hit {α : Type} {g : α → Int} {f : Int} {P : List α} {u : α} (h : g u = f) : (P ++ [u]).filter (fun t => decide (g t ≠ f)) = P.filter fun t => decide (g t ≠ f) := by
  rw [List.filter_append, List.filter_cons, if_neg (by simp [h])]; simp
theorem del_miss {α : Type} {g : α → Int} {f : Int} {P : List α} {u : α} (h : ¬ g u = f) : (P ++ [u]).filter (fun t => decide (g t ≠ f)) = P.filter (fun t => decide (g t ≠ f)) ++ [u] := by
  rw [List.filter_append, List.filter_cons, if_pos (by simp [h])]; simp
def hasT (f : Int) (P : List Tb) : Bool := P.any fun u => decide (u.file = f)
def hasS (f : Int) (P : List So) : Bool := P.any fun u => decide (u.file = f)
def hasI (f : Int) (P : List Int) : Bool := P.any fun u => decide (u = f)
end Go.Proofs.YtljjielekgilpaaGreat
/- A region that draws its order within a round, gone through by hand. -/
set_option linter.unusedVariables false
set_option maxRecDepth 100000
namespace Go.Proofs.YtljjielekgilpaaGreat
open Go.RowKit

section
variable {P : Program} {ops : Array Oper} {md : Region.Mode} {Q : Exit → Act → World → Prop}
theorem rowsIn_round {r n : Nat} {row : String} {args : Array Value} {w : World} {R : Value → World → Prop} (h : Rows P row args w R) : RowsIn (Fence.wide.inRound r) n P row args w R :=
  fun c cs _ => let ⟨v, w', q, s⟩ := h c cs; ⟨v, w', q, stepsIn_wide.2 s⟩
theorem operIn_of_wp {r n : Nat} {o : Oper} {a : Act} {w : World} {K K' : Act → World → Prop} (hse : ∀ ρ, Oper.semAt (Fence.wide.inRound r).round ρ o = execOp ρ o) (hL : ¬ LetsOut Q) (hK : ∀ a w, K a w → K' a w) (h : o.wp P a w K Q) : o.wpIn (Fence.wide.inRound r) n P a w K' Q := by
  unfold Oper.wp at h
  unfold Oper.wpIn
  refine ⟨fun _ _ => trivial, ?_⟩
  rw [hse]
  generalize (execOp a.eval o).run P w = x at *
  cases x with
  | ok x w' =>
    cases x <;> simp only [Oper.upon] at h <;> simp only [Oper.uponIn]
    case value u => exact hK _ _ h
    case skip => exact hK _ _ h
    case defer d => exact hK _ _ h
    case enter f args =>
      refine ⟨fun e => by simp [Fence.wide] at e, (wide_round r).calls (Calls.mono h fun e w'' he => ?_)⟩
      cases e with
      | returned v => exact hK _ _ he
      | panicked c => exact he
      | outgrown => exact he
    case row row args => exact ⟨fun e => by simp [Fence.wide] at e, rowsIn_round (Rows.mono h fun v w'' he => hK _ _ he)⟩
  | halt x w' =>
    cases x <;> simp only [Oper.upon] at h <;> simp only [Oper.uponIn]
    case panic v => exact h
theorem opIn_of_wp {r n i : Nat} {a : Act} {w : World} {K K' : Act → World → Prop} (hse : ∀ o, ops[i]? = some o → ∀ ρ, Oper.semAt (Fence.wide.inRound r).round ρ o = execOp ρ o) (hL : ¬ LetsOut Q) (hK : ∀ a w, K a w → K' a w) (h : wpOp P ops Q i K a w) : wpOpIn (Fence.wide.inRound r) n P ops Q i K' a w := by
  unfold wpOp at h
  unfold wpOpIn
  split
  · rename_i ho; simp only [ho] at h; exact hK _ _ h
  · rename_i o ho
    simp only [ho] at h
    split
    · rename_i hw
      simp only [hw, if_true] at h
      rcases h with h | h
      · exact operIn_of_wp (hse o ho) hL hK h
      · exact absurd h.2 hL
    · rename_i hw
      simp only [hw] at h
      exact ⟨fun _ _ => trivial, hK _ _ h⟩
theorem anyIn_of_wp {r n : Nat} (hse : ∀ (i : Nat) (o : Oper), ops[i]? = some o → ∀ ρ, Oper.semAt (Fence.wide.inRound r).round ρ o = execOp ρ o) (hL : ¬ LetsOut Q) : ∀ (fuel : Nat) (listed : Array Bool) (a : Act) (w : World), wpAny P md ops Q fuel listed a w → wpAnyIn (Fence.wide.inRound r) n P md ops Q fuel listed a w
  | 0, _, _, _, h => h
  | fuel + 1, _, _, _, h => ⟨h.1, fun i hi => opIn_of_wp (hse i) hL (fun _ _ h' => anyIn_of_wp hse hL fuel _ _ _ h') (h.2 i hi)⟩
/-- A region within a round, by hand. -/
theorem wpIn_round_held {r n id : Nat} {a : Act} {w : World} {l : List Oper} (S : World → Prop) (hm : P.follows .mixedOrders = true) (hd : noDefer l = true) (hL : ¬ LetsOut Q)
    (h : wpAnyH P .any l.toArray Q S l.toArray.size (Array.replicate l.toArray.size false) a { w with drawn := w.drawn + 1 }) : (Code.region id l.toArray true).wpIn (Fence.wide.inRound r) n P Q a w :=
  wpIn_region_any hm (anyIn_of_wp (noDefer_sem hd _) hL _ _ _ _ (wpAny_of_held _ _ _ _ h))
end
end Go.Proofs.YtljjielekgilpaaGreat
/- A region that draws its order: a load that only the last operations await, taken first, where what is written is written by those alone. -/
set_option linter.unusedVariables false
set_option maxRecDepth 100000
namespace Go.Proofs.YtljjielekgilpaaGreat
open Go.RowKit

section
variable {P : Program} {ops : Array Oper} {Q : Exit → Act → World → Prop} {md : Region.Mode} {S : World → Prop} {E : Nat → Bool}
/-- Whatever order is picked from here on, and S holds behind every operation that isn't one of E. -/
def wpAnyE (P : Program) (md : Region.Mode) (ops : Array Oper) (Q : Exit → Act → World → Prop) (S : World → Prop) (E : Nat → Bool) : Nat → Array Bool → Act → World → Prop
  | 0, listed, a, w => Region.ready md ops listed = [] ∧ Q .normal a w
  | fuel + 1, listed, a, w =>
    (Region.ready md ops listed = [] → Q .normal a w) ∧
    ∀ i ∈ Region.ready md ops listed, wpOp P ops Q i (fun a' w' => (E i = false → S w') ∧ wpAnyE P md ops Q S E fuel (listed.setIfInBounds i true) a' w') a w
theorem wpAny_of_E : ∀ (fuel : Nat) (listed : Array Bool) (a : Act) (w : World), wpAnyE P md ops Q S E fuel listed a w → wpAny P md ops Q fuel listed a w
  | 0, _, _, _, h => h
  | fuel + 1, _, _, _, h => ⟨h.1, fun i hi => wpOp_mono (fun a' w' h' => wpAny_of_E fuel _ a' w' h'.2) (h.2 i hi)⟩
theorem wpAnyE_first {i : Nat} {oi : Oper} {v : Value} (hi : ops[i]? = some oi) (hsel : ∀ (j : Nat) (o : Oper) cs b, ops[j]? = some o → o.op ≠ .select cs b)
    (hE : ∀ j oj, ops[j]? = some oj → E j = true → ∃ e ∈ oj.after, Region.binds md e = true ∧ e.on = i)
    (hQ : ∀ c a w, Q (.panic c) (a.put oi.dst v) w → Q (.panic c) a w) :
    ∀ (fuel : Nat) (listed : Array Bool) (a : Act) (w : World),
      (∀ j oj, ops[j]? = some oj → j ≠ i → listed.getD j true = false → (∀ e ∈ oj.after, Region.binds md e = true → e.on ≠ i) → oi.apart ops oj = true) →
      i ∈ Region.ready md ops listed → YieldsIf P ops S oi v a → S w →
      wpAnyE P md ops Q S E fuel (listed.setIfInBounds i true) (a.put oi.dst v) w → wpAny P md ops Q (fuel + 1) listed a w := by
  intro fuel
  induction fuel with
  | zero =>
    intro listed a w _ hr hy hS H
    refine ⟨fun h => (by rw [h] at hr; cases hr), fun j hj => ?_⟩
    by_cases hji : j = i
    · subst hji; exact hy.wpOp hi hS H
    · have := ready_mono hj hji
      rw [H.1] at this
      cases this
  | succ fuel ih =>
    intro listed a w hfree hr hy hS H
    refine ⟨fun h => (by rw [h] at hr; cases hr), fun j hj => ?_⟩
    by_cases hji : j = i
    · subst hji; exact hy.wpOp hi hS (wpAny_of_E _ _ _ _ H)
    · have h1 := H.2 j (ready_mono hj hji)
      obtain ⟨hjun, oj, hoj, hall⟩ := mem_ready.1 hj
      have hnot : ∀ e ∈ oj.after, Region.binds md e = true → e.on ≠ i := fun e he hb heq => by
        have h1 := hall e he hb
        have h0 := (mem_ready.1 hr).1
        rw [heq] at h1
        rcases Nat.lt_or_ge i listed.size with h' | h'
        · simp [h'] at h0 h1; rw [h0] at h1; cases h1
        · simp [Array.getElem?_eq_none h'] at h1
      have hEj : E j = false := by
        cases hc : E j with
        | false => rfl
        | true =>
          obtain ⟨e, he, hb, hon⟩ := hE j oj hoj hc
          exact absurd hon (hnot e he hb)
      have h2 := wpOp_putIf hoj (hfree j oj hoj hji hjun hnot) (fun cs b => hsel i oi cs b hi) (fun cs b => hsel j oj cs b hoj) hQ hy h1
      have hfree' : ∀ k ok, ops[k]? = some ok → k ≠ i → (listed.setIfInBounds j true).getD k true = false →
          (∀ e ∈ ok.after, Region.binds md e = true → e.on ≠ i) → oi.apart ops ok = true := fun k ok hk hki hun hno => by
        refine hfree k ok hk hki ?_ hno
        by_cases hjk : j = k
        · subst hjk; exact hjun
        · rw [getD_set_ne true hjk] at hun; exact hun
      refine wpOp_mono (fun a' w' h3 => ih (listed.setIfInBounds j true) a' w' hfree' (ready_mono hr (Ne.symm hji)) h3.1 (h3.2.1 hEj) ?_) h2
      rw [Array.setIfInBounds_comm _ _ hji]
      exact h3.2.2
def lateB (md : Region.Mode) (ops : Array Oper) (E : Nat → Bool) (i : Nat) : Bool :=
  (List.range ops.size).all fun j => !E j || (match ops[j]? with | some o => o.after.any fun e => Region.binds md e && e.on == i | none => false)
theorem late_spec {i : Nat} (h : lateB md ops E i = true) : ∀ j oj, ops[j]? = some oj → E j = true → ∃ e ∈ oj.after, Region.binds md e = true ∧ e.on = i := fun j oj hj hE => by
  have h1 := List.all_eq_true.1 h j (List.mem_range.2 (Array.getElem?_eq_some_iff.1 hj).1)
  rw [hE, hj] at h1
  simp only [Bool.not_true, Bool.false_or] at h1
  obtain ⟨e, he, h2⟩ := Array.any_eq_true'.1 h1
  simp only [Bool.and_eq_true, beq_iff_eq] at h2
  exact ⟨e, he, h2.1, h2.2⟩
/-- A load is taken first. -/
theorem wpAny_late {i d : Nat} {oi : Oper} {v : Value} {fuel : Nat} {listed : Array Bool} {a : Act} {w : World} (S : World → Prop) (E : Nat → Bool) (hi : ops[i]? = some oi) (hd : oi.dst = some d)
    (hs : Region.noSelect ops = true) (hl : lateB md ops E i = true) (hf : Region.free md ops listed i = true) (hr : (Region.ready md ops listed).contains i = true)
    (hQ : ∀ c a w, Q (.panic c) (a.put oi.dst v) w → Q (.panic c) a w) (hy : YieldsIf P ops S oi v a) (hS : S w)
    (h : wpAnyE P md ops Q S E fuel (listed.setIfInBounds i true) (a.put (some d) v) w) : wpAny P md ops Q (fuel + 1) listed a w :=
  wpAnyE_first hi (Region.noSelect_spec hs) (late_spec hl) hQ fuel listed a w (Region.free_spec hi hf) (by simpa using hr) hy hS (by rw [hd]; exact h)
theorem any_take {i d : Nat} {oi : Oper} {v : Value} {fuel : Nat} {listed : Array Bool} {a : Act} {w : World} (hi : ops[i]? = some oi) (hd : oi.dst = some d)
    (hs : Region.noSelect ops = true) (hf : Region.free md ops listed i = true) (hr : (Region.ready md ops listed).contains i = true)
    (hQ : ∀ c a w, Q (.panic c) (a.put oi.dst v) w → Q (.panic c) a w) (hy : Yields P ops oi v a)
    (h : wpAny P md ops Q fuel (listed.setIfInBounds i true) (a.put (some d) v) w) : wpAny P md ops Q (fuel + 1) listed a w :=
  wpAny_take hi hs hf hr hQ hy (by rw [hd]; exact h)
/-- The next one, whichever it is. -/
def AllE (P : Program) (md : Region.Mode) (ops : Array Oper) (Q : Exit → Act → World → Prop) (S : World → Prop) (E : Nat → Bool) (fuel : Nat) (listed : Array Bool) (a : Act) (w : World) (rs : List Nat) : Prop :=
  ∀ i ∈ rs, wpOp P ops Q i (fun a' w' => (E i = false → S w') ∧ wpAnyE P md ops Q S E fuel (listed.setIfInBounds i true) a' w') a w
theorem AllE.nil {fuel : Nat} {listed : Array Bool} {a : Act} {w : World} : AllE P md ops Q S E fuel listed a w [] := fun _ h => by cases h
theorem AllE.cons {fuel : Nat} {listed : Array Bool} {a : Act} {w : World} {i : Nat} {o : Oper} {rs : List Nat} (ho : ops[i]? = some o)
    (h : ∀ K' : Act → World → Prop, Shut (∀ a w, (E i = false → S w) → ((E i = false → S w) → wpAnyE P md ops Q S E fuel (listed.setIfInBounds i true) a w) → K' a w) → if Region.wanted o (yielded ops a.tmps) = true then Oper.wp P o a w K' Q else K' (a.put o.dst undef) w)
    (hs : AllE P md ops Q S E fuel listed a w rs) : AllE P md ops Q S E fuel listed a w (i :: rs) := fun j hj => by
  rcases List.mem_cons.1 hj with rfl | hj
  · exact wpOp_step ho (fun K' hK => h K' (fun a w hS hW => hK a w ⟨hS, hW hS⟩))
  · exact hs j hj
theorem wpAnyE_ready {rs : List Nat} {fuel : Nat} {listed : Array Bool} {a : Act} {w : World} (hr : Region.ready md ops listed = rs) (hne : rs ≠ [])
    (h : AllE P md ops Q S E fuel listed a w rs) : wpAnyE P md ops Q S E (fuel + 1) listed a w := ⟨fun h0 => absurd (hr ▸ h0) hne, hr ▸ h⟩
theorem wpAnyE_done {listed : Array Bool} {a : Act} {w : World} (hr : Region.ready md ops listed = []) (h : Q .normal a w) : ∀ fuel, wpAnyE P md ops Q S E fuel listed a w
  | 0 => ⟨hr, h⟩
  | _ + 1 => ⟨fun _ => h, by rw [hr]; simp⟩
theorem wpIn_round_any {r n id : Nat} {a : Act} {w : World} {l : List Oper} (hm : P.follows .mixedOrders = true) (hd : noDefer l = true) (hL : ¬ LetsOut Q)
    (h : wpAny P .any l.toArray Q l.toArray.size (Array.replicate l.toArray.size false) a { w with drawn := w.drawn + 1 }) : (Code.region id l.toArray true).wpIn (Fence.wide.inRound r) n P Q a w :=
  wpIn_region_any hm (anyIn_of_wp (noDefer_sem hd _) hL _ _ _ _ h)
end
end Go.Proofs.YtljjielekgilpaaGreat
