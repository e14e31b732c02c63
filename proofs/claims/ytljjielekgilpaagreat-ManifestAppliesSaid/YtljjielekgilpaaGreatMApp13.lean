/- Texts put together: ManRefFiles -/
import Derived.Test.YtljjielekgilpaaGreatMApp12
/- The document's side: the files of a state, put in their order one by one. -/
set_option linter.unusedVariables false
set_option maxRecDepth 100000
namespace Go.Proofs.YtljjielekgilpaaGreat
open Go.RowKit

theorem flat_ints (M : List Int) : flat icell M = M.map (Value.int .i64) := by
  unfold flat icell
  induction M with
  | nil => rfl
  | cons y M ih => rw [List.flatMap_cons, ih]; rfl
/-- A number of a list of the call's own. -/
theorem own_at {w : World} {B : Nat} {g off n cap : Nat} {L : List Int} (h : OffRow w B 3 1 (.slice (some ⟨g, off, none⟩) n cap) n (flat icell L)) {k : Nat} {x : Int} (hk : k < n) (hx : L[k]? = some x) : w.cell? ⟨g, off + k, none⟩ = some (.int .i64 x) ∧ w.frozen? ⟨g, off + k, none⟩ = false := by
  obtain ⟨g', off', cap', cur, e, hB, hg, hc⟩ := OffRow.form h (by omega)
  injection e with e1 _ _
  injection e1 with e1
  injection e1 with e1 e2
  subst e1 e2
  refine ⟨?_, by simp [World.frozen?, hg]⟩
  rw [hc k (by omega), flat_ints, List.getElem?_map, hx]
  rfl
theorem own_slice1 {w : World} {B : Nat} {e : TypeId} {v : Value} {n : Nat} {xs : List Value} (h : OffRow w B e 1 v n xs) (hn : 0 < n) : ∃ g off cap, v = .slice (some ⟨g, off, none⟩) n cap ∧ B ≤ g ∧ g < w.heap.size ∧ n ≤ cap := by
  rcases h.2 with ⟨_, h0⟩ | ⟨g, off, cap, cur, rfl, hB, hg, h1, _⟩
  · omega
  · exact ⟨g, off, cap, rfl, hB, heap_lt hg, h1⟩
set_option maxHeartbeats 8000000 in
theorem ref_Files {T : Nat → Prop} {w : World} {tv sv lv : Value} {s : St} (h : Hid (StV T w tv sv lv s)) (hs : Hid (s.tabs.length + s.stos.length + s.logs.length ≤ 1000000000)) :
    Calls Tryz.prog 16 #[.agg #[tv, sv, lv, .int .i64 s.next]] w fun e w' => ∃ v', e = .returned v' ∧ OwnI w' w.heap.size v' (filesOf s) ∧ Below w.heap.size w w' := by
  obtain ⟨B, hB⟩ : ∃ B, B = w.heap.size := ⟨_, rfl⟩
  rw [← hB]
  have HB := Lib.hid hB
  obtain ⟨nt, hnt⟩ : ∃ n, n = s.tabs.length := ⟨_, rfl⟩
  obtain ⟨ns, hns⟩ : ∃ n, n = s.stos.length := ⟨_, rfl⟩
  obtain ⟨nl, hnl⟩ : ∃ n, n = s.logs.length := ⟨_, rfl⟩
  obtain ⟨w1, hw1⟩ : ∃ w1, w.alloc (.cells #[tv, sv, lv, .int .i64 s.next] 29) = w1 := ⟨_, rfl⟩
  have K1 := Lib.hid (show Below B w w1 by rw [← hw1, hB]; exact (Below.refl _ _).alloc (Nat.le_refl _) _)
  have X1 := Lib.hid (show w1.heap[B]? = some (.cells #[tv, sv, lv, .int .i64 s.next] 29 (0, 0)) by rw [← hw1, hB]; exact heap_new w _)
  have HW1 := Lib.hid hw1
  obtain ⟨ta, tc, ht⟩ := RdL.slice h.out.tabs
  obtain ⟨sa, sc, hsv⟩ := RdL.slice h.out.stos
  obtain ⟨la, lc, hlv⟩ := RdL.slice h.out.logs
  rw [← hnt] at ht
  rw [← hns] at hsv
  rw [← hnl] at hlv
  subst ht hsv hlv
  have HNT := Lib.hid hnt
  have HNS := Lib.hid hns
  have HNL := Lib.hid hnl
  obtain ⟨i0, hi0, hz0, hz1, hz2⟩ := info_parts infoInt
  have HI := Lib.hid (And.intro hi0 (And.intro hz0 (And.intro hz1 hz2)))
  have hnt9 : nt ≤ 1000000000 := by have := hs.out; omega
  have hns9 : ns ≤ 1000000000 := by have := hs.out; omega
  have hnl9 : nl ≤ 1000000000 := by have := hs.out; omega
  obtain ⟨FT, hFT⟩ : ∃ FT, FT = s.tabs.map (·.file) := ⟨_, rfl⟩
  obtain ⟨FS, hFS⟩ : ∃ FS, FS = s.stos.map (·.file) := ⟨_, rfl⟩
  have HFL := Lib.hid (show FT.length = s.tabs.length ∧ FS.length = s.stos.length by rw [hFT, hFS]; simp)
  have HFT := Lib.hid hFT
  have HFS := Lib.hid hFS
  have HTB := Lib.hid (show RdL T w (.slice ta nt tc) nt (flat tcell s.tabs) by have := h.out.tabs; rw [← HNT.out] at this; exact this)
  have HSB := Lib.hid (show RdL T w (.slice sa ns sc) ns (flat socell s.stos) by have := h.out.stos; rw [← HNS.out] at this; exact this)
  have HLB := Lib.hid (show RdL T w (.slice la nl lc) s.logs.length (flat icell s.logs) by have := h.out.logs; exact this)
  obtain ⟨nx, hnx⟩ : ∃ n, n = s.next := ⟨_, rfl⟩
  rw [← hnx] at HW1 X1 ⊢
  have d0 : w1.cell? ⟨B, 0, none⟩ = some (.slice ta nt tc) := by simp [World.cell?, X1.out]
  clear hFT hFS hw1 hB hnt hns hnl hi0 hz0 hz1 hz2 hnx
  go_enter Tryz.func16, Tryz.ntmps16
  go_upto_region 1 with (fail)
  rw [HW1.out, ← HB.out]
  go_wp2_with fail
  clear d0
  go_loopw [3, 4] (fun v iv wr => ∃ i : Nat, i ≤ nt ∧ iv = .int .i64 (i : Int) ∧ Hid (OwnI wr B v (FT.take i)) ∧ Hid (wr.heap[B]? = some (.cells #[.slice ta nt tc, .slice sa ns sc, .slice la nl lc, .int .i64 nx] 29 (0, 0)) ∧ Below B w wr)) (fun v iv wr => nt - (intOf iv).toNat)
  case atStart => exact ⟨0, Nat.zero_le _, rfl, Lib.hid (OffRow.nil _ _ _ _), Lib.hid ⟨X1.out, K1.out⟩⟩
  case round =>
    obtain ⟨i, hi, rfl, hO, hK⟩ := hrel
    obtain ⟨N, hN⟩ : ∃ N, N = (FT.take i).length := ⟨_, rfl⟩
    have hN9 : N ≤ 2000000000 := by
      rw [hN]
      simp only [List.length_append, List.length_take]
      have := hs.out; have := HNT.out; have := HNS.out; have := HFL.out
      omega
    have HNN := Lib.hid hN
    have HO := Lib.hid (show OffRow wr B 3 1 _ N (flat icell (FT.take i)) by have := hO.out; unfold OwnI at this; rw [← hN] at this; exact this)
    obtain ⟨a3, c3, rfl⟩ := OffRow.slice HO.out
    have e0 : wr.cell? ⟨B, 0, none⟩ = some (.slice ta nt tc) := by simp [World.cell?, hK.out.1]
    clear hN hO
    by_cases hlt : i < nt
    · have hlt' : (i : Int) < (nt : Int) := by omega
      obtain ⟨y, hy⟩ : ∃ y, s.tabs[i]? = some y := ⟨_, List.getElem?_eq_getElem (by have := HNT.out; omega)⟩
      obtain ⟨b, off, rfl, ht, hb2, hc⟩ := RdL.atT HTB.out hy hlt
      have hcr : ∀ i' u, (tcell y)[i']? = some u → wr.cell? ⟨b, off + i * 5 + i', none⟩ = some u := fun i' u hu => by
        rw [← hc i' u hu]
        simp only [World.cell?, hK.out.2.block b (by rw [HB.out]; exact hb2)]
      have y0 : wr.cell? ⟨b, off + i * 5, none⟩ = _ := hcr 0 _ rfl
      have HNX := Lib.hid (show FT.take (i + 1) = FT.take i ++ [y.file] by
        have hF : FT[i]? = some y.file := by rw [HFT.out, List.getElem?_map, hy]; rfl
        rw [List.take_add_one, hF]
        simp)
      clear hc hcr hy
      obtain ⟨w4, hw4⟩ : ∃ w4, w4 = wr.alloc (.cells #[.int .i64 y.file] 3) := ⟨_, rfl⟩
      have O4 := Lib.hid (show OffRow w4 B 3 1 (.slice a3 N c3) N (flat icell (FT.take i)) by rw [hw4]; exact HO.out.allocd _)
      have K4 := Lib.hid (show Below wr.heap.size wr w4 by rw [hw4]; exact (Below.refl _ _).alloc (Nat.le_refl _) _)
      have HSR := Lib.hid (show Src Tryz.prog 1 27 (.slice (some ⟨wr.heap.size, 0, none⟩) 1 1) 1 [.int .i64 y.file] w4 by
        have hb : w4.heap[wr.heap.size]? = some (.cells #[.int .i64 y.file] 3 (0, 0)) := by
          rw [hw4]
          exact heap_new wr _
        exact src_block (size := 1) (cs := #[.int .i64 y.file]) Tryz.underlying27 hb 1 1 rfl (by intro u hu; simp at hu; subst hu; rfl))
      have HB4 := Lib.hid (show B ≤ w4.heap.size by have := K4.out.size; have := hK.out.2.size; have := HB.out; omega)
      rw [hw4] at O4 HSR HB4
      have HW4 := Lib.hid hw4
      clear hw4
      go_wp2_with (at_builtin; refine wpList_append_off rfl (.tmp 15) (.tmp 22) 27 rfl B 3 i0 _ 1 8 Tryz.underlying27 HI.out.1 HI.out.2.1 HI.out.2.2.1 HI.out.2.2.2 rfl (.slice a3 N c3) N _ rfl O4.out (.slice (some ⟨wr.heap.size, 0, none⟩) 1 1) rfl 1 _ HSR.out ?q3 ?q4 HB4.out ?_)
      case q3 => unfold maxLen; omega
      case q4 => omega
      intro v7 w7 hr7 hg7 hat7
      rw [← HW4.out] at hg7
      have O7 := Lib.hid (show OwnI w7 B v7 (FT.take (i + 1)) by rw [HNX.out]; exact own_push (by rw [← HNN.out]; exact hr7))
      have K7 := Lib.hid ((hK.out.2.trans (K4.out.mono (by have := hK.out.2.size; have := HB.out; omega))).grown hg7 (by rw [HW4.out]; exact HB4.out) (fun j hj => (OffRow.lt HO.out j hj).1))
      have J7 := Lib.hid (
        (hg7.block B (Nat.lt_of_lt_of_le (heap_lt hK.out.1) K4.out.size) (fun e => by
          obtain ⟨cur, hc⟩ := OffRow.tag HO.out e.symm
          rw [hK.out.1] at hc
          simp at hc)).trans ((K4.out.block B (heap_lt hK.out.1)).trans hK.out.1))
      clear hr7 hg7 hat7 y0 e0 O4 HSR
      go_wp2_with fail
      go_roundw
      case rel => first | exact ⟨i + 1, hlt, by go_num, O7, Lib.hid ⟨J7.out, K7.out⟩⟩ | exact ⟨_, ⟨i + 1, hlt, by go_num, O7, Lib.hid ⟨J7.out, K7.out⟩⟩, rfl⟩ | exact ⟨_, _, ⟨i + 1, hlt, by go_num, O7, Lib.hid ⟨J7.out, K7.out⟩⟩, rfl⟩ | exact ⟨_, _, _, ⟨i + 1, hlt, by go_num, O7, Lib.hid ⟨J7.out, K7.out⟩⟩, rfl⟩ | exact ⟨_, _, _, _, ⟨i + 1, hlt, by go_num, O7, Lib.hid ⟨J7.out, K7.out⟩⟩, rfl⟩ | exact ⟨_, _, _, _, _, ⟨i + 1, hlt, by go_num, O7, Lib.hid ⟨J7.out, K7.out⟩⟩, rfl⟩ | exact ⟨_, _, _, _, _, _, ⟨i + 1, hlt, by go_num, O7, Lib.hid ⟨J7.out, K7.out⟩⟩, rfl⟩ | exact ⟨_, _, _, _, _, _, _, ⟨i + 1, hlt, by go_num, O7, Lib.hid ⟨J7.out, K7.out⟩⟩, rfl⟩ | exact ⟨_, _, _, _, _, _, _, _, ⟨i + 1, hlt, by go_num, O7, Lib.hid ⟨J7.out, K7.out⟩⟩, rfl⟩ | exact ⟨_, _, _, _, _, _, _, _, _, ⟨i + 1, hlt, by go_num, O7, Lib.hid ⟨J7.out, K7.out⟩⟩, rfl⟩ | exact ⟨_, _, _, _, _, _, _, _, _, _, ⟨i + 1, hlt, by go_num, O7, Lib.hid ⟨J7.out, K7.out⟩⟩, rfl⟩ | exact ⟨_, _, _, _, _, _, _, _, _, _, _, ⟨i + 1, hlt, by go_num, O7, Lib.hid ⟨J7.out, K7.out⟩⟩, rfl⟩ | exact ⟨_, _, _, _, _, _, _, _, _, _, _, _, ⟨i + 1, hlt, by go_num, O7, Lib.hid ⟨J7.out, K7.out⟩⟩, rfl⟩ | exact ⟨_, _, _, _, _, _, _, _, _, _, _, _, _, ⟨i + 1, hlt, by go_num, O7, Lib.hid ⟨J7.out, K7.out⟩⟩, rfl⟩ | exact ⟨_, _, _, _, _, _, _, _, _, _, _, _, _, _, ⟨i + 1, hlt, by go_num, O7, Lib.hid ⟨J7.out, K7.out⟩⟩, rfl⟩ | exact ⟨_, _, _, _, _, _, _, _, _, _, _, _, _, _, _, ⟨i + 1, hlt, by go_num, O7, Lib.hid ⟨J7.out, K7.out⟩⟩, rfl⟩ | exact ⟨_, _, _, _, _, _, _, _, _, _, _, _, _, _, _, _, ⟨i + 1, hlt, by go_num, O7, Lib.hid ⟨J7.out, K7.out⟩⟩, rfl⟩ | exact ⟨_, _, _, _, _, _, _, _, _, _, _, _, _, _, _, _, _, ⟨i + 1, hlt, by go_num, O7, Lib.hid ⟨J7.out, K7.out⟩⟩, rfl⟩ | exact ⟨_, _, _, _, _, _, _, _, _, _, _, _, _, _, _, _, _, _, ⟨i + 1, hlt, by go_num, O7, Lib.hid ⟨J7.out, K7.out⟩⟩, rfl⟩ | exact ⟨_, _, _, _, _, _, _, _, _, _, _, _, _, _, _, _, _, _, _, ⟨i + 1, hlt, by go_num, O7, Lib.hid ⟨J7.out, K7.out⟩⟩, rfl⟩ | exact ⟨_, _, _, _, _, _, _, _, _, _, _, _, _, _, _, _, _, _, _, _, ⟨i + 1, hlt, by go_num, O7, Lib.hid ⟨J7.out, K7.out⟩⟩, rfl⟩ | exact ⟨_, _, _, _, _, _, _, _, _, _, _, _, _, _, _, _, _, _, _, _, _, ⟨i + 1, hlt, by go_num, O7, Lib.hid ⟨J7.out, K7.out⟩⟩, rfl⟩ | exact ⟨_, _, _, _, _, _, _, _, _, _, _, _, _, _, _, _, _, _, _, _, _, _, ⟨i + 1, hlt, by go_num, O7, Lib.hid ⟨J7.out, K7.out⟩⟩, rfl⟩ | exact ⟨_, _, _, _, _, _, _, _, _, _, _, _, _, _, _, _, _, _, _, _, _, _, _, ⟨i + 1, hlt, by go_num, O7, Lib.hid ⟨J7.out, K7.out⟩⟩, rfl⟩ | exact ⟨_, _, _, _, _, _, _, _, _, _, _, _, _, _, _, _, _, _, _, _, _, _, _, _, ⟨i + 1, hlt, by go_num, O7, Lib.hid ⟨J7.out, K7.out⟩⟩, rfl⟩ | exact ⟨_, _, _, _, _, _, _, _, _, _, _, _, _, _, _, _, _, _, _, _, _, _, _, _, _, ⟨i + 1, hlt, by go_num, O7, Lib.hid ⟨J7.out, K7.out⟩⟩, rfl⟩ | exact ⟨_, _, _, _, _, _, _, _, _, _, _, _, _, _, _, _, _, _, _, _, _, _, _, _, _, _, ⟨i + 1, hlt, by go_num, O7, Lib.hid ⟨J7.out, K7.out⟩⟩, rfl⟩ | exact ⟨_, _, _, _, _, _, _, _, _, _, _, _, _, _, _, _, _, _, _, _, _, _, _, _, _, _, _, ⟨i + 1, hlt, by go_num, O7, Lib.hid ⟨J7.out, K7.out⟩⟩, rfl⟩ | exact ⟨_, _, _, _, _, _, _, _, _, _, _, _, _, _, _, _, _, _, _, _, _, _, _, _, _, _, _, _, ⟨i + 1, hlt, by go_num, O7, Lib.hid ⟨J7.out, K7.out⟩⟩, rfl⟩ | exact ⟨_, _, _, _, _, _, _, _, _, _, _, _, _, _, _, _, _, _, _, _, _, _, _, _, _, _, _, _, _, ⟨i + 1, hlt, by go_num, O7, Lib.hid ⟨J7.out, K7.out⟩⟩, rfl⟩ | exact ⟨_, _, _, _, _, _, _, _, _, _, _, _, _, _, _, _, _, _, _, _, _, _, _, _, _, _, _, _, _, _, ⟨i + 1, hlt, by go_num, O7, Lib.hid ⟨J7.out, K7.out⟩⟩, rfl⟩ | exact ⟨_, _, _, _, _, _, _, _, _, _, _, _, _, _, _, _, _, _, _, _, _, _, _, _, _, _, _, _, _, _, _, ⟨i + 1, hlt, by go_num, O7, Lib.hid ⟨J7.out, K7.out⟩⟩, rfl⟩ | exact ⟨_, _, _, _, _, _, _, _, _, _, _, _, _, _, _, _, _, _, _, _, _, _, _, _, _, _, _, _, _, _, _, _, ⟨i + 1, hlt, by go_num, O7, Lib.hid ⟨J7.out, K7.out⟩⟩, rfl⟩ | exact ⟨_, _, _, _, _, _, _, _, _, _, _, _, _, _, _, _, _, _, _, _, _, _, _, _, _, _, _, _, _, _, _, _, _, ⟨i + 1, hlt, by go_num, O7, Lib.hid ⟨J7.out, K7.out⟩⟩, rfl⟩ | exact ⟨_, _, _, _, _, _, _, _, _, _, _, _, _, _, _, _, _, _, _, _, _, _, _, _, _, _, _, _, _, _, _, _, _, _, ⟨i + 1, hlt, by go_num, O7, Lib.hid ⟨J7.out, K7.out⟩⟩, rfl⟩ | exact ⟨_, _, _, _, _, _, _, _, _, _, _, _, _, _, _, _, _, _, _, _, _, _, _, _, _, _, _, _, _, _, _, _, _, _, _, ⟨i + 1, hlt, by go_num, O7, Lib.hid ⟨J7.out, K7.out⟩⟩, rfl⟩ | exact ⟨_, _, _, _, _, _, _, _, _, _, _, _, _, _, _, _, _, _, _, _, _, _, _, _, _, _, _, _, _, _, _, _, _, _, _, _, ⟨i + 1, hlt, by go_num, O7, Lib.hid ⟨J7.out, K7.out⟩⟩, rfl⟩ | exact ⟨_, _, _, _, _, _, _, _, _, _, _, _, _, _, _, _, _, _, _, _, _, _, _, _, _, _, _, _, _, _, _, _, _, _, _, _, _, ⟨i + 1, hlt, by go_num, O7, Lib.hid ⟨J7.out, K7.out⟩⟩, rfl⟩ | exact ⟨_, _, _, _, _, _, _, _, _, _, _, _, _, _, _, _, _, _, _, _, _, _, _, _, _, _, _, _, _, _, _, _, _, _, _, _, _, _, ⟨i + 1, hlt, by go_num, O7, Lib.hid ⟨J7.out, K7.out⟩⟩, rfl⟩ | exact ⟨_, _, _, _, _, _, _, _, _, _, _, _, _, _, _, _, _, _, _, _, _, _, _, _, _, _, _, _, _, _, _, _, _, _, _, _, _, _, _, ⟨i + 1, hlt, by go_num, O7, Lib.hid ⟨J7.out, K7.out⟩⟩, rfl⟩ | exact ⟨_, _, _, _, _, _, _, _, _, _, _, _, _, _, _, _, _, _, _, _, _, _, _, _, _, _, _, _, _, _, _, _, _, _, _, _, _, _, _, _, ⟨i + 1, hlt, by go_num, O7, Lib.hid ⟨J7.out, K7.out⟩⟩, rfl⟩ | exact ⟨_, _, _, _, _, _, _, _, _, _, _, _, _, _, _, _, _, _, _, _, _, _, _, _, _, _, _, _, _, _, _, _, _, _, _, _, _, _, _, _, _, ⟨i + 1, hlt, by go_num, O7, Lib.hid ⟨J7.out, K7.out⟩⟩, rfl⟩ | exact ⟨_, _, _, _, _, _, _, _, _, _, _, _, _, _, _, _, _, _, _, _, _, _, _, _, _, _, _, _, _, _, _, _, _, _, _, _, _, _, _, _, _, _, ⟨i + 1, hlt, by go_num, O7, Lib.hid ⟨J7.out, K7.out⟩⟩, rfl⟩ | exact ⟨_, _, _, _, _, _, _, _, _, _, _, _, _, _, _, _, _, _, _, _, _, _, _, _, _, _, _, _, _, _, _, _, _, _, _, _, _, _, _, _, _, _, _, ⟨i + 1, hlt, by go_num, O7, Lib.hid ⟨J7.out, K7.out⟩⟩, rfl⟩ | exact ⟨_, _, _, _, _, _, _, _, _, _, _, _, _, _, _, _, _, _, _, _, _, _, _, _, _, _, _, _, _, _, _, _, _, _, _, _, _, _, _, _, _, _, _, _, ⟨i + 1, hlt, by go_num, O7, Lib.hid ⟨J7.out, K7.out⟩⟩, rfl⟩ | exact ⟨_, _, _, _, _, _, _, _, _, _, _, _, _, _, _, _, _, _, _, _, _, _, _, _, _, _, _, _, _, _, _, _, _, _, _, _, _, _, _, _, _, _, _, _, _, ⟨i + 1, hlt, by go_num, O7, Lib.hid ⟨J7.out, K7.out⟩⟩, rfl⟩
      case measure => simp [intOf]; omega
    · have hge : (nt : Int) ≤ (i : Int) := by omega
      have HFIN := Lib.hid (show FT.take i = FT from List.take_of_length_le (by have := HFL.out; have := HNT.out; have := HNS.out; omega))
      have HO2 := Lib.hid (show OwnI wr B (.slice a3 N c3) (FT ++ FS.take 0) by
        have := HO.out
        rw [HFIN.out] at this
        rw [List.take_zero, List.append_nil]
        unfold OwnI
        rw [show FT.length = N by rw [HNN.out, HFIN.out]]
        exact this)
      have HK2 := hK
      clear hK HO HFIN HNN hN9 hi
      go_wp2_with fail
      clear e0 hge hlt
      go_loopw [3, 5] (fun v iv wr => ∃ i : Nat, i ≤ ns ∧ iv = .int .i64 (i : Int) ∧ Hid (OwnI wr B v (FT ++ FS.take i)) ∧ Hid (wr.heap[B]? = some (.cells #[.slice ta nt tc, .slice sa ns sc, .slice la nl lc, .int .i64 nx] 29 (0, 0)) ∧ Below B w wr)) (fun v iv wr => ns - (intOf iv).toNat)
      case atStart => exact ⟨0, Nat.zero_le _, rfl, HO2, HK2⟩
      case round =>
        obtain ⟨i, hi, rfl, hO, hK⟩ := hrel
        obtain ⟨N, hN⟩ : ∃ N, N = (FT ++ FS.take i).length := ⟨_, rfl⟩
        have hN9 : N ≤ 2000000000 := by
          rw [hN]
          simp only [List.length_append, List.length_take]
          have := hs.out; have := HNT.out; have := HNS.out; have := HFL.out
          omega
        have HNN := Lib.hid hN
        have HO := Lib.hid (show OffRow wr B 3 1 _ N (flat icell (FT ++ FS.take i)) by have := hO.out; unfold OwnI at this; rw [← hN] at this; exact this)
        obtain ⟨a3, c3, rfl⟩ := OffRow.slice HO.out
        have e0 : wr.cell? ⟨B, 1, none⟩ = some (.slice sa ns sc) := by simp [World.cell?, hK.out.1]
        clear hN hO
        by_cases hlt : i < ns
        · have hlt' : (i : Int) < (ns : Int) := by omega
          obtain ⟨y, hy⟩ : ∃ y, s.stos[i]? = some y := ⟨_, List.getElem?_eq_getElem (by have := HNS.out; omega)⟩
          obtain ⟨b, off, rfl, ht, hb2, hc⟩ := RdL.atS HSB.out hy hlt
          have hcr : ∀ i' u, (socell y)[i']? = some u → wr.cell? ⟨b, off + i * 2 + i', none⟩ = some u := fun i' u hu => by
            rw [← hc i' u hu]
            simp only [World.cell?, hK.out.2.block b (by rw [HB.out]; exact hb2)]
          have y0 : wr.cell? ⟨b, off + i * 2, none⟩ = _ := hcr 0 _ rfl
          have HNX := Lib.hid (show FT ++ FS.take (i + 1) = FT ++ FS.take i ++ [y.file] by
            have hF : FS[i]? = some y.file := by rw [HFS.out, List.getElem?_map, hy]; rfl
            rw [List.take_add_one, hF]
            simp)
          clear hc hcr hy
          obtain ⟨w4, hw4⟩ : ∃ w4, w4 = wr.alloc (.cells #[.int .i64 y.file] 3) := ⟨_, rfl⟩
          have O4 := Lib.hid (show OffRow w4 B 3 1 (.slice a3 N c3) N (flat icell (FT ++ FS.take i)) by rw [hw4]; exact HO.out.allocd _)
          have K4 := Lib.hid (show Below wr.heap.size wr w4 by rw [hw4]; exact (Below.refl _ _).alloc (Nat.le_refl _) _)
          have HSR := Lib.hid (show Src Tryz.prog 1 27 (.slice (some ⟨wr.heap.size, 0, none⟩) 1 1) 1 [.int .i64 y.file] w4 by
            have hb : w4.heap[wr.heap.size]? = some (.cells #[.int .i64 y.file] 3 (0, 0)) := by
              rw [hw4]
              exact heap_new wr _
            exact src_block (size := 1) (cs := #[.int .i64 y.file]) Tryz.underlying27 hb 1 1 rfl (by intro u hu; simp at hu; subst hu; rfl))
          have HB4 := Lib.hid (show B ≤ w4.heap.size by have := K4.out.size; have := hK.out.2.size; have := HB.out; omega)
          rw [hw4] at O4 HSR HB4
          have HW4 := Lib.hid hw4
          clear hw4
          go_wp2_with (at_builtin; refine wpList_append_off rfl (.tmp 31) (.tmp 38) 27 rfl B 3 i0 _ 1 8 Tryz.underlying27 HI.out.1 HI.out.2.1 HI.out.2.2.1 HI.out.2.2.2 rfl (.slice a3 N c3) N _ rfl O4.out (.slice (some ⟨wr.heap.size, 0, none⟩) 1 1) rfl 1 _ HSR.out ?q3 ?q4 HB4.out ?_)
          case q3 => unfold maxLen; omega
          case q4 => omega
          intro v7 w7 hr7 hg7 hat7
          rw [← HW4.out] at hg7
          have O7 := Lib.hid (show OwnI w7 B v7 (FT ++ FS.take (i + 1)) by rw [HNX.out]; exact own_push (by rw [← HNN.out]; exact hr7))
          have K7 := Lib.hid ((hK.out.2.trans (K4.out.mono (by have := hK.out.2.size; have := HB.out; omega))).grown hg7 (by rw [HW4.out]; exact HB4.out) (fun j hj => (OffRow.lt HO.out j hj).1))
          have J7 := Lib.hid (
            (hg7.block B (Nat.lt_of_lt_of_le (heap_lt hK.out.1) K4.out.size) (fun e => by
              obtain ⟨cur, hc⟩ := OffRow.tag HO.out e.symm
              rw [hK.out.1] at hc
              simp at hc)).trans ((K4.out.block B (heap_lt hK.out.1)).trans hK.out.1))
          clear hr7 hg7 hat7 y0 e0 O4 HSR
          go_wp2_with fail
          go_roundw
          case rel => first | exact ⟨i + 1, hlt, by go_num, O7, Lib.hid ⟨J7.out, K7.out⟩⟩ | exact ⟨_, ⟨i + 1, hlt, by go_num, O7, Lib.hid ⟨J7.out, K7.out⟩⟩, rfl⟩ | exact ⟨_, _, ⟨i + 1, hlt, by go_num, O7, Lib.hid ⟨J7.out, K7.out⟩⟩, rfl⟩ | exact ⟨_, _, _, ⟨i + 1, hlt, by go_num, O7, Lib.hid ⟨J7.out, K7.out⟩⟩, rfl⟩ | exact ⟨_, _, _, _, ⟨i + 1, hlt, by go_num, O7, Lib.hid ⟨J7.out, K7.out⟩⟩, rfl⟩ | exact ⟨_, _, _, _, _, ⟨i + 1, hlt, by go_num, O7, Lib.hid ⟨J7.out, K7.out⟩⟩, rfl⟩ | exact ⟨_, _, _, _, _, _, ⟨i + 1, hlt, by go_num, O7, Lib.hid ⟨J7.out, K7.out⟩⟩, rfl⟩ | exact ⟨_, _, _, _, _, _, _, ⟨i + 1, hlt, by go_num, O7, Lib.hid ⟨J7.out, K7.out⟩⟩, rfl⟩ | exact ⟨_, _, _, _, _, _, _, _, ⟨i + 1, hlt, by go_num, O7, Lib.hid ⟨J7.out, K7.out⟩⟩, rfl⟩ | exact ⟨_, _, _, _, _, _, _, _, _, ⟨i + 1, hlt, by go_num, O7, Lib.hid ⟨J7.out, K7.out⟩⟩, rfl⟩ | exact ⟨_, _, _, _, _, _, _, _, _, _, ⟨i + 1, hlt, by go_num, O7, Lib.hid ⟨J7.out, K7.out⟩⟩, rfl⟩ | exact ⟨_, _, _, _, _, _, _, _, _, _, _, ⟨i + 1, hlt, by go_num, O7, Lib.hid ⟨J7.out, K7.out⟩⟩, rfl⟩ | exact ⟨_, _, _, _, _, _, _, _, _, _, _, _, ⟨i + 1, hlt, by go_num, O7, Lib.hid ⟨J7.out, K7.out⟩⟩, rfl⟩ | exact ⟨_, _, _, _, _, _, _, _, _, _, _, _, _, ⟨i + 1, hlt, by go_num, O7, Lib.hid ⟨J7.out, K7.out⟩⟩, rfl⟩ | exact ⟨_, _, _, _, _, _, _, _, _, _, _, _, _, _, ⟨i + 1, hlt, by go_num, O7, Lib.hid ⟨J7.out, K7.out⟩⟩, rfl⟩ | exact ⟨_, _, _, _, _, _, _, _, _, _, _, _, _, _, _, ⟨i + 1, hlt, by go_num, O7, Lib.hid ⟨J7.out, K7.out⟩⟩, rfl⟩ | exact ⟨_, _, _, _, _, _, _, _, _, _, _, _, _, _, _, _, ⟨i + 1, hlt, by go_num, O7, Lib.hid ⟨J7.out, K7.out⟩⟩, rfl⟩ | exact ⟨_, _, _, _, _, _, _, _, _, _, _, _, _, _, _, _, _, ⟨i + 1, hlt, by go_num, O7, Lib.hid ⟨J7.out, K7.out⟩⟩, rfl⟩ | exact ⟨_, _, _, _, _, _, _, _, _, _, _, _, _, _, _, _, _, _, ⟨i + 1, hlt, by go_num, O7, Lib.hid ⟨J7.out, K7.out⟩⟩, rfl⟩ | exact ⟨_, _, _, _, _, _, _, _, _, _, _, _, _, _, _, _, _, _, _, ⟨i + 1, hlt, by go_num, O7, Lib.hid ⟨J7.out, K7.out⟩⟩, rfl⟩ | exact ⟨_, _, _, _, _, _, _, _, _, _, _, _, _, _, _, _, _, _, _, _, ⟨i + 1, hlt, by go_num, O7, Lib.hid ⟨J7.out, K7.out⟩⟩, rfl⟩ | exact ⟨_, _, _, _, _, _, _, _, _, _, _, _, _, _, _, _, _, _, _, _, _, ⟨i + 1, hlt, by go_num, O7, Lib.hid ⟨J7.out, K7.out⟩⟩, rfl⟩ | exact ⟨_, _, _, _, _, _, _, _, _, _, _, _, _, _, _, _, _, _, _, _, _, _, ⟨i + 1, hlt, by go_num, O7, Lib.hid ⟨J7.out, K7.out⟩⟩, rfl⟩ | exact ⟨_, _, _, _, _, _, _, _, _, _, _, _, _, _, _, _, _, _, _, _, _, _, _, ⟨i + 1, hlt, by go_num, O7, Lib.hid ⟨J7.out, K7.out⟩⟩, rfl⟩ | exact ⟨_, _, _, _, _, _, _, _, _, _, _, _, _, _, _, _, _, _, _, _, _, _, _, _, ⟨i + 1, hlt, by go_num, O7, Lib.hid ⟨J7.out, K7.out⟩⟩, rfl⟩ | exact ⟨_, _, _, _, _, _, _, _, _, _, _, _, _, _, _, _, _, _, _, _, _, _, _, _, _, ⟨i + 1, hlt, by go_num, O7, Lib.hid ⟨J7.out, K7.out⟩⟩, rfl⟩ | exact ⟨_, _, _, _, _, _, _, _, _, _, _, _, _, _, _, _, _, _, _, _, _, _, _, _, _, _, ⟨i + 1, hlt, by go_num, O7, Lib.hid ⟨J7.out, K7.out⟩⟩, rfl⟩ | exact ⟨_, _, _, _, _, _, _, _, _, _, _, _, _, _, _, _, _, _, _, _, _, _, _, _, _, _, _, ⟨i + 1, hlt, by go_num, O7, Lib.hid ⟨J7.out, K7.out⟩⟩, rfl⟩ | exact ⟨_, _, _, _, _, _, _, _, _, _, _, _, _, _, _, _, _, _, _, _, _, _, _, _, _, _, _, _, ⟨i + 1, hlt, by go_num, O7, Lib.hid ⟨J7.out, K7.out⟩⟩, rfl⟩ | exact ⟨_, _, _, _, _, _, _, _, _, _, _, _, _, _, _, _, _, _, _, _, _, _, _, _, _, _, _, _, _, ⟨i + 1, hlt, by go_num, O7, Lib.hid ⟨J7.out, K7.out⟩⟩, rfl⟩ | exact ⟨_, _, _, _, _, _, _, _, _, _, _, _, _, _, _, _, _, _, _, _, _, _, _, _, _, _, _, _, _, _, ⟨i + 1, hlt, by go_num, O7, Lib.hid ⟨J7.out, K7.out⟩⟩, rfl⟩ | exact ⟨_, _, _, _, _, _, _, _, _, _, _, _, _, _, _, _, _, _, _, _, _, _, _, _, _, _, _, _, _, _, _, ⟨i + 1, hlt, by go_num, O7, Lib.hid ⟨J7.out, K7.out⟩⟩, rfl⟩ | exact ⟨_, _, _, _, _, _, _, _, _, _, _, _, _, _, _, _, _, _, _, _, _, _, _, _, _, _, _, _, _, _, _, _, ⟨i + 1, hlt, by go_num, O7, Lib.hid ⟨J7.out, K7.out⟩⟩, rfl⟩ | exact ⟨_, _, _, _, _, _, _, _, _, _, _, _, _, _, _, _, _, _, _, _, _, _, _, _, _, _, _, _, _, _, _, _, _, ⟨i + 1, hlt, by go_num, O7, Lib.hid ⟨J7.out, K7.out⟩⟩, rfl⟩ | exact ⟨_, _, _, _, _, _, _, _, _, _, _, _, _, _, _, _, _, _, _, _, _, _, _, _, _, _, _, _, _, _, _, _, _, _, ⟨i + 1, hlt, by go_num, O7, Lib.hid ⟨J7.out, K7.out⟩⟩, rfl⟩ | exact ⟨_, _, _, _, _, _, _, _, _, _, _, _, _, _, _, _, _, _, _, _, _, _, _, _, _, _, _, _, _, _, _, _, _, _, _, ⟨i + 1, hlt, by go_num, O7, Lib.hid ⟨J7.out, K7.out⟩⟩, rfl⟩ | exact ⟨_, _, _, _, _, _, _, _, _, _, _, _, _, _, _, _, _, _, _, _, _, _, _, _, _, _, _, _, _, _, _, _, _, _, _, _, ⟨i + 1, hlt, by go_num, O7, Lib.hid ⟨J7.out, K7.out⟩⟩, rfl⟩ | exact ⟨_, _, _, _, _, _, _, _, _, _, _, _, _, _, _, _, _, _, _, _, _, _, _, _, _, _, _, _, _, _, _, _, _, _, _, _, _, ⟨i + 1, hlt, by go_num, O7, Lib.hid ⟨J7.out, K7.out⟩⟩, rfl⟩ | exact ⟨_, _, _, _, _, _, _, _, _, _, _, _, _, _, _, _, _, _, _, _, _, _, _, _, _, _, _, _, _, _, _, _, _, _, _, _, _, _, ⟨i + 1, hlt, by go_num, O7, Lib.hid ⟨J7.out, K7.out⟩⟩, rfl⟩ | exact ⟨_, _, _, _, _, _, _, _, _, _, _, _, _, _, _, _, _, _, _, _, _, _, _, _, _, _, _, _, _, _, _, _, _, _, _, _, _, _, _, ⟨i + 1, hlt, by go_num, O7, Lib.hid ⟨J7.out, K7.out⟩⟩, rfl⟩ | exact ⟨_, _, _, _, _, _, _, _, _, _, _, _, _, _, _, _, _, _, _, _, _, _, _, _, _, _, _, _, _, _, _, _, _, _, _, _, _, _, _, _, ⟨i + 1, hlt, by go_num, O7, Lib.hid ⟨J7.out, K7.out⟩⟩, rfl⟩ | exact ⟨_, _, _, _, _, _, _, _, _, _, _, _, _, _, _, _, _, _, _, _, _, _, _, _, _, _, _, _, _, _, _, _, _, _, _, _, _, _, _, _, _, ⟨i + 1, hlt, by go_num, O7, Lib.hid ⟨J7.out, K7.out⟩⟩, rfl⟩ | exact ⟨_, _, _, _, _, _, _, _, _, _, _, _, _, _, _, _, _, _, _, _, _, _, _, _, _, _, _, _, _, _, _, _, _, _, _, _, _, _, _, _, _, _, ⟨i + 1, hlt, by go_num, O7, Lib.hid ⟨J7.out, K7.out⟩⟩, rfl⟩ | exact ⟨_, _, _, _, _, _, _, _, _, _, _, _, _, _, _, _, _, _, _, _, _, _, _, _, _, _, _, _, _, _, _, _, _, _, _, _, _, _, _, _, _, _, _, ⟨i + 1, hlt, by go_num, O7, Lib.hid ⟨J7.out, K7.out⟩⟩, rfl⟩ | exact ⟨_, _, _, _, _, _, _, _, _, _, _, _, _, _, _, _, _, _, _, _, _, _, _, _, _, _, _, _, _, _, _, _, _, _, _, _, _, _, _, _, _, _, _, _, ⟨i + 1, hlt, by go_num, O7, Lib.hid ⟨J7.out, K7.out⟩⟩, rfl⟩ | exact ⟨_, _, _, _, _, _, _, _, _, _, _, _, _, _, _, _, _, _, _, _, _, _, _, _, _, _, _, _, _, _, _, _, _, _, _, _, _, _, _, _, _, _, _, _, _, ⟨i + 1, hlt, by go_num, O7, Lib.hid ⟨J7.out, K7.out⟩⟩, rfl⟩
          case measure => simp [intOf]; omega
        · have hge : (ns : Int) ≤ (i : Int) := by omega
          have HFIN := Lib.hid (show FS.take i = FS from List.take_of_length_le (by have := HFL.out; have := HNT.out; have := HNS.out; omega))
          have f2 : wr.cell? ⟨B, 2, none⟩ = some (.slice la nl lc) := by simp [World.cell?, hK.out.1]
          have HO3 := Lib.hid (show OffRow wr B 3 1 (.slice a3 N c3) N (flat icell (FT ++ FS)) by have := HO.out; rw [HFIN.out] at this; exact this)
          have HSR := Lib.hid (show Src Tryz.prog 1 27 (.slice la nl lc) nl (flat icell s.logs) wr by
            have := src_ints (HLB.out.below (HB.out ▸ hK.out.2))
            rw [← HNL.out] at this
            exact this)
          have HBr := Lib.hid (show B ≤ wr.heap.size by have := hK.out.2.size; have := HB.out; omega)
          have HN3 := Lib.hid (show N = FT.length + FS.length by rw [HNN.out, HFIN.out, List.length_append])
          clear hi HNN HFIN
          go_wp2_with (at_builtin; refine wpList_append_off rfl (.tmp 40) (.tmp 42) 27 rfl B 3 i0 _ 1 8 Tryz.underlying27 HI.out.1 HI.out.2.1 HI.out.2.2.1 HI.out.2.2.2 rfl (.slice a3 N c3) N _ rfl HO3.out (.slice la nl lc) rfl nl _ HSR.out ?q3 ?q4 HBr.out ?_)
          case q3 => unfold maxLen; omega
          case q4 => omega
          intro v7 w7 hr7 hg7 hat7
          obtain ⟨M, hM⟩ : ∃ M, M = FT ++ FS ++ s.logs := ⟨_, rfl⟩
          obtain ⟨m, hm⟩ : ∃ m, m = N + nl := ⟨_, rfl⟩
          have HMM := Lib.hid (And.intro hM (show M.length = m by rw [hM, hm, List.length_append, List.length_append, HN3.out, HNL.out]))
          have O7 := Lib.hid (show OffRow w7 B 3 1 v7 m (flat icell M) by rw [hM, hm, flat_append (L := FT ++ FS)]; exact hr7)
          have K7 := Lib.hid (hK.out.2.grown hg7 HBr.out (fun j hj => (OffRow.lt HO.out j hj).1))
          have hm9 : m ≤ 4000000000 := by omega
          clear hr7 hg7 hat7 e0 f2 HO HO2 HO3 HK2 HSR hK hM hm HBr hN9 hge hlt
          clear X1 K1
          obtain ⟨v8, hv8⟩ : ∃ v8, v8 = v7 := ⟨_, rfl⟩
          rw [← hv8] at O7 ⊢
          obtain ⟨av, cv, hav⟩ := OffRow.slice O7.out
          subst hav
          clear hv8
          go_wp2_with fail
          go_loopw [6] (fun iv wr => ∃ (i : Nat) (Q : List Int), i ≤ m ∧ iv = .int .i64 (i : Int) ∧ Hid (Q.Perm (M.take i) ∧ Q.Pairwise fun a b => a ≤ b) ∧ Hid (OffRow wr B 3 1 (.slice av m cv) m (flat icell (Q ++ M.drop i))) ∧ Hid (Below B w wr)) (fun iv wr => m - (intOf iv).toNat)
          case atStart => exact ⟨0, [], Nat.zero_le _, rfl, Lib.hid ⟨by rw [List.take_zero], List.Pairwise.nil⟩, Lib.hid (by simpa using O7.out), K7⟩
          case round =>
            obtain ⟨i, Q, hi, rfl, hQ, hO, hK⟩ := hrel
            by_cases hlt : i < m
            · have hlt' : (i : Int) < (m : Int) := by omega
              obtain ⟨x, hx⟩ : ∃ x, M[i]? = some x := ⟨_, List.getElem?_eq_getElem (by have := HMM.out.2; omega)⟩
              obtain ⟨g, off, cap, hav, hBg, _, hcap⟩ := own_slice1 hO.out (by omega)
              injection hav with hav _ hcv
              subst hav hcv
              have hBg' := Lib.hid hBg
              have HX := Lib.hid hx
              have HQL := Lib.hid (show Q.length = i by rw [hQ.out.1.length_eq, List.length_take]; have := HMM.out.2; omega)
              have HD := Lib.hid (show M.drop i = x :: M.drop (i + 1) by
                obtain ⟨h1, h2⟩ := List.getElem?_eq_some_iff.1 hx
                rw [List.drop_eq_getElem_cons h1, h2])
              have hS0 := Lib.hid (show OffRow wr B 3 1 (.slice (some ⟨g, off, none⟩) m cv) m (flat icell (atK Q x i (M.drop (i + 1)))) by
                have := hO.out
                rw [HD.out] at this
                have e := atK_end Q x (M.drop (i + 1))
                rw [HQL.out] at e
                rw [e]
                exact this)
              clear hx hO hBg
              go_wp2_with fail
              go_loopw [7] (fun kv wq => ∃ k : Nat, k ≤ i ∧ kv = .int .i64 (k : Int) ∧ Hid (∀ y ∈ Q.drop k, x ≤ y) ∧ Hid (OffRow wq B 3 1 (.slice (some ⟨g, off, none⟩) m cv) m (flat icell (atK Q x k (M.drop (i + 1))))) ∧ Hid (Below B w wq)) (fun kv wq => (intOf kv).toNat)
              case atStart => exact ⟨i, Nat.le_refl _, rfl, Lib.hid (by rw [← HQL.out, List.drop_length]; intro y hy; cases hy), hS0, hK⟩
              case round =>
                obtain ⟨k, hk, rfl, hd, hO, hK'⟩ := hrel
                cases k with
                | zero =>
                  have HE := Lib.hid (show (Q.take 0 ++ x :: Q.drop 0).Perm (M.take (i + 1)) ∧ (Q.take 0 ++ x :: Q.drop 0).Pairwise fun a b => a ≤ b from by
                    refine ⟨(atK_perm Q x _).trans ?_, atK_rise hQ.out.2 hd.out ?_⟩
                    · rw [List.take_add_one, HX.out]
                      exact (List.perm_cons x).2 hQ.out.1 |>.trans (List.perm_append_comm (l₁ := [x]) (l₂ := M.take i))
                    · intro y hy; cases hy)
                  have HOE := Lib.hid (show OffRow wr B 3 1 (.slice (some ⟨g, off, none⟩) m cv) m (flat icell (Q.take 0 ++ x :: Q.drop 0 ++ M.drop (i + 1))) from hO.out)
                  have q0 : decide ((0 : Int) > 0) = false := by decide
                  clear hO
                  go_wp2_with fail
                  go_quiet (fail)
                  go_wp2
                  go_roundw
                  case rel => first | exact ⟨i + 1, _, hlt, by go_num, HE, Lib.hid (OffRow.kept HOE.out fun j hj => rfl), Lib.hid (below_drewN hK'.out _)⟩ | exact ⟨_, ⟨i + 1, _, hlt, by go_num, HE, Lib.hid (OffRow.kept HOE.out fun j hj => rfl), Lib.hid (below_drewN hK'.out _)⟩, rfl⟩ | exact ⟨_, _, ⟨i + 1, _, hlt, by go_num, HE, Lib.hid (OffRow.kept HOE.out fun j hj => rfl), Lib.hid (below_drewN hK'.out _)⟩, rfl⟩ | exact ⟨_, _, _, ⟨i + 1, _, hlt, by go_num, HE, Lib.hid (OffRow.kept HOE.out fun j hj => rfl), Lib.hid (below_drewN hK'.out _)⟩, rfl⟩ | exact ⟨_, _, _, _, ⟨i + 1, _, hlt, by go_num, HE, Lib.hid (OffRow.kept HOE.out fun j hj => rfl), Lib.hid (below_drewN hK'.out _)⟩, rfl⟩ | exact ⟨_, _, _, _, _, ⟨i + 1, _, hlt, by go_num, HE, Lib.hid (OffRow.kept HOE.out fun j hj => rfl), Lib.hid (below_drewN hK'.out _)⟩, rfl⟩ | exact ⟨_, _, _, _, _, _, ⟨i + 1, _, hlt, by go_num, HE, Lib.hid (OffRow.kept HOE.out fun j hj => rfl), Lib.hid (below_drewN hK'.out _)⟩, rfl⟩ | exact ⟨_, _, _, _, _, _, _, ⟨i + 1, _, hlt, by go_num, HE, Lib.hid (OffRow.kept HOE.out fun j hj => rfl), Lib.hid (below_drewN hK'.out _)⟩, rfl⟩ | exact ⟨_, _, _, _, _, _, _, _, ⟨i + 1, _, hlt, by go_num, HE, Lib.hid (OffRow.kept HOE.out fun j hj => rfl), Lib.hid (below_drewN hK'.out _)⟩, rfl⟩ | exact ⟨_, _, _, _, _, _, _, _, _, ⟨i + 1, _, hlt, by go_num, HE, Lib.hid (OffRow.kept HOE.out fun j hj => rfl), Lib.hid (below_drewN hK'.out _)⟩, rfl⟩ | exact ⟨_, _, _, _, _, _, _, _, _, _, ⟨i + 1, _, hlt, by go_num, HE, Lib.hid (OffRow.kept HOE.out fun j hj => rfl), Lib.hid (below_drewN hK'.out _)⟩, rfl⟩ | exact ⟨_, _, _, _, _, _, _, _, _, _, _, ⟨i + 1, _, hlt, by go_num, HE, Lib.hid (OffRow.kept HOE.out fun j hj => rfl), Lib.hid (below_drewN hK'.out _)⟩, rfl⟩ | exact ⟨_, _, _, _, _, _, _, _, _, _, _, _, ⟨i + 1, _, hlt, by go_num, HE, Lib.hid (OffRow.kept HOE.out fun j hj => rfl), Lib.hid (below_drewN hK'.out _)⟩, rfl⟩ | exact ⟨_, _, _, _, _, _, _, _, _, _, _, _, _, ⟨i + 1, _, hlt, by go_num, HE, Lib.hid (OffRow.kept HOE.out fun j hj => rfl), Lib.hid (below_drewN hK'.out _)⟩, rfl⟩ | exact ⟨_, _, _, _, _, _, _, _, _, _, _, _, _, _, ⟨i + 1, _, hlt, by go_num, HE, Lib.hid (OffRow.kept HOE.out fun j hj => rfl), Lib.hid (below_drewN hK'.out _)⟩, rfl⟩ | exact ⟨_, _, _, _, _, _, _, _, _, _, _, _, _, _, _, ⟨i + 1, _, hlt, by go_num, HE, Lib.hid (OffRow.kept HOE.out fun j hj => rfl), Lib.hid (below_drewN hK'.out _)⟩, rfl⟩ | exact ⟨_, _, _, _, _, _, _, _, _, _, _, _, _, _, _, _, ⟨i + 1, _, hlt, by go_num, HE, Lib.hid (OffRow.kept HOE.out fun j hj => rfl), Lib.hid (below_drewN hK'.out _)⟩, rfl⟩ | exact ⟨_, _, _, _, _, _, _, _, _, _, _, _, _, _, _, _, _, ⟨i + 1, _, hlt, by go_num, HE, Lib.hid (OffRow.kept HOE.out fun j hj => rfl), Lib.hid (below_drewN hK'.out _)⟩, rfl⟩ | exact ⟨_, _, _, _, _, _, _, _, _, _, _, _, _, _, _, _, _, _, ⟨i + 1, _, hlt, by go_num, HE, Lib.hid (OffRow.kept HOE.out fun j hj => rfl), Lib.hid (below_drewN hK'.out _)⟩, rfl⟩ | exact ⟨_, _, _, _, _, _, _, _, _, _, _, _, _, _, _, _, _, _, _, ⟨i + 1, _, hlt, by go_num, HE, Lib.hid (OffRow.kept HOE.out fun j hj => rfl), Lib.hid (below_drewN hK'.out _)⟩, rfl⟩ | exact ⟨_, _, _, _, _, _, _, _, _, _, _, _, _, _, _, _, _, _, _, _, ⟨i + 1, _, hlt, by go_num, HE, Lib.hid (OffRow.kept HOE.out fun j hj => rfl), Lib.hid (below_drewN hK'.out _)⟩, rfl⟩ | exact ⟨_, _, _, _, _, _, _, _, _, _, _, _, _, _, _, _, _, _, _, _, _, ⟨i + 1, _, hlt, by go_num, HE, Lib.hid (OffRow.kept HOE.out fun j hj => rfl), Lib.hid (below_drewN hK'.out _)⟩, rfl⟩ | exact ⟨_, _, _, _, _, _, _, _, _, _, _, _, _, _, _, _, _, _, _, _, _, _, ⟨i + 1, _, hlt, by go_num, HE, Lib.hid (OffRow.kept HOE.out fun j hj => rfl), Lib.hid (below_drewN hK'.out _)⟩, rfl⟩ | exact ⟨_, _, _, _, _, _, _, _, _, _, _, _, _, _, _, _, _, _, _, _, _, _, _, ⟨i + 1, _, hlt, by go_num, HE, Lib.hid (OffRow.kept HOE.out fun j hj => rfl), Lib.hid (below_drewN hK'.out _)⟩, rfl⟩ | exact ⟨_, _, _, _, _, _, _, _, _, _, _, _, _, _, _, _, _, _, _, _, _, _, _, _, ⟨i + 1, _, hlt, by go_num, HE, Lib.hid (OffRow.kept HOE.out fun j hj => rfl), Lib.hid (below_drewN hK'.out _)⟩, rfl⟩ | exact ⟨_, _, _, _, _, _, _, _, _, _, _, _, _, _, _, _, _, _, _, _, _, _, _, _, _, ⟨i + 1, _, hlt, by go_num, HE, Lib.hid (OffRow.kept HOE.out fun j hj => rfl), Lib.hid (below_drewN hK'.out _)⟩, rfl⟩ | exact ⟨_, _, _, _, _, _, _, _, _, _, _, _, _, _, _, _, _, _, _, _, _, _, _, _, _, _, ⟨i + 1, _, hlt, by go_num, HE, Lib.hid (OffRow.kept HOE.out fun j hj => rfl), Lib.hid (below_drewN hK'.out _)⟩, rfl⟩ | exact ⟨_, _, _, _, _, _, _, _, _, _, _, _, _, _, _, _, _, _, _, _, _, _, _, _, _, _, _, ⟨i + 1, _, hlt, by go_num, HE, Lib.hid (OffRow.kept HOE.out fun j hj => rfl), Lib.hid (below_drewN hK'.out _)⟩, rfl⟩ | exact ⟨_, _, _, _, _, _, _, _, _, _, _, _, _, _, _, _, _, _, _, _, _, _, _, _, _, _, _, _, ⟨i + 1, _, hlt, by go_num, HE, Lib.hid (OffRow.kept HOE.out fun j hj => rfl), Lib.hid (below_drewN hK'.out _)⟩, rfl⟩ | exact ⟨_, _, _, _, _, _, _, _, _, _, _, _, _, _, _, _, _, _, _, _, _, _, _, _, _, _, _, _, _, ⟨i + 1, _, hlt, by go_num, HE, Lib.hid (OffRow.kept HOE.out fun j hj => rfl), Lib.hid (below_drewN hK'.out _)⟩, rfl⟩ | exact ⟨_, _, _, _, _, _, _, _, _, _, _, _, _, _, _, _, _, _, _, _, _, _, _, _, _, _, _, _, _, _, ⟨i + 1, _, hlt, by go_num, HE, Lib.hid (OffRow.kept HOE.out fun j hj => rfl), Lib.hid (below_drewN hK'.out _)⟩, rfl⟩ | exact ⟨_, _, _, _, _, _, _, _, _, _, _, _, _, _, _, _, _, _, _, _, _, _, _, _, _, _, _, _, _, _, _, ⟨i + 1, _, hlt, by go_num, HE, Lib.hid (OffRow.kept HOE.out fun j hj => rfl), Lib.hid (below_drewN hK'.out _)⟩, rfl⟩ | exact ⟨_, _, _, _, _, _, _, _, _, _, _, _, _, _, _, _, _, _, _, _, _, _, _, _, _, _, _, _, _, _, _, _, ⟨i + 1, _, hlt, by go_num, HE, Lib.hid (OffRow.kept HOE.out fun j hj => rfl), Lib.hid (below_drewN hK'.out _)⟩, rfl⟩ | exact ⟨_, _, _, _, _, _, _, _, _, _, _, _, _, _, _, _, _, _, _, _, _, _, _, _, _, _, _, _, _, _, _, _, _, ⟨i + 1, _, hlt, by go_num, HE, Lib.hid (OffRow.kept HOE.out fun j hj => rfl), Lib.hid (below_drewN hK'.out _)⟩, rfl⟩ | exact ⟨_, _, _, _, _, _, _, _, _, _, _, _, _, _, _, _, _, _, _, _, _, _, _, _, _, _, _, _, _, _, _, _, _, _, ⟨i + 1, _, hlt, by go_num, HE, Lib.hid (OffRow.kept HOE.out fun j hj => rfl), Lib.hid (below_drewN hK'.out _)⟩, rfl⟩ | exact ⟨_, _, _, _, _, _, _, _, _, _, _, _, _, _, _, _, _, _, _, _, _, _, _, _, _, _, _, _, _, _, _, _, _, _, _, ⟨i + 1, _, hlt, by go_num, HE, Lib.hid (OffRow.kept HOE.out fun j hj => rfl), Lib.hid (below_drewN hK'.out _)⟩, rfl⟩ | exact ⟨_, _, _, _, _, _, _, _, _, _, _, _, _, _, _, _, _, _, _, _, _, _, _, _, _, _, _, _, _, _, _, _, _, _, _, _, ⟨i + 1, _, hlt, by go_num, HE, Lib.hid (OffRow.kept HOE.out fun j hj => rfl), Lib.hid (below_drewN hK'.out _)⟩, rfl⟩ | exact ⟨_, _, _, _, _, _, _, _, _, _, _, _, _, _, _, _, _, _, _, _, _, _, _, _, _, _, _, _, _, _, _, _, _, _, _, _, _, ⟨i + 1, _, hlt, by go_num, HE, Lib.hid (OffRow.kept HOE.out fun j hj => rfl), Lib.hid (below_drewN hK'.out _)⟩, rfl⟩ | exact ⟨_, _, _, _, _, _, _, _, _, _, _, _, _, _, _, _, _, _, _, _, _, _, _, _, _, _, _, _, _, _, _, _, _, _, _, _, _, _, ⟨i + 1, _, hlt, by go_num, HE, Lib.hid (OffRow.kept HOE.out fun j hj => rfl), Lib.hid (below_drewN hK'.out _)⟩, rfl⟩ | exact ⟨_, _, _, _, _, _, _, _, _, _, _, _, _, _, _, _, _, _, _, _, _, _, _, _, _, _, _, _, _, _, _, _, _, _, _, _, _, _, _, ⟨i + 1, _, hlt, by go_num, HE, Lib.hid (OffRow.kept HOE.out fun j hj => rfl), Lib.hid (below_drewN hK'.out _)⟩, rfl⟩ | exact ⟨_, _, _, _, _, _, _, _, _, _, _, _, _, _, _, _, _, _, _, _, _, _, _, _, _, _, _, _, _, _, _, _, _, _, _, _, _, _, _, _, ⟨i + 1, _, hlt, by go_num, HE, Lib.hid (OffRow.kept HOE.out fun j hj => rfl), Lib.hid (below_drewN hK'.out _)⟩, rfl⟩ | exact ⟨_, _, _, _, _, _, _, _, _, _, _, _, _, _, _, _, _, _, _, _, _, _, _, _, _, _, _, _, _, _, _, _, _, _, _, _, _, _, _, _, _, ⟨i + 1, _, hlt, by go_num, HE, Lib.hid (OffRow.kept HOE.out fun j hj => rfl), Lib.hid (below_drewN hK'.out _)⟩, rfl⟩ | exact ⟨_, _, _, _, _, _, _, _, _, _, _, _, _, _, _, _, _, _, _, _, _, _, _, _, _, _, _, _, _, _, _, _, _, _, _, _, _, _, _, _, _, _, ⟨i + 1, _, hlt, by go_num, HE, Lib.hid (OffRow.kept HOE.out fun j hj => rfl), Lib.hid (below_drewN hK'.out _)⟩, rfl⟩ | exact ⟨_, _, _, _, _, _, _, _, _, _, _, _, _, _, _, _, _, _, _, _, _, _, _, _, _, _, _, _, _, _, _, _, _, _, _, _, _, _, _, _, _, _, _, ⟨i + 1, _, hlt, by go_num, HE, Lib.hid (OffRow.kept HOE.out fun j hj => rfl), Lib.hid (below_drewN hK'.out _)⟩, rfl⟩ | exact ⟨_, _, _, _, _, _, _, _, _, _, _, _, _, _, _, _, _, _, _, _, _, _, _, _, _, _, _, _, _, _, _, _, _, _, _, _, _, _, _, _, _, _, _, _, ⟨i + 1, _, hlt, by go_num, HE, Lib.hid (OffRow.kept HOE.out fun j hj => rfl), Lib.hid (below_drewN hK'.out _)⟩, rfl⟩ | exact ⟨_, _, _, _, _, _, _, _, _, _, _, _, _, _, _, _, _, _, _, _, _, _, _, _, _, _, _, _, _, _, _, _, _, _, _, _, _, _, _, _, _, _, _, _, _, ⟨i + 1, _, hlt, by go_num, HE, Lib.hid (OffRow.kept HOE.out fun j hj => rfl), Lib.hid (below_drewN hK'.out _)⟩, rfl⟩
                  case measure => first | (simp [intOf]; done) | (simp [intOf]; omega)
                | succ k =>
                  have hkQ : k < Q.length := by have := HQL.out; omega
                  obtain ⟨y, hy⟩ : ∃ y, Q[k]? = some y := ⟨_, List.getElem?_eq_getElem hkQ⟩
                  have HY := Lib.hid hy
                  obtain ⟨c1, f1⟩ := own_at hO.out (k := k + 1) (x := x) (by omega) (atK_here (by omega))
                  obtain ⟨c0, f0⟩ := own_at hO.out (k := k) (x := y) (by omega) (by rw [atK_below hkQ]; exact hy)
                  have ek : ((k + 1 : Nat) : Int) = (k : Int) + 1 := by omega
                  rw [ek]
                  have es : (k : Int) + 1 - 1 = (k : Int) := by omega
                  have hkm : (k : Int) + 1 < (m : Int) := by omega
                  have hkm0 : (k : Int) < (m : Int) := by omega
                  clear hy ek
                  by_cases hxy : x < y
                  · clear f1 f0
                    go_wp2_with fail
                    go_quiet (fail)
                    go_upto_region 17 with (fail)
                    obtain ⟨wa, hwa⟩ : ∃ wa, wa = wr.drewN nq := ⟨_, rfl⟩
                    have OA := Lib.hid (show OffRow wa.drew B 3 1 (.slice (some ⟨g, off, none⟩) m cv) m (flat icell (atK Q x (k + 1) (M.drop (i + 1)))) by rw [hwa]; exact OffRow.kept hO.out fun j hj => rfl)
                    have KA := Lib.hid (show Below B w wa.drew by rw [hwa]; exact (below_drewN hK'.out _).drew)
                    rw [← hwa]
                    clear hwa c1 c0 hO hK'
                    have hwk : IntKind.i64.wrap (k : Int) = (k : Int) := IntWalk.i64_in _ (by omega)
                    have hk0 : ¬ ((k : Int) + 1 < 0) := by omega
                    refine wp_region_any (by kernel_rfl) ?_
                    change wpAny _ _ _ _ _ _ _ wa.drew
                    obtain ⟨wb, hwb⟩ : ∃ wb, wb = wa.drew := ⟨_, rfl⟩
                    rw [← hwb] at OA KA ⊢
                    clear hwb
                    obtain ⟨c1, f1⟩ := own_at OA.out (k := k + 1) (x := x) (by omega) (atK_here (by omega))
                    obtain ⟨c0, f0⟩ := own_at OA.out (k := k) (x := y) (by omega) (by rw [atK_below hkQ]; exact HY.out)
                    have HC := Lib.hid (And.intro c1 c0)
                    have HF := Lib.hid (And.intro f1 f0)
                    clear c1 c0 f1 f0
                    refine any_take (i := 0) (d := 67) (v := (.slice (some ⟨g, off, none⟩) m cv)) rfl rfl (by kernel_rfl) (by kernel_rfl) (by kernel_rfl) (fun _ _ _ h => h) (Or.inl ⟨by rfl, ?_⟩) ?_
                    · intro w'; go_simp
                    try go_frame
                    refine any_take (i := 1) (d := 68) (v := (.int .i64 ((k : Int) + 1))) rfl rfl (by kernel_rfl) (by kernel_rfl) (by kernel_rfl) (fun _ _ _ h => h) (Or.inl ⟨by rfl, ?_⟩) ?_
                    · intro w'; go_simp
                    try go_frame
                    refine any_take (i := 2) (d := 69) (v := (.slice (some ⟨g, off, none⟩) m cv)) rfl rfl (by kernel_rfl) (by kernel_rfl) (by kernel_rfl) (fun _ _ _ h => h) (Or.inl ⟨by rfl, ?_⟩) ?_
                    · intro w'; go_simp
                    try go_frame
                    refine any_take (i := 3) (d := 70) (v := (.int .i64 ((k : Int) + 1))) rfl rfl (by kernel_rfl) (by kernel_rfl) (by kernel_rfl) (fun _ _ _ h => h) (Or.inl ⟨by rfl, ?_⟩) ?_
                    · intro w'; go_simp
                    try go_frame
                    refine any_take (i := 4) (d := 71) (v := (.int .i64 (k : Int))) rfl rfl (by kernel_rfl) (by kernel_rfl) (by kernel_rfl) (fun _ _ _ h => h) (Or.inl ⟨by rfl, ?_⟩) ?_
                    · intro w'; go_simp
                    try go_frame
                    refine any_take (i := 5) (d := 72) (v := (.slice (some ⟨g, off, none⟩) m cv)) rfl rfl (by kernel_rfl) (by kernel_rfl) (by kernel_rfl) (fun _ _ _ h => h) (Or.inl ⟨by rfl, ?_⟩) ?_
                    · intro w'; go_simp
                    try go_frame
                    refine any_take (i := 6) (d := 73) (v := (.int .i64 ((k : Int) + 1))) rfl rfl (by kernel_rfl) (by kernel_rfl) (by kernel_rfl) (fun _ _ _ h => h) (Or.inl ⟨by rfl, ?_⟩) ?_
                    · intro w'; go_simp
                    try go_frame
                    refine any_take (i := 7) (d := 74) (v := (.int .i64 (k : Int))) rfl rfl (by kernel_rfl) (by kernel_rfl) (by kernel_rfl) (fun _ _ _ h => h) (Or.inl ⟨by rfl, ?_⟩) ?_
                    · intro w'; go_simp
                    try go_frame
                    refine any_take (i := 8) (d := 75) (v := (.pointer (some ⟨g, off + k, none⟩))) rfl rfl (by kernel_rfl) (by kernel_rfl) (by kernel_rfl) (fun _ _ _ h => h) (Or.inl ⟨by rfl, ?_⟩) ?_
                    · intro w'; go_simp
                    try go_frame
                    refine any_take (i := 10) (d := 77) (v := (.slice (some ⟨g, off, none⟩) m cv)) rfl rfl (by kernel_rfl) (by kernel_rfl) (by kernel_rfl) (fun _ _ _ h => h) (Or.inl ⟨by rfl, ?_⟩) ?_
                    · intro w'; go_simp
                    try go_frame
                    refine any_take (i := 11) (d := 78) (v := (.int .i64 ((k : Int) + 1))) rfl rfl (by kernel_rfl) (by kernel_rfl) (by kernel_rfl) (fun _ _ _ h => h) (Or.inl ⟨by rfl, ?_⟩) ?_
                    · intro w'; go_simp
                    try go_frame
                    refine any_take (i := 12) (d := 79) (v := (.pointer (some ⟨g, off + (k + 1), none⟩))) rfl rfl (by kernel_rfl) (by kernel_rfl) (by kernel_rfl) (fun _ _ _ h => h) (Or.inl ⟨by rfl, ?_⟩) ?_
                    · intro w'; go_simp
                    try go_frame
                    refine wpAny_late (i := 9) (d := 76) (v := .int .i64 y) (fun W => W.heap[g]? = wb.heap[g]?) (fun j => j == 15 || j == 16 || j == 17) rfl rfl (by kernel_rfl) (by kernel_rfl) (by kernel_rfl) (by kernel_rfl) (fun _ _ _ h => h) (Or.inl ⟨by rfl, ?_⟩) rfl ?_
                    · intro w' hw'
                      have c0' : w'.cell? ⟨g, off + k, none⟩ = some (.int .i64 y) := by rw [← HC.out.2]; simp only [World.cell?]; rw [hw']
                      go_simp
                    try go_frame
                    refine wpAnyE_ready (rs := [13]) (by kernel_rfl) (by simp) (AllE.cons rfl (fun K hK => ?_) AllE.nil)
                    have c1 := HC.out.1
                    go_simp
                    refine hK.out _ _ (fun _ => rfl) (fun _ => ?_)
                    clear hK K
                    try go_frame
                    refine wpAnyE_ready (rs := [14]) (by kernel_rfl) (by simp) (AllE.cons rfl (fun K hK => ?_) AllE.nil)
                    go_simp
                    refine hK.out _ _ (fun _ => rfl) (fun _ => ?_)
                    clear hK K
                    try go_frame
                    refine wpAnyE_ready (rs := [15]) (by kernel_rfl) (by simp) (AllE.cons rfl (fun K hK => ?_) AllE.nil)
                    have f1 := HF.out.1
                    go_simp
                    refine hK.out _ _ (fun h => absurd h (by decide)) (fun _ => ?_)
                    clear hK K f1 c1
                    try go_frame
                    obtain ⟨wc, hwc⟩ : ∃ wc, wc = wb.setCell ⟨g, off + (k + 1), none⟩ (.int .i64 y) := ⟨_, rfl⟩
                    have OC := Lib.hid (show OffRow wc B 3 1 (.slice (some ⟨g, off, none⟩) m cv) m (flat icell ((atK Q x (k + 1) (M.drop (i + 1))).set (k + 1) y)) by rw [hwc]; exact own_set OA.out (by omega) y)
                    have KC := Lib.hid (show Below B w wc by rw [hwc]; exact KA.out.setCell (p := ⟨g, off + (k + 1), none⟩) hBg'.out _)
                    rw [← hwc]
                    clear hwc HC HF OA KA
                    have hlen : (atK Q x (k + 1) (M.drop (i + 1))).length = m := by rw [atK_len, List.length_drop]; have := HQL.out; have := HMM.out.2; omega
                    obtain ⟨z, hz⟩ : ∃ z, ((atK Q x (k + 1) (M.drop (i + 1))).set (k + 1) y)[k]? = some z := ⟨_, List.getElem?_eq_getElem (by rw [List.length_set]; omega)⟩
                    obtain ⟨c0, f0⟩ := own_at OC.out (k := k) (x := z) (by omega) hz
                    clear hz hlen
                    refine wpAnyE_ready (rs := [16]) (by kernel_rfl) (by simp) (AllE.cons rfl (fun K hK => ?_) AllE.nil)
                    go_simp
                    refine hK.out _ _ (fun h => absurd h (by decide)) (fun _ => ?_)
                    clear hK K
                    try go_frame
                    refine wpAnyE_ready (rs := [17]) (by kernel_rfl) (by simp) (AllE.cons rfl (fun K hK => ?_) AllE.nil)
                    go_simp
                    refine hK.out _ _ (fun h => absurd h (by decide)) (fun _ => ?_)
                    clear hK K f0 c0
                    try go_frame
                    refine wpAnyE_done (by kernel_rfl) ?_ _
                    have OD := Lib.hid (show OffRow (wc.setCell ⟨g, off + k, none⟩ (.int .i64 x)) B 3 1 (.slice (some ⟨g, off, none⟩) m cv) m (flat icell (atK Q x k (M.drop (i + 1)))) by rw [← atK_swap (S := M.drop (i + 1)) (x := x) HY.out]; exact own_set OC.out (by omega) x)
                    have KD := Lib.hid (show Below B w (wc.setCell ⟨g, off + k, none⟩ (.int .i64 x)) from KC.out.setCell (p := ⟨g, off + k, none⟩) hBg'.out _)
                    have DD := Lib.hid (show ∀ u ∈ Q.drop k, x ≤ u from fun u hu => by
                      obtain ⟨h1, h2⟩ := List.getElem?_eq_some_iff.1 HY.out
                      rw [List.drop_eq_getElem_cons h1, h2] at hu
                      rcases List.mem_cons.1 hu with rfl | hu
                      · omega
                      · exact hd.out u hu)
                    go_wp2
                    go_roundw
                    case rel => first | exact ⟨k, by omega, by go_num, DD, OD, KD⟩ | exact ⟨_, ⟨k, by omega, by go_num, DD, OD, KD⟩, rfl⟩ | exact ⟨_, _, ⟨k, by omega, by go_num, DD, OD, KD⟩, rfl⟩ | exact ⟨_, _, _, ⟨k, by omega, by go_num, DD, OD, KD⟩, rfl⟩ | exact ⟨_, _, _, _, ⟨k, by omega, by go_num, DD, OD, KD⟩, rfl⟩ | exact ⟨_, _, _, _, _, ⟨k, by omega, by go_num, DD, OD, KD⟩, rfl⟩ | exact ⟨_, _, _, _, _, _, ⟨k, by omega, by go_num, DD, OD, KD⟩, rfl⟩ | exact ⟨_, _, _, _, _, _, _, ⟨k, by omega, by go_num, DD, OD, KD⟩, rfl⟩ | exact ⟨_, _, _, _, _, _, _, _, ⟨k, by omega, by go_num, DD, OD, KD⟩, rfl⟩ | exact ⟨_, _, _, _, _, _, _, _, _, ⟨k, by omega, by go_num, DD, OD, KD⟩, rfl⟩ | exact ⟨_, _, _, _, _, _, _, _, _, _, ⟨k, by omega, by go_num, DD, OD, KD⟩, rfl⟩ | exact ⟨_, _, _, _, _, _, _, _, _, _, _, ⟨k, by omega, by go_num, DD, OD, KD⟩, rfl⟩ | exact ⟨_, _, _, _, _, _, _, _, _, _, _, _, ⟨k, by omega, by go_num, DD, OD, KD⟩, rfl⟩ | exact ⟨_, _, _, _, _, _, _, _, _, _, _, _, _, ⟨k, by omega, by go_num, DD, OD, KD⟩, rfl⟩ | exact ⟨_, _, _, _, _, _, _, _, _, _, _, _, _, _, ⟨k, by omega, by go_num, DD, OD, KD⟩, rfl⟩ | exact ⟨_, _, _, _, _, _, _, _, _, _, _, _, _, _, _, ⟨k, by omega, by go_num, DD, OD, KD⟩, rfl⟩ | exact ⟨_, _, _, _, _, _, _, _, _, _, _, _, _, _, _, _, ⟨k, by omega, by go_num, DD, OD, KD⟩, rfl⟩ | exact ⟨_, _, _, _, _, _, _, _, _, _, _, _, _, _, _, _, _, ⟨k, by omega, by go_num, DD, OD, KD⟩, rfl⟩ | exact ⟨_, _, _, _, _, _, _, _, _, _, _, _, _, _, _, _, _, _, ⟨k, by omega, by go_num, DD, OD, KD⟩, rfl⟩ | exact ⟨_, _, _, _, _, _, _, _, _, _, _, _, _, _, _, _, _, _, _, ⟨k, by omega, by go_num, DD, OD, KD⟩, rfl⟩ | exact ⟨_, _, _, _, _, _, _, _, _, _, _, _, _, _, _, _, _, _, _, _, ⟨k, by omega, by go_num, DD, OD, KD⟩, rfl⟩ | exact ⟨_, _, _, _, _, _, _, _, _, _, _, _, _, _, _, _, _, _, _, _, _, ⟨k, by omega, by go_num, DD, OD, KD⟩, rfl⟩ | exact ⟨_, _, _, _, _, _, _, _, _, _, _, _, _, _, _, _, _, _, _, _, _, _, ⟨k, by omega, by go_num, DD, OD, KD⟩, rfl⟩ | exact ⟨_, _, _, _, _, _, _, _, _, _, _, _, _, _, _, _, _, _, _, _, _, _, _, ⟨k, by omega, by go_num, DD, OD, KD⟩, rfl⟩ | exact ⟨_, _, _, _, _, _, _, _, _, _, _, _, _, _, _, _, _, _, _, _, _, _, _, _, ⟨k, by omega, by go_num, DD, OD, KD⟩, rfl⟩ | exact ⟨_, _, _, _, _, _, _, _, _, _, _, _, _, _, _, _, _, _, _, _, _, _, _, _, _, ⟨k, by omega, by go_num, DD, OD, KD⟩, rfl⟩ | exact ⟨_, _, _, _, _, _, _, _, _, _, _, _, _, _, _, _, _, _, _, _, _, _, _, _, _, _, ⟨k, by omega, by go_num, DD, OD, KD⟩, rfl⟩ | exact ⟨_, _, _, _, _, _, _, _, _, _, _, _, _, _, _, _, _, _, _, _, _, _, _, _, _, _, _, ⟨k, by omega, by go_num, DD, OD, KD⟩, rfl⟩ | exact ⟨_, _, _, _, _, _, _, _, _, _, _, _, _, _, _, _, _, _, _, _, _, _, _, _, _, _, _, _, ⟨k, by omega, by go_num, DD, OD, KD⟩, rfl⟩ | exact ⟨_, _, _, _, _, _, _, _, _, _, _, _, _, _, _, _, _, _, _, _, _, _, _, _, _, _, _, _, _, ⟨k, by omega, by go_num, DD, OD, KD⟩, rfl⟩ | exact ⟨_, _, _, _, _, _, _, _, _, _, _, _, _, _, _, _, _, _, _, _, _, _, _, _, _, _, _, _, _, _, ⟨k, by omega, by go_num, DD, OD, KD⟩, rfl⟩ | exact ⟨_, _, _, _, _, _, _, _, _, _, _, _, _, _, _, _, _, _, _, _, _, _, _, _, _, _, _, _, _, _, _, ⟨k, by omega, by go_num, DD, OD, KD⟩, rfl⟩ | exact ⟨_, _, _, _, _, _, _, _, _, _, _, _, _, _, _, _, _, _, _, _, _, _, _, _, _, _, _, _, _, _, _, _, ⟨k, by omega, by go_num, DD, OD, KD⟩, rfl⟩ | exact ⟨_, _, _, _, _, _, _, _, _, _, _, _, _, _, _, _, _, _, _, _, _, _, _, _, _, _, _, _, _, _, _, _, _, ⟨k, by omega, by go_num, DD, OD, KD⟩, rfl⟩ | exact ⟨_, _, _, _, _, _, _, _, _, _, _, _, _, _, _, _, _, _, _, _, _, _, _, _, _, _, _, _, _, _, _, _, _, _, ⟨k, by omega, by go_num, DD, OD, KD⟩, rfl⟩ | exact ⟨_, _, _, _, _, _, _, _, _, _, _, _, _, _, _, _, _, _, _, _, _, _, _, _, _, _, _, _, _, _, _, _, _, _, _, ⟨k, by omega, by go_num, DD, OD, KD⟩, rfl⟩ | exact ⟨_, _, _, _, _, _, _, _, _, _, _, _, _, _, _, _, _, _, _, _, _, _, _, _, _, _, _, _, _, _, _, _, _, _, _, _, ⟨k, by omega, by go_num, DD, OD, KD⟩, rfl⟩ | exact ⟨_, _, _, _, _, _, _, _, _, _, _, _, _, _, _, _, _, _, _, _, _, _, _, _, _, _, _, _, _, _, _, _, _, _, _, _, _, ⟨k, by omega, by go_num, DD, OD, KD⟩, rfl⟩ | exact ⟨_, _, _, _, _, _, _, _, _, _, _, _, _, _, _, _, _, _, _, _, _, _, _, _, _, _, _, _, _, _, _, _, _, _, _, _, _, _, ⟨k, by omega, by go_num, DD, OD, KD⟩, rfl⟩ | exact ⟨_, _, _, _, _, _, _, _, _, _, _, _, _, _, _, _, _, _, _, _, _, _, _, _, _, _, _, _, _, _, _, _, _, _, _, _, _, _, _, ⟨k, by omega, by go_num, DD, OD, KD⟩, rfl⟩ | exact ⟨_, _, _, _, _, _, _, _, _, _, _, _, _, _, _, _, _, _, _, _, _, _, _, _, _, _, _, _, _, _, _, _, _, _, _, _, _, _, _, _, ⟨k, by omega, by go_num, DD, OD, KD⟩, rfl⟩ | exact ⟨_, _, _, _, _, _, _, _, _, _, _, _, _, _, _, _, _, _, _, _, _, _, _, _, _, _, _, _, _, _, _, _, _, _, _, _, _, _, _, _, _, ⟨k, by omega, by go_num, DD, OD, KD⟩, rfl⟩ | exact ⟨_, _, _, _, _, _, _, _, _, _, _, _, _, _, _, _, _, _, _, _, _, _, _, _, _, _, _, _, _, _, _, _, _, _, _, _, _, _, _, _, _, _, ⟨k, by omega, by go_num, DD, OD, KD⟩, rfl⟩ | exact ⟨_, _, _, _, _, _, _, _, _, _, _, _, _, _, _, _, _, _, _, _, _, _, _, _, _, _, _, _, _, _, _, _, _, _, _, _, _, _, _, _, _, _, _, ⟨k, by omega, by go_num, DD, OD, KD⟩, rfl⟩ | exact ⟨_, _, _, _, _, _, _, _, _, _, _, _, _, _, _, _, _, _, _, _, _, _, _, _, _, _, _, _, _, _, _, _, _, _, _, _, _, _, _, _, _, _, _, _, ⟨k, by omega, by go_num, DD, OD, KD⟩, rfl⟩ | exact ⟨_, _, _, _, _, _, _, _, _, _, _, _, _, _, _, _, _, _, _, _, _, _, _, _, _, _, _, _, _, _, _, _, _, _, _, _, _, _, _, _, _, _, _, _, _, ⟨k, by omega, by go_num, DD, OD, KD⟩, rfl⟩
                    case measure => first | (simp [intOf]; done) | (simp [intOf]; omega)
                  · have hle : y ≤ x := by omega
                    clear f1 f0 hxy
                    have HE := Lib.hid (show (Q.take (k + 1) ++ x :: Q.drop (k + 1)).Perm (M.take (i + 1)) ∧ (Q.take (k + 1) ++ x :: Q.drop (k + 1)).Pairwise fun a b => a ≤ b from by
                      refine ⟨(atK_perm Q x _).trans ?_, atK_rise hQ.out.2 hd.out ?_⟩
                      · rw [List.take_add_one, HX.out]
                        exact (List.perm_cons x).2 hQ.out.1 |>.trans (List.perm_append_comm (l₁ := [x]) (l₂ := M.take i))
                      · exact take_le hQ.out.2 HY.out (by omega))
                    have HOE := Lib.hid (show OffRow wr B 3 1 (.slice (some ⟨g, off, none⟩) m cv) m (flat icell (Q.take (k + 1) ++ x :: Q.drop (k + 1) ++ M.drop (i + 1))) from hO.out)
                    clear hO
                    go_wp2_with fail
                    go_quiet (fail)
                    go_wp2
                    go_roundw
                    case rel => first | exact ⟨i + 1, _, hlt, by go_num, HE, Lib.hid (OffRow.kept HOE.out fun j hj => rfl), Lib.hid (below_drewN hK'.out _)⟩ | exact ⟨_, ⟨i + 1, _, hlt, by go_num, HE, Lib.hid (OffRow.kept HOE.out fun j hj => rfl), Lib.hid (below_drewN hK'.out _)⟩, rfl⟩ | exact ⟨_, _, ⟨i + 1, _, hlt, by go_num, HE, Lib.hid (OffRow.kept HOE.out fun j hj => rfl), Lib.hid (below_drewN hK'.out _)⟩, rfl⟩ | exact ⟨_, _, _, ⟨i + 1, _, hlt, by go_num, HE, Lib.hid (OffRow.kept HOE.out fun j hj => rfl), Lib.hid (below_drewN hK'.out _)⟩, rfl⟩ | exact ⟨_, _, _, _, ⟨i + 1, _, hlt, by go_num, HE, Lib.hid (OffRow.kept HOE.out fun j hj => rfl), Lib.hid (below_drewN hK'.out _)⟩, rfl⟩ | exact ⟨_, _, _, _, _, ⟨i + 1, _, hlt, by go_num, HE, Lib.hid (OffRow.kept HOE.out fun j hj => rfl), Lib.hid (below_drewN hK'.out _)⟩, rfl⟩ | exact ⟨_, _, _, _, _, _, ⟨i + 1, _, hlt, by go_num, HE, Lib.hid (OffRow.kept HOE.out fun j hj => rfl), Lib.hid (below_drewN hK'.out _)⟩, rfl⟩ | exact ⟨_, _, _, _, _, _, _, ⟨i + 1, _, hlt, by go_num, HE, Lib.hid (OffRow.kept HOE.out fun j hj => rfl), Lib.hid (below_drewN hK'.out _)⟩, rfl⟩ | exact ⟨_, _, _, _, _, _, _, _, ⟨i + 1, _, hlt, by go_num, HE, Lib.hid (OffRow.kept HOE.out fun j hj => rfl), Lib.hid (below_drewN hK'.out _)⟩, rfl⟩ | exact ⟨_, _, _, _, _, _, _, _, _, ⟨i + 1, _, hlt, by go_num, HE, Lib.hid (OffRow.kept HOE.out fun j hj => rfl), Lib.hid (below_drewN hK'.out _)⟩, rfl⟩ | exact ⟨_, _, _, _, _, _, _, _, _, _, ⟨i + 1, _, hlt, by go_num, HE, Lib.hid (OffRow.kept HOE.out fun j hj => rfl), Lib.hid (below_drewN hK'.out _)⟩, rfl⟩ | exact ⟨_, _, _, _, _, _, _, _, _, _, _, ⟨i + 1, _, hlt, by go_num, HE, Lib.hid (OffRow.kept HOE.out fun j hj => rfl), Lib.hid (below_drewN hK'.out _)⟩, rfl⟩ | exact ⟨_, _, _, _, _, _, _, _, _, _, _, _, ⟨i + 1, _, hlt, by go_num, HE, Lib.hid (OffRow.kept HOE.out fun j hj => rfl), Lib.hid (below_drewN hK'.out _)⟩, rfl⟩ | exact ⟨_, _, _, _, _, _, _, _, _, _, _, _, _, ⟨i + 1, _, hlt, by go_num, HE, Lib.hid (OffRow.kept HOE.out fun j hj => rfl), Lib.hid (below_drewN hK'.out _)⟩, rfl⟩ | exact ⟨_, _, _, _, _, _, _, _, _, _, _, _, _, _, ⟨i + 1, _, hlt, by go_num, HE, Lib.hid (OffRow.kept HOE.out fun j hj => rfl), Lib.hid (below_drewN hK'.out _)⟩, rfl⟩ | exact ⟨_, _, _, _, _, _, _, _, _, _, _, _, _, _, _, ⟨i + 1, _, hlt, by go_num, HE, Lib.hid (OffRow.kept HOE.out fun j hj => rfl), Lib.hid (below_drewN hK'.out _)⟩, rfl⟩ | exact ⟨_, _, _, _, _, _, _, _, _, _, _, _, _, _, _, _, ⟨i + 1, _, hlt, by go_num, HE, Lib.hid (OffRow.kept HOE.out fun j hj => rfl), Lib.hid (below_drewN hK'.out _)⟩, rfl⟩ | exact ⟨_, _, _, _, _, _, _, _, _, _, _, _, _, _, _, _, _, ⟨i + 1, _, hlt, by go_num, HE, Lib.hid (OffRow.kept HOE.out fun j hj => rfl), Lib.hid (below_drewN hK'.out _)⟩, rfl⟩ | exact ⟨_, _, _, _, _, _, _, _, _, _, _, _, _, _, _, _, _, _, ⟨i + 1, _, hlt, by go_num, HE, Lib.hid (OffRow.kept HOE.out fun j hj => rfl), Lib.hid (below_drewN hK'.out _)⟩, rfl⟩ | exact ⟨_, _, _, _, _, _, _, _, _, _, _, _, _, _, _, _, _, _, _, ⟨i + 1, _, hlt, by go_num, HE, Lib.hid (OffRow.kept HOE.out fun j hj => rfl), Lib.hid (below_drewN hK'.out _)⟩, rfl⟩ | exact ⟨_, _, _, _, _, _, _, _, _, _, _, _, _, _, _, _, _, _, _, _, ⟨i + 1, _, hlt, by go_num, HE, Lib.hid (OffRow.kept HOE.out fun j hj => rfl), Lib.hid (below_drewN hK'.out _)⟩, rfl⟩ | exact ⟨_, _, _, _, _, _, _, _, _, _, _, _, _, _, _, _, _, _, _, _, _, ⟨i + 1, _, hlt, by go_num, HE, Lib.hid (OffRow.kept HOE.out fun j hj => rfl), Lib.hid (below_drewN hK'.out _)⟩, rfl⟩ | exact ⟨_, _, _, _, _, _, _, _, _, _, _, _, _, _, _, _, _, _, _, _, _, _, ⟨i + 1, _, hlt, by go_num, HE, Lib.hid (OffRow.kept HOE.out fun j hj => rfl), Lib.hid (below_drewN hK'.out _)⟩, rfl⟩ | exact ⟨_, _, _, _, _, _, _, _, _, _, _, _, _, _, _, _, _, _, _, _, _, _, _, ⟨i + 1, _, hlt, by go_num, HE, Lib.hid (OffRow.kept HOE.out fun j hj => rfl), Lib.hid (below_drewN hK'.out _)⟩, rfl⟩ | exact ⟨_, _, _, _, _, _, _, _, _, _, _, _, _, _, _, _, _, _, _, _, _, _, _, _, ⟨i + 1, _, hlt, by go_num, HE, Lib.hid (OffRow.kept HOE.out fun j hj => rfl), Lib.hid (below_drewN hK'.out _)⟩, rfl⟩ | exact ⟨_, _, _, _, _, _, _, _, _, _, _, _, _, _, _, _, _, _, _, _, _, _, _, _, _, ⟨i + 1, _, hlt, by go_num, HE, Lib.hid (OffRow.kept HOE.out fun j hj => rfl), Lib.hid (below_drewN hK'.out _)⟩, rfl⟩ | exact ⟨_, _, _, _, _, _, _, _, _, _, _, _, _, _, _, _, _, _, _, _, _, _, _, _, _, _, ⟨i + 1, _, hlt, by go_num, HE, Lib.hid (OffRow.kept HOE.out fun j hj => rfl), Lib.hid (below_drewN hK'.out _)⟩, rfl⟩ | exact ⟨_, _, _, _, _, _, _, _, _, _, _, _, _, _, _, _, _, _, _, _, _, _, _, _, _, _, _, ⟨i + 1, _, hlt, by go_num, HE, Lib.hid (OffRow.kept HOE.out fun j hj => rfl), Lib.hid (below_drewN hK'.out _)⟩, rfl⟩ | exact ⟨_, _, _, _, _, _, _, _, _, _, _, _, _, _, _, _, _, _, _, _, _, _, _, _, _, _, _, _, ⟨i + 1, _, hlt, by go_num, HE, Lib.hid (OffRow.kept HOE.out fun j hj => rfl), Lib.hid (below_drewN hK'.out _)⟩, rfl⟩ | exact ⟨_, _, _, _, _, _, _, _, _, _, _, _, _, _, _, _, _, _, _, _, _, _, _, _, _, _, _, _, _, ⟨i + 1, _, hlt, by go_num, HE, Lib.hid (OffRow.kept HOE.out fun j hj => rfl), Lib.hid (below_drewN hK'.out _)⟩, rfl⟩ | exact ⟨_, _, _, _, _, _, _, _, _, _, _, _, _, _, _, _, _, _, _, _, _, _, _, _, _, _, _, _, _, _, ⟨i + 1, _, hlt, by go_num, HE, Lib.hid (OffRow.kept HOE.out fun j hj => rfl), Lib.hid (below_drewN hK'.out _)⟩, rfl⟩ | exact ⟨_, _, _, _, _, _, _, _, _, _, _, _, _, _, _, _, _, _, _, _, _, _, _, _, _, _, _, _, _, _, _, ⟨i + 1, _, hlt, by go_num, HE, Lib.hid (OffRow.kept HOE.out fun j hj => rfl), Lib.hid (below_drewN hK'.out _)⟩, rfl⟩ | exact ⟨_, _, _, _, _, _, _, _, _, _, _, _, _, _, _, _, _, _, _, _, _, _, _, _, _, _, _, _, _, _, _, _, ⟨i + 1, _, hlt, by go_num, HE, Lib.hid (OffRow.kept HOE.out fun j hj => rfl), Lib.hid (below_drewN hK'.out _)⟩, rfl⟩ | exact ⟨_, _, _, _, _, _, _, _, _, _, _, _, _, _, _, _, _, _, _, _, _, _, _, _, _, _, _, _, _, _, _, _, _, ⟨i + 1, _, hlt, by go_num, HE, Lib.hid (OffRow.kept HOE.out fun j hj => rfl), Lib.hid (below_drewN hK'.out _)⟩, rfl⟩ | exact ⟨_, _, _, _, _, _, _, _, _, _, _, _, _, _, _, _, _, _, _, _, _, _, _, _, _, _, _, _, _, _, _, _, _, _, ⟨i + 1, _, hlt, by go_num, HE, Lib.hid (OffRow.kept HOE.out fun j hj => rfl), Lib.hid (below_drewN hK'.out _)⟩, rfl⟩ | exact ⟨_, _, _, _, _, _, _, _, _, _, _, _, _, _, _, _, _, _, _, _, _, _, _, _, _, _, _, _, _, _, _, _, _, _, _, ⟨i + 1, _, hlt, by go_num, HE, Lib.hid (OffRow.kept HOE.out fun j hj => rfl), Lib.hid (below_drewN hK'.out _)⟩, rfl⟩ | exact ⟨_, _, _, _, _, _, _, _, _, _, _, _, _, _, _, _, _, _, _, _, _, _, _, _, _, _, _, _, _, _, _, _, _, _, _, _, ⟨i + 1, _, hlt, by go_num, HE, Lib.hid (OffRow.kept HOE.out fun j hj => rfl), Lib.hid (below_drewN hK'.out _)⟩, rfl⟩ | exact ⟨_, _, _, _, _, _, _, _, _, _, _, _, _, _, _, _, _, _, _, _, _, _, _, _, _, _, _, _, _, _, _, _, _, _, _, _, _, ⟨i + 1, _, hlt, by go_num, HE, Lib.hid (OffRow.kept HOE.out fun j hj => rfl), Lib.hid (below_drewN hK'.out _)⟩, rfl⟩ | exact ⟨_, _, _, _, _, _, _, _, _, _, _, _, _, _, _, _, _, _, _, _, _, _, _, _, _, _, _, _, _, _, _, _, _, _, _, _, _, _, ⟨i + 1, _, hlt, by go_num, HE, Lib.hid (OffRow.kept HOE.out fun j hj => rfl), Lib.hid (below_drewN hK'.out _)⟩, rfl⟩ | exact ⟨_, _, _, _, _, _, _, _, _, _, _, _, _, _, _, _, _, _, _, _, _, _, _, _, _, _, _, _, _, _, _, _, _, _, _, _, _, _, _, ⟨i + 1, _, hlt, by go_num, HE, Lib.hid (OffRow.kept HOE.out fun j hj => rfl), Lib.hid (below_drewN hK'.out _)⟩, rfl⟩ | exact ⟨_, _, _, _, _, _, _, _, _, _, _, _, _, _, _, _, _, _, _, _, _, _, _, _, _, _, _, _, _, _, _, _, _, _, _, _, _, _, _, _, ⟨i + 1, _, hlt, by go_num, HE, Lib.hid (OffRow.kept HOE.out fun j hj => rfl), Lib.hid (below_drewN hK'.out _)⟩, rfl⟩ | exact ⟨_, _, _, _, _, _, _, _, _, _, _, _, _, _, _, _, _, _, _, _, _, _, _, _, _, _, _, _, _, _, _, _, _, _, _, _, _, _, _, _, _, ⟨i + 1, _, hlt, by go_num, HE, Lib.hid (OffRow.kept HOE.out fun j hj => rfl), Lib.hid (below_drewN hK'.out _)⟩, rfl⟩ | exact ⟨_, _, _, _, _, _, _, _, _, _, _, _, _, _, _, _, _, _, _, _, _, _, _, _, _, _, _, _, _, _, _, _, _, _, _, _, _, _, _, _, _, _, ⟨i + 1, _, hlt, by go_num, HE, Lib.hid (OffRow.kept HOE.out fun j hj => rfl), Lib.hid (below_drewN hK'.out _)⟩, rfl⟩ | exact ⟨_, _, _, _, _, _, _, _, _, _, _, _, _, _, _, _, _, _, _, _, _, _, _, _, _, _, _, _, _, _, _, _, _, _, _, _, _, _, _, _, _, _, _, ⟨i + 1, _, hlt, by go_num, HE, Lib.hid (OffRow.kept HOE.out fun j hj => rfl), Lib.hid (below_drewN hK'.out _)⟩, rfl⟩ | exact ⟨_, _, _, _, _, _, _, _, _, _, _, _, _, _, _, _, _, _, _, _, _, _, _, _, _, _, _, _, _, _, _, _, _, _, _, _, _, _, _, _, _, _, _, _, ⟨i + 1, _, hlt, by go_num, HE, Lib.hid (OffRow.kept HOE.out fun j hj => rfl), Lib.hid (below_drewN hK'.out _)⟩, rfl⟩ | exact ⟨_, _, _, _, _, _, _, _, _, _, _, _, _, _, _, _, _, _, _, _, _, _, _, _, _, _, _, _, _, _, _, _, _, _, _, _, _, _, _, _, _, _, _, _, _, ⟨i + 1, _, hlt, by go_num, HE, Lib.hid (OffRow.kept HOE.out fun j hj => rfl), Lib.hid (below_drewN hK'.out _)⟩, rfl⟩
                    case measure => first | (simp [intOf]; done) | (simp [intOf]; omega)
            · have hge : (m : Int) ≤ (i : Int) := by omega
              obtain rfl : i = m := by omega
              have HEND := Lib.hid (show OwnI wr B (.slice av i cv) (filesOf s) by
                have e : M.drop i = [] := List.drop_of_length_le (by have := HMM.out.2; omega)
                have t : M.take i = M := List.take_of_length_le (by have := HMM.out.2; omega)
                have hq := hQ.out.1
                rw [t] at hq
                have hf : Q = filesOf s := rise_sortI (hq.trans (by
                  rw [HMM.out.1, HFT.out, HFS.out, List.append_assoc s.logs]
                  exact List.perm_append_comm)) hQ.out.2
                have ho := hO.out
                rw [e, List.append_nil] at ho
                have hl : Q.length = i := by rw [hq.length_eq]; exact HMM.out.2
                unfold OwnI
                rw [← hf, hl]
                exact ho)
              go_wp2
              go_ret
              exact ⟨_, rfl, HEND.out, hK.out⟩
end Go.Proofs.YtljjielekgilpaaGreat
