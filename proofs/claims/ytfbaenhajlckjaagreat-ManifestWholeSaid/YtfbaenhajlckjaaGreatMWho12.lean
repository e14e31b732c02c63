/- Texts put together: ManFindT, ManInsT, ManIns2T, ManMeet -/
import Derived.Test.YtfbaenhajlckjaaGreatMWho10
import Derived.Test.YtfbaenhajlckjaaGreatMWho11
import Derived.Shelf.Spec.SlicesInsertGrow
import Derived.Shelf.RegionOpenPlain
/- The place of an element in a row that rises. -/
set_option linter.unusedVariables false
set_option maxRecDepth 100000
namespace Go.Proofs.YtfbaenhajlckjaaGreat
open Go.RowKit Go.Sort

/-- Whether the place is an equal's. -/
def fndT (L : List Tb) (k : Nat) (x : Tb) : Bool := match L[k]? with
  | some u => cfT u x == 0
  | none => false
set_option maxHeartbeats 4000000 in
theorem find_T {T : Nat → Prop} {a : Option Addr} {n cap : Nat} {L : List Tb} {w : World} (h : Hid (RdL T w (.slice a n cap) n (flat tcell L))) (hL : Hid (n = L.length)) (hn : n ≤ 1000000000) (x : Tb) (k : Nat) (hk : k ≤ n)
    (ha : Hid (∀ i u, i < k → L[i]? = some u → cfT u x < 0)) (hb : Hid (∀ i u, k ≤ i → L[i]? = some u → 0 ≤ cfT u x)) :
    Calls Tryz.prog 180 #[.slice a n cap, .agg #[.int .i64 x.file, .int .i64 x.lev, .int .i64 x.cnt, .string (bs x.low), .string (bs x.high)], .func (.func 100) #[] #[]] w fun e w' => e = .returned (.tuple #[.int .i64 (k : Int), .bool (fndT L k x)]) ∧ Below w.heap.size w w' := by
  obtain ⟨fb, hfb⟩ : ∃ fb, fb = fndT L k x := ⟨_, rfl⟩
  rw [← hfb]
  have HF := Lib.hid hfb
  clear hfb
  have mixed : Tryz.prog.follows .mixedOrders = true := by kernel_rfl
  have eg : ∀ args w, (callFunc 100 args).run Tryz.prog w = .ok (.enter 100 args) w := enters_of Tryz.func100 (by kernel_rfl) rfl
  obtain ⟨w0, hw0⟩ : ∃ w0, w.alloc (.cells #[.int .i64 x.file, .int .i64 x.lev, .int .i64 x.cnt, .string (bs x.low), .string (bs x.high)] 42) = w0 := ⟨_, rfl⟩
  obtain ⟨B, hB⟩ : ∃ B, B = w.heap.size := ⟨_, rfl⟩
  have X0 := Lib.hid (show w0.heap[B]? = some (.cells #[.int .i64 x.file, .int .i64 x.lev, .int .i64 x.cnt, .string (bs x.low), .string (bs x.high)] 42 (0, 0)) by rw [← hw0, hB]; exact heap_new w _)
  have K0 := Lib.hid (show Below B w w0 by rw [← hw0, hB]; exact (Below.refl _ _).alloc (Nat.le_refl _) _)
  have HB := Lib.hid hB
  have HW0 := Lib.hid hw0
  have C := fun (u v : Tb) (W : World) => Lib.hid (table_order u v W)
  clear hw0 hB
  go_enter Tryz.func180, Tryz.ntmps180
  go_upto_region 1 with (fail)
  rw [HW0.out, ← HB.out]
  go_wp2_with fail
  go_loopw [9, 10] (fun iv jv wr => ∃ i j : Nat, i ≤ k ∧ k ≤ j ∧ j ≤ n ∧ iv = .int .i64 i ∧ jv = .int .i64 j ∧ Hid (Below w0.heap.size w0 wr)) (fun iv jv wr => (intOf jv).toNat - (intOf iv).toNat)
  case atStart => exact ⟨0, n, by omega, hk, by omega, rfl, rfl, Lib.hid (Below.refl _ _)⟩
  case round =>
    obtain ⟨i, j, hik, hkj, hj, rfl, rfl, hR⟩ := hrel
    by_cases hlt : i < j
    · obtain ⟨m, hm⟩ : ∃ m, m = (i + j) / 2 := ⟨_, rfl⟩
      obtain ⟨s, hs⟩ : ∃ s : Int, s = (i : Int) + (j : Int) := ⟨_, rfl⟩
      have hs1 : IntKind.i64.wrap ((i : Int) + (j : Int)) = s := by rw [IntWalk.i64_in _ (by omega), hs]
      have hm1 : s / 2 = (m : Int) := by omega
      have hmi : i ≤ m := by omega
      have hmj : m < j := by omega
      have hml : m < n := by omega
      have hs0 : 0 ≤ s := by omega
      have hs2 : s ≤ 2000000000 := by omega
      have hs3 : (i : Int) + (j : Int) = s := hs.symm
      obtain ⟨y, hy⟩ : ∃ y, L[m]? = some y := ⟨_, List.getElem?_eq_getElem (by have := hL.out; omega)⟩
      obtain ⟨b, off, rfl, ht, hb2, hc⟩ := RdL.atT h.out hy hml
      have hB0 : B < w0.heap.size := heap_lt X0.out
      have hbw0 : b < w0.heap.size := Nat.lt_of_lt_of_le hb2 K0.out.size
      have hbB : b < B := by rw [HB.out]; exact hb2
      have hcr : ∀ i u, (tcell y)[i]? = some u → wr.cell? ⟨b, off + m * 5 + i, none⟩ = some u := fun i u hu => by
        rw [← hc i u hu]
        simp only [World.cell?, hR.out.block b hbw0, K0.out.block b hbB]
      have hbr : b < wr.heap.size := Nat.lt_of_lt_of_le hbw0 hR.out.size
      have hBr : B < wr.heap.size := Nat.lt_of_lt_of_le hB0 hR.out.size
      have hxr : wr.heap[B]? = some (.cells #[.int .i64 x.file, .int .i64 x.lev, .int .i64 x.cnt, .string (bs x.low), .string (bs x.high)] 42 (0, 0)) := (hR.out.block B hB0).trans X0.out
      have y0 := fun n os => cell_grown (w := wr) (a := ⟨b, off + m * 5, none⟩) hbr (hcr 0 _ rfl) n os
      have y1 := fun n os => cell_grown (w := wr) (a := ⟨b, off + m * 5 + 1, none⟩) hbr (hcr 1 _ rfl) n os
      have y2 := fun n os => cell_grown (w := wr) (a := ⟨b, off + m * 5 + 2, none⟩) hbr (hcr 2 _ rfl) n os
      have y3 := fun n os => cell_grown (w := wr) (a := ⟨b, off + m * 5 + 3, none⟩) hbr (hcr 3 _ rfl) n os
      have y4 := fun n os => cell_grown (w := wr) (a := ⟨b, off + m * 5 + 4, none⟩) hbr (hcr 4 _ rfl) n os
      have x0 := fun n os => cell_grown (w := wr) (a := ⟨B, 0, none⟩) hBr (by simp [World.cell?, hxr]; rfl) n os
      have x1 := fun n os => cell_grown (w := wr) (a := ⟨B, 1, none⟩) hBr (by simp [World.cell?, hxr]; rfl) n os
      have x2 := fun n os => cell_grown (w := wr) (a := ⟨B, 2, none⟩) hBr (by simp [World.cell?, hxr]; rfl) n os
      have x3 := fun n os => cell_grown (w := wr) (a := ⟨B, 3, none⟩) hBr (by simp [World.cell?, hxr]; rfl) n os
      have x4 := fun n os => cell_grown (w := wr) (a := ⟨B, 4, none⟩) hBr (by simp [World.cell?, hxr]; rfl) n os
      have HYX := Lib.hid hy
      obtain ⟨z, hz⟩ : ∃ z, z = cfT y x := ⟨_, rfl⟩
      have HZ := Lib.hid hz
      have CC := fun n os => (C y x (grow (wr.drewN n) os)).out
      rw [← hz] at CC
      clear hz hy hc hcr hxr hs hm
      have hmI : (m : Int) ≤ (n : Int) := by omega
      by_cases hneg : z < 0
      · have hneg' : decide (z < 0) = true := decide_eq_true hneg
        have hmk : m + 1 ≤ k := by
          rcases Nat.lt_or_ge m k with e | e
          · exact e
          · have := hb.out m y e HYX.out; have := HZ.out; omega
        go_wp2_with fail
        go_quiet_grown (first | (go_at_call 100; refine Calls.grown_of (CC _ _)) | (go_at_fn 100; refine Calls.grown_of (CC _ _)))
        have K2 := Lib.hid (below_grow hR.out (Nat.le_refl _) nq osq)
        go_wp2_with fail
        go_roundw
        case rel => exact ⟨m + 1, j, hmk, hkj, hj, by go_num, rfl, K2⟩
        case measure => simp [intOf]; omega
      · have hneg' : decide (z < 0) = false := decide_eq_false hneg
        have hmk : k ≤ m := by
          rcases Nat.lt_or_ge m k with e | e
          · have := ha.out m y e HYX.out; have := HZ.out; omega
          · exact e
        go_wp2_with fail
        go_quiet_grown (first | (go_at_call 100; refine Calls.grown_of (CC _ _)) | (go_at_fn 100; refine Calls.grown_of (CC _ _)))
        have K2 := Lib.hid (below_grow hR.out (Nat.le_refl _) nq osq)
        go_wp2_with fail
        go_roundw
        case rel => exact ⟨i, m, hik, hmk, by omega, rfl, rfl, K2⟩
        case measure => simp [intOf]; omega
    · obtain rfl : i = k := by omega
      obtain rfl : i = j := by omega
      have K0' := Lib.hid (show Below w.heap.size w wr by rw [← HB.out]; exact K0.out.trans (hR.out.mono (Nat.le_of_lt (heap_lt X0.out))))
      by_cases hin : i < n
      · have hin' : (i : Int) < (n : Int) := by omega
        obtain ⟨y, hy⟩ : ∃ y, L[i]? = some y := ⟨_, List.getElem?_eq_getElem (by have := hL.out; omega)⟩
        obtain ⟨b, off, rfl, ht, hb2, hc⟩ := RdL.atT h.out hy hin
        have hB0 : B < w0.heap.size := heap_lt X0.out
        have hbw0 : b < w0.heap.size := Nat.lt_of_lt_of_le hb2 K0.out.size
        have hbB : b < B := by rw [HB.out]; exact hb2
        have hcr : ∀ j u, (tcell y)[j]? = some u → wr.cell? ⟨b, off + i * 5 + j, none⟩ = some u := fun j u hu => by
          rw [← hc j u hu]
          simp only [World.cell?, hR.out.block b hbw0, K0.out.block b hbB]
        have hbr : b < wr.heap.size := Nat.lt_of_lt_of_le hbw0 hR.out.size
        have hBr : B < wr.heap.size := Nat.lt_of_lt_of_le hB0 hR.out.size
        have hxr : wr.heap[B]? = some (.cells #[.int .i64 x.file, .int .i64 x.lev, .int .i64 x.cnt, .string (bs x.low), .string (bs x.high)] 42 (0, 0)) := (hR.out.block B hB0).trans X0.out
        have y0 := fun n os => cell_grown (w := wr) (a := ⟨b, off + i * 5, none⟩) hbr (hcr 0 _ rfl) n os
        have y1 := fun n os => cell_grown (w := wr) (a := ⟨b, off + i * 5 + 1, none⟩) hbr (hcr 1 _ rfl) n os
        have y2 := fun n os => cell_grown (w := wr) (a := ⟨b, off + i * 5 + 2, none⟩) hbr (hcr 2 _ rfl) n os
        have y3 := fun n os => cell_grown (w := wr) (a := ⟨b, off + i * 5 + 3, none⟩) hbr (hcr 3 _ rfl) n os
        have y4 := fun n os => cell_grown (w := wr) (a := ⟨b, off + i * 5 + 4, none⟩) hbr (hcr 4 _ rfl) n os
        have x0 := fun n os => cell_grown (w := wr) (a := ⟨B, 0, none⟩) hBr (by simp [World.cell?, hxr]; rfl) n os
        have x1 := fun n os => cell_grown (w := wr) (a := ⟨B, 1, none⟩) hBr (by simp [World.cell?, hxr]; rfl) n os
        have x2 := fun n os => cell_grown (w := wr) (a := ⟨B, 2, none⟩) hBr (by simp [World.cell?, hxr]; rfl) n os
        have x3 := fun n os => cell_grown (w := wr) (a := ⟨B, 3, none⟩) hBr (by simp [World.cell?, hxr]; rfl) n os
        have x4 := fun n os => cell_grown (w := wr) (a := ⟨B, 4, none⟩) hBr (by simp [World.cell?, hxr]; rfl) n os
        obtain ⟨z, hz⟩ : ∃ z, z = cfT y x := ⟨_, rfl⟩
        have HF2 := Lib.hid (show fb = (z == 0) by rw [HF.out, hz]; unfold fndT; rw [hy])
        have CC := fun n os => (C y x (grow (wr.drewN n) os)).out
        rw [← hz] at CC
        clear hz hy hc hcr hxr HF
        go_wp2_with fail
        go_quiet_grown (first | (go_at_call 100; refine Calls.grown_of (CC _ _)) | (go_at_fn 100; refine Calls.grown_of (CC _ _)))
        have K2 := Lib.hid (below_grow K0'.out (Nat.le_refl _) nq osq)
        go_wp2_with fail
        go_ret2
        exact ⟨by rw [HF2.out]; rfl, K2.out⟩
      · obtain rfl : i = n := by omega
        have HF2 := Lib.hid (show fb = false by rw [HF.out]; unfold fndT; rw [List.getElem?_eq_none (by have := hL.out; omega)])
        clear HF
        have hg : ¬ (i : Int) < (i : Int) := by omega
        have hg2 : decide ((i : Int) < (i : Int)) = false := decide_eq_false hg
        go_wp2_with fail
        go_quiet (fail)
        have K2 := Lib.hid (below_drewN K0'.out nq)
        go_wp2_with fail
        go_ret2
        exact ⟨by rw [HF2.out]; rfl, K2.out⟩
end Go.Proofs.YtfbaenhajlckjaaGreat
/- An element put into a row: the library's Insert, of one element. -/
set_option linter.unusedVariables false
set_option maxRecDepth 100000
namespace Go.Proofs.YtfbaenhajlckjaaGreat
open Go.RowKit

/-- What Insert leaves. -/
def InsPostT (B : Nat) (a : Option Addr) (n cap i : Nat) (L : List Tb) (x : Tb) (w : World) (e : Ending) (w' : World) : Prop :=
  ∃ v', e = .returned v' ∧ OffRow w' B 42 5 v' (n + 1) (flat tcell (L.take i ++ x :: L.drop i)) ∧ w.grownBy w' (Value.slice a n cap).ownBlock ∧ (v'.ownBlock = (Value.slice a n cap).ownBlock ∨ v'.ownBlock = some w.heap.size)
theorem flat_putT {L : List Tb} {i : Nat} (x : Tb) (hi : i ≤ L.length) : flat tcell (L.take i ++ x :: L.drop i) = (flat tcell L).take (i * 5) ++ (tcell x ++ (flat tcell L).drop (i * 5)) := by
  rw [flat_append, flat_cons, (flat_split tcell_len L i hi).1, (flat_split tcell_len L i hi).2]

set_option maxHeartbeats 2000000 in
theorem insert_endT {B n cap vb : Nat} {a : Option Addr} {L : List Tb} {x : Tb} {w : World} (h : Hid (OffRow w B 42 5 (.slice a n cap) n (flat tcell L))) (hL : Hid (n = L.length)) (hn : n ≤ 1000000000)
    (hv : Hid (w.heap[vb]? = some (.cells (tcell x).toArray 42 (0, 0)))) (hB : B ≤ w.heap.size) :
    Calls Tryz.prog 183 #[.slice a n cap, .int .i64 (n : Int), .slice (some ⟨vb, 0, none⟩) 1 1] w (InsPostT B a n cap n L x w) := by
  have HE := Lib.hid (show flat tcell (L.take n ++ x :: L.drop n) = flat tcell L ++ tcell x by
    rw [hL.out, List.take_length, List.drop_length, flat_append, flat_one])
  obtain ⟨i0, hi0, hz0, hz1, hz2⟩ := info_parts infoTb
  have hcn : n ≤ cap := OffRow.cap_ge h.out
  have hc0 : (n : Int) ≤ (cap : Int) := by omega
  have hsrc := src_block (P := Tryz.prog) (size := 5) (t := 25) Tryz.underlying25 hv.out 1 1 (by simp [tcell_len]) (fun u hu => tcell_one x u (by simpa using hu))
  have hmx : n + 1 ≤ maxLen := by unfold maxLen; omega
  have hby : (n + 1) * 56 ≤ 140737488355328 := by omega
  have HH := Lib.hid (And.intro hi0 (And.intro hz0 (And.intro hz1 (And.intro hz2 (And.intro hsrc (And.intro hmx hby))))))
  clear hi0 hz0 hz1 hz2 hsrc hmx hby
  rcases Classical.em (n = cap) with rfl | hne
  all_goals
    go_enter Tryz.func183, Tryz.ntmps183
    go_wp2_with (at_builtin; refine wpList_append_off rfl (.tmp 23) (.tmp 24) 25 rfl B 42 i0 _ 5 56 Tryz.underlying25 HH.out.1 HH.out.2.1 HH.out.2.2.1 HH.out.2.2.2.1 rfl _ n (flat tcell L) rfl h.out (.slice (some ⟨vb, 0, none⟩) 1 1) rfl 1 _ HH.out.2.2.2.2.1 HH.out.2.2.2.2.2.1 HH.out.2.2.2.2.2.2 hB ?_)
    intro v' w' hr hg hat
    have HR := Lib.hid (And.intro hr (And.intro hg hat))
    clear hr hg hat
    go_wp2
    go_ret
    exact ⟨v', rfl, by rw [HE.out]; simpa using HR.out.1, HR.out.2.1, HR.out.2.2⟩

set_option maxHeartbeats 4000000 in
theorem insert_roomT {B n cap i vb g off : Nat} {L : List Tb} {x : Tb} {w : World} (h : Hid (AtRow w 42 5 g off n cap (flat tcell L))) (hBg : B ≤ g) (hL : Hid (n = L.length)) (hn : n ≤ 1000000000) (hi : i < n) (hc : n + 1 ≤ cap)
    (hv : Hid (w.heap[vb]? = some (.cells (tcell x).toArray 42 (0, 0)))) (hvb : vb ≠ g) :
    Calls Tryz.prog 183 #[.slice (some ⟨g, off, none⟩) n cap, .int .i64 (i : Int), .slice (some ⟨vb, 0, none⟩) 1 1] w (InsPostT B (some ⟨g, off, none⟩) n cap i L x w) := by
  have mixed : Tryz.prog.follows .mixedOrders = true := by kernel_rfl
  have HE := Lib.hid (flat_putT (L := L) (i := i) x (by have := hL.out; omega))
  obtain ⟨i0, hi0, hz0, hz1, hz2⟩ := info_parts infoTb
  have hsz : (Tryz.prog.info? 42).map (·.size) = some 5 := by rw [hi0]; simp [hz1]
  obtain ⟨cur, hg, hcs, hcc⟩ := h.out.obj
  have hk : 0 < cur.size := by omega
  have hxs : (flat tcell L).length = n * 5 := h.out.len
  have hov : ∀ lb cb, (callFunc 208 #[.slice (some ⟨vb, 0, none⟩) 1 1, .slice (some ⟨g, off + (i + 1) * 5, none⟩) lb cb]).run Tryz.prog w = .ok (.value (.bool false)) w := fun lb cb => by
    rw [run_callFunc_extern Tryz.func208 (by kernel_rfl) (by kernel_rfl) (by kernel_rfl) (e := Extern.SlicesOverlaps.overlaps #[25, 25] #[4]) (by kernel_rfl),
      Lib.run_overlaps_apart w 25 4 42 Tryz.underlying25 5 Tryz.sizeOf42 ⟨vb, 0, none⟩ ⟨g, off + (i + 1) * 5, none⟩ 1 1 lb cb hvb 42 42 5 cur.size (by simp [World.shape?, hv.out, tcell_len]) (by simp [World.shape?, hg]) (by omega) (by simp [World.frozen?, hv.out]) (by simp [World.frozen?, hv.out])]
    rfl
  have hdl : ((flat tcell L).drop (i * 5)).length = (n - i) * 5 := by rw [List.length_drop, hxs, Nat.sub_mul]
  have hcp1 : ∀ ty dc sc, (Builtin.copy_ #[25, 25] ty #[.slice (some ⟨g, off + (i + 1) * 5, none⟩) (n - i) dc, .slice (some ⟨g, off + i * 5, none⟩) (n + 1 - i) sc]).run Tryz.prog w.drew = .ok (goInt (n - i : Nat)) (w.drew.setCells g (off + (i + 1) * 5) ((flat tcell L).drop (i * 5))) := fun ty dc sc => by
    have hmin : Nat.min (n + 1 - i) (n - i) = n - i := by simp only [Nat.min_def]; split <;> omega
    have := run_copy_cellsK (P := Tryz.prog) w.drew 25 25 ty 42 5 g (off + (i + 1) * 5) (n - i) dc ⟨g, off + i * 5, none⟩ (n + 1 - i) sc ((flat tcell L).drop (i * 5)) Tryz.underlying25 hsz (by rw [hdl, hmin])
      (fun j v hj => by rw [addr_add, Nat.add_assoc]; rw [List.getElem?_drop] at hj; exact h.out.cell hj)
      (fun j hj => by rw [Nat.add_assoc]; exact h.out.some (by rw [hdl] at hj; omega))
      (fun j hj => h.out.free _) (fun v hv => flat_one' tcell_one L v (List.mem_of_mem_drop hv))
    rw [hmin] at this
    exact this
  obtain ⟨W1, hW1⟩ : ∃ W1, W1 = w.drew.setCells g (off + (i + 1) * 5) ((flat tcell L).drop (i * 5)) := ⟨_, rfl⟩
  have hv1 : W1.heap[vb]? = some (.cells (tcell x).toArray 42 (0, 0)) := by rw [hW1, setCells_other _ _ _ _ _ hvb]; exact hv.out
  have hg1 : ∃ cur1, W1.heap[g]? = some (.cells cur1 42 (0, 0)) ∧ cur1.size = cur.size := by
    obtain ⟨c1, a1, a2, _⟩ := setCells_heap ((flat tcell L).drop (i * 5)) g (off + (i + 1) * 5) w.drew cur 42 hg
    exact ⟨c1, by rw [hW1]; exact a1, a2⟩
  obtain ⟨cur1, hg1, hc1⟩ := hg1
  have hcp2 : ∀ ty dc, (Builtin.copy_ #[25, 25] ty #[.slice (some ⟨g, off + i * 5, none⟩) (n + 1 - i) dc, .slice (some ⟨vb, 0, none⟩) 1 1]).run Tryz.prog W1 = .ok (goInt 1) (W1.setCells g (off + i * 5) (tcell x)) := fun ty dc => by
    have hmin : Nat.min 1 (n + 1 - i) = 1 := by simp only [Nat.min_def]; split <;> omega
    have := run_copy_cellsK (P := Tryz.prog) W1 25 25 ty 42 5 g (off + i * 5) (n + 1 - i) dc ⟨vb, 0, none⟩ 1 1 (tcell x) Tryz.underlying25 hsz (by rw [hmin]; rfl)
      (fun j v hj => by rw [addr_add, Nat.zero_add]; simp [World.cell?, hv1]; exact hj)
      (fun j hj => by rw [tcell_len] at hj; simp [World.cell?, hg1]; omega)
      (fun j hj => by simp [World.frozen?, hg1]) (tcell_one x)
    rw [hmin] at this
    exact this
  have HF := Lib.hid (show OffRow (W1.setCells g (off + i * 5) (tcell x)) B 42 5 (.slice (some ⟨g, off, none⟩) (n + 1) cap) (n + 1) (flat tcell (L.take i ++ x :: L.drop i)) by
    rw [HE.out, hW1]
    exact AtRow.off (AtRow.insert (w := w.drew) (h.out.kept (w' := w.drew) rfl) (Nat.le_of_lt hi) hc (tcell_len x)) hBg)
  have HG := Lib.hid (show w.grownBy (W1.setCells g (off + i * 5) (tcell x)) (some g) by
    rw [hW1]
    obtain ⟨p1, p2, p3, p4⟩ := setCells_meta ((flat tcell L).drop (i * 5)) g (off + (i + 1) * 5) w.drew
    obtain ⟨q1, q2, q3, q4⟩ := setCells_meta (tcell x) g (off + i * 5) (w.drew.setCells g (off + (i + 1) * 5) ((flat tcell L).drop (i * 5)))
    exact ⟨q1.trans p1, q2.trans p2, q3.trans p3, by rw [q4, p4]; exact Nat.le_refl _, fun k _ hk => (setCells_other _ _ _ _ _ (fun e => hk (by rw [e]))).trans (setCells_other _ _ _ _ _ (fun e => hk (by rw [e])))⟩)
  rw [← hW1] at hcp1
  have hw1 : IntKind.i64.wrap ((i : Int) + 1) = (i : Int) + 1 := by rw [IntKind.wrap_i64]; omega
  have hb1 : (0 : Int) ≤ (i : Int) + 1 := by omega
  have hin : i ≤ n := by omega
  have htn : ((i : Int) + 1).toNat = i + 1 := by omega
  have hb2 : ¬ (cap = i + 1) := by omega
  have hb3 : (i : Int) ≤ (n : Int) + 1 := by omega
  have hb4 : ¬ (cap = i) := by omega
  have hb5 : (n : Int) ≤ (cap : Int) := by omega
  have hb6 : (n : Int) + 1 ≤ (cap : Int) := by omega
  have hb7 : ¬ (cap : Int) < (n : Int) + 1 := by omega
  have hz2 : ¬ ((i : Int) = (n : Int)) := by omega
  clear hdl hxs hk hcs hcc hg hg1 hv1 hc1 hsz hi0 hz0 hz1 hW1
  go_enter Tryz.func183, Tryz.ntmps183
  go_wp2_with (simp only [hov])
  go_region_law_o (refine step_copy_runI rfl _ _ 25 25 rfl _ _ (by simp [Act.eval, Act.put]) (by simp [Act.eval, Act.put]) (hcp1 _ _ _) ?_)
  go_wp2_with (at_builtin; refine wpList_copy_runI _ rfl _ _ 25 25 rfl _ _ rfl rfl (hcp2 _ _) ?_)
  go_ret
  exact ⟨_, rfl, HF.out, HG.out, .inl rfl⟩
end Go.Proofs.YtfbaenhajlckjaaGreat
/- An element put into a row: a new row. -/
set_option linter.unusedVariables false
set_option maxRecDepth 100000
namespace Go.Proofs.YtfbaenhajlckjaaGreat
open Go.RowKit

set_option maxHeartbeats 4000000 in
theorem insert_newT {B n i vb g off : Nat} {L : List Tb} {x : Tb} {w : World} (h : Hid (AtRow w 42 5 g off n n (flat tcell L))) (hL : Hid (n = L.length)) (hn : n ≤ 1000000000) (hi : i < n)
    (hv : Hid (w.heap[vb]? = some (.cells (tcell x).toArray 42 (0, 0)))) (hB : B ≤ w.heap.size) :
    Calls Tryz.prog 183 #[.slice (some ⟨g, off, none⟩) n n, .int .i64 (i : Int), .slice (some ⟨vb, 0, none⟩) 1 1] w (InsPostT B (some ⟨g, off, none⟩) n n i L x w) := by
  have mixed : Tryz.prog.follows .mixedOrders = true := by kernel_rfl
  have HE := Lib.hid (flat_putT (L := L) (i := i) x (by have := hL.out; omega))
  obtain ⟨i0, hi0, hz0, hz1, hz2⟩ := info_parts infoTb
  have hsz : (Tryz.prog.info? 42).map (·.size) = some 5 := by rw [hi0]; simp [hz1]
  have hxs : (flat tcell L).length = n * 5 := h.out.len
  obtain ⟨cur, hg, hcs, hcc⟩ := h.out.obj
  have hbw : g < w.heap.size := heap_lt hg
  have hvw : vb < w.heap.size := heap_lt hv.out
  have hkk : (n : Int) + 1 - (i : Int) = ((n + 1 - i : Nat) : Int) := by omega
  have hik : i + (n + 1 - i) = n + 1 := by omega
  have hdl : ((flat tcell L).drop (i * 5)).length = (n - i) * 5 := by rw [List.length_drop, hxs, Nat.sub_mul]
  have htl : ((flat tcell L).take (i * 5)).length = i * 5 := by rw [List.length_take, hxs]; omega
  have hold : (Builtin.firstCells i0.size i (.slice (some ⟨g, off, none⟩) i n)).run Tryz.prog w.drew = .ok ((flat tcell L).take (i * 5)).toArray w.drew := by
    rw [hz1]
    exact run_firstCells_some w.drew 5 i ⟨g, off, none⟩ i n ((flat tcell L).take (i * 5)) htl (fun j v hj => by
      rw [addr_add]
      rw [List.getElem?_take] at hj
      split at hj
      · exact h.out.cell hj
      · cases hj)
  obtain ⟨G, hG⟩ : ∃ G, G = grownCap w (n + 1) n 42 := ⟨_, rfl⟩
  obtain ⟨ROW, hROW⟩ : ∃ ROW : Array Value, ROW = ((flat tcell L).take (i * 5)).toArray ++ Builtin.zeroCells (Value.agg #[.int .i64 0, .int .i64 0, .int .i64 0, .string ⟨#[]⟩, .string ⟨#[]⟩]).cells (n + 1 - i) ++ Builtin.zeroCells (Value.agg #[.int .i64 0, .int .i64 0, .int .i64 0, .string ⟨#[]⟩, .string ⟨#[]⟩]).cells (G - (n + 1)) := ⟨_, rfl⟩
  have hrz : ∀ ty, (Builtin.append_ #[25, 3] ty #[.slice (some ⟨g, off, none⟩) i n, .int .i64 ((n : Int) + 1 - (i : Int))]).run Tryz.prog w =
      .ok (.slice (some ⟨w.heap.size, 0, none⟩) (n + 1) G) (w.drew.alloc (.cells ROW 42)) := fun ty => by
    have h := Lib.run_append_grow_zeros (P := Tryz.prog) w 25 3 ty 42 i0 _ .i64 .i64 Tryz.underlying25 Tryz.underlying3 hi0 hz0 (some ⟨g, off, none⟩) i n _ hold (n + 1 - i) (by omega) (by rw [hz1]; omega) (by omega) (by omega) (by rw [hz2]; omega) (by rw [hz2, hik]; exact growslice_fits (by omega) (by omega))
    rw [hik, ← hG, ← hROW] at h
    rw [hkk]
    exact h
  have hGn : n + 1 ≤ G := by rw [hG]; exact grownCap_ge w _ _ _
  have hGm : G ≤ maxLen := by rw [hG]; exact grownCap_le_maxLen w (n + 1) n 42 (by unfold maxLen; omega)
  have hRs : ROW.size = G * 5 := by
    rw [hROW]
    simp only [Array.size_append, size_zeroCells, List.size_toArray, htl]
    simp [Value.cells]
    omega
  have hRb : ∀ j, j < i * 5 → ROW[j]? = (flat tcell L)[j]? := fun j hj => by
    rw [hROW, Array.append_assoc, Array.getElem?_append_left (by simpa [htl] using hj)]
    simp [List.getElem?_take, hj]
  obtain ⟨W1, hW1⟩ : ∃ W1, W1 = w.drew.alloc (.cells ROW 42) := ⟨_, rfl⟩
  have hN : W1.heap[w.heap.size]? = some (.cells ROW 42 (0, 0)) := by rw [hW1]; exact heap_new w.drew _
  have hO : ∀ k, k < w.heap.size → W1.heap[k]? = w.heap[k]? := fun k hk => by rw [hW1]; exact Below.heap_alloc w.drew _ k hk
  rw [← hW1] at hrz
  have hvw1 : W1.heap[vb]? = some (.cells (tcell x).toArray 42 (0, 0)) := (hO vb hvw).trans hv.out
  have hcpA : ∀ (W : World), W.heap = W1.heap → ∀ ty dc, (Builtin.copy_ #[25, 25] ty #[.slice (some ⟨w.heap.size, i * 5, none⟩) (n + 1 - i) dc, .slice (some ⟨vb, 0, none⟩) 1 1]).run Tryz.prog W = .ok (goInt 1) (W.setCells w.heap.size (i * 5) (tcell x)) := fun W hW ty dc => by
    have hmin : Nat.min 1 (n + 1 - i) = 1 := by simp only [Nat.min_def]; split <;> omega
    have := run_copy_cellsK (P := Tryz.prog) W 25 25 ty 42 5 w.heap.size (i * 5) (n + 1 - i) dc ⟨vb, 0, none⟩ 1 1 (tcell x) Tryz.underlying25 hsz (by rw [hmin]; rfl)
      (fun j v hj => by rw [addr_add, Nat.zero_add]; simp [World.cell?, hW, hvw1]; exact hj)
      (fun j hj => by rw [tcell_len] at hj; simp [World.cell?, hW, hN]; omega)
      (fun j hj => by simp [World.frozen?, hW, hN]) (tcell_one x)
    rw [hmin] at this
    exact this
  obtain ⟨c2, a1, a2, a3, a4⟩ := setCells_heap (tcell x) w.heap.size (i * 5) W1 ROW 42 hN
  have hcpB : ∀ (W : World), W.heap = (W1.setCells w.heap.size (i * 5) (tcell x)).heap → ∀ ty dc sc, (Builtin.copy_ #[25, 25] ty #[.slice (some ⟨w.heap.size, (i + 1) * 5, none⟩) (n - i) dc, .slice (some ⟨g, off + i * 5, none⟩) (n - i) sc]).run Tryz.prog W = .ok (goInt (n - i : Nat)) (W.setCells w.heap.size ((i + 1) * 5) ((flat tcell L).drop (i * 5))) := fun W hW ty dc sc => by
    have hmin : Nat.min (n - i) (n - i) = n - i := Nat.min_self _
    have hgW : W.heap[g]? = w.heap[g]? := by rw [hW, setCells_other _ _ _ _ _ (by omega)]; exact hO g hbw
    have := run_copy_cellsK (P := Tryz.prog) W 25 25 ty 42 5 w.heap.size ((i + 1) * 5) (n - i) dc ⟨g, off + i * 5, none⟩ (n - i) sc ((flat tcell L).drop (i * 5)) Tryz.underlying25 hsz (by rw [hdl, hmin])
      (fun j v hj => by rw [addr_add, Nat.add_assoc]; rw [List.getElem?_drop] at hj; exact (h.out.kept hgW).cell hj)
      (fun j hj => by rw [hdl] at hj; simp [World.cell?, hW, a1]; omega)
      (fun j hj => by simp [World.frozen?, hW, a1]) (fun v hv => flat_one' tcell_one L v (List.mem_of_mem_drop hv))
    rw [hmin] at this
    exact this
  have HF := fun (W2 : World) (hW2 : W2.heap = (W1.setCells w.heap.size (i * 5) (tcell x)).heap) (p1 : W2.os = w.os) (p2 : W2.tape = w.tape) (p3 : W2.output = w.output) =>
    Lib.hid (show OffRow (W2.setCells w.heap.size ((i + 1) * 5) ((flat tcell L).drop (i * 5))) B 42 5 (.slice (some ⟨w.heap.size, 0, none⟩) (n + 1) G) (n + 1) (flat tcell (L.take i ++ x :: L.drop i)) ∧ w.grownBy (W2.setCells w.heap.size ((i + 1) * 5) ((flat tcell L).drop (i * 5))) (some g) from by
      refine ⟨?_, ?_⟩
      · rw [HE.out]
        exact AtRow.off (row_fill (w := W1) (w1 := W2) hN hRs hxs (Nat.le_of_lt hi) hGn hGm (tcell_len x) hRb (by rw [hW2])) hB
      · obtain ⟨q1, q2, q3, q4⟩ := setCells_meta ((flat tcell L).drop (i * 5)) w.heap.size ((i + 1) * 5) W2
        obtain ⟨r1, r2, r3, r4⟩ := setCells_meta (tcell x) w.heap.size (i * 5) W1
        refine ⟨q1.trans p1, q2.trans p2, q3.trans p3, ?_, fun k hk _ => ?_⟩
        · rw [q4, hW2, r4, hW1]
          simp
        · rw [setCells_other _ _ _ _ _ (by omega), hW2, setCells_other _ _ _ _ _ (by omega)]
          exact hO k hk)
  have HM := Lib.hid (show W1.os = w.os ∧ W1.tape = w.tape ∧ W1.output = w.output by rw [hW1]; exact ⟨rfl, rfl, rfl⟩)
  obtain ⟨m1, m2, m3, m4⟩ := setCells_meta (tcell x) w.heap.size (i * 5) W1
  have HMM := Lib.hid (And.intro (m1.trans HM.out.1) (And.intro (m2.trans HM.out.2.1) (m3.trans HM.out.2.2)))
  obtain ⟨W2, hW2⟩ : ∃ W2, W2 = (W1.setCells w.heap.size (i * 5) (tcell x)).drew := ⟨_, rfl⟩
  have R := Lib.hid (HF W2 (by rw [hW2]; rfl) (by rw [hW2]; exact HMM.out.1) (by rw [hW2]; exact HMM.out.2.1) (by rw [hW2]; exact HMM.out.2.2)).out
  have hB2 := hcpB W2 (by rw [hW2]; rfl)
  rw [hW2] at R hB2
  clear hcpB HF hW2
  have hw1 : IntKind.i64.wrap ((i : Int) + 1) = (i : Int) + 1 := by rw [IntKind.wrap_i64]; omega
  have hb1 : (0 : Int) ≤ (i : Int) + 1 := by omega
  have hin : i ≤ n := by omega
  have htn : ((i : Int) + 1).toNat = i + 1 := by omega
  have hb2 : ¬ (G = i + 1) := by omega
  have hb3 : (i : Int) ≤ (n : Int) + 1 := by omega
  have hb4 : ¬ (n = i) := by omega
  have hb5 : ¬ (G = i) := by omega
  have hb6 : (n : Int) < (n : Int) + 1 := by omega
  have hb7 : (i : Int) ≤ (n : Int) := by omega
  have hz2' : ¬ ((i : Int) = (n : Int)) := by omega
  have hGi : (n : Int) + 1 ≤ (G : Int) := by omega
  have hG63 : (G : Int) ≤ 9223372036854775807 := by unfold maxLen at hGm; omega
  have HX := Lib.hid (And.intro hN (And.intro hO hvw1))
  clear hkk hik hold hROW hG hRs hRb hN hO hvw1 hcs hcc hg hdl htl hxs hsz hi0 hz0 hz1 hz2 a1 a2 a3 a4 m1 m2 m3 m4 hW1
  go_enter Tryz.func183, Tryz.ntmps183
  go_wp2_with (first
    | (at_builtin; refine Lib.wpList_append_run _ rfl _ _ _ _ rfl _ _ rfl rfl _ _ (hrz _) ?_)
    | (at_builtin; refine wpList_copy_runI _ rfl _ _ 25 25 rfl _ _ rfl rfl (hcpA _ rfl _ _) ?_))
  go_region_law_o (refine step_copy_runI rfl _ _ 25 25 rfl (.slice (some ⟨w.heap.size, (i + 1) * 5, none⟩) (n - i) (G - (i + 1))) (.slice (some ⟨g, off + i * 5, none⟩) (n - i) (n - i)) (by simp [Act.eval, Act.put]) (by simp [Act.eval, Act.put]) (hB2 3 (G - (i + 1)) (n - i)) ?_)
  go_wp2
  go_ret
  exact ⟨.slice (some ⟨w.heap.size, 0, none⟩) (n + 1) G, rfl, R.out.1, R.out.2, .inr rfl⟩

/-- The library's Insert of one element. -/
theorem insert_T {B n cap i vb : Nat} {a : Option Addr} {L : List Tb} {x : Tb} {w : World} (h : Hid (OffRow w B 42 5 (.slice a n cap) n (flat tcell L))) (hL : Hid (n = L.length)) (hn : n ≤ 1000000000) (hi : i ≤ n)
    (hv : Hid (w.heap[vb]? = some (.cells (tcell x).toArray 42 (0, 0)))) (hvb : Hid (∀ g, (Value.slice a n cap).ownBlock = some g → vb ≠ g)) (hB : B ≤ w.heap.size) :
    Calls Tryz.prog 183 #[.slice a n cap, .int .i64 (i : Int), .slice (some ⟨vb, 0, none⟩) 1 1] w (InsPostT B a n cap i L x w) := by
  rcases Nat.lt_or_ge i n with h1 | h1
  · have hcn := OffRow.cap_ge h.out
    obtain ⟨g, off, rfl, hg, hr⟩ := OffRow.at' h.out (by omega)
    rcases Nat.lt_or_ge n cap with h2 | h2
    · exact insert_roomT (Lib.hid hr) hg hL hn h1 h2 hv (hvb.out g rfl)
    · obtain rfl : n = cap := by omega
      exact insert_newT (Lib.hid hr) hL hn h1 hv hB
  · obtain rfl : i = n := by omega
    exact insert_endT h hL hn hv hB
end Go.Proofs.YtfbaenhajlckjaaGreat
/- Whether two tables may have a key in common; whether one beside a place has one with a new table. -/
set_option linter.unusedVariables false
set_option maxRecDepth 100000
namespace Go.Proofs.YtfbaenhajlckjaaGreat
open Go.RowKit

theorem leq_texts (a b : List UInt8) : ∃ p q : Bool, Op.bytesLess (bs a).toList (bs b).toList = p ∧ ((bs a).toList == (bs b).toList) = q ∧ (!ltB b a) = (p || q) := by
  have e : ((bs a).toList == (bs b).toList) = decide (a = b) := by rw [Bool.eq_iff_iff, same_bytes, decide_eq_true_iff]
  refine ⟨_, _, rfl, rfl, ?_⟩
  rw [e, Lib.toList_data, Lib.toList_data, bs_list, bs_list, ltB_less]
  rcases ltB_total a b with h | h | h
  · rw [h, ltB_asymm h]; rfl
  · subst h; rw [ltB_irrefl]; simp
  · rw [h, ltB_asymm h, decide_eq_false (Ne.symm (ltB_ne h))]; rfl
set_option maxHeartbeats 1000000 in
theorem meet_T (t u : Tb) (w : World) : Calls Tryz.prog 182 #[.agg #[.int .i64 t.file, .int .i64 t.lev, .int .i64 t.cnt, .string (bs t.low), .string (bs t.high)], .agg #[.int .i64 u.file, .int .i64 u.lev, .int .i64 u.cnt, .string (bs u.low), .string (bs u.high)]] w fun e w' => e = .returned (.bool (meets t u)) ∧ Below w.heap.size w w' := by
  obtain ⟨p1, q1, h1, h2, h3⟩ := leq_texts t.low u.high
  obtain ⟨p2, q2, h4, h5, h6⟩ := leq_texts u.low t.high
  obtain ⟨z, hz⟩ : ∃ z, z = meets t u := ⟨_, rfl⟩
  rw [← hz]
  have HZ := Lib.hid (show z = (decide (u.lev = t.lev) && (p1 || q1) && (p2 || q2)) by rw [hz]; unfold meets; rw [h3, h6])
  have K0 := Lib.hid (show Below w.heap.size w ((w.alloc (.cells #[.int .i64 t.file, .int .i64 t.lev, .int .i64 t.cnt, .string (bs t.low), .string (bs t.high)] 42)).alloc (.cells #[.int .i64 u.file, .int .i64 u.lev, .int .i64 u.cnt, .string (bs u.low), .string (bs u.high)] 42)) from ((Below.refl _ _).alloc (Nat.le_refl _) _).alloc (by simp) _)
  clear hz h3 h6
  by_cases hl : t.lev = u.lev
  · have hl' : (t.lev == u.lev) = true := by simpa using hl
    have HL := Lib.hid (show z = ((p1 || q1) && (p2 || q2)) by rw [HZ.out, decide_eq_true hl.symm]; simp)
    clear HZ hl
    cases p1 <;> cases q1
    all_goals
      go_enter Tryz.func182, Tryz.ntmps182
      go_wp2
      go_ret
      exact ⟨by rw [HL.out]; rfl, K0.out⟩
  · have hl' : (t.lev == u.lev) = false := by simpa using hl
    have HL := Lib.hid (show z = false by rw [HZ.out, decide_eq_false (fun e => hl e.symm)]; simp)
    clear HZ hl
    go_enter Tryz.func182, Tryz.ntmps182
    go_wp2
    go_ret
    exact ⟨by rw [HL.out]; rfl, K0.out⟩
set_option maxHeartbeats 1000000 in
theorem meets_box (t u : Tb) (xb : Nat) (w : World) (h : w.heap[xb]? = some (.cells #[.int .i64 t.file, .int .i64 t.lev, .int .i64 t.cnt, .string (bs t.low), .string (bs t.high)] 42 (0, 0))) :
    Calls Tryz.prog 181 #[.agg #[.int .i64 u.file, .int .i64 u.lev, .int .i64 u.cnt, .string (bs u.low), .string (bs u.high)], .pointer (some ⟨xb, 0, none⟩)] w fun e w' => e = .returned (.bool (meets t u)) ∧ Below w.heap.size w w' := by
  obtain ⟨w1, hw1⟩ : ∃ w1, w.alloc (.cells #[.int .i64 u.file, .int .i64 u.lev, .int .i64 u.cnt, .string (bs u.low), .string (bs u.high)] 42) = w1 := ⟨_, rfl⟩
  obtain ⟨ub, hub⟩ : ∃ ub, ub = w.heap.size := ⟨_, rfl⟩
  have HUB := Lib.hid hub
  have K1 := Lib.hid (show Below w.heap.size w w1 by rw [← hw1]; exact (Below.refl _ _).alloc (Nat.le_refl _) _)
  have hx1 := (K1.out.block xb (heap_lt h)).trans h
  have hu1 : w1.heap[ub]? = some (.cells #[.int .i64 u.file, .int .i64 u.lev, .int .i64 u.cnt, .string (bs u.low), .string (bs u.high)] 42 (0, 0)) := by rw [← hw1, hub]; exact heap_new w _
  have HW1 := Lib.hid hw1
  have x0 : w1.cell? ⟨xb, 0, none⟩ = some (.int .i64 t.file) := by simp [World.cell?, hx1]
  have x1 : w1.cell? ⟨xb, 1, none⟩ = some (.int .i64 t.lev) := by simp [World.cell?, hx1]
  have x2 : w1.cell? ⟨xb, 2, none⟩ = some (.int .i64 t.cnt) := by simp [World.cell?, hx1]
  have x3 : w1.cell? ⟨xb, 3, none⟩ = some (.string (bs t.low)) := by simp [World.cell?, hx1]
  have x4 : w1.cell? ⟨xb, 4, none⟩ = some (.string (bs t.high)) := by simp [World.cell?, hx1]
  have u0 : w1.cell? ⟨ub, 0, none⟩ = some (.int .i64 u.file) := by simp [World.cell?, hu1]
  have u1 : w1.cell? ⟨ub, 1, none⟩ = some (.int .i64 u.lev) := by simp [World.cell?, hu1]
  have u2 : w1.cell? ⟨ub, 2, none⟩ = some (.int .i64 u.cnt) := by simp [World.cell?, hu1]
  have u3 : w1.cell? ⟨ub, 3, none⟩ = some (.string (bs u.low)) := by simp [World.cell?, hu1]
  have u4 : w1.cell? ⟨ub, 4, none⟩ = some (.string (bs u.high)) := by simp [World.cell?, hu1]
  have HM := Lib.hid (meet_T t u w1)
  obtain ⟨z, hz⟩ : ∃ z, z = meets t u := ⟨_, rfl⟩
  rw [← hz] at HM ⊢
  clear hw1 hub h hx1 hu1 hz
  go_enter Tryz.func181, Tryz.ntmps181
  go_upto_region 1 with (fail)
  rw [HW1.out, ← HUB.out]
  go_wp2_with fail
  refine HM.out.mono ?_
  rintro e w2 ⟨rfl, k2⟩
  have K2 := Lib.hid (K1.out.trans (k2.mono K1.out.size))
  clear k2
  go_wp2
  go_ret
  exact ⟨rfl, K2.out⟩

/-- The place of the first with a property, or nowhere. -/
def SeatP (L : List Tb) (p : Tb → Bool) (e : Ending) : Prop :=
  (∃ (i : Nat) (x : Tb), L[i]? = some x ∧ p x = true ∧ e = .returned (.int .i64 (i : Int))) ∨ ((∀ x ∈ L, p x = false) ∧ e = .returned (.int .i64 (-1)))
set_option maxHeartbeats 2000000 in
theorem index_P {T : Nat → Prop} {a : Option Addr} {n cap xb : Nat} {L : List Tb} {t : Tb} {w : World} (h : Hid (RdL T w (.slice a n cap) n (flat tcell L))) (hL : Hid (n = L.length)) (hn : n ≤ 1000000000)
    (hx : Hid (w.heap[xb]? = some (.cells #[.int .i64 t.file, .int .i64 t.lev, .int .i64 t.cnt, .string (bs t.low), .string (bs t.high)] 42 (0, 0)))) :
    Calls Tryz.prog 133 #[.slice a n cap, .func (.func 181) #[] #[.pointer (some ⟨xb, 0, none⟩)]] w fun e w' => SeatP L (meets t) e ∧ Below w.heap.size w w' := by
  have eg : ∀ args w, (callFunc 181 args).run Tryz.prog w = .ok (.enter 181 args) w := enters_of Tryz.func181 (by kernel_rfl) rfl
  go_enter Tryz.func133, Tryz.ntmps133
  go_wp2_with fail
  go_loopw [8] (fun iv wr => ∃ i : Nat, i ≤ n ∧ iv = .int .i64 i ∧ Hid (∀ j y, j < i → L[j]? = some y → meets t y = false) ∧ Hid (Below w.heap.size w wr)) (fun iv wr => n - (intOf iv).toNat)
  case atStart => exact ⟨0, by omega, rfl, Lib.hid (fun j y hj => by omega), Lib.hid (Below.refl _ _)⟩
  case round =>
    obtain ⟨i, hi, rfl, hno, hB⟩ := hrel
    by_cases hlt : i < n
    · have hlt' : (i : Int) < (n : Int) := by omega
      obtain ⟨y, hy⟩ : ∃ y, L[i]? = some y := ⟨_, List.getElem?_eq_getElem (by have := hL.out; omega)⟩
      obtain ⟨b, off, rfl, ht, hb2, hc⟩ := RdL.atT h.out hy hlt
      have hcr : ∀ i' u, (tcell y)[i']? = some u → wr.cell? ⟨b, off + i * 5 + i', none⟩ = some u := fun i' u hu => by
        rw [← hc i' u hu]
        simp only [World.cell?, hB.out.block b hb2]
      have y0 : wr.cell? ⟨b, off + i * 5, none⟩ = _ := hcr 0 _ rfl
      have y1 := hcr 1 _ rfl
      have y2 := hcr 2 _ rfl
      have y3 := hcr 3 _ rfl
      have y4 := hcr 4 _ rfl
      have HS := Lib.hid (meets_box t y xb wr ((hB.out.block xb (heap_lt hx.out)).trans hx.out))
      have HY := Lib.hid hy
      clear hy hc hcr
      obtain ⟨r, hr⟩ : ∃ r, meets t y = r := ⟨_, rfl⟩
      rw [hr] at HS
      have HR := Lib.hid hr
      clear hr
      cases r with
      | true =>
        go_wp2_with fail
        refine HS.out.mono ?_
        rintro e w2 ⟨rfl, k2⟩
        have K2 := Lib.hid (hB.out.trans (k2.mono hB.out.size))
        clear k2
        go_wp2
        go_ret
        exact ⟨.inl ⟨i, y, HY.out, HR.out, rfl⟩, K2.out⟩
      | false =>
        go_wp2_with fail
        refine HS.out.mono ?_
        rintro e w2 ⟨rfl, k2⟩
        have K2 := Lib.hid (hB.out.trans (k2.mono hB.out.size))
        clear k2
        go_wp2_with fail
        go_roundw
        case rel => exact ⟨i + 1, hlt, by go_num, Lib.hid (fun j z hj hz => by
          rcases Nat.lt_or_ge j i with e | e
          · exact hno.out j z e hz
          · obtain rfl : j = i := by omega
            rw [HY.out] at hz
            injection hz with hz
            subst hz
            exact HR.out), K2⟩
        case measure => simp [intOf]; omega
    · obtain rfl : i = n := by omega
      go_wp2
      go_ret
      refine ⟨.inr ⟨fun x hx => ?_, rfl⟩, hB.out⟩
      obtain ⟨j, hj, e⟩ := List.mem_iff_getElem.1 hx
      exact hno.out j x (by have := hL.out; omega) (by rw [← e]; exact List.getElem?_eq_getElem hj)
set_option maxHeartbeats 1000000 in
theorem contains_P {T : Nat → Prop} {a : Option Addr} {n cap xb : Nat} {L : List Tb} {t : Tb} {w : World} (h : Hid (RdL T w (.slice a n cap) n (flat tcell L))) (hL : Hid (n = L.length)) (hn : n ≤ 1000000000)
    (hx : Hid (w.heap[xb]? = some (.cells #[.int .i64 t.file, .int .i64 t.lev, .int .i64 t.cnt, .string (bs t.low), .string (bs t.high)] 42 (0, 0)))) :
    Calls Tryz.prog 96 #[.slice a n cap, .func (.func 181) #[] #[.pointer (some ⟨xb, 0, none⟩)]] w fun e w' => e = .returned (.bool (L.any (meets t))) ∧ Below w.heap.size w w' := by
  have HI := Lib.hid (index_P h hL hn hx)
  obtain ⟨z, hz⟩ : ∃ z, z = L.any (meets t) := ⟨_, rfl⟩
  rw [← hz]
  have HZ := Lib.hid hz
  clear hz
  go_enter Tryz.func96, Tryz.ntmps96
  go_wp2_with fail
  refine HI.out.mono ?_
  rintro e w1 ⟨hs, k1⟩
  have K1 := Lib.hid k1
  clear k1
  rcases hs with ⟨i, x, hx1, hx2, rfl⟩ | ⟨hno, rfl⟩
  · have HT := Lib.hid (show z = true by rw [HZ.out]; exact List.any_eq_true.2 ⟨x, List.mem_of_getElem? hx1, hx2⟩)
    have hi0 : (0 : Int) ≤ (i : Int) := by omega
    clear HZ hx1 hx2
    go_wp2
    go_ret
    exact ⟨by rw [HT.out]; rfl, K1.out⟩
  · have HT := Lib.hid (show z = false by rw [HZ.out]; exact List.any_eq_false.2 fun x hx => by rw [hno x hx]; simp)
    clear HZ hno
    go_wp2
    go_ret
    exact ⟨by rw [HT.out]; rfl, K1.out⟩

/-- The middle of a row's slice. -/
theorem slice_mid {w : World} {B : Nat} {t e : TypeId} {i : TypeInfo} (ht : Tryz.prog.underlying t = some (.slice e)) (hi : Tryz.prog.info? e = some i) {size : Nat} (hs : i.size = size) {n cap lo hi' : Nat} {a : Option Addr} {xs : List Value} (h : OffRow w B e size (.slice a n cap) n xs) (h1 : lo ≤ hi') (h2 : hi' ≤ n) :
    ∃ a', (∀ W, (Instr.slice t (.slice a n cap) (some (.int .i64 (lo : Int))) (some (.int .i64 (hi' : Int))) none).run Tryz.prog W = .ok (.slice a' (hi' - lo) (cap - lo)) W) ∧ OffRow w B e size (.slice a' (hi' - lo) (cap - lo)) (hi' - lo) ((xs.take (hi' * size)).drop (lo * size)) := by
  have hcn := OffRow.cap_ge h
  have hl : ((xs.take (hi' * size)).drop (lo * size)).length = (hi' - lo) * size := by
    have : hi' * size ≤ n * size := Nat.mul_le_mul_right _ h2
    rw [List.length_drop, List.length_take, h.1, Nat.min_eq_left this, Nat.sub_mul]
  have b1 : (lo : Int) ≤ (hi' : Int) := by omega
  have b2 : (hi' : Int) ≤ (cap : Int) := by omega
  subst hs
  rcases h.2 with ⟨e0, h0⟩ | ⟨g, off, c, cur, e0, hB, hg, r1, r2, r3, r4⟩
  · injection e0 with e1 e2 e3
    subst e1 e2 e3
    obtain rfl : hi' = 0 := by omega
    obtain rfl : lo = 0 := by omega
    refine ⟨none, fun W => ?_, hl, .inl ⟨rfl, rfl⟩⟩
    simp [Instr.slice, run_underlying ht, Instr.sliceBounds, run_sliceBound, sizeOf, typeInfo, hi]
  · injection e0 with e1 e2 e3
    subst e1 e3
    rcases Nat.lt_or_ge lo cap with hlc | hlc
    · have hne : ¬ cap = lo := by omega
      refine ⟨some ⟨g, off + lo * i.size, none⟩, fun W => ?_, hl, .inr ⟨g, off + lo * i.size, cap - lo, cur, rfl, hB, hg, by omega, by omega, ?_, fun j hj => ?_⟩⟩
      · simp [Instr.slice, run_underlying ht, Instr.sliceBounds, run_sliceBound, sizeOf, typeInfo, hi, h1, b1, b2, hne, addr_add]
      · have : lo * i.size + (cap - lo) * i.size = cap * i.size := by rw [← Nat.add_mul]; congr 1; omega
        omega
      · rw [Nat.sub_mul] at hj
        have hle : hi' * i.size ≤ n * i.size := Nat.mul_le_mul_right _ h2
        rw [List.getElem?_drop, List.getElem?_take, if_pos (by omega), Nat.add_assoc]
        exact r4 _ (by omega)
    · obtain rfl : lo = cap := by omega
      obtain rfl : hi' = lo := by omega
      refine ⟨some ⟨g, off, none⟩, fun W => ?_, hl, .inr ⟨g, off, hi' - hi', cur, rfl, hB, hg, by omega, by omega, by rw [Nat.sub_self, Nat.zero_mul]; omega, fun j hj => ?_⟩⟩
      · simp [Instr.slice, run_underlying ht, Instr.sliceBounds, run_sliceBound, sizeOf, typeInfo, hi]
      · rw [Nat.sub_self, Nat.zero_mul] at hj; omega
end Go.Proofs.YtfbaenhajlckjaaGreat
