/- Texts put together: ManIns2S, ManAddS, ManAtT, ManFindT, ManInsT, ManIns2T -/
import Derived.Test.YtgljjdldhnajdaaGreatMPac12
import Derived.Test.YtgljjdldhnajdaaGreatMPac11
import Derived.Test.YtgljjdldhnajdaaGreatMPac05
import Derived.Shelf.Spec.SlicesInsertGrow
import Derived.Shelf.RegionOpenPlain
/- An element put into a row: a new row. -/
set_option linter.unusedVariables false
set_option maxRecDepth 100000
namespace Go.Proofs.YtgljjdldhnajdaaGreat
open Go.RowKit

set_option maxHeartbeats 4000000 in
theorem insert_newS {B n i vb g off : Nat} {L : List So} {x : So} {w : World} (h : Hid (AtRow w 121 2 g off n n (flat socell L))) (hL : Hid (n = L.length)) (hn : n ≤ 1000000000) (hi : i < n)
    (hv : Hid (w.heap[vb]? = some (.cells (socell x).toArray 121 (0, 0)))) (hB : B ≤ w.heap.size) :
    Calls Tryz.prog 159 #[.slice (some ⟨g, off, none⟩) n n, .int .i64 (i : Int), .slice (some ⟨vb, 0, none⟩) 1 1] w (InsPostS B (some ⟨g, off, none⟩) n n i L x w) := by
  have mixed : Tryz.prog.follows .mixedOrders = true := by kernel_rfl
  have HE := Lib.hid (flat_putS (L := L) (i := i) x (by have := hL.out; omega))
  obtain ⟨i0, hi0, hz0, hz1, hz2⟩ := info_parts infoSo
  have hsz : (Tryz.prog.info? 121).map (·.size) = some 2 := by rw [hi0]; simp [hz1]
  have hxs : (flat socell L).length = n * 2 := h.out.len
  obtain ⟨cur, hg, hcs, hcc⟩ := h.out.obj
  have hbw : g < w.heap.size := heap_lt hg
  have hvw : vb < w.heap.size := heap_lt hv.out
  have hkk : (n : Int) + 1 - (i : Int) = ((n + 1 - i : Nat) : Int) := by omega
  have hik : i + (n + 1 - i) = n + 1 := by omega
  have hdl : ((flat socell L).drop (i * 2)).length = (n - i) * 2 := by rw [List.length_drop, hxs, Nat.sub_mul]
  have htl : ((flat socell L).take (i * 2)).length = i * 2 := by rw [List.length_take, hxs]; omega
  have hold : (Builtin.firstCells i0.size i (.slice (some ⟨g, off, none⟩) i n)).run Tryz.prog w.drew = .ok ((flat socell L).take (i * 2)).toArray w.drew := by
    rw [hz1]
    exact run_firstCells_some w.drew 2 i ⟨g, off, none⟩ i n ((flat socell L).take (i * 2)) htl (fun j v hj => by
      rw [addr_add]
      rw [List.getElem?_take] at hj
      split at hj
      · exact h.out.cell hj
      · cases hj)
  obtain ⟨G, hG⟩ : ∃ G, G = grownCap w (n + 1) n 121 := ⟨_, rfl⟩
  obtain ⟨ROW, hROW⟩ : ∃ ROW : Array Value, ROW = ((flat socell L).take (i * 2)).toArray ++ Builtin.zeroCells (Value.agg #[.int .i64 0, .int .i64 0]).cells (n + 1 - i) ++ Builtin.zeroCells (Value.agg #[.int .i64 0, .int .i64 0]).cells (G - (n + 1)) := ⟨_, rfl⟩
  have hrz : ∀ ty, (Builtin.append_ #[43, 3] ty #[.slice (some ⟨g, off, none⟩) i n, .int .i64 ((n : Int) + 1 - (i : Int))]).run Tryz.prog w =
      .ok (.slice (some ⟨w.heap.size, 0, none⟩) (n + 1) G) (w.drew.alloc (.cells ROW 121)) := fun ty => by
    have h := Lib.run_append_grow_zeros (P := Tryz.prog) w 43 3 ty 121 i0 _ .i64 .i64 Tryz.underlying43 Tryz.underlying3 hi0 hz0 (some ⟨g, off, none⟩) i n _ hold (n + 1 - i) (by omega) (by rw [hz1]; omega) (by omega) (by omega) (by rw [hz2]; omega) (by rw [hz2, hik]; exact growslice_fits (by omega) (by omega))
    rw [hik, ← hG, ← hROW] at h
    rw [hkk]
    exact h
  have hGn : n + 1 ≤ G := by rw [hG]; exact grownCap_ge w _ _ _
  have hGm : G ≤ maxLen := by rw [hG]; exact grownCap_le_maxLen w (n + 1) n 121 (by unfold maxLen; omega)
  have hRs : ROW.size = G * 2 := by
    rw [hROW]
    simp only [Array.size_append, size_zeroCells, List.size_toArray, htl]
    simp [Value.cells]
    omega
  have hRb : ∀ j, j < i * 2 → ROW[j]? = (flat socell L)[j]? := fun j hj => by
    rw [hROW, Array.append_assoc, Array.getElem?_append_left (by simpa [htl] using hj)]
    simp [List.getElem?_take, hj]
  obtain ⟨W1, hW1⟩ : ∃ W1, W1 = w.drew.alloc (.cells ROW 121) := ⟨_, rfl⟩
  have hN : W1.heap[w.heap.size]? = some (.cells ROW 121 (0, 0)) := by rw [hW1]; exact heap_new w.drew _
  have hO : ∀ k, k < w.heap.size → W1.heap[k]? = w.heap[k]? := fun k hk => by rw [hW1]; exact Below.heap_alloc w.drew _ k hk
  rw [← hW1] at hrz
  have hvw1 : W1.heap[vb]? = some (.cells (socell x).toArray 121 (0, 0)) := (hO vb hvw).trans hv.out
  have hcpA : ∀ (W : World), W.heap = W1.heap → ∀ ty dc, (Builtin.copy_ #[43, 43] ty #[.slice (some ⟨w.heap.size, i * 2, none⟩) (n + 1 - i) dc, .slice (some ⟨vb, 0, none⟩) 1 1]).run Tryz.prog W = .ok (goInt 1) (W.setCells w.heap.size (i * 2) (socell x)) := fun W hW ty dc => by
    have hmin : Nat.min 1 (n + 1 - i) = 1 := by simp only [Nat.min_def]; split <;> omega
    have := run_copy_cellsK (P := Tryz.prog) W 43 43 ty 121 2 w.heap.size (i * 2) (n + 1 - i) dc ⟨vb, 0, none⟩ 1 1 (socell x) Tryz.underlying43 hsz (by rw [hmin]; rfl)
      (fun j v hj => by rw [addr_add, Nat.zero_add]; simp [World.cell?, hW, hvw1]; exact hj)
      (fun j hj => by rw [socell_len] at hj; simp [World.cell?, hW, hN]; omega)
      (fun j hj => by simp [World.frozen?, hW, hN]) (socell_one x)
    rw [hmin] at this
    exact this
  obtain ⟨c2, a1, a2, a3, a4⟩ := setCells_heap (socell x) w.heap.size (i * 2) W1 ROW 121 hN
  have hcpB : ∀ (W : World), W.heap = (W1.setCells w.heap.size (i * 2) (socell x)).heap → ∀ ty dc sc, (Builtin.copy_ #[43, 43] ty #[.slice (some ⟨w.heap.size, (i + 1) * 2, none⟩) (n - i) dc, .slice (some ⟨g, off + i * 2, none⟩) (n - i) sc]).run Tryz.prog W = .ok (goInt (n - i : Nat)) (W.setCells w.heap.size ((i + 1) * 2) ((flat socell L).drop (i * 2))) := fun W hW ty dc sc => by
    have hmin : Nat.min (n - i) (n - i) = n - i := Nat.min_self _
    have hgW : W.heap[g]? = w.heap[g]? := by rw [hW, setCells_other _ _ _ _ _ (by omega)]; exact hO g hbw
    have := run_copy_cellsK (P := Tryz.prog) W 43 43 ty 121 2 w.heap.size ((i + 1) * 2) (n - i) dc ⟨g, off + i * 2, none⟩ (n - i) sc ((flat socell L).drop (i * 2)) Tryz.underlying43 hsz (by rw [hdl, hmin])
      (fun j v hj => by rw [addr_add, Nat.add_assoc]; rw [List.getElem?_drop] at hj; exact (h.out.kept hgW).cell hj)
      (fun j hj => by rw [hdl] at hj; simp [World.cell?, hW, a1]; omega)
      (fun j hj => by simp [World.frozen?, hW, a1]) (fun v hv => flat_one' socell_one L v (List.mem_of_mem_drop hv))
    rw [hmin] at this
    exact this
  have HF := fun (W2 : World) (hW2 : W2.heap = (W1.setCells w.heap.size (i * 2) (socell x)).heap) (p1 : W2.os = w.os) (p2 : W2.tape = w.tape) (p3 : W2.output = w.output) =>
    Lib.hid (show OffRow (W2.setCells w.heap.size ((i + 1) * 2) ((flat socell L).drop (i * 2))) B 121 2 (.slice (some ⟨w.heap.size, 0, none⟩) (n + 1) G) (n + 1) (flat socell (L.take i ++ x :: L.drop i)) ∧ w.grownBy (W2.setCells w.heap.size ((i + 1) * 2) ((flat socell L).drop (i * 2))) (some g) from by
      refine ⟨?_, ?_⟩
      · rw [HE.out]
        exact AtRow.off (row_fill (w := W1) (w1 := W2) hN hRs hxs (Nat.le_of_lt hi) hGn hGm (socell_len x) hRb (by rw [hW2])) hB
      · obtain ⟨q1, q2, q3, q4⟩ := setCells_meta ((flat socell L).drop (i * 2)) w.heap.size ((i + 1) * 2) W2
        obtain ⟨r1, r2, r3, r4⟩ := setCells_meta (socell x) w.heap.size (i * 2) W1
        refine ⟨q1.trans p1, q2.trans p2, q3.trans p3, ?_, fun k hk _ => ?_⟩
        · rw [q4, hW2, r4, hW1]
          simp
        · rw [setCells_other _ _ _ _ _ (by omega), hW2, setCells_other _ _ _ _ _ (by omega)]
          exact hO k hk)
  have HM := Lib.hid (show W1.os = w.os ∧ W1.tape = w.tape ∧ W1.output = w.output by rw [hW1]; exact ⟨rfl, rfl, rfl⟩)
  obtain ⟨m1, m2, m3, m4⟩ := setCells_meta (socell x) w.heap.size (i * 2) W1
  have HMM := Lib.hid (And.intro (m1.trans HM.out.1) (And.intro (m2.trans HM.out.2.1) (m3.trans HM.out.2.2)))
  obtain ⟨W2, hW2⟩ : ∃ W2, W2 = (W1.setCells w.heap.size (i * 2) (socell x)).drew := ⟨_, rfl⟩
  have R := Lib.hid (HF W2 (by rw [hW2]; rfl) (by rw [hW2]; exact HMM.out.1) (by rw [hW2]; exact HMM.out.2.1) (by rw [hW2]; exact HMM.out.2.2)).out
  have hB2 := hcpB W2 (by rw [hW2]; rfl)
  rw [hW2] at R hB2
  clear hcpB HF hW2
  have hw1 : IntKind.i64.wrap ((i : Int) + 1) = (i : Int) + 1 := by rw [IntKind.wrap_i64]; omega
  have hb1 : (0 : Int) ≤ (i : Int) + 1 := by omega
  have hin : i ≤ n := by omega
  have htn : ((i : Int) + 1).toNat = i + 1 := by omega
  have hb2 : ¬ (G = i + 1) := by omega
  have hb3 : (i : Int) ≤ (n : Int) + 1 := by omega
  have hb4 : ¬ (n = i) := by omega
  have hb5 : ¬ (G = i) := by omega
  have hb6 : (n : Int) < (n : Int) + 1 := by omega
  have hb7 : (i : Int) ≤ (n : Int) := by omega
  have hz2' : ¬ ((i : Int) = (n : Int)) := by omega
  have hGi : (n : Int) + 1 ≤ (G : Int) := by omega
  have hG63 : (G : Int) ≤ 9223372036854775807 := by unfold maxLen at hGm; omega
  have HX := Lib.hid (And.intro hN (And.intro hO hvw1))
  clear hkk hik hold hROW hG hRs hRb hN hO hvw1 hcs hcc hg hdl htl hxs hsz hi0 hz0 hz1 hz2 a1 a2 a3 a4 m1 m2 m3 m4 hW1
  go_enter Tryz.func159, Tryz.ntmps159
  go_wp2_with (first
    | (at_builtin; refine Lib.wpList_append_run _ rfl _ _ _ _ rfl _ _ rfl rfl _ _ (hrz _) ?_)
    | (at_builtin; refine wpList_copy_runI _ rfl _ _ 43 43 rfl _ _ rfl rfl (hcpA _ rfl _ _) ?_))
  go_region_law_o (refine step_copy_runI rfl _ _ 43 43 rfl (.slice (some ⟨w.heap.size, (i + 1) * 2, none⟩) (n - i) (G - (i + 1))) (.slice (some ⟨g, off + i * 2, none⟩) (n - i) (n - i)) (by simp [Act.eval, Act.put]) (by simp [Act.eval, Act.put]) (hB2 3 (G - (i + 1)) (n - i)) ?_)
  go_wp2
  go_ret
  exact ⟨.slice (some ⟨w.heap.size, 0, none⟩) (n + 1) G, rfl, R.out.1, R.out.2, .inr rfl⟩

/-- The library's Insert of one element. -/
theorem insert_S {B n cap i vb : Nat} {a : Option Addr} {L : List So} {x : So} {w : World} (h : Hid (OffRow w B 121 2 (.slice a n cap) n (flat socell L))) (hL : Hid (n = L.length)) (hn : n ≤ 1000000000) (hi : i ≤ n)
    (hv : Hid (w.heap[vb]? = some (.cells (socell x).toArray 121 (0, 0)))) (hvb : Hid (∀ g, (Value.slice a n cap).ownBlock = some g → vb ≠ g)) (hB : B ≤ w.heap.size) :
    Calls Tryz.prog 159 #[.slice a n cap, .int .i64 (i : Int), .slice (some ⟨vb, 0, none⟩) 1 1] w (InsPostS B a n cap i L x w) := by
  rcases Nat.lt_or_ge i n with h1 | h1
  · have hcn := OffRow.cap_ge h.out
    obtain ⟨g, off, rfl, hg, hr⟩ := OffRow.at' h.out (by omega)
    rcases Nat.lt_or_ge n cap with h2 | h2
    · exact insert_roomS (Lib.hid hr) hg hL hn h1 h2 hv (hvb.out g rfl)
    · obtain rfl : n = cap := by omega
      exact insert_newS (Lib.hid hr) hL hn h1 hv hB
  · obtain rfl : i = n := by omega
    exact insert_endS h hL hn hv hB
end Go.Proofs.YtgljjdldhnajdaaGreat
/- A store more. -/
set_option linter.unusedVariables false
set_option maxRecDepth 100000
namespace Go.Proofs.YtgljjdldhnajdaaGreat
open Go.RowKit Go.Maps Go.WideShapes Go.ChangeMaps
variable {B db mb : Nat} {w : World} {s : St} {tv sv lv : Value}

def stoE (s : St) (x : So) : Int := if x.tier = 0 ∨ x.tier = 1 then mayE s x.file else 1
set_option maxHeartbeats 4000000 in
theorem add_store (h : Hid (Dr B w db s tv sv lv mb)) (hok : Hid s.Ok) (x : So) (hf : x.file ≤ 9223372036854775807) (hn : Hid (s.stos.length ≤ 1000000000 ∧ s.files.length ≤ 1000000000)) :
    Calls Tryz.prog 120 #[.pointer (some ⟨db, 0, none⟩), .agg #[.int .i64 x.file, .int .i64 x.tier]] w (DoPost B db w (stoE s x) { s with stos := insS x s.stos }) := by
  obtain ⟨z, hz⟩ : ∃ z, z = stoE s x := ⟨_, rfl⟩
  rw [← hz]
  have HZ := Lib.hid hz
  clear hz
  have HB := Lib.hid (show B ≤ w.heap.size by have := h.out.lo; have := h.out.lt; omega)
  obtain ⟨w1, hw1⟩ : ∃ w1, w.alloc (.cells #[.int .i64 x.file, .int .i64 x.tier] 121) = w1 := ⟨_, rfl⟩
  obtain ⟨xb, hxb⟩ : ∃ xb, xb = w.heap.size := ⟨_, rfl⟩
  have HXB := Lib.hid hxb
  have K1 := Lib.hid (show Below w.heap.size w w1 by rw [← hw1]; exact (Below.refl _ _).alloc (Nat.le_refl _) _)
  have D1 := Lib.hid (h.out.below K1.out)
  have X1 := Lib.hid (show w1.heap[xb]? = some (.cells #[.int .i64 x.file, .int .i64 x.tier] 121 (0, 0)) by rw [← hw1, hxb]; exact heap_new w _)
  have HW1 := Lib.hid hw1
  have x1 : w1.cell? ⟨xb, 1, none⟩ = some (.int .i64 x.tier) := by simp [World.cell?, X1.out]
  have x0 : w1.cell? ⟨xb, 0, none⟩ = some (.int .i64 x.file) := by simp [World.cell?, X1.out]
  have HM := Lib.hid (may_add D1 x.file hf)
  have hxd : xb ≠ db := by have := h.out.lt; omega
  have HXD := Lib.hid hxd
  clear hw1 hxb
  by_cases ht : x.tier = 0 ∨ x.tier = 1
  · obtain ⟨z2, hz2⟩ : ∃ z2, z2 = mayE s x.file := ⟨_, rfl⟩
    rw [← hz2] at HM
    have HZ2 := Lib.hid (show z = z2 by rw [HZ.out]; unfold stoE; rw [if_pos ht, hz2])
    have HZ3 := Lib.hid hz2
    clear HZ hz2
    by_cases hz0 : z2 = 0
    · subst hz0
      obtain ⟨hf1, hno⟩ : 1 ≤ x.file ∧ ¬ x.file ∈ s.files := by
        have := HZ3.out
        unfold mayE at this
        split at this
        · cases this
        · split at this
          · cases this
          · rename_i a b; exact ⟨by omega, b⟩
      have HNO := Lib.hid hno
      have hw : (Lit.int .i64 x.file).wf = true := wf_i64 (by omega) hf
      have HK := Lib.hid (show keyOf Tryz.prog 3 (.int .i64 x.file) = some (.int .i64 x.file) from keyOf_int_mk Tryz.underlying3 hw)
      have HINS := Lib.hid (insS_lb x s.stos fun u hu e => hno (mem_files.2 (.inr (.inl (List.mem_map.2 ⟨u, hu, e⟩)))))
      obtain ⟨k, hk⟩ : ∃ k, k = lbS x s.stos := ⟨_, rfl⟩
      have hkl : k ≤ s.stos.length := by rw [hk]; exact lbS_le _ _
      have HA := Lib.hid (show ∀ i u, i < k → s.stos[i]? = some u → cfS u x < 0 from fun i u hi hu => by
        have := (lb_atS x hok.out.stos hu).1 (hk ▸ hi)
        have := cfS_neg u x
        simp only [decide_eq_decide] at this
        exact this.2 (by omega))
      have HBb := Lib.hid (show ∀ i u, k ≤ i → s.stos[i]? = some u → 0 ≤ cfS u x from fun i u hi hu => by
        have h1 := mt (lb_atS x hok.out.stos hu).2 (by omega)
        have h2 := cfS_neg u x
        simp only [decide_eq_decide] at h2
        have h3 := mt h2.1 h1
        omega)
      have HKK := Lib.hid hk
      clear hno hw hk HZ3
      obtain ⟨sa, sc, hsv⟩ := OffRow.slice D1.out.stos
      obtain ⟨n, hnl⟩ : ∃ n, n = s.stos.length := ⟨_, rfl⟩
      rw [← hnl] at hsv hkl
      subst hsv
      have HN := Lib.hid hnl
      have hn9 : n ≤ 1000000000 := by have := hn.out.1; omega
      clear hnl
      rcases ht with ht | ht
      all_goals
        have HT := Lib.hid ht
        clear ht
        rw [HT.out] at x1
        go_enter Tryz.func120, Tryz.ntmps120
        go_upto_region 1 with (fail)
        rw [HW1.out, ← HXB.out]
        go_wp2_with fail
        refine HM.out.mono ?_
        rintro e w2 ⟨rfl, k2⟩
        have D2 := Lib.hid (D1.out.below k2)
        have K2 := Lib.hid ((K1.out.mono HB.out).trans (k2.mono (Nat.le_trans HB.out K1.out.size)))
        have X2 := Lib.hid ((k2.block xb (heap_lt X1.out)).trans X1.out)
        clear k2
        have OS2 := Lib.hid (show OffRow w2 B 121 2 (.slice sa n sc) n (flat socell s.stos) by have := D2.out.stos; unfold OwnSo at this; rw [← HN.out] at this; exact this)
        have HFI := fun q : Seen w2 => Lib.hid (show Calls Tryz.prog 158 #[.slice sa n sc, .agg #[.int .i64 x.file, .int .i64 x.tier], .func (.func 91) #[] #[]] q.val fun e w' => e = .returned (.tuple #[.int .i64 (k : Int), .bool (fndS s.stos k x)]) ∧ ∃ m : Seen w2, w' = m.val from
          (find_S (Lib.hid (OS2.out.rdL.below q.below)) HN hn9 x k hkl HA HBb).mono fun e w' ⟨h1, h2⟩ => ⟨h1, ⟨w', q.below.trans (h2.mono q.below.size)⟩, rfl⟩)
        have q1 : ∀ q : Seen w2, q.val.cell? ⟨db, 1, none⟩ = some (.slice sa n sc) := fun q => by rw [q.below.cell (p := ⟨db, 1, none⟩) D2.out.lt]; exact D2.out.cell 1
        have q2 : ∀ q : Seen w2, q.val.cell? ⟨xb, 0, none⟩ = some (.int .i64 x.file) := fun q => by rw [q.below.cell (p := ⟨xb, 0, none⟩) (heap_lt X2.out)]; simp [World.cell?, X2.out]
        have q3 : ∀ q : Seen w2, q.val.cell? ⟨xb, 1, none⟩ = some (.int .i64 x.tier) := fun q => by rw [q.below.cell (p := ⟨xb, 1, none⟩) (heap_lt X2.out)]; simp [World.cell?, X2.out]
        obtain ⟨fd, hfd⟩ : ∃ fd, fd = fndS s.stos k x := ⟨_, rfl⟩
        rw [← hfd] at HFI
        clear hfd
        go_wp2_with fail
        refine region_seen (by kernel_rfl) (by kernel_rfl) ?_
        repeat go_big_quiet_step (first | (go_at_call 158; with_reducible exact (HFI _).out))
        refine wpQuiet_nil ?_
        rintro _ ⟨m1, rfl⟩
        have D3 := Lib.hid (D2.out.below m1.below)
        have K3 := Lib.hid (K2.out.trans (m1.below.mono (Nat.le_trans HB.out K2.out.size)))
        have X3 := Lib.hid ((m1.below.block xb (heap_lt X2.out)).trans X2.out)
        have OS3 := Lib.hid (OffRow.kept OS2.out (w' := m1.val) fun j hj => m1.below.block j (OffRow.lt OS2.out j hj).2)
        generalize m1.val = w3 at *
        clear q1 q2 q3 HFI OS2 D2 X2 K2
        obtain ⟨w4, hw4⟩ : ∃ w4, w4 = (w3.alloc (.cells #[.int .i64 x.file, .int .i64 x.tier] 121)).drew := ⟨_, rfl⟩
        have A3 := Lib.hid (show Below w3.heap.size w3 w4 by rw [hw4]; exact ((Below.refl _ _).alloc (Nat.le_refl _) _).drew)
        have V4 := Lib.hid (show w4.heap[w3.heap.size]? = some (.cells (socell x).toArray 121 (0, 0)) by rw [hw4]; exact heap_new w3 _)
        have D4 := Lib.hid (D3.out.below A3.out)
        have HI := Lib.hid (insert_S (vb := w3.heap.size) (x := x) (i := k) (Lib.hid (OffRow.kept OS3.out (w' := w4) fun j hj => A3.out.block j (OffRow.lt OS3.out j hj).2)) HN hn9 hkl V4 (Lib.hid fun g hg e => by have := (OffRow.lt OS3.out g hg).2; omega) (Nat.le_trans HB.out (Nat.le_trans K3.out.size A3.out.size)))
        have HR := Lib.hid (fun (v' : Value) (w' : World) (hr : OffRow w' B 121 2 v' (n + 1) (flat socell (s.stos.take k ++ x :: s.stos.drop k))) (hg : w4.grownBy w' (Value.slice sa n sc).ownBlock) (hv : v'.ownBlock = (Value.slice sa n sc).ownBlock ∨ v'.ownBlock = some w4.heap.size) =>
          show w'.cell? ⟨db, 1, none⟩ = some (.slice sa n sc) ∧ w'.frozen? ⟨db, 1, none⟩ = false ∧ (w'.heap[xb]? = some (.cells #[.int .i64 x.file, .int .i64 x.tier] 121 (0, 0))) ∧ Below B w w' ∧ Dr0 B (w'.setCell ⟨db, 1, none⟩ v') db { s with stos := insS x s.stos } s.files tv v' lv mb from by
            have k4 : ∀ j, j < w4.heap.size → (Value.slice sa n sc).ownBlock ≠ some j → w'.heap[j]? = w4.heap[j]? := fun j hj hne => hg.block j hj (fun e => hne e.symm)
            have hnd : ∀ g, v'.ownBlock = some g → g ≠ db := fun g hg2 => by
              rcases hv with e | e
              · exact (D4.out.ns (e ▸ hg2)).1
              · rw [e] at hg2
                have := D4.out.lt
                injection hg2 with hg2
                omega
            have e4 : w'.heap[db]? = _ := (k4 db D4.out.lt (fun e => (D4.out.ns e).1 rfl)).trans D4.out.obj
            have P := D4.out.putS (show OwnSo w' B v' (s.stos.take k ++ x :: s.stos.drop k) by
              unfold OwnSo
              rw [show (s.stos.take k ++ x :: s.stos.drop k).length = n + 1 by rw [List.length_append, List.length_take, List.length_cons, List.length_drop]; have := HN.out; omega]
              exact hr) k4 hnd
            have hins : insS x s.stos = s.stos.take k ++ x :: s.stos.drop k := by rw [HINS.out, ← HKK.out]
            refine ⟨by simp [World.cell?, e4], by simp [World.frozen?, e4], (k4 xb ?_ fun e => ?_).trans ((A3.out.block xb (heap_lt X3.out)).trans X3.out), (K3.out.trans (A3.out.mono (Nat.le_trans HB.out K3.out.size))).grown hg (Nat.le_trans HB.out (Nat.le_trans K3.out.size A3.out.size)) (fun j hj => (OffRow.lt OS3.out j hj).1), ⟨P.1, D4.out.lo, P.2.1, by rw [hins]; exact P.2.2.1, P.2.2.2.1, P.2.2.2.2, D4.out.mlo⟩⟩
            · exact Nat.lt_of_lt_of_le (heap_lt X3.out) A3.out.size
            · have := (OffRow.lt h.out.stos xb e).2
              have := HXB.out
              omega)
        have y0 : w3.cell? ⟨db, 1, none⟩ = some (.slice sa n sc) := D3.out.cell 1
        have y1 : (w3.alloc (.cells #[.int .i64 x.file, .int .i64 x.tier] 121)).cell? ⟨db, 1, none⟩ = some (.slice sa n sc) := by have := D4.out.cell 1; rw [hw4] at this; exact this
        have y2 : w3.cell? ⟨xb, 0, none⟩ = some (.int .i64 x.file) := by simp [World.cell?, X3.out]
        have y3 : w3.cell? ⟨xb, 1, none⟩ = some (.int .i64 x.tier) := by simp [World.cell?, X3.out]
        have HC := Lib.hid (show Calls Tryz.prog 159 #[.slice sa n sc, .int .i64 (k : Int), .slice (some ⟨w3.heap.size, 0, none⟩) 1 1] (w3.alloc (.cells #[.int .i64 x.file, .int .i64 x.tier] 121)).drew fun e w' => ∃ v', e = .returned v' ∧ (OffRow w' B 121 2 v' (n + 1) (flat socell (s.stos.take k ++ x :: s.stos.drop k)) ∧ w4.grownBy w' (Value.slice sa n sc).ownBlock ∧ (v'.ownBlock = (Value.slice sa n sc).ownBlock ∨ v'.ownBlock = some w4.heap.size)) by rw [← hw4]; exact HI.out)
        have HW4 := Lib.hid hw4
        clear hw4
        go_wp2_with fail
        go_region_law (refine step_callR rfl 159 _ _ rfl (enters_of Tryz.func159 (by kernel_rfl) rfl) #[.slice sa n sc, .int .i64 (k : Int), .slice (some ⟨w3.heap.size, 0, none⟩) 1 1] (by simp [Act.eval, Act.put]) (fun v' w' => OffRow w' B 121 2 v' (n + 1) (flat socell (s.stos.take k ++ x :: s.stos.drop k)) ∧ w4.grownBy w' (Value.slice sa n sc).ownBlock ∧ (v'.ownBlock = (Value.slice sa n sc).ownBlock ∨ v'.ownBlock = some w4.heap.size)) HC.out ?_; intro v7 w7 hr7; obtain ⟨a7, c7, rfl⟩ := OffRow.slice hr7.1; obtain ⟨p1, p2, p3, p4, p5⟩ := HR.out _ w7 hr7.1 hr7.2.1 hr7.2.2; clear hr7)
        all_goals
          have D8 := Lib.hid p5
          have K8 := Lib.hid (p4.setCell (p := ⟨db, 1, none⟩) D4.out.lo (.slice a7 (n + 1) c7))
          have X8 : (w7.setCell ⟨db, 1, none⟩ (.slice a7 (n + 1) c7)).heap[xb]? = some (.cells #[.int .i64 x.file, .int .i64 x.tier] 121 (0, 0)) := by rw [heap_set_other HXD.out]; exact p3
          obtain ⟨l, hl, hp⟩ := p5.set
          have HL := Lib.hid (And.intro hl hp)
          have z4 : ∀ q : Seen (w7.setCell ⟨db, 1, none⟩ (.slice a7 (n + 1) c7)), q.val.cell? ⟨db, 4, none⟩ = some (.map (some mb)) := fun q => by rw [q.below.cell (p := ⟨db, 4, none⟩) (heap_lt D8.out.obj)]; simp [World.cell?, D8.out.obj]
          have z0 : ∀ q : Seen (w7.setCell ⟨db, 1, none⟩ (.slice a7 (n + 1) c7)), q.val.cell? ⟨xb, 0, none⟩ = some (.int .i64 x.file) := fun q => by rw [q.below.cell (p := ⟨xb, 0, none⟩) (heap_lt X8)]; simp [World.cell?, X8]
          have hmx : s.files.length < maxLen := by have := hn.out.2; unfold maxLen; omega
          clear p1 p2 p3 p4 p5 HR HC HI hl hp X8 y0 y1 y2 y3 V4 A3
          go_wp2_with fail
          refine wp_region_seen_tail 7 (by kernel_rfl) (by kernel_rfl) ?_
          simp only [List.take_succ_cons, List.take_zero, List.drop_succ_cons, List.drop_zero]
          repeat go_big_quiet_step (fail)
          refine wpQuiet_nil ?_
          rintro _ ⟨m9, rfl⟩
          have HOW := Lib.hid (show m9.val.ownsMap Tryz.prog 3 (unitElem (H := Unit)) mb s.files.length (.map l) by
            obtain ⟨x', c, hb, r⟩ := HL.out.1
            exact ⟨x', c, (m9.below.block mb (heap_lt hb)).trans hb, r⟩)
          have D9 := Lib.hid (D8.out.turn (D8.out.set.kept (m9.below.block mb (by obtain ⟨x', c, e⟩ := D8.out.set.obj; exact heap_lt e))) fun j hj _ => m9.below.block j hj)
          have K9 := Lib.hid (K8.out.trans (m9.below.mono (Nat.le_trans HB.out K8.out.size)))
          clear z4 z0
          go_wp2_with (at_mapUpdate; refine wpList_mapUpdate_own _ rfl _ _ _ 103 rfl 3 159 keyedI Tryz.underlying103 _ mb _ _ rfl HOW.out hmx _ _ _ rfl rfl HK.out _ [] unitElem_mk ?_)
          intro w10 hown hgrow
          have S10 := Lib.hid (set_put HL.out.2 HNO.out hown)
          have G10 := Lib.hid hgrow
          clear hown hgrow
          go_wp2
          go_ret
          refine ⟨by rw [HZ2.out]; rfl, K9.out.grown G10.out (Nat.le_trans HB.out K9.out.size) (fun j hj => by injection hj with hj; rw [← hj]; exact D9.out.mlo), fun _ => ?_⟩
          have d10 := D9.out.turn S10.out fun j hj hne => G10.out.block j hj (fun e => hne (by injection e))
          refine ⟨_, _, _, mb, Dr.of0 d10 ?_⟩
          show (x.file :: s.files).Perm (s.tabs.map (·.file) ++ (insS x s.stos).map (·.file) ++ s.logs)
          exact (files_insS s x).symm
    · clear HZ3
      rcases ht with ht | ht
      all_goals
        have HT := Lib.hid ht
        clear ht
        rw [HT.out] at x1
        go_enter Tryz.func120, Tryz.ntmps120
        go_upto_region 1 with (fail)
        rw [HW1.out, ← HXB.out]
        go_wp2_with fail
        refine HM.out.mono ?_
        rintro e w2 ⟨rfl, k2⟩
        have K2 := Lib.hid ((K1.out.mono HB.out).trans (k2.mono (Nat.le_trans HB.out K1.out.size)))
        clear k2
        go_wp2
        go_ret
        rw [HZ2.out]
        exact do_bad K2.out hz0
  · have hv := Lib.hid (show z = 1 by rw [HZ.out]; unfold stoE; rw [if_neg ht])
    have t0 : (x.tier != 0) = true := by simpa using fun e => ht (.inl e)
    have t1 : (x.tier != 1) = true := by simpa using fun e => ht (.inr e)
    have t2 : ¬ x.tier = 0 := fun e => ht (.inl e)
    clear HZ ht HM
    go_enter Tryz.func120, Tryz.ntmps120
    go_upto_region 1 with (fail)
    rw [HW1.out, ← HXB.out]
    go_wp2
    go_ret
    rw [hv.out]
    exact do_bad (K1.out.mono HB.out) (by omega)
end Go.Proofs.YtgljjdldhnajdaaGreat
/- An element of a list that reads. -/
set_option linter.unusedVariables false
set_option maxRecDepth 100000
namespace Go.Proofs.YtgljjdldhnajdaaGreat
open Go.RowKit

theorem RdL.atT {T : Nat → Prop} {w : World} {a : Option Addr} {n cap : Nat} {L : List Tb} (h : RdL T w (.slice a n cap) n (flat tcell L)) {m : Nat} {x : Tb} (hx : L[m]? = some x) (hm : m < n) :
    ∃ b off, a = some ⟨b, off, none⟩ ∧ T b ∧ b < w.heap.size ∧ ∀ i u, (tcell x)[i]? = some u → w.cell? ⟨b, off + m * 5 + i, none⟩ = some u := by
  obtain ⟨a', cap', e, _, h⟩ := h
  injection e with e1 e2 e3
  subst e1
  rcases h with ⟨_, h0, _⟩ | ⟨b, off, rfl, ht, hb, hc⟩
  · omega
  · refine ⟨b, off, rfl, ht, hb, fun i u hi => ?_⟩
    have hik : i < 5 := by rw [← tcell_len x]; exact (List.getElem?_eq_some_iff.1 hi).1
    have := flat_at tcell_len hx hik
    rw [hi] at this
    rw [Nat.add_assoc]
    exact hc _ _ this

end Go.Proofs.YtgljjdldhnajdaaGreat
/- The place of an element in a row that rises. -/
set_option linter.unusedVariables false
set_option maxRecDepth 100000
namespace Go.Proofs.YtgljjdldhnajdaaGreat
open Go.RowKit Go.Sort

/-- Whether the place is an equal's. -/
def fndT (L : List Tb) (k : Nat) (x : Tb) : Bool := match L[k]? with
  | some u => cfT u x == 0
  | none => false
set_option maxHeartbeats 4000000 in
theorem find_T {T : Nat → Prop} {a : Option Addr} {n cap : Nat} {L : List Tb} {w : World} (h : Hid (RdL T w (.slice a n cap) n (flat tcell L))) (hL : Hid (n = L.length)) (hn : n ≤ 1000000000) (x : Tb) (k : Nat) (hk : k ≤ n)
    (ha : Hid (∀ i u, i < k → L[i]? = some u → cfT u x < 0)) (hb : Hid (∀ i u, k ≤ i → L[i]? = some u → 0 ≤ cfT u x)) :
    Calls Tryz.prog 153 #[.slice a n cap, .agg #[.int .i64 x.file, .int .i64 x.lev, .int .i64 x.cnt, .string (bs x.low), .string (bs x.high)], .func (.func 89) #[] #[]] w fun e w' => e = .returned (.tuple #[.int .i64 (k : Int), .bool (fndT L k x)]) ∧ Below w.heap.size w w' := by
  obtain ⟨fb, hfb⟩ : ∃ fb, fb = fndT L k x := ⟨_, rfl⟩
  rw [← hfb]
  have HF := Lib.hid hfb
  clear hfb
  have mixed : Tryz.prog.follows .mixedOrders = true := by kernel_rfl
  have eg : ∀ args w, (callFunc 89 args).run Tryz.prog w = .ok (.enter 89 args) w := enters_of Tryz.func89 (by kernel_rfl) rfl
  obtain ⟨w0, hw0⟩ : ∃ w0, w.alloc (.cells #[.int .i64 x.file, .int .i64 x.lev, .int .i64 x.cnt, .string (bs x.low), .string (bs x.high)] 119) = w0 := ⟨_, rfl⟩
  obtain ⟨B, hB⟩ : ∃ B, B = w.heap.size := ⟨_, rfl⟩
  have X0 := Lib.hid (show w0.heap[B]? = some (.cells #[.int .i64 x.file, .int .i64 x.lev, .int .i64 x.cnt, .string (bs x.low), .string (bs x.high)] 119 (0, 0)) by rw [← hw0, hB]; exact heap_new w _)
  have K0 := Lib.hid (show Below B w w0 by rw [← hw0, hB]; exact (Below.refl _ _).alloc (Nat.le_refl _) _)
  have HB := Lib.hid hB
  have HW0 := Lib.hid hw0
  have C := fun (u v : Tb) (W : World) => Lib.hid (table_order u v W)
  clear hw0 hB
  go_enter Tryz.func153, Tryz.ntmps153
  go_upto_region 1 with (fail)
  rw [HW0.out, ← HB.out]
  go_wp2_with fail
  go_loopw [9, 10] (fun iv jv wr => ∃ i j : Nat, i ≤ k ∧ k ≤ j ∧ j ≤ n ∧ iv = .int .i64 i ∧ jv = .int .i64 j ∧ Hid (Below w0.heap.size w0 wr)) (fun iv jv wr => (intOf jv).toNat - (intOf iv).toNat)
  case atStart => exact ⟨0, n, by omega, hk, by omega, rfl, rfl, Lib.hid (Below.refl _ _)⟩
  case round =>
    obtain ⟨i, j, hik, hkj, hj, rfl, rfl, hR⟩ := hrel
    by_cases hlt : i < j
    · obtain ⟨m, hm⟩ : ∃ m, m = (i + j) / 2 := ⟨_, rfl⟩
      obtain ⟨s, hs⟩ : ∃ s : Int, s = (i : Int) + (j : Int) := ⟨_, rfl⟩
      have hs1 : IntKind.i64.wrap ((i : Int) + (j : Int)) = s := by rw [IntWalk.i64_in _ (by omega), hs]
      have hm1 : s / 2 = (m : Int) := by omega
      have hmi : i ≤ m := by omega
      have hmj : m < j := by omega
      have hml : m < n := by omega
      have hs0 : 0 ≤ s := by omega
      have hs2 : s ≤ 2000000000 := by omega
      have hs3 : (i : Int) + (j : Int) = s := hs.symm
      obtain ⟨y, hy⟩ : ∃ y, L[m]? = some y := ⟨_, List.getElem?_eq_getElem (by have := hL.out; omega)⟩
      obtain ⟨b, off, rfl, ht, hb2, hc⟩ := RdL.atT h.out hy hml
      have hB0 : B < w0.heap.size := heap_lt X0.out
      have hbw0 : b < w0.heap.size := Nat.lt_of_lt_of_le hb2 K0.out.size
      have hbB : b < B := by rw [HB.out]; exact hb2
      have hcr : ∀ i u, (tcell y)[i]? = some u → wr.cell? ⟨b, off + m * 5 + i, none⟩ = some u := fun i u hu => by
        rw [← hc i u hu]
        simp only [World.cell?, hR.out.block b hbw0, K0.out.block b hbB]
      have hbr : b < wr.heap.size := Nat.lt_of_lt_of_le hbw0 hR.out.size
      have hBr : B < wr.heap.size := Nat.lt_of_lt_of_le hB0 hR.out.size
      have hxr : wr.heap[B]? = some (.cells #[.int .i64 x.file, .int .i64 x.lev, .int .i64 x.cnt, .string (bs x.low), .string (bs x.high)] 119 (0, 0)) := (hR.out.block B hB0).trans X0.out
      have y0 := fun n os => cell_grown (w := wr) (a := ⟨b, off + m * 5, none⟩) hbr (hcr 0 _ rfl) n os
      have y1 := fun n os => cell_grown (w := wr) (a := ⟨b, off + m * 5 + 1, none⟩) hbr (hcr 1 _ rfl) n os
      have y2 := fun n os => cell_grown (w := wr) (a := ⟨b, off + m * 5 + 2, none⟩) hbr (hcr 2 _ rfl) n os
      have y3 := fun n os => cell_grown (w := wr) (a := ⟨b, off + m * 5 + 3, none⟩) hbr (hcr 3 _ rfl) n os
      have y4 := fun n os => cell_grown (w := wr) (a := ⟨b, off + m * 5 + 4, none⟩) hbr (hcr 4 _ rfl) n os
      have x0 := fun n os => cell_grown (w := wr) (a := ⟨B, 0, none⟩) hBr (by simp [World.cell?, hxr]; rfl) n os
      have x1 := fun n os => cell_grown (w := wr) (a := ⟨B, 1, none⟩) hBr (by simp [World.cell?, hxr]; rfl) n os
      have x2 := fun n os => cell_grown (w := wr) (a := ⟨B, 2, none⟩) hBr (by simp [World.cell?, hxr]; rfl) n os
      have x3 := fun n os => cell_grown (w := wr) (a := ⟨B, 3, none⟩) hBr (by simp [World.cell?, hxr]; rfl) n os
      have x4 := fun n os => cell_grown (w := wr) (a := ⟨B, 4, none⟩) hBr (by simp [World.cell?, hxr]; rfl) n os
      have HYX := Lib.hid hy
      obtain ⟨z, hz⟩ : ∃ z, z = cfT y x := ⟨_, rfl⟩
      have HZ := Lib.hid hz
      have CC := fun n os => (C y x (grow (wr.drewN n) os)).out
      rw [← hz] at CC
      clear hz hy hc hcr hxr hs hm
      have hmI : (m : Int) ≤ (n : Int) := by omega
      by_cases hneg : z < 0
      · have hneg' : decide (z < 0) = true := decide_eq_true hneg
        have hmk : m + 1 ≤ k := by
          rcases Nat.lt_or_ge m k with e | e
          · exact e
          · have := hb.out m y e HYX.out; have := HZ.out; omega
        go_wp2_with fail
        go_quiet_grown (first | (go_at_call 89; refine Calls.grown_of (CC _ _)) | (go_at_fn 89; refine Calls.grown_of (CC _ _)))
        have K2 := Lib.hid (below_grow hR.out (Nat.le_refl _) nq osq)
        go_wp2_with fail
        go_roundw
        case rel => exact ⟨m + 1, j, hmk, hkj, hj, by go_num, rfl, K2⟩
        case measure => simp [intOf]; omega
      · have hneg' : decide (z < 0) = false := decide_eq_false hneg
        have hmk : k ≤ m := by
          rcases Nat.lt_or_ge m k with e | e
          · have := ha.out m y e HYX.out; have := HZ.out; omega
          · exact e
        go_wp2_with fail
        go_quiet_grown (first | (go_at_call 89; refine Calls.grown_of (CC _ _)) | (go_at_fn 89; refine Calls.grown_of (CC _ _)))
        have K2 := Lib.hid (below_grow hR.out (Nat.le_refl _) nq osq)
        go_wp2_with fail
        go_roundw
        case rel => exact ⟨i, m, hik, hmk, by omega, rfl, rfl, K2⟩
        case measure => simp [intOf]; omega
    · obtain rfl : i = k := by omega
      obtain rfl : i = j := by omega
      have K0' := Lib.hid (show Below w.heap.size w wr by rw [← HB.out]; exact K0.out.trans (hR.out.mono (Nat.le_of_lt (heap_lt X0.out))))
      by_cases hin : i < n
      · have hin' : (i : Int) < (n : Int) := by omega
        obtain ⟨y, hy⟩ : ∃ y, L[i]? = some y := ⟨_, List.getElem?_eq_getElem (by have := hL.out; omega)⟩
        obtain ⟨b, off, rfl, ht, hb2, hc⟩ := RdL.atT h.out hy hin
        have hB0 : B < w0.heap.size := heap_lt X0.out
        have hbw0 : b < w0.heap.size := Nat.lt_of_lt_of_le hb2 K0.out.size
        have hbB : b < B := by rw [HB.out]; exact hb2
        have hcr : ∀ j u, (tcell y)[j]? = some u → wr.cell? ⟨b, off + i * 5 + j, none⟩ = some u := fun j u hu => by
          rw [← hc j u hu]
          simp only [World.cell?, hR.out.block b hbw0, K0.out.block b hbB]
        have hbr : b < wr.heap.size := Nat.lt_of_lt_of_le hbw0 hR.out.size
        have hBr : B < wr.heap.size := Nat.lt_of_lt_of_le hB0 hR.out.size
        have hxr : wr.heap[B]? = some (.cells #[.int .i64 x.file, .int .i64 x.lev, .int .i64 x.cnt, .string (bs x.low), .string (bs x.high)] 119 (0, 0)) := (hR.out.block B hB0).trans X0.out
        have y0 := fun n os => cell_grown (w := wr) (a := ⟨b, off + i * 5, none⟩) hbr (hcr 0 _ rfl) n os
        have y1 := fun n os => cell_grown (w := wr) (a := ⟨b, off + i * 5 + 1, none⟩) hbr (hcr 1 _ rfl) n os
        have y2 := fun n os => cell_grown (w := wr) (a := ⟨b, off + i * 5 + 2, none⟩) hbr (hcr 2 _ rfl) n os
        have y3 := fun n os => cell_grown (w := wr) (a := ⟨b, off + i * 5 + 3, none⟩) hbr (hcr 3 _ rfl) n os
        have y4 := fun n os => cell_grown (w := wr) (a := ⟨b, off + i * 5 + 4, none⟩) hbr (hcr 4 _ rfl) n os
        have x0 := fun n os => cell_grown (w := wr) (a := ⟨B, 0, none⟩) hBr (by simp [World.cell?, hxr]; rfl) n os
        have x1 := fun n os => cell_grown (w := wr) (a := ⟨B, 1, none⟩) hBr (by simp [World.cell?, hxr]; rfl) n os
        have x2 := fun n os => cell_grown (w := wr) (a := ⟨B, 2, none⟩) hBr (by simp [World.cell?, hxr]; rfl) n os
        have x3 := fun n os => cell_grown (w := wr) (a := ⟨B, 3, none⟩) hBr (by simp [World.cell?, hxr]; rfl) n os
        have x4 := fun n os => cell_grown (w := wr) (a := ⟨B, 4, none⟩) hBr (by simp [World.cell?, hxr]; rfl) n os
        obtain ⟨z, hz⟩ : ∃ z, z = cfT y x := ⟨_, rfl⟩
        have HF2 := Lib.hid (show fb = (z == 0) by rw [HF.out, hz]; unfold fndT; rw [hy])
        have CC := fun n os => (C y x (grow (wr.drewN n) os)).out
        rw [← hz] at CC
        clear hz hy hc hcr hxr HF
        go_wp2_with fail
        go_quiet_grown (first | (go_at_call 89; refine Calls.grown_of (CC _ _)) | (go_at_fn 89; refine Calls.grown_of (CC _ _)))
        have K2 := Lib.hid (below_grow K0'.out (Nat.le_refl _) nq osq)
        go_wp2_with fail
        go_ret2
        exact ⟨by rw [HF2.out]; rfl, K2.out⟩
      · obtain rfl : i = n := by omega
        have HF2 := Lib.hid (show fb = false by rw [HF.out]; unfold fndT; rw [List.getElem?_eq_none (by have := hL.out; omega)])
        clear HF
        have hg : ¬ (i : Int) < (i : Int) := by omega
        have hg2 : decide ((i : Int) < (i : Int)) = false := decide_eq_false hg
        go_wp2_with fail
        go_quiet (fail)
        have K2 := Lib.hid (below_drewN K0'.out nq)
        go_wp2_with fail
        go_ret2
        exact ⟨by rw [HF2.out]; rfl, K2.out⟩
end Go.Proofs.YtgljjdldhnajdaaGreat
/- An element put into a row: the library's Insert, of one element. -/
set_option linter.unusedVariables false
set_option maxRecDepth 100000
namespace Go.Proofs.YtgljjdldhnajdaaGreat
open Go.RowKit

/-- What Insert leaves. -/
def InsPostT (B : Nat) (a : Option Addr) (n cap i : Nat) (L : List Tb) (x : Tb) (w : World) (e : Ending) (w' : World) : Prop :=
  ∃ v', e = .returned v' ∧ OffRow w' B 119 5 v' (n + 1) (flat tcell (L.take i ++ x :: L.drop i)) ∧ w.grownBy w' (Value.slice a n cap).ownBlock ∧ (v'.ownBlock = (Value.slice a n cap).ownBlock ∨ v'.ownBlock = some w.heap.size)
theorem flat_putT {L : List Tb} {i : Nat} (x : Tb) (hi : i ≤ L.length) : flat tcell (L.take i ++ x :: L.drop i) = (flat tcell L).take (i * 5) ++ (tcell x ++ (flat tcell L).drop (i * 5)) := by
  rw [flat_append, flat_cons, (flat_split tcell_len L i hi).1, (flat_split tcell_len L i hi).2]

set_option maxHeartbeats 2000000 in
theorem insert_endT {B n cap vb : Nat} {a : Option Addr} {L : List Tb} {x : Tb} {w : World} (h : Hid (OffRow w B 119 5 (.slice a n cap) n (flat tcell L))) (hL : Hid (n = L.length)) (hn : n ≤ 1000000000)
    (hv : Hid (w.heap[vb]? = some (.cells (tcell x).toArray 119 (0, 0)))) (hB : B ≤ w.heap.size) :
    Calls Tryz.prog 157 #[.slice a n cap, .int .i64 (n : Int), .slice (some ⟨vb, 0, none⟩) 1 1] w (InsPostT B a n cap n L x w) := by
  have HE := Lib.hid (show flat tcell (L.take n ++ x :: L.drop n) = flat tcell L ++ tcell x by
    rw [hL.out, List.take_length, List.drop_length, flat_append, flat_one])
  obtain ⟨i0, hi0, hz0, hz1, hz2⟩ := info_parts infoTb
  have hcn : n ≤ cap := OffRow.cap_ge h.out
  have hc0 : (n : Int) ≤ (cap : Int) := by omega
  have hsrc := src_block (P := Tryz.prog) (size := 5) (t := 42) Tryz.underlying42 hv.out 1 1 (by simp [tcell_len]) (fun u hu => tcell_one x u (by simpa using hu))
  have hmx : n + 1 ≤ maxLen := by unfold maxLen; omega
  have hby : (n + 1) * 56 ≤ 140737488355328 := by omega
  have HH := Lib.hid (And.intro hi0 (And.intro hz0 (And.intro hz1 (And.intro hz2 (And.intro hsrc (And.intro hmx hby))))))
  clear hi0 hz0 hz1 hz2 hsrc hmx hby
  rcases Classical.em (n = cap) with rfl | hne
  all_goals
    go_enter Tryz.func157, Tryz.ntmps157
    go_wp2_with (at_builtin; refine wpList_append_off rfl (.tmp 23) (.tmp 24) 42 rfl B 119 i0 _ 5 56 Tryz.underlying42 HH.out.1 HH.out.2.1 HH.out.2.2.1 HH.out.2.2.2.1 rfl _ n (flat tcell L) rfl h.out (.slice (some ⟨vb, 0, none⟩) 1 1) rfl 1 _ HH.out.2.2.2.2.1 HH.out.2.2.2.2.2.1 HH.out.2.2.2.2.2.2 hB ?_)
    intro v' w' hr hg hat
    have HR := Lib.hid (And.intro hr (And.intro hg hat))
    clear hr hg hat
    go_wp2
    go_ret
    exact ⟨v', rfl, by rw [HE.out]; simpa using HR.out.1, HR.out.2.1, HR.out.2.2⟩

set_option maxHeartbeats 4000000 in
theorem insert_roomT {B n cap i vb g off : Nat} {L : List Tb} {x : Tb} {w : World} (h : Hid (AtRow w 119 5 g off n cap (flat tcell L))) (hBg : B ≤ g) (hL : Hid (n = L.length)) (hn : n ≤ 1000000000) (hi : i < n) (hc : n + 1 ≤ cap)
    (hv : Hid (w.heap[vb]? = some (.cells (tcell x).toArray 119 (0, 0)))) (hvb : vb ≠ g) :
    Calls Tryz.prog 157 #[.slice (some ⟨g, off, none⟩) n cap, .int .i64 (i : Int), .slice (some ⟨vb, 0, none⟩) 1 1] w (InsPostT B (some ⟨g, off, none⟩) n cap i L x w) := by
  have mixed : Tryz.prog.follows .mixedOrders = true := by kernel_rfl
  have HE := Lib.hid (flat_putT (L := L) (i := i) x (by have := hL.out; omega))
  obtain ⟨i0, hi0, hz0, hz1, hz2⟩ := info_parts infoTb
  have hsz : (Tryz.prog.info? 119).map (·.size) = some 5 := by rw [hi0]; simp [hz1]
  obtain ⟨cur, hg, hcs, hcc⟩ := h.out.obj
  have hk : 0 < cur.size := by omega
  have hxs : (flat tcell L).length = n * 5 := h.out.len
  have hov : ∀ lb cb, (callFunc 187 #[.slice (some ⟨vb, 0, none⟩) 1 1, .slice (some ⟨g, off + (i + 1) * 5, none⟩) lb cb]).run Tryz.prog w = .ok (.value (.bool false)) w := fun lb cb => by
    rw [run_callFunc_extern Tryz.func187 (by kernel_rfl) (by kernel_rfl) (by kernel_rfl) (e := Extern.SlicesOverlaps.overlaps #[42, 42] #[4]) (by kernel_rfl),
      Lib.run_overlaps_apart w 42 4 119 Tryz.underlying42 5 Tryz.sizeOf119 ⟨vb, 0, none⟩ ⟨g, off + (i + 1) * 5, none⟩ 1 1 lb cb hvb 119 119 5 cur.size (by simp [World.shape?, hv.out, tcell_len]) (by simp [World.shape?, hg]) (by omega) (by simp [World.frozen?, hv.out]) (by simp [World.frozen?, hv.out])]
    rfl
  have hdl : ((flat tcell L).drop (i * 5)).length = (n - i) * 5 := by rw [List.length_drop, hxs, Nat.sub_mul]
  have hcp1 : ∀ ty dc sc, (Builtin.copy_ #[42, 42] ty #[.slice (some ⟨g, off + (i + 1) * 5, none⟩) (n - i) dc, .slice (some ⟨g, off + i * 5, none⟩) (n + 1 - i) sc]).run Tryz.prog w.drew = .ok (goInt (n - i : Nat)) (w.drew.setCells g (off + (i + 1) * 5) ((flat tcell L).drop (i * 5))) := fun ty dc sc => by
    have hmin : Nat.min (n + 1 - i) (n - i) = n - i := by simp only [Nat.min_def]; split <;> omega
    have := run_copy_cellsK (P := Tryz.prog) w.drew 42 42 ty 119 5 g (off + (i + 1) * 5) (n - i) dc ⟨g, off + i * 5, none⟩ (n + 1 - i) sc ((flat tcell L).drop (i * 5)) Tryz.underlying42 hsz (by rw [hdl, hmin])
      (fun j v hj => by rw [addr_add, Nat.add_assoc]; rw [List.getElem?_drop] at hj; exact h.out.cell hj)
      (fun j hj => by rw [Nat.add_assoc]; exact h.out.some (by rw [hdl] at hj; omega))
      (fun j hj => h.out.free _) (fun v hv => flat_one' tcell_one L v (List.mem_of_mem_drop hv))
    rw [hmin] at this
    exact this
  obtain ⟨W1, hW1⟩ : ∃ W1, W1 = w.drew.setCells g (off + (i + 1) * 5) ((flat tcell L).drop (i * 5)) := ⟨_, rfl⟩
  have hv1 : W1.heap[vb]? = some (.cells (tcell x).toArray 119 (0, 0)) := by rw [hW1, setCells_other _ _ _ _ _ hvb]; exact hv.out
  have hg1 : ∃ cur1, W1.heap[g]? = some (.cells cur1 119 (0, 0)) ∧ cur1.size = cur.size := by
    obtain ⟨c1, a1, a2, _⟩ := setCells_heap ((flat tcell L).drop (i * 5)) g (off + (i + 1) * 5) w.drew cur 119 hg
    exact ⟨c1, by rw [hW1]; exact a1, a2⟩
  obtain ⟨cur1, hg1, hc1⟩ := hg1
  have hcp2 : ∀ ty dc, (Builtin.copy_ #[42, 42] ty #[.slice (some ⟨g, off + i * 5, none⟩) (n + 1 - i) dc, .slice (some ⟨vb, 0, none⟩) 1 1]).run Tryz.prog W1 = .ok (goInt 1) (W1.setCells g (off + i * 5) (tcell x)) := fun ty dc => by
    have hmin : Nat.min 1 (n + 1 - i) = 1 := by simp only [Nat.min_def]; split <;> omega
    have := run_copy_cellsK (P := Tryz.prog) W1 42 42 ty 119 5 g (off + i * 5) (n + 1 - i) dc ⟨vb, 0, none⟩ 1 1 (tcell x) Tryz.underlying42 hsz (by rw [hmin]; rfl)
      (fun j v hj => by rw [addr_add, Nat.zero_add]; simp [World.cell?, hv1]; exact hj)
      (fun j hj => by rw [tcell_len] at hj; simp [World.cell?, hg1]; omega)
      (fun j hj => by simp [World.frozen?, hg1]) (tcell_one x)
    rw [hmin] at this
    exact this
  have HF := Lib.hid (show OffRow (W1.setCells g (off + i * 5) (tcell x)) B 119 5 (.slice (some ⟨g, off, none⟩) (n + 1) cap) (n + 1) (flat tcell (L.take i ++ x :: L.drop i)) by
    rw [HE.out, hW1]
    exact AtRow.off (AtRow.insert (w := w.drew) (h.out.kept (w' := w.drew) rfl) (Nat.le_of_lt hi) hc (tcell_len x)) hBg)
  have HG := Lib.hid (show w.grownBy (W1.setCells g (off + i * 5) (tcell x)) (some g) by
    rw [hW1]
    obtain ⟨p1, p2, p3, p4⟩ := setCells_meta ((flat tcell L).drop (i * 5)) g (off + (i + 1) * 5) w.drew
    obtain ⟨q1, q2, q3, q4⟩ := setCells_meta (tcell x) g (off + i * 5) (w.drew.setCells g (off + (i + 1) * 5) ((flat tcell L).drop (i * 5)))
    exact ⟨q1.trans p1, q2.trans p2, q3.trans p3, by rw [q4, p4]; exact Nat.le_refl _, fun k _ hk => (setCells_other _ _ _ _ _ (fun e => hk (by rw [e]))).trans (setCells_other _ _ _ _ _ (fun e => hk (by rw [e])))⟩)
  rw [← hW1] at hcp1
  have hw1 : IntKind.i64.wrap ((i : Int) + 1) = (i : Int) + 1 := by rw [IntKind.wrap_i64]; omega
  have hb1 : (0 : Int) ≤ (i : Int) + 1 := by omega
  have hin : i ≤ n := by omega
  have htn : ((i : Int) + 1).toNat = i + 1 := by omega
  have hb2 : ¬ (cap = i + 1) := by omega
  have hb3 : (i : Int) ≤ (n : Int) + 1 := by omega
  have hb4 : ¬ (cap = i) := by omega
  have hb5 : (n : Int) ≤ (cap : Int) := by omega
  have hb6 : (n : Int) + 1 ≤ (cap : Int) := by omega
  have hb7 : ¬ (cap : Int) < (n : Int) + 1 := by omega
  have hz2 : ¬ ((i : Int) = (n : Int)) := by omega
  clear hdl hxs hk hcs hcc hg hg1 hv1 hc1 hsz hi0 hz0 hz1 hW1
  go_enter Tryz.func157, Tryz.ntmps157
  go_wp2_with (simp only [hov])
  go_region_law_o (refine step_copy_runI rfl _ _ 42 42 rfl _ _ (by simp [Act.eval, Act.put]) (by simp [Act.eval, Act.put]) (hcp1 _ _ _) ?_)
  go_wp2_with (at_builtin; refine wpList_copy_runI _ rfl _ _ 42 42 rfl _ _ rfl rfl (hcp2 _ _) ?_)
  go_ret
  exact ⟨_, rfl, HF.out, HG.out, .inl rfl⟩
end Go.Proofs.YtgljjdldhnajdaaGreat
/- An element put into a row: a new row. -/
set_option linter.unusedVariables false
set_option maxRecDepth 100000
namespace Go.Proofs.YtgljjdldhnajdaaGreat
open Go.RowKit

set_option maxHeartbeats 4000000 in
theorem insert_newT {B n i vb g off : Nat} {L : List Tb} {x : Tb} {w : World} (h : Hid (AtRow w 119 5 g off n n (flat tcell L))) (hL : Hid (n = L.length)) (hn : n ≤ 1000000000) (hi : i < n)
    (hv : Hid (w.heap[vb]? = some (.cells (tcell x).toArray 119 (0, 0)))) (hB : B ≤ w.heap.size) :
    Calls Tryz.prog 157 #[.slice (some ⟨g, off, none⟩) n n, .int .i64 (i : Int), .slice (some ⟨vb, 0, none⟩) 1 1] w (InsPostT B (some ⟨g, off, none⟩) n n i L x w) := by
  have mixed : Tryz.prog.follows .mixedOrders = true := by kernel_rfl
  have HE := Lib.hid (flat_putT (L := L) (i := i) x (by have := hL.out; omega))
  obtain ⟨i0, hi0, hz0, hz1, hz2⟩ := info_parts infoTb
  have hsz : (Tryz.prog.info? 119).map (·.size) = some 5 := by rw [hi0]; simp [hz1]
  have hxs : (flat tcell L).length = n * 5 := h.out.len
  obtain ⟨cur, hg, hcs, hcc⟩ := h.out.obj
  have hbw : g < w.heap.size := heap_lt hg
  have hvw : vb < w.heap.size := heap_lt hv.out
  have hkk : (n : Int) + 1 - (i : Int) = ((n + 1 - i : Nat) : Int) := by omega
  have hik : i + (n + 1 - i) = n + 1 := by omega
  have hdl : ((flat tcell L).drop (i * 5)).length = (n - i) * 5 := by rw [List.length_drop, hxs, Nat.sub_mul]
  have htl : ((flat tcell L).take (i * 5)).length = i * 5 := by rw [List.length_take, hxs]; omega
  have hold : (Builtin.firstCells i0.size i (.slice (some ⟨g, off, none⟩) i n)).run Tryz.prog w.drew = .ok ((flat tcell L).take (i * 5)).toArray w.drew := by
    rw [hz1]
    exact run_firstCells_some w.drew 5 i ⟨g, off, none⟩ i n ((flat tcell L).take (i * 5)) htl (fun j v hj => by
      rw [addr_add]
      rw [List.getElem?_take] at hj
      split at hj
      · exact h.out.cell hj
      · cases hj)
  obtain ⟨G, hG⟩ : ∃ G, G = grownCap w (n + 1) n 119 := ⟨_, rfl⟩
  obtain ⟨ROW, hROW⟩ : ∃ ROW : Array Value, ROW = ((flat tcell L).take (i * 5)).toArray ++ Builtin.zeroCells (Value.agg #[.int .i64 0, .int .i64 0, .int .i64 0, .string ⟨#[]⟩, .string ⟨#[]⟩]).cells (n + 1 - i) ++ Builtin.zeroCells (Value.agg #[.int .i64 0, .int .i64 0, .int .i64 0, .string ⟨#[]⟩, .string ⟨#[]⟩]).cells (G - (n + 1)) := ⟨_, rfl⟩
  have hrz : ∀ ty, (Builtin.append_ #[42, 3] ty #[.slice (some ⟨g, off, none⟩) i n, .int .i64 ((n : Int) + 1 - (i : Int))]).run Tryz.prog w =
      .ok (.slice (some ⟨w.heap.size, 0, none⟩) (n + 1) G) (w.drew.alloc (.cells ROW 119)) := fun ty => by
    have h := Lib.run_append_grow_zeros (P := Tryz.prog) w 42 3 ty 119 i0 _ .i64 .i64 Tryz.underlying42 Tryz.underlying3 hi0 hz0 (some ⟨g, off, none⟩) i n _ hold (n + 1 - i) (by omega) (by rw [hz1]; omega) (by omega) (by omega) (by rw [hz2]; omega) (by rw [hz2, hik]; exact growslice_fits (by omega) (by omega))
    rw [hik, ← hG, ← hROW] at h
    rw [hkk]
    exact h
  have hGn : n + 1 ≤ G := by rw [hG]; exact grownCap_ge w _ _ _
  have hGm : G ≤ maxLen := by rw [hG]; exact grownCap_le_maxLen w (n + 1) n 119 (by unfold maxLen; omega)
  have hRs : ROW.size = G * 5 := by
    rw [hROW]
    simp only [Array.size_append, size_zeroCells, List.size_toArray, htl]
    simp [Value.cells]
    omega
  have hRb : ∀ j, j < i * 5 → ROW[j]? = (flat tcell L)[j]? := fun j hj => by
    rw [hROW, Array.append_assoc, Array.getElem?_append_left (by simpa [htl] using hj)]
    simp [List.getElem?_take, hj]
  obtain ⟨W1, hW1⟩ : ∃ W1, W1 = w.drew.alloc (.cells ROW 119) := ⟨_, rfl⟩
  have hN : W1.heap[w.heap.size]? = some (.cells ROW 119 (0, 0)) := by rw [hW1]; exact heap_new w.drew _
  have hO : ∀ k, k < w.heap.size → W1.heap[k]? = w.heap[k]? := fun k hk => by rw [hW1]; exact Below.heap_alloc w.drew _ k hk
  rw [← hW1] at hrz
  have hvw1 : W1.heap[vb]? = some (.cells (tcell x).toArray 119 (0, 0)) := (hO vb hvw).trans hv.out
  have hcpA : ∀ (W : World), W.heap = W1.heap → ∀ ty dc, (Builtin.copy_ #[42, 42] ty #[.slice (some ⟨w.heap.size, i * 5, none⟩) (n + 1 - i) dc, .slice (some ⟨vb, 0, none⟩) 1 1]).run Tryz.prog W = .ok (goInt 1) (W.setCells w.heap.size (i * 5) (tcell x)) := fun W hW ty dc => by
    have hmin : Nat.min 1 (n + 1 - i) = 1 := by simp only [Nat.min_def]; split <;> omega
    have := run_copy_cellsK (P := Tryz.prog) W 42 42 ty 119 5 w.heap.size (i * 5) (n + 1 - i) dc ⟨vb, 0, none⟩ 1 1 (tcell x) Tryz.underlying42 hsz (by rw [hmin]; rfl)
      (fun j v hj => by rw [addr_add, Nat.zero_add]; simp [World.cell?, hW, hvw1]; exact hj)
      (fun j hj => by rw [tcell_len] at hj; simp [World.cell?, hW, hN]; omega)
      (fun j hj => by simp [World.frozen?, hW, hN]) (tcell_one x)
    rw [hmin] at this
    exact this
  obtain ⟨c2, a1, a2, a3, a4⟩ := setCells_heap (tcell x) w.heap.size (i * 5) W1 ROW 119 hN
  have hcpB : ∀ (W : World), W.heap = (W1.setCells w.heap.size (i * 5) (tcell x)).heap → ∀ ty dc sc, (Builtin.copy_ #[42, 42] ty #[.slice (some ⟨w.heap.size, (i + 1) * 5, none⟩) (n - i) dc, .slice (some ⟨g, off + i * 5, none⟩) (n - i) sc]).run Tryz.prog W = .ok (goInt (n - i : Nat)) (W.setCells w.heap.size ((i + 1) * 5) ((flat tcell L).drop (i * 5))) := fun W hW ty dc sc => by
    have hmin : Nat.min (n - i) (n - i) = n - i := Nat.min_self _
    have hgW : W.heap[g]? = w.heap[g]? := by rw [hW, setCells_other _ _ _ _ _ (by omega)]; exact hO g hbw
    have := run_copy_cellsK (P := Tryz.prog) W 42 42 ty 119 5 w.heap.size ((i + 1) * 5) (n - i) dc ⟨g, off + i * 5, none⟩ (n - i) sc ((flat tcell L).drop (i * 5)) Tryz.underlying42 hsz (by rw [hdl, hmin])
      (fun j v hj => by rw [addr_add, Nat.add_assoc]; rw [List.getElem?_drop] at hj; exact (h.out.kept hgW).cell hj)
      (fun j hj => by rw [hdl] at hj; simp [World.cell?, hW, a1]; omega)
      (fun j hj => by simp [World.frozen?, hW, a1]) (fun v hv => flat_one' tcell_one L v (List.mem_of_mem_drop hv))
    rw [hmin] at this
    exact this
  have HF := fun (W2 : World) (hW2 : W2.heap = (W1.setCells w.heap.size (i * 5) (tcell x)).heap) (p1 : W2.os = w.os) (p2 : W2.tape = w.tape) (p3 : W2.output = w.output) =>
    Lib.hid (show OffRow (W2.setCells w.heap.size ((i + 1) * 5) ((flat tcell L).drop (i * 5))) B 119 5 (.slice (some ⟨w.heap.size, 0, none⟩) (n + 1) G) (n + 1) (flat tcell (L.take i ++ x :: L.drop i)) ∧ w.grownBy (W2.setCells w.heap.size ((i + 1) * 5) ((flat tcell L).drop (i * 5))) (some g) from by
      refine ⟨?_, ?_⟩
      · rw [HE.out]
        exact AtRow.off (row_fill (w := W1) (w1 := W2) hN hRs hxs (Nat.le_of_lt hi) hGn hGm (tcell_len x) hRb (by rw [hW2])) hB
      · obtain ⟨q1, q2, q3, q4⟩ := setCells_meta ((flat tcell L).drop (i * 5)) w.heap.size ((i + 1) * 5) W2
        obtain ⟨r1, r2, r3, r4⟩ := setCells_meta (tcell x) w.heap.size (i * 5) W1
        refine ⟨q1.trans p1, q2.trans p2, q3.trans p3, ?_, fun k hk _ => ?_⟩
        · rw [q4, hW2, r4, hW1]
          simp
        · rw [setCells_other _ _ _ _ _ (by omega), hW2, setCells_other _ _ _ _ _ (by omega)]
          exact hO k hk)
  have HM := Lib.hid (show W1.os = w.os ∧ W1.tape = w.tape ∧ W1.output = w.output by rw [hW1]; exact ⟨rfl, rfl, rfl⟩)
  obtain ⟨m1, m2, m3, m4⟩ := setCells_meta (tcell x) w.heap.size (i * 5) W1
  have HMM := Lib.hid (And.intro (m1.trans HM.out.1) (And.intro (m2.trans HM.out.2.1) (m3.trans HM.out.2.2)))
  obtain ⟨W2, hW2⟩ : ∃ W2, W2 = (W1.setCells w.heap.size (i * 5) (tcell x)).drew := ⟨_, rfl⟩
  have R := Lib.hid (HF W2 (by rw [hW2]; rfl) (by rw [hW2]; exact HMM.out.1) (by rw [hW2]; exact HMM.out.2.1) (by rw [hW2]; exact HMM.out.2.2)).out
  have hB2 := hcpB W2 (by rw [hW2]; rfl)
  rw [hW2] at R hB2
  clear hcpB HF hW2
  have hw1 : IntKind.i64.wrap ((i : Int) + 1) = (i : Int) + 1 := by rw [IntKind.wrap_i64]; omega
  have hb1 : (0 : Int) ≤ (i : Int) + 1 := by omega
  have hin : i ≤ n := by omega
  have htn : ((i : Int) + 1).toNat = i + 1 := by omega
  have hb2 : ¬ (G = i + 1) := by omega
  have hb3 : (i : Int) ≤ (n : Int) + 1 := by omega
  have hb4 : ¬ (n = i) := by omega
  have hb5 : ¬ (G = i) := by omega
  have hb6 : (n : Int) < (n : Int) + 1 := by omega
  have hb7 : (i : Int) ≤ (n : Int) := by omega
  have hz2' : ¬ ((i : Int) = (n : Int)) := by omega
  have hGi : (n : Int) + 1 ≤ (G : Int) := by omega
  have hG63 : (G : Int) ≤ 9223372036854775807 := by unfold maxLen at hGm; omega
  have HX := Lib.hid (And.intro hN (And.intro hO hvw1))
  clear hkk hik hold hROW hG hRs hRb hN hO hvw1 hcs hcc hg hdl htl hxs hsz hi0 hz0 hz1 hz2 a1 a2 a3 a4 m1 m2 m3 m4 hW1
  go_enter Tryz.func157, Tryz.ntmps157
  go_wp2_with (first
    | (at_builtin; refine Lib.wpList_append_run _ rfl _ _ _ _ rfl _ _ rfl rfl _ _ (hrz _) ?_)
    | (at_builtin; refine wpList_copy_runI _ rfl _ _ 42 42 rfl _ _ rfl rfl (hcpA _ rfl _ _) ?_))
  go_region_law_o (refine step_copy_runI rfl _ _ 42 42 rfl (.slice (some ⟨w.heap.size, (i + 1) * 5, none⟩) (n - i) (G - (i + 1))) (.slice (some ⟨g, off + i * 5, none⟩) (n - i) (n - i)) (by simp [Act.eval, Act.put]) (by simp [Act.eval, Act.put]) (hB2 3 (G - (i + 1)) (n - i)) ?_)
  go_wp2
  go_ret
  exact ⟨.slice (some ⟨w.heap.size, 0, none⟩) (n + 1) G, rfl, R.out.1, R.out.2, .inr rfl⟩

/-- The library's Insert of one element. -/
theorem insert_T {B n cap i vb : Nat} {a : Option Addr} {L : List Tb} {x : Tb} {w : World} (h : Hid (OffRow w B 119 5 (.slice a n cap) n (flat tcell L))) (hL : Hid (n = L.length)) (hn : n ≤ 1000000000) (hi : i ≤ n)
    (hv : Hid (w.heap[vb]? = some (.cells (tcell x).toArray 119 (0, 0)))) (hvb : Hid (∀ g, (Value.slice a n cap).ownBlock = some g → vb ≠ g)) (hB : B ≤ w.heap.size) :
    Calls Tryz.prog 157 #[.slice a n cap, .int .i64 (i : Int), .slice (some ⟨vb, 0, none⟩) 1 1] w (InsPostT B a n cap i L x w) := by
  rcases Nat.lt_or_ge i n with h1 | h1
  · have hcn := OffRow.cap_ge h.out
    obtain ⟨g, off, rfl, hg, hr⟩ := OffRow.at' h.out (by omega)
    rcases Nat.lt_or_ge n cap with h2 | h2
    · exact insert_roomT (Lib.hid hr) hg hL hn h1 h2 hv (hvb.out g rfl)
    · obtain rfl : n = cap := by omega
      exact insert_newT (Lib.hid hr) hL hn h1 hv hB
  · obtain rfl : i = n := by omega
    exact insert_endT h hL hn hv hB
end Go.Proofs.YtgljjdldhnajdaaGreat
