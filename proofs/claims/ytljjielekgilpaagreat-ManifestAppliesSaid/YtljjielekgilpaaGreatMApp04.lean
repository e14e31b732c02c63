/- Texts put together: ManIns2T, ManMeet, ManAddT -/
import Derived.Test.YtljjielekgilpaaGreatMApp03
import Derived.Test.YtljjielekgilpaaGreatMApp02
/- An element put into a row: a new row. -/
set_option linter.unusedVariables false
set_option maxRecDepth 100000
namespace Go.Proofs.YtljjielekgilpaaGreat
open Go.RowKit

set_option maxHeartbeats 4000000 in
theorem insert_newT {B n i vb g off : Nat} {L : List Tb} {x : Tb} {w : World} (h : Hid (AtRow w 86 5 g off n n (flat tcell L))) (hL : Hid (n = L.length)) (hn : n ≤ 1000000000) (hi : i < n)
    (hv : Hid (w.heap[vb]? = some (.cells (tcell x).toArray 86 (0, 0)))) (hB : B ≤ w.heap.size) :
    Calls Tryz.prog 164 #[.slice (some ⟨g, off, none⟩) n n, .int .i64 (i : Int), .slice (some ⟨vb, 0, none⟩) 1 1] w (InsPostT B (some ⟨g, off, none⟩) n n i L x w) := by
  have mixed : Tryz.prog.follows .mixedOrders = true := by kernel_rfl
  have HE := Lib.hid (flat_putT (L := L) (i := i) x (by have := hL.out; omega))
  obtain ⟨i0, hi0, hz0, hz1, hz2⟩ := info_parts infoTb
  have hsz : (Tryz.prog.info? 86).map (·.size) = some 5 := by rw [hi0]; simp [hz1]
  have hxs : (flat tcell L).length = n * 5 := h.out.len
  obtain ⟨cur, hg, hcs, hcc⟩ := h.out.obj
  have hbw : g < w.heap.size := heap_lt hg
  have hvw : vb < w.heap.size := heap_lt hv.out
  have hkk : (n : Int) + 1 - (i : Int) = ((n + 1 - i : Nat) : Int) := by omega
  have hik : i + (n + 1 - i) = n + 1 := by omega
  have hdl : ((flat tcell L).drop (i * 5)).length = (n - i) * 5 := by rw [List.length_drop, hxs, Nat.sub_mul]
  have htl : ((flat tcell L).take (i * 5)).length = i * 5 := by rw [List.length_take, hxs]; omega
  have hold : (Builtin.firstCells i0.size i (.slice (some ⟨g, off, none⟩) i n)).run Tryz.prog w.drew = .ok ((flat tcell L).take (i * 5)).toArray w.drew := by
    rw [hz1]
    exact run_firstCells_some w.drew 5 i ⟨g, off, none⟩ i n ((flat tcell L).take (i * 5)) htl (fun j v hj => by
      rw [addr_add]
      rw [List.getElem?_take] at hj
      split at hj
      · exact h.out.cell hj
      · cases hj)
  obtain ⟨G, hG⟩ : ∃ G, G = grownCap w (n + 1) n 86 := ⟨_, rfl⟩
  obtain ⟨ROW, hROW⟩ : ∃ ROW : Array Value, ROW = ((flat tcell L).take (i * 5)).toArray ++ Builtin.zeroCells (Value.agg #[.int .i64 0, .int .i64 0, .int .i64 0, .string ⟨#[]⟩, .string ⟨#[]⟩]).cells (n + 1 - i) ++ Builtin.zeroCells (Value.agg #[.int .i64 0, .int .i64 0, .int .i64 0, .string ⟨#[]⟩, .string ⟨#[]⟩]).cells (G - (n + 1)) := ⟨_, rfl⟩
  have hrz : ∀ ty, (Builtin.append_ #[25, 3] ty #[.slice (some ⟨g, off, none⟩) i n, .int .i64 ((n : Int) + 1 - (i : Int))]).run Tryz.prog w =
      .ok (.slice (some ⟨w.heap.size, 0, none⟩) (n + 1) G) (w.drew.alloc (.cells ROW 86)) := fun ty => by
    have h := Lib.run_append_grow_zeros (P := Tryz.prog) w 25 3 ty 86 i0 _ .i64 .i64 Tryz.underlying25 Tryz.underlying3 hi0 hz0 (some ⟨g, off, none⟩) i n _ hold (n + 1 - i) (by omega) (by rw [hz1]; omega) (by omega) (by omega) (by rw [hz2]; omega) (by rw [hz2, hik]; exact growslice_fits (by omega) (by omega))
    rw [hik, ← hG, ← hROW] at h
    rw [hkk]
    exact h
  have hGn : n + 1 ≤ G := by rw [hG]; exact grownCap_ge w _ _ _
  have hGm : G ≤ maxLen := by rw [hG]; exact grownCap_le_maxLen w (n + 1) n 86 (by unfold maxLen; omega)
  have hRs : ROW.size = G * 5 := by
    rw [hROW]
    simp only [Array.size_append, size_zeroCells, List.size_toArray, htl]
    simp [Value.cells]
    omega
  have hRb : ∀ j, j < i * 5 → ROW[j]? = (flat tcell L)[j]? := fun j hj => by
    rw [hROW, Array.append_assoc, Array.getElem?_append_left (by simpa [htl] using hj)]
    simp [List.getElem?_take, hj]
  obtain ⟨W1, hW1⟩ : ∃ W1, W1 = w.drew.alloc (.cells ROW 86) := ⟨_, rfl⟩
  have hN : W1.heap[w.heap.size]? = some (.cells ROW 86 (0, 0)) := by rw [hW1]; exact heap_new w.drew _
  have hO : ∀ k, k < w.heap.size → W1.heap[k]? = w.heap[k]? := fun k hk => by rw [hW1]; exact Below.heap_alloc w.drew _ k hk
  rw [← hW1] at hrz
  have hvw1 : W1.heap[vb]? = some (.cells (tcell x).toArray 86 (0, 0)) := (hO vb hvw).trans hv.out
  have hcpA : ∀ (W : World), W.heap = W1.heap → ∀ ty dc, (Builtin.copy_ #[25, 25] ty #[.slice (some ⟨w.heap.size, i * 5, none⟩) (n + 1 - i) dc, .slice (some ⟨vb, 0, none⟩) 1 1]).run Tryz.prog W = .ok (goInt 1) (W.setCells w.heap.size (i * 5) (tcell x)) := fun W hW ty dc => by
    have hmin : Nat.min 1 (n + 1 - i) = 1 := by simp only [Nat.min_def]; split <;> omega
    have := run_copy_cellsK (P := Tryz.prog) W 25 25 ty 86 5 w.heap.size (i * 5) (n + 1 - i) dc ⟨vb, 0, none⟩ 1 1 (tcell x) Tryz.underlying25 hsz (by rw [hmin]; rfl)
      (fun j v hj => by rw [addr_add, Nat.zero_add]; simp [World.cell?, hW, hvw1]; exact hj)
      (fun j hj => by rw [tcell_len] at hj; simp [World.cell?, hW, hN]; omega)
      (fun j hj => by simp [World.frozen?, hW, hN]) (tcell_one x)
    rw [hmin] at this
    exact this
  obtain ⟨c2, a1, a2, a3, a4⟩ := setCells_heap (tcell x) w.heap.size (i * 5) W1 ROW 86 hN
  have hcpB : ∀ (W : World), W.heap = (W1.setCells w.heap.size (i * 5) (tcell x)).heap → ∀ ty dc sc, (Builtin.copy_ #[25, 25] ty #[.slice (some ⟨w.heap.size, (i + 1) * 5, none⟩) (n - i) dc, .slice (some ⟨g, off + i * 5, none⟩) (n - i) sc]).run Tryz.prog W = .ok (goInt (n - i : Nat)) (W.setCells w.heap.size ((i + 1) * 5) ((flat tcell L).drop (i * 5))) := fun W hW ty dc sc => by
    have hmin : Nat.min (n - i) (n - i) = n - i := Nat.min_self _
    have hgW : W.heap[g]? = w.heap[g]? := by rw [hW, setCells_other _ _ _ _ _ (by omega)]; exact hO g hbw
    have := run_copy_cellsK (P := Tryz.prog) W 25 25 ty 86 5 w.heap.size ((i + 1) * 5) (n - i) dc ⟨g, off + i * 5, none⟩ (n - i) sc ((flat tcell L).drop (i * 5)) Tryz.underlying25 hsz (by rw [hdl, hmin])
      (fun j v hj => by rw [addr_add, Nat.add_assoc]; rw [List.getElem?_drop] at hj; exact (h.out.kept hgW).cell hj)
      (fun j hj => by rw [hdl] at hj; simp [World.cell?, hW, a1]; omega)
      (fun j hj => by simp [World.frozen?, hW, a1]) (fun v hv => flat_one' tcell_one L v (List.mem_of_mem_drop hv))
    rw [hmin] at this
    exact this
  have HF := fun (W2 : World) (hW2 : W2.heap = (W1.setCells w.heap.size (i * 5) (tcell x)).heap) (p1 : W2.os = w.os) (p2 : W2.tape = w.tape) (p3 : W2.output = w.output) =>
    Lib.hid (show OffRow (W2.setCells w.heap.size ((i + 1) * 5) ((flat tcell L).drop (i * 5))) B 86 5 (.slice (some ⟨w.heap.size, 0, none⟩) (n + 1) G) (n + 1) (flat tcell (L.take i ++ x :: L.drop i)) ∧ w.grownBy (W2.setCells w.heap.size ((i + 1) * 5) ((flat tcell L).drop (i * 5))) (some g) from by
      refine ⟨?_, ?_⟩
      · rw [HE.out]
        exact AtRow.off (row_fill (w := W1) (w1 := W2) hN hRs hxs (Nat.le_of_lt hi) hGn hGm (tcell_len x) hRb (by rw [hW2])) hB
      · obtain ⟨q1, q2, q3, q4⟩ := setCells_meta ((flat tcell L).drop (i * 5)) w.heap.size ((i + 1) * 5) W2
        obtain ⟨r1, r2, r3, r4⟩ := setCells_meta (tcell x) w.heap.size (i * 5) W1
        refine ⟨q1.trans p1, q2.trans p2, q3.trans p3, ?_, fun k hk _ => ?_⟩
        · rw [q4, hW2, r4, hW1]
          simp
        · rw [setCells_other _ _ _ _ _ (by omega), hW2, setCells_other _ _ _ _ _ (by omega)]
          exact hO k hk)
  have HM := Lib.hid (show W1.os = w.os ∧ W1.tape = w.tape ∧ W1.output = w.output by rw [hW1]; exact ⟨rfl, rfl, rfl⟩)
  obtain ⟨m1, m2, m3, m4⟩ := setCells_meta (tcell x) w.heap.size (i * 5) W1
  have HMM := Lib.hid (And.intro (m1.trans HM.out.1) (And.intro (m2.trans HM.out.2.1) (m3.trans HM.out.2.2)))
  obtain ⟨W2, hW2⟩ : ∃ W2, W2 = (W1.setCells w.heap.size (i * 5) (tcell x)).drew := ⟨_, rfl⟩
  have R := Lib.hid (HF W2 (by rw [hW2]; rfl) (by rw [hW2]; exact HMM.out.1) (by rw [hW2]; exact HMM.out.2.1) (by rw [hW2]; exact HMM.out.2.2)).out
  have hB2 := hcpB W2 (by rw [hW2]; rfl)
  rw [hW2] at R hB2
  clear hcpB HF hW2
  have hw1 : IntKind.i64.wrap ((i : Int) + 1) = (i : Int) + 1 := by rw [IntKind.wrap_i64]; omega
  have hb1 : (0 : Int) ≤ (i : Int) + 1 := by omega
  have hin : i ≤ n := by omega
  have htn : ((i : Int) + 1).toNat = i + 1 := by omega
  have hb2 : ¬ (G = i + 1) := by omega
  have hb3 : (i : Int) ≤ (n : Int) + 1 := by omega
  have hb4 : ¬ (n = i) := by omega
  have hb5 : ¬ (G = i) := by omega
  have hb6 : (n : Int) < (n : Int) + 1 := by omega
  have hb7 : (i : Int) ≤ (n : Int) := by omega
  have hz2' : ¬ ((i : Int) = (n : Int)) := by omega
  have hGi : (n : Int) + 1 ≤ (G : Int) := by omega
  have hG63 : (G : Int) ≤ 9223372036854775807 := by unfold maxLen at hGm; omega
  have HX := Lib.hid (And.intro hN (And.intro hO hvw1))
  clear hkk hik hold hROW hG hRs hRb hN hO hvw1 hcs hcc hg hdl htl hxs hsz hi0 hz0 hz1 hz2 a1 a2 a3 a4 m1 m2 m3 m4 hW1
  go_enter Tryz.func164, Tryz.ntmps164
  go_wp2_with (first
    | (at_builtin; refine Lib.wpList_append_run _ rfl _ _ _ _ rfl _ _ rfl rfl _ _ (hrz _) ?_)
    | (at_builtin; refine wpList_copy_runI _ rfl _ _ 25 25 rfl _ _ rfl rfl (hcpA _ rfl _ _) ?_))
  go_region_law_o (refine step_copy_runI rfl _ _ 25 25 rfl (.slice (some ⟨w.heap.size, (i + 1) * 5, none⟩) (n - i) (G - (i + 1))) (.slice (some ⟨g, off + i * 5, none⟩) (n - i) (n - i)) (by simp [Act.eval, Act.put]) (by simp [Act.eval, Act.put]) (hB2 3 (G - (i + 1)) (n - i)) ?_)
  go_wp2
  go_ret
  exact ⟨.slice (some ⟨w.heap.size, 0, none⟩) (n + 1) G, rfl, R.out.1, R.out.2, .inr rfl⟩

/-- The library's Insert of one element. -/
theorem insert_T {B n cap i vb : Nat} {a : Option Addr} {L : List Tb} {x : Tb} {w : World} (h : Hid (OffRow w B 86 5 (.slice a n cap) n (flat tcell L))) (hL : Hid (n = L.length)) (hn : n ≤ 1000000000) (hi : i ≤ n)
    (hv : Hid (w.heap[vb]? = some (.cells (tcell x).toArray 86 (0, 0)))) (hvb : Hid (∀ g, (Value.slice a n cap).ownBlock = some g → vb ≠ g)) (hB : B ≤ w.heap.size) :
    Calls Tryz.prog 164 #[.slice a n cap, .int .i64 (i : Int), .slice (some ⟨vb, 0, none⟩) 1 1] w (InsPostT B a n cap i L x w) := by
  rcases Nat.lt_or_ge i n with h1 | h1
  · have hcn := OffRow.cap_ge h.out
    obtain ⟨g, off, rfl, hg, hr⟩ := OffRow.at' h.out (by omega)
    rcases Nat.lt_or_ge n cap with h2 | h2
    · exact insert_roomT (Lib.hid hr) hg hL hn h1 h2 hv (hvb.out g rfl)
    · obtain rfl : n = cap := by omega
      exact insert_newT (Lib.hid hr) hL hn h1 hv hB
  · obtain rfl : i = n := by omega
    exact insert_endT h hL hn hv hB
end Go.Proofs.YtljjielekgilpaaGreat
/- Whether two tables may have a key in common; whether one beside a place has one with a new table. -/
set_option linter.unusedVariables false
set_option maxRecDepth 100000
namespace Go.Proofs.YtljjielekgilpaaGreat
open Go.RowKit

theorem leq_texts (a b : List UInt8) : ∃ p q : Bool, Op.bytesLess (bs a).toList (bs b).toList = p ∧ ((bs a).toList == (bs b).toList) = q ∧ (!ltB b a) = (p || q) := by
  have e : ((bs a).toList == (bs b).toList) = decide (a = b) := by rw [Bool.eq_iff_iff, same_bytes, decide_eq_true_iff]
  refine ⟨_, _, rfl, rfl, ?_⟩
  rw [e, Lib.toList_data, Lib.toList_data, bs_list, bs_list, ltB_less]
  rcases ltB_total a b with h | h | h
  · rw [h, ltB_asymm h]; rfl
  · subst h; rw [ltB_irrefl]; simp
  · rw [h, ltB_asymm h, decide_eq_false (Ne.symm (ltB_ne h))]; rfl
set_option maxHeartbeats 1000000 in
theorem meet_T (t u : Tb) (w : World) : Calls Tryz.prog 163 #[.agg #[.int .i64 t.file, .int .i64 t.lev, .int .i64 t.cnt, .string (bs t.low), .string (bs t.high)], .agg #[.int .i64 u.file, .int .i64 u.lev, .int .i64 u.cnt, .string (bs u.low), .string (bs u.high)]] w fun e w' => e = .returned (.bool (meets t u)) ∧ Below w.heap.size w w' := by
  obtain ⟨p1, q1, h1, h2, h3⟩ := leq_texts t.low u.high
  obtain ⟨p2, q2, h4, h5, h6⟩ := leq_texts u.low t.high
  obtain ⟨z, hz⟩ : ∃ z, z = meets t u := ⟨_, rfl⟩
  rw [← hz]
  have HZ := Lib.hid (show z = (decide (u.lev = t.lev) && (p1 || q1) && (p2 || q2)) by rw [hz]; unfold meets; rw [h3, h6])
  have K0 := Lib.hid (show Below w.heap.size w ((w.alloc (.cells #[.int .i64 t.file, .int .i64 t.lev, .int .i64 t.cnt, .string (bs t.low), .string (bs t.high)] 86)).alloc (.cells #[.int .i64 u.file, .int .i64 u.lev, .int .i64 u.cnt, .string (bs u.low), .string (bs u.high)] 86)) from ((Below.refl _ _).alloc (Nat.le_refl _) _).alloc (by simp) _)
  clear hz h3 h6
  by_cases hl : t.lev = u.lev
  · have hl' : (t.lev == u.lev) = true := by simpa using hl
    have HL := Lib.hid (show z = ((p1 || q1) && (p2 || q2)) by rw [HZ.out, decide_eq_true hl.symm]; simp)
    clear HZ hl
    cases p1 <;> cases q1
    all_goals
      go_enter Tryz.func163, Tryz.ntmps163
      go_wp2
      go_ret
      exact ⟨by rw [HL.out]; rfl, K0.out⟩
  · have hl' : (t.lev == u.lev) = false := by simpa using hl
    have HL := Lib.hid (show z = false by rw [HZ.out, decide_eq_false (fun e => hl e.symm)]; simp)
    clear HZ hl
    go_enter Tryz.func163, Tryz.ntmps163
    go_wp2
    go_ret
    exact ⟨by rw [HL.out]; rfl, K0.out⟩
set_option maxHeartbeats 1000000 in
theorem meets_box (t u : Tb) (xb : Nat) (w : World) (h : w.heap[xb]? = some (.cells #[.int .i64 t.file, .int .i64 t.lev, .int .i64 t.cnt, .string (bs t.low), .string (bs t.high)] 86 (0, 0))) :
    Calls Tryz.prog 162 #[.agg #[.int .i64 u.file, .int .i64 u.lev, .int .i64 u.cnt, .string (bs u.low), .string (bs u.high)], .pointer (some ⟨xb, 0, none⟩)] w fun e w' => e = .returned (.bool (meets t u)) ∧ Below w.heap.size w w' := by
  obtain ⟨w1, hw1⟩ : ∃ w1, w.alloc (.cells #[.int .i64 u.file, .int .i64 u.lev, .int .i64 u.cnt, .string (bs u.low), .string (bs u.high)] 86) = w1 := ⟨_, rfl⟩
  obtain ⟨ub, hub⟩ : ∃ ub, ub = w.heap.size := ⟨_, rfl⟩
  have HUB := Lib.hid hub
  have K1 := Lib.hid (show Below w.heap.size w w1 by rw [← hw1]; exact (Below.refl _ _).alloc (Nat.le_refl _) _)
  have hx1 := (K1.out.block xb (heap_lt h)).trans h
  have hu1 : w1.heap[ub]? = some (.cells #[.int .i64 u.file, .int .i64 u.lev, .int .i64 u.cnt, .string (bs u.low), .string (bs u.high)] 86 (0, 0)) := by rw [← hw1, hub]; exact heap_new w _
  have HW1 := Lib.hid hw1
  have x0 : w1.cell? ⟨xb, 0, none⟩ = some (.int .i64 t.file) := by simp [World.cell?, hx1]
  have x1 : w1.cell? ⟨xb, 1, none⟩ = some (.int .i64 t.lev) := by simp [World.cell?, hx1]
  have x2 : w1.cell? ⟨xb, 2, none⟩ = some (.int .i64 t.cnt) := by simp [World.cell?, hx1]
  have x3 : w1.cell? ⟨xb, 3, none⟩ = some (.string (bs t.low)) := by simp [World.cell?, hx1]
  have x4 : w1.cell? ⟨xb, 4, none⟩ = some (.string (bs t.high)) := by simp [World.cell?, hx1]
  have u0 : w1.cell? ⟨ub, 0, none⟩ = some (.int .i64 u.file) := by simp [World.cell?, hu1]
  have u1 : w1.cell? ⟨ub, 1, none⟩ = some (.int .i64 u.lev) := by simp [World.cell?, hu1]
  have u2 : w1.cell? ⟨ub, 2, none⟩ = some (.int .i64 u.cnt) := by simp [World.cell?, hu1]
  have u3 : w1.cell? ⟨ub, 3, none⟩ = some (.string (bs u.low)) := by simp [World.cell?, hu1]
  have u4 : w1.cell? ⟨ub, 4, none⟩ = some (.string (bs u.high)) := by simp [World.cell?, hu1]
  have HM := Lib.hid (meet_T t u w1)
  obtain ⟨z, hz⟩ : ∃ z, z = meets t u := ⟨_, rfl⟩
  rw [← hz] at HM ⊢
  clear hw1 hub h hx1 hu1 hz
  go_enter Tryz.func162, Tryz.ntmps162
  go_upto_region 1 with (fail)
  rw [HW1.out, ← HUB.out]
  go_wp2_with fail
  refine HM.out.mono ?_
  rintro e w2 ⟨rfl, k2⟩
  have K2 := Lib.hid (K1.out.trans (k2.mono K1.out.size))
  clear k2
  go_wp2
  go_ret
  exact ⟨rfl, K2.out⟩

/-- The place of the first with a property, or nowhere. -/
def SeatP (L : List Tb) (p : Tb → Bool) (e : Ending) : Prop :=
  (∃ (i : Nat) (x : Tb), L[i]? = some x ∧ p x = true ∧ e = .returned (.int .i64 (i : Int))) ∨ ((∀ x ∈ L, p x = false) ∧ e = .returned (.int .i64 (-1)))
set_option maxHeartbeats 2000000 in
theorem index_P {T : Nat → Prop} {a : Option Addr} {n cap xb : Nat} {L : List Tb} {t : Tb} {w : World} (h : Hid (RdL T w (.slice a n cap) n (flat tcell L))) (hL : Hid (n = L.length)) (hn : n ≤ 1000000000)
    (hx : Hid (w.heap[xb]? = some (.cells #[.int .i64 t.file, .int .i64 t.lev, .int .i64 t.cnt, .string (bs t.low), .string (bs t.high)] 86 (0, 0)))) :
    Calls Tryz.prog 189 #[.slice a n cap, .func (.func 162) #[] #[.pointer (some ⟨xb, 0, none⟩)]] w fun e w' => SeatP L (meets t) e ∧ Below w.heap.size w w' := by
  have eg : ∀ args w, (callFunc 162 args).run Tryz.prog w = .ok (.enter 162 args) w := enters_of Tryz.func162 (by kernel_rfl) rfl
  go_enter Tryz.func189, Tryz.ntmps189
  go_wp2_with fail
  go_loopw [8] (fun iv wr => ∃ i : Nat, i ≤ n ∧ iv = .int .i64 i ∧ Hid (∀ j y, j < i → L[j]? = some y → meets t y = false) ∧ Hid (Below w.heap.size w wr)) (fun iv wr => n - (intOf iv).toNat)
  case atStart => exact ⟨0, by omega, rfl, Lib.hid (fun j y hj => by omega), Lib.hid (Below.refl _ _)⟩
  case round =>
    obtain ⟨i, hi, rfl, hno, hB⟩ := hrel
    by_cases hlt : i < n
    · have hlt' : (i : Int) < (n : Int) := by omega
      obtain ⟨y, hy⟩ : ∃ y, L[i]? = some y := ⟨_, List.getElem?_eq_getElem (by have := hL.out; omega)⟩
      obtain ⟨b, off, rfl, ht, hb2, hc⟩ := RdL.atT h.out hy hlt
      have hcr : ∀ i' u, (tcell y)[i']? = some u → wr.cell? ⟨b, off + i * 5 + i', none⟩ = some u := fun i' u hu => by
        rw [← hc i' u hu]
        simp only [World.cell?, hB.out.block b hb2]
      have y0 : wr.cell? ⟨b, off + i * 5, none⟩ = _ := hcr 0 _ rfl
      have y1 := hcr 1 _ rfl
      have y2 := hcr 2 _ rfl
      have y3 := hcr 3 _ rfl
      have y4 := hcr 4 _ rfl
      have HS := Lib.hid (meets_box t y xb wr ((hB.out.block xb (heap_lt hx.out)).trans hx.out))
      have HY := Lib.hid hy
      clear hy hc hcr
      obtain ⟨r, hr⟩ : ∃ r, meets t y = r := ⟨_, rfl⟩
      rw [hr] at HS
      have HR := Lib.hid hr
      clear hr
      cases r with
      | true =>
        go_wp2_with fail
        refine HS.out.mono ?_
        rintro e w2 ⟨rfl, k2⟩
        have K2 := Lib.hid (hB.out.trans (k2.mono hB.out.size))
        clear k2
        go_wp2
        go_ret
        exact ⟨.inl ⟨i, y, HY.out, HR.out, rfl⟩, K2.out⟩
      | false =>
        go_wp2_with fail
        refine HS.out.mono ?_
        rintro e w2 ⟨rfl, k2⟩
        have K2 := Lib.hid (hB.out.trans (k2.mono hB.out.size))
        clear k2
        go_wp2_with fail
        go_roundw
        case rel => exact ⟨i + 1, hlt, by go_num, Lib.hid (fun j z hj hz => by
          rcases Nat.lt_or_ge j i with e | e
          · exact hno.out j z e hz
          · obtain rfl : j = i := by omega
            rw [HY.out] at hz
            injection hz with hz
            subst hz
            exact HR.out), K2⟩
        case measure => simp [intOf]; omega
    · obtain rfl : i = n := by omega
      go_wp2
      go_ret
      refine ⟨.inr ⟨fun x hx => ?_, rfl⟩, hB.out⟩
      obtain ⟨j, hj, e⟩ := List.mem_iff_getElem.1 hx
      exact hno.out j x (by have := hL.out; omega) (by rw [← e]; exact List.getElem?_eq_getElem hj)
set_option maxHeartbeats 1000000 in
theorem contains_P {T : Nat → Prop} {a : Option Addr} {n cap xb : Nat} {L : List Tb} {t : Tb} {w : World} (h : Hid (RdL T w (.slice a n cap) n (flat tcell L))) (hL : Hid (n = L.length)) (hn : n ≤ 1000000000)
    (hx : Hid (w.heap[xb]? = some (.cells #[.int .i64 t.file, .int .i64 t.lev, .int .i64 t.cnt, .string (bs t.low), .string (bs t.high)] 86 (0, 0)))) :
    Calls Tryz.prog 161 #[.slice a n cap, .func (.func 162) #[] #[.pointer (some ⟨xb, 0, none⟩)]] w fun e w' => e = .returned (.bool (L.any (meets t))) ∧ Below w.heap.size w w' := by
  have HI := Lib.hid (index_P h hL hn hx)
  obtain ⟨z, hz⟩ : ∃ z, z = L.any (meets t) := ⟨_, rfl⟩
  rw [← hz]
  have HZ := Lib.hid hz
  clear hz
  go_enter Tryz.func161, Tryz.ntmps161
  go_wp2_with fail
  refine HI.out.mono ?_
  rintro e w1 ⟨hs, k1⟩
  have K1 := Lib.hid k1
  clear k1
  rcases hs with ⟨i, x, hx1, hx2, rfl⟩ | ⟨hno, rfl⟩
  · have HT := Lib.hid (show z = true by rw [HZ.out]; exact List.any_eq_true.2 ⟨x, List.mem_of_getElem? hx1, hx2⟩)
    have hi0 : (0 : Int) ≤ (i : Int) := by omega
    clear HZ hx1 hx2
    go_wp2
    go_ret
    exact ⟨by rw [HT.out]; rfl, K1.out⟩
  · have HT := Lib.hid (show z = false by rw [HZ.out]; exact List.any_eq_false.2 fun x hx => by rw [hno x hx]; simp)
    clear HZ hno
    go_wp2
    go_ret
    exact ⟨by rw [HT.out]; rfl, K1.out⟩

/-- The middle of a row's slice. -/
theorem slice_mid {w : World} {B : Nat} {t e : TypeId} {i : TypeInfo} (ht : Tryz.prog.underlying t = some (.slice e)) (hi : Tryz.prog.info? e = some i) {size : Nat} (hs : i.size = size) {n cap lo hi' : Nat} {a : Option Addr} {xs : List Value} (h : OffRow w B e size (.slice a n cap) n xs) (h1 : lo ≤ hi') (h2 : hi' ≤ n) :
    ∃ a', (∀ W, (Instr.slice t (.slice a n cap) (some (.int .i64 (lo : Int))) (some (.int .i64 (hi' : Int))) none).run Tryz.prog W = .ok (.slice a' (hi' - lo) (cap - lo)) W) ∧ OffRow w B e size (.slice a' (hi' - lo) (cap - lo)) (hi' - lo) ((xs.take (hi' * size)).drop (lo * size)) := by
  have hcn := OffRow.cap_ge h
  have hl : ((xs.take (hi' * size)).drop (lo * size)).length = (hi' - lo) * size := by
    have : hi' * size ≤ n * size := Nat.mul_le_mul_right _ h2
    rw [List.length_drop, List.length_take, h.1, Nat.min_eq_left this, Nat.sub_mul]
  have b1 : (lo : Int) ≤ (hi' : Int) := by omega
  have b2 : (hi' : Int) ≤ (cap : Int) := by omega
  subst hs
  rcases h.2 with ⟨e0, h0⟩ | ⟨g, off, c, cur, e0, hB, hg, r1, r2, r3, r4⟩
  · injection e0 with e1 e2 e3
    subst e1 e2 e3
    obtain rfl : hi' = 0 := by omega
    obtain rfl : lo = 0 := by omega
    refine ⟨none, fun W => ?_, hl, .inl ⟨rfl, rfl⟩⟩
    simp [Instr.slice, run_underlying ht, Instr.sliceBounds, run_sliceBound, sizeOf, typeInfo, hi]
  · injection e0 with e1 e2 e3
    subst e1 e3
    rcases Nat.lt_or_ge lo cap with hlc | hlc
    · have hne : ¬ cap = lo := by omega
      refine ⟨some ⟨g, off + lo * i.size, none⟩, fun W => ?_, hl, .inr ⟨g, off + lo * i.size, cap - lo, cur, rfl, hB, hg, by omega, by omega, ?_, fun j hj => ?_⟩⟩
      · simp [Instr.slice, run_underlying ht, Instr.sliceBounds, run_sliceBound, sizeOf, typeInfo, hi, h1, b1, b2, hne, addr_add]
      · have : lo * i.size + (cap - lo) * i.size = cap * i.size := by rw [← Nat.add_mul]; congr 1; omega
        omega
      · rw [Nat.sub_mul] at hj
        have hle : hi' * i.size ≤ n * i.size := Nat.mul_le_mul_right _ h2
        rw [List.getElem?_drop, List.getElem?_take, if_pos (by omega), Nat.add_assoc]
        exact r4 _ (by omega)
    · obtain rfl : lo = cap := by omega
      obtain rfl : hi' = lo := by omega
      refine ⟨some ⟨g, off, none⟩, fun W => ?_, hl, .inr ⟨g, off, hi' - hi', cur, rfl, hB, hg, by omega, by omega, by rw [Nat.sub_self, Nat.zero_mul]; omega, fun j hj => ?_⟩⟩
      · simp [Instr.slice, run_underlying ht, Instr.sliceBounds, run_sliceBound, sizeOf, typeInfo, hi]
      · rw [Nat.sub_self, Nat.zero_mul] at hj; omega
end Go.Proofs.YtljjielekgilpaaGreat
/- A table more. -/
set_option linter.unusedVariables false
set_option maxRecDepth 100000
namespace Go.Proofs.YtljjielekgilpaaGreat
open Go.RowKit Go.Maps Go.WideShapes Go.ChangeMaps
variable {B db mb : Nat} {w : World} {s : St} {tv sv lv : Value}

def tabBad (x : Tb) : Prop := x.lev < 0 ∨ 5 < x.lev ∨ x.cnt < 1 ∨ ltB x.high x.low = true
instance (x : Tb) : Decidable (tabBad x) := by unfold tabBad; infer_instance
def tabE (s : St) (x : Tb) : Int :=
  if tabBad x then 1 else if mayE s x.file = 0 then (if 0 < x.lev ∧ s.tabs.any (meets x) = true then 11 else 0) else mayE s x.file
def tcells (x : Tb) : Array Value := #[.int .i64 x.file, .int .i64 x.lev, .int .i64 x.cnt, .string (bs x.low), .string (bs x.high)]
theorem may_zero {s : St} {f : Int} (h : mayE s f = 0) : 1 ≤ f ∧ ¬ f ∈ s.files := by
  unfold mayE at h
  split at h
  · cases h
  · split at h
    · cases h
    · rename_i a b; exact ⟨by omega, b⟩
set_option maxHeartbeats 1000000 in
theorem add_table_bad (h : Hid (Dr B w db s tv sv lv mb)) (x : Tb) (hb : tabBad x) :
    Calls Tryz.prog 118 #[.pointer (some ⟨db, 0, none⟩), .agg #[.int .i64 x.file, .int .i64 x.lev, .int .i64 x.cnt, .string (bs x.low), .string (bs x.high)]] w fun e w' => e = .returned (.int .i64 1) ∧ Below w.heap.size w w' := by
  have K1 := Lib.hid (show Below w.heap.size w (w.alloc (.cells #[.int .i64 x.file, .int .i64 x.lev, .int .i64 x.cnt, .string (bs x.low), .string (bs x.high)] 86)) from (Below.refl _ _).alloc (Nat.le_refl _) _)
  obtain ⟨p, q, h1, h2, h3⟩ := leq_texts x.low x.high
  by_cases b1 : x.lev < 0
  · clear hb h3
    go_enter Tryz.func118, Tryz.ntmps118
    go_wp2
    go_ret
    exact ⟨rfl, K1.out⟩
  by_cases b2 : 5 < x.lev
  · have b2' : (6 : Int) ≤ x.lev := by omega
    clear hb h3
    go_enter Tryz.func118, Tryz.ntmps118
    go_wp2
    go_ret
    exact ⟨rfl, K1.out⟩
  have b2' : ¬ (6 : Int) ≤ x.lev := by omega
  by_cases b3 : x.cnt < 1
  · clear hb h3
    go_enter Tryz.func118, Tryz.ntmps118
    go_wp2
    go_ret
    exact ⟨rfl, K1.out⟩
  have b4 : ltB x.high x.low = true := by
    rcases hb with a | a | a | a
    · exact absurd a b1
    · exact absurd a b2
    · exact absurd a b3
    · exact a
  rw [b4] at h3
  have hp : p = false := by cases p <;> simp at h3 ⊢
  have hq : q = false := by cases q <;> simp at h3 ⊢
  subst hp hq
  clear hb h3 b4
  go_enter Tryz.func118, Tryz.ntmps118
  go_wp2
  go_ret
  exact ⟨rfl, K1.out⟩
set_option maxHeartbeats 4000000 in
theorem add_table_ok (h : Hid (Dr B w db s tv sv lv mb)) (hok : Hid s.Ok) (x : Tb) (hb : Hid (¬ tabBad x)) (hf : x.file ≤ 9223372036854775807) (hn : Hid (s.tabs.length ≤ 1000000000 ∧ s.files.length ≤ 1000000000)) :
    Calls Tryz.prog 118 #[.pointer (some ⟨db, 0, none⟩), .agg #[.int .i64 x.file, .int .i64 x.lev, .int .i64 x.cnt, .string (bs x.low), .string (bs x.high)]] w (DoPost B db w (tabE s x) { s with tabs := insT x s.tabs }) := by
  obtain ⟨z, hz⟩ : ∃ z, z = tabE s x := ⟨_, rfl⟩
  rw [← hz]
  have HZ := Lib.hid (show z = if mayE s x.file = 0 then (if 0 < x.lev ∧ s.tabs.any (meets x) = true then 11 else 0) else mayE s x.file by rw [hz]; unfold tabE; rw [if_neg hb.out])
  clear hz
  have HB := Lib.hid (show B ≤ w.heap.size by have := h.out.lo; have := h.out.lt; omega)
  obtain ⟨w1, hw1⟩ : ∃ w1, w.alloc (.cells #[.int .i64 x.file, .int .i64 x.lev, .int .i64 x.cnt, .string (bs x.low), .string (bs x.high)] 86) = w1 := ⟨_, rfl⟩
  obtain ⟨xb, hxb⟩ : ∃ xb, xb = w.heap.size := ⟨_, rfl⟩
  have HXB := Lib.hid hxb
  have K1 := Lib.hid (show Below w.heap.size w w1 by rw [← hw1]; exact (Below.refl _ _).alloc (Nat.le_refl _) _)
  have D1 := Lib.hid (h.out.below K1.out)
  have X1 := Lib.hid (show w1.heap[xb]? = some (.cells #[.int .i64 x.file, .int .i64 x.lev, .int .i64 x.cnt, .string (bs x.low), .string (bs x.high)] 86 (0, 0)) by rw [← hw1, hxb]; exact heap_new w _)
  have HW1 := Lib.hid hw1
  have x0 : w1.cell? ⟨xb, 0, none⟩ = some (.int .i64 x.file) := by simp [World.cell?, X1.out]
  have x1 : w1.cell? ⟨xb, 1, none⟩ = some (.int .i64 x.lev) := by simp [World.cell?, X1.out]
  have x2 : w1.cell? ⟨xb, 2, none⟩ = some (.int .i64 x.cnt) := by simp [World.cell?, X1.out]
  have x3 : w1.cell? ⟨xb, 3, none⟩ = some (.string (bs x.low)) := by simp [World.cell?, X1.out]
  have x4 : w1.cell? ⟨xb, 4, none⟩ = some (.string (bs x.high)) := by simp [World.cell?, X1.out]
  have HM := Lib.hid (may_add D1 x.file hf)
  have HXD := Lib.hid (show xb ≠ db by have := h.out.lt; omega)
  obtain ⟨p, q, h1, h2, h3⟩ := leq_texts x.low x.high
  have n1 : ¬ x.lev < 0 := fun e => hb.out (.inl e)
  have n2 : ¬ (6 : Int) ≤ x.lev := fun e => hb.out (.inr (.inl (by omega)))
  have n3 : ¬ x.cnt < 1 := fun e => hb.out (.inr (.inr (.inl e)))
  have hhl : ltB x.high x.low = false := by
    cases e : ltB x.high x.low with
    | false => rfl
    | true => exact absurd (.inr (.inr (.inr e))) hb.out
  rw [hhl] at h3
  have hpq : (!p && !q) = false := by cases p <;> cases q <;> simp at h3 ⊢
  have hpq' : ¬ (p = false ∧ q = false) := by cases p <;> cases q <;> simp at h3 ⊢
  have HHL := Lib.hid hhl
  clear hw1 hxb h3 hhl
  obtain ⟨z2, hz2⟩ : ∃ z2, z2 = mayE s x.file := ⟨_, rfl⟩
  rw [← hz2] at HM HZ
  have HZ3 := Lib.hid hz2
  clear hz2
  by_cases hz0 : z2 = 0
  · subst hz0
    obtain ⟨hf1, hno⟩ := may_zero HZ3.out.symm
    have HNO := Lib.hid hno
    have HZ4 := Lib.hid (show z = if 0 < x.lev ∧ s.tabs.any (meets x) = true then 11 else 0 by rw [HZ.out]; simp)
    have hw : (Lit.int .i64 x.file).wf = true := wf_i64 (by omega) hf
    have HK := Lib.hid (show keyOf Tryz.prog 3 (.int .i64 x.file) = some (.int .i64 x.file) from keyOf_int_mk Tryz.underlying3 hw)
    obtain ⟨k, hk⟩ : ∃ k, k = lbT x s.tabs := ⟨_, rfl⟩
    have hkl : k ≤ s.tabs.length := by rw [hk]; exact lbT_le _ _
    have HA := Lib.hid (show ∀ i u, i < k → s.tabs[i]? = some u → cfT u x < 0 from fun i u hi hu => by
      have h4 := (lb_at x hok.out.rise hu).1 (hk ▸ hi)
      have h5 := cfT_neg u x
      rw [h4] at h5
      simpa using h5)
    have HBb := Lib.hid (show ∀ i u, k ≤ i → s.tabs[i]? = some u → 0 ≤ cfT u x from fun i u hi hu => by
      have h4 : tlt u x = false := by
        have := mt (lb_at x hok.out.rise hu).2 (by omega)
        simpa using this
      have h5 := cfT_neg u x
      rw [h4] at h5
      simpa using h5)
    have HKK := Lib.hid hk
    clear hno hw hk HZ3 HZ
    obtain ⟨sa, sc, hsv⟩ := OffRow.slice D1.out.tabs
    obtain ⟨n, hnl⟩ : ∃ n, n = s.tabs.length := ⟨_, rfl⟩
    rw [← hnl] at hsv hkl
    subst hsv
    have HN := Lib.hid hnl
    have hn9 : n ≤ 1000000000 := by have := hn.out.1; omega
    clear hnl
    go_enter Tryz.func118, Tryz.ntmps118
    go_upto_region 1 with (fail)
    rw [HW1.out, ← HXB.out]
    go_wp2_with fail
    refine HM.out.mono ?_
    rintro e w2 ⟨rfl, k2⟩
    have D2 := Lib.hid (D1.out.below k2)
    have K2 := Lib.hid ((K1.out.mono HB.out).trans (k2.mono (Nat.le_trans HB.out K1.out.size)))
    have X2 := Lib.hid ((k2.block xb (heap_lt X1.out)).trans X1.out)
    clear k2 h1 h2 hpq hpq' n1 n2 n3 x0 x1 x2 x3 x4
    have OS2 := Lib.hid (show OffRow w2 B 86 5 (.slice sa n sc) n (flat tcell s.tabs) by have := D2.out.tabs; unfold OwnTb at this; rw [← HN.out] at this; exact this)
    have q1 : w2.cell? ⟨db, 0, none⟩ = some (.slice sa n sc) := D2.out.cell 0
    have x0 : w2.cell? ⟨xb, 0, none⟩ = some (.int .i64 x.file) := by simp [World.cell?, X2.out]
    have x1 : w2.cell? ⟨xb, 1, none⟩ = some (.int .i64 x.lev) := by simp [World.cell?, X2.out]
    have x2 : w2.cell? ⟨xb, 2, none⟩ = some (.int .i64 x.cnt) := by simp [World.cell?, X2.out]
    have x3 : w2.cell? ⟨xb, 3, none⟩ = some (.string (bs x.low)) := by simp [World.cell?, X2.out]
    have x4 : w2.cell? ⟨xb, 4, none⟩ = some (.string (bs x.high)) := by simp [World.cell?, X2.out]
    have HFI := Lib.hid (find_T (Lib.hid OS2.out.rdL) HN hn9 x k hkl HA HBb)
    go_wp2_with fail
    refine HFI.out.mono ?_
    rintro e w3 ⟨rfl, k3⟩
    have D3 := Lib.hid (D2.out.below k3)
    have K3 := Lib.hid (K2.out.trans (k3.mono (Nat.le_trans HB.out K2.out.size)))
    have X3 := Lib.hid ((k3.block xb (heap_lt X2.out)).trans X2.out)
    have OS3 := Lib.hid (OffRow.kept OS2.out (w' := w3) fun j hj => k3.block j (OffRow.lt OS2.out j hj).2)
    clear k3 q1 x0 x1 x2 x3 x4 HFI HM D2 K2 X2 OS2
    obtain ⟨i0, hi0, hz0, hz1, hz2⟩ := info_parts infoTb
    obtain ⟨hi', hhi⟩ : ∃ hi', hi' = min (k + 1) n := ⟨_, rfl⟩
    obtain ⟨lo, hlo⟩ : ∃ lo, lo = k - 1 := ⟨_, rfl⟩
    obtain ⟨a3, hsl, ho3⟩ := slice_mid Tryz.underlying25 hi0 hz1 OS3.out (lo := lo) (hi' := hi') (by omega) (by omega)
    obtain ⟨m3, hm3⟩ : ∃ m3, m3 = hi' - lo := ⟨_, rfl⟩
    obtain ⟨c3, hc3⟩ : ∃ c3, c3 = sc - lo := ⟨_, rfl⟩
    rw [← hm3, ← hc3] at hsl ho3
    have HBS := Lib.hid (show OffRow w3 B 86 5 (.slice a3 m3 c3) m3 (flat tcell (besides s.tabs k)) ∧ m3 = (besides s.tabs k).length from by
      have e1 : (flat tcell s.tabs).take (hi' * 5) = flat tcell (s.tabs.take hi') := (flat_split tcell_len s.tabs hi' (by have := HN.out; omega)).1
      have e2 : (flat tcell (s.tabs.take hi')).drop (lo * 5) = flat tcell ((s.tabs.take hi').drop lo) := (flat_split tcell_len (s.tabs.take hi') lo (by rw [List.length_take]; have := HN.out; omega)).2
      rw [e1, e2] at ho3
      have e3 : besides s.tabs k = (s.tabs.take hi').drop lo := by unfold besides; rw [hhi, hlo, HN.out]
      rw [e3]
      exact ⟨ho3, by rw [List.length_drop, List.length_take, hm3]; have := HN.out; omega⟩)
    have hmx1 : max ((k : Int) - 1) 0 = (lo : Int) := by omega
    have hmn1 : min ((k : Int) + 1) (n : Int) = (hi' : Int) := by omega
    have HSL := Lib.hid (And.intro hhi (And.intro hlo (And.intro hm3 hc3)))
    have hm9 : m3 ≤ 1000000000 := by omega
    have HCO := Lib.hid (contains_P (t := x) (xb := xb) (Lib.hid HBS.out.1.rdL) (Lib.hid HBS.out.2) hm9 X3)
    have HMB := Lib.hid (show 0 < x.lev → s.tabs.any (meets x) = (besides s.tabs k).any (meets x) from fun hl => by
      rw [HKK.out]
      exact meets_beside hok.out.rise hok.out.apart (fun u hu => (hok.out.tab u hu).2.2.2) HHL.out hl)
    have y0 : w3.cell? ⟨xb, 0, none⟩ = some (.int .i64 x.file) := by simp [World.cell?, X3.out]
    have y1 : w3.cell? ⟨xb, 1, none⟩ = some (.int .i64 x.lev) := by simp [World.cell?, X3.out]
    have y2 : w3.cell? ⟨xb, 2, none⟩ = some (.int .i64 x.cnt) := by simp [World.cell?, X3.out]
    have y3 : w3.cell? ⟨xb, 3, none⟩ = some (.string (bs x.low)) := by simp [World.cell?, X3.out]
    have y4 : w3.cell? ⟨xb, 4, none⟩ = some (.string (bs x.high)) := by simp [World.cell?, X3.out]
    obtain ⟨r, hr⟩ : ∃ r, r = (besides s.tabs k).any (meets x) := ⟨_, rfl⟩
    rw [← hr] at HCO HMB
    clear hhi hlo hm3 hc3 ho3 hi0 hz0 hz1 hz2 hr HBS
    have HC3 : (0 < x.lev ∧ r = true) ∨ (0 < x.lev ∧ r = false) ∨ ¬ 0 < x.lev := by
      by_cases a : 0 < x.lev
      · cases r
        · exact .inr (.inl ⟨a, rfl⟩)
        · exact .inl ⟨a, rfl⟩
      · exact .inr (.inr a)
    rcases HC3 with ⟨hl, rfl⟩ | ⟨hl, rfl⟩ | hl
    · have hz11 := Lib.hid (show z = 11 by rw [HZ4.out, if_pos ⟨hl, HMB.out hl⟩])
      clear HZ4
      go_wp2_with fail
      refine HCO.out.mono ?_
      rintro e w4 ⟨rfl, k4⟩
      have K4 := Lib.hid (K3.out.trans (k4.mono (Nat.le_trans HB.out K3.out.size)))
      clear k4
      go_wp2
      go_ret
      rw [hz11.out]
      exact do_bad K4.out (by omega)
    case' inr.inl =>
      have hz11 := Lib.hid (show z = 0 ∧ ¬ (0 < x.lev ∧ s.tabs.any (meets x) = true) by
        have : ¬ (0 < x.lev ∧ s.tabs.any (meets x) = true) := fun e => by rw [HMB.out hl] at e; cases e.2
        exact ⟨by rw [HZ4.out, if_neg this], this⟩)
      clear HZ4
      go_wp2_with fail
      refine HCO.out.mono ?_
      rintro e w4 ⟨rfl, k4⟩
    case' inr.inr =>
      have hz11 := Lib.hid (show z = 0 ∧ ¬ (0 < x.lev ∧ s.tabs.any (meets x) = true) by
        have : ¬ (0 < x.lev ∧ s.tabs.any (meets x) = true) := fun e => hl e.1
        exact ⟨by rw [HZ4.out, if_neg this], this⟩)
      have hl2 : decide (0 < x.lev) = false := decide_eq_false hl
      clear HZ4
      go_upto_region 11 with (fail)
      obtain ⟨w4, hw4⟩ : ∃ w4, w4 = w3 := ⟨_, rfl⟩
      have k4 : Below w3.heap.size w3 w4 := by rw [hw4]; exact Below.refl _ _
      subst hw4
    all_goals
      have D4 := Lib.hid (D3.out.below k4)
      have K4 := Lib.hid (K3.out.trans (k4.mono (Nat.le_trans HB.out K3.out.size)))
      have X4 := Lib.hid ((k4.block xb (heap_lt X3.out)).trans X3.out)
      have OS4 := Lib.hid (OffRow.kept OS3.out (w' := w4) fun j hj => k4.block j (OffRow.lt OS3.out j hj).2)
      clear k4 HCO HMB hmx1 hmn1 hsl HSL hm9 D3 K3 X3 OS3 y0 y1 y2 y3 y4
      obtain ⟨w5, hw5⟩ : ∃ w5, w5 = w4.alloc (.cells #[.int .i64 x.file, .int .i64 x.lev, .int .i64 x.cnt, .string (bs x.low), .string (bs x.high)] 86) := ⟨_, rfl⟩
      have A4 := Lib.hid (show Below w4.heap.size w4 w5 by rw [hw5]; exact (Below.refl _ _).alloc (Nat.le_refl _) _)
      have V5 := Lib.hid (show w5.heap[w4.heap.size]? = some (.cells (tcell x).toArray 86 (0, 0)) by rw [hw5]; exact heap_new w4 _)
      have D5 := Lib.hid (D4.out.below A4.out)
      have HI := Lib.hid (insert_T (vb := w4.heap.size) (x := x) (i := k) (Lib.hid (OffRow.kept OS4.out (w' := w5) fun j hj => A4.out.block j (OffRow.lt OS4.out j hj).2)) HN hn9 hkl V5 (Lib.hid fun g hg e => by have := (OffRow.lt OS4.out g hg).2; omega) (Nat.le_trans HB.out (Nat.le_trans K4.out.size A4.out.size)))
      have z0 : w4.cell? ⟨xb, 0, none⟩ = some (.int .i64 x.file) := by simp [World.cell?, X4.out]
      have z1 : w4.cell? ⟨xb, 1, none⟩ = some (.int .i64 x.lev) := by simp [World.cell?, X4.out]
      have z2 : w4.cell? ⟨xb, 2, none⟩ = some (.int .i64 x.cnt) := by simp [World.cell?, X4.out]
      have z3 : w4.cell? ⟨xb, 3, none⟩ = some (.string (bs x.low)) := by simp [World.cell?, X4.out]
      have z4 : w4.cell? ⟨xb, 4, none⟩ = some (.string (bs x.high)) := by simp [World.cell?, X4.out]
      rw [hw5] at HI
      have HW5 := Lib.hid hw5
      clear hw5
      go_wp2_with fail
      refine HI.out.mono ?_
      rintro e w7 ⟨v7, rfl, hr7, hg7, hv7⟩
      rw [← HW5.out] at hg7 hv7
      obtain ⟨a7, c7, rfl⟩ := OffRow.slice hr7
      have k5 : ∀ j, j < w5.heap.size → (Value.slice sa n sc).ownBlock ≠ some j → w7.heap[j]? = w5.heap[j]? := fun j hj hne => hg7.block j hj (fun e => hne e.symm)
      have hnd : ∀ g, (Value.slice a7 (n + 1) c7).ownBlock = some g → g ≠ db := fun g hg2 => by
        rcases hv7 with e | e
        · exact (D5.out.nt (e ▸ hg2)).1
        · rw [e] at hg2
          have := D5.out.lt
          injection hg2 with hg2
          omega
      have e5 : w7.heap[db]? = _ := (k5 db D5.out.lt (fun e => (D5.out.nt e).1 rfl)).trans D5.out.obj
      have P := Lib.hid (D5.out.putT (show OwnTb w7 B (.slice a7 (n + 1) c7) (s.tabs.take k ++ x :: s.tabs.drop k) by
        unfold OwnTb
        rw [show (s.tabs.take k ++ x :: s.tabs.drop k).length = n + 1 by rw [List.length_append, List.length_take, List.length_cons, List.length_drop]; have := HN.out; omega]
        exact hr7) k5 hnd)
      have hins : insT x s.tabs = s.tabs.take k ++ x :: s.tabs.drop k := by
        rw [HKK.out]
        exact insT_lb x s.tabs (no_tie (x := ⟨1, x.file, x.lev, x.cnt, x.low, x.high⟩) HHL.out HNO.out hz11.out.2 (by have := hb.out; unfold tabBad at this; show 0 ≤ x.lev; omega) (fun t ht => (hok.out.tab t ht).2.2.2))
      have D7 := Lib.hid (show Dr0 B (w7.setCell ⟨db, 0, none⟩ (.slice a7 (n + 1) c7)) db { s with tabs := insT x s.tabs } s.files (.slice a7 (n + 1) c7) sv lv mb from ⟨P.out.1, D5.out.lo, by rw [hins]; exact P.out.2.1, P.out.2.2.1, P.out.2.2.2.1, P.out.2.2.2.2, D5.out.mlo⟩)
      have d7 : w7.cell? ⟨db, 0, none⟩ = some (.slice sa n sc) := by simp [World.cell?, e5]
      have f7 : w7.frozen? ⟨db, 0, none⟩ = false := by simp [World.frozen?, e5]
      have K7 := Lib.hid ((K4.out.trans (A4.out.mono (Nat.le_trans HB.out K4.out.size))).grown hg7 (Nat.le_trans HB.out (Nat.le_trans K4.out.size A4.out.size)) (fun j hj => (OffRow.lt OS4.out j hj).1))
      have K8 := Lib.hid (K7.out.setCell (p := ⟨db, 0, none⟩) D5.out.lo (.slice a7 (n + 1) c7))
      have X7 : w7.heap[xb]? = some (.cells #[.int .i64 x.file, .int .i64 x.lev, .int .i64 x.cnt, .string (bs x.low), .string (bs x.high)] 86 (0, 0)) := (k5 xb (Nat.lt_of_lt_of_le (heap_lt X4.out) A4.out.size) (fun e => by
        have := (OffRow.lt h.out.tabs xb (by exact e)).2
        have := HXB.out
        omega)).trans ((A4.out.block xb (heap_lt X4.out)).trans X4.out)
      obtain ⟨w8, hw8⟩ : ∃ w8, w8 = w7.setCell ⟨db, 0, none⟩ (.slice a7 (n + 1) c7) := ⟨_, rfl⟩
      have X8 : w8.heap[xb]? = some (.cells #[.int .i64 x.file, .int .i64 x.lev, .int .i64 x.cnt, .string (bs x.low), .string (bs x.high)] 86 (0, 0)) := by rw [hw8, heap_set_other HXD.out]; exact X7
      rw [← hw8] at D7 K8
      obtain ⟨l, hl9, hp9⟩ := D7.out.set
      have HL := Lib.hid (And.intro hl9 hp9)
      have u4 : ∀ q : Seen w8, q.val.cell? ⟨db, 4, none⟩ = some (.map (some mb)) := fun q => by rw [q.below.cell (p := ⟨db, 4, none⟩) (heap_lt D7.out.obj)]; simp [World.cell?, D7.out.obj]
      have u0 : ∀ q : Seen w8, q.val.cell? ⟨xb, 0, none⟩ = some (.int .i64 x.file) := fun q => by rw [q.below.cell (p := ⟨xb, 0, none⟩) (heap_lt X8)]; simp [World.cell?, X8]
      have hmx : s.files.length < maxLen := by have := hn.out.2; unfold maxLen; omega
      have HW8 := Lib.hid hw8
      clear hr7 hg7 hv7 k5 hnd e5 hins hl9 hp9 X7 X8 z0 z1 z2 z3 z4 V5 A4 HI P hw8
      go_wp2_with fail
      rw [← HW8.out]
      refine wp_region_seen_tail 7 (by kernel_rfl) (by kernel_rfl) ?_
      simp only [List.take_succ_cons, List.take_zero, List.drop_succ_cons, List.drop_zero]
      repeat go_big_quiet_step (fail)
      refine wpQuiet_nil ?_
      rintro _ ⟨m9, rfl⟩
      have HOW := Lib.hid (show m9.val.ownsMap Tryz.prog 3 (unitElem (H := Unit)) mb s.files.length (.map l) by
        obtain ⟨x', c, hb, r⟩ := HL.out.1
        exact ⟨x', c, (m9.below.block mb (heap_lt hb)).trans hb, r⟩)
      have D9 := Lib.hid (D7.out.turn (D7.out.set.kept (m9.below.block mb (by obtain ⟨x', c, e⟩ := D7.out.set.obj; exact heap_lt e))) fun j hj _ => m9.below.block j hj)
      have K9 := Lib.hid (K8.out.trans (m9.below.mono (Nat.le_trans HB.out K8.out.size)))
      clear u4 u0
      go_wp2_with (at_mapUpdate; refine wpList_mapUpdate_own _ rfl _ _ _ 81 rfl 3 138 keyedI Tryz.underlying81 _ mb _ _ rfl HOW.out hmx _ _ _ rfl rfl HK.out _ [] unitElem_mk ?_)
      intro w10 hown hgrow
      have S10 := Lib.hid (set_put HL.out.2 HNO.out hown)
      have G10 := Lib.hid hgrow
      clear hown hgrow
      go_wp2
      go_ret
      refine ⟨by rw [hz11.out.1]; rfl, K9.out.grown G10.out (Nat.le_trans HB.out K9.out.size) (fun j hj => by injection hj with hj; rw [← hj]; exact D9.out.mlo), fun _ => ?_⟩
      have d10 := D9.out.turn S10.out fun j hj hne => G10.out.block j hj (fun e => hne (by injection e))
      exact ⟨_, _, _, mb, Dr.of0 d10 (files_insT s x).symm⟩
  · have HZ5 := Lib.hid (show z = z2 by rw [HZ.out, if_neg hz0])
    clear HZ3 HZ
    go_enter Tryz.func118, Tryz.ntmps118
    go_upto_region 1 with (fail)
    rw [HW1.out, ← HXB.out]
    go_wp2_with fail
    refine HM.out.mono ?_
    rintro e w2 ⟨rfl, k2⟩
    have K2 := Lib.hid ((K1.out.mono HB.out).trans (k2.mono (Nat.le_trans HB.out K1.out.size)))
    clear k2
    go_wp2
    go_ret
    rw [HZ5.out]
    exact do_bad K2.out hz0
/-- A table more. -/
theorem add_table (h : Hid (Dr B w db s tv sv lv mb)) (hok : Hid s.Ok) (x : Tb) (hf : x.file ≤ 9223372036854775807) (hn : Hid (s.tabs.length ≤ 1000000000 ∧ s.files.length ≤ 1000000000)) :
    Calls Tryz.prog 118 #[.pointer (some ⟨db, 0, none⟩), .agg #[.int .i64 x.file, .int .i64 x.lev, .int .i64 x.cnt, .string (bs x.low), .string (bs x.high)]] w (DoPost B db w (tabE s x) { s with tabs := insT x s.tabs }) := by
  by_cases hb : tabBad x
  · refine (add_table_bad h x hb).mono ?_
    rintro e w' ⟨rfl, k⟩
    rw [show tabE s x = 1 by unfold tabE; rw [if_pos hb]]
    exact do_bad (k.mono (by have := h.out.lo; have := h.out.lt; omega)) (by omega)
  · exact add_table_ok h hok x (Lib.hid hb) hf hn
end Go.Proofs.YtljjielekgilpaaGreat
