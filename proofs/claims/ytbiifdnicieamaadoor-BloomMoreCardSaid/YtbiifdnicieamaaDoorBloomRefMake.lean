/- The document's filter, made. -/
import Derived.Test.YtbiifdnicieamaaDoorBloomRefHas
import Derived.Test.YtbiifdnicieamaaDoorOnly
import Derived.Deep.OwnRows
set_option linter.unusedVariables false
set_option maxRecDepth 100000
namespace Go.Proofs.YtbiifdnicieamaaDoor
open Go.RowKit

def noF : Value := .agg #[.int .i64 0, .slice none 0 0]
theorem size31 : (Tryd.prog.info? 31).map (·.size) = some 2 := by kernel_rfl
theorem row31 : ∃ d, Tryd.prog.underlying 31 = some d ∧ d.isRow = true := ⟨_, Tryd.underlying31, rfl⟩

theorem range2 {w : World} {b : Nat} {x y : Value} (h0 : w.cell? ⟨b, 0, none⟩ = some x) (h1 : w.cell? ⟨b, 1, none⟩ = some y) : w.rangeAt b 0 [x, y] := by
  intro j v hj
  match j, hj with
  | 0, hj => cases hj; exact h0
  | 1, hj => cases hj; exact h1
theorem results_fv {fn : Func} (h : fn.results = #[.cell 4 31, .tmp 5]) (tmps : Array Value) (w : World) (b : Nat) (v0 v1 x : Value) (hp : tmps.getD 4 undef = .pointer (some ⟨b, 0, none⟩)) (hx : tmps.getD 5 undef = x) (h0 : w.cell? ⟨b, 0, none⟩ = some v0) (h1 : w.cell? ⟨b, 1, none⟩ = some v1) :
    (results fn tmps).run Tryd.prog w = .ok (.tuple #[.agg #[v0, v1], x]) w := by
  obtain ⟨d, hd, hr⟩ := row31
  exact results_cell_bool h tmps Tryd.prog w b 0 [v0, v1] d x hp hx (range2 h0 h1) hd hr size31

theorem info4 : (Tryd.prog.info? 4).map (fun i => (i.zero, i.size, i.bytes)) = some (some (.bool false), 1, 1) := by kernel_rfl
theorem made_one' (z : Value) (n : Nat) : madeCells #[z] n = Array.replicate n z := by
  apply Array.ext
  · simp [madeCells]
  · intro i h1 h2
    simp [madeCells, Nat.mod_one]
theorem ref_Make_arg (per : Int) (a : Option Addr) (len cap : Nat) (w : World) (hp : per < 1 ∨ 32 < per) :
    Calls Tryd.prog 11 #[.int .i64 per, .slice a len cap] w fun e w' => e = .returned (.tuple #[noF, .int .i64 1]) ∧ Below w.heap.size w w' := by
  have hc : ∀ j v, (#[.int .i64 0, .slice none 0 0] : Array Value)[j]? = some v → (w.alloc (.cells #[.int .i64 0, .slice none 0 0] 31)).cell? ⟨w.heap.size, j, none⟩ = some v := fun j v hv => by rw [World.cell?_alloc_mark]; exact hv
  have HC := Lib.hid hc
  clear hc
  go_enter Tryd.func11, Tryd.ntmps11
  rcases hp with hp | hp
  · go_wp2_with fail
    refine bodyPost_ret (results_fv rfl _ _ w.heap.size (.int .i64 0) (.slice none 0 0) (.int .i64 1) rfl rfl (HC.out 0 _ rfl) (HC.out 1 _ rfl)) rfl ?_
    exact ⟨rfl, (Below.refl _ _).alloc (Nat.le_refl _) _⟩
  · have hp1 : ¬ per < 1 := by omega
    go_wp2_with fail
    refine bodyPost_ret (results_fv rfl _ _ w.heap.size (.int .i64 0) (.slice none 0 0) (.int .i64 1) rfl rfl (HC.out 0 _ rfl) (HC.out 1 _ rfl)) rfl ?_
    exact ⟨rfl, (Below.refl _ _).alloc (Nat.le_refl _) _⟩
theorem ref_Make_long (per : Int) (a : Option Addr) (len cap : Nat) (w : World) (hp1 : 1 ≤ per) (hp2 : per ≤ 32) (hl : 65536 < len) (hl2 : len ≤ 9223372036854775807) :
    Calls Tryd.prog 11 #[.int .i64 per, .slice a len cap] w fun e w' => e = .returned (.tuple #[noF, .int .i64 6]) ∧ Below w.heap.size w w' := by
  have hc : ∀ j v, (#[.int .i64 0, .slice none 0 0] : Array Value)[j]? = some v → (w.alloc (.cells #[.int .i64 0, .slice none 0 0] 31)).cell? ⟨w.heap.size, j, none⟩ = some v := fun j v hv => by rw [World.cell?_alloc_mark]; exact hv
  have HC := Lib.hid hc
  clear hc
  go_enter Tryd.func11, Tryd.ntmps11
  go_wp2_with fail
  refine bodyPost_ret (results_fv rfl _ _ w.heap.size (.int .i64 0) (.slice none 0 0) (.int .i64 6) rfl rfl (HC.out 0 _ rfl) (HC.out 1 _ rfl)) rfl ?_
  exact ⟨rfl, (Below.refl _ _).alloc (Nat.le_refl _) _⟩

theorem RowB.set {g n x : Nat} {f : Nat → Bool} {w : World} (h : RowB g f n w) (hx : x < n) : RowB g (addBit f x) n (w.setCell ⟨g, x, none⟩ (.bool true)) := by
  refine ⟨by simpa using h.1, fun j hj => ⟨?_, by rw [World.frozen?_setCell]; exact (h.2 j hj).2⟩⟩
  by_cases e : j = x
  · subst e
    rw [World.cell?_setCell_same' _ _ _ (by rw [(h.2 j hj).1]; rfl), addBit_same]
  · rw [World.cell?_setCell_other _ _ _ _ (fun e2 => e (by injection e2 with _ e3; exact e3.symm)), (h.2 j hj).1, addBit_other f e]

set_option maxHeartbeats 2000000 in
theorem ref_Make (per : Nat) (a : Option Addr) (len cap kb koff : Nat) (T : List ByteArray) (w : World) (hp1 : 1 ≤ per) (hp2 : per ≤ 32) (hlen : Hid (len = T.length)) (hl : len ≤ 65536)
    (hz : Hid (RowS kb koff T w)) (hab : Hid (len = 0 ∨ a = some ⟨kb, koff, none⟩)) (hs : Hid (∀ t ∈ T, t.size ≤ 900000)) :
    Calls Tryd.prog 11 #[.int .i64 (per : Int), .slice a len cap] w fun e w' => ∃ g, e = .returned (.tuple #[fv (hashesOf per) g (wordsOf per len * 64) (wordsOf per len * 64), .int .i64 0]) ∧
      RowB g (made (hashesOf per) (wordsOf per len * 64) (T.map (·.data.toList))) (wordsOf per len * 64) w' ∧ w.heap.size ≤ g ∧ Below w.heap.size w w' := by
  obtain ⟨p, hp⟩ : ∃ p, p = per * len := ⟨_, rfl⟩
  have hpb : p ≤ 2097152 := by rw [hp]; exact Nat.mul_le_mul hp2 hl
  have hpi : (per : Int) * (len : Int) = (p : Int) := by rw [hp, Int.natCast_mul]
  obtain ⟨N, hN⟩ : ∃ N, N = wordsOf per len * 64 := ⟨_, rfl⟩
  have hNp : N = max ((p + 63) / 64) 1 * 64 := by rw [hN, hp]; rfl
  obtain ⟨h, hh⟩ : ∃ h, h = hashesOf per := ⟨_, rfl⟩
  have hhe : h = min (max (per * 7 / 10) 1) 8 := by rw [hh]; rfl
  have hh8 : 1 ≤ h ∧ h ≤ 8 := by rw [hh]; exact hashesOf_le per
  have hNb : 64 ≤ N ∧ N ≤ 3000000 := by omega
  have HNP := Lib.hid hNp
  have HHE := Lib.hid hhe
  rw [← hN, ← hh]
  clear hp hN hNp hh hhe
  go_enter Tryd.func11, Tryd.ntmps11
  go_wp2_with fail
  obtain ⟨Z, hZ⟩ : ∃ Z, Z = w.heap.size := ⟨_, rfl⟩
  obtain ⟨w1, hw1⟩ : ∃ w1, w1 = w.alloc (.cells #[.int .i64 0, .slice none 0 0] 31) := ⟨_, rfl⟩
  rw [← hw1, ← hZ]
  have B1 := Lib.hid (show Below Z w w1 by rw [hw1, hZ]; exact (Below.refl _ _).alloc (Nat.le_refl _) _)
  have S1 := Lib.hid (show w1.heap.size = Z + 1 by rw [hw1, hZ]; simp)
  have HZ := Lib.hid hZ
  have r1 := Lib.hid (show w1.cell? ⟨Z, 0, none⟩ = some (.int .i64 0) ∧ w1.cell? ⟨Z, 1, none⟩ = some (.slice none 0 0) ∧ w1.frozen? ⟨Z, 0, none⟩ = false ∧ w1.frozen? ⟨Z, 1, none⟩ = false by
    rw [hw1, hZ, World.cell?_alloc_mark, World.cell?_alloc_mark, World.frozen?_alloc_mark, World.frozen?_alloc_mark]; exact ⟨rfl, rfl, rfl, rfl⟩)
  clear hZ hw1
  go_loop [6] (fun v => ∃ n : Nat, v = .int .i64 n ∧ 64 ≤ n ∧ n % 64 = 0 ∧ n ≤ N) (fun v => N - (intOf v).toNat)
  case atStart => exact ⟨64, rfl, by omega, rfl, by omega⟩
  case round =>
    obtain ⟨n, rfl, hn1, hn2, hn3⟩ := hrel
    rcases Nat.lt_or_ge n p with hnp | hnp
    · have hnx : n + 64 ≤ N := by have := HNP.out; omega
      go_wp2_with fail
      go_roundw
      case rel => exact ⟨n + 64, by go_num, by omega, by omega, hnx⟩
      case measure => simp [intOf]; omega
    · obtain rfl : n = N := by have := HNP.out; omega
      have HM := Lib.hid (fun w => run_make_row' (P := Tryd.prog) 29 4 (.bool false) 1 Tryd.underlying29 info4 rfl .i64 .i64 n (by omega) (by omega) w)
      have hM := HM.out
      obtain ⟨d, hd⟩ : ∃ d, d = per * 7 / 10 := ⟨_, rfl⟩
      have hd7 : ((per : Int) * 7) / 10 = (d : Int) := by rw [hd]; omega
      have hd22 : d ≤ 22 := by omega
      rw [← hd] at HHE
      clear hd
      obtain ⟨W3, hW3⟩ : ∃ W3, W3 = (w1.alloc (.cells (madeCells #[.bool false] n) 4)).alloc (.cells #[.int .i64 (h : Int), .slice (some ⟨w1.heap.size, 0, none⟩) n n] 31) := ⟨_, rfl⟩
      have HW3 := Lib.hid hW3
      have S3 := Lib.hid (show W3.heap.size = Z + 1 + 1 + 1 by rw [hW3]; simp [S1.out])
      have B3 := Lib.hid (show Below w1.heap.size w1 W3 by rw [hW3]; exact ((Below.refl _ _).alloc (Nat.le_refl _) _).alloc (by simp) _)
      have g3 : ∀ j v, (#[.int .i64 (h : Int), .slice (some ⟨w1.heap.size, 0, none⟩) n n] : Array Value)[j]? = some v → W3.cell? ⟨Z + 1 + 1, j, none⟩ = some v := fun j v hv => by
        have h1 := World.cell?_alloc_mark (w1.alloc (.cells (madeCells #[.bool false] n) 4)) #[.int .i64 (h : Int), .slice (some ⟨w1.heap.size, 0, none⟩) n n] 31 (0, 0) j
        simp only [World.size_alloc, S1.out] at h1
        rw [S1.out] at hW3 hv
        rw [hW3]
        exact h1.trans hv
      have q3 := Lib.hid (show RowB (Z + 1) none' n W3 by
        have k1 : Below (Z + 1 + 1) (w1.alloc (.cells (madeCells #[.bool false] n) 4)) W3 := by rw [hW3]; exact (Below.refl _ _).alloc (by simp [S1.out]) _
        refine RowB.keep (B := Z + 1 + 1) ?_ k1 (by omega)
        refine ⟨by simp [S1.out], fun j hj => ?_⟩
        rw [← S1.out, World.cell?_alloc_mark, World.frozen?_alloc_mark, made_one']
        refine ⟨?_, by simp⟩
        simp [hj, none'])
      have d0 := Lib.hid (show W3.cell? ⟨Z + 1 + 1, 0, none⟩ = some (.int .i64 (h : Int)) from g3 0 _ rfl)
      have d1 := Lib.hid (show W3.cell? ⟨Z + 1 + 1, 1, none⟩ = some (.slice (some ⟨Z + 1, 0, none⟩) n n) by have h0 := g3 1 _ rfl; rw [h0]; show some (Value.slice (some ⟨w1.heap.size, 0, none⟩) n n) = _; rw [S1.out])
      have BZ := Lib.hid (show Below Z w W3 from B1.out.trans (B3.out.mono (by rw [S1.out]; omega)))
      have r3 := Lib.hid (show W3.cell? ⟨Z, 0, none⟩ = some (.int .i64 0) ∧ W3.cell? ⟨Z, 1, none⟩ = some (.slice none 0 0) ∧ W3.frozen? ⟨Z, 0, none⟩ = false ∧ W3.frozen? ⟨Z, 1, none⟩ = false by
        have k : Below (Z + 1) w1 W3 := by have := B3.out; rw [S1.out] at this; exact this
        rw [k.cell (p := ⟨Z, 0, none⟩) (by simp), k.cell (p := ⟨Z, 1, none⟩) (by simp), YtbiifdnicieamaaDoor.Below.frozen k (by omega), YtbiifdnicieamaaDoor.Below.frozen k (by omega)]
        exact r1.out)
      have hcase : (d = 0 ∧ h = 1) ∨ (0 < d ∧ 8 < d ∧ h = 8) ∨ (0 < d ∧ d ≤ 8 ∧ h = d) := by have := HHE.out; omega
      clear g3 hW3 r1
      rcases hcase with hc | hc | hc
      obtain ⟨x1, x2⟩ := hc
      subst x1
      have HW := Lib.hid (show W3 = (w1.alloc (.cells (madeCells #[.bool false] n) 4)).alloc (.cells #[.int .i64 1, .slice (some ⟨w1.heap.size, 0, none⟩) n n] 31) by rw [HW3.out, x2]; rfl)
      clear x2
      go_upto_region 13 with (fail)
      change Code.wp _ _ _ _ ((w1.alloc (.cells (madeCells #[.bool false] n) 4)).alloc (.cells #[.int .i64 1, .slice (some ⟨w1.heap.size, 0, none⟩) n n] 31))
      rw [← HW.out]
      rotate_left
      obtain ⟨x1, x2, x3⟩ := hc
      have HW := Lib.hid (show W3 = (w1.alloc (.cells (madeCells #[.bool false] n) 4)).alloc (.cells #[.int .i64 8, .slice (some ⟨w1.heap.size, 0, none⟩) n n] 31) by rw [HW3.out, x3]; rfl)
      clear x3
      go_upto_region 13 with (fail)
      change Code.wp _ _ _ _ ((w1.alloc (.cells (madeCells #[.bool false] n) 4)).alloc (.cells #[.int .i64 8, .slice (some ⟨w1.heap.size, 0, none⟩) n n] 31))
      rw [← HW.out]
      rotate_left
      obtain ⟨x1, x2, x3⟩ := hc
      have HW := Lib.hid (show W3 = (w1.alloc (.cells (madeCells #[.bool false] n) 4)).alloc (.cells #[.int .i64 (d : Int), .slice (some ⟨w1.heap.size, 0, none⟩) n n] 31) by rw [HW3.out, x3])
      clear x3
      go_upto_region 13 with (fail)
      change Code.wp _ _ _ _ ((w1.alloc (.cells (madeCells #[.bool false] n) 4)).alloc (.cells #[.int .i64 (d : Int), .slice (some ⟨w1.heap.size, 0, none⟩) n n] 31))
      rw [← HW.out]
      rotate_left
      all_goals
        rw [S1.out]
        clear HW HM hM
        go_wp2_with fail
        go_loopw [8] (fun vi wr => ∃ k : Nat, k ≤ len ∧ vi = .int .i64 k ∧ Hid (RowB (Z + 1) (made h n ((T.take k).map (·.data.toList))) n wr) ∧ Hid (Only (fun j => j = Z + 1) W3 wr)) (fun vi wr => len - (intOf vi).toNat)
        case atStart => exact ⟨0, by omega, rfl, q3, Lib.hid (Only.refl _ _)⟩
        case round =>
          obtain ⟨k, hk, rfl, hrow, hon⟩ := hrel
          have on0 : ∀ j o v, j < Z + 1 + 1 + 1 → j ≠ Z + 1 → W3.cell? ⟨j, o, none⟩ = some v → wr.cell? ⟨j, o, none⟩ = some v := fun j o v h1 h2 h3 => by
            rw [← h3]
            unfold World.cell?
            rw [hon.out.block j (by rw [S3.out]; exact h1) h2]
          have e0 := Lib.hid (on0 _ _ _ (by omega) (by omega) d0.out)
          have e1 := Lib.hid (on0 _ _ _ (by omega) (by omega) d1.out)
          rcases Nat.lt_or_ge k len with hlt | hge
          · have hkT : k < T.length := by rw [← hlen.out]; exact hlt
            have ha : a = some ⟨kb, koff, none⟩ := by rcases hab.out with h | h; (omega); (exact h)
            obtain ⟨t, ht⟩ : ∃ t, t = T.getD k ByteArray.empty := ⟨_, rfl⟩
            have htk : t = T[k] := by rw [ht, List.getD_eq_getElem?_getD, List.getElem?_eq_getElem hkT]; rfl
            have hts := Lib.hid (hs.out t (by rw [htk]; exact List.getElem_mem hkT))
            have hkb := Lib.hid (show kb < Z by rw [HZ.out]; exact (hz.out k hkT).1)
            have cS := Lib.hid (show wr.cell? ⟨kb, koff + k, none⟩ = some (.string t) from on0 _ _ _ (by have := hkb.out; omega) (by have := hkb.out; omega) (by
              rw [BZ.out.cell (p := ⟨kb, koff + k, none⟩) hkb.out, ht]; exact (hz.out k hkT).2))
            have hnx := Lib.hid (show (T.take (k + 1)).map (·.data.toList) = (T.take k).map (·.data.toList) ++ [t.data.toList] by
              rw [List.take_add_one, List.getElem?_eq_getElem hkT, ← htk]
              simp only [Option.toList_some, List.map_append, List.map_cons, List.map_nil])
            have n0 : ∀ m : Seen wr, m.val.cell? ⟨Z + 1 + 1, 0, none⟩ = some (.int .i64 (h : Int)) := fun m => by rw [m.below.cell (cell_block e0.out)]; exact e0.out
            have n1 : ∀ m : Seen wr, m.val.cell? ⟨Z + 1 + 1, 1, none⟩ = some (.slice (some ⟨Z + 1, 0, none⟩) n n) := fun m => by rw [m.below.cell (cell_block e1.out)]; exact e1.out
            have nS : ∀ m : Seen wr, m.val.cell? ⟨kb, koff + k, none⟩ = some (.string t) := fun m => by rw [m.below.cell (cell_block cS.out)]; exact cS.out
            clear ht htk on0
            subst ha
            go_wp2_with fail
            refine wp_region_seen_tail 5 (by kernel_rfl) (by kernel_rfl) ?_
            simp only [List.take_succ_cons, List.take_zero, List.drop_succ_cons, List.drop_zero]
            repeat go_big_quiet_step (fail)
            refine wpQuiet_nil ?_
            rintro _ ⟨m1, rfl⟩
            have hbc := ref_bits h (Z + 1) n n t m1.val hh8.2 (by omega) (by omega) (by have := hts.out; omega)
            unfold fv at hbc
            have HBC := Lib.hid hbc
            clear hbc
            go_wp2_with fail
            refine HBC.out.mono ?_
            rintro e w5 ⟨v, rfl, hO, hB5⟩
            obtain ⟨l, hl⟩ : ∃ l, l = nos h n t.data.toList := ⟨_, rfl⟩
            rw [← hl] at hO
            have hlh : l.length = h := by rw [hl]; exact nos_len _ _ _
            have hlN := Lib.hid (show ∀ j, j < h → l.getD j 0 < n from fun j hj => by
              have hm2 : l.getD j 0 ∈ nos h n t.data.toList := hl ▸ (by rw [List.getD_eq_getElem?_getD, List.getElem?_eq_getElem (by omega)]; exact List.getElem_mem (by omega))
              exact nos_lt (by omega) hm2)
            obtain ⟨gl, cl, rfl, hgB, hgl⟩ := hO.form hlh hh8.1
            have hcell := Lib.hid hO.cell
            have hgl2 := Lib.hid (show Z + 1 + 1 + 1 ≤ gl from Nat.le_trans (by rw [← S3.out]; exact hon.out.size) (Nat.le_trans m1.below.size hgB))
            have HL := Lib.hid hl
            have Hlh := Lib.hid hlh
            have K5 := Lib.hid (show Below wr.heap.size wr w5 from m1.below.trans (hB5.mono m1.below.size))
            have row5 := Lib.hid (hrow.out.below K5.out)
            have f1 := Lib.hid (show w5.cell? ⟨Z + 1 + 1, 1, none⟩ = some (.slice (some ⟨Z + 1, 0, none⟩) n n) by rw [K5.out.cell (cell_block e1.out)]; exact e1.out)
            obtain ⟨f0, hf0⟩ : ∃ f0, f0 = made h n ((T.take k).map (·.data.toList)) := ⟨_, rfl⟩
            rw [← hf0] at row5
            have Hf0 := Lib.hid hf0
            clear hO hl hlh hB5 hgB hgl n0 n1 nS hf0
            go_wp2_with fail
            go_loopw [10] (fun vj wq => ∃ j : Nat, j ≤ h ∧ vj = .int .i64 j ∧ Hid (RowB (Z + 1) (addBits f0 (l.take j)) n wq) ∧ Hid (Only (fun i => i = Z + 1) w5 wq)) (fun vj wq => h - (intOf vj).toNat)
            case atStart => exact ⟨0, by omega, rfl, row5, Lib.hid (Only.refl _ _)⟩
            case round =>
              obtain ⟨j, hj, rfl, hrj, hoj⟩ := hrel
              have ong : ∀ b o v, b ≠ Z + 1 → w5.cell? ⟨b, o, none⟩ = some v → wr.cell? ⟨b, o, none⟩ = some v := fun b o v h2 h3 => by
                rw [← h3]
                unfold World.cell?
                rw [hoj.out.block b (cell_block h3) h2]
              rcases Nat.lt_or_ge j h with hjh | hjh
              · obtain ⟨x, hx⟩ : ∃ x, x = l.getD j 0 := ⟨_, rfl⟩
                have hxN : x < n := by rw [hx]; exact hlN.out j hjh
                have i1 := Lib.hid (ong _ _ _ (by omega) f1.out)
                have i2 := Lib.hid (show wr.cell? ⟨gl, j, none⟩ = some (.int .i64 (x : Int)) by
                  have h3 := hcell.out j (by rw [Hlh.out]; exact hjh)
                  rw [← hx] at h3
                  exact ong _ _ _ (by have := hgl2.out; omega) h3)
                have i3 := Lib.hid (hrj.out.2 x hxN)
                have m1f : ∀ m : Seen wr, m.val.cell? ⟨Z + 1 + 1, 1, none⟩ = some (.slice (some ⟨Z + 1, 0, none⟩) n n) := fun m => by rw [m.below.cell (cell_block i1.out)]; exact i1.out
                have m2f : ∀ m : Seen wr, m.val.cell? ⟨gl, j, none⟩ = some (.int .i64 (x : Int)) := fun m => by rw [m.below.cell (cell_block i2.out)]; exact i2.out
                have HNX := Lib.hid (show l.take (j + 1) = l.take j ++ [x] by
                  rw [List.take_add_one, List.getElem?_eq_getElem (by rw [Hlh.out]; exact hjh), hx, List.getD_eq_getElem?_getD, List.getElem?_eq_getElem (by rw [Hlh.out]; exact hjh)]; rfl)
                clear hx ong
                go_wp2_with fail
                refine wp_region_seen_tail 7 (by kernel_rfl) (by kernel_rfl) ?_
                simp only [List.take_succ_cons, List.take_zero, List.drop_succ_cons, List.drop_zero]
                repeat go_big_quiet_step (fail)
                refine wpQuiet_nil ?_
                rintro _ ⟨m2, rfl⟩
                obtain ⟨bx, hbx⟩ : ∃ bx, bx = addBits f0 (l.take j) x := ⟨_, rfl⟩
                have c3 : m2.val.cell? ⟨Z + 1, x, none⟩ = some (.bool bx) := by rw [m2.below.cell (p := ⟨Z + 1, x, none⟩) hrj.out.1, hbx]; exact i3.out.1
                have c3f : m2.val.frozen? ⟨Z + 1, x, none⟩ = false := by rw [YtbiifdnicieamaaDoor.Below.frozen m2.below hrj.out.1]; exact i3.out.2
                clear hbx
                go_wp2_with fail
                refine ⟨⟨j + 1, by omega, by go_num, Lib.hid ?_, Lib.hid ?_⟩, by simp [intOf]; omega⟩
                · rw [HNX.out, addBits_snoc]
                  exact (hrj.out.below m2.below).set hxN
                · exact (hoj.out.trans (Only.of_below m2.below (fun i h1 h2 => by omega))).setCell (.inl rfl) _
              · obtain rfl : j = h := by omega
                have hmade := Lib.hid (show addBits f0 (l.take j) = made j n ((T.take (k + 1)).map (·.data.toList)) by
                  rw [List.take_of_length_le (by rw [Hlh.out]; exact Nat.le_refl _), hnx.out, Hf0.out, HL.out, made, made, addKeys_snoc])
                have hrow2 := Lib.hid (show RowB (Z + 1) (made j n ((T.take (k + 1)).map (·.data.toList))) n wr by rw [← hmade.out]; exact hrj.out)
                have hon2 := Lib.hid ((hon.out.trans (Only.of_below K5.out (fun i h1 h2 => by omega))).trans hoj.out)
                clear ong hmade hrj hoj
                go_wp2_with fail
                exact ⟨⟨k + 1, by omega, by go_num, hrow2, hon2⟩, by simp [intOf]; omega⟩
          · obtain rfl : k = len := by omega
            have z0 := Lib.hid (show wr.cell? ⟨Z, 0, none⟩ = some (.int .i64 0) ∧ wr.cell? ⟨Z, 1, none⟩ = some (.slice none 0 0) ∧ wr.frozen? ⟨Z, 0, none⟩ = false ∧ wr.frozen? ⟨Z, 1, none⟩ = false by
              have hb := hon.out.block Z (by rw [S3.out]; omega) (by omega)
              have h1 := r3.out
              unfold World.cell? World.frozen? at h1 ⊢
              rw [hb]
              exact h1)
            have e0' := e0.out
            have e1' := e1.out
            have z0' := z0.out.1
            have z1' := z0.out.2.1
            have z2' := z0.out.2.2.1
            have z3' := z0.out.2.2.2
            clear on0
            have t0 := Lib.hid (show ((wr.setCell ⟨Z, 0, none⟩ (.int .i64 (h : Int))).setCell ⟨Z, 1, none⟩ (.slice (some ⟨Z + 1, 0, none⟩) n n)).cell? ⟨Z, 0, none⟩ = some (.int .i64 (h : Int)) by
              rw [World.cell?_setCell_other _ _ _ _ (by simp), World.cell?_setCell_same' _ _ _ (by rw [z0']; rfl)])
            have t1 := Lib.hid (show ((wr.setCell ⟨Z, 0, none⟩ (.int .i64 (h : Int))).setCell ⟨Z, 1, none⟩ (.slice (some ⟨Z + 1, 0, none⟩) n n)).cell? ⟨Z, 1, none⟩ = some (.slice (some ⟨Z + 1, 0, none⟩) n n) by
              rw [World.cell?_setCell_same' _ _ _ (by rw [World.cell?_setCell_other _ _ _ _ (by simp), z1']; rfl)])
            have tk : Below Z wr ((wr.setCell ⟨Z, 0, none⟩ (.int .i64 (h : Int))).setCell ⟨Z, 1, none⟩ (.slice (some ⟨Z + 1, 0, none⟩) n n)) := ((Below.refl Z wr).setCell (p := ⟨Z, 0, none⟩) (Nat.le_refl _) _).setCell (p := ⟨Z, 1, none⟩) (Nat.le_refl _) _
            have tr := Lib.hid (show RowB (Z + 1) (made h n (T.map (·.data.toList))) n ((wr.setCell ⟨Z, 0, none⟩ (.int .i64 (h : Int))).setCell ⟨Z, 1, none⟩ (.slice (some ⟨Z + 1, 0, none⟩) n n)) by
              have h0 := hrow.out
              rw [List.take_of_length_le (by rw [hlen.out]; exact Nat.le_refl _)] at h0
              refine ⟨Nat.lt_of_lt_of_le h0.1 tk.size, fun j hj => ⟨?_, ?_⟩⟩
              · rw [World.cell?_setCell_other _ _ _ _ (by simp), World.cell?_setCell_other _ _ _ _ (by simp)]; exact (h0.2 j hj).1
              · rw [World.frozen?_setCell, World.frozen?_setCell]; exact (h0.2 j hj).2)
            have tb := Lib.hid (show Below w.heap.size w ((wr.setCell ⟨Z, 0, none⟩ (.int .i64 (h : Int))).setCell ⟨Z, 1, none⟩ (.slice (some ⟨Z + 1, 0, none⟩) n n)) by
              have hb : Below Z W3 wr := hon.out.below (fun j _ e => by omega) (by rw [S3.out]; omega)
              rw [← HZ.out]
              exact (BZ.out.trans hb).trans tk)
            have HZ1 := Lib.hid (show w.heap.size ≤ Z + 1 by rw [← HZ.out]; omega)
            clear tk
            go_wp2_with fail
            exact bodyPost_ret (results_fv rfl _ _ Z (.int .i64 (h : Int)) (.slice (some ⟨Z + 1, 0, none⟩) n n) (.int .i64 0) rfl rfl t0.out t1.out) rfl ⟨Z + 1, rfl, tr.out, HZ1.out, tb.out⟩
end Go.Proofs.YtbiifdnicieamaaDoor
