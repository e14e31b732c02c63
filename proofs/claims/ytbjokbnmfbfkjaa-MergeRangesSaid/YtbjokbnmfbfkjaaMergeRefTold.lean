/- The document's Told and Live. -/
import Derived.Test.YtbjokbnmfbfkjaaMergeAwake
set_option linter.unusedVariables false
set_option maxRecDepth 100000
namespace Go.Proofs.Ytbjokbnmfbfkjaa
open Go.RowKit

theorem sizeRow : (Try.prog.info? 24).map (·.size) = some 2 := by kernel_rfl
theorem BxR.free {c : Nat} {v : Value} {e : Int} {w : World} (h : BxR c v e w) (j : Nat) : w.frozen? ⟨c, j, none⟩ = false := by unfold BxR at h; simp [World.frozen?, h]
theorem BxR.put {c : Nat} {v : Value} {e : Int} {w : World} (h : BxR c v e w) (u : Value) (d : Int) : BxR c u d ((w.setCell ⟨c, 0, none⟩ u).setCell ⟨c, 1, none⟩ (.int .i64 d)) := heap_set (o := 1) (heap_set (o := 0) h u) _
theorem BxR.range {c : Nat} {v : Value} {e : Int} {w : World} (h : BxR c v e w) : w.rangeAt c 0 [v, .int .i64 e] := fun j x hj => by
  match j, hj with
  | 0, hj => cases hj; exact h.c0
  | 1, hj => cases hj; exact h.c1
  | n + 2, hj => cases hj
theorem results_row {fn : Func} {p : Tmp} (h : fn.results = #[.cell p 24]) (tmps : Array Value) (w : World) (b : Nat) (v : Value) (e : Int) (hp : tmps.getD p undef = .pointer (some ⟨b, 0, none⟩)) (hc : BxR b v e w) :
    (results fn tmps).run Try.prog w = .ok (.agg #[v, .int .i64 e]) w :=
  results_cell1 h tmps Try.prog w b 0 [v, .int .i64 e] _ hp hc.range Try.underlying24 rfl sizeRow
/-- What stands ahead of place k. -/
def ahead (T : List Ent) : Nat → Option (List UInt8)
  | 0 => none
  | k + 1 => (T[k]?).map (·.key)
theorem told_step {e : Int} {T : List Ent} {k : Nat} {x : Ent} (hx : T[k]? = some x) (h : toldP e none T = (T.take k ++ (toldP e (ahead T k) (T.drop k)).1, (toldP e (ahead T k) (T.drop k)).2)) (hs : stops (ahead T k) x = false) :
    toldP e none T = (T.take (k + 1) ++ (toldP e (ahead T (k + 1)) (T.drop (k + 1))).1, (toldP e (ahead T (k + 1)) (T.drop (k + 1))).2) := by
  have hk := (List.getElem?_eq_some_iff.1 hx).1
  have hd : T.drop k = x :: T.drop (k + 1) := by
    rw [List.drop_eq_getElem_cons hk]
    rw [List.getElem?_eq_getElem hk] at hx
    injection hx with hx
    rw [hx]
  rw [hd] at h
  simp only [toldP, hs, Bool.false_eq_true, if_false] at h
  rw [h, List.take_add_one, hx]
  simp [ahead, hx]
theorem told_stop {e : Int} {T : List Ent} {k : Nat} {x : Ent} (hx : T[k]? = some x) (h : toldP e none T = (T.take k ++ (toldP e (ahead T k) (T.drop k)).1, (toldP e (ahead T k) (T.drop k)).2)) (hs : stops (ahead T k) x = true) :
    toldP e none T = (T.take k, 3) := by
  have hk := (List.getElem?_eq_some_iff.1 hx).1
  have hd : T.drop k = x :: T.drop (k + 1) := by
    rw [List.drop_eq_getElem_cons hk]
    rw [List.getElem?_eq_getElem hk] at hx
    injection hx with hx
    rw [hx]
  rw [hd] at h
  simp only [toldP, hs, if_true, List.append_nil] at h
  exact h
theorem Only.below2 {S : Nat → Prop} {a b : World} (h : Only S a b) {B : Nat} (hS : ∀ j, S j → B ≤ j) (hB : B ≤ a.heap.size) : Below B a b := h.below (fun k _ hk => hS k hk) hB
/-- The document's answer: a row of the call's own. -/
def RowPost (B : Nat) (L : List Ent) (e : Int) (en : Ending) (w' : World) : Prop := ∃ v, en = .returned (.agg #[v, .int .i64 e]) ∧ OwnE w' B v L
theorem OwnE.wide {w : World} {B B' : Nat} {v : Value} {R : List Ent} (hB : B' ≤ B) (h : OwnE w B v R) : OwnE w B' v R := by
  refine ⟨h.1, ?_⟩
  rcases h.2 with h0 | ⟨g, off, cap, cur, h0, h1, h2⟩
  · exact .inl h0
  · exact .inr ⟨g, off, cap, cur, h0, Nat.le_trans hB h1, h2⟩
set_option maxHeartbeats 4000000 in
theorem ref_Told (a : Option Addr) (n c : Nat) (T : List Ent) (e : Int) (w : World) (h : Hid (IsE w a n T)) (hn : n ≤ 1000000) :
    Calls Try.prog 10 #[.agg #[.slice a n c, .int .i64 e]] w fun en w' => RowPost w.heap.size (toldP e none T).1 (toldP e none T).2 en w' ∧ Below w.heap.size w w' := by
  obtain ⟨i0, hi, hz0, hz1, hz2⟩ := info_parts infoE
  have HI := Lib.hid (And.intro hi (And.intro hz0 (And.intro hz1 hz2)))
  obtain ⟨B, hB⟩ : ∃ B, B = w.heap.size := ⟨_, rfl⟩
  obtain ⟨w1, hw1⟩ : ∃ w1, w1 = w.alloc (.cells #[.slice a n c, .int .i64 e] 24) := ⟨_, rfl⟩
  obtain ⟨w2, hw2⟩ : ∃ w2, w2 = w1.alloc (.cells #[.slice none 0 0, .int .i64 0] 24) := ⟨_, rfl⟩
  have K1 := Lib.hid (show Below w.heap.size w w1 by rw [hw1]; exact (Below.refl _ _).alloc (Nat.le_refl _) _)
  have R1 : BxR w.heap.size (.slice a n c) e w1 := by rw [hw1]; exact heap_new w _
  have s1 : w1.heap.size = B + 1 := by rw [hw1, hB]; simp
  have K2 := Lib.hid (show Below w1.heap.size w1 w2 by rw [hw2]; exact (Below.refl _ _).alloc (Nat.le_refl _) _)
  have Z2 := Lib.hid (show BxR w1.heap.size (.slice none 0 0) 0 w2 by rw [hw2]; exact heap_new w1 _)
  have R2 := Lib.hid (R1.only (S := fun _ => False) (Only.of_below' K2.out rfl) fun h => h)
  have s2 : w2.heap.size = B + 2 := by rw [hw2]; simp [s1]
  have KK := Lib.hid (show Below B w w2 by rw [hB]; exact K1.out.trans (K2.out.mono K1.out.size))
  have HW1 := Lib.hid hw1
  have HW2 := Lib.hid hw2
  have HS := Lib.hid (And.intro s1 s2)
  have HBW := Lib.hid hB
  rw [← hB] at R2 ⊢
  rw [s1] at Z2
  have HLEN := Lib.hid h.out.1
  clear hB hi hz0 hz1 hz2 hw1 hw2 R1 s1 s2
  go_enter Try.func10, Try.ntmps10
  go_upto_region 1 with (fail)
  rw [← HW1.out, ← HW2.out, ← HBW.out]
  go_wp2_with fail
  go_loopw [3, 4] (fun v iv wr => ∃ k : Nat, k ≤ n ∧ iv = .int .i64 k ∧ Hid (OwnE wr (B + 2) v (T.take k)) ∧ Hid (Below (B + 2) w2 wr) ∧ Hid (toldP e none T = (T.take k ++ (toldP e (ahead T k) (T.drop k)).1, (toldP e (ahead T k) (T.drop k)).2))) (fun v iv wr => n - (intOf iv).toNat)
  case atStart => exact ⟨0, Nat.zero_le _, rfl, Lib.hid (OwnE.nil _ _), Lib.hid (Below.refl _ _), Lib.hid (by simp [ahead])⟩
  case round =>
    obtain ⟨k, hk, rfl, hO, hBl, hT⟩ := hrel
    have hon := Lib.hid (show Only (fun _ => False) w2 wr from Only.of_below' hBl.out HS.out.2.symm)
    have Rk := Lib.hid (R2.out.only hon.out fun h => h)
    have Zk := Lib.hid (Z2.out.only hon.out fun h => h)
    have Ek := Lib.hid ((h.out.below K1.out).below K2.out |>.below (by rw [HS.out.2]; exact hBl.out))
    have r0 := Rk.out.c0
    have hBwr := Lib.hid (show B + 2 ≤ wr.heap.size by have := hBl.out.size; rw [HS.out.2] at this; exact this)
    obtain ⟨a3, cap3, rfl⟩ := hO.out.slice
    obtain ⟨m, hm⟩ : ∃ m, (T.take k).length = m := ⟨_, rfl⟩
    have HM := Lib.hid hm
    have hmk : m ≤ 1000000 := by rw [← hm, List.length_take]; omega
    rw [hm] at hO ⊢
    clear hm
    rcases Nat.lt_or_ge k n with hlt | hge
    · obtain ⟨b, off, x, rfl, hx, -, hc⟩ := Ek.out.at hlt
      have c0 := hc.c0
      have c1 := hc.c1
      have c2 := hc.c2
      have HX := Lib.hid hx
      have HTK := Lib.hid (take_ent hx)
      clear hc
      have hgo : (stops (ahead T k) x = false ∧ (k = 0 ∨ ∃ j y, k = j + 1 ∧ T[j]? = some y ∧ ltB y.key x.key = true)) ∨ (stops (ahead T k) x = true ∧ ∃ j y, k = j + 1 ∧ T[j]? = some y ∧ ltB y.key x.key = false) := by
        cases k with
        | zero => exact .inl ⟨rfl, .inl rfl⟩
        | succ j =>
          have hj : j < T.length := by have := HLEN.out; omega
          have hy := List.getElem?_eq_getElem hj
          have hst : stops (ahead T (j + 1)) x = !ltB T[j].key x.key := by simp [ahead, stops, hy]
          cases hb : ltB T[j].key x.key with
          | true => exact .inl ⟨by rw [hst, hb]; rfl, .inr ⟨j, _, rfl, hy, hb⟩⟩
          | false => exact .inr ⟨by rw [hst, hb]; rfl, j, _, rfl, hy, hb⟩
      clear hx
      rcases hgo with ⟨hs, hk0⟩ | ⟨hs, j, y, hkj, hy, hlt2⟩
      · have HNX := Lib.hid (told_step HX.out hT.out hs)
        clear hs
        rcases hk0 with rfl | ⟨j, y, hkj, hy, hlt2⟩
        · simp only [Nat.zero_mul, Nat.add_zero] at c0 c1 c2
          go_wp2_with fail
          go_quiet (fail)
          obtain ⟨w5, hw5⟩ : ∃ w5, w5 = wr.drewN nq := ⟨_, rfl⟩
          have B5 := Lib.hid (show Below wr.heap.size wr w5 by rw [hw5]; exact below_drewN (Below.refl _ _) _)
          have r0 : w5.cell? ⟨B, 0, none⟩ = some (.slice (some ⟨b, off, none⟩) n c) := by rw [hw5]; exact r0
          have c0 : w5.cell? ⟨b, off, none⟩ = some (.string (bs x.key)) := by rw [hw5]; exact c0
          have c1 : w5.cell? ⟨b, off + 1, none⟩ = some (.string (bs x.val)) := by rw [hw5]; exact c1
          have c2 : w5.cell? ⟨b, off + 2, none⟩ = some (.bool x.gone) := by rw [hw5]; exact c2
          rw [← hw5]
          have O5 := Lib.hid (hO.out.below B5.out)
          have H5 := Lib.hid (show Below (B + 2) w2 w5 from hBl.out.trans (B5.out.mono hBwr.out))
          clear hw5
          obtain ⟨hi, hz0, hz1, hz2⟩ := HI.out
          go_wp2_with (at_builtin; refine wpList_append_off rfl (.tmp 32) (.tmp 38) 22 rfl (B + 2) 32 i0 _ 3 40 Try.underlying22 hi hz0 hz1 hz2 rfl (.slice a3 m cap3) m (ecells (T.take 0)) rfl ?c1 (.slice (some ⟨w5.heap.size, 0, none⟩) 1 1) rfl 1 x.vals ?c2 ?c3 ?c4 ?c5 ?_)
          case c1 => have := O5.out; unfold OwnE at this; rw [HM.out] at this; exact OffRow.allocd this _
          case c2 => exact src_block (size := 3) (cs := #[.string (bs x.key), .string (bs x.val), .bool x.gone]) Try.underlying22 (heap_new _ _) 1 1 rfl (by intro u hu; simp at hu; rcases hu with rfl | rfl | rfl <;> rfl)
          case c3 => unfold maxLen; omega
          case c4 => omega
          case c5 => have := H5.out.size; rw [HS.out.2] at this; simp; omega
          intro v7 w7 hr7 hg7 hat7
          have O7 := Lib.hid (show OwnE w7 (B + 2) v7 (T.take (0 + 1)) by
            rw [HTK.out]
            unfold OwnE
            rw [ecells_append, List.length_append, HM.out]
            exact hr7)
          have H7 := Lib.hid (show Below (B + 2) w2 w7 from (H5.out.alloc (by have := H5.out.size; rw [HS.out.2] at this; exact this) _).grown hg7 (by have := H5.out.size; rw [HS.out.2] at this; simp; omega) (fun j hj => (OffRow.lt hO.out j hj).1))
          clear hr7 hg7 hat7 hi hz0 hz1 hz2
          go_wp2_with fail
          go_roundw
          case rel => exact ⟨0 + 1, by omega, by go_num, O7, H7, HNX⟩
          case measure => simp [intOf]; omega
        · have HK := Lib.hid hkj
          have hj1 : (k : Int) - 1 = (j : Int) := by omega
          have hjn : j < n := by omega
          have hjw : IntKind.i64.wrap (j : Int) = (j : Int) := IntWalk.i64_in _ (by omega)
          obtain ⟨b2, off2, y2, e2, hy2, -, hcy⟩ := Ek.out.at hjn
          injection e2 with e2
          injection e2 with e3 e4
          subst e3 e4
          rw [hy] at hy2
          injection hy2 with hy2
          subst hy2
          have k0 := hcy.c0
          have hkp : 0 < k := by omega
          obtain ⟨p, q, hp, hq, hpq⟩ := leq_cmp x.key y.key
          clear hcy hy hkj
          obtain ⟨rfl, rfl⟩ : p = false ∧ q = false := by
            rcases hpq with ⟨_, h1, h2⟩ | ⟨h0, _⟩ | ⟨h0, _⟩
            · exact ⟨h1, h2⟩
            · rw [hlt2] at h0; cases h0
            · rw [hlt2] at h0; cases h0
          clear hlt2 hpq
          go_wp2_with fail
          go_quiet (fail)
          obtain ⟨w5, hw5⟩ : ∃ w5, w5 = wr.drewN nq := ⟨_, rfl⟩
          have B5 := Lib.hid (show Below wr.heap.size wr w5 by rw [hw5]; exact below_drewN (Below.refl _ _) _)
          have r0 : w5.cell? ⟨B, 0, none⟩ = some (.slice (some ⟨b, off, none⟩) n c) := by rw [hw5]; exact r0
          have c0 : w5.cell? ⟨b, off + k * 3, none⟩ = some (.string (bs x.key)) := by rw [hw5]; exact c0
          have c1 : w5.cell? ⟨b, off + k * 3 + 1, none⟩ = some (.string (bs x.val)) := by rw [hw5]; exact c1
          have c2 : w5.cell? ⟨b, off + k * 3 + 2, none⟩ = some (.bool x.gone) := by rw [hw5]; exact c2
          rw [← hw5]
          have O5 := Lib.hid (hO.out.below B5.out)
          have H5 := Lib.hid (show Below (B + 2) w2 w5 from hBl.out.trans (B5.out.mono hBwr.out))
          clear hw5
          obtain ⟨hi, hz0, hz1, hz2⟩ := HI.out
          go_wp2_with (at_builtin; refine wpList_append_off rfl (.tmp 32) (.tmp 38) 22 rfl (B + 2) 32 i0 _ 3 40 Try.underlying22 hi hz0 hz1 hz2 rfl (.slice a3 m cap3) m (ecells (T.take k)) rfl ?c1 (.slice (some ⟨w5.heap.size, 0, none⟩) 1 1) rfl 1 x.vals ?c2 ?c3 ?c4 ?c5 ?_)
          case c1 => have := O5.out; unfold OwnE at this; rw [HM.out] at this; exact OffRow.allocd this _
          case c2 => exact src_block (size := 3) (cs := #[.string (bs x.key), .string (bs x.val), .bool x.gone]) Try.underlying22 (heap_new _ _) 1 1 rfl (by intro u hu; simp at hu; rcases hu with rfl | rfl | rfl <;> rfl)
          case c3 => unfold maxLen; omega
          case c4 => omega
          case c5 => have := H5.out.size; rw [HS.out.2] at this; simp; omega
          intro v7 w7 hr7 hg7 hat7
          have O7 := Lib.hid (show OwnE w7 (B + 2) v7 (T.take (k + 1)) by
            rw [HTK.out]
            unfold OwnE
            rw [ecells_append, List.length_append, HM.out]
            exact hr7)
          have H7 := Lib.hid (show Below (B + 2) w2 w7 from (H5.out.alloc (by have := H5.out.size; rw [HS.out.2] at this; exact this) _).grown hg7 (by have := H5.out.size; rw [HS.out.2] at this; simp; omega) (fun j hj => (OffRow.lt hO.out j hj).1))
          clear hr7 hg7 hat7 hi hz0 hz1 hz2
          go_wp2_with fail
          go_roundw
          case rel => exact ⟨k + 1, by omega, by go_num, O7, H7, HNX⟩
          case measure => simp [intOf]; omega
      · have HNX := Lib.hid (told_stop HX.out hT.out hs)
        clear hs
        have HK := Lib.hid hkj
        have hj1 : (k : Int) - 1 = (j : Int) := by omega
        have hjn : j < n := by omega
        have hjw : IntKind.i64.wrap (j : Int) = (j : Int) := IntWalk.i64_in _ (by omega)
        obtain ⟨b2, off2, y2, e2, hy2, -, hcy⟩ := Ek.out.at hjn
        injection e2 with e2
        injection e2 with e3 e4
        subst e3 e4
        rw [hy] at hy2
        injection hy2 with hy2
        subst hy2
        have k0 := hcy.c0
        have hkp : 0 < k := by omega
        obtain ⟨p, q, hp, hq, hpq⟩ := leq_cmp x.key y.key
        clear hcy hy hkj
        have hpq2 : p = true ∨ p = false ∧ q = true := by
          rcases hpq with ⟨h0, _⟩ | ⟨_, h1⟩ | ⟨_, h1, h2⟩
          · rw [hlt2] at h0; cases h0
          · exact .inl h1
          · exact .inr ⟨h1, h2⟩
        clear hlt2 hpq
        rcases hpq2 with rfl | ⟨rfl, rfl⟩
        all_goals
          go_wp2_with fail
          go_quiet (fail)
          obtain ⟨w5, hw5⟩ : ∃ w5, w5 = wr.drewN nq := ⟨_, rfl⟩
          have B5 := Lib.hid (show Below wr.heap.size wr w5 by rw [hw5]; exact below_drewN (Below.refl _ _) _)
          have O5 := Lib.hid (hO.out.below B5.out)
          have H5 := Lib.hid (show Below (B + 2) w2 w5 from hBl.out.trans (B5.out.mono hBwr.out))
          have Z5 := Lib.hid (Zk.out.only (S := fun _ => False) (Only.of_below' B5.out rfl) fun h => h)
          rw [← hw5]
          clear hw5
          have z0 := Z5.out.c0
          have z1 := Z5.out.c1
          have zf := Z5.out.free
          go_wp2_with fail
          refine bodyPost_ret (results_row rfl _ _ (B + 1) (.slice a3 m cap3) 3 rfl (Z5.out.put _ _)) rfl ?_
          have o := (((Only.refl (fun j => j = B + 1) w5).setCell (p := ⟨B + 1, 0, none⟩) (.inl rfl) (.slice a3 m cap3)).setCell (p := ⟨B + 1, 1, none⟩) (.inl rfl) (.int .i64 3))
          rw [HNX.out]
          refine ⟨⟨_, rfl, ?_⟩, ((KK.out.trans (H5.out.mono (by omega))).setCell (p := ⟨B + 1, 0, none⟩) (by simp) (.slice a3 m cap3)).setCell (p := ⟨B + 1, 1, none⟩) (by simp) (.int .i64 3)⟩
          have := (O5.out.only o fun j hj h => by have := (OffRow.lt O5.out j hj).1; omega)
          exact OwnE.wide (by omega) this
    · obtain rfl : k = n := by omega
      have HEND := Lib.hid (show toldP e none T = (T.take k, e) by
        have := hT.out
        rw [List.drop_eq_nil_of_le (by rw [← HLEN.out]; exact Nat.le_refl _)] at this
        simpa [toldP] using this)
      have r1 := Rk.out.c1
      have z0 := Zk.out.c0
      have z1 := Zk.out.c1
      have zf := Zk.out.free
      go_wp2_with fail
      refine bodyPost_ret (results_row rfl _ _ (B + 1) (.slice a3 m cap3) e rfl (Zk.out.put _ _)) rfl ?_
      have o := (((Only.refl (fun j => j = B + 1) wr).setCell (p := ⟨B + 1, 0, none⟩) (.inl rfl) (.slice a3 m cap3)).setCell (p := ⟨B + 1, 1, none⟩) (.inl rfl) (.int .i64 e))
      rw [HEND.out]
      refine ⟨⟨_, rfl, ?_⟩, ((KK.out.trans (hBl.out.mono (by omega))).setCell (p := ⟨B + 1, 0, none⟩) (by simp) (.slice a3 m cap3)).setCell (p := ⟨B + 1, 1, none⟩) (by simp) (.int .i64 e)⟩
      have := (hO.out.only o fun j hj h => by have := (OffRow.lt hO.out j hj).1; omega)
      exact OwnE.wide (by omega) this
end Go.Proofs.Ytbjokbnmfbfkjaa
