/- A call done on a map and on a list. -/
import Derived.Test.YtbmihajbdobgbaaMemFew
set_option linter.unusedVariables false
set_option maxRecDepth 100000
namespace Go.Proofs.Ytbmihajbdobgbaa.MI
open Go.RowKit

theorem infoM2 : (Try.prog.info? 27).map (·.size) = some 1 := by kernel_rfl
/-- A map and something else are handed back. -/
theorem results_map2 {fn : Func} {p q : Tmp} (h : fn.results = #[.cell p 27, .tmp q]) (tmps : Array Value) (w : World) (b : Nat) (u : Option Addr) (x : Value) (hp : tmps.getD p undef = .pointer (some ⟨b, 0, none⟩)) (hx : tmps.getD q undef = x) (hc : w.heap[b]? = some (.cells #[.pointer u] 27 (0, 0))) :
    (results fn tmps).run Try.prog w = .ok (.tuple #[.agg #[.pointer u], x]) w := by
  have hr : w.rangeAt b 0 [.pointer u] := by
    intro j v hj
    cases j with
    | zero => injection hj with hj; subst hj; simp [World.cell?, hc]
    | succ j => cases hj
  have hl := run_loadVar_mid (P := Try.prog) w b 0 27 [.pointer u] _ hr Try.underlying27 rfl infoM2
  have hp' : tmps[p]?.getD undef = .pointer (some ⟨b, 0, none⟩) := by simpa using hp
  have hx' : tmps[q]?.getD undef = x := by simpa using hx
  simp only [results, h]
  simp [Sem.run_bind, Result.andThen, hp', hx', asAddr, hl]
theorem Pl.set {w : World} {v : Value} {L : PL} {b o : Nat} {cs : Array Value} {t : TypeId} (h : Pl w v L) (hb : w.heap[b]? = some (.cells cs t (0, 0))) (ht : t ≠ 59) (u : Value) : Pl (w.setCell ⟨b, o, none⟩ u) v L :=
  OffRow.kept h fun j hj => heap_set_other (fun e => by
    subst e
    obtain ⟨cur, hc⟩ := OffRow.tag h hj
    rw [hb] at hc
    injection hc with hc
    injection hc with _ hc
    exact ht hc) u
set_option maxHeartbeats 4000000 in
theorem law_does {t : Tr Int} {u : Option Addr} {v : Value} {o : OpM} {w : World} (h : Hid (IsM w t)) (hu : t.ptr = .pointer u) (hv : Hid (Pl w v t.prs)) (hl : t.sz ≤ 800000) :
    Calls Try.prog 9 #[.agg #[.pointer u], v, .agg #[.int .i64 o.kind, .string (bs o.key), .int .i64 o.val]] w fun e w' => DoesPost (doesL t.prs o) w e w' := by
  obtain ⟨z, k, x⟩ := o
  have hs := t.sz_prs
  have HPM := Lib.hid (show ∀ y, Below w.heap.size w y → Calls Try.prog 14 #[.agg #[.pointer u], .string (bs k), .int .i64 x] y fun e w' => MapPost (putP k x t.prs) y e w' from fun y K => map_Put (Lib.hid (h.out.seen K)) hu hl)
  have HWM := Lib.hid (show ∀ y, Below w.heap.size w y → Calls Try.prog 17 #[.agg #[.pointer u], .string (bs k)] y fun e w' => MapPost (delP k t.prs) y e w' from fun y K => map_Without (Lib.hid (h.out.seen K)) hu hl)
  have HPL := Lib.hid (show ∀ y, Below w.heap.size w y → Calls Try.prog 22 #[v, .string (bs k), .int .i64 x] y fun e w' => ∃ v', e = .returned v' ∧ Pl w' v' (putP k x t.prs) ∧ Below y.heap.size y w' from fun y K => ref_Put (Lib.hid (hv.out.below K)) (by omega))
  have HWL := Lib.hid (show ∀ y, Below w.heap.size w y → Calls Try.prog 23 #[v, .string (bs k)] y fun e w' => ∃ v', e = .returned v' ∧ Pl w' v' (delP k t.prs) ∧ Below y.heap.size y w' from fun y K => ref_Without (Lib.hid (hv.out.below K)) (by omega))
  have HU := Lib.hid hu
  obtain ⟨w1, hw1⟩ : ∃ w1, w1 = w.alloc (.cells #[.pointer u] 27) := ⟨_, rfl⟩
  have z1 : w1.heap.size = w.heap.size + 1 := by rw [hw1]; simp
  obtain ⟨w2, hw2⟩ : ∃ w2, w2 = w1.alloc (.cells #[.int .i64 z, .string (bs k), .int .i64 x] 32) := ⟨_, rfl⟩
  have z2 : w2.heap.size = w.heap.size + 2 := by rw [hw2]; simp; omega
  obtain ⟨w3, hw3⟩ : ∃ w3, w3 = w2.alloc (.cells #[.pointer none] 27) := ⟨_, rfl⟩
  have a1 : w1.heap[w.heap.size]? = some (.cells #[.pointer u] 27 (0, 0)) := by rw [hw1]; exact heap_new _ _
  have a2 : w2.heap[w.heap.size + 1]? = some (.cells #[.int .i64 z, .string (bs k), .int .i64 x] 32 (0, 0)) := by rw [hw2, ← z1]; exact heap_new _ _
  have a3 : w3.heap[w.heap.size + 2]? = some (.cells #[.pointer none] 27 (0, 0)) := by rw [hw3, ← z2]; exact heap_new _ _
  have k1 : Below w.heap.size w w1 := by rw [hw1]; exact (Below.refl _ _).alloc (Nat.le_refl _) _
  have k2 : Below w1.heap.size w1 w2 := by rw [hw2]; exact (Below.refl _ _).alloc (Nat.le_refl _) _
  have k3 : Below w2.heap.size w2 w3 := by rw [hw3]; exact (Below.refl _ _).alloc (Nat.le_refl _) _
  have K3 := Lib.hid (show Below w.heap.size w w3 from (k1.trans (k2.mono (by omega))).trans (k3.mono (by omega)))
  have A1 := Lib.hid (show w3.heap[w.heap.size]? = some (.cells #[.pointer u] 27 (0, 0)) from (k3.block _ (by omega)).trans ((k2.block _ (by omega)).trans a1))
  have A2 := Lib.hid (show w3.heap[w.heap.size + 1]? = some (.cells #[.int .i64 z, .string (bs k), .int .i64 x] 32 (0, 0)) from (k3.block _ (by omega)).trans a2)
  have A3 := Lib.hid a3
  have HW := Lib.hid (show (((w.alloc (.cells #[.pointer u] 27)).alloc (.cells #[.int .i64 z, .string (bs k), .int .i64 x] 32)).alloc (.cells #[.pointer none] 27)) = w3 by rw [hw3, hw2, hw1])
  have Z3 := Lib.hid (show w3.heap.size = w.heap.size + 3 by rw [hw3]; simp; omega)
  clear hw1 hw2 hw3 a1 a2 a3 k1 k2 k3 hu hs hl z1 z2
  obtain ⟨Z, hZ⟩ : ∃ Z, Z = w.heap.size := ⟨_, rfl⟩
  have HZ := Lib.hid hZ
  rw [← hZ] at A1 A2 A3 Z3
  clear hZ
  show Calls Try.prog 9 #[.agg #[.pointer u], v, .agg #[.int .i64 z, .string (bs k), .int .i64 x]] w _
  go_enter Try.func9, Try.ntmps9
  go_upto_region 1 with (fail)
  rw [HW.out]
  try rw [← HZ.out]
  obtain ⟨O1, hO1⟩ : ∃ O1, O1 = Z + 1 := ⟨_, rfl⟩
  obtain ⟨R2, hR2⟩ : ∃ R2, R2 = Z + 2 := ⟨_, rfl⟩
  have HO1 := Lib.hid hO1
  have HR2 := Lib.hid hR2
  rw [← hO1] at A2
  rw [← hR2] at A3
  rw [show Z + 1 + 1 = R2 by omega, ← hO1]
  clear hO1 hR2
  have c0 : w3.cell? ⟨Z, 0, none⟩ = some (.pointer u) := by simp [World.cell?, A1.out]
  have d0 : w3.cell? ⟨O1, 0, none⟩ = some (.int .i64 z) := by simp [World.cell?, A2.out]
  have d1 : w3.cell? ⟨O1, 1, none⟩ = some (.string (bs k)) := by simp [World.cell?, A2.out]
  have d2 : w3.cell? ⟨O1, 2, none⟩ = some (.int .i64 x) := by simp [World.cell?, A2.out]
  have e0 : w3.cell? ⟨R2, 0, none⟩ = some (.pointer none) := by simp [World.cell?, A3.out]
  have f0 : w3.frozen? ⟨R2, 0, none⟩ = false := by simp [World.frozen?, A3.out]
  by_cases h1 : z = 1
  · subst h1
    go_wp2_with fail
    have K0 := Lib.hid (show Below w.heap.size w w3.drew from K3.out.drew)
    have Q0 := Lib.hid (show Below w3.heap.size w3 w3.drew from (Below.refl _ _).drew)
    have HKP := Lib.hid (show ∀ y, Below w3.heap.size w3 y → (y.cell? ⟨Z, 0, none⟩ = some (.pointer u) ∧ y.cell? ⟨O1, 1, none⟩ = some (.string (bs k)) ∧ y.cell? ⟨O1, 2, none⟩ = some (.int .i64 x)) from fun y K => ⟨by rw [K.cell (p := ⟨Z, 0, none⟩) (heap_lt A1.out)]; exact (by simp [World.cell?, A1.out]), by rw [K.cell (p := ⟨O1, 1, none⟩) (heap_lt A2.out)]; exact (by simp [World.cell?, A2.out]), by rw [K.cell (p := ⟨O1, 2, none⟩) (heap_lt A2.out)]; exact (by simp [World.cell?, A2.out])⟩)
    have HKS := Lib.hid (show ∀ y q, Below w3.heap.size w3 y → y.heap[R2]? = some (.cells #[.pointer none] 27 (0, 0)) → ((y.setCell ⟨R2, 0, none⟩ q).cell? ⟨Z, 0, none⟩ = some (.pointer u) ∧ (y.setCell ⟨R2, 0, none⟩ q).cell? ⟨O1, 1, none⟩ = some (.string (bs k)) ∧ (y.setCell ⟨R2, 0, none⟩ q).cell? ⟨O1, 2, none⟩ = some (.int .i64 x)) from fun y q K hy => ⟨by rw [World.cell?_setCell_other _ _ _ _ (by have := HR2.out; simp <;> omega), K.cell (p := ⟨Z, 0, none⟩) (heap_lt A1.out)]; exact (by simp [World.cell?, A1.out]), by rw [World.cell?_setCell_other _ _ _ _ (by have := HR2.out; have := HO1.out; simp <;> omega), K.cell (p := ⟨O1, 1, none⟩) (heap_lt A2.out)]; exact (by simp [World.cell?, A2.out]), by rw [World.cell?_setCell_other _ _ _ _ (by have := HR2.out; have := HO1.out; simp <;> omega), K.cell (p := ⟨O1, 2, none⟩) (heap_lt A2.out)]; exact (by simp [World.cell?, A2.out])⟩)
    clear c0 d0 d1 d2 e0 f0
    go_region_held3 (fun w' => w'.cell? ⟨Z, 0, none⟩ = some (.pointer u) ∧ w'.cell? ⟨O1, 1, none⟩ = some (.string (bs k)) ∧ w'.cell? ⟨O1, 2, none⟩ = some (.int .i64 x))
      (first | exact HKP.out _ Q0.out | exact HKP.out _ QA.out | exact HKP.out _ QF.out | exact HKS.out _ _ QF.out RF.out | exact HKS.out _ _ QA.out RA.out)
      (first
      | (go_at_call 22; (with_reducible refine (HPL.out _ KA.out).mono ?_); rintro e y ⟨v', rfl, P, B⟩; have KF := Lib.hid (KA.out.trans (B.mono KA.out.size)); have QF := Lib.hid (QA.out.trans (B.mono QA.out.size)); have TM := Lib.hid (And.intro TA.out.1 (And.intro (TA.out.2.1.seen B) TA.out.2.2)); have TL := Lib.hid P; have RF := Lib.hid ((B.block R2 (heap_lt RA.out)).trans RA.out); have g0 : y.cell? ⟨R2, 0, none⟩ = some (.pointer none) := (by simp [World.cell?, RF.out]); have g1 : y.frozen? ⟨R2, 0, none⟩ = false := (by simp [World.frozen?, RF.out]); clear P B)
      | (go_at_call 14; (with_reducible refine (HPM.out _ KA.out).mono ?_); rintro e y ⟨t', u', e1, rfl, M, B, L⟩; have KF := Lib.hid (KA.out.trans (B.mono KA.out.size)); have QF := Lib.hid (QA.out.trans (B.mono QA.out.size)); have TM := Lib.hid (And.intro e1 (And.intro M L)); have TL := Lib.hid (TB.out.below B); have RF := Lib.hid ((B.block R2 (heap_lt RA.out)).trans RA.out); have g0 : y.cell? ⟨R2, 0, none⟩ = some (.pointer none) := (by simp [World.cell?, RF.out]); have g1 : y.frozen? ⟨R2, 0, none⟩ = false := (by simp [World.frozen?, RF.out]); clear e1 M B L)
      | (go_at_call 14; (with_reducible refine (HPM.out _ K0.out).mono ?_); rintro e yA ⟨t', u', e1, rfl, M, B, L⟩; have KA := Lib.hid (K0.out.trans (B.mono K0.out.size)); have QA := Lib.hid (Q0.out.trans (B.mono Q0.out.size)); have TA := Lib.hid (And.intro e1 (And.intro M L)); have RA := Lib.hid ((QA.out.block R2 (heap_lt A3.out)).trans A3.out); have g0 : yA.cell? ⟨R2, 0, none⟩ = some (.pointer none) := (by simp [World.cell?, RA.out]); have g1 : yA.frozen? ⟨R2, 0, none⟩ = false := (by simp [World.frozen?, RA.out]); clear e1 M B L)
      | (go_at_call 22; (with_reducible refine (HPL.out _ K0.out).mono ?_); rintro e yA ⟨v', rfl, P, B⟩; have KA := Lib.hid (K0.out.trans (B.mono K0.out.size)); have QA := Lib.hid (Q0.out.trans (B.mono Q0.out.size)); have TB := Lib.hid P; have RA := Lib.hid ((QA.out.block R2 (heap_lt A3.out)).trans A3.out); clear P B))
    all_goals go_wp2_with fail
    all_goals refine bodyPost_ret (results_map2 rfl _ _ R2 u' v' rfl rfl (heap_set RF.out _)) rfl ⟨t', u', v', TM.out.1, rfl, TM.out.2.1.kn ((Kn.refl _ _).set RF.out (by decide) _), ?_, ?_, KF.out.setCell (p := ⟨R2, 0, none⟩) (by simp only; rw [HR2.out]; have := HZ.out; omega) _⟩
    all_goals first | exact (by simpa [doesL] using TM.out.2.2) | exact Pl.set (by simpa [doesL] using TL.out) RF.out (by decide) _
  · by_cases h2 : z = 2
    · subst h2
      clear h1
      go_wp2_with fail
      have K0 := Lib.hid (show Below w.heap.size w w3.drew from K3.out.drew)
      have Q0 := Lib.hid (show Below w3.heap.size w3 w3.drew from (Below.refl _ _).drew)
      have HKP := Lib.hid (show ∀ y, Below w3.heap.size w3 y → (y.cell? ⟨Z, 0, none⟩ = some (.pointer u) ∧ y.cell? ⟨O1, 1, none⟩ = some (.string (bs k))) from fun y K => ⟨by rw [K.cell (p := ⟨Z, 0, none⟩) (heap_lt A1.out)]; exact (by simp [World.cell?, A1.out]), by rw [K.cell (p := ⟨O1, 1, none⟩) (heap_lt A2.out)]; exact (by simp [World.cell?, A2.out])⟩)
      have HKS := Lib.hid (show ∀ y q, Below w3.heap.size w3 y → y.heap[R2]? = some (.cells #[.pointer none] 27 (0, 0)) → ((y.setCell ⟨R2, 0, none⟩ q).cell? ⟨Z, 0, none⟩ = some (.pointer u) ∧ (y.setCell ⟨R2, 0, none⟩ q).cell? ⟨O1, 1, none⟩ = some (.string (bs k))) from fun y q K hy => ⟨by rw [World.cell?_setCell_other _ _ _ _ (by have := HR2.out; simp <;> omega), K.cell (p := ⟨Z, 0, none⟩) (heap_lt A1.out)]; exact (by simp [World.cell?, A1.out]), by rw [World.cell?_setCell_other _ _ _ _ (by have := HR2.out; have := HO1.out; simp <;> omega), K.cell (p := ⟨O1, 1, none⟩) (heap_lt A2.out)]; exact (by simp [World.cell?, A2.out])⟩)
      clear c0 d0 d1 d2 e0 f0
      go_region_held3 (fun w' => w'.cell? ⟨Z, 0, none⟩ = some (.pointer u) ∧ w'.cell? ⟨O1, 1, none⟩ = some (.string (bs k)))
        (first | exact HKP.out _ Q0.out | exact HKP.out _ QA.out | exact HKP.out _ QF.out | exact HKS.out _ _ QF.out RF.out | exact HKS.out _ _ QA.out RA.out)
        (first
        | (go_at_call 23; (with_reducible refine (HWL.out _ KA.out).mono ?_); rintro e y ⟨v', rfl, P, B⟩; have KF := Lib.hid (KA.out.trans (B.mono KA.out.size)); have QF := Lib.hid (QA.out.trans (B.mono QA.out.size)); have TM := Lib.hid (And.intro TA.out.1 (And.intro (TA.out.2.1.seen B) TA.out.2.2)); have TL := Lib.hid P; have RF := Lib.hid ((B.block R2 (heap_lt RA.out)).trans RA.out); have g0 : y.cell? ⟨R2, 0, none⟩ = some (.pointer none) := (by simp [World.cell?, RF.out]); have g1 : y.frozen? ⟨R2, 0, none⟩ = false := (by simp [World.frozen?, RF.out]); clear P B)
        | (go_at_call 17; (with_reducible refine (HWM.out _ KA.out).mono ?_); rintro e y ⟨t', u', e1, rfl, M, B, L⟩; have KF := Lib.hid (KA.out.trans (B.mono KA.out.size)); have QF := Lib.hid (QA.out.trans (B.mono QA.out.size)); have TM := Lib.hid (And.intro e1 (And.intro M L)); have TL := Lib.hid (TB.out.below B); have RF := Lib.hid ((B.block R2 (heap_lt RA.out)).trans RA.out); have g0 : y.cell? ⟨R2, 0, none⟩ = some (.pointer none) := (by simp [World.cell?, RF.out]); have g1 : y.frozen? ⟨R2, 0, none⟩ = false := (by simp [World.frozen?, RF.out]); clear e1 M B L)
        | (go_at_call 17; (with_reducible refine (HWM.out _ K0.out).mono ?_); rintro e yA ⟨t', u', e1, rfl, M, B, L⟩; have KA := Lib.hid (K0.out.trans (B.mono K0.out.size)); have QA := Lib.hid (Q0.out.trans (B.mono Q0.out.size)); have TA := Lib.hid (And.intro e1 (And.intro M L)); have RA := Lib.hid ((QA.out.block R2 (heap_lt A3.out)).trans A3.out); have g0 : yA.cell? ⟨R2, 0, none⟩ = some (.pointer none) := (by simp [World.cell?, RA.out]); have g1 : yA.frozen? ⟨R2, 0, none⟩ = false := (by simp [World.frozen?, RA.out]); clear e1 M B L)
        | (go_at_call 23; (with_reducible refine (HWL.out _ K0.out).mono ?_); rintro e yA ⟨v', rfl, P, B⟩; have KA := Lib.hid (K0.out.trans (B.mono K0.out.size)); have QA := Lib.hid (Q0.out.trans (B.mono Q0.out.size)); have TB := Lib.hid P; have RA := Lib.hid ((QA.out.block R2 (heap_lt A3.out)).trans A3.out); clear P B))
      all_goals go_wp2_with fail
      all_goals refine bodyPost_ret (results_map2 rfl _ _ R2 u' v' rfl rfl (heap_set RF.out _)) rfl ⟨t', u', v', TM.out.1, rfl, TM.out.2.1.kn ((Kn.refl _ _).set RF.out (by decide) _), ?_, ?_, KF.out.setCell (p := ⟨R2, 0, none⟩) (by simp only; rw [HR2.out]; have := HZ.out; omega) _⟩
      all_goals first | exact (by simpa [doesL] using TM.out.2.2) | exact Pl.set (by simpa [doesL] using TL.out) RF.out (by decide) _
    · have g1 : (z == 1) = false := by simpa using h1
      have g2 : (z == 2) = false := by simpa using h2
      have HD := Lib.hid (show doesL t.prs ⟨z, k, x⟩ = t.prs by simp [doesL, h1, h2])
      clear h1 h2
      go_wp2_with fail
      refine bodyPost_ret (results_map2 rfl _ _ R2 u v rfl rfl (heap_set A3.out _)) rfl ⟨t, u, v, HU.out, rfl, (h.out.seen K3.out).kn ((Kn.refl _ _).set A3.out (by decide) _), ?_, HD.out.symm, K3.out.setCell (p := ⟨R2, 0, none⟩) (by simp only; rw [HR2.out]; have := HZ.out; omega) _⟩
      rw [HD.out]
      exact Pl.set (hv.out.below K3.out) A3.out (by decide) _
end Go.Proofs.Ytbmihajbdobgbaa.MI
