/- Programs made so that their cells and mutexes are there: the walk. -/
import Derived.Test.YtccliallljcjgaaRaw
set_option linter.unusedVariables false
namespace Go.Proofs.Ytccliallljcjgaa
open Go.RowKit

theorem ub_4 (z : Int) : wrap64 ((IntKind.u64.wrap z).tmod 4) = (ub z 4 : Int) := by
  have h := ub_lt z 4 (by omega)
  have e : (ub z 4 : Int) = z % 18446744073709551616 % 4 := by unfold ub; omega
  rw [wrap_64, IntKind.wrap_i64, IntKind.wrap_u64, Int.tmod_eq_emod_of_nonneg (by omega)]
  omega
theorem ub_5 (z : Int) : wrap64 ((IntKind.u64.wrap z).tmod 5) = (ub z 5 : Int) := by
  have h := ub_lt z 5 (by omega)
  have e : (ub z 5 : Int) = z % 18446744073709551616 % 5 := by unfold ub; omega
  rw [wrap_64, IntKind.wrap_i64, IntKind.wrap_u64, Int.tmod_eq_emod_of_nonneg (by omega)]
  omega
theorem OwnI.push {B : Nat} {v : Value} {l : List INS} {w : World} {x : INS} (h : w.ownsRow B 73 5 v (l.length + 1) (ivs l ++ x.vals.toList)) : OwnI B v (l ++ [x]) w := by
  have e : ivs (l ++ [x]) = ivs l ++ x.vals.toList := by simp [ivs]
  unfold OwnI
  rw [e, List.length_append]
  exact h
theorem OwnS.push {B : Nat} {v : Value} {L : List TK} {w : World} {t : TK} (h : w.ownsRow B 44 1 v (L.length + 1) (L.map sv ++ [sv t])) : OwnS B v (L ++ [t]) w := by
  unfold OwnS
  rw [List.length_append, List.map_append]
  exact h

set_option maxHeartbeats 2000000 in
set_option maxRecDepth 100000 in
theorem law_right {w : World} {a : Option Addr} {n cap : Nat} {R : List RP} (h : Raw w a n R) (hmax : n ≤ 9223372036854775807) (hin : ∀ (i : Nat) (q : RP), R[i]? = some q → q.l.length ≤ 9223372036854775807)  :
    Calls Try.prog 8 #[.slice a n cap] w fun e w' => ∃ a' cap' L, e = .returned (.slice a' (L : List TK).length cap') ∧ L.length ≤ 8 ∧ (0 < L.length → Progs w' w'.heap.size a' L.length L) ∧ Below w.heap.size w w' := by
  obtain ⟨i0, hi, hz0, hz1, hz2⟩ := info_parts info73
  obtain ⟨j0, hj, hy0, hy1, hy2⟩ := info_parts info44
  have HN := Lib.hid h.len
  have HE := Lib.hid h.each
  have HI := Lib.hid hin
  obtain ⟨b, off, hab, hrow⟩ := h.row
  have HROW := Lib.hid hrow
  have HAB := Lib.hid hab
  clear h hab hrow hin
  go_enter Try.func8, Try.ntmps8
  go_wp2_with fail
  go_loopw [3, 4] (fun v is wr => ∃ (j : Nat) (L : List TK), j ≤ n ∧ j ≤ 8 ∧ is = .int .i64 (j : Int) ∧ L.length = j ∧ OwnS w.heap.size v L wr ∧ Hid (∀ t ∈ L, Fresh wr t) ∧ Below w.heap.size w wr) (fun v is wr => 8 - (intOf is).toNat)
  case atStart => exact ⟨0, [], Nat.zero_le _, by omega, rfl, rfl, World.ownsRow_nil _ _ _ _, Lib.hid (by simp), Below.refl _ _⟩
  case round =>
    obtain ⟨j, L, hj1, hj2, rfl, hLj, hown, hfr, hb⟩ := hrel
    have HB := Lib.hid hb
    have HO := Lib.hid hown
    have HLJ := Lib.hid hLj
    clear hb hown hLj
    by_cases hend : j < n ∧ j < 8
    · obtain ⟨hlt, hlt8⟩ := hend
      obtain ⟨q, hq⟩ : ∃ q, R[j]? = some q := ⟨_, List.getElem?_eq_getElem (by rw [← HN.out]; exact hlt)⟩
      have hae := HAB.out.resolve_left (by omega)
      subst hae
      obtain ⟨r1, r2⟩ := HROW.out j q hq
      have rI := (HB.out.cell (p := ⟨b, off + j, none⟩) r1).trans r2
      have hlt' : (j : Int) < (n : Int) := by omega
      have hlt8' : (j : Int) < 8 := by omega
      have HRE := Lib.hid (HE.out j q hq)
      have hql := HI.out j q hq
      have HLT := Lib.hid hlt
      have HLT8 := Lib.hid hlt8
      have HR1 := Lib.hid r1
      obtain ⟨wo, hwo⟩ : ∃ wo, wo = wr := ⟨_, rfl⟩
      subst hwo
      obtain ⟨qa, qcap, ql⟩ := q
      obtain ⟨N, hN⟩ : ∃ N, N = ql.length := ⟨_, rfl⟩
      have HNL := Lib.hid hN
      simp only at hql rI r2
      rw [← hN] at hql rI
      clear hN r1 r2 hj1 hj2 hlt hlt8
      go_wp2_with fail
      go_loopw [5, 6] (fun v is wx => ∃ (k : Nat) (l : List INS), k ≤ N ∧ k ≤ 60 ∧ is = .int .i64 (k : Int) ∧ l.length = k ∧ OwnI wo.heap.size v l wx ∧ Hid (∀ x ∈ l, x.Ok) ∧ Below wo.heap.size wo wx) (fun v is wx => 60 - (intOf is).toNat)
      case atStart => exact ⟨0, [], Nat.zero_le _, by omega, rfl, rfl, World.ownsRow_nil _ _ _ _, Lib.hid (by simp), Below.refl _ _⟩
      case round =>
        obtain ⟨k, l, hk1, hk2, rfl, hlk, hown, hok, hb⟩ := hrel
        have HB2 := Lib.hid hb
        have HO2 := Lib.hid hown
        have HLK := Lib.hid hlk
        have rI' := (hb.cell (p := ⟨b, off + j, none⟩) (by have := HB.out.size; have := HR1.out; simp only; omega)).trans rI
        clear hown hlk
        by_cases hke : k < N ∧ k < 60
        · obtain ⟨hkl, hk60⟩ := hke
          obtain ⟨bi, offi, hai, hri⟩ := HRE.out
          have hae2 : qa = some ⟨bi, offi, none⟩ := hai.resolve_left (by have := HNL.out; omega)
          obtain ⟨ri1, ri2, ri3⟩ := hri k (by have := HNL.out; omega)
          have hkl' : (k : Int) < (N : Int) := by omega
          have hk60' : (k : Int) < 60 := by omega
          subst hae2
          generalize hxx : ql[k]'(by have := HNL.out; omega) = x at ri2 ri3
          have hbb := HB.out.trans (hb.mono HB.out.size)
          have x0 : wr.cell? ⟨bi, offi + k * 5, none⟩ = some (.int .i64 x.k) := (hbb.cell (p := ⟨bi, offi + k * 5, none⟩) ri1).trans (ri2 0 (by omega))
          have x1 : wr.cell? ⟨bi, offi + k * 5 + 1, none⟩ = some (.int .i64 x.c) := (hbb.cell (p := ⟨bi, offi + k * 5 + 1, none⟩) ri1).trans (ri2 1 (by omega))
          have x2 : wr.cell? ⟨bi, offi + k * 5 + 2, none⟩ = some (.int .i64 x.n) := (hbb.cell (p := ⟨bi, offi + k * 5 + 2, none⟩) ri1).trans (ri2 2 (by omega))
          have x3 : wr.cell? ⟨bi, offi + k * 5 + 3, none⟩ = some (.int .i64 x.m) := (hbb.cell (p := ⟨bi, offi + k * 5 + 3, none⟩) ri1).trans (ri2 3 (by omega))
          have x4 : wr.cell? ⟨bi, offi + k * 5 + 4, none⟩ = some (.int .i64 x.f) := (hbb.cell (p := ⟨bi, offi + k * 5 + 4, none⟩) ri1).trans (ri2 4 (by omega))
          have HCK := Lib.hid (clean_ok x ri3)
          have u1 := ub_4 x.c
          have u2 := ub_5 x.m
          have u3 := ub_5 x.f
          have u4 : (clean x).vals.toList = [.int .i64 x.k, .int .i64 (ub x.c 4 : Int), .int .i64 (x.n.tmod 1000), .int .i64 (ub x.m 5 : Int), .int .i64 (ub x.f 5 : Int)] := rfl
          have HU := Lib.hid u4
          have HKL := Lib.hid hkl
          have HK60 := Lib.hid hk60
          clear u4 hri ri2 ri3 hbb hb ri1 hkl hk60 hk1 hk2 hai hxx rI
          generalize (ub x.c 4 : Int) = y1 at *
          generalize (ub x.m 5 : Int) = y2 at *
          generalize (ub x.f 5 : Int) = y3 at *
          have hsz1 : (wr.alloc (.cells #[.int .i64 x.k, .int .i64 y1, .int .i64 (x.n.tmod 1000), .int .i64 y2, .int .i64 y3] 73)).heap.size = wr.heap.size + 1 := by simp
          have HCN := Lib.hid (cells_new (wr.alloc (.cells #[.int .i64 x.k, .int .i64 y1, .int .i64 (x.n.tmod 1000), .int .i64 y2, .int .i64 y3] 73)) [.int .i64 x.k, .int .i64 y1, .int .i64 (x.n.tmod 1000), .int .i64 y2, .int .i64 y3] 73)
          rw [hsz1] at HCN
          clear hsz1
          go_wp2_with (at_builtin; refine wpList_append_own _ rfl _ _ 44 rfl wo.heap.size 73 i0 (.agg #[.int .i64 0, .int .i64 0, .int .i64 0, .int .i64 0, .int .i64 0]) 5 40 Try.underlying44 hi hz0 hz1 hz2 rfl (by decide) _ _ _ rfl ((HO2.out.alloc _).alloc _) ⟨wr.heap.size + 1, 0, none⟩ 1 1 [.int .i64 x.k, .int .i64 y1, .int .i64 (x.n.tmod 1000), .int .i64 y2, .int .i64 y3] rfl rfl ?c1 ?c2 ?c3 ?c4 ?c5 ?_)
          case c1 => exact HCN.out
          case c2 => intro u hu; simp at hu; rcases hu with rfl | rfl | rfl | rfl | rfl <;> rfl
          case c3 => unfold maxLen; have := HLK.out; have := HK60.out; omega
          case c4 => have := HLK.out; have := HK60.out; omega
          case c5 => have := HB2.out.size; simp; omega
          intro v3 w3 hown3 hg3 _
          have HO3 := Lib.hid (OwnI.push (x := clean x) (by rw [HU.out]; exact hown3))
          have HB3 := Lib.hid (show Below wo.heap.size wo w3 from ((HB2.out.alloc HB2.out.size _).alloc (by have := HB2.out.size; simp; omega) _).grown hg3 (by have := HB2.out.size; simp; omega) (fun p hp => (HO2.out.lt p hp).1))
          clear hown3 hg3 x0 x1 x2 x3 x4 u1 u2 u3 rI'
          go_wp2_with fail
          go_roundw
          case rel =>
            exact ⟨k + 1, l ++ [clean x], HKL.out, HK60.out, by go_num, by rw [List.length_append, HLK.out]; rfl, HO3.out, Lib.hid (fun y hy => by
              rcases List.mem_append.1 hy with hy | hy
              · exact hok.out y hy
              · simp at hy; subst hy; exact HCK.out), HB3.out⟩
          case measure => have := HK60.out; simp [intOf]; omega
        · have hstop : ¬ ((k : Int) < (N : Int)) ∨ ((k : Int) < (N : Int) ∧ ¬ (k : Int) < 60) := by omega
          obtain ⟨av, capv, hv, hF⟩ := HO2.out.fresh hok.out (by have := HLK.out; omega)
          subst hv
          obtain ⟨t, ht⟩ : ∃ t : TK, t = ⟨av, capv, l, 0, 0, decide (l.length = 0)⟩ := ⟨_, rfl⟩
          have hsv : sv t = .slice av l.length capv := by rw [ht]; rfl
          rw [← ht] at hF
          have HSV := Lib.hid hsv
          have HF := Lib.hid hF
          have HOS := Lib.hid (HO.out.kept HB2.out)
          have HCN := Lib.hid (cells_new wr [.slice av l.length capv] 44)
          have hb0 := hb
          clear hF hsv ht hb hke rI
          rcases hstop with hs1 | ⟨hs1, hs2⟩
          all_goals
            go_wp2_with (at_builtin; refine wpList_append_own _ rfl _ _ 22 rfl w.heap.size 44 j0 (.slice none 0 0) 1 24 Try.underlying22 hj hy0 hy1 hy2 rfl (by decide) _ _ _ rfl (HOS.out.alloc _) ⟨wr.heap.size, 0, none⟩ 1 1 [.slice av l.length capv] rfl rfl ?c1 ?c2 ?c3 ?c4 ?c5 ?_)
            try (case c1 => exact HCN.out)
            case c2 => first | rfl | (intro u hu; simp at hu; subst hu; rfl)
            case c3 => unfold maxLen; have := HLJ.out; have := HLT8.out; omega
            case c4 => have := HLJ.out; have := HLT8.out; omega
            case c5 => have := HB.out.size; have := HB2.out.size; simp; omega
            intro v3 w3 hown3 hg3 _
            have HO3 := Lib.hid (OwnS.push (t := t) (by rw [HSV.out]; exact hown3))
            have hA : Below wr.heap.size wr (wr.alloc (.cells #[.slice av l.length capv] 44)) := (Below.refl _ wr).alloc (Nat.le_refl _) _
            have HB3 := Lib.hid (show Below w.heap.size w w3 from ((HB.out.trans (HB2.out.mono HB.out.size)).trans (hA.mono (Nat.le_trans HB.out.size HB2.out.size))).grown hg3 (by have := HB.out.size; have := HB2.out.size; simp; omega) (fun p hp => (HO.out.lt p hp).1))
            have HFR := Lib.hid (show ∀ y ∈ L ++ [t], Fresh w3 y from fun y hy => by
              rcases List.mem_append.1 hy with hy | hy
              · exact ((hfr.out y hy).below HB2.out).grown HOS.out hA hg3
              · simp at hy; subst hy; exact HF.out.grown HOS.out hA hg3)
            clear hown3 hg3 hA rI'
            go_wp2_with fail
            go_roundw
            case rel => exact ⟨j + 1, L ++ [t], HLT.out, HLT8.out, by go_num, by rw [List.length_append, HLJ.out]; rfl, HO3.out, HFR, HB3.out⟩
            case measure => have := HLT8.out; simp [intOf]; omega
    · have hstop : ¬ ((j : Int) < (n : Int)) ∨ ((j : Int) < (n : Int) ∧ ¬ (j : Int) < 8) := by omega
      obtain ⟨av, capv, hv, hP⟩ := HO.out.progs hfr.out (by have := HLJ.out; omega)
      subst hv
      have HP := Lib.hid hP
      clear hP hend
      rcases hstop with hs1 | ⟨hs1, hs2⟩
      all_goals
        go_wp2_with fail
        go_ret
        exact ⟨av, capv, L, rfl, by have := HLJ.out; omega, HP.out, HB.out⟩
end Go.Proofs.Ytccliallljcjgaa
