/- Texts put together: ChunkBoundsPlain, ChunkCut, ChunkAwake, ChunkRight -/
import Derived.Test.YtcjpemkafncihaaCLea04
import Derived.Test.YtcjpemkafncihaaCLea01
import Derived.OwnWalkIn
import Derived.Lib.SmallJoins
/- Chunks have their bounds, and together they are all. -/
set_option linter.unusedVariables false
namespace Go.Proofs.Ytcjpemkafncihaa
open Go.RowKit

theorem endB_ge {c : Cf} {n s : Nat} (h : endB c n s = true) (hlm : c.least ≤ c.most) : c.least ≤ n := by
  unfold endB at h
  simp only [Bool.or_eq_true, beq_iff_eq, Bool.and_eq_true, decide_eq_true_eq] at h
  omega
theorem endB_lt {c : Cf} {n s : Nat} (h : ¬ endB c n s = true) : n ≠ c.most := fun e => h (by unfold endB; simp [e])
section
variable {c : Cf} {pre D : List UInt8}
theorem szA_lt (hM : 1 ≤ c.most) (i : Nat) : szA c pre D 0 i < c.most := by
  induction i with
  | zero => rw [szA]; omega
  | succ i ih =>
    rw [szA]
    by_cases he : endB c (szA c pre D 0 i + 1) (sumW (pre ++ D.take (i + 1))) = true
    · rw [if_pos he]; omega
    · rw [if_neg he]
      have := endB_lt he
      omega
theorem enA_size (hM : 1 ≤ c.most) (hlm : c.least ≤ c.most) : ∀ {j i e : Nat}, (enA c pre D 0 j)[i]? = some e → c.least ≤ e - ((enA c pre D 0 j).take i).getLastD 0 ∧ e - ((enA c pre D 0 j).take i).getLastD 0 ≤ c.most ∧ ((enA c pre D 0 j).take i).getLastD 0 < e
  | 0, i, e, h => by simp [enA] at h
  | j + 1, i, e, h => by
    rw [enA] at h ⊢
    by_cases hi : i < (enA c pre D 0 j).length
    · rw [List.getElem?_append_left hi] at h
      have := enA_size hM hlm h
      rw [List.take_append_of_le_length (Nat.le_of_lt hi)]
      exact this
    · rw [List.getElem?_append_right (by omega)] at h
      by_cases he : eA c pre D 0 j = true
      · rw [if_pos he] at h ⊢
        have hi2 : i = (enA c pre D 0 j).length := by
          have := (List.getElem?_eq_some_iff.1 h).1
          simp at this
          omega
        subst hi2
        simp at h
        rw [List.take_append_of_le_length (Nat.le_refl _), List.take_length]
        have hl := enA_last (c := c) (pre := pre) (D := D) (n := 0) j rfl
        have hs := szA_lt (pre := pre) (D := D) hM j
        have hg := endB_ge (show endB c (szA c pre D 0 j + 1) (sumW (pre ++ D.take (j + 1))) = true from he) hlm
        omega
      · rw [if_neg he] at h
        simp at h
end
/-- How many bytes the chunks have. -/
def lensN (L : List (Nat × List UInt8)) : Nat := sumN (L.map (·.2.length))
theorem lensN_snoc (L : List (Nat × List UInt8)) (x : Nat × List UInt8) : lensN (L ++ [x]) = lensN L + x.2.length := by
  unfold lensN sumN
  rw [List.map_append, List.foldl_append]
  rfl
/-- Was the last one short? -/
def shortL (l : Nat) (L : List (Nat × List UInt8)) : Bool := match L.getLast? with
  | none => false
  | some x => decide (x.2.length < l)
theorem shortL_snoc (l : Nat) (L : List (Nat × List UInt8)) (x : Nat × List UInt8) : shortL l (L ++ [x]) = decide (x.2.length < l) := by simp [shortL]
/-- What the law looks at. -/
theorem prs_facts (l m M : Nat) (D : List UInt8) (hl : 1 ≤ l) (hlm : l ≤ M) {Y : List (Nat × List UInt8)} (hY : Y = prs D 0 (enA ⟨l, m, M⟩ [] D 0 D.length)) :
    (∀ k x, Y[k]? = some x → x.1 = lensN (Y.take k) ∧ shortL l (Y.take k) = false ∧ 1 ≤ x.2.length ∧ x.2.length ≤ M ∧ x.1 + x.2.length ≤ D.length ∧ (D.take (x.1 + x.2.length)).drop x.1 = x.2) ∧ lensN Y = D.length ∧ (Y = [] ↔ D = []) := by
  obtain ⟨E, hE⟩ : ∃ E, E = enA ⟨l, m, M⟩ [] D 0 D.length := ⟨_, rfl⟩
  have hsz : ∀ {i e : Nat}, E[i]? = some e → l ≤ e - (E.take i).getLastD 0 ∧ e - (E.take i).getLastD 0 ≤ M ∧ (E.take i).getLastD 0 < e ∧ e ≤ D.length := fun {i e} h => by
    rw [hE] at h ⊢
    have h1 := enA_size (c := ⟨l, m, M⟩) (by show 1 ≤ M; omega) hlm h
    have h2 := (enA_next h).2
    exact ⟨h1.1, h1.2.1, h1.2.2, h2⟩
  rw [← hE] at hY
  have hla := enA_last (c := ⟨l, m, M⟩) (pre := []) (D := D) (n := 0) D.length rfl
  have hsl := szA_lt (c := ⟨l, m, M⟩) (pre := []) (D := D) (by show 1 ≤ M; omega) D.length
  rw [← hE] at hla
  have hYs : Y = prE D 0 E ++ (if E.getLastD 0 < D.length then [(E.getLastD 0, D.drop (E.getLastD 0))] else []) := by rw [hY, prs_prE]; rfl
  -- the sums
  have hsum : ∀ k, k ≤ E.length → lensN ((prE D 0 E).take k) = (E.take k).getLastD 0 ∧ (0 < k → shortL l ((prE D 0 E).take k) = false) := by
    intro k
    induction k with
    | zero => intro _; exact ⟨by simp [lensN, sumN], fun h => by omega⟩
    | succ k ih =>
      intro hk
      have hEk : E[k]? = some E[k] := List.getElem?_eq_getElem (by omega)
      obtain ⟨s1, s2, s3, s4⟩ := hsz hEk
      have hpk : (prE D 0 E).take (k + 1) = (prE D 0 E).take k ++ [((E.take k).getLastD 0, (D.take E[k]).drop ((E.take k).getLastD 0))] := by
        rw [← prE_take, ← prE_take, List.take_add_one, hEk]
        exact prE_snoc D 0 (E.take k) E[k]
      have hln : ((D.take E[k]).drop ((E.take k).getLastD 0)).length = E[k] - (E.take k).getLastD 0 := by rw [List.length_drop, List.length_take, Nat.min_eq_left s4]
      rw [hpk, lensN_snoc, (ih (by omega)).1, shortL_snoc, hln]
      refine ⟨?_, fun _ => by rw [decide_eq_false_iff_not]; omega⟩
      have hl2 : (E.take (k + 1)).getLastD 0 = E[k] := by
        rw [List.take_add_one, hEk]
        generalize E[k] = e
        generalize E.take k = P
        simp
      rw [hl2]
      omega
  have hlenE : (prE D 0 E).length = E.length := prE_len D 0 E
  refine ⟨fun k x hx => ?_, ?_, ?_⟩
  · rw [hYs] at hx ⊢
    by_cases hk : k < E.length
    · have hEk : E[k]? = some E[k] := List.getElem?_eq_getElem hk
      obtain ⟨s1, s2, s3, s4⟩ := hsz hEk
      have hp := prs_at D 0 E k E[k] hEk
      rw [← hY, hYs] at hp
      rw [hp] at hx
      injection hx with hx
      have hln : x.2.length = E[k] - (E.take k).getLastD 0 := by rw [← hx, List.length_drop, List.length_take, Nat.min_eq_left s4]
      have h1 : x.1 = (E.take k).getLastD 0 := by rw [← hx]
      rw [List.take_append_of_le_length (by omega)]
      obtain ⟨u1, u2⟩ := hsum k (by omega)
      refine ⟨by rw [u1, h1], ?_, by omega, by omega, by omega, ?_⟩
      · by_cases h0 : 0 < k
        · exact u2 h0
        · obtain rfl : k = 0 := by omega
          simp [shortL]
      · rw [hln, h1, show (E.take k).getLastD 0 + (E[k] - (E.take k).getLastD 0) = E[k] by omega, ← hx]
    · by_cases hr : E.getLastD 0 < D.length
      · rw [if_pos hr] at hx ⊢
        have hk2 : k = E.length := by
          have := (List.getElem?_eq_some_iff.1 hx).1
          rw [List.length_append, hlenE] at this
          simp at this
          omega
        subst hk2
        rw [List.getElem?_append_right (by omega), hlenE, Nat.sub_self] at hx
        simp only [List.getElem?_cons_zero, Option.some.injEq] at hx
        obtain ⟨u1, u2⟩ := hsum E.length (Nat.le_refl _)
        rw [List.take_append_of_le_length (by omega), u1, List.take_length]
        have h1 : x.1 = E.getLastD 0 := by rw [← hx]
        have h2 : x.2 = D.drop (E.getLastD 0) := by rw [← hx]
        refine ⟨h1, ?_, by rw [h2, List.length_drop]; omega, by rw [h2, List.length_drop]; show _ ≤ M; have : szA ⟨l, m, M⟩ [] D 0 D.length < M := hsl; omega, by rw [h1, h2, List.length_drop]; omega, ?_⟩
        · by_cases h0 : 0 < E.length
          · exact u2 h0
          · rw [show E.length = 0 by omega]; simp [shortL]
        · rw [h1, h2, List.length_drop, show E.getLastD 0 + (D.length - E.getLastD 0) = D.length by omega, List.take_length]
      · rw [if_neg hr, List.append_nil] at hx
        have := (List.getElem?_eq_some_iff.1 hx).1
        omega
  · obtain ⟨u1, -⟩ := hsum E.length (Nat.le_refl _)
    rw [List.take_of_length_le (by omega), List.take_length] at u1
    rw [hYs]
    by_cases hr : E.getLastD 0 < D.length
    · rw [if_pos hr, lensN_snoc, u1, List.length_drop]
      show _ + (D.length - _) = _
      omega
    · rw [if_neg hr, List.append_nil, u1]
      omega
  · constructor
    · intro h
      have h2 : lensN Y = D.length := by
        obtain ⟨u1, -⟩ := hsum E.length (Nat.le_refl _)
        rw [List.take_of_length_le (by omega), List.take_length] at u1
        rw [hYs]
        by_cases hr : E.getLastD 0 < D.length
        · rw [if_pos hr, lensN_snoc, u1, List.length_drop]
          show _ + (D.length - _) = _
          omega
        · rw [if_neg hr, List.append_nil, u1]
          omega
      rw [h] at h2
      simp [lensN, sumN] at h2
      exact List.eq_nil_of_length_eq_zero h2.symm
    · intro h
      subst h
      rw [hY, hE]
      simp [enA, prs]
end Go.Proofs.Ytcjpemkafncihaa
/- Cut. -/
set_option linter.unusedVariables false
set_option maxRecDepth 100000
namespace Go.Proofs.Ytcjpemkafncihaa
open Go.RowKit
attribute [local go_sem] Oper.semAt_some

theorem wpListIn_append_off {r m : Nat} {P : Program} {w : World} {ops : Array Oper} {rest : List Oper} {o : Oper} {a : Act} {Q : Exit → Act → World → Prop} (hL : ¬ LetsOut Q) (hgd : o.guard = none) (s x : Operand) (t : TypeId)
    (ho : o.op = .call { callee := .builtin .append, args := #[s, x], argTypes := #[t, t] })
    (B : Nat) (e : TypeId) (i : TypeInfo) (z : Value) (size bytes : Nat) (ht : P.underlying t = some (.slice e)) (hi : P.info? e = some i) (hz : i.zero = some z)
    (hsize : i.size = size) (hby : i.bytes = bytes) (hzs : z.cells.size = size)
    (v : Value) (n : Nat) (xs : List Value) (hs : a.eval s = v) (hown : OffRow w B e size v n xs) (xv : Value) (hx : a.eval x = xv) (k : Nat) (news : List Value) (hsrc : Src P size t xv k news w)
    (h63 : n + k ≤ maxLen) (hbytes : (n + k) * bytes ≤ 140737488355328) (hB : B ≤ w.heap.size)
    (h : ∀ v' w', OffRow w' B e size v' (n + k) (xs ++ news) → w.grownBy w' v.ownBlock → (v'.ownBlock = v.ownBlock ∨ v'.ownBlock = some w.heap.size) → wpListIn (Fence.wide.inRound r) m P ops Q rest (a.put o.dst v') w') : wpListIn (Fence.wide.inRound r) m P ops Q (o :: rest) a w :=
  wpListIn_plain hgd fun K hK => operIn_of_wp (fun ρ => by unfold Oper.semAt; simp [ho]) hL (fun a w h => hK a w h) (wp_append_off s x t ho B e i z size bytes ht hi hz hsize hby hzs v n xs hs hown xv hx k news hsrc h63 hbytes hB h)
theorem conf_c {w : World} {cb : Nat} {c : Conf} (h : w.heap[cb]? = some (.cells c.cells 23 (0, 0))) : w.cell? ⟨cb, 0, none⟩ = some (.int .i64 (c.f 0)) ∧ w.cell? ⟨cb, 1, none⟩ = some (.int .i64 (c.f 1)) ∧ w.cell? ⟨cb, 2, none⟩ = some (.int .i64 (c.f 2)) ∧ w.cell? ⟨cb, 3, none⟩ = some (.int .i64 (c.f 3)) ∧ w.cell? ⟨cb, 4, none⟩ = some (.int .i64 (c.f 4)) ∧ w.cell? ⟨cb, 5, none⟩ = some (.int .i64 (c.f 5)) ∧ w.cell? ⟨cb, 6, none⟩ = some (.int .i64 (c.f 6)) ∧ w.cell? ⟨cb, 7, none⟩ = some (.int .i64 (c.f 7)) ∧ w.cell? ⟨cb, 8, none⟩ = some (.int .i64 (c.f 8)) ∧ w.cell? ⟨cb, 9, none⟩ = some (.int .i64 (c.f 9)) ∧ w.cell? ⟨cb, 10, none⟩ = some (.int .i64 (c.f 10)) ∧ w.cell? ⟨cb, 11, none⟩ = some (.int .i64 (c.f 11)) := by
  refine ⟨?_, ?_, ?_, ?_, ?_, ?_, ?_, ?_, ?_, ?_, ?_, ?_⟩ <;> simp [World.cell?, h, Conf.cells]
/-- What Cut's loop keeps: the box of its row, the row. -/
structure CI (B gb : Nat) (w : World) (pr : List (Nat × List UInt8)) (S : Nat → Prop) (lv : Value) (W' : World) : Prop where
  hs : ∀ k, S k ↔ k = gb ∨ lv.ownBlock = some k
  hg : W'.heap[gb]? = some (.cells #[lv] 26 (0, 0))
  row : OwnN W' (gb + 1) lv (pr.map (·.2.length))
  bel : Below B w W'
theorem putObj_other {A : World} {l k : Nat} {o o' : Obj} (h : A.heap[l]? = some o) (hk : k ≠ l) : (A.putObj l o').heap[k]? = A.heap[k]? := World.putObj_heap_other hk
set_option maxHeartbeats 8000000 in
theorem chk_Cut {c : Conf} {l m M : Nat} (h3 : Hid (c.Nat3 l m M)) {Qd : Nat → Prop} {v : Value} {D : List UInt8} {w : World} (h : Hid (BsV Qd w v D)) (hD : D.length ≤ 1000000) : Calls Try.prog 9 #[.agg c.cells, v] w fun e w' => ∃ nv, e = .returned (.tuple #[nv, .int .i64 0]) ∧ OwnN w' w.heap.size nv (cutF ⟨l, m, M⟩ [] 0 D) ∧ Below w.heap.size w w' := by
  obtain ⟨va, vc, rfl⟩ := h.out.slice
  obtain ⟨B, hB⟩ : ∃ B, B = w.heap.size := ⟨_, rfl⟩
  rw [← hB]
  have HB := Lib.hid hB
  have HCH := Lib.hid (fun W => chk_Check c W)
  rw [Conf.not_ok h3.out] at HCH
  obtain ⟨w1, hw1⟩ : ∃ w1, w.alloc (.cells c.cells 23) = w1 := ⟨_, rfl⟩
  have K1 := Lib.hid (show Below B w w1 by rw [← hw1, hB]; exact (Below.refl _ _).alloc (Nat.le_refl _) _)
  have X1 := Lib.hid (show w1.heap[B]? = some (.cells c.cells 23 (0, 0)) by rw [← hw1, hB]; exact heap_new w _)
  have HW1 := Lib.hid hw1
  clear hw1 hB
  obtain ⟨q0, q1, q2, q3, q4, q5, q6, q7, q8, q9, q10, q11⟩ := conf_c X1.out
  obtain ⟨i0, hi0, hz0, hz1, hz2⟩ := info_parts infoInt
  have HI := Lib.hid (And.intro hi0 (And.intro hz0 (And.intro hz1 hz2)))
  clear hi0 hz0 hz1 hz2
  refine (callsIn_wide (n := 5)).1 ?_
  refine callsIn_of_wp_marks Try.func9 rfl trivial ?_ rfl
  simp only [Try.ntmps9, List.size_toArray, List.length_cons, List.length_nil, Nat.reduceAdd, Nat.reduceSub, Array.replicate_succ, Array.replicate_zero, List.push_toArray, List.append_toArray, List.nil_append, List.cons_append]
  refine (wpIn_wide (n := 5)).2 ?_
  go_upto_region 1 with (fail)
  rw [HW1.out, ← HB.out]
  go_wp2_with fail
  refine (HCH.out w1).mono ?_
  rintro e w2 ⟨rfl, k2⟩
  have K2 := Lib.hid (K1.out.trans (k2.mono (Nat.le_of_lt (heap_lt X1.out))))
  have X2 := Lib.hid ((k2.block B (heap_lt X1.out)).trans X1.out)
  clear k2 q0 q1 q2 q3 q4 q5 q6 q7 q8 q9 q10 q11
  simp only [cond_true]
  obtain ⟨w3, hw3⟩ : ∃ w3, w2.alloc (.cells #[.slice none 0 0] 26) = w3 := ⟨_, rfl⟩
  obtain ⟨gb, hgb⟩ : ∃ gb, gb = w2.heap.size := ⟨_, rfl⟩
  have k3 : Below w2.heap.size w2 w3 := by rw [← hw3]; exact (Below.refl _ _).alloc (Nat.le_refl _) _
  have G3 := Lib.hid (show w3.heap[gb]? = some (.cells #[.slice none 0 0] 26 (0, 0)) by rw [← hw3, hgb]; exact heap_new w2 _)
  have K3 := Lib.hid (K2.out.trans (k3.mono (by have := heap_lt X2.out; omega)))
  have X3 := Lib.hid ((k3.block B (heap_lt X2.out)).trans X2.out)
  have HW3 := Lib.hid hw3
  have HGB := Lib.hid hgb
  have HBG := Lib.hid (show B < gb by rw [hgb]; exact heap_lt X2.out)
  clear hw3 k3 hgb
  obtain ⟨q0, q1, q2, q3, q4, q5, q6, q7, q8, q9, q10, q11⟩ := conf_c X3.out
  go_upto_region 5 with (fail)
  rw [HW3.out, ← HGB.out]
  go_wp2_with fail
  have HD3 := Lib.hid (h.out.below (HB.out ▸ K3.out))
  refine (chk_Parts (c := c) HD3 (by omega)).mono ?_
  rintro e w5 ⟨cb, xb, v', rfl, hP5, hcb, hxb, hv5, k5⟩
  have K5 := Lib.hid (K3.out.trans (k5.mono (by have := heap_lt X3.out; omega)))
  have G5 := Lib.hid ((k5.block gb (heap_lt G3.out)).trans G3.out)
  have P5 := Lib.hid hP5
  have HF5 := Lib.hid (show ∀ k, PFs cb xb v' k → gb < k from fun k hk => by
    have := heap_lt G3.out
    rcases hk with rfl | rfl | hk
    · omega
    · omega
    · have := hv5 k hk; omega)
  have HZ5 := Lib.hid (show gb < w5.heap.size from heap_lt G5.out)
  clear q0 q1 q2 q3 q4 q5 q6 q7 q8 q9 q10 q11 hP5 hcb hxb hv5 k5 K1 K2 K3 X1 X2 X3 G3 HW1 HW3 HD3
  go_wp2_with fail
  have HST := Lib.hid (parts_stops 4 cb xb h3 v' D hD)
  obtain ⟨Y, hY⟩ : ∃ Y, Y = prs D 0 (enA ⟨l, m, M⟩ [] D 0 D.length) := ⟨_, rfl⟩
  rw [← hY] at HST
  have HY := Lib.hid hY
  clear hY
  have HYL := Lib.hid (show Y.length ≤ 1000001 by
    have h1 := cut_prs ⟨l, m, M⟩ D
    have h2 := cutF_len ⟨l, m, M⟩ D [] 0
    rw [← h1, List.length_map, ← HY.out] at h2
    omega)
  refine (wpIn_wide (n := 5)).1 ?_
  refine wpIn_rangeFunc_sh (α := Nat × List UInt8) (n := 5) (by omega) (gf := 24) (lb := #[.pointer (some ⟨cb, 0, none⟩), .pointer (some ⟨xb, 0, none⟩)]) rfl (enters_of Try.func24 (by kernel_rfl) rfl)
    (Kp := KpT) (fun _ _ _ _ _ => trivial) (fun _ _ _ _ _ => trivial) (fun _ _ => trivial) HST.out (fun k hk => P5.out.all k hk)
    (fun k A C hA hAC => hA.keep hAC (fun i hi hp => by have := P5.out.all i hp; omega)) (fun A C _ _ => trivial)
    (fun x args A hR => by obtain ⟨u, rfl, _⟩ := hR; rfl) (fun x args A l r r' hR hl => by obtain ⟨u, h1, h2⟩ := hR; exact ⟨u, h1, h2.putLoop hl⟩)
    (fun pr S A => ∃ lv, CI B gb w pr S lv A) (fun _ _ _ => False) (fun k => k = gb)
    (fun k hk => ⟨by rw [hk]; exact HZ5.out, fun hp => by have := HF5.out k hp; omega⟩)
    (fun pr S A C Sx hA hAC _ hSx => by
      obtain ⟨lv, hI⟩ := hA
      refine ⟨lv, hI.hs, (hAC.block gb (heap_lt hI.hg) fun hs => (hSx gb hs).2 ((hI.hs gb).2 (.inl rfl))).trans hI.hg, OffRow.kept hI.row fun j hj => hAC.block j (OffRow.lt hI.row j hj).2 fun hs => (hSx j hs).2 ((hI.hs j).2 (.inr hj)), hI.bel.trans (hAC.below (fun j _ hj => ?_) (by have := heap_lt hI.hg; have := HBG.out; omega))⟩
      rcases (hSx j hj).1 with hp | hp
      · have := HF5.out j hp; have := HBG.out; omega
      · have := HZ5.out; have := HBG.out; omega)
    (fun cc pr A C hA _ => hA.elim)
    ⟨.slice none 0 0, ⟨fun k => by simp [Value.ownBlock], G5.out, OffRow.nil _ _ _ _, K5.out⟩⟩ P5.out
    (fun t args => t.setIfInBounds 9 (args.getD 1 undef)) ?assign ?body ?done ?stop
  case assign =>
    intro lq x args W' K hR hK
    obtain ⟨u, rfl, _⟩ := hR
    gi_wp2
    simp at hK
    exact hK
  case body =>
    rintro lq pr S x args W' ⟨lv, hI⟩ hnF hES hx ⟨u, rfl, hu⟩ hsz
    obtain ⟨ua, uc, rfl⟩ := hu.slice
    obtain ⟨la, lc, rfl⟩ := OffRow.slice hI.row
    have HI1 := Lib.hid hI
    have HES := Lib.hid hES
    have HNF := Lib.hid hnF
    have hpl : pr.length < Y.length := (List.getElem?_eq_some_iff.1 hx).1
    obtain ⟨n, hn⟩ : ∃ n, n = (pr.map (·.2.length)).length := ⟨_, rfl⟩
    have hn2 : n ≤ 1000001 := by rw [hn, List.length_map]; have := HYL.out; omega
    obtain ⟨L, hL⟩ : ∃ L, L = pr.map (·.2.length) := ⟨_, rfl⟩
    obtain ⟨z, hz⟩ : ∃ z, z = x.2.length := ⟨_, rfl⟩
    have HLL := Lib.hid (show (pr ++ [x]).map (·.2.length) = L ++ [z] by rw [List.map_append, hL, hz]; rfl)
    have HLN := Lib.hid (show n = L.length by rw [hn, hL])
    rw [← hn] at HI1
    rw [← hz]
    have y0 : W'.cell? ⟨gb, 0, none⟩ = some (.slice la n lc) := by simp [World.cell?, HI1.out.hg]
    have HR := Lib.hid (show OffRow W' (gb + 1) 3 1 (.slice la n lc) n (ncells L) from by have := HI1.out.row; unfold OwnN at this; rw [← hn, ← hL] at this; exact this)
    have HGZ := Lib.hid (show gb < W'.heap.size from heap_lt HI1.out.hg)
    clear hI hES hnF hx hu hpl hn hL hz
    obtain ⟨hi0, hz0, hz1, hz2⟩ := HI.out
    gi_wp2_with (gi_at_builtin; refine wpListIn_append_off (fun ⟨_, _, h⟩ => h) rfl (.tmp 20) (.tmp 23) 26 rfl (gb + 1) 3 i0 _ 1 8 Try.underlying26 hi0 hz0 hz1 hz2 rfl (.slice la n lc) n (ncells L) rfl ?c1 (.slice (some ⟨W'.heap.size, 0, none⟩) 1 1) rfl 1 [.int .i64 (z : Int)] ?c2 ?c3 ?c4 ?c5 ?_)
    case c1 => exact HR.out.allocd _
    case c2 => exact src_block (size := 1) (cs := #[.int .i64 (z : Int)]) Try.underlying26 (heap_new _ _) 1 1 rfl (by intro u hu; simp at hu; subst hu; rfl)
    case c3 => unfold maxLen; omega
    case c4 => omega
    case c5 => have := HGZ.out; simp; omega
    intro v7 w7 hr7 hg7 hat7
    obtain ⟨a7, c7, rfl⟩ := OffRow.slice hr7
    have hown : ∀ k, (Value.slice la n lc).ownBlock = some k → k ≠ gb ∧ k < W'.heap.size := fun k hk => by have := OffRow.lt HR.out k hk; omega
    have hgb7 : w7.heap[gb]? = some (.cells #[.slice la n lc] 26 (0, 0)) := by
      rw [hg7.block gb (by have := HGZ.out; simp; omega) (fun e => (hown gb e.symm).1 rfl)]
      exact (Below.heap_alloc _ _ _ HGZ.out).trans HI1.out.hg
    have hv7 : (Value.slice a7 (n + 1) c7).ownBlock ≠ some gb := fun e => by
      have := (OffRow.lt hr7 gb e).1
      omega
    have HON := Lib.hid (show Only S W' (w7.setCell ⟨gb, 0, none⟩ (.slice a7 (n + 1) c7)) from ((((Only.refl S W').alloc _).grown2 hg7 (fun k hk => .inr ((HI1.out.hs k).2 (.inr hk)))).setCell (p := ⟨gb, 0, none⟩) (.inl ((HI1.out.hs gb).2 (.inl rfl))) _))
    have HB7 := Lib.hid (show Below B w (w7.setCell ⟨gb, 0, none⟩ (.slice a7 (n + 1) c7)) from ((HI1.out.bel.alloc (by have := HGZ.out; have := HBG.out; omega) _).grown hg7 (by have := HGZ.out; have := HBG.out; simp; omega) (fun j hj => by have := OffRow.lt HR.out j hj; have := HBG.out; omega)).setCell (p := ⟨gb, 0, none⟩) (by have := HBG.out; show B ≤ gb; omega) _)
    have HR7 := Lib.hid hr7
    have HV7 := Lib.hid hv7
    have HAT := Lib.hid hat7
    have HGB7 := Lib.hid hgb7
    have z1 : w7.cell? ⟨gb, 0, none⟩ = some (.slice la n lc) := by simp [World.cell?, hgb7]
    have z2 : w7.frozen? ⟨gb, 0, none⟩ = false := by simp [World.frozen?, hgb7]
    clear hr7 hg7 hat7 hv7 hgb7 hi0 hz0 hz1 hz2 y0
    gi_wp2
    refine ⟨HON.out.mono fun k _ hk => .inl hk, HES.out.keep HON.out HNF.out, fun k => k = gb ∨ (Value.slice a7 (n + 1) c7).ownBlock = some k, fun k hk => ?_, .slice a7 (n + 1) c7, ⟨fun k => Iff.rfl, by rw [heap_set HGB7.out]; simp, ?_, HB7.out⟩⟩
    · rcases hk with rfl | hk
      · exact ⟨.inl ((HI1.out.hs _).2 (.inl rfl)), by have := heap_lt HGB7.out; simpa using this⟩
      · refine ⟨?_, by have := (OffRow.lt HR7.out k hk).2; simpa using this⟩
        rcases HAT.out with h | h
        · exact .inl ((HI1.out.hs k).2 (.inr (by rw [← h]; exact hk)))
        · rw [h] at hk
          injection hk with hk
          right
          rw [← hk]
          simp
    · rw [HLL.out]
      unfold OwnN
      rw [List.length_append, List.length_singleton, ncells_snoc, ← HLN.out]
      exact OffRow.kept HR7.out fun j hj => heap_set_other (fun e => HV7.out (by rw [← e]; exact hj)) _
  case done =>
    rintro Dm S V hDm ⟨lv, hI⟩ _ hK hsd
    have HI1 := Lib.hid hI
    have HK := Lib.hid hK
    have HDM := Lib.hid hDm
    obtain ⟨la, lc, rfl⟩ := OffRow.slice hI.row
    have y0 : V.cell? ⟨gb, 0, none⟩ = some (.slice la (Y.map (·.2.length)).length lc) := by simp [World.cell?, hI.hg]
    clear hI hK hDm
    gi_wp2
    go_wp2_with fail
    have HCP := Lib.hid (show cutF ⟨l, m, M⟩ [] 0 D = Y.map (·.2.length) by rw [HY.out, cut_prs])
    refine ⟨by simp, .inl ⟨_, _, rfl, run_takeDeferred HK.out, ?_⟩⟩
    refine ⟨.tuple #[.slice la Y.length lc, .int .i64 0], ?_, ⟨.slice la Y.length lc, rfl, ?_, ?_⟩⟩
    · simp [results, Try.f9, go_sem]
    · rw [HCP.out]
      have hr := HI1.out.row
      unfold OwnN at hr ⊢
      have e : (Value.slice la Y.length lc) = .slice la (Y.map (·.2.length)).length lc := by rw [List.length_map]
      rw [e]
      exact OffRow.weak (OffRow.kept hr fun j hj => World.putObj_heap_other (fun e => hsd j ((HI1.out.hs j).2 (.inr hj)) e)) (by have := HBG.out; omega)
    · exact HI1.out.bel.grown (grownBy_putObj' _ Dm (.deferred none)) (by have := heap_lt HI1.out.hg; have := HBG.out; omega) (fun k e => by cases e; have := HDM.out; have := HZ5.out; have := HBG.out; omega)
  case stop =>
    rintro Dm cc pr V hDm hA hK
    exact hA.elim
set_option maxHeartbeats 8000000 in
/-- A conf that may not be. -/
theorem chk_Cut_no {c : Conf} (hc : c.ok = false) (v : Value) (w : World) : Calls Try.prog 9 #[.agg c.cells, v] w fun e w' => e = .returned (.tuple #[.slice none 0 0, .int .i64 1]) ∧ Below w.heap.size w w' := by
  obtain ⟨B, hB⟩ : ∃ B, B = w.heap.size := ⟨_, rfl⟩
  rw [← hB]
  have HB := Lib.hid hB
  have HCH := Lib.hid (fun W => chk_Check c W)
  rw [hc] at HCH
  obtain ⟨w1, hw1⟩ : ∃ w1, w.alloc (.cells c.cells 23) = w1 := ⟨_, rfl⟩
  have K1 := Lib.hid (show Below B w w1 by rw [← hw1, hB]; exact (Below.refl _ _).alloc (Nat.le_refl _) _)
  have X1 := Lib.hid (show w1.heap[B]? = some (.cells c.cells 23 (0, 0)) by rw [← hw1, hB]; exact heap_new w _)
  have HW1 := Lib.hid hw1
  clear hw1 hB
  obtain ⟨q0, q1, q2, q3, q4, q5, q6, q7, q8, q9, q10, q11⟩ := conf_c X1.out
  refine (callsIn_wide (n := 5)).1 ?_
  refine callsIn_of_wp_marks Try.func9 rfl trivial ?_ rfl
  simp only [Try.ntmps9, List.size_toArray, List.length_cons, List.length_nil, Nat.reduceAdd, Nat.reduceSub, Array.replicate_succ, Array.replicate_zero, List.push_toArray, List.append_toArray, List.nil_append, List.cons_append]
  refine (wpIn_wide (n := 5)).2 ?_
  go_upto_region 1 with (fail)
  rw [HW1.out, ← HB.out]
  go_wp2_with fail
  refine (HCH.out w1).mono ?_
  rintro e w2 ⟨rfl, k2⟩
  have K2 := Lib.hid (K1.out.trans (k2.mono (Nat.le_of_lt (heap_lt X1.out))))
  clear k2 q0 q1 q2 q3 q4 q5 q6 q7 q8 q9 q10 q11
  simp only [cond_false]
  go_wp2_with fail
  refine ⟨.tuple #[.slice none 0 0, .int .i64 1], ?_, rfl, K2.out⟩
  simp [results, Try.f9, go_sem]
end Go.Proofs.Ytcjpemkafncihaa
/- The law's own look: the document's examples; equal lists of numbers. -/
set_option linter.unusedVariables false
set_option maxRecDepth 100000
namespace Go.Proofs.Ytcjpemkafncihaa
open Go.RowKit

set_option maxHeartbeats 2000000 in
theorem same_ints {va vb : Value} {L : List Nat} {w : World} (ha : Hid (NsV w va L)) (hb : Hid (NsV w vb L)) (hl : L.length ≤ 1000000000) :
    Calls Try.prog 12 #[va, vb] w fun e w' => e = .returned (.bool true) ∧ Below w.heap.size w w' := by
  obtain ⟨a, ca, rfl⟩ := ha.out.slice
  obtain ⟨b, cb, rfl⟩ := hb.out.slice
  obtain ⟨len, hlen⟩ : ∃ len, len = L.length := ⟨_, rfl⟩
  rw [← hlen] at ha hb hl ⊢
  have HL := Lib.hid hlen
  clear hlen
  go_enter Try.func12, Try.ntmps12
  go_wp2_with fail
  go_loopw [5] (fun i wr => ∃ k : Nat, k ≤ len ∧ i = .int .i64 k ∧ Hid (Below w.heap.size w wr)) (fun i wr => len - (intOf i).toNat)
  case atStart => exact ⟨0, Nat.zero_le _, rfl, Lib.hid (Below.refl _ _)⟩
  case round =>
    obtain ⟨k, hk, rfl, hK⟩ := hrel
    by_cases hlt : k < len
    · obtain ⟨t, ht⟩ : ∃ t, L[k]? = some t := ⟨_, List.getElem?_eq_getElem (by have := HL.out; omega)⟩
      obtain ⟨b0, off0, rfl, _, c0⟩ := (ha.out.below hK.out).at ht
      obtain ⟨b1, off1, rfl, _, c1⟩ := (hb.out.below hK.out).at ht
      have hlt2 : (k : Int) < (len : Int) := by omega
      clear ht
      go_wp2_with fail
      go_quiet (fail)
      go_wp2
      go_roundw
      case rel => exact ⟨k + 1, by omega, by go_num, Lib.hid (below_drewN hK.out _)⟩
      case measure => simp [intOf]; omega
    · go_wp2
      go_ret
      exact ⟨rfl, hK.out⟩
def awakeC : Conf := ⟨fun i => if i = 8 then 1 else if i = 9 then 1 else if i = 10 then 9 else 0, fun i => by split <;> (try split) <;> (try split) <;> omega⟩
def zeroC : Conf := ⟨fun _ => 0, fun i => by omega⟩
theorem awakeC_3 : awakeC.Nat3 1 1 9 := ⟨rfl, rfl, rfl, by omega, by omega, by omega, by omega, by omega⟩
theorem zeroC_no : zeroC.ok = false := rfl
theorem cut_abc : cutF ⟨1, 1, 9⟩ [] 0 [97, 98, 99] = [1, 1, 1] := by decide
set_option maxHeartbeats 4000000 in
theorem law_awake16 (w : World) : Calls Try.prog 8 #[] w fun e w' => e = .returned (.bool true) ∧ Below w.heap.size w w' := by
  obtain ⟨w1, hw1⟩ : ∃ w1, w1 = w.alloc (.cells #[.int .u8 97, .int .u8 98, .int .u8 99] 5 (3, 4)) := ⟨_, rfl⟩
  have K1 := Lib.hid (show Below w.heap.size w w1 by rw [hw1]; exact (Below.refl _ _).alloc (Nat.le_refl _) _)
  have hb1 : w1.heap[w.heap.size]? = some (.cells #[.int .u8 97, .int .u8 98, .int .u8 99] 5 (3, 4)) := by rw [hw1]; exact heap_new w _
  have D1 := Lib.hid (show BsV (fun _ => True) w1 (.slice (some ⟨w.heap.size, 0, none⟩) 3 3) [97, 98, 99] from .inr ⟨⟨w.heap.size, 0, none⟩, 3, rfl, by simp, .inr ⟨w.heap.size, 0, rfl, trivial, heap_lt hb1, fun k hk => by
    have : k = 0 ∨ k = 1 ∨ k = 2 := by simp at hk; omega
    rcases this with rfl | rfl | rfl <;> simp [World.cell?, hb1, byteV]⟩⟩)
  have HC1 := Lib.hid (chk_Cut (c := awakeC) (Lib.hid awakeC_3) D1 (by simp))
  rw [cut_abc] at HC1
  have HC2 := Lib.hid (fun W => chk_Cut_no zeroC_no (.slice none 0 0) W)
  have HW1 := Lib.hid hw1
  clear hw1 hb1
  have hcv : (convert 24 24 (.slice (some ⟨w.heap.size, 0, none⟩) 3 3)).run Try.prog (w.alloc (.cells #[.int .u8 97, .int .u8 98, .int .u8 99] 5)) = .ok (.slice (some ⟨w.heap.size, 0, none⟩) 3 3) w1 := by rw [HW1.out]; exact Lib.run_convert_bytes_const w 24 5 #[.int .u8 97, .int .u8 98, .int .u8 99] 3 3 Try.underlying24 Try.underlying5
  go_enter Try.func8, Try.ntmps8
  go_wp2_with fail
  refine HC1.out.mono ?_
  rintro e w2 ⟨nv, rfl, hn, k2⟩
  have K2 := Lib.hid (K1.out.trans (k2.mono K1.out.size))
  have N2 := Lib.hid hn.ns
  clear hn k2
  obtain ⟨na, nc, rfl⟩ := N2.out.slice
  go_wp2_with fail
  refine (HC2.out w2).mono ?_
  rintro e w3 ⟨rfl, k3⟩
  have K3 := Lib.hid (K2.out.trans (k3.mono K2.out.size))
  have N3 := Lib.hid (N2.out.below k3)
  clear k3
  obtain ⟨w4, hw4⟩ : ∃ w4, w4 = w3.alloc (.cells #[.int .i64 1, .int .i64 1, .int .i64 1] 3) := ⟨_, rfl⟩
  have k4 : Below w3.heap.size w3 w4 := by rw [hw4]; exact (Below.refl _ _).alloc (Nat.le_refl _) _
  have hb4 : w4.heap[w3.heap.size]? = some (.cells #[.int .i64 1, .int .i64 1, .int .i64 1] 3 (0, 0)) := by rw [hw4]; exact heap_new w3 _
  have N4 := Lib.hid (show NsV w4 (.slice (some ⟨w3.heap.size, 0, none⟩) 3 3) [1, 1, 1] from ⟨_, 3, rfl, w3.heap.size, 0, .inr rfl, fun k hk => ⟨heap_lt hb4, by
    have : k = 0 ∨ k = 1 ∨ k = 2 := by simp at hk; omega
    rcases this with rfl | rfl | rfl <;> simp [World.cell?, hb4]⟩⟩)
  have HSI := Lib.hid (same_ints (Lib.hid (N3.out.below k4)) N4 (by simp))
  have K4 := Lib.hid (K3.out.trans (k4.mono K3.out.size))
  have HW4 := Lib.hid hw4
  clear k4 hb4 hw4
  go_wp2_with fail
  rw [← HW4.out]
  refine HSI.out.mono ?_
  rintro e w5 ⟨rfl, k5⟩
  have K5 := Lib.hid (K4.out.trans (k5.mono K4.out.size))
  clear k5
  go_wp2_with fail
  go_ret
  exact ⟨rfl, K5.out⟩
end Go.Proofs.Ytcjpemkafncihaa
/- A conf that may be, of any numbers. -/
set_option linter.unusedVariables false
set_option maxRecDepth 100000
namespace Go.Proofs.Ytcjpemkafncihaa
open Go.RowKit

/-- A conf made of its twelve numbers. -/
def Conf.with3 (c : Conf) (l m M : Nat) (hl : l ≤ 5000) (hm : m ≤ 70000) (hM : M ≤ 5000) : Conf := ⟨fun i => if i = 8 then (l : Int) else if i = 9 then (m : Int) else if i = 10 then (M : Int) else c.f i, fun i => by
  by_cases h8 : i = 8
  · simp only [h8, if_true]; omega
  · by_cases h9 : i = 9
    · simp only [h9, if_true, if_neg (show ¬ (9 : Nat) = 8 by omega)]; omega
    · by_cases h10 : i = 10
      · simp only [h10, if_true, if_neg (show ¬ (10 : Nat) = 8 by omega), if_neg (show ¬ (10 : Nat) = 9 by omega)]; omega
      · simp only [if_neg h8, if_neg h9, if_neg h10]; exact c.fit i⟩
def BoxC (b : Nat) (x : Nat → Int) (w : World) : Prop := w.heap[b]? = some (.cells #[.int .i64 (x 0), .int .i64 (x 1), .int .i64 (x 2), .int .i64 (x 3), .int .i64 (x 4), .int .i64 (x 5), .int .i64 (x 6), .int .i64 (x 7), .int .i64 (x 8), .int .i64 (x 9), .int .i64 (x 10), .int .i64 (x 11)] 23 (0, 0))
theorem rem_in (x : Int) (k : Nat) (hk : 0 < k) (hk2 : k ≤ 1000) : ∃ d : Nat, d < k ∧ wrap64 ((IntKind.u64.wrap x).tmod (k : Int)) = (d : Int) := by
  have h0 : 0 ≤ IntKind.u64.wrap x := by simp [IntKind.wrap, IntKind.signed, IntKind.bits]; omega
  rw [Int.tmod_eq_emod_of_nonneg h0]
  refine ⟨(IntKind.u64.wrap x % (k : Int)).toNat, ?_, ?_⟩
  · have h1 := Int.emod_lt_of_pos (IntKind.u64.wrap x) (show (0 : Int) < (k : Int) by omega)
    have h2 := Int.emod_nonneg (IntKind.u64.wrap x) (show (k : Int) ≠ 0 by omega)
    omega
  · have h1 := Int.emod_lt_of_pos (IntKind.u64.wrap x) (show (0 : Int) < (k : Int) by omega)
    have h2 := Int.emod_nonneg (IntKind.u64.wrap x) (show (k : Int) ≠ 0 by omega)
    rw [IntWalk.wrap64_in _ (by omega)]
    omega
theorem put12 {w : World} {b : Nat} {t : TypeId} {x0 x1 x2 x3 x4 x5 x6 x7 x8 x9 x10 x11 : Value} (v0 v1 v2 v3 v4 v5 v6 v7 v8 v9 v10 v11 : Value) (h : w.heap[b]? = some (.cells #[x0, x1, x2, x3, x4, x5, x6, x7, x8, x9, x10, x11] t (0, 0))) : ((((((((((((w.setCell ⟨b, 0, none⟩ v0).setCell ⟨b, 1, none⟩ v1).setCell ⟨b, 2, none⟩ v2).setCell ⟨b, 3, none⟩ v3).setCell ⟨b, 4, none⟩ v4).setCell ⟨b, 5, none⟩ v5).setCell ⟨b, 6, none⟩ v6).setCell ⟨b, 7, none⟩ v7).setCell ⟨b, 8, none⟩ v8).setCell ⟨b, 9, none⟩ v9).setCell ⟨b, 10, none⟩ v10).setCell ⟨b, 11, none⟩ v11).heap[b]? = some (.cells #[v0, v1, v2, v3, v4, v5, v6, v7, v8, v9, v10, v11] t (0, 0)) := by
  have h0 : (w.setCell ⟨b, 0, none⟩ v0).heap[b]? = some (.cells #[v0, x1, x2, x3, x4, x5, x6, x7, x8, x9, x10, x11] t (0, 0)) := heap_set (o := 0) h v0
  have h1 : ((w.setCell ⟨b, 0, none⟩ v0).setCell ⟨b, 1, none⟩ v1).heap[b]? = some (.cells #[v0, v1, x2, x3, x4, x5, x6, x7, x8, x9, x10, x11] t (0, 0)) := heap_set (o := 1) h0 v1
  have h2 : (((w.setCell ⟨b, 0, none⟩ v0).setCell ⟨b, 1, none⟩ v1).setCell ⟨b, 2, none⟩ v2).heap[b]? = some (.cells #[v0, v1, v2, x3, x4, x5, x6, x7, x8, x9, x10, x11] t (0, 0)) := heap_set (o := 2) h1 v2
  have h3 : ((((w.setCell ⟨b, 0, none⟩ v0).setCell ⟨b, 1, none⟩ v1).setCell ⟨b, 2, none⟩ v2).setCell ⟨b, 3, none⟩ v3).heap[b]? = some (.cells #[v0, v1, v2, v3, x4, x5, x6, x7, x8, x9, x10, x11] t (0, 0)) := heap_set (o := 3) h2 v3
  have h4 : (((((w.setCell ⟨b, 0, none⟩ v0).setCell ⟨b, 1, none⟩ v1).setCell ⟨b, 2, none⟩ v2).setCell ⟨b, 3, none⟩ v3).setCell ⟨b, 4, none⟩ v4).heap[b]? = some (.cells #[v0, v1, v2, v3, v4, x5, x6, x7, x8, x9, x10, x11] t (0, 0)) := heap_set (o := 4) h3 v4
  have h5 : ((((((w.setCell ⟨b, 0, none⟩ v0).setCell ⟨b, 1, none⟩ v1).setCell ⟨b, 2, none⟩ v2).setCell ⟨b, 3, none⟩ v3).setCell ⟨b, 4, none⟩ v4).setCell ⟨b, 5, none⟩ v5).heap[b]? = some (.cells #[v0, v1, v2, v3, v4, v5, x6, x7, x8, x9, x10, x11] t (0, 0)) := heap_set (o := 5) h4 v5
  have h6 : (((((((w.setCell ⟨b, 0, none⟩ v0).setCell ⟨b, 1, none⟩ v1).setCell ⟨b, 2, none⟩ v2).setCell ⟨b, 3, none⟩ v3).setCell ⟨b, 4, none⟩ v4).setCell ⟨b, 5, none⟩ v5).setCell ⟨b, 6, none⟩ v6).heap[b]? = some (.cells #[v0, v1, v2, v3, v4, v5, v6, x7, x8, x9, x10, x11] t (0, 0)) := heap_set (o := 6) h5 v6
  have h7 : ((((((((w.setCell ⟨b, 0, none⟩ v0).setCell ⟨b, 1, none⟩ v1).setCell ⟨b, 2, none⟩ v2).setCell ⟨b, 3, none⟩ v3).setCell ⟨b, 4, none⟩ v4).setCell ⟨b, 5, none⟩ v5).setCell ⟨b, 6, none⟩ v6).setCell ⟨b, 7, none⟩ v7).heap[b]? = some (.cells #[v0, v1, v2, v3, v4, v5, v6, v7, x8, x9, x10, x11] t (0, 0)) := heap_set (o := 7) h6 v7
  have h8 : (((((((((w.setCell ⟨b, 0, none⟩ v0).setCell ⟨b, 1, none⟩ v1).setCell ⟨b, 2, none⟩ v2).setCell ⟨b, 3, none⟩ v3).setCell ⟨b, 4, none⟩ v4).setCell ⟨b, 5, none⟩ v5).setCell ⟨b, 6, none⟩ v6).setCell ⟨b, 7, none⟩ v7).setCell ⟨b, 8, none⟩ v8).heap[b]? = some (.cells #[v0, v1, v2, v3, v4, v5, v6, v7, v8, x9, x10, x11] t (0, 0)) := heap_set (o := 8) h7 v8
  have h9 : ((((((((((w.setCell ⟨b, 0, none⟩ v0).setCell ⟨b, 1, none⟩ v1).setCell ⟨b, 2, none⟩ v2).setCell ⟨b, 3, none⟩ v3).setCell ⟨b, 4, none⟩ v4).setCell ⟨b, 5, none⟩ v5).setCell ⟨b, 6, none⟩ v6).setCell ⟨b, 7, none⟩ v7).setCell ⟨b, 8, none⟩ v8).setCell ⟨b, 9, none⟩ v9).heap[b]? = some (.cells #[v0, v1, v2, v3, v4, v5, v6, v7, v8, v9, x10, x11] t (0, 0)) := heap_set (o := 9) h8 v9
  have h10 : (((((((((((w.setCell ⟨b, 0, none⟩ v0).setCell ⟨b, 1, none⟩ v1).setCell ⟨b, 2, none⟩ v2).setCell ⟨b, 3, none⟩ v3).setCell ⟨b, 4, none⟩ v4).setCell ⟨b, 5, none⟩ v5).setCell ⟨b, 6, none⟩ v6).setCell ⟨b, 7, none⟩ v7).setCell ⟨b, 8, none⟩ v8).setCell ⟨b, 9, none⟩ v9).setCell ⟨b, 10, none⟩ v10).heap[b]? = some (.cells #[v0, v1, v2, v3, v4, v5, v6, v7, v8, v9, v10, x11] t (0, 0)) := heap_set (o := 10) h9 v10
  have h11 : ((((((((((((w.setCell ⟨b, 0, none⟩ v0).setCell ⟨b, 1, none⟩ v1).setCell ⟨b, 2, none⟩ v2).setCell ⟨b, 3, none⟩ v3).setCell ⟨b, 4, none⟩ v4).setCell ⟨b, 5, none⟩ v5).setCell ⟨b, 6, none⟩ v6).setCell ⟨b, 7, none⟩ v7).setCell ⟨b, 8, none⟩ v8).setCell ⟨b, 9, none⟩ v9).setCell ⟨b, 10, none⟩ v10).setCell ⟨b, 11, none⟩ v11).heap[b]? = some (.cells #[v0, v1, v2, v3, v4, v5, v6, v7, v8, v9, v10, v11] t (0, 0)) := heap_set (o := 11) h10 v11
  exact h11
set_option maxHeartbeats 4000000 in
theorem law_right (c : Conf) (w : World) : Calls Try.prog 14 #[.agg c.cells] w fun e w' => ∃ (c' : Conf) (l m M : Nat), e = .returned (.agg c'.cells) ∧ c'.Nat3 l m M ∧ Below w.heap.size w w' := by
  obtain ⟨B, hB⟩ : ∃ B, B = w.heap.size := ⟨_, rfl⟩
  rw [← hB]
  have HB := Lib.hid hB
  obtain ⟨wa, hwa⟩ : ∃ wa, w.alloc (.cells c.cells 23) = wa := ⟨_, rfl⟩
  obtain ⟨wb, hwb⟩ : ∃ wb, wa.alloc (.cells #[.int .i64 0, .int .i64 0, .int .i64 0, .int .i64 0, .int .i64 0, .int .i64 0, .int .i64 0, .int .i64 0, .int .i64 0, .int .i64 0, .int .i64 0, .int .i64 0] 23) = wb := ⟨_, rfl⟩
  have za : wa.heap.size = B + 1 := by rw [← hwa, hB]; simp
  have ba : Below B w wa := by rw [← hwa, hB]; exact (Below.refl _ _).alloc (Nat.le_refl _) _
  have bb : Below wa.heap.size wa wb := by rw [← hwb]; exact (Below.refl _ _).alloc (Nat.le_refl _) _
  have KB := Lib.hid (show Below B w wb from ba.trans (bb.mono (by omega)))
  have XA := Lib.hid (show BoxC B c.f wb ∧ wb.heap[B + 1]? = some (.cells #[.int .i64 0, .int .i64 0, .int .i64 0, .int .i64 0, .int .i64 0, .int .i64 0, .int .i64 0, .int .i64 0, .int .i64 0, .int .i64 0, .int .i64 0, .int .i64 0] 23 (0, 0)) by
    have na := heap_new w (.cells c.cells 23)
    rw [hwa, ← hB] at na
    have nb := heap_new wa (.cells #[.int .i64 0, .int .i64 0, .int .i64 0, .int .i64 0, .int .i64 0, .int .i64 0, .int .i64 0, .int .i64 0, .int .i64 0, .int .i64 0, .int .i64 0, .int .i64 0] 23)
    rw [hwb, za] at nb
    exact ⟨(bb.block B (by omega)).trans na, nb⟩)
  rw [← hwa] at hwb
  have HWB := Lib.hid hwb
  clear hwa hwb za ba bb hB
  have hf8 := c.fit 8
  have hf9 := c.fit 9
  have hf10 := c.fit 10
  have r8 : wb.cell? ⟨B, 8, none⟩ = some (.int .i64 (c.f 8)) := by simp [World.cell?, show wb.heap[B]? = _ from XA.out.1]
  have r9 : wb.cell? ⟨B, 9, none⟩ = some (.int .i64 (c.f 9)) := by simp [World.cell?, show wb.heap[B]? = _ from XA.out.1]
  have r10 : wb.cell? ⟨B, 10, none⟩ = some (.int .i64 (c.f 10)) := by simp [World.cell?, show wb.heap[B]? = _ from XA.out.1]
  have rf : wb.frozen? ⟨B, 8, none⟩ = false := by simp [World.frozen?, show wb.heap[B]? = _ from XA.out.1]
  have rg : wb.frozen? ⟨B, 9, none⟩ = false := by simp [World.frozen?, show wb.heap[B]? = _ from XA.out.1]
  have rh : wb.frozen? ⟨B, 10, none⟩ = false := by simp [World.frozen?, show wb.heap[B]? = _ from XA.out.1]
  obtain ⟨x8, hx8⟩ : ∃ x, x = c.f 8 := ⟨_, rfl⟩
  obtain ⟨x9, hx9⟩ : ∃ x, x = c.f 9 := ⟨_, rfl⟩
  obtain ⟨x10, hx10⟩ : ∃ x, x = c.f 10 := ⟨_, rfl⟩
  rw [← hx8] at r8 hf8
  rw [← hx9] at r9 hf9
  rw [← hx10] at r10 hf10
  have HX := Lib.hid (And.intro hx8 (And.intro hx9 hx10))
  clear hx8 hx9 hx10
  go_enter Try.func14, Try.ntmps14
  go_upto_region 1 with (fail)
  rw [HWB.out, ← HB.out]
  obtain ⟨d8, hd8, e8⟩ := rem_in x8 64 (by decide) (by decide)
  obtain ⟨d9, hd9, e9⟩ := rem_in x9 256 (by decide) (by decide)
  obtain ⟨d10, hd10, e10⟩ := rem_in x10 512 (by decide) (by decide)
  have HE := Lib.hid (And.intro e8 (And.intro e9 e10))
  clear e8 e9 e10
  obtain ⟨l, hl⟩ : ∃ l, l = 1 + d8 := ⟨_, rfl⟩
  obtain ⟨m, hm⟩ : ∃ m, m = 1 + d9 := ⟨_, rfl⟩
  obtain ⟨M, hM⟩ : ∃ M, M = l + d10 := ⟨_, rfl⟩
  have HLM := Lib.hid (And.intro hl (And.intro hm hM))
  have hlb : 1 ≤ l ∧ l ≤ 64 := by omega
  have hmb : 1 ≤ m ∧ m ≤ 256 := by omega
  have hMb : l ≤ M ∧ M ≤ 576 := by omega
  have HB8 := Lib.hid (show wrap64 (1 + wrap64 ((IntKind.u64.wrap x8).tmod 64)) = (l : Int) from by
    have := HE.out.1
    rw [show ((64 : Nat) : Int) = 64 from rfl] at this
    rw [this, IntWalk.wrap64_in _ (by omega), hl]
    omega)
  have HB9 := Lib.hid (show wrap64 (1 + wrap64 ((IntKind.u64.wrap x9).tmod 256)) = (m : Int) from by
    have := HE.out.2.1
    rw [show ((256 : Nat) : Int) = 256 from rfl] at this
    rw [this, IntWalk.wrap64_in _ (by omega), hm]
    omega)
  have HB10 := Lib.hid (show wrap64 ((l : Int) + wrap64 ((IntKind.u64.wrap x10).tmod 512)) = (M : Int) from by
    have := HE.out.2.2
    rw [show ((512 : Nat) : Int) = 512 from rfl] at this
    rw [this, IntWalk.wrap64_in _ (by omega), hM]
    omega)
  clear hl hm hM hd8 hd9 hd10
  go_upto_region 2 with (fail)
  rw [HB8.out]
  go_upto_region 3 with (fail)
  rw [HB9.out]
  go_upto_region 4 with (fail)
  rw [HB10.out]
  obtain ⟨c', hc'⟩ : ∃ c', c' = c.with3 l m M (by omega) (by omega) (by omega) := ⟨_, rfl⟩
  have H3 := Lib.hid (show c'.Nat3 l m M from by rw [hc']; exact ⟨rfl, rfl, rfl, hlb.1, hmb.1, by omega, hMb.1, by omega⟩)
  obtain ⟨w3, hw3⟩ : ∃ w3, w3 = ((wb.setCell ⟨B, 8, none⟩ (.int .i64 (l : Int))).setCell ⟨B, 9, none⟩ (.int .i64 (m : Int))).setCell ⟨B, 10, none⟩ (.int .i64 (M : Int)) := ⟨_, rfl⟩
  have X3 := Lib.hid (show w3.heap[B]? = some (.cells c'.cells 23 (0, 0)) by
    rw [hw3, hc']
    exact heap_set (o := 10) (heap_set (o := 9) (heap_set (o := 8) XA.out.1 _) _) _)
  have Z3 := Lib.hid (show w3.heap[B + 1]? = some (.cells #[.int .i64 0, .int .i64 0, .int .i64 0, .int .i64 0, .int .i64 0, .int .i64 0, .int .i64 0, .int .i64 0, .int .i64 0, .int .i64 0, .int .i64 0, .int .i64 0] 23 (0, 0)) by
    rw [hw3]
    exact (heap_set_other (by omega) _).trans ((heap_set_other (by omega) _).trans ((heap_set_other (by omega) _).trans XA.out.2)))
  have K3 := Lib.hid (show Below B w w3 by
    rw [hw3]
    exact ((KB.out.setCell (p := ⟨B, 8, none⟩) (Nat.le_refl _) _).setCell (p := ⟨B, 9, none⟩) (Nat.le_refl _) _).setCell (p := ⟨B, 10, none⟩) (Nat.le_refl _) _)
  rw [← hw3]
  clear hw3 r8 r9 r10 rf rg rh hc'
  obtain ⟨q0, q1, q2, q3, q4, q5, q6, q7, q8, q9, q10, q11⟩ := conf_c X3.out
  have z0 : w3.cell? ⟨B + 1, 0, none⟩ = some (.int .i64 0) := by simp [World.cell?, Z3.out]
  have z1 : w3.cell? ⟨B + 1, 1, none⟩ = some (.int .i64 0) := by simp [World.cell?, Z3.out]
  have z2 : w3.cell? ⟨B + 1, 2, none⟩ = some (.int .i64 0) := by simp [World.cell?, Z3.out]
  have z3 : w3.cell? ⟨B + 1, 3, none⟩ = some (.int .i64 0) := by simp [World.cell?, Z3.out]
  have z4 : w3.cell? ⟨B + 1, 4, none⟩ = some (.int .i64 0) := by simp [World.cell?, Z3.out]
  have z5 : w3.cell? ⟨B + 1, 5, none⟩ = some (.int .i64 0) := by simp [World.cell?, Z3.out]
  have z6 : w3.cell? ⟨B + 1, 6, none⟩ = some (.int .i64 0) := by simp [World.cell?, Z3.out]
  have z7 : w3.cell? ⟨B + 1, 7, none⟩ = some (.int .i64 0) := by simp [World.cell?, Z3.out]
  have z8 : w3.cell? ⟨B + 1, 8, none⟩ = some (.int .i64 0) := by simp [World.cell?, Z3.out]
  have z9 : w3.cell? ⟨B + 1, 9, none⟩ = some (.int .i64 0) := by simp [World.cell?, Z3.out]
  have z10 : w3.cell? ⟨B + 1, 10, none⟩ = some (.int .i64 0) := by simp [World.cell?, Z3.out]
  have z11 : w3.cell? ⟨B + 1, 11, none⟩ = some (.int .i64 0) := by simp [World.cell?, Z3.out]
  have zf : ∀ j, w3.frozen? ⟨B + 1, j, none⟩ = false := fun j => by simp [World.frozen?, Z3.out]
  have HF := Lib.hid (show ((((((((((((w3.setCell ⟨B + 1, 0, none⟩ (.int .i64 (c'.f 0))).setCell ⟨B + 1, 1, none⟩ (.int .i64 (c'.f 1))).setCell ⟨B + 1, 2, none⟩ (.int .i64 (c'.f 2))).setCell ⟨B + 1, 3, none⟩ (.int .i64 (c'.f 3))).setCell ⟨B + 1, 4, none⟩ (.int .i64 (c'.f 4))).setCell ⟨B + 1, 5, none⟩ (.int .i64 (c'.f 5))).setCell ⟨B + 1, 6, none⟩ (.int .i64 (c'.f 6))).setCell ⟨B + 1, 7, none⟩ (.int .i64 (c'.f 7))).setCell ⟨B + 1, 8, none⟩ (.int .i64 (c'.f 8))).setCell ⟨B + 1, 9, none⟩ (.int .i64 (c'.f 9))).setCell ⟨B + 1, 10, none⟩ (.int .i64 (c'.f 10))).setCell ⟨B + 1, 11, none⟩ (.int .i64 (c'.f 11))).heap[B + 1]? = some (.cells c'.cells 23 (0, 0)) from put12 _ _ _ _ _ _ _ _ _ _ _ _ Z3.out)
  have HK := Lib.hid (show Below B w ((((((((((((w3.setCell ⟨B + 1, 0, none⟩ (.int .i64 (c'.f 0))).setCell ⟨B + 1, 1, none⟩ (.int .i64 (c'.f 1))).setCell ⟨B + 1, 2, none⟩ (.int .i64 (c'.f 2))).setCell ⟨B + 1, 3, none⟩ (.int .i64 (c'.f 3))).setCell ⟨B + 1, 4, none⟩ (.int .i64 (c'.f 4))).setCell ⟨B + 1, 5, none⟩ (.int .i64 (c'.f 5))).setCell ⟨B + 1, 6, none⟩ (.int .i64 (c'.f 6))).setCell ⟨B + 1, 7, none⟩ (.int .i64 (c'.f 7))).setCell ⟨B + 1, 8, none⟩ (.int .i64 (c'.f 8))).setCell ⟨B + 1, 9, none⟩ (.int .i64 (c'.f 9))).setCell ⟨B + 1, 10, none⟩ (.int .i64 (c'.f 10))).setCell ⟨B + 1, 11, none⟩ (.int .i64 (c'.f 11))) from ((((((((((((K3.out.setCell (p := ⟨B + 1, 0, none⟩) (Nat.le_succ B) (.int .i64 (c'.f 0))).setCell (p := ⟨B + 1, 1, none⟩) (Nat.le_succ B) (.int .i64 (c'.f 1))).setCell (p := ⟨B + 1, 2, none⟩) (Nat.le_succ B) (.int .i64 (c'.f 2))).setCell (p := ⟨B + 1, 3, none⟩) (Nat.le_succ B) (.int .i64 (c'.f 3))).setCell (p := ⟨B + 1, 4, none⟩) (Nat.le_succ B) (.int .i64 (c'.f 4))).setCell (p := ⟨B + 1, 5, none⟩) (Nat.le_succ B) (.int .i64 (c'.f 5))).setCell (p := ⟨B + 1, 6, none⟩) (Nat.le_succ B) (.int .i64 (c'.f 6))).setCell (p := ⟨B + 1, 7, none⟩) (Nat.le_succ B) (.int .i64 (c'.f 7))).setCell (p := ⟨B + 1, 8, none⟩) (Nat.le_succ B) (.int .i64 (c'.f 8))).setCell (p := ⟨B + 1, 9, none⟩) (Nat.le_succ B) (.int .i64 (c'.f 9))).setCell (p := ⟨B + 1, 10, none⟩) (Nat.le_succ B) (.int .i64 (c'.f 10))).setCell (p := ⟨B + 1, 11, none⟩) (Nat.le_succ B) (.int .i64 (c'.f 11))))
  go_wp2
  refine bodyPost_ret (results_cell1 rfl _ _ _ (B + 1) 0 c'.cells.toList _ rfl (fun j v hj => ?_) Try.underlying23 rfl (by kernel_rfl)) rfl ?_
  · rw [Nat.zero_add]
    unfold World.cell?
    rw [HF.out]
    simpa using hj
  · exact ⟨c', l, m, M, by simp, H3.out, HK.out⟩
end Go.Proofs.Ytcjpemkafncihaa
