/- Texts put together: ChunkCut, ChunkAwake, ChunkCutsWalk, ChunkOpen -/
import Derived.Test.YtcjpemkafncihaaCCut04
import Derived.Test.YtcjpemkafncihaaCCut01
import Derived.OwnWalkIn
import Derived.Lib.SmallJoins
import Derived.Deep.QuietTactic
import Derived.Deep.Slices
import Derived.Deep.Fields
import Derived.ChangeSame
/- Cut. -/
set_option linter.unusedVariables false
set_option maxRecDepth 100000
namespace Go.Proofs.Ytcjpemkafncihaa
open Go.RowKit
attribute [local go_sem] Oper.semAt_some

theorem wpListIn_append_off {r m : Nat} {P : Program} {w : World} {ops : Array Oper} {rest : List Oper} {o : Oper} {a : Act} {Q : Exit → Act → World → Prop} (hL : ¬ LetsOut Q) (hgd : o.guard = none) (s x : Operand) (t : TypeId)
    (ho : o.op = .call { callee := .builtin .append, args := #[s, x], argTypes := #[t, t] })
    (B : Nat) (e : TypeId) (i : TypeInfo) (z : Value) (size bytes : Nat) (ht : P.underlying t = some (.slice e)) (hi : P.info? e = some i) (hz : i.zero = some z)
    (hsize : i.size = size) (hby : i.bytes = bytes) (hzs : z.cells.size = size)
    (v : Value) (n : Nat) (xs : List Value) (hs : a.eval s = v) (hown : OffRow w B e size v n xs) (xv : Value) (hx : a.eval x = xv) (k : Nat) (news : List Value) (hsrc : Src P size t xv k news w)
    (h63 : n + k ≤ maxLen) (hbytes : (n + k) * bytes ≤ 140737488355328) (hB : B ≤ w.heap.size)
    (h : ∀ v' w', OffRow w' B e size v' (n + k) (xs ++ news) → w.grownBy w' v.ownBlock → (v'.ownBlock = v.ownBlock ∨ v'.ownBlock = some w.heap.size) → wpListIn (Fence.wide.inRound r) m P ops Q rest (a.put o.dst v') w') : wpListIn (Fence.wide.inRound r) m P ops Q (o :: rest) a w :=
  wpListIn_plain hgd fun K hK => operIn_of_wp (fun ρ => by unfold Oper.semAt; simp [ho]) hL (fun a w h => hK a w h) (wp_append_off s x t ho B e i z size bytes ht hi hz hsize hby hzs v n xs hs hown xv hx k news hsrc h63 hbytes hB h)
theorem conf_c {w : World} {cb : Nat} {c : Conf} (h : w.heap[cb]? = some (.cells c.cells 23 (0, 0))) : w.cell? ⟨cb, 0, none⟩ = some (.int .i64 (c.f 0)) ∧ w.cell? ⟨cb, 1, none⟩ = some (.int .i64 (c.f 1)) ∧ w.cell? ⟨cb, 2, none⟩ = some (.int .i64 (c.f 2)) ∧ w.cell? ⟨cb, 3, none⟩ = some (.int .i64 (c.f 3)) ∧ w.cell? ⟨cb, 4, none⟩ = some (.int .i64 (c.f 4)) ∧ w.cell? ⟨cb, 5, none⟩ = some (.int .i64 (c.f 5)) ∧ w.cell? ⟨cb, 6, none⟩ = some (.int .i64 (c.f 6)) ∧ w.cell? ⟨cb, 7, none⟩ = some (.int .i64 (c.f 7)) ∧ w.cell? ⟨cb, 8, none⟩ = some (.int .i64 (c.f 8)) ∧ w.cell? ⟨cb, 9, none⟩ = some (.int .i64 (c.f 9)) ∧ w.cell? ⟨cb, 10, none⟩ = some (.int .i64 (c.f 10)) ∧ w.cell? ⟨cb, 11, none⟩ = some (.int .i64 (c.f 11)) := by
  refine ⟨?_, ?_, ?_, ?_, ?_, ?_, ?_, ?_, ?_, ?_, ?_, ?_⟩ <;> simp [World.cell?, h, Conf.cells]
/-- What Cut's loop keeps: the box of its row, the row. -/
structure CI (B gb : Nat) (w : World) (pr : List (Nat × List UInt8)) (S : Nat → Prop) (lv : Value) (W' : World) : Prop where
  hs : ∀ k, S k ↔ k = gb ∨ lv.ownBlock = some k
  hg : W'.heap[gb]? = some (.cells #[lv] 26 (0, 0))
  row : OwnN W' (gb + 1) lv (pr.map (·.2.length))
  bel : Below B w W'
theorem putObj_other {A : World} {l k : Nat} {o o' : Obj} (h : A.heap[l]? = some o) (hk : k ≠ l) : (A.putObj l o').heap[k]? = A.heap[k]? := World.putObj_heap_other hk
set_option maxHeartbeats 8000000 in
theorem chk_Cut {c : Conf} {l m M : Nat} (h3 : Hid (c.Nat3 l m M)) {Qd : Nat → Prop} {v : Value} {D : List UInt8} {w : World} (h : Hid (BsV Qd w v D)) (hD : D.length ≤ 1000000) : Calls Try.prog 9 #[.agg c.cells, v] w fun e w' => ∃ nv, e = .returned (.tuple #[nv, .int .i64 0]) ∧ OwnN w' w.heap.size nv (cutF ⟨l, m, M⟩ [] 0 D) ∧ Below w.heap.size w w' := by
  obtain ⟨va, vc, rfl⟩ := h.out.slice
  obtain ⟨B, hB⟩ : ∃ B, B = w.heap.size := ⟨_, rfl⟩
  rw [← hB]
  have HB := Lib.hid hB
  have HCH := Lib.hid (fun W => chk_Check c W)
  rw [Conf.not_ok h3.out] at HCH
  obtain ⟨w1, hw1⟩ : ∃ w1, w.alloc (.cells c.cells 23) = w1 := ⟨_, rfl⟩
  have K1 := Lib.hid (show Below B w w1 by rw [← hw1, hB]; exact (Below.refl _ _).alloc (Nat.le_refl _) _)
  have X1 := Lib.hid (show w1.heap[B]? = some (.cells c.cells 23 (0, 0)) by rw [← hw1, hB]; exact heap_new w _)
  have HW1 := Lib.hid hw1
  clear hw1 hB
  obtain ⟨q0, q1, q2, q3, q4, q5, q6, q7, q8, q9, q10, q11⟩ := conf_c X1.out
  obtain ⟨i0, hi0, hz0, hz1, hz2⟩ := info_parts infoInt
  have HI := Lib.hid (And.intro hi0 (And.intro hz0 (And.intro hz1 hz2)))
  clear hi0 hz0 hz1 hz2
  refine (callsIn_wide (n := 5)).1 ?_
  refine callsIn_of_wp_marks Try.func9 rfl trivial ?_ rfl
  simp only [Try.ntmps9, List.size_toArray, List.length_cons, List.length_nil, Nat.reduceAdd, Nat.reduceSub, Array.replicate_succ, Array.replicate_zero, List.push_toArray, List.append_toArray, List.nil_append, List.cons_append]
  refine (wpIn_wide (n := 5)).2 ?_
  go_upto_region 1 with (fail)
  rw [HW1.out, ← HB.out]
  go_wp2_with fail
  refine (HCH.out w1).mono ?_
  rintro e w2 ⟨rfl, k2⟩
  have K2 := Lib.hid (K1.out.trans (k2.mono (Nat.le_of_lt (heap_lt X1.out))))
  have X2 := Lib.hid ((k2.block B (heap_lt X1.out)).trans X1.out)
  clear k2 q0 q1 q2 q3 q4 q5 q6 q7 q8 q9 q10 q11
  simp only [cond_true]
  obtain ⟨w3, hw3⟩ : ∃ w3, w2.alloc (.cells #[.slice none 0 0] 26) = w3 := ⟨_, rfl⟩
  obtain ⟨gb, hgb⟩ : ∃ gb, gb = w2.heap.size := ⟨_, rfl⟩
  have k3 : Below w2.heap.size w2 w3 := by rw [← hw3]; exact (Below.refl _ _).alloc (Nat.le_refl _) _
  have G3 := Lib.hid (show w3.heap[gb]? = some (.cells #[.slice none 0 0] 26 (0, 0)) by rw [← hw3, hgb]; exact heap_new w2 _)
  have K3 := Lib.hid (K2.out.trans (k3.mono (by have := heap_lt X2.out; omega)))
  have X3 := Lib.hid ((k3.block B (heap_lt X2.out)).trans X2.out)
  have HW3 := Lib.hid hw3
  have HGB := Lib.hid hgb
  have HBG := Lib.hid (show B < gb by rw [hgb]; exact heap_lt X2.out)
  clear hw3 k3 hgb
  obtain ⟨q0, q1, q2, q3, q4, q5, q6, q7, q8, q9, q10, q11⟩ := conf_c X3.out
  go_upto_region 5 with (fail)
  rw [HW3.out, ← HGB.out]
  go_wp2_with fail
  have HD3 := Lib.hid (h.out.below (HB.out ▸ K3.out))
  refine (chk_Parts (c := c) HD3 (by omega)).mono ?_
  rintro e w5 ⟨cb, xb, v', rfl, hP5, hcb, hxb, hv5, k5⟩
  have K5 := Lib.hid (K3.out.trans (k5.mono (by have := heap_lt X3.out; omega)))
  have G5 := Lib.hid ((k5.block gb (heap_lt G3.out)).trans G3.out)
  have P5 := Lib.hid hP5
  have HF5 := Lib.hid (show ∀ k, PFs cb xb v' k → gb < k from fun k hk => by
    have := heap_lt G3.out
    rcases hk with rfl | rfl | hk
    · omega
    · omega
    · have := hv5 k hk; omega)
  have HZ5 := Lib.hid (show gb < w5.heap.size from heap_lt G5.out)
  clear q0 q1 q2 q3 q4 q5 q6 q7 q8 q9 q10 q11 hP5 hcb hxb hv5 k5 K1 K2 K3 X1 X2 X3 G3 HW1 HW3 HD3
  go_wp2_with fail
  have HST := Lib.hid (parts_stops 4 cb xb h3 v' D hD)
  obtain ⟨Y, hY⟩ : ∃ Y, Y = prs D 0 (enA ⟨l, m, M⟩ [] D 0 D.length) := ⟨_, rfl⟩
  rw [← hY] at HST
  have HY := Lib.hid hY
  clear hY
  have HYL := Lib.hid (show Y.length ≤ 1000001 by
    have h1 := cut_prs ⟨l, m, M⟩ D
    have h2 := cutF_len ⟨l, m, M⟩ D [] 0
    rw [← h1, List.length_map, ← HY.out] at h2
    omega)
  refine (wpIn_wide (n := 5)).1 ?_
  refine wpIn_rangeFunc_sh (α := Nat × List UInt8) (n := 5) (by omega) (gf := 24) (lb := #[.pointer (some ⟨cb, 0, none⟩), .pointer (some ⟨xb, 0, none⟩)]) rfl (enters_of Try.func24 (by kernel_rfl) rfl)
    (Kp := KpT) (fun _ _ _ _ _ => trivial) (fun _ _ _ _ _ => trivial) (fun _ _ => trivial) HST.out (fun k hk => P5.out.all k hk)
    (fun k A C hA hAC => hA.keep hAC (fun i hi hp => by have := P5.out.all i hp; omega)) (fun A C _ _ => trivial)
    (fun x args A hR => by obtain ⟨u, rfl, _⟩ := hR; rfl) (fun x args A l r r' hR hl => by obtain ⟨u, h1, h2⟩ := hR; exact ⟨u, h1, h2.putLoop hl⟩)
    (fun pr S A => ∃ lv, CI B gb w pr S lv A) (fun _ _ _ => False) (fun k => k = gb)
    (fun k hk => ⟨by rw [hk]; exact HZ5.out, fun hp => by have := HF5.out k hp; omega⟩)
    (fun pr S A C Sx hA hAC _ hSx => by
      obtain ⟨lv, hI⟩ := hA
      refine ⟨lv, hI.hs, (hAC.block gb (heap_lt hI.hg) fun hs => (hSx gb hs).2 ((hI.hs gb).2 (.inl rfl))).trans hI.hg, OffRow.kept hI.row fun j hj => hAC.block j (OffRow.lt hI.row j hj).2 fun hs => (hSx j hs).2 ((hI.hs j).2 (.inr hj)), hI.bel.trans (hAC.below (fun j _ hj => ?_) (by have := heap_lt hI.hg; have := HBG.out; omega))⟩
      rcases (hSx j hj).1 with hp | hp
      · have := HF5.out j hp; have := HBG.out; omega
      · have := HZ5.out; have := HBG.out; omega)
    (fun cc pr A C hA _ => hA.elim)
    ⟨.slice none 0 0, ⟨fun k => by simp [Value.ownBlock], G5.out, OffRow.nil _ _ _ _, K5.out⟩⟩ P5.out
    (fun t args => t.setIfInBounds 9 (args.getD 1 undef)) ?assign ?body ?done ?stop
  case assign =>
    intro lq x args W' K hR hK
    obtain ⟨u, rfl, _⟩ := hR
    gi_wp2
    simp at hK
    exact hK
  case body =>
    rintro lq pr S x args W' ⟨lv, hI⟩ hnF hES hx ⟨u, rfl, hu⟩ hsz
    obtain ⟨ua, uc, rfl⟩ := hu.slice
    obtain ⟨la, lc, rfl⟩ := OffRow.slice hI.row
    have HI1 := Lib.hid hI
    have HES := Lib.hid hES
    have HNF := Lib.hid hnF
    have hpl : pr.length < Y.length := (List.getElem?_eq_some_iff.1 hx).1
    obtain ⟨n, hn⟩ : ∃ n, n = (pr.map (·.2.length)).length := ⟨_, rfl⟩
    have hn2 : n ≤ 1000001 := by rw [hn, List.length_map]; have := HYL.out; omega
    obtain ⟨L, hL⟩ : ∃ L, L = pr.map (·.2.length) := ⟨_, rfl⟩
    obtain ⟨z, hz⟩ : ∃ z, z = x.2.length := ⟨_, rfl⟩
    have HLL := Lib.hid (show (pr ++ [x]).map (·.2.length) = L ++ [z] by rw [List.map_append, hL, hz]; rfl)
    have HLN := Lib.hid (show n = L.length by rw [hn, hL])
    rw [← hn] at HI1
    rw [← hz]
    have y0 : W'.cell? ⟨gb, 0, none⟩ = some (.slice la n lc) := by simp [World.cell?, HI1.out.hg]
    have HR := Lib.hid (show OffRow W' (gb + 1) 3 1 (.slice la n lc) n (ncells L) from by have := HI1.out.row; unfold OwnN at this; rw [← hn, ← hL] at this; exact this)
    have HGZ := Lib.hid (show gb < W'.heap.size from heap_lt HI1.out.hg)
    clear hI hES hnF hx hu hpl hn hL hz
    obtain ⟨hi0, hz0, hz1, hz2⟩ := HI.out
    gi_wp2_with (gi_at_builtin; refine wpListIn_append_off (fun ⟨_, _, h⟩ => h) rfl (.tmp 20) (.tmp 23) 26 rfl (gb + 1) 3 i0 _ 1 8 Try.underlying26 hi0 hz0 hz1 hz2 rfl (.slice la n lc) n (ncells L) rfl ?c1 (.slice (some ⟨W'.heap.size, 0, none⟩) 1 1) rfl 1 [.int .i64 (z : Int)] ?c2 ?c3 ?c4 ?c5 ?_)
    case c1 => exact HR.out.allocd _
    case c2 => exact src_block (size := 1) (cs := #[.int .i64 (z : Int)]) Try.underlying26 (heap_new _ _) 1 1 rfl (by intro u hu; simp at hu; subst hu; rfl)
    case c3 => unfold maxLen; omega
    case c4 => omega
    case c5 => have := HGZ.out; simp; omega
    intro v7 w7 hr7 hg7 hat7
    obtain ⟨a7, c7, rfl⟩ := OffRow.slice hr7
    have hown : ∀ k, (Value.slice la n lc).ownBlock = some k → k ≠ gb ∧ k < W'.heap.size := fun k hk => by have := OffRow.lt HR.out k hk; omega
    have hgb7 : w7.heap[gb]? = some (.cells #[.slice la n lc] 26 (0, 0)) := by
      rw [hg7.block gb (by have := HGZ.out; simp; omega) (fun e => (hown gb e.symm).1 rfl)]
      exact (Below.heap_alloc _ _ _ HGZ.out).trans HI1.out.hg
    have hv7 : (Value.slice a7 (n + 1) c7).ownBlock ≠ some gb := fun e => by
      have := (OffRow.lt hr7 gb e).1
      omega
    have HON := Lib.hid (show Only S W' (w7.setCell ⟨gb, 0, none⟩ (.slice a7 (n + 1) c7)) from ((((Only.refl S W').alloc _).grown2 hg7 (fun k hk => .inr ((HI1.out.hs k).2 (.inr hk)))).setCell (p := ⟨gb, 0, none⟩) (.inl ((HI1.out.hs gb).2 (.inl rfl))) _))
    have HB7 := Lib.hid (show Below B w (w7.setCell ⟨gb, 0, none⟩ (.slice a7 (n + 1) c7)) from ((HI1.out.bel.alloc (by have := HGZ.out; have := HBG.out; omega) _).grown hg7 (by have := HGZ.out; have := HBG.out; simp; omega) (fun j hj => by have := OffRow.lt HR.out j hj; have := HBG.out; omega)).setCell (p := ⟨gb, 0, none⟩) (by have := HBG.out; show B ≤ gb; omega) _)
    have HR7 := Lib.hid hr7
    have HV7 := Lib.hid hv7
    have HAT := Lib.hid hat7
    have HGB7 := Lib.hid hgb7
    have z1 : w7.cell? ⟨gb, 0, none⟩ = some (.slice la n lc) := by simp [World.cell?, hgb7]
    have z2 : w7.frozen? ⟨gb, 0, none⟩ = false := by simp [World.frozen?, hgb7]
    clear hr7 hg7 hat7 hv7 hgb7 hi0 hz0 hz1 hz2 y0
    gi_wp2
    refine ⟨HON.out.mono fun k _ hk => .inl hk, HES.out.keep HON.out HNF.out, fun k => k = gb ∨ (Value.slice a7 (n + 1) c7).ownBlock = some k, fun k hk => ?_, .slice a7 (n + 1) c7, ⟨fun k => Iff.rfl, by rw [heap_set HGB7.out]; simp, ?_, HB7.out⟩⟩
    · rcases hk with rfl | hk
      · exact ⟨.inl ((HI1.out.hs _).2 (.inl rfl)), by have := heap_lt HGB7.out; simpa using this⟩
      · refine ⟨?_, by have := (OffRow.lt HR7.out k hk).2; simpa using this⟩
        rcases HAT.out with h | h
        · exact .inl ((HI1.out.hs k).2 (.inr (by rw [← h]; exact hk)))
        · rw [h] at hk
          injection hk with hk
          right
          rw [← hk]
          simp
    · rw [HLL.out]
      unfold OwnN
      rw [List.length_append, List.length_singleton, ncells_snoc, ← HLN.out]
      exact OffRow.kept HR7.out fun j hj => heap_set_other (fun e => HV7.out (by rw [← e]; exact hj)) _
  case done =>
    rintro Dm S V hDm ⟨lv, hI⟩ _ hK hsd
    have HI1 := Lib.hid hI
    have HK := Lib.hid hK
    have HDM := Lib.hid hDm
    obtain ⟨la, lc, rfl⟩ := OffRow.slice hI.row
    have y0 : V.cell? ⟨gb, 0, none⟩ = some (.slice la (Y.map (·.2.length)).length lc) := by simp [World.cell?, hI.hg]
    clear hI hK hDm
    gi_wp2
    go_wp2_with fail
    have HCP := Lib.hid (show cutF ⟨l, m, M⟩ [] 0 D = Y.map (·.2.length) by rw [HY.out, cut_prs])
    refine ⟨by simp, .inl ⟨_, _, rfl, run_takeDeferred HK.out, ?_⟩⟩
    refine ⟨.tuple #[.slice la Y.length lc, .int .i64 0], ?_, ⟨.slice la Y.length lc, rfl, ?_, ?_⟩⟩
    · simp [results, Try.f9, go_sem]
    · rw [HCP.out]
      have hr := HI1.out.row
      unfold OwnN at hr ⊢
      have e : (Value.slice la Y.length lc) = .slice la (Y.map (·.2.length)).length lc := by rw [List.length_map]
      rw [e]
      exact OffRow.weak (OffRow.kept hr fun j hj => World.putObj_heap_other (fun e => hsd j ((HI1.out.hs j).2 (.inr hj)) e)) (by have := HBG.out; omega)
    · exact HI1.out.bel.grown (grownBy_putObj' _ Dm (.deferred none)) (by have := heap_lt HI1.out.hg; have := HBG.out; omega) (fun k e => by cases e; have := HDM.out; have := HZ5.out; have := HBG.out; omega)
  case stop =>
    rintro Dm cc pr V hDm hA hK
    exact hA.elim
set_option maxHeartbeats 8000000 in
/-- A conf that may not be. -/
theorem chk_Cut_no {c : Conf} (hc : c.ok = false) (v : Value) (w : World) : Calls Try.prog 9 #[.agg c.cells, v] w fun e w' => e = .returned (.tuple #[.slice none 0 0, .int .i64 1]) ∧ Below w.heap.size w w' := by
  obtain ⟨B, hB⟩ : ∃ B, B = w.heap.size := ⟨_, rfl⟩
  rw [← hB]
  have HB := Lib.hid hB
  have HCH := Lib.hid (fun W => chk_Check c W)
  rw [hc] at HCH
  obtain ⟨w1, hw1⟩ : ∃ w1, w.alloc (.cells c.cells 23) = w1 := ⟨_, rfl⟩
  have K1 := Lib.hid (show Below B w w1 by rw [← hw1, hB]; exact (Below.refl _ _).alloc (Nat.le_refl _) _)
  have X1 := Lib.hid (show w1.heap[B]? = some (.cells c.cells 23 (0, 0)) by rw [← hw1, hB]; exact heap_new w _)
  have HW1 := Lib.hid hw1
  clear hw1 hB
  obtain ⟨q0, q1, q2, q3, q4, q5, q6, q7, q8, q9, q10, q11⟩ := conf_c X1.out
  refine (callsIn_wide (n := 5)).1 ?_
  refine callsIn_of_wp_marks Try.func9 rfl trivial ?_ rfl
  simp only [Try.ntmps9, List.size_toArray, List.length_cons, List.length_nil, Nat.reduceAdd, Nat.reduceSub, Array.replicate_succ, Array.replicate_zero, List.push_toArray, List.append_toArray, List.nil_append, List.cons_append]
  refine (wpIn_wide (n := 5)).2 ?_
  go_upto_region 1 with (fail)
  rw [HW1.out, ← HB.out]
  go_wp2_with fail
  refine (HCH.out w1).mono ?_
  rintro e w2 ⟨rfl, k2⟩
  have K2 := Lib.hid (K1.out.trans (k2.mono (Nat.le_of_lt (heap_lt X1.out))))
  clear k2 q0 q1 q2 q3 q4 q5 q6 q7 q8 q9 q10 q11
  simp only [cond_false]
  go_wp2_with fail
  refine ⟨.tuple #[.slice none 0 0, .int .i64 1], ?_, rfl, K2.out⟩
  simp [results, Try.f9, go_sem]
end Go.Proofs.Ytcjpemkafncihaa
/- The law's own look: the document's examples; equal lists of numbers. -/
set_option linter.unusedVariables false
set_option maxRecDepth 100000
namespace Go.Proofs.Ytcjpemkafncihaa
open Go.RowKit

set_option maxHeartbeats 2000000 in
theorem same_ints {va vb : Value} {L : List Nat} {w : World} (ha : Hid (NsV w va L)) (hb : Hid (NsV w vb L)) (hl : L.length ≤ 1000000000) :
    Calls Try.prog 12 #[va, vb] w fun e w' => e = .returned (.bool true) ∧ Below w.heap.size w w' := by
  obtain ⟨a, ca, rfl⟩ := ha.out.slice
  obtain ⟨b, cb, rfl⟩ := hb.out.slice
  obtain ⟨len, hlen⟩ : ∃ len, len = L.length := ⟨_, rfl⟩
  rw [← hlen] at ha hb hl ⊢
  have HL := Lib.hid hlen
  clear hlen
  go_enter Try.func12, Try.ntmps12
  go_wp2_with fail
  go_loopw [5] (fun i wr => ∃ k : Nat, k ≤ len ∧ i = .int .i64 k ∧ Hid (Below w.heap.size w wr)) (fun i wr => len - (intOf i).toNat)
  case atStart => exact ⟨0, Nat.zero_le _, rfl, Lib.hid (Below.refl _ _)⟩
  case round =>
    obtain ⟨k, hk, rfl, hK⟩ := hrel
    by_cases hlt : k < len
    · obtain ⟨t, ht⟩ : ∃ t, L[k]? = some t := ⟨_, List.getElem?_eq_getElem (by have := HL.out; omega)⟩
      obtain ⟨b0, off0, rfl, _, c0⟩ := (ha.out.below hK.out).at ht
      obtain ⟨b1, off1, rfl, _, c1⟩ := (hb.out.below hK.out).at ht
      have hlt2 : (k : Int) < (len : Int) := by omega
      clear ht
      go_wp2_with fail
      go_quiet (fail)
      go_wp2
      go_roundw
      case rel => exact ⟨k + 1, by omega, by go_num, Lib.hid (below_drewN hK.out _)⟩
      case measure => simp [intOf]; omega
    · go_wp2
      go_ret
      exact ⟨rfl, hK.out⟩
def awakeC : Conf := ⟨fun i => if i = 8 then 1 else if i = 9 then 1 else if i = 10 then 9 else 0, fun i => by split <;> (try split) <;> (try split) <;> omega⟩
def zeroC : Conf := ⟨fun _ => 0, fun i => by omega⟩
theorem awakeC_3 : awakeC.Nat3 1 1 9 := ⟨rfl, rfl, rfl, by omega, by omega, by omega, by omega, by omega⟩
theorem zeroC_no : zeroC.ok = false := rfl
theorem cut_abc : cutF ⟨1, 1, 9⟩ [] 0 [97, 98, 99] = [1, 1, 1] := by decide
set_option maxHeartbeats 4000000 in
theorem law_awake16 (w : World) : Calls Try.prog 8 #[] w fun e w' => e = .returned (.bool true) ∧ Below w.heap.size w w' := by
  obtain ⟨w1, hw1⟩ : ∃ w1, w1 = w.alloc (.cells #[.int .u8 97, .int .u8 98, .int .u8 99] 5 (3, 4)) := ⟨_, rfl⟩
  have K1 := Lib.hid (show Below w.heap.size w w1 by rw [hw1]; exact (Below.refl _ _).alloc (Nat.le_refl _) _)
  have hb1 : w1.heap[w.heap.size]? = some (.cells #[.int .u8 97, .int .u8 98, .int .u8 99] 5 (3, 4)) := by rw [hw1]; exact heap_new w _
  have D1 := Lib.hid (show BsV (fun _ => True) w1 (.slice (some ⟨w.heap.size, 0, none⟩) 3 3) [97, 98, 99] from .inr ⟨⟨w.heap.size, 0, none⟩, 3, rfl, by simp, .inr ⟨w.heap.size, 0, rfl, trivial, heap_lt hb1, fun k hk => by
    have : k = 0 ∨ k = 1 ∨ k = 2 := by simp at hk; omega
    rcases this with rfl | rfl | rfl <;> simp [World.cell?, hb1, byteV]⟩⟩)
  have HC1 := Lib.hid (chk_Cut (c := awakeC) (Lib.hid awakeC_3) D1 (by simp))
  rw [cut_abc] at HC1
  have HC2 := Lib.hid (fun W => chk_Cut_no zeroC_no (.slice none 0 0) W)
  have HW1 := Lib.hid hw1
  clear hw1 hb1
  have hcv : (convert 24 24 (.slice (some ⟨w.heap.size, 0, none⟩) 3 3)).run Try.prog (w.alloc (.cells #[.int .u8 97, .int .u8 98, .int .u8 99] 5)) = .ok (.slice (some ⟨w.heap.size, 0, none⟩) 3 3) w1 := by rw [HW1.out]; exact Lib.run_convert_bytes_const w 24 5 #[.int .u8 97, .int .u8 98, .int .u8 99] 3 3 Try.underlying24 Try.underlying5
  go_enter Try.func8, Try.ntmps8
  go_wp2_with fail
  refine HC1.out.mono ?_
  rintro e w2 ⟨nv, rfl, hn, k2⟩
  have K2 := Lib.hid (K1.out.trans (k2.mono K1.out.size))
  have N2 := Lib.hid hn.ns
  clear hn k2
  obtain ⟨na, nc, rfl⟩ := N2.out.slice
  go_wp2_with fail
  refine (HC2.out w2).mono ?_
  rintro e w3 ⟨rfl, k3⟩
  have K3 := Lib.hid (K2.out.trans (k3.mono K2.out.size))
  have N3 := Lib.hid (N2.out.below k3)
  clear k3
  obtain ⟨w4, hw4⟩ : ∃ w4, w4 = w3.alloc (.cells #[.int .i64 1, .int .i64 1, .int .i64 1] 3) := ⟨_, rfl⟩
  have k4 : Below w3.heap.size w3 w4 := by rw [hw4]; exact (Below.refl _ _).alloc (Nat.le_refl _) _
  have hb4 : w4.heap[w3.heap.size]? = some (.cells #[.int .i64 1, .int .i64 1, .int .i64 1] 3 (0, 0)) := by rw [hw4]; exact heap_new w3 _
  have N4 := Lib.hid (show NsV w4 (.slice (some ⟨w3.heap.size, 0, none⟩) 3 3) [1, 1, 1] from ⟨_, 3, rfl, w3.heap.size, 0, .inr rfl, fun k hk => ⟨heap_lt hb4, by
    have : k = 0 ∨ k = 1 ∨ k = 2 := by simp at hk; omega
    rcases this with rfl | rfl | rfl <;> simp [World.cell?, hb4]⟩⟩)
  have HSI := Lib.hid (same_ints (Lib.hid (N3.out.below k4)) N4 (by simp))
  have K4 := Lib.hid (K3.out.trans (k4.mono K3.out.size))
  have HW4 := Lib.hid hw4
  clear k4 hb4 hw4
  go_wp2_with fail
  rw [← HW4.out]
  refine HSI.out.mono ?_
  rintro e w5 ⟨rfl, k5⟩
  have K5 := Lib.hid (K4.out.trans (k5.mono K4.out.size))
  clear k5
  go_wp2_with fail
  go_ret
  exact ⟨rfl, K5.out⟩
end Go.Proofs.Ytcjpemkafncihaa
/- ChunkCuts, walked: any bytes are cut where the document says, or refused as it says; they stay. -/
set_option linter.unusedVariables false
set_option maxRecDepth 100000
namespace Go.Proofs.Ytcjpemkafncihaa
open Go.RowKit

theorem seen_call {P : Program} {F : FuncId} {args : Array Value} {r : Value} {W : World} (h : ∀ w, Calls P F args w fun e w' => e = .returned r ∧ Below w.heap.size w w') (n : Seen W) : Calls P F args n.val fun e w'' => e = .returned r ∧ ∃ m : Seen W, w'' = m.val :=
  (h n.val).mono fun e w'' ⟨h1, h2⟩ => ⟨h1, ⟨w'', n.below.trans (h2.mono n.below.size)⟩, rfl⟩
set_option maxHeartbeats 16000000 in
theorem cuts_walk {c : Conf} {v : Value} {D : List UInt8} {w : World} (h : Hid (BsV (fun b => b < w.heap.size) w v D)) (hbig : D.length ≤ 9223372036854775807) :
    Calls Try.prog 3 #[.agg c.cells, v] w fun e w' => e = .returned (.bool true) ∧ Below w.heap.size w w' := by
  obtain ⟨va, vc, rfl⟩ := h.out.slice
  obtain ⟨B, hB⟩ : ∃ B, B = w.heap.size := ⟨_, rfl⟩
  rw [← hB]
  have HB := Lib.hid hB
  obtain ⟨w1, hw1⟩ : ∃ w1, w.alloc (.cells c.cells 23) = w1 := ⟨_, rfl⟩
  have K1 := Lib.hid (show Below B w w1 by rw [← hw1, hB]; exact (Below.refl _ _).alloc (Nat.le_refl _) _)
  have X1 := Lib.hid (show w1.heap[B]? = some (.cells c.cells 23 (0, 0)) by rw [← hw1, hB]; exact heap_new w _)
  have HW1 := Lib.hid hw1
  have HZ1 := Lib.hid (show B < w1.heap.size from heap_lt X1.out)
  clear hw1 hB
  obtain ⟨n, hn⟩ : ∃ n, n = D.length := ⟨_, rfl⟩
  have HN := Lib.hid hn
  rw [← hn] at hbig
  have HD := Lib.hid (fun (W : World) (k : Below B w W) => h.out.below (HB.out ▸ k))
  rw [← hn] at HD
  clear hn h
  obtain ⟨i0, hi0, hz0, hz1, hz2⟩ := info_parts infoByte
  have HI := Lib.hid (And.intro hi0 (And.intro hz0 (And.intro hz1 hz2)))
  clear hi0 hz0 hz1 hz2
  go_enter Try.func3, Try.ntmps3
  rw [← HN.out]
  go_upto_region 1 with (fail)
  rw [HW1.out, ← HB.out]
  go_wp2_with fail
  refine (law_awake16 w1).mono ?_
  rintro e w2 ⟨rfl, k2⟩
  have K2 := Lib.hid (K1.out.trans (k2.mono (Nat.le_of_lt HZ1.out)))
  have X2 := Lib.hid ((k2.block B HZ1.out).trans X1.out)
  clear k2
  by_cases hlong : 30000 < n
  · have q1 : decide ((30000 : Int) < (n : Int)) = true := by rw [decide_eq_true_eq]; omega
    have q2 : decide (30000 < n) = true := by rw [decide_eq_true_eq]; omega
    clear hlong
    go_wp2_with fail
    refine (law_awake16 w2).mono ?_
    rintro e w3 ⟨rfl, k3⟩
    have K3 := Lib.hid (K2.out.trans (k3.mono (Nat.le_of_lt (heap_lt X2.out))))
    clear k3
    go_wp2
    go_ret
    exact ⟨rfl, K3.out⟩
  · have q1 : decide ((30000 : Int) < (n : Int)) = false := by rw [decide_eq_false_iff_not]; omega
    have q2 : decide (30000 < n) = false := by rw [decide_eq_false_iff_not]; omega
    have hn3 : n ≤ 30000 := by omega
    clear hlong
    obtain ⟨hi0, hz0, hz1, hz2⟩ := HI.out
    go_wp2_with (at_builtin; refine wpList_append_off rfl (.tmp 16) (.tmp 17) 24 rfl (B + 1) 5 i0 _ 1 1 Try.underlying24 hi0 hz0 hz1 hz2 rfl (.slice (some ⟨w2.heap.size, 0, none⟩) 0 0) 0 [] rfl (off_empty w2 (by have := heap_lt X2.out; omega) _ _) (.slice va n vc) rfl n (D.map byteV) ?c2 ?c3 ?c4 ?c5 ?_)
    case c2 =>
      have := (HD.out _ (K2.out.alloc (by have := heap_lt X2.out; omega) (.cells #[] 5))).src
      rw [← HN.out] at this
      exact this
    case c3 => unfold maxLen; omega
    case c4 => omega
    case c5 => have := heap_lt X2.out; simp; omega
    intro v3 w3 hr3 hg3 _
    have O3 := Lib.hid (show OffRow w3 (B + 1) 5 1 v3 n (D.map byteV) by simpa using hr3)
    have K3 := Lib.hid (show Below B w w3 from (K2.out.alloc (by have := heap_lt X2.out; omega) _).grown hg3 (by have := heap_lt X2.out; simp; omega) (fun k hk => by simp [Value.ownBlock] at hk; have := heap_lt X2.out; omega))
    have X3 := Lib.hid (show w3.heap[B]? = some (.cells c.cells 23 (0, 0)) by
      rw [hg3.block B (by have := heap_lt X2.out; simp; omega) (fun e => by simp [Value.ownBlock] at e; have := heap_lt X2.out; omega)]
      exact (Below.heap_alloc _ _ _ (heap_lt X2.out)).trans X2.out)
    clear hr3 hg3 hi0 hz0 hz1 hz2
    obtain ⟨oa, oc, rfl⟩ := OffRow.slice O3.out
    have HO3 := Lib.hid (show BsV (fun b => B + 1 ≤ b) w3 (.slice oa n oc) D from BsV.of_own (by rw [← HN.out]; exact O3.out))
    cases hok : c.ok with
    | true =>
      obtain ⟨l, m, M, h3⟩ := Conf.nat3 hok
      have H3 := Lib.hid h3
      have HOK := Lib.hid hok
      have HCT := Lib.hid (chk_Cut (Lib.hid h3) HO3 (by rw [← HN.out]; omega))
      clear hok h3
      obtain ⟨r0, r1, r2, r3, r4, r5, r6, r7, r8, r9, r10, r11⟩ := conf_c X3.out
      go_wp2_with fail
      refine HCT.out.mono ?_
      rintro e w4 ⟨nv, rfl, hN, k4⟩
      have K4 := Lib.hid (K3.out.trans (k4.mono (by have := heap_lt X3.out; omega)))
      have X4 := Lib.hid ((k4.block B (heap_lt X3.out)).trans X3.out)
      have O4 := Lib.hid (HO3.out.below k4)
      have N4 := Lib.hid hN.ns
      clear k4 hN HCT r0 r1 r2 r3 r4 r5 r6 r7 r8 r9 r10 r11
      obtain ⟨na, nc, rfl⟩ := N4.out.slice
      have rs : ∀ s : Seen w4, s.val.heap[B]? = some (.cells c.cells 23 (0, 0)) := fun s => (s.below.block B (heap_lt X4.out)).trans X4.out
      have r0 := fun s => (conf_c (rs s)).1
      have r1 := fun s => (conf_c (rs s)).2.1
      have r2 := fun s => (conf_c (rs s)).2.2.1
      have r3 := fun s => (conf_c (rs s)).2.2.2.1
      have r4 := fun s => (conf_c (rs s)).2.2.2.2.1
      have r5 := fun s => (conf_c (rs s)).2.2.2.2.2.1
      have r6 := fun s => (conf_c (rs s)).2.2.2.2.2.2.1
      have r7 := fun s => (conf_c (rs s)).2.2.2.2.2.2.2.1
      have r8 := fun s => (conf_c (rs s)).2.2.2.2.2.2.2.2.1
      have r9 := fun s => (conf_c (rs s)).2.2.2.2.2.2.2.2.2.1
      have r10 := fun s => (conf_c (rs s)).2.2.2.2.2.2.2.2.2.2.1
      have r11 := fun s => (conf_c (rs s)).2.2.2.2.2.2.2.2.2.2.2
      have u1 : ∀ s : Seen w4, (convert 24 9 (.slice oa n oc)).run Try.prog s.val = .ok (.string (bs D)) s.val := fun s => (O4.out.below s.below).str
      have u2 : ∀ s : Seen w4, (convert 24 9 (.slice va n vc)).run Try.prog s.val = .ok (.string (bs D)) s.val := fun s => (HD.out _ (K4.out.trans (s.below.mono (by have := heap_lt X4.out; omega)))).str
      have G1 := Lib.hid (fun s : Seen w4 => seen_call (chk_Check c) s)
      have G2 := Lib.hid (fun s : Seen w4 => seen_call (ref_Check c) s)
      rw [HOK.out] at G1 G2
      simp only [cond_true] at G1
      unfold Conf.cells at G1 G2
      clear rs
      go_upto_region 5 with (fail)
      refine region_seen (by kernel_rfl) (by kernel_rfl) ?_
      repeat go_big_quiet_step (first | (go_at_call 10; with_reducible exact G1.out _) | (go_at_call 11; with_reducible exact G2.out _))
      refine wpQuiet_nil ?_
      rintro _ ⟨ms, rfl⟩
      have K5 := Lib.hid (K4.out.trans (ms.below.mono (by have := heap_lt X4.out; omega)))
      have X5 := Lib.hid ((ms.below.block B (heap_lt X4.out)).trans X4.out)
      have N5 := Lib.hid (N4.out.below ms.below)
      clear r0 r1 r2 r3 r4 r5 r6 r7 r8 r9 r10 r11 u1 u2 G1 G2 N4 X4 O4
      generalize ms.val = w5 at *
      obtain ⟨r0, r1, r2, r3, r4, r5, r6, r7, r8, r9, r10, r11⟩ := conf_c X5.out
      have u2 := (HD.out w5 K5.out).str
      have HRC := Lib.hid (ref_Cut H3.out (L := D) w5 (by rw [← HN.out]; omega))
      unfold Conf.cells at HRC
      have HCL := Lib.hid (show (cutF ⟨l, m, M⟩ [] 0 D).length ≤ 1000000 from by
        have := cutF_len ⟨l, m, M⟩ D [] 0
        have := HN.out
        omega)
      go_wp2_with fail
      refine HRC.out.mono ?_
      rintro e w6 ⟨rv, rfl, hR, k6⟩
      have K6 := Lib.hid (K5.out.trans (k6.mono (by have := heap_lt X5.out; omega)))
      have N6 := Lib.hid (N5.out.below k6)
      have R6 := Lib.hid hR.ns
      clear hR k6 HRC u2 r0 r1 r2 r3 r4 r5 r6 r7 r8 r9 r10 r11
      obtain ⟨ra, rc, rfl⟩ := R6.out.slice
      go_wp2_with fail
      refine (same_ints N6 R6 (by have := HCL.out; omega)).mono ?_
      rintro e w7 ⟨rfl, k7⟩
      have K7 := Lib.hid (K6.out.trans (k7.mono (by have := HB.out; have := K6.out.size; omega)))
      clear k7
      go_wp2
      go_ret
      exact ⟨rfl, K7.out⟩
    | false =>
      have HOK := Lib.hid hok
      have HCT := Lib.hid (fun W => chk_Cut_no hok (.slice oa n oc) W)
      unfold Conf.cells at HCT
      clear hok
      obtain ⟨r0, r1, r2, r3, r4, r5, r6, r7, r8, r9, r10, r11⟩ := conf_c X3.out
      go_wp2_with fail
      refine (HCT.out w3).mono ?_
      rintro e w4 ⟨rfl, k4⟩
      have K4 := Lib.hid (K3.out.trans (k4.mono (by have := heap_lt X3.out; omega)))
      have X4 := Lib.hid ((k4.block B (heap_lt X3.out)).trans X3.out)
      have O4 := Lib.hid (HO3.out.below k4)
      clear k4 HCT r0 r1 r2 r3 r4 r5 r6 r7 r8 r9 r10 r11
      have rs : ∀ s : Seen w4, s.val.heap[B]? = some (.cells c.cells 23 (0, 0)) := fun s => (s.below.block B (heap_lt X4.out)).trans X4.out
      have r0 := fun s => (conf_c (rs s)).1
      have r1 := fun s => (conf_c (rs s)).2.1
      have r2 := fun s => (conf_c (rs s)).2.2.1
      have r3 := fun s => (conf_c (rs s)).2.2.2.1
      have r4 := fun s => (conf_c (rs s)).2.2.2.2.1
      have r5 := fun s => (conf_c (rs s)).2.2.2.2.2.1
      have r6 := fun s => (conf_c (rs s)).2.2.2.2.2.2.1
      have r7 := fun s => (conf_c (rs s)).2.2.2.2.2.2.2.1
      have r8 := fun s => (conf_c (rs s)).2.2.2.2.2.2.2.2.1
      have r9 := fun s => (conf_c (rs s)).2.2.2.2.2.2.2.2.2.1
      have r10 := fun s => (conf_c (rs s)).2.2.2.2.2.2.2.2.2.2.1
      have r11 := fun s => (conf_c (rs s)).2.2.2.2.2.2.2.2.2.2.2
      have u1 : ∀ s : Seen w4, (convert 24 9 (.slice oa n oc)).run Try.prog s.val = .ok (.string (bs D)) s.val := fun s => (O4.out.below s.below).str
      have u2 : ∀ s : Seen w4, (convert 24 9 (.slice va n vc)).run Try.prog s.val = .ok (.string (bs D)) s.val := fun s => (HD.out _ (K4.out.trans (s.below.mono (by have := heap_lt X4.out; omega)))).str
      have G1 := Lib.hid (fun s : Seen w4 => seen_call (chk_Check c) s)
      have G2 := Lib.hid (fun s : Seen w4 => seen_call (ref_Check c) s)
      rw [HOK.out] at G1 G2
      simp only [cond_false] at G1
      unfold Conf.cells at G1 G2
      clear rs
      go_upto_region 5 with (fail)
      refine region_seen (by kernel_rfl) (by kernel_rfl) ?_
      repeat go_big_quiet_step (first | (go_at_call 10; with_reducible exact G1.out _) | (go_at_call 11; with_reducible exact G2.out _))
      refine wpQuiet_nil ?_
      rintro _ ⟨ms, rfl⟩
      have K5 := Lib.hid (K4.out.trans (ms.below.mono (by have := heap_lt X4.out; omega)))
      clear r0 r1 r2 r3 r4 r5 r6 r7 r8 r9 r10 r11 u1 u2 G1 G2
      generalize ms.val = w5 at *
      go_wp2
      go_ret
      exact ⟨rfl, K5.out⟩
end Go.Proofs.Ytcjpemkafncihaa
/- A conf, and bytes, that come in. -/
set_option linter.unusedVariables false
set_option maxRecDepth 100000
namespace Go.Proofs.Ytcjpemkafncihaa
open Go.ChangeShapes Go.WideShapes Go.Deep
open Go.RowKit (Below)

/-- A number of 64 bits. -/
def i64R (z : Int) : Prop := -9223372036854775808 ≤ z ∧ z ≤ 9223372036854775807
section
variable {H : Type} {enc : TypeId × Value → H} {w : World} {base : Nat} {spare : Nat → Bool} {held : Bool}
/-- A struct of one-cell fields, field by field. -/
theorem fields_read {P : Program} {t : TypeId} {fs : Array Field} {fuel : Nat} {cs : List Value} {x : DataW H × List MemPlace} (hs : P.underlying t = some (.struct fs)) (hone : oneCellFields P fs = true) (hC : P.cellsOf t = fs.size)
    (h : DataW.trod enc P w base spare held fuel t cs = some x) : cs.length = fs.size ∧ ∃ n, ∀ (j : Nat) (f : Field), fs[j]? = some f → ∃ v y, cs[j]? = some v ∧ DataW.trod enc P w base spare held n f.type [v] = some y := by
  obtain ⟨xs, n, _, _, hlen, hxl, hg⟩ := DataW.trod_struct hs h
  refine ⟨hlen.trans hC, n, fun j f hj => ?_⟩
  obtain ⟨ho, hk⟩ := hone_of hone j f hj
  have hjs : j < fs.size := (Array.getElem?_eq_some_iff.1 hj).1
  have hjc : j < cs.length := by omega
  have hjx : j < xs.length := by omega
  have h1 := hg j f hj
  rw [ho, hk, List.getElem?_eq_getElem hjx] at h1
  have h2 : (cs.drop j).take 1 = [cs[j]] := by rw [List.drop_eq_getElem_cons hjc]; rfl
  rw [h2] at h1
  exact ⟨cs[j], xs[j], List.getElem?_eq_getElem hjc, h1⟩
theorem map_some {α β : Type} {o : Option α} {f : α → β} {b : β} (h : o.map f = some b) : ∃ a, o = some a ∧ f a = b := by
  cases o with
  | none => cases h
  | some a => exact ⟨a, rfl, by injection h⟩
theorem int_field {n : Nat} {v : Value} {y : DataW H × List MemPlace} {t : TypeId} (ht : t = 3) (h : DataW.trod enc Try.prog w base spare held n t [v] = some y) : ∃ z, v = .int .i64 z ∧ i64R z := by
  subst ht
  obtain ⟨z, h1, _, h2⟩ := DataW.trod_int Try.underlying3 h
  exact ⟨z, by injection h1, by simp [Lit.wf, IntKind.min, IntKind.max, IntKind.signed, IntKind.bits] at h2; exact ⟨by omega, by omega⟩⟩
theorem oneC : ∃ fs, Try.prog.underlying 23 = some (.struct fs) ∧ oneCellFields Try.prog fs = true ∧ Try.prog.cellsOf 23 = fs.size ∧ fs.size = 12 ∧ ∀ j, j < 12 → (fs[j]?.map (·.type)) = some 3 :=
  ⟨_, Try.underlying23, by kernel_rfl, by kernel_rfl, by kernel_rfl, fun j hj => by
    have : j = 0 ∨ j = 1 ∨ j = 2 ∨ j = 3 ∨ j = 4 ∨ j = 5 ∨ j = 6 ∨ j = 7 ∨ j = 8 ∨ j = 9 ∨ j = 10 ∨ j = 11 := by omega
    rcases this with rfl | rfl | rfl | rfl | rfl | rfl | rfl | rfl | rfl | rfl | rfl | rfl <;> rfl⟩
/-- A conf that comes in. -/
theorem conf_read {fuel : Nat} {cs : List Value} {x : DataW H × List MemPlace} (h : DataW.trod enc Try.prog w base spare held fuel 23 cs = some x) : ∃ c : Conf, cs = c.cells.toList := by
  obtain ⟨fs, hs, hone, hC, h12, ht⟩ := oneC
  obtain ⟨hlen, n, hf⟩ := fields_read hs hone hC h
  have hv : ∀ j, j < 12 → ∃ z : Int, cs[j]? = some (.int .i64 z) ∧ i64R z := fun j hj => by
    obtain ⟨f, e, g⟩ := map_some (ht j hj)
    obtain ⟨v, y, c, r⟩ := hf j f e
    obtain ⟨z, rfl, hz⟩ := int_field g r
    exact ⟨z, c, hz⟩
  obtain ⟨V, hV⟩ := choose_lt (α := Int) hv
  have hfit : ∀ i, -9223372036854775808 ≤ (if i < 12 then V i else 0) ∧ (if i < 12 then V i else 0) ≤ 9223372036854775807 := fun i => by
    by_cases hi : i < 12
    · have := (hV i hi).2
      simp only [hi, if_true]
      exact this
    · simp only [hi, if_false]
      omega
  refine ⟨⟨fun i => if i < 12 then V i else 0, hfit⟩, ?_⟩
  · apply List.ext_getElem?
    intro j
    by_cases hj : j < 12
    · rw [(hV j hj).1]
      have : j = 0 ∨ j = 1 ∨ j = 2 ∨ j = 3 ∨ j = 4 ∨ j = 5 ∨ j = 6 ∨ j = 7 ∨ j = 8 ∨ j = 9 ∨ j = 10 ∨ j = 11 := by omega
      rcases this with rfl | rfl | rfl | rfl | rfl | rfl | rfl | rfl | rfl | rfl | rfl | rfl <;> rfl
    · rw [List.getElem?_eq_none (by omega), List.getElem?_eq_none (by simp [Conf.cells]; omega)]
theorem byte_read {fuel : Nat} {cs : List Value} {x : DataW H × List MemPlace} (h : DataW.trod enc Try.prog w base spare held fuel 5 cs = some x) : ∃ b : UInt8, cs = [byteV b] := by
  obtain ⟨z, h1, _, h2⟩ := DataW.trod_int Try.underlying5 h
  simp [Lit.wf, IntKind.min, IntKind.max, IntKind.signed, IntKind.bits] at h2
  refine ⟨UInt8.ofNat z.toNat, ?_⟩
  rw [h1]
  unfold byteV
  rw [ofNat_toNat]
  congr 2
  omega
/-- Bytes that come in. -/
theorem bytes_read {fuel : Nat} {cs : List Value} {x : DataW H × List MemPlace} (h : DataW.trod enc Try.prog w base spare held fuel 24 cs = some x) : ∃ v D, cs = [v] ∧ BsV (fun b => b < w.heap.size) w v D ∧ D.length ≤ 9223372036854775807 := by
  rcases open_slice Try.underlying24 h with ⟨hcs, _⟩ | ⟨a, len, cap, m, n, D, Pl, hcs, _, hl, hm, hmm, _, hi⟩
  · exact ⟨_, [], hcs, .inl ⟨rfl, rfl⟩, by simp⟩
  · have hlm : len ≤ m := by rw [hmm]; split <;> omega
    have hC : Try.prog.cellsOf 5 = 1 := by kernel_rfl
    have hcell : ∀ i, i < len → ∃ b : UInt8, w.cell? (a.add i) = some (byteV b) := by
      intro i hil
      obtain ⟨cs', hc, ht⟩ := hi i (by omega)
      rw [hC, Nat.mul_one] at hc
      obtain ⟨_, hcl, hat⟩ := World.cells?_some hc
      obtain ⟨b, rfl⟩ := byte_read ht
      have := hat 0 (by omega)
      refine ⟨b, ?_⟩
      simpa [Addr.add] using this
    obtain ⟨V, hV⟩ := choose_lt (α := UInt8) hcell
    refine ⟨_, (List.range len).map V, hcs, .inr ⟨a, cap, by simp, by simpa using hl, ?_⟩, by simp; unfold maxLen at hm; omega⟩
    by_cases h0 : len = 0
    · left; subst h0; rfl
    · right
      have c00 := hV 0 (by omega)
      have ha : ∃ b off, a = ⟨b, off, none⟩ := by
        obtain ⟨b, off, spot⟩ := a
        have := World.cell?_spot (v := byteV (V 0)) c00
        have hs : spot = none := by simpa [Addr.add] using this
        subst hs
        exact ⟨b, off, rfl⟩
      obtain ⟨b, off, rfl⟩ := ha
      have hb : b < w.heap.size := cell_block (v := byteV (V 0)) (by simpa [Addr.add] using c00)
      refine ⟨b, off, rfl, hb, hb, fun k hk => ?_⟩
      have hk' : k < len := by simpa using hk
      have q := hV k hk'
      rw [addr_add] at q
      rw [q]
      simp [hk']
end
theorem open_conf {H : Type} {enc : TypeId × Value → H} {W : World} {d : DataW H} {p : List MemPlace} {cs : Array Value} (h : DataW.Trod enc Try.prog W 0 (fun _ => true) true 23 (.agg cs) d p) : ∃ c : Conf, cs = c.cells := by
  obtain ⟨n, hn⟩ := h
  obtain ⟨c, hc⟩ := conf_read hn
  exact ⟨c, by rw [← Array.toList_inj]; simpa [Value.cells] using hc⟩
theorem open_bts {H : Type} {enc : TypeId × Value → H} {W : World} {d : DataW H} {p : List MemPlace} {a : Option Addr} {len cap : Nat} (h : DataW.Trod enc Try.prog W 0 (fun _ => true) true 24 (.slice a len cap) d p) : ∃ D, BsV (fun b => b < W.heap.size) W (.slice a len cap) D ∧ D.length ≤ 9223372036854775807 := by
  obtain ⟨n, hn⟩ := h
  obtain ⟨v, D, e, h1, h2⟩ := bytes_read hn
  have : v = .slice a len cap := by simpa [Value.cells] using e.symm
  subst this
  exact ⟨D, h1, h2⟩
end Go.Proofs.Ytcjpemkafncihaa
