/- Texts put together: ChunkCut, ChunkAwake, ChunkMeetsPlain, ChunkLawEnds, ChunkRight -/
import Derived.Test.YtcjpemkafncihaaCMee04
import Derived.Test.YtcjpemkafncihaaCMee01
import Derived.OwnWalkIn
import Derived.Lib.SmallJoins
import Derived.Test.YtcjpemkafncihaaCMee02
/- Cut. -/
set_option linter.unusedVariables false
set_option maxRecDepth 100000
namespace Go.Proofs.Ytcjpemkafncihaa
open Go.RowKit
attribute [local go_sem] Oper.semAt_some

theorem wpListIn_append_off {r m : Nat} {P : Program} {w : World} {ops : Array Oper} {rest : List Oper} {o : Oper} {a : Act} {Q : Exit → Act → World → Prop} (hL : ¬ LetsOut Q) (hgd : o.guard = none) (s x : Operand) (t : TypeId)
    (ho : o.op = .call { callee := .builtin .append, args := #[s, x], argTypes := #[t, t] })
    (B : Nat) (e : TypeId) (i : TypeInfo) (z : Value) (size bytes : Nat) (ht : P.underlying t = some (.slice e)) (hi : P.info? e = some i) (hz : i.zero = some z)
    (hsize : i.size = size) (hby : i.bytes = bytes) (hzs : z.cells.size = size)
    (v : Value) (n : Nat) (xs : List Value) (hs : a.eval s = v) (hown : OffRow w B e size v n xs) (xv : Value) (hx : a.eval x = xv) (k : Nat) (news : List Value) (hsrc : Src P size t xv k news w)
    (h63 : n + k ≤ maxLen) (hbytes : (n + k) * bytes ≤ 140737488355328) (hB : B ≤ w.heap.size)
    (h : ∀ v' w', OffRow w' B e size v' (n + k) (xs ++ news) → w.grownBy w' v.ownBlock → (v'.ownBlock = v.ownBlock ∨ v'.ownBlock = some w.heap.size) → wpListIn (Fence.wide.inRound r) m P ops Q rest (a.put o.dst v') w') : wpListIn (Fence.wide.inRound r) m P ops Q (o :: rest) a w :=
  wpListIn_plain hgd fun K hK => operIn_of_wp (fun ρ => by unfold Oper.semAt; simp [ho]) hL (fun a w h => hK a w h) (wp_append_off s x t ho B e i z size bytes ht hi hz hsize hby hzs v n xs hs hown xv hx k news hsrc h63 hbytes hB h)
theorem conf_c {w : World} {cb : Nat} {c : Conf} (h : w.heap[cb]? = some (.cells c.cells 23 (0, 0))) : w.cell? ⟨cb, 0, none⟩ = some (.int .i64 (c.f 0)) ∧ w.cell? ⟨cb, 1, none⟩ = some (.int .i64 (c.f 1)) ∧ w.cell? ⟨cb, 2, none⟩ = some (.int .i64 (c.f 2)) ∧ w.cell? ⟨cb, 3, none⟩ = some (.int .i64 (c.f 3)) ∧ w.cell? ⟨cb, 4, none⟩ = some (.int .i64 (c.f 4)) ∧ w.cell? ⟨cb, 5, none⟩ = some (.int .i64 (c.f 5)) ∧ w.cell? ⟨cb, 6, none⟩ = some (.int .i64 (c.f 6)) ∧ w.cell? ⟨cb, 7, none⟩ = some (.int .i64 (c.f 7)) ∧ w.cell? ⟨cb, 8, none⟩ = some (.int .i64 (c.f 8)) ∧ w.cell? ⟨cb, 9, none⟩ = some (.int .i64 (c.f 9)) ∧ w.cell? ⟨cb, 10, none⟩ = some (.int .i64 (c.f 10)) ∧ w.cell? ⟨cb, 11, none⟩ = some (.int .i64 (c.f 11)) := by
  refine ⟨?_, ?_, ?_, ?_, ?_, ?_, ?_, ?_, ?_, ?_, ?_, ?_⟩ <;> simp [World.cell?, h, Conf.cells]
/-- What Cut's loop keeps: the box of its row, the row. -/
structure CI (B gb : Nat) (w : World) (pr : List (Nat × List UInt8)) (S : Nat → Prop) (lv : Value) (W' : World) : Prop where
  hs : ∀ k, S k ↔ k = gb ∨ lv.ownBlock = some k
  hg : W'.heap[gb]? = some (.cells #[lv] 26 (0, 0))
  row : OwnN W' (gb + 1) lv (pr.map (·.2.length))
  bel : Below B w W'
theorem putObj_other {A : World} {l k : Nat} {o o' : Obj} (h : A.heap[l]? = some o) (hk : k ≠ l) : (A.putObj l o').heap[k]? = A.heap[k]? := World.putObj_heap_other hk
set_option maxHeartbeats 8000000 in
theorem chk_Cut {c : Conf} {l m M : Nat} (h3 : Hid (c.Nat3 l m M)) {Qd : Nat → Prop} {v : Value} {D : List UInt8} {w : World} (h : Hid (BsV Qd w v D)) (hD : D.length ≤ 1000000) : Calls Try.prog 9 #[.agg c.cells, v] w fun e w' => ∃ nv, e = .returned (.tuple #[nv, .int .i64 0]) ∧ OwnN w' w.heap.size nv (cutF ⟨l, m, M⟩ [] 0 D) ∧ Below w.heap.size w w' := by
  obtain ⟨va, vc, rfl⟩ := h.out.slice
  obtain ⟨B, hB⟩ : ∃ B, B = w.heap.size := ⟨_, rfl⟩
  rw [← hB]
  have HB := Lib.hid hB
  have HCH := Lib.hid (fun W => chk_Check c W)
  rw [Conf.not_ok h3.out] at HCH
  obtain ⟨w1, hw1⟩ : ∃ w1, w.alloc (.cells c.cells 23) = w1 := ⟨_, rfl⟩
  have K1 := Lib.hid (show Below B w w1 by rw [← hw1, hB]; exact (Below.refl _ _).alloc (Nat.le_refl _) _)
  have X1 := Lib.hid (show w1.heap[B]? = some (.cells c.cells 23 (0, 0)) by rw [← hw1, hB]; exact heap_new w _)
  have HW1 := Lib.hid hw1
  clear hw1 hB
  obtain ⟨q0, q1, q2, q3, q4, q5, q6, q7, q8, q9, q10, q11⟩ := conf_c X1.out
  obtain ⟨i0, hi0, hz0, hz1, hz2⟩ := info_parts infoInt
  have HI := Lib.hid (And.intro hi0 (And.intro hz0 (And.intro hz1 hz2)))
  clear hi0 hz0 hz1 hz2
  refine (callsIn_wide (n := 5)).1 ?_
  refine callsIn_of_wp_marks Try.func9 rfl trivial ?_ rfl
  simp only [Try.ntmps9, List.size_toArray, List.length_cons, List.length_nil, Nat.reduceAdd, Nat.reduceSub, Array.replicate_succ, Array.replicate_zero, List.push_toArray, List.append_toArray, List.nil_append, List.cons_append]
  refine (wpIn_wide (n := 5)).2 ?_
  go_upto_region 1 with (fail)
  rw [HW1.out, ← HB.out]
  go_wp2_with fail
  refine (HCH.out w1).mono ?_
  rintro e w2 ⟨rfl, k2⟩
  have K2 := Lib.hid (K1.out.trans (k2.mono (Nat.le_of_lt (heap_lt X1.out))))
  have X2 := Lib.hid ((k2.block B (heap_lt X1.out)).trans X1.out)
  clear k2 q0 q1 q2 q3 q4 q5 q6 q7 q8 q9 q10 q11
  simp only [cond_true]
  obtain ⟨w3, hw3⟩ : ∃ w3, w2.alloc (.cells #[.slice none 0 0] 26) = w3 := ⟨_, rfl⟩
  obtain ⟨gb, hgb⟩ : ∃ gb, gb = w2.heap.size := ⟨_, rfl⟩
  have k3 : Below w2.heap.size w2 w3 := by rw [← hw3]; exact (Below.refl _ _).alloc (Nat.le_refl _) _
  have G3 := Lib.hid (show w3.heap[gb]? = some (.cells #[.slice none 0 0] 26 (0, 0)) by rw [← hw3, hgb]; exact heap_new w2 _)
  have K3 := Lib.hid (K2.out.trans (k3.mono (by have := heap_lt X2.out; omega)))
  have X3 := Lib.hid ((k3.block B (heap_lt X2.out)).trans X2.out)
  have HW3 := Lib.hid hw3
  have HGB := Lib.hid hgb
  have HBG := Lib.hid (show B < gb by rw [hgb]; exact heap_lt X2.out)
  clear hw3 k3 hgb
  obtain ⟨q0, q1, q2, q3, q4, q5, q6, q7, q8, q9, q10, q11⟩ := conf_c X3.out
  go_upto_region 5 with (fail)
  rw [HW3.out, ← HGB.out]
  go_wp2_with fail
  have HD3 := Lib.hid (h.out.below (HB.out ▸ K3.out))
  refine (chk_Parts (c := c) HD3 (by omega)).mono ?_
  rintro e w5 ⟨cb, xb, v', rfl, hP5, hcb, hxb, hv5, k5⟩
  have K5 := Lib.hid (K3.out.trans (k5.mono (by have := heap_lt X3.out; omega)))
  have G5 := Lib.hid ((k5.block gb (heap_lt G3.out)).trans G3.out)
  have P5 := Lib.hid hP5
  have HF5 := Lib.hid (show ∀ k, PFs cb xb v' k → gb < k from fun k hk => by
    have := heap_lt G3.out
    rcases hk with rfl | rfl | hk
    · omega
    · omega
    · have := hv5 k hk; omega)
  have HZ5 := Lib.hid (show gb < w5.heap.size from heap_lt G5.out)
  clear q0 q1 q2 q3 q4 q5 q6 q7 q8 q9 q10 q11 hP5 hcb hxb hv5 k5 K1 K2 K3 X1 X2 X3 G3 HW1 HW3 HD3
  go_wp2_with fail
  have HST := Lib.hid (parts_stops 4 cb xb h3 v' D hD)
  obtain ⟨Y, hY⟩ : ∃ Y, Y = prs D 0 (enA ⟨l, m, M⟩ [] D 0 D.length) := ⟨_, rfl⟩
  rw [← hY] at HST
  have HY := Lib.hid hY
  clear hY
  have HYL := Lib.hid (show Y.length ≤ 1000001 by
    have h1 := cut_prs ⟨l, m, M⟩ D
    have h2 := cutF_len ⟨l, m, M⟩ D [] 0
    rw [← h1, List.length_map, ← HY.out] at h2
    omega)
  refine (wpIn_wide (n := 5)).1 ?_
  refine wpIn_rangeFunc_sh (α := Nat × List UInt8) (n := 5) (by omega) (gf := 24) (lb := #[.pointer (some ⟨cb, 0, none⟩), .pointer (some ⟨xb, 0, none⟩)]) rfl (enters_of Try.func24 (by kernel_rfl) rfl)
    (Kp := KpT) (fun _ _ _ _ _ => trivial) (fun _ _ _ _ _ => trivial) (fun _ _ => trivial) HST.out (fun k hk => P5.out.all k hk)
    (fun k A C hA hAC => hA.keep hAC (fun i hi hp => by have := P5.out.all i hp; omega)) (fun A C _ _ => trivial)
    (fun x args A hR => by obtain ⟨u, rfl, _⟩ := hR; rfl) (fun x args A l r r' hR hl => by obtain ⟨u, h1, h2⟩ := hR; exact ⟨u, h1, h2.putLoop hl⟩)
    (fun pr S A => ∃ lv, CI B gb w pr S lv A) (fun _ _ _ => False) (fun k => k = gb)
    (fun k hk => ⟨by rw [hk]; exact HZ5.out, fun hp => by have := HF5.out k hp; omega⟩)
    (fun pr S A C Sx hA hAC _ hSx => by
      obtain ⟨lv, hI⟩ := hA
      refine ⟨lv, hI.hs, (hAC.block gb (heap_lt hI.hg) fun hs => (hSx gb hs).2 ((hI.hs gb).2 (.inl rfl))).trans hI.hg, OffRow.kept hI.row fun j hj => hAC.block j (OffRow.lt hI.row j hj).2 fun hs => (hSx j hs).2 ((hI.hs j).2 (.inr hj)), hI.bel.trans (hAC.below (fun j _ hj => ?_) (by have := heap_lt hI.hg; have := HBG.out; omega))⟩
      rcases (hSx j hj).1 with hp | hp
      · have := HF5.out j hp; have := HBG.out; omega
      · have := HZ5.out; have := HBG.out; omega)
    (fun cc pr A C hA _ => hA.elim)
    ⟨.slice none 0 0, ⟨fun k => by simp [Value.ownBlock], G5.out, OffRow.nil _ _ _ _, K5.out⟩⟩ P5.out
    (fun t args => t.setIfInBounds 9 (args.getD 1 undef)) ?assign ?body ?done ?stop
  case assign =>
    intro lq x args W' K hR hK
    obtain ⟨u, rfl, _⟩ := hR
    gi_wp2
    simp at hK
    exact hK
  case body =>
    rintro lq pr S x args W' ⟨lv, hI⟩ hnF hES hx ⟨u, rfl, hu⟩ hsz
    obtain ⟨ua, uc, rfl⟩ := hu.slice
    obtain ⟨la, lc, rfl⟩ := OffRow.slice hI.row
    have HI1 := Lib.hid hI
    have HES := Lib.hid hES
    have HNF := Lib.hid hnF
    have hpl : pr.length < Y.length := (List.getElem?_eq_some_iff.1 hx).1
    obtain ⟨n, hn⟩ : ∃ n, n = (pr.map (·.2.length)).length := ⟨_, rfl⟩
    have hn2 : n ≤ 1000001 := by rw [hn, List.length_map]; have := HYL.out; omega
    obtain ⟨L, hL⟩ : ∃ L, L = pr.map (·.2.length) := ⟨_, rfl⟩
    obtain ⟨z, hz⟩ : ∃ z, z = x.2.length := ⟨_, rfl⟩
    have HLL := Lib.hid (show (pr ++ [x]).map (·.2.length) = L ++ [z] by rw [List.map_append, hL, hz]; rfl)
    have HLN := Lib.hid (show n = L.length by rw [hn, hL])
    rw [← hn] at HI1
    rw [← hz]
    have y0 : W'.cell? ⟨gb, 0, none⟩ = some (.slice la n lc) := by simp [World.cell?, HI1.out.hg]
    have HR := Lib.hid (show OffRow W' (gb + 1) 3 1 (.slice la n lc) n (ncells L) from by have := HI1.out.row; unfold OwnN at this; rw [← hn, ← hL] at this; exact this)
    have HGZ := Lib.hid (show gb < W'.heap.size from heap_lt HI1.out.hg)
    clear hI hES hnF hx hu hpl hn hL hz
    obtain ⟨hi0, hz0, hz1, hz2⟩ := HI.out
    gi_wp2_with (gi_at_builtin; refine wpListIn_append_off (fun ⟨_, _, h⟩ => h) rfl (.tmp 20) (.tmp 23) 26 rfl (gb + 1) 3 i0 _ 1 8 Try.underlying26 hi0 hz0 hz1 hz2 rfl (.slice la n lc) n (ncells L) rfl ?c1 (.slice (some ⟨W'.heap.size, 0, none⟩) 1 1) rfl 1 [.int .i64 (z : Int)] ?c2 ?c3 ?c4 ?c5 ?_)
    case c1 => exact HR.out.allocd _
    case c2 => exact src_block (size := 1) (cs := #[.int .i64 (z : Int)]) Try.underlying26 (heap_new _ _) 1 1 rfl (by intro u hu; simp at hu; subst hu; rfl)
    case c3 => unfold maxLen; omega
    case c4 => omega
    case c5 => have := HGZ.out; simp; omega
    intro v7 w7 hr7 hg7 hat7
    obtain ⟨a7, c7, rfl⟩ := OffRow.slice hr7
    have hown : ∀ k, (Value.slice la n lc).ownBlock = some k → k ≠ gb ∧ k < W'.heap.size := fun k hk => by have := OffRow.lt HR.out k hk; omega
    have hgb7 : w7.heap[gb]? = some (.cells #[.slice la n lc] 26 (0, 0)) := by
      rw [hg7.block gb (by have := HGZ.out; simp; omega) (fun e => (hown gb e.symm).1 rfl)]
      exact (Below.heap_alloc _ _ _ HGZ.out).trans HI1.out.hg
    have hv7 : (Value.slice a7 (n + 1) c7).ownBlock ≠ some gb := fun e => by
      have := (OffRow.lt hr7 gb e).1
      omega
    have HON := Lib.hid (show Only S W' (w7.setCell ⟨gb, 0, none⟩ (.slice a7 (n + 1) c7)) from ((((Only.refl S W').alloc _).grown2 hg7 (fun k hk => .inr ((HI1.out.hs k).2 (.inr hk)))).setCell (p := ⟨gb, 0, none⟩) (.inl ((HI1.out.hs gb).2 (.inl rfl))) _))
    have HB7 := Lib.hid (show Below B w (w7.setCell ⟨gb, 0, none⟩ (.slice a7 (n + 1) c7)) from ((HI1.out.bel.alloc (by have := HGZ.out; have := HBG.out; omega) _).grown hg7 (by have := HGZ.out; have := HBG.out; simp; omega) (fun j hj => by have := OffRow.lt HR.out j hj; have := HBG.out; omega)).setCell (p := ⟨gb, 0, none⟩) (by have := HBG.out; show B ≤ gb; omega) _)
    have HR7 := Lib.hid hr7
    have HV7 := Lib.hid hv7
    have HAT := Lib.hid hat7
    have HGB7 := Lib.hid hgb7
    have z1 : w7.cell? ⟨gb, 0, none⟩ = some (.slice la n lc) := by simp [World.cell?, hgb7]
    have z2 : w7.frozen? ⟨gb, 0, none⟩ = false := by simp [World.frozen?, hgb7]
    clear hr7 hg7 hat7 hv7 hgb7 hi0 hz0 hz1 hz2 y0
    gi_wp2
    refine ⟨HON.out.mono fun k _ hk => .inl hk, HES.out.keep HON.out HNF.out, fun k => k = gb ∨ (Value.slice a7 (n + 1) c7).ownBlock = some k, fun k hk => ?_, .slice a7 (n + 1) c7, ⟨fun k => Iff.rfl, by rw [heap_set HGB7.out]; simp, ?_, HB7.out⟩⟩
    · rcases hk with rfl | hk
      · exact ⟨.inl ((HI1.out.hs _).2 (.inl rfl)), by have := heap_lt HGB7.out; simpa using this⟩
      · refine ⟨?_, by have := (OffRow.lt HR7.out k hk).2; simpa using this⟩
        rcases HAT.out with h | h
        · exact .inl ((HI1.out.hs k).2 (.inr (by rw [← h]; exact hk)))
        · rw [h] at hk
          injection hk with hk
          right
          rw [← hk]
          simp
    · rw [HLL.out]
      unfold OwnN
      rw [List.length_append, List.length_singleton, ncells_snoc, ← HLN.out]
      exact OffRow.kept HR7.out fun j hj => heap_set_other (fun e => HV7.out (by rw [← e]; exact hj)) _
  case done =>
    rintro Dm S V hDm ⟨lv, hI⟩ _ hK hsd
    have HI1 := Lib.hid hI
    have HK := Lib.hid hK
    have HDM := Lib.hid hDm
    obtain ⟨la, lc, rfl⟩ := OffRow.slice hI.row
    have y0 : V.cell? ⟨gb, 0, none⟩ = some (.slice la (Y.map (·.2.length)).length lc) := by simp [World.cell?, hI.hg]
    clear hI hK hDm
    gi_wp2
    go_wp2_with fail
    have HCP := Lib.hid (show cutF ⟨l, m, M⟩ [] 0 D = Y.map (·.2.length) by rw [HY.out, cut_prs])
    refine ⟨by simp, .inl ⟨_, _, rfl, run_takeDeferred HK.out, ?_⟩⟩
    refine ⟨.tuple #[.slice la Y.length lc, .int .i64 0], ?_, ⟨.slice la Y.length lc, rfl, ?_, ?_⟩⟩
    · simp [results, Try.f9, go_sem]
    · rw [HCP.out]
      have hr := HI1.out.row
      unfold OwnN at hr ⊢
      have e : (Value.slice la Y.length lc) = .slice la (Y.map (·.2.length)).length lc := by rw [List.length_map]
      rw [e]
      exact OffRow.weak (OffRow.kept hr fun j hj => World.putObj_heap_other (fun e => hsd j ((HI1.out.hs j).2 (.inr hj)) e)) (by have := HBG.out; omega)
    · exact HI1.out.bel.grown (grownBy_putObj' _ Dm (.deferred none)) (by have := heap_lt HI1.out.hg; have := HBG.out; omega) (fun k e => by cases e; have := HDM.out; have := HZ5.out; have := HBG.out; omega)
  case stop =>
    rintro Dm cc pr V hDm hA hK
    exact hA.elim
set_option maxHeartbeats 8000000 in
/-- A conf that may not be. -/
theorem chk_Cut_no {c : Conf} (hc : c.ok = false) (v : Value) (w : World) : Calls Try.prog 9 #[.agg c.cells, v] w fun e w' => e = .returned (.tuple #[.slice none 0 0, .int .i64 1]) ∧ Below w.heap.size w w' := by
  obtain ⟨B, hB⟩ : ∃ B, B = w.heap.size := ⟨_, rfl⟩
  rw [← hB]
  have HB := Lib.hid hB
  have HCH := Lib.hid (fun W => chk_Check c W)
  rw [hc] at HCH
  obtain ⟨w1, hw1⟩ : ∃ w1, w.alloc (.cells c.cells 23) = w1 := ⟨_, rfl⟩
  have K1 := Lib.hid (show Below B w w1 by rw [← hw1, hB]; exact (Below.refl _ _).alloc (Nat.le_refl _) _)
  have X1 := Lib.hid (show w1.heap[B]? = some (.cells c.cells 23 (0, 0)) by rw [← hw1, hB]; exact heap_new w _)
  have HW1 := Lib.hid hw1
  clear hw1 hB
  obtain ⟨q0, q1, q2, q3, q4, q5, q6, q7, q8, q9, q10, q11⟩ := conf_c X1.out
  refine (callsIn_wide (n := 5)).1 ?_
  refine callsIn_of_wp_marks Try.func9 rfl trivial ?_ rfl
  simp only [Try.ntmps9, List.size_toArray, List.length_cons, List.length_nil, Nat.reduceAdd, Nat.reduceSub, Array.replicate_succ, Array.replicate_zero, List.push_toArray, List.append_toArray, List.nil_append, List.cons_append]
  refine (wpIn_wide (n := 5)).2 ?_
  go_upto_region 1 with (fail)
  rw [HW1.out, ← HB.out]
  go_wp2_with fail
  refine (HCH.out w1).mono ?_
  rintro e w2 ⟨rfl, k2⟩
  have K2 := Lib.hid (K1.out.trans (k2.mono (Nat.le_of_lt (heap_lt X1.out))))
  clear k2 q0 q1 q2 q3 q4 q5 q6 q7 q8 q9 q10 q11
  simp only [cond_false]
  go_wp2_with fail
  refine ⟨.tuple #[.slice none 0 0, .int .i64 1], ?_, rfl, K2.out⟩
  simp [results, Try.f9, go_sem]
end Go.Proofs.Ytcjpemkafncihaa
/- The law's own look: the document's examples; equal lists of numbers. -/
set_option linter.unusedVariables false
set_option maxRecDepth 100000
namespace Go.Proofs.Ytcjpemkafncihaa
open Go.RowKit

set_option maxHeartbeats 2000000 in
theorem same_ints {va vb : Value} {L : List Nat} {w : World} (ha : Hid (NsV w va L)) (hb : Hid (NsV w vb L)) (hl : L.length ≤ 1000000000) :
    Calls Try.prog 12 #[va, vb] w fun e w' => e = .returned (.bool true) ∧ Below w.heap.size w w' := by
  obtain ⟨a, ca, rfl⟩ := ha.out.slice
  obtain ⟨b, cb, rfl⟩ := hb.out.slice
  obtain ⟨len, hlen⟩ : ∃ len, len = L.length := ⟨_, rfl⟩
  rw [← hlen] at ha hb hl ⊢
  have HL := Lib.hid hlen
  clear hlen
  go_enter Try.func12, Try.ntmps12
  go_wp2_with fail
  go_loopw [5] (fun i wr => ∃ k : Nat, k ≤ len ∧ i = .int .i64 k ∧ Hid (Below w.heap.size w wr)) (fun i wr => len - (intOf i).toNat)
  case atStart => exact ⟨0, Nat.zero_le _, rfl, Lib.hid (Below.refl _ _)⟩
  case round =>
    obtain ⟨k, hk, rfl, hK⟩ := hrel
    by_cases hlt : k < len
    · obtain ⟨t, ht⟩ : ∃ t, L[k]? = some t := ⟨_, List.getElem?_eq_getElem (by have := HL.out; omega)⟩
      obtain ⟨b0, off0, rfl, _, c0⟩ := (ha.out.below hK.out).at ht
      obtain ⟨b1, off1, rfl, _, c1⟩ := (hb.out.below hK.out).at ht
      have hlt2 : (k : Int) < (len : Int) := by omega
      clear ht
      go_wp2_with fail
      go_quiet (fail)
      go_wp2
      go_roundw
      case rel => exact ⟨k + 1, by omega, by go_num, Lib.hid (below_drewN hK.out _)⟩
      case measure => simp [intOf]; omega
    · go_wp2
      go_ret
      exact ⟨rfl, hK.out⟩
def awakeC : Conf := ⟨fun i => if i = 8 then 1 else if i = 9 then 1 else if i = 10 then 9 else 0, fun i => by split <;> (try split) <;> (try split) <;> omega⟩
def zeroC : Conf := ⟨fun _ => 0, fun i => by omega⟩
theorem awakeC_3 : awakeC.Nat3 1 1 9 := ⟨rfl, rfl, rfl, by omega, by omega, by omega, by omega, by omega⟩
theorem zeroC_no : zeroC.ok = false := rfl
theorem cut_abc : cutF ⟨1, 1, 9⟩ [] 0 [97, 98, 99] = [1, 1, 1] := by decide
set_option maxHeartbeats 4000000 in
theorem law_awake16 (w : World) : Calls Try.prog 8 #[] w fun e w' => e = .returned (.bool true) ∧ Below w.heap.size w w' := by
  obtain ⟨w1, hw1⟩ : ∃ w1, w1 = w.alloc (.cells #[.int .u8 97, .int .u8 98, .int .u8 99] 5 (3, 4)) := ⟨_, rfl⟩
  have K1 := Lib.hid (show Below w.heap.size w w1 by rw [hw1]; exact (Below.refl _ _).alloc (Nat.le_refl _) _)
  have hb1 : w1.heap[w.heap.size]? = some (.cells #[.int .u8 97, .int .u8 98, .int .u8 99] 5 (3, 4)) := by rw [hw1]; exact heap_new w _
  have D1 := Lib.hid (show BsV (fun _ => True) w1 (.slice (some ⟨w.heap.size, 0, none⟩) 3 3) [97, 98, 99] from .inr ⟨⟨w.heap.size, 0, none⟩, 3, rfl, by simp, .inr ⟨w.heap.size, 0, rfl, trivial, heap_lt hb1, fun k hk => by
    have : k = 0 ∨ k = 1 ∨ k = 2 := by simp at hk; omega
    rcases this with rfl | rfl | rfl <;> simp [World.cell?, hb1, byteV]⟩⟩)
  have HC1 := Lib.hid (chk_Cut (c := awakeC) (Lib.hid awakeC_3) D1 (by simp))
  rw [cut_abc] at HC1
  have HC2 := Lib.hid (fun W => chk_Cut_no zeroC_no (.slice none 0 0) W)
  have HW1 := Lib.hid hw1
  clear hw1 hb1
  have hcv : (convert 24 24 (.slice (some ⟨w.heap.size, 0, none⟩) 3 3)).run Try.prog (w.alloc (.cells #[.int .u8 97, .int .u8 98, .int .u8 99] 5)) = .ok (.slice (some ⟨w.heap.size, 0, none⟩) 3 3) w1 := by rw [HW1.out]; exact Lib.run_convert_bytes_const w 24 5 #[.int .u8 97, .int .u8 98, .int .u8 99] 3 3 Try.underlying24 Try.underlying5
  go_enter Try.func8, Try.ntmps8
  go_wp2_with fail
  refine HC1.out.mono ?_
  rintro e w2 ⟨nv, rfl, hn, k2⟩
  have K2 := Lib.hid (K1.out.trans (k2.mono K1.out.size))
  have N2 := Lib.hid hn.ns
  clear hn k2
  obtain ⟨na, nc, rfl⟩ := N2.out.slice
  go_wp2_with fail
  refine (HC2.out w2).mono ?_
  rintro e w3 ⟨rfl, k3⟩
  have K3 := Lib.hid (K2.out.trans (k3.mono K2.out.size))
  have N3 := Lib.hid (N2.out.below k3)
  clear k3
  obtain ⟨w4, hw4⟩ : ∃ w4, w4 = w3.alloc (.cells #[.int .i64 1, .int .i64 1, .int .i64 1] 3) := ⟨_, rfl⟩
  have k4 : Below w3.heap.size w3 w4 := by rw [hw4]; exact (Below.refl _ _).alloc (Nat.le_refl _) _
  have hb4 : w4.heap[w3.heap.size]? = some (.cells #[.int .i64 1, .int .i64 1, .int .i64 1] 3 (0, 0)) := by rw [hw4]; exact heap_new w3 _
  have N4 := Lib.hid (show NsV w4 (.slice (some ⟨w3.heap.size, 0, none⟩) 3 3) [1, 1, 1] from ⟨_, 3, rfl, w3.heap.size, 0, .inr rfl, fun k hk => ⟨heap_lt hb4, by
    have : k = 0 ∨ k = 1 ∨ k = 2 := by simp at hk; omega
    rcases this with rfl | rfl | rfl <;> simp [World.cell?, hb4]⟩⟩)
  have HSI := Lib.hid (same_ints (Lib.hid (N3.out.below k4)) N4 (by simp))
  have K4 := Lib.hid (K3.out.trans (k4.mono K3.out.size))
  have HW4 := Lib.hid hw4
  clear k4 hb4 hw4
  go_wp2_with fail
  rw [← HW4.out]
  refine HSI.out.mono ?_
  rintro e w5 ⟨rfl, k5⟩
  have K5 := Lib.hid (K4.out.trans (k5.mono K4.out.size))
  clear k5
  go_wp2_with fail
  go_ret
  exact ⟨rfl, K5.out⟩
end Go.Proofs.Ytcjpemkafncihaa
/- Texts that end alike are cut alike from where they meet. -/
set_option linter.unusedVariables false
namespace Go.Proofs.Ytcjpemkafncihaa
open Go.RowKit

theorem last_next {p p' : List UInt8} (b : UInt8) (h : p.drop (p.length - 15) = p'.drop (p'.length - 15)) : (p ++ [b]).drop ((p ++ [b]).length - 15) = (p' ++ [b]).drop ((p' ++ [b]).length - 15) ∧ sumW (p ++ [b]) = sumW (p' ++ [b]) := by
  have key : ∀ q : List UInt8, (q ++ [b]).drop ((q ++ [b]).length - 16) = q.drop (q.length - 15) ++ [b] := fun q => by
    rw [List.length_append, List.length_singleton, show q.length + 1 - 16 = q.length - 15 by omega, List.drop_append_of_le_length (by omega)]
  have key2 : ∀ q : List UInt8, (q ++ [b]).drop ((q ++ [b]).length - 15) = ((q.drop (q.length - 15)) ++ [b]).drop ((q.drop (q.length - 15) ++ [b]).length - 15) := fun q => by
    rw [List.length_append, List.length_append, List.length_singleton, List.length_drop]
    by_cases hq : q.length < 15
    · rw [show q.length - 15 = 0 by omega, List.drop_zero, show q.length + 1 - 15 = q.length - 0 + 1 - 15 by omega]
    · rw [List.drop_append_of_le_length (by omega), show q.length - (q.length - 15) + 1 - 15 = 1 by omega, List.drop_append_of_le_length (by rw [List.length_drop]; omega), List.drop_drop]
      congr 2
      omega
  refine ⟨by rw [key2 p, key2 p', h], ?_⟩
  unfold sumW
  rw [key p, key p', h]
/-- What comes depends on the last 15 bytes alone. -/
theorem cutF_last (c : Cf) : ∀ (r p p' : List UInt8) (n : Nat), p.drop (p.length - 15) = p'.drop (p'.length - 15) → cutF c p n r = cutF c p' n r
  | [], p, p', n, h => rfl
  | b :: r, p, p', n, h => by
    obtain ⟨h1, h2⟩ := last_next b h
    rw [cutF, cutF, h2, cutF_last c r _ _ 0 h1, cutF_last c r _ _ (n + 1) h1]
theorem last_tail (a tail : List UInt8) (t : Nat) (h15 : 15 ≤ t) (ht : t ≤ tail.length) : ((a ++ tail).take (a.length + t)).drop (((a ++ tail).take (a.length + t)).length - 15) = (tail.take t).drop (t - 15) := by
  rw [List.length_take, List.length_append, Nat.min_eq_left (by omega), List.take_append, List.take_of_length_le (by omega), show a.length + t - a.length = t by omega, List.drop_append]
  rw [List.drop_eq_nil_of_le (by omega), List.nil_append]
  congr 1
  omega
/-- Sum of a list. -/
def sumN (L : List Nat) : Nat := L.foldl (· + ·) 0
theorem sumN_cons (x : Nat) (L : List Nat) : sumN (x :: L) = x + sumN L := by
  unfold sumN
  have : ∀ (L : List Nat) (a : Nat), L.foldl (· + ·) a = a + L.foldl (· + ·) 0 := by
    intro L
    induction L with
    | nil => intro a; simp
    | cons y L ih => intro a; rw [List.foldl_cons, List.foldl_cons, ih (a + y), ih (0 + y)]; omega
  rw [List.foldl_cons, this L (0 + x)]
  omega
/-- Behind the chunk i: as if bytes began there. -/
theorem cut_drop (c : Cf) : ∀ (r p : List UInt8) (n i : Nat), i < (cutF c p n r).length → ∃ s, n + s = sumN ((cutF c p n r).take (i + 1)) ∧ s ≤ r.length ∧ (cutF c p n r).drop (i + 1) = cutF c (p ++ r.take s) 0 (r.drop s)
  | [], p, n, i, h => by
    rw [cutF] at h ⊢
    by_cases hn : 0 < n
    · rw [if_pos hn] at h ⊢
      simp at h
      subst h
      exact ⟨0, by simp [sumN], by simp, by simp [cutF]⟩
    · rw [if_neg hn] at h
      simp at h
  | b :: r, p, n, i, h => by
    rw [cutF] at h ⊢
    by_cases he : endB c (n + 1) (sumW (p ++ [b])) = true
    · rw [if_pos he] at h ⊢
      cases i with
      | zero =>
        refine ⟨1, by simp [sumN], by simp, ?_⟩
        simp
      | succ i =>
        obtain ⟨s, h1, h2, h3⟩ := cut_drop c r (p ++ [b]) 0 i (by simpa using h)
        refine ⟨s + 1, ?_, by simpa using h2, ?_⟩
        · rw [List.take_succ_cons, sumN_cons, ← h1]
          omega
        · rw [List.drop_succ_cons, h3, List.take_succ_cons, List.drop_succ_cons, List.append_assoc]
          rfl
    · rw [if_neg he] at h ⊢
      obtain ⟨s, h1, h2, h3⟩ := cut_drop c r (p ++ [b]) (n + 1) i h
      refine ⟨s + 1, by omega, by simpa using h2, ?_⟩
      rw [h3, List.take_succ_cons, List.drop_succ_cons, List.append_assoc]
      rfl
/-- Where chunks end, counted from a place on. -/
def endsI : Int → List Nat → List Int
  | _, [] => []
  | a, n :: L => (a + (n : Int)) :: endsI (a + (n : Int)) L
theorem endsI_len (a : Int) (L : List Nat) : (endsI a L).length = L.length := by
  induction L generalizing a with
  | nil => rfl
  | cons n L ih => rw [endsI, List.length_cons, List.length_cons, ih]
theorem endsI_snoc (a : Int) (L : List Nat) (n : Nat) : endsI a (L ++ [n]) = endsI a L ++ [a + (sumN L : Int) + (n : Int)] := by
  induction L generalizing a with
  | nil => simp [endsI, sumN]
  | cons x L ih =>
    rw [List.cons_append, endsI, endsI, ih, sumN_cons, List.cons_append]
    congr 3
    omega
theorem endsI_drop (a : Int) : ∀ (L : List Nat) (i : Nat), i < L.length → (endsI a L).drop i = (a + (sumN (L.take (i + 1)) : Int)) :: endsI (a + (sumN (L.take (i + 1)) : Int)) (L.drop (i + 1))
  | [], i, h => by simp at h
  | n :: L, 0, h => by simp [endsI, sumN]
  | n :: L, i + 1, h => by
    rw [endsI, List.drop_succ_cons, endsI_drop (a + (n : Int)) L i (by simpa using h), List.take_succ_cons, sumN_cons, List.drop_succ_cons]
    have e : a + (n : Int) + (sumN (L.take (i + 1)) : Int) = a + ((n + sumN (L.take (i + 1)) : Nat) : Int) := by omega
    rw [e]
/-- 16.5. -/
theorem meets (c : Cf) (a b tail : List UInt8) (i j : Nat) (z : Int) (hi : (endsI (-(a.length : Int)) (cutF c [] 0 (a ++ tail)))[i]? = some z) (hj : (endsI (-(b.length : Int)) (cutF c [] 0 (b ++ tail)))[j]? = some z) (hz : 15 ≤ z) :
    (endsI (-(a.length : Int)) (cutF c [] 0 (a ++ tail))).drop i = (endsI (-(b.length : Int)) (cutF c [] 0 (b ++ tail))).drop j := by
  have hil := (List.getElem?_eq_some_iff.1 hi).1
  have hjl := (List.getElem?_eq_some_iff.1 hj).1
  rw [endsI_len] at hil hjl
  obtain ⟨s, s1, s2, s3⟩ := cut_drop c (a ++ tail) [] 0 i hil
  obtain ⟨u, u1, u2, u3⟩ := cut_drop c (b ++ tail) [] 0 j hjl
  have di := endsI_drop (-(a.length : Int)) _ i hil
  have dj := endsI_drop (-(b.length : Int)) _ j hjl
  rw [← s1] at di
  rw [← u1] at dj
  have zi : z = -(a.length : Int) + ((0 + s : Nat) : Int) := by
    have := hi
    rw [← Nat.add_zero i, ← List.getElem?_drop, di] at this
    simpa using this.symm
  have zj : z = -(b.length : Int) + ((0 + u : Nat) : Int) := by
    have := hj
    rw [← Nat.add_zero j, ← List.getElem?_drop, dj] at this
    simpa using this.symm
  rw [List.length_append] at s2 u2
  obtain ⟨t, ht⟩ : ∃ t : Nat, z = (t : Int) := ⟨z.toNat, by omega⟩
  have hs : s = a.length + t := by omega
  have hu : u = b.length + t := by omega
  rw [di, dj, ← zi, ← zj, s3, u3, List.nil_append, List.nil_append, hs, hu]
  congr 2
  have hd : (a ++ tail).drop (a.length + t) = tail.drop t := by rw [List.drop_append, List.drop_eq_nil_of_le (by omega), List.nil_append]; congr 1; omega
  have hd2 : (b ++ tail).drop (b.length + t) = tail.drop t := by rw [List.drop_append, List.drop_eq_nil_of_le (by omega), List.nil_append]; congr 1; omega
  rw [hd, hd2]
  exact cutF_last c _ _ _ _ (by rw [last_tail a tail t (by omega) (by omega), last_tail b tail t (by omega) (by omega)])
end Go.Proofs.Ytcjpemkafncihaa
/- Where chunks end, as the law counts it; equal lists of numbers. -/
set_option linter.unusedVariables false
set_option maxRecDepth 100000
namespace Go.Proofs.Ytcjpemkafncihaa
open Go.RowKit

def icells (L : List Int) : List Value := L.map fun (n : Int) => Value.int .i64 n
theorem icells_snoc (L : List Int) (n : Int) : icells (L ++ [n]) = icells L ++ [.int .i64 n] := by simp [icells]
def OwnI (w : World) (B : Nat) (v : Value) (L : List Int) : Prop := OffRow w B 3 1 v L.length (icells L)
theorem OwnI.at {w : World} {B : Nat} {a : Option Addr} {n cap : Nat} {L : List Int} (h : OffRow w B 3 1 (.slice a n cap) n (icells L)) {i : Nat} {t : Int} (hi : L[i]? = some t) (hn : n = L.length) : ∃ b off, a = some ⟨b, off, none⟩ ∧ b < w.heap.size ∧ w.cell? ⟨b, off + i, none⟩ = some (.int .i64 t) := by
  have hl := (List.getElem?_eq_some_iff.1 hi).1
  obtain ⟨g, off, cp, cur, e, hB, hg, hc⟩ := OffRow.form h (by omega)
  injection e with e _ _
  exact ⟨g, off, e, heap_lt hg, by rw [hc i (by omega)]; simp [icells, hi]⟩
theorem slice_off {w : World} {B : Nat} {t e : TypeId} {i : TypeInfo} (ht : Try.prog.underlying t = some (.slice e)) (hi : Try.prog.info? e = some i) {size : Nat} (hs : i.size = size) {n cap g : Nat} {a : Option Addr} {xs : List Value} (h : OffRow w B e size (.slice a n cap) n xs) (hg : g ≤ n) :
    ∃ a', (∀ W, (Instr.slice t (.slice a n cap) (some (.int .i64 (g : Int))) none none).run Try.prog W = .ok (.slice a' (n - g) (cap - g)) W) ∧ OffRow w B e size (.slice a' (n - g) (cap - g)) (n - g) (xs.drop (g * size)) ∧ ∀ j, (Value.slice a' (n - g) (cap - g)).ownBlock = some j → (Value.slice a n cap).ownBlock = some j := by
  obtain ⟨a', d1, d2, d3⟩ := h.drop rfl hg
  have hc : g ≤ cap := by
    rcases h.2 with ⟨e0, h0⟩ | ⟨b, off, c, cur, e0, _, _, h1, _⟩
    · omega
    · injection e0 with _ _ e3
      omega
  have h1 : (g : Int) ≤ (n : Int) := by omega
  refine ⟨a', fun W => ?_, d3, fun j hj => ?_⟩
  · subst hs
    rcases Nat.lt_or_ge g cap with x | x
    · have hne : ¬ cap = g := by omega
      have e1 := d1 x
      have hgn : g ≤ n := hg
      subst e1
      simp [Instr.slice, run_underlying ht, Instr.sliceBounds, run_sliceBound, sizeOf, typeInfo, hi, hgn, hne]
    · have hge : g = cap := by omega
      have e1 := d2 hge
      subst e1
      have hgn : g ≤ n := hg
      rw [← hge]
      simp [Instr.slice, run_underlying ht, Instr.sliceBounds, run_sliceBound, sizeOf, typeInfo, hi, hgn]
  · rcases Nat.lt_or_ge g cap with x | x
    · rw [d1 x] at hj
      cases a with
      | none => simp [Value.ownBlock] at hj
      | some y =>
        obtain ⟨b, off, spot⟩ := y
        simp [Value.ownBlock, Addr.add] at hj ⊢
        first | exact hj | (split at hj <;> simp_all)
    · rw [d2 (by omega)] at hj
      cases a with
      | none => simp [Value.ownBlock] at hj
      | some y => simpa [Value.ownBlock] using hj
set_option maxHeartbeats 2000000 in
theorem same_own {va vb : Value} {L : List Int} {B B' n : Nat} {w : World} (ha : Hid (OffRow w B 3 1 va n (icells L))) (hb : Hid (OffRow w B' 3 1 vb n (icells L))) (hn : Hid (n = L.length)) (hl : n ≤ 1000000000) :
    Calls Try.prog 12 #[va, vb] w fun e w' => e = .returned (.bool true) ∧ Below w.heap.size w w' := by
  obtain ⟨a, ca, rfl⟩ := OffRow.slice ha.out
  obtain ⟨b, cb, rfl⟩ := OffRow.slice hb.out
  go_enter Try.func12, Try.ntmps12
  go_wp2_with fail
  go_loopw [5] (fun i wr => ∃ k : Nat, k ≤ n ∧ i = .int .i64 k ∧ Hid (Below w.heap.size w wr)) (fun i wr => n - (intOf i).toNat)
  case atStart => exact ⟨0, Nat.zero_le _, rfl, Lib.hid (Below.refl _ _)⟩
  case round =>
    obtain ⟨k, hk, rfl, hK⟩ := hrel
    by_cases hlt : k < n
    · obtain ⟨t, ht⟩ : ∃ t, L[k]? = some t := ⟨_, List.getElem?_eq_getElem (by have := hn.out; omega)⟩
      obtain ⟨b0, off0, rfl, _, c0⟩ := OwnI.at (OffRow.below ha.out hK.out) ht hn.out
      obtain ⟨b1, off1, rfl, _, c1⟩ := OwnI.at (OffRow.below hb.out hK.out) ht hn.out
      have hlt2 : (k : Int) < (n : Int) := by omega
      clear ht
      go_wp2_with fail
      go_quiet (fail)
      go_wp2
      go_roundw
      case rel => exact ⟨k + 1, by omega, by go_num, Lib.hid (below_drewN hK.out _)⟩
      case measure => simp [intOf]; omega
    · go_wp2
      go_ret
      exact ⟨rfl, hK.out⟩
set_option maxHeartbeats 4000000 in
theorem law_ends {v : Value} {L : List Nat} {fr : Nat} {w : World} (h : Hid (NsV w v L)) (hfr : fr ≤ 1000000) (hs : Hid (∀ i, sumN (L.take i) ≤ 1000000)) (hl : L.length ≤ 1000000) :
    Calls Try.prog 19 #[v, .int .i64 (fr : Int)] w fun e w' => ∃ ov, e = .returned ov ∧ OwnI w' w.heap.size ov (endsI (-(fr : Int)) L) ∧ Below w.heap.size w w' := by
  obtain ⟨a, ca, rfl⟩ := h.out.slice
  obtain ⟨len, hlen⟩ : ∃ len, len = L.length := ⟨_, rfl⟩
  rw [← hlen] at h hl ⊢
  have HL := Lib.hid hlen
  clear hlen
  obtain ⟨i0, hi0, hz0, hz1, hz2⟩ := info_parts infoInt
  have HI := Lib.hid (And.intro hi0 (And.intro hz0 (And.intro hz1 hz2)))
  clear hi0 hz0 hz1 hz2
  obtain ⟨B, hB⟩ : ∃ B, B = w.heap.size := ⟨_, rfl⟩
  rw [← hB]
  have HB := Lib.hid hB
  clear hB
  go_enter Try.func19, Try.ntmps19
  go_wp2_with fail
  go_loopw [5, 6, 7] (fun ov av iv wr => ∃ (i : Nat) (z : Int), i ≤ len ∧ iv = .int .i64 (i : Int) ∧ av = .int .i64 z ∧ -1000000 ≤ z ∧ z ≤ 1000000 ∧ Hid (z = -(fr : Int) + (sumN (L.take i) : Int)) ∧ Hid (OwnI wr B ov (endsI (-(fr : Int)) (L.take i))) ∧ Hid (Below B w wr)) (fun ov av iv wr => len - (intOf iv).toNat)
  case atStart => exact ⟨0, -(fr : Int), Nat.zero_le _, rfl, by go_num, by omega, by omega, Lib.hid (by simp [sumN]), Lib.hid (OffRow.nil _ _ _ _), Lib.hid (by rw [HB.out]; exact Below.refl _ _)⟩
  case round =>
    obtain ⟨i, z, hi, rfl, rfl, hz1, hz2, hz, hO, hK⟩ := hrel
    by_cases hlt : i < len
    · have hlt2 : (i : Int) < (len : Int) := by omega
      obtain ⟨x, hx⟩ : ∃ x, L[i]? = some x := ⟨_, List.getElem?_eq_getElem (by have := HL.out; omega)⟩
      obtain ⟨b0, off0, rfl, _, c0⟩ := (h.out.below (HB.out ▸ hK.out)).at hx
      have htk : L.take (i + 1) = L.take i ++ [x] := by rw [List.take_add_one, hx]; rfl
      have hsn : sumN (L.take (i + 1)) = sumN (L.take i) + x := by
        rw [htk]
        unfold sumN
        rw [List.foldl_append]
        rfl
      have hs1 := hs.out (i + 1)
      obtain ⟨y, hy⟩ : ∃ y : Int, y = z + (x : Int) := ⟨_, rfl⟩
      have hy1 : -1000000 ≤ y ∧ y ≤ 1000000 := by have := hz.out; omega
      have HY := Lib.hid (show y = -(fr : Int) + (sumN (L.take (i + 1)) : Int) by have := hz.out; omega)
      have HEN := Lib.hid (show endsI (-(fr : Int)) (L.take (i + 1)) = endsI (-(fr : Int)) (L.take i) ++ [y] by rw [htk, endsI_snoc, hy, hz.out])
      obtain ⟨D, hD⟩ : ∃ D, D = endsI (-(fr : Int)) (L.take i) := ⟨_, rfl⟩
      have hDl : D.length = i := by rw [hD, endsI_len, List.length_take]; have := HL.out; omega
      rw [← hD] at HEN hO
      have HDL := Lib.hid hDl
      obtain ⟨oa, oc, rfl⟩ := OffRow.slice hO.out
      have HO := Lib.hid (show OffRow wr B 3 1 (.slice oa i oc) i (icells D) by have := hO.out; unfold OwnI at this; rw [hDl] at this; exact this)
      rw [hDl]
      have hxb : x ≤ 1000000 := by omega
      clear hx htk hsn hs1 hD hDl hO hz
      go_upto_region 7 with (fail)
      rw [← hy]
      clear hy
      obtain ⟨hi0, hz0, hz3, hz4⟩ := HI.out
      go_wp2_with (at_builtin; refine wpList_append_off rfl (.tmp 22) (.tmp 24) 26 rfl B 3 i0 _ 1 8 Try.underlying26 hi0 hz0 hz3 hz4 rfl (.slice oa i oc) i (icells D) rfl ?c1 (.slice (some ⟨wr.heap.size, 0, none⟩) 1 1) rfl 1 [.int .i64 y] ?c2 ?c3 ?c4 ?c5 ?_)
      case c1 => exact HO.out.allocd _
      case c2 => exact src_block (size := 1) (cs := #[.int .i64 y]) Try.underlying26 (heap_new _ _) 1 1 rfl (by intro u hu; simp at hu; subst hu; rfl)
      case c3 => unfold maxLen; omega
      case c4 => omega
      case c5 => have := hK.out.size; have := HB.out; simp; omega
      intro v7 w7 hr7 hg7 hat7
      have O7 := Lib.hid (show OwnI w7 B v7 (D ++ [y]) from by unfold OwnI; rw [List.length_append, List.length_singleton, icells_snoc, HDL.out]; exact hr7)
      have K7 := Lib.hid (show Below B w w7 from ((hK.out.alloc (by have := hK.out.size; have := HB.out; omega) _).grown hg7 (by have := hK.out.size; have := HB.out; simp; omega) (fun j hj => ((HO.out.allocd (.cells #[.int .i64 y] 3)).lt j hj).1)))
      clear hr7 hg7 hat7 hi0 hz0 hz3 hz4
      go_wp2_with fail
      go_roundw
      case rel => exact ⟨i + 1, y, by omega, by go_num, rfl, hy1.1, hy1.2, HY, Lib.hid (by rw [HEN.out]; exact O7.out), K7⟩
      case measure => simp [intOf]; omega
    · obtain rfl : i = len := by omega
      go_wp2_with fail
      go_ret
      refine ⟨_, rfl, ?_, hK.out⟩
      have := hO.out
      rw [List.take_of_length_le (by have := HL.out; omega)] at this
      exact this
end Go.Proofs.Ytcjpemkafncihaa
/- A conf that may be, of any numbers. -/
set_option linter.unusedVariables false
set_option maxRecDepth 100000
namespace Go.Proofs.Ytcjpemkafncihaa
open Go.RowKit

/-- A conf made of its twelve numbers. -/
def Conf.with3 (c : Conf) (l m M : Nat) (hl : l ≤ 5000) (hm : m ≤ 70000) (hM : M ≤ 5000) : Conf := ⟨fun i => if i = 8 then (l : Int) else if i = 9 then (m : Int) else if i = 10 then (M : Int) else c.f i, fun i => by
  by_cases h8 : i = 8
  · simp only [h8, if_true]; omega
  · by_cases h9 : i = 9
    · simp only [h9, if_true, if_neg (show ¬ (9 : Nat) = 8 by omega)]; omega
    · by_cases h10 : i = 10
      · simp only [h10, if_true, if_neg (show ¬ (10 : Nat) = 8 by omega), if_neg (show ¬ (10 : Nat) = 9 by omega)]; omega
      · simp only [if_neg h8, if_neg h9, if_neg h10]; exact c.fit i⟩
def BoxC (b : Nat) (x : Nat → Int) (w : World) : Prop := w.heap[b]? = some (.cells #[.int .i64 (x 0), .int .i64 (x 1), .int .i64 (x 2), .int .i64 (x 3), .int .i64 (x 4), .int .i64 (x 5), .int .i64 (x 6), .int .i64 (x 7), .int .i64 (x 8), .int .i64 (x 9), .int .i64 (x 10), .int .i64 (x 11)] 23 (0, 0))
theorem rem_in (x : Int) (k : Nat) (hk : 0 < k) (hk2 : k ≤ 1000) : ∃ d : Nat, d < k ∧ wrap64 ((IntKind.u64.wrap x).tmod (k : Int)) = (d : Int) := by
  have h0 : 0 ≤ IntKind.u64.wrap x := by simp [IntKind.wrap, IntKind.signed, IntKind.bits]; omega
  rw [Int.tmod_eq_emod_of_nonneg h0]
  refine ⟨(IntKind.u64.wrap x % (k : Int)).toNat, ?_, ?_⟩
  · have h1 := Int.emod_lt_of_pos (IntKind.u64.wrap x) (show (0 : Int) < (k : Int) by omega)
    have h2 := Int.emod_nonneg (IntKind.u64.wrap x) (show (k : Int) ≠ 0 by omega)
    omega
  · have h1 := Int.emod_lt_of_pos (IntKind.u64.wrap x) (show (0 : Int) < (k : Int) by omega)
    have h2 := Int.emod_nonneg (IntKind.u64.wrap x) (show (k : Int) ≠ 0 by omega)
    rw [IntWalk.wrap64_in _ (by omega)]
    omega
theorem put12 {w : World} {b : Nat} {t : TypeId} {x0 x1 x2 x3 x4 x5 x6 x7 x8 x9 x10 x11 : Value} (v0 v1 v2 v3 v4 v5 v6 v7 v8 v9 v10 v11 : Value) (h : w.heap[b]? = some (.cells #[x0, x1, x2, x3, x4, x5, x6, x7, x8, x9, x10, x11] t (0, 0))) : ((((((((((((w.setCell ⟨b, 0, none⟩ v0).setCell ⟨b, 1, none⟩ v1).setCell ⟨b, 2, none⟩ v2).setCell ⟨b, 3, none⟩ v3).setCell ⟨b, 4, none⟩ v4).setCell ⟨b, 5, none⟩ v5).setCell ⟨b, 6, none⟩ v6).setCell ⟨b, 7, none⟩ v7).setCell ⟨b, 8, none⟩ v8).setCell ⟨b, 9, none⟩ v9).setCell ⟨b, 10, none⟩ v10).setCell ⟨b, 11, none⟩ v11).heap[b]? = some (.cells #[v0, v1, v2, v3, v4, v5, v6, v7, v8, v9, v10, v11] t (0, 0)) := by
  have h0 : (w.setCell ⟨b, 0, none⟩ v0).heap[b]? = some (.cells #[v0, x1, x2, x3, x4, x5, x6, x7, x8, x9, x10, x11] t (0, 0)) := heap_set (o := 0) h v0
  have h1 : ((w.setCell ⟨b, 0, none⟩ v0).setCell ⟨b, 1, none⟩ v1).heap[b]? = some (.cells #[v0, v1, x2, x3, x4, x5, x6, x7, x8, x9, x10, x11] t (0, 0)) := heap_set (o := 1) h0 v1
  have h2 : (((w.setCell ⟨b, 0, none⟩ v0).setCell ⟨b, 1, none⟩ v1).setCell ⟨b, 2, none⟩ v2).heap[b]? = some (.cells #[v0, v1, v2, x3, x4, x5, x6, x7, x8, x9, x10, x11] t (0, 0)) := heap_set (o := 2) h1 v2
  have h3 : ((((w.setCell ⟨b, 0, none⟩ v0).setCell ⟨b, 1, none⟩ v1).setCell ⟨b, 2, none⟩ v2).setCell ⟨b, 3, none⟩ v3).heap[b]? = some (.cells #[v0, v1, v2, v3, x4, x5, x6, x7, x8, x9, x10, x11] t (0, 0)) := heap_set (o := 3) h2 v3
  have h4 : (((((w.setCell ⟨b, 0, none⟩ v0).setCell ⟨b, 1, none⟩ v1).setCell ⟨b, 2, none⟩ v2).setCell ⟨b, 3, none⟩ v3).setCell ⟨b, 4, none⟩ v4).heap[b]? = some (.cells #[v0, v1, v2, v3, v4, x5, x6, x7, x8, x9, x10, x11] t (0, 0)) := heap_set (o := 4) h3 v4
  have h5 : ((((((w.setCell ⟨b, 0, none⟩ v0).setCell ⟨b, 1, none⟩ v1).setCell ⟨b, 2, none⟩ v2).setCell ⟨b, 3, none⟩ v3).setCell ⟨b, 4, none⟩ v4).setCell ⟨b, 5, none⟩ v5).heap[b]? = some (.cells #[v0, v1, v2, v3, v4, v5, x6, x7, x8, x9, x10, x11] t (0, 0)) := heap_set (o := 5) h4 v5
  have h6 : (((((((w.setCell ⟨b, 0, none⟩ v0).setCell ⟨b, 1, none⟩ v1).setCell ⟨b, 2, none⟩ v2).setCell ⟨b, 3, none⟩ v3).setCell ⟨b, 4, none⟩ v4).setCell ⟨b, 5, none⟩ v5).setCell ⟨b, 6, none⟩ v6).heap[b]? = some (.cells #[v0, v1, v2, v3, v4, v5, v6, x7, x8, x9, x10, x11] t (0, 0)) := heap_set (o := 6) h5 v6
  have h7 : ((((((((w.setCell ⟨b, 0, none⟩ v0).setCell ⟨b, 1, none⟩ v1).setCell ⟨b, 2, none⟩ v2).setCell ⟨b, 3, none⟩ v3).setCell ⟨b, 4, none⟩ v4).setCell ⟨b, 5, none⟩ v5).setCell ⟨b, 6, none⟩ v6).setCell ⟨b, 7, none⟩ v7).heap[b]? = some (.cells #[v0, v1, v2, v3, v4, v5, v6, v7, x8, x9, x10, x11] t (0, 0)) := heap_set (o := 7) h6 v7
  have h8 : (((((((((w.setCell ⟨b, 0, none⟩ v0).setCell ⟨b, 1, none⟩ v1).setCell ⟨b, 2, none⟩ v2).setCell ⟨b, 3, none⟩ v3).setCell ⟨b, 4, none⟩ v4).setCell ⟨b, 5, none⟩ v5).setCell ⟨b, 6, none⟩ v6).setCell ⟨b, 7, none⟩ v7).setCell ⟨b, 8, none⟩ v8).heap[b]? = some (.cells #[v0, v1, v2, v3, v4, v5, v6, v7, v8, x9, x10, x11] t (0, 0)) := heap_set (o := 8) h7 v8
  have h9 : ((((((((((w.setCell ⟨b, 0, none⟩ v0).setCell ⟨b, 1, none⟩ v1).setCell ⟨b, 2, none⟩ v2).setCell ⟨b, 3, none⟩ v3).setCell ⟨b, 4, none⟩ v4).setCell ⟨b, 5, none⟩ v5).setCell ⟨b, 6, none⟩ v6).setCell ⟨b, 7, none⟩ v7).setCell ⟨b, 8, none⟩ v8).setCell ⟨b, 9, none⟩ v9).heap[b]? = some (.cells #[v0, v1, v2, v3, v4, v5, v6, v7, v8, v9, x10, x11] t (0, 0)) := heap_set (o := 9) h8 v9
  have h10 : (((((((((((w.setCell ⟨b, 0, none⟩ v0).setCell ⟨b, 1, none⟩ v1).setCell ⟨b, 2, none⟩ v2).setCell ⟨b, 3, none⟩ v3).setCell ⟨b, 4, none⟩ v4).setCell ⟨b, 5, none⟩ v5).setCell ⟨b, 6, none⟩ v6).setCell ⟨b, 7, none⟩ v7).setCell ⟨b, 8, none⟩ v8).setCell ⟨b, 9, none⟩ v9).setCell ⟨b, 10, none⟩ v10).heap[b]? = some (.cells #[v0, v1, v2, v3, v4, v5, v6, v7, v8, v9, v10, x11] t (0, 0)) := heap_set (o := 10) h9 v10
  have h11 : ((((((((((((w.setCell ⟨b, 0, none⟩ v0).setCell ⟨b, 1, none⟩ v1).setCell ⟨b, 2, none⟩ v2).setCell ⟨b, 3, none⟩ v3).setCell ⟨b, 4, none⟩ v4).setCell ⟨b, 5, none⟩ v5).setCell ⟨b, 6, none⟩ v6).setCell ⟨b, 7, none⟩ v7).setCell ⟨b, 8, none⟩ v8).setCell ⟨b, 9, none⟩ v9).setCell ⟨b, 10, none⟩ v10).setCell ⟨b, 11, none⟩ v11).heap[b]? = some (.cells #[v0, v1, v2, v3, v4, v5, v6, v7, v8, v9, v10, v11] t (0, 0)) := heap_set (o := 11) h10 v11
  exact h11
set_option maxHeartbeats 4000000 in
theorem law_right (c : Conf) (w : World) : Calls Try.prog 14 #[.agg c.cells] w fun e w' => ∃ (c' : Conf) (l m M : Nat), e = .returned (.agg c'.cells) ∧ c'.Nat3 l m M ∧ Below w.heap.size w w' := by
  obtain ⟨B, hB⟩ : ∃ B, B = w.heap.size := ⟨_, rfl⟩
  rw [← hB]
  have HB := Lib.hid hB
  obtain ⟨wa, hwa⟩ : ∃ wa, w.alloc (.cells c.cells 23) = wa := ⟨_, rfl⟩
  obtain ⟨wb, hwb⟩ : ∃ wb, wa.alloc (.cells #[.int .i64 0, .int .i64 0, .int .i64 0, .int .i64 0, .int .i64 0, .int .i64 0, .int .i64 0, .int .i64 0, .int .i64 0, .int .i64 0, .int .i64 0, .int .i64 0] 23) = wb := ⟨_, rfl⟩
  have za : wa.heap.size = B + 1 := by rw [← hwa, hB]; simp
  have ba : Below B w wa := by rw [← hwa, hB]; exact (Below.refl _ _).alloc (Nat.le_refl _) _
  have bb : Below wa.heap.size wa wb := by rw [← hwb]; exact (Below.refl _ _).alloc (Nat.le_refl _) _
  have KB := Lib.hid (show Below B w wb from ba.trans (bb.mono (by omega)))
  have XA := Lib.hid (show BoxC B c.f wb ∧ wb.heap[B + 1]? = some (.cells #[.int .i64 0, .int .i64 0, .int .i64 0, .int .i64 0, .int .i64 0, .int .i64 0, .int .i64 0, .int .i64 0, .int .i64 0, .int .i64 0, .int .i64 0, .int .i64 0] 23 (0, 0)) by
    have na := heap_new w (.cells c.cells 23)
    rw [hwa, ← hB] at na
    have nb := heap_new wa (.cells #[.int .i64 0, .int .i64 0, .int .i64 0, .int .i64 0, .int .i64 0, .int .i64 0, .int .i64 0, .int .i64 0, .int .i64 0, .int .i64 0, .int .i64 0, .int .i64 0] 23)
    rw [hwb, za] at nb
    exact ⟨(bb.block B (by omega)).trans na, nb⟩)
  rw [← hwa] at hwb
  have HWB := Lib.hid hwb
  clear hwa hwb za ba bb hB
  have hf8 := c.fit 8
  have hf9 := c.fit 9
  have hf10 := c.fit 10
  have r8 : wb.cell? ⟨B, 8, none⟩ = some (.int .i64 (c.f 8)) := by simp [World.cell?, show wb.heap[B]? = _ from XA.out.1]
  have r9 : wb.cell? ⟨B, 9, none⟩ = some (.int .i64 (c.f 9)) := by simp [World.cell?, show wb.heap[B]? = _ from XA.out.1]
  have r10 : wb.cell? ⟨B, 10, none⟩ = some (.int .i64 (c.f 10)) := by simp [World.cell?, show wb.heap[B]? = _ from XA.out.1]
  have rf : wb.frozen? ⟨B, 8, none⟩ = false := by simp [World.frozen?, show wb.heap[B]? = _ from XA.out.1]
  have rg : wb.frozen? ⟨B, 9, none⟩ = false := by simp [World.frozen?, show wb.heap[B]? = _ from XA.out.1]
  have rh : wb.frozen? ⟨B, 10, none⟩ = false := by simp [World.frozen?, show wb.heap[B]? = _ from XA.out.1]
  obtain ⟨x8, hx8⟩ : ∃ x, x = c.f 8 := ⟨_, rfl⟩
  obtain ⟨x9, hx9⟩ : ∃ x, x = c.f 9 := ⟨_, rfl⟩
  obtain ⟨x10, hx10⟩ : ∃ x, x = c.f 10 := ⟨_, rfl⟩
  rw [← hx8] at r8 hf8
  rw [← hx9] at r9 hf9
  rw [← hx10] at r10 hf10
  have HX := Lib.hid (And.intro hx8 (And.intro hx9 hx10))
  clear hx8 hx9 hx10
  go_enter Try.func14, Try.ntmps14
  go_upto_region 1 with (fail)
  rw [HWB.out, ← HB.out]
  obtain ⟨d8, hd8, e8⟩ := rem_in x8 64 (by decide) (by decide)
  obtain ⟨d9, hd9, e9⟩ := rem_in x9 256 (by decide) (by decide)
  obtain ⟨d10, hd10, e10⟩ := rem_in x10 512 (by decide) (by decide)
  have HE := Lib.hid (And.intro e8 (And.intro e9 e10))
  clear e8 e9 e10
  obtain ⟨l, hl⟩ : ∃ l, l = 1 + d8 := ⟨_, rfl⟩
  obtain ⟨m, hm⟩ : ∃ m, m = 1 + d9 := ⟨_, rfl⟩
  obtain ⟨M, hM⟩ : ∃ M, M = l + d10 := ⟨_, rfl⟩
  have HLM := Lib.hid (And.intro hl (And.intro hm hM))
  have hlb : 1 ≤ l ∧ l ≤ 64 := by omega
  have hmb : 1 ≤ m ∧ m ≤ 256 := by omega
  have hMb : l ≤ M ∧ M ≤ 576 := by omega
  have HB8 := Lib.hid (show wrap64 (1 + wrap64 ((IntKind.u64.wrap x8).tmod 64)) = (l : Int) from by
    have := HE.out.1
    rw [show ((64 : Nat) : Int) = 64 from rfl] at this
    rw [this, IntWalk.wrap64_in _ (by omega), hl]
    omega)
  have HB9 := Lib.hid (show wrap64 (1 + wrap64 ((IntKind.u64.wrap x9).tmod 256)) = (m : Int) from by
    have := HE.out.2.1
    rw [show ((256 : Nat) : Int) = 256 from rfl] at this
    rw [this, IntWalk.wrap64_in _ (by omega), hm]
    omega)
  have HB10 := Lib.hid (show wrap64 ((l : Int) + wrap64 ((IntKind.u64.wrap x10).tmod 512)) = (M : Int) from by
    have := HE.out.2.2
    rw [show ((512 : Nat) : Int) = 512 from rfl] at this
    rw [this, IntWalk.wrap64_in _ (by omega), hM]
    omega)
  clear hl hm hM hd8 hd9 hd10
  go_upto_region 2 with (fail)
  rw [HB8.out]
  go_upto_region 3 with (fail)
  rw [HB9.out]
  go_upto_region 4 with (fail)
  rw [HB10.out]
  obtain ⟨c', hc'⟩ : ∃ c', c' = c.with3 l m M (by omega) (by omega) (by omega) := ⟨_, rfl⟩
  have H3 := Lib.hid (show c'.Nat3 l m M from by rw [hc']; exact ⟨rfl, rfl, rfl, hlb.1, hmb.1, by omega, hMb.1, by omega⟩)
  obtain ⟨w3, hw3⟩ : ∃ w3, w3 = ((wb.setCell ⟨B, 8, none⟩ (.int .i64 (l : Int))).setCell ⟨B, 9, none⟩ (.int .i64 (m : Int))).setCell ⟨B, 10, none⟩ (.int .i64 (M : Int)) := ⟨_, rfl⟩
  have X3 := Lib.hid (show w3.heap[B]? = some (.cells c'.cells 23 (0, 0)) by
    rw [hw3, hc']
    exact heap_set (o := 10) (heap_set (o := 9) (heap_set (o := 8) XA.out.1 _) _) _)
  have Z3 := Lib.hid (show w3.heap[B + 1]? = some (.cells #[.int .i64 0, .int .i64 0, .int .i64 0, .int .i64 0, .int .i64 0, .int .i64 0, .int .i64 0, .int .i64 0, .int .i64 0, .int .i64 0, .int .i64 0, .int .i64 0] 23 (0, 0)) by
    rw [hw3]
    exact (heap_set_other (by omega) _).trans ((heap_set_other (by omega) _).trans ((heap_set_other (by omega) _).trans XA.out.2)))
  have K3 := Lib.hid (show Below B w w3 by
    rw [hw3]
    exact ((KB.out.setCell (p := ⟨B, 8, none⟩) (Nat.le_refl _) _).setCell (p := ⟨B, 9, none⟩) (Nat.le_refl _) _).setCell (p := ⟨B, 10, none⟩) (Nat.le_refl _) _)
  rw [← hw3]
  clear hw3 r8 r9 r10 rf rg rh hc'
  obtain ⟨q0, q1, q2, q3, q4, q5, q6, q7, q8, q9, q10, q11⟩ := conf_c X3.out
  have z0 : w3.cell? ⟨B + 1, 0, none⟩ = some (.int .i64 0) := by simp [World.cell?, Z3.out]
  have z1 : w3.cell? ⟨B + 1, 1, none⟩ = some (.int .i64 0) := by simp [World.cell?, Z3.out]
  have z2 : w3.cell? ⟨B + 1, 2, none⟩ = some (.int .i64 0) := by simp [World.cell?, Z3.out]
  have z3 : w3.cell? ⟨B + 1, 3, none⟩ = some (.int .i64 0) := by simp [World.cell?, Z3.out]
  have z4 : w3.cell? ⟨B + 1, 4, none⟩ = some (.int .i64 0) := by simp [World.cell?, Z3.out]
  have z5 : w3.cell? ⟨B + 1, 5, none⟩ = some (.int .i64 0) := by simp [World.cell?, Z3.out]
  have z6 : w3.cell? ⟨B + 1, 6, none⟩ = some (.int .i64 0) := by simp [World.cell?, Z3.out]
  have z7 : w3.cell? ⟨B + 1, 7, none⟩ = some (.int .i64 0) := by simp [World.cell?, Z3.out]
  have z8 : w3.cell? ⟨B + 1, 8, none⟩ = some (.int .i64 0) := by simp [World.cell?, Z3.out]
  have z9 : w3.cell? ⟨B + 1, 9, none⟩ = some (.int .i64 0) := by simp [World.cell?, Z3.out]
  have z10 : w3.cell? ⟨B + 1, 10, none⟩ = some (.int .i64 0) := by simp [World.cell?, Z3.out]
  have z11 : w3.cell? ⟨B + 1, 11, none⟩ = some (.int .i64 0) := by simp [World.cell?, Z3.out]
  have zf : ∀ j, w3.frozen? ⟨B + 1, j, none⟩ = false := fun j => by simp [World.frozen?, Z3.out]
  have HF := Lib.hid (show ((((((((((((w3.setCell ⟨B + 1, 0, none⟩ (.int .i64 (c'.f 0))).setCell ⟨B + 1, 1, none⟩ (.int .i64 (c'.f 1))).setCell ⟨B + 1, 2, none⟩ (.int .i64 (c'.f 2))).setCell ⟨B + 1, 3, none⟩ (.int .i64 (c'.f 3))).setCell ⟨B + 1, 4, none⟩ (.int .i64 (c'.f 4))).setCell ⟨B + 1, 5, none⟩ (.int .i64 (c'.f 5))).setCell ⟨B + 1, 6, none⟩ (.int .i64 (c'.f 6))).setCell ⟨B + 1, 7, none⟩ (.int .i64 (c'.f 7))).setCell ⟨B + 1, 8, none⟩ (.int .i64 (c'.f 8))).setCell ⟨B + 1, 9, none⟩ (.int .i64 (c'.f 9))).setCell ⟨B + 1, 10, none⟩ (.int .i64 (c'.f 10))).setCell ⟨B + 1, 11, none⟩ (.int .i64 (c'.f 11))).heap[B + 1]? = some (.cells c'.cells 23 (0, 0)) from put12 _ _ _ _ _ _ _ _ _ _ _ _ Z3.out)
  have HK := Lib.hid (show Below B w ((((((((((((w3.setCell ⟨B + 1, 0, none⟩ (.int .i64 (c'.f 0))).setCell ⟨B + 1, 1, none⟩ (.int .i64 (c'.f 1))).setCell ⟨B + 1, 2, none⟩ (.int .i64 (c'.f 2))).setCell ⟨B + 1, 3, none⟩ (.int .i64 (c'.f 3))).setCell ⟨B + 1, 4, none⟩ (.int .i64 (c'.f 4))).setCell ⟨B + 1, 5, none⟩ (.int .i64 (c'.f 5))).setCell ⟨B + 1, 6, none⟩ (.int .i64 (c'.f 6))).setCell ⟨B + 1, 7, none⟩ (.int .i64 (c'.f 7))).setCell ⟨B + 1, 8, none⟩ (.int .i64 (c'.f 8))).setCell ⟨B + 1, 9, none⟩ (.int .i64 (c'.f 9))).setCell ⟨B + 1, 10, none⟩ (.int .i64 (c'.f 10))).setCell ⟨B + 1, 11, none⟩ (.int .i64 (c'.f 11))) from ((((((((((((K3.out.setCell (p := ⟨B + 1, 0, none⟩) (Nat.le_succ B) (.int .i64 (c'.f 0))).setCell (p := ⟨B + 1, 1, none⟩) (Nat.le_succ B) (.int .i64 (c'.f 1))).setCell (p := ⟨B + 1, 2, none⟩) (Nat.le_succ B) (.int .i64 (c'.f 2))).setCell (p := ⟨B + 1, 3, none⟩) (Nat.le_succ B) (.int .i64 (c'.f 3))).setCell (p := ⟨B + 1, 4, none⟩) (Nat.le_succ B) (.int .i64 (c'.f 4))).setCell (p := ⟨B + 1, 5, none⟩) (Nat.le_succ B) (.int .i64 (c'.f 5))).setCell (p := ⟨B + 1, 6, none⟩) (Nat.le_succ B) (.int .i64 (c'.f 6))).setCell (p := ⟨B + 1, 7, none⟩) (Nat.le_succ B) (.int .i64 (c'.f 7))).setCell (p := ⟨B + 1, 8, none⟩) (Nat.le_succ B) (.int .i64 (c'.f 8))).setCell (p := ⟨B + 1, 9, none⟩) (Nat.le_succ B) (.int .i64 (c'.f 9))).setCell (p := ⟨B + 1, 10, none⟩) (Nat.le_succ B) (.int .i64 (c'.f 10))).setCell (p := ⟨B + 1, 11, none⟩) (Nat.le_succ B) (.int .i64 (c'.f 11))))
  go_wp2
  refine bodyPost_ret (results_cell1 rfl _ _ _ (B + 1) 0 c'.cells.toList _ rfl (fun j v hj => ?_) Try.underlying23 rfl (by kernel_rfl)) rfl ?_
  · rw [Nat.zero_add]
    unfold World.cell?
    rw [HF.out]
    simpa using hj
  · exact ⟨c', l, m, M, by simp, H3.out, HK.out⟩
end Go.Proofs.Ytcjpemkafncihaa
