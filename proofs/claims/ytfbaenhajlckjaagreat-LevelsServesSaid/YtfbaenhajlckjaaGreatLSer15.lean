/- Texts put together: LevDoW -/
import Derived.Test.YtfbaenhajlckjaaGreatLSer12
import Derived.Carry
import Derived.Deep.CutRange
import Derived.Lib.MinMax
/- LevelsServes, walked: a piece (serves_do). -/
set_option linter.unusedVariables false
set_option maxRecDepth 1000000
namespace Go.Proofs.YtfbaenhajlckjaaGreat
open Go.RowKit Go.Maps Go.WideShapes Go.ChangeMaps

set_option maxHeartbeats 40000000 in
/-- A turn hands its edits on. -/
theorem serves_do {qa : Option Addr} {len cap qn qc : Nat} {Gs : List Tn} {fan : Int} {w : World} {G : Nat} {hb lb : Nat} {u6 u26 u27 u28 u29 u30 u31 u32 u33 u34 : Value} {i : Nat} {s : St} {val : Int → List UInt8 → Option Int} {last : List UInt8 → Option Int} {blk : Int → Option Nat} {tb toff : Nat} {gn : Nat} {w0 : World} {hm : Nat} {xb : Nat} {Qq_d : Exit → Act → World → Prop} {K_d1 : Act → World → Prop} {u14 u15 u16 u17 u18 u19 u20 u21 u22 u23 u24 u25 u50 u51 u52 u53 u54 u55 u56 u57 u58 u59 u60 u61 u62 u63 u64 u65 u66 u67 u68 u69 u70 u71 u72 u73 u74 u75 u76 u77 u78 u79 u80 u81 u82 u83 u84 u85 u86 u87 u88 u89 u90 u91 u92 u93 u94 u95 u96 u97 u98 u99 u100 u101 u102 u103 u104 u105 u106 u107 u108 u109 u110 u111 u112 u113 u114 u115 u116 u117 u118 u119 u120 u121 u122 u123 u124 u125 u126 u127 u128 u129 u130 u131 u132 u133 u134 u135 u136 u137 u138 u139 u140 u141 u142 u143 u144 u145 u146 u147 u148 u149 u150 u151 u152 u153 u154 u155 u156 u157 u158 u159 u160 u161 u162 u163 u164 u165 u166 u167 u168 u169 u170 u171 u172 u173 u174 u175 u176 u177 u178 u179 u180 u181 u182 u183 u184 u185 u186 u187 u188 u189 u190 u191 u192 u193 u194 u195 u196 u197 u198 u199 u200 u201 u202 u203 u204 u205 u206 u207 u208 u209 u214 u215 u216 u217 u218 u219 u220 u221 u222 u223 u224 u225 u226 u227 u228 u229 u230 u231 u232 u233 u234 u235 u236 u237 u238 u239 u240 u241 u242 u243 u244 u245 u246 u247 u248 u249 u250 u251 u252 u253 u254 u255 u256 u257 u258 u259 u260 u261 u262 u263 u264 u265 u266 u267 u268 u269 u270 u271 u272 u273 u274 u275 u276 u277 u278 u279 u280 u281 u282 u283 : Value} {ea : Option Addr} {en ec : Nat} {D : List Ed} {out : Int} {low high : List UInt8} {gH last' : List UInt8 → Option Int} {z : Nat} {cnt : Int} {w1 : World} {s' : St} {ta : Option Addr} {tc : Nat} {sa : Option Addr} {sc : Nat} {la : Option Addr} {lc : Nat} {nt ns nl : Nat} {nx : Int} {nt' ns' nl' : Nat} {nx' : Int} {J_d Kq_d : Act → World → Prop}
    (hbig : len ≤ 9223372036854775807)
    (hqbig : qn ≤ 9223372036854775807)
    (hmm : ∀ (t : TypeId) (w : World), Sem.run Tryz.prog (Instr.makeMap t none) w = Result.ok (Value.map (some w.heap.size)) (w.alloc (Obj.map #[] 0)))
    (hlen : len ≤ 100)
    (hqn : qn ≤ 50)
    (hlen' : (len : Int) ≤ 100)
    (hqn' : (qn : Int) ≤ 50)
    (hi : i ≤ len)
    (hlt : i < len)
    (hlt2 : (i : Int) < (len : Int))
    (h : Hid (InT w (some { block := tb, off := toff }) len cap Gs))
    (hgn : ¬30 < gn)
    (hgn' : (gn : Int) ≤ 30)
    (HHM : Hid (w0.heap.size ≤ hm ∧ hm < xb))
    (HG0 : Hid (lb < w0.heap.size))
    (hwi : IntKind.i64.wrap ((i : Int) + 1) = (i : Int) + 1)
    (hen9 : en ≤ 100)
    (HKEY : Hid (∀ (k : List UInt8) (v : Int), gH k = some v → ∃ j g, j < i + 1 ∧ Gs[j]? = some g ∧ k ∈ g.L))
    (HXW : Hid (w0.heap.size ≤ xb ∧ w.heap.size ≤ xb))
    (X1 : Hid (E6 xb { kind := 1, file := (i : Int) + 1, lev := out, cnt := cnt, low := low, high := high } w1))
    (KP1 : Hid (Kp lb w0 w1))
    (K1 : Hid (Below w.heap.size w w1))
    (M1 : Hid (MS w1 hm 400000 gH))
    (L1 : Hid (MS w1 lb ((i + 1) * 30) last'))
    (O1 : Hid (OffRow w1 (xb + 1) 47 6 (Value.slice ea en ec) en (flat ecell D)))
    (HSV : Hid (Serve s' ((i : Int) + 1) (setV val ((i : Int) + 1) gH) last'))
    (HI : Hid (LI w0 G hb lb Gs i (Value.slice ta s.tabs.length tc) (Value.slice sa s.stos.length sc) (Value.slice la s.logs.length lc) s val last blk))
    (HPF : Hid ((s'.stos = s.stos ∧ s'.logs = s.logs ∧ s'.next = s.next) ∧ (∀ (t : Tb), t ∈ s'.tabs → t.file = (i : Int) + 1 ∨ t ∈ s.tabs) ∧ s'.tabs.length ≤ s.tabs.length + 1))
    (C1 : Hid (C4 G (Value.slice ta nt tc) (Value.slice sa ns sc) (Value.slice la nl lc) (Value.int IntKind.i64 nx) w1))
    (HAP : Hid (∀ (W : World) (va : Option Addr) (vc : Nat), Kp lb w0 W → RdL (fun b => b < W.heap.size) W (Value.slice va (en + 1) vc) (en + 1) (flat ecell (D ++ [addEd ((i : Int) + 1) out cnt low high])) → Calls Tryz.prog 13 #[Value.agg #[Value.slice ta nt tc, Value.slice sa ns sc, Value.slice la nl lc, Value.int IntKind.i64 nx], Value.slice va (en + 1) vc] W fun e w' => (∃ xa xc ya yc za zc, e = Ending.returned (Value.tuple #[Value.agg #[Value.slice xa nt' xc, Value.slice ya ns' yc, Value.slice za nl' zc, Value.int IntKind.i64 nx'], Value.int IntKind.i64 0]) ∧ OwnSt w' W.heap.size (Value.slice xa nt' xc) (Value.slice ya ns' yc) (Value.slice za nl' zc) s') ∧ Below W.heap.size W w'))
    (HN' : Hid (nt' = s'.tabs.length ∧ ns' = s'.stos.length ∧ nl' = s'.logs.length ∧ nx' = s'.next))
    (i0 : TypeInfo)
    (HIn : Hid (Tryz.prog.info? 47 = some i0 ∧ i0.zero = some (Value.agg #[Value.int IntKind.i64 0, Value.int IntKind.i64 0, Value.int IntKind.i64 0, Value.int IntKind.i64 0, Value.string { data := #[] }, Value.string { data := #[] }]) ∧ i0.size = 6 ∧ i0.bytes = 64))
    (a_d1 : ∀ (a' : Act) (w' : World), (∃ u26 u27 u50 u51 u52 u53 u54 u55 u56 u57 u58 u59 u60 u61 u62 u63 u64 u65 u66 u67 u68 u69 u70 u71 u72 u73 u74 u75 u76 u77 u78 u79 u80 u81 u82 u83 u84 u85 u86 u87 u88 u89 u90 u91 u92 u93 u94 u95 u96 u97 u98 u99 u100 u101 u102 u103 u104 u105 u106 u107 u108 u109 u110 u111 u112 u113 u114 u115 u116 u117 u118 u119 u120 u121 u122 u123 u124 u125 u126 u127 u128 u129 u130 u131 u132 u133 u134 u135 u136 u137 u138 u139 u140 u141 u142 u143 u144 u145 u146 u147 u148 u149 u150 u151 u152 u153 u154 u155 u156 u157 u158 u159 u160 u161 u162 u163 u164 u165 u166 u167 u168 u169 u170 u171 u172 u173 u174 u175 u176 u177 u178 u179 u180 u181 u182 u183 u184 u185 u186 u187 u188 u189 u190 u191 u192 u193 u194 u195 u196 u197 u198 u199 u200 u201 u202 u203 u204 u205 u206 u207 u208 u209 u210 u211 u212 u213 u214 u215 u216 u217 u218 u219 u220 u221 u222 u223 u224 u225 u226 u227 u228 u229 u230 u231 u232 u233 u234 u235 u236 u237 u238 u239 u240 u241 u242 u243 u244 u245 u246 u247 u248 u249 u250 u251 u252 u253 u254 u255 u256 u257 u258 u259 u260 u261 u262 u263 u264 u265 u266 u267 u268 u269 u270 u271 u272 u273 u274 u275 u276 u277 u278 u279 u280 u281 u282 u283, (∃ tb2, u26 = Value.pointer (some { block := tb2, off := 0 }) ∧ u27 = Value.int IntKind.i64 0 ∧ Hid (RD2 w.heap.size w w0 lb hm xb i Gs s val tb2 w')) ∧ a' = { tmps := #[Value.slice (some { block := tb, off := toff }) len cap, Value.int IntKind.u8 fan, Value.slice qa qn qc, undef, undef, undef, u6, Value.pointer (some { block := G, off := 0 }), Value.map (some hb), Value.map (some lb), Value.int IntKind.i64 (i : Int), Value.map (some hm), Value.slice ea en ec, Value.pointer (some { block := xb, off := 0 }), u14, u15, u16, u17, u18, u19, u20, u21, u22, u23, u24, u25, u26, u27, u28, u29, u30, u31, u32, u33, u34, Value.bool true, Value.bool false, Value.bool false, Value.slice (some { block := tb, off := toff }) len cap, Value.int IntKind.i64 (len : Int), Value.bool (decide (100 < (len : Int))), Value.bool (decide (100 < (len : Int))), Value.bool (decide (100 < (len : Int))), Value.slice qa qn qc, Value.int IntKind.i64 (qn : Int), Value.bool (decide (50 < (qn : Int))), Value.bool (decide (100 < (len : Int)) || decide (50 < (qn : Int))), undef, Value.map (some hb), Value.map (some lb), u50, u51, u52, u53, u54, u55, u56, u57, u58, u59, u60, u61, u62, u63, u64, u65, u66, u67, u68, u69, u70, u71, u72, u73, u74, u75, u76, u77, u78, u79, u80, u81, u82, u83, u84, u85, u86, u87, u88, u89, u90, u91, u92, u93, u94, u95, u96, u97, u98, u99, u100, u101, u102, u103, u104, u105, u106, u107, u108, u109, u110, u111, u112, u113, u114, u115, u116, u117, u118, u119, u120, u121, u122, u123, u124, u125, u126, u127, u128, u129, u130, u131, u132, u133, u134, u135, u136, u137, u138, u139, u140, u141, u142, u143, u144, u145, u146, u147, u148, u149, u150, u151, u152, u153, u154, u155, u156, u157, u158, u159, u160, u161, u162, u163, u164, u165, u166, u167, u168, u169, u170, u171, u172, u173, u174, u175, u176, u177, u178, u179, u180, u181, u182, u183, u184, u185, u186, u187, u188, u189, u190, u191, u192, u193, u194, u195, u196, u197, u198, u199, u200, u201, u202, u203, u204, u205, u206, u207, u208, u209, u210, u211, u212, u213, u214, u215, u216, u217, u218, u219, u220, u221, u222, u223, u224, u225, u226, u227, u228, u229, u230, u231, u232, u233, u234, u235, u236, u237, u238, u239, u240, u241, u242, u243, u244, u245, u246, u247, u248, u249, u250, u251, u252, u253, u254, u255, u256, u257, u258, u259, u260, u261, u262, u263, u264, u265, u266, u267, u268, u269, u270, u271, u272, u273, u274, u275, u276, u277, u278, u279, u280, u281, u282, u283], defers := [] }) → J_d a' w')
    (a_d : ∀ (a' : Act) (w' : World), Met J_d a' w' → Kq_d a' w')
    (hpan : ∀ x (a : Act) dd vv w, Qq_d (Exit.panic x) (a.put dd vv) w → Qq_d (Exit.panic x) a w)
    {cc : Code} (hcc : cc = codeDo) :
    Code.wp Tryz.prog cc (Exit.then Kq_d (Exit.inBlock 1 (Exit.then K_d1 Qq_d))) { tmps := #[Value.slice (some { block := tb, off := toff }) len cap, Value.int IntKind.u8 fan, Value.slice qa qn qc, undef, undef, undef, u6, Value.pointer (some { block := G, off := 0 }), Value.map (some hb), Value.map (some lb), Value.int IntKind.i64 (i : Int), Value.map (some hm), Value.slice ea en ec, Value.pointer (some { block := xb, off := 0 }), u14, u15, u16, u17, u18, u19, u20, u21, u22, u23, u24, u25, u26, u27, u28, u29, u30, u31, u32, u33, u34, Value.bool true, Value.bool false, Value.bool false, Value.slice (some { block := tb, off := toff }) len cap, Value.int IntKind.i64 (len : Int), Value.bool (decide (100 < (len : Int))), Value.bool (decide (100 < (len : Int))), Value.bool (decide (100 < (len : Int))), Value.slice qa qn qc, Value.int IntKind.i64 (qn : Int), Value.bool (decide (50 < (qn : Int))), Value.bool (decide (100 < (len : Int)) || decide (50 < (qn : Int))), undef, Value.map (some hb), Value.map (some lb), u50, u51, u52, u53, u54, u55, u56, u57, u58, u59, u60, u61, u62, u63, u64, u65, u66, u67, u68, u69, u70, u71, u72, u73, u74, u75, u76, u77, u78, u79, u80, u81, u82, u83, u84, u85, u86, u87, u88, u89, u90, u91, u92, u93, u94, u95, u96, u97, u98, u99, u100, u101, u102, u103, u104, u105, u106, u107, u108, u109, u110, u111, u112, u113, u114, u115, u116, u117, u118, u119, u120, u121, u122, u123, u124, u125, u126, u127, u128, u129, u130, u131, u132, u133, u134, u135, u136, u137, u138, u139, u140, u141, u142, u143, u144, u145, u146, u147, u148, u149, u150, u151, u152, u153, u154, u155, u156, u157, u158, u159, u160, u161, u162, u163, u164, u165, u166, u167, u168, u169, u170, u171, u172, u173, u174, u175, u176, u177, u178, u179, u180, u181, u182, u183, u184, u185, u186, u187, u188, u189, u190, u191, u192, u193, u194, u195, u196, u197, u198, u199, u200, u201, u202, u203, u204, u205, u206, u207, u208, u209, Value.map (some hm), Value.int IntKind.i64 (z : Int), Value.int IntKind.i64 cnt, Value.pointer (some { block := xb, off := 3 }), u214, u215, u216, u217, u218, u219, u220, u221, u222, u223, u224, u225, u226, u227, u228, u229, u230, u231, u232, u233, u234, u235, u236, u237, u238, u239, u240, u241, u242, u243, u244, u245, u246, u247, u248, u249, u250, u251, u252, u253, u254, u255, u256, u257, u258, u259, u260, u261, u262, u263, u264, u265, u266, u267, u268, u269, u270, u271, u272, u273, u274, u275, u276, u277, u278, u279, u280, u281, u282, u283], defers := [] } w1 := by
  subst hcc
  conv => arg 2; whnf
  have HLO := Lib.hid (show G ≤ xb ∧ hb ≤ xb ∧ lb ≤ xb ∧ hm ≤ xb ∧ xb < w1.heap.size by have := HHM.out; have := HG0.out; have := HI.out.o1; have := HI.out.o2; have := heap_lt X1.out; omega)
  refine wp_region_kept (fun W => ∀ j, j ≤ xb → W.heap[j]? = w1.heap[j]?) (by as_aux_lemma => kernel_rfl) ?_
  change wpAnyE _ _ _ _ _ _ _ _ _ w1.drew
  have SS : ∀ j, j ≤ xb → w1.drew.heap[j]? = w1.heap[j]? := fun j _ => rfl
  have KB := Lib.hid (K1.out.drew)
  have HZ := Lib.hid (show xb < w1.drew.heap.size from HLO.out.2.2.2.2)
  have OE := Lib.hid (show OffRow w1.drew (xb + 1) 47 6 (.slice ea en ec) en (flat ecell D) from OffRow.kept O1.out fun j hj => rfl)
  generalize w1.drew = wb at *
  refine kept_take (i := 0) (d := 215) (v := (.agg #[.slice ta nt tc, .slice sa ns sc, .slice la nl lc, .int .i64 nx])) rfl rfl (by as_aux_lemma => kernel_rfl) (by as_aux_lemma => kernel_rfl) (by as_aux_lemma => kernel_rfl) (fun _ _ _ h => hpan _ _ _ _ _ h) (Or.inl ⟨by rfl, ?_⟩) SS ?_
  · intro w' hw'
    obtain ⟨z0, z1, z2, z3⟩ := (show C4 G (.slice ta nt tc) (.slice sa ns sc) (.slice la nl lc) (.int .i64 nx) w' from (hw' G HLO.out.1).trans C1.out).c0
    go_simp
  try go_frame
  refine kept_take (i := 1) (d := 216) (v := (.slice ea en ec)) rfl rfl (by as_aux_lemma => kernel_rfl) (by as_aux_lemma => kernel_rfl) (by as_aux_lemma => kernel_rfl) (fun _ _ _ h => hpan _ _ _ _ _ h) (Or.inl ⟨by rfl, ?_⟩) SS ?_
  · intro w' hw'
    go_simp
  try go_frame
  refine kept_take (i := 2) (d := 217) (v := (.agg #[.int .i64 1, .int .i64 ((i : Int) + 1), .int .i64 out, .int .i64 cnt, .string (bs low), .string (bs high)])) rfl rfl (by as_aux_lemma => kernel_rfl) (by as_aux_lemma => kernel_rfl) (by as_aux_lemma => kernel_rfl) (fun _ _ _ h => hpan _ _ _ _ _ h) (Or.inl ⟨by rfl, ?_⟩) SS ?_
  · intro w' hw'
    obtain ⟨z0, z1, z2, z3, z4, z5⟩ := (show E6 xb ⟨1, (i : Int) + 1, out, cnt, low, high⟩ w' from (hw' xb (Nat.le_refl _)).trans X1.out).c0
    go_simp
  try go_frame
  refine wpAnyE_ready (rs := [3, 9]) (by as_aux_lemma => kernel_rfl) (by simp) (AllE.cons rfl (fun K hK0 => ?_) (AllE.cons rfl (fun K hK0 => ?_) AllE.nil))
  · go_simp
    obtain ⟨v1, hv1⟩ : ∃ v1, v1 = wb.alloc (.cells #[.int .i64 1, .int .i64 ((i : Int) + 1), .int .i64 out, .int .i64 cnt, .string (bs low), .string (bs high)] 47) := ⟨_, rfl⟩
    obtain ⟨nb, hnb⟩ : ∃ nb, nb = wb.heap.size := ⟨_, rfl⟩
    have kk : Below wb.heap.size wb v1 := by rw [hv1]; exact (Below.refl _ _).alloc (Nat.le_refl _) _
    have NB := Lib.hid (show v1.heap[nb]? = some (.cells #[.int .i64 1, .int .i64 ((i : Int) + 1), .int .i64 out, .int .i64 cnt, .string (bs low), .string (bs high)] 47 (0, 0)) by rw [hv1, hnb]; exact heap_new wb _)
    rw [← hv1, ← hnb]
    clear hv1 hnb
    have SSn : ∀ j, j ≤ xb → v1.heap[j]? = w1.heap[j]? := fun j hj => (kk.block j (by have := HZ.out; omega)).trans (SS j hj)
    have KBn := Lib.hid (KB.out.trans (kk.mono KB.out.size))
    have HZn := Lib.hid (show xb < v1.heap.size from Nat.lt_of_lt_of_le HZ.out kk.size)
    have OEn := Lib.hid (OffRow.kept OE.out (w' := v1) fun j hj => kk.block j (OffRow.lt OE.out j hj).2)
    refine hK0.out _ _ (fun _ => SSn) (fun _ => ?_)
    clear hK0 K SS KB HZ OE kk
    have SS := SSn
    have KB := KBn
    have HZ := HZn
    have OE := OEn
    clear SSn KBn HZn OEn
    try go_frame
    refine wpAnyE_ready (rs := [4, 9]) (by as_aux_lemma => kernel_rfl) (by simp) (AllE.cons rfl (fun K hK0 => ?_) (AllE.cons rfl (fun K hK0 => ?_) AllE.nil))
    · refine step_append_off rfl (.tmp 216) (.tmp 218) 30 rfl (xb + 1) 47 i0 _ 6 64 Tryz.underlying30 HIn.out.1 HIn.out.2.1 HIn.out.2.2.1 HIn.out.2.2.2 rfl (.slice ea en ec) en _ rfl OE.out (.slice (some ⟨nb, 0, none⟩) 1 1) rfl 1 (ecell (addEd ((i : Int) + 1) out cnt low high)) (src_block (size := 6) (cs := #[.int .i64 1, .int .i64 ((i : Int) + 1), .int .i64 out, .int .i64 cnt, .string (bs low), .string (bs high)]) Tryz.underlying30 NB.out 1 1 rfl (ecell_one (addEd ((i : Int) + 1) out cnt low high))) (by unfold maxLen; omega) (by omega) (by have := HZ.out; omega) ?_
      intro va v2 hr hg hat
      obtain ⟨oa, oc, rfl⟩ := OffRow.slice hr
      have OA := Lib.hid (show OffRow v2 (xb + 1) 47 6 (.slice oa (en + 1) oc) (en + 1) (flat ecell (D ++ [addEd ((i : Int) + 1) out cnt low high])) by rw [flat_append, flat_one]; exact hr)
      have SSn : ∀ j, j ≤ xb → v2.heap[j]? = w1.heap[j]? := fun j hj => (hg.block j (by have := HZ.out; omega) (fun e => by have := (OffRow.lt OE.out j e.symm).1; omega)).trans (SS j hj)
      have KBn := Lib.hid (KB.out.grown hg KB.out.size (fun j hj => by have := (OffRow.lt OE.out j hj).1; have := HXW.out; omega))
      have HZn := Lib.hid (show xb < v2.heap.size from Nat.lt_of_lt_of_le HZ.out hg.size)
      refine hK0.out _ _ (fun _ => SSn) (fun _ => ?_)
      clear hK0 K SS KB HZ OE NB hr hg hat
      have SS := SSn
      have KB := KBn
      have HZ := HZn
      clear SSn KBn HZn
      try go_frame
      refine wpAnyE_ready (rs := [5, 9]) (by as_aux_lemma => kernel_rfl) (by simp) (AllE.cons rfl (fun K hK0 => ?_) (AllE.cons rfl (fun K hK0 => ?_) AllE.nil))
      · go_simp
        have HKPc := Lib.hid (show Kp lb w0 v2 from ⟨by have := KP1.out.size; have := HZ.out; have := HXW.out; omega, fun j hj hne => (SS j (by have := HXW.out; omega)).trans (KP1.out.kept j hj hne)⟩)
        refine Calls.mono (HAP.out v2 oa oc HKPc.out (RdL.mono (OffRow.rdL OA.out) (fun b hb _ => hb))) ?_
        rintro e v3 ⟨⟨xa, xc, ya, yc, za, zc, rfl, ho⟩, kk⟩
        have HOS := Lib.hid (own_stmono ho HKPc.out.size)
        have SSn : ∀ j, j ≤ xb → v3.heap[j]? = w1.heap[j]? := fun j hj => (kk.block j (by have := HZ.out; omega)).trans (SS j hj)
        have KBn := Lib.hid (KB.out.trans (kk.mono KB.out.size))
        have HZn := Lib.hid (show xb < v3.heap.size from Nat.lt_of_lt_of_le HZ.out kk.size)
        refine hK0.out _ _ (fun _ => SSn) (fun _ => ?_)
        clear hK0 K SS KB HZ OA kk ho HKPc
        have SS := SSn
        have KB := KBn
        have HZ := HZn
        clear SSn KBn HZn
        try go_frame
        refine kept_take (i := 6) (d := 214) (v := (.tuple #[(.agg #[.slice xa nt' xc, .slice ya ns' yc, .slice za nl' zc, .int .i64 nx']), .int .i64 0])) rfl rfl (by as_aux_lemma => kernel_rfl) (by as_aux_lemma => kernel_rfl) (by as_aux_lemma => kernel_rfl) (fun _ _ _ h => hpan _ _ _ _ _ h) (Or.inl ⟨by rfl, ?_⟩) SS ?_
        · intro w' hw'
          go_simp
        try go_frame
        refine kept_take (i := 7) (d := 221) (v := (.agg #[.slice xa nt' xc, .slice ya ns' yc, .slice za nl' zc, .int .i64 nx'])) rfl rfl (by as_aux_lemma => kernel_rfl) (by as_aux_lemma => kernel_rfl) (by as_aux_lemma => kernel_rfl) (fun _ _ _ h => hpan _ _ _ _ _ h) (Or.inl ⟨by rfl, ?_⟩) SS ?_
        · intro w' hw'
          go_simp
        try go_frame
        refine kept_take (i := 8) (d := 222) (v := (.int .i64 0)) rfl rfl (by as_aux_lemma => kernel_rfl) (by as_aux_lemma => kernel_rfl) (by as_aux_lemma => kernel_rfl) (fun _ _ _ h => hpan _ _ _ _ _ h) (Or.inl ⟨by rfl, ?_⟩) SS ?_
        · intro w' hw'
          go_simp
        try go_frame
        refine wpAnyE_ready (rs := [9]) (by as_aux_lemma => kernel_rfl) (by simp) (AllE.cons rfl (fun K hK0 => ?_) AllE.nil)
        go_simp
        obtain ⟨v4, hv4⟩ : ∃ v4, v4 = v3.alloc (.cells #[.slice none 0 0, .slice none 0 0, .slice none 0 0, .int .i64 0] 29) := ⟨_, rfl⟩
        obtain ⟨tz, htz⟩ : ∃ tz, tz = v3.heap.size := ⟨_, rfl⟩
        have kk : Below v3.heap.size v3 v4 := by rw [hv4]; exact (Below.refl _ _).alloc (Nat.le_refl _) _
        have ZB := Lib.hid (show C4 tz (.slice none 0 0) (.slice none 0 0) (.slice none 0 0) (.int .i64 0) v4 by rw [hv4, htz]; exact heap_new v3 _)
        have HZL := Lib.hid (show w0.heap.size ≤ tz ∧ xb < tz by have := HZ.out; have := HXW.out; omega)
        have HZO := Lib.hid (show ∀ j, w0.heap.size ≤ j → j < v3.heap.size → j ≠ tz by intro j _ hj; omega)
        rw [← hv4, ← htz]
        clear hv4 htz
        have SSn : ∀ j, j ≤ xb → v4.heap[j]? = w1.heap[j]? := fun j hj => (kk.block j (by have := HZ.out; omega)).trans (SS j hj)
        have KBn := Lib.hid (KB.out.trans (kk.mono KB.out.size))
        have HZn := Lib.hid (show xb < v4.heap.size from Nat.lt_of_lt_of_le HZ.out kk.size)
        have HZO2 := Lib.hid (show ∀ j, (Value.slice xa nt' xc).ownBlock = some j ∨ (Value.slice ya ns' yc).ownBlock = some j ∨ (Value.slice za nl' zc).ownBlock = some j → j ≠ tz by
          intro j hj
          have hos := HOS.out
          rcases hj with hj | hj | hj
          · exact HZO.out j (OffRow.lt hos.tabs j hj).1 (OffRow.lt hos.tabs j hj).2
          · exact HZO.out j (OffRow.lt hos.stos j hj).1 (OffRow.lt hos.stos j hj).2
          · exact HZO.out j (OffRow.lt hos.logs j hj).1 (OffRow.lt hos.logs j hj).2)
        have HOSn := Lib.hid (HOS.out.below (w' := v4) fun j hj => kk.block j hj)
        clear HZO
        have HZO := HZO2
        clear HZO2
        refine hK0.out _ _ (fun _ => SSn) (fun _ => ?_)
        clear hK0 K SS KB HZ HOS kk
        have SS := SSn
        have KB := KBn
        have HZ := HZn
        have HOS := HOSn
        clear SSn KBn HZn HOSn
        try go_frame
        obtain ⟨d0, d1, d2, d3⟩ := ZB.out.c0
        have df := ZB.out.free
        refine wpAnyE_ready (rs := [10]) (by as_aux_lemma => kernel_rfl) (by simp) (AllE.cons rfl (fun K hK0 => ?_) AllE.nil)
        go_simp
        obtain ⟨we, hwe⟩ : ∃ we, we = ((((v4.setCell ⟨tz, 0, none⟩ (.slice xa nt' xc)).setCell ⟨tz, 1, none⟩ (.slice ya ns' yc)).setCell ⟨tz, 2, none⟩ (.slice za nl' zc)).setCell ⟨tz, 3, none⟩ (.int .i64 nx')) := ⟨_, rfl⟩
        have hkt : ∀ j, j ≠ tz → we.heap[j]? = v4.heap[j]? := fun j hj => by rw [hwe, heap_set_other hj, heap_set_other hj, heap_set_other hj, heap_set_other hj]
        have SSn : ∀ j, j ≤ xb → we.heap[j]? = w1.heap[j]? := fun j hj => (hkt j (by have := HZL.out; omega)).trans (SS j hj)
        have ZE := Lib.hid (show C4 tz (.slice xa nt' xc) (.slice ya ns' yc) (.slice za nl' zc) (.int .i64 nx') we by rw [hwe]; exact ZB.out.put _ _ _ _)
        have KE := Lib.hid (show Below w.heap.size w we by rw [hwe]; exact below_put4 KB.out (by have := HZL.out; have := HXW.out; omega) _ _ _ _)
        have hwl : v4.heap.size ≤ we.heap.size := by rw [hwe]; simp [World.size_setCell]
        have OSE := Lib.hid (show OwnSt we w0.heap.size (.slice xa nt' xc) (.slice ya ns' yc) (.slice za nl' zc) s' by rw [hwe]; exact own_put4 HOS.out (fun j _ _ hj => HZO.out j hj) _ _ _ _)
        rw [← hwe]
        refine hK0.out _ _ (fun _ => SSn) (fun _ => ?_)
        have HZE := Lib.hid (show xb < we.heap.size from Nat.lt_of_lt_of_le HZ.out hwl)
        clear hK0 K SS KB HZ ZB HOS hwe hkt d0 d1 d2 d3 df hwl
        have SS := SSn
        clear SSn
        try go_frame
        refine kept_take (i := 11) (d := 27) (v := (.int .i64 0)) rfl rfl (by as_aux_lemma => kernel_rfl) (by as_aux_lemma => kernel_rfl) (by as_aux_lemma => kernel_rfl) (fun _ _ _ h => hpan _ _ _ _ _ h) (Or.inl ⟨by rfl, ?_⟩) SS ?_
        · intro w' hw'
          go_simp
        try go_frame
        have HEND := Lib.hid (show RD2 w.heap.size w w0 lb hm xb i Gs s val tz we from by
          have hn := HN'.out
          have ze := ZE.out
          have ose := OSE.out
          rw [hn.1, hn.2.1, hn.2.2.1] at ze ose
          rw [hn.2.2.2] at ze
          have x1 : E6 xb ⟨1, (i : Int) + 1, out, cnt, low, high⟩ we := (SS xb (Nat.le_refl _)).trans X1.out
          exact ⟨xa, xc, ya, yc, za, zc, s', gH, last', ze, ose, HZL.out.1, HSV.out, HPF.out.1, HPF.out.2.1, HPF.out.2.2, x1.c0.2.1, M1.out.kept (SS hm HLO.out.2.2.2.1), L1.out.kept (SS lb HLO.out.2.2.1), ⟨by have := HZE.out; have := HXW.out; omega, fun j hj hne => (SS j (by have := HXW.out; omega)).trans (KP1.out.kept j hj hne)⟩, KE.out, HKEY.out⟩)
        refine wpAnyE_done (by as_aux_lemma => kernel_rfl) ?_ _
        clear SS
        go_wp2_with fail
        go_meet
        exact ⟨tz, rfl, rfl, HEND⟩
      · go_simp
        obtain ⟨v5, hv5⟩ : ∃ v5, v5 = v2.alloc (.cells #[.slice none 0 0, .slice none 0 0, .slice none 0 0, .int .i64 0] 29) := ⟨_, rfl⟩
        obtain ⟨tz, htz⟩ : ∃ tz, tz = v2.heap.size := ⟨_, rfl⟩
        have kk : Below v2.heap.size v2 v5 := by rw [hv5]; exact (Below.refl _ _).alloc (Nat.le_refl _) _
        have ZB := Lib.hid (show C4 tz (.slice none 0 0) (.slice none 0 0) (.slice none 0 0) (.int .i64 0) v5 by rw [hv5, htz]; exact heap_new v2 _)
        have HZL := Lib.hid (show w0.heap.size ≤ tz ∧ xb < tz by have := HZ.out; have := HXW.out; omega)
        rw [← hv5, ← htz]
        clear hv5 htz
        have SSn : ∀ j, j ≤ xb → v5.heap[j]? = w1.heap[j]? := fun j hj => (kk.block j (by have := HZ.out; omega)).trans (SS j hj)
        have KBn := Lib.hid (KB.out.trans (kk.mono KB.out.size))
        have HZn := Lib.hid (show xb < v5.heap.size from Nat.lt_of_lt_of_le HZ.out kk.size)
        have OAn := Lib.hid (OffRow.kept OA.out (w' := v5) fun j hj => kk.block j (OffRow.lt OA.out j hj).2)
        refine hK0.out _ _ (fun _ => SSn) (fun _ => ?_)
        clear hK0 K SS KB HZ OA kk
        have SS := SSn
        have KB := KBn
        have HZ := HZn
        have OA := OAn
        clear SSn KBn HZn OAn
        try go_frame
        refine wpAnyE_ready (rs := [5]) (by as_aux_lemma => kernel_rfl) (by simp) (AllE.cons rfl (fun K hK0 => ?_) AllE.nil)
        go_simp
        have HKPc := Lib.hid (show Kp lb w0 v5 from ⟨by have := KP1.out.size; have := HZ.out; have := HXW.out; omega, fun j hj hne => (SS j (by have := HXW.out; omega)).trans (KP1.out.kept j hj hne)⟩)
        refine Calls.mono (HAP.out v5 oa oc HKPc.out (RdL.mono (OffRow.rdL OA.out) (fun b hb _ => hb))) ?_
        rintro e v6 ⟨⟨xa, xc, ya, yc, za, zc, rfl, ho⟩, kk⟩
        have HOS := Lib.hid (own_stmono ho HKPc.out.size)
        have HZO := Lib.hid (show ∀ j, (Value.slice xa nt' xc).ownBlock = some j ∨ (Value.slice ya ns' yc).ownBlock = some j ∨ (Value.slice za nl' zc).ownBlock = some j → j ≠ tz by
          intro j hj
          have h1 : v5.heap.size ≤ j := by rcases hj with hj | hj | hj; (exact (OffRow.lt ho.tabs j hj).1); (exact (OffRow.lt ho.stos j hj).1); (exact (OffRow.lt ho.logs j hj).1)
          have h2 := heap_lt ZB.out
          omega)
        have SSn : ∀ j, j ≤ xb → v6.heap[j]? = w1.heap[j]? := fun j hj => (kk.block j (by have := HZ.out; omega)).trans (SS j hj)
        have KBn := Lib.hid (KB.out.trans (kk.mono KB.out.size))
        have HZn := Lib.hid (show xb < v6.heap.size from Nat.lt_of_lt_of_le HZ.out kk.size)
        have ZBn := Lib.hid (ZB.out.below kk)
        clear ZB
        have ZB := ZBn
        clear ZBn
        refine hK0.out _ _ (fun _ => SSn) (fun _ => ?_)
        clear hK0 K SS KB HZ OA kk ho HKPc
        have SS := SSn
        have KB := KBn
        have HZ := HZn
        clear SSn KBn HZn
        try go_frame
        refine kept_take (i := 6) (d := 214) (v := (.tuple #[(.agg #[.slice xa nt' xc, .slice ya ns' yc, .slice za nl' zc, .int .i64 nx']), .int .i64 0])) rfl rfl (by as_aux_lemma => kernel_rfl) (by as_aux_lemma => kernel_rfl) (by as_aux_lemma => kernel_rfl) (fun _ _ _ h => hpan _ _ _ _ _ h) (Or.inl ⟨by rfl, ?_⟩) SS ?_
        · intro w' hw'
          go_simp
        try go_frame
        refine kept_take (i := 7) (d := 221) (v := (.agg #[.slice xa nt' xc, .slice ya ns' yc, .slice za nl' zc, .int .i64 nx'])) rfl rfl (by as_aux_lemma => kernel_rfl) (by as_aux_lemma => kernel_rfl) (by as_aux_lemma => kernel_rfl) (fun _ _ _ h => hpan _ _ _ _ _ h) (Or.inl ⟨by rfl, ?_⟩) SS ?_
        · intro w' hw'
          go_simp
        try go_frame
        refine kept_take (i := 8) (d := 222) (v := (.int .i64 0)) rfl rfl (by as_aux_lemma => kernel_rfl) (by as_aux_lemma => kernel_rfl) (by as_aux_lemma => kernel_rfl) (fun _ _ _ h => hpan _ _ _ _ _ h) (Or.inl ⟨by rfl, ?_⟩) SS ?_
        · intro w' hw'
          go_simp
        try go_frame
        obtain ⟨d0, d1, d2, d3⟩ := ZB.out.c0
        have df := ZB.out.free
        refine wpAnyE_ready (rs := [10]) (by as_aux_lemma => kernel_rfl) (by simp) (AllE.cons rfl (fun K hK0 => ?_) AllE.nil)
        go_simp
        obtain ⟨we, hwe⟩ : ∃ we, we = ((((v6.setCell ⟨tz, 0, none⟩ (.slice xa nt' xc)).setCell ⟨tz, 1, none⟩ (.slice ya ns' yc)).setCell ⟨tz, 2, none⟩ (.slice za nl' zc)).setCell ⟨tz, 3, none⟩ (.int .i64 nx')) := ⟨_, rfl⟩
        have hkt : ∀ j, j ≠ tz → we.heap[j]? = v6.heap[j]? := fun j hj => by rw [hwe, heap_set_other hj, heap_set_other hj, heap_set_other hj, heap_set_other hj]
        have SSn : ∀ j, j ≤ xb → we.heap[j]? = w1.heap[j]? := fun j hj => (hkt j (by have := HZL.out; omega)).trans (SS j hj)
        have ZE := Lib.hid (show C4 tz (.slice xa nt' xc) (.slice ya ns' yc) (.slice za nl' zc) (.int .i64 nx') we by rw [hwe]; exact ZB.out.put _ _ _ _)
        have KE := Lib.hid (show Below w.heap.size w we by rw [hwe]; exact below_put4 KB.out (by have := HZL.out; have := HXW.out; omega) _ _ _ _)
        have hwl : v6.heap.size ≤ we.heap.size := by rw [hwe]; simp [World.size_setCell]
        have OSE := Lib.hid (show OwnSt we w0.heap.size (.slice xa nt' xc) (.slice ya ns' yc) (.slice za nl' zc) s' by rw [hwe]; exact own_put4 HOS.out (fun j _ _ hj => HZO.out j hj) _ _ _ _)
        rw [← hwe]
        refine hK0.out _ _ (fun _ => SSn) (fun _ => ?_)
        have HZE := Lib.hid (show xb < we.heap.size from Nat.lt_of_lt_of_le HZ.out hwl)
        clear hK0 K SS KB HZ ZB HOS hwe hkt d0 d1 d2 d3 df hwl
        have SS := SSn
        clear SSn
        try go_frame
        refine kept_take (i := 11) (d := 27) (v := (.int .i64 0)) rfl rfl (by as_aux_lemma => kernel_rfl) (by as_aux_lemma => kernel_rfl) (by as_aux_lemma => kernel_rfl) (fun _ _ _ h => hpan _ _ _ _ _ h) (Or.inl ⟨by rfl, ?_⟩) SS ?_
        · intro w' hw'
          go_simp
        try go_frame
        have HEND := Lib.hid (show RD2 w.heap.size w w0 lb hm xb i Gs s val tz we from by
          have hn := HN'.out
          have ze := ZE.out
          have ose := OSE.out
          rw [hn.1, hn.2.1, hn.2.2.1] at ze ose
          rw [hn.2.2.2] at ze
          have x1 : E6 xb ⟨1, (i : Int) + 1, out, cnt, low, high⟩ we := (SS xb (Nat.le_refl _)).trans X1.out
          exact ⟨xa, xc, ya, yc, za, zc, s', gH, last', ze, ose, HZL.out.1, HSV.out, HPF.out.1, HPF.out.2.1, HPF.out.2.2, x1.c0.2.1, M1.out.kept (SS hm HLO.out.2.2.2.1), L1.out.kept (SS lb HLO.out.2.2.1), ⟨by have := HZE.out; have := HXW.out; omega, fun j hj hne => (SS j (by have := HXW.out; omega)).trans (KP1.out.kept j hj hne)⟩, KE.out, HKEY.out⟩)
        refine wpAnyE_done (by as_aux_lemma => kernel_rfl) ?_ _
        clear SS
        go_wp2_with fail
        go_meet
        exact ⟨tz, rfl, rfl, HEND⟩
    · go_simp
      obtain ⟨v7, hv7⟩ : ∃ v7, v7 = v1.alloc (.cells #[.slice none 0 0, .slice none 0 0, .slice none 0 0, .int .i64 0] 29) := ⟨_, rfl⟩
      obtain ⟨tz, htz⟩ : ∃ tz, tz = v1.heap.size := ⟨_, rfl⟩
      have kk : Below v1.heap.size v1 v7 := by rw [hv7]; exact (Below.refl _ _).alloc (Nat.le_refl _) _
      have ZB := Lib.hid (show C4 tz (.slice none 0 0) (.slice none 0 0) (.slice none 0 0) (.int .i64 0) v7 by rw [hv7, htz]; exact heap_new v1 _)
      have HZL := Lib.hid (show w0.heap.size ≤ tz ∧ xb < tz by have := HZ.out; have := HXW.out; omega)
      rw [← hv7, ← htz]
      clear hv7 htz
      have SSn : ∀ j, j ≤ xb → v7.heap[j]? = w1.heap[j]? := fun j hj => (kk.block j (by have := HZ.out; omega)).trans (SS j hj)
      have KBn := Lib.hid (KB.out.trans (kk.mono KB.out.size))
      have HZn := Lib.hid (show xb < v7.heap.size from Nat.lt_of_lt_of_le HZ.out kk.size)
      have OEn := Lib.hid (OffRow.kept OE.out (w' := v7) fun j hj => kk.block j (OffRow.lt OE.out j hj).2)
      have NBn := Lib.hid ((kk.block nb (heap_lt NB.out)).trans NB.out)
      refine hK0.out _ _ (fun _ => SSn) (fun _ => ?_)
      clear hK0 K SS KB HZ OE NB kk
      have SS := SSn
      have KB := KBn
      have HZ := HZn
      have OE := OEn
      have NB := NBn
      clear SSn KBn HZn OEn NBn
      try go_frame
      refine wpAnyE_ready (rs := [4]) (by as_aux_lemma => kernel_rfl) (by simp) (AllE.cons rfl (fun K hK0 => ?_) AllE.nil)
      refine step_append_off rfl (.tmp 216) (.tmp 218) 30 rfl (xb + 1) 47 i0 _ 6 64 Tryz.underlying30 HIn.out.1 HIn.out.2.1 HIn.out.2.2.1 HIn.out.2.2.2 rfl (.slice ea en ec) en _ rfl OE.out (.slice (some ⟨nb, 0, none⟩) 1 1) rfl 1 (ecell (addEd ((i : Int) + 1) out cnt low high)) (src_block (size := 6) (cs := #[.int .i64 1, .int .i64 ((i : Int) + 1), .int .i64 out, .int .i64 cnt, .string (bs low), .string (bs high)]) Tryz.underlying30 NB.out 1 1 rfl (ecell_one (addEd ((i : Int) + 1) out cnt low high))) (by unfold maxLen; omega) (by omega) (by have := HZ.out; omega) ?_
      intro va v8 hr hg hat
      obtain ⟨oa, oc, rfl⟩ := OffRow.slice hr
      have OA := Lib.hid (show OffRow v8 (xb + 1) 47 6 (.slice oa (en + 1) oc) (en + 1) (flat ecell (D ++ [addEd ((i : Int) + 1) out cnt low high])) by rw [flat_append, flat_one]; exact hr)
      have SSn : ∀ j, j ≤ xb → v8.heap[j]? = w1.heap[j]? := fun j hj => (hg.block j (by have := HZ.out; omega) (fun e => by have := (OffRow.lt OE.out j e.symm).1; omega)).trans (SS j hj)
      have KBn := Lib.hid (KB.out.grown hg KB.out.size (fun j hj => by have := (OffRow.lt OE.out j hj).1; have := HXW.out; omega))
      have HZn := Lib.hid (show xb < v8.heap.size from Nat.lt_of_lt_of_le HZ.out hg.size)
      have ZBn := Lib.hid (show C4 tz (.slice none 0 0) (.slice none 0 0) (.slice none 0 0) (.int .i64 0) v8 from (hg.block tz (heap_lt ZB.out) (fun e => by
        obtain ⟨cur, hcur⟩ := OffRow.tag OE.out e.symm
        have h2 := ZB.out
        unfold C4 at h2
        rw [h2] at hcur
        simp at hcur)).trans ZB.out)
      clear ZB
      have ZB := ZBn
      clear ZBn
      refine hK0.out _ _ (fun _ => SSn) (fun _ => ?_)
      clear hK0 K SS KB HZ OE NB hr hg hat
      have SS := SSn
      have KB := KBn
      have HZ := HZn
      clear SSn KBn HZn
      try go_frame
      refine wpAnyE_ready (rs := [5]) (by as_aux_lemma => kernel_rfl) (by simp) (AllE.cons rfl (fun K hK0 => ?_) AllE.nil)
      go_simp
      have HKPc := Lib.hid (show Kp lb w0 v8 from ⟨by have := KP1.out.size; have := HZ.out; have := HXW.out; omega, fun j hj hne => (SS j (by have := HXW.out; omega)).trans (KP1.out.kept j hj hne)⟩)
      refine Calls.mono (HAP.out v8 oa oc HKPc.out (RdL.mono (OffRow.rdL OA.out) (fun b hb _ => hb))) ?_
      rintro e v9 ⟨⟨xa, xc, ya, yc, za, zc, rfl, ho⟩, kk⟩
      have HOS := Lib.hid (own_stmono ho HKPc.out.size)
      have HZO := Lib.hid (show ∀ j, (Value.slice xa nt' xc).ownBlock = some j ∨ (Value.slice ya ns' yc).ownBlock = some j ∨ (Value.slice za nl' zc).ownBlock = some j → j ≠ tz by
        intro j hj
        have h1 : v8.heap.size ≤ j := by rcases hj with hj | hj | hj; (exact (OffRow.lt ho.tabs j hj).1); (exact (OffRow.lt ho.stos j hj).1); (exact (OffRow.lt ho.logs j hj).1)
        have h2 := heap_lt ZB.out
        omega)
      have SSn : ∀ j, j ≤ xb → v9.heap[j]? = w1.heap[j]? := fun j hj => (kk.block j (by have := HZ.out; omega)).trans (SS j hj)
      have KBn := Lib.hid (KB.out.trans (kk.mono KB.out.size))
      have HZn := Lib.hid (show xb < v9.heap.size from Nat.lt_of_lt_of_le HZ.out kk.size)
      have ZBn := Lib.hid (ZB.out.below kk)
      clear ZB
      have ZB := ZBn
      clear ZBn
      refine hK0.out _ _ (fun _ => SSn) (fun _ => ?_)
      clear hK0 K SS KB HZ OA kk ho HKPc
      have SS := SSn
      have KB := KBn
      have HZ := HZn
      clear SSn KBn HZn
      try go_frame
      refine kept_take (i := 6) (d := 214) (v := (.tuple #[(.agg #[.slice xa nt' xc, .slice ya ns' yc, .slice za nl' zc, .int .i64 nx']), .int .i64 0])) rfl rfl (by as_aux_lemma => kernel_rfl) (by as_aux_lemma => kernel_rfl) (by as_aux_lemma => kernel_rfl) (fun _ _ _ h => hpan _ _ _ _ _ h) (Or.inl ⟨by rfl, ?_⟩) SS ?_
      · intro w' hw'
        go_simp
      try go_frame
      refine kept_take (i := 7) (d := 221) (v := (.agg #[.slice xa nt' xc, .slice ya ns' yc, .slice za nl' zc, .int .i64 nx'])) rfl rfl (by as_aux_lemma => kernel_rfl) (by as_aux_lemma => kernel_rfl) (by as_aux_lemma => kernel_rfl) (fun _ _ _ h => hpan _ _ _ _ _ h) (Or.inl ⟨by rfl, ?_⟩) SS ?_
      · intro w' hw'
        go_simp
      try go_frame
      refine kept_take (i := 8) (d := 222) (v := (.int .i64 0)) rfl rfl (by as_aux_lemma => kernel_rfl) (by as_aux_lemma => kernel_rfl) (by as_aux_lemma => kernel_rfl) (fun _ _ _ h => hpan _ _ _ _ _ h) (Or.inl ⟨by rfl, ?_⟩) SS ?_
      · intro w' hw'
        go_simp
      try go_frame
      obtain ⟨d0, d1, d2, d3⟩ := ZB.out.c0
      have df := ZB.out.free
      refine wpAnyE_ready (rs := [10]) (by as_aux_lemma => kernel_rfl) (by simp) (AllE.cons rfl (fun K hK0 => ?_) AllE.nil)
      go_simp
      obtain ⟨we, hwe⟩ : ∃ we, we = ((((v9.setCell ⟨tz, 0, none⟩ (.slice xa nt' xc)).setCell ⟨tz, 1, none⟩ (.slice ya ns' yc)).setCell ⟨tz, 2, none⟩ (.slice za nl' zc)).setCell ⟨tz, 3, none⟩ (.int .i64 nx')) := ⟨_, rfl⟩
      have hkt : ∀ j, j ≠ tz → we.heap[j]? = v9.heap[j]? := fun j hj => by rw [hwe, heap_set_other hj, heap_set_other hj, heap_set_other hj, heap_set_other hj]
      have SSn : ∀ j, j ≤ xb → we.heap[j]? = w1.heap[j]? := fun j hj => (hkt j (by have := HZL.out; omega)).trans (SS j hj)
      have ZE := Lib.hid (show C4 tz (.slice xa nt' xc) (.slice ya ns' yc) (.slice za nl' zc) (.int .i64 nx') we by rw [hwe]; exact ZB.out.put _ _ _ _)
      have KE := Lib.hid (show Below w.heap.size w we by rw [hwe]; exact below_put4 KB.out (by have := HZL.out; have := HXW.out; omega) _ _ _ _)
      have hwl : v9.heap.size ≤ we.heap.size := by rw [hwe]; simp [World.size_setCell]
      have OSE := Lib.hid (show OwnSt we w0.heap.size (.slice xa nt' xc) (.slice ya ns' yc) (.slice za nl' zc) s' by rw [hwe]; exact own_put4 HOS.out (fun j _ _ hj => HZO.out j hj) _ _ _ _)
      rw [← hwe]
      refine hK0.out _ _ (fun _ => SSn) (fun _ => ?_)
      have HZE := Lib.hid (show xb < we.heap.size from Nat.lt_of_lt_of_le HZ.out hwl)
      clear hK0 K SS KB HZ ZB HOS hwe hkt d0 d1 d2 d3 df hwl
      have SS := SSn
      clear SSn
      try go_frame
      refine kept_take (i := 11) (d := 27) (v := (.int .i64 0)) rfl rfl (by as_aux_lemma => kernel_rfl) (by as_aux_lemma => kernel_rfl) (by as_aux_lemma => kernel_rfl) (fun _ _ _ h => hpan _ _ _ _ _ h) (Or.inl ⟨by rfl, ?_⟩) SS ?_
      · intro w' hw'
        go_simp
      try go_frame
      have HEND := Lib.hid (show RD2 w.heap.size w w0 lb hm xb i Gs s val tz we from by
        have hn := HN'.out
        have ze := ZE.out
        have ose := OSE.out
        rw [hn.1, hn.2.1, hn.2.2.1] at ze ose
        rw [hn.2.2.2] at ze
        have x1 : E6 xb ⟨1, (i : Int) + 1, out, cnt, low, high⟩ we := (SS xb (Nat.le_refl _)).trans X1.out
        exact ⟨xa, xc, ya, yc, za, zc, s', gH, last', ze, ose, HZL.out.1, HSV.out, HPF.out.1, HPF.out.2.1, HPF.out.2.2, x1.c0.2.1, M1.out.kept (SS hm HLO.out.2.2.2.1), L1.out.kept (SS lb HLO.out.2.2.1), ⟨by have := HZE.out; have := HXW.out; omega, fun j hj hne => (SS j (by have := HXW.out; omega)).trans (KP1.out.kept j hj hne)⟩, KE.out, HKEY.out⟩)
      refine wpAnyE_done (by as_aux_lemma => kernel_rfl) ?_ _
      clear SS
      go_wp2_with fail
      go_meet
      exact ⟨tz, rfl, rfl, HEND⟩
  · go_simp
    obtain ⟨v10, hv10⟩ : ∃ v10, v10 = wb.alloc (.cells #[.slice none 0 0, .slice none 0 0, .slice none 0 0, .int .i64 0] 29) := ⟨_, rfl⟩
    obtain ⟨tz, htz⟩ : ∃ tz, tz = wb.heap.size := ⟨_, rfl⟩
    have kk : Below wb.heap.size wb v10 := by rw [hv10]; exact (Below.refl _ _).alloc (Nat.le_refl _) _
    have ZB := Lib.hid (show C4 tz (.slice none 0 0) (.slice none 0 0) (.slice none 0 0) (.int .i64 0) v10 by rw [hv10, htz]; exact heap_new wb _)
    have HZL := Lib.hid (show w0.heap.size ≤ tz ∧ xb < tz by have := HZ.out; have := HXW.out; omega)
    rw [← hv10, ← htz]
    clear hv10 htz
    have SSn : ∀ j, j ≤ xb → v10.heap[j]? = w1.heap[j]? := fun j hj => (kk.block j (by have := HZ.out; omega)).trans (SS j hj)
    have KBn := Lib.hid (KB.out.trans (kk.mono KB.out.size))
    have HZn := Lib.hid (show xb < v10.heap.size from Nat.lt_of_lt_of_le HZ.out kk.size)
    have OEn := Lib.hid (OffRow.kept OE.out (w' := v10) fun j hj => kk.block j (OffRow.lt OE.out j hj).2)
    refine hK0.out _ _ (fun _ => SSn) (fun _ => ?_)
    clear hK0 K SS KB HZ OE kk
    have SS := SSn
    have KB := KBn
    have HZ := HZn
    have OE := OEn
    clear SSn KBn HZn OEn
    try go_frame
    refine wpAnyE_ready (rs := [3]) (by as_aux_lemma => kernel_rfl) (by simp) (AllE.cons rfl (fun K hK0 => ?_) AllE.nil)
    go_simp
    obtain ⟨v11, hv11⟩ : ∃ v11, v11 = v10.alloc (.cells #[.int .i64 1, .int .i64 ((i : Int) + 1), .int .i64 out, .int .i64 cnt, .string (bs low), .string (bs high)] 47) := ⟨_, rfl⟩
    obtain ⟨nb, hnb⟩ : ∃ nb, nb = v10.heap.size := ⟨_, rfl⟩
    have kk : Below v10.heap.size v10 v11 := by rw [hv11]; exact (Below.refl _ _).alloc (Nat.le_refl _) _
    have NB := Lib.hid (show v11.heap[nb]? = some (.cells #[.int .i64 1, .int .i64 ((i : Int) + 1), .int .i64 out, .int .i64 cnt, .string (bs low), .string (bs high)] 47 (0, 0)) by rw [hv11, hnb]; exact heap_new v10 _)
    rw [← hv11, ← hnb]
    clear hv11 hnb
    have SSn : ∀ j, j ≤ xb → v11.heap[j]? = w1.heap[j]? := fun j hj => (kk.block j (by have := HZ.out; omega)).trans (SS j hj)
    have KBn := Lib.hid (KB.out.trans (kk.mono KB.out.size))
    have HZn := Lib.hid (show xb < v11.heap.size from Nat.lt_of_lt_of_le HZ.out kk.size)
    have OEn := Lib.hid (OffRow.kept OE.out (w' := v11) fun j hj => kk.block j (OffRow.lt OE.out j hj).2)
    have ZBn := Lib.hid (ZB.out.below kk)
    refine hK0.out _ _ (fun _ => SSn) (fun _ => ?_)
    clear hK0 K SS KB HZ OE ZB kk
    have SS := SSn
    have KB := KBn
    have HZ := HZn
    have OE := OEn
    have ZB := ZBn
    clear SSn KBn HZn OEn ZBn
    try go_frame
    refine wpAnyE_ready (rs := [4]) (by as_aux_lemma => kernel_rfl) (by simp) (AllE.cons rfl (fun K hK0 => ?_) AllE.nil)
    refine step_append_off rfl (.tmp 216) (.tmp 218) 30 rfl (xb + 1) 47 i0 _ 6 64 Tryz.underlying30 HIn.out.1 HIn.out.2.1 HIn.out.2.2.1 HIn.out.2.2.2 rfl (.slice ea en ec) en _ rfl OE.out (.slice (some ⟨nb, 0, none⟩) 1 1) rfl 1 (ecell (addEd ((i : Int) + 1) out cnt low high)) (src_block (size := 6) (cs := #[.int .i64 1, .int .i64 ((i : Int) + 1), .int .i64 out, .int .i64 cnt, .string (bs low), .string (bs high)]) Tryz.underlying30 NB.out 1 1 rfl (ecell_one (addEd ((i : Int) + 1) out cnt low high))) (by unfold maxLen; omega) (by omega) (by have := HZ.out; omega) ?_
    intro va v12 hr hg hat
    obtain ⟨oa, oc, rfl⟩ := OffRow.slice hr
    have OA := Lib.hid (show OffRow v12 (xb + 1) 47 6 (.slice oa (en + 1) oc) (en + 1) (flat ecell (D ++ [addEd ((i : Int) + 1) out cnt low high])) by rw [flat_append, flat_one]; exact hr)
    have SSn : ∀ j, j ≤ xb → v12.heap[j]? = w1.heap[j]? := fun j hj => (hg.block j (by have := HZ.out; omega) (fun e => by have := (OffRow.lt OE.out j e.symm).1; omega)).trans (SS j hj)
    have KBn := Lib.hid (KB.out.grown hg KB.out.size (fun j hj => by have := (OffRow.lt OE.out j hj).1; have := HXW.out; omega))
    have HZn := Lib.hid (show xb < v12.heap.size from Nat.lt_of_lt_of_le HZ.out hg.size)
    have ZBn := Lib.hid (show C4 tz (.slice none 0 0) (.slice none 0 0) (.slice none 0 0) (.int .i64 0) v12 from (hg.block tz (heap_lt ZB.out) (fun e => by
      obtain ⟨cur, hcur⟩ := OffRow.tag OE.out e.symm
      have h2 := ZB.out
      unfold C4 at h2
      rw [h2] at hcur
      simp at hcur)).trans ZB.out)
    clear ZB
    have ZB := ZBn
    clear ZBn
    refine hK0.out _ _ (fun _ => SSn) (fun _ => ?_)
    clear hK0 K SS KB HZ OE NB hr hg hat
    have SS := SSn
    have KB := KBn
    have HZ := HZn
    clear SSn KBn HZn
    try go_frame
    refine wpAnyE_ready (rs := [5]) (by as_aux_lemma => kernel_rfl) (by simp) (AllE.cons rfl (fun K hK0 => ?_) AllE.nil)
    go_simp
    have HKPc := Lib.hid (show Kp lb w0 v12 from ⟨by have := KP1.out.size; have := HZ.out; have := HXW.out; omega, fun j hj hne => (SS j (by have := HXW.out; omega)).trans (KP1.out.kept j hj hne)⟩)
    refine Calls.mono (HAP.out v12 oa oc HKPc.out (RdL.mono (OffRow.rdL OA.out) (fun b hb _ => hb))) ?_
    rintro e v13 ⟨⟨xa, xc, ya, yc, za, zc, rfl, ho⟩, kk⟩
    have HOS := Lib.hid (own_stmono ho HKPc.out.size)
    have HZO := Lib.hid (show ∀ j, (Value.slice xa nt' xc).ownBlock = some j ∨ (Value.slice ya ns' yc).ownBlock = some j ∨ (Value.slice za nl' zc).ownBlock = some j → j ≠ tz by
      intro j hj
      have h1 : v12.heap.size ≤ j := by rcases hj with hj | hj | hj; (exact (OffRow.lt ho.tabs j hj).1); (exact (OffRow.lt ho.stos j hj).1); (exact (OffRow.lt ho.logs j hj).1)
      have h2 := heap_lt ZB.out
      omega)
    have SSn : ∀ j, j ≤ xb → v13.heap[j]? = w1.heap[j]? := fun j hj => (kk.block j (by have := HZ.out; omega)).trans (SS j hj)
    have KBn := Lib.hid (KB.out.trans (kk.mono KB.out.size))
    have HZn := Lib.hid (show xb < v13.heap.size from Nat.lt_of_lt_of_le HZ.out kk.size)
    have ZBn := Lib.hid (ZB.out.below kk)
    clear ZB
    have ZB := ZBn
    clear ZBn
    refine hK0.out _ _ (fun _ => SSn) (fun _ => ?_)
    clear hK0 K SS KB HZ OA kk ho HKPc
    have SS := SSn
    have KB := KBn
    have HZ := HZn
    clear SSn KBn HZn
    try go_frame
    refine kept_take (i := 6) (d := 214) (v := (.tuple #[(.agg #[.slice xa nt' xc, .slice ya ns' yc, .slice za nl' zc, .int .i64 nx']), .int .i64 0])) rfl rfl (by as_aux_lemma => kernel_rfl) (by as_aux_lemma => kernel_rfl) (by as_aux_lemma => kernel_rfl) (fun _ _ _ h => hpan _ _ _ _ _ h) (Or.inl ⟨by rfl, ?_⟩) SS ?_
    · intro w' hw'
      go_simp
    try go_frame
    refine kept_take (i := 7) (d := 221) (v := (.agg #[.slice xa nt' xc, .slice ya ns' yc, .slice za nl' zc, .int .i64 nx'])) rfl rfl (by as_aux_lemma => kernel_rfl) (by as_aux_lemma => kernel_rfl) (by as_aux_lemma => kernel_rfl) (fun _ _ _ h => hpan _ _ _ _ _ h) (Or.inl ⟨by rfl, ?_⟩) SS ?_
    · intro w' hw'
      go_simp
    try go_frame
    refine kept_take (i := 8) (d := 222) (v := (.int .i64 0)) rfl rfl (by as_aux_lemma => kernel_rfl) (by as_aux_lemma => kernel_rfl) (by as_aux_lemma => kernel_rfl) (fun _ _ _ h => hpan _ _ _ _ _ h) (Or.inl ⟨by rfl, ?_⟩) SS ?_
    · intro w' hw'
      go_simp
    try go_frame
    obtain ⟨d0, d1, d2, d3⟩ := ZB.out.c0
    have df := ZB.out.free
    refine wpAnyE_ready (rs := [10]) (by as_aux_lemma => kernel_rfl) (by simp) (AllE.cons rfl (fun K hK0 => ?_) AllE.nil)
    go_simp
    obtain ⟨we, hwe⟩ : ∃ we, we = ((((v13.setCell ⟨tz, 0, none⟩ (.slice xa nt' xc)).setCell ⟨tz, 1, none⟩ (.slice ya ns' yc)).setCell ⟨tz, 2, none⟩ (.slice za nl' zc)).setCell ⟨tz, 3, none⟩ (.int .i64 nx')) := ⟨_, rfl⟩
    have hkt : ∀ j, j ≠ tz → we.heap[j]? = v13.heap[j]? := fun j hj => by rw [hwe, heap_set_other hj, heap_set_other hj, heap_set_other hj, heap_set_other hj]
    have SSn : ∀ j, j ≤ xb → we.heap[j]? = w1.heap[j]? := fun j hj => (hkt j (by have := HZL.out; omega)).trans (SS j hj)
    have ZE := Lib.hid (show C4 tz (.slice xa nt' xc) (.slice ya ns' yc) (.slice za nl' zc) (.int .i64 nx') we by rw [hwe]; exact ZB.out.put _ _ _ _)
    have KE := Lib.hid (show Below w.heap.size w we by rw [hwe]; exact below_put4 KB.out (by have := HZL.out; have := HXW.out; omega) _ _ _ _)
    have hwl : v13.heap.size ≤ we.heap.size := by rw [hwe]; simp [World.size_setCell]
    have OSE := Lib.hid (show OwnSt we w0.heap.size (.slice xa nt' xc) (.slice ya ns' yc) (.slice za nl' zc) s' by rw [hwe]; exact own_put4 HOS.out (fun j _ _ hj => HZO.out j hj) _ _ _ _)
    rw [← hwe]
    refine hK0.out _ _ (fun _ => SSn) (fun _ => ?_)
    have HZE := Lib.hid (show xb < we.heap.size from Nat.lt_of_lt_of_le HZ.out hwl)
    clear hK0 K SS KB HZ ZB HOS hwe hkt d0 d1 d2 d3 df hwl
    have SS := SSn
    clear SSn
    try go_frame
    refine kept_take (i := 11) (d := 27) (v := (.int .i64 0)) rfl rfl (by as_aux_lemma => kernel_rfl) (by as_aux_lemma => kernel_rfl) (by as_aux_lemma => kernel_rfl) (fun _ _ _ h => hpan _ _ _ _ _ h) (Or.inl ⟨by rfl, ?_⟩) SS ?_
    · intro w' hw'
      go_simp
    try go_frame
    have HEND := Lib.hid (show RD2 w.heap.size w w0 lb hm xb i Gs s val tz we from by
      have hn := HN'.out
      have ze := ZE.out
      have ose := OSE.out
      rw [hn.1, hn.2.1, hn.2.2.1] at ze ose
      rw [hn.2.2.2] at ze
      have x1 : E6 xb ⟨1, (i : Int) + 1, out, cnt, low, high⟩ we := (SS xb (Nat.le_refl _)).trans X1.out
      exact ⟨xa, xc, ya, yc, za, zc, s', gH, last', ze, ose, HZL.out.1, HSV.out, HPF.out.1, HPF.out.2.1, HPF.out.2.2, x1.c0.2.1, M1.out.kept (SS hm HLO.out.2.2.2.1), L1.out.kept (SS lb HLO.out.2.2.1), ⟨by have := HZE.out; have := HXW.out; omega, fun j hj hne => (SS j (by have := HXW.out; omega)).trans (KP1.out.kept j hj hne)⟩, KE.out, HKEY.out⟩)
    refine wpAnyE_done (by as_aux_lemma => kernel_rfl) ?_ _
    clear SS
    go_wp2_with fail
    go_meet
    exact ⟨tz, rfl, rfl, HEND⟩
end Go.Proofs.YtfbaenhajlckjaaGreat
