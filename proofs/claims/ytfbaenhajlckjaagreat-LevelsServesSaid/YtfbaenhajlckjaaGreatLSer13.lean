/- Texts put together: LevLayW -/
import Derived.Test.YtfbaenhajlckjaaGreatLSer12
import Derived.Carry
import Derived.Deep.CutRange
import Derived.Lib.MinMax
/- LevelsServes, walked: a piece (serves_lay). -/
set_option linter.unusedVariables false
set_option maxRecDepth 1000000
namespace Go.Proofs.YtfbaenhajlckjaaGreat
open Go.RowKit Go.Maps Go.WideShapes Go.ChangeMaps

set_option maxHeartbeats 40000000 in
/-- A list of keys that holds some: it is laid. -/
theorem serves_lay {qa : Option Addr} {len cap qn qc : Nat} {Gs : List Tn} {fan : Int} {w : World} {w4 : World} {G : Nat} {hb lb : Nat} {u6 u14 u15 u16 u17 u18 u19 u20 u21 u22 u23 u24 u25 u26 u27 u28 u29 u30 u31 u32 u33 u34 u54 u55 u74 u75 u76 u77 u78 u79 u80 u81 u82 u83 u84 u85 u86 u87 u88 u89 u90 u91 u92 u93 u94 u95 u96 u97 u98 u99 u100 u101 u102 u103 u104 u105 u106 u107 u108 u109 u110 u111 u112 u113 u114 u115 u116 u117 u118 u119 u120 u121 u122 u123 u124 u125 u126 u127 u128 u129 u130 u131 u132 u133 u134 u135 u136 u137 u138 u139 u140 u141 u142 u143 u144 u145 u146 u147 u148 u149 u150 u151 u152 u153 u154 u155 u156 u157 u158 u159 u160 u161 u162 u163 u164 u165 u166 u167 u168 u169 u170 u171 u172 u173 u174 u175 u176 u177 u178 u179 u180 u181 u182 u183 u184 u185 u186 u187 u188 u189 u190 u191 u192 u193 u194 u195 u196 u197 u198 u199 u200 u201 u202 u203 u204 u205 u206 u207 u208 u209 u210 u211 u212 u213 u214 u215 u216 u217 u218 u219 u220 u221 u222 u223 u224 u225 u226 u227 u228 u229 u230 u231 u232 u233 u234 u235 u236 u237 u238 u239 u240 u241 u242 u243 u244 u245 u246 u247 u248 u249 u250 u251 u252 u253 u254 u255 u256 u257 u258 u259 u260 u261 u262 u263 u264 u265 u266 u267 u268 u269 u270 u271 u272 u273 u274 u275 u276 u277 u278 u279 u280 u281 u282 u283 : Value} {i : Nat} {tv sv lv : Value} {s : St} {val : Int → List UInt8 → Option Int} {last : List UInt8 → Option Int} {blk : Int → Option Nat} {tb toff : Nat} {ga : Option Addr} {gn gc : Nat} {gL : List (List UInt8)} {w0 : World} {hm : Nat} {w3 : World} {xb : Nat} {Qq_d : Exit → Act → World → Prop} {K_d1 : Act → World → Prop} {J_d Kq_d : Act → World → Prop}
    (hbig : len ≤ 9223372036854775807)
    (hqbig : qn ≤ 9223372036854775807)
    (hmm : ∀ (t : TypeId) (w : World), Sem.run Tryz.prog (Instr.makeMap t none) w = Result.ok (Value.map (some w.heap.size)) (w.alloc (Obj.map #[] 0)))
    (hlen : len ≤ 100)
    (hqn : qn ≤ 50)
    (hlen' : (len : Int) ≤ 100)
    (hqn' : (qn : Int) ≤ 50)
    (HGW : Hid (w.heap.size ≤ G))
    (hi : i ≤ len)
    (hlt : i < len)
    (hlt2 : (i : Int) < (len : Int))
    (h : Hid (InT w (some { block := tb, off := toff }) len cap Gs))
    (HGI : Hid (Gs[i]? = some { a := ga, n := gn, cap := gc, L := gL }))
    (HB : Hid (tb < w.heap.size))
    (HC : Hid (w.cell? { block := tb, off := toff + i } = some (Value.slice ga gn gc)))
    (HIN : Hid (InS w ga gn gc gL))
    (HGN : Hid (gn = gL.length))
    (hK : Hid (Below w.heap.size w w0))
    (HI : Hid (LI w0 G hb lb Gs i tv sv lv s val last blk))
    (hgn : ¬30 < gn)
    (hgn' : (gn : Int) ≤ 30)
    (K3 : Hid (Below w.heap.size w w3))
    (KP3 : Hid (Kp lb w0 w3))
    (M3 : Hid (MS w3 hm 0 fun x => none))
    (X3 : Hid (E6 xb { kind := 1, file := (i : Int) + 1, lev := 0, cnt := 0, low := [], high := [] } w3))
    (HHM : Hid (w0.heap.size ≤ hm ∧ hm < xb))
    (L3 : Hid (MS w3 lb (i * 30) last))
    (HG0 : Hid (lb < w0.heap.size))
    (hwi : IntKind.i64.wrap ((i : Int) + 1) = (i : Int) + 1)
    (c9 : w3.cell? { block := tb, off := toff + i } = some (Value.slice ga gn gc))
    (a_d1 : ∀ (a' : Act) (w' : World), (∃ u12 u14 u15 u16 u17 u18 u19 u20 u21 u22 u23 u24 u25 u50 u51 u52 u53 u54 u55 u56 u57 u58 u59 u60 u61 u62 u63 u64 u65 u66 u67 u68 u69 u70 u71 u72 u73 u74 u75 u76 u77 u78 u79 u80 u81 u82 u83 u84 u85 u86 u87 u88 u89 u90 u91 u92 u93 u94 u95 u96 u97 u98 u99 u100 u101 u102 u103 u104 u105 u106 u107 u108 u109 u110 u111 u112 u113 u114 u115 u116 u117 u118 u119 u120 u121 u122 u123 u124 u125 u126 u127 u128 u129 u130 u131 u132 u133 u134 u135 u136 u137 u138 u139 u140 u141 u142 u143 u144 u145 u146 u147 u148 u149 u150 u151 u152 u153 u154 u155 u156 u157 u158 u159 u160 u161 u162 u163 u164 u165 u166 u167 u168 u169 u170 u171 u172 u173 u174 u175 u176 u177 u178 u179 u180 u181 u182 u183 u184 u185 u186 u187 u188 u189 u190 u191 u192 u193 u194 u195 u196 u197 u198 u199 u200 u201 u202 u203 u204 u205 u206 u207 u208 u209 u210 u211 u212 u213 u214 u215 u216 u217 u218 u219 u220 u221 u222 u223 u224 u225 u226 u227 u228 u229 u230 u231 u232 u233 u234 u235 u236 u237 u238 u239 u240 u241 u242 u243 u244 u245 u246 u247 u248 u249 u250 u251 u252 u253 u254 u255 u256 u257 u258 u259 u260 u261 u262 u263 u264 u265 u266 u267 u268 u269 u270 u271 u272 u273 u274 u275 u276 u277 u278 u279 u280 u281 u282 u283, Hid (RD w.heap.size w w0 lb hm xb i Gs s val u12 w') ∧ a' = { tmps := #[Value.slice (some { block := tb, off := toff }) len cap, Value.int IntKind.u8 fan, Value.slice qa qn qc, undef, undef, undef, u6, Value.pointer (some { block := G, off := 0 }), Value.map (some hb), Value.map (some lb), Value.int IntKind.i64 (i : Int), Value.map (some hm), u12, Value.pointer (some { block := xb, off := 0 }), u14, u15, u16, u17, u18, u19, u20, u21, u22, u23, u24, u25, u26, u27, u28, u29, u30, u31, u32, u33, u34, Value.bool true, Value.bool false, Value.bool false, Value.slice (some { block := tb, off := toff }) len cap, Value.int IntKind.i64 (len : Int), Value.bool (decide (100 < (len : Int))), Value.bool (decide (100 < (len : Int))), Value.bool (decide (100 < (len : Int))), Value.slice qa qn qc, Value.int IntKind.i64 (qn : Int), Value.bool (decide (50 < (qn : Int))), Value.bool (decide (100 < (len : Int)) || decide (50 < (qn : Int))), undef, Value.map (some hb), Value.map (some lb), u50, u51, u52, u53, u54, u55, u56, u57, u58, u59, u60, u61, u62, u63, u64, u65, u66, u67, u68, u69, u70, u71, u72, u73, u74, u75, u76, u77, u78, u79, u80, u81, u82, u83, u84, u85, u86, u87, u88, u89, u90, u91, u92, u93, u94, u95, u96, u97, u98, u99, u100, u101, u102, u103, u104, u105, u106, u107, u108, u109, u110, u111, u112, u113, u114, u115, u116, u117, u118, u119, u120, u121, u122, u123, u124, u125, u126, u127, u128, u129, u130, u131, u132, u133, u134, u135, u136, u137, u138, u139, u140, u141, u142, u143, u144, u145, u146, u147, u148, u149, u150, u151, u152, u153, u154, u155, u156, u157, u158, u159, u160, u161, u162, u163, u164, u165, u166, u167, u168, u169, u170, u171, u172, u173, u174, u175, u176, u177, u178, u179, u180, u181, u182, u183, u184, u185, u186, u187, u188, u189, u190, u191, u192, u193, u194, u195, u196, u197, u198, u199, u200, u201, u202, u203, u204, u205, u206, u207, u208, u209, u210, u211, u212, u213, u214, u215, u216, u217, u218, u219, u220, u221, u222, u223, u224, u225, u226, u227, u228, u229, u230, u231, u232, u233, u234, u235, u236, u237, u238, u239, u240, u241, u242, u243, u244, u245, u246, u247, u248, u249, u250, u251, u252, u253, u254, u255, u256, u257, u258, u259, u260, u261, u262, u263, u264, u265, u266, u267, u268, u269, u270, u271, u272, u273, u274, u275, u276, u277, u278, u279, u280, u281, u282, u283], defers := [] }) → J_d a' w')
    (a_d : ∀ (a' : Act) (w' : World), Met J_d a' w' → Kq_d a' w')
    (hgp : 0 < gn)
    (hgp' : 0 < (gn : Int))
    (hpan : ∀ x (a : Act) dd vv w, Qq_d (Exit.panic x) (a.put dd vv) w → Qq_d (Exit.panic x) a w)
    {cc : Code} (hcc : cc = codeLay) :
    Code.wp Tryz.prog cc (Exit.then Kq_d (Exit.inBlock 1 (Exit.then K_d1 Qq_d))) { tmps := #[Value.slice (some { block := tb, off := toff }) len cap, Value.int IntKind.u8 fan, Value.slice qa qn qc, undef, undef, undef, u6, Value.pointer (some { block := G, off := 0 }), Value.map (some hb), Value.map (some lb), Value.int IntKind.i64 (i : Int), Value.map (some hm), Value.slice none 0 0, Value.pointer (some { block := xb, off := 0 }), u14, u15, u16, u17, u18, u19, u20, u21, u22, u23, u24, u25, u26, u27, u28, u29, u30, u31, u32, u33, u34, Value.bool true, Value.bool false, Value.bool false, Value.slice (some { block := tb, off := toff }) len cap, Value.int IntKind.i64 (len : Int), Value.bool (decide (100 < (len : Int))), Value.bool (decide (100 < (len : Int))), Value.bool (decide (100 < (len : Int))), Value.slice qa qn qc, Value.int IntKind.i64 (qn : Int), Value.bool (decide (50 < (qn : Int))), Value.bool (decide (100 < (len : Int)) || decide (50 < (qn : Int))), undef, Value.map (some hb), Value.map (some lb), Value.int IntKind.i64 (i : Int), Value.slice (some { block := tb, off := toff }) len cap, Value.int IntKind.i64 (len : Int), Value.bool true, u54, u55, Value.slice (some { block := tb, off := toff }) len cap, Value.int IntKind.i64 (i : Int), Value.pointer (some { block := tb, off := toff + i }), Value.pointer (some { block := tb, off := toff + i }), Value.slice ga gn gc, Value.int IntKind.i64 (gn : Int), Value.bool (decide (30 < (gn : Int))), Value.map (some hm), Value.int IntKind.i64 (i : Int), Value.int IntKind.i64 ((i : Int) + 1), Value.agg #[Value.int IntKind.i64 1, Value.int IntKind.i64 ((i : Int) + 1), Value.int IntKind.i64 0, Value.int IntKind.i64 0, Value.string { data := #[] }, Value.string { data := #[] }], Value.slice (some { block := tb, off := toff }) len cap, Value.int IntKind.i64 (i : Int), Value.pointer (some { block := tb, off := toff + i }), Value.pointer (some { block := tb, off := toff + i }), Value.slice ga gn gc, Value.int IntKind.i64 (gn : Int), Value.bool (decide (0 < gn)), u74, u75, u76, u77, u78, u79, u80, u81, u82, u83, u84, u85, u86, u87, u88, u89, u90, u91, u92, u93, u94, u95, u96, u97, u98, u99, u100, u101, u102, u103, u104, u105, u106, u107, u108, u109, u110, u111, u112, u113, u114, u115, u116, u117, u118, u119, u120, u121, u122, u123, u124, u125, u126, u127, u128, u129, u130, u131, u132, u133, u134, u135, u136, u137, u138, u139, u140, u141, u142, u143, u144, u145, u146, u147, u148, u149, u150, u151, u152, u153, u154, u155, u156, u157, u158, u159, u160, u161, u162, u163, u164, u165, u166, u167, u168, u169, u170, u171, u172, u173, u174, u175, u176, u177, u178, u179, u180, u181, u182, u183, u184, u185, u186, u187, u188, u189, u190, u191, u192, u193, u194, u195, u196, u197, u198, u199, u200, u201, u202, u203, u204, u205, u206, u207, u208, u209, u210, u211, u212, u213, u214, u215, u216, u217, u218, u219, u220, u221, u222, u223, u224, u225, u226, u227, u228, u229, u230, u231, u232, u233, u234, u235, u236, u237, u238, u239, u240, u241, u242, u243, u244, u245, u246, u247, u248, u249, u250, u251, u252, u253, u254, u255, u256, u257, u258, u259, u260, u261, u262, u263, u264, u265, u266, u267, u268, u269, u270, u271, u272, u273, u274, u275, u276, u277, u278, u279, u280, u281, u282, u283], defers := [] } w3 := by
  subst hcc
  conv => arg 2; whnf
  obtain ⟨kb, ko, y, rfl, hy, hkb, hkc, hyl⟩ := HIN.out.at hgp
  have HY := Lib.hid hy
  have HKB := Lib.hid hkb
  have ky : w3.cell? ⟨kb, ko, none⟩ = some (.string (bs y)) := by rw [K3.out.cell (p := ⟨kb, ko, none⟩) hkb]; simpa using hkc
  have HT15 := Lib.hid (show tb < w3.heap.size ∧ tb ≠ xb ∧ kb < w3.heap.size ∧ kb ≠ xb by
    have h1 := HB.out
    have h2 := hK.out.size
    have h3 := KP3.out.size
    have h4 := HHM.out
    omega)
  clear hy hkb hkc
  go_upto_region 15 with (fail)
  refine wp_region_kept (fun W => ∀ j, j < w3.heap.size → j ≠ xb → W.heap[j]? = w3.heap[j]?) (by as_aux_lemma => kernel_rfl) ?_
  change wpAnyE _ _ _ _ _ _ _ _ _ w3.drew
  have hS : Below w3.heap.size w3 w3.drew := (Below.refl _ _).drew
  have hSS : ∀ j, j < w3.heap.size → j ≠ xb → w3.drew.heap[j]? = w3.heap[j]? := fun j hj _ => hS.block j hj
  generalize w3.drew = w4 at *
  refine kept_take (i := 0) (d := 74) (v := (.slice (some ⟨tb, toff, none⟩) len cap)) rfl rfl (by as_aux_lemma => kernel_rfl) (by as_aux_lemma => kernel_rfl) (by as_aux_lemma => kernel_rfl) (fun _ _ _ h => hpan _ _ _ _ _ h) (Or.inl ⟨by rfl, ?_⟩) hSS ?_
  · intro w' hw'
    go_simp
  try go_frame
  refine kept_take (i := 1) (d := 75) (v := (.int .i64 (i : Int))) rfl rfl (by as_aux_lemma => kernel_rfl) (by as_aux_lemma => kernel_rfl) (by as_aux_lemma => kernel_rfl) (fun _ _ _ h => hpan _ _ _ _ _ h) (Or.inl ⟨by rfl, ?_⟩) hSS ?_
  · intro w' hw'
    go_simp
  try go_frame
  refine kept_take (i := 2) (d := 76) (v := (.pointer (some ⟨tb, toff + i, none⟩))) rfl rfl (by as_aux_lemma => kernel_rfl) (by as_aux_lemma => kernel_rfl) (by as_aux_lemma => kernel_rfl) (fun _ _ _ h => hpan _ _ _ _ _ h) (Or.inl ⟨by rfl, ?_⟩) hSS ?_
  · intro w' hw'
    go_simp
  try go_frame
  refine kept_take (i := 3) (d := 77) (v := (.pointer (some ⟨tb, toff + i, none⟩))) rfl rfl (by as_aux_lemma => kernel_rfl) (by as_aux_lemma => kernel_rfl) (by as_aux_lemma => kernel_rfl) (fun _ _ _ h => hpan _ _ _ _ _ h) (Or.inl ⟨by rfl, ?_⟩) hSS ?_
  · intro w' hw'
    go_simp
  try go_frame
  refine kept_take (i := 4) (d := 78) (v := (.slice (some ⟨kb, ko, none⟩) gn gc)) rfl rfl (by as_aux_lemma => kernel_rfl) (by as_aux_lemma => kernel_rfl) (by as_aux_lemma => kernel_rfl) (fun _ _ _ h => hpan _ _ _ _ _ h) (Or.inl ⟨by rfl, ?_⟩) hSS ?_
  · intro w' hw'
    have z1 : w'.cell? ⟨tb, toff + i, none⟩ = some (.slice (some ⟨kb, ko, none⟩) gn gc) := by have := hw' tb HT15.out.1 HT15.out.2.1; simp only [World.cell?, this]; exact c9
    go_simp
  try go_frame
  refine kept_take (i := 5) (d := 79) (v := (.pointer (some ⟨kb, ko, none⟩))) rfl rfl (by as_aux_lemma => kernel_rfl) (by as_aux_lemma => kernel_rfl) (by as_aux_lemma => kernel_rfl) (fun _ _ _ h => hpan _ _ _ _ _ h) (Or.inl ⟨by rfl, ?_⟩) hSS ?_
  · intro w' hw'
    go_simp
  try go_frame
  refine kept_take (i := 6) (d := 80) (v := (.string (bs y))) rfl rfl (by as_aux_lemma => kernel_rfl) (by as_aux_lemma => kernel_rfl) (by as_aux_lemma => kernel_rfl) (fun _ _ _ h => hpan _ _ _ _ _ h) (Or.inl ⟨by rfl, ?_⟩) hSS ?_
  · intro w' hw'
    have z1 : w'.cell? ⟨kb, ko, none⟩ = some (.string (bs y)) := by have := hw' kb HT15.out.2.2.1 HT15.out.2.2.2; simp only [World.cell?, this]; exact ky
    go_simp
  try go_frame
  refine kept_take (i := 7) (d := 81) (v := (.slice (some ⟨tb, toff, none⟩) len cap)) rfl rfl (by as_aux_lemma => kernel_rfl) (by as_aux_lemma => kernel_rfl) (by as_aux_lemma => kernel_rfl) (fun _ _ _ h => hpan _ _ _ _ _ h) (Or.inl ⟨by rfl, ?_⟩) hSS ?_
  · intro w' hw'
    go_simp
  try go_frame
  refine kept_take (i := 8) (d := 82) (v := (.int .i64 (i : Int))) rfl rfl (by as_aux_lemma => kernel_rfl) (by as_aux_lemma => kernel_rfl) (by as_aux_lemma => kernel_rfl) (fun _ _ _ h => hpan _ _ _ _ _ h) (Or.inl ⟨by rfl, ?_⟩) hSS ?_
  · intro w' hw'
    go_simp
  try go_frame
  refine kept_take (i := 9) (d := 83) (v := (.pointer (some ⟨tb, toff + i, none⟩))) rfl rfl (by as_aux_lemma => kernel_rfl) (by as_aux_lemma => kernel_rfl) (by as_aux_lemma => kernel_rfl) (fun _ _ _ h => hpan _ _ _ _ _ h) (Or.inl ⟨by rfl, ?_⟩) hSS ?_
  · intro w' hw'
    go_simp
  try go_frame
  refine kept_take (i := 10) (d := 84) (v := (.pointer (some ⟨tb, toff + i, none⟩))) rfl rfl (by as_aux_lemma => kernel_rfl) (by as_aux_lemma => kernel_rfl) (by as_aux_lemma => kernel_rfl) (fun _ _ _ h => hpan _ _ _ _ _ h) (Or.inl ⟨by rfl, ?_⟩) hSS ?_
  · intro w' hw'
    go_simp
  try go_frame
  refine kept_take (i := 11) (d := 85) (v := (.slice (some ⟨kb, ko, none⟩) gn gc)) rfl rfl (by as_aux_lemma => kernel_rfl) (by as_aux_lemma => kernel_rfl) (by as_aux_lemma => kernel_rfl) (fun _ _ _ h => hpan _ _ _ _ _ h) (Or.inl ⟨by rfl, ?_⟩) hSS ?_
  · intro w' hw'
    have z1 : w'.cell? ⟨tb, toff + i, none⟩ = some (.slice (some ⟨kb, ko, none⟩) gn gc) := by have := hw' tb HT15.out.1 HT15.out.2.1; simp only [World.cell?, this]; exact c9
    go_simp
  try go_frame
  refine kept_take (i := 12) (d := 86) (v := (.pointer (some ⟨kb, ko, none⟩))) rfl rfl (by as_aux_lemma => kernel_rfl) (by as_aux_lemma => kernel_rfl) (by as_aux_lemma => kernel_rfl) (fun _ _ _ h => hpan _ _ _ _ _ h) (Or.inl ⟨by rfl, ?_⟩) hSS ?_
  · intro w' hw'
    go_simp
  try go_frame
  refine kept_take (i := 13) (d := 87) (v := (.string (bs y))) rfl rfl (by as_aux_lemma => kernel_rfl) (by as_aux_lemma => kernel_rfl) (by as_aux_lemma => kernel_rfl) (fun _ _ _ h => hpan _ _ _ _ _ h) (Or.inl ⟨by rfl, ?_⟩) hSS ?_
  · intro w' hw'
    have z1 : w'.cell? ⟨kb, ko, none⟩ = some (.string (bs y)) := by have := hw' kb HT15.out.2.2.1 HT15.out.2.2.2; simp only [World.cell?, this]; exact ky
    go_simp
  try go_frame
  refine kept_take (i := 14) (d := 88) (v := (.pointer (some ⟨xb, 4, none⟩))) rfl rfl (by as_aux_lemma => kernel_rfl) (by as_aux_lemma => kernel_rfl) (by as_aux_lemma => kernel_rfl) (fun _ _ _ h => hpan _ _ _ _ _ h) (Or.inl ⟨by rfl, ?_⟩) hSS ?_
  · intro w' hw'
    go_simp
  try go_frame
  have X4 := Lib.hid (X3.out.below hS)
  obtain ⟨d0, d1, d2, d3, d4, d5⟩ := X4.out.c0
  have df := X4.out.free
  refine wpAnyE_ready (rs := [15]) (by as_aux_lemma => kernel_rfl) (by simp) (AllE.cons rfl (fun K hK0 => ?_) AllE.nil)
  go_simp
  have X5 := Lib.hid (X4.out.put4 y)
  refine hK0.out _ _ (fun _ j hj hne => (heap_set_other hne _).trans (hSS j hj hne)) (fun _ => ?_)
  clear hK0 K d0 d1 d2 d3 d4 d5 df
  try go_frame
  have hSS5 : ∀ j, j < w3.heap.size → j ≠ xb → (w4.setCell ⟨xb, 4, none⟩ (.string (bs y))).heap[j]? = w3.heap[j]? := fun j hj hne => (heap_set_other hne _).trans (hSS j hj hne)
  refine kept_take (i := 16) (d := 89) (v := (.pointer (some ⟨xb, 5, none⟩))) rfl rfl (by as_aux_lemma => kernel_rfl) (by as_aux_lemma => kernel_rfl) (by as_aux_lemma => kernel_rfl) (fun _ _ _ h => hpan _ _ _ _ _ h) (Or.inl ⟨by rfl, ?_⟩) hSS5 ?_
  · intro w' hw'
    go_simp
  try go_frame
  obtain ⟨d0, d1, d2, d3, d4, d5⟩ := X5.out.c0
  have df := X5.out.free
  refine wpAnyE_ready (rs := [17]) (by as_aux_lemma => kernel_rfl) (by simp) (AllE.cons rfl (fun K hK0 => ?_) AllE.nil)
  go_simp
  have X6 := Lib.hid (X5.out.put5 y)
  obtain ⟨w6, hw6⟩ : ∃ w6, w6 = (w4.setCell ⟨xb, 4, none⟩ (.string (bs y))).setCell ⟨xb, 5, none⟩ (.string (bs y)) := ⟨_, rfl⟩
  refine hK0.out _ _ (fun _ j hj hne => (heap_set_other hne _).trans ((heap_set_other hne _).trans (hSS j hj hne))) (fun _ => ?_)
  clear hK0 K d0 d1 d2 d3 d4 d5 df
  try go_frame
  rw [← hw6] at X6 ⊢
  have HXB3 := Lib.hid (show w0.heap.size ≤ xb ∧ w.heap.size ≤ xb by have := HHM.out; have := hK.out.size; omega)
  have KP6 := Lib.hid (show Kp lb w0 w6 by rw [hw6]; exact ((KP3.out.below hS).set HXB3.out.1 _).set HXB3.out.1 _)
  have K6 := Lib.hid (show Below w.heap.size w w6 by rw [hw6]; exact ((K3.out.trans (hS.mono K3.out.size)).setCell (p := ⟨xb, 4, none⟩) HXB3.out.2 _).setCell (p := ⟨xb, 5, none⟩) HXB3.out.2 _)
  have M6 := Lib.hid (show MS w6 hm 0 (laidG i gL 0 (fun _ => none)) by
    rw [laid_zero, hw6]
    exact (M3.out.below hS).kept ((heap_set_other (by have := HHM.out; omega) _).trans (heap_set_other (by have := HHM.out; omega) _)))
  have L6 := Lib.hid (show MS w6 lb (i * 30 + 0) (laidG i gL 0 last) by
    rw [laid_zero, hw6]
    exact ((L3.out.below hS).kept ((heap_set_other (by have := HHM.out; have := HG0.out; omega) _).trans (heap_set_other (by have := HHM.out; have := HG0.out; omega) _))).mono (show i * 30 ≤ i * 30 + 0 by omega))
  have Y6 := Lib.hid (show E6 xb ⟨1, (i : Int) + 1, 0, 0, lowS gL 0, highS gL 0⟩ w6 by
    have e : gL.headD [] = y := by
      cases hgl : gL with
      | nil => rw [hgl] at HY; cases HY.out
      | cons a b => have := HY.out; rw [hgl] at this; simpa using this
    have e1 : lowS gL 0 = y := by unfold lowS; rw [List.take_zero]; exact e
    have e2 : highS gL 0 = y := by unfold highS; rw [List.take_zero]; exact e
    rw [e1, e2]; exact X6.out)
  refine wpAnyE_done (by as_aux_lemma => kernel_rfl) ?_ _
  clear X3 X4 X5 X6 M3 L3 hS hSS hSS5 c9 ky hw6 HY
  go_wp2_with fail
  go_loopw [14] (fun kv wr => ∃ k : Nat, k ≤ gn ∧ kv = .int .i64 (k : Int) ∧ Hid (E6 xb ⟨1, (i : Int) + 1, 0, 0, lowS gL k, highS gL k⟩ wr) ∧ Hid (MS wr hm k (laidG i gL k (fun _ => none))) ∧ Hid (MS wr lb (i * 30 + k) (laidG i gL k last)) ∧ Hid (Kp lb w0 wr) ∧ Hid (Below w.heap.size w wr)) (fun kv wr => gn - (intOf kv).toNat)
  case atStart => exact ⟨0, Nat.zero_le _, rfl, Y6, M6, L6, KP6, K6⟩
  case round =>
    clear Y6 M6 L6 KP6 K6
    obtain ⟨k, hk, rfl, hX, hM, hLL, hKP, hKK⟩ := hrel
    have c9 : wr.cell? ⟨tb, toff + i, none⟩ = some (.slice (some ⟨kb, ko, none⟩) gn gc) := by rw [hKK.out.cell (p := ⟨tb, toff + i, none⟩) HB.out]; exact HC.out
    by_cases hkl : k < gn
    · have hkl2 : (k : Int) < (gn : Int) := by omega
      obtain ⟨kb', ko', z, he, hz, hkb, hkc, hzl⟩ := HIN.out.at hkl
      obtain ⟨rfl, rfl⟩ : kb = kb' ∧ ko = ko' := by injection he with he; injection he with h1 h2; exact ⟨h1, h2⟩
      have kz : wr.cell? ⟨kb, ko + k, none⟩ = some (.string (bs z)) := by rw [hKK.out.cell (p := ⟨kb, ko + k, none⟩) hkb]; exact hkc
      have HKZ := Lib.hid (key_str hzl)
      have HN1 := Lib.hid (laid_next (i := (i : Int)) (old := fun _ => none) hz)
      have HN2 := Lib.hid (laid_next (i := (i : Int)) (old := last) hz)
      have HN3 := Lib.hid (lowS_next hz)
      have HN4 := Lib.hid (highS_next hz)
      obtain ⟨D1, hD1, hD1g⟩ := hM.out
      obtain ⟨D2, hD2, hD2g⟩ := hLL.out
      have HD1 := Lib.hid (And.intro hD1 hD1g)
      have HD2 := Lib.hid (And.intro hD2 hD2g)
      have HE0 := Lib.hid (show plainElem (H := Unit) Tryz.prog 3 (.int .i64 (i : Int)) = some (.lit (.int .i64 (i : Int)), []) from plainElem_int Tryz.underlying3 (wf_i64 (by omega) (by omega)))
      have hmx1 : k < maxLen := by unfold maxLen; omega
      have hmx2 : i * 30 + k < maxLen := by unfold maxLen; omega
      clear he hz hkb hkc hD1 hD1g hD2 hD2g hM hLL
      go_wp2_with (at_mapUpdate; refine wpList_mapUpdate_own _ rfl _ _ _ 89 rfl 9 3 keyedS Tryz.underlying89 _ hm _ _ rfl HD1.out.1 hmx1 _ _ _ rfl rfl HKZ.out _ [] HE0.out ?_)
      intro w7 hown7 hgrow7
      have M7 := Lib.hid (MS.put HD1.out.1 HD1.out.2 hown7)
      have G7 := Lib.hid hgrow7
      have HD27 := Lib.hid (show w7.ownsMap Tryz.prog 9 (plainElem Tryz.prog 3) lb (i * 30 + k) D2 from HD2.out.1.kept hgrow7 (by intro e; injection e with e; have := HHM.out; have := HG0.out; omega))
      clear hown7 hgrow7
      go_wp2_with (at_mapUpdate; refine wpList_mapUpdate_own _ rfl _ _ _ 89 rfl 9 3 keyedS Tryz.underlying89 _ lb _ _ rfl HD27.out hmx2 _ _ _ rfl rfl HKZ.out _ [] HE0.out ?_)
      intro w8 hown8 hgrow8
      have L8 := Lib.hid ((MS.put HD27.out HD2.out.2 hown8).mono (show i * 30 + k + 1 ≤ i * 30 + (k + 1) by omega))
      have M8 := Lib.hid (M7.out.kept (hgrow8.block hm M7.out.lt (by intro e; injection e with e; have := HHM.out; have := HG0.out; omega)))
      have X8 := Lib.hid (hX.out.kept ((hgrow8.block xb (Nat.lt_of_lt_of_le (heap_lt hX.out) G7.out.size) (by intro e; injection e with e; have := HHM.out; have := HG0.out; omega)).trans (G7.out.block xb (heap_lt hX.out) (by intro e; injection e with e; have := HHM.out; omega))))
      have KP8 := Lib.hid ((hKP.out.grown G7.out (.inr HHM.out.1)).grown hgrow8 (.inl rfl))
      have K8 := Lib.hid ((hKK.out.grown G7.out (by have := hKK.out.size; exact this) (fun j hj => by injection hj with hj; have := HHM.out; have := hK.out.size; omega)).grown hgrow8 (by have := hKK.out.size; have := G7.out.size; omega) (fun j hj => by injection hj with hj; have := HI.out.o1; have := HI.out.o2; have := HGW.out; omega))
      clear hown8 hgrow8 G7 HD27 M7 hX c9 kz
      have hmn := run_minB (lowS gL k) z
      have hmx := run_maxB (highS gL k) z
      obtain ⟨l1, hl1⟩ : ∃ l, l = minB (lowS gL k) z := ⟨_, rfl⟩
      obtain ⟨h1, hh1⟩ : ∃ l, l = maxB (highS gL k) z := ⟨_, rfl⟩
      rw [← hl1] at hmn
      rw [← hh1] at hmx
      have HL1 := Lib.hid (show l1 = lowS gL (k + 1) ∧ h1 = highS gL (k + 1) from ⟨by rw [HN3.out, hl1], by rw [HN4.out, hh1]⟩)
      obtain ⟨l0, hl0⟩ : ∃ l, l = lowS gL k := ⟨_, rfl⟩
      obtain ⟨h0, hh0⟩ : ∃ l, l = highS gL k := ⟨_, rfl⟩
      rw [← hl0] at hmn X8
      rw [← hh0] at hmx X8
      clear hl0 hh0 hl1 hh1
      obtain ⟨d0, d1, d2, d3, d4, d5⟩ := X8.out.c0
      have df := X8.out.free
      go_wp2_with fail
      have X9 := Lib.hid ((X8.out.put4 l1).put5 h1)
      have HXB9 := Lib.hid (show w0.heap.size ≤ xb ∧ w.heap.size ≤ xb by have := HHM.out; have := hK.out.size; omega)
      have KP9 := Lib.hid ((KP8.out.set (o := 4) HXB9.out.1 (.string (bs l1))).set (o := 5) HXB9.out.1 (.string (bs h1)))
      have K9 := Lib.hid ((K8.out.setCell (p := ⟨xb, 4, none⟩) HXB9.out.2 (.string (bs l1))).setCell (p := ⟨xb, 5, none⟩) HXB9.out.2 (.string (bs h1)))
      have M9 := Lib.hid (M8.out.kept (w' := (w8.setCell ⟨xb, 4, none⟩ (.string (bs l1))).setCell ⟨xb, 5, none⟩ (.string (bs h1))) ((heap_set_other (by have := HHM.out; omega) _).trans (heap_set_other (by have := HHM.out; omega) _)))
      have L9 := Lib.hid (L8.out.kept (w' := (w8.setCell ⟨xb, 4, none⟩ (.string (bs l1))).setCell ⟨xb, 5, none⟩ (.string (bs h1))) ((heap_set_other (by have := HHM.out; have := HG0.out; omega) _).trans (heap_set_other (by have := HHM.out; have := HG0.out; omega) _)))
      rw [HN1.out] at M9
      rw [HN2.out] at L9
      clear d0 d1 d2 d3 d4 d5 df hmn hmx
      go_roundw
      case rel => exact ⟨k + 1, by omega, by go_num, by rw [← HL1.out.1, ← HL1.out.2]; exact X9, M9, L9, KP9, K9⟩
      case measure => simp [intOf]; omega
    · have hge : (gn : Int) ≤ (k : Int) := by omega
      have HEND := Lib.hid (show RD w.heap.size w w0 lb hm xb i Gs s val (.slice none 0 0) wr from by
        have hkn : k = gn := by omega
        have htk : gL.take k = gL := List.take_of_length_le (by have := HGN.out; omega)
        have hne : gL ≠ [] := fun e => by have := HGN.out; rw [e] at this; simp at this; omega
        have hlow := lowS_le (gL.take k) (gL.headD [])
        have hhigh := highS_ge (gL.take k) (gL.headD [])
        have hla := fun cnt (hc : 1 ≤ cnt) => HI.out.sr.lay (by omega) (cnt := cnt) hc (low := lowS gL k) (high := highS gL k) (g := laidG i gL k (fun _ => none)) (by
          have q1 : ltB (gL.headD []) (lowS gL k) = false := hlow.1
          have q2 : ltB (highS gL k) (gL.headD []) = false := hhigh.1
          exact ltB_ntrans q2 q1) (fun x v hv => by
          unfold laidG at hv
          split at hv
          · rename_i hx
            exact ⟨hlow.2 x hx, hhigh.2 x hx⟩
          · cases hv)
        refine ⟨none, 0, 0, [], 0, lowS gL k, highS gL k, laidG i gL k (fun _ => none), laidG i gL k last, rfl, rfl, by omega, (fun x hx => by cases hx), OffRow.nil _ _ _ _, hX.out, hM.out.mono (by omega), hLL.out.mono (by omega), hKP.out, hKK.out, fun cnt hc => ⟨_, (hla cnt hc).1, ?_⟩, fun x v hv => ?_⟩
        · have h2 := (hla cnt hc).2
          refine ⟨h2.ok, h2.few, h2.key, fun x => ?_⟩
          rw [h2.first x]
          unfold laidG
          split
          · rename_i e1 e2; split at e2; (rename_i hx; injection e2 with e2; rw [if_pos hx, e2]); (cases e2)
          · rename_i e1 e2; split at e2; (cases e2); (rename_i hx; rw [if_neg hx])
        · unfold laidG at hv
          split at hv
          · rename_i hx
            exact ⟨i, _, by omega, HGI.out, by rw [htk] at hx; exact hx⟩
          · cases hv)
      clear hX hM hLL hKP
      go_wp2_with fail
      go_meet
      exact HEND
end Go.Proofs.YtfbaenhajlckjaaGreat
