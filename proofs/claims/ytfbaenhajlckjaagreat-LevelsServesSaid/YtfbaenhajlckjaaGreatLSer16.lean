/- Texts put together: LevAskW, LevRestW -/
import Derived.Test.YtfbaenhajlckjaaGreatLSer12
import Derived.Carry
import Derived.Deep.CutRange
import Derived.Lib.MinMax
import Derived.Test.YtfbaenhajlckjaaGreatLSer15
/- LevelsServes, walked: a piece (serves_ask). -/
set_option linter.unusedVariables false
set_option maxRecDepth 1000000
namespace Go.Proofs.YtfbaenhajlckjaaGreat
open Go.RowKit Go.Maps Go.WideShapes Go.ChangeMaps

set_option maxHeartbeats 40000000 in
/-- A key that is asked for. -/
theorem serves_ask {qa : Option Addr} {len cap qn qc : Nat} {Gs : List Tn} {Q : List (List UInt8)} {fan : Int} {w : World} {G : Nat} {hb lb : Nat} {i : Nat} {s : St} {val : Int → List UInt8 → Option Int} {blk : Int → Option Nat} {tb toff : Nat} {gn : Nat} {hm : Nat} {xb : Nat} {Qq_d : Exit → Act → World → Prop} {K_d : Act → World → Prop} {u14 u15 u16 u17 u18 u19 u20 u21 u22 u23 u24 u25 : Value} {ea : Option Addr} {en ec : Nat} {u50 u51 u52 u53 u54 u55 u56 u57 u58 u59 u60 u61 u62 u63 u64 u65 u66 u67 u68 u69 u70 u71 u72 u73 u74 u75 u76 u77 u78 u79 u80 u81 u82 u83 u84 u85 u86 u87 u88 u89 u90 u91 u92 u93 u94 u95 u96 u97 u98 u99 u100 u101 u102 u103 u104 u105 u106 u107 u108 u109 u110 u111 u112 u113 u114 u115 u116 u117 u118 u119 u120 u121 u122 u123 u124 u125 u126 u127 u128 u129 u130 u131 u132 u133 u134 u135 u136 u137 u138 u139 u140 u141 u142 u143 u144 u145 u146 u147 u148 u149 u150 u151 u152 u153 u154 u155 u156 u157 u158 u159 u160 u161 u162 u163 u164 u165 u166 u167 u168 u169 u170 u171 u172 u173 u174 u175 u176 u177 u178 u179 u180 u181 u182 u183 u184 u185 u186 u187 u188 u189 u190 u191 u192 u193 u194 u195 u196 u197 u198 u199 u200 u201 u202 u203 u204 u205 u206 u207 u208 u209 u210 u211 u212 u213 u214 u215 u216 u217 u218 u219 u220 u221 u222 : Value} {tb2 : Nat} {xa : Option Addr} {xc : Nat} {ya : Option Addr} {yc : Nat} {za : Option Addr} {zc : Nat} {s2 : St} {gH2 last2 : List UInt8 → Option Int} {nt2 ns2 nl2 : Nat} {nx2 : Int} {w7 : World} {wr : World} {u6 u29 u30 u31 u32 u33 u34 u230 u231 u232 u233 u234 u235 u236 u237 u238 u239 u240 u241 u242 u243 u244 u245 u246 u247 u248 u249 u250 u251 u252 u253 u254 u255 u256 u257 u258 u259 u260 u261 u262 u263 u264 u265 u266 u267 u268 u269 u270 u271 u272 u273 u274 u275 u276 u277 u278 u279 u280 u281 u282 u283 : Value} {k : Nat}
    (hq : Hid (InS w qa qn qc Q))
    (hbig : len ≤ 9223372036854775807)
    (hqbig : qn ≤ 9223372036854775807)
    (hmm : ∀ (t : TypeId) (w : World), Sem.run Tryz.prog (Instr.makeMap t none) w = Result.ok (Value.map (some w.heap.size)) (w.alloc (Obj.map #[] 0)))
    (hlen : len ≤ 100)
    (hqn : qn ≤ 50)
    (hlen' : (len : Int) ≤ 100)
    (hqn' : (qn : Int) ≤ 50)
    (hi : i ≤ len)
    (hlt : i < len)
    (hlt2 : (i : Int) < (len : Int))
    (h : Hid (InT w (some { block := tb, off := toff }) len cap Gs))
    (hgn : ¬30 < gn)
    (hgn' : (gn : Int) ≤ 30)
    (hwi : IntKind.i64.wrap ((i : Int) + 1) = (i : Int) + 1)
    (hen9 : en ≤ 100)
    (i0 : TypeInfo)
    (HPS : Hid (Serve s2 ((i : Int) + 1) (setV val ((i : Int) + 1) gH2) last2 ∧ (s2.stos = s.stos ∧ s2.logs = s.logs ∧ s2.next = s.next) ∧ (∀ (t : Tb), t ∈ s2.tabs → t.file = (i : Int) + 1 ∨ t ∈ s.tabs) ∧ s2.tabs.length ≤ s.tabs.length + 1 ∧ ∀ (k : List UInt8) (v : Int), gH2 k = some v → ∃ j g, j < i + 1 ∧ Gs[j]? = some g ∧ k ∈ g.L))
    (HN2 : Hid (nt2 = s2.tabs.length ∧ ns2 = s2.stos.length ∧ nl2 = s2.logs.length ∧ nx2 = s2.next))
    (DO : DataW Unit)
    (hmx1 : i < maxLen)
    (hne0 : (0 != 0) = false)
    (K7 : Hid (Below w.heap.size w w7))
    (LI7 : Hid (LI w7 G hb lb Gs (i + 1) (Value.slice xa nt2 xc) (Value.slice ya ns2 yc) (Value.slice za nl2 zc) s2 (setV val ((i : Int) + 1) gH2) last2 (putO blk ((i : Int) + 1) hm)))
    (HTB : Hid (nt2 ≤ 101))
    (hk : k ≤ qn)
    (hKr : Hid (Below w7.heap.size w7 wr))
    (hkl : k < qn)
    (hkl2 : (k : Int) < (qn : Int))
    (hpan : ∀ x (a : Act) dd vv w, Qq_d (Exit.panic x) (a.put dd vv) w → Qq_d (Exit.panic x) a w)
    {cc : Code} (hcc : cc = codeAsk) :
    Code.wp Tryz.prog cc (Exit.then (fun a' w' => (∃ u6 u28 u29 u30 u31 u32 u33 u34 u230 u231 u232 u233 u234 u235 u236 u237 u238 u239 u240 u241 u242 u243 u244 u245 u246 u247 u248 u249 u250 u251 u252 u253 u254 u255 u256 u257 u258 u259 u260 u261 u262 u263 u264 u265 u266 u267 u268 u269 u270 u271 u272 u273 u274 u275 u276 u277 u278 u279 u280 u281 u282 u283, (∃ k, k ≤ qn ∧ u28 = Value.int IntKind.i64 (k : Int) ∧ Hid (Below w7.heap.size w7 w')) ∧ a' = { tmps := #[Value.slice (some { block := tb, off := toff }) len cap, Value.int IntKind.u8 fan, Value.slice qa qn qc, undef, undef, undef, u6, Value.pointer (some { block := G, off := 0 }), Value.map (some hb), Value.map (some lb), Value.int IntKind.i64 (i : Int), Value.map (some hm), Value.slice ea en ec, Value.pointer (some { block := xb, off := 0 }), u14, u15, u16, u17, u18, u19, u20, u21, u22, u23, u24, u25, Value.pointer (some { block := tb2, off := 0 }), Value.int IntKind.i64 0, u28, u29, u30, u31, u32, u33, u34, Value.bool true, Value.bool false, Value.bool false, Value.slice (some { block := tb, off := toff }) len cap, Value.int IntKind.i64 (len : Int), Value.bool (decide (100 < (len : Int))), Value.bool (decide (100 < (len : Int))), Value.bool (decide (100 < (len : Int))), Value.slice qa qn qc, Value.int IntKind.i64 (qn : Int), Value.bool (decide (50 < (qn : Int))), Value.bool (decide (100 < (len : Int)) || decide (50 < (qn : Int))), undef, Value.map (some hb), Value.map (some lb), u50, u51, u52, u53, u54, u55, u56, u57, u58, u59, u60, u61, u62, u63, u64, u65, u66, u67, u68, u69, u70, u71, u72, u73, u74, u75, u76, u77, u78, u79, u80, u81, u82, u83, u84, u85, u86, u87, u88, u89, u90, u91, u92, u93, u94, u95, u96, u97, u98, u99, u100, u101, u102, u103, u104, u105, u106, u107, u108, u109, u110, u111, u112, u113, u114, u115, u116, u117, u118, u119, u120, u121, u122, u123, u124, u125, u126, u127, u128, u129, u130, u131, u132, u133, u134, u135, u136, u137, u138, u139, u140, u141, u142, u143, u144, u145, u146, u147, u148, u149, u150, u151, u152, u153, u154, u155, u156, u157, u158, u159, u160, u161, u162, u163, u164, u165, u166, u167, u168, u169, u170, u171, u172, u173, u174, u175, u176, u177, u178, u179, u180, u181, u182, u183, u184, u185, u186, u187, u188, u189, u190, u191, u192, u193, u194, u195, u196, u197, u198, u199, u200, u201, u202, u203, u204, u205, u206, u207, u208, u209, u210, u211, u212, u213, u214, u215, u216, u217, u218, u219, u220, u221, u222, Value.int IntKind.i64 0, Value.bool false, Value.agg #[Value.slice xa nt2 xc, Value.slice ya ns2 yc, Value.slice za nl2 zc, Value.int IntKind.i64 nx2], Value.map (some hb), Value.pointer (some { block := xb, off := 1 }), Value.int IntKind.i64 ((i : Int) + 1), Value.map (some hm), u230, u231, u232, u233, u234, u235, u236, u237, u238, u239, u240, u241, u242, u243, u244, u245, u246, u247, u248, u249, u250, u251, u252, u253, u254, u255, u256, u257, u258, u259, u260, u261, u262, u263, u264, u265, u266, u267, u268, u269, u270, u271, u272, u273, u274, u275, u276, u277, u278, u279, u280, u281, u282, u283], defers := [] }) ∧ qn - (intOf (a'.tmps.getD 28 undef)).toNat < qn - (intOf (#[Value.slice (some { block := tb, off := toff }) len cap, Value.int IntKind.u8 fan, Value.slice qa qn qc, undef, undef, undef, u6, Value.pointer (some { block := G, off := 0 }), Value.map (some hb), Value.map (some lb), Value.int IntKind.i64 (i : Int), Value.map (some hm), Value.slice ea en ec, Value.pointer (some { block := xb, off := 0 }), u14, u15, u16, u17, u18, u19, u20, u21, u22, u23, u24, u25, Value.pointer (some { block := tb2, off := 0 }), Value.int IntKind.i64 0, Value.int IntKind.i64 (k : Int), u29, u30, u31, u32, u33, u34, Value.bool true, Value.bool false, Value.bool false, Value.slice (some { block := tb, off := toff }) len cap, Value.int IntKind.i64 (len : Int), Value.bool (decide (100 < (len : Int))), Value.bool (decide (100 < (len : Int))), Value.bool (decide (100 < (len : Int))), Value.slice qa qn qc, Value.int IntKind.i64 (qn : Int), Value.bool (decide (50 < (qn : Int))), Value.bool (decide (100 < (len : Int)) || decide (50 < (qn : Int))), undef, Value.map (some hb), Value.map (some lb), u50, u51, u52, u53, u54, u55, u56, u57, u58, u59, u60, u61, u62, u63, u64, u65, u66, u67, u68, u69, u70, u71, u72, u73, u74, u75, u76, u77, u78, u79, u80, u81, u82, u83, u84, u85, u86, u87, u88, u89, u90, u91, u92, u93, u94, u95, u96, u97, u98, u99, u100, u101, u102, u103, u104, u105, u106, u107, u108, u109, u110, u111, u112, u113, u114, u115, u116, u117, u118, u119, u120, u121, u122, u123, u124, u125, u126, u127, u128, u129, u130, u131, u132, u133, u134, u135, u136, u137, u138, u139, u140, u141, u142, u143, u144, u145, u146, u147, u148, u149, u150, u151, u152, u153, u154, u155, u156, u157, u158, u159, u160, u161, u162, u163, u164, u165, u166, u167, u168, u169, u170, u171, u172, u173, u174, u175, u176, u177, u178, u179, u180, u181, u182, u183, u184, u185, u186, u187, u188, u189, u190, u191, u192, u193, u194, u195, u196, u197, u198, u199, u200, u201, u202, u203, u204, u205, u206, u207, u208, u209, u210, u211, u212, u213, u214, u215, u216, u217, u218, u219, u220, u221, u222, Value.int IntKind.i64 0, Value.bool false, Value.agg #[Value.slice xa nt2 xc, Value.slice ya ns2 yc, Value.slice za nl2 zc, Value.int IntKind.i64 nx2], Value.map (some hb), Value.pointer (some { block := xb, off := 1 }), Value.int IntKind.i64 ((i : Int) + 1), Value.map (some hm), u230, u231, u232, u233, u234, u235, u236, u237, u238, u239, u240, u241, u242, u243, u244, u245, u246, u247, u248, u249, u250, u251, u252, u253, u254, u255, u256, u257, u258, u259, u260, u261, u262, u263, u264, u265, u266, u267, u268, u269, u270, u271, u272, u273, u274, u275, u276, u277, u278, u279, u280, u281, u282, u283].getD 28 undef)).toNat) (Exit.inBlock 10 (Exit.inBlock 1 (Exit.then K_d Qq_d)))) { tmps := #[Value.slice (some { block := tb, off := toff }) len cap, Value.int IntKind.u8 fan, Value.slice qa qn qc, undef, undef, undef, u6, Value.pointer (some { block := G, off := 0 }), Value.map (some hb), Value.map (some lb), Value.int IntKind.i64 (i : Int), Value.map (some hm), Value.slice ea en ec, Value.pointer (some { block := xb, off := 0 }), u14, u15, u16, u17, u18, u19, u20, u21, u22, u23, u24, u25, Value.pointer (some { block := tb2, off := 0 }), Value.int IntKind.i64 0, Value.int IntKind.i64 (k : Int), u29, u30, u31, u32, u33, u34, Value.bool true, Value.bool false, Value.bool false, Value.slice (some { block := tb, off := toff }) len cap, Value.int IntKind.i64 (len : Int), Value.bool (decide (100 < (len : Int))), Value.bool (decide (100 < (len : Int))), Value.bool (decide (100 < (len : Int))), Value.slice qa qn qc, Value.int IntKind.i64 (qn : Int), Value.bool (decide (50 < (qn : Int))), Value.bool (decide (100 < (len : Int)) || decide (50 < (qn : Int))), undef, Value.map (some hb), Value.map (some lb), u50, u51, u52, u53, u54, u55, u56, u57, u58, u59, u60, u61, u62, u63, u64, u65, u66, u67, u68, u69, u70, u71, u72, u73, u74, u75, u76, u77, u78, u79, u80, u81, u82, u83, u84, u85, u86, u87, u88, u89, u90, u91, u92, u93, u94, u95, u96, u97, u98, u99, u100, u101, u102, u103, u104, u105, u106, u107, u108, u109, u110, u111, u112, u113, u114, u115, u116, u117, u118, u119, u120, u121, u122, u123, u124, u125, u126, u127, u128, u129, u130, u131, u132, u133, u134, u135, u136, u137, u138, u139, u140, u141, u142, u143, u144, u145, u146, u147, u148, u149, u150, u151, u152, u153, u154, u155, u156, u157, u158, u159, u160, u161, u162, u163, u164, u165, u166, u167, u168, u169, u170, u171, u172, u173, u174, u175, u176, u177, u178, u179, u180, u181, u182, u183, u184, u185, u186, u187, u188, u189, u190, u191, u192, u193, u194, u195, u196, u197, u198, u199, u200, u201, u202, u203, u204, u205, u206, u207, u208, u209, u210, u211, u212, u213, u214, u215, u216, u217, u218, u219, u220, u221, u222, Value.int IntKind.i64 0, Value.bool false, Value.agg #[Value.slice xa nt2 xc, Value.slice ya ns2 yc, Value.slice za nl2 zc, Value.int IntKind.i64 nx2], Value.map (some hb), Value.pointer (some { block := xb, off := 1 }), Value.int IntKind.i64 ((i : Int) + 1), Value.map (some hm), u230, u231, u232, u233, u234, u235, u236, u237, u238, u239, u240, u241, u242, u243, u244, u245, u246, u247, u248, u249, u250, u251, u252, u253, u254, u255, u256, u257, u258, u259, u260, u261, u262, u263, u264, u265, u266, u267, u268, u269, u270, u271, u272, u273, u274, u275, u276, u277, u278, u279, u280, u281, u282, u283], defers := [] } wr := by
  subst hcc
  conv => arg 2; whnf
  obtain ⟨qb, qo, z, rfl, hz, hqb, hqc, hzl⟩ := hq.out.at hkl
  have KR := Lib.hid (show Below w.heap.size w wr from K7.out.trans (hKr.out.mono K7.out.size))
  have HQB := Lib.hid (And.intro hqb hqc)
  have kz : wr.cell? ⟨qb, qo + k, none⟩ = some (.string (bs z)) := by rw [KR.out.cell (p := ⟨qb, qo + k, none⟩) hqb]; exact hqc
  have LR := Lib.hid (LI7.out.keep hKr.out)
  have lk := LR.out.ml.look hzl
  obtain ⟨want, hwant⟩ : ∃ c, c = (last2 z).getD 0 := ⟨_, rfl⟩
  obtain ⟨there, hthere⟩ : ∃ c, c = (last2 z).isSome := ⟨_, rfl⟩
  rw [← hwant, ← hthere] at lk
  have HWT := Lib.hid (And.intro hwant hthere)
  have HZL := Lib.hid hzl
  obtain ⟨wa5, hwa5⟩ : ∃ wa5, wa5 = wr := ⟨_, rfl⟩
  rw [← hwa5] at KR LR lk kz hKr ⊢
  clear hz hqb hqc hzl hwant hthere hwa5 wr
  have HT7 := Lib.hid (show RdL (fun b => b ≠ G) wa5 (.slice xa nt2 xc) nt2 (flat tcell s2.tabs) by have := LR.out.rd.tabs; rw [← HN2.out.1] at this; exact this)
  obtain ⟨F, hF⟩ : ∃ F, F = s2.tabs.filter fun t => mayB t z z := ⟨_, rfl⟩
  have HFD := Lib.hid (fun (W : World) (k : Below wa5.heap.size wa5 W) => lev_find (w := W) (k := z) (Lib.hid (HT7.out.below k)) (Lib.hid HN2.out.1) (by have := HTB.out; omega))
  rw [← hF] at HFD
  have HFF := Lib.hid (show ∀ t ∈ F, t ∈ s2.tabs from fun t ht => by rw [hF] at ht; exact (List.mem_filter.1 ht).1)
  have HFL := Lib.hid (show F.length ≤ 101 by have h1 := List.length_filter_le (fun t => mayB t z z) s2.tabs; rw [← hF] at h1; have := HTB.out; have := HN2.out.1; omega)
  have HFS := Lib.hid (show F.findSome? (fun t => setV val ((i : Int) + 1) gH2 t.file z) = last2 z by rw [hF]; exact find_first HPS.out.1 z)
  clear hF
  obtain ⟨g0, g1, g2, g3⟩ := LR.out.st.c0
  go_upto_region 51 with (fail)
  clear lk
  refine wp_region_kept (fun W => Below wa5.heap.size wa5 W) (by as_aux_lemma => kernel_rfl) ?_
  change wpAnyE _ _ _ _ _ _ _ _ _ wa5.drew
  have hS : Below wa5.heap.size wa5 wa5.drew := (Below.refl _ _).drew
  generalize wa5.drew = wb5 at *
  refine kept_take (i := 0) (d := 245) (v := (.pointer (some ⟨G, 0, none⟩))) rfl rfl (by as_aux_lemma => kernel_rfl) (by as_aux_lemma => kernel_rfl) (by as_aux_lemma => kernel_rfl) (fun _ _ _ h => hpan _ _ _ _ _ h) (Or.inl ⟨by rfl, ?_⟩) hS ?_
  · intro w' hw'
    go_simp
  try go_frame
  refine kept_take (i := 1) (d := 246) (v := (.slice xa nt2 xc)) rfl rfl (by as_aux_lemma => kernel_rfl) (by as_aux_lemma => kernel_rfl) (by as_aux_lemma => kernel_rfl) (fun _ _ _ h => hpan _ _ _ _ _ h) (Or.inl ⟨by rfl, ?_⟩) hS ?_
  · intro w' hw'
    obtain ⟨z0, z1, z2, z3⟩ := (LR.out.st.below hw').c0
    go_simp
  try go_frame
  refine kept_take (i := 2) (d := 247) (v := (.slice (some ⟨qb, qo, none⟩) qn qc)) rfl rfl (by as_aux_lemma => kernel_rfl) (by as_aux_lemma => kernel_rfl) (by as_aux_lemma => kernel_rfl) (fun _ _ _ h => hpan _ _ _ _ _ h) (Or.inl ⟨by rfl, ?_⟩) hS ?_
  · intro w' hw'
    go_simp
  try go_frame
  refine kept_take (i := 3) (d := 248) (v := (.int .i64 (k : Int))) rfl rfl (by as_aux_lemma => kernel_rfl) (by as_aux_lemma => kernel_rfl) (by as_aux_lemma => kernel_rfl) (fun _ _ _ h => hpan _ _ _ _ _ h) (Or.inl ⟨by rfl, ?_⟩) hS ?_
  · intro w' hw'
    go_simp
  try go_frame
  refine kept_take (i := 4) (d := 249) (v := (.pointer (some ⟨qb, qo + k, none⟩))) rfl rfl (by as_aux_lemma => kernel_rfl) (by as_aux_lemma => kernel_rfl) (by as_aux_lemma => kernel_rfl) (fun _ _ _ h => hpan _ _ _ _ _ h) (Or.inl ⟨by rfl, ?_⟩) hS ?_
  · intro w' hw'
    go_simp
  try go_frame
  refine kept_take (i := 5) (d := 250) (v := (.string (bs z))) rfl rfl (by as_aux_lemma => kernel_rfl) (by as_aux_lemma => kernel_rfl) (by as_aux_lemma => kernel_rfl) (fun _ _ _ h => hpan _ _ _ _ _ h) (Or.inl ⟨by rfl, ?_⟩) hS ?_
  · intro w' hw'
    have kz' : w'.cell? ⟨qb, qo + k, none⟩ = some (.string (bs z)) := by rw [(KR.out.trans (hw'.mono KR.out.size)).cell (p := ⟨qb, qo + k, none⟩) HQB.out.1]; exact HQB.out.2
    go_simp
  try go_frame
  refine wpAnyE_ready (rs := [6]) (by as_aux_lemma => kernel_rfl) (by simp) (AllE.cons rfl (fun K hK0 => ?_) AllE.nil)
  go_simp
  refine Calls.mono (HFD.out _ hS) ?_
  rintro e wc5 ⟨vf, rfl, hof, kf⟩
  obtain ⟨fa, fc, rfl⟩ := OffRow.slice hof
  have hS2 : Below wa5.heap.size wa5 wc5 := hS.trans (kf.mono hS.size)
  have RF := Lib.hid (OffRow.rdL hof)
  obtain ⟨m, hm'⟩ : ∃ m, m = F.length := ⟨_, rfl⟩
  rw [List.length_map, ← hm'] at RF ⊢
  have HMF := Lib.hid hm'
  refine hK0.out _ _ (fun _ => hS2) (fun _ => ?_)
  clear hK0 K hS kf hof hm'
  have hS := hS2
  clear hS2
  try go_frame
  refine kept_take (i := 7) (d := 33) (v := (.slice fa m fc)) rfl rfl (by as_aux_lemma => kernel_rfl) (by as_aux_lemma => kernel_rfl) (by as_aux_lemma => kernel_rfl) (fun _ _ _ h => hpan _ _ _ _ _ h) (Or.inl ⟨by rfl, ?_⟩) hS ?_
  · intro w' hw'
    go_simp
  try go_frame
  refine wpAnyE_done (by as_aux_lemma => kernel_rfl) ?_ _
  have KC := Lib.hid (KR.out.trans (hS.mono KR.out.size))
  have LC := Lib.hid (LR.out.keep hS)
  have K7C := Lib.hid (hKr.out.trans (hS.mono hKr.out.size))
  have hm9 : m ≤ 101 := by have := HFL.out; have := HMF.out; omega
  clear hS kz g0 g1 g2 g3 HT7 HFD
  go_wp2_with fail
  go_loopw [31, 32, 34] (fun gv fv jv wr => ∃ j : Nat, j ≤ m ∧ jv = .int .i64 (j : Int) ∧ gv = .int .i64 ((askR F (setV val ((i : Int) + 1) gH2) z j).getD 0) ∧ fv = .bool (askR F (setV val ((i : Int) + 1) gH2) z j).isSome ∧ Hid (Below wc5.heap.size wc5 wr)) (fun gv fv jv wr => m - (intOf jv).toNat)
  case atStart => exact ⟨0, Nat.zero_le _, rfl, rfl, rfl, Lib.hid (Below.refl _ _)⟩
  case round =>
    obtain ⟨j, hj, rfl, rfl, rfl, hKj⟩ := hrel
    have KJ := Lib.hid (show Below w.heap.size w wr from KC.out.trans (hKj.out.mono KC.out.size))
    have K7J := Lib.hid (show Below w7.heap.size w7 wr from K7C.out.trans (hKj.out.mono K7C.out.size))
    obtain ⟨R, hR⟩ : ∃ R, R = askR F (setV val ((i : Int) + 1) gH2) z j := ⟨_, rfl⟩
    rw [← hR]
    have HR := Lib.hid hR
    clear hR
    have fin : (m ≤ j ∨ R ≠ none) → R = last2 z := fun h => by
      rw [HR.out]
      rw [← HFS.out]
      refine ask_done ?_
      rcases h with h | h
      · exact .inl (by have := HMF.out; omega)
      · exact .inr (by rw [← HR.out]; exact h)
    have FIN := Lib.hid fin
    clear fin
    cases R with
    | some u =>
      have HU := Lib.hid (show want = u ∧ there = true by
        have := FIN.out (.inr (by simp))
        have h1 := HWT.out
        rw [← this] at h1
        exact ⟨by simpa using h1.1, by simpa using h1.2⟩)
      obtain ⟨hu1, hu2⟩ := HU.out
      subst hu1 hu2
      clear HU FIN HR HWT
      have huu : (want != want) = false := by simp
      simp only [Option.getD_some, Option.isSome_some]
      by_cases hjm : j < m
      · have hjm2 : (j : Int) < (m : Int) := by omega
        go_wp2_with fail
        go_roundw
        case rel => exact ⟨k + 1, by omega, by go_num, K7J⟩
        case measure => simp [intOf]; omega
      · have hjm2 : (m : Int) ≤ (j : Int) := by omega
        go_wp2_with fail
        go_roundw
        case rel => exact ⟨k + 1, by omega, by go_num, K7J⟩
        case measure => simp [intOf]; omega
    | none =>
      simp only [Option.getD_none, Option.isSome_none]
      by_cases hjm : j < m
      · have hjm2 : (j : Int) < (m : Int) := by omega
        obtain ⟨t, ht⟩ : ∃ t, F[j]? = some t := ⟨_, List.getElem?_eq_getElem (by have := HMF.out; omega)⟩
        have htab := HFF.out t (List.mem_of_getElem? ht)
        have HAN := Lib.hid (ask_next (val := setV val ((i : Int) + 1) gH2) (y := z) ht HR.out.symm)
        obtain ⟨fb, fo, rfl, _, hfb, hfc⟩ := RdL.atI (RF.out.below hKj.out) (show (F.map (·.file))[j]? = some t.file by rw [List.getElem?_map, ht]; rfl) hjm
        have cf := hfc 0 _ rfl
        simp only [Nat.mul_one, Nat.add_zero] at cf
        have HCF := Lib.hid (And.intro hfb cf)
        have LJ := Lib.hid (LC.out.keep hKj.out)
        have HTF := Lib.hid (show 1 ≤ t.file ∧ t.file ≤ (i : Int) + 1 from ⟨HPS.out.1.ok.pos _ (tab_file htab), HPS.out.1.few _ (tab_file htab)⟩)
        obtain ⟨bt, hbt1, hbt2, hbt3⟩ := LJ.out.mi t htab
        have HBT := Lib.hid (And.intro hbt1 hbt3)
        obtain ⟨R2, hR2⟩ : ∃ R2, R2 = setV val ((i : Int) + 1) gH2 t.file z := ⟨_, rfl⟩
        have HR2 := Lib.hid hR2
        have HNX := Lib.hid (show askR F (setV val ((i : Int) + 1) gH2) z (j + 1) = R2 by rw [HAN.out, hR2])
        clear ht htab hfc hfb hbt1 hbt2 hbt3 hR2 cf
        clear K7J
        obtain ⟨wd, hwd⟩ : ∃ wd, wd = wr := ⟨_, rfl⟩
        rw [← hwd] at KJ LJ HBT HCF hKj ⊢
        clear hwd wr
        go_upto_region 55 with (fail)
        refine wp_region_kept (fun W => Below wd.heap.size wd W) (by as_aux_lemma => kernel_rfl) ?_
        change wpAnyE _ _ _ _ _ _ _ _ _ wd.drew
        have hS : Below wd.heap.size wd wd.drew := (Below.refl _ _).drew
        generalize wd.drew = wf at *
        refine kept_take (i := 0) (d := 263) (v := (.map (some hb))) rfl rfl (by as_aux_lemma => kernel_rfl) (by as_aux_lemma => kernel_rfl) (by as_aux_lemma => kernel_rfl) (fun _ _ _ h => hpan _ _ _ _ _ h) (Or.inl ⟨by rfl, ?_⟩) hS ?_
        · intro w' hw'
          go_simp
        try go_frame
        refine kept_take (i := 1) (d := 264) (v := (.slice (some ⟨fb, fo, none⟩) m fc)) rfl rfl (by as_aux_lemma => kernel_rfl) (by as_aux_lemma => kernel_rfl) (by as_aux_lemma => kernel_rfl) (fun _ _ _ h => hpan _ _ _ _ _ h) (Or.inl ⟨by rfl, ?_⟩) hS ?_
        · intro w' hw'
          go_simp
        try go_frame
        refine kept_take (i := 2) (d := 265) (v := (.int .i64 (j : Int))) rfl rfl (by as_aux_lemma => kernel_rfl) (by as_aux_lemma => kernel_rfl) (by as_aux_lemma => kernel_rfl) (fun _ _ _ h => hpan _ _ _ _ _ h) (Or.inl ⟨by rfl, ?_⟩) hS ?_
        · intro w' hw'
          go_simp
        try go_frame
        refine kept_take (i := 3) (d := 266) (v := (.pointer (some ⟨fb, fo + j, none⟩))) rfl rfl (by as_aux_lemma => kernel_rfl) (by as_aux_lemma => kernel_rfl) (by as_aux_lemma => kernel_rfl) (fun _ _ _ h => hpan _ _ _ _ _ h) (Or.inl ⟨by rfl, ?_⟩) hS ?_
        · intro w' hw'
          go_simp
        try go_frame
        refine kept_take (i := 4) (d := 267) (v := (.int .i64 t.file)) rfl rfl (by as_aux_lemma => kernel_rfl) (by as_aux_lemma => kernel_rfl) (by as_aux_lemma => kernel_rfl) (fun _ _ _ h => hpan _ _ _ _ _ h) (Or.inl ⟨by rfl, ?_⟩) hS ?_
        · intro w' hw'
          have z0 : w'.cell? ⟨fb, fo + j, none⟩ = some (.int .i64 t.file) := by rw [hw'.cell (p := ⟨fb, fo + j, none⟩) HCF.out.1]; exact HCF.out.2
          go_simp
        try go_frame
        refine kept_take (i := 5) (d := 268) (v := (.map (some bt))) rfl rfl (by as_aux_lemma => kernel_rfl) (by as_aux_lemma => kernel_rfl) (by as_aux_lemma => kernel_rfl) (fun _ _ _ h => hpan _ _ _ _ _ h) (Or.inl ⟨by rfl, ?_⟩) hS ?_
        · intro w' hw'
          have z0 := (LJ.out.mo.below hw').look (f := t.file) (by have := HTF.out; omega) (by have := HTF.out; omega) HBT.out.1
          go_simp
        try go_frame
        refine kept_take (i := 6) (d := 269) (v := (.slice (some ⟨qb, qo, none⟩) qn qc)) rfl rfl (by as_aux_lemma => kernel_rfl) (by as_aux_lemma => kernel_rfl) (by as_aux_lemma => kernel_rfl) (fun _ _ _ h => hpan _ _ _ _ _ h) (Or.inl ⟨by rfl, ?_⟩) hS ?_
        · intro w' hw'
          go_simp
        try go_frame
        refine kept_take (i := 7) (d := 270) (v := (.int .i64 (k : Int))) rfl rfl (by as_aux_lemma => kernel_rfl) (by as_aux_lemma => kernel_rfl) (by as_aux_lemma => kernel_rfl) (fun _ _ _ h => hpan _ _ _ _ _ h) (Or.inl ⟨by rfl, ?_⟩) hS ?_
        · intro w' hw'
          go_simp
        try go_frame
        refine kept_take (i := 8) (d := 271) (v := (.pointer (some ⟨qb, qo + k, none⟩))) rfl rfl (by as_aux_lemma => kernel_rfl) (by as_aux_lemma => kernel_rfl) (by as_aux_lemma => kernel_rfl) (fun _ _ _ h => hpan _ _ _ _ _ h) (Or.inl ⟨by rfl, ?_⟩) hS ?_
        · intro w' hw'
          go_simp
        try go_frame
        refine kept_take (i := 9) (d := 272) (v := (.string (bs z))) rfl rfl (by as_aux_lemma => kernel_rfl) (by as_aux_lemma => kernel_rfl) (by as_aux_lemma => kernel_rfl) (fun _ _ _ h => hpan _ _ _ _ _ h) (Or.inl ⟨by rfl, ?_⟩) hS ?_
        · intro w' hw'
          have z0 : w'.cell? ⟨qb, qo + k, none⟩ = some (.string (bs z)) := by rw [(KJ.out.trans (hw'.mono KJ.out.size)).cell (p := ⟨qb, qo + k, none⟩) HQB.out.1]; exact HQB.out.2
          go_simp
        try go_frame
        refine kept_take (i := 10) (d := 273) (v := (.tuple #[.int .i64 (R2.getD 0), .bool R2.isSome])) rfl rfl (by as_aux_lemma => kernel_rfl) (by as_aux_lemma => kernel_rfl) (by as_aux_lemma => kernel_rfl) (fun _ _ _ h => hpan _ _ _ _ _ h) (Or.inl ⟨by rfl, ?_⟩) hS ?_
        · intro w' hw'
          have z0 := (HBT.out.2.below hw').look HZL.out
          rw [← HR2.out] at z0
          go_simp
        try go_frame
        refine kept_take (i := 11) (d := 262) (v := (.tuple #[.int .i64 (R2.getD 0), .bool R2.isSome])) rfl rfl (by as_aux_lemma => kernel_rfl) (by as_aux_lemma => kernel_rfl) (by as_aux_lemma => kernel_rfl) (fun _ _ _ h => hpan _ _ _ _ _ h) (Or.inl ⟨by rfl, ?_⟩) hS ?_
        · intro w' hw'
          go_simp
        try go_frame
        refine kept_take (i := 12) (d := 274) (v := (.int .i64 (R2.getD 0))) rfl rfl (by as_aux_lemma => kernel_rfl) (by as_aux_lemma => kernel_rfl) (by as_aux_lemma => kernel_rfl) (fun _ _ _ h => hpan _ _ _ _ _ h) (Or.inl ⟨by rfl, ?_⟩) hS ?_
        · intro w' hw'
          go_simp
        try go_frame
        refine kept_take (i := 13) (d := 275) (v := (.bool R2.isSome)) rfl rfl (by as_aux_lemma => kernel_rfl) (by as_aux_lemma => kernel_rfl) (by as_aux_lemma => kernel_rfl) (fun _ _ _ h => hpan _ _ _ _ _ h) (Or.inl ⟨by rfl, ?_⟩) hS ?_
        · intro w' hw'
          go_simp
        try go_frame
        refine kept_take (i := 14) (d := 31) (v := (.int .i64 (R2.getD 0))) rfl rfl (by as_aux_lemma => kernel_rfl) (by as_aux_lemma => kernel_rfl) (by as_aux_lemma => kernel_rfl) (fun _ _ _ h => hpan _ _ _ _ _ h) (Or.inl ⟨by rfl, ?_⟩) hS ?_
        · intro w' hw'
          go_simp
        try go_frame
        refine kept_take (i := 15) (d := 32) (v := (.bool R2.isSome)) rfl rfl (by as_aux_lemma => kernel_rfl) (by as_aux_lemma => kernel_rfl) (by as_aux_lemma => kernel_rfl) (fun _ _ _ h => hpan _ _ _ _ _ h) (Or.inl ⟨by rfl, ?_⟩) hS ?_
        · intro w' hw'
          go_simp
        try go_frame
        refine wpAnyE_done (by as_aux_lemma => kernel_rfl) ?_ _
        have KF := Lib.hid (hKj.out.trans (hS.mono hKj.out.size))
        clear hS
        go_wp2_with fail
        go_roundw
        case rel => exact ⟨j + 1, by omega, by go_num, by rw [HNX.out], by rw [HNX.out], KF⟩
        case measure => simp [intOf]; omega
      · have hjm2 : (m : Int) ≤ (j : Int) := by omega
        have HU := Lib.hid (show want = 0 ∧ there = false by
          have := FIN.out (.inl (by omega))
          have h1 := HWT.out
          rw [← this] at h1
          exact ⟨by simpa using h1.1, by simpa using h1.2⟩)
        obtain ⟨hu1, hu2⟩ := HU.out
        subst hu1 hu2
        clear HU FIN HR HWT
        go_wp2_with fail
        go_roundw
        case rel => exact ⟨k + 1, by omega, by go_num, K7J⟩
        case measure => simp [intOf]; omega
end Go.Proofs.YtfbaenhajlckjaaGreat
/- LevelsServes, walked: a piece (serves_rest). -/
set_option linter.unusedVariables false
set_option maxRecDepth 1000000
namespace Go.Proofs.YtfbaenhajlckjaaGreat
open Go.RowKit Go.Maps Go.WideShapes Go.ChangeMaps

set_option maxHeartbeats 40000000 in
/-- What a turn does behind its edits. -/
theorem serves_rest {qa : Option Addr} {len cap qn qc : Nat} {Gs : List Tn} {Q : List (List UInt8)} {fan : Int} {w : World} {G : Nat} {hb lb : Nat} {u6 u26 u27 u28 u29 u30 u31 u32 u33 u34 : Value} {i : Nat} {tv sv lv : Value} {s : St} {val : Int → List UInt8 → Option Int} {last : List UInt8 → Option Int} {blk : Int → Option Nat} {tb toff : Nat} {ga : Option Addr} {gn gc : Nat} {gL : List (List UInt8)} {w0 : World} {hm : Nat} {xb : Nat} {Qq_d : Exit → Act → World → Prop} {K_d1 : Act → World → Prop} {u14 u15 u16 u17 u18 u19 u20 u21 u22 u23 u24 u25 u50 u51 u52 u53 u54 u55 u56 u57 u58 u59 u60 u61 u62 u63 u64 u65 u66 u67 u68 u69 u70 u71 u72 u73 u74 u75 u76 u77 u78 u79 u80 u81 u82 u83 u84 u85 u86 u87 u88 u89 u90 u91 u92 u93 u94 u95 u96 u97 u98 u99 u100 u101 u102 u103 u104 u105 u106 u107 u108 u109 u110 u111 u112 u113 u114 u115 u116 u117 u118 u119 u120 u121 u122 u123 u124 u125 u126 u127 u128 u129 u130 u131 u132 u133 u134 u135 u136 u137 u138 u139 u140 u141 u142 u143 u144 u145 u146 u147 u148 u149 u150 u151 u152 u153 u154 u155 u156 u157 u158 u159 u160 u161 u162 u163 u164 u165 u166 u167 u168 u169 u170 u171 u172 u173 u174 u175 u176 u177 u178 u179 u180 u181 u182 u183 u184 u185 u186 u187 u188 u189 u190 u191 u192 u193 u194 u195 u196 u197 u198 u199 u200 u201 u202 u203 u204 u205 u206 u207 u208 u209 u214 u215 u216 u217 u218 u219 u220 u221 u222 u223 u224 u225 u226 u227 u228 u229 u230 u231 u232 u233 u234 u235 u236 u237 u238 u239 u240 u241 u242 u243 u244 u245 u246 u247 u248 u249 u250 u251 u252 u253 u254 u255 u256 u257 u258 u259 u260 u261 u262 u263 u264 u265 u266 u267 u268 u269 u270 u271 u272 u273 u274 u275 u276 u277 u278 u279 u280 u281 u282 u283 : Value} {ea : Option Addr} {en ec : Nat} {D : List Ed} {out : Int} {low high : List UInt8} {gH last' : List UInt8 → Option Int} {wa : World} {z : Nat} {cnt : Int} {w1 : World} {K_d : Act → World → Prop}
    (hq : Hid (InS w qa qn qc Q))
    (hbig : len ≤ 9223372036854775807)
    (hqbig : qn ≤ 9223372036854775807)
    (hmm : ∀ (t : TypeId) (w : World), Sem.run Tryz.prog (Instr.makeMap t none) w = Result.ok (Value.map (some w.heap.size)) (w.alloc (Obj.map #[] 0)))
    (hlen : len ≤ 100)
    (hqn : qn ≤ 50)
    (hqn' : (qn : Int) ≤ 50)
    (HGW : Hid (w.heap.size ≤ G))
    (hi : i ≤ len)
    (hlt : i < len)
    (hlt2 : (i : Int) < (len : Int))
    (h : Hid (InT w (some { block := tb, off := toff }) len cap Gs))
    (HGI : Hid (Gs[i]? = some { a := ga, n := gn, cap := gc, L := gL }))
    (HI : Hid (LI w0 G hb lb Gs i tv sv lv s val last blk))
    (hgn : ¬30 < gn)
    (hgn' : (gn : Int) ≤ 30)
    (HHM : Hid (w0.heap.size ≤ hm ∧ hm < xb))
    (HG0 : Hid (lb < w0.heap.size))
    (hwi : IntKind.i64.wrap ((i : Int) + 1) = (i : Int) + 1)
    (hen9 : en ≤ 100)
    (HEN : Hid (en = D.length))
    (HDF : Hid (∀ (x : Ed), x ∈ D → x.fit ∧ x.kind = 2))
    (HPL : Hid (∀ (cnt : Int), 1 ≤ cnt → ∃ s', app s (D ++ [addEd ((i : Int) + 1) out cnt low high]) = (0, s') ∧ Serve s' ((i : Int) + 1) (setV val ((i : Int) + 1) gH) last'))
    (HKEY : Hid (∀ (k : List UInt8) (v : Int), gH k = some v → ∃ j g, j < i + 1 ∧ Gs[j]? = some g ∧ k ∈ g.L))
    (HCN : Hid (1 ≤ cnt ∧ cnt ≤ 400000))
    (HXW : Hid (w0.heap.size ≤ xb ∧ w.heap.size ≤ xb))
    (X1 : Hid (E6 xb { kind := 1, file := (i : Int) + 1, lev := out, cnt := cnt, low := low, high := high } w1))
    (KP1 : Hid (Kp lb w0 w1))
    (K1 : Hid (Below w.heap.size w w1))
    (M1 : Hid (MS w1 hm 400000 gH))
    (L1 : Hid (MS w1 lb ((i + 1) * 30) last'))
    (O1 : Hid (OffRow w1 (xb + 1) 47 6 (Value.slice ea en ec) en (flat ecell D)))
    (HW1 : Hid (w1 = wa.setCell { block := xb, off := 3 } (Value.int IntKind.i64 cnt)))
    (hpan : ∀ x (a : Act) dd vv w, Qq_d (Exit.panic x) (a.put dd vv) w → Qq_d (Exit.panic x) a w)
    {cr c8 : Code} (hcr : cr = codeRest) (hc8 : c8 = codeStep)
    (hKr : ∀ a w, Code.wp Tryz.prog cr (Exit.inBlock 1 (Exit.then K_d1 Qq_d)) a w → K_d a w)
    (hK8 : ∀ a w, Code.wp Tryz.prog c8 Qq_d a w → K_d1 a w)
    (hQA : Hid (∀ (a' : Act) (w' : World), ((∃ u6 u10 u11 u12 u13 u14 u15 u16 u17 u18 u19 u20 u21 u22 u23 u24 u25 u26 u27 u28 u29 u30 u31 u32 u33 u34 u50 u51 u52 u53 u54 u55 u56 u57 u58 u59 u60 u61 u62 u63 u64 u65 u66 u67 u68 u69 u70 u71 u72 u73 u74 u75 u76 u77 u78 u79 u80 u81 u82 u83 u84 u85 u86 u87 u88 u89 u90 u91 u92 u93 u94 u95 u96 u97 u98 u99 u100 u101 u102 u103 u104 u105 u106 u107 u108 u109 u110 u111 u112 u113 u114 u115 u116 u117 u118 u119 u120 u121 u122 u123 u124 u125 u126 u127 u128 u129 u130 u131 u132 u133 u134 u135 u136 u137 u138 u139 u140 u141 u142 u143 u144 u145 u146 u147 u148 u149 u150 u151 u152 u153 u154 u155 u156 u157 u158 u159 u160 u161 u162 u163 u164 u165 u166 u167 u168 u169 u170 u171 u172 u173 u174 u175 u176 u177 u178 u179 u180 u181 u182 u183 u184 u185 u186 u187 u188 u189 u190 u191 u192 u193 u194 u195 u196 u197 u198 u199 u200 u201 u202 u203 u204 u205 u206 u207 u208 u209 u210 u211 u212 u213 u214 u215 u216 u217 u218 u219 u220 u221 u222 u223 u224 u225 u226 u227 u228 u229 u230 u231 u232 u233 u234 u235 u236 u237 u238 u239 u240 u241 u242 u243 u244 u245 u246 u247 u248 u249 u250 u251 u252 u253 u254 u255 u256 u257 u258 u259 u260 u261 u262 u263 u264 u265 u266 u267 u268 u269 u270 u271 u272 u273 u274 u275 u276 u277 u278 u279 u280 u281 u282 u283, (∃ i, i ≤ len ∧ u10 = Value.int IntKind.i64 (i : Int) ∧ Hid (∃ tv sv lv s val last blk, LI w' G hb lb Gs i tv sv lv s val last blk) ∧ Hid (Below w.heap.size w w')) ∧ a' = { tmps := #[Value.slice (some { block := tb, off := toff }) len cap, Value.int IntKind.u8 fan, Value.slice qa qn qc, undef, undef, undef, u6, Value.pointer (some { block := G, off := 0 }), Value.map (some hb), Value.map (some lb), u10, u11, u12, u13, u14, u15, u16, u17, u18, u19, u20, u21, u22, u23, u24, u25, u26, u27, u28, u29, u30, u31, u32, u33, u34, Value.bool true, Value.bool false, Value.bool false, Value.slice (some { block := tb, off := toff }) len cap, Value.int IntKind.i64 (len : Int), Value.bool (decide (100 < (len : Int))), Value.bool (decide (100 < (len : Int))), Value.bool (decide (100 < (len : Int))), Value.slice qa qn qc, Value.int IntKind.i64 (qn : Int), Value.bool (decide (50 < (qn : Int))), Value.bool (decide (100 < (len : Int)) || decide (50 < (qn : Int))), undef, Value.map (some hb), Value.map (some lb), u50, u51, u52, u53, u54, u55, u56, u57, u58, u59, u60, u61, u62, u63, u64, u65, u66, u67, u68, u69, u70, u71, u72, u73, u74, u75, u76, u77, u78, u79, u80, u81, u82, u83, u84, u85, u86, u87, u88, u89, u90, u91, u92, u93, u94, u95, u96, u97, u98, u99, u100, u101, u102, u103, u104, u105, u106, u107, u108, u109, u110, u111, u112, u113, u114, u115, u116, u117, u118, u119, u120, u121, u122, u123, u124, u125, u126, u127, u128, u129, u130, u131, u132, u133, u134, u135, u136, u137, u138, u139, u140, u141, u142, u143, u144, u145, u146, u147, u148, u149, u150, u151, u152, u153, u154, u155, u156, u157, u158, u159, u160, u161, u162, u163, u164, u165, u166, u167, u168, u169, u170, u171, u172, u173, u174, u175, u176, u177, u178, u179, u180, u181, u182, u183, u184, u185, u186, u187, u188, u189, u190, u191, u192, u193, u194, u195, u196, u197, u198, u199, u200, u201, u202, u203, u204, u205, u206, u207, u208, u209, u210, u211, u212, u213, u214, u215, u216, u217, u218, u219, u220, u221, u222, u223, u224, u225, u226, u227, u228, u229, u230, u231, u232, u233, u234, u235, u236, u237, u238, u239, u240, u241, u242, u243, u244, u245, u246, u247, u248, u249, u250, u251, u252, u253, u254, u255, u256, u257, u258, u259, u260, u261, u262, u263, u264, u265, u266, u267, u268, u269, u270, u271, u272, u273, u274, u275, u276, u277, u278, u279, u280, u281, u282, u283], defers := [] }) ∧ len - (intOf (a'.tmps.getD 10 undef)).toNat < len - i) → Qq_d .normal a' w'))
    {cc : Code} (hcc : cc = codeDo) :
    Code.wp Tryz.prog cc (Exit.then K_d (Exit.inBlock 1 (Exit.then K_d1 Qq_d))) { tmps := #[Value.slice (some { block := tb, off := toff }) len cap, Value.int IntKind.u8 fan, Value.slice qa qn qc, undef, undef, undef, u6, Value.pointer (some { block := G, off := 0 }), Value.map (some hb), Value.map (some lb), Value.int IntKind.i64 (i : Int), Value.map (some hm), Value.slice ea en ec, Value.pointer (some { block := xb, off := 0 }), u14, u15, u16, u17, u18, u19, u20, u21, u22, u23, u24, u25, u26, u27, u28, u29, u30, u31, u32, u33, u34, Value.bool true, Value.bool false, Value.bool false, Value.slice (some { block := tb, off := toff }) len cap, Value.int IntKind.i64 (len : Int), Value.bool (decide (100 < (len : Int))), Value.bool (decide (100 < (len : Int))), Value.bool (decide (100 < (len : Int))), Value.slice qa qn qc, Value.int IntKind.i64 (qn : Int), Value.bool (decide (50 < (qn : Int))), Value.bool (decide (100 < (len : Int)) || decide (50 < (qn : Int))), undef, Value.map (some hb), Value.map (some lb), u50, u51, u52, u53, u54, u55, u56, u57, u58, u59, u60, u61, u62, u63, u64, u65, u66, u67, u68, u69, u70, u71, u72, u73, u74, u75, u76, u77, u78, u79, u80, u81, u82, u83, u84, u85, u86, u87, u88, u89, u90, u91, u92, u93, u94, u95, u96, u97, u98, u99, u100, u101, u102, u103, u104, u105, u106, u107, u108, u109, u110, u111, u112, u113, u114, u115, u116, u117, u118, u119, u120, u121, u122, u123, u124, u125, u126, u127, u128, u129, u130, u131, u132, u133, u134, u135, u136, u137, u138, u139, u140, u141, u142, u143, u144, u145, u146, u147, u148, u149, u150, u151, u152, u153, u154, u155, u156, u157, u158, u159, u160, u161, u162, u163, u164, u165, u166, u167, u168, u169, u170, u171, u172, u173, u174, u175, u176, u177, u178, u179, u180, u181, u182, u183, u184, u185, u186, u187, u188, u189, u190, u191, u192, u193, u194, u195, u196, u197, u198, u199, u200, u201, u202, u203, u204, u205, u206, u207, u208, u209, Value.map (some hm), Value.int IntKind.i64 (z : Int), Value.int IntKind.i64 cnt, Value.pointer (some { block := xb, off := 3 }), u214, u215, u216, u217, u218, u219, u220, u221, u222, u223, u224, u225, u226, u227, u228, u229, u230, u231, u232, u233, u234, u235, u236, u237, u238, u239, u240, u241, u242, u243, u244, u245, u246, u247, u248, u249, u250, u251, u252, u253, u254, u255, u256, u257, u258, u259, u260, u261, u262, u263, u264, u265, u266, u267, u268, u269, u270, u271, u272, u273, u274, u275, u276, u277, u278, u279, u280, u281, u282, u283], defers := [] } w1 := by
  subst hcc
  subst hcr
  subst hc8
  conv => arg 2; whnf
  conv => arg 4; dsimp only
  have hlen' : (len : Int) ≤ 100 := by have := hlen; omega
  conv at hKr in (codeRest) => whnf
  conv at hK8 in (codeStep) => whnf
  obtain ⟨s', hs', hsv⟩ := HPL.out cnt HCN.out.1
  have HS' := Lib.hid hs'
  have HSV := Lib.hid hsv
  clear hs' hsv
  have C1 := Lib.hid (HI.out.stk KP1.out)
  obtain ⟨ta, tc, rfl⟩ := RdL.slice HI.out.rd.tabs
  obtain ⟨sa, sc, rfl⟩ := RdL.slice HI.out.rd.stos
  obtain ⟨la, lc, rfl⟩ := RdL.slice HI.out.rd.logs
  have HAP := Lib.hid (fun (W : World) (va : Option Addr) (vc : Nat) (kp : Kp lb w0 W) (hr : RdL (fun b => b < W.heap.size) W (.slice va (en + 1) vc) (en + 1) (flat ecell (D ++ [addEd ((i : Int) + 1) out cnt low high]))) =>
    show Calls Tryz.prog 13 #[.agg #[.slice ta s.tabs.length tc, .slice sa s.stos.length sc, .slice la s.logs.length lc, .int .i64 s.next], .slice va (en + 1) vc] W fun e w' => (∃ xa xc ya yc za zc, e = .returned (.tuple #[.agg #[.slice xa s'.tabs.length xc, .slice ya s'.stos.length yc, .slice za s'.logs.length zc, .int .i64 s'.next], .int .i64 0]) ∧ OwnSt w' W.heap.size (.slice xa s'.tabs.length xc) (.slice ya s'.stos.length yc) (.slice za s'.logs.length zc) s') ∧ Below W.heap.size W w' from by
      have hap := man_Apply (M := 200) (Lib.hid (HI.out.rdk kp)) (Lib.hid HI.out.sr.ok) (Lib.hid (HI.out.fits (by omega))) (Lib.hid hr.x) (Lib.hid (show en + 1 = (D ++ [addEd ((i : Int) + 1) out cnt low high]).length by rw [List.length_append, List.length_singleton, HEN.out])) (Lib.hid (fun x hx => by
        rcases List.mem_append.1 hx with e | e
        · exact (HDF.out x e).1
        · rw [List.mem_singleton.1 e]
          exact ⟨by show -9223372036854775808 ≤ (i : Int) + 1; omega, by show (i : Int) + 1 ≤ 9223372036854775807; omega⟩)) (Lib.hid (by
        have := HI.out.few
        unfold St.small
        rw [HI.out.z1, HI.out.z2]
        simp
        omega)) (by omega)
      unfold ApplyPost at hap
      rw [HS'.out] at hap
      refine hap.mono ?_
      rintro e w' ⟨⟨tv, sv, lv, rfl, ho⟩, k⟩
      obtain ⟨xa, xc, rfl⟩ := OffRow.slice ho.tabs
      obtain ⟨ya, yc, rfl⟩ := OffRow.slice ho.stos
      obtain ⟨za, zc, rfl⟩ := OffRow.slice ho.logs
      exact ⟨⟨xa, xc, ya, yc, za, zc, rfl, ho⟩, k⟩)
  have HSUB := Lib.hid (app_sub _ (fun x hx => by
    rcases List.mem_append.1 hx with e | e
    · exact .inr (HDF.out x e).2
    · rw [List.mem_singleton.1 e]; exact .inl rfl) HS'.out)
  have HPF := Lib.hid (show (s'.stos = s.stos ∧ s'.logs = s.logs ∧ s'.next = s.next) ∧ (∀ t ∈ s'.tabs, t.file = (i : Int) + 1 ∨ t ∈ s.tabs) ∧ s'.tabs.length ≤ s.tabs.length + 1 by
    obtain ⟨h1, h2, h3, h4, h5⟩ := HSUB.out
    refine ⟨⟨h1, h2, h3⟩, fun t ht => ?_, ?_⟩
    · rcases h4 t ht with e | ⟨x, hx, hk1, e⟩
      · exact .inr e
      · rcases List.mem_append.1 hx with q | q
        · have := (HDF.out x q).2; omega
        · left; rw [e, List.mem_singleton.1 q]; rfl
    · have e1 : (D ++ [addEd ((i : Int) + 1) out cnt low high]).filter (fun x => decide (x.kind = 1)) = [addEd ((i : Int) + 1) out cnt low high] := by
        rw [List.filter_append]
        have : D.filter (fun x => decide (x.kind = 1)) = [] := List.filter_eq_nil_iff.2 fun x hx => by have := (HDF.out x hx).2; simp [this]
        rw [this]
        rfl
      rw [e1] at h5
      exact h5)
  obtain ⟨nt, hnt⟩ : ∃ n, n = s.tabs.length := ⟨_, rfl⟩
  obtain ⟨ns, hns⟩ : ∃ n, n = s.stos.length := ⟨_, rfl⟩
  obtain ⟨nl, hnl⟩ : ∃ n, n = s.logs.length := ⟨_, rfl⟩
  obtain ⟨nx, hnx⟩ : ∃ n, n = s.next := ⟨_, rfl⟩
  obtain ⟨nt', hnt'⟩ : ∃ n, n = s'.tabs.length := ⟨_, rfl⟩
  obtain ⟨ns', hns'⟩ : ∃ n, n = s'.stos.length := ⟨_, rfl⟩
  obtain ⟨nl', hnl'⟩ : ∃ n, n = s'.logs.length := ⟨_, rfl⟩
  obtain ⟨nx', hnx'⟩ : ∃ n, n = s'.next := ⟨_, rfl⟩
  rw [← hnt, ← hns, ← hnl, ← hnx, ← hnt', ← hns', ← hnl', ← hnx'] at HAP
  rw [← hnt, ← hns, ← hnl, ← hnx] at C1
  have HN' := Lib.hid (And.intro hnt' (And.intro hns' (And.intro hnl' hnx')))
  obtain ⟨i0, hi0, hz0, hz1, hz2⟩ := info_parts infoEd
  have HIn := Lib.hid (And.intro hi0 (And.intro hz0 (And.intro hz1 hz2)))
  clear hnt hns hnl hnx hnt' hns' hnl' hnx' hi0 hz0 hz1 hz2
  go_cut [26, 27] from 50 to 283 (fun s26 s27 wx => ∃ tb2 : Nat, s26 = .pointer (some ⟨tb2, 0, none⟩) ∧ s27 = .int .i64 0 ∧ Hid (RD2 w.heap.size w w0 lb hm xb i Gs s val tb2 wx))
  case first =>
    rename_i hJc hKc
    exact serves_do hbig hqbig hmm hlen hqn hlen' hqn' hi hlt hlt2 h hgn hgn' HHM HG0 hwi hen9 HKEY HXW X1 KP1 K1 M1 L1 O1 HSV HI HPF C1 HAP HN' i0 HIn hJc hKc (fun _ _ _ _ _ h => hpan _ _ _ _ _ h) (by kernel_rfl)
  case rest =>
    obtain ⟨tb2, rfl, rfl, hR2⟩ := hcut
    clear HAP HSUB HPF HS' HSV C1 X1 KP1 K1 M1 L1 O1 HW1 HPL HKEY HDF HEN HIn HN'
    obtain ⟨xa, xc, ya, yc, za, zc, s2, gH2, last2, e1, e2, e3, e4, e5, e6, e7, e8, e9, e10, e11, e12, e13⟩ := hR2.out
    obtain ⟨w5, hw5⟩ : ∃ w5, w5 = wc := ⟨_, rfl⟩
    rw [← hw5] at e1 e2 e8 e9 e10 e11 e12 ⊢
    obtain ⟨nt2, hnt⟩ : ∃ n, n = s2.tabs.length := ⟨_, rfl⟩
    obtain ⟨ns2, hns⟩ : ∃ n, n = s2.stos.length := ⟨_, rfl⟩
    obtain ⟨nl2, hnl⟩ : ∃ n, n = s2.logs.length := ⟨_, rfl⟩
    obtain ⟨nx2, hnx⟩ : ∃ n, n = s2.next := ⟨_, rfl⟩
    rw [← hnt, ← hns, ← hnl] at e1 e2
    rw [← hnx] at e1
    have C5 := Lib.hid e1
    have O5 := Lib.hid e2
    have HT2 := Lib.hid e3
    have HPS := Lib.hid (And.intro e4 (And.intro e5 (And.intro e6 (And.intro e7 e13))))
    have M5 := Lib.hid e9
    have L5 := Lib.hid e10
    have KP5 := Lib.hid e11
    have K5 := Lib.hid e12
    have HN2 := Lib.hid (And.intro hnt (And.intro hns (And.intro hnl hnx)))
    have x1 := e8
    clear e1 e2 e3 e4 e5 e6 e7 e9 e10 e11 e12 e13 hR2 hnt hns hnl hnx hw5 wc e8
    have G5 := Lib.hid (HI.out.stk KP5.out)
    obtain ⟨d0, d1, d2, d3⟩ := C5.out.c0
    obtain ⟨g0, g1, g2, g3⟩ := G5.out.c0
    have gf := G5.out.free
    have x1' := x1
    have HXG := Lib.hid (show G < xb ∧ hb < xb ∧ lb < xb ∧ w0.heap.size ≤ xb ∧ w0.heap.size ≤ hm ∧ G < w0.heap.size by have := HHM.out; have := HG0.out; have := HI.out.o1; have := HI.out.o2; omega)
    obtain ⟨w6, hw6⟩ : ∃ w6, w6 = (((w5.setCell ⟨G, 0, none⟩ (.slice xa nt2 xc)).setCell ⟨G, 1, none⟩ (.slice ya ns2 yc)).setCell ⟨G, 2, none⟩ (.slice za nl2 zc)).setCell ⟨G, 3, none⟩ (.int .i64 nx2) := ⟨_, rfl⟩
    have hk6 : ∀ j, j ≠ G → w6.heap[j]? = w5.heap[j]? := fun j hj => by rw [hw6, heap_set_other hj, heap_set_other hj, heap_set_other hj, heap_set_other hj]
    have C6 := Lib.hid (show C4 G (.slice xa nt2 xc) (.slice ya ns2 yc) (.slice za nl2 zc) (.int .i64 nx2) w6 by rw [hw6]; exact G5.out.put _ _ _ _)
    have K6 := Lib.hid (show Below w.heap.size w w6 by rw [hw6]; exact below_put4 K5.out HGW.out _ _ _ _)
    have hs6 : w6.heap.size = w5.heap.size := by rw [hw6]; simp [World.size_setCell]
    have O6 := Lib.hid (show OwnSt w6 w0.heap.size (.slice xa nt2 xc) (.slice ya ns2 yc) (.slice za nl2 zc) s2 by rw [hw6]; exact own_put4 O5.out (fun j hj _ _ => by have := HXG.out; omega) _ _ _ _)
    have M6 := Lib.hid (M5.out.kept (hk6 hm (by have := HXG.out; omega)))
    have L6 := Lib.hid (L5.out.kept (hk6 lb (by have := HI.out.o1; have := HI.out.o2; omega)))
    have KQ6 := Lib.hid (show w0.heap.size ≤ w6.heap.size ∧ ∀ j, j < w0.heap.size → j ≠ lb → j ≠ G → w6.heap[j]? = w0.heap[j]? from ⟨by rw [hs6]; exact KP5.out.size, fun j hj h1 h2 => (hk6 j h2).trans (KP5.out.kept j hj h1)⟩)
    have MO6 := HI.out.mo.kept (KQ6.out.2 hb HI.out.mo.lt (by have := HI.out.o2; omega) (by have := HI.out.o1; omega))
    have x6 : w6.cell? ⟨xb, 1, none⟩ = some (.int .i64 ((i : Int) + 1)) := by simp only [World.cell?, hk6 xb (by have := HXG.out; omega)]; exact x1
    obtain ⟨DO, hDO, hDOg⟩ := MO6
    have HDO := Lib.hid (And.intro hDO hDOg)
    have HKI := Lib.hid (key_int (f := (i : Int) + 1) (by omega) (by omega))
    have hmx1 : i < maxLen := by unfold maxLen; omega
    have HW6 := Lib.hid hw6
    clear hk6 hs6 hDO hDOg hw6
    have hne0 : ((0 : Int) != 0) = false := rfl
    go_upto_region 45 with (fail)
    rw [← HW6.out]
    clear d0 d1 d2 d3 g0 g1 g2 g3 gf x1 x1' C5 G5 O5 M5 L5 K5 HW6
    go_wp2_with (at_mapUpdate; refine wpList_mapUpdate_own _ rfl _ _ _ 88 rfl 3 89 keyedI Tryz.underlying88 _ hb _ _ rfl HDO.out.1 hmx1 _ _ _ rfl rfl HKI.out (.lit (.int .i64 (hm : Int))) [] rfl ?_)
    intro w7 hown7 hgrow7
    have K7 := Lib.hid (K6.out.grown hgrow7 K6.out.size (fun j hj => by injection hj with hj; have := HI.out.o1; have := HGW.out; omega))
    have LI7 := Lib.hid (show LI w7 G hb lb Gs (i + 1) (.slice xa nt2 xc) (.slice ya ns2 yc) (.slice za nl2 zc) s2 (setV val ((i : Int) + 1) gH2) last2 (putO blk ((i : Int) + 1) hm) from by
      have hk7 : ∀ j, j < w6.heap.size → j ≠ hb → w7.heap[j]? = w6.heap[j]? := fun j hj hne => hgrow7.block j hj (fun e => hne (by injection e))
      have hg6 : G < w6.heap.size := heap_lt C6.out
      refine HI.out.next (g := ⟨ga, gn, gc, gL⟩) ?_ ?_ HPS.out.1 HPS.out.2.1 HPS.out.2.2.1 HPS.out.2.2.2.1 (MO.put HDO.out.1 HDO.out.2 hown7) (L6.out.kept (hk7 lb L6.out.lt (by have := HI.out.o2; omega))) (M6.out.kept (hk7 hm M6.out.lt (by have := HXG.out; have := HI.out.mo.lt; omega))) (by have := HXG.out; have := HI.out.ml.lt; omega) (fun b hb1 hb2 => ?_) HPS.out.2.2.2.2 HGI.out (show gn ≤ 30 by omega)
      · have := C6.out
        rw [HN2.out.2.2.2] at this
        exact (hk7 G hg6 (by have := HI.out.o1; omega)).trans this
      · have hoff := O6.out
        have hj : ∀ j, w0.heap.size ≤ j → j < w6.heap.size → w7.heap[j]? = w6.heap[j]? := fun j h1 h2 => hk7 j h2 (by have := HI.out.mo.lt; omega)
        have ow : OwnSt w7 w0.heap.size (.slice xa nt2 xc) (.slice ya ns2 yc) (.slice za nl2 zc) s2 := ⟨OffRow.kept hoff.tabs fun j h => hj j (OffRow.lt hoff.tabs j h).1 (OffRow.lt hoff.tabs j h).2, OffRow.kept hoff.stos fun j h => hj j (OffRow.lt hoff.stos j h).1 (OffRow.lt hoff.stos j h).2, OffRow.kept hoff.logs fun j h => hj j (OffRow.lt hoff.logs j h).1 (OffRow.lt hoff.logs j h).2⟩
        exact ow.stv.mono (fun b _ h => by have := HXG.out; omega)
      · have h1 := KQ6.out.1
        exact (hk7 b (by omega) (by have := HI.out.o2; omega)).trans (KQ6.out.2 b hb2 (by omega) (by have := HI.out.o1; have := HI.out.o2; omega)))
    clear hown7 hgrow7 HDO C6 O6 M6 L6 KQ6 x6 K6 HKI
    have HTB := Lib.hid (show nt2 ≤ 101 by have := LI7.out.few; have := HN2.out.1; omega)
    go_wp2_with fail
    go_loopw [28] (fun kv wr => ∃ k : Nat, k ≤ qn ∧ kv = .int .i64 (k : Int) ∧ Hid (Below w7.heap.size w7 wr)) (fun kv wr => qn - (intOf kv).toNat)
    case atStart => exact ⟨0, Nat.zero_le _, rfl, Lib.hid (Below.refl _ _)⟩
    case round =>
      obtain ⟨k, hk, rfl, hKr⟩ := hrel
      by_cases hkl : k < qn
      · have hkl2 : (k : Int) < (qn : Int) := by omega
        exact serves_ask hq hbig hqbig hmm hlen hqn hlen' hqn' hi hlt hlt2 h hgn hgn' hwi hen9 i0 HPS HN2 DO hmx1 hne0 K7 LI7 HTB hk hKr hkl hkl2 (fun _ _ _ _ _ h => hpan _ _ _ _ _ h) (by kernel_rfl)
      · have hge : (qn : Int) ≤ (k : Int) := by omega
        have HLN := Lib.hid (LI7.out.keep hKr.out)
        have KN := Lib.hid (show Below w.heap.size w wr from K7.out.trans (hKr.out.mono K7.out.size))
        clear hKr
        go_wp2_with fail
        refine hQA.out _ _ ?_
        go_roundw
        case rel => ((repeat apply Exists.intro); refine And.intro ?_ rfl; exact ⟨i + 1, by omega, by go_num, Lib.hid ⟨_, _, _, _, _, _, _, HLN.out⟩, KN⟩)
        case measure => simp [intOf]; omega
end Go.Proofs.YtfbaenhajlckjaaGreat
