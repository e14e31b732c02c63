/- Texts put together: LevTakeW, LevEditsW -/
import Derived.Test.YtfbaenhajlckjaaGreatLSer12
import Derived.Carry
import Derived.Deep.CutRange
import Derived.Lib.MinMax
/- LevelsServes, walked: a piece (serves_take). -/
set_option linter.unusedVariables false
set_option maxRecDepth 1000000
namespace Go.Proofs.YtfbaenhajlckjaaGreat
open Go.RowKit Go.Maps Go.WideShapes Go.ChangeMaps

set_option maxHeartbeats 40000000 in
/-- One of the tables that a plan names is taken. -/
theorem serves_take {qa : Option Addr} {len cap qn qc : Nat} {Gs : List Tn} {fan : Int} {w : World} {G : Nat} {hb lb : Nat} {u6 u14 u15 u26 u27 u28 u29 u30 u31 u32 u33 u34 u54 u55 u74 u75 u76 u77 u78 u79 u80 u81 u82 u83 u84 u85 u86 u87 u88 u89 u90 u91 u92 u93 u94 u95 u96 u97 u98 u99 u100 u101 u102 u103 u104 u105 u106 u107 u108 u109 u110 u111 u112 u113 u114 u115 u116 u117 u118 u119 u120 u121 u122 u123 u201 u202 u203 u204 u205 u206 u207 u208 u209 u210 u211 u212 u213 u214 u215 u216 u217 u218 u219 u220 u221 u222 u223 u224 u225 u226 u227 u228 u229 u230 u231 u232 u233 u234 u235 u236 u237 u238 u239 u240 u241 u242 u243 u244 u245 u246 u247 u248 u249 u250 u251 u252 u253 u254 u255 u256 u257 u258 u259 u260 u261 u262 u263 u264 u265 u266 u267 u268 u269 u270 u271 u272 u273 u274 u275 u276 u277 u278 u279 u280 u281 u282 u283 : Value} {i : Nat} {sv lv : Value} {s : St} {val : Int → List UInt8 → Option Int} {last : List UInt8 → Option Int} {blk : Int → Option Nat} {tb toff : Nat} {ga : Option Addr} {gn gc : Nat} {w0 : World} {hm : Nat} {w3 : World} {xb : Nat} {Qq_d : Exit → Act → World → Prop} {K_d2 : Act → World → Prop} {J_d Kq_d : Act → World → Prop} {ta : Option Addr} {tc : Nat} {nt : Nat} {f : Int} {pa : Option Addr} {pc : Nat} {ins : List Tb} {out : Int} {low high : List UInt8} {bot : Bool} {np : Nat} {w6 : World} {pb : Nat} {K_d : Act → World → Prop} {wr : World} {u19 u20 u21 u22 u23 u24 u25 u136 u137 u138 u139 u140 u141 u142 u143 u144 u145 u146 u147 u148 u149 u150 u151 u152 u153 u154 u155 u156 u157 u158 u159 u160 u161 u162 u163 u164 u165 u166 u167 u168 u169 u170 u171 u172 u173 u174 u175 u176 u177 u178 u179 u180 u181 u182 u183 u184 u185 u186 u187 u188 u189 u190 u191 u192 u193 u194 u195 u196 u197 u198 u199 u200 : Value} {k : Nat} {ea : Option Addr} {ec : Nat}
    (hbig : len ≤ 9223372036854775807)
    (hqbig : qn ≤ 9223372036854775807)
    (hmm : ∀ (t : TypeId) (w : World), Sem.run Tryz.prog (Instr.makeMap t none) w = Result.ok (Value.map (some w.heap.size)) (w.alloc (Obj.map #[] 0)))
    (hlen : len ≤ 100)
    (hqn : qn ≤ 50)
    (hlen' : (len : Int) ≤ 100)
    (hqn' : (qn : Int) ≤ 50)
    (hi : i ≤ len)
    (hlt : i < len)
    (hlt2 : (i : Int) < (len : Int))
    (h : Hid (InT w (some { block := tb, off := toff }) len cap Gs))
    (HB : Hid (tb < w.heap.size))
    (hK : Hid (Below w.heap.size w w0))
    (hgn : ¬30 < gn)
    (hgn' : (gn : Int) ≤ 30)
    (HHM : Hid (w0.heap.size ≤ hm ∧ hm < xb))
    (hwi : IntKind.i64.wrap ((i : Int) + 1) = (i : Int) + 1)
    (a_d2 : ∀ (a' : Act) (w' : World), (∃ u12 u14 u15 u16 u17 u18 u19 u20 u21 u22 u23 u24 u25 u50 u51 u52 u53 u54 u55 u56 u57 u58 u59 u60 u61 u62 u63 u64 u65 u66 u67 u68 u69 u70 u71 u72 u73 u74 u75 u76 u77 u78 u79 u80 u81 u82 u83 u84 u85 u86 u87 u88 u89 u90 u91 u92 u93 u94 u95 u96 u97 u98 u99 u100 u101 u102 u103 u104 u105 u106 u107 u108 u109 u110 u111 u112 u113 u114 u115 u116 u117 u118 u119 u120 u121 u122 u123 u124 u125 u126 u127 u128 u129 u130 u131 u132 u133 u134 u135 u136 u137 u138 u139 u140 u141 u142 u143 u144 u145 u146 u147 u148 u149 u150 u151 u152 u153 u154 u155 u156 u157 u158 u159 u160 u161 u162 u163 u164 u165 u166 u167 u168 u169 u170 u171 u172 u173 u174 u175 u176 u177 u178 u179 u180 u181 u182 u183 u184 u185 u186 u187 u188 u189 u190 u191 u192 u193 u194 u195 u196 u197 u198 u199 u200 u201 u202 u203 u204 u205 u206 u207 u208 u209 u210 u211 u212 u213 u214 u215 u216 u217 u218 u219 u220 u221 u222 u223 u224 u225 u226 u227 u228 u229 u230 u231 u232 u233 u234 u235 u236 u237 u238 u239 u240 u241 u242 u243 u244 u245 u246 u247 u248 u249 u250 u251 u252 u253 u254 u255 u256 u257 u258 u259 u260 u261 u262 u263 u264 u265 u266 u267 u268 u269 u270 u271 u272 u273 u274 u275 u276 u277 u278 u279 u280 u281 u282 u283, Hid (RD w.heap.size w w0 lb hm xb i Gs s val u12 w') ∧ a' = { tmps := #[Value.slice (some { block := tb, off := toff }) len cap, Value.int IntKind.u8 fan, Value.slice qa qn qc, undef, undef, undef, u6, Value.pointer (some { block := G, off := 0 }), Value.map (some hb), Value.map (some lb), Value.int IntKind.i64 (i : Int), Value.map (some hm), u12, Value.pointer (some { block := xb, off := 0 }), u14, u15, u16, u17, u18, u19, u20, u21, u22, u23, u24, u25, u26, u27, u28, u29, u30, u31, u32, u33, u34, Value.bool true, Value.bool false, Value.bool false, Value.slice (some { block := tb, off := toff }) len cap, Value.int IntKind.i64 (len : Int), Value.bool (decide (100 < (len : Int))), Value.bool (decide (100 < (len : Int))), Value.bool (decide (100 < (len : Int))), Value.slice qa qn qc, Value.int IntKind.i64 (qn : Int), Value.bool (decide (50 < (qn : Int))), Value.bool (decide (100 < (len : Int)) || decide (50 < (qn : Int))), undef, Value.map (some hb), Value.map (some lb), u50, u51, u52, u53, u54, u55, u56, u57, u58, u59, u60, u61, u62, u63, u64, u65, u66, u67, u68, u69, u70, u71, u72, u73, u74, u75, u76, u77, u78, u79, u80, u81, u82, u83, u84, u85, u86, u87, u88, u89, u90, u91, u92, u93, u94, u95, u96, u97, u98, u99, u100, u101, u102, u103, u104, u105, u106, u107, u108, u109, u110, u111, u112, u113, u114, u115, u116, u117, u118, u119, u120, u121, u122, u123, u124, u125, u126, u127, u128, u129, u130, u131, u132, u133, u134, u135, u136, u137, u138, u139, u140, u141, u142, u143, u144, u145, u146, u147, u148, u149, u150, u151, u152, u153, u154, u155, u156, u157, u158, u159, u160, u161, u162, u163, u164, u165, u166, u167, u168, u169, u170, u171, u172, u173, u174, u175, u176, u177, u178, u179, u180, u181, u182, u183, u184, u185, u186, u187, u188, u189, u190, u191, u192, u193, u194, u195, u196, u197, u198, u199, u200, u201, u202, u203, u204, u205, u206, u207, u208, u209, u210, u211, u212, u213, u214, u215, u216, u217, u218, u219, u220, u221, u222, u223, u224, u225, u226, u227, u228, u229, u230, u231, u232, u233, u234, u235, u236, u237, u238, u239, u240, u241, u242, u243, u244, u245, u246, u247, u248, u249, u250, u251, u252, u253, u254, u255, u256, u257, u258, u259, u260, u261, u262, u263, u264, u265, u266, u267, u268, u269, u270, u271, u272, u273, u274, u275, u276, u277, u278, u279, u280, u281, u282, u283], defers := [] }) → J_d a' w')
    (a_d1 : ∀ (a' : Act) (w' : World), Met J_d a' w' → Kq_d a' w')
    (HI : Hid (LI w0 G hb lb Gs i (Value.slice ta s.tabs.length tc) sv lv s val last blk))
    (hnt9 : nt ≤ 100)
    (HPO : Hid (PlanOk s ins out low high))
    (hnp9 : np ≤ 100)
    (HNP : Hid (np = ins.length))
    (P6 : Hid (P5 pb (Value.slice pa np pc) out (bs low) (bs high) bot w6))
    (I6 : Hid (RdL (fun b => w3.heap.size ≤ b) w6 (Value.slice pa np pc) np (flat icell (List.map (fun x => x.file) ins))))
    (KP6 : Hid (Kp lb w0 w6))
    (K6 : Hid (Below w.heap.size w w6))
    (M6' : Hid (MS w6 hm 0 (hereK val ins 0)))
    (HPB : Hid (w3.heap.size ≤ pb ∧ xb < w3.heap.size))
    (hk : k ≤ np)
    (hM : Hid (MS wr hm (k * 3000) (hereK val ins k)))
    (hKP : Hid (Kp hm w6 wr))
    (hKK : Hid (Below w.heap.size w wr))
    (hE : Hid (OffRow wr w6.heap.size 47 6 (Value.slice ea k ec) k (flat ecell (List.map dropEd (List.take k ins)))))
    (PR : Hid (P5 pb (Value.slice pa np pc) out (bs low) (bs high) bot wr))
    (r0 : wr.cell? { block := pb, off := 0 } = some (Value.slice pa np pc))
    (r1 : wr.cell? { block := pb, off := 1 } = some (Value.int IntKind.i64 out))
    (r2 : wr.cell? { block := pb, off := 2 } = some (Value.string (bs low)))
    (r3 : wr.cell? { block := pb, off := 3 } = some (Value.string (bs high)))
    (r4 : wr.cell? { block := pb, off := 4 } = some (Value.bool bot))
    (hkl : k < np)
    (hkl2 : (k : Int) < (np : Int))
    (hpan : ∀ x (a : Act) dd vv w, Qq_d (Exit.panic x) (a.put dd vv) w → Qq_d (Exit.panic x) a w)
    {cc : Code} (hcc : cc = codeTake) :
    Code.wp Tryz.prog cc (Exit.then (fun a' w' => (∃ u12 u18 u19 u20 u21 u22 u23 u24 u25 u136 u137 u138 u139 u140 u141 u142 u143 u144 u145 u146 u147 u148 u149 u150 u151 u152 u153 u154 u155 u156 u157 u158 u159 u160 u161 u162 u163 u164 u165 u166 u167 u168 u169 u170 u171 u172 u173 u174 u175 u176 u177 u178 u179 u180 u181 u182 u183 u184 u185 u186 u187 u188 u189 u190 u191 u192 u193 u194 u195 u196 u197 u198 u199 u200, (∃ k, k ≤ np ∧ u18 = Value.int IntKind.i64 (k : Int) ∧ Hid (OffRow w' w6.heap.size 47 6 u12 k (flat ecell (List.map dropEd (List.take k ins)))) ∧ Hid (MS w' hm (k * 3000) (hereK val ins k)) ∧ Hid (Kp hm w6 w') ∧ Hid (Below w.heap.size w w')) ∧ a' = { tmps := #[Value.slice (some { block := tb, off := toff }) len cap, Value.int IntKind.u8 fan, Value.slice qa qn qc, undef, undef, undef, u6, Value.pointer (some { block := G, off := 0 }), Value.map (some hb), Value.map (some lb), Value.int IntKind.i64 (i : Int), Value.map (some hm), u12, Value.pointer (some { block := xb, off := 0 }), u14, u15, Value.pointer (some { block := pb, off := 0 }), Value.bool true, u18, u19, u20, u21, u22, u23, u24, u25, u26, u27, u28, u29, u30, u31, u32, u33, u34, Value.bool true, Value.bool false, Value.bool false, Value.slice (some { block := tb, off := toff }) len cap, Value.int IntKind.i64 (len : Int), Value.bool (decide (100 < (len : Int))), Value.bool (decide (100 < (len : Int))), Value.bool (decide (100 < (len : Int))), Value.slice qa qn qc, Value.int IntKind.i64 (qn : Int), Value.bool (decide (50 < (qn : Int))), Value.bool (decide (100 < (len : Int)) || decide (50 < (qn : Int))), undef, Value.map (some hb), Value.map (some lb), Value.int IntKind.i64 (i : Int), Value.slice (some { block := tb, off := toff }) len cap, Value.int IntKind.i64 (len : Int), Value.bool true, u54, u55, Value.slice (some { block := tb, off := toff }) len cap, Value.int IntKind.i64 (i : Int), Value.pointer (some { block := tb, off := toff + i }), Value.pointer (some { block := tb, off := toff + i }), Value.slice ga gn gc, Value.int IntKind.i64 (gn : Int), Value.bool (decide (30 < (gn : Int))), Value.map (some hm), Value.int IntKind.i64 (i : Int), Value.int IntKind.i64 ((i : Int) + 1), Value.agg #[Value.int IntKind.i64 1, Value.int IntKind.i64 ((i : Int) + 1), Value.int IntKind.i64 0, Value.int IntKind.i64 0, Value.string { data := #[] }, Value.string { data := #[] }], Value.slice (some { block := tb, off := toff }) len cap, Value.int IntKind.i64 (i : Int), Value.pointer (some { block := tb, off := toff + i }), Value.pointer (some { block := tb, off := toff + i }), Value.slice ga gn gc, Value.int IntKind.i64 (gn : Int), Value.bool false, u74, u75, u76, u77, u78, u79, u80, u81, u82, u83, u84, u85, u86, u87, u88, u89, u90, u91, u92, u93, u94, u95, u96, u97, u98, u99, u100, u101, u102, u103, u104, u105, u106, u107, u108, u109, u110, u111, u112, u113, u114, u115, u116, u117, u118, u119, u120, u121, u122, u123, Value.tuple #[Value.agg #[Value.slice pa np pc, Value.int IntKind.i64 out, Value.string (bs low), Value.string (bs high), Value.bool bot], Value.bool true], Value.pointer (some { block := G, off := 0 }), Value.slice ta nt tc, Value.int IntKind.u8 fan, Value.int IntKind.u8 (fan.tmod 15), Value.int IntKind.i64 (wrap64 (fan.tmod 15)), Value.int IntKind.i64 f, Value.tuple #[Value.agg #[Value.slice pa np pc, Value.int IntKind.i64 out, Value.string (bs low), Value.string (bs high), Value.bool bot], Value.bool true], Value.agg #[Value.slice pa np pc, Value.int IntKind.i64 out, Value.string (bs low), Value.string (bs high), Value.bool bot], Value.bool true, Value.bool true, Value.bool false, u136, u137, u138, u139, u140, u141, u142, u143, u144, u145, u146, u147, u148, u149, u150, u151, u152, u153, u154, u155, u156, u157, u158, u159, u160, u161, u162, u163, u164, u165, u166, u167, u168, u169, u170, u171, u172, u173, u174, u175, u176, u177, u178, u179, u180, u181, u182, u183, u184, u185, u186, u187, u188, u189, u190, u191, u192, u193, u194, u195, u196, u197, u198, u199, u200, u201, u202, u203, u204, u205, u206, u207, u208, u209, u210, u211, u212, u213, u214, u215, u216, u217, u218, u219, u220, u221, u222, u223, u224, u225, u226, u227, u228, u229, u230, u231, u232, u233, u234, u235, u236, u237, u238, u239, u240, u241, u242, u243, u244, u245, u246, u247, u248, u249, u250, u251, u252, u253, u254, u255, u256, u257, u258, u259, u260, u261, u262, u263, u264, u265, u266, u267, u268, u269, u270, u271, u272, u273, u274, u275, u276, u277, u278, u279, u280, u281, u282, u283], defers := [] }) ∧ np - (intOf (a'.tmps.getD 18 undef)).toNat < np - (intOf (#[Value.slice (some { block := tb, off := toff }) len cap, Value.int IntKind.u8 fan, Value.slice qa qn qc, undef, undef, undef, u6, Value.pointer (some { block := G, off := 0 }), Value.map (some hb), Value.map (some lb), Value.int IntKind.i64 (i : Int), Value.map (some hm), Value.slice ea k ec, Value.pointer (some { block := xb, off := 0 }), u14, u15, Value.pointer (some { block := pb, off := 0 }), Value.bool true, Value.int IntKind.i64 (k : Int), u19, u20, u21, u22, u23, u24, u25, u26, u27, u28, u29, u30, u31, u32, u33, u34, Value.bool true, Value.bool false, Value.bool false, Value.slice (some { block := tb, off := toff }) len cap, Value.int IntKind.i64 (len : Int), Value.bool (decide (100 < (len : Int))), Value.bool (decide (100 < (len : Int))), Value.bool (decide (100 < (len : Int))), Value.slice qa qn qc, Value.int IntKind.i64 (qn : Int), Value.bool (decide (50 < (qn : Int))), Value.bool (decide (100 < (len : Int)) || decide (50 < (qn : Int))), undef, Value.map (some hb), Value.map (some lb), Value.int IntKind.i64 (i : Int), Value.slice (some { block := tb, off := toff }) len cap, Value.int IntKind.i64 (len : Int), Value.bool true, u54, u55, Value.slice (some { block := tb, off := toff }) len cap, Value.int IntKind.i64 (i : Int), Value.pointer (some { block := tb, off := toff + i }), Value.pointer (some { block := tb, off := toff + i }), Value.slice ga gn gc, Value.int IntKind.i64 (gn : Int), Value.bool (decide (30 < (gn : Int))), Value.map (some hm), Value.int IntKind.i64 (i : Int), Value.int IntKind.i64 ((i : Int) + 1), Value.agg #[Value.int IntKind.i64 1, Value.int IntKind.i64 ((i : Int) + 1), Value.int IntKind.i64 0, Value.int IntKind.i64 0, Value.string { data := #[] }, Value.string { data := #[] }], Value.slice (some { block := tb, off := toff }) len cap, Value.int IntKind.i64 (i : Int), Value.pointer (some { block := tb, off := toff + i }), Value.pointer (some { block := tb, off := toff + i }), Value.slice ga gn gc, Value.int IntKind.i64 (gn : Int), Value.bool false, u74, u75, u76, u77, u78, u79, u80, u81, u82, u83, u84, u85, u86, u87, u88, u89, u90, u91, u92, u93, u94, u95, u96, u97, u98, u99, u100, u101, u102, u103, u104, u105, u106, u107, u108, u109, u110, u111, u112, u113, u114, u115, u116, u117, u118, u119, u120, u121, u122, u123, Value.tuple #[Value.agg #[Value.slice pa np pc, Value.int IntKind.i64 out, Value.string (bs low), Value.string (bs high), Value.bool bot], Value.bool true], Value.pointer (some { block := G, off := 0 }), Value.slice ta nt tc, Value.int IntKind.u8 fan, Value.int IntKind.u8 (fan.tmod 15), Value.int IntKind.i64 (wrap64 (fan.tmod 15)), Value.int IntKind.i64 f, Value.tuple #[Value.agg #[Value.slice pa np pc, Value.int IntKind.i64 out, Value.string (bs low), Value.string (bs high), Value.bool bot], Value.bool true], Value.agg #[Value.slice pa np pc, Value.int IntKind.i64 out, Value.string (bs low), Value.string (bs high), Value.bool bot], Value.bool true, Value.bool true, Value.bool false, u136, u137, u138, u139, u140, u141, u142, u143, u144, u145, u146, u147, u148, u149, u150, u151, u152, u153, u154, u155, u156, u157, u158, u159, u160, u161, u162, u163, u164, u165, u166, u167, u168, u169, u170, u171, u172, u173, u174, u175, u176, u177, u178, u179, u180, u181, u182, u183, u184, u185, u186, u187, u188, u189, u190, u191, u192, u193, u194, u195, u196, u197, u198, u199, u200, u201, u202, u203, u204, u205, u206, u207, u208, u209, u210, u211, u212, u213, u214, u215, u216, u217, u218, u219, u220, u221, u222, u223, u224, u225, u226, u227, u228, u229, u230, u231, u232, u233, u234, u235, u236, u237, u238, u239, u240, u241, u242, u243, u244, u245, u246, u247, u248, u249, u250, u251, u252, u253, u254, u255, u256, u257, u258, u259, u260, u261, u262, u263, u264, u265, u266, u267, u268, u269, u270, u271, u272, u273, u274, u275, u276, u277, u278, u279, u280, u281, u282, u283].getD 18 undef)).toNat) (Exit.inBlock 4 (Exit.then K_d (Exit.then Kq_d (Exit.inBlock 1 (Exit.then K_d2 Qq_d)))))) { tmps := #[Value.slice (some { block := tb, off := toff }) len cap, Value.int IntKind.u8 fan, Value.slice qa qn qc, undef, undef, undef, u6, Value.pointer (some { block := G, off := 0 }), Value.map (some hb), Value.map (some lb), Value.int IntKind.i64 (i : Int), Value.map (some hm), Value.slice ea k ec, Value.pointer (some { block := xb, off := 0 }), u14, u15, Value.pointer (some { block := pb, off := 0 }), Value.bool true, Value.int IntKind.i64 (k : Int), u19, u20, u21, u22, u23, u24, u25, u26, u27, u28, u29, u30, u31, u32, u33, u34, Value.bool true, Value.bool false, Value.bool false, Value.slice (some { block := tb, off := toff }) len cap, Value.int IntKind.i64 (len : Int), Value.bool (decide (100 < (len : Int))), Value.bool (decide (100 < (len : Int))), Value.bool (decide (100 < (len : Int))), Value.slice qa qn qc, Value.int IntKind.i64 (qn : Int), Value.bool (decide (50 < (qn : Int))), Value.bool (decide (100 < (len : Int)) || decide (50 < (qn : Int))), undef, Value.map (some hb), Value.map (some lb), Value.int IntKind.i64 (i : Int), Value.slice (some { block := tb, off := toff }) len cap, Value.int IntKind.i64 (len : Int), Value.bool true, u54, u55, Value.slice (some { block := tb, off := toff }) len cap, Value.int IntKind.i64 (i : Int), Value.pointer (some { block := tb, off := toff + i }), Value.pointer (some { block := tb, off := toff + i }), Value.slice ga gn gc, Value.int IntKind.i64 (gn : Int), Value.bool (decide (30 < (gn : Int))), Value.map (some hm), Value.int IntKind.i64 (i : Int), Value.int IntKind.i64 ((i : Int) + 1), Value.agg #[Value.int IntKind.i64 1, Value.int IntKind.i64 ((i : Int) + 1), Value.int IntKind.i64 0, Value.int IntKind.i64 0, Value.string { data := #[] }, Value.string { data := #[] }], Value.slice (some { block := tb, off := toff }) len cap, Value.int IntKind.i64 (i : Int), Value.pointer (some { block := tb, off := toff + i }), Value.pointer (some { block := tb, off := toff + i }), Value.slice ga gn gc, Value.int IntKind.i64 (gn : Int), Value.bool false, u74, u75, u76, u77, u78, u79, u80, u81, u82, u83, u84, u85, u86, u87, u88, u89, u90, u91, u92, u93, u94, u95, u96, u97, u98, u99, u100, u101, u102, u103, u104, u105, u106, u107, u108, u109, u110, u111, u112, u113, u114, u115, u116, u117, u118, u119, u120, u121, u122, u123, Value.tuple #[Value.agg #[Value.slice pa np pc, Value.int IntKind.i64 out, Value.string (bs low), Value.string (bs high), Value.bool bot], Value.bool true], Value.pointer (some { block := G, off := 0 }), Value.slice ta nt tc, Value.int IntKind.u8 fan, Value.int IntKind.u8 (fan.tmod 15), Value.int IntKind.i64 (wrap64 (fan.tmod 15)), Value.int IntKind.i64 f, Value.tuple #[Value.agg #[Value.slice pa np pc, Value.int IntKind.i64 out, Value.string (bs low), Value.string (bs high), Value.bool bot], Value.bool true], Value.agg #[Value.slice pa np pc, Value.int IntKind.i64 out, Value.string (bs low), Value.string (bs high), Value.bool bot], Value.bool true, Value.bool true, Value.bool false, u136, u137, u138, u139, u140, u141, u142, u143, u144, u145, u146, u147, u148, u149, u150, u151, u152, u153, u154, u155, u156, u157, u158, u159, u160, u161, u162, u163, u164, u165, u166, u167, u168, u169, u170, u171, u172, u173, u174, u175, u176, u177, u178, u179, u180, u181, u182, u183, u184, u185, u186, u187, u188, u189, u190, u191, u192, u193, u194, u195, u196, u197, u198, u199, u200, u201, u202, u203, u204, u205, u206, u207, u208, u209, u210, u211, u212, u213, u214, u215, u216, u217, u218, u219, u220, u221, u222, u223, u224, u225, u226, u227, u228, u229, u230, u231, u232, u233, u234, u235, u236, u237, u238, u239, u240, u241, u242, u243, u244, u245, u246, u247, u248, u249, u250, u251, u252, u253, u254, u255, u256, u257, u258, u259, u260, u261, u262, u263, u264, u265, u266, u267, u268, u269, u270, u271, u272, u273, u274, u275, u276, u277, u278, u279, u280, u281, u282, u283], defers := [] } wr := by
  subst hcc
  conv => arg 2; whnf
  obtain ⟨t, ht⟩ : ∃ t, ins[k]? = some t := ⟨_, List.getElem?_eq_getElem (by have := HNP.out; omega)⟩
  have HTK := Lib.hid ht
  have htab := HPO.out.sub t (List.mem_of_getElem? ht)
  have HTF := Lib.hid (show 1 ≤ t.file ∧ t.file ≤ (i : Int) from ⟨HI.out.sr.ok.pos _ (tab_file htab), HI.out.sr.few _ (tab_file htab)⟩)
  have hmt : True := trivial
  obtain ⟨es6, cc6, hmt6⟩ := M6'.out.tag
  have IR := Lib.hid (rdl_map I6.out hmt6 hKP.out)
  obtain ⟨ib, io, rfl, _, hib, hic⟩ := RdL.atI IR.out (show (ins.map (·.file))[k]? = some t.file by rw [List.getElem?_map, ht]; rfl) hkl
  have ci := hic 0 _ rfl
  simp only [Nat.mul_one, Nat.add_zero] at ci
  have HIC := Lib.hid (And.intro hib ci)
  have HDN := Lib.hid (show (ins.take (k + 1)).map dropEd = (ins.take k).map dropEd ++ [dropEd t] from map_next ht)
  obtain ⟨w7, hw7⟩ : ∃ w7, w7 = wr.alloc (.cells #[.int .i64 2, .int .i64 t.file, .int .i64 0, .int .i64 0, .string { data := #[] }, .string { data := #[] }] 47) := ⟨_, rfl⟩
  have HB6 := Lib.hid (show w6.heap.size ≤ wr.heap.size from hKP.out.size)
  have O7 := Lib.hid (show OffRow w7 w6.heap.size 47 6 (.slice ea k ec) k (flat ecell ((ins.take k).map dropEd)) by rw [hw7]; exact hE.out.allocd _)
  have K7 := Lib.hid (show Below wr.heap.size wr w7 by rw [hw7]; exact (Below.refl _ _).alloc (Nat.le_refl _) _)
  have HSR := Lib.hid (show Src Tryz.prog 6 30 (.slice (some ⟨wr.heap.size, 0, none⟩) 1 1) 1 (ecell (dropEd t)) w7 by
    have hb : w7.heap[wr.heap.size]? = some (.cells #[.int .i64 2, .int .i64 t.file, .int .i64 0, .int .i64 0, .string { data := #[] }, .string { data := #[] }] 47 (0, 0)) := by
      rw [hw7]
      exact heap_new wr _
    exact src_block (size := 6) (cs := #[.int .i64 2, .int .i64 t.file, .int .i64 0, .int .i64 0, .string { data := #[] }, .string { data := #[] }]) Tryz.underlying30 hb 1 1 rfl (ecell_one (dropEd t)))
  have HB7 := Lib.hid (show w6.heap.size ≤ w7.heap.size by have := K7.out.size; have := HB6.out; omega)
  rw [hw7] at O7 HSR HB7
  have HW7 := Lib.hid hw7
  obtain ⟨i0, hi0, hz0, hz1, hz2⟩ := info_parts infoEd
  have HIn := Lib.hid (And.intro hi0 (And.intro hz0 (And.intro hz1 hz2)))
  clear hw7 hi0 hz0 hz1 hz2 hic hib ht htab hmt hmt6
  go_wp2_with (at_builtin; refine wpList_append_off rfl (.tmp 143) (.tmp 150) 30 rfl w6.heap.size 47 i0 _ 6 64 Tryz.underlying30 HIn.out.1 HIn.out.2.1 HIn.out.2.2.1 HIn.out.2.2.2 rfl (.slice ea k ec) k _ rfl O7.out (.slice (some ⟨wr.heap.size, 0, none⟩) 1 1) rfl 1 _ HSR.out (by unfold maxLen; omega) (by omega) HB7.out ?_)
  intro v8 w8 hr8 hg8 hat8
  obtain ⟨ea8, ec8, rfl⟩ := OffRow.slice hr8
  rw [← HW7.out] at hg8
  have O8 := Lib.hid (show OffRow w8 w6.heap.size 47 6 (.slice ea8 (k + 1) ec8) (k + 1) (flat ecell ((ins.take (k + 1)).map dropEd)) by rw [HDN.out, flat_append, flat_one]; first | exact hr8 | (have := hr8; rw [← List.map_take] at this; exact this))
  have hown : ∀ j, (Value.slice ea k ec).ownBlock = some j → w6.heap.size ≤ j := fun j hj => (OffRow.lt hE.out j hj).1
  have hk8 : ∀ j, j < w6.heap.size → w8.heap[j]? = wr.heap[j]? := fun j hj => (hg8.block j (by have := HB6.out; have := K7.out.size; omega) (fun e => by have := hown j e.symm; omega)).trans (K7.out.block j (by have := HB6.out; omega))
  have KP8 := Lib.hid (hKP.out.other (Nat.le_trans K7.out.size hg8.size) hk8)
  have K8 := Lib.hid ((hKK.out.trans (K7.out.mono hKK.out.size)).grown hg8 (by have := hKK.out.size; have := K7.out.size; omega) (fun j hj => by have := hown j hj; have := K6.out.size; omega))
  have M8 := Lib.hid (hM.out.kept (hk8 hm (by have := HHM.out; have := HPB.out; have := heap_lt P6.out; omega)))
  have hwl : w8.heap.size ≥ w6.heap.size := KP8.out.size
  clear hr8 hg8 hat8 hown hk8 O7 HSR hE hM r0 r1 r2 r3 r4 ci PR IR hKP hKK HB6 K7 HB7 HW7
  go_wp2_with fail
  go_loopw [19] (fun jv wr => ∃ j : Nat, j ≤ i ∧ jv = .int .i64 (j : Int) ∧ Hid (MS wr hm (k * 3000 + j * 30) (hereS (hereK val ins k) (val t.file) ((Gs.take j).flatMap (·.L)))) ∧ Hid (Kp hm w8 wr) ∧ Hid (Below w.heap.size w wr)) (fun jv wr => i - (intOf jv).toNat)
  case atStart => exact ⟨0, Nat.zero_le _, rfl, Lib.hid ((M8.out.mono (show k * 3000 ≤ k * 3000 + 0 * 30 by omega)).same (fun x => by rw [List.take_zero, List.flatMap_nil, hereS_nil])), Lib.hid (Kp.refl _ _), K8⟩
  case round =>
    obtain ⟨j, hj, rfl, hMj, hKPj, hKj⟩ := hrel
    by_cases hjl : j < i
    · have hjl2 : (j : Int) < (i : Int) := by omega
      obtain ⟨tb2, toff2, gj, he2, hgj, hbj, hcj, hinj⟩ := h.out.at (show j < len by omega)
      obtain ⟨rfl, rfl⟩ : tb = tb2 ∧ toff = toff2 := by injection he2 with he2; injection he2 with h1 h2; exact ⟨h1, h2⟩
      have hshort := HI.out.short j gj hjl hgj
      have HSN := Lib.hid (seen_next hgj)
      have HGJ := Lib.hid hgj
      obtain ⟨ja, jn, jc, jL⟩ := gj
      simp only at hshort hcj hinj HSN
      have HJI := Lib.hid hinj
      have HCJ := Lib.hid hcj
      clear he2 hgj hinj hbj hcj
      obtain ⟨seen, hseen⟩ : ∃ seen, seen = (Gs.take j).flatMap (·.L) := ⟨_, rfl⟩
      rw [← hseen] at hMj HSN
      clear hseen
      go_wp2_with fail
      go_loopw [20] (fun qv wr => ∃ q : Nat, q ≤ jn ∧ qv = .int .i64 (q : Int) ∧ Hid (MS wr hm (k * 3000 + j * 30 + q) (hereS (hereK val ins k) (val t.file) (seen ++ jL.take q))) ∧ Hid (Kp hm w8 wr) ∧ Hid (Below w.heap.size w wr)) (fun qv wr => jn - (intOf qv).toNat)
      case atStart => exact ⟨0, Nat.zero_le _, rfl, Lib.hid ((hMj.out.mono (show k * 3000 + j * 30 ≤ k * 3000 + j * 30 + 0 by omega)).same (fun x => by rw [List.take_zero, List.append_nil])), hKPj, hKj⟩
      case round =>
        obtain ⟨q, hq', rfl, hMq, hKPq, hKq⟩ := hrel
        have cj : wr.cell? ⟨tb, toff + j, none⟩ = some (.slice ja jn jc) := by rw [hKq.out.cell (p := ⟨tb, toff + j, none⟩) HB.out]; exact HCJ.out
        by_cases hql : q < jn
        · have hql2 : (q : Int) < (jn : Int) := by omega
          obtain ⟨kb, ko, z, rfl, hz, hkb, hkc, hzl⟩ := HJI.out.at hql
          have kz : wr.cell? ⟨kb, ko + q, none⟩ = some (.string (bs z)) := by rw [hKq.out.cell (p := ⟨kb, ko + q, none⟩) hkb]; exact hkc
          have HSQ := Lib.hid (show jL.take (q + 1) = jL.take q ++ [z] by rw [List.take_add_one, hz]; rfl)
          have hkeep : ∀ b, b < w6.heap.size → b ≠ hm → wr.heap[b]? = w6.heap[b]? := fun b hb1 hb2 => (hKPq.out.kept b (by omega) hb2).trans (KP8.out.kept b hb1 hb2)
          have PR := Lib.hid (show P5 pb (.slice (some ⟨ib, io, none⟩) np pc) out (bs low) (bs high) bot wr from (hkeep pb (heap_lt P6.out) (by have := HPB.out; have := HHM.out; omega)).trans P6.out)
          obtain ⟨r0, r1, r2, r3, r4⟩ := PR.out.c0
          obtain ⟨es6, cc6, hmt6⟩ := M6'.out.tag
          obtain ⟨ib2, io2, hei, _, hib, hic⟩ := RdL.atI (rdl_map I6.out hmt6 ⟨by have := hKPq.out.size; omega, fun b hb1 hb2 => hkeep b hb1 hb2⟩) (show (ins.map (·.file))[k]? = some t.file by rw [List.getElem?_map, HTK.out]; rfl) hkl
          obtain ⟨rfl, rfl⟩ : ib = ib2 ∧ io = io2 := by injection hei with hei; injection hei with h1 h2; exact ⟨h1, h2⟩
          have ci := hic 0 _ rfl
          simp only [Nat.mul_one, Nat.add_zero] at ci
          have htab := HPO.out.sub t (List.mem_of_getElem? HTK.out)
          obtain ⟨bt, hbt1, hbt2, hbt3, hbt4⟩ := HI.out.mik KP6.out t htab
          have MT := Lib.hid (show MS wr bt 400000 (val t.file) from hbt4.kept (hkeep bt hbt4.lt (by have := HHM.out; omega)))
          have MOr := (HI.out.mok KP6.out).kept (hkeep hb (HI.out.mok KP6.out).lt (by have := HHM.out; have := HI.out.mo.lt; omega))
          have lk1 := MOr.look (by have := HTF.out; omega) (by have := HTF.out; omega) hbt1
          have lk2 := MT.out.look hzl
          have lk3 := hMq.out.look hzl
          have HKZ := Lib.hid (key_str hzl)
          have HZL := Lib.hid hzl
          clear hz hkb hkc hkeep hmt6 hei hib hic htab hbt1 hbt2 hbt3 hbt4 MOr hzl
          obtain ⟨H0, hH0⟩ : ∃ H, H = hereS (hereK val ins k) (val t.file) (seen ++ jL.take q) := ⟨_, rfl⟩
          rw [← hH0] at lk3 hMq
          have HH0 := Lib.hid hH0
          clear hH0
          cases hvz : val t.file z with
          | none =>
            rw [hvz] at lk2
            simp only [Option.getD_none, Option.isSome_none] at lk2
            have HNE := Lib.hid (show MS wr hm (k * 3000 + j * 30 + (q + 1)) (hereS (hereK val ins k) (val t.file) (seen ++ jL.take (q + 1))) by
              rw [HSQ.out, ← List.append_assoc, ← hereS_same (.inl hvz), ← HH0.out]
              exact hMq.out.mono (by omega))
            clear hvz hMq
            obtain ⟨c3, hc3⟩ : ∃ c, c = (H0 z).getD 0 := ⟨_, rfl⟩
            obtain ⟨b3, hb3⟩ : ∃ b, b = (H0 z).isSome := ⟨_, rfl⟩
            rw [← hc3, ← hb3] at lk3
            clear hc3 hb3
            go_wp2_with fail
            go_roundw
            case rel => exact ⟨q + 1, by omega, by go_num, HNE, hKPq, hKq⟩
            case measure => simp [intOf]; omega
          | some vz =>
            have HWF := Lib.hid (MT.out.wf HZL.out hvz)
            rw [hvz] at lk2
            simp only [Option.getD_some, Option.isSome_some] at lk2
            cases hhz : H0 z with
            | some uz =>
              rw [hhz] at lk3
              simp only [Option.getD_some, Option.isSome_some] at lk3
              have HNE := Lib.hid (show MS wr hm (k * 3000 + j * 30 + (q + 1)) (hereS (hereK val ins k) (val t.file) (seen ++ jL.take (q + 1))) by
                rw [HSQ.out, ← List.append_assoc, ← hereS_same (.inr (by rw [← HH0.out, hhz]; simp)), ← HH0.out]
                exact hMq.out.mono (by omega))
              clear hvz hMq hhz
              go_wp2_with fail
              go_roundw
              case rel => exact ⟨q + 1, by omega, by go_num, HNE, hKPq, hKq⟩
              case measure => simp [intOf]; omega
            | none =>
              rw [hhz] at lk3
              simp only [Option.getD_none, Option.isSome_none] at lk3
              obtain ⟨D1, hD1, hD1g⟩ := hMq.out
              have HD1 := Lib.hid (And.intro hD1 hD1g)
              have HE0 := Lib.hid (show plainElem (H := Unit) Tryz.prog 3 (.int .i64 vz) = some (.lit (.int .i64 vz), []) from plainElem_int Tryz.underlying3 HWF.out)
              have hmx1 : k * 3000 + j * 30 + q < maxLen := by unfold maxLen; omega
              have HPE := Lib.hid (show putG H0 z vz = hereS (hereK val ins k) (val t.file) (seen ++ jL.take (q + 1)) by
                rw [HSQ.out, ← List.append_assoc, HH0.out]
                exact hereS_put hvz (by rw [← HH0.out]; exact hhz))
              clear hvz hhz hD1 hD1g
              go_wp2_with (at_mapUpdate; refine wpList_mapUpdate_own _ rfl _ _ _ 89 rfl 9 3 keyedS Tryz.underlying89 _ hm _ _ rfl HD1.out.1 hmx1 _ _ _ rfl rfl HKZ.out _ [] HE0.out ?_)
              intro w9 hown9 hgrow9
              have HNE := Lib.hid (show MS w9 hm (k * 3000 + j * 30 + (q + 1)) (hereS (hereK val ins k) (val t.file) (seen ++ jL.take (q + 1))) by
                rw [← HPE.out]
                exact (MS.put HD1.out.1 HD1.out.2 hown9).mono (show k * 3000 + j * 30 + q + 1 ≤ k * 3000 + j * 30 + (q + 1) by omega))
              have KP9 := Lib.hid (hKPq.out.grown hgrow9 (.inl rfl))
              have K9 := Lib.hid (hKq.out.grown hgrow9 hKq.out.size (fun j hj => by injection hj with hj; have := HHM.out; have := hK.out.size; omega))
              clear hown9 hgrow9 hMq
              go_wp2_with fail
              go_roundw
              case rel => exact ⟨q + 1, by omega, by go_num, HNE, KP9, K9⟩
              case measure => simp [intOf]; omega
        · have hgeq : (jn : Int) ≤ (q : Int) := by omega
          have HNE := Lib.hid (show MS wr hm (k * 3000 + (j + 1) * 30) (hereS (hereK val ins k) (val t.file) ((Gs.take (j + 1)).flatMap (·.L))) by
            rw [HSN.out]
            have e : jL.take q = jL := List.take_of_length_le (by have := HJI.out.len; omega)
            have := hMq.out
            rw [e] at this
            exact this.mono (by omega))
          clear hMq
          go_wp2_with fail
          go_roundw
          case rel => exact ⟨j + 1, by omega, by go_num, HNE, hKPq, hKq⟩
          case measure => simp [intOf]; omega
    · have hgej : (i : Int) ≤ (j : Int) := by omega
      have HNE := Lib.hid (show MS wr hm ((k + 1) * 3000) (hereK val ins (k + 1)) by
        have hji : j = i := by omega
        subst hji
        have htab := HPO.out.sub t (List.mem_of_getElem? HTK.out)
        have := hereS_all (val := val) (seen := (Gs.take j).flatMap (·.L)) HTK.out (fun x v hv => by
          obtain ⟨j', g', h1, h2, h3⟩ := HI.out.key t htab x v hv
          refine List.mem_flatMap.2 ⟨g', List.mem_of_getElem? (i := j') ?_, h3⟩
          rw [List.getElem?_take, if_pos h1]; exact h2)
        rw [← this]
        exact hMj.out.mono (by omega))
      have KPn := Lib.hid (show Kp hm w6 wr from ⟨by have := hKPj.out.size; omega, fun b hb1 hb2 => (hKPj.out.kept b (by omega) hb2).trans (KP8.out.kept b hb1 hb2)⟩)
      have On := Lib.hid (show OffRow wr w6.heap.size 47 6 (.slice ea8 (k + 1) ec8) (k + 1) (flat ecell ((ins.take (k + 1)).map dropEd)) from OffRow.kept O8.out fun b hb => hKPj.out.kept b (OffRow.lt O8.out b hb).2 (fun e => by
        have := (OffRow.lt O8.out b hb).1
        have := HHM.out
        have := HPB.out
        have := heap_lt P6.out
        omega))
      clear hMj hKPj
      go_wp2_with fail
      go_roundw
      case rel => first | exact ⟨k + 1, by omega, by go_num, On, HNE, KPn, hKj⟩ | ((repeat apply Exists.intro); refine And.intro ?_ rfl; exact ⟨k + 1, by omega, by go_num, On, HNE, KPn, hKj⟩)
      case measure => simp [intOf]; omega
end Go.Proofs.YtfbaenhajlckjaaGreat
/- LevelsServes, walked: a piece (serves_edits). -/
set_option linter.unusedVariables false
set_option maxRecDepth 1000000
namespace Go.Proofs.YtfbaenhajlckjaaGreat
open Go.RowKit Go.Maps Go.WideShapes Go.ChangeMaps

set_option maxHeartbeats 40000000 in
/-- The last edit of a merge. -/
theorem serves_edits {qa : Option Addr} {len cap qn qc : Nat} {Gs : List Tn} {fan : Int} {w : World} {G : Nat} {hb lb : Nat} {u6 u14 u15 u26 u27 u28 u29 u30 u31 u32 u33 u34 u54 u55 u74 u75 u76 u77 u78 u79 u80 u81 u82 u83 u84 u85 u86 u87 u88 u89 u90 u91 u92 u93 u94 u95 u96 u97 u98 u99 u100 u101 u102 u103 u104 u105 u106 u107 u108 u109 u110 u111 u112 u113 u114 u115 u116 u117 u118 u119 u120 u121 u122 u123 u201 u202 u203 u204 u205 u206 u207 u208 u209 u210 u211 u212 u213 u214 u215 u216 u217 u218 u219 u220 u221 u222 u223 u224 u225 u226 u227 u228 u229 u230 u231 u232 u233 u234 u235 u236 u237 u238 u239 u240 u241 u242 u243 u244 u245 u246 u247 u248 u249 u250 u251 u252 u253 u254 u255 u256 u257 u258 u259 u260 u261 u262 u263 u264 u265 u266 u267 u268 u269 u270 u271 u272 u273 u274 u275 u276 u277 u278 u279 u280 u281 u282 u283 : Value} {i : Nat} {sv lv : Value} {s : St} {val : Int → List UInt8 → Option Int} {last : List UInt8 → Option Int} {blk : Int → Option Nat} {tb toff : Nat} {ga : Option Addr} {gn gc : Nat} {w0 : World} {hm : Nat} {xb : Nat} {Qq_d1 : Exit → Act → World → Prop} {K_d3 : Act → World → Prop} {J_d Kq_d : Act → World → Prop} {ta : Option Addr} {tc : Nat} {nt : Nat} {f : Int} {pa : Option Addr} {pc : Nat} {ins : List Tb} {out : Int} {low high : List UInt8} {bot : Bool} {np : Nat} {w6 : World} {pb : Nat} {wr : World} {u19 u20 u21 u22 u23 u24 u25 u141 u142 u143 u144 u145 u146 u147 u148 u149 u150 u151 u152 u153 u154 u155 u156 u157 u158 u159 u160 u161 u162 u163 u164 u165 u166 u167 u168 u169 u170 u171 u172 u173 u174 u175 u176 u177 u178 u179 u180 u181 u182 u183 u184 u185 u186 u187 u188 u189 u190 u191 u192 u193 u194 u195 u196 u197 u198 u199 u200 : Value} {k : Nat} {ea : Option Addr} {ec : Nat}
    (hbig : len ≤ 9223372036854775807)
    (hqbig : qn ≤ 9223372036854775807)
    (hmm : ∀ (t : TypeId) (w : World), Sem.run Tryz.prog (Instr.makeMap t none) w = Result.ok (Value.map (some w.heap.size)) (w.alloc (Obj.map #[] 0)))
    (hlen : len ≤ 100)
    (hqn : qn ≤ 50)
    (hlen' : (len : Int) ≤ 100)
    (hqn' : (qn : Int) ≤ 50)
    (hi : i ≤ len)
    (hlt : i < len)
    (hlt2 : (i : Int) < (len : Int))
    (h : Hid (InT w (some { block := tb, off := toff }) len cap Gs))
    (hK : Hid (Below w.heap.size w w0))
    (hgn : ¬30 < gn)
    (hgn' : (gn : Int) ≤ 30)
    (HHM : Hid (w0.heap.size ≤ hm ∧ hm < xb))
    (HG0 : Hid (lb < w0.heap.size))
    (hwi : IntKind.i64.wrap ((i : Int) + 1) = (i : Int) + 1)
    (a_d2 : ∀ (a' : Act) (w' : World), (∃ u12 u14 u15 u16 u17 u18 u19 u20 u21 u22 u23 u24 u25 u50 u51 u52 u53 u54 u55 u56 u57 u58 u59 u60 u61 u62 u63 u64 u65 u66 u67 u68 u69 u70 u71 u72 u73 u74 u75 u76 u77 u78 u79 u80 u81 u82 u83 u84 u85 u86 u87 u88 u89 u90 u91 u92 u93 u94 u95 u96 u97 u98 u99 u100 u101 u102 u103 u104 u105 u106 u107 u108 u109 u110 u111 u112 u113 u114 u115 u116 u117 u118 u119 u120 u121 u122 u123 u124 u125 u126 u127 u128 u129 u130 u131 u132 u133 u134 u135 u136 u137 u138 u139 u140 u141 u142 u143 u144 u145 u146 u147 u148 u149 u150 u151 u152 u153 u154 u155 u156 u157 u158 u159 u160 u161 u162 u163 u164 u165 u166 u167 u168 u169 u170 u171 u172 u173 u174 u175 u176 u177 u178 u179 u180 u181 u182 u183 u184 u185 u186 u187 u188 u189 u190 u191 u192 u193 u194 u195 u196 u197 u198 u199 u200 u201 u202 u203 u204 u205 u206 u207 u208 u209 u210 u211 u212 u213 u214 u215 u216 u217 u218 u219 u220 u221 u222 u223 u224 u225 u226 u227 u228 u229 u230 u231 u232 u233 u234 u235 u236 u237 u238 u239 u240 u241 u242 u243 u244 u245 u246 u247 u248 u249 u250 u251 u252 u253 u254 u255 u256 u257 u258 u259 u260 u261 u262 u263 u264 u265 u266 u267 u268 u269 u270 u271 u272 u273 u274 u275 u276 u277 u278 u279 u280 u281 u282 u283, Hid (RD w.heap.size w w0 lb hm xb i Gs s val u12 w') ∧ a' = { tmps := #[Value.slice (some { block := tb, off := toff }) len cap, Value.int IntKind.u8 fan, Value.slice qa qn qc, undef, undef, undef, u6, Value.pointer (some { block := G, off := 0 }), Value.map (some hb), Value.map (some lb), Value.int IntKind.i64 (i : Int), Value.map (some hm), u12, Value.pointer (some { block := xb, off := 0 }), u14, u15, u16, u17, u18, u19, u20, u21, u22, u23, u24, u25, u26, u27, u28, u29, u30, u31, u32, u33, u34, Value.bool true, Value.bool false, Value.bool false, Value.slice (some { block := tb, off := toff }) len cap, Value.int IntKind.i64 (len : Int), Value.bool (decide (100 < (len : Int))), Value.bool (decide (100 < (len : Int))), Value.bool (decide (100 < (len : Int))), Value.slice qa qn qc, Value.int IntKind.i64 (qn : Int), Value.bool (decide (50 < (qn : Int))), Value.bool (decide (100 < (len : Int)) || decide (50 < (qn : Int))), undef, Value.map (some hb), Value.map (some lb), u50, u51, u52, u53, u54, u55, u56, u57, u58, u59, u60, u61, u62, u63, u64, u65, u66, u67, u68, u69, u70, u71, u72, u73, u74, u75, u76, u77, u78, u79, u80, u81, u82, u83, u84, u85, u86, u87, u88, u89, u90, u91, u92, u93, u94, u95, u96, u97, u98, u99, u100, u101, u102, u103, u104, u105, u106, u107, u108, u109, u110, u111, u112, u113, u114, u115, u116, u117, u118, u119, u120, u121, u122, u123, u124, u125, u126, u127, u128, u129, u130, u131, u132, u133, u134, u135, u136, u137, u138, u139, u140, u141, u142, u143, u144, u145, u146, u147, u148, u149, u150, u151, u152, u153, u154, u155, u156, u157, u158, u159, u160, u161, u162, u163, u164, u165, u166, u167, u168, u169, u170, u171, u172, u173, u174, u175, u176, u177, u178, u179, u180, u181, u182, u183, u184, u185, u186, u187, u188, u189, u190, u191, u192, u193, u194, u195, u196, u197, u198, u199, u200, u201, u202, u203, u204, u205, u206, u207, u208, u209, u210, u211, u212, u213, u214, u215, u216, u217, u218, u219, u220, u221, u222, u223, u224, u225, u226, u227, u228, u229, u230, u231, u232, u233, u234, u235, u236, u237, u238, u239, u240, u241, u242, u243, u244, u245, u246, u247, u248, u249, u250, u251, u252, u253, u254, u255, u256, u257, u258, u259, u260, u261, u262, u263, u264, u265, u266, u267, u268, u269, u270, u271, u272, u273, u274, u275, u276, u277, u278, u279, u280, u281, u282, u283], defers := [] }) → J_d a' w')
    (a_d1 : ∀ (a' : Act) (w' : World), Met J_d a' w' → Kq_d a' w')
    (HI : Hid (LI w0 G hb lb Gs i (Value.slice ta s.tabs.length tc) sv lv s val last blk))
    (hnt9 : nt ≤ 100)
    (HPO : Hid (PlanOk s ins out low high))
    (hnp9 : np ≤ 100)
    (HNP : Hid (np = ins.length))
    (KP6 : Hid (Kp lb w0 w6))
    (L6 : Hid (MS w6 lb ((i + 1) * 30) last))
    (hk : k ≤ np)
    (hKP : Hid (Kp hm w6 wr))
    (hKK : Hid (Below w.heap.size w wr))
    (PR : Hid (P5 pb (Value.slice pa np pc) out (bs low) (bs high) bot wr))
    (r0 : wr.cell? { block := pb, off := 0 } = some (Value.slice pa np pc))
    (r1 : wr.cell? { block := pb, off := 1 } = some (Value.int IntKind.i64 out))
    (r2 : wr.cell? { block := pb, off := 2 } = some (Value.string (bs low)))
    (r3 : wr.cell? { block := pb, off := 3 } = some (Value.string (bs high)))
    (r4 : wr.cell? { block := pb, off := 4 } = some (Value.bool bot))
    (hkl : ¬k < np)
    (hgek : (np : Int) ≤ (k : Int))
    (HKN : Hid (k = np))
    (HXB : Hid (xb < w6.heap.size ∧ xb ≠ hm ∧ hm < xb ∧ pb ≠ xb ∧ pb < wr.heap.size))
    (X7 : Hid (E6 xb { kind := 1, file := (i : Int) + 1, lev := 0, cnt := 0, low := [], high := [] } wr))
    (HEK : Hid (OffRow wr w6.heap.size 47 6 (Value.slice ea k ec) k (flat ecell (List.map dropEd ins))))
    (HML : Hid (MS wr hm 400000 fun x => List.findSome? (fun t => val t.file x) ins))
    (hpan : ∀ x (a : Act) dd vv w, Qq_d1 (Exit.panic x) (a.put dd vv) w → Qq_d1 (Exit.panic x) a w)
    {cc : Code} (hcc : cc = codeEdits) :
    Code.wp Tryz.prog cc (Exit.then Kq_d (Exit.inBlock 1 (Exit.then K_d3 Qq_d1))) { tmps := #[Value.slice (some { block := tb, off := toff }) len cap, Value.int IntKind.u8 fan, Value.slice qa qn qc, undef, undef, undef, u6, Value.pointer (some { block := G, off := 0 }), Value.map (some hb), Value.map (some lb), Value.int IntKind.i64 (i : Int), Value.map (some hm), Value.slice ea k ec, Value.pointer (some { block := xb, off := 0 }), u14, u15, Value.pointer (some { block := pb, off := 0 }), Value.bool true, Value.int IntKind.i64 (k : Int), u19, u20, u21, u22, u23, u24, u25, u26, u27, u28, u29, u30, u31, u32, u33, u34, Value.bool true, Value.bool false, Value.bool false, Value.slice (some { block := tb, off := toff }) len cap, Value.int IntKind.i64 (len : Int), Value.bool (decide (100 < (len : Int))), Value.bool (decide (100 < (len : Int))), Value.bool (decide (100 < (len : Int))), Value.slice qa qn qc, Value.int IntKind.i64 (qn : Int), Value.bool (decide (50 < (qn : Int))), Value.bool (decide (100 < (len : Int)) || decide (50 < (qn : Int))), undef, Value.map (some hb), Value.map (some lb), Value.int IntKind.i64 (i : Int), Value.slice (some { block := tb, off := toff }) len cap, Value.int IntKind.i64 (len : Int), Value.bool true, u54, u55, Value.slice (some { block := tb, off := toff }) len cap, Value.int IntKind.i64 (i : Int), Value.pointer (some { block := tb, off := toff + i }), Value.pointer (some { block := tb, off := toff + i }), Value.slice ga gn gc, Value.int IntKind.i64 (gn : Int), Value.bool (decide (30 < (gn : Int))), Value.map (some hm), Value.int IntKind.i64 (i : Int), Value.int IntKind.i64 ((i : Int) + 1), Value.agg #[Value.int IntKind.i64 1, Value.int IntKind.i64 ((i : Int) + 1), Value.int IntKind.i64 0, Value.int IntKind.i64 0, Value.string { data := #[] }, Value.string { data := #[] }], Value.slice (some { block := tb, off := toff }) len cap, Value.int IntKind.i64 (i : Int), Value.pointer (some { block := tb, off := toff + i }), Value.pointer (some { block := tb, off := toff + i }), Value.slice ga gn gc, Value.int IntKind.i64 (gn : Int), Value.bool false, u74, u75, u76, u77, u78, u79, u80, u81, u82, u83, u84, u85, u86, u87, u88, u89, u90, u91, u92, u93, u94, u95, u96, u97, u98, u99, u100, u101, u102, u103, u104, u105, u106, u107, u108, u109, u110, u111, u112, u113, u114, u115, u116, u117, u118, u119, u120, u121, u122, u123, Value.tuple #[Value.agg #[Value.slice pa np pc, Value.int IntKind.i64 out, Value.string (bs low), Value.string (bs high), Value.bool bot], Value.bool true], Value.pointer (some { block := G, off := 0 }), Value.slice ta nt tc, Value.int IntKind.u8 fan, Value.int IntKind.u8 (fan.tmod 15), Value.int IntKind.i64 (wrap64 (fan.tmod 15)), Value.int IntKind.i64 f, Value.tuple #[Value.agg #[Value.slice pa np pc, Value.int IntKind.i64 out, Value.string (bs low), Value.string (bs high), Value.bool bot], Value.bool true], Value.agg #[Value.slice pa np pc, Value.int IntKind.i64 out, Value.string (bs low), Value.string (bs high), Value.bool bot], Value.bool true, Value.bool true, Value.bool false, Value.int IntKind.i64 (k : Int), Value.pointer (some { block := pb, off := 0 }), Value.slice pa np pc, Value.int IntKind.i64 (np : Int), Value.bool false, u141, u142, u143, u144, u145, u146, u147, u148, u149, u150, u151, u152, u153, u154, u155, u156, u157, u158, u159, u160, u161, u162, u163, u164, u165, u166, u167, u168, u169, u170, u171, u172, u173, u174, u175, u176, u177, u178, u179, u180, u181, u182, u183, u184, u185, u186, u187, u188, u189, u190, u191, u192, u193, u194, u195, u196, u197, u198, u199, u200, u201, u202, u203, u204, u205, u206, u207, u208, u209, u210, u211, u212, u213, u214, u215, u216, u217, u218, u219, u220, u221, u222, u223, u224, u225, u226, u227, u228, u229, u230, u231, u232, u233, u234, u235, u236, u237, u238, u239, u240, u241, u242, u243, u244, u245, u246, u247, u248, u249, u250, u251, u252, u253, u254, u255, u256, u257, u258, u259, u260, u261, u262, u263, u264, u265, u266, u267, u268, u269, u270, u271, u272, u273, u274, u275, u276, u277, u278, u279, u280, u281, u282, u283], defers := [] } wr := by
  subst hcc
  conv => arg 2; whnf
  refine wp_region_kept (fun W => ∀ j, j < wr.heap.size → j ≠ xb → W.heap[j]? = wr.heap[j]?) (by as_aux_lemma => kernel_rfl) ?_
  change wpAnyE _ _ _ _ _ _ _ _ _ wr.drew
  have hS : Below wr.heap.size wr wr.drew := (Below.refl _ _).drew
  have hSS : ∀ j, j < wr.heap.size → j ≠ xb → wr.drew.heap[j]? = wr.heap[j]? := fun j hj _ => hS.block j hj
  generalize wr.drew = w7 at *
  refine kept_take (i := 0) (d := 201) (v := (.pointer (some ⟨pb, 1, none⟩))) rfl rfl (by as_aux_lemma => kernel_rfl) (by as_aux_lemma => kernel_rfl) (by as_aux_lemma => kernel_rfl) (fun _ _ _ h => hpan _ _ _ _ _ h) (Or.inl ⟨by rfl, ?_⟩) hSS ?_
  · intro w' hw'
    go_simp
  try go_frame
  refine kept_take (i := 1) (d := 202) (v := (.int .i64 out)) rfl rfl (by as_aux_lemma => kernel_rfl) (by as_aux_lemma => kernel_rfl) (by as_aux_lemma => kernel_rfl) (fun _ _ _ h => hpan _ _ _ _ _ h) (Or.inl ⟨by rfl, ?_⟩) hSS ?_
  · intro w' hw'
    obtain ⟨s0, s1, s2, s3, s4⟩ := (show P5 pb (.slice pa np pc) out (bs low) (bs high) bot w' from (hw' pb HXB.out.2.2.2.2 HXB.out.2.2.2.1).trans PR.out).c0
    go_simp
  try go_frame
  refine kept_take (i := 2) (d := 203) (v := (.pointer (some ⟨pb, 2, none⟩))) rfl rfl (by as_aux_lemma => kernel_rfl) (by as_aux_lemma => kernel_rfl) (by as_aux_lemma => kernel_rfl) (fun _ _ _ h => hpan _ _ _ _ _ h) (Or.inl ⟨by rfl, ?_⟩) hSS ?_
  · intro w' hw'
    go_simp
  try go_frame
  refine kept_take (i := 3) (d := 204) (v := (.string (bs low))) rfl rfl (by as_aux_lemma => kernel_rfl) (by as_aux_lemma => kernel_rfl) (by as_aux_lemma => kernel_rfl) (fun _ _ _ h => hpan _ _ _ _ _ h) (Or.inl ⟨by rfl, ?_⟩) hSS ?_
  · intro w' hw'
    obtain ⟨s0, s1, s2, s3, s4⟩ := (show P5 pb (.slice pa np pc) out (bs low) (bs high) bot w' from (hw' pb HXB.out.2.2.2.2 HXB.out.2.2.2.1).trans PR.out).c0
    go_simp
  try go_frame
  refine kept_take (i := 4) (d := 205) (v := (.pointer (some ⟨pb, 3, none⟩))) rfl rfl (by as_aux_lemma => kernel_rfl) (by as_aux_lemma => kernel_rfl) (by as_aux_lemma => kernel_rfl) (fun _ _ _ h => hpan _ _ _ _ _ h) (Or.inl ⟨by rfl, ?_⟩) hSS ?_
  · intro w' hw'
    go_simp
  try go_frame
  refine kept_take (i := 5) (d := 206) (v := (.string (bs high))) rfl rfl (by as_aux_lemma => kernel_rfl) (by as_aux_lemma => kernel_rfl) (by as_aux_lemma => kernel_rfl) (fun _ _ _ h => hpan _ _ _ _ _ h) (Or.inl ⟨by rfl, ?_⟩) hSS ?_
  · intro w' hw'
    obtain ⟨s0, s1, s2, s3, s4⟩ := (show P5 pb (.slice pa np pc) out (bs low) (bs high) bot w' from (hw' pb HXB.out.2.2.2.2 HXB.out.2.2.2.1).trans PR.out).c0
    go_simp
  try go_frame
  refine kept_take (i := 6) (d := 207) (v := (.pointer (some ⟨xb, 2, none⟩))) rfl rfl (by as_aux_lemma => kernel_rfl) (by as_aux_lemma => kernel_rfl) (by as_aux_lemma => kernel_rfl) (fun _ _ _ h => hpan _ _ _ _ _ h) (Or.inl ⟨by rfl, ?_⟩) hSS ?_
  · intro w' hw'
    go_simp
  try go_frame
  have X8 := Lib.hid (X7.out.below hS)
  obtain ⟨d0, d1, d2, d3, d4, d5⟩ := X8.out.c0
  have df := X8.out.free
  refine wpAnyE_ready (rs := [7]) (by as_aux_lemma => kernel_rfl) (by simp) (AllE.cons rfl (fun K hK0 => ?_) AllE.nil)
  go_simp
  have X8n := Lib.hid (X8.out.put2 out)
  have hSS0 : ∀ j, j < wr.heap.size → j ≠ xb → (w7.setCell ⟨xb, 2, none⟩ (.int .i64 out)).heap[j]? = wr.heap[j]? := fun j hj hne => (heap_set_other hne _).trans (hSS j hj hne)
  refine hK0.out _ _ (fun _ => hSS0) (fun _ => ?_)
  clear hK0 K d0 d1 d2 d3 d4 d5 df
  try go_frame
  refine kept_take (i := 8) (d := 208) (v := (.pointer (some ⟨xb, 4, none⟩))) rfl rfl (by as_aux_lemma => kernel_rfl) (by as_aux_lemma => kernel_rfl) (by as_aux_lemma => kernel_rfl) (fun _ _ _ h => hpan _ _ _ _ _ h) (Or.inl ⟨by rfl, ?_⟩) hSS0 ?_
  · intro w' hw'
    go_simp
  try go_frame
  obtain ⟨d0, d1, d2, d3, d4, d5⟩ := X8n.out.c0
  have df := X8n.out.free
  refine wpAnyE_ready (rs := [9]) (by as_aux_lemma => kernel_rfl) (by simp) (AllE.cons rfl (fun K hK0 => ?_) AllE.nil)
  go_simp
  have X8nn := Lib.hid (X8n.out.put4 low)
  have hSS1 : ∀ j, j < wr.heap.size → j ≠ xb → ((w7.setCell ⟨xb, 2, none⟩ (.int .i64 out)).setCell ⟨xb, 4, none⟩ (.string (bs low))).heap[j]? = wr.heap[j]? := fun j hj hne => (heap_set_other hne _).trans (hSS0 j hj hne)
  refine hK0.out _ _ (fun _ => hSS1) (fun _ => ?_)
  clear hK0 K d0 d1 d2 d3 d4 d5 df
  try go_frame
  refine kept_take (i := 10) (d := 209) (v := (.pointer (some ⟨xb, 5, none⟩))) rfl rfl (by as_aux_lemma => kernel_rfl) (by as_aux_lemma => kernel_rfl) (by as_aux_lemma => kernel_rfl) (fun _ _ _ h => hpan _ _ _ _ _ h) (Or.inl ⟨by rfl, ?_⟩) hSS1 ?_
  · intro w' hw'
    go_simp
  try go_frame
  obtain ⟨d0, d1, d2, d3, d4, d5⟩ := X8nn.out.c0
  have df := X8nn.out.free
  refine wpAnyE_ready (rs := [11]) (by as_aux_lemma => kernel_rfl) (by simp) (AllE.cons rfl (fun K hK0 => ?_) AllE.nil)
  go_simp
  have X8nnn := Lib.hid (X8nn.out.put5 high)
  have hSS2 : ∀ j, j < wr.heap.size → j ≠ xb → (((w7.setCell ⟨xb, 2, none⟩ (.int .i64 out)).setCell ⟨xb, 4, none⟩ (.string (bs low))).setCell ⟨xb, 5, none⟩ (.string (bs high))).heap[j]? = wr.heap[j]? := fun j hj hne => (heap_set_other hne _).trans (hSS1 j hj hne)
  refine hK0.out _ _ (fun _ => hSS2) (fun _ => ?_)
  clear hK0 K d0 d1 d2 d3 d4 d5 df
  try go_frame
  obtain ⟨w8, hw8⟩ : ∃ w8, w8 = (((w7.setCell ⟨xb, 2, none⟩ (.int .i64 out)).setCell ⟨xb, 4, none⟩ (.string (bs low))).setCell ⟨xb, 5, none⟩ (.string (bs high))) := ⟨_, rfl⟩
  have hSE : ∀ j, j < wr.heap.size → j ≠ xb → w8.heap[j]? = wr.heap[j]? := by rw [hw8]; exact hSS2
  have XE := Lib.hid (show E6 xb ⟨1, (i : Int) + 1, out, 0, low, high⟩ w8 by rw [hw8]; exact X8nnn.out)
  have HXW := Lib.hid (show w0.heap.size ≤ xb ∧ w.heap.size ≤ xb by have := HHM.out; have := hK.out.size; omega)
  have K8 := Lib.hid (show Below w.heap.size w w8 by rw [hw8]; exact (((hKK.out.trans (hS.mono hKK.out.size)).setCell (p := ⟨xb, 2, none⟩) HXW.out.2 _).setCell (p := ⟨xb, 4, none⟩) HXW.out.2 _).setCell (p := ⟨xb, 5, none⟩) HXW.out.2 _)
  have hsz8 : wr.heap.size ≤ w8.heap.size := by rw [hw8]; have := hS.size; simpa [World.size_setCell] using this
  rw [← hw8]
  clear X8 X8n X8nn X8nnn hSS hSS0 hSS1 hSS2 hw8 hS X7
  have HEND := Lib.hid (show RD w.heap.size w w0 lb hm xb i Gs s val (.slice ea k ec) w8 from by
    refine ⟨ea, k, ec, ins.map dropEd, out, low, high, (fun x => ins.findSome? fun t => val t.file x), last, rfl, by rw [List.length_map]; have := HNP.out; have := HKN.out; omega, by omega, fun x hx => ?_, ?_, XE.out, ?_, ?_, ?_, K8.out, fun cnt hc => ?_, fun x v hv => ?_⟩
    · obtain ⟨t, ht, rfl⟩ := List.mem_map.1 hx
      have htab := HPO.out.sub t ht
      have h1 := HI.out.sr.ok.pos _ (tab_file htab)
      have h2 := HI.out.sr.few _ (tab_file htab)
      refine ⟨⟨?_, ?_⟩, rfl⟩
      · show -9223372036854775808 ≤ t.file; omega
      · show t.file ≤ 9223372036854775807; omega
    · refine own_mono (OffRow.kept HEK.out fun j hj => hSE j (OffRow.lt HEK.out j hj).2 (fun e => ?_)) (show xb + 1 ≤ w6.heap.size from HXB.out.1)
      have := (OffRow.lt HEK.out j hj).1
      have := HXB.out.1
      omega
    · exact HML.out.kept (hSE hm HML.out.lt (fun e => HXB.out.2.1 e.symm))
    · have h1 : MS wr lb ((i + 1) * 30) last := L6.out.kept (hKP.out.kept lb L6.out.lt (by have := HHM.out; have := HG0.out; omega))
      exact h1.kept (hSE lb h1.lt (by have := HHM.out; have := HG0.out; omega))
    · refine ⟨by have := KP6.out.size; have := hKP.out.size; omega, fun j hj hne => ?_⟩
      have h0 := KP6.out.size
      have h1 := hKP.out.size
      exact (hSE j (by omega) (by have := HXW.out; omega)).trans ((hKP.out.kept j (by omega) (by have := HHM.out; omega)).trans (KP6.out.kept j hj hne))
    · obtain ⟨s', h1, h2, _⟩ := HI.out.sr.merge (by omega) HPO.out hc
      exact ⟨s', h1, h2⟩
    · obtain ⟨t, ht, hft⟩ := fs_mem hv
      obtain ⟨j, g, h1, h2, h3⟩ := HI.out.key t (HPO.out.sub t ht) x v hft
      exact ⟨j, g, by omega, h2, h3⟩)
  clear hKP hKK HEK HML hSE
  refine wpAnyE_done (by as_aux_lemma => kernel_rfl) ?_ _
  go_wp2_with fail
  go_meet
  exact HEND
end Go.Proofs.YtfbaenhajlckjaaGreat
