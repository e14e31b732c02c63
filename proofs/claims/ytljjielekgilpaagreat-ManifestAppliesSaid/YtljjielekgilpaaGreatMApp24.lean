/- Texts put together: ManApplies -/
import Derived.Test.YtljjielekgilpaaGreatMApp23
import Derived.Test.YtljjielekgilpaaGreatMApp13
/- ManifestApplies, walked: any edits make of a state what the document says. -/
set_option linter.unusedVariables false
set_option maxRecDepth 100000
namespace Go.Proofs.YtljjielekgilpaaGreat
open Go.RowKit

theorem src_eds {T : Nat → Prop} {w : World} {a : Option Addr} {n cap : Nat} {L : List Ed} (h : RdX T w (.slice a n cap) n (flat ecell L)) (hL : n = L.length) : Src Tryz.prog 6 30 (.slice a n cap) n (flat ecell L) w := by
  cases a with
  | none =>
    have h0 : n = 0 := by
      refine Classical.byContradiction fun hn => ?_
      obtain ⟨x, hx⟩ : ∃ x, L[0]? = some x := ⟨_, List.getElem?_eq_getElem (by omega)⟩
      obtain ⟨b, o, e, _⟩ := RdX.atE h hx (by omega)
      cases e
    subst h0
    have : L = [] := List.eq_nil_of_length_eq_zero hL.symm
    subst this
    exact Src.ofNil _ Tryz.underlying30 _
  | some p =>
    refine Src.ofSlice _ Tryz.underlying30 p _ _ (flat ecell L) (by rw [flat_len ecell_len, hL]) (fun j u hj => ?_) (flat_one' ecell_one L)
    have hj6 : j < L.length * 6 := by rw [← flat_len ecell_len L]; exact (List.getElem?_eq_some_iff.1 hj).1
    obtain ⟨x, hx⟩ : ∃ x, L[j / 6]? = some x := ⟨_, List.getElem?_eq_getElem (by omega)⟩
    obtain ⟨b, o, e, _, _, hc⟩ := RdX.atE h hx (by omega)
    injection e with e
    subst e
    have hf := flat_at ecell_len hx (i := j % 6) (by omega)
    rw [show j / 6 * 6 + j % 6 = j by omega, hj] at hf
    have := hc (j % 6) u hf.symm
    rw [show o + j / 6 * 6 + j % 6 = o + j by omega] at this
    rw [← this]
    unfold Addr.add
    split
    · rename_i h0; subst h0; rfl
    · rfl
/-- Two variables that hold the same state. -/
def WS2 (G n : Nat) (w : World) : Prop := ∃ st tv sv lv tv' sv' lv', C4 G tv sv lv (.int .i64 st.next) w ∧ C4 (G + 1) tv' sv' lv' (.int .i64 st.next) w ∧ StV (fun b => b ≠ G ∧ b ≠ G + 1) w tv sv lv st ∧ StV (fun b => b ≠ G ∧ b ≠ G + 1) w tv' sv' lv' st ∧ st.Ok ∧ st.fit ∧ st.next ≤ 9223372036854775807 ∧ st.small n
set_option maxHeartbeats 16000000 in
theorem applies_walk {a : Option Addr} {len cap : Nat} {Gs : List Gr} {w : World} (h : Hid (InG w a len cap Gs)) :
    Calls Tryz.prog 3 #[.slice a len cap] w fun e w' => e = .returned (.bool true) ∧ Below w.heap.size w w' := by
  have hbig : len ≤ 9223372036854775807 := by have := h.out.big; unfold maxLen at this; omega
  have HL := Lib.hid h.out.len
  obtain ⟨iE, hi0, hz0, hz1, hz2⟩ := info_parts infoEd
  have HIE := Lib.hid (And.intro hi0 (And.intro hz0 (And.intro hz1 hz2)))
  clear hi0 hz0 hz1 hz2
  go_enter Tryz.func3, Tryz.ntmps3
  go_wp2_with fail
  refine (law_awake13 w).mono ?_
  rintro e w1 ⟨rfl, k1⟩
  have K1 := Lib.hid k1
  clear k1
  go_wp2_with fail
  refine (law_few (Lib.hid (h.out.below K1.out))).mono ?_
  rintro e w2 ⟨rfl, k2⟩
  have K2 := Lib.hid (K1.out.trans (k2.mono K1.out.size))
  clear k2
  obtain ⟨F, hF⟩ : ∃ F, fewB Gs = F := ⟨_, rfl⟩
  rw [hF]
  have HF := Lib.hid hF
  clear hF
  cases F with
  | false =>
    go_wp2_with fail
    refine (law_awake13 w2).mono ?_
    rintro e w3 ⟨rfl, k3⟩
    have K3 := Lib.hid (K2.out.trans (k3.mono K2.out.size))
    clear k3
    go_wp2
    go_ret
    exact ⟨rfl, K3.out⟩
  | true =>
    have HFE := Lib.hid (few_of HF.out)
    obtain ⟨w3, hw3⟩ : ∃ w3, (w2.alloc (.cells #[.slice none 0 0, .slice none 0 0, .slice none 0 0, .int .i64 0] 29)).alloc (.cells #[.slice none 0 0, .slice none 0 0, .slice none 0 0, .int .i64 0] 29) = w3 := ⟨_, rfl⟩
    obtain ⟨G, hG⟩ : ∃ G, G = w2.heap.size := ⟨_, rfl⟩
    have HGW := Lib.hid (show w.heap.size ≤ G by rw [hG]; exact K2.out.size)
    have K3 := Lib.hid (show Below w.heap.size w w3 by rw [← hw3]; exact (K2.out.alloc K2.out.size _).alloc (by have := K2.out.size; simp; omega) _)
    have X3 := Lib.hid (show WS2 G ((Gs.take 0).flatMap (·.L)).length w3 from ⟨St.zero, .slice none 0 0, .slice none 0 0, .slice none 0 0, .slice none 0 0, .slice none 0 0, .slice none 0 0, (show C4 G _ _ _ _ w3 by rw [← hw3, hG]; exact (Below.heap_alloc _ _ _ (by simp)).trans (heap_new w2 _)), (show C4 (G + 1) _ _ _ _ w3 by
      rw [← hw3, hG]
      have := heap_new (w2.alloc (.cells #[.slice none 0 0, .slice none 0 0, .slice none 0 0, .int .i64 0] 29)) (.cells #[.slice none 0 0, .slice none 0 0, .slice none 0 0, .int .i64 0] 29)
      rw [show (w2.alloc (.cells #[.slice none 0 0, .slice none 0 0, .slice none 0 0, .int .i64 0] 29)).heap.size = w2.heap.size + 1 by simp] at this
      exact this), ⟨RdL.none' _ _, RdL.none' _ _, RdL.none' _ _⟩, ⟨RdL.none' _ _, RdL.none' _ _, RdL.none' _ _⟩, St.Ok.zero, (fun f hf => by simp [St.files, St.zero] at hf), by simp [St.zero], by simp [St.small, St.zero]⟩)
    have HW3 := Lib.hid hw3
    have HG := Lib.hid hG
    clear hw3 hG HF
    go_upto_region 4 with (fail)
    rw [HW3.out, ← HG.out]
    clear HW3 HG K1 K2
    go_wp2_with fail
    go_loopw [5] (fun iv wr => ∃ i : Nat, i ≤ len ∧ iv = .int .i64 (i : Int) ∧ Hid (WS2 G ((Gs.take i).flatMap (·.L)).length wr) ∧ Hid (Below w.heap.size w wr)) (fun iv wr => len - (intOf iv).toNat)
    case atStart => exact ⟨0, Nat.zero_le _, rfl, X3, K3⟩
    case round =>
      obtain ⟨i, hi, rfl, hX, hK⟩ := hrel
      obtain ⟨st, tv, sv, lv, tv2, sv2, lv2, x1, x2, x3, x4, x5, x6, x7, x8⟩ := hX.out
      obtain ⟨ta, tc, rfl⟩ := RdL.slice x3.tabs
      obtain ⟨sa, sc, rfl⟩ := RdL.slice x3.stos
      obtain ⟨la, lc, rfl⟩ := RdL.slice x3.logs
      obtain ⟨ta2, tc2, rfl⟩ := RdL.slice x4.tabs
      obtain ⟨sa2, sc2, rfl⟩ := RdL.slice x4.stos
      obtain ⟨la2, lc2, rfl⟩ := RdL.slice x4.logs
      have C1 := Lib.hid x1
      have M1 := Lib.hid x2
      have V1 := Lib.hid x3
      have V2 := Lib.hid x4
      have P1 := Lib.hid (And.intro x5 (And.intro x6 (And.intro x7 x8)))
      have HGr := Lib.hid (show G + 1 < wr.heap.size from heap_lt x2)
      clear x1 x2 x3 x4 x5 x6 x7 x8 hX
      by_cases hlt : i < len
      · have hlt2 : (i : Int) < (len : Int) := by omega
        obtain ⟨bb, off, g, rfl, hg, hb, hc, hI⟩ := h.out.at hlt
        have HI := Lib.hid hI
        have HB := Lib.hid hb
        have HC := Lib.hid hc
        have HT := Lib.hid (take_flat hg)
        have HM := Lib.hid (show ((Gs.take i).flatMap (·.L)).length + g.n ≤ 200 by
          have := flat_le Gs (i + 1)
          rw [HT.out, List.length_append, ← hI.len] at this
          have := HFE.out.2.1
          omega)
        clear hg hI hc hb
        obtain ⟨ga, gn, gc, gL⟩ := g
        simp only at HI HC HT HM
        obtain ⟨z, hz⟩ : ∃ z, z = (app st gL).1 := ⟨_, rfl⟩
        obtain ⟨s', hs'⟩ : ∃ s', s' = (app st gL).2 := ⟨_, rfl⟩
        have HFI := Lib.hid (show ∀ x ∈ gL, x.fit from fun x hx => ⟨(HI.out.fit x hx).file.1, (HI.out.fit x hx).file.2⟩)
        have HS := Lib.hid (show s'.Ok ∧ s'.fit ∧ s'.next ≤ 9223372036854775807 ∧ s'.small ((Gs.take (i + 1)).flatMap (·.L)).length by
          rw [hs']
          refine ⟨app_ok _ P1.out.1, app_fit _ P1.out.2.1 HFI.out, app_nfit _ P1.out.2.2.1 HFI.out, ?_⟩
          rw [HT.out, List.length_append]
          exact app_small _ P1.out.2.2.2)
        have HZS := Lib.hid (And.intro hz hs')
        have hbb : bb < w.heap.size := HB.out
        have c0 : wr.cell? ⟨bb, off + i, none⟩ = some (.slice ga gn gc) := by rw [hK.out.cell (p := ⟨bb, off + i, none⟩) HB.out]; exact HC.out
        have hgn : gn ≤ 200 := by have := HM.out; omega
        clear hz hs'
        obtain ⟨wa, hwa⟩ : ∃ wa, wa = wr := ⟨_, rfl⟩
        rw [← hwa] at C1 M1 V1 V2 hK HGr c0 ⊢
        clear hwa wr
        have c1 : (wa.alloc (.cells #[] 44)).cell? ⟨bb, off + i, none⟩ = some (.slice ga gn gc) := by
          have k : Below wa.heap.size wa (wa.alloc (.cells #[] 44)) := (Below.refl _ _).alloc (Nat.le_refl _) _
          rw [k.cell (p := ⟨bb, off + i, none⟩) (by have := hK.out.size; show bb < wa.heap.size; omega)]
          exact c0
        obtain ⟨w4, hw4⟩ : ∃ w4, w4 = wa.alloc (.cells #[] 44) := ⟨_, rfl⟩
        have K4 := Lib.hid (show Below wa.heap.size wa w4 by rw [hw4]; exact (Below.refl _ _).alloc (Nat.le_refl _) _)
        have O4 := Lib.hid (show OffRow w4 (G + 2) 44 6 (.slice (some ⟨wa.heap.size, 0, none⟩) 0 0) 0 [] from ⟨by simp, .inr ⟨wa.heap.size, 0, 0, #[], rfl, by have := HGr.out; omega, by rw [hw4]; exact heap_new wa _, Nat.le_refl _, Nat.zero_le _, by simp, fun j hj => by omega⟩⟩)
        have HSR := Lib.hid (show Src Tryz.prog 6 30 (.slice ga gn gc) gn (flat ecell gL) w4 from src_eds ((HI.out.is.below hK.out).below K4.out) HI.out.len)
        have HB4 := Lib.hid (show G + 2 ≤ w4.heap.size by have := K4.out.size; have := HGr.out; omega)
        rw [hw4] at O4 HSR HB4
        have HW4 := Lib.hid hw4
        clear hw4
        go_wp2_with (at_builtin; refine wpList_append_off rfl (.tmp 25) (.tmp 29) 30 rfl (G + 2) 44 iE _ 6 64 Tryz.underlying30 HIE.out.1 HIE.out.2.1 HIE.out.2.2.1 HIE.out.2.2.2 rfl (.slice (some ⟨wa.heap.size, 0, none⟩) 0 0) 0 [] rfl O4.out (.slice ga gn gc) rfl gn _ HSR.out ?q3 ?q4 HB4.out ?_)
        case q3 => unfold maxLen; omega
        case q4 => omega
        intro v7 w7 hr7 hg7 hat7
        rw [← HW4.out] at hg7
        have O7 := Lib.hid (show OffRow w7 (G + 2) 44 6 v7 gn (flat ecell gL) from hr7)
        have K7 := Lib.hid (show Below wa.heap.size wa w7 from K4.out.grown hg7 K4.out.size (fun j hj => by
          simp [Value.ownBlock] at hj
          omega))
        obtain ⟨oa, oc, hv7⟩ := OffRow.slice O7.out
        subst hv7
        clear hr7 hg7 hat7 O4 HSR c0 c1 HW4 HB4 K4
        obtain ⟨nt, hnt⟩ : ∃ n, n = st.tabs.length := ⟨_, rfl⟩
        obtain ⟨ns, hns⟩ : ∃ n, n = st.stos.length := ⟨_, rfl⟩
        obtain ⟨nl, hnl⟩ : ∃ n, n = st.logs.length := ⟨_, rfl⟩
        obtain ⟨nx, hnx⟩ : ∃ n, n = st.next := ⟨_, rfl⟩
        obtain ⟨nt', hnt'⟩ : ∃ n, n = s'.tabs.length := ⟨_, rfl⟩
        obtain ⟨ns', hns'⟩ : ∃ n, n = s'.stos.length := ⟨_, rfl⟩
        obtain ⟨nl', hnl'⟩ : ∃ n, n = s'.logs.length := ⟨_, rfl⟩
        obtain ⟨nx', hnx'⟩ : ∃ n, n = s'.next := ⟨_, rfl⟩
        rw [← hnt, ← hns, ← hnl, ← hnx] at C1
        rw [← hnt, ← hns, ← hnl, ← hnx] at M1
        rw [← hnt, ← hns, ← hnl] at V1 V2
        have HNN := Lib.hid (And.intro hnt (And.intro hns (And.intro hnl hnx)))
        have HNN' := Lib.hid (And.intro hnt' (And.intro hns' (And.intro hnl' hnx')))
        have HC7 := Lib.hid (C1.out.below K7.out)
        have HM7 := Lib.hid (M1.out.below K7.out)
        have HAP := Lib.hid (show Calls Tryz.prog 10 #[.agg #[.slice ta nt tc, .slice sa ns sc, .slice la nl lc, .int .i64 nx], .slice oa gn oc] w7 (fun e w' => ApplyPost w7.heap.size st gL e w' ∧ Below w7.heap.size w7 w') by
          rw [hnx]
          exact man_Apply (M := ((Gs.take i).flatMap (·.L)).length) (Lib.hid (V1.out.below K7.out)) (Lib.hid P1.out.1) (Lib.hid P1.out.2.1) (Lib.hid ((OffRow.rdL O7.out).mono (fun b hb _ => hb)).x) (Lib.hid HI.out.len) HFI (Lib.hid P1.out.2.2.2) (by have := HM.out; omega))
        clear hnt hns hnl hnx hnt' hns' hnl' hnx'
        obtain ⟨c0, c1, c2, c3⟩ := HC7.out.c0
        go_wp2_with fail
        refine HAP.out.mono ?_
        rintro e w8 ⟨⟨xv, yv, zv, rfl, ho⟩, k8⟩
        rw [← HZS.out.2] at ho
        rw [← HZS.out.1, ← HZS.out.2]
        obtain ⟨xa, xc, rfl⟩ := OffRow.slice ho.tabs
        obtain ⟨ya, yc, rfl⟩ := OffRow.slice ho.stos
        obtain ⟨za, zc, rfl⟩ := OffRow.slice ho.logs
        rw [← HNN'.out.1, ← HNN'.out.2.1, ← HNN'.out.2.2.1, ← HNN'.out.2.2.2]
        rw [← HNN'.out.1, ← HNN'.out.2.1, ← HNN'.out.2.2.1] at ho
        have HO8 := Lib.hid ho
        have K8 := Lib.hid (K7.out.trans (k8.mono K7.out.size))
        have E8 := Lib.hid (off_below O7.out k8)
        have HW78 := Lib.hid (show wa.heap.size ≤ w7.heap.size from K7.out.size)
        clear k8 ho c0 c1 c2 c3 HAP HC7 HM7
        obtain ⟨w9, hw9⟩ : ∃ w9, w8.alloc (.cells #[.slice xa nt' xc, .slice ya ns' yc, .slice za nl' zc, .int .i64 nx'] 29) = w9 := ⟨_, rfl⟩
        obtain ⟨tb, htb⟩ : ∃ tb, tb = w8.heap.size := ⟨_, rfl⟩
        have k9 : Below w8.heap.size w8 w9 := by rw [← hw9]; exact (Below.refl _ _).alloc (Nat.le_refl _) _
        have D9 := Lib.hid (show C4 tb (.slice xa nt' xc) (.slice ya ns' yc) (.slice za nl' zc) (.int .i64 nx') w9 by rw [← hw9, htb]; exact heap_new w8 _)
        have HO9 := Lib.hid (HO8.out.below (w' := w9) (fun j hj => k9.block j hj))
        have HLO := Lib.hid (show ∀ j, (Value.slice xa nt' xc).ownBlock = some j ∨ (Value.slice ya ns' yc).ownBlock = some j ∨ (Value.slice za nl' zc).ownBlock = some j → j < tb from fun j hj => by
          rw [htb]
          rcases hj with hj | hj | hj
          · exact (OffRow.lt HO8.out.tabs j hj).2
          · exact (OffRow.lt HO8.out.stos j hj).2
          · exact (OffRow.lt HO8.out.logs j hj).2)
        have K9 := Lib.hid (K8.out.trans (k9.mono K8.out.size))
        have E9 := Lib.hid (off_below E8.out k9)
        have HTB := Lib.hid (show G + 1 < tb by have := K8.out.size; have := HGr.out; omega)
        have HW9 := Lib.hid hw9
        have HTBE := Lib.hid htb
        clear hw9 htb k9 HO8 E8 K8
        go_upto_region 9 with (fail)
        rw [HW9.out, ← HTBE.out]
        clear HW9 HTBE
        have HT2 := Lib.hid (show StV (fun b => (b ≠ G ∧ b ≠ G + 1) ∧ b < wa.heap.size) wa (.slice ta2 nt tc2) (.slice sa2 ns sc2) (.slice la2 nl lc2) st from V2.out.mono (fun b hb ht => ⟨ht, hb⟩))
        have HAQ := Lib.hid (show ∀ W, Below w9.heap.size w9 W → Calls Tryz.prog 11 #[.agg #[.slice ta2 nt tc2, .slice sa2 ns sc2, .slice la2 nl lc2, .int .i64 nx], .slice ga gn gc] W (fun e w' => (∃ na nc pa pc qa qc, e = .returned (.tuple #[.agg #[.slice na nt' nc, .slice pa ns' pc, .slice qa nl' qc, .int .i64 nx'], .int .i64 z]) ∧ StV (fun b => ((b ≠ G ∧ b ≠ G + 1) ∧ b < wa.heap.size) ∨ W.heap.size ≤ b) w' (.slice na nt' nc) (.slice pa ns' pc) (.slice qa nl' qc) s') ∧ Below W.heap.size W w') from fun W kW => by
          have kk := K9.out.trans (kW.mono K9.out.size)
          have hn := HNN.out.2.2.2
          have := ref_apply (M := ((Gs.take i).flatMap (·.L)).length) (w := W) (Lib.hid (HT2.out.below kk)) (Lib.hid ((HI.out.is.below (hK.out.trans (kk.mono hK.out.size))).mono (fun b hb _ => hb))) (Lib.hid HI.out.len) (Lib.hid P1.out.2.2.2) (by have := HM.out; omega)
          rw [← HZS.out.1, ← HZS.out.2, ← HNN'.out.1, ← HNN'.out.2.1, ← HNN'.out.2.2.1, ← HNN'.out.2.2.2, ← hn] at this
          exact this)
        have HK9 := Lib.hid (hK.out.trans (K9.out.mono hK.out.size))
        refine wp_region_kept (fun W => Below w9.heap.size w9 W) (by kernel_rfl) ?_
        change wpAnyE _ _ _ _ _ _ _ _ _ w9.drew
        have hS : Below w9.heap.size w9 w9.drew := (Below.refl _ _).drew
        generalize w9.drew = w4 at *
        refine kept_take (i := 1) (d := 39) (v := (.slice (some ⟨bb, off, none⟩) len cap)) rfl rfl (by kernel_rfl) (by kernel_rfl) (by kernel_rfl) (fun _ _ _ h => h) (Or.inl ⟨by rfl, ?_⟩) hS ?_
        · intro w' hw'
          go_simp
        try go_frame
        refine kept_take (i := 2) (d := 40) (v := (.int .i64 (i : Int))) rfl rfl (by kernel_rfl) (by kernel_rfl) (by kernel_rfl) (fun _ _ _ h => h) (Or.inl ⟨by rfl, ?_⟩) hS ?_
        · intro w' hw'
          go_simp
        try go_frame
        refine kept_take (i := 3) (d := 41) (v := (.pointer (some ⟨bb, off + i, none⟩))) rfl rfl (by kernel_rfl) (by kernel_rfl) (by kernel_rfl) (fun _ _ _ h => h) (Or.inl ⟨by rfl, ?_⟩) hS ?_
        · intro w' hw'
          go_simp
        try go_frame
        refine kept_take (i := 4) (d := 42) (v := (.slice ga gn gc)) rfl rfl (by kernel_rfl) (by kernel_rfl) (by kernel_rfl) (fun _ _ _ h => h) (Or.inl ⟨by rfl, ?_⟩) hS ?_
        · intro w' hw'
          have kc : w'.cell? ⟨bb, off + i, none⟩ = some (.slice ga gn gc) := by rw [(HK9.out.trans (hw'.mono HK9.out.size)).cell (p := ⟨bb, off + i, none⟩) HB.out]; exact HC.out
          go_simp
        try go_frame
        refine kept_take (i := 0) (d := 38) (v := (.agg #[.slice ta2 nt tc2, .slice sa2 ns sc2, .slice la2 nl lc2, .int .i64 nx])) rfl rfl (by kernel_rfl) (by kernel_rfl) (by kernel_rfl) (fun _ _ _ h => h) (Or.inl ⟨by rfl, ?_⟩) hS ?_
        · intro w' hw'
          obtain ⟨z0, z1, z2, z3⟩ := (M1.out.below (K9.out.trans (hw'.mono K9.out.size))).c0
          go_simp
        try go_frame
        refine wpAnyE_ready (rs := [5, 9]) (by kernel_rfl) (by simp) (AllE.cons rfl (fun K hK0 => ?_) (AllE.cons rfl (fun K hK0 => ?_) AllE.nil))
        · go_simp
          refine Calls.mono (HAQ.out _ hS) ?_
          rintro e w5 ⟨⟨na, nc, pa, pc, qa, qc, rfl, hv⟩, k⟩
          have hS2 : Below w9.heap.size w9 w5 := hS.trans (k.mono hS.size)
          have HV5 := Lib.hid hv
          have HW45 := Lib.hid (show w9.heap.size ≤ w4.heap.size from hS.size)
          refine hK0.out _ _ (fun _ => hS2) (fun _ => ?_)
          clear hK0 K hS k hv
          have hS := hS2
          clear hS2
          try go_frame
          refine kept_take (i := 6) (d := 37) (v := (.tuple #[(.agg #[.slice na nt' nc, .slice pa ns' pc, .slice qa nl' qc, .int .i64 nx']), .int .i64 z])) rfl rfl (by kernel_rfl) (by kernel_rfl) (by kernel_rfl) (fun _ _ _ h => h) (Or.inl ⟨by rfl, ?_⟩) hS ?_
          · intro w' hw'
            go_simp
          try go_frame
          refine kept_take (i := 7) (d := 44) (v := (.agg #[.slice na nt' nc, .slice pa ns' pc, .slice qa nl' qc, .int .i64 nx'])) rfl rfl (by kernel_rfl) (by kernel_rfl) (by kernel_rfl) (fun _ _ _ h => h) (Or.inl ⟨by rfl, ?_⟩) hS ?_
          · intro w' hw'
            go_simp
          try go_frame
          refine kept_take (i := 8) (d := 45) (v := (.int .i64 z)) rfl rfl (by kernel_rfl) (by kernel_rfl) (by kernel_rfl) (fun _ _ _ h => h) (Or.inl ⟨by rfl, ?_⟩) hS ?_
          · intro w' hw'
            go_simp
          try go_frame
          refine wpAnyE_ready (rs := [9]) (by kernel_rfl) (by simp) (AllE.cons rfl (fun K hK0 => ?_) AllE.nil)
          go_simp
          obtain ⟨w6, hw6⟩ : ∃ w6, w6 = w5.alloc (.cells #[.slice none 0 0, .slice none 0 0, .slice none 0 0, .int .i64 0] 29) := ⟨_, rfl⟩
          obtain ⟨mb, hmb⟩ : ∃ mb, mb = w5.heap.size := ⟨_, rfl⟩
          have hS2 : Below w9.heap.size w9 w6 := by rw [hw6]; exact hS.alloc hS.size _
          have D6 := Lib.hid (show C4 mb (.slice none 0 0) (.slice none 0 0) (.slice none 0 0) (.int .i64 0) w6 by rw [hw6, hmb]; exact heap_new w5 _)
          have HTB2 := Lib.hid (show w9.heap.size ≤ mb by rw [hmb]; exact hS.size)
          have VN := Lib.hid (show StV (fun b => b ≠ G ∧ b ≠ G + 1 ∧ b ≠ mb) w6 (.slice na nt' nc) (.slice pa ns' pc) (.slice qa nl' qc) s' from (HV5.out.mono (fun b hb ht => (show b ≠ G ∧ b ≠ G + 1 ∧ b ≠ mb by
            have := K9.out.size
            have := HGr.out
            have := HW45.out
            rcases ht with ht | ht
            · exact ⟨ht.1.1, ht.1.2, by omega⟩
            · exact ⟨by omega, by omega, by omega⟩))).below (by rw [hw6]; exact (Below.refl _ _).alloc (Nat.le_refl _) _))
          rw [← hw6, ← hmb]
          refine hK0.out _ _ (fun _ => hS2) (fun _ => ?_)
          clear hK0 K hS hw6 hmb
          have hS := hS2
          clear hS2 HV5
          try go_frame
          obtain ⟨d0, d1, d2, d3⟩ := D6.out.c0
          have df := D6.out.free
          refine wpAnyE_ready (rs := [10]) (by kernel_rfl) (by simp) (AllE.cons rfl (fun K hK0 => ?_) AllE.nil)
          go_simp
          have hS2 : Below w9.heap.size w9 ((((w6.setCell ⟨mb, 0, none⟩ (.slice na nt' nc)).setCell ⟨mb, 1, none⟩ (.slice pa ns' pc)).setCell ⟨mb, 2, none⟩ (.slice qa nl' qc)).setCell ⟨mb, 3, none⟩ (.int .i64 nx')) := below_put4 hS HTB2.out _ _ _ _
          have D7 := Lib.hid (D6.out.put (.slice na nt' nc) (.slice pa ns' pc) (.slice qa nl' qc) (.int .i64 nx'))
          have VN7 := Lib.hid (StV.only VN.out (only_put4 w6 mb (.slice na nt' nc) (.slice pa ns' pc) (.slice qa nl' qc) (.int .i64 nx')) (fun j _ hj e => hj.2.2 e))
          refine hK0.out _ _ (fun _ => hS2) (fun _ => ?_)
          clear hK0 K hS d0 d1 d2 d3 df
          have hS := hS2
          clear hS2
          try go_frame
          generalize ((((w6.setCell ⟨mb, 0, none⟩ (.slice na nt' nc)).setCell ⟨mb, 1, none⟩ (.slice pa ns' pc)).setCell ⟨mb, 2, none⟩ (.slice qa nl' qc)).setCell ⟨mb, 3, none⟩ (.int .i64 nx')) = w10 at *
          refine kept_take (i := 11) (d := 10) (v := (.int .i64 z)) rfl rfl (by kernel_rfl) (by kernel_rfl) (by kernel_rfl) (fun _ _ _ h => h) (Or.inl ⟨by rfl, ?_⟩) hS ?_
          · intro w' hw'
            go_simp
          try go_frame
          refine wpAnyE_done (by kernel_rfl) ?_ _
          have KS := Lib.hid hS
          clear hS D6 VN
          have C10 := Lib.hid (C1.out.below (K9.out.trans (KS.out.mono K9.out.size)))
          have M10 := Lib.hid (M1.out.below (K9.out.trans (KS.out.mono K9.out.size)))
          have T10 := Lib.hid (D9.out.below KS.out)
          have HO10 := Lib.hid (HO9.out.below (w' := w10) (fun j hj => KS.out.block j hj))
          have E10 := Lib.hid (off_below E9.out KS.out)
          have K10 := Lib.hid (HK9.out.trans (KS.out.mono HK9.out.size))
          have U1 := Lib.hid (V1.out.below (K9.out.trans (KS.out.mono K9.out.size)))
          have U2 := Lib.hid (V2.out.below (K9.out.trans (KS.out.mono K9.out.size)))
          have HSM := Lib.hid (show st.small 1000000000 ∧ s'.small 1000000000 from ⟨P1.out.2.2.2.mono (by have := HM.out; omega), HS.out.2.2.2.mono (by rw [HT.out, List.length_append, ← HI.out.len]; have := HM.out; omega)⟩)
          have HQ1 := Lib.hid (show ∀ W, Below w10.heap.size w10 W → Calls Tryz.prog 12 #[.agg #[.slice xa nt' xc, .slice ya ns' yc, .slice za nl' zc, .int .i64 nx'], .agg #[.slice na nt' nc, .slice pa ns' pc, .slice qa nl' qc, .int .i64 nx']] W (fun e w' => e = .returned (.bool true) ∧ Below W.heap.size W w') from fun W kW => by
            rw [HNN'.out.2.2.2]
            exact same_st (Lib.hid ((HO10.out.below (w' := W) (fun j hj => kW.block j hj)).stv)) (Lib.hid (VN7.out.below kW)) (Lib.hid HSM.out.2))
          have HQ2 := Lib.hid (show ∀ W, Below w10.heap.size w10 W → Calls Tryz.prog 12 #[.agg #[.slice ta nt tc, .slice sa ns sc, .slice la nl lc, .int .i64 nx], .agg #[.slice ta2 nt tc2, .slice sa2 ns sc2, .slice la2 nl lc2, .int .i64 nx]] W (fun e w' => e = .returned (.bool true) ∧ Below W.heap.size W w') from fun W kW => by
            rw [HNN.out.2.2.2]
            exact same_st (Lib.hid (U1.out.below kW)) (Lib.hid (U2.out.below kW)) (Lib.hid HSM.out.1))
          have HQ3 := Lib.hid (show ∀ W, Below w10.heap.size w10 W → Calls Tryz.prog 13 #[.slice oa gn oc, .slice ga gn gc] W (fun e w' => e = .returned (.bool true) ∧ Below W.heap.size W w') from fun W kW => same_eds (Lib.hid (OffRow.rdL (off_below E10.out kW)).x) (Lib.hid ((HI.out.is.below (K10.out.trans (kW.mono K10.out.size))))) (Lib.hid HI.out.len) (by omega))
          clear U1 U2 HAQ HT2
          obtain ⟨c0, c1, c2, c3⟩ := C10.out.c0
          obtain ⟨m0, m1, m2, m3⟩ := M10.out.c0
          obtain ⟨t0, t1, t2, t3⟩ := T10.out.c0
          obtain ⟨n0, n1, n2, n3⟩ := D7.out.c0
          go_wp2_with fail
          refine (HQ1.out _ (Below.refl _ _)).mono ?_
          rintro e w11 ⟨rfl, k11⟩
          have K11 := Lib.hid k11
          clear k11 c0 c1 c2 c3 m0 m1 m2 m3 t0 t1 t2 t3 n0 n1 n2 n3
          obtain ⟨c0, c1, c2, c3⟩ := (C10.out.below K11.out).c0
          obtain ⟨m0, m1, m2, m3⟩ := (M10.out.below K11.out).c0
          go_wp2_with fail
          refine (HQ2.out _ K11.out).mono ?_
          rintro e w12 ⟨rfl, k12⟩
          have K12 := Lib.hid (K11.out.trans (k12.mono K11.out.size))
          have g0 : w12.cell? ⟨bb, off + i, none⟩ = some (.slice ga gn gc) := by rw [(K10.out.trans (K12.out.mono K10.out.size)).cell (p := ⟨bb, off + i, none⟩) HB.out]; exact HC.out
          clear k12 c0 c1 c2 c3 m0 m1 m2 m3
          go_wp2_with fail
          refine (HQ3.out _ K12.out).mono ?_
          rintro e w13 ⟨rfl, k13⟩
          have K13 := Lib.hid (K12.out.trans (k13.mono K12.out.size))
          clear k13 g0
          by_cases hz0 : z = 0
          · subst hz0
            have T13 := Lib.hid (T10.out.below K13.out)
            have N13 := Lib.hid (D7.out.below K13.out)
            have C13 := Lib.hid (C10.out.below K13.out)
            have M13 := Lib.hid (M10.out.below K13.out)
            have O13 := Lib.hid (HO10.out.below (w' := w13) (fun j hj => K13.out.block j hj))
            have VN13 := Lib.hid (VN7.out.below K13.out)
            have K14 := Lib.hid (K10.out.trans (K13.out.mono K10.out.size))
            have HGE := Lib.hid (show G + 1 < w7.heap.size by have := HW78.out; have := HGr.out; omega)
            have HMB := Lib.hid (show G + 1 < mb by have := HTB2.out; have := K9.out.size; have := HGr.out; omega)
            clear HQ1 HQ2 HQ3 K12 K11
            go_upto_region 13 with (fail)
            refine wp_region_kept (fun W => Only (fun j => j = G ∨ j = G + 1) w13 W) (by kernel_rfl) ?_
            change wpAnyE _ _ _ _ _ _ _ _ _ w13.drew
            obtain ⟨wd, hwd⟩ : ∃ wd, wd = w13.drew := ⟨_, rfl⟩
            have hS : Only (fun j => j = G ∨ j = G + 1) w13 wd := by rw [hwd]; exact (Only.refl _ _).drew
            have CD := Lib.hid (show C4 G (.slice ta nt tc) (.slice sa ns sc) (.slice la nl lc) (.int .i64 nx) wd by rw [hwd]; exact C13.out)
            have MD := Lib.hid (show C4 (G + 1) (.slice ta2 nt tc2) (.slice sa2 ns sc2) (.slice la2 nl lc2) (.int .i64 nx) wd by rw [hwd]; exact M13.out)
            have OD := Lib.hid (show OwnSt wd w7.heap.size (.slice xa nt' xc) (.slice ya ns' yc) (.slice za nl' zc) s' by rw [hwd]; exact O13.out.below (fun j hj => rfl))
            have VD := Lib.hid (show StV (fun b => b ≠ G ∧ b ≠ G + 1 ∧ b ≠ mb) wd (.slice na nt' nc) (.slice pa ns' pc) (.slice qa nl' qc) s' by rw [hwd]; exact VN13.out.below ((Below.refl _ _).drew))
            have KD := Lib.hid (show Below w.heap.size w wd by rw [hwd]; exact K14.out.drew)
            rw [← hwd]
            clear hwd
            refine kept_take (i := 0) (d := 72) (v := (.agg #[.slice xa nt' xc, .slice ya ns' yc, .slice za nl' zc, .int .i64 nx'])) rfl rfl (by kernel_rfl) (by kernel_rfl) (by kernel_rfl) (fun _ _ _ h => h) (Or.inl ⟨by rfl, ?_⟩) hS ?_
            · intro w' hw'
              have hT : C4 tb _ _ _ _ w' := (hw'.block tb (heap_lt T13.out) (by have := HTB.out; omega)).trans T13.out
              obtain ⟨t0, t1, t2, t3⟩ := hT.c0
              go_simp
            try go_frame
            refine kept_take (i := 1) (d := 73) (v := (.agg #[.slice na nt' nc, .slice pa ns' pc, .slice qa nl' qc, .int .i64 nx'])) rfl rfl (by kernel_rfl) (by kernel_rfl) (by kernel_rfl) (fun _ _ _ h => h) (Or.inl ⟨by rfl, ?_⟩) hS ?_
            · intro w' hw'
              have hT : C4 mb _ _ _ _ w' := (hw'.block mb (heap_lt N13.out) (by have := HMB.out; omega)).trans N13.out
              obtain ⟨t0, t1, t2, t3⟩ := hT.c0
              go_simp
            try go_frame
            refine wpAnyE_ready (rs := [2]) (by kernel_rfl) (by simp) (AllE.cons rfl (fun K hK0 => ?_) AllE.nil)
            obtain ⟨c0, c1, c2, c3⟩ := CD.out.c0
            have cf := CD.out.free
            go_simp
            obtain ⟨we, hwe⟩ : ∃ we, we = ((((wd.setCell ⟨G, 0, none⟩ (.slice xa nt' xc)).setCell ⟨G, 1, none⟩ (.slice ya ns' yc)).setCell ⟨G, 2, none⟩ (.slice za nl' zc)).setCell ⟨G, 3, none⟩ (.int .i64 nx')) := ⟨_, rfl⟩
            have oe := only_put4 wd G (.slice xa nt' xc) (.slice ya ns' yc) (.slice za nl' zc) (.int .i64 nx')
            rw [← hwe] at oe
            have hS2 : Only (fun j => j = G ∨ j = G + 1) w13 we := hS.trans (oe.mono (fun j _ e => .inl e))
            have CE := Lib.hid (show C4 G (.slice xa nt' xc) (.slice ya ns' yc) (.slice za nl' zc) (.int .i64 nx') we by rw [hwe]; exact CD.out.put _ _ _ _)
            have ME := Lib.hid (show C4 (G + 1) (.slice ta2 nt tc2) (.slice sa2 ns sc2) (.slice la2 nl lc2) (.int .i64 nx) we from (oe.block (G + 1) (heap_lt MD.out) (by omega)).trans MD.out)
            have OE := Lib.hid (show OwnSt we w7.heap.size (.slice xa nt' xc) (.slice ya ns' yc) (.slice za nl' zc) s' by rw [hwe]; exact own_put4 OD.out (fun j hj _ _ e => by have := HGE.out; omega) _ _ _ _)
            have VE := Lib.hid (show StV (fun b => b ≠ G ∧ b ≠ G + 1 ∧ b ≠ mb) we (.slice na nt' nc) (.slice pa ns' pc) (.slice qa nl' qc) s' from VD.out.only oe (fun j _ hj e => hj.1 e))
            have KE := Lib.hid (show Below w.heap.size w we by rw [hwe]; exact below_put4 KD.out HGW.out _ _ _ _)
            rw [← hwe]
            refine hK0.out _ _ (fun _ => hS2) (fun _ => ?_)
            clear hK0 K hS hwe oe c0 c1 c2 c3 cf
            have hS := hS2
            clear hS2
            try go_frame
            refine wpAnyE_ready (rs := [3]) (by kernel_rfl) (by simp) (AllE.cons rfl (fun K hK0 => ?_) AllE.nil)
            obtain ⟨c0, c1, c2, c3⟩ := ME.out.c0
            have cf := ME.out.free
            go_simp
            obtain ⟨wf, hwf⟩ : ∃ wf, wf = ((((we.setCell ⟨G + 1, 0, none⟩ (.slice na nt' nc)).setCell ⟨G + 1, 1, none⟩ (.slice pa ns' pc)).setCell ⟨G + 1, 2, none⟩ (.slice qa nl' qc)).setCell ⟨G + 1, 3, none⟩ (.int .i64 nx')) := ⟨_, rfl⟩
            have oe := only_put4 we (G + 1) (.slice na nt' nc) (.slice pa ns' pc) (.slice qa nl' qc) (.int .i64 nx')
            rw [← hwf] at oe
            have hS2 : Only (fun j => j = G ∨ j = G + 1) w13 wf := hS.trans (oe.mono (fun j _ e => .inr e))
            have CF := Lib.hid (show C4 G (.slice xa nt' xc) (.slice ya ns' yc) (.slice za nl' zc) (.int .i64 nx') wf from (oe.block G (heap_lt CE.out) (by omega)).trans CE.out)
            have MF := Lib.hid (show C4 (G + 1) (.slice na nt' nc) (.slice pa ns' pc) (.slice qa nl' qc) (.int .i64 nx') wf by rw [hwf]; exact ME.out.put _ _ _ _)
            have OF := Lib.hid (show OwnSt wf w7.heap.size (.slice xa nt' xc) (.slice ya ns' yc) (.slice za nl' zc) s' by rw [hwf]; exact own_put4 OE.out (fun j hj _ _ e => by have := HGE.out; omega) _ _ _ _)
            have VF := Lib.hid (show StV (fun b => b ≠ G ∧ b ≠ G + 1 ∧ b ≠ mb) wf (.slice na nt' nc) (.slice pa ns' pc) (.slice qa nl' qc) s' from VE.out.only oe (fun j _ hj e => hj.2.1 e))
            have KF := Lib.hid (show Below w.heap.size w wf by rw [hwf]; exact below_put4 KE.out (by have := HGW.out; omega) _ _ _ _)
            rw [← hwf]
            refine hK0.out _ _ (fun _ => hS2) (fun _ => ?_)
            clear hK0 K hS hwf oe c0 c1 c2 c3 cf hS2
            try go_frame
            refine wpAnyE_done (by kernel_rfl) ?_ _
            clear CD MD OD VD KD CE ME OE VE KE T13 N13 C13 M13 O13 VN13 K14
            have HXF := Lib.hid (show WS2 G ((Gs.take (i + 1)).flatMap (·.L)).length wf from ⟨s', _, _, _, _, _, _, by have := CF.out; rw [HNN'.out.2.2.2] at this; exact this, by have := MF.out; rw [HNN'.out.2.2.2] at this; exact this, OF.out.stv.mono (fun b _ hb => ⟨by have := HGE.out; omega, by have := HGE.out; omega⟩), VF.out.mono (fun b _ hb => ⟨hb.1, hb.2.1⟩), HS.out⟩)
            have HF1 := Lib.hid (show ∀ W, Below wf.heap.size wf W → Calls Tryz.prog 15 #[.agg #[.slice xa nt' xc, .slice ya ns' yc, .slice za nl' zc, .int .i64 nx']] W (fun e w' => ∃ v', e = .returned v' ∧ RdL (fun b => W.heap.size ≤ b) w' v' (filesOf s').length (flat icell (filesOf s')) ∧ Below W.heap.size W w') from fun W kW => by
              rw [HNN'.out.2.2.2]
              exact man_Files (Lib.hid ((OF.out.below (w' := W) (fun j hj => kW.block j hj)).stv)) (Lib.hid (by have := HSM.out.2; unfold St.small at this; exact this)))
            have HF2 := Lib.hid (show ∀ W, Below wf.heap.size wf W → Calls Tryz.prog 16 #[.agg #[.slice na nt' nc, .slice pa ns' pc, .slice qa nl' qc, .int .i64 nx']] W (fun e w' => ∃ v', e = .returned v' ∧ OwnI w' W.heap.size v' (filesOf s') ∧ Below W.heap.size W w') from fun W kW => by
              rw [HNN'.out.2.2.2]
              exact ref_Files (Lib.hid (VF.out.below kW)) (Lib.hid (by have := HSM.out.2; unfold St.small at this; exact this)))
            have HFL := Lib.hid (show (filesOf s').length ≤ 1000000000 by
              rw [(filesOf_perm s').length_eq, files_len]
              have := HSM.out.2
              unfold St.small at this
              exact this)
            go_upto_region 14 with (fail)
            refine wp_region_kept (fun W => Below wf.heap.size wf W) (by kernel_rfl) ?_
            change wpAnyE _ _ _ _ _ _ _ _ _ wf.drew
            have hS : Below wf.heap.size wf wf.drew := (Below.refl _ _).drew
            generalize wf.drew = wg at *
            refine kept_take (i := 0) (d := 74) (v := (.agg #[.slice xa nt' xc, .slice ya ns' yc, .slice za nl' zc, .int .i64 nx'])) rfl rfl (by kernel_rfl) (by kernel_rfl) (by kernel_rfl) (fun _ _ _ h => h) (Or.inl ⟨by rfl, ?_⟩) hS ?_
            · intro w' hw'
              obtain ⟨t0, t1, t2, t3⟩ := (CF.out.below hw').c0
              go_simp
            try go_frame
            refine kept_take (i := 2) (d := 76) (v := (.agg #[.slice na nt' nc, .slice pa ns' pc, .slice qa nl' qc, .int .i64 nx'])) rfl rfl (by kernel_rfl) (by kernel_rfl) (by kernel_rfl) (fun _ _ _ h => h) (Or.inl ⟨by rfl, ?_⟩) hS ?_
            · intro w' hw'
              obtain ⟨t0, t1, t2, t3⟩ := (MF.out.below hw').c0
              go_simp
            try go_frame
            refine wpAnyE_ready (rs := [1]) (by kernel_rfl) (by simp) (AllE.cons rfl (fun K hK0 => ?_) AllE.nil)
            · go_simp
              refine Calls.mono (HF1.out _ hS) ?_
              rintro e wh ⟨v1, rfl, rr1, k⟩
              have hS2 : Below wf.heap.size wf wh := hS.trans (k.mono hS.size)
              have R1 := Lib.hid rr1

              refine hK0.out _ _ (fun _ => hS2) (fun _ => ?_)
              clear hK0 K hS k rr1
              have hS := hS2
              clear hS2
              try go_frame
              refine wpAnyE_ready (rs := [3]) (by kernel_rfl) (by simp) (AllE.cons rfl (fun K hK0 => ?_) AllE.nil)
              go_simp
              refine Calls.mono (HF2.out _ hS) ?_
              rintro e wh2 ⟨v2, rfl, rr2, k⟩
              have hS2 : Below wf.heap.size wf wh2 := hS.trans (k.mono hS.size)
              have R2 := Lib.hid (OffRow.rdL rr2)
              replace R1 := Lib.hid (R1.out.below k)
              refine hK0.out _ _ (fun _ => hS2) (fun _ => ?_)
              clear hK0 K hS k rr2
              have hS := hS2
              clear hS2
              try go_frame
              refine wpAnyE_ready (rs := [4]) (by kernel_rfl) (by simp) (AllE.cons rfl (fun K hK0 => ?_) AllE.nil)
              go_simp
              refine Calls.mono (same_ints (L := filesOf s') R1.out R2.out HFL.out) ?_
              rintro e wj ⟨rfl, k⟩
              have hS2 : Below wf.heap.size wf wj := hS.trans (k.mono hS.size)
              refine hK0.out _ _ (fun _ => hS2) (fun _ => ?_)
              clear hK0 K hS k
              have hS := hS2
              clear hS2
              try go_frame
              refine kept_take (i := 5) (d := 79) (v := (.bool false)) rfl rfl (by kernel_rfl) (by kernel_rfl) (by kernel_rfl) (fun _ _ _ h => h) (Or.inl ⟨by rfl, ?_⟩) hS ?_
              · intro w' hw'
                go_simp
              try go_frame
              refine wpAnyE_done (by kernel_rfl) ?_ _
              have HXJ := Lib.hid (show WS2 G ((Gs.take (i + 1)).flatMap (·.L)).length wj by
                obtain ⟨a1, a2, a3, a4, a5, a6, a7, b1, b2, b3, b4, b5⟩ := HXF.out
                exact ⟨a1, a2, a3, a4, a5, a6, a7, b1.below hS, b2.below hS, b3.below hS, b4.below hS, b5⟩)
              have KJ := Lib.hid (KF.out.trans (hS.mono KF.out.size))
              clear hS
              go_wp2
              go_roundw
              case rel => exact ⟨i + 1, by omega, by go_num, HXJ, KJ⟩
              case measure => simp [intOf]; omega
          · have X13 := Lib.hid (show WS2 G ((Gs.take (i + 1)).flatMap (·.L)).length w13 from ⟨st, _, _, _, _, _, _, by have := C10.out.below K13.out; rw [HNN.out.2.2.2] at this; exact this, by have := M10.out.below K13.out; rw [HNN.out.2.2.2] at this; exact this, by have := V1.out.below ((K9.out.trans (KS.out.mono K9.out.size)).trans (K13.out.mono (K9.out.trans (KS.out.mono K9.out.size)).size)); exact this, by have := V2.out.below ((K9.out.trans (KS.out.mono K9.out.size)).trans (K13.out.mono (K9.out.trans (KS.out.mono K9.out.size)).size)); exact this, P1.out.1, P1.out.2.1, P1.out.2.2.1, P1.out.2.2.2.mono (by rw [HT.out, List.length_append]; omega)⟩)
            have K14 := Lib.hid (K10.out.trans (K13.out.mono K10.out.size))
            go_wp2_with fail
            go_roundw
            case rel => exact ⟨i + 1, by omega, by go_num, X13, K14⟩
            case measure => simp [intOf]; omega
        · go_simp
          obtain ⟨w5, hw5⟩ : ∃ w5, w5 = w4.alloc (.cells #[.slice none 0 0, .slice none 0 0, .slice none 0 0, .int .i64 0] 29) := ⟨_, rfl⟩
          obtain ⟨mb, hmb⟩ : ∃ mb, mb = w4.heap.size := ⟨_, rfl⟩
          have hS2 : Below w9.heap.size w9 w5 := by rw [hw5]; exact hS.alloc hS.size _
          have D5 := Lib.hid (show C4 mb (.slice none 0 0) (.slice none 0 0) (.slice none 0 0) (.int .i64 0) w5 by rw [hw5, hmb]; exact heap_new w4 _)
          have HTB2 := Lib.hid (show w9.heap.size ≤ mb by rw [hmb]; exact hS.size)
          rw [← hw5, ← hmb]
          refine hK0.out _ _ (fun _ => hS2) (fun _ => ?_)
          clear hK0 K hS hw5 hmb
          have hS := hS2
          clear hS2
          try go_frame
          refine wpAnyE_ready (rs := [5]) (by kernel_rfl) (by simp) (AllE.cons rfl (fun K hK0 => ?_) AllE.nil)
          go_simp
          refine Calls.mono (HAQ.out _ hS) ?_
          rintro e w6 ⟨⟨na, nc, pa, pc, qa, qc, rfl, hv⟩, k⟩
          have hS2 : Below w9.heap.size w9 w6 := hS.trans (k.mono hS.size)
          have VN := Lib.hid (show StV (fun b => b ≠ G ∧ b ≠ G + 1 ∧ b ≠ mb) w6 (.slice na nt' nc) (.slice pa ns' pc) (.slice qa nl' qc) s' from hv.mono (fun b hb ht => (show b ≠ G ∧ b ≠ G + 1 ∧ b ≠ mb by
            have := K9.out.size
            have := HGr.out
            have := heap_lt D5.out
            have := HTB2.out
            rcases ht with ht | ht
            · exact ⟨ht.1.1, ht.1.2, by omega⟩
            · exact ⟨by omega, by omega, by omega⟩)))
          have D6 := Lib.hid (D5.out.below k)
          refine hK0.out _ _ (fun _ => hS2) (fun _ => ?_)
          clear hK0 K hS k hv D5
          have hS := hS2
          clear hS2
          try go_frame
          refine kept_take (i := 6) (d := 37) (v := (.tuple #[(.agg #[.slice na nt' nc, .slice pa ns' pc, .slice qa nl' qc, .int .i64 nx']), .int .i64 z])) rfl rfl (by kernel_rfl) (by kernel_rfl) (by kernel_rfl) (fun _ _ _ h => h) (Or.inl ⟨by rfl, ?_⟩) hS ?_
          · intro w' hw'
            go_simp
          try go_frame
          refine kept_take (i := 7) (d := 44) (v := (.agg #[.slice na nt' nc, .slice pa ns' pc, .slice qa nl' qc, .int .i64 nx'])) rfl rfl (by kernel_rfl) (by kernel_rfl) (by kernel_rfl) (fun _ _ _ h => h) (Or.inl ⟨by rfl, ?_⟩) hS ?_
          · intro w' hw'
            go_simp
          try go_frame
          refine kept_take (i := 8) (d := 45) (v := (.int .i64 z)) rfl rfl (by kernel_rfl) (by kernel_rfl) (by kernel_rfl) (fun _ _ _ h => h) (Or.inl ⟨by rfl, ?_⟩) hS ?_
          · intro w' hw'
            go_simp
          try go_frame
          obtain ⟨d0, d1, d2, d3⟩ := D6.out.c0
          have df := D6.out.free
          refine wpAnyE_ready (rs := [10]) (by kernel_rfl) (by simp) (AllE.cons rfl (fun K hK0 => ?_) AllE.nil)
          go_simp
          have hS2 : Below w9.heap.size w9 ((((w6.setCell ⟨mb, 0, none⟩ (.slice na nt' nc)).setCell ⟨mb, 1, none⟩ (.slice pa ns' pc)).setCell ⟨mb, 2, none⟩ (.slice qa nl' qc)).setCell ⟨mb, 3, none⟩ (.int .i64 nx')) := below_put4 hS HTB2.out _ _ _ _
          have D7 := Lib.hid (D6.out.put (.slice na nt' nc) (.slice pa ns' pc) (.slice qa nl' qc) (.int .i64 nx'))
          have VN7 := Lib.hid (StV.only VN.out (only_put4 w6 mb (.slice na nt' nc) (.slice pa ns' pc) (.slice qa nl' qc) (.int .i64 nx')) (fun j _ hj e => hj.2.2 e))
          refine hK0.out _ _ (fun _ => hS2) (fun _ => ?_)
          clear hK0 K hS d0 d1 d2 d3 df
          have hS := hS2
          clear hS2
          try go_frame
          generalize ((((w6.setCell ⟨mb, 0, none⟩ (.slice na nt' nc)).setCell ⟨mb, 1, none⟩ (.slice pa ns' pc)).setCell ⟨mb, 2, none⟩ (.slice qa nl' qc)).setCell ⟨mb, 3, none⟩ (.int .i64 nx')) = w10 at *
          refine kept_take (i := 11) (d := 10) (v := (.int .i64 z)) rfl rfl (by kernel_rfl) (by kernel_rfl) (by kernel_rfl) (fun _ _ _ h => h) (Or.inl ⟨by rfl, ?_⟩) hS ?_
          · intro w' hw'
            go_simp
          try go_frame
          refine wpAnyE_done (by kernel_rfl) ?_ _
          have KS := Lib.hid hS
          clear hS D6 VN
          have C10 := Lib.hid (C1.out.below (K9.out.trans (KS.out.mono K9.out.size)))
          have M10 := Lib.hid (M1.out.below (K9.out.trans (KS.out.mono K9.out.size)))
          have T10 := Lib.hid (D9.out.below KS.out)
          have HO10 := Lib.hid (HO9.out.below (w' := w10) (fun j hj => KS.out.block j hj))
          have E10 := Lib.hid (off_below E9.out KS.out)
          have K10 := Lib.hid (HK9.out.trans (KS.out.mono HK9.out.size))
          have U1 := Lib.hid (V1.out.below (K9.out.trans (KS.out.mono K9.out.size)))
          have U2 := Lib.hid (V2.out.below (K9.out.trans (KS.out.mono K9.out.size)))
          have HSM := Lib.hid (show st.small 1000000000 ∧ s'.small 1000000000 from ⟨P1.out.2.2.2.mono (by have := HM.out; omega), HS.out.2.2.2.mono (by rw [HT.out, List.length_append, ← HI.out.len]; have := HM.out; omega)⟩)
          have HQ1 := Lib.hid (show ∀ W, Below w10.heap.size w10 W → Calls Tryz.prog 12 #[.agg #[.slice xa nt' xc, .slice ya ns' yc, .slice za nl' zc, .int .i64 nx'], .agg #[.slice na nt' nc, .slice pa ns' pc, .slice qa nl' qc, .int .i64 nx']] W (fun e w' => e = .returned (.bool true) ∧ Below W.heap.size W w') from fun W kW => by
            rw [HNN'.out.2.2.2]
            exact same_st (Lib.hid ((HO10.out.below (w' := W) (fun j hj => kW.block j hj)).stv)) (Lib.hid (VN7.out.below kW)) (Lib.hid HSM.out.2))
          have HQ2 := Lib.hid (show ∀ W, Below w10.heap.size w10 W → Calls Tryz.prog 12 #[.agg #[.slice ta nt tc, .slice sa ns sc, .slice la nl lc, .int .i64 nx], .agg #[.slice ta2 nt tc2, .slice sa2 ns sc2, .slice la2 nl lc2, .int .i64 nx]] W (fun e w' => e = .returned (.bool true) ∧ Below W.heap.size W w') from fun W kW => by
            rw [HNN.out.2.2.2]
            exact same_st (Lib.hid (U1.out.below kW)) (Lib.hid (U2.out.below kW)) (Lib.hid HSM.out.1))
          have HQ3 := Lib.hid (show ∀ W, Below w10.heap.size w10 W → Calls Tryz.prog 13 #[.slice oa gn oc, .slice ga gn gc] W (fun e w' => e = .returned (.bool true) ∧ Below W.heap.size W w') from fun W kW => same_eds (Lib.hid (OffRow.rdL (off_below E10.out kW)).x) (Lib.hid ((HI.out.is.below (K10.out.trans (kW.mono K10.out.size))))) (Lib.hid HI.out.len) (by omega))
          clear U1 U2 HAQ HT2
          obtain ⟨c0, c1, c2, c3⟩ := C10.out.c0
          obtain ⟨m0, m1, m2, m3⟩ := M10.out.c0
          obtain ⟨t0, t1, t2, t3⟩ := T10.out.c0
          obtain ⟨n0, n1, n2, n3⟩ := D7.out.c0
          go_wp2_with fail
          refine (HQ1.out _ (Below.refl _ _)).mono ?_
          rintro e w11 ⟨rfl, k11⟩
          have K11 := Lib.hid k11
          clear k11 c0 c1 c2 c3 m0 m1 m2 m3 t0 t1 t2 t3 n0 n1 n2 n3
          obtain ⟨c0, c1, c2, c3⟩ := (C10.out.below K11.out).c0
          obtain ⟨m0, m1, m2, m3⟩ := (M10.out.below K11.out).c0
          go_wp2_with fail
          refine (HQ2.out _ K11.out).mono ?_
          rintro e w12 ⟨rfl, k12⟩
          have K12 := Lib.hid (K11.out.trans (k12.mono K11.out.size))
          have g0 : w12.cell? ⟨bb, off + i, none⟩ = some (.slice ga gn gc) := by rw [(K10.out.trans (K12.out.mono K10.out.size)).cell (p := ⟨bb, off + i, none⟩) HB.out]; exact HC.out
          clear k12 c0 c1 c2 c3 m0 m1 m2 m3
          go_wp2_with fail
          refine (HQ3.out _ K12.out).mono ?_
          rintro e w13 ⟨rfl, k13⟩
          have K13 := Lib.hid (K12.out.trans (k13.mono K12.out.size))
          clear k13 g0
          by_cases hz0 : z = 0
          · subst hz0
            have T13 := Lib.hid (T10.out.below K13.out)
            have N13 := Lib.hid (D7.out.below K13.out)
            have C13 := Lib.hid (C10.out.below K13.out)
            have M13 := Lib.hid (M10.out.below K13.out)
            have O13 := Lib.hid (HO10.out.below (w' := w13) (fun j hj => K13.out.block j hj))
            have VN13 := Lib.hid (VN7.out.below K13.out)
            have K14 := Lib.hid (K10.out.trans (K13.out.mono K10.out.size))
            have HGE := Lib.hid (show G + 1 < w7.heap.size by have := HW78.out; have := HGr.out; omega)
            have HMB := Lib.hid (show G + 1 < mb by have := HTB2.out; have := K9.out.size; have := HGr.out; omega)
            clear HQ1 HQ2 HQ3 K12 K11
            go_upto_region 13 with (fail)
            refine wp_region_kept (fun W => Only (fun j => j = G ∨ j = G + 1) w13 W) (by kernel_rfl) ?_
            change wpAnyE _ _ _ _ _ _ _ _ _ w13.drew
            obtain ⟨wd, hwd⟩ : ∃ wd, wd = w13.drew := ⟨_, rfl⟩
            have hS : Only (fun j => j = G ∨ j = G + 1) w13 wd := by rw [hwd]; exact (Only.refl _ _).drew
            have CD := Lib.hid (show C4 G (.slice ta nt tc) (.slice sa ns sc) (.slice la nl lc) (.int .i64 nx) wd by rw [hwd]; exact C13.out)
            have MD := Lib.hid (show C4 (G + 1) (.slice ta2 nt tc2) (.slice sa2 ns sc2) (.slice la2 nl lc2) (.int .i64 nx) wd by rw [hwd]; exact M13.out)
            have OD := Lib.hid (show OwnSt wd w7.heap.size (.slice xa nt' xc) (.slice ya ns' yc) (.slice za nl' zc) s' by rw [hwd]; exact O13.out.below (fun j hj => rfl))
            have VD := Lib.hid (show StV (fun b => b ≠ G ∧ b ≠ G + 1 ∧ b ≠ mb) wd (.slice na nt' nc) (.slice pa ns' pc) (.slice qa nl' qc) s' by rw [hwd]; exact VN13.out.below ((Below.refl _ _).drew))
            have KD := Lib.hid (show Below w.heap.size w wd by rw [hwd]; exact K14.out.drew)
            rw [← hwd]
            clear hwd
            refine kept_take (i := 0) (d := 72) (v := (.agg #[.slice xa nt' xc, .slice ya ns' yc, .slice za nl' zc, .int .i64 nx'])) rfl rfl (by kernel_rfl) (by kernel_rfl) (by kernel_rfl) (fun _ _ _ h => h) (Or.inl ⟨by rfl, ?_⟩) hS ?_
            · intro w' hw'
              have hT : C4 tb _ _ _ _ w' := (hw'.block tb (heap_lt T13.out) (by have := HTB.out; omega)).trans T13.out
              obtain ⟨t0, t1, t2, t3⟩ := hT.c0
              go_simp
            try go_frame
            refine kept_take (i := 1) (d := 73) (v := (.agg #[.slice na nt' nc, .slice pa ns' pc, .slice qa nl' qc, .int .i64 nx'])) rfl rfl (by kernel_rfl) (by kernel_rfl) (by kernel_rfl) (fun _ _ _ h => h) (Or.inl ⟨by rfl, ?_⟩) hS ?_
            · intro w' hw'
              have hT : C4 mb _ _ _ _ w' := (hw'.block mb (heap_lt N13.out) (by have := HMB.out; omega)).trans N13.out
              obtain ⟨t0, t1, t2, t3⟩ := hT.c0
              go_simp
            try go_frame
            refine wpAnyE_ready (rs := [2]) (by kernel_rfl) (by simp) (AllE.cons rfl (fun K hK0 => ?_) AllE.nil)
            obtain ⟨c0, c1, c2, c3⟩ := CD.out.c0
            have cf := CD.out.free
            go_simp
            obtain ⟨we, hwe⟩ : ∃ we, we = ((((wd.setCell ⟨G, 0, none⟩ (.slice xa nt' xc)).setCell ⟨G, 1, none⟩ (.slice ya ns' yc)).setCell ⟨G, 2, none⟩ (.slice za nl' zc)).setCell ⟨G, 3, none⟩ (.int .i64 nx')) := ⟨_, rfl⟩
            have oe := only_put4 wd G (.slice xa nt' xc) (.slice ya ns' yc) (.slice za nl' zc) (.int .i64 nx')
            rw [← hwe] at oe
            have hS2 : Only (fun j => j = G ∨ j = G + 1) w13 we := hS.trans (oe.mono (fun j _ e => .inl e))
            have CE := Lib.hid (show C4 G (.slice xa nt' xc) (.slice ya ns' yc) (.slice za nl' zc) (.int .i64 nx') we by rw [hwe]; exact CD.out.put _ _ _ _)
            have ME := Lib.hid (show C4 (G + 1) (.slice ta2 nt tc2) (.slice sa2 ns sc2) (.slice la2 nl lc2) (.int .i64 nx) we from (oe.block (G + 1) (heap_lt MD.out) (by omega)).trans MD.out)
            have OE := Lib.hid (show OwnSt we w7.heap.size (.slice xa nt' xc) (.slice ya ns' yc) (.slice za nl' zc) s' by rw [hwe]; exact own_put4 OD.out (fun j hj _ _ e => by have := HGE.out; omega) _ _ _ _)
            have VE := Lib.hid (show StV (fun b => b ≠ G ∧ b ≠ G + 1 ∧ b ≠ mb) we (.slice na nt' nc) (.slice pa ns' pc) (.slice qa nl' qc) s' from VD.out.only oe (fun j _ hj e => hj.1 e))
            have KE := Lib.hid (show Below w.heap.size w we by rw [hwe]; exact below_put4 KD.out HGW.out _ _ _ _)
            rw [← hwe]
            refine hK0.out _ _ (fun _ => hS2) (fun _ => ?_)
            clear hK0 K hS hwe oe c0 c1 c2 c3 cf
            have hS := hS2
            clear hS2
            try go_frame
            refine wpAnyE_ready (rs := [3]) (by kernel_rfl) (by simp) (AllE.cons rfl (fun K hK0 => ?_) AllE.nil)
            obtain ⟨c0, c1, c2, c3⟩ := ME.out.c0
            have cf := ME.out.free
            go_simp
            obtain ⟨wf, hwf⟩ : ∃ wf, wf = ((((we.setCell ⟨G + 1, 0, none⟩ (.slice na nt' nc)).setCell ⟨G + 1, 1, none⟩ (.slice pa ns' pc)).setCell ⟨G + 1, 2, none⟩ (.slice qa nl' qc)).setCell ⟨G + 1, 3, none⟩ (.int .i64 nx')) := ⟨_, rfl⟩
            have oe := only_put4 we (G + 1) (.slice na nt' nc) (.slice pa ns' pc) (.slice qa nl' qc) (.int .i64 nx')
            rw [← hwf] at oe
            have hS2 : Only (fun j => j = G ∨ j = G + 1) w13 wf := hS.trans (oe.mono (fun j _ e => .inr e))
            have CF := Lib.hid (show C4 G (.slice xa nt' xc) (.slice ya ns' yc) (.slice za nl' zc) (.int .i64 nx') wf from (oe.block G (heap_lt CE.out) (by omega)).trans CE.out)
            have MF := Lib.hid (show C4 (G + 1) (.slice na nt' nc) (.slice pa ns' pc) (.slice qa nl' qc) (.int .i64 nx') wf by rw [hwf]; exact ME.out.put _ _ _ _)
            have OF := Lib.hid (show OwnSt wf w7.heap.size (.slice xa nt' xc) (.slice ya ns' yc) (.slice za nl' zc) s' by rw [hwf]; exact own_put4 OE.out (fun j hj _ _ e => by have := HGE.out; omega) _ _ _ _)
            have VF := Lib.hid (show StV (fun b => b ≠ G ∧ b ≠ G + 1 ∧ b ≠ mb) wf (.slice na nt' nc) (.slice pa ns' pc) (.slice qa nl' qc) s' from VE.out.only oe (fun j _ hj e => hj.2.1 e))
            have KF := Lib.hid (show Below w.heap.size w wf by rw [hwf]; exact below_put4 KE.out (by have := HGW.out; omega) _ _ _ _)
            rw [← hwf]
            refine hK0.out _ _ (fun _ => hS2) (fun _ => ?_)
            clear hK0 K hS hwf oe c0 c1 c2 c3 cf hS2
            try go_frame
            refine wpAnyE_done (by kernel_rfl) ?_ _
            clear CD MD OD VD KD CE ME OE VE KE T13 N13 C13 M13 O13 VN13 K14
            have HXF := Lib.hid (show WS2 G ((Gs.take (i + 1)).flatMap (·.L)).length wf from ⟨s', _, _, _, _, _, _, by have := CF.out; rw [HNN'.out.2.2.2] at this; exact this, by have := MF.out; rw [HNN'.out.2.2.2] at this; exact this, OF.out.stv.mono (fun b _ hb => ⟨by have := HGE.out; omega, by have := HGE.out; omega⟩), VF.out.mono (fun b _ hb => ⟨hb.1, hb.2.1⟩), HS.out⟩)
            have HF1 := Lib.hid (show ∀ W, Below wf.heap.size wf W → Calls Tryz.prog 15 #[.agg #[.slice xa nt' xc, .slice ya ns' yc, .slice za nl' zc, .int .i64 nx']] W (fun e w' => ∃ v', e = .returned v' ∧ RdL (fun b => W.heap.size ≤ b) w' v' (filesOf s').length (flat icell (filesOf s')) ∧ Below W.heap.size W w') from fun W kW => by
              rw [HNN'.out.2.2.2]
              exact man_Files (Lib.hid ((OF.out.below (w' := W) (fun j hj => kW.block j hj)).stv)) (Lib.hid (by have := HSM.out.2; unfold St.small at this; exact this)))
            have HF2 := Lib.hid (show ∀ W, Below wf.heap.size wf W → Calls Tryz.prog 16 #[.agg #[.slice na nt' nc, .slice pa ns' pc, .slice qa nl' qc, .int .i64 nx']] W (fun e w' => ∃ v', e = .returned v' ∧ OwnI w' W.heap.size v' (filesOf s') ∧ Below W.heap.size W w') from fun W kW => by
              rw [HNN'.out.2.2.2]
              exact ref_Files (Lib.hid (VF.out.below kW)) (Lib.hid (by have := HSM.out.2; unfold St.small at this; exact this)))
            have HFL := Lib.hid (show (filesOf s').length ≤ 1000000000 by
              rw [(filesOf_perm s').length_eq, files_len]
              have := HSM.out.2
              unfold St.small at this
              exact this)
            go_upto_region 14 with (fail)
            refine wp_region_kept (fun W => Below wf.heap.size wf W) (by kernel_rfl) ?_
            change wpAnyE _ _ _ _ _ _ _ _ _ wf.drew
            have hS : Below wf.heap.size wf wf.drew := (Below.refl _ _).drew
            generalize wf.drew = wg at *
            refine kept_take (i := 0) (d := 74) (v := (.agg #[.slice xa nt' xc, .slice ya ns' yc, .slice za nl' zc, .int .i64 nx'])) rfl rfl (by kernel_rfl) (by kernel_rfl) (by kernel_rfl) (fun _ _ _ h => h) (Or.inl ⟨by rfl, ?_⟩) hS ?_
            · intro w' hw'
              obtain ⟨t0, t1, t2, t3⟩ := (CF.out.below hw').c0
              go_simp
            try go_frame
            refine kept_take (i := 2) (d := 76) (v := (.agg #[.slice na nt' nc, .slice pa ns' pc, .slice qa nl' qc, .int .i64 nx'])) rfl rfl (by kernel_rfl) (by kernel_rfl) (by kernel_rfl) (fun _ _ _ h => h) (Or.inl ⟨by rfl, ?_⟩) hS ?_
            · intro w' hw'
              obtain ⟨t0, t1, t2, t3⟩ := (MF.out.below hw').c0
              go_simp
            try go_frame
            refine wpAnyE_ready (rs := [1]) (by kernel_rfl) (by simp) (AllE.cons rfl (fun K hK0 => ?_) AllE.nil)
            · go_simp
              refine Calls.mono (HF1.out _ hS) ?_
              rintro e wh ⟨v1, rfl, rr1, k⟩
              have hS2 : Below wf.heap.size wf wh := hS.trans (k.mono hS.size)
              have R1 := Lib.hid rr1

              refine hK0.out _ _ (fun _ => hS2) (fun _ => ?_)
              clear hK0 K hS k rr1
              have hS := hS2
              clear hS2
              try go_frame
              refine wpAnyE_ready (rs := [3]) (by kernel_rfl) (by simp) (AllE.cons rfl (fun K hK0 => ?_) AllE.nil)
              go_simp
              refine Calls.mono (HF2.out _ hS) ?_
              rintro e wh2 ⟨v2, rfl, rr2, k⟩
              have hS2 : Below wf.heap.size wf wh2 := hS.trans (k.mono hS.size)
              have R2 := Lib.hid (OffRow.rdL rr2)
              replace R1 := Lib.hid (R1.out.below k)
              refine hK0.out _ _ (fun _ => hS2) (fun _ => ?_)
              clear hK0 K hS k rr2
              have hS := hS2
              clear hS2
              try go_frame
              refine wpAnyE_ready (rs := [4]) (by kernel_rfl) (by simp) (AllE.cons rfl (fun K hK0 => ?_) AllE.nil)
              go_simp
              refine Calls.mono (same_ints (L := filesOf s') R1.out R2.out HFL.out) ?_
              rintro e wj ⟨rfl, k⟩
              have hS2 : Below wf.heap.size wf wj := hS.trans (k.mono hS.size)
              refine hK0.out _ _ (fun _ => hS2) (fun _ => ?_)
              clear hK0 K hS k
              have hS := hS2
              clear hS2
              try go_frame
              refine kept_take (i := 5) (d := 79) (v := (.bool false)) rfl rfl (by kernel_rfl) (by kernel_rfl) (by kernel_rfl) (fun _ _ _ h => h) (Or.inl ⟨by rfl, ?_⟩) hS ?_
              · intro w' hw'
                go_simp
              try go_frame
              refine wpAnyE_done (by kernel_rfl) ?_ _
              have HXJ := Lib.hid (show WS2 G ((Gs.take (i + 1)).flatMap (·.L)).length wj by
                obtain ⟨a1, a2, a3, a4, a5, a6, a7, b1, b2, b3, b4, b5⟩ := HXF.out
                exact ⟨a1, a2, a3, a4, a5, a6, a7, b1.below hS, b2.below hS, b3.below hS, b4.below hS, b5⟩)
              have KJ := Lib.hid (KF.out.trans (hS.mono KF.out.size))
              clear hS
              go_wp2
              go_roundw
              case rel => exact ⟨i + 1, by omega, by go_num, HXJ, KJ⟩
              case measure => simp [intOf]; omega
          · have X13 := Lib.hid (show WS2 G ((Gs.take (i + 1)).flatMap (·.L)).length w13 from ⟨st, _, _, _, _, _, _, by have := C10.out.below K13.out; rw [HNN.out.2.2.2] at this; exact this, by have := M10.out.below K13.out; rw [HNN.out.2.2.2] at this; exact this, by have := V1.out.below ((K9.out.trans (KS.out.mono K9.out.size)).trans (K13.out.mono (K9.out.trans (KS.out.mono K9.out.size)).size)); exact this, by have := V2.out.below ((K9.out.trans (KS.out.mono K9.out.size)).trans (K13.out.mono (K9.out.trans (KS.out.mono K9.out.size)).size)); exact this, P1.out.1, P1.out.2.1, P1.out.2.2.1, P1.out.2.2.2.mono (by rw [HT.out, List.length_append]; omega)⟩)
            have K14 := Lib.hid (K10.out.trans (K13.out.mono K10.out.size))
            go_wp2_with fail
            go_roundw
            case rel => exact ⟨i + 1, by omega, by go_num, X13, K14⟩
            case measure => simp [intOf]; omega
      · have hge : (len : Int) ≤ (i : Int) := by omega
        go_wp2
        go_ret
        exact ⟨rfl, hK.out⟩
end Go.Proofs.YtljjielekgilpaaGreat
