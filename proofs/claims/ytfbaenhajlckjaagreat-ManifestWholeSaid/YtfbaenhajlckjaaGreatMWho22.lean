/- Texts put together: ManWholeWalk -/
import Derived.Test.YtfbaenhajlckjaaGreatMWho18
import Derived.Test.YtfbaenhajlckjaaGreatMWho19
import Derived.Test.YtfbaenhajlckjaaGreatMWho21
/- ManifestWhole, walked: the whole of a state makes it anew. -/
set_option linter.unusedVariables false
set_option maxRecDepth 100000
namespace Go.Proofs.YtfbaenhajlckjaaGreat
open Go.RowKit

theorem next_one {s : St} (h : s.next ≤ 9223372036854775807) {x : Ed} (hx : x.fit) : (oneS s x).next ≤ 9223372036854775807 := by
  unfold oneS
  split
  · exact h
  split
  · exact h
  split
  · exact h
  split
  · exact h
  split
  · exact h
  split
  · exact h
  · exact hx.2
theorem app_nfit : ∀ (L : List Ed) {s : St}, s.next ≤ 9223372036854775807 → (∀ x ∈ L, x.fit) → (app s L).2.next ≤ 9223372036854775807
  | [], s, h, _ => h
  | x :: L, s, h, hL => by
    by_cases h0 : oneE s x = 0
    · rw [app_cons_ok h0]; exact app_nfit L (next_one h (hL x (List.mem_cons_self ..))) fun y hy => hL y (List.mem_cons_of_mem _ hy)
    · rw [app_cons_no h0]; simp [St.zero]
theorem whole_fit {s : St} (hok : s.Ok) (hfit : s.fit) (hn : s.next ≤ 9223372036854775807) : ∀ x ∈ wholeL s, x.fit := by
  intro x hx
  have hf : ∀ f ∈ s.files, -9223372036854775808 ≤ f ∧ f ≤ 9223372036854775807 := fun f h => ⟨by have := hok.pos f h; omega, hfit f h⟩
  unfold wholeL at hx
  simp only [List.mem_append, List.mem_map] at hx
  rcases hx with ((hx | ⟨f, hf', rfl⟩) | ⟨t, ht, rfl⟩) | ⟨t, ht, rfl⟩
  · unfold nextL at hx
    split at hx
    · cases hx
    · obtain rfl := List.mem_singleton.1 hx
      exact ⟨by have := hok.next; show -9223372036854775808 ≤ s.next; omega, hn⟩
  · exact hf f (mem_files.2 (.inr (.inr hf')))
  · exact hf t.file (mem_files.2 (.inr (.inl (List.mem_map.2 ⟨t, ht, rfl⟩))))
  · exact hf t.file (mem_files.2 (.inl (List.mem_map.2 ⟨t, ht, rfl⟩)))
theorem wholeL_len {s : St} {n : Nat} (h : s.small n) : (wholeL s).length ≤ n + 1 := by
  unfold St.small at h
  unfold wholeL
  have := nextL_len s
  simp only [List.length_append, List.length_map]
  omega
theorem own_put4 {w : World} {B b : Nat} {tv sv lv : Value} {s : St} (h : OwnSt w B tv sv lv s) (hb : ∀ j, B ≤ j → j < w.heap.size → tv.ownBlock = some j ∨ sv.ownBlock = some j ∨ lv.ownBlock = some j → j ≠ b) (u0 u1 u2 u3 : Value) :
    OwnSt ((((w.setCell ⟨b, 0, none⟩ u0).setCell ⟨b, 1, none⟩ u1).setCell ⟨b, 2, none⟩ u2).setCell ⟨b, 3, none⟩ u3) B tv sv lv s := by
  have e : ∀ j, j ≠ b → ((((w.setCell ⟨b, 0, none⟩ u0).setCell ⟨b, 1, none⟩ u1).setCell ⟨b, 2, none⟩ u2).setCell ⟨b, 3, none⟩ u3).heap[j]? = w.heap[j]? := fun j hj => by
    rw [heap_set_other hj, heap_set_other hj, heap_set_other hj, heap_set_other hj]
  refine ⟨OffRow.kept h.tabs fun j hj => e j ?_, OffRow.kept h.stos fun j hj => e j ?_, OffRow.kept h.logs fun j hj => e j ?_⟩
  · exact hb j (OffRow.lt h.tabs j hj).1 (OffRow.lt h.tabs j hj).2 (.inl hj)
  · exact hb j (OffRow.lt h.stos j hj).1 (OffRow.lt h.stos j hj).2 (.inr (.inl hj))
  · exact hb j (OffRow.lt h.logs j hj).1 (OffRow.lt h.logs j hj).2 (.inr (.inr hj))
theorem own_stmono {w : World} {B B' : Nat} {tv sv lv : Value} {s : St} (h : OwnSt w B tv sv lv s) (hB : B' ≤ B) : OwnSt w B' tv sv lv s := ⟨own_mono h.tabs hB, own_mono h.stos hB, own_mono h.logs hB⟩
/-- A variable that holds a state of at most n things. -/
def WSt (G n : Nat) (w : World) : Prop := ∃ tv sv lv st, C4 G tv sv lv (.int .i64 st.next) w ∧ StV (fun b => b ≠ G) w tv sv lv st ∧ st.Ok ∧ st.fit ∧ st.next ≤ 9223372036854775807 ∧ st.small n
theorem WSt.below {G n : Nat} {w w' : World} (h : WSt G n w) (k : Below w.heap.size w w') : WSt G n w' := by
  obtain ⟨tv, sv, lv, st, h1, h2, h3⟩ := h
  exact ⟨tv, sv, lv, st, h1.below k, h2.below k, h3⟩
theorem take_flat {Gs : List Gr} {i : Nat} {g : Gr} (hg : Gs[i]? = some g) : ((Gs.take (i + 1)).flatMap (·.L)) = (Gs.take i).flatMap (·.L) ++ g.L := by
  rw [List.take_add_one, hg, List.flatMap_append]
  simp
theorem flat_le (Gs : List Gr) (i : Nat) : ((Gs.take i).flatMap (·.L)).length ≤ (Gs.flatMap (·.L)).length := by
  conv => rhs; rw [← List.take_append_drop i Gs]
  rw [List.flatMap_append, List.length_append]
  omega
/-- Apply, as the law calls it. -/
theorem apply_call {w : World} {T : Nat → Prop} {ta sa la ga : Option Addr} {tc sc lc gn gc n : Nat} {st : St} {L : List Ed} (h : StV T w (.slice ta st.tabs.length tc) (.slice sa st.stos.length sc) (.slice la st.logs.length lc) st) (hok : st.Ok) (hfit : st.fit) (hsm : st.small n) (hI : InL w ga gn gc L) (hnm : n + gn ≤ 1000000000) :
    Calls Tryz.prog 13 #[.agg #[.slice ta st.tabs.length tc, .slice sa st.stos.length sc, .slice la st.logs.length lc, .int .i64 st.next], .slice ga gn gc] w fun e w' => (∃ xa xc ya yc za zc, e = .returned (.tuple #[.agg #[.slice xa (app st L).2.tabs.length xc, .slice ya (app st L).2.stos.length yc, .slice za (app st L).2.logs.length zc, .int .i64 (app st L).2.next], .int .i64 (app st L).1]) ∧ OwnSt w' w.heap.size (.slice xa (app st L).2.tabs.length xc) (.slice ya (app st L).2.stos.length yc) (.slice za (app st L).2.logs.length zc) (app st L).2) ∧ Below w.heap.size w w' := by
  refine (man_Apply (M := n) (Lib.hid h) (Lib.hid hok) (Lib.hid hfit) (Lib.hid hI.is) (Lib.hid hI.len) (Lib.hid fun x hx => ⟨(hI.fit x hx).file.1, (hI.fit x hx).file.2⟩) (Lib.hid hsm) hnm).mono ?_
  rintro e w' ⟨⟨tv, sv, lv, rfl, ho⟩, k⟩
  obtain ⟨xa, xc, rfl⟩ := OffRow.slice ho.tabs
  obtain ⟨ya, yc, rfl⟩ := OffRow.slice ho.stos
  obtain ⟨za, zc, rfl⟩ := OffRow.slice ho.logs
  exact ⟨⟨xa, xc, ya, yc, za, zc, rfl, ho⟩, k⟩

set_option maxHeartbeats 16000000 in
theorem whole_walk {a : Option Addr} {len cap : Nat} {Gs : List Gr} {w : World} (h : Hid (InG w a len cap Gs)) :
    Calls Tryz.prog 4 #[.slice a len cap] w fun e w' => e = .returned (.bool true) ∧ Below w.heap.size w w' := by
  have hbig : len ≤ 9223372036854775807 := by have := h.out.big; unfold maxLen at this; omega
  have HL := Lib.hid h.out.len
  go_enter Tryz.func4, Tryz.ntmps4
  go_wp2_with fail
  refine (law_awake13 w).mono ?_
  rintro e w1 ⟨rfl, k1⟩
  have K1 := Lib.hid k1
  clear k1
  go_wp2_with fail
  refine (law_few (Lib.hid (h.out.below K1.out))).mono ?_
  rintro e w2 ⟨rfl, k2⟩
  have K2 := Lib.hid (K1.out.trans (k2.mono K1.out.size))
  clear k2
  obtain ⟨F, hF⟩ : ∃ F, fewB Gs = F := ⟨_, rfl⟩
  rw [hF]
  have HF := Lib.hid hF
  clear hF
  cases F with
  | false =>
    go_wp2_with fail
    refine (law_awake13 w2).mono ?_
    rintro e w3 ⟨rfl, k3⟩
    have K3 := Lib.hid (K2.out.trans (k3.mono K2.out.size))
    clear k3
    go_wp2
    go_ret
    exact ⟨rfl, K3.out⟩
  | true =>
    have HFE := Lib.hid (few_of HF.out)
    obtain ⟨w3, hw3⟩ : ∃ w3, w2.alloc (.cells #[.slice none 0 0, .slice none 0 0, .slice none 0 0, .int .i64 0] 29) = w3 := ⟨_, rfl⟩
    obtain ⟨G, hG⟩ : ∃ G, G = w2.heap.size := ⟨_, rfl⟩
    have HGW := Lib.hid (show w.heap.size ≤ G by rw [hG]; exact K2.out.size)
    have K3 := Lib.hid (show Below w.heap.size w w3 by rw [← hw3]; exact K2.out.alloc K2.out.size _)
    have X3 := Lib.hid (show WSt G ((Gs.take 0).flatMap (·.L)).length w3 from ⟨.slice none 0 0, .slice none 0 0, .slice none 0 0, St.zero, by rw [← hw3, hG]; exact heap_new w2 _, (show StV (fun b => b ≠ G) w3 _ _ _ St.zero from ⟨RdL.none' _ _, RdL.none' _ _, RdL.none' _ _⟩), St.Ok.zero, (fun f hf => by simp [St.files, St.zero] at hf), by simp [St.zero], by simp [St.small, St.zero]⟩)
    have HW3 := Lib.hid hw3
    have HG := Lib.hid hG
    clear hw3 hG HF
    go_upto_region 4 with (fail)
    rw [HW3.out, ← HG.out]
    clear HW3 HG K1 K2
    go_wp2_with fail
    go_loopw [4] (fun iv wr => ∃ i : Nat, i ≤ len ∧ iv = .int .i64 (i : Int) ∧ Hid (WSt G ((Gs.take i).flatMap (·.L)).length wr) ∧ Hid (Below w.heap.size w wr)) (fun iv wr => len - (intOf iv).toNat)
    case atStart => exact ⟨0, Nat.zero_le _, rfl, X3, K3⟩
    case round =>
      obtain ⟨i, hi, rfl, hX, hK⟩ := hrel
      obtain ⟨tv, sv, lv, st, x1, x2, x3, x4, x5, x6⟩ := hX.out
      obtain ⟨ta, tc, rfl⟩ := RdL.slice x2.tabs
      obtain ⟨sa, sc, rfl⟩ := RdL.slice x2.stos
      obtain ⟨la, lc, rfl⟩ := RdL.slice x2.logs
      have C1 := Lib.hid x1
      have V1 := Lib.hid x2
      have P1 := Lib.hid (And.intro x3 (And.intro x4 (And.intro x5 x6)))
      have HGr := Lib.hid (show G < wr.heap.size from heap_lt x1)
      clear x1 x2 x3 x4 x5 x6 hX
      by_cases hlt : i < len
      · have hlt2 : (i : Int) < (len : Int) := by omega
        obtain ⟨bb, off, g, rfl, hg, hb, hc, hI⟩ := h.out.at hlt
        have HI := Lib.hid hI
        have HB := Lib.hid hb
        have HC := Lib.hid hc
        have HT := Lib.hid (take_flat hg)
        have HM := Lib.hid (show ((Gs.take i).flatMap (·.L)).length + g.n ≤ 200 by
          have := flat_le Gs (i + 1)
          rw [HT.out, List.length_append, ← hI.len] at this
          have := HFE.out.2.1
          omega)
        clear hg hI hc hb
        obtain ⟨ga, gn, gc, gL⟩ := g
        simp only at HI HC HT HM
        obtain ⟨z, hz⟩ : ∃ z, z = (app st gL).1 := ⟨_, rfl⟩
        obtain ⟨s', hs'⟩ : ∃ s', s' = (app st gL).2 := ⟨_, rfl⟩
        have HS := Lib.hid (show s'.Ok ∧ s'.fit ∧ s'.next ≤ 9223372036854775807 ∧ s'.small ((Gs.take (i + 1)).flatMap (·.L)).length by
          have hfit : ∀ x ∈ gL, x.fit := fun x hx => ⟨(HI.out.fit x hx).file.1, (HI.out.fit x hx).file.2⟩
          rw [hs']
          refine ⟨app_ok _ P1.out.1, app_fit _ P1.out.2.1 hfit, app_nfit _ P1.out.2.2.1 hfit, ?_⟩
          rw [HT.out, List.length_append]
          exact app_small _ P1.out.2.2.2)
        have HAP := Lib.hid (fun (W : World) (k : Below wr.heap.size wr W) => apply_call (V1.out.below k) P1.out.1 P1.out.2.1 P1.out.2.2.2 (HI.out.below ((hK.out.trans (k.mono hK.out.size)))) (show _ + gn ≤ 1000000000 by have := HM.out; omega))
        rw [← hz, ← hs'] at HAP
        obtain ⟨nt, hnt⟩ : ∃ n, n = st.tabs.length := ⟨_, rfl⟩
        obtain ⟨ns, hns⟩ : ∃ n, n = st.stos.length := ⟨_, rfl⟩
        obtain ⟨nl, hnl⟩ : ∃ n, n = st.logs.length := ⟨_, rfl⟩
        obtain ⟨nx, hnx⟩ : ∃ n, n = st.next := ⟨_, rfl⟩
        obtain ⟨nt', hnt'⟩ : ∃ n, n = s'.tabs.length := ⟨_, rfl⟩
        obtain ⟨ns', hns'⟩ : ∃ n, n = s'.stos.length := ⟨_, rfl⟩
        obtain ⟨nl', hnl'⟩ : ∃ n, n = s'.logs.length := ⟨_, rfl⟩
        obtain ⟨nx', hnx'⟩ : ∃ n, n = s'.next := ⟨_, rfl⟩
        rw [← hnt, ← hns, ← hnl, ← hnx, ← hnt', ← hns', ← hnl', ← hnx'] at HAP
        rw [← hnt, ← hns, ← hnl, ← hnx] at C1
        rw [← hnt, ← hns, ← hnl] at V1
        have HNX' := Lib.hid hnx'
        have HNN := Lib.hid (And.intro hnt (And.intro hns (And.intro hnl hnx)))
        clear hz hs' hnt hns hnl hnx hnt' hns' hnl' hnx'
        have hbb : bb < w.heap.size := HB.out
        obtain ⟨wa, hwa⟩ : ∃ wa, wa = wr := ⟨_, rfl⟩
        rw [← hwa] at C1 V1 hK HGr HAP ⊢
        clear hwa wr
        go_upto_region 7 with (fail)
        refine wp_region_kept (fun W => Below wa.heap.size wa W) (by kernel_rfl) ?_
        change wpAnyE _ _ _ _ _ _ _ _ _ wa.drew
        have hS : Below wa.heap.size wa wa.drew := (Below.refl _ _).drew
        generalize wa.drew = w4 at *
        refine kept_take (i := 1) (d := 30) (v := (.slice (some ⟨bb, off, none⟩) len cap)) rfl rfl (by kernel_rfl) (by kernel_rfl) (by kernel_rfl) (fun _ _ _ h => h) (Or.inl ⟨by rfl, ?_⟩) hS ?_
        · intro w' hw'
          go_simp
        try go_frame
        refine kept_take (i := 2) (d := 31) (v := (.int .i64 (i : Int))) rfl rfl (by kernel_rfl) (by kernel_rfl) (by kernel_rfl) (fun _ _ _ h => h) (Or.inl ⟨by rfl, ?_⟩) hS ?_
        · intro w' hw'
          go_simp
        try go_frame
        refine kept_take (i := 3) (d := 32) (v := (.pointer (some ⟨bb, off + i, none⟩))) rfl rfl (by kernel_rfl) (by kernel_rfl) (by kernel_rfl) (fun _ _ _ h => h) (Or.inl ⟨by rfl, ?_⟩) hS ?_
        · intro w' hw'
          go_simp
        try go_frame
        refine kept_take (i := 4) (d := 33) (v := (.slice ga gn gc)) rfl rfl (by kernel_rfl) (by kernel_rfl) (by kernel_rfl) (fun _ _ _ h => h) (Or.inl ⟨by rfl, ?_⟩) hS ?_
        · intro w' hw'
          have kc : w'.cell? ⟨bb, off + i, none⟩ = some (.slice ga gn gc) := by rw [(hK.out.trans (hw'.mono hK.out.size)).cell (p := ⟨bb, off + i, none⟩) HB.out]; exact HC.out
          go_simp
        try go_frame
        refine kept_take (i := 0) (d := 29) (v := (.agg #[.slice ta nt tc, .slice sa ns sc, .slice la nl lc, .int .i64 nx])) rfl rfl (by kernel_rfl) (by kernel_rfl) (by kernel_rfl) (fun _ _ _ h => h) (Or.inl ⟨by rfl, ?_⟩) hS ?_
        · intro w' hw'
          obtain ⟨z0, z1, z2, z3⟩ := (C1.out.below hw').c0
          go_simp
        try go_frame
        refine wpAnyE_ready (rs := [5, 9]) (by kernel_rfl) (by simp) (AllE.cons rfl (fun K hK0 => ?_) (AllE.cons rfl (fun K hK0 => ?_) AllE.nil))
        · go_simp
          refine Calls.mono (HAP.out _ hS) ?_
          rintro e w5 ⟨⟨xa, xc, ya, yc, za, zc, rfl, ho⟩, k⟩
          have hS2 : Below wa.heap.size wa w5 := hS.trans (k.mono hS.size)
          have HO := Lib.hid (own_stmono ho hS.size)
          refine hK0.out _ _ (fun _ => hS2) (fun _ => ?_)
          clear hK0 K hS k ho
          have hS := hS2
          clear hS2
          try go_frame
          refine kept_take (i := 6) (d := 28) (v := (.tuple #[(.agg #[.slice xa nt' xc, .slice ya ns' yc, .slice za nl' zc, .int .i64 nx']), .int .i64 z])) rfl rfl (by kernel_rfl) (by kernel_rfl) (by kernel_rfl) (fun _ _ _ h => h) (Or.inl ⟨by rfl, ?_⟩) hS ?_
          · intro w' hw'
            go_simp
          try go_frame
          refine kept_take (i := 7) (d := 35) (v := (.agg #[.slice xa nt' xc, .slice ya ns' yc, .slice za nl' zc, .int .i64 nx'])) rfl rfl (by kernel_rfl) (by kernel_rfl) (by kernel_rfl) (fun _ _ _ h => h) (Or.inl ⟨by rfl, ?_⟩) hS ?_
          · intro w' hw'
            go_simp
          try go_frame
          refine kept_take (i := 8) (d := 36) (v := (.int .i64 z)) rfl rfl (by kernel_rfl) (by kernel_rfl) (by kernel_rfl) (fun _ _ _ h => h) (Or.inl ⟨by rfl, ?_⟩) hS ?_
          · intro w' hw'
            go_simp
          try go_frame
          refine wpAnyE_ready (rs := [9]) (by kernel_rfl) (by simp) (AllE.cons rfl (fun K hK0 => ?_) AllE.nil)
          go_simp
          obtain ⟨w6, hw6⟩ : ∃ w6, w6 = w5.alloc (.cells #[.slice none 0 0, .slice none 0 0, .slice none 0 0, .int .i64 0] 29) := ⟨_, rfl⟩
          obtain ⟨tb, htb⟩ : ∃ tb, tb = w5.heap.size := ⟨_, rfl⟩
          have hS2 : Below wa.heap.size wa w6 := by rw [hw6]; exact hS.alloc hS.size _
          have D6 := Lib.hid (show C4 tb (.slice none 0 0) (.slice none 0 0) (.slice none 0 0) (.int .i64 0) w6 by rw [hw6, htb]; exact heap_new w5 _)
          have HO6 := Lib.hid (HO.out.below (w' := w6) (fun j hj => by rw [hw6]; exact Below.heap_alloc w5 _ j hj))
          have HNE := Lib.hid (show ∀ j, wa.heap.size ≤ j → j < w6.heap.size → (Value.slice xa nt' xc).ownBlock = some j ∨ (Value.slice ya ns' yc).ownBlock = some j ∨ (Value.slice za nl' zc).ownBlock = some j → j ≠ tb by
            intro j _ _ hj e
            have : j < w5.heap.size := by rcases hj with hj | hj | hj; (exact (OffRow.lt HO.out.tabs j hj).2); (exact (OffRow.lt HO.out.stos j hj).2); (exact (OffRow.lt HO.out.logs j hj).2)
            omega)
          have HTB := Lib.hid (show wa.heap.size ≤ tb by rw [htb]; exact hS.size)
          rw [← hw6, ← htb]
          refine hK0.out _ _ (fun _ => hS2) (fun _ => ?_)
          clear hK0 K hS hw6 htb
          have hS := hS2
          clear hS2 HO
          try go_frame
          obtain ⟨d0, d1, d2, d3⟩ := D6.out.c0
          have df := D6.out.free
          refine wpAnyE_ready (rs := [10]) (by kernel_rfl) (by simp) (AllE.cons rfl (fun K hK0 => ?_) AllE.nil)
          go_simp
          have hS2 : Below wa.heap.size wa ((((w6.setCell ⟨tb, 0, none⟩ (.slice xa nt' xc)).setCell ⟨tb, 1, none⟩ (.slice ya ns' yc)).setCell ⟨tb, 2, none⟩ (.slice za nl' zc)).setCell ⟨tb, 3, none⟩ (.int .i64 nx')) := below_put4 hS HTB.out _ _ _ _
          have D7 := Lib.hid (D6.out.put (.slice xa nt' xc) (.slice ya ns' yc) (.slice za nl' zc) (.int .i64 nx'))
          have HO7 := Lib.hid (own_put4 HO6.out HNE.out (.slice xa nt' xc) (.slice ya ns' yc) (.slice za nl' zc) (.int .i64 nx'))
          refine hK0.out _ _ (fun _ => hS2) (fun _ => ?_)
          clear hK0 K hS d0 d1 d2 d3 df
          have hS := hS2
          clear hS2
          try go_frame
          generalize ((((w6.setCell ⟨tb, 0, none⟩ (.slice xa nt' xc)).setCell ⟨tb, 1, none⟩ (.slice ya ns' yc)).setCell ⟨tb, 2, none⟩ (.slice za nl' zc)).setCell ⟨tb, 3, none⟩ (.int .i64 nx')) = w7 at *
          refine kept_take (i := 11) (d := 6) (v := (.int .i64 z)) rfl rfl (by kernel_rfl) (by kernel_rfl) (by kernel_rfl) (fun _ _ _ h => h) (Or.inl ⟨by rfl, ?_⟩) hS ?_
          · intro w' hw'
            go_simp
          try go_frame
          refine wpAnyE_done (by kernel_rfl) ?_ _
          have KS := Lib.hid hS
          clear hS D6 HO6 HNE
          have C7 := Lib.hid (C1.out.below KS.out)
          have K7 := Lib.hid (hK.out.trans (KS.out.mono hK.out.size))
          obtain ⟨d0, d1, d2, d3⟩ := D7.out.c0
          by_cases hz0 : z = 0
          · subst hz0
            have gf := C7.out.free
            obtain ⟨r0, r1, r2, r3⟩ := C7.out.c0
            go_wp2_with fail
            have K8 := Lib.hid (below_put4 K7.out HGW.out (.slice xa nt' xc) (.slice ya ns' yc) (.slice za nl' zc) (.int .i64 nx'))
            have C8 := Lib.hid (C7.out.put (.slice xa nt' xc) (.slice ya ns' yc) (.slice za nl' zc) (.int .i64 nx'))
            have O8 := Lib.hid (own_put4 HO7.out (b := G) (fun j hj _ _ e => by have := HGr.out; omega) (.slice xa nt' xc) (.slice ya ns' yc) (.slice za nl' zc) (.int .i64 nx'))
            have X8 := Lib.hid (show WSt G ((Gs.take (i + 1)).flatMap (·.L)).length _ from ⟨_, _, _, s', (show C4 G _ _ _ (.int .i64 s'.next) _ by rw [← HNX'.out]; exact C8.out), O8.out.stv.mono (fun b _ hb e => by have := HGr.out; omega), HS.out⟩)
            clear r0 r1 r2 r3 d0 d1 d2 d3 gf
            go_roundw
            case rel => exact ⟨i + 1, by omega, by go_num, X8, K8⟩
            case measure => simp [intOf]; omega
          · have X7 := Lib.hid (show WSt G ((Gs.take (i + 1)).flatMap (·.L)).length w7 from ⟨_, _, _, st, by have := C7.out; rw [HNN.out.2.2.2] at this; exact this, by have := V1.out.below KS.out; exact this, P1.out.1, P1.out.2.1, P1.out.2.2.1, by have := P1.out.2.2.2; unfold St.small at this ⊢; rw [HT.out, List.length_append]; omega⟩)
            clear d0 d1 d2 d3
            go_wp2_with fail
            go_roundw
            case rel => exact ⟨i + 1, by omega, by go_num, X7, K7⟩
            case measure => simp [intOf]; omega
        · go_simp
          obtain ⟨w5, hw5⟩ : ∃ w5, w5 = w4.alloc (.cells #[.slice none 0 0, .slice none 0 0, .slice none 0 0, .int .i64 0] 29) := ⟨_, rfl⟩
          obtain ⟨tb, htb⟩ : ∃ tb, tb = w4.heap.size := ⟨_, rfl⟩
          have hS2 : Below wa.heap.size wa w5 := by rw [hw5]; exact hS.alloc hS.size _
          have D5 := Lib.hid (show C4 tb (.slice none 0 0) (.slice none 0 0) (.slice none 0 0) (.int .i64 0) w5 by rw [hw5, htb]; exact heap_new w4 _)
          have HTB := Lib.hid (show wa.heap.size ≤ tb by rw [htb]; exact hS.size)
          rw [← hw5, ← htb]
          refine hK0.out _ _ (fun _ => hS2) (fun _ => ?_)
          clear hK0 K hS hw5 htb
          have hS := hS2
          clear hS2
          try go_frame
          refine wpAnyE_ready (rs := [5]) (by kernel_rfl) (by simp) (AllE.cons rfl (fun K hK0 => ?_) AllE.nil)
          go_simp
          refine Calls.mono (HAP.out _ hS) ?_
          rintro e w6 ⟨⟨xa, xc, ya, yc, za, zc, rfl, ho⟩, k⟩
          have hS2 : Below wa.heap.size wa w6 := hS.trans (k.mono hS.size)
          have HNE := Lib.hid (show ∀ j, wa.heap.size ≤ j → j < w6.heap.size → (Value.slice xa nt' xc).ownBlock = some j ∨ (Value.slice ya ns' yc).ownBlock = some j ∨ (Value.slice za nl' zc).ownBlock = some j → j ≠ tb by
            intro j _ _ hj e
            have : w5.heap.size ≤ j := by rcases hj with hj | hj | hj; (exact (OffRow.lt ho.tabs j hj).1); (exact (OffRow.lt ho.stos j hj).1); (exact (OffRow.lt ho.logs j hj).1)
            have := heap_lt D5.out
            omega)
          have HO6 := Lib.hid (own_stmono ho hS.size)
          have D6 := Lib.hid (D5.out.below k)
          refine hK0.out _ _ (fun _ => hS2) (fun _ => ?_)
          clear hK0 K hS k ho D5
          have hS := hS2
          clear hS2
          try go_frame
          refine kept_take (i := 6) (d := 28) (v := (.tuple #[(.agg #[.slice xa nt' xc, .slice ya ns' yc, .slice za nl' zc, .int .i64 nx']), .int .i64 z])) rfl rfl (by kernel_rfl) (by kernel_rfl) (by kernel_rfl) (fun _ _ _ h => h) (Or.inl ⟨by rfl, ?_⟩) hS ?_
          · intro w' hw'
            go_simp
          try go_frame
          refine kept_take (i := 7) (d := 35) (v := (.agg #[.slice xa nt' xc, .slice ya ns' yc, .slice za nl' zc, .int .i64 nx'])) rfl rfl (by kernel_rfl) (by kernel_rfl) (by kernel_rfl) (fun _ _ _ h => h) (Or.inl ⟨by rfl, ?_⟩) hS ?_
          · intro w' hw'
            go_simp
          try go_frame
          refine kept_take (i := 8) (d := 36) (v := (.int .i64 z)) rfl rfl (by kernel_rfl) (by kernel_rfl) (by kernel_rfl) (fun _ _ _ h => h) (Or.inl ⟨by rfl, ?_⟩) hS ?_
          · intro w' hw'
            go_simp
          try go_frame
          obtain ⟨d0, d1, d2, d3⟩ := D6.out.c0
          have df := D6.out.free
          refine wpAnyE_ready (rs := [10]) (by kernel_rfl) (by simp) (AllE.cons rfl (fun K hK0 => ?_) AllE.nil)
          go_simp
          have hS2 : Below wa.heap.size wa ((((w6.setCell ⟨tb, 0, none⟩ (.slice xa nt' xc)).setCell ⟨tb, 1, none⟩ (.slice ya ns' yc)).setCell ⟨tb, 2, none⟩ (.slice za nl' zc)).setCell ⟨tb, 3, none⟩ (.int .i64 nx')) := below_put4 hS HTB.out _ _ _ _
          have D7 := Lib.hid (D6.out.put (.slice xa nt' xc) (.slice ya ns' yc) (.slice za nl' zc) (.int .i64 nx'))
          have HO7 := Lib.hid (own_put4 HO6.out HNE.out (.slice xa nt' xc) (.slice ya ns' yc) (.slice za nl' zc) (.int .i64 nx'))
          refine hK0.out _ _ (fun _ => hS2) (fun _ => ?_)
          clear hK0 K hS d0 d1 d2 d3 df
          have hS := hS2
          clear hS2
          try go_frame
          generalize ((((w6.setCell ⟨tb, 0, none⟩ (.slice xa nt' xc)).setCell ⟨tb, 1, none⟩ (.slice ya ns' yc)).setCell ⟨tb, 2, none⟩ (.slice za nl' zc)).setCell ⟨tb, 3, none⟩ (.int .i64 nx')) = w7 at *
          refine kept_take (i := 11) (d := 6) (v := (.int .i64 z)) rfl rfl (by kernel_rfl) (by kernel_rfl) (by kernel_rfl) (fun _ _ _ h => h) (Or.inl ⟨by rfl, ?_⟩) hS ?_
          · intro w' hw'
            go_simp
          try go_frame
          refine wpAnyE_done (by kernel_rfl) ?_ _
          have KS := Lib.hid hS
          clear hS D6 HO6 HNE
          have C7 := Lib.hid (C1.out.below KS.out)
          have K7 := Lib.hid (hK.out.trans (KS.out.mono hK.out.size))
          obtain ⟨d0, d1, d2, d3⟩ := D7.out.c0
          by_cases hz0 : z = 0
          · subst hz0
            have gf := C7.out.free
            obtain ⟨r0, r1, r2, r3⟩ := C7.out.c0
            go_wp2_with fail
            have K8 := Lib.hid (below_put4 K7.out HGW.out (.slice xa nt' xc) (.slice ya ns' yc) (.slice za nl' zc) (.int .i64 nx'))
            have C8 := Lib.hid (C7.out.put (.slice xa nt' xc) (.slice ya ns' yc) (.slice za nl' zc) (.int .i64 nx'))
            have O8 := Lib.hid (own_put4 HO7.out (b := G) (fun j hj _ _ e => by have := HGr.out; omega) (.slice xa nt' xc) (.slice ya ns' yc) (.slice za nl' zc) (.int .i64 nx'))
            have X8 := Lib.hid (show WSt G ((Gs.take (i + 1)).flatMap (·.L)).length _ from ⟨_, _, _, s', (show C4 G _ _ _ (.int .i64 s'.next) _ by rw [← HNX'.out]; exact C8.out), O8.out.stv.mono (fun b _ hb e => by have := HGr.out; omega), HS.out⟩)
            clear r0 r1 r2 r3 d0 d1 d2 d3 gf
            go_roundw
            case rel => exact ⟨i + 1, by omega, by go_num, X8, K8⟩
            case measure => simp [intOf]; omega
          · have X7 := Lib.hid (show WSt G ((Gs.take (i + 1)).flatMap (·.L)).length w7 from ⟨_, _, _, st, by have := C7.out; rw [HNN.out.2.2.2] at this; exact this, by have := V1.out.below KS.out; exact this, P1.out.1, P1.out.2.1, P1.out.2.2.1, by have := P1.out.2.2.2; unfold St.small at this ⊢; rw [HT.out, List.length_append]; omega⟩)
            clear d0 d1 d2 d3
            go_wp2_with fail
            go_roundw
            case rel => exact ⟨i + 1, by omega, by go_num, X7, K7⟩
            case measure => simp [intOf]; omega
      · obtain rfl : i = len := by omega
        have P2 := Lib.hid (show st.small 200 by have := P1.out.2.2.2; have h2 := HFE.out.2.1; have h3 := flat_le Gs i; unfold St.small at this ⊢; omega)
        clear hi
        have C2 := C1
        have HWH := Lib.hid (man_Whole V1 (Lib.hid (show st.small 1000000000 by have := P2.out; unfold St.small at this ⊢; omega)))
        obtain ⟨nt, hnt⟩ : ∃ n, n = st.tabs.length := ⟨_, rfl⟩
        obtain ⟨ns, hns⟩ : ∃ n, n = st.stos.length := ⟨_, rfl⟩
        obtain ⟨nl, hnl⟩ : ∃ n, n = st.logs.length := ⟨_, rfl⟩
        obtain ⟨nx, hnx⟩ : ∃ n, n = st.next := ⟨_, rfl⟩
        rw [← hnt, ← hns, ← hnl, ← hnx] at C1 HWH
        obtain ⟨nw, hnw⟩ : ∃ n, n = (wholeL st).length := ⟨_, rfl⟩
        rw [← hnw] at HWH
        have HNW := Lib.hid hnw
        have HN4 := Lib.hid (And.intro hnt (And.intro hns (And.intro hnl hnx)))
        clear hnt hns hnl hnx hnw C2
        obtain ⟨r0, r1, r2, r3⟩ := C1.out.c0
        have hge : (i : Int) ≤ (i : Int) := Int.le_refl _
        go_wp2_with fail
        refine HWH.out.mono ?_
        rintro e w4 ⟨v, rfl, ho, k4⟩
        obtain ⟨va, vc, rfl⟩ := OffRow.slice ho
        have K4 := Lib.hid (hK.out.trans (k4.mono hK.out.size))
        have C4' := Lib.hid (C1.out.below k4)
        have V4 := Lib.hid (V1.out.below k4)
        have HGr4 := Lib.hid (show G < w4.heap.size from heap_lt C4'.out)
        have HAP := Lib.hid (man_Apply (M := 0) (Lib.hid (zero_own w4 0).stv) (Lib.hid St.Ok.zero) (Lib.hid (fun f hf => by simp [St.files, St.zero] at hf)) (Lib.hid (RdL.mono (OffRow.rdL ho) (fun b hb _ => hb)).x) HNW (Lib.hid (whole_fit P1.out.1 P1.out.2.1 P1.out.2.2.1)) (Lib.hid (by simp [St.small, St.zero])) (show 0 + nw ≤ 1000000000 by have := wholeL_len P2.out; have := HNW.out; omega))
        unfold ApplyPost at HAP
        rw [app_whole P1.out.1] at HAP
        clear r0 r1 r2 r3 ho k4 HWH
        obtain ⟨r0, r1, r2, r3⟩ := C4'.out.c0
        go_wp2_with fail
        refine HAP.out.mono ?_
        rintro e w5 ⟨⟨tv', sv', lv', rfl, ho5⟩, k5⟩
        obtain ⟨xa, xc, rfl⟩ := OffRow.slice ho5.tabs
        obtain ⟨ya, yc, rfl⟩ := OffRow.slice ho5.stos
        obtain ⟨za, zc, rfl⟩ := OffRow.slice ho5.logs
        have K5 := Lib.hid (K4.out.trans (k5.mono K4.out.size))
        have C5 := Lib.hid (C4'.out.below k5)
        have V5 := Lib.hid (V4.out.below k5)
        have O5 := Lib.hid ho5.stv
        clear r0 r1 r2 r3 ho5 k5 HAP V4 C4'
        obtain ⟨w6, hw6⟩ : ∃ w6, w5.alloc (.cells #[.slice xa st.tabs.length xc, .slice ya st.stos.length yc, .slice za st.logs.length zc, .int .i64 st.next] 29) = w6 := ⟨_, rfl⟩
        obtain ⟨tb, htb⟩ : ∃ tb, tb = w5.heap.size := ⟨_, rfl⟩
        have k6 : Below w5.heap.size w5 w6 := by rw [← hw6]; exact (Below.refl _ _).alloc (Nat.le_refl _) _
        have D6 := Lib.hid (show C4 tb _ _ _ _ w6 by rw [← hw6, htb]; exact heap_new w5 _)
        have C6 := Lib.hid (C5.out.below k6)
        have V6 := Lib.hid (V5.out.below k6)
        have O6 := Lib.hid (O5.out.below k6)
        have K6 := Lib.hid (K5.out.trans (k6.mono K5.out.size))
        have HW6 := Lib.hid hw6
        have HTB := Lib.hid htb
        have HSS := Lib.hid (same_st V6 O6 (Lib.hid (show st.small 1000000000 by have := P2.out; unfold St.small at this ⊢; omega)))
        rw [← HN4.out.1, ← HN4.out.2.1, ← HN4.out.2.2.1, ← HN4.out.2.2.2] at D6 HW6 HSS
        rw [← HN4.out.1, ← HN4.out.2.1, ← HN4.out.2.2.1, ← HN4.out.2.2.2]
        clear hw6 htb k6 V5 C5 O5
        go_upto_region 11 with (fail)
        rw [HW6.out, ← HTB.out]
        obtain ⟨r0, r1, r2, r3⟩ := C6.out.c0
        obtain ⟨d0, d1, d2, d3⟩ := D6.out.c0
        go_wp2_with fail
        refine HSS.out.mono ?_
        rintro e w7 ⟨rfl, k7⟩
        have C7 := Lib.hid (C6.out.below k7)
        have V7 := Lib.hid (V6.out.below k7)
        have K7 := Lib.hid (K6.out.trans (k7.mono K6.out.size))
        have HFI := Lib.hid (man_Files V7 (Lib.hid (show st.tabs.length + st.stos.length + st.logs.length ≤ 1000000000 by have := P2.out; unfold St.small at this; omega)))
        rw [← HN4.out.1, ← HN4.out.2.1, ← HN4.out.2.2.1, ← HN4.out.2.2.2] at HFI
        clear r0 r1 r2 r3 d0 d1 d2 d3 k7 HSS V6 O6 D6 C6
        obtain ⟨r0, r1, r2, r3⟩ := C7.out.c0
        go_wp2_with fail
        refine HFI.out.mono ?_
        rintro e w8 ⟨v8, rfl, h8, k8⟩
        obtain ⟨fa, fc, rfl⟩ := RdL.slice h8
        have C8 := Lib.hid (C7.out.below k8)
        have V8 := Lib.hid (V7.out.below k8)
        have K8 := Lib.hid (K7.out.trans (k8.mono K7.out.size))
        have F8 := Lib.hid h8
        obtain ⟨nf, hnf⟩ : ∃ n, n = (filesOf st).length := ⟨_, rfl⟩
        rw [← hnf] at F8 ⊢
        have HNF := Lib.hid hnf
        have hnf9 : nf ≤ 1000000000 := by
          have h1 := (filesOf_perm st).length_eq
          have h2 := P2.out
          unfold St.small at h2
          unfold St.files at h1
          simp only [List.length_append, List.length_map] at h1
          omega
        clear r0 r1 r2 r3 h8 k8 HFI V7 C7 hnf
        go_wp2_with fail
        go_loopw [10] (fun iv wr => ∃ k : Nat, 1 ≤ k ∧ (k ≤ nf ∨ k = 1) ∧ iv = .int .i64 (k : Int) ∧ Hid (Below w8.heap.size w8 wr)) (fun iv wr => nf - (intOf iv).toNat)
        case atStart => exact ⟨1, Nat.le_refl _, .inr rfl, rfl, Lib.hid (Below.refl _ _)⟩
        case round =>
          obtain ⟨k, hk1, hk2, rfl, hKK⟩ := hrel
          by_cases hkl : k < nf
          · have hkl2 : (k : Int) < (nf : Int) := by omega
            obtain ⟨x, hx⟩ : ∃ x, (filesOf st)[k]? = some x := ⟨_, List.getElem?_eq_getElem (by have := HNF.out; omega)⟩
            obtain ⟨y, hy⟩ : ∃ y, (filesOf st)[k - 1]? = some y := ⟨_, List.getElem?_eq_getElem (by have := HNF.out; omega)⟩
            have hxy : ¬ x ≤ y := by
              have := filesOf_next (i := k - 1) P1.out.1 hy (by rw [show k - 1 + 1 = k by omega]; exact hx)
              omega
            obtain ⟨b0, o0, rfl, _, hb0, c0⟩ := (F8.out.below hKK.out).atI hx hkl
            obtain ⟨b1, o1, hfe, _, hb1, c1⟩ := (F8.out.below hKK.out).atI hy (by omega)
            obtain ⟨rfl, rfl⟩ : b0 = b1 ∧ o0 = o1 := by injection hfe with hfe; injection hfe with h1 h2; exact ⟨h1, h2⟩
            have y0 := c0 0 _ rfl
            have y1 := c1 0 _ rfl
            simp only [Nat.mul_one, Nat.add_zero] at y0 y1
            obtain ⟨k', hk'⟩ : ∃ k', k' = k - 1 := ⟨_, rfl⟩
            rw [← hk'] at y1
            have hkk : (k : Int) - 1 = (k' : Int) := by omega
            have hk9 : k' < nf := by omega
            have HKK' := Lib.hid hk'
            have hdec : decide (x ≤ y) = false := decide_eq_false hxy
            clear hx hy hxy c0 c1 hfe hb0 hb1 hk'
            go_wp2_with fail
            go_quiet (fail)
            go_wp2
            go_roundw
            case rel => exact ⟨k + 1, by omega, by omega, by go_num, Lib.hid (below_drewN hKK.out _)⟩
            case measure => simp [intOf]; omega
          · have hge2 : (nf : Int) ≤ (k : Int) := by omega
            have K9 := Lib.hid (K8.out.trans (hKK.out.mono K8.out.size))
            have C9 := Lib.hid (C8.out.below hKK.out)
            have V9 := Lib.hid (V8.out.below hKK.out)
            clear hKK hk1 hk2 hnf9
            go_wp2_with fail
            clear hge2 hkl
            have hnt9 : nt ≤ 1000000000 := by have := P2.out; unfold St.small at this; have := HN4.out.1; omega
            obtain ⟨w9, hw9⟩ : ∃ w9, w9 = wr := ⟨_, rfl⟩
            rw [← hw9] at K9 C9 V9 ⊢
            clear hw9 wr
            go_loopw [11] (fun iv wr => ∃ k : Nat, 1 ≤ k ∧ (k ≤ nt ∨ k = 1) ∧ iv = .int .i64 (k : Int) ∧ Hid (Below w9.heap.size w9 wr)) (fun iv wr => nt - (intOf iv).toNat)
            case atStart => exact ⟨1, Nat.le_refl _, .inr rfl, rfl, Lib.hid (Below.refl _ _)⟩
            case round =>
              obtain ⟨k, hk1, hk2, rfl, hKK⟩ := hrel
              obtain ⟨r0, r1, r2, r3⟩ := (C9.out.below hKK.out).c0
              by_cases hkl : k < nt
              · have hkl2 : (k : Int) < (nt : Int) := by omega
                obtain ⟨y, hy⟩ : ∃ y, st.tabs[k]? = some y := ⟨_, List.getElem?_eq_getElem (by have := HN4.out.1; omega)⟩
                obtain ⟨x, hx⟩ : ∃ x, st.tabs[k - 1]? = some x := ⟨_, List.getElem?_eq_getElem (by have := HN4.out.1; omega)⟩
                obtain ⟨q1, q2, q3⟩ := tabs_next (i := k - 1) P1.out.1 hx (by rw [show k - 1 + 1 = k by omega]; exact hy)
                have Q0 := Lib.hid ((P1.out.1.tab x (List.mem_of_getElem? hx)).1)
                obtain ⟨k', hk'⟩ : ∃ k', k' = k - 1 := ⟨_, rfl⟩
                rw [← hk'] at hx
                have hkk : (k : Int) - 1 = (k' : Int) := by omega
                have hk9 : (k' : Int) < (nt : Int) := by omega
                have hwk : IntKind.i64.wrap (k' : Int) = (k' : Int) := IntWalk.i64_in _ (by omega)
                have hk9' : k' < nt := by omega
                have V10 := (V9.out.below hKK.out).tabs
                rw [← HN4.out.1] at V10
                obtain ⟨b0, o0, rfl, _, hb0, c0⟩ := V10.atT hx hk9'
                obtain ⟨b1, o1, hfe, _, hb1, c1⟩ := V10.atT hy hkl
                obtain ⟨rfl, rfl⟩ : b0 = b1 ∧ o0 = o1 := by injection hfe with hfe; injection hfe with h1 h2; exact ⟨h1, h2⟩
                have HK' := Lib.hid hk'
                have HC0 := Lib.hid c0
                have HC1 := Lib.hid c1
                have HQ := Lib.hid (And.intro q1 (And.intro q2 q3))
                have HB0 := Lib.hid hb0
                obtain ⟨wa, hwa⟩ : ∃ wa, wa = wr := ⟨_, rfl⟩
                rw [← hwa] at HC0 HC1 HB0 hKK r0 r1 r2 r3 ⊢
                have cx : ∀ q : Seen wa, ∀ i u, (tcell x)[i]? = some u → q.val.cell? ⟨b0, o0 + k' * 5 + i, none⟩ = some u := fun q i u hu => by rw [q.below.cell (p := ⟨b0, o0 + k' * 5 + i, none⟩) HB0.out]; exact HC0.out i u hu
                have cy : ∀ q : Seen wa, ∀ i u, (tcell y)[i]? = some u → q.val.cell? ⟨b0, o0 + k * 5 + i, none⟩ = some u := fun q i u hu => by rw [q.below.cell (p := ⟨b0, o0 + k * 5 + i, none⟩) HB0.out]; exact HC1.out i u hu
                have HCX := Lib.hid cx
                have HCY := Lib.hid cy
                clear hx hy q1 q2 q3 c0 c1 hfe hb0 hb1 hk' V10 hwa wr cx cy
                go_wp2_with fail
                refine wp_region_kept (fun W => Below wa.heap.size wa W) (by kernel_rfl) ?_
                change wpAnyE _ _ _ _ _ _ _ _ _ wa.drew
                have hS : Below wa.heap.size wa wa.drew := (Below.refl _ _).drew
                generalize wa.drew = w4 at *
                refine kept_take (i := 0) (d := 80) (v := (.pointer (some ⟨G, 0, none⟩))) rfl rfl (by kernel_rfl) (by kernel_rfl) (by kernel_rfl) (fun _ _ _ h => h) (Or.inl ⟨by rfl, ?_⟩) hS ?_
                · intro w' hw'
                  go_simp
                try go_frame
                refine kept_take (i := 1) (d := 81) (v := (.slice (some ⟨b0, o0, none⟩) nt tc)) rfl rfl (by kernel_rfl) (by kernel_rfl) (by kernel_rfl) (fun _ _ _ h => h) (Or.inl ⟨by rfl, ?_⟩) hS ?_
                · intro w' hw'
                  obtain ⟨z0, z1, z2, z3⟩ := (C9.out.below (hKK.out.trans (hw'.mono hKK.out.size))).c0
                  go_simp
                try go_frame
                refine kept_take (i := 2) (d := 82) (v := (.int .i64 (k : Int))) rfl rfl (by kernel_rfl) (by kernel_rfl) (by kernel_rfl) (fun _ _ _ h => h) (Or.inl ⟨by rfl, ?_⟩) hS ?_
                · intro w' hw'
                  go_simp
                try go_frame
                refine kept_take (i := 3) (d := 83) (v := (.int .i64 (k' : Int))) rfl rfl (by kernel_rfl) (by kernel_rfl) (by kernel_rfl) (fun _ _ _ h => h) (Or.inl ⟨by rfl, ?_⟩) hS ?_
                · intro w' hw'
                  go_simp
                try go_frame
                refine kept_take (i := 4) (d := 84) (v := (.pointer (some ⟨b0, o0 + k' * 5, none⟩))) rfl rfl (by kernel_rfl) (by kernel_rfl) (by kernel_rfl) (fun _ _ _ h => h) (Or.inl ⟨by rfl, ?_⟩) hS ?_
                · intro w' hw'
                  go_simp
                try go_frame
                refine kept_take (i := 5) (d := 85) (v := (.agg #[.int .i64 x.file, .int .i64 x.lev, .int .i64 x.cnt, .string (bs x.low), .string (bs x.high)])) rfl rfl (by kernel_rfl) (by kernel_rfl) (by kernel_rfl) (fun _ _ _ h => h) (Or.inl ⟨by rfl, ?_⟩) hS ?_
                · intro w' hw'
                  have z0 : w'.cell? ⟨b0, o0 + k' * 5, none⟩ = _ := HCX.out ⟨w', hw'⟩ 0 _ rfl
                  have z1 := HCX.out ⟨w', hw'⟩ 1 _ rfl
                  have z2 := HCX.out ⟨w', hw'⟩ 2 _ rfl
                  have z3 := HCX.out ⟨w', hw'⟩ 3 _ rfl
                  have z4 := HCX.out ⟨w', hw'⟩ 4 _ rfl
                  go_simp
                try go_frame
                refine kept_take (i := 6) (d := 86) (v := (.pointer (some ⟨G, 0, none⟩))) rfl rfl (by kernel_rfl) (by kernel_rfl) (by kernel_rfl) (fun _ _ _ h => h) (Or.inl ⟨by rfl, ?_⟩) hS ?_
                · intro w' hw'
                  go_simp
                try go_frame
                refine kept_take (i := 7) (d := 87) (v := (.slice (some ⟨b0, o0, none⟩) nt tc)) rfl rfl (by kernel_rfl) (by kernel_rfl) (by kernel_rfl) (fun _ _ _ h => h) (Or.inl ⟨by rfl, ?_⟩) hS ?_
                · intro w' hw'
                  obtain ⟨z0, z1, z2, z3⟩ := (C9.out.below (hKK.out.trans (hw'.mono hKK.out.size))).c0
                  go_simp
                try go_frame
                refine kept_take (i := 8) (d := 88) (v := (.int .i64 (k : Int))) rfl rfl (by kernel_rfl) (by kernel_rfl) (by kernel_rfl) (fun _ _ _ h => h) (Or.inl ⟨by rfl, ?_⟩) hS ?_
                · intro w' hw'
                  go_simp
                try go_frame
                refine kept_take (i := 9) (d := 89) (v := (.pointer (some ⟨b0, o0 + k * 5, none⟩))) rfl rfl (by kernel_rfl) (by kernel_rfl) (by kernel_rfl) (fun _ _ _ h => h) (Or.inl ⟨by rfl, ?_⟩) hS ?_
                · intro w' hw'
                  go_simp
                try go_frame
                refine kept_take (i := 10) (d := 90) (v := (.agg #[.int .i64 y.file, .int .i64 y.lev, .int .i64 y.cnt, .string (bs y.low), .string (bs y.high)])) rfl rfl (by kernel_rfl) (by kernel_rfl) (by kernel_rfl) (fun _ _ _ h => h) (Or.inl ⟨by rfl, ?_⟩) hS ?_
                · intro w' hw'
                  have z0 : w'.cell? ⟨b0, o0 + k * 5, none⟩ = _ := HCY.out ⟨w', hw'⟩ 0 _ rfl
                  have z1 := HCY.out ⟨w', hw'⟩ 1 _ rfl
                  have z2 := HCY.out ⟨w', hw'⟩ 2 _ rfl
                  have z3 := HCY.out ⟨w', hw'⟩ 3 _ rfl
                  have z4 := HCY.out ⟨w', hw'⟩ 4 _ rfl
                  go_simp
                try go_frame
                refine wpAnyE_ready (rs := [11, 12]) (by kernel_rfl) (by simp) (AllE.cons rfl (fun K hK0 => ?_) (AllE.cons rfl (fun K hK0 => ?_) AllE.nil))
                · go_simp
                  obtain ⟨w5, hw5⟩ : ∃ w5, w5 = w4.alloc (.cells #[.int .i64 0, .int .i64 0, .int .i64 0, .string { data := #[] }, .string { data := #[] }] 42) := ⟨_, rfl⟩
                  obtain ⟨xb, hxb⟩ : ∃ xb, xb = w4.heap.size := ⟨_, rfl⟩
                  have kw5 : Below w4.heap.size w4 w5 := by rw [hw5]; exact (Below.refl _ _).alloc (Nat.le_refl _) _
                  have hS2 : Below wa.heap.size wa w5 := by rw [hw5]; exact hS.alloc hS.size _
                  have Dxb := Lib.hid (show B5 xb ⟨0, 0, 0, [], []⟩ w5 by rw [hw5, hxb]; exact heap_new w4 _)
                  have Lxb := Lib.hid (show wa.heap.size ≤ xb by rw [hxb]; exact hS.size)
                  rw [← hw5, ← hxb]
                  refine hK0.out _ _ (fun _ => hS2) (fun _ => ?_)
                  clear hK0 K hS hw5 hxb kw5
                  have hS := hS2
                  clear hS2
                  try go_frame
                  refine wpAnyE_ready (rs := [12]) (by kernel_rfl) (by simp) (AllE.cons rfl (fun K hK0 => ?_) AllE.nil)
                  go_simp
                  obtain ⟨w6, hw6⟩ : ∃ w6, w6 = w5.alloc (.cells #[.int .i64 0, .int .i64 0, .int .i64 0, .string { data := #[] }, .string { data := #[] }] 42) := ⟨_, rfl⟩
                  obtain ⟨yb, hyb⟩ : ∃ yb, yb = w5.heap.size := ⟨_, rfl⟩
                  have kw6 : Below w5.heap.size w5 w6 := by rw [hw6]; exact (Below.refl _ _).alloc (Nat.le_refl _) _
                  have hS2 : Below wa.heap.size wa w6 := by rw [hw6]; exact hS.alloc hS.size _
                  have Dyb := Lib.hid (show B5 yb ⟨0, 0, 0, [], []⟩ w6 by rw [hw6, hyb]; exact heap_new w5 _)
                  have Lyb := Lib.hid (show wa.heap.size ≤ yb by rw [hyb]; exact hS.size)
                  have Exb := Lib.hid (Dxb.out.below kw6)
                  have HNE := Lib.hid (show xb ≠ yb by have := heap_lt Dxb.out; omega)
                  rw [← hw6, ← hyb]
                  refine hK0.out _ _ (fun _ => hS2) (fun _ => ?_)
                  clear hK0 K hS hw6 hyb kw6
                  have hS := hS2
                  clear hS2
                  try go_frame
                  have X6 := Lib.hid (show B5 xb ⟨0, 0, 0, [], []⟩ w6 from Exb.out)
                  have Y6 := Lib.hid (show B5 yb ⟨0, 0, 0, [], []⟩ w6 from Dyb.out)
                  have HXY := Lib.hid (show xb ≠ yb by have := HNE.out; omega)
                  obtain ⟨d0, d1, d2, d3, d4⟩ := X6.out.c0
                  have df := X6.out.free
                  refine wpAnyE_ready (rs := [13]) (by kernel_rfl) (by simp) (AllE.cons rfl (fun K hK0 => ?_) AllE.nil)
                  go_simp
                  have hS2 : Below wa.heap.size wa (((((w6.setCell ⟨xb, 0, none⟩ (.int .i64 x.file)).setCell ⟨xb, 1, none⟩ (.int .i64 x.lev)).setCell ⟨xb, 2, none⟩ (.int .i64 x.cnt)).setCell ⟨xb, 3, none⟩ (.string (bs x.low))).setCell ⟨xb, 4, none⟩ (.string (bs x.high))) := below_set5 hS Lxb.out _ _ _ _ _
                  have X7 := Lib.hid (X6.out.put x)
                  have Y7 := Lib.hid (show B5 yb ⟨0, 0, 0, [], []⟩ (((((w6.setCell ⟨xb, 0, none⟩ (.int .i64 x.file)).setCell ⟨xb, 1, none⟩ (.int .i64 x.lev)).setCell ⟨xb, 2, none⟩ (.int .i64 x.cnt)).setCell ⟨xb, 3, none⟩ (.string (bs x.low))).setCell ⟨xb, 4, none⟩ (.string (bs x.high))) from (heap_set5 (by have := HXY.out; omega) _ _ _ _ _).trans Y6.out)
                  refine hK0.out _ _ (fun _ => hS2) (fun _ => ?_)
                  clear hK0 K hS d0 d1 d2 d3 d4 df
                  have hS := hS2
                  clear hS2
                  try go_frame
                  generalize (((((w6.setCell ⟨xb, 0, none⟩ (.int .i64 x.file)).setCell ⟨xb, 1, none⟩ (.int .i64 x.lev)).setCell ⟨xb, 2, none⟩ (.int .i64 x.cnt)).setCell ⟨xb, 3, none⟩ (.string (bs x.low))).setCell ⟨xb, 4, none⟩ (.string (bs x.high))) = w7 at *
                  obtain ⟨d0, d1, d2, d3, d4⟩ := Y7.out.c0
                  have df := Y7.out.free
                  refine wpAnyE_ready (rs := [14]) (by kernel_rfl) (by simp) (AllE.cons rfl (fun K hK0 => ?_) AllE.nil)
                  go_simp
                  have hS2 : Below wa.heap.size wa (((((w7.setCell ⟨yb, 0, none⟩ (.int .i64 y.file)).setCell ⟨yb, 1, none⟩ (.int .i64 y.lev)).setCell ⟨yb, 2, none⟩ (.int .i64 y.cnt)).setCell ⟨yb, 3, none⟩ (.string (bs y.low))).setCell ⟨yb, 4, none⟩ (.string (bs y.high))) := below_set5 hS Lyb.out _ _ _ _ _
                  have Y8 := Lib.hid (Y7.out.put y)
                  have X8 := Lib.hid (show B5 xb x (((((w7.setCell ⟨yb, 0, none⟩ (.int .i64 y.file)).setCell ⟨yb, 1, none⟩ (.int .i64 y.lev)).setCell ⟨yb, 2, none⟩ (.int .i64 y.cnt)).setCell ⟨yb, 3, none⟩ (.string (bs y.low))).setCell ⟨yb, 4, none⟩ (.string (bs y.high))) from (heap_set5 (by have := HXY.out; omega) _ _ _ _ _).trans X7.out)
                  refine hK0.out _ _ (fun _ => hS2) (fun _ => ?_)
                  clear hK0 K hS d0 d1 d2 d3 d4 df
                  have hS := hS2
                  clear hS2
                  try go_frame
                  generalize (((((w7.setCell ⟨yb, 0, none⟩ (.int .i64 y.file)).setCell ⟨yb, 1, none⟩ (.int .i64 y.lev)).setCell ⟨yb, 2, none⟩ (.int .i64 y.cnt)).setCell ⟨yb, 3, none⟩ (.string (bs y.low))).setCell ⟨yb, 4, none⟩ (.string (bs y.high))) = w8b at *
                  refine wpAnyE_done (by kernel_rfl) ?_ _
                  have KS := Lib.hid (hKK.out.trans (hS.mono hKK.out.size))
                  clear hS X6 Y6 X7 Y7
                  obtain ⟨xv0, xv1, xv2, xv3, xv4⟩ := X8.out.c0
                  obtain ⟨yv0, yv1, yv2, yv3, yv4⟩ := Y8.out.c0
                  by_cases hll : x.lev = y.lev
                  · have g2 : (x.lev == y.lev) = true := by simpa using hll
                    by_cases hl0 : x.lev = 0
                    · have g3 : (x.lev == 0) = true := by simpa using hl0
                      have g4 : ¬ x.file ≤ y.file := by have := HQ.out.2.1 hll hl0; omega
                      have g5 : decide (x.file ≤ y.file) = false := decide_eq_false g4
                      have g6 : decide (0 < x.lev) = false := decide_eq_false (by omega)
                      have g7 : decide (y.lev < x.lev) = false := decide_eq_false (by omega)
                      clear hll hl0 g4
                      go_wp2_with fail
                      go_roundw
                      case rel => exact ⟨k + 1, by omega, by omega, by go_num, KS⟩
                      case measure => simp [intOf]; omega
                    · have g3 : (x.lev == 0) = false := by simpa using hl0
                      have hl1 : 0 < x.lev := by have := Q0.out; omega
                      have g4 := HQ.out.2.2 hll hl1
                      have g6 : decide (0 < x.lev) = true := decide_eq_true hl1
                      have g5 : Op.bytesLess (bs x.high).toList (bs y.low).toList = true := by rw [Lib.toList_data, Lib.toList_data, bs_list, bs_list, ltB_less]; exact g4
                      have g8 : Op.bytesLess (bs y.low).toList (bs x.high).toList = false := by rw [Lib.toList_data, Lib.toList_data, bs_list, bs_list, ltB_less]; exact ltB_asymm g4
                      have g9 : ((bs x.high).toList == (bs y.low).toList) = false := by rw [Bool.eq_false_iff]; intro e; exact ltB_ne g4 ((same_bytes _ _).1 e)
                      have g7 : decide (y.lev < x.lev) = false := decide_eq_false (by omega)
                      clear hll hl0 hl1 g4
                      go_wp2_with fail
                      go_roundw
                      case rel => exact ⟨k + 1, by omega, by omega, by go_num, KS⟩
                      case measure => simp [intOf]; omega
                  · have g2 : (x.lev == y.lev) = false := by simpa using hll
                    have g7 : decide (y.lev < x.lev) = false := decide_eq_false (by have := HQ.out.1; omega)
                    clear hll
                    go_wp2_with fail
                    go_roundw
                    case rel => exact ⟨k + 1, by omega, by omega, by go_num, KS⟩
                    case measure => simp [intOf]; omega
                · go_simp
                  obtain ⟨w5, hw5⟩ : ∃ w5, w5 = w4.alloc (.cells #[.int .i64 0, .int .i64 0, .int .i64 0, .string { data := #[] }, .string { data := #[] }] 42) := ⟨_, rfl⟩
                  obtain ⟨yb, hyb⟩ : ∃ yb, yb = w4.heap.size := ⟨_, rfl⟩
                  have kw5 : Below w4.heap.size w4 w5 := by rw [hw5]; exact (Below.refl _ _).alloc (Nat.le_refl _) _
                  have hS2 : Below wa.heap.size wa w5 := by rw [hw5]; exact hS.alloc hS.size _
                  have Dyb := Lib.hid (show B5 yb ⟨0, 0, 0, [], []⟩ w5 by rw [hw5, hyb]; exact heap_new w4 _)
                  have Lyb := Lib.hid (show wa.heap.size ≤ yb by rw [hyb]; exact hS.size)
                  rw [← hw5, ← hyb]
                  refine hK0.out _ _ (fun _ => hS2) (fun _ => ?_)
                  clear hK0 K hS hw5 hyb kw5
                  have hS := hS2
                  clear hS2
                  try go_frame
                  refine wpAnyE_ready (rs := [11]) (by kernel_rfl) (by simp) (AllE.cons rfl (fun K hK0 => ?_) AllE.nil)
                  go_simp
                  obtain ⟨w6, hw6⟩ : ∃ w6, w6 = w5.alloc (.cells #[.int .i64 0, .int .i64 0, .int .i64 0, .string { data := #[] }, .string { data := #[] }] 42) := ⟨_, rfl⟩
                  obtain ⟨xb, hxb⟩ : ∃ xb, xb = w5.heap.size := ⟨_, rfl⟩
                  have kw6 : Below w5.heap.size w5 w6 := by rw [hw6]; exact (Below.refl _ _).alloc (Nat.le_refl _) _
                  have hS2 : Below wa.heap.size wa w6 := by rw [hw6]; exact hS.alloc hS.size _
                  have Dxb := Lib.hid (show B5 xb ⟨0, 0, 0, [], []⟩ w6 by rw [hw6, hxb]; exact heap_new w5 _)
                  have Lxb := Lib.hid (show wa.heap.size ≤ xb by rw [hxb]; exact hS.size)
                  have Eyb := Lib.hid (Dyb.out.below kw6)
                  have HNE := Lib.hid (show yb ≠ xb by have := heap_lt Dyb.out; omega)
                  rw [← hw6, ← hxb]
                  refine hK0.out _ _ (fun _ => hS2) (fun _ => ?_)
                  clear hK0 K hS hw6 hxb kw6
                  have hS := hS2
                  clear hS2
                  try go_frame
                  have X6 := Lib.hid (show B5 xb ⟨0, 0, 0, [], []⟩ w6 from Dxb.out)
                  have Y6 := Lib.hid (show B5 yb ⟨0, 0, 0, [], []⟩ w6 from Eyb.out)
                  have HXY := Lib.hid (show xb ≠ yb by have := HNE.out; omega)
                  obtain ⟨d0, d1, d2, d3, d4⟩ := X6.out.c0
                  have df := X6.out.free
                  refine wpAnyE_ready (rs := [13]) (by kernel_rfl) (by simp) (AllE.cons rfl (fun K hK0 => ?_) AllE.nil)
                  go_simp
                  have hS2 : Below wa.heap.size wa (((((w6.setCell ⟨xb, 0, none⟩ (.int .i64 x.file)).setCell ⟨xb, 1, none⟩ (.int .i64 x.lev)).setCell ⟨xb, 2, none⟩ (.int .i64 x.cnt)).setCell ⟨xb, 3, none⟩ (.string (bs x.low))).setCell ⟨xb, 4, none⟩ (.string (bs x.high))) := below_set5 hS Lxb.out _ _ _ _ _
                  have X7 := Lib.hid (X6.out.put x)
                  have Y7 := Lib.hid (show B5 yb ⟨0, 0, 0, [], []⟩ (((((w6.setCell ⟨xb, 0, none⟩ (.int .i64 x.file)).setCell ⟨xb, 1, none⟩ (.int .i64 x.lev)).setCell ⟨xb, 2, none⟩ (.int .i64 x.cnt)).setCell ⟨xb, 3, none⟩ (.string (bs x.low))).setCell ⟨xb, 4, none⟩ (.string (bs x.high))) from (heap_set5 (by have := HXY.out; omega) _ _ _ _ _).trans Y6.out)
                  refine hK0.out _ _ (fun _ => hS2) (fun _ => ?_)
                  clear hK0 K hS d0 d1 d2 d3 d4 df
                  have hS := hS2
                  clear hS2
                  try go_frame
                  generalize (((((w6.setCell ⟨xb, 0, none⟩ (.int .i64 x.file)).setCell ⟨xb, 1, none⟩ (.int .i64 x.lev)).setCell ⟨xb, 2, none⟩ (.int .i64 x.cnt)).setCell ⟨xb, 3, none⟩ (.string (bs x.low))).setCell ⟨xb, 4, none⟩ (.string (bs x.high))) = w7 at *
                  obtain ⟨d0, d1, d2, d3, d4⟩ := Y7.out.c0
                  have df := Y7.out.free
                  refine wpAnyE_ready (rs := [14]) (by kernel_rfl) (by simp) (AllE.cons rfl (fun K hK0 => ?_) AllE.nil)
                  go_simp
                  have hS2 : Below wa.heap.size wa (((((w7.setCell ⟨yb, 0, none⟩ (.int .i64 y.file)).setCell ⟨yb, 1, none⟩ (.int .i64 y.lev)).setCell ⟨yb, 2, none⟩ (.int .i64 y.cnt)).setCell ⟨yb, 3, none⟩ (.string (bs y.low))).setCell ⟨yb, 4, none⟩ (.string (bs y.high))) := below_set5 hS Lyb.out _ _ _ _ _
                  have Y8 := Lib.hid (Y7.out.put y)
                  have X8 := Lib.hid (show B5 xb x (((((w7.setCell ⟨yb, 0, none⟩ (.int .i64 y.file)).setCell ⟨yb, 1, none⟩ (.int .i64 y.lev)).setCell ⟨yb, 2, none⟩ (.int .i64 y.cnt)).setCell ⟨yb, 3, none⟩ (.string (bs y.low))).setCell ⟨yb, 4, none⟩ (.string (bs y.high))) from (heap_set5 (by have := HXY.out; omega) _ _ _ _ _).trans X7.out)
                  refine hK0.out _ _ (fun _ => hS2) (fun _ => ?_)
                  clear hK0 K hS d0 d1 d2 d3 d4 df
                  have hS := hS2
                  clear hS2
                  try go_frame
                  generalize (((((w7.setCell ⟨yb, 0, none⟩ (.int .i64 y.file)).setCell ⟨yb, 1, none⟩ (.int .i64 y.lev)).setCell ⟨yb, 2, none⟩ (.int .i64 y.cnt)).setCell ⟨yb, 3, none⟩ (.string (bs y.low))).setCell ⟨yb, 4, none⟩ (.string (bs y.high))) = w8b at *
                  refine wpAnyE_done (by kernel_rfl) ?_ _
                  have KS := Lib.hid (hKK.out.trans (hS.mono hKK.out.size))
                  clear hS X6 Y6 X7 Y7
                  obtain ⟨xv0, xv1, xv2, xv3, xv4⟩ := X8.out.c0
                  obtain ⟨yv0, yv1, yv2, yv3, yv4⟩ := Y8.out.c0
                  by_cases hll : x.lev = y.lev
                  · have g2 : (x.lev == y.lev) = true := by simpa using hll
                    by_cases hl0 : x.lev = 0
                    · have g3 : (x.lev == 0) = true := by simpa using hl0
                      have g4 : ¬ x.file ≤ y.file := by have := HQ.out.2.1 hll hl0; omega
                      have g5 : decide (x.file ≤ y.file) = false := decide_eq_false g4
                      have g6 : decide (0 < x.lev) = false := decide_eq_false (by omega)
                      have g7 : decide (y.lev < x.lev) = false := decide_eq_false (by omega)
                      clear hll hl0 g4
                      go_wp2_with fail
                      go_roundw
                      case rel => exact ⟨k + 1, by omega, by omega, by go_num, KS⟩
                      case measure => simp [intOf]; omega
                    · have g3 : (x.lev == 0) = false := by simpa using hl0
                      have hl1 : 0 < x.lev := by have := Q0.out; omega
                      have g4 := HQ.out.2.2 hll hl1
                      have g6 : decide (0 < x.lev) = true := decide_eq_true hl1
                      have g5 : Op.bytesLess (bs x.high).toList (bs y.low).toList = true := by rw [Lib.toList_data, Lib.toList_data, bs_list, bs_list, ltB_less]; exact g4
                      have g8 : Op.bytesLess (bs y.low).toList (bs x.high).toList = false := by rw [Lib.toList_data, Lib.toList_data, bs_list, bs_list, ltB_less]; exact ltB_asymm g4
                      have g9 : ((bs x.high).toList == (bs y.low).toList) = false := by rw [Bool.eq_false_iff]; intro e; exact ltB_ne g4 ((same_bytes _ _).1 e)
                      have g7 : decide (y.lev < x.lev) = false := decide_eq_false (by omega)
                      clear hll hl0 hl1 g4
                      go_wp2_with fail
                      go_roundw
                      case rel => exact ⟨k + 1, by omega, by omega, by go_num, KS⟩
                      case measure => simp [intOf]; omega
                  · have g2 : (x.lev == y.lev) = false := by simpa using hll
                    have g7 : decide (y.lev < x.lev) = false := decide_eq_false (by have := HQ.out.1; omega)
                    clear hll
                    go_wp2_with fail
                    go_roundw
                    case rel => exact ⟨k + 1, by omega, by omega, by go_num, KS⟩
                    case measure => simp [intOf]; omega
              · have hge3 : (nt : Int) ≤ (k : Int) := by omega
                go_wp2
                go_ret
                exact ⟨rfl, K9.out.trans (hKK.out.mono K9.out.size)⟩
end Go.Proofs.YtfbaenhajlckjaaGreat
