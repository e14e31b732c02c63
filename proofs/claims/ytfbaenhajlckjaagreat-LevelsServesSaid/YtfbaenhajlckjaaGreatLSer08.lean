/- Texts put together: ManApply, LevOpen0, LevPlain, LevMay, LevClos -/
import Derived.Test.YtfbaenhajlckjaaGreatLSer06
import Derived.Test.YtfbaenhajlckjaaGreatLSer07
import Derived.Deep.Slices
import Derived.Deep.Fields
import Derived.ChangeSame
import Derived.SizedLaws
import Derived.Test.YtfbaenhajlckjaaGreatLSer02
import Derived.Test.YtfbaenhajlckjaaGreatLSer04
import Derived.Lib.MinMaxS
/- Edits applied to a state. -/
set_option linter.unusedVariables false
set_option maxRecDepth 100000
namespace Go.Proofs.YtfbaenhajlckjaaGreat
open Go.RowKit Go.Maps Go.WideShapes Go.ChangeMaps
variable {B db mb : Nat} {w : World} {s : St} {tv sv lv : Value}

theorem small_one {s : St} {N : Nat} (h : s.small N) (x : Ed) : (oneS s x).small (N + 1) := by
  unfold St.small at *
  have f1 := List.length_filter_le (fun t : Tb => decide (t.file ≠ x.file)) s.tabs
  have f2 := List.length_filter_le (fun t : So => decide (t.file ≠ x.file)) s.stos
  have f3 := List.length_filter_le (fun t : Int => decide (t ≠ x.file)) s.logs
  have i1 := (insT_perm x.tab s.tabs).length_eq
  have i2 := (insS_perm x.sto s.stos).length_eq
  simp only [List.length_cons] at i1 i2
  unfold oneS
  split
  · simp only; omega
  split
  · simp only; omega
  split
  · simp only; omega
  split
  · simp only; omega
  split
  · simp only [List.length_append, List.length_cons, List.length_nil]; omega
  split
  · simp only; omega
  · simp only; omega
theorem app_small : ∀ (L : List Ed) {s : St} {N : Nat}, s.small N → (app s L).2.small (N + L.length)
  | [], s, N, h => h
  | x :: L, s, N, h => by
    by_cases h0 : oneE s x = 0
    · rw [app_cons_ok h0]
      have := app_small L (small_one h x)
      rw [List.length_cons, show N + (L.length + 1) = N + 1 + L.length by omega]
      exact this
    · rw [app_cons_no h0]; unfold St.small; simp [St.zero]
theorem fit_one {s : St} (h : s.fit) {x : Ed} (hx : x.fit) : (oneS s x).fit := by
  intro f hf
  unfold oneS at hf
  have m : ∀ {t : St}, f ∈ t.files → (∀ g ∈ t.tabs, g.file = x.file ∨ g ∈ s.tabs) → (∀ g ∈ t.stos, g.file = x.file ∨ g ∈ s.stos) → (∀ g ∈ t.logs, g = x.file ∨ g ∈ s.logs) → f ≤ 9223372036854775807 := fun {t} hm h1 h2 h3 => by
    rcases mem_files.1 hm with a | a | a
    · obtain ⟨g, hg, rfl⟩ := List.mem_map.1 a
      rcases h1 g hg with e | e
      · rw [e]; exact hx.2
      · exact h _ (mem_files.2 (.inl (List.mem_map.2 ⟨g, e, rfl⟩)))
    · obtain ⟨g, hg, rfl⟩ := List.mem_map.1 a
      rcases h2 g hg with e | e
      · rw [e]; exact hx.2
      · exact h _ (mem_files.2 (.inr (.inl (List.mem_map.2 ⟨g, e, rfl⟩))))
    · rcases h3 f a with e | e
      · rw [e]; exact hx.2
      · exact h _ (mem_files.2 (.inr (.inr e)))
  split at hf
  · exact m hf (fun g hg => by rcases mem_insT.1 hg with rfl | hg; (exact .inl rfl); (exact .inr hg)) (fun g hg => .inr hg) (fun g hg => .inr hg)
  split at hf
  · exact m hf (fun g hg => .inr (List.mem_filter.1 hg).1) (fun g hg => .inr hg) (fun g hg => .inr hg)
  split at hf
  · exact m hf (fun g hg => .inr hg) (fun g hg => by rcases mem_insS.1 hg with rfl | hg; (exact .inl rfl); (exact .inr hg)) (fun g hg => .inr hg)
  split at hf
  · exact m hf (fun g hg => .inr hg) (fun g hg => .inr (List.mem_filter.1 hg).1) (fun g hg => .inr hg)
  split at hf
  · exact m hf (fun g hg => .inr hg) (fun g hg => .inr hg) (fun g hg => by rcases List.mem_append.1 hg with e | e; (exact .inr e); (exact .inl (by simpa using e)))
  split at hf
  · exact m hf (fun g hg => .inr hg) (fun g hg => .inr hg) (fun g hg => .inr (List.mem_filter.1 hg).1)
  · exact m hf (fun g hg => .inr hg) (fun g hg => .inr hg) (fun g hg => .inr hg)
theorem app_fit : ∀ (L : List Ed) {s : St}, s.fit → (∀ x ∈ L, x.fit) → (app s L).2.fit
  | [], s, h, _ => h
  | x :: L, s, h, hL => by
    by_cases h0 : oneE s x = 0
    · rw [app_cons_ok h0]; exact app_fit L (fit_one h (hL x (List.mem_cons_self ..))) fun y hy => hL y (List.mem_cons_of_mem _ hy)
    · rw [app_cons_no h0]; intro f hf; simp [St.zero, St.files] at hf
theorem app_take {s : St} {L : List Ed} {i : Nat} {x : Ed} (hx : L[i]? = some x) (h0 : (app s (L.take i)).1 = 0) : app s L = app (app s (L.take i)).2 (x :: L.drop (i + 1)) ∧ app s (L.take (i + 1)) = app (app s (L.take i)).2 [x] := by
  have e1 : L = L.take i ++ (x :: L.drop (i + 1)) := by
    have := List.take_append_drop i L
    rw [List.drop_eq_getElem?_toList_append, hx] at this
    simpa using this.symm
  constructor
  · conv => lhs; rw [e1]
    rw [app_append _ _ _ h0]
  · rw [List.take_add_one, hx]
    exact app_append _ _ _ h0
set_option maxHeartbeats 4000000 in
theorem draft_apply {a : Option Addr} {n cap M : Nat} {L : List Ed} (h : Hid (Dr B w db s tv sv lv mb)) (hok : Hid s.Ok) (he : Hid (RdX (fun b => b < B) w (.slice a n cap) n (flat ecell L))) (hL : Hid (n = L.length)) (hf : Hid (∀ x ∈ L, x.fit)) (hs : Hid (s.small M)) (hM : M + n ≤ 1000000000) :
    Calls Tryz.prog 51 #[.pointer (some ⟨db, 0, none⟩), .slice a n cap] w (DoPost B db w (app s L).1 (app s L).2) := by
  have HB := Lib.hid (show B ≤ w.heap.size by have := h.out.lo; have := h.out.lt; omega)
  obtain ⟨z, hz⟩ : ∃ z, z = (app s L).1 := ⟨_, rfl⟩
  obtain ⟨s', hs'⟩ : ∃ s', s' = (app s L).2 := ⟨_, rfl⟩
  rw [← hz, ← hs']
  have HZ := Lib.hid (And.intro hz hs')
  clear hz hs'
  go_enter Tryz.func51, Tryz.ntmps51
  go_wp2_with fail
  go_loopw [10] (fun iv wr => ∃ (i : Nat) (si : St), i ≤ n ∧ iv = .int .i64 (i : Int) ∧ Hid (app s (L.take i) = (0, si)) ∧ Hid (∃ tv sv lv mb, Dr B wr db si tv sv lv mb) ∧ Hid (Below B w wr)) (fun iv wr => n - (intOf iv).toNat)
  case atStart => exact ⟨0, s, Nat.zero_le _, rfl, Lib.hid (by rw [List.take_zero]; rfl), Lib.hid ⟨_, _, _, _, h.out⟩, Lib.hid (Below.refl _ _)⟩
  case round =>
    obtain ⟨i, si, hi, rfl, hA, hD, hK⟩ := hrel
    by_cases hlt : i < n
    · have hlt' : (i : Int) < (n : Int) := by omega
      obtain ⟨x, hx⟩ : ∃ x, L[i]? = some x := ⟨_, List.getElem?_eq_getElem (by have := hL.out; omega)⟩
      obtain ⟨b, off, rfl, ht, hb2, hc⟩ := RdX.atE he.out hx hlt
      have hcr : ∀ i' u, (ecell x)[i']? = some u → wr.cell? ⟨b, off + i * 6 + i', none⟩ = some u := fun i' u hu => by
        rw [← hc i' u hu]
        simp only [World.cell?, hK.out.block b ht]
      have y0 : wr.cell? ⟨b, off + i * 6, none⟩ = _ := hcr 0 _ rfl
      have y1 := hcr 1 _ rfl
      have y2 := hcr 2 _ rfl
      have y3 := hcr 3 _ rfl
      have y4 := hcr 4 _ rfl
      have y5 := hcr 5 _ rfl
      obtain ⟨tv1, sv1, lv1, mb1, hD1⟩ := hD.out
      obtain ⟨w1, hw1⟩ : ∃ w1, w1 = wr.alloc (.cells #[.int .i64 x.kind, .int .i64 x.file, .int .i64 x.lev, .int .i64 x.cnt, .string (bs x.low), .string (bs x.high)] 47) := ⟨_, rfl⟩
      have A1 := Lib.hid (show Below wr.heap.size wr w1 by rw [hw1]; exact (Below.refl _ _).alloc (Nat.le_refl _) _)
      have D1 := Lib.hid (hD1.below A1.out)
      have HBr := Lib.hid (show B ≤ wr.heap.size by have := hK.out.size; have := HB.out; omega)
      have hsi : si = (app s (L.take i)).2 := by rw [hA.out]
      have OKi := Lib.hid (show si.Ok by rw [hsi]; exact app_ok _ hok.out)
      have SMi := Lib.hid (show si.small 1000000000 by
        rw [hsi]
        have := app_small (L.take i) hs.out
        unfold St.small at this ⊢
        rw [List.length_take] at this
        omega)
      have HP := Lib.hid (draft_do D1 OKi x (hf.out x (List.mem_of_getElem? hx)) SMi)
      have HT := Lib.hid (app_take (s := s) hx (by rw [hA.out]))
      rw [hA.out] at HT
      obtain ⟨q, hq⟩ : ∃ q, q = oneE si x := ⟨_, rfl⟩
      rw [← hq] at HP
      have HQ := Lib.hid hq
      have HW1 := Lib.hid hw1
      rw [hw1] at HP
      clear hcr hc hx hsi hD1 hq hw1
      go_wp2_with fail
      refine HP.out.mono ?_
      rintro e w2 ⟨rfl, k2, hp2⟩
      have K2 := Lib.hid (show Below B w w2 from by
        rw [← HW1.out] at k2
        exact (hK.out.trans (A1.out.mono HBr.out)).trans k2)
      have HP2 := Lib.hid hp2
      clear k2 hp2
      by_cases hq0 : q = 0
      · subst hq0
        have HN := Lib.hid (show app s (L.take (i + 1)) = (0, oneS si x) by rw [HT.out.2, app_cons_ok HQ.out.symm]; rfl)
        go_wp2_with fail
        go_roundw
        case rel => exact ⟨i + 1, oneS si x, hlt, by go_num, HN, Lib.hid (HP2.out (by first | trivial | rfl)), K2⟩
        case measure => simp [intOf]; omega
      · have HN := Lib.hid (show z = q by rw [HZ.out.1, HT.out.1, app_cons_no (by rw [← HQ.out]; exact hq0), HQ.out])
        go_wp2
        go_ret
        rw [HN.out]
        exact do_bad K2.out hq0
    · obtain rfl : i = n := by omega
      have HN := Lib.hid (show z = 0 ∧ s' = si by
        have := hA.out
        rw [List.take_of_length_le (by have := hL.out; omega)] at this
        rw [HZ.out.1, HZ.out.2, this]
        exact ⟨rfl, rfl⟩)
      go_wp2
      go_ret
      rw [HN.out.1, HN.out.2]
      exact ⟨rfl, hK.out, fun _ => hD.out⟩
theorem zero_own (w : World) (B : Nat) : OwnSt w B (.slice none 0 0) (.slice none 0 0) (.slice none 0 0) St.zero := ⟨OffRow.nil _ _ _ _, OffRow.nil _ _ _ _, OffRow.nil _ _ _ _⟩
/-- What Apply answers. -/
def ApplyPost (B : Nat) (s : St) (L : List Ed) (e : Ending) (w' : World) : Prop :=
  ∃ tv sv lv, e = .returned (.tuple #[.agg #[tv, sv, lv, .int .i64 (app s L).2.next], .int .i64 (app s L).1]) ∧ OwnSt w' B tv sv lv (app s L).2
set_option maxHeartbeats 4000000 in
theorem man_Apply {T : Nat → Prop} {a : Option Addr} {n cap M : Nat} {L : List Ed} (h : Hid (StV T w tv sv lv s)) (hok : Hid s.Ok) (hfit : Hid s.fit) (he : Hid (RdX (fun b => b < w.heap.size) w (.slice a n cap) n (flat ecell L))) (hL : Hid (n = L.length)) (hf : Hid (∀ x ∈ L, x.fit)) (hs : Hid (s.small M)) (hM : M + n ≤ 1000000000) :
    Calls Tryz.prog 13 #[.agg #[tv, sv, lv, .int .i64 s.next], .slice a n cap] w fun e w' => ApplyPost w.heap.size s L e w' ∧ Below w.heap.size w w' := by
  obtain ⟨xa, xc, rfl⟩ := RdL.slice h.out.tabs
  obtain ⟨ya, yc, rfl⟩ := RdL.slice h.out.stos
  obtain ⟨za, zc, rfl⟩ := RdL.slice h.out.logs
  obtain ⟨B, hB⟩ : ∃ B, B = w.heap.size := ⟨_, rfl⟩
  have he' := he
  rw [← hB] at he' ⊢
  have HE := Lib.hid he'.out
  have HB := Lib.hid hB
  obtain ⟨w1, hw1⟩ : ∃ w1, (w.alloc (.cells #[.slice xa s.tabs.length xc, .slice ya s.stos.length yc, .slice za s.logs.length zc, .int .i64 s.next] 29)).alloc (.cells #[.slice none 0 0, .slice none 0 0, .slice none 0 0, .int .i64 0] 29) = w1 := ⟨_, rfl⟩
  have K1 := Lib.hid (show Below B w w1 by rw [← hw1, hB]; exact ((Below.refl _ _).alloc (Nat.le_refl _) _).alloc (by simp) _)
  have X1 := Lib.hid (show C4 B (.slice xa s.tabs.length xc) (.slice ya s.stos.length yc) (.slice za s.logs.length zc) (.int .i64 s.next) w1 by rw [← hw1, hB]; exact (Below.heap_alloc _ _ _ (by simp)).trans (heap_new w _))
  have R1 := Lib.hid (show C4 (B + 1) (.slice none 0 0) (.slice none 0 0) (.slice none 0 0) (.int .i64 0) w1 by
    rw [← hw1, hB]
    have := heap_new (w.alloc (.cells #[.slice xa s.tabs.length xc, .slice ya s.stos.length yc, .slice za s.logs.length zc, .int .i64 s.next] 29)) (.cells #[.slice none 0 0, .slice none 0 0, .slice none 0 0, .int .i64 0] 29)
    rw [show (w.alloc (.cells #[.slice xa s.tabs.length xc, .slice ya s.stos.length yc, .slice za s.logs.length zc, .int .i64 s.next] 29)).heap.size = w.heap.size + 1 by simp] at this
    exact this)
  have S1 := Lib.hid (h.out.below (HB.out ▸ K1.out))
  have HW1 := Lib.hid hw1
  obtain ⟨a0, a1, a2, a3⟩ := X1.out.c0
  have hR1 : B + 1 < w1.heap.size := heap_lt R1.out
  have hsm : s.tabs.length + s.stos.length + s.logs.length ≤ 1000000000 := by have := hs.out; unfold St.small at this; omega
  have C1 := Lib.hid (draft_of S1 hok hfit (Lib.hid hsm))
  have HPO := Lib.hid (fun (e : Ending) (w' : World) (h : ApplyPost B s L e w') => h)
  obtain ⟨z, hz⟩ : ∃ z, z = (app s L).1 := ⟨_, rfl⟩
  obtain ⟨s', hs'⟩ : ∃ s', s' = (app s L).2 := ⟨_, rfl⟩
  have HZ := Lib.hid (And.intro hz hs')
  unfold ApplyPost
  rw [← hz, ← hs']
  obtain ⟨nx, hnx⟩ : ∃ n, n = s'.next := ⟨_, rfl⟩
  rw [← hnx]
  have HNX := Lib.hid hnx
  clear hw1 hB hsm hz hs' he' HPO hnx
  go_enter Tryz.func13, Tryz.ntmps13
  go_upto_region 1 with (fail)
  rw [HW1.out, ← HB.out]
  go_wp2_with fail
  refine C1.out.mono ?_
  rintro e w2 ⟨db, tv', sv', lv', mb, rfl, d2, k2⟩
  have D2 := Lib.hid d2
  have K2 := Lib.hid (K1.out.trans (k2.mono (by omega)))
  have R2 := Lib.hid (R1.out.below k2)
  have HE2 := Lib.hid (show RdX (fun b => b < w1.heap.size) w2 (.slice a n cap) n (flat ecell L) from (HE.out.below (HB.out ▸ K2.out)).mono (fun b _ hb => by omega))
  have CA := Lib.hid (draft_apply D2 hok HE2 hL hf hs hM)
  rw [← HZ.out.1, ← HZ.out.2] at CA
  clear d2 k2 a0 a1 a2 a3 C1
  go_wp2_with fail
  refine CA.out.mono ?_
  rintro e w3 ⟨rfl, k3, hd3⟩
  have K3 := Lib.hid (K2.out.trans (k3.mono (by omega)))
  have R3 := Lib.hid (show C4 (B + 1) (.slice none 0 0) (.slice none 0 0) (.slice none 0 0) (.int .i64 0) w3 from (k3.block (B + 1) hR1).trans R2.out)
  have gr := R3.out.free
  obtain ⟨r0, r1, r2, r3⟩ := R3.out.c0
  by_cases hz0 : z = 0
  · obtain ⟨tv3, sv3, lv3, mb3, hd⟩ := hd3 hz0
    obtain ⟨ta, tc, rfl⟩ := OffRow.slice hd.tabs
    obtain ⟨sa, sc, rfl⟩ := OffRow.slice hd.stos
    obtain ⟨la, lc, rfl⟩ := OffRow.slice hd.logs
    obtain ⟨nt, hnt⟩ : ∃ n, n = s'.tabs.length := ⟨_, rfl⟩
    obtain ⟨ns, hns⟩ : ∃ n, n = s'.stos.length := ⟨_, rfl⟩
    obtain ⟨nl, hnl⟩ : ∃ n, n = s'.logs.length := ⟨_, rfl⟩
    rw [← hnt, ← hns, ← hnl] at hd
    have HD := Lib.hid hd
    have d0 : w3.cell? ⟨db, 0, none⟩ = some (.slice ta nt tc) := hd.cell 0
    have d1 : w3.cell? ⟨db, 1, none⟩ = some (.slice sa ns sc) := hd.cell 1
    have d2 : w3.cell? ⟨db, 2, none⟩ = some (.slice la nl lc) := hd.cell 2
    have d3 : w3.cell? ⟨db, 3, none⟩ = some (.int .i64 nx) := by rw [HNX.out]; exact hd.cell 3
    have HN := Lib.hid (And.intro hnt (And.intro hns hnl))
    clear hd hd3 hnt hns hnl k3 CA
    subst hz0
    go_wp2
    have KE := Lib.hid (below_put4 K3.out (show B ≤ B + 1 by omega) (.slice ta nt tc) (.slice sa ns sc) (.slice la nl lc) (.int .i64 nx))
    have keep : ∀ {e : TypeId} {size n : Nat} {v : Value} {xs : List Value}, OffRow w3 w1.heap.size e size v n xs → OffRow ((((w3.setCell ⟨B + 1, 0, none⟩ (.slice ta nt tc)).setCell ⟨B + 1, 1, none⟩ (.slice sa ns sc)).setCell ⟨B + 1, 2, none⟩ (.slice la nl lc)).setCell ⟨B + 1, 3, none⟩ (.int .i64 nx)) B e size v n xs := fun ho => own_mono (OffRow.kept ho fun j hj => by
      have := (OffRow.lt ho j hj).1
      rw [heap_set_other (by omega), heap_set_other (by omega), heap_set_other (by omega), heap_set_other (by omega)]) (by omega)
    refine bodyPost_ret (results_st2 rfl _ _ (B + 1) _ _ _ _ _ rfl rfl (R3.out.put _ _ _ _)) rfl ?_
    exact ⟨⟨_, _, _, rfl, ⟨keep HD.out.tabs, keep HD.out.stos, keep HD.out.logs⟩⟩, KE.out⟩
  · have HS := Lib.hid (show s' = St.zero by rw [HZ.out.2]; exact app_zero _ _ (by rw [← HZ.out.1]; exact hz0))
    clear hd3 k3 CA
    go_wp2
    have KE := Lib.hid (below_put4 K3.out (show B ≤ B + 1 by omega) (.slice none 0 0) (.slice none 0 0) (.slice none 0 0) (.int .i64 0))
    refine bodyPost_ret (results_st2 rfl _ _ (B + 1) _ _ _ _ _ rfl rfl (R3.out.put _ _ _ _)) rfl ?_
    have hn0 : nx = 0 := by rw [HNX.out, HS.out]; rfl
    rw [HS.out, hn0]
    exact ⟨⟨_, _, _, rfl, zero_own _ _⟩, KE.out⟩
end Go.Proofs.YtfbaenhajlckjaaGreat
/- What comes in, field by field. -/
set_option linter.unusedVariables false
set_option maxRecDepth 100000
namespace Go.Proofs.YtfbaenhajlckjaaGreat
open Go.ChangeShapes Go.WideShapes Go.Deep
open Go.RowKit (Below)
section
variable {H : Type} {enc : TypeId × Value → H} {w : World} {base : Nat} {spare : Nat → Bool} {held : Bool}
/-- A struct of one-cell fields, field by field. -/
theorem fields_read {P : Program} {t : TypeId} {fs : Array Field} {fuel : Nat} {cs : List Value} {x : DataW H × List MemPlace} (hs : P.underlying t = some (.struct fs)) (hone : oneCellFields P fs = true) (hC : P.cellsOf t = fs.size)
    (h : DataW.trod enc P w base spare held fuel t cs = some x) : cs.length = fs.size ∧ ∃ n, ∀ (j : Nat) (f : Field), fs[j]? = some f → ∃ v y, cs[j]? = some v ∧ DataW.trod enc P w base spare held n f.type [v] = some y := by
  obtain ⟨xs, n, _, _, hlen, hxl, hg⟩ := DataW.trod_struct hs h
  refine ⟨hlen.trans hC, n, fun j f hj => ?_⟩
  obtain ⟨ho, hk⟩ := hone_of hone j f hj
  have hjs : j < fs.size := (Array.getElem?_eq_some_iff.1 hj).1
  have hjc : j < cs.length := by omega
  have hjx : j < xs.length := by omega
  have h1 := hg j f hj
  rw [ho, hk, List.getElem?_eq_getElem hjx] at h1
  have h2 : (cs.drop j).take 1 = [cs[j]] := by rw [List.drop_eq_getElem_cons hjc]; rfl
  rw [h2] at h1
  exact ⟨cs[j], xs[j], List.getElem?_eq_getElem hjc, h1⟩
theorem map_some {α β : Type} {o : Option α} {f : α → β} {b : β} (h : o.map f = some b) : ∃ a, o = some a ∧ f a = b := by
  cases o with
  | none => cases h
  | some a => exact ⟨a, rfl, by injection h⟩
end
end Go.Proofs.YtfbaenhajlckjaaGreat
/- Tables that come, and are merged: the first that has a key has what was laid there last (plain). -/
set_option linter.unusedVariables false
set_option maxRecDepth 100000
namespace Go.Proofs.YtfbaenhajlckjaaGreat

/-! ### the first of a rising row that has a value -/
theorem fs_cons {α β : Type} {f : α → Option β} {a : α} {L : List α} : (a :: L).findSome? f = (match f a with | some b => some b | none => L.findSome? f) := by
  rw [List.findSome?_cons]
  cases f a <;> rfl
theorem fs_none {α β : Type} {f : α → Option β} {L : List α} : L.findSome? f = none ↔ ∀ a ∈ L, f a = none := by
  rw [List.findSome?_eq_none_iff]
theorem fs_iff {β : Type} {f : Tb → Option β} {v : β} : ∀ {L : List Tb}, (L.Pairwise fun a b => tlt a b = true) → (L.findSome? f = some v ↔ ∃ t ∈ L, f t = some v ∧ ∀ u ∈ L, tlt u t = true → f u = none)
  | [], _ => by simp
  | a :: L, h => by
    rw [List.pairwise_cons] at h
    rw [fs_cons]
    cases e : f a with
    | some b =>
      constructor
      · rintro hb
        refine ⟨a, List.mem_cons_self .., by rw [e]; exact hb, fun u hu hlt => ?_⟩
        rcases List.mem_cons.1 hu with rfl | hu
        · rw [tlt_irrefl] at hlt; cases hlt
        · rw [tlt_asymm (h.1 u hu)] at hlt; cases hlt
      · rintro ⟨t, ht, hft, hmin⟩
        rcases List.mem_cons.1 ht with rfl | ht
        · rw [← hft, e]
        · have := hmin a (List.mem_cons_self ..) (h.1 t ht)
          rw [e] at this; cases this
    | none =>
      show L.findSome? f = some v ↔ _
      rw [fs_iff h.2]
      constructor
      · rintro ⟨t, ht, hft, hmin⟩
        refine ⟨t, List.mem_cons_of_mem _ ht, hft, fun u hu hlt => ?_⟩
        rcases List.mem_cons.1 hu with rfl | hu
        · exact e
        · exact hmin u hu hlt
      · rintro ⟨t, ht, hft, hmin⟩
        rcases List.mem_cons.1 ht with rfl | ht
        · rw [e] at hft; cases hft
        · exact ⟨t, ht, hft, fun u hu hlt => hmin u (List.mem_cons_of_mem _ hu) hlt⟩
theorem fs_mem {α β : Type} {f : α → Option β} {v : β} {L : List α} (h : L.findSome? f = some v) : ∃ t ∈ L, f t = some v := List.exists_of_findSome?_eq_some h
theorem fs_sub {β : Type} {f : Tb → Option β} {p : Tb → Bool} : ∀ {L : List Tb}, (∀ t ∈ L, p t = false → f t = none) → (L.filter p).findSome? f = L.findSome? f
  | [], _ => rfl
  | a :: L, h => by
    rw [List.filter_cons]
    have ih := fs_sub (f := f) (p := p) (L := L) fun t ht => h t (List.mem_cons_of_mem _ ht)
    cases e : p a with
    | true => rw [if_pos rfl, fs_cons, fs_cons, ih]
    | false =>
      rw [if_neg (by simp), ih, fs_cons, h a (List.mem_cons_self ..) e]

/-- A key lies within a table. -/
def inT (t : Tb) (k : List UInt8) : Prop := ltB k t.low = false ∧ ltB t.high k = false
theorem apart_one {s : St} (h : s.Ok) {t u : Tb} (ht : t ∈ s.tabs) (hu : u ∈ s.tabs) (hl : t.lev = u.lev) (h0 : 0 < t.lev) {k : List UInt8} (kt : inT t k) (ku : inT u k) : t = u := by
  obtain ⟨i, hi, rfl⟩ := List.getElem_of_mem ht
  obtain ⟨j, hj, rfl⟩ := List.getElem_of_mem hu
  have hp := List.pairwise_iff_getElem.1 h.apart
  rcases Nat.lt_trichotomy i j with e | e | e
  · have := hp i j hi hj e hl h0
    have h1 := ltB_lt_le this ku.1
    rw [kt.2] at h1; cases h1
  · subst e; rfl
  · have := hp j i hj hi e hl.symm (hl ▸ h0)
    have h1 := ltB_lt_le this kt.1
    rw [ku.2] at h1; cases h1

/-- A plan: what is merged, to which level, between which keys. -/
structure PlanOk (s : St) (I : List Tb) (out : Int) (low high : List UInt8) : Prop where
  sub : ∀ t ∈ I, t ∈ s.tabs
  rise : I.Pairwise fun a b => tlt a b = true
  ne : I ≠ []
  lo : 1 ≤ out
  hi : out ≤ 5
  lev : ∀ t ∈ I, t.lev = out - 1 ∨ t.lev = out
  all : out = 1 → ∀ u ∈ s.tabs, u.lev = 0 → u ∈ I
  inn : ∀ t ∈ I, ltB t.low low = false ∧ ltB high t.high = false
  le : ltB high low = false
  out : ∀ u ∈ s.tabs, u.lev = out → u ∉ I → ltB u.high low = true ∨ ltB high u.low = true
theorem PlanOk.key {s : St} {I : List Tb} {out : Int} {low high : List UInt8} (h : PlanOk s I out low high) {t : Tb} (ht : t ∈ I) {k : List UInt8} (hk : inT t k) : ltB k low = false ∧ ltB high k = false := by
  obtain ⟨h1, h2⟩ := h.inn t ht
  exact ⟨ltB_ntrans hk.1 h1, ltB_ntrans h2 hk.2⟩

/-- What is known of tables and of what they have. -/
structure Serve (s : St) (n : Int) (val : Int → List UInt8 → Option Int) (last : List UInt8 → Option Int) : Prop where
  ok : s.Ok
  few : ∀ f ∈ s.files, f ≤ n
  key : ∀ t ∈ s.tabs, ∀ k v, val t.file k = some v → inT t k
  first : ∀ k, s.tabs.findSome? (fun t => val t.file k) = last k
def setV (val : Int → List UInt8 → Option Int) (n : Int) (g : List UInt8 → Option Int) : Int → List UInt8 → Option Int := fun f => if f = n then g else val f
theorem tab_file {s : St} {t : Tb} (ht : t ∈ s.tabs) : t.file ∈ s.files := mem_files.2 (.inl (List.mem_map.2 ⟨t, ht, rfl⟩))

/-! ### tables that go -/
def dropEd (t : Tb) : Ed := ⟨2, t.file, 0, 0, [], []⟩
theorem drops_app : ∀ (I : List Tb) {s : St}, s.files.Nodup → I.Nodup → (∀ t ∈ I, t ∈ s.tabs) → app s (I.map dropEd) = (0, { s with tabs := s.tabs.filter fun t => decide (t.file ∉ I.map (·.file)) })
  | [], s, _, _, _ => by simp [app]; rw [show s.tabs.filter (fun _ => true) = s.tabs from List.filter_eq_self.2 (by simp)]
  | a :: I, s, hn, hI, hs => by
    have ha : a.file ∈ s.tabs.map (·.file) := List.mem_map.2 ⟨a, hs a (List.mem_cons_self ..), rfl⟩
    have e0 : oneE s (dropEd a) = 0 := by
      unfold oneE dropEd
      rw [if_neg (by simp), if_pos (by simp), if_pos ha]
    have e1 : oneS s (dropEd a) = { s with tabs := s.tabs.filter fun t => decide (t.file ≠ a.file) } := by
      unfold oneS dropEd
      rw [if_neg (by simp), if_pos (by simp)]
    rw [List.map_cons, app_cons_ok e0, e1]
    rw [List.nodup_cons] at hI
    have hsub : (s.tabs.filter fun t => decide (t.file ≠ a.file)).Sublist s.tabs := List.filter_sublist
    have hfs : ({ s with tabs := s.tabs.filter fun t => decide (t.file ≠ a.file) } : St).files.Sublist s.files := (((hsub.map _).append (.refl _)).append (.refl _))
    have hn1 : (s.tabs.map (·.file)).Nodup := (List.nodup_append.1 (List.nodup_append.1 hn).1).1
    rw [drops_app I (hn.sublist hfs) hI.2 ?_]
    · simp only [List.filter_filter, List.map_cons, List.mem_cons, not_or, Bool.decide_and]
      congr 2
      refine List.filter_congr fun t ht => ?_
      rw [Bool.and_comm]
    · intro t ht
      refine List.mem_filter.2 ⟨hs t (List.mem_cons_of_mem _ ht), ?_⟩
      have : t.file ≠ a.file := fun e => by
        have : t = a := by
          obtain ⟨i, hi, h1⟩ := List.getElem_of_mem (hs t (List.mem_cons_of_mem _ ht))
          obtain ⟨j, hj, h2⟩ := List.getElem_of_mem (hs a (List.mem_cons_self ..))
          have hij : i = j := by
            refine (List.getElem_inj (h₀ := by simpa using hi) (h₁ := by simpa using hj) hn1).1 ?_
            simp [h1, h2, e]
          subst hij
          rw [← h1, ← h2]
        exact hI.1 (this ▸ ht)
      simpa using this
theorem rise_nodup {I : List Tb} (h : I.Pairwise fun a b => tlt a b = true) : I.Nodup := h.imp fun {a b} hab e => by subst e; rw [tlt_irrefl] at hab; cases hab

/-! ### a new table -/
def newT (n out cnt : Int) (low high : List UInt8) : Tb := ⟨n, out, cnt, low, high⟩
def addEd (n out cnt : Int) (low high : List UInt8) : Ed := ⟨1, n, out, cnt, low, high⟩
theorem add_ok {s : St} {n out cnt : Int} {low high : List UInt8} (h0 : 0 ≤ out) (h5 : out ≤ 5) (hc : 1 ≤ cnt) (hl : ltB high low = false) (hn : 1 ≤ n) (hf : n ∉ s.files) (hm : 0 < out → ∀ u ∈ s.tabs, u.lev = out → ltB u.high low = true ∨ ltB high u.low = true) :
    app s [addEd n out cnt low high] = (0, { s with tabs := insT (newT n out cnt low high) s.tabs }) := by
  have e0 : oneE s (addEd n out cnt low high) = 0 := by
    have hb : badTab (addEd n out cnt low high) = false := by
      show (decide (out < 0) || decide (5 < out) || decide (cnt < 1) || ltB high low) = false
      rw [decide_eq_false (by omega), decide_eq_false (by omega), decide_eq_false (by omega), hl]; rfl
    unfold oneE
    rw [if_pos (show (addEd n out cnt low high).kind = 1 from rfl), if_neg (by rw [hb]; simp only [addEd]; simp; omega), if_neg (show (addEd n out cnt low high).file ∉ s.files from hf), if_neg]
    rintro ⟨hl0, ha⟩
    obtain ⟨u, hu, hmu⟩ := List.any_eq_true.1 ha
    simp only [meets, Bool.and_eq_true, decide_eq_true_eq, Bool.not_eq_true'] at hmu
    have a1 : ltB u.high low = false := hmu.1.2
    have a2 : ltB high u.low = false := hmu.2
    rcases hm hl0 u hu hmu.1.1 with e | e
    · rw [a1] at e; cases e
    · rw [a2] at e; cases e
  rw [app_cons_ok e0]
  unfold oneS
  rw [if_pos (show (addEd n out cnt low high).kind = 1 from rfl)]
  rfl

/-- KEYS ARE LAID. -/
theorem Serve.lay {s : St} {n : Int} {val : Int → List UInt8 → Option Int} {last : List UInt8 → Option Int} (h : Serve s n val last) (hn : 0 ≤ n) {cnt : Int} (hc : 1 ≤ cnt) {low high : List UInt8} {g : List UInt8 → Option Int} (hle : ltB high low = false) (hg : ∀ k v, g k = some v → ltB k low = false ∧ ltB high k = false) :
    app s [addEd (n + 1) 0 cnt low high] = (0, { s with tabs := insT (newT (n + 1) 0 cnt low high) s.tabs }) ∧
    Serve { s with tabs := insT (newT (n + 1) 0 cnt low high) s.tabs } (n + 1) (setV val (n + 1) g) (fun k => match g k with | some v => some v | none => last k) := by
  have hf : n + 1 ∉ s.files := fun hf => by have := h.few _ hf; omega
  have ha := add_ok (s := s) (n := n + 1) (out := 0) (cnt := cnt) (low := low) (high := high) (by omega) (by omega) hc hle (by omega) hf (fun z => by omega)
  refine ⟨ha, ?_⟩
  have hok : ({ s with tabs := insT (newT (n + 1) 0 cnt low high) s.tabs } : St).Ok := by have := app_ok [addEd (n + 1) 0 cnt low high] h.ok; rw [ha] at this; exact this
  have hne : ∀ t ∈ s.tabs, ¬ t.file = n + 1 := fun t ht e => hf (e ▸ tab_file ht)
  refine ⟨hok, ?_, ?_, ?_⟩
  · intro f hfm
    rcases mem_files.1 hfm with a | a | a
    · obtain ⟨t, ht, rfl⟩ := List.mem_map.1 a
      rcases mem_insT.1 ht with rfl | ht
      · exact Int.le_refl _
      · have := h.few _ (tab_file ht); omega
    · have := h.few f (mem_files.2 (.inr (.inl a))); omega
    · have := h.few f (mem_files.2 (.inr (.inr a))); omega
  · intro t ht k v hv
    rcases mem_insT.1 ht with rfl | ht
    · have : g k = some v := by simpa [setV, newT] using hv
      exact hg k v this
    · unfold setV at hv
      rw [if_neg (hne t ht)] at hv
      exact h.key t ht k v hv
  · intro k
    have hx : ∀ u ∈ s.tabs, tlt (newT (n + 1) 0 cnt low high) u = true := fun u hu => by
      have h1 := h.few _ (tab_file hu)
      have h2 := (h.ok.tab u hu).1
      unfold tlt newT
      by_cases z : u.lev = 0
      · rw [if_pos z.symm, if_pos rfl]; simp; omega
      · rw [if_neg (fun e => z e.symm)]; simp; omega
    have hins : insT (newT (n + 1) 0 cnt low high) s.tabs = newT (n + 1) 0 cnt low high :: s.tabs := by
      cases hT : s.tabs with
      | nil => rfl
      | cons u L => unfold insT; rw [if_pos (hx u (by rw [hT]; exact List.mem_cons_self ..))]
    show (insT (newT (n + 1) 0 cnt low high) s.tabs).findSome? _ = _
    rw [hins, fs_cons]
    have e1 : setV val (n + 1) g (newT (n + 1) 0 cnt low high).file k = g k := by simp [setV, newT]
    rw [e1]
    cases hgk : g k with
    | some v => rfl
    | none =>
      show s.tabs.findSome? _ = last k
      rw [← h.first k]
      have : ∀ (T : List Tb), (∀ t ∈ T, ¬ t.file = n + 1) → T.findSome? (fun t => setV val (n + 1) g t.file k) = T.findSome? (fun t => val t.file k) := fun T hT => by
        induction T with
        | nil => rfl
        | cons a T ih =>
          rw [fs_cons, fs_cons, ih fun t ht => hT t (List.mem_cons_of_mem _ ht)]
          unfold setV
          rw [if_neg (hT a (List.mem_cons_self ..))]
      exact this _ hne

/-- A PLAN IS DONE. -/
theorem Serve.merge {s : St} {n : Int} {val : Int → List UInt8 → Option Int} {last : List UInt8 → Option Int} (h : Serve s n val last) (hn : 0 ≤ n) {I : List Tb} {out : Int} {low high : List UInt8} (hp : PlanOk s I out low high) {cnt : Int} (hc : 1 ≤ cnt) :
    ∃ s', app s (I.map dropEd ++ [addEd (n + 1) out cnt low high]) = (0, s') ∧ Serve s' (n + 1) (setV val (n + 1) fun k => I.findSome? fun t => val t.file k) last ∧ s'.stos = s.stos ∧ s'.logs = s.logs := by
  have hnd := rise_nodup hp.rise
  have hd := drops_app I h.ok.nod hnd hp.sub
  have hok1 := app_ok (I.map dropEd) h.ok
  rw [hd] at hok1
  have hfile : ∀ t ∈ s.tabs, t.file ∈ I.map (·.file) → t ∈ I := fun t ht hm => by
    obtain ⟨u, hu, e⟩ := List.mem_map.1 hm
    have hn1 : (s.tabs.map (·.file)).Nodup := (List.nodup_append.1 (List.nodup_append.1 h.ok.nod).1).1
    obtain ⟨i, hi, h1⟩ := List.getElem_of_mem ht
    obtain ⟨j, hj, h2⟩ := List.getElem_of_mem (hp.sub u hu)
    have hij : i = j := by
      refine (List.getElem_inj (h₀ := by simpa using hi) (h₁ := by simpa using hj) hn1).1 ?_
      simp [h1, h2, e]
    subst hij
    rw [← h1, h2]; exact hu
  obtain ⟨s1, hs1⟩ : ∃ s1 : St, s1 = { s with tabs := s.tabs.filter fun t => decide (t.file ∉ I.map (·.file)) } := ⟨_, rfl⟩
  rw [← hs1] at hd hok1
  have hm1 : ∀ u, u ∈ s1.tabs ↔ u ∈ s.tabs ∧ u ∉ I := fun u => by
    rw [hs1]
    show u ∈ s.tabs.filter _ ↔ _
    rw [List.mem_filter]
    constructor
    · rintro ⟨a, b⟩
      exact ⟨a, fun hu => by simp at b; exact b u hu rfl⟩
    · rintro ⟨a, b⟩
      exact ⟨a, by simpa using fun x hx e => b (hfile u a (List.mem_map.2 ⟨x, hx, e⟩))⟩
  have hfs : ∀ f, f ∈ s1.files → f ∈ s.files := fun f hf => by
    have hsub : (s.tabs.filter fun t => decide (t.file ∉ I.map (·.file))).Sublist s.tabs := List.filter_sublist
    have hfs : ({ s with tabs := s.tabs.filter fun t => decide (t.file ∉ I.map (·.file)) } : St).files.Sublist s.files := (((hsub.map _).append (.refl _)).append (.refl _))
    rw [hs1] at hf
    exact hfs.subset hf
  have hf : n + 1 ∉ s1.files := fun hf => by have := h.few _ (hfs _ hf); omega
  have ho := hp.lo
  have ho5 := hp.hi
  have ha := add_ok (s := s1) (n := n + 1) (out := out) (cnt := cnt) (low := low) (high := high) (by omega) (by omega) hc hp.le (by omega) hf (fun _ u hu hl => hp.out u ((hm1 u).1 hu).1 hl ((hm1 u).1 hu).2)
  obtain ⟨x, hx⟩ : ∃ x, x = newT (n + 1) out cnt low high := ⟨_, rfl⟩
  rw [← hx] at ha
  have hxl : x.lev = out := by rw [hx]; rfl
  have hxf : x.file = n + 1 := by rw [hx]; rfl
  have hxw : x.low = low ∧ x.high = high := by rw [hx]; exact ⟨rfl, rfl⟩
  refine ⟨{ s1 with tabs := insT x s1.tabs }, ?_, ?_, by rw [hs1], by rw [hs1]⟩
  · rw [app_append _ _ _ (by rw [hd]), hd]; exact ha
  have hok2 : ({ s1 with tabs := insT x s1.tabs } : St).Ok := by have := app_ok [addEd (n + 1) out cnt low high] hok1; rw [ha] at this; exact this
  have hne : ∀ t ∈ s.tabs, ¬ t.file = n + 1 := fun t ht e => by have := h.few _ (tab_file ht); omega
  refine ⟨hok2, ?_, ?_, ?_⟩
  · intro f hfm
    rcases mem_files.1 hfm with a | a | a
    · obtain ⟨t, ht, rfl⟩ := List.mem_map.1 a
      rcases mem_insT.1 ht with rfl | ht
      · rw [hxf]; exact Int.le_refl _
      · have := h.few _ (hfs _ (tab_file ht)); omega
    · have := h.few f (hfs f (mem_files.2 (.inr (.inl a)))); omega
    · have := h.few f (hfs f (mem_files.2 (.inr (.inr a)))); omega
  · intro t ht k v hv
    rcases mem_insT.1 ht with rfl | ht
    · unfold setV at hv
      rw [if_pos hxf] at hv
      obtain ⟨u, hu, hfu⟩ := fs_mem hv
      have := hp.key hu (h.key u (hp.sub u hu) k v hfu)
      unfold inT
      rw [hxw.1, hxw.2]
      exact this
    · have ht' := ((hm1 t).1 ht).1
      unfold setV at hv
      rw [if_neg (hne t ht')] at hv
      exact h.key t ht' k v hv
  · intro k
    rw [← h.first k]
    show (insT x s1.tabs).findSome? (fun t => setV val (n + 1) _ t.file k) = s.tabs.findSome? (fun t => val t.file k)
    have hfx : setV val (n + 1) (fun k => I.findSome? fun t => val t.file k) x.file k = I.findSome? fun t => val t.file k := by unfold setV; rw [if_pos hxf]
    have hfu : ∀ u ∈ s.tabs, setV val (n + 1) (fun k => I.findSome? fun t => val t.file k) u.file k = val u.file k := fun u hu => by unfold setV; rw [if_neg (hne u hu)]
    cases hb : s.tabs.findSome? (fun t => val t.file k) with
    | none =>
      rw [fs_none] at hb ⊢
      intro t ht
      rcases mem_insT.1 ht with rfl | ht
      · rw [hfx, fs_none]
        exact fun u hu => hb u (hp.sub u hu)
      · have ht' := ((hm1 t).1 ht).1
        rw [hfu t ht']; exact hb t ht'
    | some v =>
      obtain ⟨t, ht, hft, hmin⟩ := (fs_iff h.ok.rise).1 hb
      have kt := h.key t ht k v hft
      refine (fs_iff hok2.rise).2 ?_
      by_cases htI : t ∈ I
      · have hIv : I.findSome? (fun t => val t.file k) = some v := (fs_iff hp.rise).2 ⟨t, htI, hft, fun u hu hlt => hmin u (hp.sub u hu) hlt⟩
        refine ⟨x, mem_insT.2 (.inl rfl), by rw [hfx]; exact hIv, fun u hu hlt => ?_⟩
        rcases mem_insT.1 hu with rfl | hu
        · rw [tlt_irrefl] at hlt; cases hlt
        obtain ⟨hus, huI⟩ := (hm1 u).1 hu
        rw [hfu u hus]
        cases hvu : val u.file k with
        | none => rfl
        | some v' =>
          exfalso
          have ku := h.key u hus k v' hvu
          have htu : tlt u t = false := by
            cases hh : tlt u t with
            | false => rfl
            | true => have := hmin u hus hh; rw [hvu] at this; cases this
          have l1 : t.lev ≤ u.lev := by
            have hne' : t ≠ u := fun e => huI (e ▸ htI)
            unfold tlt at htu
            split at htu
            · omega
            · simp at htu; omega
          have l2 := tlt_lev hlt
          rw [hxl] at l2
          have kx := hp.key htI kt
          by_cases hlo : u.lev = out
          · rcases hp.out u hus hlo huI with e | e
            · have := ltB_lt_le e kx.1
              rw [ku.2] at this; cases this
            · have := ltB_le_lt kx.2 e
              rw [ku.1] at this; cases this
          · have htl : t.lev = out - 1 := by rcases hp.lev t htI with e | e; (exact e); (omega)
            have hul : u.lev = out - 1 := by omega
            by_cases ho1 : out = 1
            · exact huI (hp.all ho1 u hus (by omega))
            · exact huI ((apart_one h.ok ht hus (by omega) (by omega) kt ku) ▸ htI)
      · refine ⟨t, mem_insT.2 (.inr ((hm1 t).2 ⟨ht, htI⟩)), by rw [hfu t ht]; exact hft, fun u hu hlt => ?_⟩
        rcases mem_insT.1 hu with rfl | hu
        · rw [hfx]
          cases hvx : I.findSome? (fun t => val t.file k) with
          | none => rfl
          | some v' =>
            exfalso
            obtain ⟨t1, ht1, hf1⟩ := fs_mem hvx
            have k1 := h.key t1 (hp.sub t1 ht1) k v' hf1
            have htu : tlt t1 t = false := by
              cases hh : tlt t1 t with
              | false => rfl
              | true => have := hmin t1 (hp.sub t1 ht1) hh; rw [hf1] at this; cases this
            have l1 : t.lev ≤ t1.lev := by
              unfold tlt at htu
              split at htu
              · omega
              · simp at htu; omega
            have l2 := tlt_lev hlt
            rw [hxl] at l2
            have l3 : t1.lev ≤ out := by rcases hp.lev t1 ht1 with e | e <;> omega
            exact htI ((apart_one h.ok ht (hp.sub t1 ht1) (by omega) (by omega) kt k1) ▸ ht1)
        · rw [hfu u ((hm1 u).1 hu).1]
          exact hmin u ((hm1 u).1 hu).1 hlt
end Go.Proofs.YtfbaenhajlckjaaGreat
/- Whether a table may have a key. -/
set_option linter.unusedVariables false
set_option maxRecDepth 100000
namespace Go.Proofs.YtfbaenhajlckjaaGreat
open Go.RowKit

def maxB (a b : List UInt8) : List UInt8 := if ltB a b then b else a
def minB (a b : List UInt8) : List UInt8 := if ltB b a then b else a
theorem lt_bytes (a b : List UInt8) : a < b ↔ ltB a b = true := by
  have h1 := Proofs.bytesLess_eq a b
  rw [ltB_less] at h1
  rw [h1]; simp
theorem maxS_bs (a b : List UInt8) : Lib.maxS (bs a) (bs b) = bs (maxB a b) := by
  unfold Lib.maxS maxB
  rw [bs_list, bs_list]
  by_cases h : ltB a b = true
  · rw [if_pos ((lt_bytes a b).2 h), if_pos h]
  · rw [if_neg (fun x => h ((lt_bytes a b).1 x)), if_neg h]
theorem minS_bs (a b : List UInt8) : Lib.minS (bs a) (bs b) = bs (minB a b) := by
  unfold Lib.minS minB
  rw [bs_list, bs_list]
  rcases ltB_total a b with h | h | h
  · rw [if_pos (.inl ((lt_bytes a b).2 h)), ltB_asymm h]; rfl
  · subst h; rw [if_pos (.inr rfl), ltB_irrefl]; rfl
  · rw [if_neg, h, if_pos rfl]
    rintro (x | x)
    · have := (lt_bytes a b).1 x; rw [ltB_asymm h] at this; cases this
    · subst x; rw [ltB_irrefl] at h; cases h
theorem run_maxB (a b : List UInt8) (w : World) (ts : Array TypeId) (t : TypeId) : (Builtin.max_ ts t #[.string (bs a), .string (bs b)]).run Tryz.prog w = .ok (.string (bs (maxB a b))) w := by
  rw [← maxS_bs]; exact Lib.run_max_strs ..
theorem run_minB (a b : List UInt8) (w : World) (ts : Array TypeId) (t : TypeId) : (Builtin.min_ ts t #[.string (bs a), .string (bs b)]).run Tryz.prog w = .ok (.string (bs (minB a b))) w := by
  rw [← minS_bs]; exact Lib.run_min_strs ..
def mayB (t : Tb) (lo hi : List UInt8) : Bool := !ltB (minB t.high hi) (maxB t.low lo)
theorem ltB_le_trans {a b c : List UInt8} (h1 : ltB b a = false) (h2 : ltB c b = false) : ltB c a = false := ltB_ntrans h2 h1
theorem mayB_iff (t : Tb) (lo hi : List UInt8) : mayB t lo hi = true ↔ ltB t.high t.low = false ∧ ltB hi t.low = false ∧ ltB t.high lo = false ∧ ltB hi lo = false := by
  unfold mayB
  have e1 : ∀ x : List UInt8, ltB (minB t.high hi) x = false ↔ ltB t.high x = false ∧ ltB hi x = false := fun x => by
    unfold minB
    cases h : ltB hi t.high with
    | true =>
      rw [if_pos rfl]
      refine ⟨fun a => ⟨?_, a⟩, fun a => a.2⟩
      cases e : ltB t.high x with
      | false => rfl
      | true => have := ltB_trans h e; rw [a] at this; cases this
    | false =>
      rw [if_neg (by simp)]
      refine ⟨fun a => ⟨a, ?_⟩, fun a => a.1⟩
      cases e : ltB hi x with
      | false => rfl
      | true => have := ltB_le_lt h e; rw [a] at this; cases this
  have e2 : ∀ x : List UInt8, ltB x (maxB t.low lo) = false ↔ ltB x t.low = false ∧ ltB x lo = false := fun x => by
    unfold maxB
    cases h : ltB t.low lo with
    | true =>
      rw [if_pos rfl]
      refine ⟨fun a => ⟨?_, a⟩, fun a => a.2⟩
      cases e : ltB x t.low with
      | false => rfl
      | true => have := ltB_trans e h; rw [a] at this; cases this
    | false =>
      rw [if_neg (by simp)]
      refine ⟨fun a => ⟨a, ?_⟩, fun a => a.1⟩
      cases e : ltB x lo with
      | false => rfl
      | true => have := ltB_lt_le e h; rw [a] at this; cases this
  rw [Bool.not_eq_true', e2, e1, e1]
  constructor
  · rintro ⟨⟨a, b⟩, c, d⟩; exact ⟨a, b, c, d⟩
  · rintro ⟨a, b, c, d⟩; exact ⟨⟨a, b⟩, c, d⟩
set_option maxHeartbeats 1000000 in
theorem may_have (t : Tb) (lo hi : List UInt8) (w : World) : Calls Tryz.prog 94 #[.agg #[.int .i64 t.file, .int .i64 t.lev, .int .i64 t.cnt, .string (bs t.low), .string (bs t.high)], .string (bs lo), .string (bs hi)] w fun e w' => e = .returned (.bool (mayB t lo hi)) ∧ Below w.heap.size w w' := by
  obtain ⟨p1, q1, h1, h2, h3⟩ := leq_texts (maxB t.low lo) (minB t.high hi)
  obtain ⟨z, hz⟩ : ∃ z, z = mayB t lo hi := ⟨_, rfl⟩
  rw [← hz]
  have HZ := Lib.hid (show z = (p1 || q1) by rw [hz]; unfold mayB; rw [h3])
  have K0 := Lib.hid (show Below w.heap.size w (w.alloc (.cells #[.int .i64 t.file, .int .i64 t.lev, .int .i64 t.cnt, .string (bs t.low), .string (bs t.high)] 42)) from (Below.refl _ _).alloc (Nat.le_refl _) _)
  have hmx := run_maxB t.low lo
  have hmn := run_minB t.high hi
  generalize maxB t.low lo = mx at *
  generalize minB t.high hi = mn at *
  clear hz h3
  cases p1 <;> cases q1
  all_goals
    go_enter Tryz.func94, Tryz.ntmps94
    go_wp2
    go_ret
    exact ⟨by rw [HZ.out]; rfl, K0.out⟩
/-- A closure's look at a level. -/
theorem at_level {l : Int} {lb : Nat} (t : Tb) (w : World) (h : w.cell? ⟨lb, 0, none⟩ = some (.int .i64 l)) :
    Calls Tryz.prog 129 #[.agg #[.int .i64 t.file, .int .i64 t.lev, .int .i64 t.cnt, .string (bs t.low), .string (bs t.high)], .pointer (some ⟨lb, 0, none⟩)] w fun e w' => e = .returned (.bool (decide (t.lev = l))) ∧ Below w.heap.size w w' := by
  have K0 := Lib.hid (show Below w.heap.size w (w.alloc (.cells #[.int .i64 t.file, .int .i64 t.lev, .int .i64 t.cnt, .string (bs t.low), .string (bs t.high)] 42)) from (Below.refl _ _).alloc (Nat.le_refl _) _)
  have hlb : lb < w.heap.size := cell_block (v := .int .i64 l) h
  have h1 : (w.alloc (.cells #[.int .i64 t.file, .int .i64 t.lev, .int .i64 t.cnt, .string (bs t.low), .string (bs t.high)] 42)).cell? ⟨lb, 0, none⟩ = some (.int .i64 l) := by rw [K0.out.cell (p := ⟨lb, 0, none⟩) hlb]; exact h
  obtain ⟨z, hz⟩ : ∃ z, z = decide (t.lev = l) := ⟨_, rfl⟩
  rw [← hz]
  have hq : (t.lev == l) = z := by rw [hz]; rfl
  clear hz h
  go_enter Tryz.func129, Tryz.ntmps129
  go_wp2
  go_ret
  exact ⟨rfl, K0.out⟩
end Go.Proofs.YtfbaenhajlckjaaGreat
/- What the closures of layer 14 answer. -/
set_option linter.unusedVariables false
set_option maxRecDepth 100000
namespace Go.Proofs.YtfbaenhajlckjaaGreat
open Go.RowKit

set_option maxHeartbeats 1000000 in
theorem over_look {l : Int} {lo hi : List UInt8} {lb ob hb : Nat} (t : Tb) (w : World) (h0 : w.cell? ⟨lb, 0, none⟩ = some (.int .i64 l)) (h1 : w.cell? ⟨ob, 0, none⟩ = some (.string (bs lo))) (h2 : w.cell? ⟨hb, 0, none⟩ = some (.string (bs hi))) :
    Calls Tryz.prog 132 #[.agg #[.int .i64 t.file, .int .i64 t.lev, .int .i64 t.cnt, .string (bs t.low), .string (bs t.high)], .pointer (some ⟨lb, 0, none⟩), .pointer (some ⟨ob, 0, none⟩), .pointer (some ⟨hb, 0, none⟩)] w fun e w' => e = .returned (.bool (decide (t.lev = l) && mayB t lo hi)) ∧ Below w.heap.size w w' := by
  obtain ⟨w1, hw1⟩ : ∃ w1, w.alloc (.cells #[.int .i64 t.file, .int .i64 t.lev, .int .i64 t.cnt, .string (bs t.low), .string (bs t.high)] 42) = w1 := ⟨_, rfl⟩
  obtain ⟨tb, htb⟩ : ∃ tb, tb = w.heap.size := ⟨_, rfl⟩
  have K1 := Lib.hid (show Below w.heap.size w w1 by rw [← hw1]; exact (Below.refl _ _).alloc (Nat.le_refl _) _)
  have T1 := Lib.hid (show w1.heap[tb]? = some (.cells #[.int .i64 t.file, .int .i64 t.lev, .int .i64 t.cnt, .string (bs t.low), .string (bs t.high)] 42 (0, 0)) by rw [← hw1, htb]; exact heap_new w _)
  have g0 : w1.cell? ⟨lb, 0, none⟩ = some (.int .i64 l) := by rw [K1.out.cell (p := ⟨lb, 0, none⟩) (cell_block (v := .int .i64 l) h0)]; exact h0
  have g1 : w1.cell? ⟨ob, 0, none⟩ = some (.string (bs lo)) := by rw [K1.out.cell (p := ⟨ob, 0, none⟩) (cell_block (v := .string (bs lo)) h1)]; exact h1
  have g2 : w1.cell? ⟨hb, 0, none⟩ = some (.string (bs hi)) := by rw [K1.out.cell (p := ⟨hb, 0, none⟩) (cell_block (v := .string (bs hi)) h2)]; exact h2
  have t0 : w1.cell? ⟨tb, 0, none⟩ = some (.int .i64 t.file) := by simp [World.cell?, T1.out]
  have t1 : w1.cell? ⟨tb, 1, none⟩ = some (.int .i64 t.lev) := by simp [World.cell?, T1.out]
  have t2 : w1.cell? ⟨tb, 2, none⟩ = some (.int .i64 t.cnt) := by simp [World.cell?, T1.out]
  have t3 : w1.cell? ⟨tb, 3, none⟩ = some (.string (bs t.low)) := by simp [World.cell?, T1.out]
  have t4 : w1.cell? ⟨tb, 4, none⟩ = some (.string (bs t.high)) := by simp [World.cell?, T1.out]
  have HW1 := Lib.hid hw1
  have HTB := Lib.hid htb
  have HM := Lib.hid (may_have t lo hi w1)
  obtain ⟨z, hz⟩ : ∃ z, z = mayB t lo hi := ⟨_, rfl⟩
  rw [← hz] at HM ⊢
  clear hw1 htb hz h0 h1 h2
  by_cases hc : t.lev = l
  · have hd : (t.lev == l) = true := by simpa using hc
    have HV := Lib.hid (show (decide (t.lev = l) && z) = z by rw [decide_eq_true hc]; rfl)
    clear hc
    rw [HV.out]
    go_enter Tryz.func132, Tryz.ntmps132
    go_upto_region 1 with (fail)
    rw [HW1.out, ← HTB.out]
    go_wp2_with fail
    refine HM.out.mono ?_
    rintro e w2 ⟨rfl, k2⟩
    have K2 := Lib.hid (K1.out.trans (k2.mono K1.out.size))
    clear k2
    go_wp2
    go_ret
    exact ⟨rfl, K2.out⟩
  · have hd : (t.lev == l) = false := by simpa using hc
    have HV := Lib.hid (show (decide (t.lev = l) && z) = false by rw [decide_eq_false hc]; rfl)
    clear hc HM
    rw [HV.out]
    go_enter Tryz.func132, Tryz.ntmps132
    go_upto_region 1 with (fail)
    rw [HW1.out, ← HTB.out]
    go_wp2
    go_ret
    exact ⟨rfl, K1.out⟩
set_option maxHeartbeats 1000000 in
theorem find_look {lo : List UInt8} {ob : Nat} (t : Tb) (w : World) (h0 : w.cell? ⟨ob, 0, none⟩ = some (.string (bs lo))) :
    Calls Tryz.prog 98 #[.agg #[.int .i64 t.file, .int .i64 t.lev, .int .i64 t.cnt, .string (bs t.low), .string (bs t.high)], .pointer (some ⟨ob, 0, none⟩)] w fun e w' => e = .returned (.bool (mayB t lo lo)) ∧ Below w.heap.size w w' := by
  obtain ⟨w1, hw1⟩ : ∃ w1, w.alloc (.cells #[.int .i64 t.file, .int .i64 t.lev, .int .i64 t.cnt, .string (bs t.low), .string (bs t.high)] 42) = w1 := ⟨_, rfl⟩
  obtain ⟨tb, htb⟩ : ∃ tb, tb = w.heap.size := ⟨_, rfl⟩
  have K1 := Lib.hid (show Below w.heap.size w w1 by rw [← hw1]; exact (Below.refl _ _).alloc (Nat.le_refl _) _)
  have T1 := Lib.hid (show w1.heap[tb]? = some (.cells #[.int .i64 t.file, .int .i64 t.lev, .int .i64 t.cnt, .string (bs t.low), .string (bs t.high)] 42 (0, 0)) by rw [← hw1, htb]; exact heap_new w _)
  have g0 : w1.cell? ⟨ob, 0, none⟩ = some (.string (bs lo)) := by rw [K1.out.cell (p := ⟨ob, 0, none⟩) (cell_block (v := .string (bs lo)) h0)]; exact h0
  have t0 : w1.cell? ⟨tb, 0, none⟩ = some (.int .i64 t.file) := by simp [World.cell?, T1.out]
  have t1 : w1.cell? ⟨tb, 1, none⟩ = some (.int .i64 t.lev) := by simp [World.cell?, T1.out]
  have t2 : w1.cell? ⟨tb, 2, none⟩ = some (.int .i64 t.cnt) := by simp [World.cell?, T1.out]
  have t3 : w1.cell? ⟨tb, 3, none⟩ = some (.string (bs t.low)) := by simp [World.cell?, T1.out]
  have t4 : w1.cell? ⟨tb, 4, none⟩ = some (.string (bs t.high)) := by simp [World.cell?, T1.out]
  have HW1 := Lib.hid hw1
  have HTB := Lib.hid htb
  have HM := Lib.hid (may_have t lo lo w1)
  obtain ⟨z, hz⟩ : ∃ z, z = mayB t lo lo := ⟨_, rfl⟩
  rw [← hz] at HM ⊢
  clear hw1 htb hz h0
  go_enter Tryz.func98, Tryz.ntmps98
  go_upto_region 1 with (fail)
  rw [HW1.out, ← HTB.out]
  go_wp2_with fail
  refine HM.out.mono ?_
  rintro e w2 ⟨rfl, k2⟩
  have K2 := Lib.hid (K1.out.trans (k2.mono K1.out.size))
  clear k2
  go_wp2
  go_ret
  exact ⟨rfl, K2.out⟩
set_option maxHeartbeats 1000000 in
theorem pick_look {l : Int} {lo hi : List UInt8} {lb ob hb : Nat} (t : Tb) (w : World) (h0 : w.cell? ⟨lb, 0, none⟩ = some (.int .i64 l)) (h1 : w.cell? ⟨ob, 0, none⟩ = some (.string (bs lo))) (h2 : w.cell? ⟨hb, 0, none⟩ = some (.string (bs hi))) :
    Calls Tryz.prog 93 #[.agg #[.int .i64 t.file, .int .i64 t.lev, .int .i64 t.cnt, .string (bs t.low), .string (bs t.high)], .pointer (some ⟨lb, 0, none⟩), .pointer (some ⟨ob, 0, none⟩), .pointer (some ⟨hb, 0, none⟩)] w fun e w' => e = .returned (.bool (decide (l < t.lev) && mayB t lo hi)) ∧ Below w.heap.size w w' := by
  obtain ⟨w1, hw1⟩ : ∃ w1, w.alloc (.cells #[.int .i64 t.file, .int .i64 t.lev, .int .i64 t.cnt, .string (bs t.low), .string (bs t.high)] 42) = w1 := ⟨_, rfl⟩
  obtain ⟨tb, htb⟩ : ∃ tb, tb = w.heap.size := ⟨_, rfl⟩
  have K1 := Lib.hid (show Below w.heap.size w w1 by rw [← hw1]; exact (Below.refl _ _).alloc (Nat.le_refl _) _)
  have T1 := Lib.hid (show w1.heap[tb]? = some (.cells #[.int .i64 t.file, .int .i64 t.lev, .int .i64 t.cnt, .string (bs t.low), .string (bs t.high)] 42 (0, 0)) by rw [← hw1, htb]; exact heap_new w _)
  have g0 : w1.cell? ⟨lb, 0, none⟩ = some (.int .i64 l) := by rw [K1.out.cell (p := ⟨lb, 0, none⟩) (cell_block (v := .int .i64 l) h0)]; exact h0
  have g1 : w1.cell? ⟨ob, 0, none⟩ = some (.string (bs lo)) := by rw [K1.out.cell (p := ⟨ob, 0, none⟩) (cell_block (v := .string (bs lo)) h1)]; exact h1
  have g2 : w1.cell? ⟨hb, 0, none⟩ = some (.string (bs hi)) := by rw [K1.out.cell (p := ⟨hb, 0, none⟩) (cell_block (v := .string (bs hi)) h2)]; exact h2
  have t0 : w1.cell? ⟨tb, 0, none⟩ = some (.int .i64 t.file) := by simp [World.cell?, T1.out]
  have t1 : w1.cell? ⟨tb, 1, none⟩ = some (.int .i64 t.lev) := by simp [World.cell?, T1.out]
  have t2 : w1.cell? ⟨tb, 2, none⟩ = some (.int .i64 t.cnt) := by simp [World.cell?, T1.out]
  have t3 : w1.cell? ⟨tb, 3, none⟩ = some (.string (bs t.low)) := by simp [World.cell?, T1.out]
  have t4 : w1.cell? ⟨tb, 4, none⟩ = some (.string (bs t.high)) := by simp [World.cell?, T1.out]
  have HW1 := Lib.hid hw1
  have HTB := Lib.hid htb
  have HM := Lib.hid (may_have t lo hi w1)
  obtain ⟨z, hz⟩ : ∃ z, z = mayB t lo hi := ⟨_, rfl⟩
  rw [← hz] at HM ⊢
  clear hw1 htb hz h0 h1 h2
  by_cases hc : l < t.lev
  · have hd : decide (l < t.lev) = true := decide_eq_true hc
    have HV := Lib.hid (show (decide (l < t.lev) && z) = z by rw [decide_eq_true hc]; rfl)
    clear hc
    rw [HV.out]
    go_enter Tryz.func93, Tryz.ntmps93
    go_upto_region 1 with (fail)
    rw [HW1.out, ← HTB.out]
    go_wp2_with fail
    refine HM.out.mono ?_
    rintro e w2 ⟨rfl, k2⟩
    have K2 := Lib.hid (K1.out.trans (k2.mono K1.out.size))
    clear k2
    go_wp2
    go_ret
    exact ⟨rfl, K2.out⟩
  · have hd : decide (l < t.lev) = false := decide_eq_false hc
    have HV := Lib.hid (show (decide (l < t.lev) && z) = false by rw [decide_eq_false hc]; rfl)
    clear hc HM
    rw [HV.out]
    go_enter Tryz.func93, Tryz.ntmps93
    go_upto_region 1 with (fail)
    rw [HW1.out, ← HTB.out]
    go_wp2
    go_ret
    exact ⟨rfl, K1.out⟩
end Go.Proofs.YtfbaenhajlckjaaGreat
