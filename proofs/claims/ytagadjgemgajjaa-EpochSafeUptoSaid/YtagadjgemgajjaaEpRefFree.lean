/- The document's book: Free. -/
import Derived.Test.YtagadjgemgajjaaEpRefRetire
set_option linter.unusedVariables false
namespace Go.Proofs.Ytagadjgemgajjaa
open Go.RowKit

theorem OffRow.mono {w : World} {B B' : Nat} {e : TypeId} {size : Nat} {v : Value} {n : Nat} {xs : List Value} (h : OffRow w B e size v n xs) (hb : B' ≤ B) : OffRow w B' e size v n xs := by
  refine ⟨h.1, ?_⟩
  rcases h.2 with h0 | ⟨g, off, cap, cur, e1, hB, h1⟩
  · exact .inl h0
  · exact .inr ⟨g, off, cap, cur, e1, Nat.le_trans hb hB, h1⟩
/-- Three rows that the call makes: what is free, what is left, when that was retired. -/
structure R3 (w wr : World) (F L : List Value) (A : List Int) (vf vl va : Value) : Prop where
  fr : OffRow wr w.heap.size 9 1 vf F.length F
  lf : OffRow wr w.heap.size 9 1 vl L.length L
  at_ : OffRow wr w.heap.size 3 1 va A.length (A.map intV)
  ne : ∀ j, vf.ownBlock = some j → vl.ownBlock ≠ some j
  bel : Below w.heap.size w wr
namespace R3
variable {w wr W w3 : World} {F L : List Value} {A : List Int} {vf vl va v3 v : Value} {t : Int}
theorem tagF (h : R3 w wr F L A vf vl va) {j : Nat} (hj : vf.ownBlock = some j) : va.ownBlock ≠ some j := fun e => by
  obtain ⟨c1, h1⟩ := h.fr.tag hj
  obtain ⟨c2, h2⟩ := h.at_.tag e
  exact tag_ne h1 h2 (by decide) rfl
theorem tagL (h : R3 w wr F L A vf vl va) {j : Nat} (hj : vl.ownBlock = some j) : va.ownBlock ≠ some j := fun e => by
  obtain ⟨c1, h1⟩ := h.lf.tag hj
  obtain ⟨c2, h2⟩ := h.at_.tag e
  exact tag_ne h1 h2 (by decide) rfl
theorem grow (h : R3 w wr F L A vf vl va) (hA : Below wr.heap.size wr W) {row : Option Nat} (hg : W.grownBy w3 row) (hr : ∀ j, row = some j → w.heap.size ≤ j) :
    Below w.heap.size w w3 ∧ ∀ j, j < wr.heap.size → row ≠ some j → w3.heap[j]? = wr.heap[j]? := by
  have h1 : Below w.heap.size w W := h.bel.trans (hA.mono h.bel.size)
  exact ⟨⟨hg.os.trans h1.os, hg.tape.trans h1.tape, hg.output.trans h1.output, Nat.le_trans h1.size hg.size, fun j hj => (hg.block j (Nat.lt_of_lt_of_le hj h1.size) fun e => by have := hr j e.symm; omega).trans (h1.block j hj)⟩,
    fun j hj hne => (hg.block j (Nat.lt_of_lt_of_le hj hA.size) fun e => hne e.symm).trans (hA.block j hj)⟩
theorem pushF (h : R3 w wr F L A vf vl va) (hA : Below wr.heap.size wr W) (hr : OffRow w3 w.heap.size 9 1 v3 (F.length + 1) (F ++ [v])) (hg : W.grownBy w3 vf.ownBlock) (hat : v3.ownBlock = vf.ownBlock ∨ v3.ownBlock = some W.heap.size) : R3 w w3 (F ++ [v]) L A v3 vl va := by
  obtain ⟨hb, hk⟩ := h.grow hA hg fun j hj => (h.fr.lt j hj).1
  refine ⟨by rw [List.length_append]; exact hr, h.lf.kept fun j hj => hk j (h.lf.lt j hj).2 fun e => h.ne j e hj, h.at_.kept fun j hj => hk j (h.at_.lt j hj).2 fun e => h.tagF e hj, fun j hj hl => ?_, hb⟩
  rcases hat with e | e
  · exact h.ne j (e ▸ hj) hl
  · rw [e] at hj
    injection hj with hj
    have := (h.lf.lt j hl).2
    have := hA.size
    omega
theorem pushL (h : R3 w wr F L A vf vl va) (hA : Below wr.heap.size wr W) (hr : OffRow w3 w.heap.size 9 1 v3 (L.length + 1) (L ++ [v])) (hg : W.grownBy w3 vl.ownBlock) (hat : v3.ownBlock = vl.ownBlock ∨ v3.ownBlock = some W.heap.size) : R3 w w3 F (L ++ [v]) A vf v3 va := by
  obtain ⟨hb, hk⟩ := h.grow hA hg fun j hj => (h.lf.lt j hj).1
  refine ⟨h.fr.kept fun j hj => hk j (h.fr.lt j hj).2 fun e => h.ne j hj e, by rw [List.length_append]; exact hr, h.at_.kept fun j hj => hk j (h.at_.lt j hj).2 fun e => h.tagL e hj, fun j hj hl => ?_, hb⟩
  rcases hat with e | e
  · exact h.ne j hj (e ▸ hl)
  · rw [e] at hl
    injection hl with hl
    have := (h.fr.lt j hj).2
    have := hA.size
    omega
theorem pushA (h : R3 w wr F L A vf vl va) (hA : Below wr.heap.size wr W) (hr : OffRow w3 w.heap.size 3 1 v3 (A.length + 1) (A.map intV ++ [.int .i64 t])) (hg : W.grownBy w3 va.ownBlock) : R3 w w3 F L (A ++ [t]) vf vl v3 := by
  obtain ⟨hb, hk⟩ := h.grow hA hg fun j hj => (h.at_.lt j hj).1
  exact ⟨h.fr.kept fun j hj => hk j (h.fr.lt j hj).2 fun e => h.tagF hj e, h.lf.kept fun j hj => hk j (h.lf.lt j hj).2 fun e => h.tagL hj e, by rw [List.length_append, List.map_append]; exact hr, h.ne, hb⟩
end R3
def EB.fs (s : EB) (k : Nat) : List (Value × Int) := (s.wait.take k).filter fun p => !s.seen p.2
def EB.ls (s : EB) (k : Nat) : List (Value × Int) := (s.wait.take k).filter fun p => s.seen p.2
theorem EB.fs_next {s : EB} {k : Nat} {p : Value × Int} (h : s.wait[k]? = some p) : s.fs (k + 1) = s.fs k ++ (if s.seen p.2 then [] else [p]) := by
  unfold EB.fs
  rw [take_next h, List.filter_append]
  cases hs : s.seen p.2 <;> simp [hs]
theorem EB.ls_next {s : EB} {k : Nat} {p : Value × Int} (h : s.wait[k]? = some p) : s.ls (k + 1) = s.ls k ++ (if s.seen p.2 then [p] else []) := by
  unfold EB.ls
  rw [take_next h, List.filter_append]
  cases hs : s.seen p.2 <;> simp [hs]
theorem EB.fs_end {s : EB} (h : s.Ok) : (s.fs s.wait.length).map (·.1) = s.free.2 ∧ s.ls s.wait.length = s.free.1.wait := by
  have h1 : (fun p : Value × Int => !s.seen p.2) = fun p => decide (p.2 < s.limit) := by
    funext p
    cases hs : s.seen p.2
    · rw [decide_eq_true ((EB.seen_iff h p.2).1 hs)]; rfl
    · rw [decide_eq_false fun e => by rw [(EB.seen_iff h p.2).2 e] at hs; cases hs]; rfl
  have h2 : (fun p : Value × Int => s.seen p.2) = fun p => !decide (p.2 < s.limit) := by
    funext p
    rw [← show (!s.seen p.2) = decide (p.2 < s.limit) from congrFun h1 p, Bool.not_not]
  obtain ⟨a, b⟩ := EB.filter_gone (L := s.limit) s.wait h.srt
  unfold EB.fs EB.ls EB.free
  rw [List.take_length, h1, h2]
  exact ⟨by rw [a], b⟩
def EB.rows (s : EB) (w wr : World) (vf vl va : Value) (k : Nat) : Prop := R3 w wr ((s.fs k).map (·.1)) ((s.ls k).map (·.1)) ((s.ls k).map (·.2)) vf vl va
theorem EB.rows_len (s : EB) (k : Nat) : (s.fs k).length ≤ k ∧ (s.ls k).length ≤ k :=
  ⟨Nat.le_trans (List.length_filter_le _ _) (List.length_take_le _ _), Nat.le_trans (List.length_filter_le _ _) (List.length_take_le _ _)⟩
structure RFreed (B : Nat) (w : World) (r : AtR) (s : EB) (en : Ending) (w' : World) : Prop where
  out : ∃ a cap, en = .returned (.slice a s.free.2.length cap) ∧ OffRow w' w.heap.size 9 1 (.slice a s.free.2.length cap) s.free.2.length s.free.2
  turn : RTurns B w r s.free.1.rb w'
theorem Rk.thing {B : Nat} {w : World} {r : AtR} {s : EB} (h : Rk B w r s.rb) {k : Nat} {p : Value × Int} (hp : s.wait[k]? = some p) : (∃ g off cap, r.vo = .slice (some ⟨g, off, none⟩) s.wait.length cap ∧ w.cell? ⟨g, off + k, none⟩ = some p.1) ∧ ∃ g off cap, r.va = .slice (some ⟨g, off, none⟩) s.wait.length cap ∧ w.cell? ⟨g, off + k, none⟩ = some (.int .i64 p.2) := by
  have hk : k < s.wait.length := (List.getElem?_eq_some_iff.1 hp).1
  have h1 := h.old
  have h2 := h.at_
  simp only [EB.rb, List.length_map] at h1 h2
  obtain ⟨g, off, cap, cur, e, _, _, hc⟩ := h1.form (by omega)
  obtain ⟨g2, off2, cap2, cur2, e2, _, _, hc2⟩ := h2.form (by omega)
  exact ⟨⟨g, off, cap, e, by rw [hc k (by omega)]; simp [hp]⟩, ⟨g2, off2, cap2, e2, by rw [hc2 k (by omega)]; simp [hp, intV]⟩⟩
set_option maxHeartbeats 4000000 in
set_option maxRecDepth 100000 in
theorem ref_Free {B : Nat} {w : World} {r : AtR} {s : EB} (h : Rk B w r s.rb) (hok : s.Ok) (hstr : ∀ p ∈ s.wait, ∃ t, p.1 = Value.string t) (hBw : B ≤ w.heap.size) :
    Calls Try.prog 18 #[.pointer (some ⟨r.m, 0, none⟩)] w fun e w' => RFreed B w r s e w' := by
  obtain ⟨i0, hi, hz0, hz1, hz2⟩ := info_parts info9
  obtain ⟨j0, hj, hy0, hy1, hy2⟩ := info_parts info3
  have H := Lib.hid h
  have HS := Lib.hid hstr
  have HOK := Lib.hid hok
  obtain ⟨ao, co, hvo⟩ := h.old.slice
  obtain ⟨aa, ca, hva⟩ := h.at_.slice
  simp only [EB.rb, List.length_map] at hvo hva
  obtain ⟨n, hn⟩ : ∃ n, n = s.wait.length := ⟨_, rfl⟩
  rw [← hn] at hvo hva
  have hfew : n ≤ 1099511627776 := by rw [hn]; exact hok.few
  have HN := Lib.hid hn
  have HVO := Lib.hid hvo
  have HVA := Lib.hid hva
  have HC := Lib.hid (show ∀ wr, Below w.heap.size w wr → wr.cell? ⟨r.m, 2, none⟩ = some (.slice ao n co) ∧ wr.cell? ⟨r.m, 3, none⟩ = some (.slice aa n ca) ∧ (wr.frozen? ⟨r.m, 2, none⟩ = false ∧ wr.frozen? ⟨r.m, 3, none⟩ = false) from fun wr hb => by
    have hh := h.below hb
    exact ⟨by rw [← hvo]; exact hh.c2, by rw [← hva]; exact hh.c3, hh.fm 2, hh.fm 3⟩)
  have HF0 := Lib.hid (show s.rows w w (.slice none 0 0) (.slice none 0 0) (.slice none 0 0) 0 from ⟨OffRow.nil _ _ _ _, OffRow.nil _ _ _ _, OffRow.nil _ _ _ _, fun j hj => by simp [Value.ownBlock] at hj, Below.refl _ _⟩)
  clear h hstr hvo hva hn hok
  go_enter Try.func18, Try.ntmps18
  go_wp2_with fail
  go_loopw [3, 4, 5, 6] (fun f l t i wr => ∃ k : Nat, k ≤ n ∧ i = .int .i64 (k : Int) ∧ s.rows w wr f l t k) (fun _ _ _ i _ => n - (intOf i).toNat)
  case atStart => exact ⟨0, Nat.zero_le _, rfl, HF0.out⟩
  case round =>
    obtain ⟨k, hk, rfl, hF⟩ := hrel
    obtain ⟨wo, hwo⟩ : ∃ wo, wo = wr := ⟨_, rfl⟩
    subst hwo
    obtain ⟨af, cf, hvf⟩ := hF.fr.slice
    obtain ⟨al, cl, hvl⟩ := hF.lf.slice
    obtain ⟨at_, ct, hvt⟩ := hF.at_.slice
    obtain ⟨nf, hnf⟩ : ∃ nf, ((s.fs k).map (·.1)).length = nf := ⟨_, rfl⟩
    obtain ⟨nl, hnl⟩ : ∃ nl, ((s.ls k).map (·.1)).length = nl := ⟨_, rfl⟩
    have hnt : ((s.ls k).map (·.2)).length = nl := by rw [← hnl]; simp
    rw [hnf] at hvf
    rw [hnl] at hvl
    rw [hnt] at hvt
    subst hvf hvl hvt
    have HF := Lib.hid hF
    have hlens := s.rows_len k
    have hbf : nf ≤ k := by rw [← hnf]; simpa using hlens.1
    have hbl : nl ≤ k := by rw [← hnl]; simpa using hlens.2
    have HNF := Lib.hid hnf
    have HNL := Lib.hid hnl
    have HNT := Lib.hid hnt
    obtain ⟨c2, c3, f2, f3⟩ := HC.out wo hF.bel
    have hsz : w.heap.size ≤ wo.heap.size := hF.bel.size
    clear hF hlens hnf hnl hnt
    by_cases hlt : k < n
    · have hlt' : (k : Int) < (n : Int) := by omega
      have hk0 : (0 : Int) ≤ (k : Int) := by omega
      obtain ⟨p, hp⟩ : ∃ p, s.wait[k]? = some p := ⟨_, List.getElem?_eq_getElem (by have := HN.out; omega)⟩
      obtain ⟨pv, pt⟩ := p
      obtain ⟨tx, htx⟩ := HS.out _ (List.mem_of_getElem? hp)
      simp only at htx
      subst htx
      have hRk := H.out.below HF.out.bel
      obtain ⟨⟨g, off, cp, e1, r1⟩, ⟨g2, off2, cp2, e2, r2⟩⟩ := hRk.thing hp
      rw [HVO.out] at e1
      rw [HVA.out] at e2
      injection e1 with e1 _ e3
      injection e2 with e2 _ e4
      subst e1 e2 e3 e4
      have hseen := ref_seen hRk pt HOK.out.l2
      have HP := Lib.hid hp
      simp only at r1 r2
      have HRK := Lib.hid hRk
      clear hp hRk
      cases hb : s.seen pt with
      | false =>
        rw [hb] at hseen
        have HB := Lib.hid hb
        clear hb
        go_wp2_with (first
          | (go_at_call 33; refine hseen.mono ?_; rintro e w' ⟨rfl, rfl⟩)
          | (at_builtin; refine wpList_append_off rfl (.tmp 45) (.tmp 53) 28 rfl w.heap.size 9 i0 _ 1 16 Try.underlying28 hi hz0 hz1 hz2 rfl (.slice af nf cf) nf ((s.fs k).map (·.1)) rfl ?c1 _ rfl 1 [.string tx] ?c2 ?c3 ?c4 ?c5 ?_))
        case c1 => have := HF.out.fr.alloc (.cells #[.string tx] 9); rw [HNF.out] at this; exact this
        case c2 => exact src_block Try.underlying28 (heap_new wo _) 1 1 rfl (by simp; rfl)
        case c3 => unfold maxLen; omega
        case c4 => omega
        case c5 => have := hsz; simp; omega
        intro v3 w3 hown3 hg3 hat3
        have HE := Lib.hid (show s.rows w w3 v3 (.slice al nl cl) (.slice at_ nl ct) (k + 1) from by
          have := HF.out.pushF (W := wo.alloc (.cells #[.string tx] 9)) (v := .string tx) ((Below.refl _ wo).alloc (Nat.le_refl _) _) (by rw [HNF.out]; exact hown3) hg3 (by simpa using hat3)
          unfold EB.rows
          rw [EB.fs_next HP.out, EB.ls_next HP.out, HB.out, if_neg (by decide), if_neg (by decide), List.map_append, List.append_nil]
          exact this)
        clear hown3 hg3 hat3 c2 c3 f2 f3 r1 r2 hseen
        go_wp2_with fail
        go_roundw
        case rel => exact ⟨k + 1, hlt, by go_num, HE.out⟩
        case measure => simp [intOf]; omega
      | true =>
        rw [hb] at hseen
        have HB := Lib.hid hb
        clear hb
        go_wp2_with (first
          | (go_at_call 33; refine hseen.mono ?_; rintro e w' ⟨rfl, rfl⟩)
          | (at_builtin; refine wpList_append_off rfl (.tmp 25) (.tmp 33) 28 rfl w.heap.size 9 i0 _ 1 16 Try.underlying28 hi hz0 hz1 hz2 rfl (.slice al nl cl) nl ((s.ls k).map (·.1)) rfl ?c1 _ rfl 1 [.string tx] ?c2 ?c3 ?c4 ?c5 ?_))
        case c1 => have := HF.out.lf.alloc (.cells #[.string tx] 9); rw [HNL.out] at this; exact this
        case c2 => exact src_block Try.underlying28 (heap_new wo _) 1 1 rfl (by simp; rfl)
        case c3 => unfold maxLen; omega
        case c4 => omega
        case c5 => have := hsz; simp; omega
        intro v3 w3 hown3 hg3 hat3
        have h3 := HF.out.pushL (W := wo.alloc (.cells #[.string tx] 9)) (v := .string tx) ((Below.refl _ wo).alloc (Nat.le_refl _) _) (by rw [HNL.out]; exact hown3) hg3 (by simpa using hat3)
        have H3 := Lib.hid h3
        obtain ⟨c2', c3', _, _⟩ := HC.out w3 h3.bel
        have hsz3 : w.heap.size ≤ w3.heap.size := h3.bel.size
        have r2' : w3.cell? ⟨g2, off2 + k, none⟩ = some (.int .i64 pt) := by
          obtain ⟨_, ⟨g2', off2', cp2', e2', r2'⟩⟩ := (H.out.below h3.bel).thing HP.out
          rw [HVA.out] at e2'
          injection e2' with e2' _ _
          injection e2' with e2'
          injection e2' with e5 e6
          subst e5 e6
          exact r2'
        clear h3 hown3 hg3 hat3 c2 c3 f2 f3 r1 r2 hseen
        go_wp2_with (at_builtin; refine wpList_append_off rfl (.tmp 35) (.tmp 43) 27 rfl w.heap.size 3 j0 _ 1 8 Try.underlying27 hj hy0 hy1 hy2 rfl (.slice at_ nl ct) nl (((s.ls k).map (·.2)).map intV) rfl ?c1 _ rfl 1 [.int .i64 pt] ?c2 ?c3 ?c4 ?c5 ?_)
        case c1 => have := H3.out.at_.alloc (.cells #[.int .i64 pt] 3); rw [HNT.out] at this; simpa using this
        case c2 => exact src_block Try.underlying27 (heap_new w3 _) 1 1 rfl (by simp; rfl)
        case c3 => unfold maxLen; omega
        case c4 => omega
        case c5 => omega
        intro v4 w4 hown4 hg4 hat4
        have HE := Lib.hid (show s.rows w w4 (.slice af nf cf) v3 v4 (k + 1) from by
          have := H3.out.pushA (W := w3.alloc (.cells #[.int .i64 pt] 3)) (t := pt) ((Below.refl _ w3).alloc (Nat.le_refl _) _) (by rw [HNT.out]; simpa using hown4) hg4
          unfold EB.rows
          rw [EB.fs_next HP.out, EB.ls_next HP.out, HB.out, if_pos rfl, if_pos rfl]
          simp only [List.map_append, List.map_nil, List.map_cons, List.append_nil]
          exact this)
        clear hown4 hg4 hat4 c2' c3' r2'
        go_wp2_with fail
        go_roundw
        case rel => exact ⟨k + 1, hlt, by go_num, HE.out⟩
        case measure => simp [intOf]; omega
    · obtain rfl : k = n := by omega
      have HE := Lib.hid (show RFreed B w r s (.returned (.slice af nf cf)) ((wo.setCell ⟨r.m, 2, none⟩ (.slice al nl cl)).setCell ⟨r.m, 3, none⟩ (.slice at_ nl ct)) from by
        have hF := HF.out
        obtain ⟨x1, x2⟩ := EB.fs_end HOK.out
        unfold EB.rows at hF
        rw [HN.out, x1, x2] at hF
        have y1 : s.free.2.length = nf := by rw [← HNF.out, HN.out, x1]
        have y2 : s.free.1.wait.length = nl := by rw [← HNT.out, HN.out, x2, List.length_map]
        have hb := H.out.below hF.bel
        have hlow : ∀ j, r.S j → j < w.heap.size := fun j hj => (H.out.low j hj).2
        have s1 := hb.setOld (w' := wo) (fun _ _ => rfl) (hF.lf.mono hBw)
        have s2 := s1.setAt (w' := wo.setCell ⟨r.m, 2, none⟩ (.slice al nl cl)) (fun _ _ => rfl) (v := .slice at_ nl ct) (l := s.free.1.wait.map (·.2)) ((hF.at_.mono hBw).kept fun j hj => heap_set_other (fun e => by have := (hF.at_.lt j hj).1; have := hlow r.m (.inl rfl); omega) _) (fun e => by have := (hF.at_.lt _ e).1; have := hlow r.c (.inr (.inl rfl)); simp only at *; omega)
        refine ⟨⟨af, cf, by rw [y1], ?_⟩, ⟨r.m, r.c, .slice al nl cl, .slice at_ nl ct⟩, rfl, s2, ?_, fun j hj => ?_⟩
        · have hfr := hF.fr
          rw [y1] at hfr ⊢
          exact (hfr.kept fun j hj => heap_set_other (fun e => by have := (hfr.lt j hj).1; have := hlow r.m (.inl rfl); omega) _).kept fun j hj => heap_set_other (fun e => by have := (hfr.lt j hj).1; have := hlow r.m (.inl rfl); omega) _
        · have h1 : Only r.S w wo := ⟨hF.bel.os, hF.bel.tape, hF.bel.output, hF.bel.size, fun k hk _ => hF.bel.block k hk⟩
          exact (h1.setCell (p := ⟨r.m, 2, none⟩) (.inl (.inl rfl)) _).setCell (p := ⟨r.m, 3, none⟩) (.inl (.inl rfl)) _
        · rcases hj with x | x | x | x
          · exact .inl (.inl x)
          · exact .inl (.inr (.inl x))
          · exact .inr (hF.lf.lt j x).1
          · exact .inr (hF.at_.lt j x).1)
      clear HF HC
      go_wp2_with fail
      go_ret
      exact HE.out
end Go.Proofs.Ytagadjgemgajjaa
