/- The program's book: Free. -/
import Derived.Test.YtagadjgemgajjaaEpRetire
set_option linter.unusedVariables false
namespace Go.Proofs.Ytagadjgemgajjaa
open Go.RowKit

/-- What Free answers, so far: k things, in a row of its own. -/
structure Frees (B0 : Nat) (w wr : World) (e : TypeId) (L : Int) (wait : List (Value × Int)) (v1 : Value) (k : Nat) : Prop where
  row : OffRow wr B0 e 1 v1 k ((wait.map (·.1)).take k)
  bel : Below w.heap.size w wr
  low : ∀ i, i < k → ∃ p, wait[i]? = some p ∧ p.2 < L
/-- What Free leaves: what it answers lies in a row of its own. -/
structure Freed (tb tr e : TypeId) (B : Nat) (w : World) (q : AtB) (s : EB) (en : Ending) (w' : World) : Prop where
  out : ∃ a cap, en = .returned (.slice a s.free.2.length cap) ∧ OffRow w' w.heap.size e 1 (.slice a s.free.2.length cap) s.free.2.length s.free.2
  turn : ∃ q', Turned tb tr B w q s.free.1 w' q' ∧ ∀ j, q'.S j → q.S j
theorem Frees.next {B0 : Nat} {w wr W w3 : World} {e : TypeId} {L : Int} {wait : List (Value × Int)} {v1 v3 : Value} {k : Nat} {p : Value × Int} (h : Frees B0 w wr e L wait v1 k) (hB : B0 = w.heap.size) (hA : Below wr.heap.size wr W) (hp : wait[k]? = some p) (hd : p.2 < L)
    (hr : OffRow w3 B0 e 1 v3 (k + 1) ((wait.map (·.1)).take k ++ [p.1])) (hg : W.grownBy w3 v1.ownBlock) : Frees B0 w w3 e L wait v3 (k + 1) := by
  refine ⟨by rw [take_next (x := p.1) (by simp [hp])]; exact hr, ?_, fun i hi => ?_⟩
  · have h1 : Below w.heap.size w W := h.bel.trans (hA.mono h.bel.size)
    exact ⟨hg.os.trans h1.os, hg.tape.trans h1.tape, hg.output.trans h1.output, Nat.le_trans h1.size hg.size, fun j hj => (hg.block j (Nat.lt_of_lt_of_le hj h1.size) fun e1 => by have := (h.row.lt j e1.symm).1; omega).trans (h1.block j hj)⟩
  · by_cases hk : i < k
    · exact h.low i hk
    · obtain rfl : i = k := by omega
      exact ⟨p, hp, hd⟩
theorem Frees.below {B0 : Nat} {w wr W : World} {e : TypeId} {L : Int} {wait : List (Value × Int)} {v1 : Value} {k : Nat} (h : Frees B0 w wr e L wait v1 k) (hA : Below wr.heap.size wr W) : Frees B0 w W e L wait v1 k :=
  ⟨h.row.below hA, h.bel.trans (hA.mono h.bel.size), h.low⟩
/-- What waits is cut: the row has turned, and then the field is written. -/
theorem Bk.cut {tb tr : TypeId} {B : Nat} {w w4 : World} {q : AtB} {s : EB} (h : Bk tb tr B w q s) (hg : w.grownBy w4 q.v.ownBlock) {v : Value} {l : List (Value × Int)} (hr : OffRow w4 B tr 2 v l.length (cellsOf l)) (hv : ∀ j, v.ownBlock = some j → q.v.ownBlock = some j) :
    w4.cell? ⟨q.b, 2, none⟩ = some q.v ∧ w4.frozen? ⟨q.b, 2, none⟩ = false ∧ Turned tb tr B w q { s with wait := l } (w4.setCell ⟨q.b, 2, none⟩ v) ⟨q.b, q.c, v⟩ := by
  have hk : ∀ j, j = q.b ∨ j = q.c → w4.heap[j]? = w.heap[j]? := by
    intro j hj
    have hlt : j < w.heap.size := (h.low j (by rcases hj with x | x; (exact .inl x); (exact .inr (.inl x)))).2
    refine hg.block j hlt fun e => ?_
    have := h.v_ne e.symm
    rcases hj with x | x
    · exact this.1 x
    · exact this.2 x
  have ho := (hk _ (.inl rfl)).trans h.obj
  refine ⟨by simp [World.cell?, ho], by simp [World.frozen?, ho], rfl, h.setWait hk hr, ?_, fun j hj => ?_⟩
  · exact ((Only.refl q.S w).grown hg fun j hj => .inl (.inr (.inr hj))).setCell (p := ⟨q.b, 2, none⟩) (.inl (.inl rfl)) v
  · rcases hj with x | x | x
    · exact .inl (.inl x)
    · exact .inl (.inr (.inl x))
    · exact .inl (.inr (.inr (hv j x)))
theorem Turned.still {tb tr : TypeId} {B : Nat} {w w1 : World} {q : AtB} {s : EB} (h : Bk tb tr B w q s) (k : Below w.heap.size w w1) : Turned tb tr B w q s w1 q :=
  ⟨rfl, h.below k, ⟨k.os, k.tape, k.output, k.size, fun j hj _ => k.block j hj⟩, fun _ hj => .inl hj⟩
/-- All that is known when the walk over those that wait has ended. -/
theorem Frees.fin {tb tr e : TypeId} {B : Nat} {w wo : World} {q : AtB} {s : EB} {L : Int} {k cap1 : Nat} {a1 : Option Addr} (h : Bk tb tr B w q s) (hF : Frees w.heap.size w wo e L s.wait (.slice a1 k cap1) k) (hL : L = s.limit) (hgone : EB.gone L s.wait = k) {w4 : World} (hg : wo.grownBy w4 q.v.ownBlock) {v : Value}
    (hr : OffRow w4 B tr 2 v (s.wait.length - k) ((cellsOf s.wait).drop (k * 2))) (hv : ∀ j, v.ownBlock = some j → q.v.ownBlock = some j) :
    w4.cell? ⟨q.b, 2, none⟩ = some q.v ∧ w4.frozen? ⟨q.b, 2, none⟩ = false ∧ Freed tb tr e B w q s (.returned (.slice a1 k cap1)) (w4.setCell ⟨q.b, 2, none⟩ v) := by
  have hb := h.below hF.bel
  obtain ⟨p1, p2, p3⟩ := hb.cut hg (v := v) (l := s.wait.drop k) (by rw [List.length_drop, ← cellsOf_drop]; exact hr) hv
  have hf : s.free = ({ s with wait := s.wait.drop k }, (s.wait.take k).map (·.1)) := by unfold EB.free; rw [← hL, hgone]
  have hk : k ≤ s.wait.length := by rw [← hgone]; exact EB.gone_le _ _
  have hlen : ((s.wait.take k).map (·.1)).length = k := by simp; omega
  refine ⟨p1, p2, ⟨a1, cap1, by rw [hf]; simp only; rw [hlen], ?_⟩, ⟨⟨q.b, q.c, v⟩, ?_, fun j hj => by rcases hj with x | x | x; (exact .inl x); (exact .inr (.inl x)); (exact .inr (.inr (hv j x)))⟩⟩
  · rw [hf]
    simp only
    rw [hlen, List.map_take]
    refine hF.row.kept fun j hj => ?_
    have hj' := (hF.row.lt j hj)
    have h1 : j ≠ q.b := fun e => by have := (h.low j (.inl e)).2; omega
    rw [heap_set_other h1]
    exact hg.block j hj'.2 fun e => by have := (h.low j (.inr (.inr e.symm))).2; omega
  · rw [hf]
    exact (Turned.still h hF.bel).trans p3
set_option maxHeartbeats 4000000 in
set_option maxRecDepth 100000 in
theorem book_Free {B : Nat} {w : World} {q : AtB} {s : EB} (h : Bk 58 62 B w q s) (hl : s.came.length ≤ 16) (hstr : ∀ p ∈ s.wait, ∃ t, p.1 = Value.string t) (hfew : s.wait.length ≤ 1099511627776) (hBw : B ≤ w.heap.size) :
    Calls Try.prog 17 #[.pointer (some ⟨q.b, 0, none⟩)] w fun e w' => Freed 58 62 9 B w q s e w' := by
  obtain ⟨i0, hi, hz0, hz1, hz2⟩ := info_parts info9
  obtain ⟨j0, hj, hy0, hy1, hy2⟩ := info_parts info62
  have hlim := book_limit h hl
  have c2 := h.c2
  have H := Lib.hid h
  have HS := Lib.hid hstr
  obtain ⟨a, cap, hv⟩ := h.row.slice
  obtain ⟨n, hn⟩ : ∃ n, n = s.wait.length := ⟨_, rfl⟩
  have HN := Lib.hid hn
  obtain ⟨L, hL⟩ : ∃ L, L = s.limit := ⟨_, rfl⟩
  rw [← hL] at hlim
  have HL := Lib.hid hL
  rw [hv, ← hn] at c2
  rw [← hn] at hfew
  have HV := Lib.hid hv
  have HF0 := Lib.hid (show Frees w.heap.size w w 9 L s.wait (.slice none 0 0) 0 from ⟨OffRow.nil _ _ _ _, Below.refl _ _, fun i hi => absurd hi (Nat.not_lt_zero _)⟩)
  clear h hstr hv hn hL
  go_enter Try.func17, Try.ntmps17
  go_wp2_with (go_at_call 32; refine hlim.mono ?_; rintro e w' ⟨rfl, rfl⟩)
  go_loopw [3, 17] (fun t i wr => ∃ k : Nat, k ≤ n ∧ i = .int .i64 (k : Int) ∧ Frees w.heap.size w wr 9 L s.wait t k) (fun _ i _ => n - (intOf i).toNat)
  case atStart => exact ⟨0, Nat.zero_le _, rfl, HF0.out⟩
  case round =>
    obtain ⟨k, hk, rfl, hF⟩ := hrel
    obtain ⟨wo, hwo⟩ : ∃ wo, wo = wr := ⟨_, rfl⟩
    subst hwo
    obtain ⟨a1, cap1, hv1⟩ := hF.row.slice
    subst hv1
    have HF := Lib.hid hF
    clear hF
    have hends : (∃ p : Value × Int, s.wait[k]? = some p ∧ p.2 < L) ∨ (EB.gone L s.wait = k ∧ ((∃ p : Value × Int, s.wait[k]? = some p ∧ ¬ p.2 < L) ∨ k = n)) := by
      by_cases hlt : k < n
      · obtain ⟨p, hp⟩ : ∃ p, s.wait[k]? = some p := ⟨_, List.getElem?_eq_getElem (by have := HN.out; omega)⟩
        by_cases hd : p.2 < L
        · exact .inl ⟨p, hp, hd⟩
        · exact .inr ⟨EB.gone_is HF.out.low fun p' hp' => by rw [hp] at hp'; injection hp' with hp'; subst hp'; exact hd, .inl ⟨p, hp, hd⟩⟩
      · exact .inr ⟨EB.gone_is HF.out.low fun p' hp' => by have := (List.getElem?_eq_some_iff.1 hp').1; have := HN.out; omega, .inr (by omega)⟩
    rcases hends with ⟨p, hp, hd⟩ | ⟨hgone, hway⟩
    · have hlt : k < n := by have := (List.getElem?_eq_some_iff.1 hp).1; have := HN.out; omega
      have hlt' : (k : Int) < (n : Int) := by omega
      have hk0 : (0 : Int) ≤ (k : Int) := by omega
      obtain ⟨pv, pt⟩ := p
      obtain ⟨tx, htx⟩ := HS.out _ (List.mem_of_getElem? hp)
      simp only at htx
      subst htx
      obtain ⟨g, off, cp, e1, r1, r2⟩ := (H.out.below (HF.out.bel)).thing hp
      rw [HV.out] at e1
      injection e1 with e1 _ e3
      subst e1 e3
      have HP := Lib.hid hp
      simp only at r1 r2 hd
      clear hp
      have hsz : w.heap.size ≤ wo.heap.size := HF.out.bel.size
      go_wp2_with (at_builtin; refine wpList_append_off rfl (.tmp 25) (.tmp 28) 28 rfl w.heap.size 9 i0 _ 1 16 Try.underlying28 hi hz0 hz1 hz2 rfl (.slice a1 k cap1) k ((s.wait.map (·.1)).take k) rfl ?c1 _ rfl 1 [.string tx] ?c2 ?c3 ?c4 ?c5 ?_)
      case c1 => exact (HF.out.row.alloc _).alloc _
      case c2 => exact src_block Try.underlying28 (by have := heap_new (wo.alloc (.cells #[.string tx, .int .i64 pt] 62)) (.cells #[.string tx] 9); simpa using this) 1 1 rfl (by simp; rfl)
      case c3 => unfold maxLen; omega
      case c4 => omega
      case c5 => omega
      intro v3 w3 hown3 hg3 hat3
      have HE := Lib.hid (HF.out.next rfl (((Below.refl _ wo).alloc (Nat.le_refl _) _).alloc (by simp) _) HP.out hd hown3 hg3)
      clear hown3 hg3 hat3 r1 r2
      go_wp2_with fail
      go_roundw
      case rel => exact ⟨k + 1, hlt, by go_num, HE.out⟩
      case measure => simp [intOf]; omega
    · have hkn : k ≤ n := hk
      have hn := HN.out
      have HR := Lib.hid (show ∀ W, Below wo.heap.size wo W → OffRow W B 62 2 (.slice a n cap) n (cellsOf s.wait) from fun W hW => by
        have r := ((H.out.below HF.out.bel).below hW).row
        rw [HV.out, ← hn] at r
        exact r)
      have c2' : wo.cell? ⟨q.b, 2, none⟩ = some (.slice a n cap) := by
        have c := (H.out.below HF.out.bel).c2
        rw [HV.out, ← hn] at c
        exact c
      have HFIN := Lib.hid (show ∀ (W : World) (hW : Below wo.heap.size wo W) (w4 : World) (hg : W.grownBy w4 (Value.slice a n cap).ownBlock) (v : Value) (hr : OffRow w4 B 62 2 v (n - k) ((cellsOf s.wait).drop (k * 2))) (hv : ∀ j, v.ownBlock = some j → (Value.slice a n cap).ownBlock = some j), w4.cell? ⟨q.b, 2, none⟩ = some (.slice a n cap) ∧ w4.frozen? ⟨q.b, 2, none⟩ = false ∧ Freed 58 62 9 B w q s (.returned (.slice a1 k cap1)) (w4.setCell ⟨q.b, 2, none⟩ v) from fun W hW w4 hg v hr hv => by
        have := (HF.out.below hW).fin (e := 9) H.out HL.out hgone (by rw [HV.out, ← hn]; exact hg) (v := v) (by rw [← hn]; exact hr) (fun j hj => by rw [HV.out, ← hn]; exact hv j hj)
        rw [HV.out, ← hn] at this
        exact this)
      have HONE := Lib.hid (show ∀ u ∈ (Value.agg #[Value.string ByteArray.empty, Value.int .i64 0]).cells.toList, u.oneCell' = true from fun u hu => by simp [Value.cells] at hu; rcases hu with rfl | rfl <;> rfl)
      have hcases : (a = none ∧ n = 0 ∧ cap = 0) ∨ ∃ g off, a = some ⟨g, off, none⟩ ∧ n ≤ cap ∧ cap ≤ maxLen := by
        rcases (HR.out wo (Below.refl _ _)).2 with ⟨e, e0⟩ | ⟨g, off, cp, cur, e, _, _, x1, x2, _⟩
        · injection e with e1 _ e3
          exact .inl ⟨e1, e0, e3⟩
        · injection e with e1 _ e3
          exact .inr ⟨g, off, e1, by omega, by omega⟩
      rcases hway with ⟨p, hp, hd⟩ | rfl
      · have hlt : k < n := by have := (List.getElem?_eq_some_iff.1 hp).1; omega
        obtain ⟨g, off, rfl, hnc, hcm⟩ := hcases.resolve_left (by rintro ⟨_, h, _⟩; omega)
        obtain ⟨pv, pt⟩ := p
        obtain ⟨tx, htx⟩ := HS.out _ (List.mem_of_getElem? hp)
        simp only at htx
        subst htx
        obtain ⟨g', off', cp, e1, r1, r2⟩ := (H.out.below (HF.out.bel)).thing hp
        rw [HV.out] at e1
        injection e1 with e1 _ e3
        injection e1 with e1
        injection e1 with e1 e2
        subst e1 e2 e3
        simp only at r1 r2 hd
        have hd' : L ≤ pt := by omega
        unfold maxLen at hcm
        have hlt' : (k : Int) < (n : Int) := by omega
        have hk0 : (0 : Int) ≤ (k : Int) := by omega
        have hkc : (k : Int) ≤ (cap : Int) := by omega
        have hc : k < cap := by omega
        have hsl := Lib.hid (slice_from Try.underlying56 hj hy1 (g := g) (off := off) (n := n) (cap := cap) hkn (by omega))
        have hqb : q.b < wo.heap.size := ((H.out.below HF.out.bel).low _ (.inl rfl)).2
        have c2a := (((Below.refl _ wo).alloc (Nat.le_refl _) (.cells #[.string tx, .int .i64 pt] 62)).cell (p := ⟨q.b, 2, none⟩) hqb).trans c2'
        clear hn hgone hk hp c2' hqb
        go_wp2_with (with_reducible refine wpList_clear_off rfl (.tmp 38) 56 rfl B 62 j0 _ 2 Try.underlying56 hj hy0 rfl HONE.out _ _ _ (HR.out _ ((Below.refl _ wo).alloc (Nat.le_refl _) _)) (some ⟨g, off, none⟩) cap rfl k hkn _ rfl ?_)
        intro w4 hg4 ⟨a', x1, x2, hr4⟩
        replace x1 := x1 hc
        rw [Option.map_some, addr_add] at x1
        subst x1
        obtain ⟨p1, p2, p3⟩ := HFIN.out _ ((Below.refl _ wo).alloc (Nat.le_refl _) _) w4 hg4 _ hr4 (fun j hj => hj)
        have HE := Lib.hid p3
        have hsl := hsl.out
        clear p3 hg4 hr4 x2
        go_wp2_with fail
        go_ret
        exact HE.out
      · clear hgone hk
        rcases hcases with ⟨rfl, h0, rfl⟩ | ⟨g, off, rfl, hnc, hcm⟩
        · subst h0
          clear hn
          go_wp2_with (with_reducible refine wpList_clear_off rfl (.tmp 38) 56 rfl B 62 j0 _ 2 Try.underlying56 hj hy0 rfl HONE.out _ _ _ (HR.out _ (Below.refl _ _)) none 0 rfl 0 (Nat.le_refl _) _ rfl ?_)
          intro w4 hg4 ⟨a', x1, x2, hr4⟩
          replace x2 := x2 rfl
          subst x2
          obtain ⟨p1, p2, p3⟩ := HFIN.out _ (Below.refl _ _) w4 hg4 _ hr4 (fun j hj => hj)
          have HE := Lib.hid p3
          clear p3 hg4 hr4 x1
          go_wp2_with fail
          go_ret
          exact HE.out
        · unfold maxLen at hcm
          have hkc : (k : Int) ≤ (cap : Int) := by omega
          clear hn
          by_cases hlt : k < cap
          · have hsl := Lib.hid (slice_from Try.underlying56 hj hy1 (g := g) (off := off) (n := k) (cap := cap) (Nat.le_refl _) (by omega))
            go_wp2_with (with_reducible refine wpList_clear_off rfl (.tmp 38) 56 rfl B 62 j0 _ 2 Try.underlying56 hj hy0 rfl HONE.out _ _ _ (HR.out _ (Below.refl _ _)) (some ⟨g, off, none⟩) cap rfl k hkn _ rfl ?_)
            intro w4 hg4 ⟨a', x1, x2, hr4⟩
            replace x1 := x1 hlt
            rw [Option.map_some, addr_add] at x1
            subst x1
            obtain ⟨p1, p2, p3⟩ := HFIN.out _ (Below.refl _ _) w4 hg4 _ hr4 (fun j hj => hj)
            simp only [Nat.sub_self] at p3
            have HE := Lib.hid p3
            have hsl := hsl.out
            clear p3 hg4 hr4 x2
            go_wp2_with fail
            go_ret
            exact HE.out
          · obtain rfl : k = cap := by omega
            go_wp2_with (with_reducible refine wpList_clear_off rfl (.tmp 38) 56 rfl B 62 j0 _ 2 Try.underlying56 hj hy0 rfl HONE.out _ _ _ (HR.out _ (Below.refl _ _)) (some ⟨g, off, none⟩) k rfl k hkn _ rfl ?_)
            intro w4 hg4 ⟨a', x1, x2, hr4⟩
            replace x2 := x2 rfl
            subst x2
            obtain ⟨p1, p2, p3⟩ := HFIN.out _ (Below.refl _ _) w4 hg4 _ hr4 (fun j hj => hj)
            simp only [Nat.sub_self] at p3
            have HE := Lib.hid p3
            clear p3 hg4 hr4 x1
            go_wp2_with fail
            go_ret
            exact HE.out
end Go.Proofs.Ytagadjgemgajjaa
