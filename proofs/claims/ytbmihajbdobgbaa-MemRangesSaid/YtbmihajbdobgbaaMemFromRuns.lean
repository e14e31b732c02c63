/- From, of a map of texts: what is ranged over. -/
import Derived.Test.YtbmihajbdobgbaaMemRange
import Derived.Test.YtbmihajbdobgbaaMemWalkS
import Derived.Laws.EntriesVeiled
set_option linter.unusedVariables false
set_option maxRecDepth 100000
namespace Go.Proofs.Ytbmihajbdobgbaa.MS
open Go.RowKit
attribute [local go_sem] Oper.semAt_some

theorem has_least {P : Nat → Prop} (h : ∃ n, P n) : ∃ n, P n ∧ ∀ k, P k → n ≤ k := by
  obtain ⟨n, hn⟩ := h
  induction n using Nat.strongRecOn with
  | ind n ih =>
    by_cases hk : ∃ k, k < n ∧ P k
    · obtain ⟨k, h1, h2⟩ := hk
      exact ih k h1 h2
    · exact ⟨n, hn, fun k hp => by
        rcases Nat.lt_or_ge k n with h | h
        · exact absurd ⟨k, h, hp⟩ hk
        · exact h⟩
noncomputable def leastOf (P : Nat → Prop) : Nat := @dite _ (∃ n, P n) (Classical.propDecidable _) (fun h => Classical.choose (has_least h)) (fun _ => 0)
theorem leastOf_spec {P : Nat → Prop} (h : ∃ n, P n) : P (leastOf P) ∧ ∀ k, P k → leastOf P ≤ k := by
  unfold leastOf
  rw [dif_pos h]
  exact Classical.choose_spec (has_least h)
abbrev PS := List UInt8 × ByteArray
def encK (y : PS) : Array Value := #[.string (bs y.1), .string y.2]
/-- What From's closure finds. -/
structure FromC (Z tb kb : Nat) (t : Tr ByteArray) (u : Option Addr) (key : List UInt8) (W : World) : Prop where
  tb : W.heap[tb]? = some (.cells #[.pointer u] 49 (0, 0))
  kb : W.heap[kb]? = some (.cells #[.string (bs key)] 9 (0, 0))
  tree : In Z W t
  avl : t.avl
  ris : ris t.prs
  ptr : t.ptr = .pointer u
theorem FromC.map {Z tb kb : Nat} {t : Tr ByteArray} {u : Option Addr} {key : List UInt8} {W : World} (h : FromC Z tb kb t u key W) : IsM W t := ⟨h.tree.low, h.avl, h.ris⟩
/-- How a round of From begins. -/
def RunF (L : List PS) (B c : Nat) (J : List PS → (Nat → Prop) → World → Prop) (kv vv ov : Value) (w : World) (r : Nat) : Prop :=
  ∃ j S, j ≤ L.length ∧ r = L.length - j ∧ J (L.take j) S w ∧ B ≤ w.heap.size ∧
    ((∃ y v, L[j]? = some y ∧ kv = .string (bs y.1) ∧ vv = .string y.2 ∧ ov = .bool true ∧ Wk w B c v (L.drop (j + 1)) ∧ ∀ k, S k → k ≠ c ∧ v.ownBlock ≠ some k) ∨ (j = L.length ∧ kv = .string ByteArray.empty ∧ vv = .string ByteArray.empty ∧ ov = .bool false))
set_option maxHeartbeats 8000000 in
theorem from_runs (n Z tb kb : Nat) (t : Tr ByteArray) (u : Option Addr) (key : List UInt8) (lp : Nat) (J : List PS → (Nat → Prop) → World → Prop) (Jx : List PS → World → Prop) (W : World) (S0 : Nat → Prop) (L : List PS) (hL : Hid (L = fromP key t.prs)) (hl : t.sz ≤ 900000)
    (hJ : Hid (∀ pre S A B Sx, J pre S A → Only Sx A B → Kn 74 A B → (∀ k, Sx k → W.heap.size ≤ k ∧ ¬ S k) → J pre S B))
    (hY : Hid (∀ pre S x W1, J pre S W1 → L[pre.length]? = some x → YieldAt Fence.wide (n - 1) Try.prog lp (encK x) W1 fun e W' =>
      (e = .returned (.bool true) ∧ Only (fun k => S k ∨ k < W.heap.size) W1 W' ∧ Kn 74 W1 W' ∧ ∃ S', (∀ k, S' k → (S k ∨ W1.heap.size ≤ k) ∧ k < W'.heap.size) ∧ J (pre ++ [x]) S' W') ∨ (e = .returned (.bool false) ∧ Jx (pre ++ [x]) W')))
    (h0 : Hid (J [] S0 W)) (hS0 : Hid (∀ k, S0 k → k < W.heap.size)) (hC : Hid (FromC Z tb kb t u key W)) :
    Calls Try.prog 33 #[.func (.yield lp) #[] #[], .pointer (some ⟨tb, 0, none⟩), .pointer (some ⟨kb, 0, none⟩)] W fun en W' => (∃ v, en = .returned v) ∧ ((∃ S', J L S' W') ∨ (∃ pre, Jx pre W')) := by
  have x0 : W.cell? ⟨tb, 0, none⟩ = some (.pointer u) := by simp [World.cell?, hC.out.tb]
  have x1 : W.cell? ⟨kb, 0, none⟩ = some (.string (bs key)) := by simp [World.cell?, hC.out.kb]
  have HWK := Lib.hid (map_Walk (k := key) (Lib.hid hC.out.map) hC.out.ptr hl)
  rw [← hL.out] at HWK
  have HLL := Lib.hid (show L.length ≤ 900000 by
    have h1 : (fromP key t.prs).length ≤ t.prs.length := List.length_filter_le _ _
    rw [← hL.out, ← t.sz_prs] at h1
    omega)
  go_enter Try.func33, Try.ntmps33
  go_wp2_with fail
  refine HWK.out.mono ?_
  rintro en w1 ⟨c, v, rfl, hW, hB⟩
  have HW1 := Lib.hid hW
  have J1 := Lib.hid (hJ.out _ _ _ _ (fun _ => False) h0.out (show Only (fun _ => False) W w1 from ⟨hB.os, hB.tape, hB.output, hB.size, fun k hk _ => hB.block k hk⟩) (Kn.of_below hB) (fun _ h => h.elim))
  have HSZ := Lib.hid hB.size
  have HNX := Lib.hid (next (Lib.hid hW) hB.size HLL.out)
  obtain ⟨B, hBs⟩ : ∃ B, B = W.heap.size := ⟨_, rfl⟩
  rw [← hBs] at HW1 HNX HSZ
  have HBS := Lib.hid hBs
  clear hW hB x0 x1 hBs
  go_wp2_with fail
  refine HNX.out.mono ?_
  rintro en w2 ⟨hO, hK, v', hv', hm⟩
  have J2 := Lib.hid (hJ.out _ _ _ _ _ J1.out hO hK (fun k hk => by
    have hlo : B ≤ k := by
      rcases hk with rfl | hk
      · exact HW1.out.lo
      · exact (HW1.out.own hk).1
    refine ⟨by rw [← HBS.out]; exact hlo, fun hs => ?_⟩
    have := hS0.out k hs
    have := HBS.out
    omega))
  have HS2 := Lib.hid (show B ≤ w2.heap.size from Nat.le_trans HSZ.out hO.size)
  have HFF : ∃ r, ∃ kv vv ov, RunF L B c J kv vv ov w2 r ∧ en = .returned (.tuple #[kv, vv, ov]) := by
    cases hLc : L with
    | nil =>
      rw [hLc] at hm
      refine ⟨0, _, _, _, ⟨0, S0, Nat.le_refl _, rfl, J2.out, HS2.out, .inr ⟨rfl, rfl, rfl, rfl⟩⟩, hm.1⟩
    | cons y L1 =>
      rw [hLc] at hm
      obtain ⟨yk, yv⟩ := y
      refine ⟨L1.length + 1, _, _, _, ⟨0, S0, Nat.zero_le _, rfl, J2.out, HS2.out, .inl ⟨(yk, yv), v', rfl, rfl, rfl, rfl, hm.2, fun k hk => ?_⟩⟩, hm.1⟩
      have h1 := hS0.out k hk
      have h2 := HBS.out
      refine ⟨fun e => ?_, fun e => ?_⟩
      · have := hm.2.lo; omega
      · have := (hm.2.own e).1; omega
  obtain ⟨r, kv, vv, ov, hF, rfl⟩ := HFF
  have HF := Lib.hid hF
  clear hO hK hv' hm hF
  go_wp2_with fail
  go_loopw [5, 6, 7] (fun kv vv ov wr => Hid (∃ r, RunF L B c J kv vv ov wr r)) (fun kv vv ov wr => leastOf (RunF L B c J kv vv ov wr))
  case atStart => exact Lib.hid ⟨_, HF.out⟩
  case round =>
    obtain ⟨wo, hwo⟩ : ∃ wo, wo = wr := ⟨_, rfl⟩
    subst hwo
    obtain ⟨⟨j, S, hj, hr, hJj, hsz, hcase⟩, hmin⟩ := leastOf_spec hrel.out
    have HR := Lib.hid hr
    have HJJ := Lib.hid hJj
    have HSZ2 := Lib.hid hsz
    clear hr hJj hmin hsz
    rcases hcase with ⟨⟨yk, yv⟩, v, hy, rfl, rfl, rfl, hW, hdis⟩ | ⟨rfl, rfl, rfl, rfl⟩
    · have HWj := Lib.hid hW
      have HDis := Lib.hid hdis
      have hjl := Lib.hid (List.getElem?_eq_some_iff.1 hy).1
      have hlen := Lib.hid (show (L.take j).length = j by rw [List.length_take]; omega)
      have hyt := Lib.hid (show L.take (j + 1) = L.take j ++ [(yk, yv)] by rw [List.take_add_one, hy]; rfl)
      obtain ⟨fn, tm, asg, bdy, hyi, hRd⟩ := hY.out (L.take j) S (yk, yv) wo HJJ.out (by rw [hlen.out]; exact hy)
      unfold encK at hyi
      simp only at hyi
      clear hW hdis hy
      go_upto_region 2 with (fail)
      refine (wpIn_wide (n := n)).1 ?_
      gi_wp2
      refine ⟨fun h => by simp [Fence.wide] at h, hRd.mono ?_⟩
      rintro en W5 (⟨rfl, ho5, hk5, S', hS', hJ5⟩ | ⟨rfl, hx5⟩)
      · rw [← hyt.out] at hJ5
        have W5k := Lib.hid (show Wk W5 B c v (L.drop (j + 1)) from by
          refine HWj.out.keep (ho5.block c (heap_lt HWj.out.box) fun hh => ?_) (fun q hq => ho5.block q (HWj.out.own hq).2.1 fun hh => ?_) hk5
          · rcases hh with h | h
            · exact (HDis.out c h).1 rfl
            · have := HWj.out.lo; have := HBS.out; omega
          · rcases hh with h | h
            · exact (HDis.out q h).2 hq
            · have := (HWj.out.own hq).1; have := HBS.out; omega)
        have HJ5 := Lib.hid hJ5
        have HB5 := Lib.hid (show B ≤ W5.heap.size from Nat.le_trans HSZ2.out ho5.size)
        have HD5 := Lib.hid (show ∀ k, S' k → k ≠ c ∧ v.ownBlock ≠ some k from fun k hk => by
          rcases (hS' k hk).1 with h | h
          · exact HDis.out k h
          · refine ⟨fun e => ?_, fun e => ?_⟩
            · have := heap_lt HWj.out.box; omega
            · have := (HWj.out.own e).2.1; omega)
        have HN5 := Lib.hid (next (Lib.hid W5k.out) HB5.out (by have := HLL.out; rw [List.length_drop]; omega))
        have HS5 := Lib.hid (fun k hk => (hS' k hk).2 : ∀ k, S' k → k < W5.heap.size)
        clear hJ5 ho5 hk5 hS'
        gi_wp2
        go_wp2_with fail
        refine HN5.out.mono ?_
        rintro en w6 ⟨hO, hK, v', hv', hm⟩
        have J6 := Lib.hid (hJ.out _ _ _ _ _ HJ5.out hO hK (fun k hk => by
          have hlo : B ≤ k := by
            rcases hk with rfl | hk
            · exact W5k.out.lo
            · exact (W5k.out.own hk).1
          refine ⟨by rw [← HBS.out]; exact hlo, fun hs => ?_⟩
          have := HD5.out k hs
          rcases hk with h | h
          · exact this.1 h
          · exact this.2 h))
        have HB6 := Lib.hid (Nat.le_trans HB5.out hO.size)
        have HF6 : ∃ kv vv ov, RunF L B c J kv vv ov w6 (L.length - (j + 1)) ∧ en = .returned (.tuple #[kv, vv, ov]) := by
          have hjl' := hjl.out
          cases hLc : L.drop (j + 1) with
          | nil =>
            rw [hLc] at hm
            have : L.length ≤ j + 1 := List.drop_eq_nil_iff.1 hLc
            exact ⟨_, _, _, ⟨j + 1, S', hjl', rfl, J6.out, HB6.out, .inr ⟨by omega, rfl, rfl, rfl⟩⟩, hm.1⟩
          | cons y L1 =>
            rw [hLc] at hm
            obtain ⟨zk, zv⟩ := y
            have hlt : j + 1 < L.length := by
              rcases Nat.lt_or_ge (j + 1) L.length with h | h
              · exact h
              · rw [List.drop_eq_nil_of_le h] at hLc; cases hLc
            have hd2 := List.drop_eq_getElem_cons hlt
            rw [hLc] at hd2
            injection hd2 with e1 e2
            refine ⟨_, _, _, ⟨j + 1, S', hjl', rfl, J6.out, HB6.out, .inl ⟨(zk, zv), v', by rw [List.getElem?_eq_getElem hlt, ← e1], rfl, rfl, rfl, by rw [← e2]; exact hm.2, fun k hk => ?_⟩⟩, hm.1⟩
            refine ⟨(HD5.out k hk).1, fun e => ?_⟩
            rcases hv' k e with h | h
            · exact (HD5.out k hk).2 h
            · have := HS5.out k hk; omega
        obtain ⟨kv6, vv6, ov6, hF6, rfl⟩ := HF6
        have HF6 := Lib.hid hF6
        clear hO hK hv' hm hF6
        go_wp2_with fail
        go_roundw
        case rel => exact Lib.hid ⟨_, HF6.out⟩
        case measure =>
          have h1 := (leastOf_spec ⟨_, HF6.out⟩).2 _ HF6.out
          have h2 := HR.out
          have h3 := hjl.out
          omega
      · have HX5 := Lib.hid hx5
        clear hx5
        gi_wp2
        go_wp2_with fail
        go_end0
        exact ⟨⟨_, rfl⟩, .inr ⟨_, HX5.out⟩⟩
    · go_wp2_with fail
      go_end0
      exact ⟨⟨_, rfl⟩, .inl ⟨S, by have := HJJ.out; rw [List.take_length] at this; exact this⟩⟩
/-- From, of a map: what is ranged over. -/
theorem from_stops (n Z tb kb : Nat) (t : Tr ByteArray) (u : Option Addr) (key : List UInt8) (hl : t.sz ≤ 900000) :
    SepStops (Kn 74) n Try.prog 33 #[.pointer (some ⟨tb, 0, none⟩), .pointer (some ⟨kb, 0, none⟩)] encK (FromC Z tb kb t u key) (fromP key t.prs) :=
  fun lp J Jx W S0 hJ hY h0 hS0 hC => callsIn_wide.2 (from_runs n Z tb kb t u key lp J Jx W S0 _ (Lib.hid rfl) hl (Lib.hid hJ) (Lib.hid hY) (Lib.hid h0) (Lib.hid hS0) (Lib.hid hC))
/-- From called. -/
theorem from_run (u : Option Addr) (key : List UInt8) (w : World) : Calls Try.prog 20 #[.agg #[.pointer u], .string (bs key)] w fun en w' => en = .returned (.func (.func 33) #[] #[.pointer (some ⟨w.heap.size, 0, none⟩), .pointer (some ⟨w.heap.size + 1, 0, none⟩)]) ∧
    w' = (w.alloc (.cells #[.pointer u] 49)).alloc (.cells #[.string (bs key)] 9) := by
  go_enter Try.func20, Try.ntmps20
  go_wp2_with fail
  go_ret
  exact ⟨by simp, rfl⟩
theorem kn_trans {ty : TypeId} (A B C : World) (h : Kn ty A B) (k : Kn ty B C) : Kn ty A C := h.trans k
theorem kn_putObj {ty : TypeId} (A : World) (l : Nat) (r r' : Loop) (h : A.heap[l]? = some (.loop r)) : Kn ty A (A.putObj l (.loop r')) := by
  refine ⟨by simp [World.putObj], fun b cs hb => World.putObj_heap_other fun e => ?_⟩
  rw [e, h] at hb
  cases hb
end Go.Proofs.Ytbmihajbdobgbaa.MS
