/- A key and a value gone over. -/
import Derived.Test.YtmmdhmhcfpghfaaBlockTold
import Derived.Test.YtmmdhmhcfpghfaaRegion
set_option linter.unusedVariables false
set_option maxRecDepth 100000
namespace Go.Proofs.Ytmmdhmhcfpghfaa
open Go.RowKit

def Tld.V (t : Tld) : Value := .agg #[.int .i64 (t.sh : Int), .string (bs t.rest), .string (bs t.val), .bool t.gone]
/-- Why what stands here is no key behind this one. -/
def kE (last l : List UInt8) : Int :=
  if ce l ≠ 0 then ce l
  else if te (l.drop (ck l)) ≠ 0 then te (l.drop (ck l))
  else if last.length < (cn l).toNat ∨ sharedL last (last.take (cn l).toNat ++ ts (l.drop (ck l))) ≠ (cn l).toNat then 3
  else if 65536 < (cn l).toNat + (ts (l.drop (ck l))).length then 6 else 0
/-- What a going over leaves: what is told, the error, the reader somewhere. -/
structure KeyPost (r : Nat) (last l : List UInt8) (w : World) (e : Ending) (w' : World) : Prop where
  out : ∃ t s, e = .returned (.tuple #[Tld.V t, .int .i64 (kE last l)]) ∧ Rt r (bs s) w' ∧ (kE last l = 0 → t = ⟨(cn l).toNat, ts (l.drop (ck l)), [], false⟩ ∧ s = (l.drop (ck l)).drop (tk (l.drop (ck l))))
  only : Only (fun k => k = r) w w'

/-- A variable that holds what is told. -/
def BxT (c : Nat) (t : Tld) (w : World) : Prop := w.heap[c]? = some (.cells #[.int .i64 (t.sh : Int), .string (bs t.rest), .string (bs t.val), .bool t.gone] 64 (0, 0))
theorem BxT.c0 {c : Nat} {t : Tld} {w : World} (h : BxT c t w) : w.cell? ⟨c, 0, none⟩ = some (.int .i64 (t.sh : Int)) := by unfold BxT at h; simp [World.cell?, h]
theorem BxT.c1 {c : Nat} {t : Tld} {w : World} (h : BxT c t w) : w.cell? ⟨c, 1, none⟩ = some (.string (bs t.rest)) := by unfold BxT at h; simp [World.cell?, h]
theorem BxT.c2 {c : Nat} {t : Tld} {w : World} (h : BxT c t w) : w.cell? ⟨c, 2, none⟩ = some (.string (bs t.val)) := by unfold BxT at h; simp [World.cell?, h]
theorem BxT.c3 {c : Nat} {t : Tld} {w : World} (h : BxT c t w) : w.cell? ⟨c, 3, none⟩ = some (.bool t.gone) := by unfold BxT at h; simp [World.cell?, h]
theorem BxT.free {c : Nat} {t : Tld} {w : World} (h : BxT c t w) (j : Nat) : w.frozen? ⟨c, j, none⟩ = false := by unfold BxT at h; simp [World.frozen?, h]
theorem BxT.put {c : Nat} {t : Tld} {w : World} (h : BxT c t w) (u : Tld) : BxT c u ((((w.setCell ⟨c, 0, none⟩ (.int .i64 (u.sh : Int))).setCell ⟨c, 1, none⟩ (.string (bs u.rest))).setCell ⟨c, 2, none⟩ (.string (bs u.val))).setCell ⟨c, 3, none⟩ (.bool u.gone)) := by
  have h1 := heap_set (o := 0) h (.int .i64 (u.sh : Int))
  have h2 := heap_set (o := 1) h1 (.string (bs u.rest))
  have h3 := heap_set (o := 2) h2 (.string (bs u.val))
  exact heap_set (o := 3) h3 (.bool u.gone)
theorem BxT.range {c : Nat} {t : Tld} {w : World} (h : BxT c t w) : w.rangeAt c 0 t.vals := by
  intro j v hj
  match j, hj with
  | 0, hj => injection hj with hj; subst hj; exact h.c0
  | 1, hj => injection hj with hj; subst hj; exact h.c1
  | 2, hj => injection hj with hj; subst hj; exact h.c2
  | 3, hj => injection hj with hj; subst hj; exact h.c3
  | n + 4, hj => cases hj
theorem BxT.keep {c : Nat} {t : Tld} {w w' : World} {S : Nat → Prop} (h : BxT c t w) (k : Only S w w') (hS : ¬ S c) : BxT c t w' := (k.block c (heap_lt h) hS).trans h
theorem BxT.below {c : Nat} {t : Tld} {w w' : World} (h : BxT c t w) (k : Below w.heap.size w w') : BxT c t w' := (k.block c (heap_lt h)).trans h
theorem infoT : (Try.prog.info? 64).map (·.size) = some 4 := by kernel_rfl
theorem results_told {fn : Func} {p u : Tmp} (h : fn.results = #[.cell p 64, .tmp u]) (tmps : Array Value) (w : World) (b : Nat) (t : Tld) (x : Value) (hp : tmps.getD p undef = .pointer (some ⟨b, 0, none⟩)) (hx : tmps.getD u undef = x) (hc : BxT b t w) :
    (results fn tmps).run Try.prog w = .ok (.tuple #[t.V, x]) w := by
  have hl := run_loadVar_mid (P := Try.prog) w b 0 64 t.vals _ hc.range Try.underlying64 rfl infoT
  have hp' : tmps[p]?.getD undef = .pointer (some ⟨b, 0, none⟩) := by simpa using hp
  have hx' : tmps[u]?.getD undef = x := by simpa using hx
  simp only [results, h]
  simp [Sem.run_bind, Result.andThen, hp', hx', asAddr, hl]
  rfl
/-- What is new may be written. -/
theorem Only.put4 {S : Nat → Prop} {a w : World} {c : Nat} (h : Only S a w) (hc : a.heap.size ≤ c) (v0 v1 v2 v3 : Value) : Only S a ((((w.setCell ⟨c, 0, none⟩ v0).setCell ⟨c, 1, none⟩ v1).setCell ⟨c, 2, none⟩ v2).setCell ⟨c, 3, none⟩ v3) :=
  (((h.setCell (p := ⟨c, 0, none⟩) (.inr hc) v0).setCell (p := ⟨c, 1, none⟩) (.inr hc) v1).setCell (p := ⟨c, 2, none⟩) (.inr hc) v2).setCell (p := ⟨c, 3, none⟩) (.inr hc) v3
theorem Rt.put4 {r c : Nat} {s : ByteArray} {w : World} (h : Rt r s w) (hc : r ≠ c) (v0 v1 v2 v3 : Value) : Rt r s ((((w.setCell ⟨c, 0, none⟩ v0).setCell ⟨c, 1, none⟩ v1).setCell ⟨c, 2, none⟩ v2).setCell ⟨c, 3, none⟩ v3) := by
  unfold Rt at h ⊢
  rw [heap_set_other hc, heap_set_other hc, heap_set_other hc, heap_set_other hc, h]
theorem IsBy.read {r : Nat} {s : ByteArray} {w w' : World} {v : Value} {last : List UInt8} (h : IsBy w v last) (hr : Rt r s w) (k : Only (fun k => k = r) w w') : IsBy w' v last := by
  obtain ⟨a, cap, rfl, h⟩ := h
  refine ⟨a, cap, rfl, ?_⟩
  rcases h with h | ⟨b, off, ha, h⟩
  · exact .inl h
  · refine .inr ⟨b, off, ha, fun i x hx => ?_⟩
    obtain ⟨h1, h2⟩ := h i x hx
    have hb : b ≠ r := by
      rintro rfl
      unfold Rt at hr
      simp only [World.cell?, hr] at h2
      match off + i, h2 with
      | 0, h2 => simp at h2
      | n + 1, h2 => simp at h2
    refine ⟨Nat.lt_of_lt_of_le h1 k.size, ?_⟩
    rw [← h2]
    unfold World.cell?
    rw [k.block b h1 hb]
def noTld : Tld := ⟨0, [], [], false⟩
/-- The end of a going over that is refused. -/
theorem key_no {r Z : Nat} {last l : List UInt8} {w w1 : World} {s : List UInt8} {z : Int} {t0 : Tld} (hk : kE last l = z) (hz : z ≠ 0) (hr : Rt r (bs s) w1) (ho : Only (fun k => k = r) w w1) (hb : BxT Z t0 w1) (hZ : Z = w.heap.size) (hrZ : r < w.heap.size) :
    KeyPost r last l w (.returned (.tuple #[noTld.V, .int .i64 z])) ((((w1.setCell ⟨Z, 0, none⟩ (.int .i64 ((0 : Nat) : Int))).setCell ⟨Z, 1, none⟩ (.string (bs []))).setCell ⟨Z, 2, none⟩ (.string (bs []))).setCell ⟨Z, 3, none⟩ (.bool false)) :=
  ⟨⟨noTld, s, by rw [hk], hr.put4 (by omega) _ _ _ _, fun h => absurd (hk.symm.trans h) hz⟩, ho.put4 (by omega) _ _ _ _⟩

theorem key_yes {r Z : Nat} {last l : List UInt8} {w w1 : World} {s : List UInt8} {t : Tld} (hk : kE last l = 0) (hr : Rt r (bs s) w1) (ho : Only (fun k => k = r) w w1) (hZ : Z = w.heap.size) (hrZ : r < w.heap.size) (hf : t = ⟨(cn l).toNat, ts (l.drop (ck l)), [], false⟩ ∧ s = (l.drop (ck l)).drop (tk (l.drop (ck l)))) :
    KeyPost r last l w (.returned (.tuple #[t.V, .int .i64 0])) ((((w1.setCell ⟨Z, 0, none⟩ (.int .i64 (t.sh : Int))).setCell ⟨Z, 1, none⟩ (.string (bs t.rest))).setCell ⟨Z, 2, none⟩ (.string (bs t.val))).setCell ⟨Z, 3, none⟩ (.bool t.gone)) :=
  ⟨⟨t, s, by rw [hk], hr.put4 (by omega) _ _ _ _, fun _ => hf⟩, ho.put4 (by omega) _ _ _ _⟩
set_option maxHeartbeats 2000000 in
theorem take_key (r : Nat) (last l : List UInt8) (v : Value) (w : World) (h : Rt r (bs l) w) (hv : Hid (IsBy w v last)) (hl : l.length ≤ 100000000000) (hlast : last.length ≤ 65536) :
    Calls Try.prog 51 #[.pointer (some ⟨r, 0, none⟩), v] w (KeyPost r last l w) := by
  have hs : (bs l).size ≤ maxLen := by rw [bs_size]; unfold maxLen; omega
  obtain ⟨w0, hw0⟩ : ∃ w0, w.alloc (.cells #[.int .i64 0, .string ⟨#[]⟩, .string ⟨#[]⟩, .bool false] 64) = w0 := ⟨_, rfl⟩
  have R0 := Lib.hid (show Rt r (bs l) w0 by rw [← hw0]; exact (Below.heap_alloc w _ r h.lt).trans h)
  have O0 := Lib.hid (show Only (fun k => k = r) w w0 by rw [← hw0]; exact (Only.refl _ _).alloc _)
  have V0 := Lib.hid (show IsBy w0 v last by rw [← hw0]; exact hv.out.below ((Below.refl _ _).alloc (Nat.le_refl _) _))
  have T0 := Lib.hid (show BxT w.heap.size noTld w0 by rw [← hw0]; exact heap_new w _)
  have HL := Lib.hid h.lt
  have HZ := Lib.hid (show w.heap.size ≠ r by have := h.lt; omega)
  clear h hv
  have hcnt := six_ReadCount r (bs l) w0 R0.out hs
  rw [bs_list, rest_bs] at hcnt
  by_cases h1 : ce l ≠ 0
  · have hk := Lib.hid (show kE last l = ce l by unfold kE; rw [if_pos h1])
    have hb : (ce l == 0) = false := beq_eq_false_iff_ne.2 h1
    obtain ⟨z, hz⟩ : ∃ z, z = ce l := ⟨_, rfl⟩
    rw [← hz] at hcnt hb hk
    have HCNT := Lib.hid hcnt
    clear hcnt h1 hz
    go_enter Try.func51, Try.ntmps51
    go_wp2_with fail
    refine HCNT.out.mono ?_
    rintro e w1 ⟨rfl, h2, k2⟩
    have t1 := T0.out.keep k2 HZ.out
    have H2 := Lib.hid h2
    have K2 := Lib.hid (O0.out.trans k2)
    have q0 := t1.c0
    have q1 := t1.c1
    have q2 := t1.c2
    have q3 := t1.c3
    have qf := t1.free
    have T1 := Lib.hid t1
    clear h2 k2 t1
    go_wp2_with fail
    refine bodyPost_ret (results_told rfl _ _ w.heap.size noTld _ rfl rfl (T1.out.put noTld)) rfl ?_
    exact key_no hk.out (by simpa using hb) H2.out K2.out T1.out rfl HL.out
  · have h1' : ce l = 0 := Decidable.of_not_not h1
    obtain ⟨k, hk⟩ : ∃ k, k = (cn l).toNat := ⟨_, rfl⟩
    have hkn : cn l = (k : Int) := by have := cn_of' h1'; omega
    have hk64 : k ≤ 9223372036854775807 := by have := cd_cases l; omega
    obtain ⟨l1, hl1⟩ : ∃ l1, l1 = l.drop (ck l) := ⟨_, rfl⟩
    have hl1l : l1.length ≤ 100000000000 := by rw [hl1, List.length_drop]; omega
    have hkE := Lib.hid (show kE last l = if te l1 ≠ 0 then te l1 else if last.length < k ∨ sharedL last (last.take k ++ ts l1) ≠ k then 3 else if 65536 < k + (ts l1).length then 6 else 0 by unfold kE; rw [if_neg h1, ← hl1, ← hk])
    have hfin := Lib.hid (show ∀ (t : Tld) (s : List UInt8), t = ⟨k, ts l1, [], false⟩ → s = l1.drop (tk l1) → t = ⟨(cn l).toNat, ts (l.drop (ck l)), [], false⟩ ∧ s = (l.drop (ck l)).drop (tk (l.drop (ck l))) by rw [← hl1, ← hk]; exact fun t s a b => ⟨a, b⟩)
    rw [← hl1, hkn, h1'] at hcnt
    have HCNT := Lib.hid hcnt
    clear hcnt h1 h1' hk hkn hl1
    have htx := fun W (hW : Rt r (bs l1) W) => six_ReadText r (bs l1) W hW (by rw [bs_size]; unfold maxLen; omega)
    rw [bs_list, rest_bs] at htx
    have htl : (ts l1).length ≤ 100000000000 := by
      have := td_cases l1
      rcases this with ⟨_, _, _, _, _, _, h⟩ | ⟨_, h, _⟩
      · rw [h, List.length_take, List.length_drop]; omega
      · rw [h]; simp
    by_cases h2 : te l1 ≠ 0
    · have hk := Lib.hid (show kE last l = te l1 by rw [hkE.out, if_pos h2])
      have hb : (te l1 == 0) = false := beq_eq_false_iff_ne.2 h2
      obtain ⟨z, hz⟩ : ∃ z, z = te l1 := ⟨_, rfl⟩
      rw [← hz] at htx hb hk
      have HTX := Lib.hid htx
      clear htx h2 hz
      go_enter Try.func51, Try.ntmps51
      go_wp2_with fail
      refine HCNT.out.mono ?_
      rintro e w1 ⟨rfl, h2, k2⟩
      have t1 := T0.out.keep k2 HZ.out
      have H2 := Lib.hid h2
      have K2 := Lib.hid (O0.out.trans k2)
      have T1 := Lib.hid t1
      clear h2 k2 t1
      go_wp2_with fail
      refine (HTX.out w1 H2.out).mono ?_
      rintro e w2 ⟨rfl, h3, k3⟩
      have t2 := T1.out.keep k3 HZ.out
      have H3 := Lib.hid h3
      have K3 := Lib.hid (K2.out.trans k3)
      have q0 := t2.c0
      have q1 := t2.c1
      have q2 := t2.c2
      have q3 := t2.c3
      have qf := t2.free
      have T2 := Lib.hid t2
      clear h3 k3 t2
      go_wp2_with fail
      refine bodyPost_ret (results_told rfl _ _ w.heap.size noTld _ rfl rfl (T2.out.put noTld)) rfl ?_
      exact key_no hk.out (by simpa using hb) H3.out K3.out T2.out rfl HL.out
    · have h2' : te l1 = 0 := Decidable.of_not_not h2
      have hkE2 := Lib.hid (show kE last l = if last.length < k ∨ sharedL last (last.take k ++ ts l1) ≠ k then 3 else if 65536 < k + (ts l1).length then 6 else 0 by rw [hkE.out, if_neg h2])
      rw [h2'] at htx
      have HTX := Lib.hid htx
      clear htx h2 h2' hkE
      obtain ⟨rest, hrest⟩ : ∃ rest, rest = ts l1 := ⟨_, rfl⟩
      rw [← hrest] at HTX hkE2 hfin htl
      have hz1 : (bs rest).size = rest.length := bs_size _
      have HSJ := Lib.hid (fun W (hW : IsBy W v last) => told_shares k rest [] last false v W (Lib.hid hW) hk64 (by omega) (by omega))
      obtain ⟨sj, hsj⟩ : ∃ sj, sj = decide (k ≤ last.length ∧ sharedL last (last.take k ++ rest) = k) := ⟨_, rfl⟩
      rw [← hsj] at HSJ
      have HRE := Lib.hid hrest
      clear hrest
      cases sj with
      | false =>
        have hk := Lib.hid (show kE last l = 3 by
          have := of_decide_eq_false hsj.symm
          rw [hkE2.out, if_pos (by omega)])
        clear hsj
        go_enter Try.func51, Try.ntmps51
        go_wp2_with fail
        refine HCNT.out.mono ?_
        rintro e w1 ⟨rfl, h2, k2⟩
        have H2 := Lib.hid h2
        have K2 := Lib.hid (O0.out.trans k2)
        have K2a := Lib.hid k2
        have T1 := Lib.hid (T0.out.keep k2 HZ.out)
        clear h2 k2
        go_wp2_with fail
        refine (HTX.out w1 H2.out).mono ?_
        rintro e w2 ⟨rfl, h3, k3⟩
        have H3 := Lib.hid h3
        have K3 := Lib.hid (K2.out.trans k3)
        have T2 := Lib.hid (T1.out.keep k3 HZ.out)
        have V2 := Lib.hid ((V0.out.read R0.out K2a.out).read H2.out k3)
        obtain ⟨w3, hw3⟩ : ∃ w3, w2.alloc (.cells #[.int .i64 (k : Int), .string (bs rest), .string ⟨#[]⟩, .bool false] 64) = w3 := ⟨_, rfl⟩
        have B3 := Lib.hid (show Below w2.heap.size w2 w3 by rw [← hw3]; exact (Below.refl _ _).alloc (Nat.le_refl _) _)
        have T9 := Lib.hid (show BxT w2.heap.size ⟨k, rest, [], false⟩ w3 by rw [← hw3]; exact heap_new w2 _)
        have SJ := Lib.hid (HSJ.out w3 (V2.out.below B3.out))
        have Z2 := Lib.hid (show w.heap.size ≤ w2.heap.size from K3.out.size)
        have HW3 := Lib.hid hw3
        clear h3 k3 hw3
        go_wp2_with fail
        rw [HW3.out]
        refine SJ.out.mono ?_
        rintro e w4 ⟨rfl, k4⟩
        have B4 := Lib.hid (B3.out.trans (k4.mono B3.out.size))
        have H4 := Lib.hid (show Rt r (bs (l1.drop (tk l1))) w4 from (B4.out.block r (by have := HL.out; have := Z2.out; omega)).trans H3.out)
        have K4 := Lib.hid (show Only (fun k => k = r) w w4 from K3.out.trans ⟨B4.out.os, B4.out.tape, B4.out.output, B4.out.size, fun j hj _ => B4.out.block j hj⟩)
        have T4 := T2.out.below B4.out
        have T94 := T9.out.below k4
        clear k4
        have q0 := T4.c0
        have q1 := T4.c1
        have q2 := T4.c2
        have q3 := T4.c3
        have qf := T4.free
        have T5 := Lib.hid T4
        clear T4
        have g0 := T94.c0
        have g1 := T94.c1
        have g2 := T94.c2
        have g3 := T94.c3
        clear T94
        go_wp2_with fail
        refine bodyPost_ret (results_told rfl _ _ w.heap.size noTld _ rfl rfl (T5.out.put noTld)) rfl ?_
        exact key_no hk.out (by decide) H4.out K4.out T5.out rfl HL.out
      | true =>
        have hsj2 := of_decide_eq_true hsj.symm
        have hkl : k ≤ 65536 := by omega
        by_cases h6 : 65536 < k + rest.length
        · have hk := Lib.hid (show kE last l = 6 by rw [hkE2.out, if_neg (by omega), if_pos h6])
          have h6' : decide (65536 < k + rest.length) = true := decide_eq_true h6
          clear hsj2
          clear hsj
          go_enter Try.func51, Try.ntmps51
          go_wp2_with fail
          refine HCNT.out.mono ?_
          rintro e w1 ⟨rfl, h2, k2⟩
          have H2 := Lib.hid h2
          have K2 := Lib.hid (O0.out.trans k2)
          have K2a := Lib.hid k2
          have T1 := Lib.hid (T0.out.keep k2 HZ.out)
          clear h2 k2
          go_wp2_with fail
          refine (HTX.out w1 H2.out).mono ?_
          rintro e w2 ⟨rfl, h3, k3⟩
          have H3 := Lib.hid h3
          have K3 := Lib.hid (K2.out.trans k3)
          have T2 := Lib.hid (T1.out.keep k3 HZ.out)
          have V2 := Lib.hid ((V0.out.read R0.out K2a.out).read H2.out k3)
          obtain ⟨w3, hw3⟩ : ∃ w3, w2.alloc (.cells #[.int .i64 (k : Int), .string (bs rest), .string ⟨#[]⟩, .bool false] 64) = w3 := ⟨_, rfl⟩
          have B3 := Lib.hid (show Below w2.heap.size w2 w3 by rw [← hw3]; exact (Below.refl _ _).alloc (Nat.le_refl _) _)
          have T9 := Lib.hid (show BxT w2.heap.size ⟨k, rest, [], false⟩ w3 by rw [← hw3]; exact heap_new w2 _)
          have SJ := Lib.hid (HSJ.out w3 (V2.out.below B3.out))
          have Z2 := Lib.hid (show w.heap.size ≤ w2.heap.size from K3.out.size)
          have HW3 := Lib.hid hw3
          clear h3 k3 hw3
          go_wp2_with fail
          rw [HW3.out]
          refine SJ.out.mono ?_
          rintro e w4 ⟨rfl, k4⟩
          have B4 := Lib.hid (B3.out.trans (k4.mono B3.out.size))
          have H4 := Lib.hid (show Rt r (bs (l1.drop (tk l1))) w4 from (B4.out.block r (by have := HL.out; have := Z2.out; omega)).trans H3.out)
          have K4 := Lib.hid (show Only (fun k => k = r) w w4 from K3.out.trans ⟨B4.out.os, B4.out.tape, B4.out.output, B4.out.size, fun j hj _ => B4.out.block j hj⟩)
          have T4 := T2.out.below B4.out
          have T94 := T9.out.below k4
          clear k4
          have q0 := T4.c0
          have q1 := T4.c1
          have q2 := T4.c2
          have q3 := T4.c3
          have qf := T4.free
          have T5 := Lib.hid T4
          clear T4
          have g0 := T94.c0
          have g1 := T94.c1
          have g2 := T94.c2
          have g3 := T94.c3
          clear T94
          go_wp2_with fail
          refine bodyPost_ret (results_told rfl _ _ w.heap.size noTld _ rfl rfl (T5.out.put noTld)) rfl ?_
          exact key_no hk.out (by decide) H4.out K4.out T5.out rfl HL.out
        · have hk := Lib.hid (show kE last l = 0 by rw [hkE2.out, if_neg (by omega), if_neg h6])
          have h6' : decide (65536 < k + rest.length) = false := decide_eq_false h6
          clear hsj2
          clear hsj
          go_enter Try.func51, Try.ntmps51
          go_wp2_with fail
          refine HCNT.out.mono ?_
          rintro e w1 ⟨rfl, h2, k2⟩
          have H2 := Lib.hid h2
          have K2 := Lib.hid (O0.out.trans k2)
          have K2a := Lib.hid k2
          have T1 := Lib.hid (T0.out.keep k2 HZ.out)
          clear h2 k2
          go_wp2_with fail
          refine (HTX.out w1 H2.out).mono ?_
          rintro e w2 ⟨rfl, h3, k3⟩
          have H3 := Lib.hid h3
          have K3 := Lib.hid (K2.out.trans k3)
          have T2 := Lib.hid (T1.out.keep k3 HZ.out)
          have V2 := Lib.hid ((V0.out.read R0.out K2a.out).read H2.out k3)
          obtain ⟨w3, hw3⟩ : ∃ w3, w2.alloc (.cells #[.int .i64 (k : Int), .string (bs rest), .string ⟨#[]⟩, .bool false] 64) = w3 := ⟨_, rfl⟩
          have B3 := Lib.hid (show Below w2.heap.size w2 w3 by rw [← hw3]; exact (Below.refl _ _).alloc (Nat.le_refl _) _)
          have T9 := Lib.hid (show BxT w2.heap.size ⟨k, rest, [], false⟩ w3 by rw [← hw3]; exact heap_new w2 _)
          have SJ := Lib.hid (HSJ.out w3 (V2.out.below B3.out))
          have Z2 := Lib.hid (show w.heap.size ≤ w2.heap.size from K3.out.size)
          have HW3 := Lib.hid hw3
          clear h3 k3 hw3
          go_wp2_with fail
          rw [HW3.out]
          refine SJ.out.mono ?_
          rintro e w4 ⟨rfl, k4⟩
          have B4 := Lib.hid (B3.out.trans (k4.mono B3.out.size))
          have H4 := Lib.hid (show Rt r (bs (l1.drop (tk l1))) w4 from (B4.out.block r (by have := HL.out; have := Z2.out; omega)).trans H3.out)
          have K4 := Lib.hid (show Only (fun k => k = r) w w4 from K3.out.trans ⟨B4.out.os, B4.out.tape, B4.out.output, B4.out.size, fun j hj _ => B4.out.block j hj⟩)
          have T4 := T2.out.below B4.out
          have T94 := T9.out.below k4
          clear k4
          have q0 := T4.c0
          have q1 := T4.c1
          have q2 := T4.c2
          have q3 := T4.c3
          have qf := T4.free
          have T5 := Lib.hid T4
          clear T4
          have g0 := T94.c0
          have g1 := T94.c1
          have g2 := T94.c2
          have g3 := T94.c3
          clear T94
          go_wp2_with fail
          refine bodyPost_ret (results_told rfl _ _ w.heap.size ⟨k, rest, [], false⟩ _ rfl rfl (T5.out.put ⟨k, rest, [], false⟩)) rfl ?_
          exact key_yes hk.out H4.out K4.out rfl HL.out (hfin.out _ _ rfl rfl)
end Go.Proofs.Ytmmdhmhcfpghfaa
