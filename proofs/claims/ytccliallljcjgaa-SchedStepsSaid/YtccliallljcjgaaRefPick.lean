/- A pick: the document's answer. -/
import Derived.Test.YtccliallljcjgaaSchedStep
import Derived.Test.YtccliallljcjgaaGo5
set_option linter.unusedVariables false
namespace Go.Proofs.Ytccliallljcjgaa
open Go.RowKit

theorem ready_has {p : PW} {i : Nat} (h : p.ready i = true) : (p.ts.getD i default).at_ < (p.ts.getD i default).l.length := by
  unfold PW.ready at h
  generalize p.ts.getD i default = q at h
  simp only at h
  split at h
  · cases h
  · next hn =>
    have : ¬ q.l.length ≤ q.at_ := fun e => hn (.inr e)
    omega

theorem OwnN.kept' {w w' : World} {B : Nat} {v : Value} {l : List Nat} (h : OwnN B v l w) (k : Below w.heap.size w w') : OwnN B v l w' := by
  obtain ⟨h1, ⟨rfl, h0⟩ | ⟨g, cap, cur, rfl, hB, hg, h2⟩⟩ := h
  · exact ⟨h1, .inl ⟨rfl, h0⟩⟩
  · exact ⟨h1, .inr ⟨g, cap, cur, rfl, hB, (k.block g (heap_lt hg)).trans hg, h2⟩⟩
set_option maxHeartbeats 2000000 in
set_option maxRecDepth 100000 in
theorem ref_Pick {B : Nat} {S : Nat → Prop} {w : World} {q : At5} {p : PW} (h : Lay5 B S w q p) (hS : ∀ j, S j → j < w.heap.size) (n : Int) (hs : p.steps < 4611686018427387904) :
    Calls Try.prog 13 #[.pointer (some ⟨q.m, 0, none⟩), .int .i64 n] w fun e w' => e = .returned (.int .i64 (p.pick n).2) ∧ Lay5 B S w' q (p.pick n).1 ∧ Only S w w' := by
  obtain ⟨i0, hi, hz0, hz1, hz2⟩ := info_parts info3
  have H := Lib.hid h
  have H8 := Lib.hid h.few
  have HSS := Lib.hid hS
  have HST := Lib.hid hs
  obtain ⟨N, hN⟩ : ∃ N, N = p.ts.length := ⟨_, rfl⟩
  have HN := Lib.hid hN
  obtain ⟨r, hr⟩ : ∃ r, r = p.pick n := ⟨_, rfl⟩
  rw [← hr]
  have HR := Lib.hid hr
  clear h hS hs hN hr
  go_enter Try.func13, Try.ntmps13
  go_wp2_with fail
  go_loopw [5, 6] (fun v is wr => ∃ j : Nat, j ≤ N ∧ is = .int .i64 (j : Int) ∧ OwnN w.heap.size v (readyL p.ready j) wr ∧ Below w.heap.size w wr) (fun v is wr => N - (intOf is).toNat)
  case atStart => exact ⟨0, Nat.zero_le _, rfl, World.ownsRow_nil _ _ _ _, Below.refl _ _⟩
  case round =>
    obtain ⟨j, hj, rfl, hown, hbw⟩ := hrel
    have HO := Lib.hid hown
    have HB := Lib.hid hbw
    have LR := H.out.below hbw
    have m0 : wr.cell? ⟨q.m, 0, none⟩ = some (.slice (some ⟨q.T, 0, none⟩) p.ts.length q.cap) := LR.cell 0
    rw [← HN.out] at m0
    have hj8 : j ≤ 8 := by have := H8.out; have := HN.out; omega
    have HRL := Lib.hid (readyL_len p.ready j)
    have HNX := Lib.hid (readyL_next p.ready j)
    clear hown hbw
    by_cases hlt : j < N
    · have hrd := ref_Ready LR j (by rw [← HN.out]; exact hlt)
      have hlt' : (j : Int) < (N : Int) := by omega
      clear LR
      cases hrj : p.ready j with
      | false =>
        rw [hrj] at hrd
        have HRJ := Lib.hid hrj
        clear hrj
        go_wp2_with fail
        refine hrd.mono ?_
        rintro e w1 ⟨rfl, hb1⟩
        have HB1 := Lib.hid hb1
        clear hb1 hrd m0
        go_wp2_with fail
        go_roundw
        case rel => exact ⟨j + 1, by omega, by go_num, by rw [HNX.out, if_neg (by rw [HRJ.out]; decide)]; exact HO.out.kept' HB1.out, HB.out.trans (HB1.out.mono HB.out.size)⟩
        case measure => simp [intOf]; omega
      | true =>
        rw [hrj] at hrd
        have HRJ := Lib.hid hrj
        clear hrj
        go_wp2_with fail
        refine hrd.mono ?_
        rintro e w1 ⟨rfl, hb1⟩
        have HO1 := Lib.hid (HO.out.kept' hb1)
        have HB1 := Lib.hid (HB.out.trans (hb1.mono HB.out.size))
        clear hb1 hrd m0
        go_wp2_with (at_builtin; refine wpList_append_own _ rfl _ _ 23 rfl w.heap.size 3 i0 (.int .i64 0) 1 8 Try.underlying23 hi hz0 hz1 hz2 rfl (by decide) _ _ _ rfl (HO1.out.alloc _) ⟨w1.heap.size, 0, none⟩ 1 1 [.int .i64 (j : Int)] rfl rfl ?c1 ?c2 ?c3 ?c4 ?c5 ?_)
        case c1 => exact cell_one_new _ _ _
        case c2 => intro u hu; simp at hu; subst hu; rfl
        case c3 => unfold maxLen; have := HRL.out; omega
        case c4 => have := HRL.out; omega
        case c5 => have := HB1.out.size; simp; omega
        intro v' w3 hown' hgrow _
        have HO3 := Lib.hid hown'
        have HB3 := Lib.hid (show Below w.heap.size w w3 from (HB1.out.alloc HB1.out.size _).grown hgrow (by have := HB1.out.size; simp; omega) (fun q hq => (HO1.out.lt q hq).1))
        clear hown' hgrow
        go_wp2_with fail
        go_roundw
        case rel => exact ⟨j + 1, by omega, by go_num, by rw [HNX.out, if_pos HRJ.out]; unfold OwnN; rw [List.length_append, List.map_append]; exact HO3.out, HB3.out⟩
        case measure => simp [intOf]; omega
    · obtain rfl : j = N := by omega
      have hrr := HR.out
      unfold PW.pick at hrr
      rw [all_is, ← HN.out] at hrr
      clear hlt hj
      by_cases h0 : (readyL p.ready j).length = 0
      · simp only [if_pos h0] at hrr
        have hnil := List.eq_nil_of_length_eq_zero h0
        have HO0 := HO.out
        rw [hnil] at HO0
        obtain ⟨a, cap, rfl⟩ := HO0.nil
        have HE := Lib.hid (show r.2 = -1 ∧ Lay5 B S wr q r.1 ∧ Only S w wr by rw [hrr]; exact ⟨rfl, LR, only_below HB.out⟩)
        clear HO0 hnil h0 hrr LR HO
        go_wp2_with fail
        go_ret
        exact ⟨by rw [HE.out.1]; rfl, HE.out.2⟩
      · simp only [if_neg h0] at hrr
        obtain ⟨l, hl⟩ : ∃ l, l = readyL p.ready j := ⟨_, rfl⟩
        rw [← hl] at hrr h0
        have HO0 := HO.out
        rw [← hl] at HO0
        have hmemL : ∀ i ∈ l, i < p.ts.length ∧ p.ready i = true := fun i hi => by rw [hl] at hi; have := readyL_lt hi; rw [← HN.out]; exact this
        have hL8 : l.length ≤ 8 := by rw [hl]; have := HRL.out; omega
        obtain ⟨g, cap, rfl, hg1, hg2, hcl⟩ := HO0.form (by omega)
        obtain ⟨L, hL⟩ : ∃ L, L = l.length := ⟨_, rfl⟩
        rw [← hL] at h0 hrr hL8
        obtain ⟨k, hk⟩ : ∃ k, k = place n L := ⟨_, rfl⟩
        have hL0 : 0 < L := by omega
        have hkL : k < L := by
          rw [hk]; unfold place
          have := Int.emod_lt_of_pos n (show (0 : Int) < (L : Int) by omega)
          have := Int.emod_nonneg n (show (L : Int) ≠ 0 by omega)
          omega
        rw [← hk] at hrr
        have hkl : k < l.length := by omega
        have hgd : l.getD k 0 = l[k] := by rw [List.getD_eq_getElem?_getD, List.getElem?_eq_getElem hkl]; rfl
        obtain ⟨i, hii⟩ : ∃ i, i = l[k] := ⟨_, rfl⟩
        have ck := hcl k hkl
        rw [hgd, ← hii] at hrr
        rw [← hii] at ck
        have him := hmemL i (by rw [hii]; exact List.getElem_mem hkl)
        have hst := ref_Step LR i him.1 (ready_has him.2) HST.out
        have hb0 : ((L : Int) == 0) = false := by simp; omega
        have hkI : (k : Int) < (L : Int) := by omega
        obtain ⟨d, hd⟩ : ∃ d, d = n.tmod (L : Int) := ⟨_, rfl⟩
        have hdn : n.tmod (L : Int) = d := hd.symm
        have hLne : (L : Int) ≠ 0 := by omega
        have hdb : -(L : Int) < d ∧ d < L := by
          rw [hd]
          have e1 := Int.emod_nonneg n hLne
          have e2 := Int.emod_lt_of_pos n (show (0 : Int) < (L : Int) by omega)
          rw [Int.tmod_eq_emod]
          split <;> omega
        have hmod : (d + (L : Int)).tmod (L : Int) = (k : Int) := by
          have e1 := Int.emod_nonneg n hLne
          have e2 := Int.emod_lt_of_pos n (show (0 : Int) < (L : Int) by omega)
          have hkk : (k : Int) = n % (L : Int) := by rw [hk]; unfold place; omega
          rw [Int.tmod_eq_emod_of_nonneg (by omega), Int.add_emod_right, hd, hkk, Int.tmod_eq_emod]
          split
          · simp
          · rw [show n % (L : Int) - ((L : Int).natAbs : Int) = n % (L : Int) + (L : Int) * (-1) by omega, Int.add_mul_emod_self_left, Int.emod_emod_of_dvd _ (Int.dvd_refl _)]
        have hw : IntKind.i64.wrap (d + (L : Int)) = d + (L : Int) := by rw [IntKind.wrap_i64]; omega
        have hw' : wrap64 (d + (L : Int)) = d + (L : Int) := by rw [wrap_64]; exact hw
        have HE := Lib.hid (show ∀ w', Lay5 B S w' q (p.step i) → Only S wr w' → r.2 = (i : Int) ∧ Lay5 B S w' q r.1 ∧ Only S w w' from fun w' hl ho => by rw [hrr]; exact ⟨rfl, hl, (only_below HB.out).trans ho⟩)
        rw [← hL]
        clear HO0 HO hl hrr LR hmemL hcl hgd hii him hk hd hkl hL hg1 hg2 h0 hL8 hdb hLne
        go_wp2_with fail
        refine hst.mono ?_
        rintro e w' ⟨rfl, hl', ho'⟩
        have HF := Lib.hid (HE.out w' hl' ho')
        clear hl' ho' hst ck
        go_wp2_with fail
        go_ret
        exact ⟨by rw [HF.out.1]; rfl, HF.out.2⟩
end Go.Proofs.Ytccliallljcjgaa
