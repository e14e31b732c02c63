/- Texts for layer 9, put together: TableFootIn, TableOpen, TableAwake -/
import Derived.Test.YteejldddgogbkaaDoorTSca14
import Derived.Test.YteejldddgogbkaaDoorTSca20
import Derived.Test.YteejldddgogbkaaDoorTSca16
import Derived.Test.YteejldddgogbkaaDoorTSca17
/- The foot, read; a table's filter, read. -/
set_option linter.unusedVariables false
set_option maxRecDepth 100000
namespace Go.Proofs.YteejldddgogbkaaDoor
open Go.RowKit

set_option maxHeartbeats 4000000 in
theorem readFoot_yes (n F : Nat) (c : Array Value) (K : List (Nat × Obj)) (L : List UInt8) (w : World) (hs : Hid (Src F c K 0 L)) (hk : Hid (Keep K w)) (hn : n + 16 = L.length) (hl : L.length ≤ 100000000000) (hz : Hid (takeE (L.drop n) = 0)) :
    Calls Tryd.prog 32 #[.int .i64 (n : Int), srcV F c] w fun e w' => e = .returned (.tuple #[fv3 (num4 (takeT (L.drop n))) (num4 ((takeT (L.drop n)).drop 4)) (num4 ((takeT (L.drop n)).drop 8)), .int .i64 0]) ∧ Below w.heap.size w w' := by
  obtain ⟨w1, hw1⟩ : ∃ w1, w1 = w.alloc (.cells #[.int .i64 0, .int .i64 0, .int .i64 0] 59) := ⟨_, rfl⟩
  have K1 := Lib.hid (show Below w.heap.size w w1 by rw [hw1]; exact (Below.refl _ _).alloc (Nat.le_refl _) _)
  have C1 := Lib.hid (show C3 w.heap.size 59 (.int .i64 0) (.int .i64 0) (.int .i64 0) w1 by rw [hw1]; exact heap_new w _)
  have hC := hs.out.calls w1 (hk.out.below K1.out) n 16 (by omega)
  have eF := hs.out.enters
  have HW1 := Lib.hid hw1
  unfold Enters at eF
  unfold srcV fv3
  rw [if_pos rfl] at hC
  obtain ⟨s, hs'⟩ : ∃ s, s = (L.drop n).take 16 := ⟨_, rfl⟩
  have hse : s = L.drop n := by rw [hs']; exact List.take_of_length_le (by rw [List.length_drop]; omega)
  have hsl : s.length = 16 := by rw [hse, List.length_drop]; omega
  rw [← hs'] at hC
  have htk2 := fun W => crc_Take (bs s) W (by rw [bs_size, hsl]; omega)
  simp only [bs_list] at htk2
  have htk := hz.out
  rw [← hse] at htk ⊢
  rw [htk] at htk2
  obtain ⟨l, hlt⟩ : ∃ l, l = takeT s := ⟨_, rfl⟩
  have hl12 : l.length = 12 := by rw [hlt]; exact takeT_twelve hsl htk
  rw [← hlt] at htk2 ⊢
  have HT := Lib.hid htk2
  have z12 : (bs l).size = 12 := by rw [bs_size, hl12]
  have x1 : (bs l).extract 0 4 = bs (l.take 4) := (take_split (n := 4) (by omega)).1
  have x2 : (bs l).extract 4 8 = bs ((l.drop 4).take 4) := bs_eq (by rw [Lib.extract_data, bs_list])
  have x3 : (bs l).extract 8 12 = bs (l.drop 8) := by have := (take_split (s := bs l) (n := 8) (by omega)).2; rw [z12] at this; exact this
  have HN1 := Lib.hid (fun (W : World) (m : Seen W) => by have h := seen_of (table_number (l.take 4) · (by rw [List.length_take]; omega)) W m; rw [num4_take] at h; exact h)
  have HN2 := Lib.hid (fun (W : World) (m : Seen W) => by have h := seen_of (table_number ((l.drop 4).take 4) · (by rw [List.length_take, List.length_drop]; omega)) W m; rw [num4_take] at h; exact h)
  have HN3 := Lib.hid (fun (W : World) (m : Seen W) => seen_of (table_number (l.drop 8) · (by rw [List.length_drop]; omega)) W m)
  obtain ⟨A, hA⟩ : ∃ A, A = num4 l := ⟨_, rfl⟩
  obtain ⟨B, hB⟩ : ∃ B, B = num4 (l.drop 4) := ⟨_, rfl⟩
  obtain ⟨D, hD⟩ : ∃ D, D = num4 (l.drop 8) := ⟨_, rfl⟩
  rw [← hA] at HN1 ⊢
  rw [← hB] at HN2 ⊢
  rw [← hD] at HN3 ⊢
  clear hw1 hs' hse hsl htk htk2 hlt hl12 hA hB hD
  go_enter Tryd.func32, Tryd.ntmps32
  go_upto_region 1 with (fail)
  rw [← HW1.out]
  go_wp2_with fail
  refine hC.mono ?_
  rintro e w2 ⟨rfl, k2⟩
  have C2 := Lib.hid (C1.out.below k2)
  have K2 := Lib.hid (K1.out.trans (k2.mono K1.out.size))
  clear k2 hC eF
  go_wp2_with fail
  refine (HT.out w2).mono ?_
  rintro e w3 ⟨rfl, k3⟩
  have C3' := Lib.hid (C2.out.below k3)
  have K3 := Lib.hid (K2.out.trans (k3.mono K2.out.size))
  clear k3
  go_upto_region 11 with (fail)
  refine wp_region_seen_tail 10 (by kernel_rfl) (by kernel_rfl) ?_
  simp only [List.take_succ_cons, List.take_zero, List.drop_succ_cons, List.drop_zero]
  try go_frame
  repeat go_big_quiet_step (first | (go_at_call 54; first | (with_reducible exact HN1.out _ _) | (with_reducible exact HN2.out _ _) | (with_reducible exact HN3.out _ _)))
  refine wpQuiet_nil ?_
  rintro _ ⟨m1, rfl⟩
  have c4 := C3'.out.below m1.below
  have q0 := c4.c0
  have q1 := c4.c1
  have q2 := c4.c2
  have qf := c4.free
  have C4 := Lib.hid c4
  have K4 := Lib.hid (K3.out.trans (m1.below.mono K3.out.size))
  clear c4
  go_wp2_with fail
  refine bodyPost_ret (results_c3 rfl _ _ w.heap.size _ _ _ _ _ rfl rfl (C4.out.put _ _ _) Tryd.underlying59 rfl sizeFoot) rfl ?_
  exact ⟨rfl, below_put3' K4.out (Nat.le_refl _) _ _ _⟩
/-- What reading the filter leaves. -/
structure FilPost (x : List UInt8) (w : World) (e : Ending) (w' : World) : Prop where
  out : (takeE x ≠ 0 ∧ e = .returned (.tuple #[.pointer none, .int .i64 (takeE x)])) ∨ (takeE x = 0 ∧ openE (takeT x) ≠ 0 ∧ e = .returned (.tuple #[.pointer none, .int .i64 (openE (takeT x))])) ∨
    (takeE x = 0 ∧ openE (takeT x) = 0 ∧ ∃ b g, e = .returned (.tuple #[.pointer (some ⟨b, 0, none⟩), .int .i64 0]) ∧ Flt b g (openH (takeT x)) (openT (takeT x)) w')
  bel : Below w.heap.size w w'
set_option maxHeartbeats 2000000 in
theorem table_readFilter (n k F : Nat) (c : Array Value) (K : List (Nat × Obj)) (L : List UInt8) (w : World) (hs : Hid (Src F c K 0 L)) (hk : Hid (Keep K w)) (hn : n + k ≤ L.length) (hl : L.length ≤ 100000000000) :
    Calls Tryd.prog 34 #[.int .i64 (n : Int), .int .i64 (k : Int), srcV F c] w (FilPost ((L.drop n).take k) w) := by
  have hC := hs.out.calls w hk.out n k hn
  have eF := hs.out.enters
  unfold Enters at eF
  unfold srcV
  rw [if_pos rfl] at hC
  obtain ⟨s, hs'⟩ : ∃ s, s = (L.drop n).take k := ⟨_, rfl⟩
  have hsl : s.length ≤ 100000000000 := by rw [hs', List.length_take, List.length_drop]; omega
  rw [← hs'] at hC ⊢
  have htk2 := fun W => crc_Take (bs s) W (by rw [bs_size]; omega)
  simp only [bs_list] at htk2
  have hop := fun W => flt_Open (bs (takeT s)) W (by rw [bs_size]; have := takeT_len s; unfold maxLen; omega)
  simp only [bs_list] at hop
  have HOP := Lib.hid hop
  clear hs' hop
  by_cases h1 : takeE s = 0
  · have H1 := Lib.hid h1
    rw [h1] at htk2
    have HT := Lib.hid htk2
    clear h1 htk2
    go_enter Tryd.func34, Tryd.ntmps34
    go_wp2_with fail
    refine hC.mono ?_
    rintro e w2 ⟨rfl, k2⟩
    have K2 := Lib.hid k2
    clear k2 hC eF
    go_wp2_with fail
    refine (HT.out w2).mono ?_
    rintro e w3 ⟨rfl, k3⟩
    have K3 := Lib.hid (K2.out.trans (k3.mono K2.out.size))
    clear k3
    go_wp2_with fail
    refine (HOP.out w3).mono ?_
    rintro e w4 ⟨k4, ⟨hne, rfl⟩ | ⟨heq, b, g, _, _, rfl, hf⟩⟩
    · have K4 := Lib.hid (K3.out.trans (k4.mono K3.out.size))
      have HNE := Lib.hid hne
      clear k4 hne
      go_wp2_with fail
      go_ret2
      exact ⟨.inr (.inl ⟨H1.out, HNE.out, rfl⟩), K4.out⟩
    · have K4 := Lib.hid (K3.out.trans (k4.mono K3.out.size))
      have HEQ := Lib.hid heq
      have HF := Lib.hid hf
      clear k4 heq hf
      go_wp2_with fail
      go_ret2
      exact ⟨.inr (.inr ⟨H1.out, HEQ.out, b, g, rfl, HF.out⟩), K4.out⟩
  · have H1 := Lib.hid h1
    have hz0 : (takeE s == 0) = false := beq_eq_false_iff_ne.2 h1
    obtain ⟨z, hz⟩ : ∃ z, z = takeE s := ⟨_, rfl⟩
    rw [← hz] at htk2 hz0
    have HT := Lib.hid htk2
    have HZ := Lib.hid hz
    clear h1 htk2 hz
    go_enter Tryd.func34, Tryd.ntmps34
    go_wp2_with fail
    refine hC.mono ?_
    rintro e w2 ⟨rfl, k2⟩
    have K2 := Lib.hid k2
    clear k2 hC eF
    go_wp2_with fail
    refine (HT.out w2).mono ?_
    rintro e w3 ⟨rfl, k3⟩
    have K3 := Lib.hid (K2.out.trans (k3.mono K2.out.size))
    clear k3
    go_wp2_with fail
    go_ret2
    exact ⟨.inl ⟨H1.out, by rw [← HZ.out]; rfl⟩, K3.out⟩
end Go.Proofs.YteejldddgogbkaaDoor
/- The program's Open. -/
set_option linter.unusedVariables false
set_option maxRecDepth 100000
namespace Go.Proofs.YteejldddgogbkaaDoor
open Go.RowKit

structure TabPost (L : List UInt8) (F : Nat) (c : Array Value) (w : World) (e : Ending) (w' : World) : Prop where
  out : ((openTab L).1 ≠ 0 ∧ e = .returned (.tuple #[.pointer none, .int .i64 (openTab L).1])) ∨
    ((openTab L).1 = 0 ∧ ∃ p, w.heap.size ≤ p ∧ e = .returned (.tuple #[.pointer (some ⟨p, 0, none⟩), .int .i64 0]) ∧ TabM p (srcV F c) 0 (openTab L).2 w')
  bel : Below w.heap.size w w'
theorem TabPost.bad {L : List UInt8} {F : Nat} {c : Array Value} {w w' : World} {z : Int} (h : openTab L = (z, noTab)) (hz : z ≠ 0) (hb : Below w.heap.size w w') : TabPost L F c w (.returned (.tuple #[.pointer none, .int .i64 z])) w' :=
  ⟨.inl ⟨by rw [h]; exact hz, by rw [h]⟩, hb⟩
theorem fn_nil9 (F : Nat) (c : Array Value) (w : World) : (binOp .eql 34 (.func (.func F) #[] c) .nilFunc).run Tryd.prog w = .ok (.bool false) w := by kernel_rfl
set_option maxHeartbeats 2000000 in
theorem open_short (size : Int) (F : Nat) (c : Array Value) (w : World) (h0 : 0 ≤ size) (h : size < 16) :
    Calls Tryd.prog 11 #[.int .i64 size, srcV F c] w fun e w' => e = .returned (.tuple #[.pointer none, .int .i64 2]) ∧ Below w.heap.size w w' := by
  have hf := fn_nil9 F c
  unfold srcV
  go_enter Tryd.func11, Tryd.ntmps11
  go_wp2_with fail
  go_ret2
  exact ⟨rfl, Below.refl _ _⟩
set_option maxHeartbeats 2000000 in
theorem open_neg (size : Int) (v : Value) (w : World) (h0 : size < 0) :
    Calls Tryd.prog 11 #[.int .i64 size, v] w fun e w' => e = .returned (.tuple #[.pointer none, .int .i64 1]) ∧ Below w.heap.size w w' := by
  go_enter Tryd.func11, Tryd.ntmps11
  go_wp2_with fail
  go_ret2
  exact ⟨rfl, Below.refl _ _⟩
set_option maxHeartbeats 2000000 in
theorem open_none (size : Int) (w : World) :
    Calls Tryd.prog 11 #[.int .i64 size, .nilFunc] w fun e w' => e = .returned (.tuple #[.pointer none, .int .i64 1]) ∧ Below w.heap.size w w' := by
  by_cases h : size < 0
  · exact open_neg size _ w h
  · have hf : ∀ w : World, (binOp .eql 34 .nilFunc .nilFunc).run Tryd.prog w = .ok (.bool true) w := fun w => by kernel_rfl
    go_enter Tryd.func11, Tryd.ntmps11
    go_wp2_with fail
    go_ret2
    exact ⟨rfl, Below.refl _ _⟩
set_option maxHeartbeats 2000000 in
/-- A source that refuses the foot, or bytes that are no foot. -/
theorem open_nofoot (n F : Nat) (c : Array Value) (K : List (Nat × Obj)) (d z : Int) (L : List UInt8) (w : World) (hs : Hid (Src F c K d L)) (hk : Hid (Keep K w)) (hn : n + 16 = L.length) (hl : L.length ≤ 9223372036854775807) (hz : Hid (d ≠ 0 ∧ z = d ∨ d = 0 ∧ takeE (L.drop n) = z ∧ z ≠ 0)) (hz0 : Hid (z ≠ 0)) :
    Calls Tryd.prog 11 #[.int .i64 ((n : Int) + 16), srcV F c] w fun e w' => e = .returned (.tuple #[.pointer none, .int .i64 z]) ∧ Below w.heap.size w w' := by
  have hf := fn_nil9 F c
  have hzb : (z == 0) = false := beq_eq_false_iff_ne.2 hz0.out
  have HR := Lib.hid (readFoot_no n F c K d z L w hs hk hn hl hz)
  unfold srcV fv3 at HR
  unfold srcV
  clear hs hk hz
  go_enter Tryd.func11, Tryd.ntmps11
  have e16 : (n : Int) + 16 - 16 = (n : Int) := by omega
  go_wp2_with fail
  refine HR.out.mono ?_
  rintro e w1 ⟨rfl, k1⟩
  have K1 := Lib.hid k1
  clear k1
  go_wp2_with fail
  go_ret2
  exact ⟨rfl, K1.out.alloc K1.out.size _⟩
theorem open_abs {α : Type} (t1 : Int) (p : Prop) [Decidable p] (o1 p1 : Int) (q : Prop) [Decidable q] (R : Int × α) (N : α) :
    (if t1 ≠ 0 then (t1, N) else if p then (3, N) else if o1 ≠ 0 then (o1, N) else if p1 ≠ 0 then (p1, N) else if q then (3, N) else R) = (if t1 ≠ 0 then (t1, N) else if p then (3, N) else if o1 ≠ 0 then (o1, N) else if (if p1 ≠ 0 then p1 else if q then 3 else 0) ≠ 0 then ((if p1 ≠ 0 then p1 else if q then 3 else 0), N) else R) := by
  by_cases h1 : t1 = 0 <;> by_cases h2 : p <;> by_cases h3 : o1 = 0 <;> by_cases h4 : p1 = 0 <;> by_cases h5 : q <;> simp [h1, h2, h3, h4, h5]
/-- Open in plain words, behind the foot. -/
theorem openTab_at {L : List UInt8} (n : Nat) (hn : n + 16 = L.length) : openTab L =
    if takeE (L.drop n) ≠ 0 then (takeE (L.drop n), noTab) else
    if num4 ((takeT (L.drop n)).drop 4) < num4 (takeT (L.drop n)) ∨ n < num4 ((takeT (L.drop n)).drop 4) then (3, noTab) else
    if (opnS ((L.take (num4 ((takeT (L.drop n)).drop 4))).drop (num4 (takeT (L.drop n))))).1 ≠ 0 then ((opnS ((L.take (num4 ((takeT (L.drop n)).drop 4))).drop (num4 (takeT (L.drop n))))).1, noTab) else
    if idxZ (opnS ((L.take (num4 ((takeT (L.drop n)).drop 4))).drop (num4 (takeT (L.drop n))))).2 (num4 (takeT (L.drop n))) (num4 ((takeT (L.drop n)).drop 8)) ≠ 0 then (idxZ (opnS ((L.take (num4 ((takeT (L.drop n)).drop 4))).drop (num4 (takeT (L.drop n))))).2 (num4 (takeT (L.drop n))) (num4 ((takeT (L.drop n)).drop 8)), noTab) else
    if takeE ((L.take n).drop (num4 ((takeT (L.drop n)).drop 4))) ≠ 0 then (takeE ((L.take n).drop (num4 ((takeT (L.drop n)).drop 4))), noTab) else
    if openE (takeT ((L.take n).drop (num4 ((takeT (L.drop n)).drop 4)))) ≠ 0 then (openE (takeT ((L.take n).drop (num4 ((takeT (L.drop n)).drop 4)))), noTab) else
    (0, ⟨L, (opnS ((L.take (num4 ((takeT (L.drop n)).drop 4))).drop (num4 (takeT (L.drop n))))).2, (placesL (num4 (takeT (L.drop n))) 0 (opnS ((L.take (num4 ((takeT (L.drop n)).drop 4))).drop (num4 (takeT (L.drop n))))).2).2, openH (takeT ((L.take n).drop (num4 ((takeT (L.drop n)).drop 4)))), openT (takeT ((L.take n).drop (num4 ((takeT (L.drop n)).drop 4)))), num4 ((takeT (L.drop n)).drop 8)⟩) := by
  have e : L.length - 16 = n := by omega
  unfold openTab idxZ
  simp only [e]
  rw [if_neg (show ¬ L.length < 16 by omega)]
  exact open_abs _ _ _ _ _ _ _
set_option maxHeartbeats 4000000 in
theorem table_Open (F : Nat) (c : Array Value) (K : List (Nat × Obj)) (L : List UInt8) (w : World) (hs : Hid (Src F c K 0 L)) (hk : Hid (Keep K w)) (hl : L.length ≤ 100000000000) :
    Calls Tryd.prog 11 #[.int .i64 (L.length : Int), srcV F c] w (TabPost L F c w) := by
  by_cases h16 : L.length < 16
  · have ho : openTab L = (2, noTab) := by unfold openTab; rw [if_pos h16]
    refine (open_short (L.length : Int) F c w (by omega) (by omega)).mono ?_
    rintro e w' ⟨rfl, hb⟩
    exact TabPost.bad ho (by decide) hb
  obtain ⟨n, hn⟩ : ∃ n, n + 16 = L.length := ⟨L.length - 16, by omega⟩
  have hO := openTab_at n hn
  have hni : (L.length : Int) = (n : Int) + 16 := by omega
  rw [hni]
  by_cases h0 : takeE (L.drop n) = 0
  · have hrf := readFoot_yes n F c K L w hs hk hn hl (Lib.hid h0)
    rw [if_neg (fun h => h h0)] at hO
    obtain ⟨f, hfd⟩ : ∃ f, f = takeT (L.drop n) := ⟨_, rfl⟩
    rw [← hfd] at hO hrf
    obtain ⟨a, ha⟩ : ∃ a, a = num4 f := ⟨_, rfl⟩
    obtain ⟨b, hb⟩ : ∃ b, b = num4 (f.drop 4) := ⟨_, rfl⟩
    obtain ⟨m, hm⟩ : ∃ m, m = num4 (f.drop 8) := ⟨_, rfl⟩
    have ha32 : a < 4294967296 := by rw [ha]; exact num4_lt _
    have hb32 : b < 4294967296 := by rw [hb]; exact num4_lt _
    have hm32 : m < 4294967296 := by rw [hm]; exact num4_lt _
    rw [← ha, ← hb, ← hm] at hO hrf
    have HRF := Lib.hid hrf
    have hf := fn_nil9 F c
    clear h0 hrf hfd ha hb hm
    unfold fv3 srcV at HRF
    have e16 : (n : Int) + 16 - 16 = (n : Int) := by omega
    obtain ⟨X, hX⟩ : ∃ X : Nat → Prop, X = fun k => True := ⟨_, rfl⟩
    by_cases h1 : b < a ∨ n < b
    · rw [if_pos h1] at hO
      have HO := Lib.hid hO
      clear hO hX
      by_cases h2 : b < a
      · unfold srcV
        go_enter Tryd.func11, Tryd.ntmps11
        go_wp2_with fail
        refine HRF.out.mono ?_
        rintro e w1 ⟨rfl, k1⟩
        have K1 := Lib.hid k1
        clear k1
        go_wp2_with fail
        go_ret2
        exact TabPost.bad HO.out (by decide) (K1.out.alloc K1.out.size _)
      · have h3 : n < b := by omega
        unfold srcV
        go_enter Tryd.func11, Tryd.ntmps11
        go_wp2_with fail
        refine HRF.out.mono ?_
        rintro e w1 ⟨rfl, k1⟩
        have K1 := Lib.hid k1
        clear k1
        go_wp2_with fail
        go_ret2
        exact TabPost.bad HO.out (by decide) (K1.out.alloc K1.out.size _)
    · rw [if_neg h1] at hO
      obtain ⟨h2, h3⟩ : a ≤ b ∧ b ≤ n := by omega
      obtain ⟨s, hsd⟩ : ∃ s, s = (L.take b).drop a := ⟨_, rfl⟩
      obtain ⟨x, hxd⟩ : ∃ x, x = (L.take n).drop b := ⟨_, rfl⟩
      have hxe : (L.drop b).take (n - b) = x := by rw [hxd, List.drop_take]
      have hri := fun W (hkW : Keep K W) => table_readIndex a b m F c K L W hs (Lib.hid hkW) h2 (by omega) hl hm32
      have hrl := fun W (hkW : Keep K W) => table_readFilter b (n - b) F c K L W hs (Lib.hid hkW) (by omega) hl
      simp only [hxe] at hrl
      simp only [← hsd] at hri
      rw [← hsd, ← hxd] at hO
      have HRI := Lib.hid hri
      have HRL := Lib.hid hrl
      have HO := Lib.hid hO
      have hsub : IntKind.i64.wrap ((n : Int) - (b : Int)) = ((n - b : Nat) : Int) := by rw [IntWalk.i64_in _ (by omega)]; omega
      have hsub2 : (n : Int) - (b : Int) = ((n - b : Nat) : Int) := by omega
      unfold fv3 srcV at HRI
      unfold srcV at HRL
      clear hO h1 hsd hxd hxe hri hrl hX
      unfold srcV
      go_enter Tryd.func11, Tryd.ntmps11
      go_wp2_with fail
      refine HRF.out.mono ?_
      rintro e w1 ⟨rfl, k1⟩
      have K1 := Lib.hid k1
      obtain ⟨Z, hZ⟩ : ∃ Z, Z = w1.heap.size := ⟨_, rfl⟩
      obtain ⟨w2, hw2⟩ : ∃ w2, w2 = w1.alloc (.cells #[.int .i64 (a : Int), .int .i64 (b : Int), .int .i64 (m : Int)] 59) := ⟨_, rfl⟩
      have K2 := Lib.hid (show Below w.heap.size w w2 by rw [hw2]; exact K1.out.alloc K1.out.size _)
      have C2 := Lib.hid (show C3 Z 59 (.int .i64 (a : Int)) (.int .i64 (b : Int)) (.int .i64 (m : Int)) w2 by rw [hw2, hZ]; exact heap_new w1 _)
      have c0 := C2.out.c0
      have c1 := C2.out.c1
      have c2 := C2.out.c2
      have HW2 := Lib.hid hw2
      have HZ := Lib.hid hZ
      clear k1 hw2 hZ
      go_upto_region 7 with (fail)
      rw [← HZ.out, ← HW2.out]
      go_wp2_with fail
      refine (HRI.out w2 (hk.out.below K2.out)).mono ?_
      clear c0 c1 c2
      rintro e w3 ⟨hcase, k3⟩
      have K3 := Lib.hid (K2.out.trans (k3.mono K2.out.size))
      have C3' := Lib.hid (C2.out.below k3)
      have c1 := C3'.out.c1
      have c2 := C3'.out.c2
      clear k3
      rcases hcase with ⟨h4, rfl⟩ | ⟨h4, h5, rfl⟩ | ⟨h4, h5, G, rfl, hG⟩
      · have hO := HO.out
        rw [if_pos h4] at hO
        obtain ⟨z, hz⟩ : ∃ z, z = (opnS s).1 := ⟨_, rfl⟩
        rw [← hz] at hO h4 ⊢
        have hzb : (z == 0) = false := beq_eq_false_iff_ne.2 h4
        have HO2 := Lib.hid hO
        have H4 := Lib.hid h4
        clear hO h4 hz
        go_wp2_with fail
        go_ret2
        exact TabPost.bad HO2.out H4.out K3.out
      · have hO := HO.out
        rw [if_neg (fun h => h h4), if_pos h5] at hO
        obtain ⟨z, hz⟩ : ∃ z, z = idxZ (opnS s).2 a m := ⟨_, rfl⟩
        rw [← hz] at hO h5 ⊢
        have hzb : (z == 0) = false := beq_eq_false_iff_ne.2 h5
        have HO2 := Lib.hid hO
        have H4 := Lib.hid h5
        clear hO h4 h5 hz
        go_wp2_with fail
        go_ret2
        exact TabPost.bad HO2.out H4.out K3.out
      · have hO := HO.out
        rw [if_neg (fun h => h h4), if_neg (fun h => h h5)] at hO
        have HO2 := Lib.hid hO
        have HG := Lib.hid hG
        obtain ⟨Xl, hXl⟩ : ∃ Xl, Xl = (opnS s).2.length := ⟨_, rfl⟩
        rw [← hXl] at HG ⊢
        have HXl := Lib.hid hXl
        clear hO h4 h5 hG hXl
        go_wp2_with fail
        refine (HRL.out w3 (hk.out.below K3.out)).mono ?_
        rintro e w4 ⟨hcase, k4⟩
        have K4 := Lib.hid (K3.out.trans (k4.mono K3.out.size))
        have C4 := Lib.hid (C3'.out.below k4)
        have HG4 := Lib.hid (HG.out.keep k4)
        clear c1 c2 k4
        have c2 := C4.out.c2
        rcases hcase with ⟨h6, rfl⟩ | ⟨h6, h7, rfl⟩ | ⟨h6, h7, fb, fg, rfl, hfl⟩
        · have hO := HO2.out
          rw [if_pos h6] at hO
          obtain ⟨z, hz⟩ : ∃ z, z = takeE x := ⟨_, rfl⟩
          rw [← hz] at hO h6 ⊢
          have hzb : (z == 0) = false := beq_eq_false_iff_ne.2 h6
          have HO3 := Lib.hid hO
          have H6 := Lib.hid h6
          clear hO h6 hz
          go_wp2_with fail
          go_ret2
          exact TabPost.bad HO3.out H6.out K4.out
        · have hO := HO2.out
          rw [if_neg (fun h => h h6), if_pos h7] at hO
          obtain ⟨z, hz⟩ : ∃ z, z = openE (takeT x) := ⟨_, rfl⟩
          rw [← hz] at hO h7 ⊢
          have hzb : (z == 0) = false := beq_eq_false_iff_ne.2 h7
          have HO3 := Lib.hid hO
          have H6 := Lib.hid h7
          clear hO h6 h7 hz
          go_wp2_with fail
          go_ret2
          exact TabPost.bad HO3.out H6.out K4.out
        · have hO := HO2.out
          rw [if_neg (fun h => h h6), if_neg (fun h => h h7)] at hO
          have HO3 := Lib.hid hO
          have HFL := Lib.hid hfl
          clear hO h6 h7 hfl
          go_wp2_with fail
          go_ret2
          have hfine := (open_fine (s := L) (t := (openTab L).2) (by rw [HO3.out])).1
          refine ⟨.inr ⟨by rw [HO3.out], w4.heap.size, K4.out.size, rfl, ?_⟩, K4.out.alloc K4.out.size _⟩
          have kA := (Below.refl w4.heap.size w4).alloc (Nat.le_refl _) (.cells #[srcV F c, .slice (some ⟨G, 0, none⟩) Xl Xl, .pointer (some ⟨fb, 0, none⟩), .int .i64 (m : Int), .int .i64 0] 78)
          have hPl := piecesOf_len hfine
          rw [HO3.out] at hPl ⊢
          refine ⟨some ⟨G, 0, none⟩, Xl, fb, fg, ?_, ?_, ?_, HFL.out.lt, HFL.out.row.1⟩
          · rw [← HXl.out]; exact heap_new w4 _
          · have h8 := HG4.out
            have h9 : FillP G Xl (pcsOf (opnS s).2 (placesL a 0 (opnS s).2).2) w4 := h8
            have h10 : (pcsOf (opnS s).2 (placesL a 0 (opnS s).2).2).length = Xl := by rw [HXl.out]; exact hPl
            rw [← h10] at h9
            have h11 := h9.full (p := w4.heap.size) (by obtain ⟨cur, h, _⟩ := h9; exact heap_lt h)
            rw [h10] at h11
            rw [← HXl.out]
            exact h11.keep fun j hj hj2 => kA.block j hj2
          · exact HFL.out.below kA
  · have ho : openTab L = (takeE (L.drop n), noTab) := by rw [hO, if_pos h0]
    refine (open_nofoot n F c K 0 (takeE (L.drop n)) L w hs hk hn (by omega) (Lib.hid (.inr ⟨rfl, rfl, h0⟩)) (Lib.hid h0)).mono ?_
    rintro e w' ⟨rfl, hb⟩
    exact TabPost.bad ho h0 hb
end Go.Proofs.YteejldddgogbkaaDoor
/- The laws' own look: a table of three entries. -/
set_option linter.unusedVariables false
set_option maxRecDepth 100000
namespace Go.Proofs.YteejldddgogbkaaDoor
open Go.RowKit

def T3 : List Ent := [⟨[97], [49], false⟩, ⟨[98], [], true⟩, ⟨[99], [51], false⟩]
theorem t3_ok : chkE T3 = 0 := by kernel_rfl
theorem t3_build : buildE' 2 10 T3 = 0 := by kernel_rfl
theorem t3_small : smallE T3 := smallE_of ((chkE_ok T3).1 t3_ok).1
theorem t3_keys : (chunks 2 T3).map keyE = [[97], [99]] := by kernel_rfl
theorem t3_from : fromE [98] T3 = [⟨[98], [], true⟩, ⟨[99], [51], false⟩] := by kernel_rfl
theorem t3_find : T3.find? (isKey [98]) = some ⟨[98], [], true⟩ := by kernel_rfl
/-- What Open answers of a table that was built, over a source of its bytes. -/
theorem open_built {each : Nat} {T : List Ent} {t : Tab} {S : List UInt8} (hb : Built each T t S) (F : Nat) (c : Array Value) (K : List (Nat × Obj)) (w : World) (hs : Hid (Src F c K 0 S)) (hk : Hid (Keep K w)) :
    Calls Tryd.prog 11 #[.int .i64 (S.length : Int), srcV F c] w fun e w' => ∃ p, w.heap.size ≤ p ∧ e = .returned (.tuple #[.pointer (some ⟨p, 0, none⟩), .int .i64 0]) ∧ TabM p (srcV F c) 0 t w' ∧ Below w.heap.size w w' := by
  refine (table_Open F c K S w hs hk (by have := hb.len; omega)).mono ?_
  rintro e w' ⟨h, hB⟩
  rw [hb.opened] at h
  rcases h with ⟨h, _⟩ | ⟨_, p, h1, h2, h3⟩
  · exact absurd rfl h
  · exact ⟨p, h1, h2, h3, hB⟩
set_option maxHeartbeats 4000000 in
theorem law_awake09 (w : World) (hg : Hid (Glob w)) : Calls Tryd.prog 7 #[] w fun e w' => e = .returned (.bool true) ∧ Below w.heap.size w w' := by
  obtain ⟨w1, hw1⟩ : ∃ w1, w1 = w.alloc (.cells #[.string ⟨#[97]⟩, .string ⟨#[49]⟩, .bool false, .string ⟨#[98]⟩, .string ⟨#[]⟩, .bool true, .string ⟨#[99]⟩, .string ⟨#[51]⟩, .bool false] 38) := ⟨_, rfl⟩
  have K1 := Lib.hid (show Below w.heap.size w w1 by rw [hw1]; exact (Below.refl _ _).alloc (Nat.le_refl _) _)
  have E1 := Lib.hid (show IsE w1 (some ⟨w.heap.size, 0, none⟩) 3 T3 by
    have h : w1.heap[w.heap.size]? = some (.cells #[.string ⟨#[97]⟩, .string ⟨#[49]⟩, .bool false, .string ⟨#[98]⟩, .string ⟨#[]⟩, .bool true, .string ⟨#[99]⟩, .string ⟨#[51]⟩, .bool false] 38 (0, 0)) := by rw [hw1]; exact heap_new w _
    refine ⟨rfl, w.heap.size, 0, .inr rfl, fun k hk => ?_⟩
    have hk3 : k < 3 := hk
    match k, hk3 with
    | 0, _ => exact ⟨heap_lt h, by simp [World.cell?, h]; rfl, by simp [World.cell?, h]; rfl, by simp [World.cell?, h]; rfl⟩
    | 1, _ => exact ⟨heap_lt h, by simp [World.cell?, h]; rfl, by simp [World.cell?, h]; rfl, by simp [World.cell?, h]; rfl⟩
    | 2, _ => exact ⟨heap_lt h, by simp [World.cell?, h]; rfl, by simp [World.cell?, h]; rfl, by simp [World.cell?, h]; rfl⟩)
  have G1 := Lib.hid (hg.out.keep K1.out hg.out.1)
  have HBd := Lib.hid (table_Build (some ⟨w.heap.size, 0, none⟩) 3 3 T3 2 10 w1 E1 (by decide) (by decide) (Lib.hid t3_small) G1)
  rw [t3_build, if_pos rfl] at HBd
  obtain ⟨t, ht⟩ := built_tab (each := 2) (per := 10) (T := T3) (by decide) (by decide) (by decide) (by decide) (by decide) t3_ok
  obtain ⟨S, hS⟩ : ∃ S, S = tabB (Int.toNat 2) (Int.toNat 10) T3 := ⟨_, rfl⟩
  rw [show tabB 2 10 T3 = S from hS.symm] at ht
  rw [← hS] at HBd
  have HT := Lib.hid ht
  have HW1 := Lib.hid hw1
  obtain ⟨n, hn⟩ : ∃ n, n = S.length := ⟨_, rfl⟩
  have hz : (bs S).size = n := by rw [bs_size, hn]
  have HN := Lib.hid hn
  clear hw1 hS ht hn
  go_enter Tryd.func7, Tryd.ntmps7
  go_upto_region 2 with (fail)
  rw [← HW1.out]
  go_wp2_with fail
  refine HBd.out.mono ?_
  rintro e w2 ⟨rfl, k2⟩
  have K2 := Lib.hid (K1.out.trans (k2.mono K1.out.size))
  clear k2 HBd
  go_wp2_with fail
  refine (law_over (bs S) w2).mono ?_
  rintro e w3 ⟨rfl, hw3⟩
  have b3 : Below w2.heap.size w2 w3 := by rw [hw3]; exact (Below.refl _ _).alloc (Nat.le_refl _) _
  have K3 := Lib.hid (K2.out.trans (b3.mono K2.out.size))
  have Q3 := Lib.hid (show Keep (overK w2.heap.size S) w3 from fun q hq => by
    simp only [overK, List.mem_singleton] at hq
    subst hq
    rw [hw3]; exact heap_new w2 _)
  have hb2 := Lib.hid (show w2.heap.size < w3.heap.size by rw [hw3]; simp)
  have HSrc := Lib.hid (over_src w2.heap.size S (by have := HT.out.len; omega))
  have HOp := Lib.hid (open_built HT.out _ _ _ w3 HSrc Q3)
  rw [← HN.out] at HOp
  clear hw3 b3
  go_wp2_with fail
  refine HOp.out.mono ?_
  rintro e w4 ⟨p, hp4, rfl, hT4, k4⟩
  have K4 := Lib.hid (K3.out.trans (k4.mono K3.out.size))
  have T4 := Lib.hid hT4
  have Q4 := Lib.hid (Q3.out.below k4)
  have hp := Lib.hid (show w2.heap.size < p ∧ w.heap.size ≤ p by have := hb2.out; have := K3.out.size; omega)
  have G4 := Lib.hid (hg.out.keep K4.out hg.out.1)
  have HKp := Lib.hid (show ∀ q ∈ overK w2.heap.size S, q.1 ≠ p from fun q hq => by
    simp only [overK, List.mem_singleton] at hq
    subst hq
    have := hp.out
    show w2.heap.size ≠ p
    omega)
  have hSt := Lib.hid (show Src 35 #[.pointer (some ⟨w2.heap.size, 0, none⟩)] (overK w2.heap.size S) 0 t.bytes by rw [HT.out.bytes]; exact HSrc.out)
  have hlb := HT.out.len
  rw [← HT.out.bytes] at hlb
  have HGet := Lib.hid (table_Get p _ _ _ t 0 [98] w4 T4 (Lib.hid HT.out.fine) hSt Q4 HKp G4 (by decide) (by decide) (by omega) HT.out.bits (Lib.hid (by decide)))
  clear hp4 hT4 k4 hlb HOp
  go_wp2_with fail
  refine HGet.out.mono ?_
  rintro e w5 ⟨he5, hT5, hO5⟩
  obtain ⟨r, hr1, hr2, hr3⟩ := HT.out.get [98]
  rw [t3_find] at hr2 hr3
  have hr := hr2 rfl
  subst hr
  rw [hr3] at he5 hT5
  have he6 : e = .returned (.tuple #[.agg #[.string (bs [98]), .string (bs []), .bool true], .bool true, .int .i64 0]) := he5
  clear he5
  subst he6
  have T5 := Lib.hid (show TabM p _ 1 t w5 from hT5)
  have Q5 := Lib.hid (Q4.out.only hO5 fun q hq e => HKp.out q hq e)
  have B5 := Lib.hid (show Below w.heap.size w w5 from K4.out.trans (hO5.below (fun k _ e => by have e' : k = p := e; have := hp.out; omega) K4.out.size))
  clear hT5 hO5 hr1 hr2 hr3 HGet
  obtain ⟨w6, hw6⟩ : ∃ w6, w6 = w5.alloc (.cells #[.string (bs [98]), .string (bs []), .bool true] 38) := ⟨_, rfl⟩
  have K6 := Lib.hid (show Below w5.heap.size w5 w6 by rw [hw6]; exact (Below.refl _ _).alloc (Nat.le_refl _) _)
  have X6 := Lib.hid (show C3 w5.heap.size 38 (.string (bs [98])) (.string (bs [])) (.bool true) w6 by rw [hw6]; exact heap_new w5 _)
  have T6 := Lib.hid (T5.out.below K6.out)
  have Q6 := Lib.hid (Q5.out.below K6.out)
  have B6 := Lib.hid (B5.out.trans (K6.out.mono B5.out.size))
  have HW6 := Lib.hid hw6
  have hsc : scanU t 0 [98] = (0, [⟨[98], [], true⟩, ⟨[99], [51], false⟩]) := by rw [scanU_zero, HT.out.scan, t3_from]
  have hfb : readLo t [98] 1 0 = 3 ∧ readHi t [98] 1 0 = 3 := by
    have h2 : t.index.length = 2 := by
      rw [HT.out.index, idxs_len]
      have := congrArg List.length t3_keys
      rwa [List.length_map] at this
    have h1 : firstB t [98] = 0 := by
      unfold firstB
      rw [HT.out.index, idxs_keys, t3_keys]
      rfl
    unfold readLo readHi
    rw [h1, h2]
    exact ⟨rfl, rfl⟩
  have HAll := Lib.hid (all_tab p _ _ _ t 0 1 [98] w6 T6 (Lib.hid HT.out.fine) hSt Q6 HKp (by decide) (by decide) (by have := HT.out.len; rw [HT.out.bytes]; omega) (by rw [hsc]; decide))
  rw [hsc, hfb.1, hfb.2] at HAll
  have hcount : (t.count : Int) = 3 := by rw [HT.out.count]; rfl
  have HC := Lib.hid hcount
  clear hw6 hsc hfb hcount
  go_upto_region 7 with (fail)
  rw [← HW6.out]
  go_wp2_with fail
  refine HAll.out.mono ?_
  rintro e w7 ⟨⟨a7, cap7, rfl, _⟩, hE7, hO7⟩
  obtain ⟨n7, g1, g2, g3⟩ := hE7.ex
  obtain rfl : n7 = 3 := by omega
  have T7 := Lib.hid g3
  have B7 := Lib.hid (show Below w.heap.size w w7 from B6.out.trans (hO7.below (fun k _ e => by have e' : k = p := e; have := hp.out; omega) B6.out.size))
  have X7 := Lib.hid (show C3 w5.heap.size 38 (.string (bs [98])) (.string (bs [])) (.bool true) w7 from X6.out.table hO7 (by have := T5.out.lt; omega))
  have x2 := X7.out.c2
  have HCnt := Lib.hid (table_Count p _ 3 t w7 T7.out)
  have HRds := Lib.hid (table_Reads p _ 3 t w7 T7.out)
  rw [HC.out] at HCnt
  clear hE7 hO7 g1 g2 g3 HAll
  go_wp2_with fail
  refine HCnt.out.mono ?_
  rintro e w8 ⟨rfl, rfl⟩
  go_wp2_with fail
  refine HRds.out.mono ?_
  rintro e w8 ⟨rfl, rfl⟩
  go_wp2_with fail
  go_ret
  exact ⟨rfl, B7.out⟩
end Go.Proofs.YteejldddgogbkaaDoor
