/- Texts put together: TableFootIn, TableOpen, TableAt, TableBlock, TableRefParts -/
import Derived.Test.YteejldddgogbkaaGreatDoorTOp18
import Derived.Test.YteejldddgogbkaaGreatDoorTOp19
import Derived.Test.YteejldddgogbkaaGreatDoorTOp17
import Derived.Test.YteejldddgogbkaaGreatDoorTOp16
/- The foot, read; a table's filter, read. -/
set_option linter.unusedVariables false
set_option maxRecDepth 100000
namespace Go.Proofs.YteejldddgogbkaaGreatDoor
open Go.RowKit

set_option maxHeartbeats 4000000 in
theorem readFoot_yes (n F : Nat) (c : Array Value) (K : List (Nat × Obj)) (L : List UInt8) (w : World) (hs : Hid (Src F c K 0 L)) (hk : Hid (Keep K w)) (hn : n + 16 = L.length) (hl : L.length ≤ 100000000000) (hz : Hid (takeE (L.drop n) = 0)) :
    Calls Tryz.prog 38 #[.int .i64 (n : Int), srcV F c] w fun e w' => e = .returned (.tuple #[fv3 (num4 (takeT (L.drop n))) (num4 ((takeT (L.drop n)).drop 4)) (num4 ((takeT (L.drop n)).drop 8)), .int .i64 0]) ∧ Below w.heap.size w w' := by
  obtain ⟨w1, hw1⟩ : ∃ w1, w1 = w.alloc (.cells #[.int .i64 0, .int .i64 0, .int .i64 0] 67) := ⟨_, rfl⟩
  have K1 := Lib.hid (show Below w.heap.size w w1 by rw [hw1]; exact (Below.refl _ _).alloc (Nat.le_refl _) _)
  have C1 := Lib.hid (show C3 w.heap.size 67 (.int .i64 0) (.int .i64 0) (.int .i64 0) w1 by rw [hw1]; exact heap_new w _)
  have hC := hs.out.calls w1 (hk.out.below K1.out) n 16 (by omega)
  have eF := hs.out.enters
  have HW1 := Lib.hid hw1
  unfold Enters at eF
  unfold srcV fv3
  rw [if_pos rfl] at hC
  obtain ⟨s, hs'⟩ : ∃ s, s = (L.drop n).take 16 := ⟨_, rfl⟩
  have hse : s = L.drop n := by rw [hs']; exact List.take_of_length_le (by rw [List.length_drop]; omega)
  have hsl : s.length = 16 := by rw [hse, List.length_drop]; omega
  rw [← hs'] at hC
  have htk2 := fun W => crc_Take (bs s) W (by rw [bs_size, hsl]; omega)
  simp only [bs_list] at htk2
  have htk := hz.out
  rw [← hse] at htk ⊢
  rw [htk] at htk2
  obtain ⟨l, hlt⟩ : ∃ l, l = takeT s := ⟨_, rfl⟩
  have hl12 : l.length = 12 := by rw [hlt]; exact takeT_twelve hsl htk
  rw [← hlt] at htk2 ⊢
  have HT := Lib.hid htk2
  have z12 : (bs l).size = 12 := by rw [bs_size, hl12]
  have x1 : (bs l).extract 0 4 = bs (l.take 4) := (take_split (n := 4) (by omega)).1
  have x2 : (bs l).extract 4 8 = bs ((l.drop 4).take 4) := bs_eq (by rw [Lib.extract_data, bs_list])
  have x3 : (bs l).extract 8 12 = bs (l.drop 8) := by have := (take_split (s := bs l) (n := 8) (by omega)).2; rw [z12] at this; exact this
  have HN1 := Lib.hid (fun (W : World) (m : Seen W) => by have h := seen_of (table_number (l.take 4) · (by rw [List.length_take]; omega)) W m; rw [num4_take] at h; exact h)
  have HN2 := Lib.hid (fun (W : World) (m : Seen W) => by have h := seen_of (table_number ((l.drop 4).take 4) · (by rw [List.length_take, List.length_drop]; omega)) W m; rw [num4_take] at h; exact h)
  have HN3 := Lib.hid (fun (W : World) (m : Seen W) => seen_of (table_number (l.drop 8) · (by rw [List.length_drop]; omega)) W m)
  obtain ⟨A, hA⟩ : ∃ A, A = num4 l := ⟨_, rfl⟩
  obtain ⟨B, hB⟩ : ∃ B, B = num4 (l.drop 4) := ⟨_, rfl⟩
  obtain ⟨D, hD⟩ : ∃ D, D = num4 (l.drop 8) := ⟨_, rfl⟩
  rw [← hA] at HN1 ⊢
  rw [← hB] at HN2 ⊢
  rw [← hD] at HN3 ⊢
  clear hw1 hs' hse hsl htk htk2 hlt hl12 hA hB hD
  go_enter Tryz.func38, Tryz.ntmps38
  go_upto_region 1 with (fail)
  rw [← HW1.out]
  go_wp2_with fail
  refine hC.mono ?_
  rintro e w2 ⟨rfl, k2⟩
  have C2 := Lib.hid (C1.out.below k2)
  have K2 := Lib.hid (K1.out.trans (k2.mono K1.out.size))
  clear k2 hC eF
  go_wp2_with fail
  refine (HT.out w2).mono ?_
  rintro e w3 ⟨rfl, k3⟩
  have C3' := Lib.hid (C2.out.below k3)
  have K3 := Lib.hid (K2.out.trans (k3.mono K2.out.size))
  clear k3
  go_upto_region 11 with (fail)
  refine wp_region_seen_tail 10 (by kernel_rfl) (by kernel_rfl) ?_
  simp only [List.take_succ_cons, List.take_zero, List.drop_succ_cons, List.drop_zero]
  try go_frame
  repeat go_big_quiet_step (first | (go_at_call 71; first | (with_reducible exact HN1.out _ _) | (with_reducible exact HN2.out _ _) | (with_reducible exact HN3.out _ _)))
  refine wpQuiet_nil ?_
  rintro _ ⟨m1, rfl⟩
  have c4 := C3'.out.below m1.below
  have q0 := c4.c0
  have q1 := c4.c1
  have q2 := c4.c2
  have qf := c4.free
  have C4 := Lib.hid c4
  have K4 := Lib.hid (K3.out.trans (m1.below.mono K3.out.size))
  clear c4
  go_wp2_with fail
  refine bodyPost_ret (results_c3 rfl _ _ w.heap.size _ _ _ _ _ rfl rfl (C4.out.put _ _ _) Tryz.underlying67 rfl sizeFoot) rfl ?_
  exact ⟨rfl, below_put3' K4.out (Nat.le_refl _) _ _ _⟩
/-- What reading the filter leaves. -/
structure FilPost (x : List UInt8) (w : World) (e : Ending) (w' : World) : Prop where
  out : (takeE x ≠ 0 ∧ e = .returned (.tuple #[.pointer none, .int .i64 (takeE x)])) ∨ (takeE x = 0 ∧ openE (takeT x) ≠ 0 ∧ e = .returned (.tuple #[.pointer none, .int .i64 (openE (takeT x))])) ∨
    (takeE x = 0 ∧ openE (takeT x) = 0 ∧ ∃ b g, e = .returned (.tuple #[.pointer (some ⟨b, 0, none⟩), .int .i64 0]) ∧ Flt b g (openH (takeT x)) (openT (takeT x)) w')
  bel : Below w.heap.size w w'
set_option maxHeartbeats 2000000 in
theorem table_readFilter (n k F : Nat) (c : Array Value) (K : List (Nat × Obj)) (L : List UInt8) (w : World) (hs : Hid (Src F c K 0 L)) (hk : Hid (Keep K w)) (hn : n + k ≤ L.length) (hl : L.length ≤ 100000000000) :
    Calls Tryz.prog 40 #[.int .i64 (n : Int), .int .i64 (k : Int), srcV F c] w (FilPost ((L.drop n).take k) w) := by
  have hC := hs.out.calls w hk.out n k hn
  have eF := hs.out.enters
  unfold Enters at eF
  unfold srcV
  rw [if_pos rfl] at hC
  obtain ⟨s, hs'⟩ : ∃ s, s = (L.drop n).take k := ⟨_, rfl⟩
  have hsl : s.length ≤ 100000000000 := by rw [hs', List.length_take, List.length_drop]; omega
  rw [← hs'] at hC ⊢
  have htk2 := fun W => crc_Take (bs s) W (by rw [bs_size]; omega)
  simp only [bs_list] at htk2
  have hop := fun W => flt_Open (bs (takeT s)) W (by rw [bs_size]; have := takeT_len s; unfold maxLen; omega)
  simp only [bs_list] at hop
  have HOP := Lib.hid hop
  clear hs' hop
  by_cases h1 : takeE s = 0
  · have H1 := Lib.hid h1
    rw [h1] at htk2
    have HT := Lib.hid htk2
    clear h1 htk2
    go_enter Tryz.func40, Tryz.ntmps40
    go_wp2_with fail
    refine hC.mono ?_
    rintro e w2 ⟨rfl, k2⟩
    have K2 := Lib.hid k2
    clear k2 hC eF
    go_wp2_with fail
    refine (HT.out w2).mono ?_
    rintro e w3 ⟨rfl, k3⟩
    have K3 := Lib.hid (K2.out.trans (k3.mono K2.out.size))
    clear k3
    go_wp2_with fail
    refine (HOP.out w3).mono ?_
    rintro e w4 ⟨k4, ⟨hne, rfl⟩ | ⟨heq, b, g, _, _, rfl, hf⟩⟩
    · have K4 := Lib.hid (K3.out.trans (k4.mono K3.out.size))
      have HNE := Lib.hid hne
      clear k4 hne
      go_wp2_with fail
      go_ret2
      exact ⟨.inr (.inl ⟨H1.out, HNE.out, rfl⟩), K4.out⟩
    · have K4 := Lib.hid (K3.out.trans (k4.mono K3.out.size))
      have HEQ := Lib.hid heq
      have HF := Lib.hid hf
      clear k4 heq hf
      go_wp2_with fail
      go_ret2
      exact ⟨.inr (.inr ⟨H1.out, HEQ.out, b, g, rfl, HF.out⟩), K4.out⟩
  · have H1 := Lib.hid h1
    have hz0 : (takeE s == 0) = false := beq_eq_false_iff_ne.2 h1
    obtain ⟨z, hz⟩ : ∃ z, z = takeE s := ⟨_, rfl⟩
    rw [← hz] at htk2 hz0
    have HT := Lib.hid htk2
    have HZ := Lib.hid hz
    clear h1 htk2 hz
    go_enter Tryz.func40, Tryz.ntmps40
    go_wp2_with fail
    refine hC.mono ?_
    rintro e w2 ⟨rfl, k2⟩
    have K2 := Lib.hid k2
    clear k2 hC eF
    go_wp2_with fail
    refine (HT.out w2).mono ?_
    rintro e w3 ⟨rfl, k3⟩
    have K3 := Lib.hid (K2.out.trans (k3.mono K2.out.size))
    clear k3
    go_wp2_with fail
    go_ret2
    exact ⟨.inl ⟨H1.out, by rw [← HZ.out]; rfl⟩, K3.out⟩
end Go.Proofs.YteejldddgogbkaaGreatDoor
/- The program's Open. -/
set_option linter.unusedVariables false
set_option maxRecDepth 100000
namespace Go.Proofs.YteejldddgogbkaaGreatDoor
open Go.RowKit

structure TabPost (L : List UInt8) (F : Nat) (c : Array Value) (w : World) (e : Ending) (w' : World) : Prop where
  out : ((openTab L).1 ≠ 0 ∧ e = .returned (.tuple #[.pointer none, .int .i64 (openTab L).1])) ∨
    ((openTab L).1 = 0 ∧ ∃ p, w.heap.size ≤ p ∧ e = .returned (.tuple #[.pointer (some ⟨p, 0, none⟩), .int .i64 0]) ∧ TabM p (srcV F c) 0 (openTab L).2 w')
  bel : Below w.heap.size w w'
theorem TabPost.bad {L : List UInt8} {F : Nat} {c : Array Value} {w w' : World} {z : Int} (h : openTab L = (z, noTab)) (hz : z ≠ 0) (hb : Below w.heap.size w w') : TabPost L F c w (.returned (.tuple #[.pointer none, .int .i64 z])) w' :=
  ⟨.inl ⟨by rw [h]; exact hz, by rw [h]⟩, hb⟩
theorem fn_nil9 (F : Nat) (c : Array Value) (w : World) : (binOp .eql 38 (.func (.func F) #[] c) .nilFunc).run Tryz.prog w = .ok (.bool false) w := by kernel_rfl
set_option maxHeartbeats 2000000 in
theorem open_short (size : Int) (F : Nat) (c : Array Value) (w : World) (h0 : 0 ≤ size) (h : size < 16) :
    Calls Tryz.prog 11 #[.int .i64 size, srcV F c] w fun e w' => e = .returned (.tuple #[.pointer none, .int .i64 2]) ∧ Below w.heap.size w w' := by
  have hf := fn_nil9 F c
  unfold srcV
  go_enter Tryz.func11, Tryz.ntmps11
  go_wp2_with fail
  go_ret2
  exact ⟨rfl, Below.refl _ _⟩
set_option maxHeartbeats 2000000 in
theorem open_neg (size : Int) (v : Value) (w : World) (h0 : size < 0) :
    Calls Tryz.prog 11 #[.int .i64 size, v] w fun e w' => e = .returned (.tuple #[.pointer none, .int .i64 1]) ∧ Below w.heap.size w w' := by
  go_enter Tryz.func11, Tryz.ntmps11
  go_wp2_with fail
  go_ret2
  exact ⟨rfl, Below.refl _ _⟩
set_option maxHeartbeats 2000000 in
theorem open_none (size : Int) (w : World) :
    Calls Tryz.prog 11 #[.int .i64 size, .nilFunc] w fun e w' => e = .returned (.tuple #[.pointer none, .int .i64 1]) ∧ Below w.heap.size w w' := by
  by_cases h : size < 0
  · exact open_neg size _ w h
  · have hf : ∀ w : World, (binOp .eql 38 .nilFunc .nilFunc).run Tryz.prog w = .ok (.bool true) w := fun w => by kernel_rfl
    go_enter Tryz.func11, Tryz.ntmps11
    go_wp2_with fail
    go_ret2
    exact ⟨rfl, Below.refl _ _⟩
set_option maxHeartbeats 2000000 in
/-- A source that refuses the foot, or bytes that are no foot. -/
theorem open_nofoot (n F : Nat) (c : Array Value) (K : List (Nat × Obj)) (d z : Int) (L : List UInt8) (w : World) (hs : Hid (Src F c K d L)) (hk : Hid (Keep K w)) (hn : n + 16 = L.length) (hl : L.length ≤ 9223372036854775807) (hz : Hid (d ≠ 0 ∧ z = d ∨ d = 0 ∧ takeE (L.drop n) = z ∧ z ≠ 0)) (hz0 : Hid (z ≠ 0)) :
    Calls Tryz.prog 11 #[.int .i64 ((n : Int) + 16), srcV F c] w fun e w' => e = .returned (.tuple #[.pointer none, .int .i64 z]) ∧ Below w.heap.size w w' := by
  have hf := fn_nil9 F c
  have hzb : (z == 0) = false := beq_eq_false_iff_ne.2 hz0.out
  have HR := Lib.hid (readFoot_no n F c K d z L w hs hk hn hl hz)
  unfold srcV fv3 at HR
  unfold srcV
  clear hs hk hz
  go_enter Tryz.func11, Tryz.ntmps11
  have e16 : (n : Int) + 16 - 16 = (n : Int) := by omega
  go_wp2_with fail
  refine HR.out.mono ?_
  rintro e w1 ⟨rfl, k1⟩
  have K1 := Lib.hid k1
  clear k1
  go_wp2_with fail
  go_ret2
  exact ⟨rfl, K1.out.alloc K1.out.size _⟩
theorem open_abs {α : Type} (t1 : Int) (p : Prop) [Decidable p] (o1 p1 : Int) (q : Prop) [Decidable q] (R : Int × α) (N : α) :
    (if t1 ≠ 0 then (t1, N) else if p then (3, N) else if o1 ≠ 0 then (o1, N) else if p1 ≠ 0 then (p1, N) else if q then (3, N) else R) = (if t1 ≠ 0 then (t1, N) else if p then (3, N) else if o1 ≠ 0 then (o1, N) else if (if p1 ≠ 0 then p1 else if q then 3 else 0) ≠ 0 then ((if p1 ≠ 0 then p1 else if q then 3 else 0), N) else R) := by
  by_cases h1 : t1 = 0 <;> by_cases h2 : p <;> by_cases h3 : o1 = 0 <;> by_cases h4 : p1 = 0 <;> by_cases h5 : q <;> simp [h1, h2, h3, h4, h5]
/-- Open in plain words, behind the foot. -/
theorem openTab_at {L : List UInt8} (n : Nat) (hn : n + 16 = L.length) : openTab L =
    if takeE (L.drop n) ≠ 0 then (takeE (L.drop n), noTab) else
    if num4 ((takeT (L.drop n)).drop 4) < num4 (takeT (L.drop n)) ∨ n < num4 ((takeT (L.drop n)).drop 4) then (3, noTab) else
    if (opnS ((L.take (num4 ((takeT (L.drop n)).drop 4))).drop (num4 (takeT (L.drop n))))).1 ≠ 0 then ((opnS ((L.take (num4 ((takeT (L.drop n)).drop 4))).drop (num4 (takeT (L.drop n))))).1, noTab) else
    if idxZ (opnS ((L.take (num4 ((takeT (L.drop n)).drop 4))).drop (num4 (takeT (L.drop n))))).2 (num4 (takeT (L.drop n))) (num4 ((takeT (L.drop n)).drop 8)) ≠ 0 then (idxZ (opnS ((L.take (num4 ((takeT (L.drop n)).drop 4))).drop (num4 (takeT (L.drop n))))).2 (num4 (takeT (L.drop n))) (num4 ((takeT (L.drop n)).drop 8)), noTab) else
    if takeE ((L.take n).drop (num4 ((takeT (L.drop n)).drop 4))) ≠ 0 then (takeE ((L.take n).drop (num4 ((takeT (L.drop n)).drop 4))), noTab) else
    if openE (takeT ((L.take n).drop (num4 ((takeT (L.drop n)).drop 4)))) ≠ 0 then (openE (takeT ((L.take n).drop (num4 ((takeT (L.drop n)).drop 4)))), noTab) else
    (0, ⟨L, (opnS ((L.take (num4 ((takeT (L.drop n)).drop 4))).drop (num4 (takeT (L.drop n))))).2, (placesL (num4 (takeT (L.drop n))) 0 (opnS ((L.take (num4 ((takeT (L.drop n)).drop 4))).drop (num4 (takeT (L.drop n))))).2).2, openH (takeT ((L.take n).drop (num4 ((takeT (L.drop n)).drop 4)))), openT (takeT ((L.take n).drop (num4 ((takeT (L.drop n)).drop 4)))), num4 ((takeT (L.drop n)).drop 8)⟩) := by
  have e : L.length - 16 = n := by omega
  unfold openTab idxZ
  simp only [e]
  rw [if_neg (show ¬ L.length < 16 by omega)]
  exact open_abs _ _ _ _ _ _ _
set_option maxHeartbeats 4000000 in
theorem table_Open (F : Nat) (c : Array Value) (K : List (Nat × Obj)) (L : List UInt8) (w : World) (hs : Hid (Src F c K 0 L)) (hk : Hid (Keep K w)) (hl : L.length ≤ 100000000000) :
    Calls Tryz.prog 11 #[.int .i64 (L.length : Int), srcV F c] w (TabPost L F c w) := by
  by_cases h16 : L.length < 16
  · have ho : openTab L = (2, noTab) := by unfold openTab; rw [if_pos h16]
    refine (open_short (L.length : Int) F c w (by omega) (by omega)).mono ?_
    rintro e w' ⟨rfl, hb⟩
    exact TabPost.bad ho (by decide) hb
  obtain ⟨n, hn⟩ : ∃ n, n + 16 = L.length := ⟨L.length - 16, by omega⟩
  have hO := openTab_at n hn
  have hni : (L.length : Int) = (n : Int) + 16 := by omega
  rw [hni]
  by_cases h0 : takeE (L.drop n) = 0
  · have hrf := readFoot_yes n F c K L w hs hk hn hl (Lib.hid h0)
    rw [if_neg (fun h => h h0)] at hO
    obtain ⟨f, hfd⟩ : ∃ f, f = takeT (L.drop n) := ⟨_, rfl⟩
    rw [← hfd] at hO hrf
    obtain ⟨a, ha⟩ : ∃ a, a = num4 f := ⟨_, rfl⟩
    obtain ⟨b, hb⟩ : ∃ b, b = num4 (f.drop 4) := ⟨_, rfl⟩
    obtain ⟨m, hm⟩ : ∃ m, m = num4 (f.drop 8) := ⟨_, rfl⟩
    have ha32 : a < 4294967296 := by rw [ha]; exact num4_lt _
    have hb32 : b < 4294967296 := by rw [hb]; exact num4_lt _
    have hm32 : m < 4294967296 := by rw [hm]; exact num4_lt _
    rw [← ha, ← hb, ← hm] at hO hrf
    have HRF := Lib.hid hrf
    have hf := fn_nil9 F c
    clear h0 hrf hfd ha hb hm
    unfold fv3 srcV at HRF
    have e16 : (n : Int) + 16 - 16 = (n : Int) := by omega
    obtain ⟨X, hX⟩ : ∃ X : Nat → Prop, X = fun k => True := ⟨_, rfl⟩
    by_cases h1 : b < a ∨ n < b
    · rw [if_pos h1] at hO
      have HO := Lib.hid hO
      clear hO hX
      by_cases h2 : b < a
      · unfold srcV
        go_enter Tryz.func11, Tryz.ntmps11
        go_wp2_with fail
        refine HRF.out.mono ?_
        rintro e w1 ⟨rfl, k1⟩
        have K1 := Lib.hid k1
        clear k1
        go_wp2_with fail
        go_ret2
        exact TabPost.bad HO.out (by decide) (K1.out.alloc K1.out.size _)
      · have h3 : n < b := by omega
        unfold srcV
        go_enter Tryz.func11, Tryz.ntmps11
        go_wp2_with fail
        refine HRF.out.mono ?_
        rintro e w1 ⟨rfl, k1⟩
        have K1 := Lib.hid k1
        clear k1
        go_wp2_with fail
        go_ret2
        exact TabPost.bad HO.out (by decide) (K1.out.alloc K1.out.size _)
    · rw [if_neg h1] at hO
      obtain ⟨h2, h3⟩ : a ≤ b ∧ b ≤ n := by omega
      obtain ⟨s, hsd⟩ : ∃ s, s = (L.take b).drop a := ⟨_, rfl⟩
      obtain ⟨x, hxd⟩ : ∃ x, x = (L.take n).drop b := ⟨_, rfl⟩
      have hxe : (L.drop b).take (n - b) = x := by rw [hxd, List.drop_take]
      have hri := fun W (hkW : Keep K W) => table_readIndex a b m F c K L W hs (Lib.hid hkW) h2 (by omega) hl hm32
      have hrl := fun W (hkW : Keep K W) => table_readFilter b (n - b) F c K L W hs (Lib.hid hkW) (by omega) hl
      simp only [hxe] at hrl
      simp only [← hsd] at hri
      rw [← hsd, ← hxd] at hO
      have HRI := Lib.hid hri
      have HRL := Lib.hid hrl
      have HO := Lib.hid hO
      have hsub : IntKind.i64.wrap ((n : Int) - (b : Int)) = ((n - b : Nat) : Int) := by rw [IntWalk.i64_in _ (by omega)]; omega
      have hsub2 : (n : Int) - (b : Int) = ((n - b : Nat) : Int) := by omega
      unfold fv3 srcV at HRI
      unfold srcV at HRL
      clear hO h1 hsd hxd hxe hri hrl hX
      unfold srcV
      go_enter Tryz.func11, Tryz.ntmps11
      go_wp2_with fail
      refine HRF.out.mono ?_
      rintro e w1 ⟨rfl, k1⟩
      have K1 := Lib.hid k1
      obtain ⟨Z, hZ⟩ : ∃ Z, Z = w1.heap.size := ⟨_, rfl⟩
      obtain ⟨w2, hw2⟩ : ∃ w2, w2 = w1.alloc (.cells #[.int .i64 (a : Int), .int .i64 (b : Int), .int .i64 (m : Int)] 67) := ⟨_, rfl⟩
      have K2 := Lib.hid (show Below w.heap.size w w2 by rw [hw2]; exact K1.out.alloc K1.out.size _)
      have C2 := Lib.hid (show C3 Z 67 (.int .i64 (a : Int)) (.int .i64 (b : Int)) (.int .i64 (m : Int)) w2 by rw [hw2, hZ]; exact heap_new w1 _)
      have c0 := C2.out.c0
      have c1 := C2.out.c1
      have c2 := C2.out.c2
      have HW2 := Lib.hid hw2
      have HZ := Lib.hid hZ
      clear k1 hw2 hZ
      go_upto_region 7 with (fail)
      rw [← HZ.out, ← HW2.out]
      go_wp2_with fail
      refine (HRI.out w2 (hk.out.below K2.out)).mono ?_
      clear c0 c1 c2
      rintro e w3 ⟨hcase, k3⟩
      have K3 := Lib.hid (K2.out.trans (k3.mono K2.out.size))
      have C3' := Lib.hid (C2.out.below k3)
      have c1 := C3'.out.c1
      have c2 := C3'.out.c2
      clear k3
      rcases hcase with ⟨h4, rfl⟩ | ⟨h4, h5, rfl⟩ | ⟨h4, h5, G, rfl, hG⟩
      · have hO := HO.out
        rw [if_pos h4] at hO
        obtain ⟨z, hz⟩ : ∃ z, z = (opnS s).1 := ⟨_, rfl⟩
        rw [← hz] at hO h4 ⊢
        have hzb : (z == 0) = false := beq_eq_false_iff_ne.2 h4
        have HO2 := Lib.hid hO
        have H4 := Lib.hid h4
        clear hO h4 hz
        go_wp2_with fail
        go_ret2
        exact TabPost.bad HO2.out H4.out K3.out
      · have hO := HO.out
        rw [if_neg (fun h => h h4), if_pos h5] at hO
        obtain ⟨z, hz⟩ : ∃ z, z = idxZ (opnS s).2 a m := ⟨_, rfl⟩
        rw [← hz] at hO h5 ⊢
        have hzb : (z == 0) = false := beq_eq_false_iff_ne.2 h5
        have HO2 := Lib.hid hO
        have H4 := Lib.hid h5
        clear hO h4 h5 hz
        go_wp2_with fail
        go_ret2
        exact TabPost.bad HO2.out H4.out K3.out
      · have hO := HO.out
        rw [if_neg (fun h => h h4), if_neg (fun h => h h5)] at hO
        have HO2 := Lib.hid hO
        have HG := Lib.hid hG
        obtain ⟨Xl, hXl⟩ : ∃ Xl, Xl = (opnS s).2.length := ⟨_, rfl⟩
        rw [← hXl] at HG ⊢
        have HXl := Lib.hid hXl
        clear hO h4 h5 hG hXl
        go_wp2_with fail
        refine (HRL.out w3 (hk.out.below K3.out)).mono ?_
        rintro e w4 ⟨hcase, k4⟩
        have K4 := Lib.hid (K3.out.trans (k4.mono K3.out.size))
        have C4 := Lib.hid (C3'.out.below k4)
        have HG4 := Lib.hid (HG.out.keep k4)
        clear c1 c2 k4
        have c2 := C4.out.c2
        rcases hcase with ⟨h6, rfl⟩ | ⟨h6, h7, rfl⟩ | ⟨h6, h7, fb, fg, rfl, hfl⟩
        · have hO := HO2.out
          rw [if_pos h6] at hO
          obtain ⟨z, hz⟩ : ∃ z, z = takeE x := ⟨_, rfl⟩
          rw [← hz] at hO h6 ⊢
          have hzb : (z == 0) = false := beq_eq_false_iff_ne.2 h6
          have HO3 := Lib.hid hO
          have H6 := Lib.hid h6
          clear hO h6 hz
          go_wp2_with fail
          go_ret2
          exact TabPost.bad HO3.out H6.out K4.out
        · have hO := HO2.out
          rw [if_neg (fun h => h h6), if_pos h7] at hO
          obtain ⟨z, hz⟩ : ∃ z, z = openE (takeT x) := ⟨_, rfl⟩
          rw [← hz] at hO h7 ⊢
          have hzb : (z == 0) = false := beq_eq_false_iff_ne.2 h7
          have HO3 := Lib.hid hO
          have H6 := Lib.hid h7
          clear hO h6 h7 hz
          go_wp2_with fail
          go_ret2
          exact TabPost.bad HO3.out H6.out K4.out
        · have hO := HO2.out
          rw [if_neg (fun h => h h6), if_neg (fun h => h h7)] at hO
          have HO3 := Lib.hid hO
          have HFL := Lib.hid hfl
          clear hO h6 h7 hfl
          go_wp2_with fail
          go_ret2
          have hfine := (open_fine (s := L) (t := (openTab L).2) (by rw [HO3.out])).1
          refine ⟨.inr ⟨by rw [HO3.out], w4.heap.size, K4.out.size, rfl, ?_⟩, K4.out.alloc K4.out.size _⟩
          have kA := (Below.refl w4.heap.size w4).alloc (Nat.le_refl _) (.cells #[srcV F c, .slice (some ⟨G, 0, none⟩) Xl Xl, .pointer (some ⟨fb, 0, none⟩), .int .i64 (m : Int), .int .i64 0] 93)
          have hPl := piecesOf_len hfine
          rw [HO3.out] at hPl ⊢
          refine ⟨some ⟨G, 0, none⟩, Xl, fb, fg, ?_, ?_, ?_, HFL.out.lt, HFL.out.row.1⟩
          · rw [← HXl.out]; exact heap_new w4 _
          · have h8 := HG4.out
            have h9 : FillP G Xl (pcsOf (opnS s).2 (placesL a 0 (opnS s).2).2) w4 := h8
            have h10 : (pcsOf (opnS s).2 (placesL a 0 (opnS s).2).2).length = Xl := by rw [HXl.out]; exact hPl
            rw [← h10] at h9
            have h11 := h9.full (p := w4.heap.size) (by obtain ⟨cur, h, _⟩ := h9; exact heap_lt h)
            rw [h10] at h11
            rw [← HXl.out]
            exact h11.keep fun j hj hj2 => kA.block j hj2
          · exact HFL.out.below kA
  · have ho : openTab L = (takeE (L.drop n), noTab) := by rw [hO, if_pos h0]
    refine (open_nofoot n F c K 0 (takeE (L.drop n)) L w hs hk hn (by omega) (Lib.hid (.inr ⟨rfl, rfl, h0⟩)) (Lib.hid h0)).mono ?_
    rintro e w' ⟨rfl, hb⟩
    exact TabPost.bad ho h0 hb
end Go.Proofs.YteejldddgogbkaaGreatDoor
/- In which block a key would stand. -/
set_option linter.unusedVariables false
set_option maxRecDepth 100000
namespace Go.Proofs.YteejldddgogbkaaGreatDoor
open Go.RowKit

def risesK : List Pc → Prop := fun P => ∀ (i j : Nat) (x y : Pc), i < j → P[i]? = some x → P[j]? = some y → ltB x.1 y.1 = true
theorem from_zero {k : List UInt8} : ∀ {Y : List (List UInt8)}, (∀ y ∈ Y, ltB k y = true) → fromN k Y = 0
  | [], _ => rfl
  | y :: Y, h => by
    rw [fromN_cons, from_zero fun z hz => h z (List.mem_cons_of_mem _ hz), if_neg (fun e => e rfl), if_pos (h y (by simp))]
theorem from_app {k : List UInt8} : ∀ {A B : List (List UInt8)} {y : List UInt8}, fromN k B = 0 → ltB k y = false → fromN k (A ++ y :: B) = A.length + 1
  | [], B, y, h, hy => by
    rw [List.nil_append, fromN_cons, h, if_neg (fun e => e rfl), if_neg (by rw [hy]; decide)]
    rfl
  | z :: A, B, y, h, hy => by
    rw [List.cons_append, fromN_cons, from_app (A := A) h hy, if_pos (by omega), List.length_cons]
/-- What a search of the first block above a key finds. -/
theorem from_found {k : List UInt8} {P : List Pc} (hP : risesK P) {r : Nat} (hr : r ≤ P.length) (h1 : ∀ x, 0 < r → P[r - 1]? = some x → ltB k x.1 = false) (h2 : ∀ x, P[r]? = some x → ltB k x.1 = true) : fromN k (P.map (·.1)) = r := by
  have hB : fromN k ((P.drop r).map (·.1)) = 0 := from_zero fun y hy => by
    obtain ⟨x, hx, rfl⟩ := List.mem_map.1 hy
    obtain ⟨i, hi⟩ := List.mem_iff_getElem?.1 hx
    rw [List.getElem?_drop] at hi
    by_cases h0 : i = 0
    · subst h0
      exact h2 x (by simpa using hi)
    · have hl := (List.getElem?_eq_some_iff.1 hi).1
      obtain ⟨z, hz⟩ : ∃ z, P[r]? = some z := ⟨_, List.getElem?_eq_getElem (by omega)⟩
      exact ltB_trans (h2 z hz) (hP r (r + i) z x (by omega) hz hi)
  rcases Nat.eq_zero_or_pos r with h0 | h0
  · subst h0
    simpa using hB
  · obtain ⟨x, hx⟩ : ∃ x, P[r - 1]? = some x := ⟨_, List.getElem?_eq_getElem (by omega)⟩
    have hsp : P = P.take (r - 1) ++ x :: P.drop r := by
      have h3 := List.getElem?_eq_some_iff.1 hx
      have h4 : P.drop (r - 1) = x :: P.drop r := by rw [List.drop_eq_getElem_cons h3.1, h3.2, Nat.sub_add_cancel h0]
      rw [← h4, List.take_append_drop]
    have h5 := from_app (k := k) (A := (P.take (r - 1)).map (·.1)) (B := (P.drop r).map (·.1)) hB (h1 x h0 hx)
    have h6 : P.map (·.1) = (P.take (r - 1)).map (·.1) ++ x.1 :: (P.drop r).map (·.1) := by
      conv => lhs; rw [hsp]
      simp
    rw [h6, h5, List.length_map, List.length_take]
    omega
/-- A variable that holds a pointer to a table. -/
def BxP (c : Nat) (p : Nat) (w : World) : Prop := w.heap[c]? = some (.cells #[.pointer (some ⟨p, 0, none⟩)] 34 (0, 0))
theorem BxP.cell {c p : Nat} {w : World} (h : BxP c p w) : w.cell? ⟨c, 0, none⟩ = some (.pointer (some ⟨p, 0, none⟩)) := by unfold BxP at h; simp [World.cell?, h]
set_option maxHeartbeats 1000000 in
theorem at_look (b1 b2 p q : Nat) (a : Option Addr) (len cap : Nat) (P : List Pc) (key : List UInt8) (i : Nat) (x : Pc) (w : World) (h1 : BxP b1 p w) (h2 : Bx b2 key w) (hc : w.cell? ⟨p, 1, none⟩ = some (.slice a len cap)) (hP : Hid (IsP w q a len P)) (hi : i < len) (hx : Hid (P[i]? = some x)) :
    Calls Tryz.prog 78 #[.int .i64 (i : Int), .pointer (some ⟨b1, 0, none⟩), .pointer (some ⟨b2, 0, none⟩)] w fun e w' => e = .returned (.bool (ltB key x.1)) ∧ Below w.heap.size w w' := by
  obtain ⟨b, off, y, rfl, hy, hcl⟩ := hP.out.at hi
  have hxy : x = y := by have := hx.out; rw [hy] at this; injection this with this; exact this.symm
  have c0 := hcl.c0
  have k1 := h1.cell
  have k2 := h2.cell
  rw [hxy]
  obtain ⟨A, hA⟩ : ∃ A, Op.bytesLess (bs y.1).toList (bs key).toList = A := ⟨_, rfl⟩
  obtain ⟨B, hB⟩ : ∃ B, ((bs y.1).toList == (bs key).toList) = B := ⟨_, rfl⟩
  obtain ⟨z, hz⟩ : ∃ z, z = ltB key y.1 := ⟨_, rfl⟩
  rw [← hz]
  have HZ := Lib.hid (show z = (!A && !B) by
    rw [hz, ← hA, ← hB]
    rcases cmp3 y.1 key with ⟨e1, e2, e3⟩ | ⟨e1, e2, e3⟩ | ⟨e1, e2, e3⟩ <;> rw [e1, e2, e3] <;> rfl)
  clear hxy hx hy h1 h2 hcl hz
  go_enter Tryz.func78, Tryz.ntmps78
  go_wp2_with fail
  go_quiet (fail)
  go_wp2_with fail
  go_ret
  exact ⟨by rw [HZ.out]; rfl, below_drewN (Below.refl _ _) _⟩
structure AtPost (P : List Pc) (key : List UInt8) (w : World) (e : Ending) (w' : World) : Prop where
  out : ∃ r, e = .returned (.int .i64 ((r : Nat) : Int)) ∧ r ≤ P.length ∧ (∀ x, 0 < r → P[r - 1]? = some x → ltB key x.1 = false) ∧ (∀ x, P[r]? = some x → ltB key x.1 = true)
  bel : Below w.heap.size w w'
set_option maxHeartbeats 2000000 in
theorem at_search (b1 b2 p q : Nat) (a : Option Addr) (len cap : Nat) (P : List Pc) (key : List UInt8) (w : World) (h1 : BxP b1 p w) (h2 : Bx b2 key w) (hc : Hid (w.cell? ⟨p, 1, none⟩ = some (.slice a len cap))) (hP : Hid (IsP w q a len P)) (hl : len ≤ 100000) :
    Calls Tryz.prog 77 #[.int .i64 (len : Int), .func (.func 78) #[] #[.pointer (some ⟨b1, 0, none⟩), .pointer (some ⟨b2, 0, none⟩)]] w (AtPost P key w) := by
  have H1 := Lib.hid h1
  have H2 := Lib.hid h2
  clear h1 h2
  go_enter Tryz.func77, Tryz.ntmps77
  go_wp2_with fail
  go_loopw [5, 6] (fun iv jv wr => ∃ i j : Nat, i ≤ j ∧ j ≤ len ∧ iv = .int .i64 i ∧ jv = .int .i64 j ∧ Hid (∀ x, 0 < i → P[i - 1]? = some x → ltB key x.1 = false) ∧ Hid (∀ x, P[j]? = some x → ltB key x.1 = true) ∧ Hid (Below w.heap.size w wr)) (fun iv jv wr => (intOf jv).toNat - (intOf iv).toNat)
  case atStart => exact ⟨0, len, by omega, by omega, rfl, rfl, Lib.hid (fun x h => absurd h (by omega)), Lib.hid (fun x h => by have := (List.getElem?_eq_some_iff.1 h).1; have := hP.out.1; omega), Lib.hid (Below.refl _ _)⟩
  case round =>
    obtain ⟨i, j, hij, hj, rfl, rfl, hA, hZ, hB⟩ := hrel
    by_cases hlt : i < j
    · obtain ⟨m, hm⟩ : ∃ m, m = (i + j) / 2 := ⟨_, rfl⟩
      obtain ⟨s, hs⟩ : ∃ s : Int, s = (i : Int) + (j : Int) := ⟨_, rfl⟩
      have hs1 : IntKind.i64.wrap ((i : Int) + (j : Int)) = s := by rw [IntWalk.i64_in _ (by omega), hs]
      have hm1 : s / 2 = (m : Int) := by omega
      have hmi : i ≤ m := by omega
      have hmj : m < j := by omega
      have hml : m < len := by omega
      have hs0 : 0 ≤ s := by omega
      have hs2 : s ≤ 200000 := by omega
      have hs3 : (i : Int) + (j : Int) = s := hs.symm
      obtain ⟨x, hx⟩ : ∃ x, P[m]? = some x := ⟨_, List.getElem?_eq_getElem (by have := hP.out.1; omega)⟩
      have HL := Lib.hid (at_look b1 b2 p q a len cap P key m x wr ((hB.out.block b1 (heap_lt H1.out)).trans H1.out) ((hB.out.block b2 (heap_lt H2.out)).trans H2.out) (by rw [hB.out.cell (cell_block hc.out)]; exact hc.out) (Lib.hid (hP.out.keep fun j _ hj => hB.out.block j hj)) hml (Lib.hid hx))
      have HX := Lib.hid hx
      have HM := Lib.hid (And.intro hmi hmj)
      clear hs hm hx
      cases hcs : ltB key x.1 with
      | false =>
        rw [hcs] at HL
        have HC := Lib.hid hcs
        clear hcs
        go_wp2_with fail
        refine HL.out.mono ?_
        rintro e w2 ⟨rfl, k2⟩
        have HB2 := Lib.hid (hB.out.trans (k2.mono hB.out.size))
        clear k2
        go_wp2_with fail
        go_roundw
        case rel => exact ⟨m + 1, j, by omega, hj, by go_num, rfl, Lib.hid (fun y _ hy => by rw [Nat.add_sub_cancel, HX.out] at hy; injection hy with hy; rw [← hy]; exact HC.out), hZ, HB2⟩
        case measure => simp [intOf]; omega
      | true =>
        rw [hcs] at HL
        have HC := Lib.hid hcs
        clear hcs
        go_wp2_with fail
        refine HL.out.mono ?_
        rintro e w2 ⟨rfl, k2⟩
        have HB2 := Lib.hid (hB.out.trans (k2.mono hB.out.size))
        clear k2
        go_wp2_with fail
        go_roundw
        case rel => exact ⟨i, m, hmi, by omega, rfl, rfl, hA, Lib.hid (fun y hy => by rw [HX.out] at hy; injection hy with hy; rw [← hy]; exact HC.out), HB2⟩
        case measure => simp [intOf]; omega
    · obtain rfl : i = j := by omega
      go_wp2_with fail
      go_ret
      exact ⟨⟨i, rfl, by have := hP.out.1; omega, hA.out, hZ.out⟩, hB.out⟩
set_option maxHeartbeats 1000000 in
theorem table_blockOf (p q : Nat) (a : Option Addr) (len cap : Nat) (P : List Pc) (key : List UInt8) (w : World) (hc : Hid (w.cell? ⟨p, 1, none⟩ = some (.slice a len cap))) (hP : Hid (IsP w q a len P)) (hr : Hid (risesK P)) (hl : len ≤ 100000) :
    Calls Tryz.prog 48 #[.pointer (some ⟨p, 0, none⟩), .string (bs key)] w fun e w' => e = .returned (.int .i64 ((fromN key (P.map (·.1)) : Int) - 1)) ∧ Below w.heap.size w w' := by
  obtain ⟨w0, hw0⟩ : ∃ w0, (w.alloc (.cells #[.pointer (some ⟨p, 0, none⟩)] 34)).alloc (.cells #[.string (bs key)] 9) = w0 := ⟨_, rfl⟩
  have K0 := Lib.hid (show Below w.heap.size w w0 by rw [← hw0]; exact ((Below.refl _ _).alloc (Nat.le_refl _) _).alloc (by simp) _)
  have S0 := Lib.hid (show BxP w.heap.size p w0 by rw [← hw0]; exact (Below.heap_alloc _ _ _ (by simp)).trans (heap_new w _))
  have S1 := Lib.hid (show Bx (w.heap.size + 1) key w0 by
    have h := heap_new (w.alloc (.cells #[.pointer (some ⟨p, 0, none⟩)] 34)) (.cells #[.string (bs key)] 9)
    rw [show (w.alloc (.cells #[.pointer (some ⟨p, 0, none⟩)] 34)).heap.size = w.heap.size + 1 by simp] at h
    rw [← hw0]; exact h)
  have hc0 : w0.cell? ⟨p, 1, none⟩ = some (.slice a len cap) := by rw [K0.out.cell (cell_block hc.out)]; exact hc.out
  have HS := Lib.hid (at_search w.heap.size (w.heap.size + 1) p q a len cap P key w0 S0.out S1.out (Lib.hid hc0) (Lib.hid (hP.out.keep fun j _ hj => K0.out.block j hj)) hl)
  have c0 : w0.cell? ⟨w.heap.size, 0, none⟩ = some (.pointer (some ⟨p, 0, none⟩)) := S0.out.cell
  have HW0 := Lib.hid hw0
  clear hw0
  go_enter Tryz.func48, Tryz.ntmps48
  go_upto_region 1 with (fail)
  rw [HW0.out]
  go_wp2_with fail
  refine HS.out.mono ?_
  rintro e w1 ⟨⟨r, rfl, h1, h2, h3⟩, k1⟩
  have hf := Lib.hid (from_found hr.out h1 h2 h3)
  have hrl : r ≤ 100000 := by have := hP.out.1; omega
  clear h2 h3
  go_wp2_with fail
  go_ret
  exact ⟨ret1 (by rw [hf.out]), K0.out.trans (k1.mono K0.out.size)⟩
end Go.Proofs.YteejldddgogbkaaGreatDoor
/- A block of a table, read. -/
set_option linter.unusedVariables false
set_option maxRecDepth 100000
namespace Go.Proofs.YteejldddgogbkaaGreatDoor
open Go.RowKit

/-- A block's entries, or the error; the source refuses with d. -/
def blockD (t : Tab) (d : Int) (i : Nat) : Int × List Ent := if d ≠ 0 then (d, []) else blockT t i
theorem seen_of' {F : FuncId} {args : Array Value} {v : Value} {K : List (Nat × Obj)} {W : World} (h : ∀ W, Keep K W → Calls Tryz.prog F args W fun e w' => e = .returned v ∧ Below W.heap.size W w') (hK : Keep K W) (m : Seen W) : Calls Tryz.prog F args m.val fun e w'' => e = .returned v ∧ ∃ q : Seen W, w'' = q.val :=
  (h m.val (hK.below m.below)).mono fun _ w'' ⟨h1, h2⟩ => ⟨h1, ⟨⟨w'', m.below.trans (h2.mono m.below.size)⟩, rfl⟩⟩
structure BlkPost (p : Nat) (v : Value) (t : Tab) (n : Int) (R : Int × List Ent) (w : World) (e : Ending) (w' : World) : Prop where
  out : ∃ a cap, e = .returned (.tuple #[.slice a R.2.length cap, .int .i64 R.1]) ∧ R.2.length ≤ cap ∧ IsE w' a R.2.length R.2
  tab : TabM p v (n + 1) t w'
  only : Only (fun j => j = p) w w'
  new : NewE w e
theorem BlkPost.bad {p : Nat} {v : Value} {t : Tab} {n : Int} {R : Int × List Ent} {w w' : World} {z : Int} (h : R = (z, [])) (ht : TabM p v (n + 1) t w') (ho : Only (fun j => j = p) w w') : BlkPost p v t n R w (.returned (.tuple #[.slice none 0 0, .int .i64 z])) w' :=
  ⟨⟨none, 0, by rw [h]; rfl, by rw [h]; exact Nat.le_refl _, by rw [h]; exact IsE.nil _ _⟩, ht, ho, NewE.none _ _ _ _⟩
theorem Only.of_below' {B : Nat} {S : Nat → Prop} {w w' : World} (h : Below B w w') (hB : B = w.heap.size) : Only S w w' := ⟨h.os, h.tape, h.output, h.size, fun k hk _ => h.block k (by omega)⟩
theorem opn_err {l : List UInt8} (h : (opn l).1 ≠ 0) : (opn l).2 = [] := by
  unfold opn at h ⊢
  simp only at h ⊢
  split
  · rfl
  split
  · rfl
  split
  · rfl
  split
  · rfl
  · rename_i h1 h2 h3 h4
    rw [if_neg h1, if_neg h2, if_neg h3, if_neg h4] at h
    exact absurd rfl h
theorem opnS_few (s : List UInt8) : (opnS s).2.length ≤ 65536 := by
  by_cases h : (opnS s).1 = 0
  · exact ((chkE_ok _).1 (pack_open h).1).2
  · unfold opnS at h ⊢
    split
    · exact Nat.zero_le _
    · rename_i h1
      rw [if_neg h1] at h
      rw [opn_err h]
      exact Nat.zero_le _
set_option maxHeartbeats 4000000 in
theorem table_readBlock (p F : Nat) (c : Array Value) (K : List (Nat × Obj)) (d : Int) (t : Tab) (n : Int) (i : Nat) (w : World) (hM : Hid (TabM p (srcV F c) n t w)) (hf : Hid (FineT t)) (hs : Hid (Src F c K d t.bytes)) (hk : Hid (Keep K w)) (hKp : Hid (∀ q ∈ K, q.1 ≠ p)) (hi : i < t.index.length) (hn1 : -1000000000000000000 ≤ n) (hn2 : n ≤ 1000000000000000000) (hl : t.bytes.length ≤ 100000000000) :
    Calls Tryz.prog 49 #[.pointer (some ⟨p, 0, none⟩), .int .i64 (i : Int)] w (BlkPost p (srcV F c) t n (blockD t d i) w) := by
  obtain ⟨a, cap, fb, fg, h1, h2, h3, h4, h5⟩ := hM.out.ex
  obtain ⟨w1, hw1⟩ : ∃ w1, w1 = w.setCell ⟨p, 4, none⟩ (.int .i64 (n + 1)) := ⟨_, rfl⟩
  have M1 := Lib.hid (show TabM p (srcV F c) (n + 1) t w1 by rw [hw1]; exact hM.out.reads (n + 1))
  have O1 := Lib.hid (show Only (fun j => j = p) w w1 by rw [hw1]; exact (Only.refl (fun j => j = p) w).setCell (p := ⟨p, 4, none⟩) (.inl rfl) _)
  have K1 := Lib.hid (hk.out.only O1.out fun q hq => hKp.out q hq)
  have e4 : w.cell? ⟨p, 4, none⟩ = some (.int .i64 n) := by simp [World.cell?, h1]
  have f4 : w.frozen? ⟨p, 4, none⟩ = false := by simp [World.frozen?, h1]
  obtain ⟨a1, cap1, fb1, fg1, g1, g2, g3, g4, g5⟩ := M1.out.ex
  obtain ⟨len, hlen⟩ : ∃ len, len = t.index.length := ⟨_, rfl⟩
  rw [← hlen] at g1 g2 hi
  have c0 : w1.cell? ⟨p, 0, none⟩ = some (srcV F c) := by simp [World.cell?, g1]
  have c1 : w1.cell? ⟨p, 1, none⟩ = some (.slice a1 len cap1) := by simp [World.cell?, g1]
  obtain ⟨b, off, x, rfl, hx, hcl⟩ := g2.at hi
  rw [piecesOf_at hf.out (by rw [← hlen]; exact hi)] at hx
  obtain ⟨ky, hky⟩ : ∃ ky, ky = (t.index.map (·.key)).getD i [] := ⟨_, rfl⟩
  obtain ⟨at_, hat⟩ : ∃ at_, at_ = (t.places.getD i (0, 0)).1 := ⟨_, rfl⟩
  obtain ⟨sz, hsz⟩ : ∃ sz, sz = (t.places.getD i (0, 0)).2 := ⟨_, rfl⟩
  have hxe : x = (ky, at_, sz) := by injection hx with hx; rw [hky, hat, hsz, ← hx]
  rw [hxe] at hcl
  have hin : at_ + sz ≤ t.bytes.length := by
    rw [hat, hsz]
    refine hf.out.inn _ ?_
    rw [List.getD_eq_getElem?_getD, List.getElem?_eq_getElem (by rw [hf.out.pl, ← hlen]; exact hi)]
    exact List.getElem_mem _
  have p0 := hcl.c0
  have p1 := hcl.c1
  have p2 := hcl.c2
  have hC := hs.out.calls
  have eF := hs.out.enters
  have hbl := hf.out.few
  rw [← hlen] at hbl
  unfold Enters at eF
  unfold srcV at c0 ⊢
  obtain ⟨s, hsd⟩ : ∃ s, s = (t.bytes.drop at_).take sz := ⟨_, rfl⟩
  have hsl : s.length ≤ 100000000000 := by rw [hsd, List.length_take, List.length_drop]; omega
  have hnw : IntKind.i64.wrap (n + 1) = n + 1 := IntWalk.i64_in _ (by omega)
  have HC := Lib.hid (fun (W : World) (hW : Keep K W) => by have h := hC W hW at_ sz hin; rw [← hsd] at h; exact h)
  obtain ⟨y, hy⟩ : ∃ y, y = (if d = 0 then s else []) := ⟨_, rfl⟩
  have HC2 := Lib.hid (fun m : Seen w1 => by have h := seen_of' (fun W hW => by have h := HC.out W hW; rw [← hy] at h; exact h) K1.out m; exact h)
  have HBT := Lib.hid (show blockD t d i = if d ≠ 0 then (d, []) else if (opnS s).1 ≠ 0 then ((opnS s).1, []) else if (opnS s).2.isEmpty = true ∨ keyE (opnS s).2 ≠ ky then (3, []) else (0, (opnS s).2) by unfold blockD blockT; simp only [← hat, ← hsz, ← hky, ← hsd])
  have HW1 := Lib.hid hw1
  have HY := Lib.hid hy
  clear hw1 hlen hky hat hsz hxe hx hcl hC hsd h1 h2 h3 h4 h5 g1 g2 g3 g4 g5 hin HC hM hk hy
  by_cases hd : d = 0
  · subst hd
    have hys : y = s := by rw [HY.out, if_pos rfl]
    subst hys
    have hop := fun W => block_Open_new y W hsl
    have hBT := HBT.out
    rw [if_neg (fun h => h rfl)] at hBT
    obtain ⟨o, ho⟩ : ∃ o, o = opnS y := ⟨_, rfl⟩
    rw [← ho] at hBT
    have HO := Lib.hid ho
    have HOP := Lib.hid hop
    have HBT2 := Lib.hid hBT
    clear hBT ho hop HBT HY
    go_enter Tryz.func49, Tryz.ntmps49
    go_upto_region 2 with (fail)
    rw [← HW1.out]
    clear e4 f4
    have nc0 : ∀ m : Seen w1, m.val.cell? ⟨p, 0, none⟩ = some (.func (.func F) #[] c) := fun m => by rw [m.below.cell (cell_block c0)]; exact c0
    have nc1 : ∀ m : Seen w1, m.val.cell? ⟨p, 1, none⟩ = some (.slice (some ⟨b, off, none⟩) len cap1) := fun m => by rw [m.below.cell (cell_block c1)]; exact c1
    have np1 : ∀ m : Seen w1, m.val.cell? ⟨b, off + i * 3 + 1, none⟩ = some (.int .i64 (at_ : Int)) := fun m => by rw [m.below.cell (cell_block p1)]; exact p1
    have np2 : ∀ m : Seen w1, m.val.cell? ⟨b, off + i * 3 + 2, none⟩ = some (.int .i64 (sz : Int)) := fun m => by rw [m.below.cell (cell_block p2)]; exact p2
    refine region_seen (by kernel_rfl) (by kernel_rfl) ?_
    repeat go_big_quiet_step (first | (with_reducible exact HC2.out _))
    refine wpQuiet_nil ?_
    rintro _ ⟨m1, rfl⟩
    have M2 := Lib.hid (M1.out.below m1.below)
    have O2 := Lib.hid (O1.out.trans (Only.of_below' (S := fun j => j = p) m1.below rfl))
    obtain ⟨w2, hw2⟩ : ∃ w2, w2 = m1.val := ⟨_, rfl⟩
    rw [← hw2] at M2 O2 ⊢
    have nc1' := nc1 m1
    have np0' : m1.val.cell? ⟨b, off + i * 3, none⟩ = some (.string (bs ky)) := by rw [m1.below.cell (cell_block p0)]; exact p0
    rw [← hw2] at nc1' np0'
    clear hw2 nc0 nc1 np1 np2 c0 c1 p0 p1 p2 HC2 eF
    go_wp2_with fail
    refine (HOP.out w2).mono ?_
    rintro e w3 ⟨⟨⟨xa, xc, he, hxc, hxe⟩, k3⟩, hnew⟩
    rw [← HO.out] at he hxc hxe
    have M3 := Lib.hid (M2.out.below k3)
    have O3 := Lib.hid (O2.out.trans (Only.of_below' (S := fun j => j = p) k3 rfl))
    have q1 : w3.cell? ⟨p, 1, none⟩ = some (.slice (some ⟨b, off, none⟩) len cap1) := by rw [k3.cell (cell_block nc1')]; exact nc1'
    have q0 : w3.cell? ⟨b, off + i * 3, none⟩ = some (.string (bs ky)) := by rw [k3.cell (cell_block np0')]; exact np0'
    clear k3 nc1' np0'
    obtain ⟨z, hz⟩ : ∃ z, z = o.1 := ⟨_, rfl⟩
    obtain ⟨T, hT⟩ : ∃ T, T = o.2 := ⟨_, rfl⟩
    obtain ⟨m, hm⟩ : ∃ m, m = T.length := ⟨_, rfl⟩
    rw [← hz, ← hT, ← hm] at he
    rw [← hT, ← hm] at hxc hxe
    have hB := HBT2.out
    rw [← hz, ← hT] at hB
    have HNew := Lib.hid (show NewE w e from fun b off n c z h => Nat.le_trans O2.out.size (hnew b off n c z h))
    clear hnew
    have hmb : m ≤ 100000000000 := by rw [hm, hT, HO.out]; exact Nat.le_trans (opnS_few y) (by decide)
    subst he
    by_cases h1 : z = 0
    · rw [if_neg (fun h => h h1)] at hB
      subst h1
      by_cases h2 : m = 0
      · rw [if_pos (.inl (by rw [List.isEmpty_iff, ← List.length_eq_zero_iff, ← hm]; exact h2))] at hB
        have HB := Lib.hid hB
        subst h2
        clear hB hz hT hm hxc hxe
        go_wp2_with fail
        go_quiet (fail)
        go_wp2_with fail
        go_ret2
        exact BlkPost.bad HB.out (M3.out.below (below_drewN (Below.refl _ _) _)) (O3.out.drewN _)
      · obtain ⟨b2, off2, x0, rfl, hx0, _, hc0⟩ := hxe.at (k := 0) (by omega)
        have d0 := hc0.c0
        rw [Nat.zero_mul, Nat.add_zero] at d0
        have hke : keyE T = x0.key := by cases T with
          | nil => simp at hx0
          | cons y Q => simp at hx0; rw [← hx0]; rfl
        have hem : T.isEmpty = false := by cases T with
          | nil => simp at hx0
          | cons y Q => rfl
        rw [hem, hke] at hB
        have hmi : ¬ (m : Int) = 0 := by omega
        have hmb0 : ((m : Int) == 0) = false := beq_eq_false_iff_ne.2 hmi
        have h0m : (0 : Int) < (m : Int) := by omega
        by_cases hkk : x0.key = ky
        · rw [if_neg (by rintro (h | h); (cases h); (exact h hkk))] at hB
          have hcm : ((bs x0.key).toList == (bs ky).toList) = true := (same_bytes _ _).2 hkk
          have hcp : (bs x0.key).toList = (bs ky).toList := by rw [hkk]
          have HB := Lib.hid hB
          have HT := Lib.hid (show m = T.length from hm)
          have HXC := Lib.hid hxc
          have HXE := Lib.hid hxe
          clear hB hz hT hm hxc hxe hkk h2 hem hke hx0 hc0
          go_wp2_with fail
          go_quiet (fail)
          go_wp2_with fail
          go_ret2
          refine ⟨⟨some ⟨b2, off2, none⟩, xc, ?_, ?_, ?_⟩, M3.out.below (below_drewN (Below.refl _ _) _), O3.out.drewN _, HNew.out⟩
          · rw [HB.out, HT.out]; rfl
          · rw [HB.out]; show T.length ≤ xc; rw [← HT.out]; exact HXC.out
          · rw [HB.out]
            have h := HXE.out.below (below_drewN (Below.refl w3.heap.size w3) nq)
            rw [HT.out] at h
            exact h
        · rw [if_pos (.inr hkk)] at hB
          have hcm : ((bs x0.key).toList == (bs ky).toList) = false := by
            cases h : ((bs x0.key).toList == (bs ky).toList) with
            | false => rfl
            | true => exact absurd ((same_bytes _ _).1 h) hkk
          have hcp : ¬ (bs x0.key).toList = (bs ky).toList := fun h => by rw [h] at hcm; simp at hcm
          have HB := Lib.hid hB
          clear hB hz hT hm hxc hxe hkk h2 hem hke hx0 hc0
          go_wp2_with fail
          go_quiet (fail)
          go_wp2_with fail
          go_ret2
          exact BlkPost.bad HB.out (M3.out.below (below_drewN (Below.refl _ _) _)) (O3.out.drewN _)
    · have hzb : (z == 0) = false := beq_eq_false_iff_ne.2 h1
      rw [if_pos h1] at hB
      have HB := Lib.hid hB
      clear hB hz hT hm hxc hxe
      go_wp2_with fail
      go_ret2
      exact BlkPost.bad HB.out M3.out O3.out
  · have hB := HBT.out
    rw [if_pos hd] at hB
    have HB := Lib.hid hB
    have hdb : (d == 0) = false := beq_eq_false_iff_ne.2 hd
    clear hB HBT
    go_enter Tryz.func49, Tryz.ntmps49
    go_upto_region 2 with (fail)
    rw [← HW1.out]
    clear e4 f4
    have nc0 : ∀ m : Seen w1, m.val.cell? ⟨p, 0, none⟩ = some (.func (.func F) #[] c) := fun m => by rw [m.below.cell (cell_block c0)]; exact c0
    have nc1 : ∀ m : Seen w1, m.val.cell? ⟨p, 1, none⟩ = some (.slice (some ⟨b, off, none⟩) len cap1) := fun m => by rw [m.below.cell (cell_block c1)]; exact c1
    have np1 : ∀ m : Seen w1, m.val.cell? ⟨b, off + i * 3 + 1, none⟩ = some (.int .i64 (at_ : Int)) := fun m => by rw [m.below.cell (cell_block p1)]; exact p1
    have np2 : ∀ m : Seen w1, m.val.cell? ⟨b, off + i * 3 + 2, none⟩ = some (.int .i64 (sz : Int)) := fun m => by rw [m.below.cell (cell_block p2)]; exact p2
    refine region_seen (by kernel_rfl) (by kernel_rfl) ?_
    repeat go_big_quiet_step (first | (with_reducible exact HC2.out _))
    refine wpQuiet_nil ?_
    rintro _ ⟨m1, rfl⟩
    have M2 := Lib.hid (M1.out.below m1.below)
    have O2 := Lib.hid (O1.out.trans (Only.of_below' (S := fun j => j = p) m1.below rfl))
    clear nc0 nc1 np1 np2 c0 c1 p0 p1 p2 HC2 eF
    go_wp2_with fail
    go_ret2
    exact BlkPost.bad HB.out M2.out O2.out
end Go.Proofs.YteejldddgogbkaaGreatDoor
/- What the document's Open leaves. -/
set_option linter.unusedVariables false
set_option maxRecDepth 100000
namespace Go.Proofs.YteejldddgogbkaaGreatDoor
open Go.RowKit

theorem OwnN.weak {w : World} {B D : Nat} {v : Value} {L : List Nat} (h : OwnN w D v L) (hB : B ≤ D) : OwnN w B v L := by
  obtain ⟨h1, h2⟩ := h
  refine ⟨h1, ?_⟩
  rcases h2 with h2 | ⟨g, off, cap, cur, e1, h3, h4⟩
  · exact .inl h2
  · exact .inr ⟨g, off, cap, cur, e1, Nat.le_trans hB h3, h4⟩
/-- What a table of the document's leans on in memory: all of it new. -/
structure RParts (B n : Nat) (X : List Ent) (Q : List (Nat × Nat)) (bits : List UInt8) (ia aa : Option Addr) (ac : Nat) (sa : Option Addr) (sc g : Nat) (W : World) : Prop where
  lenX : n = X.length
  lenQ : n = Q.length
  idx : IsE W ia n X
  idxN : ∀ b off, ia = some ⟨b, off, none⟩ → B ≤ b
  at' : OwnN W B (.slice aa n ac) (Q.map (·.1))
  size : OwnN W B (.slice sa n sc) (Q.map (·.2))
  row : RowB g (bitAt bits) (8 * bits.length) W
  rowN : B ≤ g
/-- What the document's Open leaves. -/
structure ROpenTab (s : List UInt8) (w : World) (e : Ending) (w' : World) : Prop where
  out : ((openTab s).1 ≠ 0 ∧ e = .returned (.tuple #[noV, .int .i64 (openTab s).1])) ∨
    ((openTab s).1 = 0 ∧ ∃ n ia ic aa ac sa sc g cap, e = .returned (.tuple #[mV s ia n ic aa n ac sa n sc (openTab s).2.h g (8 * (openTab s).2.bits.length) cap ((openTab s).2.count : Int), .int .i64 0]) ∧
      RParts w.heap.size n (openTab s).2.index (openTab s).2.places (openTab s).2.bits ia aa ac sa sc g w')
  bel : Below w.heap.size w w'
theorem ROpenTab.bad {s : List UInt8} {w w' : World} {z : Int} (h : openTab s = (z, noTab)) (hz : z ≠ 0) (hb : Below w.heap.size w w') : ROpenTab s w (.returned (.tuple #[noV, .int .i64 z])) w' :=
  ⟨.inl ⟨by rw [h]; exact hz, by rw [h]⟩, hb⟩
theorem take_len {l : List UInt8} (h : takeE l = 0) : (takeT l).length + 4 = l.length := by
  unfold takeE at h
  split at h
  · cases h
  · split at h
    · rename_i h1 h2
      unfold takeT
      rw [if_pos ⟨by omega, h2⟩, List.length_take]
      omega
    · cases h
theorem infoInt9 : (Tryz.prog.info? 3).map (fun i => (i.zero, i.size, i.bytes)) = some (some (.int .i64 0), 1, 8) := by kernel_rfl
theorem num4_lt' (l : List UInt8) : num4 l < 4294967296 := num4_lt l
theorem IsE.only {v w : World} {a : Option Addr} {n p : Nat} {T : List Ent} (h : IsE v a n T) (hp : ∀ b off, a = some ⟨b, off, none⟩ → b ≠ p) (o : Only (fun k => k = p) v w) : IsE w a n T := by
  obtain ⟨h1, b, off, h2, h3⟩ := h
  rcases h2 with h2 | h2
  · exact ⟨h1, b, off, .inl h2, fun k hk => by rw [← h1, h2] at hk; exact absurd hk (by omega)⟩
  · refine ⟨h1, b, off, .inr h2, fun k hk => ?_⟩
    have hc := h3 k hk
    have hb := o.block b hc.lt (hp b off h2)
    exact ⟨Nat.lt_of_lt_of_le hc.lt o.size, by rw [World.cell?_of_block hb]; exact hc.c0, by rw [World.cell?_of_block hb]; exact hc.c1, by rw [World.cell?_of_block hb]; exact hc.c2⟩
theorem only_put7 (w : World) (g : Nat) (u0 u1 u2 u3 u4 u5 u6 : Value) : Only (fun k => k = g) w (((((((w.setCell ⟨g, 0, none⟩ u0).setCell ⟨g, 1, none⟩ u1).setCell ⟨g, 2, none⟩ u2).setCell ⟨g, 3, none⟩ u3).setCell ⟨g, 4, none⟩ u4).setCell ⟨g, 5, none⟩ u5).setCell ⟨g, 6, none⟩ u6) :=
  (((((((Only.refl (fun k => k = g) w).setCell (p := ⟨g, 0, none⟩) (.inl rfl) u0).setCell (p := ⟨g, 1, none⟩) (.inl rfl) u1).setCell (p := ⟨g, 2, none⟩) (.inl rfl) u2).setCell (p := ⟨g, 3, none⟩) (.inl rfl) u3).setCell (p := ⟨g, 4, none⟩) (.inl rfl) u4).setCell (p := ⟨g, 5, none⟩) (.inl rfl) u5).setCell (p := ⟨g, 6, none⟩) (.inl rfl) u6
theorem RowB.only {g n p : Nat} {f : Nat → Bool} {v w : World} (h : RowB g f n v) (o : Only (fun k => k = p) v w) (hg : g ≠ p) : RowB g f n w := by
  have hb := o.block g h.1 hg
  refine ⟨Nat.lt_of_lt_of_le h.1 o.size, fun j hj => ?_⟩
  obtain ⟨h1, h2⟩ := h.2 j hj
  exact ⟨by rw [World.cell?_of_block hb]; exact h1, by rw [show w.frozen? ⟨g, j, none⟩ = v.frozen? ⟨g, j, none⟩ by simp [World.frozen?, hb]]; exact h2⟩
theorem RParts.only {B n p : Nat} {X : List Ent} {Q : List (Nat × Nat)} {bits : List UInt8} {ia aa : Option Addr} {ac : Nat} {sa : Option Addr} {sc g : Nat} {W W' : World} (h : RParts B n X Q bits ia aa ac sa sc g W) (hp : p < B) (o : Only (fun k => k = p) W W') : RParts B n X Q bits ia aa ac sa sc g W' :=
  ⟨h.lenX, h.lenQ, h.idx.only (fun b off e => by have := h.idxN b off e; omega) o, h.idxN,
    OffRow.kept h.at' fun j hj => o.block j (OffRow.lt h.at' j hj).2 (by have := (OffRow.lt h.at' j hj).1; omega),
    OffRow.kept h.size fun j hj => o.block j (OffRow.lt h.size j hj).2 (by have := (OffRow.lt h.size j hj).1; omega),
    h.row.only o (by have := h.rowN; omega), h.rowN⟩
theorem RParts.below {B n : Nat} {X : List Ent} {Q : List (Nat × Nat)} {bits : List UInt8} {ia aa : Option Addr} {ac : Nat} {sa : Option Addr} {sc g : Nat} {W W' : World} (h : RParts B n X Q bits ia aa ac sa sc g W) (k : Below W.heap.size W W') : RParts B n X Q bits ia aa ac sa sc g W' :=
  ⟨h.lenX, h.lenQ, h.idx.below k, h.idxN, h.at'.below k, h.size.below k, h.row.below k, h.rowN⟩
theorem ROpenTab.good {s bits : List UInt8} {w w' : World} {X : List Ent} {Q : List (Nat × Nat)} {h c n ic ac sc g cap : Nat} {ia aa sa : Option Addr} (h0 : openTab s = (0, ⟨s, X, Q, h, bits, c⟩)) (hP : RParts w.heap.size n X Q bits ia aa ac sa sc g w') (hb : Below w.heap.size w w') :
    ROpenTab s w (.returned (.tuple #[.agg #[.string (bs s), .slice ia n ic, .slice aa n ac, .slice sa n sc, .int .i64 (h : Int), .slice (some ⟨g, 0, none⟩) (8 * bits.length) cap, .int .i64 (c : Int)], .int .i64 0])) w' := by
  refine ⟨.inr ⟨by rw [h0], n, ia, ic, aa, ac, sa, sc, g, cap, ?_⟩, hb⟩
  rw [h0]
  exact ⟨rfl, hP⟩
theorem c7_only {b p : Nat} {ty : TypeId} {v0 v1 v2 v3 v4 v5 v6 : Value} {v w : World} (h : C7 b ty v0 v1 v2 v3 v4 v5 v6 v) (o : Only (fun k => k = p) v w) (hb : b ≠ p) : C7 b ty v0 v1 v2 v3 v4 v5 v6 w := (o.block b (heap_lt h) hb).trans h
end Go.Proofs.YteejldddgogbkaaGreatDoor
