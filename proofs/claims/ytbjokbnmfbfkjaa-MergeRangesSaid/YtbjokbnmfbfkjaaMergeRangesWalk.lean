/- The law that All goes through what is left, an error last: the walk. -/
import Derived.Test.YtbjokbnmfbfkjaaMergeAllRuns
set_option linter.unusedVariables false
set_option maxRecDepth 100000
namespace Go.Proofs.Ytbjokbnmfbfkjaa
open Go.RowKit
attribute [local go_sem] Oper.semAt_some

/-- A variable that holds an error. -/
def BxN (c : Nat) (k : Int) (w : World) : Prop := w.heap[c]? = some (.cells #[.int .i64 k] 45 (0, 0))
theorem BxN.cell {c : Nat} {k : Int} {w : World} (h : BxN c k w) : w.cell? ⟨c, 0, none⟩ = some (.int .i64 k) := by unfold BxN at h; simp [World.cell?, h]
theorem BxN.free {c : Nat} {k : Int} {w : World} (h : BxN c k w) : w.frozen? ⟨c, 0, none⟩ = false := by unfold BxN at h; simp [World.frozen?, h]
theorem BxN.put {c : Nat} {k : Int} {w : World} (h : BxN c k w) (u : Int) : BxN c u (w.setCell ⟨c, 0, none⟩ (.int .i64 u)) := heap_set (o := 0) h _
theorem BxN.only {c : Nat} {k : Int} {w w' : World} {S : Nat → Prop} (h : BxN c k w) (kk : Only S w w') (hS : ¬ S c) : BxN c k w' := (kk.block c (heap_lt h) hS).trans h
theorem all_run (v : Value) (hv : ∃ a, v = .pointer a) (w : World) : Calls Try.prog 24 #[v] w fun en w' => en = .returned (.func (.func 37) #[] #[.pointer (some ⟨w.heap.size, 0, none⟩)]) ∧ w' = w.alloc (.cells #[v] 29) := by
  obtain ⟨a, rfl⟩ := hv
  go_enter Try.func24, Try.ntmps24
  go_wp2_with fail
  go_ret
  exact ⟨rfl, rfl⟩
/-- The frame at a round's body. -/
def rangeAct (a a7 p9 : Option Addr) (n c m cap7 B pl zn b4 z : Nat) (e leave : Int) (x : Ent × Int) : Act :=
  { tmps := #[Value.agg #[Value.slice a n c, Value.int IntKind.i64 e], Value.int IntKind.i64 leave, Value.pointer (some { block := B, off := 0 }), Value.pointer (some { block := B + 1, off := 0 }), Value.pointer (some { block := B + 1 + 1, off := 0 }), Value.pointer (some { block := pl, off := 0 }), Value.pointer p9, Value.pointer (some { block := zn, off := 0 }), Value.pointer (some { block := zn + 1, off := 0 }), Value.pointer (some { block := z, off := 0 }), Value.int IntKind.i64 x.2, Value.bool true, Value.bool false, Value.bool false, Value.agg #[Value.slice a n c, Value.int IntKind.i64 e], Value.slice (some { block := b4, off := 0 }) 1 1, Value.bool true, Value.bool false, Value.bool false, undef, Value.pointer (some { block := B, off := 0 }), Value.slice a n c, Value.slice a7 m cap7, Value.slice a7 m cap7, Value.pointer (some { block := B, off := 1 }), Value.int IntKind.i64 e, Value.agg #[Value.slice a7 m cap7, Value.int IntKind.i64 e], Value.pointer p9, Value.pointer p9, Value.func (Fn.func 37) #[] #[Value.pointer (some { block := zn + 1 + 1, off := 0 })], Value.agg #[.string (bs x.1.key), .string (bs x.1.val), .bool x.1.gone], Value.int IntKind.i64 x.2, undef, undef, undef, undef, undef, undef, undef, undef, undef, undef, undef, undef, undef, undef, undef, undef, undef, undef, undef, undef, undef, undef, undef, undef, undef, undef, undef, undef, undef, undef, undef, undef, undef, undef, undef, undef, undef, undef, undef, undef, undef, undef, undef, undef, undef, undef, undef, undef, undef, undef, undef, undef, undef, undef, undef, undef, undef, undef], defers := [] }
/-- What stands while the law's loop goes on: k entries were met. -/
structure RangI (v8 : World) (v0 : Value) (a7 : Option Addr) (m cap7 B pl zn : Nat) (R : List Ent) (e leave : Int) (k : Nat) (last : Int) (W : World) : Prop where
  s : BxS pl (.slice a7 m cap7) W
  l : IsE W a7 m R
  n : BxI zn k W
  la : BxN (zn + 1) last W
  z : BxB (B + 1 + 1) false W
  r : BxR B v0 e W
  lv : BxI (B + 1) leave W
  bel : Only (fun j => pl + 1 ≤ j) v8 W
theorem RangI.only {v8 : World} {v0 : Value} {a7 : Option Addr} {m cap7 B pl zn : Nat} {R : List Ent} {e leave : Int} {k : Nat} {last : Int} {W W' : World} {S : Nat → Prop} (h : RangI v8 v0 a7 m cap7 B pl zn R e leave k last W) (o : Only S W W') (h1 : ¬ S pl) (h2 : NotIn a7 m S) (h3 : ¬ S zn) (h4 : ¬ S (zn + 1)) (h5 : ¬ S (B + 1 + 1)) (h6 : ¬ S B) (h7 : ¬ S (B + 1)) (hS : ∀ j, S j → pl + 1 ≤ j) :
    RangI v8 v0 a7 m cap7 B pl zn R e leave k last W' :=
  ⟨h.s.only o h1, h.l.only o h2, h.n.only o h3, h.la.only o h4, h.z.only o h5, h.r.only o h6, h.lv.only o h7, h.bel.trans (o.mono fun j _ hj => hS j hj)⟩
theorem fsK_l {c : Cu} {q k : Nat} (h : c.F k) : FsK c q k := Or.inl h
theorem ecells_drop : ∀ (R : List Ent) (k : Nat), (ecells R).drop (k * 3) = ecells (R.drop k)
  | [], k => by simp [ecells]
  | x :: R, 0 => rfl
  | x :: R, k + 1 => by
    rw [show (k + 1) * 3 = k * 3 + 1 + 1 + 1 by omega]
    exact ecells_drop R k
/-- What is left of the list, behind k of them. -/
theorem ents_drop {w : World} {B : Nat} {a : Option Addr} {m cap : Nat} {R : List Ent} (h : OwnE w B (.slice a m cap) R) (hm : m = R.length) {k : Nat} (hk : k ≤ m) :
    ∃ a', (∀ W, (Instr.slice 22 (.slice a m cap) (some (.int .i64 (k : Int))) none none).run Try.prog W = .ok (.slice a' (m - k) (cap - k)) W) ∧ IsE w a' (m - k) (R.drop k) := by
  obtain ⟨i0, hi, hz0, hz1, hz2⟩ := info_parts infoE
  unfold OwnE at h
  rw [← hm] at h
  obtain ⟨a', hsl, hO, -⟩ := slice_off Try.underlying22 hi hz1 h hk
  rw [ecells_drop] at hO
  have hl : m - k = (R.drop k).length := by rw [List.length_drop, hm]
  refine ⟨a', hsl, OwnE.is (B := B) (cap := cap - k) ?_ hl⟩
  unfold OwnE
  rw [← hl]
  exact hO
theorem keepsFrom_of_only {B : Nat} {Q : Nat → Prop} {W W' : World} (h : Only (fun k => k < B ∧ Q k) W W') : KeepsFrom B W W' :=
  ⟨h.size, fun k o hB hk _ => (h.block k (heap_lt hk) fun hh => by omega).trans hk⟩
set_option maxHeartbeats 8000000 in
theorem ranges_walk (a : Option Addr) (n c : Nat) (T : List Ent) (e : Int) (leave : Int) (w : World) (h : Hid (IsE w a n T)) (hn : n ≤ 9223372036854775807) (hf : Hid (fitE T)) (hlv : -9223372036854775808 ≤ leave ∧ leave ≤ 9223372036854775807) :
    Calls Try.prog 7 #[.agg #[.slice a n c, .int .i64 e], .int .i64 leave] w fun en w' => en = .returned (.bool true) ∧ Below w.heap.size w w' := by
  obtain ⟨B, hB⟩ : ∃ B, B = w.heap.size := ⟨_, rfl⟩
  obtain ⟨w1, hw1⟩ : ∃ w1, w1 = w.alloc (.cells #[.slice a n c, .int .i64 e] 24) := ⟨_, rfl⟩
  obtain ⟨w2, hw2⟩ : ∃ w2, w2 = w1.alloc (.cells #[.int .i64 leave] 3) := ⟨_, rfl⟩
  obtain ⟨w3, hw3⟩ : ∃ w3, w3 = w2.alloc (.cells #[.bool false] 4) := ⟨_, rfl⟩
  have s1 : w1.heap.size = B + 1 := by rw [hw1, hB]; simp
  have s2 : w2.heap.size = B + 2 := by rw [hw2]; simp [s1]
  have s3 : w3.heap.size = B + 3 := by rw [hw3]; simp [s2]
  have k1 : Below w.heap.size w w1 := by rw [hw1]; exact (Below.refl _ _).alloc (Nat.le_refl _) _
  have k2 : Below w1.heap.size w1 w2 := by rw [hw2]; exact (Below.refl _ _).alloc (Nat.le_refl _) _
  have k3 : Below w2.heap.size w2 w3 := by rw [hw3]; exact (Below.refl _ _).alloc (Nat.le_refl _) _
  have n2 : Only (fun _ => False) w1 w2 := Only.of_below' k2 rfl
  have n3 : Only (fun _ => False) w2 w3 := Only.of_below' k3 rfl
  have K3 := Lib.hid (show Below B w w3 by rw [hB]; exact k1.trans ((k2.trans (k3.mono k2.size)).mono k1.size))
  have R3 := Lib.hid (show BxR B (.slice a n c) e w3 from ((show BxR B (.slice a n c) e w1 by rw [hw1, hB]; exact heap_new w _).only n2 fun h => h).only n3 fun h => h)
  have L3 := Lib.hid (show BxI (B + 1) leave w3 from (show BxI (B + 1) leave w2 by rw [hw2, ← s1]; exact heap_new w1 _).only n3 fun h => h)
  have Z3 := Lib.hid (show BxB (B + 1 + 1) false w3 by rw [hw3, show B + 1 + 1 = w2.heap.size from s2.symm]; exact heap_new w2 _)
  have E3 := Lib.hid (h.out.below (by rw [← hB]; exact K3.out))
  have S3 := Lib.hid s3
  have HW := Lib.hid (show w3 = ((w.alloc (.cells #[.slice a n c, .int .i64 e] 24)).alloc (.cells #[.int .i64 leave] 3)).alloc (.cells #[.bool false] 4) by rw [hw3, hw2, hw1])
  have HB := Lib.hid hB
  have HAW1 := Lib.hid (law_awake w3)
  have HLEN := Lib.hid h.out.1
  rw [← hB]
  clear hB hw1 hw2 hw3 s1 s2 s3 k1 k2 k3 n2 n3
  refine (callsIn_wide (n := 5)).1 ?_
  refine callsIn_of_wp_marks Try.func7 rfl trivial ?_ rfl
  simp only [Try.ntmps7, List.size_toArray, List.length_cons, List.length_nil, Nat.reduceAdd, Nat.reduceSub, Array.replicate_succ, Array.replicate_zero, List.push_toArray, List.append_toArray, List.nil_append, List.cons_append]
  refine (wpIn_wide (n := 5)).2 ?_
  go_upto_region 1 with (fail)
  rw [← HW.out, ← HB.out]
  go_wp2_with fail
  refine HAW1.out.mono ?_
  rintro en w4 ⟨rfl, k4⟩
  have K4 := Lib.hid (show Below B w w4 from K3.out.trans (k4.mono (by rw [S3.out]; omega)))
  have n4 : Only (fun _ => False) w3 w4 := Only.of_below' k4 rfl
  have R4 := Lib.hid (R3.out.only n4 fun h => h)
  have L4 := Lib.hid (L3.out.only n4 fun h => h)
  have Z4 := Lib.hid (Z3.out.only n4 fun h => h)
  have E4 := Lib.hid (E3.out.below k4)
  have s4 := Lib.hid (show B + 3 ≤ w4.heap.size by have := k4.size; rw [S3.out] at this; exact this)
  have r0 := R4.out.c0
  have r1 := R4.out.c1
  obtain ⟨w5, hw5⟩ : ∃ w5, w5 = w4.alloc (.cells #[.slice a n c, .int .i64 e] 24) := ⟨_, rfl⟩
  have K5 : Below w4.heap.size w4 w5 := by rw [hw5]; exact (Below.refl _ _).alloc (Nat.le_refl _) _
  have Q5 : BxR w4.heap.size (.slice a n c) e w5 := by rw [hw5]; exact heap_new w4 _
  have IR : IsRows w5 (some ⟨w4.heap.size, 0, none⟩) 1 [⟨a, n, c, T, e⟩] := by
    refine ⟨rfl, ⟨w4.heap.size, 0, .inr rfl, fun k r hr => ?_⟩, fun r hr => ?_⟩
    · match k, hr with
      | 0, hr =>
        injection hr with hr
        subst hr
        exact ⟨heap_lt Q5, Q5.c0, Q5.c1⟩
      | k + 1, hr => cases hr
    · rw [List.mem_singleton.1 hr]
      exact ⟨E4.out.below K5, hn, hf.out⟩
  have HFW := Lib.hid (show Calls Try.prog 9 #[.slice (some ⟨w4.heap.size, 0, none⟩) 1 1] (w4.alloc (.cells #[.slice a n c, .int .i64 e] 24)) (fun en w' => en = .returned (.bool (fewR [⟨a, n, c, T, e⟩])) ∧ Below w5.heap.size w5 w') by
    rw [← hw5]; exact law_fewR _ 1 1 _ w5 (Lib.hid IR) (by omega))
  have n5 : Only (fun _ => False) w4 w5 := Only.of_below' K5 rfl
  have K5' := Lib.hid (show Below B w w5 from K4.out.trans (K5.mono (by have := s4.out; omega)))
  have R5 := Lib.hid (R4.out.only n5 fun h => h)
  have L5 := Lib.hid (L4.out.only n5 fun h => h)
  have Z5 := Lib.hid (Z4.out.only n5 fun h => h)
  have E5 := Lib.hid (E4.out.below K5)
  have s5 := Lib.hid (show B + 3 ≤ w5.heap.size from Nat.le_trans s4.out K5.size)
  clear hw5 K5 Q5 IR k4 n4 n5
  cases hfw : fewR [⟨a, n, c, T, e⟩] with
  | false =>
    rw [hfw] at HFW
    clear hfw
    go_wp2_with fail
    refine HFW.out.mono ?_
    rintro en w6 ⟨rfl, k6⟩
    have HAW := Lib.hid (law_awake w6)
    have K6 := Lib.hid (show Below B w w6 from K5'.out.trans (k6.mono (by have := s5.out; omega)))
    have Z6 := Lib.hid (Z5.out.only (S := fun _ => False) (Only.of_below' k6 rfl) fun h => h)
    have s6 := Lib.hid (Nat.le_trans s5.out k6.size)
    clear k6 r0 r1
    go_wp2_with fail
    refine HAW.out.mono ?_
    rintro en w7 ⟨rfl, k7⟩
    have K7 := Lib.hid (show Below B w w7 from K6.out.trans (k7.mono (by have := s6.out; omega)))
    have Z7 := Lib.hid (Z6.out.only (S := fun _ => False) (Only.of_below' k7 rfl) fun h => h)
    have z0 := Z7.out.cell
    have zf := Z7.out.free
    clear k7
    go_wp2_with fail
    have hz := (Z7.out.put true).cell
    refine ⟨.bool true, ?_, rfl, K7.out.setCell (p := ⟨B + 1 + 1, 0, none⟩) (by simp; omega) _⟩
    simp [results, Try.f7, go_sem, hz]
  | true =>
    have hn3 : n ≤ 3001 := by
      have := (few_of ((fewR_of hfw).2.2 _ List.mem_cons_self)).1
      rw [← HLEN.out] at this
      exact this
    rw [hfw] at HFW
    clear hfw hn
    go_wp2_with fail
    refine HFW.out.mono ?_
    rintro en w6 ⟨rfl, k6⟩
    have n6 : Only (fun _ => False) w5 w6 := Only.of_below' k6 rfl
    have K6 := Lib.hid (show Below B w w6 from K5'.out.trans (k6.mono (by have := s5.out; omega)))
    have R6 := Lib.hid (R5.out.only n6 fun h => h)
    have L6 := Lib.hid (L5.out.only n6 fun h => h)
    have Z6 := Lib.hid (Z5.out.only n6 fun h => h)
    have E6 := Lib.hid (E5.out.below k6)
    have s6 := Lib.hid (Nat.le_trans s5.out k6.size)
    have HRI := Lib.hid (law_rising_any a n c T w6 E6 (by omega))
    clear k6 n6 r0 r1
    have r0 := R6.out.c0
    go_wp2_with fail
    refine HRI.out.mono ?_
    rintro en w7 ⟨⟨v7, rfl, hO7⟩, k7⟩
    obtain ⟨a7, cap7, rfl⟩ := hO7.slice
    obtain ⟨R, hR⟩ : ∃ R, R = rising T := ⟨_, rfl⟩
    rw [← hR] at hO7 ⊢
    obtain ⟨m, hm⟩ : ∃ m, m = R.length := ⟨_, rfl⟩
    have hm3 : m ≤ 3001 := by
      rw [hm, hR]
      have h1 := rising_len T
      rw [← HLEN.out] at h1
      omega
    rw [← hm] at hO7 ⊢
    have HRR := Lib.hid (show rises R by rw [hR]; exact rising_rises T)
    have HM := Lib.hid hm
    obtain ⟨pl, hpl⟩ : ∃ pl, pl = w7.heap.size := ⟨_, rfl⟩
    obtain ⟨w8, hw8⟩ : ∃ w8, w8 = w7.alloc (.cells #[.slice a7 m cap7] 22) := ⟨_, rfl⟩
    have k8 : Below w7.heap.size w7 w8 := by rw [hw8]; exact (Below.refl _ _).alloc (Nat.le_refl _) _
    have n68 : Only (fun _ => False) w6 w8 := (Only.of_below' k7 rfl).trans (Only.of_below' k8 rfl)
    have P8 := Lib.hid (show BxS pl (.slice a7 m cap7) w8 by rw [hw8, hpl]; exact heap_new w7 _)
    have s8 := Lib.hid (show w8.heap.size = pl + 1 ∧ B + 3 ≤ pl by rw [hw8, hpl]; exact ⟨by simp, Nat.le_trans s6.out k7.size⟩)
    have K8 := Lib.hid (show Below B w w8 from K6.out.trans ((k7.trans (k8.mono k7.size)).mono (by have := s6.out; omega)))
    have R8 := Lib.hid (R6.out.only n68 fun h => h)
    have L8 := Lib.hid (L6.out.only n68 fun h => h)
    have Z8 := Lib.hid (Z6.out.only n68 fun h => h)
    have E8 := Lib.hid ((hO7.below k8).is hm)
    have HO8 := Lib.hid (hO7.below k8)
    have HW8 := Lib.hid hw8
    have HPL := Lib.hid hpl
    have HTD := Lib.hid (told_rising e HRR.out)
    have HOV := Lib.hid (law_over a7 m cap7 R e w8 E8 (by omega))
    rw [HTD.out] at HOV
    clear hO7 k7 k8 n68 hR hm hw8 hpl r0 HRI
    have r1 := R8.out.c1
    have p0 := P8.out.cell
    go_upto_region 4 with (fail)
    rw [← HW8.out, ← HPL.out]
    go_wp2_with fail
    refine HOV.out.mono ?_
    rintro en w9 ⟨c9, hG⟩
    obtain ⟨p9, hp9⟩ := hG.ptr
    obtain ⟨e1, -, e3, e4, e5⟩ := hG
    rw [hp9] at e1
    subst e1
    have V9 := Lib.hid hp9
    have I9 := Lib.hid e3
    have F9 := Lib.hid (show ∀ k, c9.F k → pl + 1 ≤ k from fun k hk => by have := (e4 k hk).resolve_left (fun h => h); rw [s8.out.1] at this; exact this)
    have n89 : Only (fun _ => False) w8 w9 := Only.of_below' e5 rfl
    obtain ⟨zn, hzn⟩ : ∃ zn, zn = w9.heap.size := ⟨_, rfl⟩
    obtain ⟨w10, hw10⟩ : ∃ w10, w10 = w9.alloc (.cells #[.int .i64 0] 3) := ⟨_, rfl⟩
    obtain ⟨w11, hw11⟩ : ∃ w11, w11 = w10.alloc (.cells #[.int .i64 0] 45) := ⟨_, rfl⟩
    obtain ⟨w12, hw12⟩ : ∃ w12, w12 = w11.alloc (.cells #[c9.v] 29) := ⟨_, rfl⟩
    have s10 : w10.heap.size = zn + 1 := by rw [hw10, hzn]; simp
    have s11 : w11.heap.size = zn + 2 := by rw [hw11]; simp [s10]
    have s12 : w12.heap.size = zn + 3 := by rw [hw12]; simp [s11]
    have k10 : Below w9.heap.size w9 w10 := by rw [hw10]; exact (Below.refl _ _).alloc (Nat.le_refl _) _
    have k11 : Below w10.heap.size w10 w11 := by rw [hw11]; exact (Below.refl _ _).alloc (Nat.le_refl _) _
    have k12 : Below w11.heap.size w11 w12 := by rw [hw12]; exact (Below.refl _ _).alloc (Nat.le_refl _) _
    have n10 : Only (fun _ => False) w9 w10 := Only.of_below' k10 rfl
    have n11 : Only (fun _ => False) w10 w11 := Only.of_below' k11 rfl
    have n12 : Only (fun _ => False) w11 w12 := Only.of_below' k12 rfl
    have n8 := (n89.trans n10).trans (n11.trans n12)
    have hz9 := Lib.hid (show pl + 1 ≤ zn by rw [hzn, ← s8.out.1]; exact e5.size)
    have N12 := Lib.hid (show BxI zn 0 w12 from ((show BxI zn 0 w10 by rw [hw10, hzn]; exact heap_new w9 _).only n11 fun h => h).only n12 fun h => h)
    have M12 := Lib.hid (show BxN (zn + 1) 0 w12 from (show BxN (zn + 1) 0 w11 by rw [hw11, ← s10]; exact heap_new w10 _).only n12 fun h => h)
    have Q12 := Lib.hid (show BxP (zn + 1 + 1) c9.v w12 by rw [hw12, show zn + 1 + 1 = w11.heap.size from s11.symm]; exact heap_new w11 _)
    have P12 := Lib.hid (P8.out.only n8 fun h => h)
    have R12 := Lib.hid (R8.out.only n8 fun h => h)
    have L12 := Lib.hid (L8.out.only n8 fun h => h)
    have Z12 := Lib.hid (Z8.out.only n8 fun h => h)
    have E12 := Lib.hid (E8.out.only n8 (.inr fun _ _ _ h => h))
    have I12 := Lib.hid (c9.ok.only I9.out ((n10.trans n11).trans n12) fun _ _ h => h)
    have n812 := Lib.hid (n8.mono (S' := fun j => pl + 1 ≤ j) fun _ _ h => h.elim)
    have K12 := Lib.hid (show Below B w w12 from K8.out.trans (n8.below2 (fun j h => h.elim) (by have := s8.out; omega)))
    have S12 := Lib.hid (show w12.heap.size = zn + 1 + 1 + 1 from s12)
    have S11 := Lib.hid (show w11.heap.size = zn + 1 + 1 ∧ w10.heap.size = zn + 1 from ⟨s11, s10⟩)
    have HW11 := Lib.hid (show w11 = (w9.alloc (.cells #[.int .i64 0] 3)).alloc (.cells #[.int .i64 0] 45) by rw [hw11, hw10])
    have HALL := Lib.hid (all_run c9.v ⟨p9, hp9⟩ w11)
    have HZN := Lib.hid hzn
    rw [hp9] at HALL hw12
    have HW12 := Lib.hid hw12
    clear hp9 e3 e4 e5 n89 hzn hw10 hw11 hw12 s10 s11 s12 k10 k11 k12 n10 n11 n12 n8 r1 p0
    go_upto_region 7 with (fail)
    rw [← HW11.out, ← HZN.out]
    go_wp2_with fail
    refine HALL.out.mono ?_
    rintro en wz ⟨rfl, hwz⟩
    rw [← HW12.out] at hwz
    obtain rfl : w12 = wz := hwz.symm
    rw [S11.out.1]
    go_wp2_with fail
    have F9lt := Lib.hid (show ∀ k, c9.F k → k < zn from fun k hk => by have := Nat.lt_of_lt_of_le (c9.ok.low k hk) (c9.ok.size _ _ _ _ I9.out); rw [HZN.out]; exact this)
    have hq := Lib.hid (show ¬ c9.F (zn + 1 + 1) from fun h => by have := F9lt.out _ h; omega)
    have HFS := Lib.hid (show ∀ k, FsK c9 (zn + 1 + 1) k → pl + 1 ≤ k ∧ k ≠ zn ∧ k ≠ zn + 1 ∧ k < zn + 1 + 1 + 1 from fun k hk => by
      rcases hk with hk | rfl
      · have := F9.out k hk; have := F9lt.out k hk; omega
      · have := hz9.out; omega)
    have HI0 := Lib.hid (show RangI w8 (.slice a n c) a7 m cap7 B pl zn R e leave 0 0 w12 from ⟨P12.out, E12.out, N12.out, M12.out, Z12.out, R12.out, L12.out, n812.out⟩)
    have HONLY := Lib.hid (show ∀ (k : Nat) (last : Int) (A C : World) (S : Nat → Prop), RangI w8 (.slice a n c) a7 m cap7 B pl zn R e leave k last A → Only S A C → (∀ j, S j → FsK c9 (zn + 1 + 1) j ∨ zn + 1 + 1 + 1 ≤ j) → RangI w8 (.slice a n c) a7 m cap7 B pl zn R e leave k last C from fun k last A C S hA hAC hS => by
      have hS2 : ∀ j, S j → pl + 1 ≤ j ∧ j ≠ zn ∧ j ≠ zn + 1 := fun j hj => by
        rcases hS j hj with h | h
        · have := HFS.out j h; omega
        · have := hz9.out; omega
      have hsp := s8.out.2
      refine hA.only hAC (fun h => ?_) (NotIn.new E8.out fun j hj => ?_) (fun h => ?_) (fun h => ?_) (fun h => ?_) (fun h => ?_) (fun h => ?_) (fun j hj => ?_)
      · have := hS2 _ h; omega
      · have := hS2 _ hj; rw [s8.out.1]; omega
      · have := hS2 _ h; omega
      · have := hS2 _ h; omega
      · have := hS2 _ h; omega
      · have := hS2 _ h; omega
      · have := hS2 _ h; omega
      · have := hS2 _ hj; omega)
    have FIN := Lib.hid (show ∀ (D : Nat) (W : World), w12.heap.size ≤ D → BxB (B + 1 + 1) false W → Below B w W → W.heap[D]? = some (.deferred (some [])) → ∀ (t : Act), t.defers = [{ target := .collected D, args := #[] }] → t.tmps[4]? = some (.pointer (some ⟨B + 1 + 1, 0, none⟩)) →
        bodyPostM Fence.wide 5 Try.prog Try.f7 (fun en w' => en = .returned (.bool true) ∧ Below B w w') .ret t (W.setCell ⟨B + 1 + 1, 0, none⟩ (.bool true)) from fun D W hD hz hb hK t ht ht4 => by
      obtain ⟨tm, td⟩ := t
      subst ht
      simp only at ht4
      have hK' : (W.setCell ⟨B + 1 + 1, 0, none⟩ (.bool true)).heap[D]? = some (.deferred (some [])) := (heap_set_other (by have := S12.out; have := hz9.out; have := s8.out; omega) _).trans hK
      have hc5 := cell_kept (hz.put true).cell (grownBy_putObj' _ D (.deferred none)) (fun r e => by cases e; exact ⟨_, hK', rfl⟩)
      refine ⟨by simp, .inl ⟨_, _, rfl, run_takeDeferred hK', ?_⟩⟩
      refine ⟨.bool true, ?_, rfl, (hb.setCell (p := ⟨B + 1 + 1, 0, none⟩) (by simp; omega) _).grown (grownBy_putObj' _ D (.deferred none)) (by have := hb.size; have := HB.out; simp; omega) (fun k e => by cases e; have := S12.out; have := hz9.out; have := s8.out; omega)⟩
      simp [results, Try.f7, go_sem, ht4, hc5])
    have HBEL := Lib.hid (show ∀ W, Only (fun j => pl + 1 ≤ j) w8 W → Below B w W from fun W h => K8.out.trans (h.below2 (fun j hj => by have := s8.out; omega) (by have := s8.out; omega)))
    refine (wpIn_wide (n := 5)).1 ?_
    refine wpIn_rangeFunc_cur (α := Ent × Int) (n := 5) (by omega) (gf := 37) (lb := #[.pointer (some ⟨zn + 1 + 1, 0, none⟩)]) rfl (enters_of Try.func37 (by kernel_rfl) rfl)
      (all_stops _ c9 ⟨p9, V9.out⟩ (zn + 1 + 1) R e hq.out) (fun k hk => by have := HFS.out k hk; rw [S12.out]; omega)
      (fun k A C hA hAC => curK_only hA hAC fun j hj => hj) (fun _ => rfl)
      (fun pre W => ∃ k, pre = (yields R e).take k ∧ k ≤ (yields R e).length ∧ RangI w8 (.slice a n c) a7 m cap7 B pl zn R e leave (min k m) (if k ≤ m then 0 else e) W ∧ ¬ (1 ≤ leave ∧ leave ≤ (min k m : Nat)))
      (fun cd pre W => cd = .exit 0 ∧ ∃ k : Nat, leave = (k : Int) ∧ 1 ≤ k ∧ k ≤ m ∧ RangI w8 (.slice a n c) a7 m cap7 B pl zn R e leave k 0 W ∧ CurK c9 (zn + 1 + 1) R e k W)
      (fun pre A C ⟨k, h1, h2, h3, h4⟩ hAC => ⟨k, h1, h2, HONLY.out _ _ _ _ _ h3 hAC fun j hj => hj.imp id fun h => by rw [S12.out] at h; exact h, h4⟩)
      (fun cd pre A C ⟨h0, k, h1, h2, h3, h4, h5⟩ hAC => ⟨h0, k, h1, h2, h3, HONLY.out _ _ _ _ _ h4 hAC fun j hj => .inr (by rw [S12.out] at hj; exact hj), curK_only h5 hAC fun j hj hh => by have := HFS.out j hh; rw [S12.out] at hj; omega⟩)
      ⟨0, rfl, Nat.zero_le _, by rw [Nat.zero_min, if_pos (Nat.zero_le _)]; exact HI0.out, by rw [Nat.zero_min]; omega⟩ ⟨by rw [List.drop_zero]; exact I12.out, Q12.out⟩
      (fun x a' W => ∃ z, a' = rangeAct a a7 p9 n c m cap7 B pl zn w4.heap.size z e leave x ∧ C3 z 32 (.string (bs x.1.key)) (.string (bs x.1.val)) (.bool x.1.gone) W)
      (fun x a' A C ⟨z, h1, h2⟩ hk => ⟨z, h1, hk _ _ h2 rfl⟩) ?assign ?body ?done ?stop
    case assign =>
      intro lp x W K hK
      simp only [encY]
      gi_wp2
      refine hK _ _ ⟨W.heap.size, rfl, ?_⟩ ?_ ?_
      · exact heap_new W _
      · exact (Only.refl _ W).alloc _
      · exact (KeepsOthers.alloc W _).from _
    case body =>
      rintro lp pre x a' W ⟨k, rfl, hk, hI, hlv⟩ hC hx ⟨z, rfl, hX⟩
      have hlen : ((yields R e).take k).length = k := by rw [List.length_take]; omega
      rw [hlen] at hC hx
      have hkt : (yields R e).take k ++ [x] = (yields R e).take (k + 1) := by rw [List.take_add_one, hx]; rfl
      have hk1 : k + 1 ≤ (yields R e).length := (List.getElem?_eq_some_iff.1 hx).1
      have hyl : (yields R e).length = m + (if e = 0 then 0 else 1) := by unfold yields; rw [HM.out]; split <;> simp
      rw [hkt]
      have HKT := Lib.hid hkt
      have HK1 := Lib.hid hk1
      have HX := Lib.hid hX
      have HC := Lib.hid hC
      have HLV := Lib.hid hlv
      have HZS := Lib.hid (show pl < zn ∧ B + 1 + 1 < pl from ⟨by have := hz9.out; omega, by have := s8.out.2; omega⟩)
      have hzd1 : z ≠ zn := fun hh => by
        have h1 := hX
        have h2 := hI.n
        unfold C3 at h1
        unfold BxI at h2
        rw [hh, h2] at h1
        cases h1
      have hzd2 : z ≠ zn + 1 := fun hh => by
        have h1 := hX
        have h2 := hI.la
        unfold C3 at h1
        unfold BxN at h2
        rw [hh, h2] at h1
        cases h1
      have hzd := And.intro hzd1 hzd2
      clear hzd1 hzd2
      have HZD := Lib.hid hzd
      have hon2 : ∀ j, (fun j => j = zn ∨ j = zn + 1) j → j < w12.heap.size ∧ ¬ FsK c9 (zn + 1 + 1) j := fun j hj => ⟨by rw [S12.out]; rcases hj with rfl | rfl <;> omega, fun hh => by have := HFS.out j hh; rcases hj with rfl | rfl <;> omega⟩
      have HON2 := Lib.hid hon2
      unfold rangeAct
      clear hlen hkt hk hC hX hlv hzd hon2
      rcases Nat.lt_or_ge k m with hkm | hkm
      · obtain ⟨y, hy⟩ : ∃ y, R[k]? = some y := ⟨_, List.getElem?_eq_getElem (by rw [← HM.out]; exact hkm)⟩
        obtain rfl : x = (y, 0) := by rw [yields_at hy] at hx; injection hx with hx; exact hx.symm
        rw [Nat.min_eq_left (Nat.le_of_lt hkm), if_pos (Nat.le_of_lt hkm)] at hI
        obtain ⟨W1, hW1⟩ : ∃ W1, W1 = W.setCell ⟨zn + 1, 0, none⟩ (.int .i64 0) := ⟨_, rfl⟩
        have o1 : Only (fun j => j = zn ∨ j = zn + 1) W W1 := by rw [hW1]; exact (Only.refl _ W).setCell (p := ⟨zn + 1, 0, none⟩) (.inl (.inr rfl)) _
        have la0 := hI.la.cell
        have laf := hI.la.free
        have N1 := Lib.hid (show BxI zn k W1 by rw [hW1]; exact (heap_set_other (by omega) _).trans hI.n)
        have A1 := Lib.hid (show BxN (zn + 1) 0 W1 by rw [hW1]; exact hI.la.put 0)
        have P1 := Lib.hid (hI.s.only o1 fun h => by have := HZS.out; omega)
        have L1 := Lib.hid (hI.l.only o1 (NotIn.new E8.out fun j hj => by rw [s8.out.1]; have := hz9.out; rcases hj with rfl | rfl <;> omega))
        have V1 := Lib.hid (hI.lv.only o1 fun h => by have := HZS.out; omega)
        have X1 := Lib.hid (HX.out.only o1 fun h => by have := HZD.out; omega)
        have O1 := Lib.hid o1
        have HI := Lib.hid hI
        have HW1 := Lib.hid hW1
        obtain ⟨g, off, y', ha7, hy', -, hc⟩ := L1.out.at hkm
        rw [hy] at hy'
        injection hy' with hy'
        subst hy'
        have hsame := ent_same (bs y.key) (bs y.val) y.gone
        have HY := Lib.hid hy
        clear hI o1 hW1 hx hy
        simp only at X1
        gi_wp2
        rw [← HW1.out]
        have nN : ∀ n : Seen W1, n.val.cell? ⟨zn, 0, none⟩ = some (.int .i64 k) := fun n => by rw [n.below.cell (cell_block N1.out.cell)]; exact N1.out.cell
        have nP : ∀ n : Seen W1, n.val.cell? ⟨pl, 0, none⟩ = some (.slice (some ⟨g, off, none⟩) m cap7) := fun n => by rw [n.below.cell (cell_block P1.out.cell), P1.out.cell, ha7]
        have nX0 : ∀ n : Seen W1, n.val.cell? ⟨z, 0, none⟩ = some (.string (bs y.key)) := fun n => by rw [n.below.cell (cell_block X1.out.c0)]; exact X1.out.c0
        have nX1 : ∀ n : Seen W1, n.val.cell? ⟨z, 1, none⟩ = some (.string (bs y.val)) := fun n => by rw [n.below.cell (cell_block X1.out.c1)]; exact X1.out.c1
        have nX2 : ∀ n : Seen W1, n.val.cell? ⟨z, 2, none⟩ = some (.bool y.gone) := fun n => by rw [n.below.cell (cell_block X1.out.c2)]; exact X1.out.c2
        have nE0 : ∀ n : Seen W1, n.val.cell? ⟨g, off + k * 3, none⟩ = some (.string (bs y.key)) := fun n => by rw [n.below.cell (cell_block hc.c0)]; exact hc.c0
        have nE1 : ∀ n : Seen W1, n.val.cell? ⟨g, off + k * 3 + 1, none⟩ = some (.string (bs y.val)) := fun n => by rw [n.below.cell (cell_block hc.c1)]; exact hc.c1
        have nE2 : ∀ n : Seen W1, n.val.cell? ⟨g, off + k * 3 + 2, none⟩ = some (.bool y.gone) := fun n => by rw [n.below.cell (cell_block hc.c2)]; exact hc.c2
        have hkmI : ((m : Int) ≤ (k : Int)) = False := by simp; omega
        refine wpIn_round_seen_tail 11 (by kernel_rfl) (by kernel_rfl) (by kernel_rfl) ?_
        simp only [List.take_succ_cons, List.take_zero, List.drop_succ_cons, List.drop_zero]
        repeat go_big_quiet_step (fail)
        refine wpQuiet_nil ?_
        rintro _ ⟨m1, rfl⟩
        have b1 := Lib.hid m1.below
        have o1 : Only (fun j => j = zn ∨ j = zn + 1) W1 m1.val := Only.of_below' b1.out rfl
        obtain ⟨W2, hW2⟩ : ∃ W2, W2 = m1.val.setCell ⟨zn, 0, none⟩ (.int .i64 (k + 1)) := ⟨_, rfl⟩
        have n0 := nN m1
        have nf : m1.val.frozen? ⟨zn, 0, none⟩ = false := by rw [Below.frozen b1.out (cell_block N1.out.cell)]; exact N1.out.free
        have o2 : Only (fun j => j = zn ∨ j = zn + 1) W1 W2 := by rw [hW2]; exact o1.setCell (p := ⟨zn, 0, none⟩) (.inl (.inl rfl)) _
        have v1 : m1.val.cell? ⟨B + 1, 0, none⟩ = some (.int .i64 leave) := by rw [b1.out.cell (cell_block V1.out.cell)]; exact V1.out.cell
        have v2 : (m1.val.setCell ⟨zn, 0, none⟩ (.int .i64 ((k : Int) + 1))).cell? ⟨B + 1, 0, none⟩ = some (.int .i64 leave) := (World.cell?_setCell_other _ _ _ _ (by intro h; injection h with h; have := HZS.out; omega)).trans v1
        have hOW := Lib.hid (O1.out.trans o2)
        have hkf := Lib.hid (show KeepsFrom w12.heap.size W W2 from keepsFrom_of_only (hOW.out.mono fun j _ hj => HON2.out j hj))
        have hon3 := Lib.hid (show Only (fun j => j < w12.heap.size ∧ ¬ FsK c9 (zn + 1 + 1) j) W W2 from hOW.out.mono fun j _ hj => HON2.out j hj)
        have hRI := Lib.hid (show RangI w8 (.slice a n c) a7 m cap7 B pl zn R e leave (k + 1) 0 W2 from by
          have o12 := o2
          refine ⟨P1.out.only o12 fun h => ?_, L1.out.only o12 (NotIn.new E8.out fun j hj => ?_), ?_, ?_, ?_, ?_, ?_, ?_⟩
          · have := HZS.out; omega
          · rw [s8.out.1]; have := hz9.out; rcases hj with rfl | rfl <;> omega
          · rw [hW2]; exact (show BxI zn k m1.val from (b1.out.block zn (heap_lt N1.out)).trans N1.out).put _
          · rw [hW2]; exact (heap_set_other (by omega) _).trans ((b1.out.block (zn + 1) (heap_lt A1.out)).trans A1.out)
          · exact HI.out.z.only hOW.out fun h => by have := HZS.out; omega
          · exact HI.out.r.only hOW.out fun h => by have := HZS.out; omega
          · exact V1.out.only o12 fun h => by have := HZS.out; omega
          · exact HI.out.bel.trans (hOW.out.mono fun j _ hj => by have := hz9.out; omega))
        have hC2 := Lib.hid (curK_only HC.out hOW.out fun j hj => (HON2.out j hj).2)
        have hlK := Lib.hid (show min (k + 1) m = k + 1 from Nat.min_eq_left hkm)
        by_cases hle : leave = ((k + 1 : Nat) : Int)
        · have hle3 : ((k : Int) + 1 == leave) = true := by simp; omega
          gi_wp2
          rw [← hW2]
          exact ⟨hkf.out, rfl, k + 1, hle, by omega, hkm, hRI.out, hC2.out⟩
        · have hle3 : ((k : Int) + 1 == leave) = false := by simp; omega
          gi_wp2
          rw [← hW2]
          exact ⟨hkf.out, hon3.out, k + 1, rfl, HK1.out, by rw [hlK.out, if_pos (show k + 1 ≤ m from hkm)]; exact hRI.out, by rw [hlK.out]; have := HLV.out; rw [Nat.min_eq_left (Nat.le_of_lt hkm)] at this; omega⟩
      · have he0 : e ≠ 0 := fun h => by
          have := HK1.out
          rw [hyl, if_pos h] at this
          omega
        obtain rfl : k = m := by
          have := HK1.out
          rw [hyl, if_neg he0] at this
          omega
        obtain rfl : x = (noEnt, e) := by
          have h1 := yields_end (l := R) he0
          rw [← HM.out, hx] at h1
          injection h1
        rw [Nat.min_self, if_pos (Nat.le_refl _)] at hI
        obtain ⟨W1, hW1⟩ : ∃ W1, W1 = W.setCell ⟨zn + 1, 0, none⟩ (.int .i64 e) := ⟨_, rfl⟩
        have o1 : Only (fun j => j = zn ∨ j = zn + 1) W W1 := by rw [hW1]; exact (Only.refl _ W).setCell (p := ⟨zn + 1, 0, none⟩) (.inl (.inr rfl)) _
        have la0 := hI.la.cell
        have laf := hI.la.free
        have h1e : (e == 0) = false := by simpa using he0
        have h2e : (e != 0) = true := by simpa using he0
        have X1 := Lib.hid (HX.out.only o1 fun h => by have := HZD.out; omega)
        have N1 := Lib.hid (show BxI zn k W1 by rw [hW1]; exact (heap_set_other (by omega) _).trans hI.n)
        have P1 := Lib.hid (hI.s.only o1 fun h => by have := HZS.out; omega)
        have hkf := Lib.hid (show KeepsFrom w12.heap.size W W1 from keepsFrom_of_only (o1.mono fun j _ hj => HON2.out j hj))
        have hon3 := Lib.hid (show Only (fun j => j < w12.heap.size ∧ ¬ FsK c9 (zn + 1 + 1) j) W W1 from o1.mono fun j _ hj => HON2.out j hj)
        have hRI := Lib.hid (show RangI w8 (.slice a n c) a7 k cap7 B pl zn R e leave k e W1 from by
          refine ⟨P1.out, hI.l.only o1 (NotIn.new E8.out fun j hj => ?_), N1.out, by rw [hW1]; exact hI.la.put e, ?_, ?_, ?_, ?_⟩
          · rw [s8.out.1]; have := hz9.out; rcases hj with rfl | rfl <;> omega
          · exact hI.z.only o1 fun h => by have := HZS.out; omega
          · exact hI.r.only o1 fun h => by have := HZS.out; omega
          · exact hI.lv.only o1 fun h => by have := HZS.out; omega
          · exact hI.bel.trans (o1.mono fun j _ hj => by have := hz9.out; omega))
        have x0 : W1.cell? ⟨z, 0, none⟩ = some (.string ⟨#[]⟩) := X1.out.c0
        have x1 : W1.cell? ⟨z, 1, none⟩ = some (.string ⟨#[]⟩) := X1.out.c1
        have x2 : W1.cell? ⟨z, 2, none⟩ = some (.bool false) := X1.out.c2
        have n0 := N1.out.cell
        have p0 := P1.out.cell
        rw [hW1] at x0 x1 x2 n0 p0
        have hsame := noent_same
        clear hI hx
        simp only at X1
        gi_wp2
        rw [← hW1]
        refine ⟨hkf.out, hon3.out, k + 1, rfl, Nat.le_refl _, by rw [Nat.min_eq_right (Nat.le_succ k), if_neg (by omega)]; exact hRI.out, fun h => ?_⟩
        have h2 := HLV.out
        rw [Nat.min_self] at h2
        rw [Nat.min_eq_right (Nat.le_succ k)]
        omega
    case done =>
      rintro D W hD ⟨k, hpre, hk, hI, hlv⟩ hC hK
      have hyl : (yields R e).length = m + (if e = 0 then 0 else 1) := by unfold yields; rw [HM.out]; split <;> simp
      obtain rfl : k = (yields R e).length := by
        have h1 := congrArg List.length hpre
        rw [List.length_take] at h1
        omega
      have hm1 : min (yields R e).length m = m := Nat.min_eq_right (by rw [hyl]; omega)
      have hl1 : (if (yields R e).length ≤ m then 0 else e) = e := by
        by_cases h0 : e = 0
        · rw [h0, ite_self]
        · rw [if_neg (by rw [hyl, if_neg h0]; omega)]
      rw [hm1, hl1] at hI
      rw [hm1] at hlv
      have n0 := hI.n.cell
      have l0 := hI.la.cell
      have p0 := hI.s.cell
      have v0 := hI.lv.cell
      have r1 := hI.r.c1
      have z0 := hI.z.cell
      have zf := hI.z.free
      have HI := Lib.hid hI
      clear hI hC hpre hk hyl hm1 hl1
      by_cases hml : (m : Int) = leave
      · have hm0 : m = 0 := by omega
        subst hm0
        subst hml
        gi_wp2
        go_wp2_with fail
        exact FIN.out D W hD HI.out.z (HBEL.out _ HI.out.bel) hK _ rfl rfl
      · have hml2 : ((m : Int) == leave) = false := by simpa using hml
        gi_wp2
        go_wp2_with fail
        exact FIN.out D W hD HI.out.z (HBEL.out _ HI.out.bel) hK _ rfl rfl
    case stop =>
      rintro D cd pre W hD ⟨rfl, k, rfl, hk1, hkm, hI, hC⟩ hK
      obtain ⟨ak, hsl, hEk⟩ := ents_drop HO8.out HM.out hkm
      have HEK := Lib.hid hEk
      have HSL := Lib.hid hsl
      have n0 := hI.n.cell
      have l0 := hI.la.cell
      have p0 := hI.s.cell
      have v0 := hI.lv.cell
      have r1 := hI.r.c1
      have z0 := hI.z.cell
      have zf := hI.z.free
      have HI := Lib.hid hI
      have HC := Lib.hid hC
      have hk0 : ((k : Int) > 0) = True := by simp; omega
      clear hI hC hEk hsl
      gi_wp2
      go_upto_region 19 with (fail)
      have hdr := Lib.hid (Only.refl (fun _ => False) W).drew
      have t0 := Lib.hid (show W.drew.cell? ⟨zn + 1, 0, none⟩ = some (.int .i64 0) ∧ W.drew.cell? ⟨pl, 0, none⟩ = some (.slice a7 m cap7) ∧ W.drew.cell? ⟨zn, 0, none⟩ = some (.int .i64 k) ∧ W.drew.cell? ⟨B, 1, none⟩ = some (.int .i64 e) from ⟨l0, p0, n0, r1⟩)
      have hKd : W.drew.heap[D]? = some (.deferred (some [])) := hK
      have HI1 := Lib.hid (HONLY.out _ _ _ _ _ HI.out hdr.out fun j hj => hj.elim)
      have h1 := Lib.hid (law_is_not c9 V9.out (cap := cap7 - k) (c9.ok.only HC.out.1 hdr.out fun _ _ h => h) (HEK.out.only HI1.out.bel (NotIn.new HEK.out fun j hj => by rw [s8.out.1]; exact hj)) ((NotIn.new HEK.out fun j hj => by rw [s8.out.1]; exact F9.out j hj)) (by omega))
      have hs := HSL.out
      have hput := Lib.hid (show ∀ x : World, (x.cell? ⟨zn + 1, 0, none⟩ = some (.int .i64 0) ∧ x.cell? ⟨pl, 0, none⟩ = some (.slice a7 m cap7) ∧ x.cell? ⟨zn, 0, none⟩ = some (.int .i64 k) ∧ x.cell? ⟨B, 1, none⟩ = some (.int .i64 e)) → (x.setCell ⟨B + 1 + 1, 0, none⟩ (.bool true)).cell? ⟨zn + 1, 0, none⟩ = some (.int .i64 0) ∧ (x.setCell ⟨B + 1 + 1, 0, none⟩ (.bool true)).cell? ⟨pl, 0, none⟩ = some (.slice a7 m cap7) ∧ (x.setCell ⟨B + 1 + 1, 0, none⟩ (.bool true)).cell? ⟨zn, 0, none⟩ = some (.int .i64 k) ∧ (x.setCell ⟨B + 1 + 1, 0, none⟩ (.bool true)).cell? ⟨B, 1, none⟩ = some (.int .i64 e) from fun x ⟨h1, h2, h3, h4⟩ => by
        have h8 := s8.out.2
        have h9 := hz9.out
        exact ⟨(World.cell?_setCell_other _ _ _ _ (by intro h; injection h with h; omega)).trans h1, (World.cell?_setCell_other _ _ _ _ (by intro h; injection h with h; omega)).trans h2, (World.cell?_setCell_other _ _ _ _ (by intro h; injection h with h; omega)).trans h3, (World.cell?_setCell_other _ _ _ _ (by intro h; injection h with h; omega)).trans h4⟩)
      go_region_held3 (fun w' => w'.cell? ⟨zn + 1, 0, none⟩ = some (.int .i64 0) ∧ w'.cell? ⟨pl, 0, none⟩ = some (.slice a7 m cap7) ∧ w'.cell? ⟨zn, 0, none⟩ = some (.int .i64 k) ∧ w'.cell? ⟨B, 1, none⟩ = some (.int .i64 e))
        (first | exact t0.out | exact t1.out | exact t2.out)
        (first
        | (go_at_call 12; with_reducible refine h1.out.mono ?_; rintro en x1 ⟨rfl, hk1⟩; have HX1 := Lib.hid (HONLY.out _ _ _ _ _ HI1.out hk1.out fun j hj => .inl (fsK_l hj)); have z0x := HX1.out.z.cell; have zfx := HX1.out.z.free; have HK1 := Lib.hid hk1.out; have t1 := Lib.hid (show x1.cell? ⟨zn + 1, 0, none⟩ = some (.int .i64 0) ∧ x1.cell? ⟨pl, 0, none⟩ = some (.slice a7 m cap7) ∧ x1.cell? ⟨zn, 0, none⟩ = some (.int .i64 k) ∧ x1.cell? ⟨B, 1, none⟩ = some (.int .i64 e) from ⟨HX1.out.la.cell, HX1.out.s.cell, HX1.out.n.cell, HX1.out.r.c1⟩); have t2 := Lib.hid (hput.out x1 t1.out)))
      go_wp2_with fail
      exact FIN.out D _ hD HX1.out.z (HBEL.out _ HX1.out.bel) ((HK1.out.block D (heap_lt hKd) fun hh => by have := F9lt.out D hh; have := S12.out; omega).trans hKd) _ rfl rfl
end Go.Proofs.Ytbjokbnmfbfkjaa
