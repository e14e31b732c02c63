/- Texts for layer 9, put together: TableRefMade -/
import Derived.Test.YteejldddgogbkaaGreatDoorBu23
import Derived.Test.YteejldddgogbkaaGreatDoorBu14
/- The document's Build, of entries that may be told. -/
set_option linter.unusedVariables false
set_option maxRecDepth 100000
set_option maxRecDepth 100000
namespace Go.Proofs.YteejldddgogbkaaGreatDoor
open Go.RowKit

set_option maxHeartbeats 1000000 in
theorem rbuild_ok (a : Option Addr) (len cap : Nat) (T : List Ent) (each per : Nat) (w : World) (hT : Hid (IsE w a len T)) (hl : len ≤ 3001) (hs : Hid (smallE T)) (h1 : 1 ≤ each) (h2 : each ≤ 256) (h3 : 1 ≤ per) (h4 : per ≤ 32) (hc : Hid (chkE T = 0)) :
    Calls Tryz.prog 8 #[.slice a len cap, .int .i64 (each : Int), .int .i64 (per : Int)] w fun e w' => e = .returned (.tuple #[.string (bs (tabB each per T)), .int .i64 0]) ∧ Below w.heap.size w w' := by
  have H := Lib.hid (ref_Check a len cap T w hT (by omega) (Lib.hid (fit_of_small hs.out)))
  rw [hc.out] at H
  obtain ⟨B, hB⟩ : ∃ B, B = w.heap.size := ⟨_, rfl⟩
  rw [← hB]
  have HBW := Lib.hid hB
  have hlen := Lib.hid hT.out.1
  clear hB
  go_enter Tryz.func8, Tryz.ntmps8
  go_wp2_with fail
  refine H.out.mono ?_
  rintro e w1 ⟨rfl, k1⟩
  have K1 := Lib.hid (show Below B w w1 by rw [HBW.out]; exact k1)
  clear H k1
  go_wp2_with fail
  go_loopw [9, 10, 11, 12, 13] (fun sv xv pv kv iv wr => ∃ (i : Nat) (C : List (List Ent)) (P : List Ent), i ≤ len ∧ iv = .int .i64 i ∧ sv = .string (bs (blksB C)) ∧ Hid (Cut each T i C P) ∧ Hid (R3 wr B pv xv kv P (idxs 0 C) ((T.take i).map (·.key))) ∧ Hid (Below B w wr)) (fun sv xv pv kv iv wr => len - (intOf iv).toNat)
  case atStart => exact ⟨0, [], [], Nat.zero_le _, rfl, rfl, Lib.hid (Cut.start (by omega) T), Lib.hid (R3.start _ _), K1⟩
  case round =>
    obtain ⟨i, C, P, hi, rfl, rfl, hC, hR, hBl⟩ := hrel
    rcases Nat.lt_or_ge i len with hlt | hge
    · obtain ⟨b, off, x, rfl, hx, _, hc0⟩ := hT.out.at hlt
      have HC0 := Lib.hid hc0
      have hcx := hc0.below (by rw [← HBW.out]; exact hBl.out)
      have hBwr := Lib.hid (show B ≤ wr.heap.size by rw [HBW.out]; exact hBl.out.size)
      have c0 := hcx.c0
      have c1 := hcx.c1
      have c2 := hcx.c2
      have HX := Lib.hid hx
      clear hcx hc0
      obtain ⟨pa, pcap, hpv⟩ := hR.out.part.slice
      obtain ⟨pn, hpn⟩ : ∃ pn, pn = P.length := ⟨_, rfl⟩
      rw [← hpn] at hpv
      subst hpv
      have HPN := Lib.hid hpn
      obtain ⟨K, hK⟩ : ∃ K, K = (T.take i).map (·.key) := ⟨_, rfl⟩
      rw [← hK] at hR
      have hk3 : K.length = i := by rw [hK, List.length_map, List.length_take, ← hlen.out]; omega
      have hK4 := Lib.hid (show (T.take (i + 1)).map (·.key) = K ++ [x.key] by rw [take_ent hx, hK]; simp)
      have hpl := hC.out.few
      rw [← hpn] at hpl
      clear hpn hK hx
      obtain ⟨i0, hi0, hz0, hz1, hz2⟩ := info_parts infoE
      obtain ⟨j0, ji0, jz0, jz1, jz2⟩ := info_parts infoK
      have HJ := Lib.hid (And.intro ji0 (And.intro jz0 (And.intro jz1 jz2)))
      have HI := Lib.hid (And.intro hi0 (And.intro hz0 (And.intro hz1 hz2)))
      clear ji0 jz0 jz1 jz2
      go_upto_region 13 with (fail)
      go_wp2_with (at_builtin; refine wpList_append_off rfl (.tmp 44) (.tmp 49) 22 rfl B 49 i0 _ 3 40 Tryz.underlying22 hi0 hz0 hz1 hz2 rfl (.slice pa pn pcap) pn (ecells P) rfl ?c1 (.slice (some ⟨wr.heap.size, 0, none⟩) 1 1) rfl 1 x.vals ?c2 ?c3 ?c4 ?c5 ?_)
      case c1 => have := hR.out.part; unfold OwnE at this; rw [← HPN.out] at this; exact OffRow.allocd this _
      case c2 => exact src_block (size := 3) (cs := #[.string (bs x.key), .string (bs x.val), .bool x.gone]) Tryz.underlying22 (heap_new _ _) 1 1 rfl (by intro u hu; simp at hu; rcases hu with rfl | rfl | rfl <;> rfl)
      case c3 => unfold maxLen; omega
      case c4 => omega
      case c5 => have := hBwr.out; simp; omega
      intro v2 w2 hr2 hg2 hat2
      have P2 := Lib.hid (show R3 w2 B v2 u10 u12 (P ++ [x]) (idxs 0 C) K ∧ Below B w w2 ∧ B ≤ w2.heap.size by
        have ha := (Below.refl wr.heap.size wr).alloc (Nat.le_refl _) (.cells #[.string (bs x.key), .string (bs x.val), .bool x.gone] 49)
        have hb := (hBl.out.trans (ha.mono hBwr.out)).grown hg2 (Nat.le_trans hBwr.out ha.size) (fun k hk => (OffRow.lt hR.out.part k (by rw [← HPN.out] at *; exact hk)).1)
        refine ⟨(hR.out.below ha).addPart hg2 ?_ (by simpa using hat2), hb, by rw [HBW.out]; exact hb.size⟩
        unfold OwnE
        rw [ecells_snoc, List.length_append, ← HPN.out]
        exact hr2)
      clear hr2 hg2 hat2
      have hsm := hs.out x (List.mem_of_getElem? HX.out)
      obtain ⟨Q, hQ⟩ : ∃ Q, Q = P ++ [x] := ⟨_, rfl⟩
      rw [← hQ] at P2
      have hqn : Q.length = pn + 1 := by rw [hQ, List.length_append, ← HPN.out]; rfl
      obtain ⟨a2, cap2, hv2⟩ := P2.out.1.part.slice
      rw [hqn] at hv2
      subst hv2
      obtain ⟨a3, cap3, hv3⟩ := P2.out.1.keys.slice
      rw [hk3] at hv3
      subst hv3
      have HQ := Lib.hid (And.intro hQ hqn)
      have cc := HC0.out.below (by rw [← HBW.out]; exact P2.out.2.1)
      have c0 := cc.c0
      have c1 := cc.c1
      have c2 := cc.c2
      clear hQ cc hi0 hz0 hz1 hz2 hR hBl hBwr
      have HK3 := Lib.hid hk3
      clear hk3
      obtain ⟨hj0, jz0, jz1, jz2⟩ := HJ.out
      go_upto_region 14 with (fail)
      go_wp2_with (at_builtin; refine wpList_append_off rfl (.tmp 51) (.tmp 57) 32 rfl B 9 j0 _ 1 16 Tryz.underlying32 hj0 jz0 jz1 jz2 rfl (.slice a3 i cap3) i (kcells K) rfl ?d1 (.slice (some ⟨w2.heap.size, 0, none⟩) 1 1) rfl 1 [.string (bs x.key)] ?d2 ?d3 ?d4 ?d5 ?_)
      case d1 => have := P2.out.1.keys; unfold OwnK at this; rw [HK3.out] at this; exact OffRow.allocd this _
      case d2 => exact src_block (size := 1) (cs := #[.string (bs x.key)]) Tryz.underlying32 (heap_new _ _) 1 1 rfl (by intro u hu; simp at hu; rcases hu with rfl; rfl)
      case d3 => unfold maxLen; omega
      case d4 => omega
      case d5 => have := P2.out.2.2; simp; omega
      intro v3 w3 hr3 hg3 _
      have P3 := Lib.hid (show R3 w3 B (.slice a2 (pn + 1) cap2) u10 v3 Q (idxs 0 C) (K ++ [x.key]) ∧ Below B w w3 ∧ B ≤ w3.heap.size by
        have ha := (Below.refl w2.heap.size w2).alloc (Nat.le_refl _) (.cells #[.string (bs x.key)] 9)
        have hb := (P2.out.2.1.trans (ha.mono P2.out.2.2)).grown hg3 (Nat.le_trans P2.out.2.2 ha.size) (fun k hk => (OffRow.lt P2.out.1.keys k hk).1)
        refine ⟨(P2.out.1.below ha).addKey hg3 ?_, hb, by rw [HBW.out]; exact hb.size⟩
        unfold OwnK
        rw [kcells_snoc, List.length_append, HK3.out]
        exact hr3)
      clear hr3 hg3 P2 hj0 jz0 jz1 jz2 HK3 c0 c1 c2
      by_cases hfull : pn + 1 = each ∨ i + 1 = len
      · have HF := Lib.hid (hC.out.full (by omega) HX.out (by rw [← HPN.out, ← hlen.out]; exact hfull))
        rw [← HQ.out.1] at HF
        have hqs : smallE Q := (HF.out.small hs.out).1 Q (List.mem_append_right _ (List.mem_singleton.2 rfl))
        have hqi : IsE w3 a2 (pn + 1) Q := P3.out.1.part.is HQ.out.2.symm
        have HPK := Lib.hid (ref_Pack a2 (pn + 1) cap2 Q w3 (Lib.hid hqi) (by omega) (Lib.hid hqs))
        clear hqs hqi
        have hfull3 : pn + 1 = each ∨ pn + 1 ≠ each ∧ i + 1 = len := by omega
        clear hfull
        rcases hfull3 with hful | ⟨hful, hful2⟩
        rotate_left
        have hq1 : ((pn : Int) + 1 == (each : Int)) = false := beq_eq_false_iff_ne.2 (by omega)
        have hq2 : ((i : Int) == (len : Int) - 1) = true := beq_iff_eq.2 (by omega)
        all_goals
          go_upto_region 16 with (fail)
          clear hful
        clear hq1 hq2 hful2
        all_goals
          go_wp2_with fail
          refine HPK.out.mono ?_
          rintro e w4 ⟨rfl, k4⟩
          obtain ⟨blk, hblk⟩ : ∃ blk, blk = blkB Q := ⟨_, rfl⟩
          rw [blkB_eq, ← hblk]
          have P4 := Lib.hid (show R3 w4 B (.slice a2 (pn + 1) cap2) u10 v3 Q (idxs 0 C) (K ++ [x.key]) ∧ Below B w w4 ∧ B ≤ w4.heap.size from
            ⟨P3.out.1.below k4, P3.out.2.1.trans (k4.mono P3.out.2.2), Nat.le_trans P3.out.2.2 k4.size⟩)
          have hbk : blk.length ≤ 35840015 := by
            have h := blkB_len ((HF.out.small hs.out).1 Q (List.mem_append_right _ (List.mem_singleton.2 rfl))) (by rw [HQ.out.2]; omega)
            rw [← hblk, HQ.out.2] at h
            omega
          have hbl : (blksB C).length ≤ 420185015 := by
            have h := blks_len C (fun c hcc => ⟨(hC.out.small hs.out).1 c hcc, (hC.out.ok c hcc).1, by have := (hC.out.ok c hcc).2; omega⟩)
            have h2 := hC.out.len (by rw [← hlen.out]; exact hi)
            omega
          obtain ⟨X, hX⟩ : ∃ X, X = idxs 0 C := ⟨_, rfl⟩
          rw [← hX] at P4
          obtain ⟨xa, xcap, hxv⟩ := P4.out.1.index.slice
          obtain ⟨xn, hxn⟩ : ∃ xn, xn = X.length := ⟨_, rfl⟩
          rw [← hxn] at hxv
          subst hxv
          have hxl : xn ≤ 3001 := by
            have h := (blks_len C (fun c hcc => ⟨(hC.out.small hs.out).1 c hcc, (hC.out.ok c hcc).1, by have := (hC.out.ok c hcc).2; omega⟩)).2
            have h2 := hC.out.len (by rw [← hlen.out]; exact hi)
            rw [hxn, hX, idxs_len]
            omega
          have HXI := Lib.hid (And.intro hX hxn)
          clear hX hxn
          obtain ⟨y, hy⟩ : ∃ y, Q[0]? = some y := ⟨_, List.getElem?_eq_getElem (by rw [HQ.out.2]; omega)⟩
          have hyk := Lib.hid (show keyE Q = y.key by
            cases Q with
            | nil => simp at hy
            | cons z Q => simp at hy; rw [← hy]; rfl)
          obtain ⟨g, off2, rfl, _, hcy⟩ := P4.out.1.part.ent hy
          rw [Nat.zero_mul, Nat.add_zero] at hcy
          have n0 : ∀ n : Seen w4, n.val.cell? ⟨g, off2, none⟩ = some (.string (bs y.key)) := fun n => by rw [n.below.cell (cell_block hcy.c0)]; exact hcy.c0
          obtain ⟨S, hS⟩ : ∃ S, S = blksB C := ⟨_, rfl⟩
          rw [← hS] at hbl
          have HS := Lib.hid hS
          rw [← hS]
          obtain ⟨A, hA⟩ : ∃ A, A = whole (((bs S).size : Nat) : Int) := ⟨_, rfl⟩
          obtain ⟨D, hD⟩ : ∃ D, D = whole (((bs blk).size : Nat) : Int) := ⟨_, rfl⟩
          have z1 : (bs S).size = S.length := bs_size _
          have z2 : (bs blk).size = blk.length := bs_size _
          have hAl : A.length ≤ 11 := by rw [hA]; exact (whole_len (by omega) (by omega)).1
          have hDl : D.length ≤ 11 := by rw [hD]; exact (whole_len (by omega) (by omega)).1
          have H1 := Lib.hid (fun n : Seen w4 => by
            have h := seen_call (fun W => ref_Whole (n := (((bs S).size : Nat) : Int)) W (by omega) (by omega)) n
            rw [← hA] at h
            exact h)
          have H2 := Lib.hid (fun n : Seen w4 => by
            have h := seen_call (fun W => ref_Whole (n := (((bs blk).size : Nat) : Int)) W (by omega) (by omega)) n
            rw [← hD] at h
            exact h)
          have j1 : bs A ++ bs D = bs (A ++ D) := bs_join A D
          have s1 := bs_sum A D (by omega)
          have HE := Lib.hid (show idxE S.length Q = ⟨y.key, A ++ D, false⟩ by
            unfold idxE
            rw [hyk.out, hA, hD, z1, z2, hblk])
          have HBL := Lib.hid hblk
          clear hS hA hD hcy hy hyk z1 z2 hblk
          go_upto_region 17 with (fail)
          refine wp_region_first_tail 13 (.slice xa xn xcap) (by kernel_rfl) (by kernel_rfl) (.inl ⟨rfl, fun w => rfl⟩) (fun _ _ _ h => h) ?_
          simp only [List.take_succ_cons, List.take_zero, List.drop_succ_cons, List.drop_zero, Nat.reduceSub]
          go_frame
          repeat go_big_quiet_step (first | (go_at_call 33; with_reducible exact H1.out _) | (go_at_call 33; with_reducible exact H2.out _))
          refine wpQuiet_nil ?_
          rintro _ ⟨m1, rfl⟩
          have P5 := Lib.hid (show R3 m1.val B (.slice (some ⟨g, off2, none⟩) (pn + 1) cap2) (.slice xa xn xcap) v3 Q X (K ++ [x.key]) ∧ Below B w m1.val ∧ B ≤ m1.val.heap.size from
            ⟨P4.out.1.below m1.below, P4.out.2.1.trans (m1.below.mono P4.out.2.2), Nat.le_trans P4.out.2.2 m1.below.size⟩)
          clear n0 H1 H2 j1 s1 P4
          generalize m1.val = w5 at *
          obtain ⟨hi0, hz0, hz1, hz2⟩ := HI.out
          go_wp2_with (at_builtin; refine wpList_append_off rfl (.tmp 72) (.tmp 85) 22 rfl B 49 i0 _ 3 40 Tryz.underlying22 hi0 hz0 hz1 hz2 rfl (.slice xa xn xcap) xn (ecells X) rfl ?e1 (.slice (some ⟨w5.heap.size, 0, none⟩) 1 1) rfl 1 (Ent.vals ⟨y.key, A ++ D, false⟩) ?e2 ?e3 ?e4 ?e5 ?_)
          case e1 => have := P5.out.1.index; unfold OwnE at this; rw [← HXI.out.2] at this; exact OffRow.allocd this _
          case e2 => exact src_block (size := 3) (cs := #[.string (bs y.key), .string (bs (A ++ D)), .bool false]) Tryz.underlying22 (heap_new _ _) 1 1 rfl (by intro u hu; simp at hu; rcases hu with rfl | rfl | rfl <;> rfl)
          case e3 => unfold maxLen; omega
          case e4 => omega
          case e5 => have := P5.out.2.2; simp; omega
          intro v6 w6 hr6 hg6 hat6
          have P6 := Lib.hid (show R3 w6 B (.slice (some ⟨g, off2, none⟩) (pn + 1) cap2) v6 v3 Q (X ++ [⟨y.key, A ++ D, false⟩]) (K ++ [x.key]) ∧ Below B w w6 by
            have ha := (Below.refl w5.heap.size w5).alloc (Nat.le_refl _) (.cells #[.string (bs y.key), .string (bs (A ++ D)), .bool false] 49)
            have hb := (P5.out.2.1.trans (ha.mono P5.out.2.2)).grown hg6 (Nat.le_trans P5.out.2.2 ha.size) (fun k hk => (OffRow.lt P5.out.1.index k hk).1)
            refine ⟨(P5.out.1.below ha).addIndex hg6 ?_ (by simpa using hat6), hb⟩
            unfold OwnE
            rw [ecells_snoc, List.length_append, ← HXI.out.2]
            exact hr6)
          clear hr6 hg6 hat6 P5 hi0 hz0 hz1 hz2
          have j2 : bs S ++ bs blk = bs (S ++ blk) := bs_join S blk
          have s2 := bs_sum S blk (by omega)
          go_wp2_with fail
          exact ⟨⟨i + 1, C ++ [Q], [], by omega, by go_num, by rw [blksB_snoc, ← HS.out, ← HBL.out], HF, Lib.hid (by rw [hK4.out, idxs_snoc, ← HXI.out.1, Nat.zero_add, ← HS.out, HE.out]; exact P6.out.1.none), Lib.hid P6.out.2⟩, by simp [intOf]; omega⟩
      · have hf1 : ¬ pn + 1 = each := fun h => hfull (.inl h)
        have hf2 : ¬ i + 1 = len := fun h => hfull (.inr h)
        have HM := Lib.hid (hC.out.more HX.out (by rw [← HPN.out]; exact hf1) (by rw [← hlen.out]; exact hf2))
        rw [← HQ.out.1] at HM
        have hq1 : ((pn : Int) + 1 == (each : Int)) = false := beq_eq_false_iff_ne.2 (by omega)
        have hq2 : ((i : Int) == (len : Int) - 1) = false := beq_eq_false_iff_ne.2 (by omega)
        clear hfull hC
        go_wp2_with fail
        rotate_left
        exact ⟨⟨i + 1, C, Q, by omega, by go_num, rfl, HM, Lib.hid (by rw [hK4.out]; exact P3.out.1), Lib.hid P3.out.2.1⟩, by simp [intOf]; omega⟩
    · have hil : i = len := by omega
      subst hil
      obtain ⟨hP0, hCk⟩ := hC.out.done hlen.out
      subst hP0
      have hKT : (T.take i).map (·.key) = T.map (·.key) := by rw [hlen.out, List.take_length]
      rw [hKT] at hR
      have hKl : (T.map (·.key)).length = i := by rw [List.length_map, ← hlen.out]
      obtain ⟨ka, kcap, hkv⟩ := hR.out.keys.slice
      rw [hKl] at hkv
      subst hkv
      obtain ⟨X, hX⟩ : ∃ X, X = idxs 0 C := ⟨_, rfl⟩
      rw [← hX] at hR
      obtain ⟨xa, xcap, hxv⟩ := hR.out.index.slice
      obtain ⟨xn, hxn⟩ : ∃ xn, xn = X.length := ⟨_, rfl⟩
      rw [← hxn] at hxv
      subst hxv
      have hcs : ∀ c ∈ C, smallE c ∧ 1 ≤ c.length ∧ c.length ≤ 65536 := fun c hcc => ⟨(hC.out.small hs.out).1 c hcc, (hC.out.ok c hcc).1, by have := (hC.out.ok c hcc).2; omega⟩
      have hbl := blks_len C hcs
      have hfl := hC.out.len (Nat.le_of_eq hlen.out)
      have hSl : (blksB C).length ≤ 420185015 := by omega
      have hxl : xn ≤ 3001 := by rw [hxn, hX, idxs_len]; omega
      have hXs : smallE X := by rw [hX]; exact idxs_small C 0 hcs (by omega)
      have hXl : (blkB X).length ≤ 420140015 := by have := blkB_len hXs (by omega); omega
      obtain ⟨kb, koff, hko, hrows⟩ := hR.out.keys.rows hKl.symm
      have HMK := Lib.hid (ref_Make per ka i kcap kb koff ((T.map (·.key)).map bs) wr h3 h4 (Lib.hid (by rw [List.length_map, hKl])) (by omega) (Lib.hid hrows) (Lib.hid hko) (Lib.hid (fun t ht => by
        obtain ⟨l, hl, rfl⟩ := List.mem_map.1 ht
        obtain ⟨x, hx, rfl⟩ := List.mem_map.1 hl
        have := hs.out x hx
        rw [bs_size]
        omega)))
      have hmm : ((T.map (·.key)).map bs).map (·.data.toList) = T.map (·.key) := by simp [List.map_map, Function.comp_def, bs_list]
      rw [hmm] at HMK
      have HX := Lib.hid (And.intro hX (And.intro hCk hxn))
      have HXS := Lib.hid hXs
      have HC := Lib.hid hC.out
      have hfil := Lib.hid (filB_len (per := per) (T := T) h3 h4 (by rw [← hlen.out]; omega))
      have hfe := Lib.hid (show filB per T = packF (hashesOf per) (bytesOf (made (hashesOf per) (wordsOf per i * 64) (T.map (·.key))) (wordsOf per i * 8)) by rw [hlen.out]; rfl)
      obtain ⟨F, hF⟩ : ∃ F, F = filB per T := ⟨_, rfl⟩
      rw [← hF] at hfil hfe
      obtain ⟨h, hh⟩ : ∃ h, h = hashesOf per := ⟨_, rfl⟩
      have hh8 := hashesOf_le per
      obtain ⟨m, hm⟩ : ∃ m, m = wordsOf per i := ⟨_, rfl⟩
      have hmb : 1 ≤ m ∧ m ≤ 32769 := by
        have := Nat.mul_le_mul h4 (show i ≤ 65536 by omega)
        rw [hm]
        unfold wordsOf
        omega
      obtain ⟨f, hf⟩ : ∃ f, f = made h (m * 64) (T.map (·.key)) := ⟨_, rfl⟩
      rw [← hh, ← hm] at HMK hfe
      rw [← hf] at HMK hfe
      rw [← hh] at hh8
      obtain ⟨S, hS⟩ : ∃ S, S = blksB C := ⟨_, rfl⟩
      obtain ⟨Y, hY⟩ : ∃ Y, Y = blkB X := ⟨_, rfl⟩
      rw [← hS] at hSl ⊢
      rw [← hY] at hXl
      have HT := Lib.hid (show tabB each per T = S ++ Y ++ crcd F ++ crcd (footB S.length (S.length + Y.length) i) by
        unfold tabB tabC; rw [← hCk, ← hX, ← hF, ← hS, ← hY, hlen.out])
      have HYE := Lib.hid hY
      clear hKT hKl hX hxn hcs hbl hfl hko hrows hmm hCk hF hh hm hf hS hY hXs hC
      go_wp2_with fail
      refine HMK.out.mono ?_
      rintro e w2 ⟨g, rfl, hrow, hg, k2⟩
      have P2 := Lib.hid (show OwnE w2 B (.slice xa xn xcap) X ∧ RowB g f (m * 64) w2 ∧ Below B w w2 ∧ B ≤ w2.heap.size from
        ⟨hR.out.index.below k2, hrow, hBl.out.trans (k2.mono (by rw [HBW.out]; exact hBl.out.size)), Nat.le_trans (show B ≤ wr.heap.size by rw [HBW.out]; exact hBl.out.size) k2.size⟩)
      unfold fv
      clear hrow hg k2 HMK hR hBl
      have zS : (bs S).size = S.length := bs_size _
      have zY : (bs Y).size = Y.length := bs_size _
      go_wp2_with fail
      obtain ⟨W3, hW3⟩ : ∃ W3, W3 = w2.alloc (.cells #[.int .i64 (h : Int), .slice (some ⟨g, 0, none⟩) (m * 64) (m * 64)] 43) := ⟨_, rfl⟩
      obtain ⟨Z, hZ⟩ : ∃ Z, Z = w2.heap.size := ⟨_, rfl⟩
      have P3 := Lib.hid (show OwnE W3 B (.slice xa xn xcap) X ∧ RowB g f (m * 64) W3 ∧ Below B w W3 ∧ B ≤ W3.heap.size ∧ Z < W3.heap.size ∧ W3.cell? ⟨Z, 0, none⟩ = some (.int .i64 (h : Int)) ∧ W3.cell? ⟨Z, 1, none⟩ = some (.slice (some ⟨g, 0, none⟩) (m * 64) (m * 64)) by
        have ha := (Below.refl w2.heap.size w2).alloc (Nat.le_refl _) (.cells #[.int .i64 (h : Int), .slice (some ⟨g, 0, none⟩) (m * 64) (m * 64)] 43)
        rw [← hW3] at ha
        refine ⟨P2.out.1.below ha, P2.out.2.1.below ha, P2.out.2.2.1.trans (ha.mono P2.out.2.2.2), Nat.le_trans P2.out.2.2.2 ha.size, ?_, ?_, ?_⟩
        · rw [hW3, hZ]; simp
        · rw [hW3, hZ, World.cell?_alloc_mark]; rfl
        · rw [hW3, hZ, World.cell?_alloc_mark]; rfl)
      rw [← hW3, ← hZ]
      clear hW3 hZ P2
      refine (ref_Pack xa xn xcap X W3 (Lib.hid (P3.out.1.is HX.out.2.2)) (by omega) HXS).mono ?_
      rintro e w4 ⟨rfl, k4⟩
      rw [blkB_eq, ← HYE.out]
      have P4 := Lib.hid (show RowB g f (m * 64) w4 ∧ Below B w w4 ∧ B ≤ w4.heap.size ∧ Z < w4.heap.size ∧ w4.cell? ⟨Z, 0, none⟩ = some (.int .i64 (h : Int)) ∧ w4.cell? ⟨Z, 1, none⟩ = some (.slice (some ⟨g, 0, none⟩) (m * 64) (m * 64)) from
        ⟨P3.out.2.1.below k4, P3.out.2.2.1.trans (k4.mono P3.out.2.2.2.1), Nat.le_trans P3.out.2.2.2.1 k4.size, Nat.lt_of_lt_of_le P3.out.2.2.2.2.1 k4.size, by rw [k4.cell (p := ⟨Z, 0, none⟩) P3.out.2.2.2.2.1]; exact P3.out.2.2.2.2.2.1, by rw [k4.cell (p := ⟨Z, 1, none⟩) P3.out.2.2.2.2.1]; exact P3.out.2.2.2.2.2.2⟩)
      clear k4 P3
      have HS2 := Lib.hid (fun W => show Calls Tryz.prog 35 #[.int .u32 ((S.length : Int) + (Y.length : Int))] W fun e w' => e = .returned (.string (bs (four (S.length + Y.length)))) ∧ Below W.heap.size W w' by
        have h := ref_Four (S.length + Y.length) W (by omega)
        rw [Int.natCast_add] at h
        exact h)
      obtain ⟨A, hA⟩ : ∃ A, A = four S.length := ⟨_, rfl⟩
      obtain ⟨D, hD⟩ : ∃ D, D = four (S.length + Y.length) := ⟨_, rfl⟩
      obtain ⟨G, hG⟩ : ∃ G, G = four i := ⟨_, rfl⟩
      have hAl : A.length = 4 := by rw [hA]; exact four_len _
      have hDl : D.length = 4 := by rw [hD]; exact four_len _
      have hGl : G.length = 4 := by rw [hG]; exact four_len _
      have j1 : bs A ++ bs D = bs (A ++ D) := bs_join A D
      have s1 := bs_sum A D (by omega)
      have j2 : bs (A ++ D) ++ bs G = bs (A ++ D ++ G) := bs_join (A ++ D) G
      have s2 := bs_sum (A ++ D) G (by rw [List.length_append]; omega)
      have HFT := Lib.hid (show footB S.length (S.length + Y.length) i = A ++ D ++ G by rw [hA, hD, hG]; rfl)
      have hR1 := ref_Four S.length w4 (by omega)
      rw [← hA] at hR1
      have HR1 := Lib.hid hR1
      have HR2 := Lib.hid (fun W => show Calls Tryz.prog 35 #[.int .u32 ((S.length : Int) + (Y.length : Int))] W fun e w' => e = .returned (.string (bs D)) ∧ Below W.heap.size W w' by rw [hD]; exact HS2.out W)
      have HR3 := Lib.hid (fun W => show Calls Tryz.prog 35 #[.int .u32 (i : Int)] W fun e w' => e = .returned (.string (bs G)) ∧ Below W.heap.size W w' by rw [hG]; exact ref_Four i W (by omega))
      clear hA hD hG HS2 hR1
      go_wp2_with fail
      refine HR1.out.mono ?_
      rintro e w5 ⟨rfl, k5⟩
      have K5 := Lib.hid k5
      clear k5
      go_wp2_with fail
      refine (HR2.out w5).mono ?_
      rintro e w6 ⟨rfl, k6⟩
      have K6 := Lib.hid (K5.out.trans (k6.mono K5.out.size))
      clear k6
      go_wp2_with fail
      refine (HR3.out w6).mono ?_
      rintro e w7 ⟨rfl, k7⟩
      have K7 := K6.out.trans (k7.mono K6.out.size)
      have P7 := Lib.hid (show RowB g f (m * 64) w7 ∧ Below B w w7 ∧ B ≤ w7.heap.size from ⟨P4.out.1.below K7, P4.out.2.1.trans (K7.mono P4.out.2.2.1), Nat.le_trans P4.out.2.2.1 K7.size⟩)
      have c0 : w7.cell? ⟨Z, 0, none⟩ = some (.int .i64 (h : Int)) := by rw [K7.cell (p := ⟨Z, 0, none⟩) P4.out.2.2.2.1]; exact P4.out.2.2.2.2.1
      have c1 : w7.cell? ⟨Z, 1, none⟩ = some (.slice (some ⟨g, 0, none⟩) (m * 64) (m * 64)) := by rw [K7.cell (p := ⟨Z, 1, none⟩) P4.out.2.2.2.1]; exact P4.out.2.2.2.2.2
      clear k7 K7 K5 K6 P4 HR1 HR2 HR3
      have j3 : bs S ++ bs Y = bs (S ++ Y) := bs_join S Y
      have s3 := bs_sum S Y (by omega)
      go_wp2_with fail
      have e8 : m * 8 * 8 = m * 64 := by omega
      have hpk := ref_pack h g (m * 8) (m * 64) f w7 (Lib.hid (by rw [e8]; exact P7.out.1)) (by omega) (by omega) (by omega)
      unfold fv at hpk
      rw [e8, ← hfe.out] at hpk
      refine hpk.mono ?_
      rintro e w8 ⟨rfl, k8⟩
      have K8 := Lib.hid (show Below B w w8 ∧ B ≤ w8.heap.size from ⟨P7.out.2.1.trans (k8.mono P7.out.2.2), Nat.le_trans P7.out.2.2 k8.size⟩)
      have hFl := hfil.out
      have hq := ref_Put (bs F) w8 (by rw [bs_size]; omega)
      rw [bs_list, show F ++ four (sumL F) = crcd F from rfl] at hq
      obtain ⟨V, hV⟩ : ∃ V, V = crcd F := ⟨_, rfl⟩
      have hVl : V.length = F.length + 4 := by rw [hV]; exact crcd_len F
      rw [← hV] at hq
      have HQ := Lib.hid hq
      obtain ⟨U, hU⟩ : ∃ U, U = A ++ (D ++ G) := ⟨_, rfl⟩
      have hUl : U.length = 12 := by rw [hU]; simp only [List.length_append]; omega
      obtain ⟨E, hE⟩ : ∃ E, E = crcd U := ⟨_, rfl⟩
      have hEl : E.length = 16 := by rw [hE, crcd_len, hUl]
      have HE := Lib.hid (fun W => show Calls Tryz.prog 10 #[.string (bs (A ++ (D ++ G)))] W fun e w' => e = .returned (.string (bs E)) ∧ Below W.heap.size W w' by
        have h := ref_Put (bs U) W (by rw [bs_size]; omega)
        rw [bs_list, show U ++ four (sumL U) = crcd U from rfl, ← hE, hU] at h
        exact h)
      have HTT := Lib.hid (show tabB each per T = S ++ Y ++ V ++ E by rw [HT.out, HFT.out, List.append_assoc A D G, ← hU, ← hE, ← hV])
      have j4 : bs (S ++ Y) ++ bs V = bs (S ++ Y ++ V) := bs_join (S ++ Y) V
      have s4 := bs_sum (S ++ Y) V (by rw [List.length_append]; omega)
      have j5 : bs (S ++ (Y ++ V)) ++ bs E = bs (S ++ (Y ++ V) ++ E) := bs_join (S ++ (Y ++ V)) E
      have s5 := bs_sum (S ++ (Y ++ V)) E (by simp only [List.length_append]; omega)
      clear hq hpk hV hU hE k8 P7 c0 c1 e8 hfe
      go_wp2_with fail
      refine HQ.out.mono ?_
      rintro e w9 ⟨rfl, k9⟩
      have K9 := Lib.hid (show Below B w w9 ∧ B ≤ w9.heap.size from ⟨K8.out.1.trans (k9.mono K8.out.2), Nat.le_trans K8.out.2 k9.size⟩)
      clear k9 K8 HQ
      go_wp2_with fail
      refine (HE.out w9).mono ?_
      rintro e w10 ⟨rfl, k10⟩
      have K10 := Lib.hid (K9.out.1.trans (k10.mono K9.out.2))
      clear k10 K9 HE
      go_wp2_with fail
      go_ret2
      rw [show tabB each per T = S ++ (Y ++ (V ++ E)) by rw [HTT.out]; simp only [List.append_assoc]]
      exact ⟨rfl, K10.out⟩
/-- The document's Build, of any entries that are few. -/
theorem ref_Build (a : Option Addr) (len cap : Nat) (T : List Ent) (each per : Int) (w : World) (hT : Hid (IsE w a len T)) (hl : len ≤ 3001) (hs : Hid (smallE T)) :
    Calls Tryz.prog 8 #[.slice a len cap, .int .i64 each, .int .i64 per] w fun e w' => e = .returned (.tuple #[.string (bs (if buildE each per T = 0 then tabB each.toNat per.toNat T else [])), .int .i64 (buildE each per T)]) ∧ Below w.heap.size w w' := by
  by_cases h : each < 1 ∨ 256 < each ∨ per < 1 ∨ 32 < per
  · have hb : buildE each per T = 1 := by unfold buildE; rw [if_pos h]
    rw [hb, if_neg (by decide)]
    exact rbuild_arg a len cap each per w h
  · have hb : buildE each per T = chkE T := by unfold buildE; rw [if_neg h]
    obtain ⟨n, hn⟩ : ∃ n : Nat, each = n := ⟨each.toNat, by omega⟩
    obtain ⟨m, hm⟩ : ∃ m : Nat, per = m := ⟨per.toNat, by omega⟩
    subst hn hm
    rw [hb]
    by_cases hc : chkE T = 0
    · rw [if_pos hc, hc]
      exact rbuild_ok a len cap T n m w hT hl hs (by omega) (by omega) (by omega) (by omega) (Lib.hid hc)
    · rw [if_neg hc]
      exact rbuild_bad a len cap T n m w hT (by omega) (Lib.hid (fit_of_small hs.out)) (by omega) (by omega) (by omega) (by omega) (Lib.hid hc)
end Go.Proofs.YteejldddgogbkaaGreatDoor
