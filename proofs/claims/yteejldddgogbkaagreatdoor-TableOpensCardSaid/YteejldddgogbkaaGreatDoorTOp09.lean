/- Texts put together: BlockRefOpen, QFirst, ShaRight -/
import Derived.Test.YteejldddgogbkaaGreatDoorTOp08
import Derived.Test.YteejldddgogbkaaGreatDoorTOp06
import Derived.Test.YteejldddgogbkaaGreatDoorTOp04
import Derived.Test.YteejldddgogbkaaGreatDoorTOp00
/- The document's Open. -/
set_option linter.unusedVariables false
set_option maxRecDepth 100000
set_option maxRecDepth 100000
namespace Go.Proofs.YteejldddgogbkaaGreatDoor
open Go.RowKit

theorem ropen_no {s : List UInt8} {w w' : World} {z : Int} (h : opnS s = (z, [])) (hb : Below w.heap.size w w') : OpenedPost s w (.returned (.tuple #[.slice none 0 0, .int .i64 z])) w' := open_no h hb
/-- Where the document's Open stands: T read, k bytes of the body gone over. -/
theorem opnS_count {s l : List UInt8} (h : takeE s = 0) (hl : l = takeT s) (hc : ce l ≠ 0) : opnS s = (ce l, []) := by
  unfold opnS opn
  rw [if_neg (by rw [h]; decide), ← hl]
  simp only [if_pos hc]
theorem opnS_bad {s l : List UInt8} {T : List Ent} {m k : Nat} (h : takeE s = 0) (hl : l = takeT s) (hc : ce l = 0) (hu : UponE (cn l).toNat (l.drop (ck l)) (m + 1) T k) (he : (rdE T.isEmpty (lastK [] T) ((l.drop (ck l)).drop k)).1 ≠ 0) : opnS s = ((rdE T.isEmpty (lastK [] T) ((l.drop (ck l)).drop k)).1, []) := by
  unfold opnS opn
  rw [if_neg (by rw [h]; decide), ← hl]
  simp only [if_neg (show ¬ ce l ≠ 0 by rw [hc]; decide), uponE_stop hu he]
  rw [if_pos he]
theorem opnS_end {s l : List UInt8} {T : List Ent} {k : Nat} (h : takeE s = 0) (hl : l = takeT s) (hc : ce l = 0) (hu : UponE (cn l).toNat (l.drop (ck l)) 0 T k) : opnS s = (if 65536 < T.length then (6, []) else if ck l + k ≠ l.length then (5, []) else (0, T)) := by
  unfold opnS opn
  rw [if_neg (by rw [h]; decide), ← hl]
  simp only [if_neg (show ¬ ce l ≠ 0 by rw [hc]; decide), uponE_end hu]
  rw [if_neg (by simp)]

theorem Bx3.free {c : Nat} {x : Ent} {w : World} (h : Bx3 c x w) (j : Nat) : w.frozen? ⟨c, j, none⟩ = false := by unfold Bx3 at h; simp [World.frozen?, h]
theorem Bx3.put2 {c : Nat} {x : Ent} {w : World} (h : Bx3 c x w) (g : Bool) : Bx3 c ⟨x.key, x.val, g⟩ (w.setCell ⟨c, 2, none⟩ (.bool g)) := heap_set (o := 2) h _
theorem Bx3.put1 {c : Nat} {x : Ent} {w : World} (h : Bx3 c x w) (u : List UInt8) : Bx3 c ⟨x.key, u, x.gone⟩ (w.setCell ⟨c, 1, none⟩ (.string (bs u))) := heap_set (o := 1) h _
theorem OwnE.beside {w : World} {B c : Nat} {v : Value} {R : List Ent} (h : OwnE w B v R) (hc : ∀ k, v.ownBlock = some k → k < c) (o : Nat) (u : Value) : OwnE (w.setCell ⟨c, o, none⟩ u) B v R :=
  OffRow.kept h fun j hj => heap_set_other (by have := hc j hj; omega) u
theorem rdE_if {first : Bool} {last l l1 l2 l3 : List UInt8} {k v : Nat} (h1 : l1 = l.drop (ck l)) (h2 : l2 = l1.drop (tk l1)) (h3 : l3 = l2.drop (ck l2)) (hk : k = (cn l).toNat) (hv : v = (cn l2).toNat) :
    rdE first last l = (if ce l ≠ 0 then (ce l, ⟨[], [], false⟩, 0) else if te l1 ≠ 0 then (te l1, ⟨[], [], false⟩, 0) else if last.length < k ∨ sharedL last (last.take k ++ ts l1) ≠ k then (3, ⟨[], [], false⟩, 0) else if 65536 < k + (ts l1).length then (6, ⟨[], [], false⟩, 0)
      else if ce l2 ≠ 0 then (ce l2, ⟨[], [], false⟩, 0) else if 65537 < v then (6, ⟨[], [], false⟩, 0) else if l3.length + 1 < v then (2, ⟨[], [], false⟩, 0) else if first = false ∧ ltB last (last.take k ++ ts l1) = false then (3, ⟨[], [], false⟩, 0)
      else (0, ⟨last.take k ++ ts l1, l3.take (v - 1), v == 0⟩, ck l + tk l1 + ck l2 + (v - 1))) := by
  unfold rdE
  simp only [← h1, ← hk]
  simp only [← h2]
  simp only [← h3, ← hv]
theorem NewE.of {w : World} {a : Option Addr} {n c : Nat} {z : Value} (h : ∀ b off, a = some ⟨b, off, Option.none⟩ → w.heap.size ≤ b) : NewE w (.returned (.tuple #[.slice a n c, z])) := fun b off n' c' z' e => by
  injection e with e
  injection e with e
  have hh := congrArg (fun v => v.toList) e
  simp only [List.cons.injEq] at hh
  have h0 := hh.1
  injection h0 with h0 _ _
  exact h b off h0
theorem ropen_new {s : List UInt8} {w w' : World} {z : Int} (h : opnS s = (z, [])) (hb : Below w.heap.size w w') : OpenedPost s w (.returned (.tuple #[.slice none 0 0, .int .i64 z])) w' ∧ NewE w (.returned (.tuple #[.slice none 0 0, .int .i64 z])) := ⟨open_no h hb, NewE.none _ _ _ _⟩
set_option maxHeartbeats 8000000 in
theorem ref_OpensN (s : List UInt8) (w : World) (hs : s.length ≤ 100000000000) :
    Calls Tryz.prog 44 #[.string (bs s)] w (fun e w' => OpenedPost s w e w' ∧ NewE w e) := by
  obtain ⟨i0, hi, hz0, hz1, hz2⟩ := info_parts infoE
  have HI := Lib.hid (And.intro hi (And.intro hz0 (And.intro hz1 hz2)))
  have htk := ref_Take (bs s) w (by rw [bs_size]; omega)
  rw [bs_list] at htk
  clear hi hz0 hz1 hz2
  by_cases h1 : takeE s ≠ 0
  · have hno := Lib.hid (show opnS s = (takeE s, []) by unfold opnS; rw [if_pos h1])
    have hb : (takeE s == 0) = false := beq_eq_false_iff_ne.2 h1
    obtain ⟨z, hz⟩ : ∃ z, z = takeE s := ⟨_, rfl⟩
    rw [← hz] at htk hb hno
    have HT := Lib.hid htk
    clear htk h1 hz
    go_enter Tryz.func44, Tryz.ntmps44
    go_wp2_with fail
    refine HT.out.mono ?_
    rintro e w1 ⟨rfl, k1⟩
    go_wp2_with fail
    go_ret2
    exact ropen_new hno.out k1
  · have h1' : takeE s = 0 := Decidable.of_not_not h1
    obtain ⟨l, hl⟩ : ∃ l, l = takeT s := ⟨_, rfl⟩
    have hll : l.length ≤ 100000000000 := by rw [hl]; have := takeT_len s; omega
    rw [← hl, h1'] at htk
    have HT := Lib.hid htk
    have HL := Lib.hid (And.intro h1' hl)
    have hcnt := fun W => ref_ReadCount (bs l) W (by rw [bs_size]; unfold maxLen; omega)
    rw [bs_list] at hcnt
    have zl : (bs l).size = l.length := bs_size _
    clear htk h1 h1' hl
    by_cases h2 : ce l ≠ 0
    · have hno := Lib.hid (opnS_count HL.out.1 HL.out.2 h2)
      have hb : (ce l == 0) = false := beq_eq_false_iff_ne.2 h2
      obtain ⟨z, hz⟩ : ∃ z, z = ce l := ⟨_, rfl⟩
      rw [← hz] at hcnt hb hno
      have HC := Lib.hid hcnt
      clear hcnt h2 hz
      go_enter Tryz.func44, Tryz.ntmps44
      go_wp2_with fail
      refine HT.out.mono ?_
      rintro e w1 ⟨rfl, k1⟩
      go_wp2_with fail
      refine (HC.out w1).mono ?_
      rintro e w2 ⟨rfl, rfl⟩
      go_wp2_with fail
      go_ret2
      exact ropen_new hno.out k1
    · have hc0 : ce l = 0 := Decidable.of_not_not h2
      obtain ⟨n, hn⟩ : ∃ n, n = (cn l).toNat := ⟨_, rfl⟩
      have hkn : cn l = (n : Int) := by have := cn_of' hc0; omega
      have hn64 : n ≤ 9223372036854775807 := by have := cd_cases l; omega
      obtain ⟨q, hq⟩ : ∃ q, q = ck l := ⟨_, rfl⟩
      have hql : q ≤ l.length := by rw [hq]; have := cd_cases l; omega
      have HQ := Lib.hid hq
      have HNN := Lib.hid hn
      have HC0 := Lib.hid hc0
      rw [hkn, ← hq, hc0] at hcnt
      have HC := Lib.hid hcnt
      clear hcnt h2 hc0 hn hkn hq
      go_enter Tryz.func44, Tryz.ntmps44
      go_wp2_with fail
      refine HT.out.mono ?_
      rintro e w1 ⟨rfl, k1⟩
      have K1 := Lib.hid k1
      clear k1
      go_wp2_with fail
      refine (HC.out w1).mono ?_
      rintro e w2 ⟨rfl, rfl⟩
      obtain ⟨B, hB⟩ : ∃ B, B = w.heap.size := ⟨_, rfl⟩
      rw [← hB] at K1
      have HB := Lib.hid hB
      clear hB
      go_wp2_with fail
      obtain ⟨l0, hl0⟩ : ∃ l0, l0 = l.drop q := ⟨_, rfl⟩
      have HL0 := Lib.hid hl0
      have HUP0 := Lib.hid (uponE_start n l0)
      clear hl0
      go_loopw [6, 7, 8, 9] (fun av ov lv iv wr => ∃ (j k : Nat) (T : List Ent), j ≤ n ∧ iv = .int .i64 j ∧ av = .int .i64 ((q + k : Nat) : Int) ∧ Hid (OwnE wr B ov T) ∧ lv = .string (bs (lastK [] T)) ∧ Hid (UponE n l0 (n - j) T k) ∧ Hid (T.length ≤ k ∧ T.length = j ∧ (lastK [] T).length ≤ 65536) ∧ q + k ≤ l.length ∧ Hid (Below B w wr)) (fun av ov lv iv wr => n - (intOf iv).toNat)
      case atStart => exact ⟨0, 0, [], Nat.zero_le _, rfl, by simp, Lib.hid (OwnE.nil _ _), rfl, by rw [Nat.sub_zero]; exact HUP0, Lib.hid ⟨Nat.zero_le _, rfl, by simp [lastK]⟩, by omega, K1⟩
      case round =>
        obtain ⟨j, k, T, hj, rfl, rfl, hO, rfl, hup, hTk, hqk, hBl⟩ := hrel
        obtain ⟨a3, cap3, rfl⟩ := hO.out.slice
        obtain ⟨tn, htn⟩ : ∃ tn, tn = T.length := ⟨_, rfl⟩
        have hO2 := hO.out
        rw [← htn] at hO2 ⊢
        have HO := Lib.hid hO2
        have HTN := Lib.hid htn
        obtain ⟨p, hp⟩ : ∃ p, p = q + k := ⟨_, rfl⟩
        rw [← hp] at hqk ⊢
        have HP := Lib.hid hp
        clear hO hO2 htn hp
        by_cases hlt : j < n
        · obtain ⟨m, hm⟩ : ∃ m, n - j = m + 1 := ⟨n - j - 1, by omega⟩
          rw [hm] at hup
          have HM := Lib.hid hm
          clear hm
          obtain ⟨cur, hcur⟩ : ∃ cur, cur = l.drop p := ⟨_, rfl⟩
          have HCUR := Lib.hid (show l0.drop k = cur by rw [HL0.out, hcur, HP.out, List.drop_drop])
          have HCL := Lib.hid (show cur.length = l.length - p by rw [hcur, List.length_drop])
          have HCD := Lib.hid hcur
          have hrest := rest_bs l p
          rw [bs_size, ← hcur] at hrest
          obtain ⟨last, hlast⟩ : ∃ last, last = lastK [] T := ⟨_, rfl⟩
          have HLAST := Lib.hid hlast
          have hll2 : last.length ≤ 65536 := by rw [hlast]; exact hTk.out.2.2
          have HBAD := Lib.hid (show ∀ z, (rdE T.isEmpty last cur).1 = z → z ≠ 0 → opnS s = (z, []) from fun z hz h0 => by
            rw [hlast, ← HCUR.out, HL0.out, HQ.out] at hz
            have hu := hup.out
            rw [HNN.out, HL0.out, HQ.out] at hu
            rw [opnS_bad HL.out.1 HL.out.2 HC0.out hu (by rw [hz]; exact h0), hz])
          rw [← hlast]
          clear hlast hcur
          have hcnt := fun W => ref_ReadCount (bs cur) W (by rw [bs_size]; have := HCL.out; unfold maxLen; omega)
          rw [bs_list] at hcnt
          by_cases hpe : p = l.length
          · have hno := Lib.hid (HBAD.out 2 (by rw [List.eq_nil_of_length_eq_zero (l := cur) (by have := HCL.out; omega)]; exact rdE_nil _ _) (by decide))
            have hpb : ((p : Int) == (l.length : Int)) = true := beq_iff_eq.2 (by omega)
            have HPE := Lib.hid hpe
            clear hpe hcnt
            go_wp2_with fail
            go_ret2
            exact ropen_new hno.out (by rw [← HB.out]; exact hBl.out)
          · have hpb : ((p : Int) == (l.length : Int)) = false := beq_eq_false_iff_ne.2 (by omega)
            clear hpe
            by_cases g1 : ce cur ≠ 0
            · have hno := Lib.hid (HBAD.out (ce cur) (by rw [rdE_if rfl rfl rfl rfl rfl, if_pos g1]) g1)
              have hb : (ce cur == 0) = false := beq_eq_false_iff_ne.2 g1
              obtain ⟨z, hz⟩ : ∃ z, z = ce cur := ⟨_, rfl⟩
              rw [← hz] at hcnt hb hno
              have HC2 := Lib.hid hcnt
              clear hcnt g1 hz
              go_wp2_with fail
              refine (HC2.out wr).mono ?_
              rintro e _ ⟨rfl, rfl⟩
              go_wp2_with fail
              go_ret2
              exact ropen_new hno.out (by rw [← HB.out]; exact hBl.out)
            · have hc0 : ce cur = 0 := Decidable.of_not_not g1
              obtain ⟨c, hc⟩ : ∃ c, c = (cn cur).toNat := ⟨_, rfl⟩
              have hcc : cn cur = (c : Int) := by have := cn_of' hc0; omega
              have hc64 : c ≤ 9223372036854775807 := by have := cd_cases cur; omega
              obtain ⟨q1, hq1⟩ : ∃ q1, q1 = ck cur := ⟨_, rfl⟩
              have hq1l : p + q1 ≤ l.length := by have h := cd_cases cur; have := HCL.out; rw [← hq1] at h; omega
              obtain ⟨p1, hp1⟩ : ∃ p1 : Nat, (p : Int) + (q1 : Int) = (p1 : Int) := ⟨p + q1, by omega⟩
              have hp1l : p1 ≤ l.length := by omega
              obtain ⟨l1, hl1⟩ : ∃ l1, l1 = cur.drop q1 := ⟨_, rfl⟩
              have HL1 := Lib.hid (show l1 = l.drop p1 by rw [hl1, HCD.out, List.drop_drop]; congr 1; omega)
              have hr1 := rest_bs l p1
              rw [bs_size, ← HL1.out] at hr1
              have hl1l := Lib.hid (show l1.length = l.length - p1 by rw [HL1.out, List.length_drop])
              have HD1 := Lib.hid (show l1 = cur.drop (ck cur) by rw [hl1, hq1])
              rw [hcc, ← hq1, hc0] at hcnt
              have HC2 := Lib.hid hcnt
              have htx := fun W => ref_ReadText (bs l1) W (by rw [bs_size, hl1l.out]; unfold maxLen; omega)
              rw [bs_list] at htx
              have HQ1 := Lib.hid hq1
              have HCN := Lib.hid hc
              have G1 := Lib.hid g1
              clear hcnt hc0 hcc hq1 hc hl1 g1
              go_wp2_with fail
              refine (HC2.out wr).mono ?_
              rintro e _ ⟨rfl, rfl⟩
              clear HC2 hrest
              by_cases g2 : te l1 ≠ 0
              · have hno := Lib.hid (HBAD.out (te l1) (by rw [rdE_if HD1.out rfl rfl rfl rfl, if_neg G1.out, if_pos g2]) g2)
                have hb : (te l1 == 0) = false := beq_eq_false_iff_ne.2 g2
                obtain ⟨z, hz⟩ : ∃ z, z = te l1 := ⟨_, rfl⟩
                rw [← hz] at htx hb hno
                have HX := Lib.hid htx
                clear htx g2 hz
                go_wp2_with fail
                refine (HX.out wr).mono ?_
                rintro e _ ⟨rfl, rfl⟩
                go_wp2_with fail
                go_ret2
                exact ropen_new hno.out (by rw [← HB.out]; exact hBl.out)
              · have ht0 : te l1 = 0 := Decidable.of_not_not g2
                obtain ⟨rest, hre⟩ : ∃ rest, rest = ts l1 := ⟨_, rfl⟩
                obtain ⟨q2, hq2⟩ : ∃ q2, q2 = tk l1 := ⟨_, rfl⟩
                have hq2l : p1 + q2 ≤ l.length ∧ rest.length ≤ l.length := by
                  have h := td_cases l1
                  rw [← hq2, ← hre] at h
                  have h1 := hl1l.out
                  rcases h with ⟨_, _, _, h2, _, _, h3⟩ | ⟨h2, _⟩
                  · rw [h3, List.length_take, List.length_drop]; omega
                  · omega
                obtain ⟨hq2l, hresl⟩ := hq2l
                obtain ⟨p2, hp2⟩ : ∃ p2 : Nat, (p1 : Int) + (q2 : Int) = (p2 : Int) := ⟨p1 + q2, by omega⟩
                have hp2l : p2 ≤ l.length := by omega
                obtain ⟨l2, hl2⟩ : ∃ l2, l2 = l1.drop q2 := ⟨_, rfl⟩
                have HL2 := Lib.hid (show l2 = l.drop p2 by rw [hl2, HL1.out, List.drop_drop]; congr 1; omega)
                have hr2 := rest_bs l p2
                rw [bs_size, ← HL2.out] at hr2
                have hl2l := Lib.hid (show l2.length = l.length - p2 by rw [HL2.out, List.length_drop])
                have HD2 := Lib.hid (show l2 = l1.drop (tk l1) by rw [hl2, hq2])
                rw [← hre, ← hq2, ht0] at htx
                have HX := Lib.hid htx
                have HRE := Lib.hid hre
                have HQ2 := Lib.hid hq2
                have G2 := Lib.hid g2
                have zla : (bs last).size = last.length := bs_size _
                have zre : (bs rest).size = rest.length := bs_size _
                clear htx ht0 hre hq2 hl2 g2
                go_wp2_with fail
                refine (HX.out wr).mono ?_
                rintro e _ ⟨rfl, rfl⟩
                clear HX hr1
                by_cases g3 : last.length < c
                · have hno := Lib.hid (HBAD.out 3 (by rw [rdE_if HD1.out HD2.out rfl HCN.out rfl, if_neg G1.out, if_neg G2.out, if_pos (.inl g3)]) (by decide))
                  go_wp2_with fail
                  go_ret2
                  exact ropen_new hno.out (by rw [← HB.out]; exact hBl.out)
                · have hcle : c ≤ last.length := by omega
                  obtain ⟨key, hkey⟩ : ∃ key, key = last.take c ++ rest := ⟨_, rfl⟩
                  have x1 : (bs last).extract 0 c = bs (last.take c) := (take_split (s := bs last) (n := c) (by rw [bs_size]; exact hcle)).1
                  have x2 : bs (last.take c) ++ bs rest = bs key := by rw [bs_join, hkey]
                  have x3 := bs_sum (last.take c) rest (by rw [List.length_take]; omega)
                  have hkeyl : key.length = c + rest.length := by rw [hkey, List.length_append, List.length_take]; omega
                  have hkl2 : key.length ≤ 100000100000 := by omega
                  have HKL := Lib.hid hkeyl
                  obtain ⟨sh, hsh⟩ : ∃ sh, sh = sharedL last key := ⟨_, rfl⟩
                  have hshr := fun W => ref_Shared last key W (by omega) (by omega)
                  rw [← hsh] at hshr
                  have HSHR := Lib.hid hshr
                  have HSH := Lib.hid hsh
                  have HKEY := Lib.hid hkey
                  have hshl : sh ≤ 65536 := by rw [hsh]; have := (shared_le last key).1; omega
                  clear hshr hsh hkey hkeyl
                  go_wp2_with fail
                  refine (HSHR.out wr).mono ?_
                  rintro e w3 ⟨rfl, k3⟩
                  have B3 := Lib.hid (hBl.out.trans (k3.mono (by rw [HB.out]; exact (by have := hBl.out.size; rw [← HB.out] at this ⊢; exact this))))
                  have O3 := Lib.hid (HO.out.below k3)
                  clear k3 HO hBl
                  by_cases g4 : sh ≠ c
                  · have hno := Lib.hid (HBAD.out 3 (by rw [rdE_if HD1.out HD2.out rfl HCN.out rfl, if_neg G1.out, if_neg G2.out, if_pos (.inr (by rw [← HRE.out, ← HKEY.out, ← HSH.out]; exact g4))]) (by decide))
                    have hb : ((sh : Int) == (c : Int)) = false := beq_eq_false_iff_ne.2 (by omega)
                    go_wp2_with fail
                    go_ret2
                    exact ropen_new hno.out (by rw [← HB.out]; exact B3.out)
                  · have hshc : sh = c := Decidable.of_not_not g4
                    have HSC := Lib.hid hshc
                    have hb : ((sh : Int) == (c : Int)) = true := beq_iff_eq.2 (by omega)
                    have HN3 := Lib.hid (show ¬ (last.length < c ∨ sharedL last (last.take c ++ ts l1) ≠ c) by rw [← HRE.out, ← HKEY.out, ← HSH.out]; omega)
                    clear g4 hshc
                    by_cases g5 : 65536 < c + rest.length
                    · have hno := Lib.hid (HBAD.out 6 (by rw [rdE_if HD1.out HD2.out rfl HCN.out rfl, if_neg G1.out, if_neg G2.out, if_neg HN3.out, if_pos (by rw [← HRE.out]; exact g5)]) (by decide))
                      go_wp2_with fail
                      go_ret2
                      exact ropen_new hno.out (by rw [← HB.out]; exact B3.out)
                    · have HN5 := Lib.hid (show ¬ 65536 < c + (ts l1).length by rw [← HRE.out]; exact g5)
                      obtain ⟨W4, hW4⟩ : ∃ W4, w3.alloc (.cells #[.string (bs key), .string ⟨#[]⟩, .bool false] 49) = W4 := ⟨_, rfl⟩
                      have P4 := Lib.hid (show Bx3 w3.heap.size ⟨key, [], false⟩ W4 ∧ OwnE W4 B (.slice a3 tn cap3) T ∧ Below B w W4 by
                        have hb : Below w3.heap.size w3 W4 := by rw [← hW4]; exact (Below.refl _ _).alloc (Nat.le_refl _) _
                        exact ⟨by rw [← hW4]; exact heap_new w3 _, O3.out.below hb, B3.out.trans (hb.mono (by have := B3.out.size; rw [← HB.out] at this; exact this))⟩)
                      have HW4 := Lib.hid hW4
                      have HVZ := Lib.hid (fun k hk => (OffRow.lt O3.out k hk).2 : ∀ k, (Value.slice a3 tn cap3).ownBlock = some k → k < w3.heap.size)
                      clear hW4 O3
                      go_upto_region 27 with (fail)
                      rw [HW4.out]
                      obtain ⟨Z, hZ⟩ : ∃ Z, Z = w3.heap.size := ⟨_, rfl⟩
                      rw [← hZ] at P4 HVZ ⊢
                      have HZB := Lib.hid (show B ≤ Z by rw [hZ, HB.out]; exact (by have := B3.out.size; rw [← HB.out] at this ⊢; exact this))
                      clear hZ HW4 B3 x1 x2 x3 hb
                      have hcnt := fun W => ref_ReadCount (bs l2) W (by rw [bs_size, hl2l.out]; unfold maxLen; omega)
                      rw [bs_list] at hcnt
                      by_cases g6 : ce l2 ≠ 0
                      · have hno := Lib.hid (HBAD.out (ce l2) (by rw [rdE_if HD1.out HD2.out rfl HCN.out rfl, if_neg G1.out, if_neg G2.out, if_neg HN3.out, if_neg HN5.out, if_pos g6]) g6)
                        have hb : (ce l2 == 0) = false := beq_eq_false_iff_ne.2 g6
                        obtain ⟨z, hz⟩ : ∃ z, z = ce l2 := ⟨_, rfl⟩
                        rw [← hz] at hcnt hb hno
                        have HC3 := Lib.hid hcnt
                        clear hcnt g6 hz
                        go_wp2_with fail
                        refine (HC3.out W4).mono ?_
                        rintro e _ ⟨rfl, rfl⟩
                        go_wp2_with fail
                        go_ret2
                        exact ropen_new hno.out (by rw [← HB.out]; exact P4.out.2.2)
                      · have hc0 : ce l2 = 0 := Decidable.of_not_not g6
                        obtain ⟨v, hv⟩ : ∃ v, v = (cn l2).toNat := ⟨_, rfl⟩
                        have hvc : cn l2 = (v : Int) := by have := cn_of' hc0; omega
                        have hv64 : v ≤ 9223372036854775807 := by have := cd_cases l2; omega
                        obtain ⟨q3, hq3⟩ : ∃ q3, q3 = ck l2 := ⟨_, rfl⟩
                        have hq3l : p2 + q3 ≤ l.length := by have h := cd_cases l2; have := hl2l.out; rw [← hq3] at h; omega
                        obtain ⟨p3, hp3⟩ : ∃ p3 : Nat, (p2 : Int) + (q3 : Int) = (p3 : Int) := ⟨p2 + q3, by omega⟩
                        have hp3l : p3 ≤ l.length := by omega
                        obtain ⟨l3, hl3⟩ : ∃ l3, l3 = l2.drop q3 := ⟨_, rfl⟩
                        have HL3 := Lib.hid (show l3 = l.drop p3 by rw [hl3, HL2.out, List.drop_drop]; congr 1; omega)
                        have hr3 := rest_bs l p3
                        rw [bs_size, ← HL3.out] at hr3
                        have hl3l := Lib.hid (show l3.length = l.length - p3 by rw [HL3.out, List.length_drop])
                        have HD3 := Lib.hid (show l3 = l2.drop (ck l2) by rw [hl3, hq3])
                        rw [hvc, ← hq3, hc0] at hcnt
                        have HC3 := Lib.hid hcnt
                        have HQ3 := Lib.hid hq3
                        have HV := Lib.hid hv
                        have G6 := Lib.hid g6
                        have zl3 : (bs l3).size = l3.length := bs_size _
                        obtain ⟨l3n, hl3n⟩ : ∃ l3n, l3n = l3.length := ⟨_, rfl⟩
                        rw [← hl3n] at zl3
                        have hl3m : l3n = l.length - p3 := by rw [hl3n, hl3l.out]
                        have hsub : (l.length : Int) - (p3 : Int) = (l3n : Int) := by omega
                        have HL3N := Lib.hid hl3n
                        have hl3b : l3n ≤ 100000000000 := by omega
                        clear hcnt hc0 hvc hq3 hv hl3 g6 hl3n hl3m
                        go_wp2_with fail
                        refine (HC3.out W4).mono ?_
                        rintro e _ ⟨rfl, rfl⟩
                        clear HC3 hr2
                        by_cases g7 : 65537 < v
                        · have hno := Lib.hid (HBAD.out 6 (by rw [rdE_if HD1.out HD2.out HD3.out HCN.out HV.out, if_neg G1.out, if_neg G2.out, if_neg HN3.out, if_neg HN5.out, if_neg G6.out, if_pos g7]) (by decide))
                          go_wp2_with fail
                          go_ret2
                          exact ropen_new hno.out (by rw [← HB.out]; exact P4.out.2.2)
                        · have G7 := Lib.hid g7
                          have qf := P4.out.1.free
                          obtain ⟨d0, d1, d2⟩ := P4.out.1.cells
                          by_cases g8 : l3n + 1 < v
                          · have hno := Lib.hid (HBAD.out 2 (by rw [rdE_if HD1.out HD2.out HD3.out HCN.out HV.out, if_neg G1.out, if_neg G2.out, if_neg HN3.out, if_neg HN5.out, if_neg G6.out, if_neg G7.out, if_pos (by rw [← HL3N.out]; exact g8)]) (by decide))
                            obtain ⟨v1, hv1⟩ : ∃ v1 : Nat, (v : Int) - 1 = (v1 : Int) := ⟨v - 1, by omega⟩
                            have hv1l : l3n < v1 := by omega
                            have hv0 : 0 < v := by omega
                            have hvb : ((v : Int) == 0) = false := beq_eq_false_iff_ne.2 (by omega)
                            go_wp2_with fail
                            go_ret2
                            exact ropen_new hno.out (by rw [← HB.out]; exact P4.out.2.2.setCell (p := ⟨Z, 2, none⟩) HZB.out _)
                          · obtain ⟨v1, hv1⟩ : ∃ v1 : Nat, v1 = v - 1 := ⟨_, rfl⟩
                            have hfirst := Lib.hid (show T.isEmpty = decide (j = 0) by
                              have := hTk.out.2.1
                              cases T with
                              | nil => simp at this; rw [decide_eq_true this.symm]; rfl
                              | cons y T => simp at this; rw [decide_eq_false (by omega)]; rfl)
                            obtain ⟨p4, hp4⟩ : ∃ p4, p4 = p3 + v1 := ⟨_, rfl⟩
                            have HP4 := Lib.hid (show p3 = q + (k + (q1 + q2 + q3)) ∧ p3 + (v - 1) ≤ l.length by have := HP.out; omega)
                            have HPP := Lib.hid (show q + k ≤ l.length by have := HP.out; omega)
                            obtain ⟨val, hval⟩ : ∃ val, val = l3.take (v - 1) := ⟨_, rfl⟩
                            obtain ⟨g, hg⟩ : ∃ g, g = (v == 0) := ⟨_, rfl⟩
                            have HRD := Lib.hid (show rdE T.isEmpty last cur = if T.isEmpty = false ∧ ltB last key = false then (3, ⟨[], [], false⟩, 0) else (0, ⟨key, val, g⟩, q1 + q2 + q3 + (v - 1)) by
                              rw [rdE_if HD1.out HD2.out HD3.out HCN.out HV.out, if_neg G1.out, if_neg G2.out, if_neg HN3.out, if_neg HN5.out, if_neg G6.out, if_neg G7.out, if_neg (by rw [← HL3N.out]; exact g8), hval, hg, HKEY.out, HRE.out, HQ1.out, HQ2.out, HQ3.out])
                            have hok : ¬ (T.isEmpty = false ∧ ltB last key = false) → rdE T.isEmpty last cur = (0, ⟨key, val, g⟩, q1 + q2 + q3 + (v - 1)) := fun h => by rw [HRD.out, if_neg h]
                            rcases Nat.eq_zero_or_pos v with hv0 | hv0
                            have hv1z : v1 = 0 := by omega
                            have hvb : ((v : Int) == 0) = true := beq_iff_eq.2 (by omega)
                            have hvp : ¬ 0 < v := by omega
                            obtain ⟨W5, hW5⟩ : ∃ W5, W4.setCell ⟨Z, 2, none⟩ (.bool true) = W5 := ⟨_, rfl⟩
                            have P5 := Lib.hid (show Bx3 Z ⟨key, val, g⟩ W5 ∧ OwnE W5 B (.slice a3 tn cap3) T ∧ Below B w W5 by
                              rw [← hW5, hval, hg, hv0]
                              exact ⟨P4.out.1.put2 true, P4.out.2.1.beside HVZ.out 2 _, P4.out.2.2.setCell (p := ⟨Z, 2, none⟩) HZB.out _⟩)
                            have HW5 := Lib.hid hW5
                            have HV0 := Lib.hid hv0
                            clear hW5 hv0 hv1 hp4 hv1z hval hg P4
                            go_upto_region 39 with (fail)
                            rw [HW5.out]
                            clear HW5 d0 d1 d2 qf
                            rotate_left
                            have hvb : ((v : Int) == 0) = false := beq_eq_false_iff_ne.2 (by omega)
                            have hvl : ¬ l3n < v1 := by omega
                            have x5 : (bs l3).extract 0 (v - 1) = bs val := by rw [(take_split (s := bs l3) (n := v - 1) (by rw [zl3]; omega)).1, bs_list, hval]
                            have hv1l : v1 ≤ l3n := by omega
                            obtain ⟨W5, hW5⟩ : ∃ W5, (W4.setCell ⟨Z, 2, none⟩ (.bool ((v : Int) == 0))).setCell ⟨Z, 1, none⟩ (.string ((bs l3).extract 0 (v - 1))) = W5 := ⟨_, rfl⟩
                            have P5 := Lib.hid (show Bx3 Z ⟨key, val, g⟩ W5 ∧ OwnE W5 B (.slice a3 tn cap3) T ∧ Below B w W5 by
                              have hgf : g = false := by rw [hg]; simpa using (show v ≠ 0 by omega)
                              rw [← hW5, hgf, hvb, x5]
                              exact ⟨(P4.out.1.put2 false).put1 val, (P4.out.2.1.beside HVZ.out 2 _).beside HVZ.out 1 _, (P4.out.2.2.setCell (p := ⟨Z, 2, none⟩) HZB.out _).setCell (p := ⟨Z, 1, none⟩) HZB.out _⟩)
                            have q5f : ∀ j, (W4.setCell ⟨Z, 2, none⟩ (.bool ((v : Int) == 0))).frozen? ⟨Z, j, none⟩ = false := by rw [hvb]; exact (P4.out.1.put2 false).free
                            have q51 : (W4.setCell ⟨Z, 2, none⟩ (.bool ((v : Int) == 0))).cell? ⟨Z, 1, none⟩ = some (.string (bs [])) := by rw [hvb]; exact (P4.out.1.put2 false).cells.2.1
                            have HW5 := Lib.hid hW5
                            have HV0 := Lib.hid hv0
                            clear hW5 hv1 hp4 hval hg P4 hvb x5
                            go_upto_region 39 with (fail)
                            rw [HW5.out]
                            clear HW5 d0 d1 d2 qf q5f q51
                            all_goals
                              obtain ⟨d0, d1, d2⟩ := P5.out.1.cells
                              by_cases hj0 : 0 < j
                              · have HF := Lib.hid (show T.isEmpty = false by rw [hfirst.out]; exact decide_eq_false (by omega))
                                rcases cmp3 key last with ⟨hp, hq, hc⟩ | ⟨hp, hq, hc⟩ | ⟨hp, hq, hc⟩
                                · have hno := Lib.hid (HBAD.out 3 (by rw [HRD.out, if_pos ⟨HF.out, hc⟩]) (by decide))
                                  clear hok hc
                                  go_wp2_with fail
                                  go_ret2
                                  exact ropen_new hno.out (by rw [← HB.out]; exact P5.out.2.2)
                                · have hno := Lib.hid (HBAD.out 3 (by rw [HRD.out, if_pos ⟨HF.out, hc⟩]) (by decide))
                                  clear hok hc
                                  go_wp2_with fail
                                  go_ret2
                                  exact ropen_new hno.out (by rw [← HB.out]; exact P5.out.2.2)
                                · have HXX := Lib.hid (hok (fun h => by rw [hc] at h; cases h.2))
                                  have HNEXT := Lib.hid (uponE_next hup.out (by rw [HCUR.out, ← HLAST.out]; exact HXX.out))
                                  have HC0 := Lib.hid (show 0 < q1 + q2 + q3 + (v - 1) from (rdE_back HXX.out).2.2.2)
                                  obtain ⟨hi, hz0, hz1, hz2⟩ := HI.out
                                  clear hok hc
                                  go_wp2_with (at_builtin; refine wpList_append_off rfl (.tmp 145) (.tmp 147) 22 rfl B 49 i0 _ 3 40 Tryz.underlying22 hi hz0 hz1 hz2 rfl (.slice a3 tn cap3) tn (ecells T) rfl ?c1 (.slice (some ⟨W5.heap.size, 0, none⟩) 1 1) rfl 1 (Ent.vals ⟨key, val, g⟩) ?c2 ?c3 ?c4 ?c5 ?_)
                                  case c1 => have := P5.out.2.1; unfold OwnE at this; rw [← HTN.out] at this; exact OffRow.allocd this _
                                  case c2 => exact src_block (size := 3) (cs := #[.string (bs key), .string (bs val), .bool g]) Tryz.underlying22 (heap_new _ _) 1 1 rfl (by intro u hu; simp at hu; rcases hu with rfl | rfl | rfl <;> rfl)
                                  case c3 => have := hTk.out; have := HTN.out; unfold maxLen; have := HPP.out; omega
                                  case c4 => have := hTk.out; have := HTN.out; have := HPP.out; omega
                                  case c5 => have := P5.out.2.2.size; rw [← HB.out] at this; simp; omega
                                  intro v7 w7 hr7 hg7 _
                                  have O7 := Lib.hid (show OwnE w7 B v7 (T ++ [⟨key, val, g⟩]) by
                                    unfold OwnE
                                    rw [ecells_append, List.length_append, ← HTN.out]
                                    exact hr7)
                                  have B7 := Lib.hid ((P5.out.2.2.alloc (by have := P5.out.2.2.size; rw [← HB.out] at this; exact this) _).grown hg7 (by have := P5.out.2.2.size; rw [← HB.out] at this; simp; omega) (fun k hk => (OffRow.lt P5.out.2.1 k hk).1))
                                  clear hr7 hg7 hi hz0 hz1 hz2
                                  go_wp2_with fail
                                  go_roundw
                                  case rel => exact ⟨j + 1, k + (q1 + q2 + q3 + (v - 1)), T ++ [⟨key, val, g⟩], by omega, by go_num, congrArg (Value.int .i64) (by have := HP4.out; have := HV0.out; omega), O7, by rw [lastK_snoc], Lib.hid (by have := HNEXT.out; rwa [show n - (j + 1) = m by have := HM.out; omega]), Lib.hid ⟨by rw [List.length_append]; simp only [List.length_cons, List.length_nil]; have := hTk.out; have := HC0.out; omega, by rw [List.length_append]; simp only [List.length_cons, List.length_nil]; have := hTk.out; omega, by rw [lastK_snoc]; have := HKL.out; simp only; omega⟩, by have := HP4.out; omega, B7⟩
                                  case measure => simp [intOf]; omega
                              · have HXX := Lib.hid (hok (fun h => by have h1 := h.1; rw [hfirst.out, decide_eq_true (show j = 0 by omega)] at h1; cases h1))
                                have HNEXT := Lib.hid (uponE_next hup.out (by rw [HCUR.out, ← HLAST.out]; exact HXX.out))
                                have HC0 := Lib.hid (show 0 < q1 + q2 + q3 + (v - 1) from (rdE_back HXX.out).2.2.2)
                                obtain ⟨hi, hz0, hz1, hz2⟩ := HI.out
                                clear hok
                                go_wp2_with (at_builtin; refine wpList_append_off rfl (.tmp 145) (.tmp 147) 22 rfl B 49 i0 _ 3 40 Tryz.underlying22 hi hz0 hz1 hz2 rfl (.slice a3 tn cap3) tn (ecells T) rfl ?c1 (.slice (some ⟨W5.heap.size, 0, none⟩) 1 1) rfl 1 (Ent.vals ⟨key, val, g⟩) ?c2 ?c3 ?c4 ?c5 ?_)
                                case c1 => have := P5.out.2.1; unfold OwnE at this; rw [← HTN.out] at this; exact OffRow.allocd this _
                                case c2 => exact src_block (size := 3) (cs := #[.string (bs key), .string (bs val), .bool g]) Tryz.underlying22 (heap_new _ _) 1 1 rfl (by intro u hu; simp at hu; rcases hu with rfl | rfl | rfl <;> rfl)
                                case c3 => have := hTk.out; have := HTN.out; unfold maxLen; have := HPP.out; omega
                                case c4 => have := hTk.out; have := HTN.out; have := HPP.out; omega
                                case c5 => have := P5.out.2.2.size; rw [← HB.out] at this; simp; omega
                                intro v7 w7 hr7 hg7 _
                                have O7 := Lib.hid (show OwnE w7 B v7 (T ++ [⟨key, val, g⟩]) by
                                  unfold OwnE
                                  rw [ecells_append, List.length_append, ← HTN.out]
                                  exact hr7)
                                have B7 := Lib.hid ((P5.out.2.2.alloc (by have := P5.out.2.2.size; rw [← HB.out] at this; exact this) _).grown hg7 (by have := P5.out.2.2.size; rw [← HB.out] at this; simp; omega) (fun k hk => (OffRow.lt P5.out.2.1 k hk).1))
                                clear hr7 hg7 hi hz0 hz1 hz2
                                go_wp2_with fail
                                go_roundw
                                case rel => exact ⟨j + 1, k + (q1 + q2 + q3 + (v - 1)), T ++ [⟨key, val, g⟩], by omega, by go_num, congrArg (Value.int .i64) (by have := HP4.out; have := HV0.out; omega), O7, by rw [lastK_snoc], Lib.hid (by have := HNEXT.out; rwa [show n - (j + 1) = m by have := HM.out; omega]), Lib.hid ⟨by rw [List.length_append]; simp only [List.length_cons, List.length_nil]; have := hTk.out; have := HC0.out; omega, by rw [List.length_append]; simp only [List.length_cons, List.length_nil]; have := hTk.out; omega, by rw [lastK_snoc]; have := HKL.out; simp only; omega⟩, by have := HP4.out; omega, B7⟩
                                case measure => simp [intOf]; omega
        · obtain rfl : j = n := by omega
          have hend := Lib.hid (show opnS s = (if 65536 < T.length then (6, []) else if q + k ≠ l.length then (5, []) else (0, T)) by
            have hu := hup.out
            rw [Nat.sub_self, HNN.out, HL0.out, HQ.out] at hu
            rw [opnS_end HL.out.1 HL.out.2 HC0.out hu, HQ.out])
          rw [← HTN.out, ← HP.out] at hend
          by_cases h6 : 65536 < tn
          · have hno := Lib.hid (show opnS s = (6, []) by rw [hend.out, if_pos h6])
            go_wp2_with fail
            go_ret2
            exact ropen_new hno.out (by rw [← HB.out]; exact hBl.out)
          · by_cases h5 : p = l.length
            · have hyes := Lib.hid (show opnS s = (0, T) by rw [hend.out, if_neg h6, if_neg (fun h => h h5)])
              have hpl : ¬ p < l.length := by omega
              have hpi : ¬ (p : Int) < (l.length : Int) := by omega
              have H5 := Lib.hid h5
              clear h5
              go_wp2_with fail
              go_ret2
              exact ⟨⟨⟨a3, cap3, by rw [hyes.out, HTN.out]; rfl, by rw [hyes.out]; exact OwnE.len_cap HO.out, by rw [hyes.out]; have := (HO.out.is HTN.out); rwa [HTN.out] at this⟩, by rw [← HB.out]; exact hBl.out⟩, NewE.of (a := a3) (n := tn) (c := cap3) (z := .int .i64 0) fun b off h => by rw [← HB.out]; exact (OffRow.lt HO.out b (by rw [h]; rfl)).1⟩
            · have hno := Lib.hid (show opnS s = (5, []) by rw [hend.out, if_neg h6, if_pos h5])
              have hpl : p < l.length := by omega
              go_wp2_with fail
              go_ret2
              exact ropen_new hno.out (by rw [← HB.out]; exact hBl.out)
theorem ref_Opens (s : List UInt8) (w : World) (hs : s.length ≤ 100000000000) :
    Calls Tryz.prog 44 #[.string (bs s)] w (OpenedPost s w) := (ref_OpensN s w hs).mono fun _ _ h => h.1
end Go.Proofs.YteejldddgogbkaaGreatDoor
/- A region that draws its order, whose first operation may come at any time (the slice that is appended to, looked at first), then quiet ones, then a chain. -/
set_option linter.unusedVariables false
set_option maxRecDepth 100000
namespace Go.Proofs.YteejldddgogbkaaGreatDoor
open Go.RowKit

section
variable {F : Fence} {n : Nat} {P : Program} {ops : Array Oper} {md : Region.Mode} {C : World → Prop}

/-! ### Where the first operation is awaited by the last ones alone ('l = append(l, f(x))': the slice is looked at first) -/
def HeadInv1 (md : Region.Mode) (ops : Array Oper) (m : Nat) (listed : Array Bool) : Prop := HeadInv md ops m listed ∧ listed.getD 0 false = true
theorem HeadInv1.set {m i : Nat} {listed : Array Bool} (inv : HeadInv1 md ops m listed) (hi : i ∈ Region.ready md ops listed) (him : i < m) : HeadInv1 md ops m (listed.setIfInBounds i true) :=
  ⟨inv.1.set hi him, getD_set_true inv.2⟩
def sink1B (md : Region.Mode) (ops : Array Oper) (m : Nat) : Bool :=
  (List.range m).all fun i => decide (i = 0) || (List.range (m + 1)).any fun j => decide (i < j) && Region.waitsFor md ops j i
theorem ready_waits {listed : Array Bool} {t i : Nat} (hr : t ∈ Region.ready md ops listed) (hw : Region.waitsFor md ops t i = true) : listed.getD i false = true := by
  obtain ⟨_, ot, hot, hall⟩ := mem_ready.1 hr
  obtain ⟨o, ho, e, he, hb, rfl⟩ := Region.waitsFor_spec hw
  obtain rfl := Option.some.inj (ho.symm.trans hot)
  exact hall e he hb
theorem tail_waits1 {m : Nat} {listed : Array Bool} (hs : sink1B md ops m = true) (hc : Region.chainB md ops m = true) (hn : m < ops.size) (inv : HeadInv1 md ops m listed) :
    ∀ (d i : Nat), m - i = d → i < m → listed.getD i true = false → ∀ t, m ≤ t → t ∉ Region.ready md ops listed := by
  intro d i _ hi hun t ht hr
  have htlt : t < ops.size := by obtain ⟨_, _, hot, _⟩ := mem_ready.1 hr; exact (Array.getElem?_eq_some_iff.1 hot).1
  rcases Nat.lt_or_ge m t with hmt | hmt
  · have h1 := List.all_eq_true.1 hc t (List.mem_range.2 htlt)
    simp only [Bool.or_eq_true, decide_eq_true_eq] at h1
    have h2 := ready_waits hr (h1.resolve_left (by omega))
    rw [getD_both (inv.1.tail (t - 1) (by omega) (by omega))] at h2
    cases h2
  · obtain rfl : t = m := by omega
    -- whoever waits for one that hasn't come hasn't come: up to t, which has all that it waits for
    have up : ∀ k i, t - i ≤ k → i < t → listed.getD i true = false → False := by
      intro k
      induction k with
      | zero => intro i h1 h2; omega
      | succ k ih =>
        intro i hk hi hun
        have h1 := List.all_eq_true.1 hs i (List.mem_range.2 hi)
        simp only [Bool.or_eq_true, decide_eq_true_eq, List.any_eq_true, Bool.and_eq_true, List.mem_range] at h1
        rcases h1 with rfl | ⟨j, hj, hij, hw⟩
        · have := inv.2; rw [getD_both hun] at this; cases this
        · by_cases hjt : j = t
          · subst hjt
            have := ready_waits hr hw
            rw [getD_both hun] at this
            cases this
          · cases hl : listed.getD j false with
            | true =>
              obtain ⟨o, ho, e, he, hb, hon⟩ := Region.waitsFor_spec hw
              have := inv.1.closed j o ho hl e he hb
              rw [hon, getD_both hun] at this
              cases this
            | false => exact ih j (by omega) (by omega) (getD_in (by rw [inv.1.size]; omega) hl)
    exact up (t - i) i (Nat.le_refl _) hi hun
theorem wpAnyLP1_first {m i : Nat} {oi : Oper} {v : Value} {L : Array Bool → Act → Prop} (hi : ops[i]? = some oi) (hsel : ∀ (j : Nat) (o : Oper) cs b, ops[j]? = some o → o.op ≠ .select cs b)
    (hs : sink1B md ops m = true) (hc : Region.chainB md ops m = true) (hn : m < ops.size) (hin : i < m)
    (hdone : ∀ listed a, L listed a → ∀ j ∈ Region.ready md ops listed, m ≤ j) :
    ∀ (f : Nat) (listed : Array Bool) (a : Act), HeadInv1 md ops m listed →
      (∀ j oj, ops[j]? = some oj → j ≠ i → listed.getD j true = false → (∀ e ∈ oj.after, Region.binds md e = true → e.on ≠ i) → oi.apart ops oj = true) →
      i ∈ Region.ready md ops listed → YieldsIn P ops C oi v a →
      wpAnyLP P md ops C m L f (listed.setIfInBounds i true) (a.put oi.dst v) → wpAnyLP P md ops C m L (f + 1) listed a := by
  intro f
  induction f with
  | zero =>
    intro listed a inv _ hr hy H
    have hun := (mem_ready.1 hr).1
    refine ⟨fun h => (by rw [h] at hr; cases hr), fun j hj => ?_⟩
    have hjn : j < m := by
      rcases Nat.lt_or_ge j m with h | h
      · exact h
      · exact absurd hj (tail_waits1 hs hc hn inv _ i rfl hin hun j h)
    refine ⟨hjn, ?_⟩
    by_cases hji : j = i
    · subst hji; exact hy.qOp hi H
    · have := hdone _ _ H j (ready_mono hj hji)
      omega
  | succ f ih =>
    intro listed a inv hfree hr hy H
    have hun := (mem_ready.1 hr).1
    refine ⟨fun h => (by rw [h] at hr; cases hr), fun j hj => ?_⟩
    have hjn : j < m := by
      rcases Nat.lt_or_ge j m with h | h
      · exact h
      · exact absurd hj (tail_waits1 hs hc hn inv _ i rfl hin hun j h)
    refine ⟨hjn, ?_⟩
    by_cases hji : j = i
    · subst hji; exact hy.qOp hi H
    · have h1 := (H.2 j (ready_mono hj hji)).2
      obtain ⟨hjun, oj, hoj, hall⟩ := mem_ready.1 hj
      have hnot : ∀ e ∈ oj.after, Region.binds md e = true → e.on ≠ i := fun e he hb heq => by
        have h1 := hall e he hb
        rw [heq, getD_both hun] at h1
        cases h1
      have h2 := qOp_put hoj (hfree j oj hoj hji hjun hnot) (fun cs b => hsel i oi cs b hi) (fun cs b => hsel j oj cs b hoj) hy h1
      have hfree' : ∀ k ok, ops[k]? = some ok → k ≠ i → (listed.setIfInBounds j true).getD k true = false →
          (∀ e ∈ ok.after, Region.binds md e = true → e.on ≠ i) → oi.apart ops ok = true := fun k ok hk hki hun hno => by
        refine hfree k ok hk hki ?_ hno
        by_cases hjk : j = k
        · subst hjk; exact hjun
        · rw [getD_set_ne true hjk] at hun; exact hun
      refine qOp_mono (fun a' h3 => ih (listed.setIfInBounds j true) a' (inv.set hj hjn) hfree' (ready_mono hr (Ne.symm hji)) h3.1 ?_) h2
      rw [Array.setIfInBounds_comm _ _ hji]
      exact h3.2

theorem wpAnyLP1_lex {m g : Nat} {Lq : Act → Prop} (hsel : Region.noSelect ops = true) (hs : sink1B md ops m = true) (hc : Region.chainB md ops m = true) (hn : m < ops.size) :
    ∀ (l : List Oper) (k : Nat) (listed : Array Bool) (a : Act), (∀ j, j < l.length → l[j]? = ops[k + j]?) → k + l.length = m → HeadInv1 md ops m listed →
    Region.lexHead md ops g l.length k listed = true → wpQuiet P ops C Lq l a →
    wpAnyLP P md ops C m (fun listed' a' => Region.seqB md ops g m listed' = true ∧ Lq a') l.length listed a
  | [], k, listed, a, _, hk, _, hB, h => by
    have : k = m := by simpa using hk
    subst this
    exact ⟨by simpa [Region.lexHead] using hB, h⟩
  | o :: l, k, listed, a, hl, hk, inv, hB, h => by
    have h0 : ops[k]? = some o := by simpa using (hl 0 (by simp)).symm
    simp only [List.length_cons, Region.lexHead, Bool.and_eq_true] at hB
    obtain ⟨⟨hr, hf⟩, hB'⟩ := hB
    have hkn : k < m := by simp only [List.length_cons] at hk; omega
    have hr' : k ∈ Region.ready md ops listed := by simpa using hr
    have hst : qOp P ops C k (wpQuiet P ops C Lq l) a := by unfold qOp; simp only [h0]; exact h
    obtain ⟨v, hy, hK⟩ := yieldsIn_of_qOp h0 hst
    exact wpAnyLP1_first h0 (Region.noSelect_spec hsel) hs hc hn hkn (fun listed' a' hL => seqB_ready hL.1) l.length listed a inv (Region.free_spec h0 hf) hr' hy
      (wpAnyLP1_lex hsel hs hc hn l (k + 1) _ _ (fun j hj => by have := hl (j + 1) (by simp; omega); simpa [Nat.add_assoc, Nat.add_comm 1 j] using this) (by simp only [List.length_cons] at hk; omega) (inv.set hr' hkn) hB' hK)


def first1B (md : Region.Mode) (ops : Array Oper) (m : Nat) : Bool :=
  Region.noSelect ops && decide (0 < m) && decide (m < ops.size) && Region.free md ops (Array.replicate ops.size false) 0 && (Region.ready md ops (Array.replicate ops.size false)).contains 0 && sink1B md ops m && Region.chainB md ops m &&
    Region.lexHead md ops (ops.size - m) (m - 1) 1 ((Array.replicate ops.size false).setIfInBounds 0 true) && (match ops[0]? with | some o => o.after.isEmpty | none => false)
/-- ONE OPERATION THAT MAY COME AT ANY TIME, THEN QUIET ONES, THEN A CHAIN. -/
theorem wp_region_first_tail {id : Nat} {Q : Exit → Act → World → Prop} {a : Act} {w : World} {o : Oper} {l : List Oper} (m : Nat) (v : Value) (hm : P.follows .mixedOrders = true) (hB : first1B .any (o :: l).toArray m = true)
    (hy : Yields P (o :: l).toArray o v a) (hQ : ∀ c a w, Q (.panic c) (a.put o.dst v) w → Q (.panic c) a w)
    (h : wpQuiet P (o :: l).toArray (fun w' => ∃ n : Seen w, w' = n.val) (fun a' => ∀ w', (∃ n : Seen w, w' = n.val) → wpList P (o :: l).toArray Q (l.drop (m - 1)) a' w') (l.take (m - 1)) (a.put o.dst v)) : (Code.region id (o :: l).toArray true).wp P Q a w := by
  simp only [first1B, Bool.and_eq_true, decide_eq_true_eq] at hB
  obtain ⟨⟨⟨⟨⟨⟨⟨⟨hsel, hm0⟩, hn⟩, hfr⟩, hrd⟩, hs⟩, hc⟩, hlex⟩, haft⟩ := hB
  have hsz : (o :: l).toArray.size = l.length + 1 := by simp
  have hlm : (l.take (m - 1)).length = m - 1 := by simp; simp at hn; omega
  have hdl : (l.drop (m - 1)).length = (o :: l).toArray.size - m := by simp; omega
  have h0 : (o :: l).toArray[0]? = some o := by simp
  have hrd' : 0 ∈ Region.ready .any (o :: l).toArray (Array.replicate (o :: l).toArray.size false) := by simpa using hrd
  have inv0 : HeadInv .any (o :: l).toArray m (Array.replicate (o :: l).toArray.size false) :=
    ⟨by simp, fun j oj _ hl => (by rw [getD_replicate_false] at hl; cases hl), fun t _ ht => getD_in (by simpa using ht) (getD_replicate_false _ _)⟩
  have inv1 : HeadInv1 .any (o :: l).toArray m ((Array.replicate (o :: l).toArray.size false).setIfInBounds 0 true) := ⟨inv0.set hrd' hm0, by simp⟩
  have H := wpAnyLP1_lex (md := .any) (g := (o :: l).toArray.size - m) hsel hs hc hn (l.take (m - 1)) 1 _ (a.put o.dst v) (fun j hj => by
    have hj' : j < m - 1 := by rw [hlm] at hj; exact hj
    simp [hj', Nat.add_comm 1 j]) (by rw [hlm]; omega) inv1 (by rw [hlm]; exact hlex) h
  refine wp_region_any hm ?_
  rw [show (o :: l).toArray.size = l.length + 1 from hsz]
  refine wpAny_take h0 hsel (by rw [← hsz]; exact hfr) (by rw [← hsz]; exact hrd) hQ hy ?_
  have := wpAny_of_headQ (C := fun w' => ∃ n : Seen w, w' = n.val) (Q' := Q) (g := (o :: l).toArray.size - m) (fun listed a' w' hC' hL => by
    have := wpAny_of_seq (md := .any) (Q' := Q) (l.drop (m - 1)) m listed a' w' (fun j => by
      simp only [List.getElem?_drop, List.getElem?_toArray]
      rw [show m + j = (m - 1 + j) + 1 by omega, List.getElem?_cons_succ]) (by rw [hdl]; exact hL.1) (hL.2 w' hC')
    rw [hdl] at this
    exact this) _ _ _ { w with drawn := w.drawn + 1 } ⟨⟨w.drew, (Below.refl _ _).drew⟩, rfl⟩ H
  rw [hlm, show m - 1 + ((o :: l).toArray.size - m) = l.length by rw [hsz] at hn ⊢; omega] at this
  rw [← hsz]
  exact this
end
end Go.Proofs.YteejldddgogbkaaGreatDoor
/- Turning right as the program does it. -/
set_option linter.unusedVariables false
set_option maxRecDepth 100000
namespace Go.Proofs.YteejldddgogbkaaGreatDoor
open Go.RowKit

/-- Turning right by so many places, as one sum. -/
theorem turn_or (x n : Nat) (hx : x < 4294967296) (h1 : 1 ≤ n) (h2 : n ≤ 31) : (x * 2 ^ (32 - n)) % 4294967296 ||| x / 2 ^ n = rotN n x := by
  rw [rotN_eq n (by omega) x hx]
  have hp : 2 ^ n * 2 ^ (32 - n) = 4294967296 := by rw [← Nat.pow_add, show n + (32 - n) = 32 by omega]
  have hq : 0 < 2 ^ n := Nat.two_pow_pos n
  have e1 : (x * 2 ^ (32 - n)) % 4294967296 = x % 2 ^ n * 2 ^ (32 - n) := by
    rw [← hp, Nat.mul_mod_mul_right]
  have hy : x / 2 ^ n < 2 ^ (32 - n) := by
    rw [Nat.div_lt_iff_lt_mul hq, Nat.mul_comm, hp]
    exact hx
  rw [e1, nat_join (32 - n) _ _ (Nat.mul_mod_left _ _) hy, Nat.add_comm]

theorem wrap_u64i (n : Int) : IntKind.u64.wrap n = n % 18446744073709551616 := by simp [IntKind.wrap, IntKind.bits, IntKind.signed]
theorem turn_bits (x n S : Nat) (hx : x < 4294967296) (h1 : 1 ≤ n) (h2 : n ≤ 31) (hS : S = 32 - n) : bits BinOp.or IntKind.u32 ((x : Int) * 2 ^ S % 4294967296) ((x : Int) / 2 ^ (32 - S)) = ((rotN n x : Nat) : Int) := by
  subst hS
  have e1 : (x : Int) * 2 ^ (32 - n) % 4294967296 = ((x * 2 ^ (32 - n) % 4294967296 : Nat) : Int) := by
    rw [Int.natCast_emod, Int.natCast_mul, Int.natCast_pow]
    rfl
  have e2 : (x : Int) / 2 ^ (32 - (32 - n)) = ((x / 2 ^ n : Nat) : Int) := by
    rw [show 32 - (32 - n) = n by omega, Int.natCast_ediv, Int.natCast_pow]
    rfl
  rw [e1, e2, u32_or_nat _ _ (Nat.mod_lt _ (by decide)) (Nat.lt_of_le_of_lt (Nat.div_le_self _ _) hx), turn_or x n hx h1 h2]
theorem turn_ret (x n S : Nat) (hx : x < 4294967296) (h1 : 1 ≤ n) (h2 : n ≤ 31) (hS : S = 32 - n) : Ending.returned (.int .u32 (bits BinOp.or IntKind.u32 ((x : Int) * 2 ^ S % 4294967296) ((x : Int) / 2 ^ (32 - S)))) = Ending.returned (.int .u32 ((rotN n x : Nat) : Int)) := by rw [turn_bits x n S hx h1 h2 hS]
theorem low5 (n : Nat) (h1 : 1 ≤ n) (h2 : n ≤ 31) : bits BinOp.and IntKind.u64 (IntKind.u64.wrap (-(n : Int))) 31 = ((32 - n : Nat) : Int) := by
  have hw : IntKind.u64.wrap (-(n : Int)) = ((18446744073709551616 - n : Nat) : Int) := by
    rw [wrap_u64i]
    omega
  rw [hw, show (31 : Int) = ((31 : Nat) : Int) from rfl, u64_and_nat _ _ (by omega) (by omega), nat_mask5]
  omega

set_option maxHeartbeats 400000 in
theorem bits_rotate (x n : Nat) (w : World) (hx : x < 4294967296) (h1 : 1 ≤ n) (h2 : n ≤ 31) :
    Calls Tryz.prog 122 #[.int .u32 x, .int .i64 (-(n : Int))] w fun e w' => e = .returned (.int .u32 (rotN n x)) ∧ w = w' := by
  have hl := low5 n h1 h2
  obtain ⟨S, hS⟩ : ∃ S, S = 32 - n := ⟨_, rfl⟩
  rw [← hS] at hl
  have hS1 : 1 ≤ S := by omega
  have hS2 : S ≤ 31 := by omega
  have HS := Lib.hid hS
  clear hS
  go_enter Tryz.func122, Tryz.ntmps122
  go_wp2_with fail
  go_ret
  exact ⟨turn_ret x n S hx h1 h2 HS.out, rfl⟩

set_option maxHeartbeats 400000 in
theorem sha_right (x n : Nat) (w : World) (hx : x < 4294967296) (h1 : 1 ≤ n) (h2 : n ≤ 31) :
    Calls Tryz.prog 120 #[.int .u32 x, .int .i64 n] w fun e w' => e = .returned (.int .u32 (rotN n x)) ∧ w = w' := by
  have hneg : IntKind.i64.wrap (-(n : Int)) = -(n : Int) := by rw [IntKind.wrap_i64]; omega
  go_enter Tryz.func120, Tryz.ntmps120
  go_wp2_with (go_at_call 122; refine (bits_rotate x n _ hx h1 h2).mono ?_; rintro e w' ⟨rfl, rfl⟩)
  go_ret
  exact ⟨rfl, rfl⟩
theorem quiet_right (x n : Nat) (w : World) (hx : x < 4294967296) (h1 : 1 ≤ n) (h2 : n ≤ 31) (m : Nat) : Calls Tryz.prog 120 #[.int .u32 x, .int .i64 n] (w.drewN m) fun e w'' => e = .returned (.int .u32 (rotN n x)) ∧ ∃ k, w'' = w.drewN k :=
  (sha_right x n (w.drewN m) hx h1 h2).mono fun _ _ ⟨h1, h2⟩ => ⟨h1, m, h2.symm⟩
end Go.Proofs.YteejldddgogbkaaGreatDoor
