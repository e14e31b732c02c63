/- The law that the merged row has what the first row has that has it: the walk. -/
import Derived.Test.YtbjokbnmfbfkjaaMergeMergesWalk
import Derived.Test.YtbjokbnmfbfkjaaMergeKeys
import Derived.Test.YtbjokbnmfbfkjaaRiseAny
set_option linter.unusedVariables false
set_option maxRecDepth 100000
namespace Go.Proofs.Ytbjokbnmfbfkjaa
open Go.RowKit

theorem IsLists.below {w w' : World} {a : Option Addr} {n : Nat} {Ls : List Lst} (h : IsLists w a n Ls) (k : Below w.heap.size w w') : IsLists w' a n Ls := by
  obtain ⟨h1, ⟨b, off, h2, h3⟩, h4⟩ := h
  refine ⟨h1, ⟨b, off, h2, fun i r hr => ?_⟩, fun r hr => ⟨(h4 r hr).is.below k, (h4 r hr).big, (h4 r hr).room, (h4 r hr).fit⟩⟩
  obtain ⟨x, y⟩ := h3 i r hr
  exact ⟨Nat.lt_of_lt_of_le x k.size, by rw [k.cell x]; exact y⟩
theorem IsLists.get {w : World} {a : Option Addr} {n : Nat} {Ls : List Lst} (h : IsLists w a n Ls) {k : Nat} (hk : k < n) : ∃ b off l, a = some ⟨b, off, none⟩ ∧ Ls[k]? = some l ∧ b < w.heap.size ∧ w.cell? ⟨b, off + k, none⟩ = some (.slice l.a l.n l.cap) ∧ InE w l.a l.n l.cap l.T := by
  obtain ⟨h1, ⟨b, off, h2, h3⟩, h4⟩ := h
  have hkT : k < Ls.length := by omega
  obtain ⟨x, y⟩ := h3 k _ (List.getElem?_eq_getElem hkT)
  exact ⟨b, off, Ls[k], h2.resolve_left (by omega), List.getElem?_eq_getElem hkT, x, y, h4 _ (List.getElem_mem hkT)⟩
/-- The law's row of a list, and its pair. -/
def rowOf (kl : List UInt8) (T : List Ent) : List Ent := rising (T ++ [⟨kl ++ [120], [], false⟩])
def rowP (kl : List UInt8) (l : Lst) : List Ent × Int := (rowOf kl l.T, 0)
theorem good_rows (kl : List UInt8) (Ls : List Lst) : Good (Ls.map (rowP kl)) := fun p hp => by
  obtain ⟨l, _, rfl⟩ := List.mem_map.1 hp
  exact ⟨rising_rises _, rfl⟩
theorem rowOf_len (kl : List UInt8) (T : List Ent) : (rowOf kl T).length ≤ T.length + 1 := by
  have := rising_len (T ++ [⟨kl ++ [120], [], false⟩])
  simpa [rowOf] using this
theorem rows_total (kl : List UInt8) : ∀ (Ls : List Lst), (∀ l ∈ Ls, l.T.length ≤ 300) → total (Ls.map (rowP kl)) ≤ Ls.length * 301
  | [], _ => by simp [total]
  | l :: Ls, h => by
    have h1 := rows_total kl Ls fun x hx => h x (List.mem_cons_of_mem _ hx)
    have h2 := h l List.mem_cons_self
    have h3 := rowOf_len kl l.T
    simp only [total, List.map_cons, List.sum_cons, List.length_cons, rowP, Nat.add_mul] at *
    omega
theorem findK_snoc (key : List UInt8) (l : List Ent) (x : Ent) : findK key (l ++ [x]) = (findK key l).or (if x.key = key then some x else none) := by
  unfold findK
  rw [List.find?_append]
  congr 1
  by_cases h : x.key = key <;> simp [h]
theorem off_take {l : List Ent} {j : Nat} {x : Ent} (h : l[j]? = some x) : l.take (j + 1) = l.take j ++ [x] := by rw [List.take_add_one, h]; rfl
/-- How often a key was met. -/
def metN (o : Option Ent) : Int := if o.isSome then 1 else 0
theorem run_add_x (kl : List UInt8) : bs kl ++ (⟨#[120]⟩ : ByteArray) = bs (kl ++ [120]) := bs_eq (by rw [cat_list]; rfl)
set_option maxHeartbeats 8000000 in
theorem latest_walk (a : Option Addr) (n c : Nat) (Ls : List Lst) (kl : List UInt8) (w : World) (h : Hid (IsLists w a n Ls)) (hn : n ≤ 9223372036854775807) (hk : kl.length ≤ 1000000000000000) :
    Calls Try.prog 6 #[.slice a n c, .string (bs kl)] w fun en w' => en = .returned (.bool true) ∧ Below w.heap.size w w' := by
  have HAW := Lib.hid (law_awake w)
  go_enter Try.func6, Try.ntmps6
  go_wp2_with fail
  refine HAW.out.mono ?_
  rintro en w2 ⟨rfl, k2⟩
  have K2 := Lib.hid k2
  have L2 := Lib.hid (h.out.below k2)
  have HAW2 := Lib.hid (law_awake w2)
  clear k2
  by_cases h12 : 12 < n
  · go_wp2_with fail
    refine HAW2.out.mono ?_
    rintro en w5 ⟨rfl, k5⟩
    have K5 := Lib.hid (K2.out.trans (k5.mono K2.out.size))
    clear k5
    go_wp2_with fail
    go_ret
    exact ⟨rfl, K5.out⟩
  · obtain ⟨i0, hi, hz0, hz1, hz2⟩ := info_parts infoC
    have HI := Lib.hid (And.intro hi (And.intro hz0 (And.intro hz1 hz2)))
    obtain ⟨j0, hj, hy0, hy1, hy2⟩ := info_parts infoE
    have HJ := Lib.hid (And.intro hj (And.intro hy0 (And.intro hy1 hy2)))
    obtain ⟨w4, hw4⟩ : ∃ w4, w4 = w2.alloc (.cells #[.string ⟨#[]⟩, .string ⟨#[]⟩, .bool false] 32) := ⟨_, rfl⟩
    have K4' := Lib.hid (show Below w2.heap.size w2 w4 by rw [hw4]; exact (Below.refl _ _).alloc (Nat.le_refl _) _)
    have X4 := Lib.hid (show C3 w2.heap.size 32 (.string ⟨#[]⟩) (.string ⟨#[]⟩) (.bool false) w4 by rw [hw4]; exact heap_new w2 _)
    have K4 := Lib.hid (K2.out.trans (K4'.out.mono K2.out.size))
    have L4 := Lib.hid (L2.out.below K4'.out)
    have HW4 := Lib.hid hw4
    obtain ⟨zw, hzw⟩ : ∃ zw, zw = w2.heap.size := ⟨_, rfl⟩
    rw [← hzw] at X4
    have HZW := Lib.hid (show zw < w4.heap.size ∧ w.heap.size ≤ zw from ⟨heap_lt X4.out, by rw [hzw]; exact K2.out.size⟩)
    have HZ := Lib.hid hzw
    have hsz : ((bs kl).size : Int) + ((⟨#[120]⟩ : ByteArray).size : Int) ≤ 9223372036854775807 := by
      have : (⟨#[120]⟩ : ByteArray).size = 1 := rfl
      rw [bs_size, this]
      omega
    have HADD := Lib.hid (And.intro hsz (run_add_x kl))
    have HK := Lib.hid hk
    clear hsz hk
    clear hi hz0 hz1 hz2 hj hy0 hy1 hy2 hw4 hzw
    go_upto_region 5 with (fail)
    rw [← HW4.out, ← HZ.out]
    go_wp2_with fail
    go_loopw [5, 7, 8] (fun lv fv iv wr => ∃ (k : Nat) (o : Option Ent) (cs : List Cu), k ≤ n ∧ iv = .int .i64 k ∧ fv = .bool o.isSome ∧ cs.length = k ∧ Hid (o = firstP kl ((Ls.take k).map (rowP kl))) ∧ Hid (CursAt w4.heap.size lv cs ((Ls.take k).map (rowP kl)) wr) ∧ Hid (C3 zw 32 (.string (bs (bestE o).key)) (.string (bs (bestE o).val)) (.bool (bestE o).gone) wr) ∧ Hid (Only (fun j => j = zw) w4 wr) ∧ Hid (∀ l ∈ Ls.take k, l.T.length ≤ 300)) (fun lv fv iv wr => n - (intOf iv).toNat)
    case atStart => exact ⟨0, none, [], Nat.zero_le _, rfl, rfl, rfl, Lib.hid rfl, Lib.hid (CursAt.nil _ _), X4, Lib.hid (Only.refl _ _), Lib.hid (fun l hl => by simp at hl)⟩
    case round =>
      obtain ⟨k, o, cs, hk, rfl, rfl, hcs, hO, hC, hX, hOn, hFw⟩ := hrel
      obtain ⟨a3, cap3, rfl⟩ := hC.out.1.slice
      obtain ⟨wo, hwo⟩ : ∃ wo, wo = wr := ⟨_, rfl⟩
      subst hwo
      have HCS := Lib.hid hcs
      rw [hcs] at hC ⊢
      have hLr := Lib.hid (show IsLists wo a n Ls from by
        obtain ⟨q1, ⟨b, off, q2, q3⟩, q4⟩ := L4.out
        obtain ⟨p1, ⟨b', off', p2, p3⟩, p4⟩ := L2.out
        refine ⟨q1, ⟨b, off, q2, fun i r hr => ?_⟩, fun r hr => ⟨(q4 r hr).is.only hOn.out (NotIn.new (p4 r hr).is fun j hj => by rw [hj, HZ.out]; exact Nat.le_refl _), (q4 r hr).big, (q4 r hr).room, (q4 r hr).fit⟩⟩
        obtain ⟨x, y⟩ := q3 i r hr
        obtain ⟨x', _⟩ := p3 i r hr
        have hn0 : 0 < n := by have := (List.getElem?_eq_some_iff.1 hr).1; omega
        have e1 := q2.resolve_left (by omega)
        rw [p2.resolve_left (by omega)] at e1
        injection e1 with e1
        injection e1 with e1 _
        subst e1
        have hb := hOn.out.block _ x fun e => by rw [HZ.out] at e; omega
        exact ⟨Nat.lt_of_lt_of_le x hOn.out.size, cell_same y hb⟩)
      have hBr := Lib.hid (show w4.heap.size ≤ wo.heap.size from hOn.out.size)
      clear hcs
      rcases Nat.lt_or_ge k n with hlt | hge
      · obtain ⟨b, off, l, rfl, hl, hbw, hc, hE⟩ := hLr.out.get hlt
        obtain ⟨la, ln, lc, lT⟩ := l
        simp only at hc hE
        have HL := Lib.hid hl
        have HE := Lib.hid hE
        have HBW := Lib.hid hbw
        have hln := hE.big
        have HFW := Lib.hid (law_few la ln lc lT wo (Lib.hid hE.is) hE.big (Lib.hid hE.fit))
        clear hl hE hbw
        cases hfw : fewB lT with
        | false =>
          rw [hfw] at HFW
          clear hfw
          go_wp2_with fail
          refine HFW.out.mono ?_
          rintro en w5 ⟨rfl, k5⟩
          have K5 := Lib.hid k5
          clear k5
          go_wp2_with fail
          go_ret
          exact ⟨rfl, (K4.out.trans (hOn.out.below2 (fun j hj => by rw [hj]; exact HZW.out.2) K4.out.size)).trans (K5.out.mono (Nat.le_trans K4.out.size hBr.out))⟩
        | true =>
          rw [hfw] at HFW
          clear hfw
          by_cases h300 : 300 < ln
          · go_wp2_with fail
            refine HFW.out.mono ?_
            rintro en w5 ⟨rfl, k5⟩
            have K5 := Lib.hid k5
            have hc : w5.cell? ⟨b, off + k, none⟩ = some (.slice la ln lc) := by rw [k5.cell HBW.out]; exact hc
            clear k5
            go_wp2_with fail
            go_ret
            exact ⟨rfl, (K4.out.trans (hOn.out.below2 (fun j hj => by rw [hj]; exact HZW.out.2) K4.out.size)).trans (K5.out.mono (Nat.le_trans K4.out.size hBr.out))⟩
          · go_wp2_with fail
            refine HFW.out.mono ?_
            rintro en w5 ⟨rfl, k5⟩
            have K5 := Lib.hid k5
            have hc : w5.cell? ⟨b, off + k, none⟩ = some (.slice la ln lc) := by rw [k5.cell HBW.out]; exact hc
            have hc' : (w5.alloc (.cells #[] 32)).cell? ⟨b, off + k, none⟩ = some (.slice la ln lc) := cell_same hc (Below.heap_alloc w5 _ _ (Nat.lt_of_lt_of_le HBW.out k5.size))
            have E5 := Lib.hid (HE.out.is.below k5)
            clear k5
            have HLN := Lib.hid (show ln = lT.length from E5.out.1)
            obtain ⟨hj, hy0, hy1, hy2⟩ := HJ.out
            go_wp2_with (at_builtin; refine wpList_append_off rfl (.tmp 45) (.tmp 49) 22 rfl w5.heap.size 32 j0 _ 3 40 Try.underlying22 hj hy0 hy1 hy2 rfl (.slice (some ⟨w5.heap.size, 0, none⟩) 0 0) 0 [] rfl (off_empty w5 (Nat.le_refl _) _ _) (.slice la ln lc) rfl ln (ecells lT) ?c2 ?c3 ?c4 ?c5 ?_)
            case c2 => exact src_ents' lc E5.out _
            case c3 => unfold maxLen; omega
            case c4 => omega
            case c5 => simp
            intro v6 w6 hr6 hg6 _
            have hO6 : OwnE w6 w5.heap.size v6 lT := by
              unfold OwnE
              rw [← HLN.out]
              simpa using hr6
            have K6 := Lib.hid (show Below w5.heap.size w5 w6 from ((Below.refl _ _).alloc (Nat.le_refl _) _).grown hg6 (by simp) (fun k hk => by simp [Value.ownBlock] at hk; omega))
            obtain ⟨a6, cap6, rfl⟩ := hO6.slice
            have O6 := Lib.hid hO6
            rw [← HLN.out] at O6 ⊢
            obtain ⟨kx, hkx⟩ : ∃ kx, kx = kl ++ [120] := ⟨_, rfl⟩
            have hadd : bs kl ++ (⟨#[120]⟩ : ByteArray) = bs kx := by rw [hkx]; exact HADD.out.2
            have hsz := HADD.out.1
            have HKX := Lib.hid hkx
            clear hr6 hg6 hO6 hc hc' hkx
            go_wp2_with (at_builtin; refine wpList_append_off rfl (.tmp 50) (.tmp 54) 22 rfl w5.heap.size 32 j0 _ 3 40 Try.underlying22 hj hy0 hy1 hy2 rfl (.slice a6 ln cap6) ln (ecells lT) rfl ?c1 (.slice (some ⟨w6.heap.size, 0, none⟩) 1 1) rfl 1 [.string (bs kx), .string ⟨#[]⟩, .bool false] ?c2 ?c3 ?c4 ?c5 ?_)
            case c1 => have := O6.out; unfold OwnE at this; rw [← HLN.out] at this; exact OffRow.allocd this _
            case c2 => exact src_block (size := 3) (cs := #[.string (bs kx), .string ⟨#[]⟩, .bool false]) Try.underlying22 (heap_new _ _) 1 1 rfl (by intro u hu; simp at hu; rcases hu with rfl | rfl | rfl <;> rfl)
            case c3 => unfold maxLen; omega
            case c4 => omega
            case c5 => have := K6.out.size; simp; omega
            intro v7 w7 hr7 hg7 _
            have hO7 : OwnE w7 w5.heap.size v7 (lT ++ [⟨kx, [], false⟩]) := by
              unfold OwnE
              rw [ecells_append, List.length_append, ← HLN.out]
              exact hr7
            have K7 := Lib.hid (show Below w5.heap.size w5 w7 from (K6.out.alloc K6.out.size _).grown hg7 (by have := K6.out.size; simp; omega) (fun j hj => (OffRow.lt O6.out j hj).1))
            obtain ⟨a7, cap7, hv7⟩ := hO7.slice
            subst hv7
            have hl7 : (lT ++ [(⟨kx, [], false⟩ : Ent)]).length = ln + 1 := by rw [List.length_append, ← HLN.out]; rfl
            rw [hl7] at hO7 ⊢
            have HRI := Lib.hid (law_rising_any a7 (ln + 1) cap7 _ w7 (Lib.hid (hO7.is hl7.symm)) (by omega))
            clear hr7 hg7 hO7 hl7 hadd hsz hj hy0 hy1 hy2
            go_wp2_with fail
            refine HRI.out.mono ?_
            rintro en w8 ⟨⟨v8, rfl, hO8⟩, k8⟩
            obtain ⟨a8, cap8, rfl⟩ := hO8.slice
            rw [HKX.out] at hO8 ⊢
            rw [show rising (lT ++ [(⟨kl ++ [120], [], false⟩ : Ent)]) = rowOf kl lT from rfl] at hO8 ⊢
            obtain ⟨R, hR⟩ : ∃ R, R = rowOf kl lT := ⟨_, rfl⟩
            rw [← hR] at hO8 ⊢
            obtain ⟨m, hm⟩ : ∃ m, m = R.length := ⟨_, rfl⟩
            have hm301 : m ≤ 301 := by
              rw [hm, hR]
              have h1 := rowOf_len kl lT
              rw [← HLN.out] at h1
              omega
            rw [← hm] at hO8 ⊢
            have O8 := Lib.hid hO8
            have K8 := Lib.hid (show Below wo.heap.size wo w8 from K5.out.trans ((K7.out.trans (k8.mono K7.out.size)).mono K5.out.size))
            have HV8 := Lib.hid (fun j hj => OffRow.lt hO8 j hj : ∀ j, (Value.slice a8 m cap8).ownBlock = some j → w7.heap.size ≤ j ∧ j < w8.heap.size)
            have hs7 := Lib.hid (show wo.heap.size ≤ w7.heap.size from Nat.le_trans K5.out.size K7.out.size)
            have HR := Lib.hid hR
            have HM := Lib.hid hm
            have X8 := Lib.hid (hX.out.below K8.out)
            clear hO8 k8 hR hm HRI HFW
            go_wp2_with fail
            go_loopw [7, 10] (fun fv jv wq => ∃ (j : Nat) (o2 : Option Ent), j ≤ m ∧ jv = .int .i64 j ∧ fv = .bool o2.isSome ∧ Hid (o2 = o.or (findK kl (R.take j))) ∧ Hid (C3 zw 32 (.string (bs (bestE o2).key)) (.string (bs (bestE o2).val)) (.bool (bestE o2).gone) wq) ∧ Hid (Only (fun j => j = zw) w8 wq)) (fun fv jv wq => m - (intOf jv).toNat)
            case atStart => exact ⟨0, o, Nat.zero_le _, rfl, rfl, Lib.hid (by cases o <;> rfl), X8, Lib.hid (Only.refl _ _)⟩
            case round =>
              obtain ⟨j, o2, hj, rfl, rfl, hO2, hX2, hOn2⟩ := hrel
              obtain ⟨wq, hwq⟩ : ∃ wq, wq = wr := ⟨_, rfl⟩
              subst hwq
              have hzo := Lib.hid (show zw < wo.heap.size from Nat.lt_of_lt_of_le HZW.out.1 hBr.out)
              have Oq := Lib.hid (O8.out.only hOn2.out fun j hj h => by have := (HV8.out j hj).1; have := hs7.out; have := hzo.out; omega)
              rcases Nat.lt_or_ge j m with hlt2 | hge2
              · obtain ⟨x, hx⟩ : ∃ x, R[j]? = some x := ⟨_, List.getElem?_eq_getElem (by rw [← HM.out]; exact hlt2)⟩
                obtain ⟨g, off2, rfl, -, hc⟩ := Oq.out.ent hx
                have c0 := hc.c0
                have c1 := hc.c1
                have c2 := hc.c2
                have heq : ((bs x.key).toList == (bs kl).toList) = decide (x.key = kl) := by rw [Bool.eq_iff_iff, same_bytes, decide_eq_true_iff]
                have HNX := Lib.hid (show o.or (findK kl (R.take (j + 1))) = o2.or (if x.key = kl then some x else none) by rw [off_take hx, findK_snoc, ← Option.or_assoc, ← hO2.out])
                clear hc hx
                by_cases hs : x.key = kl
                · rw [decide_eq_true hs] at heq
                  have HNX2 := Lib.hid (show o.or (findK kl (R.take (j + 1))) = o2.or (some x) by rw [HNX.out, if_pos hs])
                  clear hs
                  cases o2 with
                  | none =>
                    have d0 := hX2.out.c0
                    have d1 := hX2.out.c1
                    have d2 := hX2.out.c2
                    have df := hX2.out.free
                    have HX3 := Lib.hid (hX2.out.put (.string (bs x.key)) (.string (bs x.val)) (.bool x.gone))
                    have HO3 := Lib.hid (hOn2.out.trans (put3_only wq zw (.string (bs x.key)) (.string (bs x.val)) (.bool x.gone)))
                    go_wp2_with fail
                    go_roundw
                    case rel => exact ⟨j + 1, some x, by omega, by go_num, rfl, Lib.hid (by rw [HNX2.out]; rfl), HX3, HO3⟩
                    case measure => simp [intOf]; omega
                  | some y =>
                    go_wp2_with fail
                    go_roundw
                    case rel => exact ⟨j + 1, some y, by omega, by go_num, rfl, Lib.hid (by rw [HNX2.out]; rfl), hX2, hOn2⟩
                    case measure => simp [intOf]; omega
                · rw [decide_eq_false hs] at heq
                  have HNX2 := Lib.hid (show o.or (findK kl (R.take (j + 1))) = o2 by rw [HNX.out, if_neg hs, Option.or_none])
                  clear hs
                  go_wp2_with fail
                  go_roundw
                  case rel => exact ⟨j + 1, o2, by omega, by go_num, rfl, Lib.hid HNX2.out.symm, hX2, hOn2⟩
                  case measure => simp [intOf]; omega
              · obtain rfl : m = j := by omega
                have HO2 := Lib.hid (show o2 = o.or (findK kl R) by rw [hO2.out, List.take_of_length_le (by rw [← HM.out]; exact Nat.le_refl _)])
                have HOV := Lib.hid (over_run a8 m cap8 R wq (Lib.hid (Oq.out.is HM.out)) (by omega))
                have HTD := Lib.hid (show toldP 0 none R = (R, 0) from told_rising 0 (by rw [HR.out]; exact rising_rises _))
                have hoq := Lib.hid (show Only (fun j => j = zw) wo wq from (Only.of_below' K8.out rfl).trans hOn2.out)
                go_wp2_with fail
                refine HOV.out.mono ?_
                rintro en w9 ⟨c9, hG⟩
                obtain ⟨pv, hpv⟩ := hG.ptr
                obtain ⟨e1, -, e3, e4, e5⟩ := hG
                rw [hpv] at e1
                subst e1
                rw [HTD.out] at e3
                have hF : ∀ j, c9.F j → wq.heap.size ≤ j := fun j hj => (e4 j hj).resolve_left (fun h => h)
                have hCq : Curs w4.heap.size cs ((Ls.take k).map (rowP kl)) wq := hC.out.2.1.only hoq.out fun j hj h => by have := hC.out.2.1.low j hj; have := HZW.out.1; omega
                have hBq := Lib.hid (show w4.heap.size ≤ wq.heap.size from Nat.le_trans hBr.out hoq.out.size)
                have D9 := Lib.hid (hCq.snoc hBq.out e5 ⟨pv, hpv⟩ e3 hF)
                have P9 := Lib.hid ((hC.out.1.only hoq.out fun j hj h => by have := (OffRow.lt hC.out.1 j hj).1; have := HZW.out.1; omega).below e5)
                have K9 := Lib.hid e5
                have HF := Lib.hid hF
                have HPV := Lib.hid hpv
                have HLow := Lib.hid hCq.lt
                clear e3 e4 e5 hF hpv hCq
                obtain ⟨hi, hz0, hz1, hz2⟩ := HI.out
                go_wp2_with (at_builtin; refine wpList_append_off rfl (.tmp 78) (.tmp 81) 39 rfl w4.heap.size 29 i0 _ 1 8 Try.underlying39 hi hz0 hz1 hz2 rfl (.slice a3 k cap3) k (cs.map (·.v)) rfl ?c1 (.slice (some ⟨w9.heap.size, 0, none⟩) 1 1) rfl 1 [.pointer pv] ?c2 ?c3 ?c4 ?c5 ?_)
                case c1 => have := P9.out; unfold OwnC at this; rw [HCS.out] at this; exact OffRow.allocd this _
                case c2 => exact src_block (size := 1) (cs := #[.pointer pv]) Try.underlying39 (heap_new _ _) 1 1 rfl (by intro u hu; simp at hu; subst hu; rfl)
                case c3 => unfold maxLen; omega
                case c4 => omega
                case c5 => have := K9.out.size; have := hBq.out; simp; omega
                intro v11 w11 hr11 hg11 hat11
                have O11 := Lib.hid (show OwnC w11 w4.heap.size v11 (cs ++ [c9]) by
                  unfold OwnC
                  rw [List.length_append, HCS.out, List.map_append]
                  simp only [List.map_cons, List.map_nil, HPV.out]
                  exact hr11)
                have hown := Lib.hid (fun j hj => (OffRow.lt hC.out.1 j hj).2 : ∀ j, (Value.slice a3 k cap3).ownBlock = some j → j < wo.heap.size)
                have hnot := Lib.hid (show ∀ j, (Value.slice a3 k cap3).ownBlock = some j → ¬ FAll (cs ++ [c9]) j from fun j hj h => by
                  rcases fall_snoc h with h | h
                  · exact hC.out.2.2 j hj h
                  · have := hown.out j hj
                    have := HF.out j h
                    have := hoq.out.size
                    omega)
                have g11 : Only (fun j => (Value.slice a3 k cap3).ownBlock = some j) w9 w11 := ((Only.refl _ w9).alloc _).grown hg11 fun j hj => .inl hj
                have D11 := Lib.hid (D9.out.only g11 fun j hj h => hnot.out j h hj)
                have hnot11 := Lib.hid (show ∀ j, v11.ownBlock = some j → ¬ FAll (cs ++ [c9]) j from fun j hj h => by
                  rcases hat11 with e | e
                  · exact hnot.out j (e.symm.trans hj) h
                  · rw [e] at hj
                    injection hj with hj
                    have := D9.out.lt j h
                    have : (w9.alloc (.cells #[.pointer pv] 29)).heap.size = w9.heap.size + 1 := by simp
                    omega)
                have hX9 : C3 zw 32 (.string (bs (bestE o2).key)) (.string (bs (bestE o2).val)) (.bool (bestE o2).gone) w9 := hX2.out.below K9.out
                have X11 := Lib.hid (hX9.only g11 fun h => by have := (OffRow.lt hC.out.1 _ h).1; have := HZW.out.1; omega)
                have On11 := Lib.hid (show Only (fun j => j = zw) w4 w11 from ((hOn.out.trans hoq.out).trans (Only.of_below' K9.out rfl)).andThen g11 fun j hj h => by have := (OffRow.lt hC.out.1 _ h).1; omega)
                have HRW := Lib.hid (show (Ls.take (k + 1)).map (rowP kl) = (Ls.take k).map (rowP kl) ++ [(R, 0)] by rw [List.take_add_one, HL.out]; simp [rowP, HR.out])
                have HFP := Lib.hid (show o2 = firstP kl ((Ls.take (k + 1)).map (rowP kl)) by
                  rw [HRW.out, firstP_append, ← hO.out, firstP_cons, HO2.out]
                  show _ = o.or ((findK kl R).or none)
                  rw [Option.or_none])
                have HFW2 := Lib.hid (show ∀ l ∈ Ls.take (k + 1), l.T.length ≤ 300 by
                  rw [List.take_add_one, HL.out]
                  intro l hl
                  rcases List.mem_append.1 hl with hl | hl
                  · exact hFw.out l hl
                  · have := List.mem_singleton.1 (by simpa using hl)
                    rw [this]
                    have := HLN.out
                    simp only
                    omega)
                clear hr11 hg11 hat11 g11 hX9 hi hz0 hz1 hz2
                go_wp2_with fail
                go_roundw
                case rel => exact ⟨k + 1, o2, cs ++ [c9], by omega, by go_num, rfl, by rw [List.length_append, HCS.out]; rfl, HFP, Lib.hid (by rw [HRW.out]; exact ⟨O11.out, D11.out, hnot11.out⟩), X11, On11, HFW2⟩
                case measure => simp [intOf]; omega
      · obtain rfl : n = k := by omega
        have HTK := Lib.hid (show Ls.take n = Ls from List.take_of_length_le (by rw [h.out.len]; exact Nat.le_refl _))
        rw [HTK.out] at hO hC hFw
        have hgm := good_merge (good_rows kl Ls)
        obtain ⟨M, hM⟩ : ∃ M, M = (mergeP (Ls.map (rowP kl))).1 := ⟨_, rfl⟩
        have HMG := Lib.hid (show mergeP (Ls.map (rowP kl)) = (M, 0) from Prod.ext hM.symm hgm.1)
        have HRM := Lib.hid (show rises M by rw [hM]; exact hgm.2.1)
        have HFK := Lib.hid (show findK kl M = o by rw [hM, hgm.2.2, hO.out])
        have HML := Lib.hid (show M.length ≤ 4000 by
          have h1 := mergeP_len (Ls.map (rowP kl))
          have h2 := rows_total kl Ls hFw.out
          rw [← h.out.len] at h2
          have h3 : n * 301 ≤ 12 * 301 := Nat.mul_le_mul_right _ (by omega)
          rw [hM]
          omega)
        have hz0 : 0 < wo.heap.size := by have := hBr.out; have := HZW.out.1; omega
        have HME := Lib.hid (merge_of hC.out (by rw [HCS.out]; omega) hz0)
        clear hgm hM hz0
        go_wp2_with fail
        refine HME.out.mono ?_
        rintro en w20 ⟨p20, rfl, hx⟩
        obtain ⟨c20, v20, i20, f20, b20⟩ := hx.out
        rw [HMG.out] at i20
        have V20 := Lib.hid v20
        have I20 := Lib.hid i20
        have F20 := Lib.hid (show ∀ j, c20.F j → w4.heap.size ≤ j from fun j hj => (f20 j hj).elim (hC.out.2.1.low j) fun h => Nat.le_trans hBr.out h)
        have K20 := Lib.hid (show Below w.heap.size w w20 from (K4.out.trans (hOn.out.below2 (fun j hj => by rw [hj]; exact HZW.out.2) K4.out.size)).trans (b20.mono (Nat.le_trans K4.out.size hBr.out)))
        have X20 := Lib.hid (show C3 zw 32 (.string (bs (bestE o).key)) (.string (bs (bestE o).val)) (.bool (bestE o).gone) w20 from hX.out.below b20)
        clear hx v20 i20 f20 b20
        go_wp2_with fail
        go_loopw [12, 13] (fun gv iv wq => ∃ j : Nat, j ≤ M.length ∧ iv = .int .i64 j ∧ gv = .int .i64 (metN (findK kl (M.take j))) ∧ Hid (c20.I (M.drop j) 0 false wq) ∧ Hid (C3 zw 32 (.string (bs (bestE o).key)) (.string (bs (bestE o).val)) (.bool (bestE o).gone) wq) ∧ Hid (Below w.heap.size w wq)) (fun gv iv wq => M.length - (intOf iv).toNat)
        case atStart => exact ⟨0, Nat.zero_le _, rfl, rfl, Lib.hid (by rw [List.drop_zero]; exact I20.out), X20, K20⟩
        case round =>
          obtain ⟨j, hj, rfl, rfl, hI, hX3, hB3⟩ := hrel
          obtain ⟨wq, hwq⟩ : ∃ wq, wq = wr := ⟨_, rfl⟩
          subst hwq
          have hj4 : j ≤ 4000 := by have := HML.out; omega
          have HJM := Lib.hid hj
          have HN := Lib.hid (cur_next (Lib.hid c20.ok) _ _ _ _ hI)
          rw [V20.out] at HN
          obtain ⟨mt, hmt⟩ : ∃ mt, mt = metN (findK kl (M.take j)) := ⟨_, rfl⟩
          rw [← hmt]
          have HMT := Lib.hid hmt
          have hmt2 : 0 ≤ mt ∧ mt ≤ 1 := by rw [hmt]; unfold metN; split <;> omega
          clear hmt hj
          rcases Nat.lt_or_ge j M.length with hlt2 | hge2
          · obtain ⟨x, hx⟩ : ∃ x, M[j]? = some x := ⟨_, List.getElem?_eq_getElem hlt2⟩
            have hdr : M.drop j = x :: M.drop (j + 1) := by
              rw [List.drop_eq_getElem_cons hlt2]
              rw [List.getElem?_eq_getElem hlt2] at hx
              injection hx with hx
              rw [hx]
            rw [hdr] at HN
            have HX := Lib.hid hx
            have HLT := Lib.hid hlt2
            clear hdr hx hlt2
            have HZF := Lib.hid (show ¬ c20.F zw from fun h => by have := F20.out _ h; have := HZW.out.1; omega)
            have HSN := Lib.hid (show findK kl (M.take (j + 1)) = (findK kl (M.take j)).or (if x.key = kl then some x else none) by rw [off_take HX.out, findK_snoc])
            have hj1 : j + 1 ≤ M.length := HLT.out
            have HJ1 := Lib.hid hj1
            clear hj1
            go_wp2_with fail
            refine HN.out.mono ?_
            rintro en w21 ⟨hA, hI2, k21⟩
            simp only [List.tail_cons, List.isEmpty_cons] at hI2
            have I21 := Lib.hid hI2
            have X21 := Lib.hid (hX3.out.only k21 HZF.out)
            have B21 := Lib.hid (hB3.out.trans (k21.below2 (fun j hj => by have := F20.out j hj; have := HZW.out; omega) hB3.out.size))
            clear hI2 k21
            cases hA with
            | next =>
              obtain ⟨w22, hw22⟩ : ∃ w22, w22 = w21.alloc (.cells #[.string (bs x.key), .string (bs x.val), .bool x.gone] 32) := ⟨_, rfl⟩
              have K22 := Lib.hid (show Below w21.heap.size w21 w22 by rw [hw22]; exact (Below.refl _ _).alloc (Nat.le_refl _) _)
              have Y22 := Lib.hid (show C3 w21.heap.size 32 (.string (bs x.key)) (.string (bs x.val)) (.bool x.gone) w22 by rw [hw22]; exact heap_new w21 _)
              have I22 := Lib.hid (c20.ok.below I21.out K22.out)
              have X22 := Lib.hid (X21.out.below K22.out)
              have B22 := Lib.hid (B21.out.trans (K22.out.mono B21.out.size))
              have HW22 := Lib.hid hw22
              have y0 := Y22.out.c0
              have y1 := Y22.out.c1
              have y2 := Y22.out.c2
              have heq : ((bs x.key).toList == (bs kl).toList) = decide (x.key = kl) := by rw [Bool.eq_iff_iff, same_bytes, decide_eq_true_iff]
              clear hw22
              by_cases hs : x.key = kl
              · have hbef := Lib.hid (show findK kl (M.take j) = none from findK_none fun y hy e => by
                  obtain ⟨i, hi⟩ := List.getElem?_of_mem hy
                  rw [List.getElem?_take] at hi
                  split at hi
                  · rename_i hij
                    exact ltB_ne (rises_at HRM.out i j y x hij hi HX.out) (e.trans hs.symm)
                  · cases hi)
                have HOX := Lib.hid (show o = some x by
                  rw [← HFK.out, ← List.take_append_drop (j + 1) M, off_take HX.out, List.append_assoc]
                  unfold findK
                  rw [List.find?_append]
                  have := hbef.out
                  unfold findK at this
                  rw [this]
                  simp [hs])
                have hmt0 : mt = 0 := by rw [HMT.out, hbef.out]; rfl
                have HM1 := Lib.hid (show metN (findK kl (M.take (j + 1))) = 1 by rw [HSN.out, hbef.out, if_pos hs]; rfl)
                rw [decide_eq_true hs] at heq
                rw [HOX.out] at X22
                have z0 := X22.out.c0
                have z1 := X22.out.c1
                have z2 := X22.out.c2
                simp only [bestE, Option.getD_some] at z0 z1 z2
                have hsame := ent_same (bs x.key) (bs x.val) x.gone
                subst hmt0
                clear hs
                go_upto_region 24 with (fail)
                rw [← HW22.out]
                go_wp2_with fail
                go_roundw
                case rel => exact ⟨j + 1, HJ1.out, by go_num, by rw [HM1.out], I22, by rw [HOX.out]; exact X22, B22⟩
                case measure => have := HLT.out; simp [intOf]; omega
              · have HM1 := Lib.hid (show mt = metN (findK kl (M.take (j + 1))) by rw [HSN.out, if_neg hs, Option.or_none, HMT.out])
                rw [decide_eq_false hs] at heq
                clear hs
                go_upto_region 24 with (fail)
                rw [← HW22.out]
                go_wp2_with fail
                go_roundw
                case rel => exact ⟨j + 1, HJ1.out, by go_num, by rw [← HM1.out], I22, X22, B22⟩
                case measure => have := HLT.out; simp [intOf]; omega
          · have hdr : M.drop j = [] := List.drop_eq_nil_of_le hge2
            rw [hdr] at HN
            have HMO := Lib.hid (show mt = metN o by rw [HMT.out, List.take_of_length_le hge2, HFK.out])
            clear hdr
            go_wp2_with fail
            refine HN.out.mono ?_
            rintro en w21 ⟨hA, hI2, k21⟩
            have B21 := Lib.hid (hB3.out.trans (k21.below2 (fun j hj => by have := F20.out j hj; have := HZW.out; omega) hB3.out.size))
            clear hI2 k21
            cases hA with
            | ends =>
              obtain ⟨w22, hw22⟩ : ∃ w22, w22 = w21.alloc (.cells #[.string ⟨#[]⟩, .string ⟨#[]⟩, .bool false] 32) := ⟨_, rfl⟩
              have B22 := Lib.hid (show Below w.heap.size w w22 by rw [hw22]; exact B21.out.alloc B21.out.size _)
              have HW22 := Lib.hid hw22
              clear hw22
              cases o with
              | none =>
                have hm0 : mt = 0 := HMO.out
                subst hm0
                go_upto_region 24 with (fail)
                rw [← HW22.out]
                go_wp2_with fail
                go_ret
                exact ⟨rfl, B22.out⟩
              | some y =>
                have hm0 : mt = 1 := HMO.out
                subst hm0
                go_upto_region 24 with (fail)
                rw [← HW22.out]
                go_wp2_with fail
                go_ret
                exact ⟨rfl, B22.out⟩
end Go.Proofs.Ytbjokbnmfbfkjaa
