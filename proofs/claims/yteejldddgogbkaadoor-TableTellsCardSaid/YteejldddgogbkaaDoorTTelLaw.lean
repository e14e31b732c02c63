/- TableTells -/
import Derived.Test.YteejldddgogbkaaDoorTTel20
import Derived.Test.YteejldddgogbkaaDoorTTel12
import Derived.Test.YteejldddgogbkaaDoorTTel13
import Derived.SliceStrings
import Derived.ChangeOld
import Derived.ShutString
import Derived.ChangeMaps5
import Derived.ProofKit
import Derived.OpenShut
/- TableTells: a table tells just the entries that it was made of, of each key, and from each key on; a Get reads one block at most. For every input; no condition beside the round numbers that the program lays (tied). -/
set_option linter.unusedVariables false
set_option maxRecDepth 100000
namespace Go.Proofs.YteejldddgogbkaaDoor.tableTells
open Go.ChangeShapes Go.WideShapes Go.ChangeAt Go.RowKit
open Go.ChangeMaps (open_string shut_string)

/-- Rising entries may be packed. -/
theorem rising_ok {T : List Ent} (h : ∀ x ∈ T, x.key.length ≤ 60000 ∧ x.val.length ≤ 60000) (hl : T.length ≤ 3001) : chkE (rising T) = 0 := by
  refine (chkE_ok _).2 ⟨okEs_of_rises true [] (rising_rises T) (fun y hy => ?_) (fun h => by cases h), by have := rising_len T; omega⟩
  obtain ⟨x, hx, rfl⟩ := rising_mem hy
  have := h x hx
  unfold norm
  split
  · exact ⟨by simp only; omega, by simp, fun _ => rfl⟩
  · rename_i hg
    exact ⟨by omega, by omega, fun g => absurd g hg⟩
/-- The entry of a key that is there. -/
theorem find_self {R : List Ent} (hR : rises R) {i : Nat} {x : Ent} (hx : R[i]? = some x) : R.find? (isKey x.key) = some x := by
  have hi := List.getElem?_eq_some_iff.1 hx
  rw [List.find?_eq_some_iff_getElem]
  refine ⟨by simp [isKey], i, hi.1, hi.2, fun j hj => ?_⟩
  have hjl : j < R.length := Nat.lt_trans hj hi.1
  have h1 := rises_at hR j i R[j] x hj (List.getElem?_eq_getElem hjl) hx
  have : R[j].key ≠ x.key := fun e => by rw [e, ltB_irrefl] at h1; cases h1
  simp [isKey, this]
theorem take_at {R : List Ent} {k : Nat} {x : Ent} (hx : R[k]? = some x) : R.take (k + 1) = R.take k ++ [x] := by rw [List.take_add_one, hx]; rfl
theorem find_eq {R : List Ent} (hR : rises R) {k : Nat} {x : Ent} {kl : List UInt8} (hx : R[k]? = some x) (hk : x.key = kl) : (R.take (k + 1)).find? (isKey kl) = some x := by
  have h1 : rises (R.take (k + 1)) := (rises_app (D := R.drop (k + 1)) (by rw [List.take_append_drop]; exact hR)).1
  have h2 : (R.take (k + 1))[k]? = some x := by rw [List.getElem?_take, if_pos (by omega), hx]
  rw [← hk]
  exact find_self h1 h2
theorem find_ne {R : List Ent} {k : Nat} {x : Ent} {kl : List UInt8} (hx : R[k]? = some x) (hk : x.key ≠ kl) : (R.take (k + 1)).find? (isKey kl) = (R.take k).find? (isKey kl) := by
  rw [take_at hx, List.find?_append]
  have : [x].find? (isKey kl) = none := by simp [isKey, hk]
  rw [this, Option.or_none]
theorem from_step {R : List Ent} {k : Nat} {x : Ent} {kl : List UInt8} (hx : R[k]? = some x) : fromE kl (R.take (k + 1)) = fromE kl (R.take k) ++ (if ltB x.key kl = true then [] else [x]) := by
  rw [take_at hx, fromE_app]
  congr 1
  unfold fromE
  by_cases h : ltB x.key kl = true
  · rw [if_pos h]; simp [h]
  · rw [if_neg h]; simp [h]
def noE : Ent := ⟨[], [], false⟩
/-- What stands while the law goes on: the table, its source, the list. -/
structure St (p b : Nat) (L : List UInt8) (t : Tab) (lo hi : Int) (a4 : Option Addr) (n : Nat) (R : List Ent) (W : World) : Prop where
  tab : TabS p 35 #[.pointer (some ⟨b, 0, none⟩)] (overK b L) t lo hi W
  list : IsE W a4 n R
set_option maxHeartbeats 4000000 in
theorem core0 (a : Option Addr) (len cap : Nat) (T : List Ent) (ea : Int) (pa : Int) (ka : Option Addr) (klen kcap : Nat) (Ks : List ByteArray) (w : World) (h : InE w a len cap T) (he1 : 0 ≤ ea) (he2 : ea ≤ 255) (hp1 : 0 ≤ pa) (hp2 : pa ≤ 255)
    (hks : IsTexts w ka klen Ks) (hkl : klen ≤ 9223372036854775807) (hkt : ∀ t ∈ Ks, t.size ≤ 900000000000000) (hg : Hid (Glob w)) :
    Calls Tryd.prog 3 #[.slice a len cap, .int .u8 ea, .int .u8 pa, .slice ka klen kcap] w fun e w' => e = .returned (.bool true) ∧ Below w.heap.size w w' := by
  obtain ⟨his, hbig, hroom, hfit⟩ := h
  have HIS := Lib.hid his
  have HFIT := Lib.hid hfit
  have HKS := Lib.hid hks
  have HKT := Lib.hid hkt
  clear his hfit hks hkt
  go_enter Tryd.func3, Tryd.ntmps3
  go_wp2_with fail
  refine (law_awake09 w hg).mono ?_
  rintro e w1 ⟨rfl, k1⟩
  have K1 := Lib.hid k1
  clear k1
  go_wp2_with fail
  refine (law_few a len cap T w1 (Lib.hid (HIS.out.below K1.out)) hbig HFIT).mono ?_
  rintro e w2 ⟨rfl, k2⟩
  have K2 := Lib.hid (K1.out.trans (k2.mono K1.out.size))
  clear k2
  obtain ⟨r, hr⟩ : ∃ r, r = fewB T := ⟨_, rfl⟩
  rw [← hr]
  have HR := Lib.hid hr
  clear hr
  cases r with
  | false =>
    go_wp2_with fail
    refine (law_awake09 w2 (Lib.hid (hg.out.keep K2.out hg.out.1))).mono ?_
    rintro e w3 ⟨rfl, k3⟩
    have K3 := Lib.hid k3
    clear k3
    go_wp2_with fail
    go_ret
    exact ⟨rfl, K2.out.trans (K3.out.mono K2.out.size)⟩
  | true =>
    have hfew := Lib.hid (few_of HR.out.symm)
    have hlen : len ≤ 3001 := by rw [HIS.out.1]; exact hfew.out.1
    go_wp2_with fail
    refine (law_rising_cap a len cap T w2 (Lib.hid (HIS.out.below K2.out)) hlen (Lib.hid hfew.out.2)).mono ?_
    rintro e w4 ⟨⟨a4, c4, rfl, hE4, hc4⟩, k4⟩
    have HE4 := Lib.hid hE4
    have K4 := Lib.hid (K2.out.trans (k4.mono K2.out.size))
    have HCHK := Lib.hid (rising_ok hfew.out.2 hfew.out.1)
    have HRS := Lib.hid (rising_rises T)
    have hRl : (rising T).length ≤ 3001 := Nat.le_trans (rising_len T) hfew.out.1
    clear hE4 k4
    generalize rising T = R at *
    obtain ⟨n, hn⟩ : ∃ n, n = R.length := ⟨_, rfl⟩
    rw [← hn] at hRl HE4 hc4 ⊢
    have HN := Lib.hid hn
    clear hn
    obtain ⟨en, hen⟩ : ∃ en : Nat, ea = (en : Int) := ⟨ea.toNat, by omega⟩
    obtain ⟨pn, hpn⟩ : ∃ pn : Nat, pa = (pn : Int) := ⟨pa.toNat, by omega⟩
    subst hen hpn
    have hen2 : en ≤ 255 := by omega
    obtain ⟨q, hq⟩ : ∃ q : Nat, q = pn % 32 := ⟨_, rfl⟩
    have hq32 : q ≤ 31 := by omega
    have hqe : ((pn : Int) % 32) = (q : Int) := by omega
    have G4 := Lib.hid (hg.out.keep K4.out hg.out.1)
    have hb0 : buildE' (1 + (en : Int)) (1 + (q : Int)) R = 0 := by unfold buildE'; rw [if_neg (by omega)]; exact HCHK.out
    have HBD := Lib.hid (table_Build a4 n c4 R (1 + (en : Int)) (1 + (q : Int)) w4 HE4 hRl hc4 (Lib.hid (smallE_of ((chkE_ok R).1 HCHK.out).1)) G4)
    rw [hb0, if_pos rfl] at HBD
    obtain ⟨P, hP⟩ : ∃ P, P = tabB (1 + (en : Int)).toNat (1 + (q : Int)).toNat R := ⟨_, rfl⟩
    have hto : (1 + (en : Int)).toNat = 1 + en := by omega
    have hto2 : (1 + (q : Int)).toNat = 1 + q := by omega
    rw [← hP] at HBD
    have hP2 : P = tabB (1 + en) (1 + q) R := by rw [hP, hto, hto2]
    obtain ⟨t, ht⟩ := built_tab (each := 1 + en) (per := 1 + q) (T := R) (by omega) (by omega) (by omega) (by omega) (by rw [← HN.out]; exact hRl) HCHK.out
    rw [← hP2] at ht
    have HT := Lib.hid ht
    obtain ⟨m, hm⟩ : ∃ m, m = P.length := ⟨_, rfl⟩
    have hzP : (bs P).size = m := by rw [bs_size, hm]
    have HM := Lib.hid hm
    clear hm hP hP2 hto hto2 ht hb0 hq
    go_wp2_with fail
    refine HBD.out.mono ?_
    rintro e w5 ⟨rfl, k5⟩
    have E5 := Lib.hid (HE4.out.below k5)
    have K5 := Lib.hid (K4.out.trans (k5.mono K4.out.size))
    clear k5 HBD
    go_wp2_with fail
    refine (law_over (bs P) w5).mono ?_
    rintro e w6 ⟨rfl, hw6⟩
    have b6 : Below w5.heap.size w5 w6 := by rw [hw6]; exact (Below.refl _ _).alloc (Nat.le_refl _) _
    have K6 := Lib.hid (K5.out.trans (b6.mono K5.out.size))
    have E6 := Lib.hid (E5.out.below b6)
    have Q6 := Lib.hid (show Keep (overK w5.heap.size P) w6 from fun q hq => by
      simp only [overK, List.mem_singleton] at hq
      subst hq
      rw [hw6]; exact heap_new w5 _)
    have hb6 := Lib.hid (show w5.heap.size < w6.heap.size by rw [hw6]; simp)
    have HSrc := Lib.hid (over_src w5.heap.size P (by have := HT.out.len; omega))
    have HOp := Lib.hid (open_built HT.out _ _ _ w6 HSrc Q6)
    rw [← HM.out] at HOp
    obtain ⟨b, hb⟩ : ∃ b, b = w5.heap.size := ⟨_, rfl⟩
    rw [← hb] at Q6 hb6 HSrc HOp ⊢
    clear hw6 b6 hb
    go_wp2_with fail
    refine HOp.out.mono ?_
    rintro e w7 ⟨p, hp, rfl, hT7, k7⟩
    have K7 := Lib.hid (show Below w6.heap.size w6 w7 from k7)
    have T7 := Lib.hid hT7
    have HP := Lib.hid hp
    have HKp := Lib.hid (show ∀ q ∈ overK b P, q.1 ≠ p from fun q hq => by
      simp only [overK, List.mem_singleton] at hq
      subst hq
      have := hb6.out
      show b ≠ p
      omega)
    have hSt := Lib.hid (show Go.Proofs.YteejldddgogbkaaDoor.Src 35 #[.pointer (some ⟨b, 0, none⟩)] (overK b P) 0 t.bytes by rw [HT.out.bytes]; exact HSrc.out)
    have hcount : (t.count : Int) = (n : Int) := by rw [HT.out.count, HN.out]
    have HCnt := Lib.hid (table_Count p _ 0 t w7 T7.out)
    have HRds := Lib.hid (table_Reads p _ 0 t w7 T7.out)
    rw [hcount] at HCnt
    clear k7 hp hT7 HOp hcount
    go_wp2_with fail
    refine HCnt.out.mono ?_
    rintro e w8 ⟨rfl, rfl⟩
    go_wp2_with fail
    refine HRds.out.mono ?_
    rintro e w8 ⟨rfl, rfl⟩
    have T7' := Lib.hid (show TabM p (srcV 35 #[.pointer (some ⟨b, 0, none⟩)]) ((0 : Nat) : Int) t w7 from T7.out)
    clear HCnt HRds
    go_wp2_with fail
    go_loopw [13] (fun vi wr => ∃ i : Nat, i ≤ n ∧ vi = .int .i64 (i : Int) ∧ Hid (TabM p (srcV 35 #[.pointer (some ⟨b, 0, none⟩)]) (i : Int) t wr) ∧ Hid (Below w6.heap.size w6 wr)) (fun vi wr => n - (intOf vi).toNat)
    case atStart => exact ⟨0, by omega, rfl, T7', K7⟩
    case round =>
      obtain ⟨i, hi, rfl, hTr, hBr⟩ := hrel
      rcases Nat.lt_or_ge i n with hlt | hge
      · obtain ⟨eb, eo, x, rfl, hx, _, hc⟩ := (E6.out.below hBr.out).at hlt
        have c0 := hc.c0
        have hlt2 : (i : Int) < (n : Int) := by omega
        have HC := Lib.hid hc
        have HX := Lib.hid hx
        have hxm : x ∈ R := List.mem_of_getElem? hx
        have hsm := smallE_of ((chkE_ok R).1 HCHK.out).1 x hxm
        have hlb := HT.out.len
        rw [← HT.out.bytes] at hlb
        have HGet := Lib.hid (table_Get p _ _ _ t (i : Int) x.key wr hTr (Lib.hid HT.out.fine) hSt (Lib.hid (Q6.out.below hBr.out)) HKp (Lib.hid (hg.out.keep (K6.out.trans (hBr.out.mono K6.out.size)) hg.out.1)) (by omega) (by omega) (by omega) HT.out.bits (Lib.hid (by omega)))
        clear hx hc hxm hsm hlb
        go_wp2_with fail
        refine HGet.out.mono ?_
        rintro e w8 ⟨he8, hT8, hO8⟩
        obtain ⟨r, hr1, hr2, hr3⟩ := HT.out.get x.key
        rw [find_self HRS.out HX.out] at hr2 hr3
        have hr := hr2 rfl
        subst hr
        rw [hr3] at he8 hT8
        have he9 : e = .returned (.tuple #[.agg #[.string (bs x.key), .string (bs x.val), .bool x.gone], .bool true, .int .i64 0]) := he8
        clear he8
        subst he9
        have B8 := Lib.hid (show Below w6.heap.size w6 w8 from hBr.out.trans (hO8.below (fun k _ e => by have e2 : k = p := e; have := HP.out; omega) hBr.out.size))
        have T8 := Lib.hid (show TabM p (srcV 35 #[.pointer (some ⟨b, 0, none⟩)]) ((i : Int) + 1) t w8 from hT8)
        clear hT8 hO8 hr1 hr2 hr3 HGet c0
        obtain ⟨w9, hw9⟩ : ∃ w9, w9 = w8.alloc (.cells #[.string (bs x.key), .string (bs x.val), .bool x.gone] 38) := ⟨_, rfl⟩
        have b9 := Lib.hid (show Below w8.heap.size w8 w9 by rw [hw9]; exact (Below.refl _ _).alloc (Nat.le_refl _) _)
        have C9 := Lib.hid (show C3 w8.heap.size 38 (.string (bs x.key)) (.string (bs x.val)) (.bool x.gone) w9 by rw [hw9]; exact heap_new w8 _)
        have B9 := Lib.hid (B8.out.trans (b9.out.mono B8.out.size))
        have T9 := Lib.hid (T8.out.below b9.out)
        have HW9 := Lib.hid hw9
        clear hw9
        obtain ⟨eb', eo', x', hae, hx', _, hc9⟩ := (E6.out.below B9.out).at hlt
        injection hae with hae
        injection hae with hae1 hae2 _
        subst hae1 hae2
        rw [HX.out] at hx'
        injection hx' with hx'
        subst hx'
        have n0 : ∀ m : Seen w9, m.val.cell? ⟨w8.heap.size, 0, none⟩ = some (.string (bs x.key)) := fun m => (C9.out.below m.below).c0
        have n1 : ∀ m : Seen w9, m.val.cell? ⟨w8.heap.size, 1, none⟩ = some (.string (bs x.val)) := fun m => (C9.out.below m.below).c1
        have n2 : ∀ m : Seen w9, m.val.cell? ⟨w8.heap.size, 2, none⟩ = some (.bool x.gone) := fun m => (C9.out.below m.below).c2
        have l0 : ∀ m : Seen w9, m.val.cell? ⟨eb, eo + i * 3, none⟩ = some (.string (bs x.key)) := fun m => (hc9.below m.below).c0
        have l1 : ∀ m : Seen w9, m.val.cell? ⟨eb, eo + i * 3 + 1, none⟩ = some (.string (bs x.val)) := fun m => (hc9.below m.below).c1
        have l2 : ∀ m : Seen w9, m.val.cell? ⟨eb, eo + i * 3 + 2, none⟩ = some (.bool x.gone) := fun m => (hc9.below m.below).c2
        have HRm := Lib.hid (fun m : Seen w9 => (table_Reads p _ _ t m.val (T9.out.below m.below)).mono (R' := fun e w' => e = .returned (.int .i64 ((i : Int) + 1)) ∧ ∃ q : Seen w9, w' = q.val) fun e w' h => ⟨h.1, ⟨m, h.2.symm⟩⟩)
        have hsame := ent_same (bs x.key) (bs x.val) x.gone
        clear hc9
        go_upto_region 12 with (fail)
        rw [← HW9.out]
        refine region_seen (by kernel_rfl) (by kernel_rfl) ?_
        repeat go_big_quiet_step (first | (go_at_call 14; with_reducible exact HRm.out _))
        refine wpQuiet_nil ?_
        rintro _ ⟨m1, rfl⟩
        have B10 := Lib.hid (B9.out.trans (m1.below.mono B9.out.size))
        have T10 := Lib.hid (T9.out.below m1.below)
        clear n0 n1 n2 l0 l1 l2
        go_wp2_with fail
        go_roundw
        case rel => exact ⟨i + 1, by omega, by go_num, T10, B10⟩
        case measure => simp [intOf]; omega
      · obtain rfl : i = n := by omega
        obtain ⟨hkn, kb, koff, hka, hkr⟩ := HKS.out
        have HKR := Lib.hid hkr
        have HKN := Lib.hid hkn
        have HKA := Lib.hid hka
        have T0 := hTr
        clear hkr hkn hka T7'
        go_wp2_with fail
        go_loopw [17] (fun vi wr => ∃ (i2 : Nat) (nr : Int), i2 ≤ klen ∧ i2 ≤ 50 ∧ vi = .int .i64 (i2 : Int) ∧ 0 ≤ nr ∧ nr ≤ 4000 + (i2 : Int) * 70000 ∧ Hid (TabM p (srcV 35 #[.pointer (some ⟨b, 0, none⟩)]) nr t wr) ∧ Hid (Below w6.heap.size w6 wr)) (fun vi wr => 50 - (intOf vi).toNat)
        case atStart => exact ⟨0, (i : Int), by omega, by omega, rfl, by omega, by omega, T0, hBr⟩
        case round =>
          obtain ⟨i2, nr, hi2, hi50, rfl, hnr0, hnr1, hTq, hBq⟩ := hrel
          by_cases hgo : i2 < klen ∧ i2 < 50
          · obtain ⟨hlt2, hlt50⟩ := hgo
            have hl1 : (i2 : Int) < (klen : Int) := by omega
            have hl2 : (i2 : Int) < 50 := by omega
            obtain ⟨kl, hkl⟩ : ∃ kl, kl = (Ks.getD i2 ByteArray.empty).data.toList := ⟨_, rfl⟩
            have hkb : Ks.getD i2 ByteArray.empty = bs kl := bs_eq hkl.symm
            have hka : ka = some ⟨kb, koff, none⟩ := HKA.out.resolve_left (by omega)
            subst hka
            have hk63 : kl.length ≤ 900000000000000 := by
              have hlt3 : i2 < Ks.length := by rw [← HKN.out]; exact hlt2
              have := HKT.out (Ks.getD i2 ByteArray.empty) (by rw [List.getD_eq_getElem?_getD, List.getElem?_eq_getElem hlt3]; exact List.getElem_mem hlt3)
              rw [hkb, bs_size] at this
              exact this
            have HKC := Lib.hid (show ∀ W, Below w6.heap.size w6 W → W.cell? ⟨kb, koff + i2, none⟩ = some (.string (bs kl)) from fun W hW => by
              have h := HKR.out i2 (by rw [← HKN.out]; exact hlt2)
              have h2 := (K6.out.cell (p := ⟨kb, koff + i2, none⟩) h.1)
              have h3 := hW.cell (p := ⟨kb, koff + i2, none⟩) (Nat.lt_of_lt_of_le h.1 K6.out.size)
              rw [h3, h2, h.2, hkb])
            have kc := HKC.out wr hBq.out
            have HRd := Lib.hid (table_Reads p _ nr t wr hTq.out)
            have hlb := HT.out.len
            rw [← HT.out.bytes] at hlb
            have HGet := Lib.hid (table_Get p _ _ _ t nr kl wr hTq (Lib.hid HT.out.fine) hSt (Lib.hid (Q6.out.below hBq.out)) HKp (Lib.hid (hg.out.keep (K6.out.trans (hBq.out.mono K6.out.size)) hg.out.1)) (by omega) (by omega) (by omega) HT.out.bits (Lib.hid hk63))
            clear hkl hkb hk63 hlb hlt2
            go_wp2_with fail
            refine HRd.out.mono ?_
            rintro e w8 ⟨rfl, rfl⟩
            go_wp2_with fail
            refine HGet.out.mono ?_
            rintro e w8 ⟨he8, hT8, hO8⟩
            obtain ⟨r, hr1, _, hr3⟩ := HT.out.get kl
            obtain ⟨y, hy⟩ : ∃ y, y = (R.find? (isKey kl)).getD noE := ⟨_, rfl⟩
            obtain ⟨f, hf⟩ : ∃ f, f = (R.find? (isKey kl)).isSome := ⟨_, rfl⟩
            have hr4 : getT t kl = (y, f, 0, r) := by rw [hr3, hy, hf]; rfl
            rw [hr4] at he8 hT8
            have he9 : e = .returned (.tuple #[.agg #[.string (bs y.key), .string (bs y.val), .bool y.gone], .bool f, .int .i64 0]) := he8
            clear he8
            subst he9
            have HY := Lib.hid hy
            have HF := Lib.hid hf
            have B8 := Lib.hid (show Below w6.heap.size w6 w8 from hBq.out.trans (hO8.below (fun k _ e => by have e2 : k = p := e; have := HP.out; omega) hBq.out.size))
            have T8 := Lib.hid (show TabM p (srcV 35 #[.pointer (some ⟨b, 0, none⟩)]) (nr + (r : Int)) t w8 from hT8)
            clear hT8 hO8 hr3 hr4 HGet HRd kc hy hf
            obtain ⟨w9, hw9⟩ : ∃ w9, w9 = w8.alloc (.cells #[.string (bs y.key), .string (bs y.val), .bool y.gone] 38) := ⟨_, rfl⟩
            have b9 := Lib.hid (show Below w8.heap.size w8 w9 by rw [hw9]; exact (Below.refl _ _).alloc (Nat.le_refl _) _)
            have C9 := Lib.hid (show C3 w8.heap.size 38 (.string (bs y.key)) (.string (bs y.val)) (.bool y.gone) w9 by rw [hw9]; exact heap_new w8 _)
            have B9 := Lib.hid (B8.out.trans (b9.out.mono B8.out.size))
            have T9 := Lib.hid (T8.out.below b9.out)
            have HW9 := Lib.hid hw9
            obtain ⟨s9, hs9⟩ : ∃ s9, s9 = w9.heap.size := ⟨_, rfl⟩
            have hs89 := Lib.hid (show w8.heap.size < s9 by rw [hs9, hw9]; simp)
            obtain ⟨w10, hw10⟩ : ∃ w10, w10 = w9.alloc (.cells #[.string ⟨#[]⟩, .string ⟨#[]⟩, .bool false] 38) := ⟨_, rfl⟩
            have b10 := Lib.hid (show Below s9 w9 w10 by rw [hw10, hs9]; exact (Below.refl _ _).alloc (Nat.le_refl _) _)
            have C10 := Lib.hid (show C3 s9 38 (.string (bs noE.key)) (.string (bs noE.val)) (.bool noE.gone) w10 by rw [hw10, hs9]; exact heap_new w9 _)
            have HW10 := Lib.hid hw10
            have HS10 := Lib.hid (show w10.heap.size = s9 + 1 by rw [hw10, hs9]; simp)
            have HS9 := Lib.hid hs9
            clear hw9 hw10 hs9
            go_upto_region 19 with (fail)
            rw [← HW9.out]
            go_upto_region 20 with (fail)
            rw [← HW10.out, ← HS9.out]
            go_wp2_with fail
            go_loopw [23, 24, 25] (fun v fv kv wk => ∃ (k : Nat) (f0 : Bool) (wn : Ent), k ≤ i ∧ kv = .int .i64 (k : Int) ∧ fv = .bool f0 ∧ Hid (f0 = ((R.take k).find? (isKey kl)).isSome) ∧ Hid (wn = ((R.take k).find? (isKey kl)).getD noE) ∧ Hid (OwnE wk (s9 + 1) v (fromE kl (R.take k))) ∧ Hid (C3 s9 38 (.string (bs wn.key)) (.string (bs wn.val)) (.bool wn.gone) wk) ∧ Hid (Below s9 w9 wk)) (fun v fv kv wk => i - (intOf kv).toNat)
            case atStart => exact ⟨0, false, noE, by omega, rfl, rfl, Lib.hid rfl, Lib.hid rfl, Lib.hid (OwnE.nil _ _), C10, b10⟩
            case round =>
              obtain ⟨k, f0, wn, hki, rfl, rfl, hf0, hwn, hOw, hCw, hBk⟩ := hrel
              obtain ⟨av, cv, hv⟩ := hOw.out.slice
              obtain ⟨fl, hfl⟩ : ∃ fl, fl = (fromE kl (R.take k)).length := ⟨_, rfl⟩
              rw [← hfl] at hv
              subst hv
              have HFL := Lib.hid hfl
              have hflb : fl ≤ 3001 := by
                rw [hfl]
                have h1 : (fromE kl (R.take k)).length ≤ (R.take k).length := List.length_filter_le _ _
                rw [List.length_take] at h1
                omega
              clear hfl
              have B9k := Lib.hid (show Below w6.heap.size w6 wr from B9.out.trans (hBk.out.mono (by rw [HS9.out]; exact B9.out.size)))
              rcases Nat.lt_or_ge k i with hlt3 | hge3
              · obtain ⟨eb, eo, x, rfl, hx, _, hc⟩ := (E6.out.below B9k.out).at hlt3
                have HX := Lib.hid hx
                have kc := HKC.out wr B9k.out
                have c0 := hc.c0
                have c1 := hc.c1
                have c2 := hc.c2
                have hlt4 : (k : Int) < (i : Int) := by omega
                have HFS := Lib.hid (from_step (kl := kl) hx)
                have hless : Op.bytesLess (bs x.key).toList (bs kl).toList = ltB x.key kl := by rw [Lib.toList_data, Lib.toList_data, bs_list, bs_list, ltB_less]
                have q0 := hCw.out.c0
                have q1 := hCw.out.c1
                have q2 := hCw.out.c2
                have qf := hCw.out.free
                clear hx hc
                by_cases hke : x.key = kl
                case' pos =>
                  have HFI := Lib.hid (find_eq HRS.out HX.out hke)
                  have hcm : ((bs x.key).toList == (bs kl).toList) = true := (same_bytes _ _).2 hke
                  have hcp : (bs x.key).toList = (bs kl).toList := by rw [hke]
                  clear hke
                  go_wp2_with fail
                  go_quiet (fail)
                  obtain ⟨w11, hw11⟩ : ∃ w11, w11 = wr.drewN nq := ⟨_, rfl⟩
                  have b11 := Lib.hid (show Below wr.heap.size wr w11 by rw [hw11]; exact below_drewN (Below.refl _ _) _)
                  rw [← hw11]
                  have B11 := Lib.hid (hBk.out.trans (b11.out.mono (by rw [HS9.out]; exact hBk.out.size)))
                  have O11 := Lib.hid (hOw.out.below b11.out)
                  have D11 := Lib.hid (hCw.out.below b11.out)
                  have c0' : w11.cell? ⟨eb, eo + k * 3, none⟩ = some (.string (bs x.key)) := by rw [b11.out.cell (cell_block c0)]; exact c0
                  have c1' : w11.cell? ⟨eb, eo + k * 3 + 1, none⟩ = some (.string (bs x.val)) := by rw [b11.out.cell (cell_block c1)]; exact c1
                  have c2' : w11.cell? ⟨eb, eo + k * 3 + 2, none⟩ = some (.bool x.gone) := by rw [b11.out.cell (cell_block c2)]; exact c2
                  clear hw11 c0 c1 c2 kc q0 q1 q2 qf
                  have q0 := D11.out.c0
                  have q1 := D11.out.c1
                  have q2 := D11.out.c2
                  have qf := D11.out.free
                  obtain ⟨wc, hwc⟩ : ∃ wc, wc = ((w11.setCell ⟨s9, 0, none⟩ (.string (bs x.key))).setCell ⟨s9, 1, none⟩ (.string (bs x.val))).setCell ⟨s9, 2, none⟩ (.bool x.gone) := ⟨_, rfl⟩
                  have BC := Lib.hid (show Below s9 w9 wc by rw [hwc]; exact below_put3 B11.out (Nat.le_refl _) 0 1 2 _ _ _)
                  have OC := Lib.hid (show OwnE wc (s9 + 1) (.slice av fl cv) (fromE kl (R.take k)) by
                    rw [hwc]
                    exact OffRow.kept O11.out fun j hj => put3_same _ _ _ _ (by have := (OffRow.lt O11.out j hj).1; omega))
                  have CC := Lib.hid (show C3 s9 38 (.string (bs x.key)) (.string (bs x.val)) (.bool x.gone) wc by rw [hwc]; exact D11.out.put _ _ _)
                  have HWC := Lib.hid hwc
                  have hfn : true = ((R.take (k + 1)).find? (isKey kl)).isSome := by rw [HFI.out]; rfl
                  have hwnn : x = ((R.take (k + 1)).find? (isKey kl)).getD noE := by rw [HFI.out]; rfl
                  have HFN := Lib.hid hfn
                  have HWN := Lib.hid hwnn
                  clear hwc hfn hwnn hf0 hwn
                  go_upto_region 27 with (fail)
                  rw [← HWC.out]
                  clear q0 q1 q2 qf c0' c1' c2' HWC
                case' neg =>
                  have HFI := Lib.hid (find_ne HX.out hke)
                  have hcm : ((bs x.key).toList == (bs kl).toList) = false := by
                    cases h : ((bs x.key).toList == (bs kl).toList) with
                    | false => rfl
                    | true => exact absurd ((same_bytes _ _).1 h) hke
                  have hcp : ¬ (bs x.key).toList = (bs kl).toList := fun h => by rw [h] at hcm; simp at hcm
                  clear hke
                  go_wp2_with fail
                  go_quiet (fail)
                  obtain ⟨w11, hw11⟩ : ∃ w11, w11 = wr.drewN nq := ⟨_, rfl⟩
                  have b11 := Lib.hid (show Below wr.heap.size wr w11 by rw [hw11]; exact below_drewN (Below.refl _ _) _)
                  rw [← hw11]
                  have B11 := Lib.hid (hBk.out.trans (b11.out.mono (by rw [HS9.out]; exact hBk.out.size)))
                  have O11 := Lib.hid (hOw.out.below b11.out)
                  have D11 := Lib.hid (hCw.out.below b11.out)
                  clear hw11 c0 c1 c2 kc q0 q1 q2 qf
                  obtain ⟨wc, hwc⟩ : ∃ wc, wc = w11 := ⟨_, rfl⟩
                  rw [← hwc]
                  have BC := Lib.hid (show Below s9 w9 wc by rw [hwc]; exact B11.out)
                  have OC := Lib.hid (show OwnE wc (s9 + 1) (.slice av fl cv) (fromE kl (R.take k)) by rw [hwc]; exact O11.out)
                  have CC := Lib.hid (show C3 s9 38 (.string (bs wn.key)) (.string (bs wn.val)) (.bool wn.gone) wc by rw [hwc]; exact D11.out)
                  have hfn : f0 = ((R.take (k + 1)).find? (isKey kl)).isSome := by rw [HFI.out]; exact hf0.out
                  have hwnn : wn = ((R.take (k + 1)).find? (isKey kl)).getD noE := by rw [HFI.out]; exact hwn.out
                  have HFN := Lib.hid hfn
                  have HWN := Lib.hid hwnn
                  clear hwc hfn hwnn hf0 hwn
                all_goals
                  clear hcm hcp HFI
                  have B9c := Lib.hid (show Below w6.heap.size w6 wc from B9.out.trans (BC.out.mono (by rw [HS9.out]; exact B9.out.size)))
                  obtain ⟨eb2, eo2, x2, hae, hx2, _, hcc⟩ := (E6.out.below B9c.out).at hlt3
                  injection hae with hae
                  injection hae with hae1 hae2 _
                  subst hae1 hae2
                  rw [HX.out] at hx2
                  injection hx2 with hx2
                  subst hx2
                  have kc := HKC.out wc B9c.out
                  have c0 := hcc.c0
                  have c1 := hcc.c1
                  have c2 := hcc.c2
                  clear hcc
                  by_cases hlb : ltB x.key kl = true
                  · have hfs := HFS.out
                    rw [if_pos hlb, List.append_nil] at hfs
                    rw [hlb] at hless
                    have HFS2 := Lib.hid hfs
                    clear hfs hlb
                    go_wp2_with fail
                    go_quiet (fail)
                    go_wp2_with fail
                    go_roundw
                    case rel => exact ⟨k + 1, _, _, by omega, by go_num, rfl, HFN, HWN, by rw [HFS2.out]; exact Lib.hid (OC.out.below (below_drewN (Below.refl _ _) _)), Lib.hid (CC.out.below (below_drewN (Below.refl _ _) _)), Lib.hid (below_drewN BC.out _)⟩
                    case measure => simp [intOf]; omega
                  · have hfs := HFS.out
                    rw [if_neg hlb] at hfs
                    have hlb2 : ltB x.key kl = false := Bool.eq_false_iff.2 hlb
                    rw [hlb2] at hless
                    have HFS2 := Lib.hid hfs
                    clear hfs hlb hlb2
                    go_wp2_with fail
                    go_quiet (fail)
                    obtain ⟨wd, hwd⟩ : ∃ wd, wd = wc.drewN nq := ⟨_, rfl⟩
                    have bd := Lib.hid (show Below wc.heap.size wc wd by rw [hwd]; exact below_drewN (Below.refl _ _) _)
                    rw [← hwd]
                    have BD := Lib.hid (BC.out.trans (bd.out.mono (by rw [HS9.out]; exact BC.out.size)))
                    have OD := Lib.hid (OC.out.below bd.out)
                    have CD := Lib.hid (CC.out.below bd.out)
                    have d0 : wd.cell? ⟨eb, eo + k * 3, none⟩ = some (.string (bs x.key)) := by rw [bd.out.cell (cell_block c0)]; exact c0
                    have d1 : wd.cell? ⟨eb, eo + k * 3 + 1, none⟩ = some (.string (bs x.val)) := by rw [bd.out.cell (cell_block c1)]; exact c1
                    have d2 : wd.cell? ⟨eb, eo + k * 3 + 2, none⟩ = some (.bool x.gone) := by rw [bd.out.cell (cell_block c2)]; exact c2
                    have hsz : s9 + 1 ≤ wd.heap.size := heap_lt CD.out
                    clear hwd c0 c1 c2 kc
                    obtain ⟨i0, hi0, hz0, hz1, hz2⟩ := info_parts infoE
                    go_wp2_with (at_builtin; refine wpList_append_off rfl (.tmp 166) (.tmp 171) 22 rfl (s9 + 1) 38 i0 _ 3 40 Tryd.underlying22 hi0 hz0 hz1 hz2 rfl (.slice av fl cv) fl (ecells (fromE kl (R.take k))) rfl ?c1 (.slice (some ⟨wd.heap.size, 0, none⟩) 1 1) rfl 1 x.vals ?c2 ?c3 ?c4 ?c5 ?_)
                    case c1 => have := OD.out; unfold OwnE at this; rw [← HFL.out] at this; exact OffRow.allocd this _
                    case c2 => exact src_block (size := 3) (cs := #[.string (bs x.key), .string (bs x.val), .bool x.gone]) Tryd.underlying22 (heap_new _ _) 1 1 rfl (by intro u hu; simp at hu; rcases hu with rfl | rfl | rfl <;> rfl)
                    case c3 => unfold maxLen; omega
                    case c4 => omega
                    case c5 => simp; omega
                    intro v5 w5' hr5 hg5 _
                    have OE := Lib.hid (show OwnE w5' (s9 + 1) v5 (fromE kl (R.take (k + 1))) by
                      rw [HFS2.out]
                      unfold OwnE
                      rw [ecells_snoc, List.length_append, ← HFL.out]
                      exact hr5)
                    have ha := (Below.refl wd.heap.size wd).alloc (Nat.le_refl _) (.cells #[.string (bs x.key), .string (bs x.val), .bool x.gone] 38)
                    have hown : ∀ j, (Value.slice av fl cv).ownBlock = some j → s9 + 1 ≤ j := fun j hj => (OffRow.lt OD.out j hj).1
                    have BE := Lib.hid (show Below (s9 + 1) wd w5' from ((ha.mono hsz).grown hg5 (by simp; omega) hown))
                    have BE2 := Lib.hid (BD.out.trans ((BE.out.mono (show s9 ≤ s9 + 1 by omega))))
                    have CE := Lib.hid (show C3 s9 38 _ _ _ w5' from (BE.out.block s9 (by omega)).trans CD.out)
                    clear hr5 hg5 ha hown hi0 hz0 hz1 hz2 d0 d1 d2
                    go_wp2_with fail
                    go_roundw
                    case rel => exact ⟨k + 1, _, _, by omega, by go_num, rfl, HFN, HWN, OE, CE, BE2⟩
                    case measure => simp [intOf]; omega
              · obtain rfl : k = i := by omega
                have hRt : R.take k = R := List.take_of_length_le (by rw [← HN.out]; exact Nat.le_refl _)
                obtain rfl : f0 = f := by rw [hf0.out, hRt, HF.out]
                obtain rfl : wn = y := by rw [hwn.out, hRt, HY.out]
                have hbw : Below w9.heap.size w9 wr := by rw [← HS9.out]; exact hBk.out
                have TR := Lib.hid (T9.out.below hbw)
                have CR := Lib.hid (show C3 w8.heap.size 38 (.string (bs wn.key)) (.string (bs wn.val)) (.bool wn.gone) wr from (hBk.out.block _ hs89.out).trans C9.out)
                have OR := Lib.hid (show OwnE wr (s9 + 1) (.slice av fl cv) (fromE kl R) by have := hOw.out; rwa [hRt] at this)
                have HFL2 := Lib.hid (show fl = (fromE kl R).length by have := HFL.out; rwa [hRt] at this)
                have x0 := CR.out.c0
                have x1 := CR.out.c1
                have x2 := CR.out.c2
                have z0 := hCw.out.c0
                have z1 := hCw.out.c1
                have z2 := hCw.out.c2
                have kc := HKC.out wr B9k.out
                have hsame := ent_same (bs wn.key) (bs wn.val) wn.gone
                have hff : (f0 == f0) = true := beq_self_eq_true f0
                have hRd2 := Lib.hid (table_Reads p _ (nr + (r : Int)) t wr TR.out)
                have hno : ¬ nr + (r : Int) > nr + 1 := by omega
                have hsc : scanU t 0 kl = (0, fromE kl R) := by rw [scanU_zero, HT.out.scan]
                have hlb := HT.out.len
                rw [← HT.out.bytes] at hlb
                have HAll := Lib.hid (all_tab p _ _ _ t 0 (nr + (r : Int)) kl wr TR (Lib.hid HT.out.fine) hSt (Lib.hid (Q6.out.below B9k.out)) HKp (by omega) (by omega) (by omega) (by rw [hsc]; show (fromE kl R).length < 100000; rw [← HFL2.out]; omega))
                rw [hsc] at HAll
                have HSZ := Lib.hid (show p < s9 + 1 by have := T9.out.lt; have := HS9.out; omega)
                clear hRt hbw hf0 hwn HFL HY HF hsc hlb hge3
                go_wp2_with fail
                refine hRd2.out.mono ?_
                rintro e w11 ⟨rfl, rfl⟩
                go_wp2_with fail
                refine HAll.out.mono ?_
                rintro e w12 ⟨⟨a12, c12, rfl, hE12⟩, hTS, hO12⟩
                obtain ⟨n12, g1, g2, g3⟩ := hTS.ex
                have hfb := firstB_le t kl
                have hfew := HT.out.fine.few
                unfold readLo at g1
                unfold readHi at g2
                rw [if_pos rfl] at g1 g2
                have T12 := Lib.hid g3
                have B12 := Lib.hid (show Below w6.heap.size w6 w12 from B9k.out.trans (hO12.below (fun k _ e => by have e2 : k = p := e; have := HP.out; omega) B9k.out.size))
                have E12 := Lib.hid hE12
                have O12 := Lib.hid ((OR.out.only hO12 (fun j hj => by have e2 : j = p := hj; have := HSZ.out; omega)).is HFL2.out)
                have hE13 := E12.out
                rw [← HFL2.out] at hE13 ⊢
                have E13 := Lib.hid hE13
                clear hE12 hE13 hTS hO12 g3 x0 x1 x2 z0 z1 z2 kc hsame hff
                go_wp2_with fail
                refine (ref_Same a12 av fl c12 cv (fromE kl R) w12 E13 O12 (by omega)).mono ?_
                rintro e w13 ⟨rfl, k13⟩
                have B13 := Lib.hid (B12.out.trans (k13.mono B12.out.size))
                have T13 := Lib.hid (T12.out.below k13)
                clear k13
                go_wp2_with fail
                go_roundw
                case rel => exact ⟨i2 + 1, n12, by omega, by omega, by go_num, by omega, by omega, T13, B13⟩
                case measure => simp [intOf]; omega
          · have hfin : (i2 : Int) < (klen : Int) ∧ ¬ (i2 : Int) < 50 ∨ ¬ (i2 : Int) < (klen : Int) := by omega
            rcases hfin with ⟨h1, h2⟩ | h1
            · go_wp2_with fail
              go_ret
              exact ⟨rfl, K6.out.trans (hBq.out.mono K6.out.size)⟩
            · go_wp2_with fail
              go_ret
              exact ⟨rfl, K6.out.trans (hBq.out.mono K6.out.size)⟩
theorem core (a : Option Addr) (len cap : Nat) (T : List Ent) (ea pa : Int) (ka : Option Addr) (klen kcap : Nat) (Ks : List ByteArray) (w : World) (h : InE w a len cap T) (he1 : 0 ≤ ea) (he2 : ea ≤ 255) (hp1 : 0 ≤ pa) (hp2 : pa ≤ 255)
    (hks : IsTexts w ka klen Ks ∧ klen ≤ 9223372036854775807 ∧ ∀ t ∈ Ks, t.size ≤ 140737488351232) (hg : Hid (Glob w)) :
    Calls Tryd.prog 3 #[.slice a len cap, .int .u8 ea, .int .u8 pa, .slice ka klen kcap] w fun e w' => e = .returned (.bool true) ∧ Below w.heap.size w w' :=
  core0 a len cap T ea pa ka klen kcap Ks w h he1 he2 hp1 hp2 hks.1 hks.2.1 (fun t ht => Nat.le_trans (hks.2.2 t ht) (by omega)) hg

theorem laidOut : laidOutB Tryd.prog = true := by kernel_rfl
theorem contract (H : Type) (enc : TypeId × Value → H) (W : World) (base : Nat) (args : Array Value) (ds gs : List (DataW H)) (before : List MemPlace)
    (hval : ∀ (j : Nat) t v, Tryd.f3.params[j]? = some t → args[j]? = some v → Value.okWide Tryd.prog W .any base t v)
    (hW : DataW.Whole enc Tryd.prog Tryd.f3.params.toList Rows.tableTellsSpec.vars false W args.toList ds gs before) (hL : laidMetH Tryd.prog Rows.tableTellsRow.laid W)
    (hsz : (DataW.weightsEach Tryd.prog (Tryd.f3.params.toList ++ (OpenSpec.ofChange Rows.tableTellsSpec).bare.plain.varTypes Tryd.prog) (ds ++ gs)).all (· ≤ reachBytes) = true) :
    Calls Tryd.prog 3 args W fun e W' => ∃ v, e = .returned v ∧ Rows.tableTellsSpec.post enc Tryd.prog Tryd.f3 false true false false W args v W' := by
  have hW' := hW
  obtain ⟨p, q, hA0, hV, rfl, hfz, hnd⟩ := hW
  have hA : DataW.TrodAll enc Tryd.prog W 0 (fun _ => true) true Tryd.f3.params.toList args.toList ds p := hA0
  rw [Tryd.params3] at hA hval
  obtain ⟨v0, vs0, d0, ds0, p0, q0, hargs0, rfl, rfl, h0, r0⟩ := trodAll_cons hA
  obtain ⟨v1, vs1, d1, ds1, p1, q1, rfl, rfl, rfl, h1, r1⟩ := trodAll_cons r0
  obtain ⟨v2, vs2, d2, ds2, p2, q2, rfl, rfl, rfl, h2, r2⟩ := trodAll_cons r1
  obtain ⟨v3, vs3, d3, ds3, p3, q3, rfl, rfl, rfl, h3, r3⟩ := trodAll_cons r2
  obtain ⟨rfl, rfl, rfl⟩ := trodAll_nil r3
  obtain rfl : args = #[v0, v1, v2, v3] := by cases args; simp_all
  obtain ⟨rfl, rfl⟩ := trodVars_none hV
  obtain ⟨a0, len0, cap0, rfl⟩ := okWide_slice Tryd.underlying22 (hval 0 22 v0 rfl rfl)
  obtain ⟨T0, i0⟩ := open_ents h0
  have k1s := h1
  obtain ⟨n1, rfl, ed1, ep1, wf1⟩ := open_int Tryd.underlying5 (hval 1 5 v1 rfl rfl) k1s
  obtain ⟨lo1, hi1⟩ : 0 ≤ n1 ∧ n1 ≤ 255 := by simp [Lit.wf, IntKind.min, IntKind.max, IntKind.signed, IntKind.bits] at wf1; omega
  have k2s := h2
  obtain ⟨n2, rfl, ed2, ep2, wf2⟩ := open_int Tryd.underlying5 (hval 2 5 v2 rfl rfl) k2s
  obtain ⟨lo2, hi2⟩ : 0 ≤ n2 ∧ n2 ≤ 255 := by simp [Lit.wf, IntKind.min, IntKind.max, IntKind.signed, IntKind.bits] at wf2; omega
  obtain ⟨a3, len3, cap3, rfl⟩ := okWide_slice Tryd.underlying23 (hval 3 23 v3 rfl rfl)
  obtain ⟨T3, i3⟩ := open_txs h3 (fun n hn => by have := List.all_eq_true.1 hsz _ (DataW.weights_mem_each (j := 3) rfl rfl n hn); simpa using this)
  have lt0 : ∀ x ∈ p0, x.block < W.heap.size := by obtain ⟨m, hm⟩ := h0; exact DataW.trod_lt m _ _ _ hm
  have lt1 : ∀ x ∈ p1, x.block < W.heap.size := by obtain ⟨m, hm⟩ := h1; exact DataW.trod_lt m _ _ _ hm
  have lt2 : ∀ x ∈ p2, x.block < W.heap.size := by obtain ⟨m, hm⟩ := h2; exact DataW.trod_lt m _ _ _ hm
  have lt3 : ∀ x ∈ p3, x.block < W.heap.size := by obtain ⟨m, hm⟩ := h3; exact DataW.trod_lt m _ _ _ hm
  clear hA0
  simp only [List.append_nil] at hW'
  refine (core a0 len0 cap0 T0 n1 n2 a3 len3 cap3 T3 W i0 lo1 hi1 lo2 hi2 i3 (Lib.hid (glob_of hL))).mono fun e W' ⟨he, bel⟩ => ?_
  subst he
  exact ⟨_, rfl, _, _, _, [], _, [], hW', trodAll_mk1 (shut_bool Tryd.underlying4 _), (trodAll_cons_mk (Below.trod laidOut (by kernel_rfl) (of_decide_eq_true (by kernel_rfl)) h0 bel lt0) (trodAll_cons_mk (Below.trod laidOut (by kernel_rfl) (of_decide_eq_true (by kernel_rfl)) h1 bel lt1) (trodAll_cons_mk (Below.trod laidOut (by kernel_rfl) (of_decide_eq_true (by kernel_rfl)) h2 bel lt2) (trodAll_cons_mk (Below.trod laidOut (by kernel_rfl) (of_decide_eq_true (by kernel_rfl)) h3 bel lt3) trodAll_mk0)))), rfl, bel.frame _, fun h => by cases h⟩

theorem laid_met (os : Os) : laidMet Tryd.prog Rows.tableTellsRow.laid ((laidWorld os).forCall (fun _ _ => 0) ⟨#[], #[.slice none 0 0, .int .u8 0, .int .u8 0, .slice none 0 0], []⟩).memory :=
  laidMet_of_run' 8 (by kernel_rfl) (by kernel_rfl)
theorem reads (os : Os) {H : Type} (enc : TypeId × Value → H) : ∃ places, DataW.whole enc Tryd.prog ((laidWorld os).forCall (fun _ _ => 0) ⟨#[], #[.slice none 0 0, .int .u8 0, .int .u8 0, .slice none 0 0], []⟩).memory Tryd.f3.params.toList Rows.tableTellsSpec.vars false #[Value.slice none 0 0, Value.int .u8 0, Value.int .u8 0, Value.slice none 0 0].toList 8 = some ([.nil, .lit (.int .u8 0), .lit (.int .u8 0), .nil], [], places) :=
  ⟨[], by kernel_rfl⟩

set_option maxRecDepth 100000 in
theorem lifted (os : Os) (started : os.Started) (H : Type) (enc : TypeId × Value → H) (F : Stop.Interp) :
    ReturnsInHanded {} Tryd.checked os 3 .any ((OpenSpec.ofChange Rows.tableTellsSpec).preRow enc Tryd.prog Tryd.f3 Rows.tableTellsRow.domain false Rows.tableTellsRow.laid) (((OpenSpec.ofChange Rows.tableTellsSpec).at F).post enc Tryd.prog Tryd.f3 false true false false) := by
  obtain ⟨places, hx⟩ := reads os enc
  refine returnsInHanded_of_row (C := Tryd.checked) (s := OpenSpec.ofChange Rows.tableTellsSpec) own started (by kernel_rfl) Tryd.func3
    (witness_row_at (enc := enc) (C := Tryd.checked) false (laidWorld os) #[.slice none 0 0, .int .u8 0, .int .u8 0, .slice none 0 0] rfl (by kernel_rfl) (by kernel_rfl) (by kernel_rfl)
      (OpenSpec.preRow_of_cond 8 hx (by kernel_rfl) (fun k hk => by cases hk) (by kernel_rfl) (laid_met os))) ?_
  intro W base args ds gs before hval hW _ _ hsz hL _ _
  exact contract H enc W base args ds gs before hval hW hL hsz

theorem said : Rows.TableTellsSaid :=
  OpenClaim.holds_of_cond 3 Tryd.f3 rfl rfl rfl rfl rfl rfl rfl ⟨rfl, rfl, rfl, rfl, rfl⟩ rfl rfl rfl rfl rfl (by kernel_rfl) Tryd.func3 (by kernel_rfl)
    (of_decide_eq_true (by kernel_rfl)) (by unfold Func.isWrapper; first | (rw [if_pos (by decide +kernel)]; kernel_rfl) | (rw [if_neg (by decide +kernel)]; exact ⟨rfl, rfl⟩))
    (fun os started H enc _ F => by rw [OpenClaim.pre_eq_preRow]; exact lifted os started H enc F)

/-- No parameter wants a stand-in; the program's own looks are off. -/
theorem plain (f : FuncId) (fn : Func) (hf : Tryd.pinned.checked.prog.funcNamed "silo/silolaw09.TableTells" = some f) (hfn : Tryd.pinned.checked.prog.funcs[f]? = some fn) :
    false = Tryd.pinned.checked.prog.looks [] ∧ ∀ (j : Nat) t, fn.params[j]? = some t → Tryd.pinned.checked.prog.wantsStandIn t = false := by
  obtain rfl : f = 3 := Option.some.inj ((show Tryd.prog.funcNamed "silo/silolaw09.TableTells" = some 3 by kernel_rfl).symm.trans hf) |>.symm
  obtain rfl : fn = Tryd.f3 := (Option.some.inj (Tryd.func3.symm.trans hfn)).symm
  refine ⟨by kernel_rfl, fun j t ht => ?_⟩
  rw [Tryd.params3] at ht
  have hm : t ∈ [22, 5, 5, 23] := by simpa using Array.mem_of_getElem? ht
  have hall : ([22, 5, 5, 23].all fun u => !Tryd.prog.wantsStandIn u) = true := by kernel_rfl
  exact (show Tryd.prog.wantsStandIn t = false by simpa using List.all_eq_true.1 hall t hm)

/-- ████ THE CARD ████ -/
theorem proved : Rows.TableTellsCardSaid :=
  Claim7.holds_tied_plain_at .later [] _ _ _ _ said (fun _ h => by cases h) (by kernel_rfl) (fun _ h => by cases h) tableTells_row_tie rfl ⟨rfl, rfl⟩ (by kernel_rfl) rfl plain (by kernel_rfl)
#print axioms proved
end Go.Proofs.YteejldddgogbkaaDoor.tableTells
