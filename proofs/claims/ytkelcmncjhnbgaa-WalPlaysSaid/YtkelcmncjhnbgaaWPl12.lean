/- Texts put together: WalPlaysWalk -/
import Derived.Test.YtkelcmncjhnbgaaWPl11
/- WalPlays, walked: with power that goes at any change, sure records are read again, in their order. -/
set_option linter.unusedVariables false
set_option maxRecDepth 100000
namespace Go.Proofs.Ytkelcmncjhnbgaa
open Go.RowKit

set_option maxHeartbeats 4000000 in
theorem step_back {B xb lb d K N : Nat} {p : PS} {n : Int} {t : List UInt8} {w : World} (h : Hid (Mem B w xb lb d p)) (hp : Hid (p.Ok K N)) (hK : K ≤ 200) (hN : N ≤ 80000) (hn : -9223372036854775808 ≤ n ∧ n ≤ 9223372036854775807) :
    Calls Try.prog 19 #[.pointer (some ⟨xb, 0, none⟩), .agg #[.int .i64 6, .int .i64 n, .string (bs t)]] w fun e w' => StepPost B w xb (K + 1) (N + (t.length + 15)) e w' := by
  have hb0 := op_boxed w 6 n t
  obtain ⟨w1, hw1⟩ : ∃ w1, w1 = w.alloc (.cells #[.int .i64 6, .int .i64 n, .string (bs t)] 38) := ⟨_, rfl⟩
  rw [← hw1] at hb0
  obtain ⟨bo, hbo⟩ : ∃ bo, bo = w.heap.size := ⟨_, rfl⟩
  rw [← hbo] at hb0
  have k1 : Below w.heap.size w w1 := by rw [hw1]; exact (Below.refl _ _).alloc (Nat.le_refl _) _
  have H1 := Lib.hid (show Mem B w1 xb lb d p from by
    obtain ⟨hBw, O, v1, v2, v3, hR, hL, hC3⟩ := h.out
    exact ⟨Nat.le_trans hBw k1.size, O, v1, v2, v3, hR.below k1 hBw, hL.below k1, hC3⟩)
  have K1 := Lib.hid (k1.mono h.out.1)
  have b0 : w1.cell? ⟨bo, 0, none⟩ = some (.int .i64 6) := by simp [World.cell?, hb0]
  have b1 : w1.cell? ⟨bo, 1, none⟩ = some (.int .i64 n) := by simp [World.cell?, hb0]
  clear k1 hb0
  go_enter Try.func19, Try.ntmps19
  go_upto_region 1 with (fail)
  rw [← hw1, ← hbo]
  clear hw1 hbo
  go_wp2_with fail
  refine (law_back H1 hp (by omega) hN hn).mono ?_
  rintro e w2 ⟨lb', d', p', rfl, hm, hok, hk⟩
  have HM := Lib.hid hm
  have HOK := Lib.hid hok
  have HK := Lib.hid (K1.out.trans hk)
  clear hm hok hk
  go_wp2_with fail
  go_ret
  exact ⟨lb', d', p', rfl, HM.out, HOK.out.more0 _, HK.out⟩
/-- Any step. -/
theorem law_step {B xb lb d K N : Nat} {p : PS} {o : OpM} {w : World} (h : Hid (Mem B w xb lb d p)) (hp : Hid (p.Ok K N)) (hK : K ≤ 200) (hN : N ≤ 80000) (hn : i64R o.n) (ht : o.key.length ≤ 30000) :
    Calls Try.prog 19 #[.pointer (some ⟨xb, 0, none⟩), .agg #[.int .i64 o.kind, .int .i64 o.n, .string (bs o.key)]] w fun e w' => StepPost B w xb (K + 1) (N + (o.key.length + 15)) e w' := by
  obtain ⟨k, n, t⟩ := o
  by_cases h1 : k = 1
  · subst h1; exact step_add h hp hK ht
  · by_cases h2 : k = 2
    · subst h2; exact step_write h hp hK ht
    · by_cases h3 : k = 3
      · subst h3; exact step_sync h hp hK ht
      · by_cases h4 : k = 4
        · subst h4; exact step_clear h hp hK ht
        · by_cases h5 : k = 5
          · subst h5; exact step_arm h hp hK ht hn.2
          · by_cases h6 : k = 6
            · subst h6; exact step_back h hp hK hN hn
            · exact step_none h hp hK ht ⟨h1, h2, h3, h4, h5, h6⟩
/-- The texts of a script. -/
def textsO (T : List OpM) : List (List UInt8) := T.map (·.key)
theorem textsO_snoc {T : List OpM} {i : Nat} {o : OpM} (h : T[i]? = some o) : textsO (T.take (i + 1)) = textsO (T.take i) ++ [o.key] := by
  rw [List.take_add_one, h]
  simp [textsO]
theorem textsO_len (T : List OpM) (i : Nat) (h : i ≤ T.length) : (textsO (T.take i)).length = i := by simp [textsO]; omega
theorem total_take (T : List (List UInt8)) (i : Nat) : totalT (T.take i) ≤ totalT T := by
  conv => rhs; rw [← List.take_append_drop i T, totalT_append]
  omega

set_option maxHeartbeats 8000000 in
theorem plays_walk {a : Option Addr} {len cap : Nat} {T : List OpM} {w : World} (h : Hid (InO w a len cap T)) (hlen8 : len ≤ 4398046510976) : Calls Try.prog 5 #[.slice a len cap] w fun e w' => e = .returned (.bool true) ∧ Below w.heap.size w w' := by
  have hbig := h.out.big
  have HL := Lib.hid h.out.lenT
  obtain ⟨i0, hi, hz0, hz1, hz2⟩ := info_parts infoStr
  have HI := Lib.hid (And.intro hi (And.intro hz0 (And.intro hz1 hz2)))
  clear hi hz0 hz1 hz2
  go_enter Try.func5, Try.ntmps5
  go_wp2_with fail
  go_loopw [3, 4] (fun tv iv wr => ∃ i : Nat, i ≤ len ∧ iv = .int .i64 (i : Int) ∧ Hid (Below w.heap.size w wr ∧ OwnT wr w.heap.size tv (textsO (T.take i)))) (fun tv iv wr => len - (intOf iv).toNat)
  case atStart => exact ⟨0, Nat.zero_le _, rfl, Lib.hid ⟨Below.refl _ _, OffRow.nil _ _ _ _⟩⟩
  case round =>
    obtain ⟨i, hi, rfl, hK⟩ := hrel
    obtain ⟨a1, cap1, hv⟩ := OffRow.slice hK.out.2
    rw [textsO_len T i (by rw [← HL.out]; exact hi)] at hv
    subst hv
    rcases Nat.lt_or_ge i len with hlt | hge
    · obtain ⟨b, off, o, rfl, ho, hb, d0, d1, d2⟩ := (h.out.below hK.out.1).at hlt
      have hlt2 : (i : Int) < (len : Int) := by omega
      obtain ⟨t, ht⟩ : ∃ t, t = o.key := ⟨_, rfl⟩
      rw [← ht] at d2
      have HSN := Lib.hid (show textsO (T.take (i + 1)) = textsO (T.take i) ++ [t] by rw [textsO_snoc ho, ht])
      have O1 := Lib.hid (show OffRow wr w.heap.size 9 1 (.slice a1 i cap1) i (scells (textsO (T.take i))) from by have := hK.out.2; unfold OwnT at this; rw [textsO_len T i (by rw [← HL.out]; omega)] at this; exact this)
      have K1 := Lib.hid hK.out.1
      have hti := Lib.hid (textsO_len T i (by rw [← HL.out]; omega))
      clear ho ht hK
      obtain ⟨hi, hz0, hz1, hz2⟩ := HI.out
      go_wp2_with (at_builtin; refine wpList_append_off rfl (.tmp 17) (.tmp 23) 22 rfl w.heap.size 9 i0 _ 1 16 Try.underlying22 hi hz0 hz1 hz2 rfl (.slice a1 i cap1) i (scells (textsO (T.take i))) rfl ?c1 (.slice (some ⟨wr.heap.size, 0, none⟩) 1 1) rfl 1 [.string (bs t)] ?c2 ?c3 ?c4 ?c5 ?_)
      case c1 => exact O1.out.allocd _
      case c2 => exact src_block (size := 1) (cs := #[.string (bs t)]) Try.underlying22 (heap_new _ _) 1 1 rfl (by intro u hu; simp at hu; subst hu; rfl)
      case c3 => unfold maxLen; omega
      case c4 => omega
      case c5 => have := K1.out.size; simp; omega
      intro v7 w7 hr7 hg7 hat7
      have O7 := Lib.hid (show OwnT w7 w.heap.size v7 (textsO (T.take (i + 1))) from by rw [HSN.out]; unfold OwnT; rw [List.length_append, scells_snoc, hti.out]; exact hr7)
      have K7 := Lib.hid ((K1.out.alloc K1.out.size _).grown hg7 (by have := K1.out.size; simp; omega) (fun j hj => ((O1.out.allocd (.cells #[.string (bs t)] 9)).lt j hj).1))
      clear hr7 hg7 hat7 hi hz0 hz1 hz2
      go_wp2_with fail
      go_roundw
      case rel => exact ⟨i + 1, by omega, by go_num, Lib.hid ⟨K7.out, O7.out⟩⟩
      case measure => simp [intOf]; omega
    · have hie : i = len := by omega
      subst hie
      have HE := Lib.hid (show T.take i = T by rw [HL.out]; exact List.take_length)
      have hlen := Lib.hid (textsO_len T i (by rw [← HL.out]; exact Nat.le_refl _))
      rw [HE.out] at hK hlen
      have TX := Lib.hid (OwnT.txs hK.out.2)
      have HTS := Lib.hid (show ∀ t ∈ textsO T, t.length ≤ 9223372036854775807 from fun t ht => by
        obtain ⟨o, ho, rfl⟩ := List.mem_map.1 ht
        exact (h.out.fit o ho).2.2)
      have K1 := Lib.hid hK.out.1
      have TX2 := TX.out
      clear hge hi hK
      go_wp2_with fail
      refine (law_awake wr).mono ?_
      rintro e w1 ⟨rfl, k1⟩
      have K2 := Lib.hid (K1.out.trans (k1.mono K1.out.size))
      have TX3 := Lib.hid (TX.out.below k1)
      clear k1 TX TX2 K1
      go_wp2_with fail
      refine (law_few TX3 hbig HTS).mono ?_
      rintro e w2 ⟨b, rfl, hb, rfl⟩
      have HB := Lib.hid hb
      clear hb
      cases b with
      | false =>
        go_wp2_with fail
        refine (law_awake w1).mono ?_
        rintro e w3 ⟨rfl, k3⟩
        go_wp2
        go_ret
        exact ⟨rfl, K2.out.trans (k3.mono K2.out.size)⟩
      | true =>
        have HF := Lib.hid (HB.out rfl)
        have hi2 : i ≤ 200 := by have := HF.out.len; rw [hlen.out] at this; exact this
        clear HB TX3
        go_wp2_with fail
        refine (show Calls Try.prog 17 #[.int .i64 20000, .int .i64 0] w1 _ from at_New 20000 0 w1 (by omega) (by omega)).mono ?_
        rintro e w2 ⟨d, rfl, d2, k2⟩
        have D2 := Lib.hid (show Disk (fun k => w.heap.size ≤ k) w2 d (DS.new 20000 0) from d2.1.mono fun k _ hk => Nat.le_trans K2.out.size hk)
        have K3 := Lib.hid (K2.out.trans (k2.mono K2.out.size))
        clear d2 k2
        go_wp2_with fail
        refine (wal_Begin D2 one_wf (by simp [DS.new]) (Lib.hid (new_make (by omega)))).mono ?_
        rintro e w3 (⟨hz, _⟩ | ⟨_, lb, hlb, rfl, l3, o3⟩)
        · exact absurd rfl hz
        · have K4 := Lib.hid (K3.out.trans (o3.below (B := w.heap.size) (fun k _ hk => hk) K3.out.size))
          have L4 := Lib.hid ((l3.low K3.out.size).tight)
          have hnew := heap_new w3 (.cells #[.pointer (some ⟨d, 0, none⟩), .pointer (some ⟨lb, 0, none⟩), .int .i64 1, .slice none 0 0, .slice none 0 0, .slice none 0 0, .int .i64 0] 49)
          have kk := (Below.refl w3.heap.size w3).alloc (Nat.le_refl _) (.cells #[.pointer (some ⟨d, 0, none⟩), .pointer (some ⟨lb, 0, none⟩), .int .i64 1, .slice none 0 0, .slice none 0 0, .slice none 0 0, .int .i64 0] 49)
          have HM := Lib.hid (show Mem w.heap.size (w3.alloc (.cells #[.pointer (some ⟨d, 0, none⟩), .pointer (some ⟨lb, 0, none⟩), .int .i64 1, .slice none 0 0, .slice none 0 0, .slice none 0 0, .int .i64 0] 49)) w3.heap.size lb d ⟨file1 20000 [] 1, 1, [], [], [], 0⟩ from
            ⟨Nat.le_trans K4.out.size kk.size, _, _, _, _, ⟨fun j hj => ⟨hj.1, Nat.lt_of_lt_of_le hj.2 kk.size⟩, hnew, K4.out.size, fun x => Nat.lt_irrefl _ x.2, OffRow.nil _ _ _ _, (fun g hg => by simp [Value.ownBlock] at hg), OffRow.nil _ _ _ _, (fun g hg => by simp [Value.ownBlock] at hg), OffRow.nil _ _ _ _, (fun g hg => by simp [Value.ownBlock] at hg), (fun g hg => by simp [Value.ownBlock] at hg), (fun g hg => by simp [Value.ownBlock] at hg)⟩, L4.out.below kk, fun _ => rfl⟩)
          have K5 := Lib.hid (K4.out.trans (kk.mono K4.out.size))
          obtain ⟨w4, hw4⟩ : ∃ w4, w4 = w3.alloc (.cells #[.pointer (some ⟨d, 0, none⟩), .pointer (some ⟨lb, 0, none⟩), .int .i64 1, .slice none 0 0, .slice none 0 0, .slice none 0 0, .int .i64 0] 49) := ⟨_, rfl⟩
          obtain ⟨xb, hxb⟩ : ∃ xb, xb = w3.heap.size := ⟨_, rfl⟩
          rw [← hw4, ← hxb] at HM
          rw [← hw4] at K5
          clear hnew kk l3 o3 hlb D2 K2 K3 L4 K4
          go_upto_region 11 with (fail)
          rw [← hw4, ← hxb]
          clear hw4 hxb
          go_wp2_with fail
          go_loopw [10] (fun jv wx => ∃ (j lb' d' : Nat) (p : PS), j ≤ i ∧ jv = .int .i64 (j : Int) ∧ Hid (Mem w.heap.size wx xb lb' d' p ∧ p.Ok j (totalT ((textsO T).take j) + 15 * j) ∧ Below w.heap.size w wx)) (fun jv wx => i - (intOf jv).toNat)
          case atStart => exact ⟨0, lb, d, _, Nat.zero_le _, rfl, Lib.hid ⟨HM.out, ok_start, K5.out⟩⟩
          case round =>
            clear HM K5
            obtain ⟨j, lb', d', p, hj, rfl, hR⟩ := hrel
            have htot := total_take (textsO T) j
            have hall := HF.out.all
            rcases Nat.lt_or_ge j i with hjl | hjg
            · obtain ⟨b, off, o, rfl, ho, hb, d0, d1, d2⟩ := (h.out.below hR.out.2.2).at hjl
              have hlt2 : (j : Int) < (i : Int) := by omega
              have hmem : o.key ∈ textsO T := List.mem_map.2 ⟨o, List.mem_of_getElem? ho, rfl⟩
              have hkey : o.key.length ≤ 30000 := HF.out.mem hmem
              have hfit := (h.out.fit o (List.mem_of_getElem? ho)).2.1
              have HTT := Lib.hid (show totalT ((textsO T).take (j + 1)) = totalT ((textsO T).take j) + o.key.length from total_snoc (by unfold textsO; rw [List.getElem?_map, ho]; rfl))
              have ST := Lib.hid (law_step (o := o) (Lib.hid hR.out.1) (Lib.hid hR.out.2.1) (by omega) (by omega) hfit hkey)
              have KR := Lib.hid hR.out.2.2
              obtain ⟨ok, on, ot⟩ := o
              simp only at d0 d1 d2 ST HTT
              clear hR ho hmem hkey hfit htot hall
              go_wp2_with fail
              refine ST.out.mono ?_
              rintro e w6 ⟨lb6, d6, p6, rfl, m6, ok6, k6⟩
              have M6 := Lib.hid m6
              have OK6 := Lib.hid (show p6.Ok (j + 1) (totalT ((textsO T).take (j + 1)) + 15 * (j + 1)) from by
                rw [HTT.out]
                have e : totalT ((textsO T).take j) + 15 * j + (ot.length + 15) = totalT ((textsO T).take j) + ot.length + 15 * (j + 1) := by omega
                rw [← e]
                exact ok6)
              have K6 := Lib.hid (KR.out.trans k6)
              clear m6 ok6 k6 ST KR d0 d1 d2
              go_wp2_with fail
              go_roundw
              case rel => exact ⟨j + 1, lb6, d6, p6, by omega, by go_num, Lib.hid ⟨M6.out, OK6.out, K6.out⟩⟩
              case measure => simp [intOf]; omega
            · obtain rfl : j = i := by omega
              have ST := Lib.hid (law_back (n := 0) (Lib.hid hR.out.1) (Lib.hid hR.out.2.1) (by omega) (by omega) (by omega))
              have KR := Lib.hid hR.out.2.2
              clear hR
              go_wp2_with fail
              refine ST.out.mono ?_
              rintro e w6 ⟨lb6, d6, p6, rfl, m6, ok6, k6⟩
              have K6 := Lib.hid (KR.out.trans k6)
              clear m6 ok6 k6 ST KR
              go_wp2_with fail
              go_ret
              exact ⟨rfl, K6.out⟩
end Go.Proofs.Ytkelcmncjhnbgaa
