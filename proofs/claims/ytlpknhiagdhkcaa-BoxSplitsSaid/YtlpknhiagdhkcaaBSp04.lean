/- Texts put together: BoxOpen, BoxPack, SixRefWrites, CrcRefSum, CrcRefPuts, BoxRefKey -/
import Derived.Test.YtlpknhiagdhkcaaBSp03
import Derived.Test.YtlpknhiagdhkcaaBSp02
import Derived.Laws.IdiomStrings
import Derived.Test.YtlpknhiagdhkcaaBSp00
import Derived.RegionTactic
/- The program opens a record. -/
set_option linter.unusedVariables false
set_option maxRecDepth 100000
namespace Go.Proofs.Ytlpknhiagdhkcaa
open Go.RowKit

theorem takeT_len (l : List UInt8) : (takeT l).length ≤ l.length := by
  unfold takeT; split
  · rw [List.length_take]; omega
  · simp
/-- A record laid in a block of its own. -/
def laidR (t : Nat) (W : World) (q : RecB) : World := (W.alloc (.cells (recA RecB.zero) t)).setCells W.heap.size 0 (recA q).toList
theorem laidR_there (t : Nat) (W : World) {q : RecB} (hq : q.Ok) : (W.alloc (.cells (recA RecB.zero) t)).there W.heap.size 0 (recA q).size :=
  (RecIn.new W t RecB.zero).there RecB.zero_ok 0 _ (by rw [recA_size hq]; omega)
theorem laidR_in (t : Nat) (W : World) {q : RecB} (hq : q.Ok) : RecIn W.heap.size t q (laidR t W q) := (RecIn.new W t RecB.zero).setAll RecB.zero_ok hq
theorem laidR_below (t : Nat) (W : World) (q : RecB) : Below W.heap.size W (laidR t W q) :=
  below_setCells (Nat.le_refl _) _ 0 ((Below.refl _ W).alloc (Nat.le_refl _) _)
theorem set_rec {B t : Nat} {x q : RecB} {w W : World} (h : RecIn B t x W) (hx : x.Ok) (hq : q.Ok) (k : Below w.heap.size w W) (hB : w.heap.size ≤ B) : RecIn B t q (W.setCells B 0 (recA q).toList) ∧ Below w.heap.size w (W.setCells B 0 (recA q).toList) :=
  ⟨h.setAll hx hq, below_setCells hB _ 0 k⟩
theorem openE_take {s : List UInt8} {l : List UInt8} (h : l = takeT s) (h0 : takeE s = 0) : openE s = if rdE l ≠ 0 then rdE l else if rdK l < l.length then 5 else 0 := by
  unfold openE; rw [if_neg (by omega), ← h]
theorem openR_no {s : List UInt8} (h : openE s ≠ 0) : openR s = RecB.zero := by unfold openR; rw [if_neg h]
theorem openR_yes {s l : List UInt8} (hl : l = takeT s) (h : openE s = 0) : openR s = rdR l := by unfold openR; rw [if_pos h, hl]
set_option maxHeartbeats 8000000 in
theorem box_Open (s : ByteArray) (w : World) (hs : s.size ≤ 140737488355328) :
    Calls Try.prog 14 #[.string s] w fun e w' => e = .returned (.tuple #[.agg (recA (openR s.data.toList)), .int .i64 (openE s.data.toList)]) ∧ Below w.heap.size w w' := by
  obtain ⟨B, hB⟩ : ∃ B, B = w.heap.size := ⟨_, rfl⟩
  obtain ⟨w1, hw1⟩ : ∃ w1, w1 = w.alloc (.cells (recA RecB.zero) 30) := ⟨_, rfl⟩
  have K1 := Lib.hid (show Below w.heap.size w w1 by rw [hw1]; exact (Below.refl _ w).alloc (Nat.le_refl _) _)
  have N1 := Lib.hid (show RecIn B 30 RecB.zero w1 by rw [hw1, hB]; exact RecIn.new w _ _)
  have HB := Lib.hid hB
  have HW := Lib.hid hw1
  have HZ := Lib.hid zeroA_eq
  clear hB hw1
  go_enter Try.func14, Try.ntmps14
  go_wp2_with fail
  rw [← HZ.out, ← HB.out, ← HW.out]
  refine (crc_Take s w1 hs).mono ?_
  rintro e w2 ⟨rfl, k2⟩
  have N2 := Lib.hid (N1.out.below k2 N1.out.lt)
  have K2 := Lib.hid (K1.out.trans (k2.mono K1.out.size))
  clear k2
  obtain ⟨e1, he1⟩ : ∃ e1, e1 = takeE s.data.toList := ⟨_, rfl⟩
  obtain ⟨l1, hl1⟩ : ∃ l1, l1 = takeT s.data.toList := ⟨_, rfl⟩
  rw [← he1, ← hl1]
  have HSZ := Lib.hid (show (bs l1).size ≤ maxLen by rw [bs_size, hl1]; have := takeT_len s.data.toList; have h2 : s.data.toList.length = s.size := by rw [← Lib.size_eq]
                                                     unfold maxLen; omega)
  have HE1 := Lib.hid he1
  have HBW := Lib.hid (show w.heap.size ≤ B by rw [HB.out]; exact Nat.le_refl _)
  have HL1 := Lib.hid hl1
  clear he1 hl1
  have T2 := Lib.hid (N2.out.there RecB.zero_ok 0 (recA RecB.zero).size (by rw [recA_size RecB.zero_ok]; omega))
  have I2 := Lib.hid (info_recA RecB.zero_ok)
  by_cases h1 : e1 = 0
  · have b1 : (e1 != 0) = false := by simp [h1]
    have Z1 := Lib.hid h1
    clear h1
    go_wp2_with fail
    refine (six_Over (bs l1) w2).mono ?_
    rintro e w3 ⟨rfl, hw3⟩
    have H3 := Lib.hid (show Rt w2.heap.size (bs l1) w3 by rw [← hw3]; exact Rt.new _ w2)
    have K3 := Lib.hid (show Below w.heap.size w w3 by rw [← hw3]; exact K2.out.alloc K2.out.size _)
    have N3 := Lib.hid (show RecIn B 30 RecB.zero w3 by rw [← hw3]; exact N2.out.below ((Below.refl _ w2).alloc (Nat.le_refl _) _) N2.out.lt)
    have HR := Lib.hid (show B ≠ w2.heap.size by have := N2.out.lt; omega)
    have HR2 := Lib.hid (show w.heap.size ≤ w2.heap.size from K2.out.size)
    clear hw3
    generalize w2.heap.size = r at *
    go_wp2_with fail
    refine (box_take r (bs l1) w3 H3.out HSZ.out).mono ?_
    rintro e w4 ⟨q, hq, rfl, hq0, ⟨t, ht⟩, k4⟩
    rw [bs_list] at hq0 ⊢
    have HQ := Lib.hid hq
    have HQ0 := Lib.hid hq0
    have HT := Lib.hid ht
    have N4 := Lib.hid (N3.out.kept k4 HR.out)
    have K4 := Lib.hid (K3.out.trans (k4.below (B := w.heap.size) (fun k hk e => by subst e; exact HR2.out) K3.out.size))
    clear hq hq0 ht k4
    obtain ⟨e2, he2⟩ : ∃ e2, e2 = rdE l1 := ⟨_, rfl⟩
    rw [← he2] at HQ0 ⊢
    obtain ⟨C, hC⟩ : ∃ C, C = w4.heap.size := ⟨_, rfl⟩
    obtain ⟨w5, hw5⟩ : ∃ w5, w5 = laidR 30 w4 q := ⟨_, rfl⟩
    have N5 := Lib.hid (show RecIn B 30 RecB.zero w5 by rw [hw5]; exact N4.out.below (laidR_below _ _ _) N4.out.lt)
    have M5 := Lib.hid (show RecIn C 30 q w5 by rw [hw5, hC]; exact laidR_in _ _ HQ.out)
    have K5 := Lib.hid (show Below w.heap.size w w5 by rw [hw5]; exact K4.out.trans ((laidR_below _ _ _).mono K4.out.size))
    have T4 := Lib.hid (laidR_there 30 w4 HQ.out)
    have I4 := Lib.hid (info_recA HQ.out)
    have HC := Lib.hid hC
    have HW5 := Lib.hid (hw5.symm)
    have HE2 := Lib.hid he2
    clear hC hw5 he2
    rw [HZ.out] at T4
    unfold laidR at HW5
    rw [HZ.out] at HW5
    by_cases h2 : e2 = 0
    · have b2 : (e2 == 0) = true := by simp [h2]
      obtain ⟨q1, q2⟩ := HQ0.out h2
      have Q1 := Lib.hid q1
      have H4 := Lib.hid q2
      have Z2 := Lib.hid h2
      have H5 := Lib.hid (show Rt r ((bs l1).extract (rdK l1) (bs l1).size) w5 by rw [← HW5.out, ← HZ.out]; exact H4.out.below (laidR_below _ _ _) H4.out.lt)
      clear q1 q2 h2
      go_wp2_with (first | (with_reducible refine wpList_store_mid rfl 30 (.tmp 7) (.tmp 22) rfl w4.heap.size 0 (recA q) rfl rfl T4.out I4.out (recA_one _) ?_; rw [HW5.out, ← HC.out]) | fail)
      refine (six_End r _ w5 H5.out).mono ?_
      rintro e w6 ⟨rfl, rfl⟩
      have HEE := Lib.hid (show endE ((bs l1).extract (rdK l1) (bs l1).size).data.toList = if rdK l1 < l1.length then 5 else 0 by
        rw [ext_list, bs_list]; unfold endE
        by_cases hk : rdK l1 < l1.length
        · rw [if_pos hk, if_neg (fun x => by have := congrArg List.length x; rw [List.length_drop] at this; simp at this; omega)]
        · rw [if_neg hk, if_pos (List.drop_of_length_le (by omega))])
      obtain ⟨e3, he3⟩ : ∃ e3, e3 = endE ((bs l1).extract (rdK l1) (bs l1).size).data.toList := ⟨_, rfl⟩
      rw [← he3] at HEE ⊢
      clear he3
      by_cases h3 : e3 = 0
      · have b3 : (e3 != 0) = false := by simp [h3]
        have Z3 := Lib.hid h3
        obtain ⟨y1, y2⟩ := set_rec (w := w) N5.out RecB.zero_ok HQ.out K5.out HBW.out
        have T8 := Lib.hid (N5.out.there RecB.zero_ok 0 (recA q).size (by rw [recA_size HQ.out]; omega))
        have HRG := Lib.hid M5.out.range
        have Y1 := Lib.hid y1
        have Y2 := Lib.hid y2
        have IL := Lib.hid (show (Try.prog.info? 30).map (·.size) = some (recA q).toList.length by simpa using I4.out)
        clear y1 y2 h3
        go_wp2_with (first | (refine wpList_load_mid rfl 30 (.tmp 7) rfl C 0 rfl (recA q).toList _ HRG.out Try.underlying30 rfl IL.out ?_; rw [Array.toArray_toList]) | (refine wpList_store_mid rfl 30 (.tmp 2) (.tmp 32) rfl B 0 (recA q) rfl rfl T8.out I4.out (recA_one _) ?_) | fail)
        have hOE : openE s.data.toList = 0 := by rw [openE_take HL1.out (by rw [← HE1.out, Z1.out]), if_neg (by rw [← HE2.out, Z2.out]; simp), ← HEE.out, Z3.out]
        refine bodyPost_ret (v := .tuple #[.agg (recA q), .int .i64 0]) (results_cell_tmp rfl _ _ _ B 0 (recC q) _ (.int .i64 0) rfl rfl Y1.out.range Try.underlying30 rfl (info_recL HQ.out)) rfl ⟨?_, Y2.out⟩
        rw [hOE, openR_yes HL1.out hOE, Q1.out]
      · have b3 : (e3 != 0) = true := by simp [h3]
        have Z3 := Lib.hid h3
        clear h3
        obtain ⟨y1, y2⟩ := set_rec (w := w) (q := RecB.zero) N5.out RecB.zero_ok RecB.zero_ok K5.out HBW.out
        have T8 := Lib.hid (N5.out.there RecB.zero_ok 0 (recA RecB.zero).size (by rw [recA_size RecB.zero_ok]; omega))
        have Y1 := Lib.hid y1
        have Y2 := Lib.hid y2
        clear y1 y2
        go_wp2_with (first | (refine wpList_store_mid rfl 30 (.tmp 2) (.tmp 30) rfl B 0 (recA RecB.zero) rfl rfl T8.out I2.out (recA_one _) ?_) | fail)
        have hOE : openE s.data.toList = e3 := by rw [openE_take HL1.out (by rw [← HE1.out, Z1.out]), if_neg (by rw [← HE2.out, Z2.out]; simp), ← HEE.out]
        refine bodyPost_ret (v := .tuple #[.agg (recA RecB.zero), .int .i64 e3]) (results_cell_tmp rfl _ _ _ B 0 (recC RecB.zero) _ (.int .i64 e3) rfl rfl Y1.out.range Try.underlying30 rfl (info_recL RecB.zero_ok)) rfl ⟨?_, Y2.out⟩
        rw [hOE, openR_no (by rw [hOE]; first | exact Z3.out | exact Z1.out | decide)]
    · have b2 : (e2 == 0) = false := by simp [h2]
      have b2' : (e2 != 0) = true := by simp [h2]
      have Z2 := Lib.hid h2
      clear h2
      obtain ⟨y1, y2⟩ := set_rec (w := w) (q := RecB.zero) N5.out RecB.zero_ok RecB.zero_ok K5.out HBW.out
      have T8 := Lib.hid (N5.out.there RecB.zero_ok 0 (recA RecB.zero).size (by rw [recA_size RecB.zero_ok]; omega))
      have Y1 := Lib.hid y1
      have Y2 := Lib.hid y2
      clear y1 y2
      go_wp2_with (first | (with_reducible refine wpList_store_mid rfl 30 (.tmp 7) (.tmp 22) rfl w4.heap.size 0 (recA q) rfl rfl T4.out I4.out (recA_one _) ?_; rw [HW5.out, ← HC.out]) | (refine wpList_store_mid rfl 30 (.tmp 2) (.tmp 30) rfl B 0 (recA RecB.zero) rfl rfl T8.out I2.out (recA_one _) ?_) | fail)
      have hOE : openE s.data.toList = e2 := by rw [openE_take HL1.out (by rw [← HE1.out, Z1.out]), if_pos (by rw [← HE2.out]; exact Z2.out), ← HE2.out]
      refine bodyPost_ret (v := .tuple #[.agg (recA RecB.zero), .int .i64 e2]) (results_cell_tmp rfl _ _ _ B 0 (recC RecB.zero) _ (.int .i64 e2) rfl rfl Y1.out.range Try.underlying30 rfl (info_recL RecB.zero_ok)) rfl ⟨?_, Y2.out⟩
      rw [hOE, openR_no (by rw [hOE]; first | exact Z2.out | exact Z1.out | decide)]
  · have b1 : (e1 != 0) = true := by simp [h1]
    have Z1 := Lib.hid h1
    clear h1
    obtain ⟨y1, y2⟩ := set_rec (w := w) (q := RecB.zero) N2.out RecB.zero_ok RecB.zero_ok K2.out HBW.out
    have T8 := Lib.hid (N2.out.there RecB.zero_ok 0 (recA RecB.zero).size (by rw [recA_size RecB.zero_ok]; omega))
    have Y1 := Lib.hid y1
    have Y2 := Lib.hid y2
    clear y1 y2
    go_wp2_with (first | (refine wpList_store_mid rfl 30 (.tmp 2) (.tmp 15) rfl B 0 (recA RecB.zero) rfl rfl T8.out I2.out (recA_one _) ?_) | fail)
    have hOE : openE s.data.toList = e1 := by unfold openE; rw [if_pos (by rw [← HE1.out]; exact Z1.out), HE1.out]
    refine bodyPost_ret (v := .tuple #[.agg (recA RecB.zero), .int .i64 e1]) (results_cell_tmp rfl _ _ _ B 0 (recC RecB.zero) _ (.int .i64 e1) rfl rfl Y1.out.range Try.underlying30 rfl (info_recL RecB.zero_ok)) rfl ⟨?_, Y2.out⟩
    rw [hOE, openR_no (by rw [hOE]; first | exact Z1.out | decide)]
end Go.Proofs.Ytlpknhiagdhkcaa
/- The program packs a record. -/
set_option linter.unusedVariables false
set_option maxRecDepth 100000
namespace Go.Proofs.Ytlpknhiagdhkcaa
open Go.RowKit

theorem RecIn.strKey {b t : Nat} {r : RecB} {w : World} (h : RecIn b t r w) (hr : r.Ok) : (convert 76 9 (.slice (some ⟨b, 0, none⟩) 32 32)).run Try.prog w = .ok (.string (bs r.key)) w := by
  have := run_convert_bytes_back (P := Try.prog) w 76 9 5 ⟨b, 0, none⟩ 32 r.key Try.underlying76 Try.underlying5 Try.underlying9 (fun j hj => by
    rw [addr_add]
    have e : (kcs r.key)[j]? = some (.int .u8 (r.key[j].toNat : Int)) := by simp [kcs, hj]
    exact h.rkey hr j _ e)
  rw [hr.key] at this
  exact this
theorem RecIn.strBase {b t : Nat} {r : RecB} {w : World} (h : RecIn b t r w) (hr : r.Ok) : (convert 76 9 (.slice (some ⟨b, 32, none⟩) 32 32)).run Try.prog w = .ok (.string (bs r.base)) w := by
  have := run_convert_bytes_back (P := Try.prog) w 76 9 5 ⟨b, 32, none⟩ 32 r.base Try.underlying76 Try.underlying5 Try.underlying9 (fun j hj => by
    rw [addr_add]
    have e : (kcs r.base)[j]? = some (.int .u8 (r.base[j].toNat : Int)) := by simp [kcs, hj]
    exact h.rbase hr j _ e)
  rw [hr.base] at this
  exact this

theorem partsR_le {r : RecB} (h : r.Ok) (hb : r.body.length ≤ 9223372036854775807) : (partsR r).length ≤ r.body.length + 76 := by
  have := text_le hb
  unfold partsR midR
  rw [List.length_append, List.length_append, h.key]
  split
  · rw [List.length_append, h.base, whole1]; simp; omega
  · rw [whole0]; simp; omega
theorem zero32_lit : (kcs zero32).toArray = #[.int .u8 0, .int .u8 0, .int .u8 0, .int .u8 0, .int .u8 0, .int .u8 0, .int .u8 0, .int .u8 0, .int .u8 0, .int .u8 0, .int .u8 0, .int .u8 0, .int .u8 0, .int .u8 0, .int .u8 0, .int .u8 0, .int .u8 0, .int .u8 0, .int .u8 0, .int .u8 0, .int .u8 0, .int .u8 0, .int .u8 0, .int .u8 0, .int .u8 0, .int .u8 0, .int .u8 0, .int .u8 0, .int .u8 0, .int .u8 0, .int .u8 0, .int .u8 0] := by kernel_rfl
set_option maxHeartbeats 8000000 in
theorem box_Pack (r : RecB) (w : World) (hr : r.Ok) (hb : r.body.length ≤ 1000000000000) :
    Calls Try.prog 10 #[.agg (recA r)] w fun e w' => e = .returned (.tuple #[.string (bs (packT r)), .int .i64 (packE r)]) ∧ Below w.heap.size w w' := by
  obtain ⟨B, hB⟩ : ∃ B, B = w.heap.size := ⟨_, rfl⟩
  obtain ⟨w1, hw1⟩ : ∃ w1, w1 = w.alloc (.cells (recA r) 30) := ⟨_, rfl⟩
  have K1 := Lib.hid (show Below w.heap.size w w1 by rw [hw1]; exact (Below.refl _ w).alloc (Nat.le_refl _) _)
  have N1 := Lib.hid (show RecIn B 30 r w1 by rw [hw1, hB]; exact RecIn.new w _ _)
  have c65 := N1.out.body hr
  have c64 := N1.out.patch hr
  have HB := Lib.hid hB
  have HW := Lib.hid hw1
  have hsz : (bs r.body).size = r.body.length := bs_size _
  have HHR := Lib.hid hr
  clear hB hw1 hr
  by_cases h1 : 8192 < r.body.length
  · have hE := Lib.hid (show packE r = 6 by unfold packE; rw [if_pos h1])
    have h1' : (8192 : Int) < ((bs r.body).size : Int) := by rw [hsz]; omega
    clear h1 hsz
    go_enter Try.func10, Try.ntmps10
    go_upto_region 1 with (fail)
    rw [← HB.out, ← HW.out]
    go_wp2
    go_ret2
    exact ⟨by rw [hE.out, packT_no (by rw [hE.out]; decide)]; rfl, K1.out⟩
  · have h1' : ¬ (8192 : Int) < ((bs r.body).size : Int) := by rw [hsz]; omega
    have H1 := Lib.hid h1
    clear h1 hsz
    have hlk : w1.rangeAt B 32 (kcs r.base).toArray.toList := N1.out.rbase HHR.out
    have HLK := Lib.hid hlk
    have IK := Lib.hid (show (Try.prog.info? 23).map (·.size) = some (kcs r.base).toArray.toList.length from info_keyL HHR.out.base)
    have hnq := fun W => neq_keys r.base zero32 HHR.out.base zero32_len W
    rw [zero32_lit] at hnq
    obtain ⟨p, hp⟩ : ∃ p, p = r.patch := ⟨_, rfl⟩
    rw [← hp] at c64
    have HP := Lib.hid hp
    clear hp hlk
    cases p
    · by_cases h2 : r.base = zero32
      · have hnb : (!(r.base == zero32)) = false := by simp [h2]
        rw [hnb] at hnq
        have H2 := Lib.hid h2
        clear h2
        go_enter Try.func10, Try.ntmps10
        go_upto_region 1 with (fail)
        rw [← HB.out, ← HW.out]
        go_wp2_with (first | (refine wpList_load_arr rfl 23 (.tmp 13) rfl B 32 rfl (kcs r.base).toArray _ HLK.out Try.underlying23 rfl IK.out ?_) | fail)
        clear hnq hnb
        refine (six_New w1).mono ?_
        rintro e w2 ⟨rfl, hw2⟩
        have HT := Lib.hid (show Wt w1.heap.size w1.heap.size [] w2 by rw [← hw2]; exact wt_new w1)
        have KK := Lib.hid (show Below w1.heap.size w1 w2 by rw [← hw2]; exact (Below.refl _ w1).alloc (Nat.le_refl _) _)
        have HRB := Lib.hid (show B < w1.heap.size from N1.out.lt)
        have HRW := Lib.hid (show w.heap.size ≤ w1.heap.size from K1.out.size)
        clear hw2
        generalize w1.heap.size = R at *
        have N2 := Lib.hid (N1.out.below KK.out HRB.out)
        have hs2 := slice_key B 0 w2
        have hc2 := N2.out.strKey HHR.out
        go_wp2_with fail
        refine (six_Raw R R [] (bs r.key) w2 HT.out (by rw [bs_size, HHR.out.key]; decide)).mono ?_
        rintro e w3 ⟨rfl, t3, k3⟩
        rw [List.nil_append, bs_list] at t3
        have HT3 := Lib.hid t3
        have K3 := Lib.hid (KK.out.trans k3)
        have N3 := Lib.hid (N1.out.below K3.out HRB.out)
        have c3 := N3.out.patch HHR.out
        rw [← HP.out] at c3
        clear t3 k3 hs2 hc2
        go_wp2_with fail
        refine (six_CountI R R r.key 0 w3 HT3.out (by omega) (by omega) (by rw [HHR.out.key]; decide)).mono ?_
        rintro e w5 ⟨rfl, t5, k5⟩
        have HM := Lib.hid (show r.key ++ whole 0 = r.key ++ midR r by unfold midR; rw [if_neg (by rw [← HP.out]; decide)])
        have HML := Lib.hid (show (r.key ++ midR r).length = 33 by rw [← HM.out]; simp [HHR.out.key, whole0])
        rw [HM.out] at t5
        have HT5 := Lib.hid t5
        have K5 := Lib.hid (K3.out.trans k5)
        clear t5 k5
        have N5 := Lib.hid (N1.out.below K5.out HRB.out)
        have c5 := N5.out.body HHR.out
        go_wp2_with fail
        refine (six_Text R R (r.key ++ midR r) (bs r.body) w5 HT5.out (by rw [HML.out, bs_size]; omega)).mono ?_
        rintro e w6 ⟨rfl, t6, k6⟩
        rw [bs_list] at t6
        have HT6 := Lib.hid t6
        have K6 := Lib.hid (K5.out.trans k6)
        clear t6 k6
        go_wp2_with fail
        refine (six_Bytes R R _ w6 HT6.out).mono ?_
        rintro e w7 ⟨rfl, -, k7, -⟩
        have K7 := Lib.hid (K6.out.trans k7)
        clear k7
        have HPT := Lib.hid (show (r.key ++ midR r) ++ text r.body = partsR r by unfold partsR; rw [List.append_assoc])
        rw [HPT.out]
        go_wp2_with fail
        refine (crc_Put (bs (partsR r)) w7 (by rw [bs_size]; exact Nat.le_trans (partsR_le HHR.out (by omega)) (by omega))).mono ?_
        rintro e w8 ⟨rfl, k8⟩
        have K8 := Lib.hid (K1.out.trans ((K7.out.mono HRW.out).trans (k8.mono (Nat.le_trans K1.out.size K7.out.size))) )
        clear k8
        rw [bs_list]
        go_wp2
        go_ret2
        have hE : packE r = 0 := packE_of (by have := H1.out; omega) (fun _ => H2.out)
        exact ⟨by rw [hE, packT_ok hE]; rfl, K8.out⟩
      · have hnb : (!(r.base == zero32)) = true := by simp [h2]
        rw [hnb] at hnq
        have hE := Lib.hid (show packE r = 1 by unfold packE; rw [if_neg H1.out, if_pos ⟨HP.out.symm, h2⟩])
        clear h2
        go_enter Try.func10, Try.ntmps10
        go_upto_region 1 with (fail)
        rw [← HB.out, ← HW.out]
        go_wp2_with (first | (refine wpList_load_arr rfl 23 (.tmp 13) rfl B 32 rfl (kcs r.base).toArray _ HLK.out Try.underlying23 rfl IK.out ?_) | fail)
        go_ret2
        exact ⟨by rw [hE.out, packT_no (by rw [hE.out]; decide)]; rfl, K1.out⟩
    · go_enter Try.func10, Try.ntmps10
      go_upto_region 1 with (fail)
      rw [← HB.out, ← HW.out]
      go_wp2_with fail
      clear hnq
      refine (six_New w1).mono ?_
      rintro e w2 ⟨rfl, hw2⟩
      have HT := Lib.hid (show Wt w1.heap.size w1.heap.size [] w2 by rw [← hw2]; exact wt_new w1)
      have KK := Lib.hid (show Below w1.heap.size w1 w2 by rw [← hw2]; exact (Below.refl _ w1).alloc (Nat.le_refl _) _)
      have HRB := Lib.hid (show B < w1.heap.size from N1.out.lt)
      have HRW := Lib.hid (show w.heap.size ≤ w1.heap.size from K1.out.size)
      clear hw2
      generalize w1.heap.size = R at *
      have N2 := Lib.hid (N1.out.below KK.out HRB.out)
      have hs2 := slice_key B 0 w2
      have hc2 := N2.out.strKey HHR.out
      go_wp2_with fail
      refine (six_Raw R R [] (bs r.key) w2 HT.out (by rw [bs_size, HHR.out.key]; decide)).mono ?_
      rintro e w3 ⟨rfl, t3, k3⟩
      rw [List.nil_append, bs_list] at t3
      have HT3 := Lib.hid t3
      have K3 := Lib.hid (KK.out.trans k3)
      have N3 := Lib.hid (N1.out.below K3.out HRB.out)
      have c3 := N3.out.patch HHR.out
      rw [← HP.out] at c3
      clear t3 k3 hs2 hc2
      go_wp2_with fail
      refine (six_CountI R R r.key 1 w3 HT3.out (by omega) (by omega) (by rw [HHR.out.key]; decide)).mono ?_
      rintro e w4 ⟨rfl, t4, k4⟩
      have HT4 := Lib.hid t4
      have K4 := Lib.hid (K3.out.trans k4)
      have N4 := Lib.hid (N1.out.below K4.out HRB.out)
      have hs4 := slice_key B 32 w4
      have hc4 := N4.out.strBase HHR.out
      clear t4 k4
      go_wp2_with fail
      refine (six_Raw R R (r.key ++ whole 1) (bs r.base) w4 HT4.out (by rw [bs_size, HHR.out.base, List.length_append, HHR.out.key, whole1]; decide)).mono ?_
      rintro e w5 ⟨rfl, t5, k5⟩
      rw [bs_list] at t5
      have HM := Lib.hid (show (r.key ++ whole 1) ++ r.base = r.key ++ midR r by unfold midR; rw [if_pos HP.out.symm, List.append_assoc])
      have HML := Lib.hid (show (r.key ++ midR r).length = 65 by rw [← HM.out]; simp [HHR.out.key, HHR.out.base, whole1])
      rw [HM.out] at t5
      have HT5 := Lib.hid t5
      have K5 := Lib.hid (K4.out.trans k5)
      clear t5 k5 hs4 hc4
      have N5 := Lib.hid (N1.out.below K5.out HRB.out)
      have c5 := N5.out.body HHR.out
      go_wp2_with fail
      refine (six_Text R R (r.key ++ midR r) (bs r.body) w5 HT5.out (by rw [HML.out, bs_size]; omega)).mono ?_
      rintro e w6 ⟨rfl, t6, k6⟩
      rw [bs_list] at t6
      have HT6 := Lib.hid t6
      have K6 := Lib.hid (K5.out.trans k6)
      clear t6 k6
      go_wp2_with fail
      refine (six_Bytes R R _ w6 HT6.out).mono ?_
      rintro e w7 ⟨rfl, -, k7, -⟩
      have K7 := Lib.hid (K6.out.trans k7)
      clear k7
      have HPT := Lib.hid (show (r.key ++ midR r) ++ text r.body = partsR r by unfold partsR; rw [List.append_assoc])
      rw [HPT.out]
      go_wp2_with fail
      refine (crc_Put (bs (partsR r)) w7 (by rw [bs_size]; exact Nat.le_trans (partsR_le HHR.out (by omega)) (by omega))).mono ?_
      rintro e w8 ⟨rfl, k8⟩
      have K8 := Lib.hid (K1.out.trans ((K7.out.mono HRW.out).trans (k8.mono (Nat.le_trans K1.out.size K7.out.size))) )
      clear k8
      rw [bs_list]
      go_wp2
      go_ret2
      have hE : packE r = 0 := packE_of (by have := H1.out; omega) (fun x => by rw [← HP.out] at x; cases x)
      exact ⟨by rw [hE, packT_ok hE]; rfl, K8.out⟩
end Go.Proofs.Ytlpknhiagdhkcaa
/- The document's own answers: how siloref01 writes numbers and texts. -/
set_option linter.unusedVariables false
set_option maxRecDepth 100000
namespace Go.Proofs.Ytlpknhiagdhkcaa
open Go.RowKit

theorem conv_one (W : World) (c : Nat) (hc : c ≤ 255) : (convert 76 9 (.slice (some ⟨W.heap.size, 0, none⟩) 1 1)).run Try.prog (W.alloc (.cells #[.int .u8 (c : Int)] 5)) = .ok (.string (bs [UInt8.ofNat c])) (W.alloc (.cells #[.int .u8 (c : Int)] 5)) := by
  refine run_convert_bytes_back (P := Try.prog) _ 76 9 5 ⟨W.heap.size, 0, none⟩ 1 [UInt8.ofNat c] Try.underlying76 Try.underlying5 Try.underlying9 ?_
  intro j hj
  have hj0 : j = 0 := by simpa using hj
  subst hj0
  have hn : (UInt8.ofNat c).toNat = c := toNat_ofNat (by omega)
  simp only [List.getElem_cons_zero, hn]
  exact cell_one_new W (.int .u8 (c : Int)) 5 0 _ rfl

theorem rets {a a' : ByteArray} (h : a' = a) : Ending.returned (.string a) = Ending.returned (.string a') := by rw [h]

theorem lead_tail_len {q : Nat} {t g : List UInt8} (h : lead q ++ t = g) (hg : g.length ≤ 11) : t.length ≤ 11 := by
  rw [← h, List.length_append] at hg
  omega

set_option maxHeartbeats 400000 in
theorem ref_groups (x mark : Nat) (w : World) (hx : x ≤ 9223372036854775807) (hm : mark = 64 ∨ mark = 128) :
    Calls Try.prog 61 #[.int .u64 x, .int .i64 mark] w fun e w' => e = .returned (.string (bs (grp x mark))) ∧ Below w.heap.size w w' := by
  have HM := Lib.hid hm
  have hm1 : (mark : Int) ≤ 128 := by omega
  have hm2 : (0 : Int) ≤ mark := by omega
  obtain ⟨c, hc⟩ : ∃ c, c = mark + x % 64 := ⟨_, rfl⟩
  have hcv : ((mark : Int) + (x : Int) % 64) = (c : Int) := by omega
  have hc1 : c ≤ 255 := by omega
  have hconv := fun W : World => conv_one W c hc1
  have HC := Lib.hid hc
  clear hm hc
  have hlen := (grp_len (n := x) (mark := mark) (by omega)).1
  obtain ⟨g, hg⟩ : ∃ g, g = grp x mark := ⟨_, rfl⟩
  rw [← hg] at hlen ⊢
  have HL := Lib.hid hlen
  have h0 : lead (x / 64) ++ [UInt8.ofNat c] = g := by rw [hg, HC.out]; rfl
  have H0 := Lib.hid h0
  clear hlen hg h0
  go_enter Try.func61, Try.ntmps61
  go_wp2_with fail
  go_loopw [0, 5] (fun y s wr => ∃ (q : Nat) (t : List UInt8), q ≤ 9223372036854775807 ∧ y = .int .u64 q ∧ s = .string (bs t) ∧ Hid (lead q ++ t = g) ∧ Below w.heap.size w wr) (fun y s wr => (intOf y).toNat)
  case atStart => exact ⟨x / 64, [UInt8.ofNat c], by omega, by go_num, rfl, H0, (Below.refl _ _).alloc (Nat.le_refl _) _⟩
  case round =>
    obtain ⟨q, t, hq, rfl, rfl, ht, hbw⟩ := hrel
    have HB := Lib.hid hbw
    clear hbw hconv hcv hc1
    by_cases hq0 : 0 < (q : Int)
    · obtain ⟨d, hd⟩ : ∃ d, d = q % 64 := ⟨_, rfl⟩
      have hdv : ((q : Int) % 64) = (d : Int) := by omega
      have hd1 : d ≤ 255 := by omega
      have hconv := fun W : World => conv_one W d hd1
      have hcat : bs [UInt8.ofNat d] ++ bs t = bs (UInt8.ofNat d :: t) := bs_eq (by simp [bs])
      have hsum : ((bs [UInt8.ofNat d]).size : Int) + ((bs t).size : Int) ≤ 9223372036854775807 := by
        rw [bs_size, bs_size]
        have := lead_tail_len ht.out HL.out
        simp
        omega
      have HD := Lib.hid hd
      clear hd
      go_wp2
      go_roundw
      case rel =>
        refine ⟨q / 64, UInt8.ofNat d :: t, by omega, by go_num, rfl, ?_, HB.out.alloc HB.out.size _⟩
        have := ht.out
        rw [lead_pos (by omega), ← HD.out] at this
        show lead (q / 64) ++ (UInt8.ofNat d :: t) = g
        rw [← this]
        simp
      case measure => simp [intOf]; omega
    · go_wp2
      go_ret
      have hq1 : q = 0 := by omega
      have := ht.out
      rw [hq1, lead_zero, List.nil_append] at this
      exact ⟨rets (by rw [this]), HB.out⟩

set_option maxHeartbeats 400000 in
theorem ref_Whole (n : Int) (w : World) (hn1 : -9223372036854775808 ≤ n) (hn2 : n ≤ 9223372036854775807) :
    Calls Try.prog 37 #[.int .i64 n] w fun e w' => e = .returned (.string (bs (whole n))) ∧ Below w.heap.size w w' := by
  by_cases h0 : n < 0
  · obtain ⟨m, hm⟩ : ∃ m : Nat, -1 - n = m := ⟨(-1 - n).toNat, by omega⟩
    have hg := Lib.hid (show whole n = grp m 128 by unfold whole; rw [if_pos h0, hm]; rfl)
    have hm1 : m ≤ 9223372036854775807 := by omega
    have hv : -(n + 1) = (m : Int) := by omega
    have hv2 : IntKind.i64.wrap (n + 1) = n + 1 := IntWalk.i64_in _ (by omega)
    clear hm
    go_enter Try.func37, Try.ntmps37
    go_wp2_with fail
    refine (ref_groups m 128 w hm1 (.inr rfl)).mono ?_
    rintro e w2 ⟨rfl, k2⟩
    have K2 := Lib.hid k2
    clear k2
    go_wp2
    go_ret
    exact ⟨rets (by rw [hg.out]), K2.out⟩
  · obtain ⟨m, rfl⟩ : ∃ m : Nat, n = m := ⟨n.toNat, by omega⟩
    have hg := Lib.hid (show whole m = grp m 64 by unfold whole; rw [if_neg (by omega)]; rfl)
    go_enter Try.func37, Try.ntmps37
    go_wp2_with fail
    refine (ref_groups m 64 w (by omega) (.inl rfl)).mono ?_
    rintro e w2 ⟨rfl, k2⟩
    have K2 := Lib.hid k2
    clear k2
    go_wp2
    go_ret
    exact ⟨rets (by rw [hg.out]), K2.out⟩

set_option maxHeartbeats 400000 in
theorem ref_Text (s : ByteArray) (w : World) (hs : s.size ≤ 140737488355328) :
    Calls Try.prog 38 #[.string s] w fun e w' => e = .returned (.string (bs (text s.data.toList))) ∧ Below w.heap.size w w' := by
  have hl := (whole_len (n := (s.size : Int)) (by omega) (by omega)).1
  have hcat : bs (whole (s.size : Int)) ++ s = bs (text s.data.toList) := bs_eq (by unfold text; rw [← Lib.size_eq]; obtain ⟨⟨x⟩⟩ := s; simp [bs])
  have hsum : ((bs (whole (s.size : Int))).size : Int) + (s.size : Int) ≤ 9223372036854775807 := by rw [bs_size]; omega
  clear hl
  go_enter Try.func38, Try.ntmps38
  go_wp2_with fail
  refine (ref_Whole (s.size : Int) w (by omega) (by omega)).mono ?_
  rintro e w2 ⟨rfl, k2⟩
  have K2 := Lib.hid k2
  clear k2
  go_wp2
  go_ret
  exact ⟨rfl, K2.out⟩

end Go.Proofs.Ytlpknhiagdhkcaa
/- The document's own sum: bit by bit, as a list of bits. -/
set_option linter.unusedVariables false
set_option maxRecDepth 100000
namespace Go.Proofs.Ytlpknhiagdhkcaa
open Go.RowKit

/-- In block B stand 32 bits. -/
def Regs (B : Nat) (g : Nat → Bool) (w : World) : Prop := ∀ j, j < 32 → w.cell? ⟨B, j, none⟩ = some (.bool (g j)) ∧ w.frozen? ⟨B, j, none⟩ = false

theorem Regs.same {B : Nat} {g g' : Nat → Bool} {w : World} (h : Regs B g w) (e : ∀ j, j < 32 → g j = g' j) : Regs B g' w := fun j hj => by rw [← e j hj]; exact h j hj
theorem Regs.set {B : Nat} {g : Nat → Bool} {w : World} (h : Regs B g w) {i : Nat} (hi : i < 32) (v : Bool) : Regs B (fun j => if j = i then v else g j) (w.setCell ⟨B, i, none⟩ (.bool v)) := by
  intro j hj
  refine ⟨?_, by rw [World.frozen?_setCell]; exact (h j hj).2⟩
  by_cases hji : j = i
  · subst hji
    rw [World.cell?_setCell_same w _ _ (h j hj).1]
    simp
  · rw [World.cell?_setCell_other w _ _ _ (fun e => hji (by injection e with _ e2; exact e2.symm)), (h j hj).1]
    simp [hji]
theorem regs_new (w : World) (t : TypeId) : Regs w.heap.size (fun _ => false) (w.alloc (.cells (Array.replicate 32 (.bool false)) t)) := by
  intro j hj
  refine ⟨?_, ?_⟩
  · rw [World.cell?_alloc_mark]
    simp [hj]
  · rw [World.frozen?_alloc_mark]
    simp

theorem down_next (x k j : Nat) : (if j = k then down x k (k + 1) else down x k j) = down x (k + 1) j := by
  unfold down
  by_cases hjk : j = k
  · subst hjk; rw [if_pos rfl, if_neg (by omega), if_pos (by omega)]
  · by_cases hl : j < k
    · simp [hjk, hl, show j < k + 1 by omega]
    · simp [hjk, hl, show ¬ j < k + 1 by omega]
theorem added_yes (y k j : Nat) (h : (2197175160 : Nat).testBit k = true) : (if j = k then !(added y k k) else added y k j) = added y (k + 1) j := by
  unfold added
  by_cases hjk : j = k
  · subst hjk
    rw [if_pos rfl, if_neg (by omega), if_pos (by omega), Nat.testBit_xor, h, Bool.xor_true]
  · by_cases hl : j < k
    · simp [hjk, hl, show j < k + 1 by omega]
    · simp [hjk, hl, show ¬ j < k + 1 by omega]
theorem added_no (y k j : Nat) (h : (2197175160 : Nat).testBit k = false) : added y k j = added y (k + 1) j := by
  unfold added
  by_cases hjk : j = k
  · subst hjk
    rw [if_neg (by omega), if_pos (by omega), Nat.testBit_xor, h, Bool.xor_false]
  · by_cases hl : j < k
    · simp [hl, show j < k + 1 by omega]
    · simp [hl, show ¬ j < k + 1 by omega]
theorem pow32 (k : Nat) (h : k < 32) : ∃ p : Nat, IntKind.u32.wrap ((2 : Int) ^ k) = (p : Int) ∧ 1 ≤ p ∧ ((p : Int) == 0) = false ∧ ∃ d : Nat, (2197175160 : Int) / (p : Int) = (d : Int) ∧ d ≤ 2197175160 ∧ ((d : Int) % 2 == 1) = (2197175160 : Nat).testBit k := by
  have hp : 2 ^ k < 2 ^ 32 := Nat.pow_lt_pow_right (by decide) h
  have h1 : 1 ≤ 2 ^ k := Nat.one_le_two_pow
  refine ⟨2 ^ k, ?_, h1, beq_eq_false_iff_ne.2 (by omega), 2197175160 / 2 ^ k, (Int.natCast_ediv 2197175160 (2 ^ k)).symm, Nat.div_le_self _ _, ?_⟩
  · rw [IntKind.wrap_u32', show ((2 : Int) ^ k) = ((2 ^ k : Nat) : Int) by simp]
    omega
  · rw [Nat.testBit_eq_decide_div_mod_eq]
    show decide _ = _
    apply decide_eq_decide.2
    omega
theorem ret_u32 {a b : Nat} (h : b = a) : Ending.returned (.int .u32 (a : Int)) = Ending.returned (.int .u32 (b : Int)) := by rw [h]
theorem beq_eq_decide (a b : Int) : (a == b) = decide (a = b) := rfl
theorem pow8 (k : Nat) (h : k < 8) : ∃ p : Nat, IntKind.u8.wrap ((2 : Int) ^ k) = (p : Int) ∧ 1 ≤ p ∧ ((p : Int) == 0) = false ∧ ∀ c : Nat, decide (((c / p : Nat) : Int) % 2 = 1) = c.testBit k := by
  have hp : 2 ^ k < 2 ^ 8 := Nat.pow_lt_pow_right (by decide) h
  have h1 : 1 ≤ 2 ^ k := Nat.one_le_two_pow
  refine ⟨2 ^ k, ?_, h1, beq_eq_false_iff_ne.2 (by omega), fun c => ?_⟩
  · rw [IntKind.wrap_u8', show ((2 : Int) ^ k) = ((2 ^ k : Nat) : Int) by simp]
    omega
  · rw [Nat.testBit_eq_decide_div_mod_eq]
    apply decide_eq_decide.2
    omega
theorem quo8 (c p : Nat) (hc : c < 256) (hp : 1 ≤ p) : (c : Int) / (p : Int) = ((c / p : Nat) : Int) := by omega

set_option maxHeartbeats 1000000 in
theorem ref_SumC (s : ByteArray) (w : World) (hs : s.size ≤ 140737488355328) :
    Calls Try.prog 40 #[.string s] w fun e w' => e = .returned (.int .u32 (sumL s.data.toList)) ∧ Below w.heap.size w w' := by
  go_enter Try.func40, Try.ntmps40
  go_wp2_with fail
  go_loopw [4] (fun i wr => ∃ k : Nat, k ≤ 32 ∧ i = .int .i64 k ∧ Regs w.heap.size (fun j => decide (j < k)) wr ∧ Below w.heap.size w wr) (fun i wr => 32 - (intOf i).toNat)
  case atStart => exact ⟨0, by omega, rfl, (regs_new w 128).same (fun j _ => by simp), (Below.refl _ _).alloc (Nat.le_refl _) _⟩
  case round =>
    obtain ⟨k, hk, rfl, hreg, hbw⟩ := hrel
    have HB := Lib.hid hbw
    have HR := Lib.hid hreg
    clear hbw hreg
    by_cases hlt : k < 32
    · obtain ⟨c1, c2⟩ := HR.out k hlt
      go_wp2_with fail
      go_roundw
      case rel => exact ⟨k + 1, by omega, by go_num, (HR.out.set hlt true).same (fun j _ => by by_cases hj : j = k <;> simp [hj] <;> omega), HB.out.setCell (Nat.le_refl _) _⟩
      case measure => simp [intOf]; omega
    · obtain rfl : k = 32 := by omega
      have HR1 := Lib.hid (show Regs w.heap.size (fun j => (4294967295 : Nat).testBit j) wr from HR.out.same (fun j hj => by
        have := Nat.testBit_two_pow_sub_one 32 j
        rw [show (2 : Nat) ^ 32 - 1 = 4294967295 by decide] at this
        rw [this]))
      clear HR
      go_wp2_with fail
      go_loopw [5] (fun i wo => ∃ k : Nat, k ≤ s.size ∧ i = .int .i64 k ∧ Regs w.heap.size (fun j => (feedL 4294967295 (s.data.toList.take k)).testBit j) wo ∧ Below w.heap.size w wo) (fun i wr => s.size - (intOf i).toNat)
      case atStart => exact ⟨0, by omega, rfl, HR1.out, HB.out⟩
      case round =>
        obtain ⟨i, hi, rfl, hreg, hbw⟩ := hrel
        have HO := Lib.hid hbw
        have HRO := Lib.hid hreg
        clear hbw hreg HB HR1
        by_cases hit : i < s.size
        · have hfn := Lib.hid (feedS_next 4294967295 s i hit)
          have hq := Lib.hid (feedL_lt' (s.data.toList.take i) (r := 4294967295) (by decide))
          generalize feedL 4294967295 (s.data.toList.take i) = R at *
          have hc := Lib.hid (s[i]).toNat_lt
          go_wp2_with fail
          go_loopw [6] (fun y wp => ∃ k : Nat, k ≤ 8 ∧ y = .int .i64 k ∧ Regs w.heap.size (fun j => (feedB R ((bitsN 8 (s[i]).toNat).take k)).testBit j) wp ∧ Below w.heap.size w wp) (fun y wr => 8 - (intOf y).toNat)
          case atStart => exact ⟨0, by omega, rfl, HRO.out, HO.out⟩
          case round =>
            obtain ⟨k, hk, rfl, hreg, hbw⟩ := hrel
            have HP := Lib.hid hbw
            have HRP := Lib.hid hreg
            clear hbw hreg HO HRO hlt
            by_cases hk8 : k < 8
            · go_wp2_with fail
              obtain ⟨pw, h1, h2, h3, h4⟩ := pow8 k hk8
              have hbit := Lib.hid (h4 (s[i]).toNat)
              have hd := quo8 (s[i]).toNat pw hc.out h2
              have hfnext := Lib.hid (feed_next R (s[i]).toNat k hk8)
              have hxl := Lib.hid (show feedB R ((bitsN 8 (s[i]).toNat).take k) < 4294967296 from feedB_lt _ hq.out)
              generalize feedB R ((bitsN 8 (s[i]).toNat).take k) = x at *
              obtain ⟨d, hd1⟩ : ∃ d, d = (s[i]).toNat / pw := ⟨_, rfl⟩
              rw [← hd1] at hbit hd
              clear hd1 h4
              go_quiet (fail)
              have HRQ := Lib.hid (show Regs w.heap.size (fun j => x.testBit j) (wr.drewN nq) from HRP.out)
              have HQ := Lib.hid (below_drewN HP.out nq)
              have hbe : ((d : Int) % 2 == 1) = (s[i]).toNat.testBit k := by rw [← hbit.out]; exact beq_eq_decide _ _
              rw [hbe]
              generalize (s[i]).toNat.testBit k = bit at *
              generalize wr.drewN nq = wq at *
              clear HRP HP hbe hbit
              have c0 : wq.cell? ⟨w.heap.size, 0, none⟩ = some (.bool (x.testBit 0)) := (HRQ.out 0 (by omega)).1
              obtain ⟨low, hlow⟩ : ∃ low, low = x.testBit 0 := ⟨_, rfl⟩
              rw [← hlow] at c0
              have HLOW := Lib.hid hlow
              clear hlow
              go_wp2_with fail
              obtain ⟨out, hout⟩ : ∃ out, out = !(low == bit) := ⟨_, rfl⟩
              rw [← hout]
              have HOUT := Lib.hid (show stepB x bit = x / 2 ^^^ (if out = true then 2197175160 else 0) by rw [hout, HLOW.out]; rfl)
              clear hout HLOW c0
              go_loopw [9] (fun y wl => ∃ j : Nat, j ≤ 31 ∧ y = .int .i64 j ∧ Regs w.heap.size (down x j) wl ∧ Below w.heap.size w wl) (fun y wl => 31 - (intOf y).toNat)
              case atStart => exact ⟨0, by omega, rfl, HRQ.out.same (fun j _ => by simp [down]), HQ.out⟩
              case round =>
                obtain ⟨j, hj, rfl, hreg, hbw⟩ := hrel
                have HL := Lib.hid hbw
                have HRL := Lib.hid hreg
                clear hbw hreg HRQ HQ
                by_cases hj31 : j < 31
                · obtain ⟨c1, _⟩ := HRL.out (j + 1) (by omega)
                  obtain ⟨c2, c3⟩ := HRL.out j (by omega)
                  obtain ⟨nx, hnx⟩ : ∃ nx, nx = down x j (j + 1) := ⟨_, rfl⟩
                  obtain ⟨ol, hol⟩ : ∃ ol, ol = down x j j := ⟨_, rfl⟩
                  rw [← hnx] at c1
                  rw [← hol] at c2
                  have HN := Lib.hid hnx
                  clear hnx hol
                  go_wp2_with fail
                  go_roundw
                  case rel =>
                    refine ⟨j + 1, by omega, by go_num, (HRL.out.set (by omega) nx).same (fun i hi => ?_), HL.out.setCell (Nat.le_refl _) _⟩
                    rw [HN.out]
                    exact down_next x j i
                  case measure => simp [intOf]; omega
                · obtain rfl : j = 31 := by omega
                  obtain ⟨c2, c3⟩ := HRL.out 31 (by omega)
                  obtain ⟨ol, hol⟩ : ∃ ol, ol = down x 31 31 := ⟨_, rfl⟩
                  rw [← hol] at c2
                  clear hol
                  go_wp2_with fail
                  have HR5 := Lib.hid (show Regs w.heap.size (added (x / 2) 0) (wr.setCell ⟨w.heap.size, 31, none⟩ (.bool false)) from (HRL.out.set (i := 31) (by omega) false).same (fun i hi => by
                    rw [show added (x / 2) 0 i = (x / 2).testBit i by simp [added]]
                    exact down_all x i hxl.out hi))
                  have HB5 := Lib.hid (HL.out.setCell (p := ⟨w.heap.size, 31, none⟩) (Nat.le_refl _) (.bool false))
                  clear HRL HL c2 c3
                  generalize wr.setCell ⟨w.heap.size, 31, none⟩ (.bool false) = ws at *
                  cases out with
                  | false =>
                    go_loopw [10] (fun y wl => y = .int .i64 0 ∧ Regs w.heap.size (added (x / 2) 0) wl ∧ Below w.heap.size w wl) (fun y wl => 0)
                    case atStart => exact ⟨rfl, HR5.out, HB5.out⟩
                    case round =>
                      obtain ⟨rfl, hreg, hbw⟩ := hrel
                      have HL := Lib.hid hbw
                      have HRL := Lib.hid hreg
                      clear hbw hreg HR5 HB5
                      go_wp2_with fail
                      go_roundw
                      case rel =>
                        refine ⟨k + 1, by omega, by go_num, HRL.out.same (fun i hi => ?_), HL.out⟩
                        rw [hfnext.out, HOUT.out]
                        simp [added]
                      case measure => simp [intOf]; omega
                  | true =>
                    go_loopw [10] (fun y wl => ∃ j : Nat, j ≤ 32 ∧ y = .int .i64 j ∧ Regs w.heap.size (added (x / 2) j) wl ∧ Below w.heap.size w wl) (fun y wl => 32 - (intOf y).toNat)
                    case atStart => exact ⟨0, by omega, rfl, HR5.out, HB5.out⟩
                    case round =>
                      obtain ⟨j, hj, rfl, hreg, hbw⟩ := hrel
                      have HL := Lib.hid hbw
                      have HRL := Lib.hid hreg
                      clear hbw hreg HR5 HB5
                      by_cases hj32 : j < 32
                      · obtain ⟨c2, c3⟩ := HRL.out j (by omega)
                        obtain ⟨ol, hol⟩ : ∃ ol, ol = added (x / 2) j j := ⟨_, rfl⟩
                        rw [← hol] at c2
                        have HOL := Lib.hid hol
                        obtain ⟨pq, p1, p2, p3, dd, p4, p5, p6⟩ := pow32 j hj32
                        clear hol
                        cases htap : (2197175160 : Nat).testBit j with
                        | true =>
                          rw [htap] at p6
                          have HTAP := Lib.hid htap
                          clear htap
                          go_wp2_with fail
                          go_roundw
                          case rel =>
                            refine ⟨j + 1, by omega, by go_num, (HRL.out.set (by omega) (!ol)).same (fun i hi => ?_), HL.out.setCell (Nat.le_refl _) _⟩
                            rw [HOL.out]
                            exact added_yes (x / 2) j i HTAP.out
                          case measure => simp [intOf]; omega
                        | false =>
                          rw [htap] at p6
                          have HTAP := Lib.hid htap
                          clear htap
                          go_wp2_with fail
                          go_roundw
                          case rel =>
                            refine ⟨j + 1, by omega, by go_num, HRL.out.same (fun i hi => added_no (x / 2) j i HTAP.out), HL.out⟩
                          case measure => simp [intOf]; omega
                      · obtain rfl : j = 32 := by omega
                        go_wp2_with fail
                        go_roundw
                        case rel =>
                          refine ⟨k + 1, by omega, by go_num, HRL.out.same (fun i hi => ?_), HL.out⟩
                          rw [hfnext.out, HOUT.out]
                          simp [added, hi]
                        case measure => simp [intOf]; omega
            · obtain rfl : k = 8 := by omega
              rw [feed_all R _ hc.out, ← hfn.out] at HRP
              go_wp2_with fail
              go_roundw
              case rel => exact ⟨i + 1, by omega, by go_num, HRP.out, HP.out⟩
              case measure => simp [intOf]; omega
        · obtain rfl : i = s.size := by omega
          rw [feedS_all] at HRO
          have hrl := feedL_lt' s.data.toList (r := 4294967295) (by decide)
          have hsum : sumL s.data.toList = turnedFrom (feedL 4294967295 s.data.toList) 0 := by unfold sumL turnedFrom; simp
          generalize feedL 4294967295 s.data.toList = r at *
          have HRr := Lib.hid hrl
          have HSUM := Lib.hid hsum
          clear hrl hsum
          go_wp2_with fail
          go_loopw [11, 12] (fun x y wl => ∃ j : Nat, j ≤ 32 ∧ y = .int .i64 ((j : Int) - 1) ∧ x = .int .u32 (turnedFrom r j) ∧ Regs w.heap.size (fun j => r.testBit j) wl ∧ Below w.heap.size w wl) (fun x y wl => (intOf y + 1).toNat)
          case atStart => exact ⟨32, by omega, rfl, by rw [turned_top]; rfl, HRO.out, HO.out⟩
          case round =>
            obtain ⟨j, hj, rfl, rfl, hreg, hbw⟩ := hrel
            have HL := Lib.hid hbw
            have HRL := Lib.hid hreg
            clear hbw hreg HRO HO
            rcases Nat.eq_zero_or_pos j with rfl | hpos
            · rw [show ((0 : Nat) : Int) - 1 = -1 from rfl]
              go_wp2_with fail
              go_ret
              exact ⟨ret_u32 HSUM.out, HL.out⟩
            · obtain ⟨m, rfl⟩ : ∃ m, j = m + 1 := ⟨j - 1, by omega⟩
              rw [show ((m + 1 : Nat) : Int) - 1 = (m : Int) by omega]
              have hnx := turned_next r m HRr.out (by omega)
              have hle : turnedFrom r m ≤ 4294967295 := by unfold turnedFrom; exact Nat.le_trans (Nat.div_le_self _ _) (by omega)
              have c1 : wr.cell? ⟨w.heap.size, m, none⟩ = some (.bool (r.testBit m)) := (HRL.out m (by omega)).1
              generalize turnedFrom r (m + 1) = X at *
              obtain ⟨Y, hYd⟩ : ∃ Y, Y = turnedFrom r m := ⟨_, rfl⟩
              rw [← hYd] at hnx hle
              have HYD := Lib.hid hYd
              clear hYd
              cases hb : r.testBit m with
              | true =>
                rw [hb] at hnx c1
                rw [if_pos rfl] at hnx
                have hY : (2 : Int) * (X : Int) = (Y : Int) := by omega
                clear hnx hb
                go_wp2_with fail
                go_roundw
                case rel => exact ⟨m, by omega, rfl, by rw [HYD.out], HRL.out, HL.out⟩
                case measure => simp [intOf]
              | false =>
                rw [hb] at hnx c1
                rw [if_neg (by simp)] at hnx
                have hY : (2 : Int) * (X : Int) + 1 = (Y : Int) := by omega
                clear hnx hb
                go_wp2_with fail
                go_roundw
                case rel => exact ⟨m, by omega, rfl, by rw [HYD.out], HRL.out, HL.out⟩
                case measure => simp [intOf]
end Go.Proofs.Ytlpknhiagdhkcaa
/- The document's own answers: a text with its sum, put and taken. -/
set_option linter.unusedVariables false
set_option maxRecDepth 100000
namespace Go.Proofs.Ytlpknhiagdhkcaa
open Go.RowKit

set_option maxHeartbeats 400000 in
theorem ref_Four (x : Nat) (w : World) (hx : x < 4294967296) :
    Calls Try.prog 39 #[.int .u32 x] w fun e w' => e = .returned (.string (bs (four x))) ∧ Below w.heap.size w w' := by
  have hconv := conv_four w w.heap.size x rfl ((x : Int) / 16777216) ((x : Int) / 65536 % 256) ((x : Int) / 256 % 256) ((x : Int) % 256) (by omega) (by omega) (by omega) (by omega)
  go_enter Try.func39, Try.ntmps39
  go_wp2
  go_ret
  exact ⟨rfl, (Below.refl _ _).alloc (Nat.le_refl _) _⟩

set_option maxHeartbeats 400000 in
theorem ref_Put (s : ByteArray) (w : World) (hs : s.size ≤ 140737488351232) :
    Calls Try.prog 13 #[.string s] w fun e w' => e = .returned (.string (bs (s.data.toList ++ four (sumL s.data.toList)))) ∧ Below w.heap.size w w' := by
  have hcat := cat_bs s (four (sumL s.data.toList))
  have hsum : (s.size : Int) + ((bs (four (sumL s.data.toList))).size : Int) ≤ 9223372036854775807 := by rw [bs_size, four_len]; omega
  have hlt := sumL_lt s.data.toList
  go_enter Try.func13, Try.ntmps13
  go_wp2_with fail
  refine (ref_SumC s w (by omega)).mono ?_
  rintro e w1 ⟨rfl, k1⟩
  go_wp2_with fail
  refine (ref_Four _ w1 hlt).mono ?_
  rintro e w2 ⟨rfl, k2⟩
  go_wp2
  go_ret
  exact ⟨rfl, k1.trans (k2.mono k1.size)⟩

theorem seen_refSum (W : World) (s : ByteArray) (hs : s.size ≤ 140737488355328) (n : Seen W) : Calls Try.prog 40 #[.string s] n.val fun e w'' => e = .returned (.int .u32 (sumL s.data.toList)) ∧ ∃ m : Seen W, w'' = m.val :=
  (ref_SumC s n.val hs).mono fun _ w'' ⟨h1, h2⟩ => ⟨h1, ⟨⟨w'', n.below.trans (h2.mono n.below.size)⟩, rfl⟩⟩
theorem seen_refFour (W : World) (x : Nat) (hx : x < 4294967296) (n : Seen W) : Calls Try.prog 39 #[.int .u32 x] n.val fun e w'' => e = .returned (.string (bs (four x))) ∧ ∃ m : Seen W, w'' = m.val :=
  (ref_Four x n.val hx).mono fun _ w'' ⟨h1, h2⟩ => ⟨h1, ⟨⟨w'', n.below.trans (h2.mono n.below.size)⟩, rfl⟩⟩

set_option maxHeartbeats 400000 in
theorem ref_Take (s : ByteArray) (w : World) (hs : s.size ≤ 140737488355328) :
    Calls Try.prog 45 #[.string s] w fun e w' => e = .returned (.tuple #[.string (bs (takeT s.data.toList)), .int .i64 (takeE s.data.toList)]) ∧ Below w.heap.size w w' := by
  have hl : s.data.toList.length = s.size := by rw [← Lib.size_eq]
  by_cases h4 : s.size < 4
  · have e1 : takeT s.data.toList = [] := by unfold takeT; rw [if_neg (by omega)]
    have e2 : takeE s.data.toList = 2 := by unfold takeE; rw [if_pos (by omega)]
    rw [e1, e2]
    clear e1 e2
    go_enter Try.func45, Try.ntmps45
    go_wp2
    go_ret2
    exact ⟨rfl, Below.refl _ _⟩
  · obtain ⟨n, hn⟩ : ∃ n : Nat, s.size = n + 4 := ⟨s.size - 4, by omega⟩
    obtain ⟨x1, x2⟩ := take_split (s := s) (n := n) (by omega)
    have hok : okT s.data.toList ↔ s.data.toList.drop n = four (sumL (s.data.toList.take n)) := by unfold okT; rw [hl, hn, Nat.add_sub_cancel]
    have e1 : takeT s.data.toList = if okT s.data.toList then s.data.toList.take n else [] := by
      unfold takeT
      rw [hl, hn, Nat.add_sub_cancel]
      by_cases h : okT s.data.toList
      · rw [if_pos ⟨by omega, h⟩, if_pos h]
      · rw [if_neg (fun x => h x.2), if_neg h]
    have e2 : takeE s.data.toList = if okT s.data.toList then 0 else 4 := by unfold takeE; rw [if_neg (by omega)]
    have hsz : ((s.size : Int) - 4) = (n : Int) := by omega
    have hle : n ≤ s.size := by omega
    have hlen : (s.data.toList.take n).length ≤ 140737488355328 := by rw [List.length_take]; omega
    have HN := Lib.hid hn
    clear hn
    go_enter Try.func45, Try.ntmps45
    go_wp2_with fail
    refine region_seen (by kernel_rfl) (by kernel_rfl) ?_
    repeat (go_big_quiet_step (first | (go_at_call 40; exact seen_refSum _ _ (by rw [bs_size]; exact hlen) _) | (go_at_call 39; exact seen_refFour _ _ (sumL_lt _) _)))
    refine wpQuiet_nil ?_
    rintro _ ⟨m, rfl⟩
    go_wp2_with fail
    · rename_i h
      rw [Bool.not_eq_true', Bool.eq_false_iff, Ne, same_bytes, bs_list, ← hok] at h
      go_ret2
      exact ⟨ret2s (by rw [e1, if_neg h]; rfl) (by rw [e2, if_neg h]), m.below⟩
    · rename_i h
      rw [Bool.not_eq_false', same_bytes, bs_list, ← hok] at h
      go_ret2
      exact ⟨ret2s (by rw [e1, if_pos h]) (by rw [e2, if_pos h]), m.below⟩
end Go.Proofs.Ytlpknhiagdhkcaa
/- The document's key, and its record's bytes. -/
set_option linter.unusedVariables false
set_option maxRecDepth 100000
namespace Go.Proofs.Ytlpknhiagdhkcaa
open Go.RowKit

def rowK (l : List UInt8) (i : Nat) : List UInt8 := l.take i ++ List.replicate (32 - i) 0
theorem rowK_zero (l : List UInt8) : rowK l 0 = zero32 := by unfold rowK zero32; simp
theorem rowK_all (l : List UInt8) : rowK l 32 = l.take 32 := by unfold rowK; simp
theorem rowK_len {l : List UInt8} {i : Nat} (hl : 32 ≤ l.length) (hi : i ≤ 32) : (rowK l i).length = 32 := by unfold rowK; simp; omega
theorem rowK_next {l : List UInt8} {i : Nat} (hl : 32 ≤ l.length) (hi : i < 32) (h : i < l.length) : (rowK l i).set i l[i] = rowK l (i + 1) := by
  unfold rowK
  have h1 : (l.take i).length = i := by simp; omega
  rw [List.set_append_right _ _ (by omega), h1, Nat.sub_self, show 32 - i = (32 - (i + 1)) + 1 by omega, List.replicate_succ, List.set_cons_zero, show l.take (i + 1) = l.take i ++ [l[i]] by rw [List.take_add_one, List.getElem?_eq_getElem h]; rfl, List.append_assoc]
  rfl
theorem kcs_set (l : List UInt8) (i : Nat) (b : UInt8) : (kcs l).toArray.setIfInBounds i (.int .u8 (b.toNat : Int)) = (kcs (l.set i b)).toArray := by
  unfold kcs
  rw [List.setIfInBounds_toArray, List.map_set]
def KIn (K : Nat) (l : List UInt8) (w : World) : Prop := w.heap[K]? = some (.cells (kcs l).toArray 23 (0, 0))
theorem KIn.cell {K : Nat} {l : List UInt8} {w : World} (h : KIn K l w) (i : Nat) (hi : i < l.length) : w.cell? ⟨K, i, none⟩ = some (.int .u8 (l[i].toNat : Int)) := by
  unfold KIn at h; simp only [World.cell?, h]; simp [kcs, hi]
theorem KIn.free {K : Nat} {l : List UInt8} {w : World} (h : KIn K l w) (i : Nat) : w.frozen? ⟨K, i, none⟩ = false := by unfold KIn at h; simp [World.frozen?, h]
theorem KIn.set {K : Nat} {l : List UInt8} {w : World} (h : KIn K l w) (i : Nat) (b : UInt8) : KIn K (l.set i b) (w.setCell ⟨K, i, none⟩ (.int .u8 (b.toNat : Int))) := by
  unfold KIn at h ⊢
  rw [heap_set h, kcs_set]
theorem KIn.range {K : Nat} {l : List UInt8} {w : World} (h : KIn K l w) : w.rangeAt K 0 (kcs l) := fun j v hj => by
  unfold KIn at h
  rw [Nat.zero_add]; simp only [World.cell?, h]; simpa using hj
theorem KIn.there {K : Nat} {l : List UInt8} {w : World} (h : KIn K l w) (n : Nat) (hn : n ≤ l.length) : w.there K 0 n := fun j hj => by
  refine ⟨?_, h.free _⟩
  rw [Nat.zero_add, h.cell j (by omega)]; rfl

set_option maxHeartbeats 4000000 in
theorem ref_key (s : ByteArray) (w : World) (hs : 32 ≤ s.size) (hs2 : s.size ≤ maxLen) :
    Calls Try.prog 65 #[.string s] w fun e w' => e = .returned (.agg (kcs (s.data.toList.take 32)).toArray) ∧ Below w.heap.size w w' := by
  have HL := Lib.hid (show s.data.toList.length = s.size by rw [← Lib.size_eq])
  obtain ⟨B, hB⟩ : ∃ B, B = w.heap.size := ⟨_, rfl⟩
  obtain ⟨w2, hw2⟩ : ∃ w2, w2 = (w.alloc (.cells (kcs zero32).toArray 23)).alloc (.cells (kcs zero32).toArray 23) := ⟨_, rfl⟩
  have hs1 : (w.alloc (.cells (kcs zero32).toArray 23)).heap.size = B + 1 := by rw [hB]; simp
  have N1 := Lib.hid (show KIn B zero32 w2 by
    unfold KIn
    rw [hw2, Below.heap_alloc _ _ B (by rw [hs1]; omega), hB]
    exact heap_new w _)
  have M1 := Lib.hid (show KIn (B + 1) zero32 w2 by rw [hw2, ← hs1]; exact heap_new _ _)
  have K1 := Lib.hid (show Below w.heap.size w w2 by rw [hw2]; exact ((Below.refl _ w).alloc (Nat.le_refl _) _).alloc (by simp) _)
  have HB := Lib.hid hB
  have HW := Lib.hid hw2
  rw [zero32_lit] at hw2
  have HW2 := Lib.hid hw2
  clear hB hw2 hs1
  go_enter Try.func65, Try.ntmps65
  go_upto_region 2 with (fail)
  rw [← HB.out, ← HW2.out]
  go_wp2_with fail
  go_loopw [4] (fun vi wr => ∃ i : Nat, i ≤ 32 ∧ vi = .int .i64 i ∧ KIn (B + 1) (rowK s.data.toList i) wr ∧ KIn B zero32 wr ∧ Below w.heap.size w wr) (fun vi wr => 32 - (intOf vi).toNat)
  case atStart => exact ⟨0, by omega, rfl, by rw [rowK_zero]; exact M1.out, N1.out, K1.out⟩
  case round =>
    obtain ⟨i, hi, rfl, hm, hn, hk⟩ := hrel
    have M := Lib.hid hm
    have N := Lib.hid hn
    have K := Lib.hid hk
    clear hm hn hk
    by_cases h32 : i < 32
    · have hib : i < s.size := by omega
      have hbl := byte_le s i hib
      have hlen := rowK_len (l := s.data.toList) (i := i) (by rw [HL.out]; exact hs) hi
      have c1 := M.out.cell i (by rw [hlen]; exact h32)
      have f1 := M.out.free i
      have hsi : s.data.toList[i]'(by rw [HL.out]; exact hib) = s[i] := rfl
      have HNX := Lib.hid (show (rowK s.data.toList i).set i s[i] = rowK s.data.toList (i + 1) by rw [← hsi]; exact rowK_next (by rw [HL.out]; exact hs) h32 _)
      obtain ⟨wq, hwq⟩ : ∃ wq, wq = wr.setCell ⟨B + 1, i, none⟩ (.int .u8 ((s[i]).toNat : Int)) := ⟨_, rfl⟩
      have M2 := Lib.hid (show KIn (B + 1) (rowK s.data.toList (i + 1)) wq by rw [hwq, ← HNX.out]; exact M.out.set i _)
      have N2 := Lib.hid (show KIn B zero32 wq by rw [hwq]; unfold KIn; rw [heap_set_other (by omega)]; exact N.out)
      have K2 := Lib.hid (show Below w.heap.size w wq by rw [hwq]; exact K.out.setCell (p := ⟨B + 1, i, none⟩) (by rw [← HB.out]; show B ≤ B + 1; omega) _)
      have HWQ := Lib.hid hwq
      clear hwq hsi
      go_wp2
      rw [← HWQ.out]
      go_roundw
      case rel => exact ⟨i + 1, by omega, by go_num, M2.out, N2.out, K2.out⟩
      case measure => simp [intOf]; omega
    · obtain rfl : i = 32 := by omega
      have hl32 : (s.data.toList.take 32).length = 32 := by rw [List.length_take, HL.out]; omega
      have M2 := Lib.hid (show wr.rangeAt (B + 1) 0 (kcs (s.data.toList.take 32)) by rw [← rowK_all]; exact M.out.range)
      have T2 := Lib.hid (N.out.there (kcs (s.data.toList.take 32)).toArray.size (by simp [kcs_len, hl32, zero32_len]))
      have I2 := Lib.hid (info_keyA hl32)
      have IL := Lib.hid (info_keyL hl32)
      go_wp2_with (first | (refine wpList_load_mid rfl 23 (.tmp 3) rfl (B + 1) 0 rfl (kcs (s.data.toList.take 32)) _ M2.out Try.underlying23 rfl IL.out ?_) | (refine wpList_store_mid rfl 23 (.tmp 2) (.tmp 14) rfl B 0 (kcs (s.data.toList.take 32)).toArray rfl rfl T2.out I2.out (kcs_arr_one _) ?_) | fail)
      refine bodyPost_ret (v := .agg (kcs (s.data.toList.take 32)).toArray) (results_cell1 rfl _ _ _ B 0 (kcs (s.data.toList.take 32)) _ rfl (by rw [List.toList_toArray]; exact World.rangeAt_setCells_same wr B 0 _ (by simpa using T2.out)) Try.underlying23 rfl IL.out) rfl ⟨rfl, ?_⟩
      exact below_setCells (by rw [← HB.out]; exact Nat.le_refl _) _ 0 K.out
end Go.Proofs.Ytlpknhiagdhkcaa
