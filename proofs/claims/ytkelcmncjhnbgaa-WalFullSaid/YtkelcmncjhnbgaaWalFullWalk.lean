/- WalFull, walked: a group for which there is no room is not written, waits, and is written where there is room. -/
import Derived.Test.YtkelcmncjhnbgaaWalReplaysWalk
set_option linter.unusedVariables false
set_option maxRecDepth 100000
namespace Go.Proofs.Ytkelcmncjhnbgaa
open Go.RowKit

theorem Lg.low {B lb d wt wr su : Nat} {w w' : World} {s : DS} {file : Int} {F : List UInt8} (h : Lg (New (fun k => B ≤ k) w) w' lb d s file F wt wr su) (hB : B ≤ w.heap.size) : Lg (fun k => B ≤ k) w' lb d s file F wt wr su :=
  h.mono fun k _ hk => by rcases hk with hk | hk; (exact hk); (exact Nat.le_trans hB hk)
theorem Lg.disk {O : Nat → Prop} {w : World} {lb d wt wr su : Nat} {s : DS} {file : Int} {F : List UInt8} (h : Lg O w lb d s file F wt wr su) : ∃ S, Disk S w d s := by
  obtain ⟨S, fv, h1, _⟩ := h
  exact ⟨S, h1⟩
theorem file1_sync (r : Nat) (b : List UInt8) (st : Nat) : ∃ s2, (file1 r b st).sync 1 = (s2, 0) := by
  unfold DS.sync
  rw [if_neg (by simp [file1]), file1_find]
  simp only
  rw [if_neg (by simp [file1])]
  exact ⟨_, rfl⟩
theorem file1_size (r : Nat) (b : List UInt8) (st : Nat) : (file1 r b st).size 1 = ((b.length : Int), 0, 0) := by
  unfold DS.size
  rw [if_neg (by simp [file1]), file1_find]
theorem file1_read (r : Nat) (b : List UInt8) (st : Nat) : (file1 r b st).read 1 0 (b.length : Int) = (b, 0) := by
  unfold DS.read
  rw [if_neg (by simp [file1]), file1_find]
  simp only
  rw [if_neg (by omega)]
  simp

set_option maxHeartbeats 8000000 in
theorem full_walk {a : Option Addr} {len cap : Nat} {T : List (List UInt8)} {w : World} (h : Hid (TxV w (.slice a len cap) T)) (hbig : len ≤ 9223372036854775807) (hs : Hid (∀ t ∈ T, t.length ≤ 9223372036854775807)) (x : Int) (hx : 0 ≤ x ∧ x ≤ 255) :
    Calls Try.prog 7 #[.slice a len cap, .int .u8 x] w fun e w' => e = .returned (.bool true) ∧ Below w.heap.size w w' := by
  obtain ⟨r, hr⟩ : ∃ r : Nat, (1 : Int) + x = (r : Int) := ⟨(1 + x).toNat, by omega⟩
  have hr1 : 1 ≤ r ∧ r ≤ 256 := by omega
  go_enter Try.func7, Try.ntmps7
  go_wp2_with fail
  refine (law_awake w).mono ?_
  rintro e w1 ⟨rfl, k1⟩
  have K1 := Lib.hid k1
  clear k1
  go_wp2_with fail
  refine (law_few (Lib.hid (h.out.below K1.out)) hbig hs).mono ?_
  rintro e w2 ⟨b, rfl, hb, rfl⟩
  have HB := Lib.hid hb
  clear hb
  have stop : ∀ w1 : World, Hid (Below w.heap.size w w1) → Calls Try.prog 9 #[] w1 fun e w' => e = .returned (.bool true) ∧ Below w.heap.size w w' := fun w1 k => (law_awake w1).mono fun e w' ⟨h1, h2⟩ => ⟨h1, k.out.trans (h2.mono k.out.size)⟩
  cases b with
  | false =>
    go_wp2_with fail
    refine (stop w1 K1).mono ?_
    rintro e w3 ⟨rfl, k3⟩
    go_wp2
    go_ret
    exact ⟨rfl, k3⟩
  | true =>
    by_cases hl0 : len = 0
    · have hl0' : ((len : Int) == 0) = true := by rw [hl0]; rfl
      clear hl0
      go_wp2_with fail
      refine (stop w1 K1).mono ?_
      rintro e w3 ⟨rfl, k3⟩
      go_wp2
      go_ret
      exact ⟨rfl, k3⟩
    · have hl0' : ((len : Int) == 0) = false := beq_eq_false_iff_ne.2 (by omega)
      have HF := Lib.hid (HB.out rfl)
      have HL := Lib.hid h.out.len
      have hlen : len ≤ 200 := by rw [HL.out]; exact HF.out.len
      clear HB stop
      obtain ⟨B, hBw⟩ : ∃ B, B = w.heap.size := ⟨_, rfl⟩
      go_wp2_with fail
      refine (at_New r 0 w1 (by omega) (by omega)).mono ?_
      rintro e w2 ⟨d, rfl, d2, k2⟩
      have D2 := Lib.hid (show Disk (fun k => w.heap.size ≤ k) w2 d (DS.new r 0) from d2.1.mono fun k _ hk => Nat.le_trans K1.out.size hk)
      have K2 := Lib.hid (K1.out.trans (k2.mono K1.out.size))
      clear d2 k2
      go_wp2_with fail
      refine (wal_Begin D2 one_wf (by simp [DS.new]) (Lib.hid (new_make hr1.1))).mono ?_
      rintro e w3 (⟨hz, _⟩ | ⟨_, lb, hlb, rfl, l3, o3⟩)
      · exact absurd rfl hz
      · have L3 := Lib.hid (l3.low K2.out.size)
        have K3 := Lib.hid (K2.out.trans (o3.below (B := w.heap.size) (fun k _ hk => hk) K2.out.size))
        clear l3 o3 D2 K2 K1 hlb
        go_wp2_with fail
        go_loopw [9, 10] (fun av iv wr => ∃ i : Nat, i ≤ len ∧ iv = .int .i64 (i : Int) ∧ av = .string (bs (framesL (T.take i))) ∧ Hid (Below w.heap.size w wr ∧ Lg (fun k => w.heap.size ≤ k) wr lb d (file1 r [] 1) 1 (framesL (T.take i)) i 0 0)) (fun av iv wr => len - (intOf iv).toNat)
        case atStart => exact ⟨0, Nat.zero_le _, rfl, rfl, Lib.hid ⟨K3.out, L3.out⟩⟩
        case round =>
          clear K3 L3
          obtain ⟨i, hi, rfl, rfl, hK⟩ := hrel
          rcases Nat.lt_or_ge i len with hlt | hge
          · obtain ⟨t, ht⟩ : ∃ t, T[i]? = some t := ⟨_, List.getElem?_eq_getElem (by have := HL.out; omega)⟩
            obtain ⟨b, off, rfl, hb0, hcw⟩ := h.out.at ht
            have hc : wr.cell? ⟨b, off + i, none⟩ = some (.string (bs t)) := by rw [hK.out.1.cell (p := ⟨b, off + i, none⟩) hb0]; exact hcw
            have HB0 := Lib.hid (And.intro hb0 hcw)
            clear hb0 hcw
            have hlt2 : (i : Int) < (len : Int) := by omega
            have htl : t.length ≤ 30000 := HF.out.mem (List.mem_of_getElem? ht)
            have hcat : bs (framesL (T.take i)) ++ bs (frameL t) = bs (framesL (T.take (i + 1))) := by rw [frames_snoc ht, bs_cat, bs_list]
            have HSN := Lib.hid (frames_snoc ht)
            have hF9 : (framesL (T.take i)).length ≤ 33000 := by have := frames_take T i; have := HF.out.frames; omega
            have hsz2 : ((bs (framesL (T.take i))).size : Int) + ((bs (frameL t)).size : Int) ≤ 9223372036854775807 := by
              have := frameL_le (r := t) (by omega)
              rw [bs_size, bs_size]
              omega
            have HC := Lib.hid hc
            clear ht hc
            have hc := HC.out
            go_wp2_with fail
            refine (log_Add (Lib.hid hK.out.2) (by omega) (by omega) (by omega)).mono ?_
            rintro e w4 ⟨rfl, l4, o4⟩
            have K4 := Lib.hid (hK.out.1.trans (o4.below (B := w.heap.size) (fun k _ hk => hk) hK.out.1.size))
            have L4 := Lib.hid (l4.low hK.out.1.size)
            have hc4 : w4.cell? ⟨b, off + i, none⟩ = some (.string (bs t)) := by rw [K4.out.cell (p := ⟨b, off + i, none⟩) HB0.out.1]; exact HB0.out.2
            clear l4 o4 hc
            go_wp2_with fail
            refine (ref_Frame t w4 (by omega)).mono ?_
            rintro e w5 ⟨rfl, k5⟩
            have K5 := Lib.hid (K4.out.trans (k5.mono K4.out.size))
            have L5 := Lib.hid (L4.out.below k5)
            clear k5
            go_wp2_with fail
            go_roundw
            case rel => exact ⟨i + 1, by omega, by go_num, rfl, Lib.hid ⟨K5.out, by rw [HSN.out]; exact L5.out⟩⟩
            case measure => simp [intOf]; omega
          · have hie : i = len := by omega
            subst hie
            have HE := Lib.hid (show T.take i = T by rw [HL.out]; exact List.take_length)
            rw [HE.out] at hK ⊢
            obtain ⟨A, hA⟩ : ∃ A, A = framesL T := ⟨_, rfl⟩
            obtain ⟨n, hn⟩ : ∃ n, n = (framesL T).length := ⟨_, rfl⟩
            have hn2 : n ≤ 33000 ∧ 0 < n := by have := HF.out.frames; have := frames_many T; have := HL.out; omega
            have hAl : A.length = n := by rw [hA, hn]
            have hAz : (bs A).size = n := by rw [bs_size, hAl]
            rw [← hA] at hK ⊢
            clear hA hn
            obtain ⟨q, hq⟩ : ∃ q : Nat, ((n : Int) + 63) / 64 = (q : Int) := ⟨(n + 63) / 64, by omega⟩
            have hblk : blk A.length = 1 + q := by unfold blk; rw [hAl]; omega
            go_wp2_with fail
            by_cases hfull : r < 1 + q
            · have HADD := Lib.hid (show (file1 r [] 1).add 1 A = (file1 r [] 1, 7) by rw [file1_add, if_pos (by rw [hblk]; exact hfull)])
              have hgt : x < (q : Int) := by omega
              refine (log_Write (Lib.hid hK.out.2) one_wf (by simp [file1]) (by omega) (by omega) (by omega) HADD).mono ?_
              rintro e w4 ⟨rfl, l4, _, o4⟩
              have K4 := Lib.hid (hK.out.1.trans (o4.below (B := w.heap.size) (fun k _ hk => hk) hK.out.1.size))
              have L4 := Lib.hid (l4 (by decide))
              clear l4 o4
              go_wp2_with fail
              refine (log_Counts L4).mono ?_
              rintro e w5 ⟨rfl, m5, rfl⟩
              have K5 := Lib.hid (below_drewN K4.out m5)
              obtain ⟨S4, d4⟩ := L4.out.disk
              have D5 := Lib.hid (d4.drewN m5)
              generalize w4.drewN m5 = w5 at *
              go_wp2_with fail
              refine (disk_Size D5.out 1 one_wf).mono ?_
              rintro e w6 ⟨rfl, m6, rfl⟩
              rw [file1_size]
              have K6 := Lib.hid (below_drewN K5.out m6)
              generalize w5.drewN m6 = w6 at *
              go_wp2_with fail
              go_ret
              exact ⟨rfl, K6.out⟩
            · have HADD := Lib.hid (show (file1 r [] 1).add 1 A = (file1 r A 2, 0) by rw [file1_add, if_neg (by rw [hblk]; exact hfull)])
              have hgt : ¬ x < (q : Int) := by omega
              refine (log_Write (Lib.hid hK.out.2) one_wf (by simp [file1]) (by omega) (by omega) (by omega) HADD).mono ?_
              rintro e w4 ⟨rfl, _, l4, o4⟩
              have K4 := Lib.hid (hK.out.1.trans (o4.below (B := w.heap.size) (fun k _ hk => hk) hK.out.1.size))
              have L4 := Lib.hid (l4 rfl)
              clear l4 o4
              go_wp2_with fail
              refine (log_Counts L4).mono ?_
              rintro e w5 ⟨rfl, m5, rfl⟩
              have K5 := Lib.hid (below_drewN K4.out m5)
              have L5 := Lib.hid (L4.out.below (below_drewN (Below.refl _ w4) m5))
              obtain ⟨S4, d4⟩ := L5.out.disk
              have D5 := Lib.hid d4
              clear d4 L4
              generalize w4.drewN m5 = w5 at *
              go_wp2_with fail
              refine (disk_Size D5.out 1 one_wf).mono ?_
              rintro e w6 ⟨rfl, m6, rfl⟩
              rw [file1_size, hAl]
              have K6 := Lib.hid (below_drewN K5.out m6)
              have L6 := Lib.hid (L5.out.below (below_drewN (Below.refl _ w5) m6))
              have D6 := Lib.hid (D5.out.drewN m6)
              have HRD := Lib.hid (file1_read r A 2)
              rw [hAl] at HRD
              clear L5 D5
              generalize w5.drewN m6 = w6 at *
              go_wp2_with fail
              refine (disk_Read D6.out 1 0 (n : Int) one_wf (by omega)).mono ?_
              rintro e w7 ⟨rfl, rfl⟩
              rw [HRD.out]
              obtain ⟨s8, hs8⟩ := file1_sync r A 2
              have HS8 := Lib.hid hs8
              clear hs8
              go_wp2_with fail
              refine (log_Sync L6 one_wf (by simp [file1]) HS8).mono ?_
              rintro e w8 ⟨rfl, _, _, o8⟩
              have K8 := Lib.hid (K6.out.trans (o8.below (B := w.heap.size) (fun k _ hk => by rcases hk with hk | hk; (exact hk); (exact Nat.le_trans hK.out.1.size hk)) K6.out.size))
              clear o8
              go_wp2_with fail
              go_ret
              exact ⟨rfl, K8.out⟩
end Go.Proofs.Ytkelcmncjhnbgaa
