/- The program's Pack. -/
import Derived.Test.YtmmdhmhcfpghfaaBlockPut
set_option linter.unusedVariables false
set_option maxRecDepth 100000
namespace Go.Proofs.Ytmmdhmhcfpghfaa
open Go.RowKit

/-- The last key, or the one ahead. -/
def lastK : List UInt8 → List Ent → List UInt8
  | last, [] => last
  | _, x :: T => lastK x.key T
theorem entsB_snoc (x : Ent) : ∀ (T : List Ent) (last : List UInt8), entsB last (T ++ [x]) = entsB last T ++ entB (lastK last T) x
  | [], last => by simp [entsB, lastK]
  | y :: T, last => by
    show entB last y ++ entsB y.key (T ++ [x]) = _
    rw [entsB_snoc x T y.key]
    simp [entsB, lastK]
theorem lastK_snoc (x : Ent) : ∀ (T : List Ent) (last : List UInt8), lastK last (T ++ [x]) = x.key
  | [], _ => rfl
  | y :: T, _ => lastK_snoc x T y.key
theorem take_ent {T : List Ent} {k : Nat} {x : Ent} (h : T[k]? = some x) : T.take (k + 1) = T.take k ++ [x] := by rw [List.take_add_one, h]; rfl
/-- Entries of sizes that may be packed. -/
def smallE (T : List Ent) : Prop := ∀ x ∈ T, x.key.length ≤ 65536 ∧ x.val.length ≤ 65536
theorem smallE.take {T : List Ent} (h : smallE T) (k : Nat) : smallE (T.take k) := fun x hx => h x (List.mem_of_mem_take hx)
theorem lastK_le : ∀ (T : List Ent) (last : List UInt8), last.length ≤ 65536 → smallE T → (lastK last T).length ≤ 65536
  | [], last, h, _ => h
  | x :: T, _, _, h => lastK_le T x.key (h x (by simp)).1 fun y hy => h y (by simp [hy])
theorem entB_len {last : List UInt8} {x : Ent} (h : x.key.length ≤ 65536 ∧ x.val.length ≤ 65536) : (entB last x).length ≤ 140000 := by
  have h1 := (shared_le last x.key).2
  have a1 := (whole_len (n := (sharedL last x.key : Int)) (by omega) (by omega)).1
  have h2 : (x.key.drop (sharedL last x.key)).length ≤ 65536 := by rw [List.length_drop]; omega
  have a2 := (whole_len (n := ((x.key.drop (sharedL last x.key)).length : Int)) (by omega) (by omega)).1
  have a3 := (whole_len (n := (0 : Int)) (by omega) (by omega)).1
  have a4 := (whole_len (n := ((x.val.length + 1 : Nat) : Int)) (by omega) (by omega)).1
  unfold entB text
  rw [List.length_append, List.length_append, List.length_append]
  split
  · omega
  · rw [List.length_append]; omega
theorem entsB_len : ∀ (T : List Ent) (last : List UInt8), smallE T → (entsB last T).length ≤ T.length * 140000
  | [], _, _ => by simp [entsB]
  | x :: T, last, h => by
    have h1 := entB_len (last := last) (h x (by simp))
    have h2 := entsB_len T x.key fun y hy => h y (by simp [hy])
    simp only [entsB, List.length_append, List.length_cons]
    omega

theorem block_putter (w : World) : Calls Try.prog 21 #[] w fun e w' => e = .returned (.func (.func 41) #[] #[.pointer (some ⟨w.heap.size, 0, none⟩)]) ∧ w.alloc (.cells #[.string (bs [])] 9) = w' := by
  go_enter Try.func21, Try.ntmps21
  go_wp2
  go_ret
  exact ⟨rfl, rfl⟩

set_option maxHeartbeats 2000000 in
theorem put_list (B b c : Nat) (T : List Ent) (a : Option Addr) (len cap : Nat) (w : World) (h : Wt B b [] w) (hc : Bx c [] w) (hbc : c ≠ b) (hBc : B ≤ c) (hT : Hid (∀ w', Below B w w' → IsE w' a len T)) (hl : len ≤ 65536) (hs : Hid (smallE T)) :
    Calls Try.prog 20 #[.pointer (some ⟨b, 0, none⟩), .slice a len cap, .func (.func 41) #[] #[.pointer (some ⟨c, 0, none⟩)]] w fun e w' => e = .returned (.int .i64 0) ∧ Wt B b (listB T) w' ∧ Below B w w' := by
  have hf : ∀ w : World, (binOp .eql 49 (.func (.func 41) #[] #[.pointer (some ⟨c, 0, none⟩)]) .nilFunc).run Try.prog w = .ok (.bool false) w := fun _ => by kernel_rfl
  have HW := Lib.hid h
  have HC := Lib.hid hc
  have HBC := Lib.hid (And.intro hbc hBc)
  have hlen := Lib.hid (show len = T.length from (hT.out w (Below.refl _ _)).1)
  clear h hc hbc hBc
  go_enter Try.func20, Try.ntmps20
  go_wp2_with fail
  refine (six_CountO B b [] len w HW.out (by omega) (by simp)).mono ?_
  rintro e w2 ⟨rfl, h2, k2⟩
  rw [List.nil_append] at h2
  have H2 := Lib.hid h2
  have C2 := Lib.hid (show Bx c [] w2 from k2.keeps HC.out HBC.out.1 (by decide))
  have K2 := Lib.hid k2.bel
  clear h2 k2
  go_wp2_with fail
  go_loopw [21] (fun i wr => ∃ k : Nat, k ≤ len ∧ i = .int .i64 k ∧ Wt B b (whole (len : Int) ++ entsB [] (T.take k)) wr ∧ Bx c (lastK [] (T.take k)) wr ∧ Below B w wr) (fun i wr => len - (intOf i).toNat)
  case atStart => exact ⟨0, Nat.zero_le _, rfl, by simpa [entsB] using H2.out, by simpa [lastK] using C2.out, K2.out⟩
  case round =>
    obtain ⟨k, hk, rfl, hwt, hcr, hbw⟩ := hrel
    have HWr := Lib.hid hwt
    have HCr := Lib.hid hcr
    have HK := Lib.hid hbw
    clear hwt hcr hbw
    by_cases hlt : k < len
    · obtain ⟨b1, off, x, rfl, hx, _, hcell⟩ := (hT.out wr HK.out).at hlt
      have hsx := Lib.hid (hs.out x (List.mem_of_getElem? hx))
      have hnext := Lib.hid (show entsB [] (T.take (k + 1)) = entsB [] (T.take k) ++ entB (lastK [] (T.take k)) x by rw [take_ent hx, entsB_snoc])
      have hlast := Lib.hid (show lastK [] (T.take (k + 1)) = x.key by rw [take_ent hx, lastK_snoc])
      have c0 := hcell.c0
      have c1 := hcell.c1
      have c2 := hcell.c2
      have hbB := Lib.hid HWr.out.lt
      have hbc2 := Lib.hid (heap_lt HCr.out)
      have A1 := Lib.hid (HWr.out.alloc (.cells #[.string (bs x.key), .string (bs x.val), .bool x.gone] 44))
      have A2 := Lib.hid (show Bx c (lastK [] (T.take k)) (wr.alloc (.cells #[.string (bs x.key), .string (bs x.val), .bool x.gone] 44)) from (Below.heap_alloc wr _ c hbc2.out).trans HCr.out)
      have A3 := Lib.hid (HK.out.alloc (by have := HWr.out.le; have := hbB.out; omega) (.cells #[.string (bs x.key), .string (bs x.val), .bool x.gone] 44))
      have hll := Lib.hid (show (whole (len : Int) ++ entsB [] (T.take k)).length ≤ 100000000000000 by
        have h0 := (whole_len (n := (len : Int)) (by omega) (by omega)).1
        have h1 := entsB_len (T.take k) [] (hs.out.take k)
        rw [List.length_take] at h1
        rw [List.length_append]
        omega)
      clear hx hcell HWr HCr HK
      go_wp2_with fail
      refine (put_entry B b c _ _ x _ A1.out A2.out HBC.out.1 HBC.out.2 hll.out (lastK_le _ _ (by simp) (hs.out.take k)) hsx.out.1 hsx.out.2).mono ?_
      rintro e w3 ⟨rfl, h3, c3, k3⟩
      have HW3 := Lib.hid h3
      have HC3 := Lib.hid c3
      have HK3 := Lib.hid (A3.out.trans k3)
      clear h3 c3 k3 c0 c1 c2
      go_wp2
      go_roundw
      case rel => exact ⟨k + 1, by omega, by go_num, by rw [hnext.out, ← List.append_assoc]; exact HW3.out, by rw [hlast.out]; exact HC3.out, HK3.out⟩
      case measure => simp [intOf]; omega
    · have hwall := Lib.hid (show Wt B b (listB T) wr by
        have := HWr.out
        rw [List.take_of_length_le (by rw [← hlen.out]; omega), hlen.out] at this
        exact this)
      clear HWr
      go_wp2
      go_ret
      exact ⟨rfl, hwall.out, HK.out⟩

/-- What Pack answers. -/
def packB (T : List Ent) : List UInt8 := if chkE T = 0 then listB T ++ four (sumL (listB T)) else []
theorem listB_len {T : List Ent} (hs : smallE T) (hl : T.length ≤ 65536) : (listB T).length ≤ 10000000000 := by
  have h0 := (whole_len (n := (T.length : Int)) (by omega) (by omega)).1
  have h1 := entsB_len T [] hs
  unfold listB
  rw [List.length_append]
  omega
theorem smallE_of {T : List Ent} : ∀ {first : Bool} {last : List UInt8}, okEs first last T → smallE T := by
  induction T with
  | nil => exact fun _ x hx => by cases hx
  | cons y T ih =>
    intro first last h x hx
    rcases List.mem_cons.1 hx with rfl | hx
    · exact ⟨h.1.1, h.1.2.1⟩
    · exact ih h.2 x hx
set_option maxHeartbeats 1000000 in
theorem block_Pack (a : Option Addr) (len cap : Nat) (T : List Ent) (w : World) (hT : Hid (IsE w a len T)) (hl : len ≤ 9223372036854775807) (hs : Hid (fitE T)) :
    Calls Try.prog 9 #[.slice a len cap] w fun e w' => e = .returned (.tuple #[.string (bs (packB T)), .int .i64 (chkE T)]) ∧ Below w.heap.size w w' := by
  by_cases h0 : chkE T = 0
  · obtain ⟨hok, hlen⟩ := (chkE_ok T).1 h0
    have hsm := Lib.hid (smallE_of hok)
    have hle : len ≤ 65536 := by rw [hT.out.1]; exact hlen
    have hb := Lib.hid (listB_len hsm.out hlen)
    have hres := Lib.hid (show packB T = listB T ++ four (sumL (listB T)) by unfold packB; rw [if_pos h0])
    have hchk := block_Check a len cap T w hT hl hs
    rw [h0] at hchk ⊢
    have HCHK := Lib.hid hchk
    clear hchk h0 hok hlen
    go_enter Try.func9, Try.ntmps9
    go_wp2_with fail
    refine HCHK.out.mono ?_
    rintro e w1 ⟨rfl, k1⟩
    have K1 := Lib.hid k1
    clear k1
    go_wp2_with fail
    refine (six_New w1).mono ?_
    rintro e w2 ⟨rfl, hw2⟩
    obtain ⟨B, hB⟩ : ∃ B, B = w1.heap.size := ⟨_, rfl⟩
    have H2 := Lib.hid (show Wt B B [] w2 by rw [← hw2, hB]; exact wt_new w1)
    have K2 := Lib.hid (show Below B w1 w2 by rw [← hw2, hB]; exact (Below.refl _ _).alloc (Nat.le_refl _) _)
    have S2 := Lib.hid (show w2.heap.size = B + 1 by rw [← hw2, hB]; simp)
    rw [← hB]
    have HB := Lib.hid hB
    clear hw2 hB
    go_wp2_with fail
    refine (block_putter w2).mono ?_
    rintro e w3 ⟨rfl, hw3⟩
    have H3 := Lib.hid (show Wt B B [] w3 by rw [← hw3]; exact H2.out.alloc _)
    have K3 := Lib.hid (show Below B w1 w3 by rw [← hw3]; exact K2.out.alloc (by have := S2.out; omega) _)
    have C3 := Lib.hid (show Bx w2.heap.size [] w3 by rw [← hw3]; exact heap_new w2 _)
    clear hw3
    go_wp2_with fail
    refine (put_list B B w2.heap.size T a len cap w3 H3.out C3.out (by have := S2.out; omega) (by have := S2.out; omega) (Lib.hid fun w' hk => hT.out.below ((K1.out.trans ((K3.out.trans hk).mono (by rw [HB.out]; exact K1.out.size))))) hle hsm).mono ?_
    rintro e w4 ⟨rfl, h4, k4⟩
    have H4 := Lib.hid h4
    have K4 := Lib.hid (K3.out.trans k4)
    clear h4 k4
    go_wp2_with fail
    refine (six_Bytes B B _ w4 H4.out).mono ?_
    rintro e w5 ⟨rfl, _, k5, _⟩
    have K5 := Lib.hid (K4.out.trans k5)
    clear k5
    go_wp2_with fail
    refine (crc_Put (bs (listB T)) w5 (by rw [bs_size]; have := hb.out; omega)).mono ?_
    rintro e w6 ⟨rfl, k6⟩
    rw [bs_list, ← hres.out]
    have K6 := Lib.hid (K5.out.trans (k6.mono (by have := K5.out.size; rw [HB.out]; omega)))
    clear k6
    go_wp2_with fail
    go_ret2
    exact ⟨rfl, K1.out.trans (K6.out.mono (by rw [HB.out]; exact K1.out.size))⟩
  · have hres := Lib.hid (show packB T = [] by unfold packB; rw [if_neg h0])
    have hne : (chkE T == 0) = false := beq_eq_false_iff_ne.2 h0
    have HCHK := Lib.hid (block_Check a len cap T w hT hl hs)
    obtain ⟨e, he⟩ : ∃ e, e = chkE T := ⟨_, rfl⟩
    rw [← he] at HCHK hne ⊢
    rw [hres.out]
    clear h0 he hres
    go_enter Try.func9, Try.ntmps9
    go_wp2_with fail
    refine HCHK.out.mono ?_
    rintro e w1 ⟨rfl, k1⟩
    go_wp2_with fail
    go_ret2
    exact ⟨rfl, k1⟩
end Go.Proofs.Ytmmdhmhcfpghfaa
