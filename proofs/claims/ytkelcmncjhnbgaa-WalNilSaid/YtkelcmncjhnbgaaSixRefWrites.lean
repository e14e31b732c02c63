/- The document's own answers: how siloref01 writes numbers and texts. -/
import Derived.Test.YtkelcmncjhnbgaaSixReader
import Derived.Laws.IdiomStrings
set_option linter.unusedVariables false
set_option maxRecDepth 100000
namespace Go.Proofs.Ytkelcmncjhnbgaa
open Go.RowKit

theorem conv_one (W : World) (c : Nat) (hc : c ≤ 255) : (convert 34 9 (.slice (some ⟨W.heap.size, 0, none⟩) 1 1)).run Try.prog (W.alloc (.cells #[.int .u8 (c : Int)] 5)) = .ok (.string (bs [UInt8.ofNat c])) (W.alloc (.cells #[.int .u8 (c : Int)] 5)) := by
  refine run_convert_bytes_back (P := Try.prog) _ 34 9 5 ⟨W.heap.size, 0, none⟩ 1 [UInt8.ofNat c] Try.underlying34 Try.underlying5 Try.underlying9 ?_
  intro j hj
  have hj0 : j = 0 := by simpa using hj
  subst hj0
  have hn : (UInt8.ofNat c).toNat = c := toNat_ofNat (by omega)
  simp only [List.getElem_cons_zero, hn]
  exact cell_one_new W (.int .u8 (c : Int)) 5 0 _ rfl

theorem rets {a a' : ByteArray} (h : a' = a) : Ending.returned (.string a) = Ending.returned (.string a') := by rw [h]

theorem lead_tail_len {q : Nat} {t g : List UInt8} (h : lead q ++ t = g) (hg : g.length ≤ 11) : t.length ≤ 11 := by
  rw [← h, List.length_append] at hg
  omega

set_option maxHeartbeats 400000 in
theorem ref_groups (x mark : Nat) (w : World) (hx : x ≤ 9223372036854775807) (hm : mark = 64 ∨ mark = 128) :
    Calls Try.prog 74 #[.int .u64 x, .int .i64 mark] w fun e w' => e = .returned (.string (bs (grp x mark))) ∧ Below w.heap.size w w' := by
  have HM := Lib.hid hm
  have hm1 : (mark : Int) ≤ 128 := by omega
  have hm2 : (0 : Int) ≤ mark := by omega
  obtain ⟨c, hc⟩ : ∃ c, c = mark + x % 64 := ⟨_, rfl⟩
  have hcv : ((mark : Int) + (x : Int) % 64) = (c : Int) := by omega
  have hc1 : c ≤ 255 := by omega
  have hconv := fun W : World => conv_one W c hc1
  have HC := Lib.hid hc
  clear hm hc
  have hlen := (grp_len (n := x) (mark := mark) (by omega)).1
  obtain ⟨g, hg⟩ : ∃ g, g = grp x mark := ⟨_, rfl⟩
  rw [← hg] at hlen ⊢
  have HL := Lib.hid hlen
  have h0 : lead (x / 64) ++ [UInt8.ofNat c] = g := by rw [hg, HC.out]; rfl
  have H0 := Lib.hid h0
  clear hlen hg h0
  go_enter Try.func74, Try.ntmps74
  go_wp2_with fail
  go_loopw [0, 5] (fun y s wr => ∃ (q : Nat) (t : List UInt8), q ≤ 9223372036854775807 ∧ y = .int .u64 q ∧ s = .string (bs t) ∧ Hid (lead q ++ t = g) ∧ Below w.heap.size w wr) (fun y s wr => (intOf y).toNat)
  case atStart => exact ⟨x / 64, [UInt8.ofNat c], by omega, by go_num, rfl, H0, (Below.refl _ _).alloc (Nat.le_refl _) _⟩
  case round =>
    obtain ⟨q, t, hq, rfl, rfl, ht, hbw⟩ := hrel
    have HB := Lib.hid hbw
    clear hbw hconv hcv hc1
    by_cases hq0 : 0 < (q : Int)
    · obtain ⟨d, hd⟩ : ∃ d, d = q % 64 := ⟨_, rfl⟩
      have hdv : ((q : Int) % 64) = (d : Int) := by omega
      have hd1 : d ≤ 255 := by omega
      have hconv := fun W : World => conv_one W d hd1
      have hcat : bs [UInt8.ofNat d] ++ bs t = bs (UInt8.ofNat d :: t) := bs_eq (by simp [bs])
      have hsum : ((bs [UInt8.ofNat d]).size : Int) + ((bs t).size : Int) ≤ 9223372036854775807 := by
        rw [bs_size, bs_size]
        have := lead_tail_len ht.out HL.out
        simp
        omega
      have HD := Lib.hid hd
      clear hd
      go_wp2
      go_roundw
      case rel =>
        refine ⟨q / 64, UInt8.ofNat d :: t, by omega, by go_num, rfl, ?_, HB.out.alloc HB.out.size _⟩
        have := ht.out
        rw [lead_pos (by omega), ← HD.out] at this
        show lead (q / 64) ++ (UInt8.ofNat d :: t) = g
        rw [← this]
        simp
      case measure => simp [intOf]; omega
    · go_wp2
      go_ret
      have hq1 : q = 0 := by omega
      have := ht.out
      rw [hq1, lead_zero, List.nil_append] at this
      exact ⟨rets (by rw [this]), HB.out⟩

set_option maxHeartbeats 400000 in
theorem ref_Whole (n : Int) (w : World) (hn1 : -9223372036854775808 ≤ n) (hn2 : n ≤ 9223372036854775807) :
    Calls Try.prog 67 #[.int .i64 n] w fun e w' => e = .returned (.string (bs (whole n))) ∧ Below w.heap.size w w' := by
  by_cases h0 : n < 0
  · obtain ⟨m, hm⟩ : ∃ m : Nat, -1 - n = m := ⟨(-1 - n).toNat, by omega⟩
    have hg := Lib.hid (show whole n = grp m 128 by unfold whole; rw [if_pos h0, hm]; rfl)
    have hm1 : m ≤ 9223372036854775807 := by omega
    have hv : -(n + 1) = (m : Int) := by omega
    have hv2 : IntKind.i64.wrap (n + 1) = n + 1 := IntWalk.i64_in _ (by omega)
    clear hm
    go_enter Try.func67, Try.ntmps67
    go_wp2_with fail
    refine (ref_groups m 128 w hm1 (.inr rfl)).mono ?_
    rintro e w2 ⟨rfl, k2⟩
    have K2 := Lib.hid k2
    clear k2
    go_wp2
    go_ret
    exact ⟨rets (by rw [hg.out]), K2.out⟩
  · obtain ⟨m, rfl⟩ : ∃ m : Nat, n = m := ⟨n.toNat, by omega⟩
    have hg := Lib.hid (show whole m = grp m 64 by unfold whole; rw [if_neg (by omega)]; rfl)
    go_enter Try.func67, Try.ntmps67
    go_wp2_with fail
    refine (ref_groups m 64 w (by omega) (.inl rfl)).mono ?_
    rintro e w2 ⟨rfl, k2⟩
    have K2 := Lib.hid k2
    clear k2
    go_wp2
    go_ret
    exact ⟨rets (by rw [hg.out]), K2.out⟩

set_option maxHeartbeats 400000 in
theorem ref_Text (s : ByteArray) (w : World) (hs : s.size ≤ 140737488355328) :
    Calls Try.prog 50 #[.string s] w fun e w' => e = .returned (.string (bs (text s.data.toList))) ∧ Below w.heap.size w w' := by
  have hl := (whole_len (n := (s.size : Int)) (by omega) (by omega)).1
  have hcat : bs (whole (s.size : Int)) ++ s = bs (text s.data.toList) := bs_eq (by unfold text; rw [← Lib.size_eq]; obtain ⟨⟨x⟩⟩ := s; simp [bs])
  have hsum : ((bs (whole (s.size : Int))).size : Int) + (s.size : Int) ≤ 9223372036854775807 := by rw [bs_size]; omega
  clear hl
  go_enter Try.func50, Try.ntmps50
  go_wp2_with fail
  refine (ref_Whole (s.size : Int) w (by omega) (by omega)).mono ?_
  rintro e w2 ⟨rfl, k2⟩
  have K2 := Lib.hid k2
  clear k2
  go_wp2
  go_ret
  exact ⟨rfl, K2.out⟩

end Go.Proofs.Ytkelcmncjhnbgaa
