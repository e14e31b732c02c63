/- The document's own answers: a list of texts; whether two lists are alike. -/
import Derived.Test.YtnadgcbiichmhaaTakes
set_option linter.unusedVariables false
namespace Go.Proofs.Ytnadgcbiichmhaa
open Go.RowKit

theorem lst_len (l : List UInt8) (n : Nat) : ∀ T k, T.length ≤ k → k ≤ l.length → (lst l n T k).1.length ≤ l.length := by
  induction n with
  | zero => intro T k h1 h2; simp only [lst]; omega
  | succ n ih =>
    intro T k h1 h2
    simp only [lst]
    by_cases he : te (l.drop k) = 0
    · rw [if_neg (by rw [he]; simp)]
      have := upon_room h1 h2 he
      exact ih _ _ this.1 this.2.1
    · rw [if_pos he]
      exact Nat.zero_le _
theorem ft_len (l : List UInt8) : (fT l).length ≤ l.length := by
  unfold fT FL
  rcases cd_cases l with h | h
  · rw [if_neg (by rw [h.1]; simp)]
    exact lst_len l _ _ _ (Nat.zero_le _) (by omega)
  · rw [if_pos (by omega)]
    exact Nat.zero_le _

/-- What ReadTexts leaves. -/
def Read3 (l : List UInt8) (w : World) (e : Ending) (w' : World) : Prop :=
  ∃ v, e = .returned (.tuple #[v, .int .i64 (fk l), .int .i64 (fe l)]) ∧ Hs w' v (fT l) ∧ Below w.heap.size w w'

theorem retw {v : Value} {a a' b b' : Int} (h : a' = a) (k : b' = b) : Ending.returned (.tuple #[v, .int .i64 a, .int .i64 b]) = Ending.returned (.tuple #[v, .int .i64 a', .int .i64 b']) := by rw [h, k]

/-- Where ReadTexts' loop stands. -/
def Stand (l : List UInt8) (n : Nat) (w : World) (ks es v is : Value) (wr : World) : Prop :=
  ∃ (j k : Nat) (e : Int), j ≤ n ∧ is = .int .i64 j ∧ ks = .int .i64 k ∧ es = .int .i64 e ∧ Below w.heap.size w wr ∧ k ≤ l.length ∧
    ((e = 0 ∧ ∃ T : List ByteArray, wr.ownsRow w.heap.size 9 1 v T.length (T.map Value.string) ∧ Upon l (n - j) T k ∧ T.length ≤ k) ∨
     ((e = 2 ∨ e = 3) ∧ fT l = [] ∧ fk l = 0 ∧ fe l = e))

set_option maxHeartbeats 2000000 in
set_option maxRecDepth 100000 in
theorem ref_ReadTexts (s : ByteArray) (w : World) (hl : s.size ≤ 50000000) :
    Calls Try.prog 29 #[.string s] w (Read3 s.data.toList w) := by
  obtain ⟨i0, hi, hz0, hz1, hz2⟩ := info_parts info9
  have HL := Lib.hid (show s.data.toList.length = s.size by rw [← Lib.size_eq])
  obtain ⟨l, hll⟩ : ∃ l, l = s.data.toList := ⟨_, rfl⟩
  have hs : s.size ≤ maxLen := by unfold maxLen; omega
  have hcount := Lib.hid (fun w => ref_ReadCount s w hs)
  have HD := Lib.hid (fun k => extract_rest s k)
  rw [← hll] at HL hcount HD ⊢
  clear hs hll
  rcases cd_cases l with ⟨d0, d1, d2, d3, d4, _, _, _⟩ | ⟨d0, d1, d2⟩
  · obtain ⟨n, hn⟩ : ∃ n : Nat, cn l = n := ⟨(cn l).toNat, by omega⟩
    have hup := upon_start d0
    rw [hn, Int.toNat_natCast] at hup
    have hup0 := Lib.hid hup
    have hcount2 := hcount.out
    rw [d0, hn] at hcount2
    obtain ⟨k0, hk0⟩ : ∃ k0, k0 = ck l := ⟨_, rfl⟩
    rw [← hk0] at hup0 hcount2 d2
    have HC := Lib.hid hcount2
    have hn1 : n ≤ 9223372036854775807 := by omega
    have HK0 := Lib.hid d2
    have hk01 : k0 ≤ 50000000 := by have := HL.out; omega
    clear hcount hcount2 hup d0 d1 d2 d3 d4 hn hk0
    go_enter Try.func29, Try.ntmps29
    go_wp2_with fail
    refine (HC.out w).mono ?_
    rintro e w1 ⟨rfl, rfl⟩
    go_wp2_with fail
    go_loopw [6, 7, 8, 9] (fun ks es v is wr => Stand l n w ks es v is wr) (fun ks es v is wr => n - (intOf is).toNat)
    case atStart => exact ⟨0, k0, 0, Nat.zero_le _, rfl, rfl, rfl, Below.refl _ _, HK0.out, .inl ⟨rfl, [], World.ownsRow_nil _ _ _ _, hup0.out, Nat.zero_le _⟩⟩
    case round =>
      obtain ⟨j, k, e, hj, rfl, rfl, rfl, hbw, hkl, hcase⟩ := hrel
      have HB := Lib.hid hbw
      have HKL := Lib.hid hkl
      have hk1 : k ≤ 50000000 := by have := HL.out; omega
      clear hbw hkl
      rcases hcase with ⟨rfl, T, hown, hup, hTk⟩ | ⟨he, q1, q2, q3⟩
      · have HO := Lib.hid hown
        have HU := Lib.hid hup
        have HT := Lib.hid hTk
        clear hown hup hTk
        by_cases hlt : j < n
        · obtain ⟨m, hm⟩ : ∃ m, n - j = m + 1 := ⟨n - j - 1, by omega⟩
          have HM := Lib.hid hm
          have HU1 := Lib.hid (show Upon l (m + 1) T k by have := HU.out; rwa [hm] at this)
          clear hm HU
          by_cases hke : k = s.size
          · have hkb : ((k : Int) == (s.size : Int)) = true := beq_iff_eq.2 (by omega)
            have hdrop : l.drop k = [] := List.drop_of_length_le (by rw [HL.out]; omega)
            have hstop := Lib.hid (upon_stop HU1.out (by rw [hdrop, te_nil]; decide))
            have HDr := Lib.hid hdrop
            have HKe := Lib.hid hke
            clear hke hdrop
            go_wp2
            go_ret3
            obtain ⟨q1, q2, q3⟩ := hstop.out
            exact ⟨.slice none 0 0, retw (by rw [q2]; rfl) (by rw [q3, HDr.out, te_nil]), by rw [q1]; exact hs_none _, HB.out⟩
          · have hkb : ((k : Int) == (s.size : Int)) = false := beq_eq_false_iff_ne.2 (by omega)
            have hks : k < s.size := by have := HL.out; have := HKL.out; omega
            have HKe := Lib.hid hke
            clear hke
            have htext := fun w => ref_ReadText (s.extract k s.size) w (by rw [extract_size]; unfold maxLen; omega)
            rw [HD.out k] at htext
            by_cases he : te (l.drop k) = 0
            · have hnext := Lib.hid (upon_next HU1.out he)
              have hroom := Lib.hid (upon_room HT.out HKL.out he)
              rw [he] at htext
              have HE := Lib.hid he
              clear he
              generalize bs (ts (l.drop k)) = t at *
              generalize tk (l.drop k) = d at *
              have hkd : (k : Int) + (d : Int) ≤ 50000000 := by have := hroom.out; have := HL.out; omega
              have HTX := Lib.hid htext
              clear htext
              go_wp2_with fail
              refine (HTX.out wr).mono ?_
              rintro e w2 ⟨rfl, rfl⟩
              go_wp2_with (at_builtin; refine wpList_append_own _ rfl _ _ 39 rfl w.heap.size 9 i0 (.string ⟨#[]⟩) 1 16 Try.underlying39 hi hz0 hz1 hz2 rfl (by decide) _ _ _ rfl (HO.out.alloc _) ⟨wr.heap.size, 0, none⟩ 1 1 [.string t] rfl rfl ?c1 ?c2 ?c3 ?c4 ?c5 ?_)
              case c1 => exact cell_one_new _ _ _
              case c2 => intro u hu; simp at hu; subst hu; rfl
              case c3 => unfold maxLen; have := HT.out; omega
              case c4 => have := HT.out; omega
              case c5 => have := HB.out.size; simp; omega
              intro v' w3 hown' hgrow _
              have HO3 := Lib.hid hown'
              have HB3 := Lib.hid (show Below w.heap.size w w3 from (HB.out.alloc HB.out.size _).grown hgrow (by have := HB.out.size; simp; omega) (fun q hq => (HO.out.lt q hq).1))
              clear hown' hgrow
              go_wp2
              go_roundw
              case rel =>
                have hL : (T ++ [t]).length = T.length + 1 := by simp
                have hR1 := hroom.out
                exact ⟨j + 1, k + d, 0, by omega, by go_num, by go_num, rfl, HB3.out, hR1.2.1, .inl ⟨rfl, T ++ [t], by rw [hL, List.map_append]; exact HO3.out, by rw [show n - (j + 1) = m by have := HM.out; omega]; exact hnext.out, hR1.1⟩⟩
              case measure => simp [intOf]; omega
            · have hstop := Lib.hid (upon_stop HU1.out he)
              have htd : (te (l.drop k) = 2 ∨ te (l.drop k) = 3) ∧ tk (l.drop k) = 0 := by
                rcases td_cases (l.drop k) with h | h
                · exact absurd h.1 he
                · exact ⟨h.1, h.2.2⟩
              rw [htd.2] at htext
              have HTD := Lib.hid htd
              clear he htd
              generalize bs (ts (l.drop k)) = t at *
              generalize te (l.drop k) = e0 at *
              have HTX := Lib.hid htext
              clear htext
              go_wp2_with fail
              refine (HTX.out wr).mono ?_
              rintro e w2 ⟨rfl, rfl⟩
              go_wp2_with (at_builtin; refine wpList_append_own _ rfl _ _ 39 rfl w.heap.size 9 i0 (.string ⟨#[]⟩) 1 16 Try.underlying39 hi hz0 hz1 hz2 rfl (by decide) _ _ _ rfl (HO.out.alloc _) ⟨wr.heap.size, 0, none⟩ 1 1 [.string t] rfl rfl ?c1 ?c2 ?c3 ?c4 ?c5 ?_)
              case c1 => exact cell_one_new _ _ _
              case c2 => intro u hu; simp at hu; subst hu; rfl
              case c3 => unfold maxLen; have := HT.out; omega
              case c4 => have := HT.out; omega
              case c5 => have := HB.out.size; simp; omega
              intro v' w3 hown' hgrow _
              have HB3 := Lib.hid (show Below w.heap.size w w3 from (HB.out.alloc HB.out.size _).grown hgrow (by have := HB.out.size; simp; omega) (fun q hq => (HO.out.lt q hq).1))
              clear hown' hgrow
              go_wp2
              go_roundw
              case rel => exact ⟨j + 1, k, e0, by omega, by go_num, by go_num, rfl, HB3.out, HKL.out, .inr ⟨HTD.out.1, hstop.out⟩⟩
              case measure => simp [intOf]; omega
        · have hend := Lib.hid (show Upon l 0 T k by have := HU.out; rwa [show n - j = 0 by omega] at this)
          go_wp2
          go_ret3
          obtain ⟨q1, q2, q3⟩ := upon_end hend.out
          exact ⟨u8, retw (by rw [q2]) q3, by rw [q1]; exact Hs.own HO.out, HB.out⟩
      · have heb : (e == 0) = false := beq_eq_false_iff_ne.2 (by omega)
        have HQ := Lib.hid (show fT l = [] ∧ fk l = 0 ∧ fe l = e from ⟨q1, q2, q3⟩)
        clear he q1 q2 q3
        by_cases hlt : j < n
        all_goals go_wp2
        all_goals go_ret3
        all_goals obtain ⟨q1, q2, q3⟩ := HQ.out
        all_goals exact ⟨.slice none 0 0, retw (by rw [q2]; rfl) q3, by rw [q1]; exact hs_none _, HB.out⟩
  · have hcount2 := hcount.out
    have hnone := Lib.hid (upon_none (l := l) (by omega))
    have hceb : (ce l == 0) = false := beq_eq_false_iff_ne.2 (by omega)
    rw [d1, d2] at hcount2
    have HC := Lib.hid hcount2
    clear hcount hcount2 d0 d1 d2
    go_enter Try.func29, Try.ntmps29
    go_wp2_with fail
    refine (HC.out w).mono ?_
    rintro e w1 ⟨rfl, rfl⟩
    go_wp2_with fail
    go_loopw [6, 7, 8, 9] (fun ks es v is wr => ks = .int .i64 0 ∧ es = .int .i64 (ce l) ∧ is = .int .i64 0 ∧ wr = w) (fun ks es v is wr => 0)
    case atStart => exact ⟨rfl, rfl, rfl, rfl⟩
    case round =>
      obtain ⟨rfl, rfl, rfl, rfl⟩ := hrel
      go_wp2
      go_ret3
      obtain ⟨q1, q2, q3⟩ := hnone.out
      exact ⟨.slice none 0 0, retw (by rw [q2]; rfl) q3, by rw [q1]; exact hs_none _, Below.refl _ _⟩

set_option maxHeartbeats 2000000 in
set_option maxRecDepth 100000 in
theorem same_core (a b : Option Addr) (ca cb len : Nat) (T : List ByteArray) (b0 off0 b1 off1 : Nat) (w : World) (hlen : Hid (len = T.length)) (hl : len ≤ 50000000)
    (hab : Hid (len = 0 ∨ (a = some ⟨b0, off0, none⟩ ∧ b = some ⟨b1, off1, none⟩)))
    (hz : Hid (∀ k, k < len → b0 < w.heap.size ∧ b1 < w.heap.size ∧ w.cell? ⟨b0, off0 + k, none⟩ = some (.string (T.getD k ByteArray.empty)) ∧ w.cell? ⟨b1, off1 + k, none⟩ = some (.string (T.getD k ByteArray.empty)))) :
    Calls Try.prog 28 #[.slice a len ca, .slice b len cb] w fun e w' => e = .returned (.bool true) ∧ Below w.heap.size w w' := by
  go_enter Try.func28, Try.ntmps28
  go_wp2_with fail
  go_loopw [5] (fun i wr => ∃ k : Nat, k ≤ len ∧ i = .int .i64 k ∧ Below w.heap.size w wr) (fun i wr => len - (intOf i).toNat)
  case atStart => exact ⟨0, Nat.zero_le _, rfl, Below.refl _ _⟩
  case round =>
    obtain ⟨k, hk, rfl, hbw⟩ := hrel
    have HB := Lib.hid hbw
    clear hbw
    by_cases hlt : k < len
    · obtain ⟨hb0, hb1, hc0, hc1⟩ := hz.out k hlt
      have c0 : wr.cell? ⟨b0, off0 + k, none⟩ = some (.string (T.getD k ByteArray.empty)) := by rw [HB.out.cell hb0]; exact hc0
      have c1 : wr.cell? ⟨b1, off1 + k, none⟩ = some (.string (T.getD k ByteArray.empty)) := by rw [HB.out.cell hb1]; exact hc1
      have hab' : a = some ⟨b0, off0, none⟩ ∧ b = some ⟨b1, off1, none⟩ := by rcases hab.out with h | h; (omega); (exact h)
      clear hc0 hc1 hb0 hb1
      generalize T.getD k ByteArray.empty = u at *
      obtain ⟨ha, hb⟩ := hab'
      subst ha
      subst hb
      go_wp2_with fail
      go_quiet (fail)
      go_wp2
      go_roundw
      case rel => exact ⟨k + 1, by omega, by go_num, below_drewN HB.out _⟩
      case measure => simp [intOf]; omega
    · go_wp2
      go_ret
      exact ⟨rfl, HB.out⟩

theorem ref_Same (va vb : Value) (T : List ByteArray) (w : World) (ha : Hs w va T) (hb : Hs w vb T) (hl : T.length ≤ 50000000) :
    Calls Try.prog 28 #[va, vb] w fun e w' => e = .returned (.bool true) ∧ Below w.heap.size w w' := by
  obtain ⟨a, ca, rfl, h0⟩ := ha
  obtain ⟨b, cb, rfl, h1⟩ := hb
  by_cases hT : T = []
  · subst hT
    exact same_core a b ca cb 0 [] 0 0 0 0 w (Lib.hid rfl) (by omega) (Lib.hid (.inl rfl)) (Lib.hid fun k hk => absurd hk (by omega))
  · rcases h0 with h0 | ⟨b0, off0, e0, r0⟩
    · exact absurd h0 hT
    · rcases h1 with h1 | ⟨b1, off1, e1, r1⟩
      · exact absurd h1 hT
      · exact same_core a b ca cb T.length T b0 off0 b1 off1 w (Lib.hid rfl) hl (Lib.hid (.inr ⟨e0, e1⟩)) (Lib.hid fun k hk => ⟨(r0 k hk).1, (r1 k hk).1, (r0 k hk).2, (r1 k hk).2⟩)

end Go.Proofs.Ytnadgcbiichmhaa
