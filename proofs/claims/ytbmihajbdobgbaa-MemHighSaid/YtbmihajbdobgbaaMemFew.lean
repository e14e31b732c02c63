/- Whether a script is looked at; a call done on a map and on a list. -/
import Derived.Test.YtbmihajbdobgbaaMemOpen
import Derived.Test.YtbmihajbdobgbaaMemRef2
set_option linter.unusedVariables false
set_option maxRecDepth 100000
namespace Go.Proofs.Ytbmihajbdobgbaa.MI
open Go.RowKit

/-- So few calls, with so few bytes. -/
def FewO (T : List OpM) : Prop := T.length ≤ 300 ∧ ∀ o ∈ T, o.key.length ≤ 10000
def FewPost (T : List OpM) (w : World) (e : Ending) (w' : World) : Prop := ∃ b, e = .returned (.bool b) ∧ (b = true → FewO T) ∧ w' = w
set_option maxHeartbeats 4000000 in
theorem law_few {a : Option Addr} {len cap : Nat} {T : List OpM} {w : World} (h : Hid (InO w a len cap T)) : Calls Try.prog 8 #[.slice a len cap] w fun e w' => FewPost T w e w' := by
  have hbig := h.out.big
  have HL := Lib.hid h.out.lenT
  go_enter Try.func8, Try.ntmps8
  go_wp2_with fail
  go_loopw [3, 4] (fun nv iv wr => ∃ i n : Nat, i ≤ len ∧ i ≤ 300 ∧ iv = .int .i64 (i : Int) ∧ nv = .int .i64 (n : Int) ∧ n ≤ 10000 * i ∧ Hid (∀ j o, j < i → T[j]? = some o → o.key.length ≤ 10000) ∧ wr = w) (fun nv iv wr => len - (intOf iv).toNat)
  case atStart => exact ⟨0, 0, by omega, by omega, rfl, rfl, by omega, Lib.hid fun j o hj => by omega, rfl⟩
  case round =>
    obtain ⟨i, n, hi, hi3, rfl, rfl, hn, hk, rfl⟩ := hrel
    rcases Nat.lt_or_ge i len with hlt | hge
    · obtain ⟨b, off, o, rfl, ho, hb, d0, d1, d2⟩ := h.out.at hlt
      have hlt2 : (i : Int) < (len : Int) := by omega
      have hkl := (h.out.fit o (List.mem_of_getElem? ho)).2.2
      obtain ⟨q, hq⟩ : ∃ q, q = o.key.length := ⟨_, rfl⟩
      have hsz : (bs o.key).size = q := by rw [bs_size, hq]
      have HQ := Lib.hid (And.intro hq ho)
      rw [← hq] at hkl
      clear hq ho
      by_cases h3 : i = 300
      · subst h3
        go_wp2_with fail
        go_ret
        exact ⟨false, rfl, (fun h => (by cases h)), rfl⟩
      · have h3' : (i : Int) < 300 := by omega
        by_cases h4 : q ≤ 10000
        · have h4' : (q : Int) ≤ 10000 := by omega
          go_wp2_with fail
          go_roundw
          case rel => exact ⟨i + 1, n + q, by omega, by omega, by go_num, by go_num, by omega, Lib.hid fun j o' hj ho' => by
            rcases Nat.lt_or_ge j i with h1 | h1
            · exact hk.out j o' h1 ho'
            · obtain rfl : j = i := by omega
              rw [HQ.out.2] at ho'
              injection ho' with ho'
              subst ho'
              rw [← HQ.out.1]
              exact h4, trivial⟩
          case measure => simp [intOf]; omega
        · have h4' : (10000 : Int) < (q : Int) := by omega
          go_wp2_with fail
          go_ret
          exact ⟨false, rfl, (fun h => (by cases h)), rfl⟩
    · obtain rfl : i = len := by omega
      have HF := Lib.hid (show FewO T from ⟨by rw [← HL.out]; exact hi3, fun o ho => by
        obtain ⟨j, hj, he⟩ := List.mem_iff_getElem.1 ho
        exact hk.out j o (by rw [HL.out]; exact hj) (by rw [List.getElem?_eq_getElem hj, he])⟩)
      go_wp2_with fail
      go_ret
      exact ⟨_, rfl, fun _ => HF.out, rfl⟩

/-- What a call makes of a list. -/
def doesL (L : PL) (o : OpM) : PL := if o.kind = 1 then putP o.key o.val L else if o.kind = 2 then delP o.key L else L
theorem doesL_len (L : PL) (o : OpM) : (doesL L o).length ≤ L.length + 1 := by
  unfold doesL
  split
  · exact (putP_len _ _ _).1
  · split
    · have := delP_len o.key L
      omega
    · omega
def DoesPost (L : PL) (w : World) (e : Ending) (w' : World) : Prop :=
  ∃ t u v, t.ptr = .pointer u ∧ e = .returned (.tuple #[.agg #[.pointer u], v]) ∧ IsM w' t ∧ Pl w' v L ∧ t.prs = L ∧ Below w.heap.size w w'
end Go.Proofs.Ytbmihajbdobgbaa.MI
