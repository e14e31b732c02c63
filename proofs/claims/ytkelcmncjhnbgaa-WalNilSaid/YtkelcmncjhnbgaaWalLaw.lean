/- The law's own look: whether texts are few, the document's example. -/
import Derived.Test.YtkelcmncjhnbgaaWalSplit
set_option linter.unusedVariables false
set_option maxRecDepth 100000
namespace Go.Proofs.Ytkelcmncjhnbgaa
open Go.RowKit

/-- All bytes of texts. -/
def totalT : List (List UInt8) → Nat
  | [] => 0
  | t :: T => t.length + totalT T
theorem totalT_append : ∀ A B : List (List UInt8), totalT (A ++ B) = totalT A + totalT B
  | [], B => by simp [totalT]
  | t :: A, B => by show t.length + totalT (A ++ B) = t.length + totalT A + totalT B; rw [totalT_append A B]; omega
theorem total_snoc {T : List (List UInt8)} {i : Nat} {t : List UInt8} (h : T[i]? = some t) : totalT (T.take (i + 1)) = totalT (T.take i) + t.length := by
  rw [List.take_add_one, h]
  show totalT (T.take i ++ [t]) = _
  rw [totalT_append]
  rfl
theorem total_mem {T : List (List UInt8)} {t : List UInt8} (h : t ∈ T) : t.length ≤ totalT T := by
  induction T with
  | nil => cases h
  | cons r T ih =>
    show _ ≤ r.length + totalT T
    rcases List.mem_cons.1 h with rfl | h
    · omega
    · have := ih h; omega
/-- So few texts, with so few bytes. -/
structure FewT (T : List (List UInt8)) : Prop where
  len : T.length ≤ 200
  all : totalT T ≤ 30000
theorem FewT.mem {T : List (List UInt8)} (h : FewT T) {t : List UInt8} (ht : t ∈ T) : t.length ≤ 30000 := by
  have := total_mem ht
  have := h.all
  omega
theorem frames_len : ∀ T : List (List UInt8), (∀ t ∈ T, t.length ≤ 9223372036854775807) → (framesL T).length ≤ totalT T + 15 * T.length
  | [], _ => by simp [framesL]
  | t :: T, h => by
    have h1 := frameL_le (r := t) (h t (List.mem_cons_self ..))
    have h2 := frames_len T (fun x hx => h x (List.mem_cons_of_mem _ hx))
    show (frameL t ++ framesL T).length ≤ t.length + totalT T + 15 * (T.length + 1)
    rw [List.length_append]
    omega
theorem FewT.frames {T : List (List UInt8)} (h : FewT T) : (framesL T).length ≤ 33000 := by
  have := frames_len T (fun t ht => by have := h.mem ht; omega)
  have := h.len
  have := h.all
  omega
theorem FewT.split {T : List (List UInt8)} (h : FewT T) : ∀ t ∈ T, t.length ≤ 1048576 := fun t ht => by have := h.mem ht; omega
theorem TxV.fit {w : World} {a : Option Addr} {len cap : Nat} {T : List (List UInt8)} (h : TxV w (.slice a len cap) T) : len = T.length := h.len

def FewPost (T : List (List UInt8)) (w : World) (e : Ending) (w' : World) : Prop := ∃ b, e = .returned (.bool b) ∧ (b = true → FewT T) ∧ w = w'
set_option maxHeartbeats 4000000 in
theorem law_few {a : Option Addr} {len cap : Nat} {T : List (List UInt8)} {w : World} (h : Hid (TxV w (.slice a len cap) T)) (hbig : len ≤ 9223372036854775807) (hs : Hid (∀ t ∈ T, t.length ≤ 9223372036854775807)) :
    Calls Try.prog 10 #[.slice a len cap] w fun e w' => FewPost T w e w' := by
  have HL := Lib.hid h.out.len
  go_enter Try.func10, Try.ntmps10
  go_wp2_with fail
  go_loopw [3, 4] (fun nv iv wr => ∃ i n : Nat, i ≤ len ∧ i ≤ 200 ∧ iv = .int .i64 (i : Int) ∧ nv = .int .i64 (n : Int) ∧ n ≤ 60000 ∧ Hid (n = totalT (T.take i)) ∧ w = wr) (fun nv iv wr => len - (intOf iv).toNat)
  case atStart => exact ⟨0, 0, by omega, by omega, rfl, rfl, by omega, Lib.hid rfl, rfl⟩
  case round =>
    obtain ⟨i, n, hi, hi2, rfl, rfl, hn, hk, rfl⟩ := hrel
    rcases Nat.lt_or_ge i len with hlt | hge
    · obtain ⟨t, ht⟩ : ∃ t, T[i]? = some t := ⟨_, List.getElem?_eq_getElem (by have := HL.out; omega)⟩
      obtain ⟨b, off, rfl, hbl, hc⟩ := h.out.at ht
      have hlt2 : (i : Int) < (len : Int) := by omega
      have hkl := hs.out t (List.mem_of_getElem? ht)
      obtain ⟨q, hq⟩ : ∃ q, q = t.length := ⟨_, rfl⟩
      have hsz : (bs t).size = q := by rw [bs_size, hq]
      have HQ := Lib.hid (And.intro hq ht)
      rw [← hq] at hkl
      clear hq ht
      by_cases h3 : i = 200
      · subst h3
        go_wp2_with fail
        go_ret
        exact ⟨false, rfl, (fun h => (by cases h)), rfl⟩
      · have h3' : (i : Int) < 200 := by omega
        by_cases h4 : q ≤ 30000
        · have h4' : (q : Int) ≤ 30000 := by omega
          by_cases h5 : n ≤ 30000
          · have h5' : (n : Int) ≤ 30000 := by omega
            go_wp2_with fail
            go_roundw
            case rel => exact ⟨i + 1, n + q, by omega, by omega, by go_num, by go_num, by omega, Lib.hid (by rw [total_snoc HQ.out.2, ← hk.out, HQ.out.1]), trivial⟩
            case measure => simp [intOf]; omega
          · have h5' : (30000 : Int) < (n : Int) := by omega
            go_wp2_with fail
            go_ret
            exact ⟨false, rfl, (fun h => (by cases h)), rfl⟩
        · have h4' : (30000 : Int) < (q : Int) := by omega
          go_wp2_with fail
          go_ret
          exact ⟨false, rfl, (fun h => (by cases h)), rfl⟩
    · obtain rfl : i = len := by omega
      have hk2 := hk.out
      rw [show T.take i = T by rw [HL.out]; exact List.take_length] at hk2
      have HF := Lib.hid (And.intro (show T.length ≤ 200 by rw [← HL.out]; exact hi2) hk2)
      clear hk2
      by_cases h5 : n ≤ 30000
      · have h5' : (n : Int) ≤ 30000 := by omega
        go_wp2_with fail
        go_ret
        exact ⟨_, rfl, fun _ => ⟨HF.out.1, by rw [← HF.out.2]; exact h5⟩, rfl⟩
      · have h5' : ¬ (n : Int) ≤ 30000 := by omega
        go_wp2_with fail
        go_ret
        exact ⟨false, rfl, (fun h => (by cases h)), rfl⟩

theorem split_ab : splitL (frameL [97, 98] ++ [66, 97]) = ([[97, 98]], 7) := by
  have h0 : firstL [66, 97] = none := first_no (by
    intro h
    have := h.2.2.1
    simp at this)
  have h7 : (frameL [97, 98]).length = 7 := by rw [frameL_len, text_ab]; rfl
  rw [split_some (frame_first (by decide) _), List.drop_left, split_none h0, h7]
  rfl
set_option maxHeartbeats 2000000 in
theorem law_awake (w : World) : Calls Try.prog 9 #[] w fun e w' => e = .returned (.bool true) ∧ Below w.heap.size w w' := by
  have hcat : bs (frameL [97, 98]) ++ (⟨#[66, 97]⟩ : ByteArray) = bs (frameL [97, 98] ++ [66, 97]) := bs_cat _ _
  have h7 : (frameL [97, 98]).length = 7 := by rw [frameL_len, text_ab]; rfl
  have hsz : ((bs (frameL [97, 98])).size : Int) + ((⟨#[66, 97]⟩ : ByteArray).size : Int) ≤ 9223372036854775807 := by rw [bs_size, h7]; decide
  have hl9 : (frameL [97, 98] ++ [66, 97]).length ≤ 1000000000 := by rw [List.length_append, h7]; decide
  go_enter Try.func9, Try.ntmps9
  go_wp2_with fail
  refine (show Calls Try.prog 11 #[.string ⟨#[97, 98]⟩] w _ from wal_Frame [97, 98] w (by decide)).mono ?_
  rintro e w1 ⟨rfl, k1⟩
  go_wp2_with fail
  refine (wal_Split (frameL [97, 98] ++ [66, 97]) w1 hl9).mono ?_
  rintro e w2 ⟨v, rfl, o2, k2⟩
  rw [split_ab] at o2 ⊢
  have K2 := Lib.hid (k1.trans (k2.mono k1.size))
  have T2 := o2.txs
  clear o2 k1 k2
  obtain ⟨a, cap, rfl, _⟩ := id T2
  obtain ⟨b, off, rfl, hb, hc⟩ := T2.at (i := 0) (t := [97, 98]) rfl
  have hc' : w2.cell? ⟨b, off, none⟩ = some (.string ⟨#[97, 98]⟩) := hc
  clear hc T2
  go_wp2_with fail
  go_ret
  exact ⟨rfl, K2.out⟩
end Go.Proofs.Ytkelcmncjhnbgaa
