/- Plain mathematics of the statements over keys: one order; words are all of a key; digits tell a key. -/
import Derived.Test.YtbiifdnicieamaaDoorShaRefKeys
set_option linter.unusedVariables false
set_option maxRecDepth 100000
namespace Go.Proofs.YtbiifdnicieamaaDoor

theorem lessL_trans : ∀ (a b c : List UInt8), a.length = b.length → b.length = c.length → lessL a b = true → lessL b c = true → lessL a c = true
  | [], [], [], _, _, h, _ => h
  | x :: a, y :: b, z :: c, h1, h2, h3, h4 => by
    simp only [lessL] at h3 h4 ⊢
    by_cases hxy : x = y
    · subst hxy
      rw [if_pos rfl] at h3
      by_cases hyz : x = z
      · subst hyz
        rw [if_pos rfl] at h4 ⊢
        exact lessL_trans a b c (by simpa using h1) (by simpa using h2) h3 h4
      · rw [if_neg hyz] at h4 ⊢
        exact h4
    · rw [if_neg hxy] at h3
      have h3 := of_decide_eq_true h3
      by_cases hyz : y = z
      · subst hyz
        rw [if_neg hxy]
        exact decide_eq_true h3
      · rw [if_neg hyz] at h4
        have h4 := of_decide_eq_true h4
        rw [if_neg (fun h => by rw [h] at h3; omega)]
        exact decide_eq_true (by omega)
theorem lessL_two : ∀ (a b : List UInt8), a.length = b.length → lessL a b = false → lessL b a = false → a = b
  | [], [], _, _, _ => rfl
  | x :: a, y :: b, h1, h2, h3 => by
    simp only [lessL] at h2 h3
    by_cases hxy : x = y
    · subst hxy
      rw [if_pos rfl] at h2 h3
      rw [lessL_two a b (by simpa using h1) h2 h3]
    · rw [if_neg hxy] at h2
      rw [if_neg (fun h => hxy h.symm)] at h3
      have h2 := of_decide_eq_false h2
      have h3 := of_decide_eq_false h3
      exact absurd (UInt8.toNat_inj.1 (by omega)) hxy
theorem lessL_iff (a b : List UInt8) (h : a.length = b.length) : (a = b) ↔ (lessL a b = false ∧ lessL b a = false) :=
  ⟨fun e => by subst e; exact ⟨lessL_same _, lessL_same _⟩, fun e => lessL_two a b h e.1 e.2⟩

theorem word_bytes {a b : List UInt8} {o : Nat} (h : wordAt a o = wordAt b o) : ∀ j, j < 4 → byteAt a (o + j) = byteAt b (o + j) := by
  have h1 := byteAt_lt a o
  have h2 := byteAt_lt a (o + 1)
  have h3 := byteAt_lt a (o + 2)
  have h4 := byteAt_lt a (o + 3)
  have g1 := byteAt_lt b o
  have g2 := byteAt_lt b (o + 1)
  have g3 := byteAt_lt b (o + 2)
  have g4 := byteAt_lt b (o + 3)
  unfold wordAt at h
  intro j hj
  have : j = 0 ∨ j = 1 ∨ j = 2 ∨ j = 3 := by omega
  rcases this with rfl | rfl | rfl | rfl
  · rw [Nat.add_zero]; omega
  · omega
  · omega
  · omega
theorem bytes_same {a b : List UInt8} (h : a.length = b.length) (hb : ∀ j, j < a.length → byteAt a j = byteAt b j) : a = b := by
  apply List.ext_getElem h
  intro j h1 h2
  have := hb j h1
  rw [byteAt_get a j h1, byteAt_get b j h2] at this
  exact UInt8.toNat_inj.1 this
theorem words_same {a b : List UInt8} (ha : a.length = 32) (hb : b.length = 32) : (∀ n, n < 8 → wordAt a (4 * n) = wordAt b (4 * n)) ↔ a = b := by
  constructor
  · intro h
    apply bytes_same (by omega)
    intro j hj
    have := word_bytes (h (j / 4) (by omega)) (j % 4) (by omega)
    rwa [show 4 * (j / 4) + j % 4 = j by omega] at this
  · intro h n _
    rw [h]

theorem digN_lt {k : Nat} (h : k < 16) : digN k < 256 := by unfold digN; split <;> omega
theorem digB_at {k : Nat} (h : k < 16) : digO (digB k).toNat = k := by
  unfold digB
  rw [ofNat_toNat, Nat.mod_eq_of_lt (digN_lt h), digO_at k h]
theorem hexL_at : ∀ (l : List UInt8) (m : Nat), m < l.length → byteAt (hexL l) (2 * m) = (digB (byteAt l m / 16)).toNat ∧ byteAt (hexL l) (2 * m + 1) = (digB (byteAt l m % 16)).toNat
  | b :: l, 0, _ => ⟨rfl, rfl⟩
  | b :: l, m + 1, h => by
    have hm : m < l.length := by simpa using h
    have h2 := hexL_at l m hm
    have e : ∀ j, byteAt (hexL (b :: l)) (j + 2) = byteAt (hexL l) j := fun j => rfl
    have e2 : byteAt (b :: l) (m + 1) = byteAt l m := rfl
    rw [show 2 * (m + 1) = 2 * m + 2 by omega, show 2 * m + 2 + 1 = (2 * m + 1) + 2 by omega, e, e, e2]
    exact h2
theorem hex_fine {l : List UInt8} (h : l.length = 32) : fine (hexL l) ∧ parseK (hexL l) = l := by
  have hd : ∀ m, m < 32 → dg (hexL l) (2 * m) = byteAt l m / 16 ∧ dg (hexL l) (2 * m + 1) = byteAt l m % 16 := by
    intro m hm
    have hb := byteAt_lt l m
    obtain ⟨h1, h2⟩ := hexL_at l m (by omega)
    unfold dg
    rw [h1, h2, digB_at (by omega), digB_at (by omega)]
    exact ⟨rfl, rfl⟩
  have hne : ∀ j, j < 64 → dg (hexL l) j ≠ 16 := by
    intro j hj
    have hb := byteAt_lt l (j / 2)
    obtain ⟨h1, h2⟩ := hd (j / 2) (by omega)
    rcases Nat.mod_two_eq_zero_or_one j with h0 | h0
    · rw [show 2 * (j / 2) = j by omega] at h1; omega
    · rw [show 2 * (j / 2) + 1 = j by omega] at h2; omega
  refine ⟨⟨by rw [hexL_len, h], hne⟩, ?_⟩
  apply bytes_same (by rw [parseK_len, h])
  intro m hm
  rw [parseK_len] at hm
  rw [parseK_at _ hne m hm]
  obtain ⟨h1, h2⟩ := hd m hm
  unfold pfill
  rw [if_pos (by omega), h1, h2]
  omega

theorem digB_back {c : Nat} (hc : c < 256) (h : digO c ≠ 16) : digN (digO c) = c ∧ digO c < 16 := by
  unfold digO at h ⊢
  by_cases h1 : 48 ≤ c ∧ c ≤ 57
  · rw [if_pos h1]; unfold digN; rw [if_pos (by omega)]; omega
  · rw [if_neg h1] at h ⊢
    by_cases h2 : 97 ≤ c ∧ c ≤ 102
    · rw [if_pos h2]; unfold digN; rw [if_neg (by omega)]; omega
    · rw [if_neg h2] at h; omega
theorem parse_back {s : List UInt8} (h : fine s) : hexL (parseK s) = s := by
  have hl := hexL_len (parseK s)
  rw [parseK_len] at hl
  apply bytes_same (by rw [hl, h.1])
  intro j hj
  have hj64 : j < 64 := by omega
  obtain ⟨h1, h2⟩ := hexL_at (parseK s) (j / 2) (by rw [parseK_len]; omega)
  have hp := parseK_at s h.2 (j / 2) (by omega)
  have e : pfill s 64 (j / 2) = 16 * dg s (2 * (j / 2)) + dg s (2 * (j / 2) + 1) := by unfold pfill; rw [if_pos (by omega)]
  obtain ⟨a1, a2⟩ := digB_back (byteAt_lt s (2 * (j / 2))) (h.2 (2 * (j / 2)) (by omega))
  obtain ⟨b1, b2⟩ := digB_back (byteAt_lt s (2 * (j / 2) + 1)) (h.2 (2 * (j / 2) + 1) (by omega))
  have f1 : dg s (2 * (j / 2)) = digO (byteAt s (2 * (j / 2))) := rfl
  have f2 : dg s (2 * (j / 2) + 1) = digO (byteAt s (2 * (j / 2) + 1)) := rfl
  rw [← f1] at a1 a2
  rw [← f2] at b1 b2
  have q1 : (16 * dg s (2 * (j / 2)) + dg s (2 * (j / 2) + 1)) / 16 = dg s (2 * (j / 2)) := by omega
  have q2 : (16 * dg s (2 * (j / 2)) + dg s (2 * (j / 2) + 1)) % 16 = dg s (2 * (j / 2) + 1) := by omega
  rw [hp, e, q1] at h1
  rw [hp, e, q2] at h2
  rcases Nat.mod_two_eq_zero_or_one j with h0 | h0
  · rw [show 2 * (j / 2) = j by omega] at h1 a1 a2
    rw [h1]
    unfold digB
    rw [ofNat_toNat, Nat.mod_eq_of_lt (digN_lt a2), a1]
  · rw [show 2 * (j / 2) + 1 = j by omega] at h2 b1 b2
    rw [h2]
    unfold digB
    rw [ofNat_toNat, Nat.mod_eq_of_lt (digN_lt b2), b1]

/-- The laws' own first look. -/
theorem awake_hex : hexL (digest [97, 98, 99]) = [98, 97, 55, 56, 49, 54, 98, 102, 56, 102, 48, 49, 99, 102, 101, 97, 52, 49, 52, 49, 52, 48, 100, 101, 53, 100, 97, 101, 50, 50, 50, 51, 98, 48, 48, 51, 54, 49, 97, 51, 57, 54, 49, 55, 55, 97, 57, 99, 98, 52, 49, 48, 102, 102, 54, 49, 102, 50, 48, 48, 49, 53, 97, 100] := by decide +kernel
end Go.Proofs.YtbiifdnicieamaaDoor
