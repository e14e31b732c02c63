/- Filters of keys in plain words: bits as functions of their numbers; what makes them, what they have, how many are 1; their bytes. -/
import Derived.Test.YtbiifdnicieamaaDoorShaPlain
import Derived.Test.YtbiifdnicieamaaDoorSixPlain
set_option linter.unusedVariables false
namespace Go.Proofs.YtbiifdnicieamaaDoor

/-! ### Eight bits, a byte -/
def byte8 (a b c d e f g h : Bool) : Nat := a.toNat + 2 * b.toNat + 4 * c.toNat + 8 * d.toNat + 16 * e.toNat + 32 * f.toNat + 64 * g.toNat + 128 * h.toNat
def byteOf (f : Nat → Bool) (j : Nat) : Nat := byte8 (f (8 * j)) (f (8 * j + 1)) (f (8 * j + 2)) (f (8 * j + 3)) (f (8 * j + 4)) (f (8 * j + 5)) (f (8 * j + 6)) (f (8 * j + 7))
theorem byte8_lt (a b c d e f g h : Bool) : byte8 a b c d e f g h < 256 := by
  unfold byte8
  cases a <;> cases b <;> cases c <;> cases d <;> cases e <;> cases f <;> cases g <;> cases h <;> decide
theorem byteOf_lt (f : Nat → Bool) (j : Nat) : byteOf f j < 256 := byte8_lt ..
def bytesOf (f : Nat → Bool) (m : Nat) : List UInt8 := (List.range m).map fun j => UInt8.ofNat (byteOf f j)
theorem bytesOf_len (f : Nat → Bool) (m : Nat) : (bytesOf f m).length = m := by simp [bytesOf]
theorem bytesOf_at (f : Nat → Bool) (m j : Nat) (h : j < m) : byteAt (bytesOf f m) j = byteOf f j := by
  have := byteOf_lt f j
  simp [byteAt, bytesOf, List.getD_eq_getElem?_getD, h]
  omega
theorem byteOf_congr {f g : Nat → Bool} {j : Nat} (h : ∀ x, 8 * j ≤ x → x < 8 * j + 8 → f x = g x) : byteOf f j = byteOf g j := by
  unfold byteOf
  rw [h (8 * j) (by omega) (by omega), h (8 * j + 1) (by omega) (by omega), h (8 * j + 2) (by omega) (by omega), h (8 * j + 3) (by omega) (by omega), h (8 * j + 4) (by omega) (by omega), h (8 * j + 5) (by omega) (by omega), h (8 * j + 6) (by omega) (by omega), h (8 * j + 7) (by omega) (by omega)]
theorem bytesOf_congr {f g : Nat → Bool} {m : Nat} (h : ∀ x, x < 8 * m → f x = g x) : bytesOf f m = bytesOf g m := by
  unfold bytesOf
  apply List.map_congr_left
  intro j hj
  rw [byteOf_congr fun x h1 h2 => h x (by have := List.mem_range.1 hj; omega)]

/-- The bit of a byte. -/
def bitAt (L : List UInt8) (x : Nat) : Bool := byteAt L (x / 8) / 2 ^ (x % 8) % 2 == 1
theorem byte8_bit (a b c d e f g h : Bool) : (byte8 a b c d e f g h / 1 % 2 == 1) = a ∧ (byte8 a b c d e f g h / 2 % 2 == 1) = b ∧ (byte8 a b c d e f g h / 4 % 2 == 1) = c ∧ (byte8 a b c d e f g h / 8 % 2 == 1) = d ∧
    (byte8 a b c d e f g h / 16 % 2 == 1) = e ∧ (byte8 a b c d e f g h / 32 % 2 == 1) = f ∧ (byte8 a b c d e f g h / 64 % 2 == 1) = g ∧ (byte8 a b c d e f g h / 128 % 2 == 1) = h := by
  cases a <;> cases b <;> cases c <;> cases d <;> cases e <;> cases f <;> cases g <;> cases h <;> decide
theorem eight (r : Nat) (h : r < 8) : r = 0 ∨ r = 1 ∨ r = 2 ∨ r = 3 ∨ r = 4 ∨ r = 5 ∨ r = 6 ∨ r = 7 := by omega
theorem byteOf_bit (f : Nat → Bool) (j r : Nat) (h : r < 8) : (byteOf f j / 2 ^ r % 2 == 1) = f (8 * j + r) := by
  obtain ⟨h0, h1, h2, h3, h4, h5, h6, h7⟩ := byte8_bit (f (8 * j)) (f (8 * j + 1)) (f (8 * j + 2)) (f (8 * j + 3)) (f (8 * j + 4)) (f (8 * j + 5)) (f (8 * j + 6)) (f (8 * j + 7))
  rcases eight r h with rfl | rfl | rfl | rfl | rfl | rfl | rfl | rfl
  · exact h0
  · exact h1
  · exact h2
  · exact h3
  · exact h4
  · exact h5
  · exact h6
  · exact h7
theorem bitAt_bytesOf (f : Nat → Bool) (m x : Nat) (h : x < 8 * m) : bitAt (bytesOf f m) x = f x := by
  unfold bitAt
  rw [bytesOf_at f m _ (by omega), byteOf_bit f _ _ (by omega), show 8 * (x / 8) + x % 8 = x by omega]
theorem byte8_of : ∀ n, n < 256 → byte8 (n / 1 % 2 == 1) (n / 2 % 2 == 1) (n / 4 % 2 == 1) (n / 8 % 2 == 1) (n / 16 % 2 == 1) (n / 32 % 2 == 1) (n / 64 % 2 == 1) (n / 128 % 2 == 1) = n := by
  decide +kernel
theorem byteOf_bitAt (L : List UInt8) (j : Nat) : byteOf (bitAt L) j = byteAt L j := by
  have hb := byte8_of (byteAt L j) (byteAt_lt L j)
  unfold byteOf bitAt
  rw [show 8 * j / 8 = j by omega, show (8 * j + 1) / 8 = j by omega, show (8 * j + 2) / 8 = j by omega, show (8 * j + 3) / 8 = j by omega, show (8 * j + 4) / 8 = j by omega, show (8 * j + 5) / 8 = j by omega, show (8 * j + 6) / 8 = j by omega, show (8 * j + 7) / 8 = j by omega,
    show 8 * j % 8 = 0 by omega, show (8 * j + 1) % 8 = 1 by omega, show (8 * j + 2) % 8 = 2 by omega, show (8 * j + 3) % 8 = 3 by omega, show (8 * j + 4) % 8 = 4 by omega, show (8 * j + 5) % 8 = 5 by omega, show (8 * j + 6) % 8 = 6 by omega, show (8 * j + 7) % 8 = 7 by omega]
  exact hb
theorem bytesOf_bitAt (L : List UInt8) : bytesOf (bitAt L) L.length = L := by
  apply List.ext_getElem
  · simp [bytesOf]
  · intro j h1 h2
    simp only [bytesOf, List.getElem_map, List.getElem_range, byteOf_bitAt]
    simp [byteAt, List.getD_eq_getElem?_getD, h2]

/-! ### A bit more -/
def addBit (f : Nat → Bool) (n : Nat) : Nat → Bool := fun x => x == n || f x
theorem byte8_or : ∀ (a b c d e f g h : Bool),
    byte8 true b c d e f g h = byte8 a b c d e f g h ||| 1 ∧ byte8 a true c d e f g h = byte8 a b c d e f g h ||| 2 ∧ byte8 a b true d e f g h = byte8 a b c d e f g h ||| 4 ∧ byte8 a b c true e f g h = byte8 a b c d e f g h ||| 8 ∧
    byte8 a b c d true f g h = byte8 a b c d e f g h ||| 16 ∧ byte8 a b c d e true g h = byte8 a b c d e f g h ||| 32 ∧ byte8 a b c d e f true h = byte8 a b c d e f g h ||| 64 ∧ byte8 a b c d e f g true = byte8 a b c d e f g h ||| 128 := by
  decide +kernel
theorem addBit_same (f : Nat → Bool) (n : Nat) : addBit f n n = true := by simp [addBit]
theorem addBit_other (f : Nat → Bool) {n x : Nat} (h : x ≠ n) : addBit f n x = f x := by simp [addBit, h]
theorem byteOf_addBit (f : Nat → Bool) (j r : Nat) (h : r < 8) : byteOf (addBit f (8 * j + r)) j = byteOf f j ||| 2 ^ r := by
  obtain ⟨h0, h1, h2, h3, h4, h5, h6, h7⟩ := byte8_or (f (8 * j)) (f (8 * j + 1)) (f (8 * j + 2)) (f (8 * j + 3)) (f (8 * j + 4)) (f (8 * j + 5)) (f (8 * j + 6)) (f (8 * j + 7))
  unfold byteOf
  rcases eight r h with rfl | rfl | rfl | rfl | rfl | rfl | rfl | rfl
  · rw [show 8 * j + 0 = 8 * j from rfl, addBit_same, addBit_other f (x := 8 * j + 1) (by omega), addBit_other f (x := 8 * j + 2) (by omega), addBit_other f (x := 8 * j + 3) (by omega), addBit_other f (x := 8 * j + 4) (by omega), addBit_other f (x := 8 * j + 5) (by omega), addBit_other f (x := 8 * j + 6) (by omega), addBit_other f (x := 8 * j + 7) (by omega)]
    exact h0
  · rw [addBit_same, addBit_other f (x := 8 * j) (by omega), addBit_other f (x := 8 * j + 2) (by omega), addBit_other f (x := 8 * j + 3) (by omega), addBit_other f (x := 8 * j + 4) (by omega), addBit_other f (x := 8 * j + 5) (by omega), addBit_other f (x := 8 * j + 6) (by omega), addBit_other f (x := 8 * j + 7) (by omega)]
    exact h1
  · rw [addBit_same, addBit_other f (x := 8 * j) (by omega), addBit_other f (x := 8 * j + 1) (by omega), addBit_other f (x := 8 * j + 3) (by omega), addBit_other f (x := 8 * j + 4) (by omega), addBit_other f (x := 8 * j + 5) (by omega), addBit_other f (x := 8 * j + 6) (by omega), addBit_other f (x := 8 * j + 7) (by omega)]
    exact h2
  · rw [addBit_same, addBit_other f (x := 8 * j) (by omega), addBit_other f (x := 8 * j + 1) (by omega), addBit_other f (x := 8 * j + 2) (by omega), addBit_other f (x := 8 * j + 4) (by omega), addBit_other f (x := 8 * j + 5) (by omega), addBit_other f (x := 8 * j + 6) (by omega), addBit_other f (x := 8 * j + 7) (by omega)]
    exact h3
  · rw [addBit_same, addBit_other f (x := 8 * j) (by omega), addBit_other f (x := 8 * j + 1) (by omega), addBit_other f (x := 8 * j + 2) (by omega), addBit_other f (x := 8 * j + 3) (by omega), addBit_other f (x := 8 * j + 5) (by omega), addBit_other f (x := 8 * j + 6) (by omega), addBit_other f (x := 8 * j + 7) (by omega)]
    exact h4
  · rw [addBit_same, addBit_other f (x := 8 * j) (by omega), addBit_other f (x := 8 * j + 1) (by omega), addBit_other f (x := 8 * j + 2) (by omega), addBit_other f (x := 8 * j + 3) (by omega), addBit_other f (x := 8 * j + 4) (by omega), addBit_other f (x := 8 * j + 6) (by omega), addBit_other f (x := 8 * j + 7) (by omega)]
    exact h5
  · rw [addBit_same, addBit_other f (x := 8 * j) (by omega), addBit_other f (x := 8 * j + 1) (by omega), addBit_other f (x := 8 * j + 2) (by omega), addBit_other f (x := 8 * j + 3) (by omega), addBit_other f (x := 8 * j + 4) (by omega), addBit_other f (x := 8 * j + 5) (by omega), addBit_other f (x := 8 * j + 7) (by omega)]
    exact h6
  · rw [addBit_same, addBit_other f (x := 8 * j) (by omega), addBit_other f (x := 8 * j + 1) (by omega), addBit_other f (x := 8 * j + 2) (by omega), addBit_other f (x := 8 * j + 3) (by omega), addBit_other f (x := 8 * j + 4) (by omega), addBit_other f (x := 8 * j + 5) (by omega), addBit_other f (x := 8 * j + 6) (by omega)]
    exact h7
theorem bytesOf_addBit (f : Nat → Bool) (m n : Nat) : (bytesOf f m).set (n / 8) (UInt8.ofNat (byteOf f (n / 8) ||| 2 ^ (n % 8))) = bytesOf (addBit f n) m := by
  have h8 := byteOf_addBit f (n / 8) (n % 8) (by omega)
  rw [show 8 * (n / 8) + n % 8 = n by omega] at h8
  rw [← h8]
  apply List.ext_getElem
  · simp [bytesOf]
  · intro j h1 h2
    rw [List.getElem_set]
    split
    · rename_i e
      subst e
      simp [bytesOf]
    · rename_i e
      simp only [bytesOf, List.getElem_map, List.getElem_range]
      rw [byteOf_congr (f := addBit f n) (g := f) fun x h1 h2 => addBit_other f (by omega)]

/-! ### The bits of keys -/
/-- The numbers of a key's bits: h of them, below N. -/
def nos (h N : Nat) (k : List UInt8) : List Nat := (List.range h).map fun i => wordAt (digest k) (4 * i) % N
theorem nos_len (h N : Nat) (k : List UInt8) : (nos h N k).length = h := by simp [nos]
theorem nos_lt {h N : Nat} (hN : 0 < N) {k : List UInt8} {x : Nat} (hx : x ∈ nos h N k) : x < N := by
  obtain ⟨i, _, rfl⟩ := List.mem_map.1 hx
  exact Nat.mod_lt _ hN
def addBits (f : Nat → Bool) (l : List Nat) : Nat → Bool := l.foldl addBit f
theorem addBits_snoc (f : Nat → Bool) (l : List Nat) (n : Nat) : addBits f (l ++ [n]) = addBit (addBits f l) n := by simp [addBits]
theorem addBits_iff (l : List Nat) : ∀ (f : Nat → Bool) (x : Nat), addBits f l x = (l.contains x || f x) := by
  induction l with
  | nil => intro f x; simp [addBits]
  | cons n l ih =>
    intro f x
    show addBits (addBit f n) l x = _
    rw [ih]
    simp only [addBit, List.contains_cons]
    cases x == n <;> cases l.contains x <;> cases f x <;> rfl
def addKeys (h N : Nat) (f : Nat → Bool) (K : List (List UInt8)) : Nat → Bool := K.foldl (fun f k => addBits f (nos h N k)) f
theorem addKeys_snoc (h N : Nat) (f : Nat → Bool) (K : List (List UInt8)) (k : List UInt8) : addKeys h N f (K ++ [k]) = addBits (addKeys h N f K) (nos h N k) := by simp [addKeys]
def none' : Nat → Bool := fun _ => false
def made (h N : Nat) (K : List (List UInt8)) : Nat → Bool := addKeys h N none' K
theorem addKeys_iff (h N : Nat) (K : List (List UInt8)) : ∀ (f : Nat → Bool) (x : Nat), addKeys h N f K x = (K.any (fun k => (nos h N k).contains x) || f x) := by
  induction K with
  | nil => intro f x; simp [addKeys]
  | cons k K ih =>
    intro f x
    show addKeys h N (addBits f (nos h N k)) K x = _
    rw [ih, addBits_iff]
    simp only [List.any_cons]
    cases (nos h N k).contains x <;> cases (K.any fun k => (nos h N k).contains x) <;> cases f x <;> rfl
theorem made_iff (h N : Nat) (K : List (List UInt8)) (x : Nat) : made h N K x = K.any (fun k => (nos h N k).contains x) := by
  rw [made, addKeys_iff]; simp [none']
def hasB (h N : Nat) (f : Nat → Bool) (k : List UInt8) : Bool := (nos h N k).all f
theorem has_made {h N : Nat} {K : List (List UInt8)} {k : List UInt8} (hk : k ∈ K) : hasB h N (made h N K) k = true := by
  unfold hasB
  rw [List.all_eq_true]
  intro x hx
  rw [made_iff, List.any_eq_true]
  exact ⟨k, hk, by simpa using hx⟩
theorem made_reverse (h N : Nat) (K : List (List UInt8)) : made h N K.reverse = made h N K := by
  funext x
  rw [made_iff, made_iff]
  simp
theorem made_more {h N : Nat} {k : List UInt8} {K : List (List UInt8)} {x : Nat} (hx : made h N K x = true) : made h N (k :: K) x = true := by
  rw [made_iff] at *
  simp only [List.any_cons, hx, Bool.or_true]

/-! ### How many are 1 -/
def ones (f : Nat → Bool) (N : Nat) : Nat := (List.range N).countP f
theorem ones_zero (f : Nat → Bool) : ones f 0 = 0 := rfl
theorem ones_succ (f : Nat → Bool) (N : Nat) : ones f (N + 1) = ones f N + (f N).toNat := by
  simp only [ones, List.range_succ, List.countP_append, List.countP_singleton]
  cases f N <;> rfl
theorem ones_le (f : Nat → Bool) (N : Nat) : ones f N ≤ N := by
  have := List.countP_le_length (p := f) (l := List.range N)
  simpa [ones] using this
theorem ones_mono {f g : Nat → Bool} (h : ∀ x, f x = true → g x = true) (N : Nat) : ones f N ≤ ones g N := by
  induction N with
  | zero => simp [ones]
  | succ N ih =>
    rw [ones_succ, ones_succ]
    cases hf : f N with
    | false => simp; omega
    | true => rw [h N hf]; simpa using ih
theorem ones_congr {f g : Nat → Bool} {N : Nat} (h : ∀ x, x < N → f x = g x) : ones f N = ones g N := by
  induction N with
  | zero => rfl
  | succ N ih => rw [ones_succ, ones_succ, ih (fun x hx => h x (by omega)), h N (by omega)]
theorem ones_addBit (f : Nat → Bool) (n : Nat) (N : Nat) : ones (addBit f n) N ≤ ones f N + 1 ∧ (N ≤ n → ones (addBit f n) N = ones f N) := by
  induction N with
  | zero => simp [ones]
  | succ N ih =>
    rw [ones_succ, ones_succ]
    by_cases h : N = n
    · subst h
      rw [ih.2 (Nat.le_refl _), addBit_same]
      refine ⟨?_, fun h => absurd h (by omega)⟩
      have : (f N).toNat ≤ 1 := by cases f N <;> decide
      simp only [Bool.toNat_true]
      omega
    · rw [addBit_other f h]
      exact ⟨by omega, fun h' => by rw [ih.2 (by omega)]⟩
theorem ones_addBits (l : List Nat) : ∀ (f : Nat → Bool) (N : Nat), ones (addBits f l) N ≤ ones f N + l.length := by
  induction l with
  | nil => intro f N; simp [addBits]
  | cons n l ih =>
    intro f N
    have h1 := ih (addBit f n) N
    have h2 := (ones_addBit f n N).1
    show ones (addBits (addBit f n) l) N ≤ _
    simp only [List.length_cons]
    omega
theorem ones_none (N : Nat) : ones none' N = 0 := by
  induction N with
  | zero => rfl
  | succ N ih => rw [ones_succ, ih]; rfl
theorem ones_made (h N M : Nat) (K : List (List UInt8)) : ones (made h N K) M ≤ h * K.length := by
  have key : ∀ (K : List (List UInt8)) (f : Nat → Bool), ones (addKeys h N f K) M ≤ ones f M + h * K.length := by
    intro K
    induction K with
    | nil => intro f; simp [addKeys]
    | cons k K ih =>
      intro f
      have h1 := ih (addBits f (nos h N k))
      have h2 := ones_addBits (nos h N k) f M
      rw [nos_len] at h2
      show ones (addKeys h N (addBits f (nos h N k)) K) M ≤ _
      simp only [List.length_cons, Nat.mul_succ]
      omega
  have := key K none'
  rw [ones_none] at this
  simpa [made] using this
/-- How many bits of a byte are 1. -/
def pop8 (n : Nat) : Nat := n % 2 + n / 2 % 2 + n / 4 % 2 + n / 8 % 2 + n / 16 % 2 + n / 32 % 2 + n / 64 % 2 + n / 128 % 2
theorem pop8_byte8 : ∀ (a b c d e f g h : Bool), pop8 (byte8 a b c d e f g h) = a.toNat + b.toNat + c.toNat + d.toNat + e.toNat + f.toNat + g.toNat + h.toNat := by
  decide +kernel
theorem ones_byte (f : Nat → Bool) (j : Nat) : ones f (8 * (j + 1)) = ones f (8 * j) + pop8 (byteOf f j) := by
  rw [show 8 * (j + 1) = 8 * j + 1 + 1 + 1 + 1 + 1 + 1 + 1 + 1 by omega]
  iterate 8 rw [ones_succ]
  rw [byteOf, pop8_byte8]
  omega

/-! ### A filter's shape -/
/-- How many bytes: of so many bits for each of so many keys, a multiple of 64 bits. -/
def wordsOf (per count : Nat) : Nat := max ((per * count + 63) / 64) 1
def hashesOf (per : Nat) : Nat := min (max (per * 7 / 10) 1) 8
theorem hashesOf_le (per : Nat) : 1 ≤ hashesOf per ∧ hashesOf per ≤ 8 := by unfold hashesOf; omega
theorem wordsOf_pos (per count : Nat) : 1 ≤ wordsOf per count := by unfold wordsOf; omega
theorem wordsOf_mono {per c d : Nat} (h : c ≤ d) : wordsOf per c ≤ wordsOf per d := by
  have : per * c ≤ per * d := Nat.mul_le_mul_left _ h
  unfold wordsOf
  omega

/-! ### A filter's bytes -/
def packF (h : Nat) (L : List UInt8) : List UInt8 := whole h ++ text L
/-- Opened: the error; the hashes; the bytes. -/
def openL (l : List UInt8) : List UInt8 := l.drop (ck l)
def openE (l : List UInt8) : Int :=
  if ce l ≠ 0 then ce l else if cn l < 1 ∨ 8 < cn l then 3 else if te (openL l) ≠ 0 then te (openL l) else if ts (openL l) = [] ∨ (ts (openL l)).length % 8 ≠ 0 then 3 else if (openL l).length ≠ tk (openL l) then 5 else 0
def openH (l : List UInt8) : Nat := (cn l).toNat
def openT (l : List UInt8) : List UInt8 := ts (openL l)
theorem cn_of {l : List UInt8} (h : ce l = 0) : re l = 0 ∧ cn l = rn l ∧ ck l = rk l ∧ 0 ≤ rn l := by
  rcases cd_cases l with ⟨_, _, _, h1, _, h2, h3, h4⟩ | ⟨h1, _⟩
  · exact ⟨h2, h3, h4, by omega⟩
  · omega
theorem open_ok {l : List UInt8} (h : openE l = 0) : packF (openH l) (openT l) = l ∧ 1 ≤ openH l ∧ openH l ≤ 8 ∧ openT l ≠ [] ∧ (openT l).length % 8 = 0 ∧ (openT l).length ≤ l.length := by
  unfold openE at h
  split at h
  · rename_i h1; exact absurd h h1
  · rename_i h1
    split at h
    · exact absurd h (by decide)
    · rename_i h2
      split at h
      · rename_i h3; exact absurd h h3
      · rename_i h3
        split at h
        · exact absurd h (by decide)
        · rename_i h4
          split at h
          · exact absurd h (by decide)
          · rename_i h5
            have hc := cn_of (show ce l = 0 by omega)
            obtain ⟨a1, a2⟩ := rd_back hc.1
            have ht : te (openL l) = 0 := by omega
            rcases td_cases (openL l) with ⟨_, b1, b2, b3, b4, b5, b6⟩ | ⟨b1, _⟩
            · have hd := cn_of b1
              obtain ⟨c1, c2⟩ := rd_back hd.1
              have hlen : (ts (openL l)).length = (cn (openL l)).toNat := by rw [b6]; simp; omega
              have hall : (openL l).length = ck (openL l) + (cn (openL l)).toNat := by omega
              have e1 : text (openT l) = openL l := by
                show whole ((ts (openL l)).length : Int) ++ ts (openL l) = openL l
                rw [hlen, show (((cn (openL l)).toNat : Nat) : Int) = rn (openL l) by omega, b6, hd.2.2.1]
                rw [List.take_of_length_le (by rw [List.length_drop]; omega)]
                exact c1
              refine ⟨?_, by unfold openH; omega, by unfold openH; omega, ?_, ?_, ?_⟩
              · unfold packF
                rw [e1, show ((openH l : Nat) : Int) = rn l by unfold openH; omega]
                unfold openL
                rw [hc.2.2.1]
                exact a1
              · intro e; exact h4 (.inl e)
              · exact Decidable.of_not_not fun e => h4 (.inr e)
              · show (ts (openL l)).length ≤ _
                have : (openL l).length ≤ l.length := by unfold openL; simp
                omega
            · omega
theorem open_pack {h : Nat} {L : List UInt8} (h1 : 1 ≤ h) (h8 : h ≤ 8) (hL : L ≠ []) (hm : L.length % 8 = 0) (hl : L.length ≤ 9223372036854775807) : openE (packF h L) = 0 ∧ openH (packF h L) = h ∧ openT (packF h L) = L := by
  have r1 := rd_whole (n := (h : Int)) (by omega) (by omega) (text L)
  have r2 := rd_whole (n := (L.length : Int)) (by omega) (by omega) L
  have k1 := (whole_len (n := (h : Int)) (by omega) (by omega)).2
  have hce : ce (packF h L) = 0 ∧ cn (packF h L) = h ∧ ck (packF h L) = (whole h).length := by
    unfold packF
    simp only [ce, cn, ck, r1.1, r1.2.1, r1.2.2]
    simp
    omega
  have hop : openL (packF h L) = text L := by unfold openL; rw [hce.2.2, packF, List.drop_left]
  have hcd : ce (text L) = 0 ∧ cn (text L) = L.length ∧ ck (text L) = (whole L.length).length := by
    unfold text
    simp only [ce, cn, ck, r2.1, r2.2.1, r2.2.2]
    simp
    omega
  have hdr : (text L).drop (whole L.length).length = L := by rw [text, List.drop_left]
  have hws : ws L L.length = L ∧ wk L L.length = L.length ∧ we L L.length = 0 := by
    unfold ws wk we
    rw [if_neg (by omega), if_neg (by omega), if_neg (by omega), if_neg (by omega)]
    simp
  have hte : te (text L) = 0 := by unfold te; rw [if_neg (by omega), hcd.2.2, hcd.2.1, hdr]; exact hws.2.2
  have hts : ts (text L) = L := by unfold ts; rw [if_neg (by omega), hcd.2.2, hcd.2.1, hdr]; exact hws.1
  have htk : tk (text L) = (text L).length := by
    unfold tk
    rw [if_neg (by omega), hcd.2.2, hcd.2.1, hdr, hws.2.1, text, List.length_append]
  refine ⟨?_, by unfold openH; omega, by unfold openT; rw [hop, hts]⟩
  unfold openE
  rw [if_neg (by omega), if_neg (by omega), hop, if_neg (by omega), if_neg (by rw [hts]; intro e; rcases e with e | e; exact hL e; exact e hm), if_neg (by rw [htk]; omega)]
end Go.Proofs.YtbiifdnicieamaaDoor
