/- Texts put together: ShaPlain, BloomPlain, EpRow -/
import Derived.Test.YteejldddgogbkaaGreatDoorTOp00
import Derived.Laws.AppendOwn
import Derived.Deep.AppendSrc
import Derived.RegionTactic
/- Plain mathematics of layer sha: the digest, word by word, on natural numbers. No program, no world. -/
namespace Go.Proofs.YteejldddgogbkaaGreatDoor

/-! ### Words -/

def rot1 (x : Nat) : Nat := x / 2 + 2147483648 * (x % 2)
def rotN : Nat → Nat → Nat
  | 0, x => x
  | k + 1, x => rotN k (rot1 x)
theorem rot1_lt {x : Nat} (h : x < 4294967296) : rot1 x < 4294967296 := by
  have h1 : x / 2 + 2147483648 * (x % 2) < 4294967296 := by omega
  exact h1
theorem rotN_lt (k : Nat) : ∀ {x : Nat}, x < 4294967296 → rotN k x < 4294967296 := by
  induction k with
  | zero => intro x h; exact h
  | succ k ih => intro x h; exact ih (rot1_lt h)
theorem rotN_last (k : Nat) : ∀ x, rotN (k + 1) x = rot1 (rotN k x) := by
  induction k with
  | zero => intro x; rfl
  | succ k ih => intro x; exact ih (rot1 x)
/-- Turning right, at once. -/
theorem rotN_eq (k : Nat) (hk : k ≤ 32) (x : Nat) (h : x < 4294967296) : rotN k x = x / 2 ^ k + x % 2 ^ k * 2 ^ (32 - k) := by
  induction k with
  | zero => simp [rotN, Nat.mod_one]
  | succ k ih =>
    rw [rotN_last, ih (by omega)]
    unfold rot1
    obtain ⟨j, hj⟩ : ∃ j, 32 - k = j + 1 := ⟨31 - k, by omega⟩
    have hj2 : 32 - (k + 1) = j := by omega
    rw [hj, hj2]
    have e1 : (2147483648 : Nat) = 2 ^ k * 2 ^ j := by rw [← Nat.pow_add, show k + j = 31 by omega]
    have hp : 0 < 2 ^ k := Nat.two_pow_pos k
    have e2 : x % 2 ^ (k + 1) = x % 2 ^ k + 2 ^ k * (x / 2 ^ k % 2) := by rw [Nat.pow_succ, Nat.mod_mul]
    have e3 : x / 2 ^ (k + 1) = x / 2 ^ k / 2 := by rw [Nat.pow_succ, Nat.div_div_eq_div_mul]
    have e4 : 2 ^ (j + 1) = 2 * 2 ^ j := by rw [Nat.pow_succ, Nat.mul_comm]
    rw [e1, e2, e3, e4]
    generalize x / 2 ^ k = q
    generalize x % 2 ^ k = r
    generalize 2 ^ k = p
    generalize 2 ^ j = t
    have h1 : (q + r * (2 * t)) / 2 = q / 2 + r * t := by
      rw [show r * (2 * t) = 2 * (r * t) by rw [Nat.mul_left_comm]]
      omega
    have h2 : (q + r * (2 * t)) % 2 = q % 2 := by
      rw [show r * (2 * t) = 2 * (r * t) by rw [Nat.mul_left_comm]]
      omega
    rw [h1, h2, Nat.add_mul]
    have h3 : p * t * (q % 2) = p * (q % 2) * t := Nat.mul_right_comm _ _ _
    rw [h3]
    omega

def sg0 (x : Nat) : Nat := (rotN 7 x ^^^ rotN 18 x) ^^^ x / 8
def sg1 (x : Nat) : Nat := (rotN 17 x ^^^ rotN 19 x) ^^^ x / 1024
def bg0 (x : Nat) : Nat := (rotN 2 x ^^^ rotN 13 x) ^^^ rotN 22 x
def bg1 (x : Nat) : Nat := (rotN 6 x ^^^ rotN 11 x) ^^^ rotN 25 x
def chW (e f g : Nat) : Nat := (e &&& f) ^^^ ((4294967295 - e) &&& g)
def mjW (a b c : Nat) : Nat := ((a &&& b) ^^^ (a &&& c)) ^^^ (b &&& c)

theorem xor_lt32 {a b : Nat} (ha : a < 4294967296) (hb : b < 4294967296) : a ^^^ b < 4294967296 := Nat.xor_lt_two_pow (n := 32) ha hb
theorem and_lt32 {a b : Nat} (hb : b < 4294967296) : a &&& b < 4294967296 := Nat.and_lt_two_pow a (n := 32) hb
theorem sg0_lt {x : Nat} (h : x < 4294967296) : sg0 x < 4294967296 := xor_lt32 (xor_lt32 (rotN_lt _ h) (rotN_lt _ h)) (by omega)
theorem sg1_lt {x : Nat} (h : x < 4294967296) : sg1 x < 4294967296 := xor_lt32 (xor_lt32 (rotN_lt _ h) (rotN_lt _ h)) (by omega)
theorem bg0_lt {x : Nat} (h : x < 4294967296) : bg0 x < 4294967296 := xor_lt32 (xor_lt32 (rotN_lt _ h) (rotN_lt _ h)) (rotN_lt _ h)
theorem bg1_lt {x : Nat} (h : x < 4294967296) : bg1 x < 4294967296 := xor_lt32 (xor_lt32 (rotN_lt _ h) (rotN_lt _ h)) (rotN_lt _ h)
theorem chW_lt {e f g : Nat} (hf : f < 4294967296) (hg : g < 4294967296) : chW e f g < 4294967296 := xor_lt32 (and_lt32 hf) (and_lt32 hg)
theorem mjW_lt {a b c : Nat} (hb : b < 4294967296) (hc : c < 4294967296) : mjW a b c < 4294967296 := xor_lt32 (xor_lt32 (and_lt32 hb) (and_lt32 hc)) (and_lt32 hc)

/-! ### The text with its end -/

def zerosOf (n : Nat) : Nat := (119 - n % 64) % 64
def len8 (n : Nat) : List UInt8 := [UInt8.ofNat (n / 72057594037927936), UInt8.ofNat (n / 281474976710656), UInt8.ofNat (n / 1099511627776), UInt8.ofNat (n / 4294967296), UInt8.ofNat (n / 16777216), UInt8.ofNat (n / 65536), UInt8.ofNat (n / 256), UInt8.ofNat n]
def padded (l : List UInt8) : List UInt8 := l ++ [128] ++ List.replicate (zerosOf l.length) 0 ++ len8 (8 * l.length)

theorem padded_len (l : List UInt8) : (padded l).length % 64 = 0 ∧ (padded l).length ≤ l.length + 72 ∧ l.length + 9 ≤ (padded l).length := by
  unfold padded zerosOf len8
  simp only [List.length_append, List.length_replicate, List.length_cons, List.length_nil]
  omega

/-! ### The schedule, the rounds -/

def numbers : List Nat := [1116352408, 1899447441, 3049323471, 3921009573, 961987163, 1508970993, 2453635748, 2870763221, 3624381080, 310598401, 607225278, 1426881987, 1925078388, 2162078206, 2614888103, 3248222580, 3835390401, 4022224774, 264347078, 604807628, 770255983, 1249150122, 1555081692, 1996064986, 2554220882, 2821834349, 2952996808, 3210313671, 3336571891, 3584528711, 113926993, 338241895, 666307205, 773529912, 1294757372, 1396182291, 1695183700, 1986661051, 2177026350, 2456956037, 2730485921, 2820302411, 3259730800, 3345764771, 3516065817, 3600352804, 4094571909, 275423344, 430227734, 506948616, 659060556, 883997877, 958139571, 1322822218, 1537002063, 1747873779, 1955562222, 2024104815, 2227730452, 2361852424, 2428436474, 2756734187, 3204031479, 3329325298]

def byteAt (p : List UInt8) (i : Nat) : Nat := (p.getD i 0).toNat
def wordAt (p : List UInt8) (o : Nat) : Nat := 256 * (256 * (256 * byteAt p o + byteAt p (o + 1)) + byteAt p (o + 2)) + byteAt p (o + 3)
def nextW (w : List Nat) (i : Nat) : Nat := (((w.getD (i - 16) 0 + sg0 (w.getD (i - 15) 0)) % 4294967296 + w.getD (i - 7) 0) % 4294967296 + sg1 (w.getD (i - 2) 0)) % 4294967296
def sched (p : List UInt8) (o : Nat) : Nat → List Nat
  | 0 => []
  | i + 1 => sched p o i ++ [if i < 16 then wordAt p (o + 4 * i) else nextW (sched p o i) i]

theorem sched_len (p : List UInt8) (o : Nat) : ∀ i, (sched p o i).length = i
  | 0 => rfl
  | i + 1 => by simp [sched, sched_len p o i]
theorem byteAt_lt (p : List UInt8) (i : Nat) : byteAt p i < 256 := (p.getD i 0).toNat_lt
theorem wordAt_lt (p : List UInt8) (o : Nat) : wordAt p o < 4294967296 := by
  have h0 := byteAt_lt p o
  have h1 := byteAt_lt p (o + 1)
  have h2 := byteAt_lt p (o + 2)
  have h3 := byteAt_lt p (o + 3)
  unfold wordAt; omega
theorem sched_lt (p : List UInt8) (o : Nat) : ∀ i, ∀ x ∈ sched p o i, x < 4294967296
  | 0 => by simp [sched]
  | i + 1 => by
    intro x hx
    rw [sched, List.mem_append] at hx
    rcases hx with hx | hx
    · exact sched_lt p o i x hx
    · simp only [List.mem_cons, List.not_mem_nil, or_false] at hx
      subst hx
      split
      · exact wordAt_lt _ _
      · unfold nextW; exact Nat.mod_lt _ (by decide)
theorem getD_lt {w : List Nat} (h : ∀ x ∈ w, x < 4294967296) (i : Nat) : w.getD i 0 < 4294967296 := by
  rw [List.getD_eq_getElem?_getD]
  by_cases hi : i < w.length
  · rw [List.getElem?_eq_getElem hi]; exact h _ (List.getElem_mem _)
  · rw [List.getElem?_eq_none (by omega)]; decide
theorem numbers_lt : ∀ x ∈ numbers, x < 4294967296 := by decide +kernel
theorem numbers_len : numbers.length = 64 := rfl

/-- Eight words. -/
structure Eight where
  a : Nat
  b : Nat
  c : Nat
  d : Nat
  e : Nat
  f : Nat
  g : Nat
  h : Nat
def Eight.list (s : Eight) : List Nat := [s.a, s.b, s.c, s.d, s.e, s.f, s.g, s.h]
def Eight.ok (s : Eight) : Prop := s.a < 4294967296 ∧ s.b < 4294967296 ∧ s.c < 4294967296 ∧ s.d < 4294967296 ∧ s.e < 4294967296 ∧ s.f < 4294967296 ∧ s.g < 4294967296 ∧ s.h < 4294967296

def xOf (k w : Nat) (s : Eight) : Nat := ((((s.h + bg1 s.e) % 4294967296 + chW s.e s.f s.g) % 4294967296 + k) % 4294967296 + w) % 4294967296
def yOf (s : Eight) : Nat := (bg0 s.a + mjW s.a s.b s.c) % 4294967296
def rnd (k w : Nat) (s : Eight) : Eight := ⟨(xOf k w s + yOf s) % 4294967296, s.a, s.b, s.c, (s.d + xOf k w s) % 4294967296, s.e, s.f, s.g⟩
def rnds (w : List Nat) (s : Eight) : Nat → Eight
  | 0 => s
  | i + 1 => rnd (numbers.getD i 0) (w.getD i 0) (rnds w s i)
def plus (s t : Eight) : Eight := ⟨(s.a + t.a) % 4294967296, (s.b + t.b) % 4294967296, (s.c + t.c) % 4294967296, (s.d + t.d) % 4294967296, (s.e + t.e) % 4294967296, (s.f + t.f) % 4294967296, (s.g + t.g) % 4294967296, (s.h + t.h) % 4294967296⟩
def blk (p : List UInt8) (o : Nat) (s : Eight) : Eight := plus s (rnds (sched p o 64) s 64)
def start : Eight := ⟨1779033703, 3144134277, 1013904242, 2773480762, 1359893119, 2600822924, 528734635, 1541459225⟩
def blks (p : List UInt8) : Nat → Eight
  | 0 => start
  | n + 1 => blk p (64 * n) (blks p n)
def digestE (l : List UInt8) : Eight := blks (padded l) ((padded l).length / 64)

theorem mod32 (x : Nat) : x % 4294967296 < 4294967296 := Nat.mod_lt _ (by decide)
theorem rnd_ok {k w : Nat} {s : Eight} (h : s.ok) : (rnd k w s).ok := ⟨mod32 _, h.1, h.2.1, h.2.2.1, mod32 _, h.2.2.2.2.1, h.2.2.2.2.2.1, h.2.2.2.2.2.2.1⟩
theorem rnds_ok {w : List Nat} {s : Eight} (h : s.ok) : ∀ i, (rnds w s i).ok
  | 0 => h
  | i + 1 => rnd_ok (rnds_ok h i)
theorem plus_ok (s t : Eight) : (plus s t).ok := ⟨mod32 _, mod32 _, mod32 _, mod32 _, mod32 _, mod32 _, mod32 _, mod32 _⟩
theorem blks_ok (p : List UInt8) : ∀ n, (blks p n).ok
  | 0 => by unfold Eight.ok blks start; decide +kernel
  | n + 1 => plus_ok _ _

/-- The bytes of a digest. -/
def four4 (x : Nat) : List UInt8 := [UInt8.ofNat (x / 16777216), UInt8.ofNat (x / 65536), UInt8.ofNat (x / 256), UInt8.ofNat x]
def keyOf (s : Eight) : List UInt8 := s.list.flatMap four4
def digest (l : List UInt8) : List UInt8 := keyOf (digestE l)
theorem keyOf_len (s : Eight) : (keyOf s).length = 32 := rfl

end Go.Proofs.YteejldddgogbkaaGreatDoor
/- Filters of keys in plain words: bits as functions of their numbers; what makes them, what they have, how many are 1; their bytes. -/
set_option linter.unusedVariables false
set_option maxRecDepth 100000
namespace Go.Proofs.YteejldddgogbkaaGreatDoor

/-! ### Eight bits, a byte -/
def byte8 (a b c d e f g h : Bool) : Nat := a.toNat + 2 * b.toNat + 4 * c.toNat + 8 * d.toNat + 16 * e.toNat + 32 * f.toNat + 64 * g.toNat + 128 * h.toNat
def byteOf (f : Nat → Bool) (j : Nat) : Nat := byte8 (f (8 * j)) (f (8 * j + 1)) (f (8 * j + 2)) (f (8 * j + 3)) (f (8 * j + 4)) (f (8 * j + 5)) (f (8 * j + 6)) (f (8 * j + 7))
theorem byte8_lt (a b c d e f g h : Bool) : byte8 a b c d e f g h < 256 := by
  unfold byte8
  cases a <;> cases b <;> cases c <;> cases d <;> cases e <;> cases f <;> cases g <;> cases h <;> decide
theorem byteOf_lt (f : Nat → Bool) (j : Nat) : byteOf f j < 256 := byte8_lt ..
def bytesOf (f : Nat → Bool) (m : Nat) : List UInt8 := (List.range m).map fun j => UInt8.ofNat (byteOf f j)
theorem bytesOf_len (f : Nat → Bool) (m : Nat) : (bytesOf f m).length = m := by simp [bytesOf]
theorem bytesOf_at (f : Nat → Bool) (m j : Nat) (h : j < m) : byteAt (bytesOf f m) j = byteOf f j := by
  have := byteOf_lt f j
  simp [byteAt, bytesOf, List.getD_eq_getElem?_getD, h]
  omega
theorem byteOf_congr {f g : Nat → Bool} {j : Nat} (h : ∀ x, 8 * j ≤ x → x < 8 * j + 8 → f x = g x) : byteOf f j = byteOf g j := by
  unfold byteOf
  rw [h (8 * j) (by omega) (by omega), h (8 * j + 1) (by omega) (by omega), h (8 * j + 2) (by omega) (by omega), h (8 * j + 3) (by omega) (by omega), h (8 * j + 4) (by omega) (by omega), h (8 * j + 5) (by omega) (by omega), h (8 * j + 6) (by omega) (by omega), h (8 * j + 7) (by omega) (by omega)]
theorem bytesOf_congr {f g : Nat → Bool} {m : Nat} (h : ∀ x, x < 8 * m → f x = g x) : bytesOf f m = bytesOf g m := by
  unfold bytesOf
  apply List.map_congr_left
  intro j hj
  rw [byteOf_congr fun x h1 h2 => h x (by have := List.mem_range.1 hj; omega)]

/-- The bit of a byte. -/
def bitAt (L : List UInt8) (x : Nat) : Bool := byteAt L (x / 8) / 2 ^ (x % 8) % 2 == 1
theorem byte8_bit (a b c d e f g h : Bool) : (byte8 a b c d e f g h / 1 % 2 == 1) = a ∧ (byte8 a b c d e f g h / 2 % 2 == 1) = b ∧ (byte8 a b c d e f g h / 4 % 2 == 1) = c ∧ (byte8 a b c d e f g h / 8 % 2 == 1) = d ∧
    (byte8 a b c d e f g h / 16 % 2 == 1) = e ∧ (byte8 a b c d e f g h / 32 % 2 == 1) = f ∧ (byte8 a b c d e f g h / 64 % 2 == 1) = g ∧ (byte8 a b c d e f g h / 128 % 2 == 1) = h := by
  cases a <;> cases b <;> cases c <;> cases d <;> cases e <;> cases f <;> cases g <;> cases h <;> decide
theorem eight (r : Nat) (h : r < 8) : r = 0 ∨ r = 1 ∨ r = 2 ∨ r = 3 ∨ r = 4 ∨ r = 5 ∨ r = 6 ∨ r = 7 := by omega
theorem byteOf_bit (f : Nat → Bool) (j r : Nat) (h : r < 8) : (byteOf f j / 2 ^ r % 2 == 1) = f (8 * j + r) := by
  obtain ⟨h0, h1, h2, h3, h4, h5, h6, h7⟩ := byte8_bit (f (8 * j)) (f (8 * j + 1)) (f (8 * j + 2)) (f (8 * j + 3)) (f (8 * j + 4)) (f (8 * j + 5)) (f (8 * j + 6)) (f (8 * j + 7))
  rcases eight r h with rfl | rfl | rfl | rfl | rfl | rfl | rfl | rfl
  · exact h0
  · exact h1
  · exact h2
  · exact h3
  · exact h4
  · exact h5
  · exact h6
  · exact h7
theorem bitAt_bytesOf (f : Nat → Bool) (m x : Nat) (h : x < 8 * m) : bitAt (bytesOf f m) x = f x := by
  unfold bitAt
  rw [bytesOf_at f m _ (by omega), byteOf_bit f _ _ (by omega), show 8 * (x / 8) + x % 8 = x by omega]
theorem byte8_of : ∀ n, n < 256 → byte8 (n / 1 % 2 == 1) (n / 2 % 2 == 1) (n / 4 % 2 == 1) (n / 8 % 2 == 1) (n / 16 % 2 == 1) (n / 32 % 2 == 1) (n / 64 % 2 == 1) (n / 128 % 2 == 1) = n := by
  decide +kernel
theorem byteOf_bitAt (L : List UInt8) (j : Nat) : byteOf (bitAt L) j = byteAt L j := by
  have hb := byte8_of (byteAt L j) (byteAt_lt L j)
  unfold byteOf bitAt
  rw [show 8 * j / 8 = j by omega, show (8 * j + 1) / 8 = j by omega, show (8 * j + 2) / 8 = j by omega, show (8 * j + 3) / 8 = j by omega, show (8 * j + 4) / 8 = j by omega, show (8 * j + 5) / 8 = j by omega, show (8 * j + 6) / 8 = j by omega, show (8 * j + 7) / 8 = j by omega,
    show 8 * j % 8 = 0 by omega, show (8 * j + 1) % 8 = 1 by omega, show (8 * j + 2) % 8 = 2 by omega, show (8 * j + 3) % 8 = 3 by omega, show (8 * j + 4) % 8 = 4 by omega, show (8 * j + 5) % 8 = 5 by omega, show (8 * j + 6) % 8 = 6 by omega, show (8 * j + 7) % 8 = 7 by omega]
  exact hb
theorem bytesOf_bitAt (L : List UInt8) : bytesOf (bitAt L) L.length = L := by
  apply List.ext_getElem
  · simp [bytesOf]
  · intro j h1 h2
    simp only [bytesOf, List.getElem_map, List.getElem_range, byteOf_bitAt]
    simp [byteAt, List.getD_eq_getElem?_getD, h2]

/-! ### A bit more -/
def addBit (f : Nat → Bool) (n : Nat) : Nat → Bool := fun x => x == n || f x
theorem byte8_or : ∀ (a b c d e f g h : Bool),
    byte8 true b c d e f g h = byte8 a b c d e f g h ||| 1 ∧ byte8 a true c d e f g h = byte8 a b c d e f g h ||| 2 ∧ byte8 a b true d e f g h = byte8 a b c d e f g h ||| 4 ∧ byte8 a b c true e f g h = byte8 a b c d e f g h ||| 8 ∧
    byte8 a b c d true f g h = byte8 a b c d e f g h ||| 16 ∧ byte8 a b c d e true g h = byte8 a b c d e f g h ||| 32 ∧ byte8 a b c d e f true h = byte8 a b c d e f g h ||| 64 ∧ byte8 a b c d e f g true = byte8 a b c d e f g h ||| 128 := by
  decide +kernel
theorem addBit_same (f : Nat → Bool) (n : Nat) : addBit f n n = true := by simp [addBit]
theorem addBit_other (f : Nat → Bool) {n x : Nat} (h : x ≠ n) : addBit f n x = f x := by simp [addBit, h]
theorem byteOf_addBit (f : Nat → Bool) (j r : Nat) (h : r < 8) : byteOf (addBit f (8 * j + r)) j = byteOf f j ||| 2 ^ r := by
  obtain ⟨h0, h1, h2, h3, h4, h5, h6, h7⟩ := byte8_or (f (8 * j)) (f (8 * j + 1)) (f (8 * j + 2)) (f (8 * j + 3)) (f (8 * j + 4)) (f (8 * j + 5)) (f (8 * j + 6)) (f (8 * j + 7))
  unfold byteOf
  rcases eight r h with rfl | rfl | rfl | rfl | rfl | rfl | rfl | rfl
  · rw [show 8 * j + 0 = 8 * j from rfl, addBit_same, addBit_other f (x := 8 * j + 1) (by omega), addBit_other f (x := 8 * j + 2) (by omega), addBit_other f (x := 8 * j + 3) (by omega), addBit_other f (x := 8 * j + 4) (by omega), addBit_other f (x := 8 * j + 5) (by omega), addBit_other f (x := 8 * j + 6) (by omega), addBit_other f (x := 8 * j + 7) (by omega)]
    exact h0
  · rw [addBit_same, addBit_other f (x := 8 * j) (by omega), addBit_other f (x := 8 * j + 2) (by omega), addBit_other f (x := 8 * j + 3) (by omega), addBit_other f (x := 8 * j + 4) (by omega), addBit_other f (x := 8 * j + 5) (by omega), addBit_other f (x := 8 * j + 6) (by omega), addBit_other f (x := 8 * j + 7) (by omega)]
    exact h1
  · rw [addBit_same, addBit_other f (x := 8 * j) (by omega), addBit_other f (x := 8 * j + 1) (by omega), addBit_other f (x := 8 * j + 3) (by omega), addBit_other f (x := 8 * j + 4) (by omega), addBit_other f (x := 8 * j + 5) (by omega), addBit_other f (x := 8 * j + 6) (by omega), addBit_other f (x := 8 * j + 7) (by omega)]
    exact h2
  · rw [addBit_same, addBit_other f (x := 8 * j) (by omega), addBit_other f (x := 8 * j + 1) (by omega), addBit_other f (x := 8 * j + 2) (by omega), addBit_other f (x := 8 * j + 4) (by omega), addBit_other f (x := 8 * j + 5) (by omega), addBit_other f (x := 8 * j + 6) (by omega), addBit_other f (x := 8 * j + 7) (by omega)]
    exact h3
  · rw [addBit_same, addBit_other f (x := 8 * j) (by omega), addBit_other f (x := 8 * j + 1) (by omega), addBit_other f (x := 8 * j + 2) (by omega), addBit_other f (x := 8 * j + 3) (by omega), addBit_other f (x := 8 * j + 5) (by omega), addBit_other f (x := 8 * j + 6) (by omega), addBit_other f (x := 8 * j + 7) (by omega)]
    exact h4
  · rw [addBit_same, addBit_other f (x := 8 * j) (by omega), addBit_other f (x := 8 * j + 1) (by omega), addBit_other f (x := 8 * j + 2) (by omega), addBit_other f (x := 8 * j + 3) (by omega), addBit_other f (x := 8 * j + 4) (by omega), addBit_other f (x := 8 * j + 6) (by omega), addBit_other f (x := 8 * j + 7) (by omega)]
    exact h5
  · rw [addBit_same, addBit_other f (x := 8 * j) (by omega), addBit_other f (x := 8 * j + 1) (by omega), addBit_other f (x := 8 * j + 2) (by omega), addBit_other f (x := 8 * j + 3) (by omega), addBit_other f (x := 8 * j + 4) (by omega), addBit_other f (x := 8 * j + 5) (by omega), addBit_other f (x := 8 * j + 7) (by omega)]
    exact h6
  · rw [addBit_same, addBit_other f (x := 8 * j) (by omega), addBit_other f (x := 8 * j + 1) (by omega), addBit_other f (x := 8 * j + 2) (by omega), addBit_other f (x := 8 * j + 3) (by omega), addBit_other f (x := 8 * j + 4) (by omega), addBit_other f (x := 8 * j + 5) (by omega), addBit_other f (x := 8 * j + 6) (by omega)]
    exact h7
theorem bytesOf_addBit (f : Nat → Bool) (m n : Nat) : (bytesOf f m).set (n / 8) (UInt8.ofNat (byteOf f (n / 8) ||| 2 ^ (n % 8))) = bytesOf (addBit f n) m := by
  have h8 := byteOf_addBit f (n / 8) (n % 8) (by omega)
  rw [show 8 * (n / 8) + n % 8 = n by omega] at h8
  rw [← h8]
  apply List.ext_getElem
  · simp [bytesOf]
  · intro j h1 h2
    rw [List.getElem_set]
    split
    · rename_i e
      subst e
      simp [bytesOf]
    · rename_i e
      simp only [bytesOf, List.getElem_map, List.getElem_range]
      rw [byteOf_congr (f := addBit f n) (g := f) fun x h1 h2 => addBit_other f (by omega)]

/-! ### The bits of keys -/
/-- The numbers of a key's bits: h of them, below N. -/
def nos (h N : Nat) (k : List UInt8) : List Nat := (List.range h).map fun i => wordAt (digest k) (4 * i) % N
theorem nos_len (h N : Nat) (k : List UInt8) : (nos h N k).length = h := by simp [nos]
theorem nos_lt {h N : Nat} (hN : 0 < N) {k : List UInt8} {x : Nat} (hx : x ∈ nos h N k) : x < N := by
  obtain ⟨i, _, rfl⟩ := List.mem_map.1 hx
  exact Nat.mod_lt _ hN
def addBits (f : Nat → Bool) (l : List Nat) : Nat → Bool := l.foldl addBit f
theorem addBits_snoc (f : Nat → Bool) (l : List Nat) (n : Nat) : addBits f (l ++ [n]) = addBit (addBits f l) n := by simp [addBits]
theorem addBits_iff (l : List Nat) : ∀ (f : Nat → Bool) (x : Nat), addBits f l x = (l.contains x || f x) := by
  induction l with
  | nil => intro f x; simp [addBits]
  | cons n l ih =>
    intro f x
    show addBits (addBit f n) l x = _
    rw [ih]
    simp only [addBit, List.contains_cons]
    cases x == n <;> cases l.contains x <;> cases f x <;> rfl
def addKeys (h N : Nat) (f : Nat → Bool) (K : List (List UInt8)) : Nat → Bool := K.foldl (fun f k => addBits f (nos h N k)) f
theorem addKeys_snoc (h N : Nat) (f : Nat → Bool) (K : List (List UInt8)) (k : List UInt8) : addKeys h N f (K ++ [k]) = addBits (addKeys h N f K) (nos h N k) := by simp [addKeys]
def none' : Nat → Bool := fun _ => false
def made (h N : Nat) (K : List (List UInt8)) : Nat → Bool := addKeys h N none' K
theorem addKeys_iff (h N : Nat) (K : List (List UInt8)) : ∀ (f : Nat → Bool) (x : Nat), addKeys h N f K x = (K.any (fun k => (nos h N k).contains x) || f x) := by
  induction K with
  | nil => intro f x; simp [addKeys]
  | cons k K ih =>
    intro f x
    show addKeys h N (addBits f (nos h N k)) K x = _
    rw [ih, addBits_iff]
    simp only [List.any_cons]
    cases (nos h N k).contains x <;> cases (K.any fun k => (nos h N k).contains x) <;> cases f x <;> rfl
theorem made_iff (h N : Nat) (K : List (List UInt8)) (x : Nat) : made h N K x = K.any (fun k => (nos h N k).contains x) := by
  rw [made, addKeys_iff]; simp [none']
def hasB (h N : Nat) (f : Nat → Bool) (k : List UInt8) : Bool := (nos h N k).all f
theorem has_made {h N : Nat} {K : List (List UInt8)} {k : List UInt8} (hk : k ∈ K) : hasB h N (made h N K) k = true := by
  unfold hasB
  rw [List.all_eq_true]
  intro x hx
  rw [made_iff, List.any_eq_true]
  exact ⟨k, hk, by simpa using hx⟩
theorem made_reverse (h N : Nat) (K : List (List UInt8)) : made h N K.reverse = made h N K := by
  funext x
  rw [made_iff, made_iff]
  simp
theorem made_more {h N : Nat} {k : List UInt8} {K : List (List UInt8)} {x : Nat} (hx : made h N K x = true) : made h N (k :: K) x = true := by
  rw [made_iff] at *
  simp only [List.any_cons, hx, Bool.or_true]

/-! ### How many are 1 -/
def ones (f : Nat → Bool) (N : Nat) : Nat := (List.range N).countP f
theorem ones_zero (f : Nat → Bool) : ones f 0 = 0 := rfl
theorem ones_succ (f : Nat → Bool) (N : Nat) : ones f (N + 1) = ones f N + (f N).toNat := by
  simp only [ones, List.range_succ, List.countP_append, List.countP_singleton]
  cases f N <;> rfl
theorem ones_le (f : Nat → Bool) (N : Nat) : ones f N ≤ N := by
  have := List.countP_le_length (p := f) (l := List.range N)
  simpa [ones] using this
theorem ones_mono {f g : Nat → Bool} (h : ∀ x, f x = true → g x = true) (N : Nat) : ones f N ≤ ones g N := by
  induction N with
  | zero => simp [ones]
  | succ N ih =>
    rw [ones_succ, ones_succ]
    cases hf : f N with
    | false => simp; omega
    | true => rw [h N hf]; simpa using ih
theorem ones_congr {f g : Nat → Bool} {N : Nat} (h : ∀ x, x < N → f x = g x) : ones f N = ones g N := by
  induction N with
  | zero => rfl
  | succ N ih => rw [ones_succ, ones_succ, ih (fun x hx => h x (by omega)), h N (by omega)]
theorem ones_addBit (f : Nat → Bool) (n : Nat) (N : Nat) : ones (addBit f n) N ≤ ones f N + 1 ∧ (N ≤ n → ones (addBit f n) N = ones f N) := by
  induction N with
  | zero => simp [ones]
  | succ N ih =>
    rw [ones_succ, ones_succ]
    by_cases h : N = n
    · subst h
      rw [ih.2 (Nat.le_refl _), addBit_same]
      refine ⟨?_, fun h => absurd h (by omega)⟩
      have : (f N).toNat ≤ 1 := by cases f N <;> decide
      simp only [Bool.toNat_true]
      omega
    · rw [addBit_other f h]
      exact ⟨by omega, fun h' => by rw [ih.2 (by omega)]⟩
theorem ones_addBits (l : List Nat) : ∀ (f : Nat → Bool) (N : Nat), ones (addBits f l) N ≤ ones f N + l.length := by
  induction l with
  | nil => intro f N; simp [addBits]
  | cons n l ih =>
    intro f N
    have h1 := ih (addBit f n) N
    have h2 := (ones_addBit f n N).1
    show ones (addBits (addBit f n) l) N ≤ _
    simp only [List.length_cons]
    omega
theorem ones_none (N : Nat) : ones none' N = 0 := by
  induction N with
  | zero => rfl
  | succ N ih => rw [ones_succ, ih]; rfl
theorem ones_made (h N M : Nat) (K : List (List UInt8)) : ones (made h N K) M ≤ h * K.length := by
  have key : ∀ (K : List (List UInt8)) (f : Nat → Bool), ones (addKeys h N f K) M ≤ ones f M + h * K.length := by
    intro K
    induction K with
    | nil => intro f; simp [addKeys]
    | cons k K ih =>
      intro f
      have h1 := ih (addBits f (nos h N k))
      have h2 := ones_addBits (nos h N k) f M
      rw [nos_len] at h2
      show ones (addKeys h N (addBits f (nos h N k)) K) M ≤ _
      simp only [List.length_cons, Nat.mul_succ]
      omega
  have := key K none'
  rw [ones_none] at this
  simpa [made] using this
/-- How many bits of a byte are 1. -/
def pop8 (n : Nat) : Nat := n % 2 + n / 2 % 2 + n / 4 % 2 + n / 8 % 2 + n / 16 % 2 + n / 32 % 2 + n / 64 % 2 + n / 128 % 2
theorem pop8_byte8 : ∀ (a b c d e f g h : Bool), pop8 (byte8 a b c d e f g h) = a.toNat + b.toNat + c.toNat + d.toNat + e.toNat + f.toNat + g.toNat + h.toNat := by
  decide +kernel
theorem ones_byte (f : Nat → Bool) (j : Nat) : ones f (8 * (j + 1)) = ones f (8 * j) + pop8 (byteOf f j) := by
  rw [show 8 * (j + 1) = 8 * j + 1 + 1 + 1 + 1 + 1 + 1 + 1 + 1 by omega]
  iterate 8 rw [ones_succ]
  rw [byteOf, pop8_byte8]
  omega

/-! ### A filter's shape -/
/-- How many bytes: of so many bits for each of so many keys, a multiple of 64 bits. -/
def wordsOf (per count : Nat) : Nat := max ((per * count + 63) / 64) 1
def hashesOf (per : Nat) : Nat := min (max (per * 7 / 10) 1) 8
theorem hashesOf_le (per : Nat) : 1 ≤ hashesOf per ∧ hashesOf per ≤ 8 := by unfold hashesOf; omega
theorem wordsOf_pos (per count : Nat) : 1 ≤ wordsOf per count := by unfold wordsOf; omega
theorem wordsOf_mono {per c d : Nat} (h : c ≤ d) : wordsOf per c ≤ wordsOf per d := by
  have : per * c ≤ per * d := Nat.mul_le_mul_left _ h
  unfold wordsOf
  omega

/-! ### A filter's bytes -/
def packF (h : Nat) (L : List UInt8) : List UInt8 := whole h ++ text L
/-- Opened: the error; the hashes; the bytes. -/
def openL (l : List UInt8) : List UInt8 := l.drop (ck l)
def openE (l : List UInt8) : Int :=
  if ce l ≠ 0 then ce l else if cn l < 1 ∨ 8 < cn l then 3 else if te (openL l) ≠ 0 then te (openL l) else if ts (openL l) = [] ∨ (ts (openL l)).length % 8 ≠ 0 then 3 else if (openL l).length ≠ tk (openL l) then 5 else 0
def openH (l : List UInt8) : Nat := (cn l).toNat
def openT (l : List UInt8) : List UInt8 := ts (openL l)
theorem cn_of {l : List UInt8} (h : ce l = 0) : re l = 0 ∧ cn l = rn l ∧ ck l = rk l ∧ 0 ≤ rn l := by
  rcases cd_cases l with ⟨_, _, _, h1, _, h2, h3, h4⟩ | ⟨h1, _⟩
  · exact ⟨h2, h3, h4, by omega⟩
  · omega
theorem open_ok {l : List UInt8} (h : openE l = 0) : packF (openH l) (openT l) = l ∧ 1 ≤ openH l ∧ openH l ≤ 8 ∧ openT l ≠ [] ∧ (openT l).length % 8 = 0 ∧ (openT l).length ≤ l.length := by
  unfold openE at h
  split at h
  · rename_i h1; exact absurd h h1
  · rename_i h1
    split at h
    · exact absurd h (by decide)
    · rename_i h2
      split at h
      · rename_i h3; exact absurd h h3
      · rename_i h3
        split at h
        · exact absurd h (by decide)
        · rename_i h4
          split at h
          · exact absurd h (by decide)
          · rename_i h5
            have hc := cn_of (show ce l = 0 by omega)
            obtain ⟨a1, a2⟩ := rd_back hc.1
            have ht : te (openL l) = 0 := by omega
            rcases td_cases (openL l) with ⟨_, b1, b2, b3, b4, b5, b6⟩ | ⟨b1, _⟩
            · have hd := cn_of b1
              obtain ⟨c1, c2⟩ := rd_back hd.1
              have hlen : (ts (openL l)).length = (cn (openL l)).toNat := by rw [b6]; simp; omega
              have hall : (openL l).length = ck (openL l) + (cn (openL l)).toNat := by omega
              have e1 : text (openT l) = openL l := by
                show whole ((ts (openL l)).length : Int) ++ ts (openL l) = openL l
                rw [hlen, show (((cn (openL l)).toNat : Nat) : Int) = rn (openL l) by omega, b6, hd.2.2.1]
                rw [List.take_of_length_le (by rw [List.length_drop]; omega)]
                exact c1
              refine ⟨?_, by unfold openH; omega, by unfold openH; omega, ?_, ?_, ?_⟩
              · unfold packF
                rw [e1, show ((openH l : Nat) : Int) = rn l by unfold openH; omega]
                unfold openL
                rw [hc.2.2.1]
                exact a1
              · intro e; exact h4 (.inl e)
              · exact Decidable.of_not_not fun e => h4 (.inr e)
              · show (ts (openL l)).length ≤ _
                have : (openL l).length ≤ l.length := by unfold openL; simp
                omega
            · omega
theorem open_pack {h : Nat} {L : List UInt8} (h1 : 1 ≤ h) (h8 : h ≤ 8) (hL : L ≠ []) (hm : L.length % 8 = 0) (hl : L.length ≤ 9223372036854775807) : openE (packF h L) = 0 ∧ openH (packF h L) = h ∧ openT (packF h L) = L := by
  have r1 := rd_whole (n := (h : Int)) (by omega) (by omega) (text L)
  have r2 := rd_whole (n := (L.length : Int)) (by omega) (by omega) L
  have k1 := (whole_len (n := (h : Int)) (by omega) (by omega)).2
  have hce : ce (packF h L) = 0 ∧ cn (packF h L) = h ∧ ck (packF h L) = (whole h).length := by
    unfold packF
    simp only [ce, cn, ck, r1.1, r1.2.1, r1.2.2]
    simp
    omega
  have hop : openL (packF h L) = text L := by unfold openL; rw [hce.2.2, packF, List.drop_left]
  have hcd : ce (text L) = 0 ∧ cn (text L) = L.length ∧ ck (text L) = (whole L.length).length := by
    unfold text
    simp only [ce, cn, ck, r2.1, r2.2.1, r2.2.2]
    simp
    omega
  have hdr : (text L).drop (whole L.length).length = L := by rw [text, List.drop_left]
  have hws : ws L L.length = L ∧ wk L L.length = L.length ∧ we L L.length = 0 := by
    unfold ws wk we
    rw [if_neg (by omega), if_neg (by omega), if_neg (by omega), if_neg (by omega)]
    simp
  have hte : te (text L) = 0 := by unfold te; rw [if_neg (by omega), hcd.2.2, hcd.2.1, hdr]; exact hws.2.2
  have hts : ts (text L) = L := by unfold ts; rw [if_neg (by omega), hcd.2.2, hcd.2.1, hdr]; exact hws.1
  have htk : tk (text L) = (text L).length := by
    unfold tk
    rw [if_neg (by omega), hcd.2.2, hcd.2.1, hdr, hws.2.1, text, List.length_append]
  refine ⟨?_, by unfold openH; omega, by unfold openT; rw [hop, hts]⟩
  unfold openE
  rw [if_neg (by omega), if_neg (by omega), hop, if_neg (by omega), if_neg (by rw [hts]; intro e; rcases e with e | e; exact hL e; exact e hm), if_neg (by rw [htk]; omega)]
end Go.Proofs.YteejldddgogbkaaGreatDoor
/- A slice of the call's own that may begin behind its row's beginning: what it holds, one element more, its beginning taken off. -/
set_option linter.unusedVariables false
set_option maxRecDepth 100000
namespace Go.Proofs.YteejldddgogbkaaGreatDoor
open Go.RowKit

/-- v is a slice of n elements of type e, each of so many cells, in a row from block B on; its elements' cells are xs. -/
def OffRow (w : World) (B : Nat) (e : TypeId) (size : Nat) (v : Value) (n : Nat) (xs : List Value) : Prop :=
  xs.length = n * size ∧ ((v = .slice none 0 0 ∧ n = 0) ∨ ∃ g off cap cur, v = .slice (some ⟨g, off, none⟩) n cap ∧ B ≤ g ∧ w.heap[g]? = some (.cells cur e (0, 0)) ∧ n ≤ cap ∧ cap ≤ maxLen ∧ off + cap * size ≤ cur.size ∧ ∀ j, j < n * size → cur[off + j]? = xs[j]?)
namespace OffRow
variable {w w' : World} {B : Nat} {e : TypeId} {size : Nat} {v : Value} {n : Nat} {xs : List Value}
theorem nil (w : World) (B : Nat) (e : TypeId) (size : Nat) : OffRow w B e size (.slice none 0 0) 0 [] := ⟨by simp, .inl ⟨rfl, rfl⟩⟩
theorem slice (h : OffRow w B e size v n xs) : ∃ a cap, v = .slice a n cap := by
  rcases h.2 with ⟨rfl, rfl⟩ | ⟨g, off, cap, cur, rfl, _⟩
  · exact ⟨_, _, rfl⟩
  · exact ⟨_, _, rfl⟩
theorem form (h : OffRow w B e size v n xs) (hn : 0 < n) : ∃ g off cap cur, v = .slice (some ⟨g, off, none⟩) n cap ∧ B ≤ g ∧ w.heap[g]? = some (.cells cur e (0, 0)) ∧ ∀ j, j < n * size → w.cell? ⟨g, off + j, none⟩ = xs[j]? := by
  rcases h.2 with ⟨_, h0⟩ | ⟨g, off, cap, cur, rfl, hB, hg, h1, h2, h3, h4⟩
  · omega
  · exact ⟨g, off, cap, cur, rfl, hB, hg, fun j hj => by rw [← h4 j hj]; simp [World.cell?, hg]⟩
theorem lt (h : OffRow w B e size v n xs) : ∀ k, v.ownBlock = some k → B ≤ k ∧ k < w.heap.size := by
  intro k hk
  rcases h.2 with ⟨rfl, _⟩ | ⟨g, off, cap, cur, rfl, hB, hg, _⟩
  · simp [Value.ownBlock] at hk
  · simp [Value.ownBlock] at hk
    subst hk
    exact ⟨hB, heap_lt hg⟩
theorem tag (h : OffRow w B e size v n xs) {k : Nat} (hk : v.ownBlock = some k) : ∃ cur, w.heap[k]? = some (.cells cur e (0, 0)) := by
  rcases h.2 with ⟨rfl, _⟩ | ⟨g, off, cap, cur, rfl, hB, hg, _⟩
  · simp [Value.ownBlock] at hk
  · simp [Value.ownBlock] at hk
    subst hk
    exact ⟨cur, hg⟩
theorem kept (h : OffRow w B e size v n xs) (k : ∀ j, v.ownBlock = some j → w'.heap[j]? = w.heap[j]?) : OffRow w' B e size v n xs := by
  refine ⟨h.1, ?_⟩
  rcases h.2 with h0 | ⟨g, off, cap, cur, rfl, hB, hg, h1⟩
  · exact .inl h0
  · exact .inr ⟨g, off, cap, cur, rfl, hB, (k g rfl).trans hg, h1⟩
theorem of_own (h : w.ownsRow B e size v n xs) : OffRow w B e size v n xs := by
  refine ⟨h.1, ?_⟩
  rcases h.2 with h0 | ⟨g, cap, cur, rfl, hB, hg, h1, h2, h3, h4⟩
  · exact .inl h0
  · refine .inr ⟨g, 0, cap, cur, rfl, hB, hg, h1, h2, by omega, fun j hj => ?_⟩
    rw [← h4, List.getElem?_take, if_pos hj]
    simp
theorem cap_le (h : OffRow w B e size v n xs) : n ≤ maxLen := by
  rcases h.2 with ⟨_, h0⟩ | ⟨g, off, cap, cur, rfl, hB, hg, h1, h2, _⟩
  · unfold maxLen; omega
  · omega
/-- Its beginning is taken off. -/
theorem drop (h : OffRow w B e size v n xs) {a : Option Addr} {cap : Nat} (hv : v = .slice a n cap) {g : Nat} (hg : g ≤ n) : ∃ a', (g < cap → a' = a.map (·.add (g * size))) ∧ (g = cap → a' = a) ∧ OffRow w B e size (.slice a' (n - g) (cap - g)) (n - g) (xs.drop (g * size)) := by
  subst hv
  have hl : (xs.drop (g * size)).length = (n - g) * size := by rw [List.length_drop, h.1, Nat.sub_mul]
  rcases h.2 with ⟨h0, rfl⟩ | ⟨b, off, cap', cur, h0, hB, hh, h1, h2, h3, h4⟩
  · injection h0 with e1 _ e3
    subst e1 e3
    obtain rfl : g = 0 := by omega
    exact ⟨none, fun x => absurd x (by omega), fun _ => rfl, hl, .inl ⟨rfl, rfl⟩⟩
  · injection h0 with e1 _ e3
    subst e1 e3
    by_cases hc : g < cap
    · refine ⟨some ⟨b, off + g * size, none⟩, fun _ => by simp [addr_add], fun x => absurd x (by omega), hl, .inr ⟨b, off + g * size, cap - g, cur, rfl, hB, hh, by omega, by omega, ?_, fun j hj => ?_⟩⟩
      · have : g * size + (cap - g) * size = cap * size := by rw [← Nat.add_mul]; congr 1; omega
        omega
      · rw [Nat.sub_mul] at hj
        rw [List.getElem?_drop, Nat.add_assoc]
        exact h4 _ (by omega)
    · obtain rfl : g = cap := by omega
      obtain rfl : n = g := by omega
      refine ⟨some ⟨b, off, none⟩, fun x => absurd x (by omega), fun _ => rfl, hl, .inr ⟨b, off, n - n, cur, rfl, hB, hh, Nat.le_refl _, by omega, by simp; have := h3; omega, fun j hj => ?_⟩⟩
      simp at hj
end OffRow

theorem setCells_heap : ∀ (vs : List Value) (b o : Nat) (w : World) (cur : Array Value) (t : TypeId), w.heap[b]? = some (.cells cur t (0, 0)) → ∃ cur', (w.setCells b o vs).heap[b]? = some (.cells cur' t (0, 0)) ∧ cur'.size = cur.size ∧ (∀ j, j < vs.length → o + j < cur.size → cur'[o + j]? = vs[j]?) ∧ (∀ j, (j < o ∨ o + vs.length ≤ j) → cur'[j]? = cur[j]?)
  | [], b, o, w, cur, t, h => ⟨cur, h, rfl, fun j hj => absurd hj (by simp), fun _ _ => rfl⟩
  | v :: r, b, o, w, cur, t, h => by
    have h1 := heap_set (o := o) h v
    obtain ⟨cur', a1, a2, a3, a4⟩ := setCells_heap r b (o + 1) (w.setCell ⟨b, o, none⟩ v) _ t h1
    refine ⟨cur', a1, by rw [a2]; simp, fun j hj hlt => ?_, fun j hj => ?_⟩
    · cases j with
      | zero =>
        rw [a4 (o + 0) (.inl (by omega))]
        simp [Array.getElem?_setIfInBounds]
        omega
      | succ j =>
        have := a3 j (by simpa using hj) (by simp; omega)
        rw [show o + (j + 1) = o + 1 + j by omega]
        simpa using this
    · rw [a4 j (by simp at hj; omega), Array.getElem?_setIfInBounds, if_neg (by simp at hj; omega)]
theorem setCells_other : ∀ (vs : List Value) (b o : Nat) (w : World) (k : Nat), k ≠ b → (w.setCells b o vs).heap[k]? = w.heap[k]?
  | [], _, _, _, _, _ => rfl
  | v :: r, b, o, w, k, h => (setCells_other r b (o + 1) _ k h).trans (heap_set_other h v)
theorem setCells_meta : ∀ (vs : List Value) (b o : Nat) (w : World), (w.setCells b o vs).os = w.os ∧ (w.setCells b o vs).tape = w.tape ∧ (w.setCells b o vs).output = w.output ∧ (w.setCells b o vs).heap.size = w.heap.size
  | [], _, _, _ => ⟨rfl, rfl, rfl, rfl⟩
  | v :: r, b, o, w => by
    obtain ⟨h1, h2, h3, h4⟩ := setCells_meta r b (o + 1) (w.setCell ⟨b, o, none⟩ v)
    exact ⟨h1, h2, h3, h4.trans (by simp [World.setCell])⟩

/-- Elements more. -/
theorem run_append_off {P : Program} {w : World} {B : Nat} (t ty e : TypeId) (i : TypeInfo) (z : Value) (size bytes : Nat) (ht : P.underlying t = some (.slice e)) (hi : P.info? e = some i) (hz : i.zero = some z)
    (hsize : i.size = size) (hby : i.bytes = bytes) (hzs : z.cells.size = size)
    {v : Value} {n : Nat} {xs : List Value} (h : OffRow w B e size v n xs) (x : Value) (m : Nat) (news : List Value) (hs : Src P size t x m news w)
    (h63 : n + m ≤ maxLen) (hbytes : (n + m) * bytes ≤ 140737488355328) (hB : B ≤ w.heap.size) :
    ∃ v' w', (Builtin.append_ #[t, t] ty #[v, x]).run P w = .ok v' w' ∧ OffRow w' B e size v' (n + m) (xs ++ news) ∧ w.grownBy w' v.ownBlock ∧ (v'.ownBlock = v.ownBlock ∨ v'.ownBlock = some w.heap.size) := by
  subst hsize hby
  have hlen : (xs ++ news).length = (n + m) * i.size := by rw [List.length_append, h.1, hs.newsLen, Nat.add_mul]
  have hsmall : ((n + m : Nat) : Int) ≤ 9223372036854775807 := by unfold maxLen at h63; omega
  have grown : ∀ old, old < n + m → OffRow (w.drew.alloc (.cells ((xs ++ news).toArray ++ Builtin.zeroCells z.cells (grownCap w (n + m) old e - (n + m))) e)) B e i.size (.slice (some ⟨w.heap.size, 0, none⟩) (n + m) (grownCap w (n + m) old e)) (n + m) (xs ++ news) := by
    intro old ho
    refine ⟨hlen, .inr ⟨w.heap.size, 0, _, _, rfl, hB, heap_new w.drew _, grownCap_ge w (n + m) old e, grownCap_le_maxLen w (n + m) old e h63, ?_, fun j hj => ?_⟩⟩
    · have := grownCap_ge w (n + m) old e
      rw [Array.size_append, size_zeroCells, hzs, List.size_toArray, hlen, ← Nat.add_mul]
      exact Nat.le_of_eq (by rw [Nat.zero_add]; congr 1; omega)
    · rw [Nat.zero_add, Array.getElem?_append_left (by simpa [hlen] using hj)]
      simp
  rcases h.2 with ⟨rfl, rfl⟩ | ⟨g, off, cap, cur, rfl, hBg, hg, h1, h2, h3, h4⟩
  · obtain rfl : xs = [] := List.eq_nil_of_length_eq_zero (by simpa using h.1)
    by_cases hm : m = 0
    · subst hm
      obtain rfl : news = [] := List.eq_nil_of_length_eq_zero (by simpa using hs.newsLen)
      refine ⟨.slice none 0 0, w, ?_, OffRow.nil w B e i.size, ⟨rfl, rfl, rfl, Nat.le_refl _, fun _ _ _ => rfl⟩, .inl rfl⟩
      have hk := hs.kind
      simp [Builtin.append_, run_underlying ht, sizeOf, typeInfo, hi, hs.len, hs.cells]
    · have hold : (Builtin.firstCells i.size 0 (.slice none 0 0)).run P w.drew = .ok (#[] : Array Value) w.drew := rfl
      have hr := run_append_grow_src (P := P) w t t ty e i z ht hi hz none 0 0 [] (by simpa using hold) x m news hs (by omega) (by simpa using hsmall) (growslice_fits (by omega) (by simpa using hbytes))
      simp only [Nat.zero_add, List.nil_append] at hr
      have hgr := grown 0 (by omega)
      simp only [Nat.zero_add, List.nil_append] at hgr ⊢
      exact ⟨_, _, hr, hgr, ⟨rfl, rfl, rfl, by simp, fun k hk _ => Below.heap_alloc w.drew _ k hk⟩, .inr rfl⟩
  · by_cases hroom : n + m ≤ cap
    · have hbd : ∀ j, j < news.length → off + n * i.size + j < cur.size := by
        intro j hj
        rw [hs.newsLen] at hj
        have : (n + m) * i.size ≤ cap * i.size := Nat.mul_le_mul_right _ hroom
        rw [Nat.add_mul] at this
        omega
      have hr := run_append_room_src (P := P) w t t ty e i ht hi g off n cap x m news hs hroom (fun j hj => by simp [World.cell?, hg, hbd j hj]) (fun j hj => by simp [World.frozen?, hg])
      obtain ⟨cur', a1, a2, a3, a4⟩ := setCells_heap news g (off + n * i.size) w cur e hg
      obtain ⟨b1, b2, b3, b4⟩ := setCells_meta news g (off + n * i.size) w
      refine ⟨_, _, hr, ⟨hlen, .inr ⟨g, off, cap, cur', rfl, hBg, a1, hroom, h2, by omega, fun j hj => ?_⟩⟩, ⟨b1, b2, b3, by omega, fun k _ hk => setCells_other _ _ _ _ _ (fun e => hk (by simp [Value.ownBlock, e]))⟩, .inl rfl⟩
      by_cases hjo : j < n * i.size
      · rw [a4 _ (.inl (by omega)), h4 j hjo, List.getElem?_append_left (by rw [h.1]; exact hjo)]
      · have hjn : j - n * i.size < news.length := by rw [hs.newsLen]; rw [Nat.add_mul] at hj; omega
        rw [List.getElem?_append_right (by rw [h.1]; omega), h.1, ← a3 (j - n * i.size) hjn (hbd _ hjn)]
        congr 1
        omega
    · have hold : (Builtin.firstCells i.size n (.slice (some ⟨g, off, none⟩) n cap)).run P w.drew = .ok xs.toArray w.drew :=
        run_firstCells_some w.drew i.size n ⟨g, off, none⟩ n cap xs h.1 (fun j u hj => by
          have hjl : j < n * i.size := by rw [← h.1]; exact (List.getElem?_eq_some_iff.1 hj).1
          rw [addr_add]
          show w.cell? _ = _
          rw [← hj, ← h4 j hjl]
          simp [World.cell?, hg])
      have hr := run_append_grow_src (P := P) w t t ty e i z ht hi hz (some ⟨g, off, none⟩) n cap xs hold x m news hs (by omega) hsmall (growslice_fits (by omega) hbytes)
      exact ⟨_, _, hr, grown cap (by omega), ⟨rfl, rfl, rfl, by simp, fun k hk _ => Below.heap_alloc w.drew _ k hk⟩, .inr rfl⟩
theorem wp_append_off {P : Program} {w : World} {o : Oper} {a : Act} {K : Act → World → Prop} {Q : Exit → Act → World → Prop} (s x : Operand) (t : TypeId)
    (ho : o.op = .call { callee := .builtin .append, args := #[s, x], argTypes := #[t, t] })
    (B : Nat) (e : TypeId) (i : TypeInfo) (z : Value) (size bytes : Nat) (ht : P.underlying t = some (.slice e)) (hi : P.info? e = some i) (hz : i.zero = some z)
    (hsize : i.size = size) (hby : i.bytes = bytes) (hzs : z.cells.size = size)
    (v : Value) (n : Nat) (xs : List Value) (hs : a.eval s = v) (hown : OffRow w B e size v n xs) (xv : Value) (hx : a.eval x = xv) (m : Nat) (news : List Value) (hsrc : Src P size t xv m news w)
    (h63 : n + m ≤ maxLen) (hbytes : (n + m) * bytes ≤ 140737488355328) (hB : B ≤ w.heap.size)
    (h : ∀ v' w', OffRow w' B e size v' (n + m) (xs ++ news) → w.grownBy w' v.ownBlock → (v'.ownBlock = v.ownBlock ∨ v'.ownBlock = some w.heap.size) → K (a.put o.dst v') w') : o.wp P a w K Q := by
  obtain ⟨v', w', hr, h2, h3, h4⟩ := run_append_off (P := P) t o.type e i z size bytes ht hi hz hsize hby hzs hown xv m news hsrc h63 hbytes hB
  unfold Oper.wp execOp
  simp only [ho, resolve, invoke, builtin, Sem.run_bind, Sem.run_pure, Result.andThen_ok, List.map_toArray, List.map_cons, List.map_nil, hs, hx, hr]
  exact h v' w' h2 h3 h4
/-- At a plain region's list. -/
theorem wpList_append_off {P : Program} {w : World} {ops : Array Oper} {rest : List Oper} {o : Oper} {a : Act} {Q : Exit → Act → World → Prop} (hgd : o.guard = none) (s x : Operand) (t : TypeId)
    (ho : o.op = .call { callee := .builtin .append, args := #[s, x], argTypes := #[t, t] })
    (B : Nat) (e : TypeId) (i : TypeInfo) (z : Value) (size bytes : Nat) (ht : P.underlying t = some (.slice e)) (hi : P.info? e = some i) (hz : i.zero = some z)
    (hsize : i.size = size) (hby : i.bytes = bytes) (hzs : z.cells.size = size)
    (v : Value) (n : Nat) (xs : List Value) (hs : a.eval s = v) (hown : OffRow w B e size v n xs) (xv : Value) (hx : a.eval x = xv) (m : Nat) (news : List Value) (hsrc : Src P size t xv m news w)
    (h63 : n + m ≤ maxLen) (hbytes : (n + m) * bytes ≤ 140737488355328) (hB : B ≤ w.heap.size)
    (h : ∀ v' w', OffRow w' B e size v' (n + m) (xs ++ news) → w.grownBy w' v.ownBlock → (v'.ownBlock = v.ownBlock ∨ v'.ownBlock = some w.heap.size) → wpList P ops Q rest (a.put o.dst v') w') : wpList P ops Q (o :: rest) a w :=
  wpList_plain hgd fun _ hK => wp_append_off s x t ho B e i z size bytes ht hi hz hsize hby hzs v n xs hs hown xv hx m news hsrc h63 hbytes hB fun v' w' h2 h3 h4 => hK _ _ (h v' w' h2 h3 h4)
/-- At a step of a region that draws. -/
theorem step_append_off {P : Program} {w : World} {ops : Array Oper} {o : Oper} {a : Act} {K : Act → World → Prop} {Q : Exit → Act → World → Prop} {E : Prop} (hgd : o.guard = none) (s x : Operand) (t : TypeId)
    (ho : o.op = .call { callee := .builtin .append, args := #[s, x], argTypes := #[t, t] })
    (B : Nat) (e : TypeId) (i : TypeInfo) (z : Value) (size bytes : Nat) (ht : P.underlying t = some (.slice e)) (hi : P.info? e = some i) (hz : i.zero = some z)
    (hsize : i.size = size) (hby : i.bytes = bytes) (hzs : z.cells.size = size)
    (v : Value) (n : Nat) (xs : List Value) (hs : a.eval s = v) (hown : OffRow w B e size v n xs) (xv : Value) (hx : a.eval x = xv) (m : Nat) (news : List Value) (hsrc : Src P size t xv m news w)
    (h63 : n + m ≤ maxLen) (hbytes : (n + m) * bytes ≤ 140737488355328) (hB : B ≤ w.heap.size)
    (h : ∀ v' w', OffRow w' B e size v' (n + m) (xs ++ news) → w.grownBy w' v.ownBlock → (v'.ownBlock = v.ownBlock ∨ v'.ownBlock = some w.heap.size) → K (a.put o.dst v') w') :
    if Region.wanted o (yielded ops a.tmps) = true then Oper.wp P o a w K Q else E := by
  have hw : Region.wanted o (yielded ops a.tmps) = true := by simp [Region.wanted, hgd]
  rw [if_pos hw]
  exact wp_append_off s x t ho B e i z size bytes ht hi hz hsize hby hzs v n xs hs hown xv hx m news hsrc h63 hbytes hB h
/-- What a buildSlice has laid: a source of one element. -/
theorem src_block {P : Program} {size : Nat} {t e' : TypeId} (hk : P.underlying t = some (.slice e')) {w : World} {b : Nat} {cs : Array Value} {ty : TypeId} (hb : w.heap[b]? = some (.cells cs ty (0, 0))) (m c : Nat) (hl : cs.size = m * size) (h1 : ∀ u ∈ cs.toList, u.oneCell' = true) :
    Src P size t (.slice (some ⟨b, 0, none⟩) m c) m cs.toList w :=
  Src.ofSlice w hk ⟨b, 0, none⟩ m c cs.toList (by simpa using hl) (fun j u hu => by rw [addr_add, Nat.zero_add]; simp [World.cell?, hb]; simpa using hu) h1
/-- The builtin clear of the beginning of such a slice, which is taken off then. -/
theorem run_clear_off {P : Program} {w : World} {B : Nat} (t ty e : TypeId) (i : TypeInfo) (z : Value) (size : Nat) (ht : P.underlying t = some (.slice e)) (hi : P.info? e = some i) (hz : i.zero = some z) (hzs : z.cells.size = size) (hz1 : ∀ u ∈ z.cells.toList, u.oneCell' = true)
    {v : Value} {n : Nat} {xs : List Value} (h : OffRow w B e size v n xs) {a : Option Addr} {cap : Nat} (hv : v = .slice a n cap) (g : Nat) (hg : g ≤ n) (c : Nat) :
    ∃ w', (Builtin.clear_ #[t] ty #[.slice a g c]).run P w = .ok (.tuple #[]) w' ∧ w.grownBy w' v.ownBlock ∧ ∃ a', (g < cap → a' = a.map (·.add (g * size))) ∧ (g = cap → a' = a) ∧ OffRow w' B e size (.slice a' (n - g) (cap - g)) (n - g) (xs.drop (g * size)) := by
  by_cases h0 : g = 0
  · refine ⟨w, ?_, ⟨rfl, rfl, rfl, Nat.le_refl _, fun _ _ _ => rfl⟩, h.drop hv hg⟩
    subst h0
    cases a <;> simp [Builtin.clear_, run_underlying ht]
  · obtain ⟨a', d1, d2, d3⟩ := h.drop hv hg
    subst hv
    rcases h.2 with ⟨_, rfl⟩ | ⟨b, off, cap', cur, e0, hB, hh, h1, h2, h3, h4⟩
    · omega
    · injection e0 with e1 _ e3
      subst e1 e3
      have hzl : (Builtin.zeroCells z.cells g).toList.length = g * size := by rw [Array.length_toList, size_zeroCells, hzs]
      have hle : g * size ≤ cap * size := Nat.mul_le_mul_right _ (by omega)
      have hbd : ∀ j, j < (Builtin.zeroCells z.cells g).toList.length → off + 0 + j < cur.size := by intro j hj; rw [hzl] at hj; omega
      have hst := run_storeCells_cells (P := P) b off (Builtin.zeroCells z.cells g).toList 0 w (fun j hj => by simp only [World.cell?, hh]; simp [hbd j hj]; exact hbd j hj) (fun j hj => by simp [World.frozen?, hh]) (fun u hu => by
        simp [Builtin.zeroCells] at hu
        obtain ⟨k, hk, rfl⟩ := hu
        have hk2 : k % z.cells.size < z.cells.size := Nat.mod_lt _ (by rcases Nat.eq_zero_or_pos z.cells.size with x | x; (rw [x] at hk; simp at hk); (exact x))
        rw [getElem!_pos z.cells _ hk2]
        exact hz1 _ (by simp))
      obtain ⟨b1, b2, b3, b4⟩ := setCells_meta (Builtin.zeroCells z.cells g).toList b (off + 0) w
      obtain ⟨cur', q1, q2, _, q4⟩ := setCells_heap (Builtin.zeroCells z.cells g).toList b (off + 0) w cur e hh
      refine ⟨_, ?_, ⟨b1, b2, b3, by omega, fun k _ hk => setCells_other _ _ _ _ _ (fun e => hk (by simp [Value.ownBlock, e]))⟩, a', d1, d2, d3.1, ?_⟩
      · have hu : ∀ g', g = g' + 1 → (Builtin.clear_ #[t] ty #[.slice (some ⟨b, off, none⟩) g c]).run P w = .ok (.tuple #[]) (w.setCells b (off + 0) (Builtin.zeroCells z.cells g).toList) := by
          intro g' hg'
          subst hg'
          simp [Builtin.clear_, run_underlying ht, zeroValue, typeInfo, hi, hz, hst]
        exact hu (g - 1) (by omega)
      · rcases d3.2 with d | ⟨b', off', c', cu, e0, k1, k2, k3, k4, k5, k6⟩
        · exact .inl d
        · injection e0 with e1 _ e3
          have hbb : b' = b ∧ (n - g = 0 ∨ off + g * size ≤ off') := by
            rcases Nat.lt_or_ge g cap with x | x
            · rw [d1 x] at e1
              simp [addr_add] at e1
              exact ⟨e1.1.symm, .inr (by omega)⟩
            · rw [d2 (by omega)] at e1
              simp at e1
              exact ⟨e1.1.symm, .inl (by omega)⟩
          obtain ⟨rfl, hoff⟩ := hbb
          rw [hh] at k2
          injection k2 with k2
          injection k2 with k2
          subst k2
          refine .inr ⟨b', off', c', cur', by rw [e1, e3], k1, q1, k3, k4, by omega, fun j hj => ?_⟩
          rw [q4 _ (.inr ?_)]
          · exact k6 j hj
          · rcases hoff with x | x
            · rw [x] at hj; simp at hj
            · rw [hzl]; omega
/-- The slice expression 's[k:]'. -/
theorem slice_from {P : Program} {t e : TypeId} {i : TypeInfo} (ht : P.underlying t = some (.slice e)) (hi : P.info? e = some i) {size : Nat} (hs : i.size = size) {g off n cap k : Nat} (hk : k ≤ n) (hc : ¬ cap = k) (W : World) :
    (Instr.slice t (.slice (some ⟨g, off, none⟩) n cap) (some (.int .i64 (k : Int))) none none).run P W = .ok (.slice (some ⟨g, off + k * size, none⟩) (n - k) (cap - k)) W := by
  subst hs
  have h1 : (k : Int) ≤ (n : Int) := by omega
  simp [Instr.slice, run_underlying ht, Instr.sliceBounds, run_sliceBound, sizeOf, typeInfo, hi, hk, hc, addr_add]
/-- What is left when the beginning is taken off. -/
def Left (w : World) (B : Nat) (e : TypeId) (size : Nat) (a : Option Addr) (n cap g : Nat) (xs : List Value) : Prop :=
  ∃ a', (g < cap → a' = a.map (·.add (g * size))) ∧ (g = cap → a' = a) ∧ OffRow w B e size (.slice a' (n - g) (cap - g)) (n - g) (xs.drop (g * size))
theorem wpList_clear_off {P : Program} {w : World} {ops : Array Oper} {rest : List Oper} {o : Oper} {act : Act} {Q : Exit → Act → World → Prop} (hgd : o.guard = none) (s : Operand) (t : TypeId)
    (ho : o.op = .call { callee := .builtin .clear, args := #[s], argTypes := #[t] })
    (B : Nat) (e : TypeId) (i : TypeInfo) (z : Value) (size : Nat) (ht : P.underlying t = some (.slice e)) (hi : P.info? e = some i) (hz : i.zero = some z) (hzs : z.cells.size = size) (hz1 : ∀ u ∈ z.cells.toList, u.oneCell' = true)
    (v : Value) (n : Nat) (xs : List Value) (h : OffRow w B e size v n xs) (a : Option Addr) (cap : Nat) (hv : v = .slice a n cap) (g : Nat) (hg : g ≤ n) (c : Nat) (hs : act.eval s = .slice a g c)
    (hk : ∀ w', w.grownBy w' v.ownBlock → Left w' B e size a n cap g xs → wpList P ops Q rest (act.put o.dst (.tuple #[])) w') : wpList P ops Q (o :: rest) act w := by
  refine wpList_plain hgd fun K hK => ?_
  obtain ⟨w', hr, h2, h3⟩ := run_clear_off (P := P) t o.type e i z size ht hi hz hzs hz1 h hv g hg c
  unfold Oper.wp execOp
  simp only [ho, resolve, invoke, builtin, Sem.run_bind, Sem.run_pure, Result.andThen_ok, List.map_toArray, List.map_cons, List.map_nil, hs, hr]
  exact hK _ _ (hk w' h2 h3)
end Go.Proofs.YteejldddgogbkaaGreatDoor
