/- Plain mathematics of layer sha: the digest, word by word, on natural numbers. No program, no world. -/
namespace Go.Proofs.YtbiifdnicieamaaDoor

/-! ### Words -/

def rot1 (x : Nat) : Nat := x / 2 + 2147483648 * (x % 2)
def rotN : Nat → Nat → Nat
  | 0, x => x
  | k + 1, x => rotN k (rot1 x)
theorem rot1_lt {x : Nat} (h : x < 4294967296) : rot1 x < 4294967296 := by
  have h1 : x / 2 + 2147483648 * (x % 2) < 4294967296 := by omega
  exact h1
theorem rotN_lt (k : Nat) : ∀ {x : Nat}, x < 4294967296 → rotN k x < 4294967296 := by
  induction k with
  | zero => intro x h; exact h
  | succ k ih => intro x h; exact ih (rot1_lt h)
theorem rotN_last (k : Nat) : ∀ x, rotN (k + 1) x = rot1 (rotN k x) := by
  induction k with
  | zero => intro x; rfl
  | succ k ih => intro x; exact ih (rot1 x)
/-- Turning right, at once. -/
theorem rotN_eq (k : Nat) (hk : k ≤ 32) (x : Nat) (h : x < 4294967296) : rotN k x = x / 2 ^ k + x % 2 ^ k * 2 ^ (32 - k) := by
  induction k with
  | zero => simp [rotN, Nat.mod_one]
  | succ k ih =>
    rw [rotN_last, ih (by omega)]
    unfold rot1
    obtain ⟨j, hj⟩ : ∃ j, 32 - k = j + 1 := ⟨31 - k, by omega⟩
    have hj2 : 32 - (k + 1) = j := by omega
    rw [hj, hj2]
    have e1 : (2147483648 : Nat) = 2 ^ k * 2 ^ j := by rw [← Nat.pow_add, show k + j = 31 by omega]
    have hp : 0 < 2 ^ k := Nat.two_pow_pos k
    have e2 : x % 2 ^ (k + 1) = x % 2 ^ k + 2 ^ k * (x / 2 ^ k % 2) := by rw [Nat.pow_succ, Nat.mod_mul]
    have e3 : x / 2 ^ (k + 1) = x / 2 ^ k / 2 := by rw [Nat.pow_succ, Nat.div_div_eq_div_mul]
    have e4 : 2 ^ (j + 1) = 2 * 2 ^ j := by rw [Nat.pow_succ, Nat.mul_comm]
    rw [e1, e2, e3, e4]
    generalize x / 2 ^ k = q
    generalize x % 2 ^ k = r
    generalize 2 ^ k = p
    generalize 2 ^ j = t
    have h1 : (q + r * (2 * t)) / 2 = q / 2 + r * t := by
      rw [show r * (2 * t) = 2 * (r * t) by rw [Nat.mul_left_comm]]
      omega
    have h2 : (q + r * (2 * t)) % 2 = q % 2 := by
      rw [show r * (2 * t) = 2 * (r * t) by rw [Nat.mul_left_comm]]
      omega
    rw [h1, h2, Nat.add_mul]
    have h3 : p * t * (q % 2) = p * (q % 2) * t := Nat.mul_right_comm _ _ _
    rw [h3]
    omega

def sg0 (x : Nat) : Nat := (rotN 7 x ^^^ rotN 18 x) ^^^ x / 8
def sg1 (x : Nat) : Nat := (rotN 17 x ^^^ rotN 19 x) ^^^ x / 1024
def bg0 (x : Nat) : Nat := (rotN 2 x ^^^ rotN 13 x) ^^^ rotN 22 x
def bg1 (x : Nat) : Nat := (rotN 6 x ^^^ rotN 11 x) ^^^ rotN 25 x
def chW (e f g : Nat) : Nat := (e &&& f) ^^^ ((4294967295 - e) &&& g)
def mjW (a b c : Nat) : Nat := ((a &&& b) ^^^ (a &&& c)) ^^^ (b &&& c)

theorem xor_lt32 {a b : Nat} (ha : a < 4294967296) (hb : b < 4294967296) : a ^^^ b < 4294967296 := Nat.xor_lt_two_pow (n := 32) ha hb
theorem and_lt32 {a b : Nat} (hb : b < 4294967296) : a &&& b < 4294967296 := Nat.and_lt_two_pow a (n := 32) hb
theorem sg0_lt {x : Nat} (h : x < 4294967296) : sg0 x < 4294967296 := xor_lt32 (xor_lt32 (rotN_lt _ h) (rotN_lt _ h)) (by omega)
theorem sg1_lt {x : Nat} (h : x < 4294967296) : sg1 x < 4294967296 := xor_lt32 (xor_lt32 (rotN_lt _ h) (rotN_lt _ h)) (by omega)
theorem bg0_lt {x : Nat} (h : x < 4294967296) : bg0 x < 4294967296 := xor_lt32 (xor_lt32 (rotN_lt _ h) (rotN_lt _ h)) (rotN_lt _ h)
theorem bg1_lt {x : Nat} (h : x < 4294967296) : bg1 x < 4294967296 := xor_lt32 (xor_lt32 (rotN_lt _ h) (rotN_lt _ h)) (rotN_lt _ h)
theorem chW_lt {e f g : Nat} (hf : f < 4294967296) (hg : g < 4294967296) : chW e f g < 4294967296 := xor_lt32 (and_lt32 hf) (and_lt32 hg)
theorem mjW_lt {a b c : Nat} (hb : b < 4294967296) (hc : c < 4294967296) : mjW a b c < 4294967296 := xor_lt32 (xor_lt32 (and_lt32 hb) (and_lt32 hc)) (and_lt32 hc)

/-! ### The text with its end -/

def zerosOf (n : Nat) : Nat := (119 - n % 64) % 64
def len8 (n : Nat) : List UInt8 := [UInt8.ofNat (n / 72057594037927936), UInt8.ofNat (n / 281474976710656), UInt8.ofNat (n / 1099511627776), UInt8.ofNat (n / 4294967296), UInt8.ofNat (n / 16777216), UInt8.ofNat (n / 65536), UInt8.ofNat (n / 256), UInt8.ofNat n]
def padded (l : List UInt8) : List UInt8 := l ++ [128] ++ List.replicate (zerosOf l.length) 0 ++ len8 (8 * l.length)

theorem padded_len (l : List UInt8) : (padded l).length % 64 = 0 ∧ (padded l).length ≤ l.length + 72 ∧ l.length + 9 ≤ (padded l).length := by
  unfold padded zerosOf len8
  simp only [List.length_append, List.length_replicate, List.length_cons, List.length_nil]
  omega

/-! ### The schedule, the rounds -/

def numbers : List Nat := [1116352408, 1899447441, 3049323471, 3921009573, 961987163, 1508970993, 2453635748, 2870763221, 3624381080, 310598401, 607225278, 1426881987, 1925078388, 2162078206, 2614888103, 3248222580, 3835390401, 4022224774, 264347078, 604807628, 770255983, 1249150122, 1555081692, 1996064986, 2554220882, 2821834349, 2952996808, 3210313671, 3336571891, 3584528711, 113926993, 338241895, 666307205, 773529912, 1294757372, 1396182291, 1695183700, 1986661051, 2177026350, 2456956037, 2730485921, 2820302411, 3259730800, 3345764771, 3516065817, 3600352804, 4094571909, 275423344, 430227734, 506948616, 659060556, 883997877, 958139571, 1322822218, 1537002063, 1747873779, 1955562222, 2024104815, 2227730452, 2361852424, 2428436474, 2756734187, 3204031479, 3329325298]

def byteAt (p : List UInt8) (i : Nat) : Nat := (p.getD i 0).toNat
def wordAt (p : List UInt8) (o : Nat) : Nat := 256 * (256 * (256 * byteAt p o + byteAt p (o + 1)) + byteAt p (o + 2)) + byteAt p (o + 3)
def nextW (w : List Nat) (i : Nat) : Nat := (((w.getD (i - 16) 0 + sg0 (w.getD (i - 15) 0)) % 4294967296 + w.getD (i - 7) 0) % 4294967296 + sg1 (w.getD (i - 2) 0)) % 4294967296
def sched (p : List UInt8) (o : Nat) : Nat → List Nat
  | 0 => []
  | i + 1 => sched p o i ++ [if i < 16 then wordAt p (o + 4 * i) else nextW (sched p o i) i]

theorem sched_len (p : List UInt8) (o : Nat) : ∀ i, (sched p o i).length = i
  | 0 => rfl
  | i + 1 => by simp [sched, sched_len p o i]
theorem byteAt_lt (p : List UInt8) (i : Nat) : byteAt p i < 256 := (p.getD i 0).toNat_lt
theorem wordAt_lt (p : List UInt8) (o : Nat) : wordAt p o < 4294967296 := by
  have h0 := byteAt_lt p o
  have h1 := byteAt_lt p (o + 1)
  have h2 := byteAt_lt p (o + 2)
  have h3 := byteAt_lt p (o + 3)
  unfold wordAt; omega
theorem sched_lt (p : List UInt8) (o : Nat) : ∀ i, ∀ x ∈ sched p o i, x < 4294967296
  | 0 => by simp [sched]
  | i + 1 => by
    intro x hx
    rw [sched, List.mem_append] at hx
    rcases hx with hx | hx
    · exact sched_lt p o i x hx
    · simp only [List.mem_cons, List.not_mem_nil, or_false] at hx
      subst hx
      split
      · exact wordAt_lt _ _
      · unfold nextW; exact Nat.mod_lt _ (by decide)
theorem getD_lt {w : List Nat} (h : ∀ x ∈ w, x < 4294967296) (i : Nat) : w.getD i 0 < 4294967296 := by
  rw [List.getD_eq_getElem?_getD]
  by_cases hi : i < w.length
  · rw [List.getElem?_eq_getElem hi]; exact h _ (List.getElem_mem _)
  · rw [List.getElem?_eq_none (by omega)]; decide
theorem numbers_lt : ∀ x ∈ numbers, x < 4294967296 := by decide +kernel
theorem numbers_len : numbers.length = 64 := rfl

/-- Eight words. -/
structure Eight where
  a : Nat
  b : Nat
  c : Nat
  d : Nat
  e : Nat
  f : Nat
  g : Nat
  h : Nat
def Eight.list (s : Eight) : List Nat := [s.a, s.b, s.c, s.d, s.e, s.f, s.g, s.h]
def Eight.ok (s : Eight) : Prop := s.a < 4294967296 ∧ s.b < 4294967296 ∧ s.c < 4294967296 ∧ s.d < 4294967296 ∧ s.e < 4294967296 ∧ s.f < 4294967296 ∧ s.g < 4294967296 ∧ s.h < 4294967296

def xOf (k w : Nat) (s : Eight) : Nat := ((((s.h + bg1 s.e) % 4294967296 + chW s.e s.f s.g) % 4294967296 + k) % 4294967296 + w) % 4294967296
def yOf (s : Eight) : Nat := (bg0 s.a + mjW s.a s.b s.c) % 4294967296
def rnd (k w : Nat) (s : Eight) : Eight := ⟨(xOf k w s + yOf s) % 4294967296, s.a, s.b, s.c, (s.d + xOf k w s) % 4294967296, s.e, s.f, s.g⟩
def rnds (w : List Nat) (s : Eight) : Nat → Eight
  | 0 => s
  | i + 1 => rnd (numbers.getD i 0) (w.getD i 0) (rnds w s i)
def plus (s t : Eight) : Eight := ⟨(s.a + t.a) % 4294967296, (s.b + t.b) % 4294967296, (s.c + t.c) % 4294967296, (s.d + t.d) % 4294967296, (s.e + t.e) % 4294967296, (s.f + t.f) % 4294967296, (s.g + t.g) % 4294967296, (s.h + t.h) % 4294967296⟩
def blk (p : List UInt8) (o : Nat) (s : Eight) : Eight := plus s (rnds (sched p o 64) s 64)
def start : Eight := ⟨1779033703, 3144134277, 1013904242, 2773480762, 1359893119, 2600822924, 528734635, 1541459225⟩
def blks (p : List UInt8) : Nat → Eight
  | 0 => start
  | n + 1 => blk p (64 * n) (blks p n)
def digestE (l : List UInt8) : Eight := blks (padded l) ((padded l).length / 64)

theorem mod32 (x : Nat) : x % 4294967296 < 4294967296 := Nat.mod_lt _ (by decide)
theorem rnd_ok {k w : Nat} {s : Eight} (h : s.ok) : (rnd k w s).ok := ⟨mod32 _, h.1, h.2.1, h.2.2.1, mod32 _, h.2.2.2.2.1, h.2.2.2.2.2.1, h.2.2.2.2.2.2.1⟩
theorem rnds_ok {w : List Nat} {s : Eight} (h : s.ok) : ∀ i, (rnds w s i).ok
  | 0 => h
  | i + 1 => rnd_ok (rnds_ok h i)
theorem plus_ok (s t : Eight) : (plus s t).ok := ⟨mod32 _, mod32 _, mod32 _, mod32 _, mod32 _, mod32 _, mod32 _, mod32 _⟩
theorem blks_ok (p : List UInt8) : ∀ n, (blks p n).ok
  | 0 => by unfold Eight.ok blks start; decide +kernel
  | n + 1 => plus_ok _ _

/-- The bytes of a digest. -/
def four4 (x : Nat) : List UInt8 := [UInt8.ofNat (x / 16777216), UInt8.ofNat (x / 65536), UInt8.ofNat (x / 256), UInt8.ofNat x]
def keyOf (s : Eight) : List UInt8 := s.list.flatMap four4
def digest (l : List UInt8) : List UInt8 := keyOf (digestE l)
theorem keyOf_len (s : Eight) : (keyOf s).length = 32 := rfl

end Go.Proofs.YtbiifdnicieamaaDoor
