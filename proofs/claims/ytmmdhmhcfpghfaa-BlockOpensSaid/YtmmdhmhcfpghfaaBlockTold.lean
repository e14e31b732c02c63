/- An entry as its bytes tell it: whether it shares just so many bytes with the key ahead, whether it is above it. -/
import Derived.Test.YtmmdhmhcfpghfaaBlockPack
import Derived.Test.YtmmdhmhcfpghfaaSixTexts
import Derived.Test.YtmmdhmhcfpghfaaEpRow
set_option linter.unusedVariables false
set_option maxRecDepth 100000
namespace Go.Proofs.Ytmmdhmhcfpghfaa
open Go.RowKit

structure Tld where
  sh : Nat
  rest : List UInt8
  val : List UInt8
  gone : Bool
/-- What is told of an entry behind a key. -/
def tldOf (last : List UInt8) (x : Ent) : Tld := ⟨sharedL last x.key, x.key.drop (sharedL last x.key), x.val, x.gone⟩
def tldsOf : List UInt8 → List Ent → List Tld
  | _, [] => []
  | last, x :: T => tldOf last x :: tldsOf x.key T
def Tld.vals (t : Tld) : List Value := [.int .i64 (t.sh : Int), .string (bs t.rest), .string (bs t.val), .bool t.gone]
/-- The byte at place k of the key ahead, and the first one of the rest. -/
theorem shares_just {last rest : List UInt8} {k : Nat} (hk : k ≤ last.length) : sharedL last (last.take k ++ rest) = k ↔ rest = [] ∨ k = last.length ∨ ∀ x y, rest[0]? = some x → last[k]? = some y → x ≠ y := by
  have htk : (last.take k).length = k := by rw [List.length_take]; omega
  have hpre : ∀ i, i < k → last[i]? = (last.take k ++ rest)[i]? := fun i hi => by rw [List.getElem?_append_left (by omega), List.getElem?_take, if_pos hi]
  have hat : (last.take k ++ rest)[k]? = rest[0]? := by rw [List.getElem?_append_right (by omega), htk, Nat.sub_self]
  constructor
  · intro h
    cases rest with
    | nil => exact .inl rfl
    | cons c r =>
      refine .inr ?_
      rcases Nat.lt_or_ge k last.length with hlt | hge
      · refine .inr fun x y hx hy e => ?_
        subst e
        have hx' : (last.take k ++ c :: r)[k]? = some x := by rw [hat]; exact hx
        have h3 : ∀ (a b : List UInt8) (n : Nat) (z : UInt8), (∀ i, i < n → a[i]? = b[i]?) → a[n]? = some z → b[n]? = some z → n < sharedL a b := by
          intro a
          induction a with
          | nil => intro b n z _ h; cases h
          | cons u a ih =>
            intro b n z hp ha hb
            cases b with
            | nil => cases hb
            | cons v b =>
              cases n with
              | zero =>
                injection ha with ha
                injection hb with hb
                simp [sharedL, ha, hb]
              | succ n =>
                have h0 := hp 0 (by omega)
                injection h0 with h0
                simp only [sharedL, h0, if_true]
                have := ih b n z (fun i hi => hp (i + 1) (by omega)) ha hb
                omega
        have := h3 _ _ k x hpre hy hx'
        omega
      · exact .inl (by omega)
  · intro h
    rcases h with h | h | h
    · subst h
      rw [List.append_nil] at hpre ⊢
      exact shared_end _ _ k (by simpa using hpre) (.inr ⟨by omega, hk⟩)
    · exact shared_end _ _ k hpre (.inl ⟨h, by rw [List.length_append]; omega⟩)
    · cases rest with
      | nil =>
        rw [List.append_nil] at hpre ⊢
        exact shared_end _ _ k (by simpa using hpre) (.inr ⟨by omega, hk⟩)
      | cons c r =>
        rcases Nat.lt_or_ge k last.length with hlt | hge
        · exact shared_stop _ _ k last[k] c hpre (List.getElem?_eq_getElem hlt) (by rw [hat]; rfl) (fun e => h c last[k] rfl (List.getElem?_eq_getElem hlt) e.symm)
        · exact shared_end _ _ k hpre (.inl ⟨by omega, by rw [List.length_append]; omega⟩)
theorem lt_at : ∀ (a b : List UInt8) (n : Nat) (x y : UInt8), (∀ i, i < n → a[i]? = b[i]?) → a[n]? = some x → b[n]? = some y → x ≠ y → ltB a b = decide (x.toNat < y.toNat)
  | [], b, n, x, y, _, h, _, _ => by cases h
  | _ :: _, [], n, x, y, _, _, h, _ => by cases h
  | u :: a, v :: b, 0, x, y, h, h1, h2, h3 => by
    injection h1 with h1
    injection h2 with h2
    subst h1 h2
    simp [ltB, h3]
  | u :: a, v :: b, n + 1, x, y, h, h1, h2, h3 => by
    have h0 := h 0 (by omega)
    injection h0 with h0
    simp only [ltB, h0, if_true]
    exact lt_at a b n x y (fun i hi => h (i + 1) (by omega)) h1 h2 h3
theorem lt_pre : ∀ (a b : List UInt8), ltB a (a ++ b) = decide (b ≠ [])
  | [], [] => rfl
  | [], _ :: _ => rfl
  | x :: a, b => by simp [ltB, lt_pre a b]
theorem lt_short : ∀ (a : List UInt8) (k : Nat), ltB a (a.take k) = false
  | [], k => by simp [ltB]
  | x :: a, 0 => by simp [ltB]
  | x :: a, k + 1 => by simp [ltB, lt_short a k]
/-- Whether it is above the key ahead. -/
theorem above_is {last rest : List UInt8} {k : Nat} (hk : k ≤ last.length) (hs : sharedL last (last.take k ++ rest) = k) : ltB last (last.take k ++ rest) = true ↔ rest ≠ [] ∧ (k = last.length ∨ ∃ x y, rest[0]? = some x ∧ last[k]? = some y ∧ y.toNat < x.toNat) := by
  have htk : (last.take k).length = k := by rw [List.length_take]; omega
  have hpre : ∀ i, i < k → last[i]? = (last.take k ++ rest)[i]? := fun i hi => by rw [List.getElem?_append_left (by omega), List.getElem?_take, if_pos hi]
  have hat : (last.take k ++ rest)[k]? = rest[0]? := by rw [List.getElem?_append_right (by omega), htk, Nat.sub_self]
  cases rest with
  | nil =>
    rw [List.append_nil, lt_short]
    exact ⟨fun h => (by cases h), fun h => absurd rfl h.1⟩
  | cons c r =>
    rcases Nat.lt_or_ge k last.length with hlt | hge
    · have hne := ((shares_just hk).1 hs).resolve_left (by simp) |>.resolve_left (by omega)
      have hl := List.getElem?_eq_getElem hlt
      rw [lt_at last (last.take k ++ c :: r) k last[k] c hpre hl (by rw [hat]; rfl) (fun e => hne c last[k] rfl hl e.symm), decide_eq_true_iff]
      refine ⟨fun h => ⟨by simp, .inr ⟨c, last[k], rfl, hl, h⟩⟩, fun ⟨_, h⟩ => ?_⟩
      rcases h with h | ⟨x, y, hx, hy, h⟩
      · omega
      · injection hx with hx
        rw [hl] at hy
        injection hy with hy
        rw [hx, hy]
        exact h
    · obtain rfl : k = last.length := by omega
      rw [List.take_of_length_le (Nat.le_refl _), lt_pre]
      exact ⟨fun _ => ⟨by simp, .inl rfl⟩, fun _ => by simp⟩

/-- A slice that reads as these bytes. -/
def IsBy (w : World) (v : Value) (last : List UInt8) : Prop :=
  ∃ a cap, v = .slice a last.length cap ∧ (last.length = 0 ∨ ∃ b off, a = some ⟨b, off, none⟩ ∧ ∀ i x, last[i]? = some x → b < w.heap.size ∧ w.cell? ⟨b, off + i, none⟩ = some (.int .u8 (x.toNat : Int)))
theorem IsBy.below {w w' : World} {v : Value} {last : List UInt8} (h : IsBy w v last) (k : Below w.heap.size w w') : IsBy w' v last := by
  obtain ⟨a, cap, rfl, h⟩ := h
  refine ⟨a, cap, rfl, ?_⟩
  rcases h with h | ⟨b, off, ha, h⟩
  · exact .inl h
  · exact .inr ⟨b, off, ha, fun i x hx => ⟨Nat.lt_of_lt_of_le (h i x hx).1 k.size, by rw [k.cell (h i x hx).1]; exact (h i x hx).2⟩⟩

theorem retb {a b : Bool} (h : a = b) : Ending.returned (.bool a) = Ending.returned (.bool b) := by rw [h]
set_option maxHeartbeats 1000000 in
theorem told_shares (k : Nat) (rest val last : List UInt8) (g : Bool) (v : Value) (w : World) (hv : Hid (IsBy w v last)) (hk : k ≤ 9223372036854775807) (hl : last.length ≤ 9223372036854775807) (hr : rest.length ≤ 9223372036854775807) :
    Calls Try.prog 61 #[.agg #[.int .i64 (k : Int), .string (bs rest), .string (bs val), .bool g], v] w fun e w' => e = .returned (.bool (decide (k ≤ last.length ∧ sharedL last (last.take k ++ rest) = k))) ∧ Below w.heap.size w w' := by
  obtain ⟨a, cap, rfl, hrow⟩ := hv.out
  obtain ⟨n, hn⟩ : ∃ n, n = last.length := ⟨_, rfl⟩
  have HB := Lib.hid ((Below.refl w.heap.size w).alloc (Nat.le_refl _) (.cells #[.int .i64 (k : Int), .string (bs rest), .string (bs val), .bool g] 64))
  rw [← hn] at hrow hl ⊢
  by_cases h1 : n < k
  · have hres := Lib.hid (show decide (k ≤ n ∧ sharedL last (last.take k ++ rest) = k) = false from decide_eq_false (by omega))
    rw [hres.out]
    clear hn
    go_enter Try.func61, Try.ntmps61
    go_wp2_with fail
    go_ret
    exact ⟨rfl, HB.out⟩
  · have hsj := shares_just (rest := rest) (show k ≤ last.length by omega)
    cases rest with
    | nil =>
      have hres := Lib.hid (show decide (k ≤ n ∧ sharedL last (last.take k ++ []) = k) = true from decide_eq_true ⟨by omega, hsj.2 (.inl rfl)⟩)
      rw [hres.out]
      clear hn hsj
      have e1 : (bs []).toList = [] := by rw [Lib.toList_data, bs_list]
      go_enter Try.func61, Try.ntmps61
      go_wp2_with fail
      go_quiet (fail)
      go_wp2_with fail
      go_ret
      exact ⟨rfl, below_drewN HB.out _⟩
    | cons c r =>
      have e1 : (bs (c :: r)).toList = c :: r := by rw [Lib.toList_data, bs_list]
      have z1 : (bs (c :: r)).size = r.length + 1 := by rw [bs_size]; rfl
      by_cases h2 : k = n
      · have hres := Lib.hid (show decide (k ≤ n ∧ sharedL last (last.take k ++ c :: r) = k) = true from decide_eq_true ⟨by omega, hsj.2 (.inr (.inl (by omega)))⟩)
        rw [hres.out]
        clear hn hsj
        have hb : ((k : Int) == (n : Int)) = true := beq_iff_eq.2 (by omega)
        have H2 := Lib.hid h2
        clear h2
        go_enter Try.func61, Try.ntmps61
        go_wp2_with fail
        go_quiet (fail)
        go_wp2_with fail
        go_ret
        exact ⟨rfl, below_drewN HB.out _⟩
      · have hb : ((k : Int) == (n : Int)) = false := beq_eq_false_iff_ne.2 (by omega)
        have hkl : k < last.length := by omega
        obtain ⟨b, off, rfl, hrow2⟩ := hrow.resolve_left (by omega)
        obtain ⟨y, hy⟩ : ∃ y, last[k]? = some y := ⟨_, List.getElem?_eq_getElem hkl⟩
        obtain ⟨hbl, cy⟩ := hrow2 k y hy
        have cy' : ∀ o, (w.alloc o).cell? ⟨b, off + k, none⟩ = some (.int .u8 (y.toNat : Int)) := fun o => by rw [((Below.refl w.heap.size w).alloc (Nat.le_refl _) o).cell hbl]; exact cy
        have hc0 : (bs (c :: r))[0] = c := rfl
        have hkn : k < n := by omega
        by_cases hxy : c = y
        · have hres := Lib.hid (show decide (k ≤ n ∧ sharedL last (last.take k ++ c :: r) = k) = false from decide_eq_false fun ⟨_, h⟩ => by
            rcases hsj.1 h with h | h | h
            · cases h
            · omega
            · exact h c y rfl hy hxy)
          rw [hres.out]
          have hb2 : ((c.toNat : Int) != (y.toNat : Int)) = false := by rw [hxy]; simp
          clear hn hsj hy hrow hrow2 hkl hxy
          go_enter Try.func61, Try.ntmps61
          go_wp2_with fail
          go_quiet (fail)
          go_wp2_with fail
          go_ret
          exact ⟨rfl, below_drewN HB.out _⟩
        · have hres := Lib.hid (show decide (k ≤ n ∧ sharedL last (last.take k ++ c :: r) = k) = true from decide_eq_true ⟨by omega, hsj.2 (.inr (.inr fun x z hx hz e => by
            injection hx with hx
            rw [hy] at hz
            injection hz with hz
            exact hxy (by rw [hx, e, hz])))⟩)
          rw [hres.out]
          have hb2 : ((c.toNat : Int) != (y.toNat : Int)) = true := bne_iff_ne.2 fun e => hxy (UInt8.toNat_inj.1 (by omega))
          clear hn hsj hy hrow hrow2 hkl hxy
          go_enter Try.func61, Try.ntmps61
          go_wp2_with fail
          go_quiet (fail)
          go_wp2_with fail
          go_ret
          exact ⟨rfl, below_drewN HB.out _⟩

set_option maxHeartbeats 1000000 in
theorem told_above (k : Nat) (rest val last : List UInt8) (g : Bool) (v : Value) (w : World) (hv : Hid (IsBy w v last)) (hk : k ≤ last.length) (hl : last.length ≤ 9223372036854775807) (hr : rest.length ≤ 9223372036854775807) (hsh : Hid (sharedL last (last.take k ++ rest) = k)) :
    Calls Try.prog 53 #[.agg #[.int .i64 (k : Int), .string (bs rest), .string (bs val), .bool g], v] w fun e w' => e = .returned (.bool (ltB last (last.take k ++ rest))) ∧ Below w.heap.size w w' := by
  obtain ⟨a, cap, rfl, hrow⟩ := hv.out
  have hab := above_is hk hsh.out
  obtain ⟨n, hn⟩ : ∃ n, n = last.length := ⟨_, rfl⟩
  have HB := Lib.hid ((Below.refl w.heap.size w).alloc (Nat.le_refl _) (.cells #[.int .i64 (k : Int), .string (bs rest), .string (bs val), .bool g] 64))
  rw [← hn] at hrow hl hk hab ⊢
  obtain ⟨z, hz⟩ : ∃ z, z = ltB last (last.take k ++ rest) := ⟨_, rfl⟩
  rw [← hz] at hab ⊢
  clear hz hsh
  cases rest with
  | nil =>
    have hres : z = false := by
      cases z with
      | false => rfl
      | true => exact absurd rfl (hab.1 rfl).1
    subst hres
    clear hn hab
    have e1 : (bs []).toList = [] := by rw [Lib.toList_data, bs_list]
    go_enter Try.func53, Try.ntmps53
    go_wp2_with fail
    go_ret
    exact ⟨rfl, HB.out⟩
  | cons c r =>
    have e1 : (bs (c :: r)).toList = c :: r := by rw [Lib.toList_data, bs_list]
    have z1 : (bs (c :: r)).size = r.length + 1 := by rw [bs_size]; rfl
    by_cases h2 : k = n
    · obtain rfl : z = true := hab.2 ⟨by simp, .inl h2⟩
      clear hn hab
      have hb : ((k : Int) == (n : Int)) = true := beq_iff_eq.2 (by omega)
      have H2 := Lib.hid h2
      clear h2
      go_enter Try.func53, Try.ntmps53
      go_wp2_with fail
      go_quiet (fail)
      go_wp2_with fail
      go_ret
      exact ⟨rfl, below_drewN HB.out _⟩
    · have hb : ((k : Int) == (n : Int)) = false := beq_eq_false_iff_ne.2 (by omega)
      have hkl : k < last.length := by omega
      obtain ⟨b, off, rfl, hrow2⟩ := hrow.resolve_left (by omega)
      obtain ⟨y, hy⟩ : ∃ y, last[k]? = some y := ⟨_, List.getElem?_eq_getElem hkl⟩
      obtain ⟨hbl, cy⟩ := hrow2 k y hy
      have cy' : ∀ o, (w.alloc o).cell? ⟨b, off + k, none⟩ = some (.int .u8 (y.toNat : Int)) := fun o => by rw [((Below.refl w.heap.size w).alloc (Nat.le_refl _) o).cell hbl]; exact cy
      have hc0 : (bs (c :: r))[0] = c := rfl
      have hkn : k < n := by omega
      have hz : z = decide (y.toNat < c.toNat) := by
        rw [Bool.eq_iff_iff, hab, decide_eq_true_iff]
        refine ⟨fun ⟨_, h⟩ => ?_, fun h => ⟨by simp, .inr ⟨c, y, rfl, hy, by omega⟩⟩⟩
        rcases h with h | ⟨x, z, hx, hz, h⟩
        · omega
        · injection hx with hx
          rw [hy] at hz
          injection hz with hz
          rw [hx, hz]
          omega
      have HZ := Lib.hid hz
      clear hn hab hy hrow hrow2 hkl hz
      go_enter Try.func53, Try.ntmps53
      go_wp2_with fail
      go_quiet (fail)
      go_wp2_with fail
      go_ret
      exact ⟨retb HZ.out.symm, below_drewN HB.out _⟩
end Go.Proofs.Ytmmdhmhcfpghfaa
