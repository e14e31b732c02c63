/- The law's own functions: calls for what they do, scripts of a size that is looked at, the examples. -/
import Derived.Test.YtgmfcjmbapmagaaDiskBackRun
set_option linter.unusedVariables false
namespace Go.Proofs.Ytgmfcjmbapmagaa
open Go.RowKit Go.Maps

/-- A call of a script. -/
structure OP where
  kind : Int
  tier : Int
  file : Int
  at_ : Int
  size : Int
  text : List UInt8
  ka : Option Addr
  kl : Nat
  kc : Nat
  ks : List (Int × Int)
def OP.vals (o : OP) : Array Value := #[.int .i64 o.kind, .int .i64 o.tier, .int .i64 o.file, .int .i64 o.at_, .int .i64 o.size, .string (bs o.text), .slice o.ka o.kl o.kc]
/-- What is known of a call that came in. -/
structure OP.Ok (w : World) (o : OP) : Prop where
  k : (Lit.int .i64 o.kind).wf = true
  f : (Lit.int .i64 o.file).wf = true
  t : o.text.length ≤ 9223372036854775807
  ks : IsKeeps w o.ka o.kl o.ks
theorem OP.Ok.below {w w' : World} {o : OP} (h : o.Ok w) (k : Below w.heap.size w w') : o.Ok w' := ⟨h.k, h.f, h.t, h.ks.below k⟩
theorem wf_hi {n : Int} (h : (Lit.int .i64 n).wf = true) : -9223372036854775808 ≤ n ∧ n ≤ 9223372036854775807 := by
  simp [Lit.wf, IntKind.min, IntKind.max, IntKind.signed, IntKind.bits] at h
  omega
/-- What a call does to a disk. -/
def doS (s : DS) (o : OP) : DS × Int :=
  if o.kind = 1 then s.make o.tier o.file else if o.kind = 2 then s.add o.file o.text else if o.kind = 3 then s.sync o.file else if o.kind = 4 then s.drop o.file else if o.kind = 5 then s.point o.file
  else if o.kind = 8 then (s.back o.ks, 0) else (s, 0)

theorem Did.boxed {S : Nat → Prop} {d : Nat} {r : DS × Int} {w : World} {o : Obj} {e : Ending} {w' : World} (h : Did S d r (w.alloc o) e w') : Did S d r w e w' := by
  obtain ⟨h1, h2, h3⟩ := h
  have hs : w.heap.size ≤ (w.alloc o).heap.size := by simp
  exact ⟨h1, h2.mono fun k _ hk => by rcases hk with x | x; (exact .inl x); (exact .inr (Nat.le_trans hs x)), ((Only.refl S w).alloc o).trans h3⟩

set_option maxHeartbeats 1600000 in
set_option maxRecDepth 100000 in
theorem law_do {S : Nat → Prop} {w : World} {d : Nat} {s : DS} (h : Disk S w d s) (o : OP) (ho : o.Ok w) (hs : s.steps < 4611686018427387904) (ht : o.text.length ≤ 2305843009213693952) :
    Calls Try.prog 11 #[.pointer (some ⟨d, 0, none⟩), .agg o.vals] w (Did S d (doS s o) w) := by
  obtain ⟨k, t, f, a, z, tx, ka, kl, kc, ks⟩ := o
  obtain ⟨wk, wf, wt, hks⟩ := ho
  simp only at wk wf wt hks ht
  have hw := Disk.below (w' := w.alloc (.cells #[.int .i64 k, .int .i64 t, .int .i64 f, .int .i64 a, .int .i64 z, .string (bs tx), .slice ka kl kc] 32)) h ((Below.refl _ _).alloc (Nat.le_refl _) _)
  have hk8 := hks.below (w' := w.alloc (.cells #[.int .i64 k, .int .i64 t, .int .i64 f, .int .i64 a, .int .i64 z, .string (bs tx), .slice ka kl kc] 32)) ((Below.refl _ _).alloc (Nat.le_refl _) _)
  obtain ⟨fl, fh⟩ := wf_hi wf
  unfold OP.vals doS
  simp only
  by_cases h1 : k = 1
  · subst h1
    have hc := disk_Make hw t f wf fh hs
    simp only [if_true]
    clear hks hk8 h hw
    go_enter Try.func11, Try.ntmps11
    go_wp2_with (go_at_call 13; refine hc.mono ?_; rintro e w' ⟨rfl, hD, hO⟩; have HH : Did S d (s.make t f) w _ w' := Did.boxed ⟨rfl, hD, hO⟩; clear hD hO)
    go_ret
    exact HH
  rw [if_neg h1]
  by_cases h2 : k = 2
  · subst h2
    have hc := disk_Add hw f tx wf hs ht
    simp only [if_true]
    clear hks hk8 h hw
    go_enter Try.func11, Try.ntmps11
    go_wp2_with (go_at_call 16; refine hc.mono ?_; rintro e w' ⟨rfl, hD, hO⟩; have HH : Did S d (s.add f tx) w _ w' := Did.boxed ⟨rfl, hD, hO⟩; clear hD hO)
    go_ret
    exact HH
  rw [if_neg h2]
  by_cases h3 : k = 3
  · subst h3
    have hc := disk_Sync hw f wf hs
    simp only [if_true]
    clear hks hk8 h hw
    go_enter Try.func11, Try.ntmps11
    go_wp2_with (go_at_call 17; refine hc.mono ?_; rintro e w' ⟨rfl, hD, hO⟩; have HH : Did S d (s.sync f) w _ w' := Did.boxed ⟨rfl, hD, hO⟩; clear hD hO)
    go_ret
    exact HH
  rw [if_neg h3]
  by_cases h4 : k = 4
  · subst h4
    have hc := disk_Drop hw f wf hs
    simp only [if_true]
    clear hks hk8 h hw
    go_enter Try.func11, Try.ntmps11
    go_wp2_with (go_at_call 24; refine hc.mono ?_; rintro e w' ⟨rfl, hD, hO⟩; have HH : Did S d (s.drop f) w _ w' := Did.boxed ⟨rfl, hD, hO⟩; clear hD hO)
    go_ret
    exact HH
  rw [if_neg h4]
  by_cases h5 : k = 5
  · subst h5
    have hc := disk_Point hw f wf hs
    simp only [if_true]
    clear hks hk8 h hw
    go_enter Try.func11, Try.ntmps11
    go_wp2_with (go_at_call 27; refine hc.mono ?_; rintro e w' ⟨rfl, hD, hO⟩; have HH : Did S d (s.point f) w _ w' := Did.boxed ⟨rfl, hD, hO⟩; clear hD hO)
    go_ret
    exact HH
  rw [if_neg h5]
  have b1 : (k == 1) = false := by simpa using h1
  have b2 : (k == 2) = false := by simpa using h2
  have b3 : (k == 3) = false := by simpa using h3
  have b4 : (k == 4) = false := by simpa using h4
  have b5 : (k == 5) = false := by simpa using h5
  by_cases h8 : k = 8
  · subst h8
    have hc := disk_Back hw ka kl kc ks hk8
    simp only [if_true]
    clear hks hk8 h hw
    go_enter Try.func11, Try.ntmps11
    go_wp2_with (go_at_call 12; refine hc.mono ?_; rintro e w' ⟨rfl, hD, hO⟩; have HH : Did S d (s.back ks, 0) w (.returned (.int .i64 0)) w' := Did.boxed ⟨rfl, hD, hO⟩; clear hD hO)
    go_ret
    exact HH
  · have b8 : (k == 8) = false := by simpa using h8
    have HH : Hid (Did S d (s, 0) w (.returned (.int .i64 0)) (w.alloc (.cells #[.int .i64 k, .int .i64 t, .int .i64 f, .int .i64 a, .int .i64 z, .string (bs tx), .slice ka kl kc] 32))) :=
      ⟨rfl, hw.mono fun _ _ x => .inl x, (Only.refl _ _).alloc _⟩
    rw [if_neg h8]
    clear hks hk8 h hw h1 h2 h3 h4 h5 h8
    go_enter Try.func11, Try.ntmps11
    go_wp2
    go_ret
    exact HH.out
/-- A script that came in. -/
def RowO (b off : Nat) (os : List OP) (w : World) : Prop :=
  ∀ k (h : k < os.length), b < w.heap.size ∧ (∀ j, j < 7 → w.cell? ⟨b, off + k * 7 + j, none⟩ = os[k].vals[j]?) ∧ os[k].Ok w
def IsOps (w : World) (a : Option Addr) (len : Nat) (os : List OP) : Prop := len = os.length ∧ len ≤ 9223372036854775807 ∧ ∃ b off, (len = 0 ∨ a = some ⟨b, off, none⟩) ∧ RowO b off os w
theorem RowO.below {w w' : World} {b off : Nat} {os : List OP} (h : RowO b off os w) (k : Below w.heap.size w w') : RowO b off os w' := fun i hi => by
  obtain ⟨h1, h2, h3⟩ := h i hi
  exact ⟨Nat.lt_of_lt_of_le h1 k.size, fun j hj => by rw [k.cell h1]; exact h2 j hj, h3.below k⟩
theorem IsOps.below {w w' : World} {a : Option Addr} {len : Nat} {os : List OP} (h : IsOps w a len os) (k : Below w.heap.size w w') : IsOps w' a len os := by
  obtain ⟨h1, h2, b, off, h3, h4⟩ := h
  exact ⟨h1, h2, b, off, h3, h4.below k⟩
def sumT (os : List OP) : Nat := (os.map fun o => o.text.length).sum
theorem sumT_snoc (l : List OP) (o : OP) : sumT (l ++ [o]) = sumT l + o.text.length := by simp [sumT]
/-- A script of a size that is looked at. -/
structure Few (os : List OP) : Prop where
  len : os.length ≤ 200
  text : ∀ o ∈ os, o.text.length ≤ 100000 ∧ o.kl ≤ 1000
  sum : sumT os ≤ 200000
def FewPost (os : List OP) (w : World) (e : Ending) (w' : World) : Prop := ∃ b, e = .returned (.bool b) ∧ (b = true → Few os) ∧ w = w'
theorem few_no (os : List OP) (w : World) : FewPost os w (.returned (.bool false)) w := ⟨false, rfl, fun x => (by cases x), rfl⟩
theorem few_yes (os : List OP) (w : World) (b : Bool) (h : b = true → Few os) : FewPost os w (.returned (.bool b)) w := ⟨b, rfl, h, rfl⟩
theorem take_snoc' {α : Type} (l : List α) (k : Nat) (h : k < l.length) : l.take (k + 1) = l.take k ++ [l[k]] := List.take_succ_eq_append_getElem h

set_option maxHeartbeats 800000 in
set_option maxRecDepth 100000 in
theorem law_few (a : Option Addr) (len cap : Nat) (os : List OP) (w : World) (h : IsOps w a len os) :
    Calls Try.prog 9 #[.slice a len cap] w (FewPost os w) := by
  obtain ⟨hlen, hmax, b, off, ha, hrow⟩ := h
  have HL := Lib.hid hlen
  have HA := Lib.hid ha
  have HR := Lib.hid hrow
  clear hlen ha hrow
  go_enter Try.func9, Try.ntmps9
  go_wp2
  go_loop [3, 4] (fun n i => ∃ k : Nat, k ≤ len ∧ k ≤ 200 ∧ i = .int .i64 k ∧ n = .int .i64 (sumT (os.take k)) ∧ sumT (os.take k) ≤ 100000 * k ∧ ∀ o ∈ os.take k, o.text.length ≤ 100000 ∧ o.kl ≤ 1000) (fun _ i => len - (RowKit.intOf i).toNat)
  case atStart => exact ⟨0, Nat.zero_le _, Nat.zero_le _, rfl, rfl, by simp [sumT], by simp⟩
  case round =>
    obtain ⟨k, hk, hk2, rfl, rfl, hsum, hall⟩ := hrel
    have HALL := Lib.hid hall
    clear hall
    by_cases hlt : k < len
    · have hlt0 : k < os.length := by rw [← HL.out]; exact hlt
      obtain ⟨r1, r2, r3⟩ := HR.out k hlt0
      obtain rfl : a = some ⟨b, off, none⟩ := by rcases HA.out with x | x; (omega); (exact x)
      have htk : Hid (os.take (k + 1) = os.take k ++ [os[k]]) := take_snoc' os k hlt0
      obtain ⟨o, ho⟩ : ∃ o, o = os[k] := ⟨_, rfl⟩
      rw [← ho] at r2 r3 htk
      have c5 : w.cell? ⟨b, off + k * 7 + 5, none⟩ = some (.string (bs o.text)) := r2 5 (by omega)
      have c6 : w.cell? ⟨b, off + k * 7 + 6, none⟩ = some (.slice o.ka o.kl o.kc) := r2 6 (by omega)
      have hsz : (bs o.text).size = o.text.length := bs_size _
      have HSZ := Lib.hid hsz
      have hkl := r3.ks.2.1
      have htl := r3.t
      have hlt' : (k : Int) < len := by omega
      have hs3 := sumT_snoc (os.take k) o
      have HS3 := Lib.hid hs3
      clear r1 r2 r3 ho hs3 hlt0
      by_cases h200 : k < 200
      · have h200' : (k : Int) < 200 := by omega
        by_cases ht : (bs o.text).size ≤ 100000
        · have ht' : ((bs o.text).size : Int) ≤ 100000 := by omega
          by_cases hkk : o.kl ≤ 1000
          · have hkk' : (o.kl : Int) ≤ 1000 := by omega
            clear hsz
            go_wp2
            go_round
            case rel =>
              refine ⟨k + 1, by omega, by omega, by go_num, ?_, ?_, ?_⟩
              · rw [htk.out, HS3.out, ← HSZ.out]
                go_num
              · have := HSZ.out
                rw [htk.out, HS3.out]
                omega
              · rw [htk.out]
                intro x hx
                rcases List.mem_append.1 hx with hx | hx
                · exact HALL.out x hx
                · have := HSZ.out
                  obtain rfl : x = o := by simpa using hx
                  omega
            case measure => simp [RowKit.intOf]; omega
          · have hkk' : 1000 < (o.kl : Int) := by omega
            clear hsz
            go_wp2
            go_ret
            exact few_no os w
        · have ht' : 100000 < ((bs o.text).size : Int) := by omega
          clear hsz
          go_wp2
          go_ret
          exact few_no os w
      · have h200' : 200 ≤ (k : Int) := by omega
        clear hsz
        go_wp2
        go_ret
        exact few_no os w
    · go_wp2
      go_ret
      have hfin : os.take k = os := List.take_of_length_le (by rw [← HL.out]; omega)
      have h1 := HALL.out
      rw [hfin] at h1
      refine few_yes os w _ fun x => ⟨by rw [← HL.out]; omega, h1, ?_⟩
      simp only [decide_eq_true_eq, hfin] at x
      omega
end Go.Proofs.Ytgmfcjmbapmagaa
