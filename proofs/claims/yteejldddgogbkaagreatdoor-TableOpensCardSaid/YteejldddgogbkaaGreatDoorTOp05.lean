/- Texts put together: BlockTold, Region, BlockTake, BlockVal, BlockBytes -/
import Derived.Test.YteejldddgogbkaaGreatDoorTOp03
import Derived.Test.YteejldddgogbkaaGreatDoorTOp01
import Derived.Test.YteejldddgogbkaaGreatDoorTOp04
import Derived.Test.YteejldddgogbkaaGreatDoorTOp00
import Derived.Laws.Rows
import Derived.Deep.MidRow
import Derived.Deep.RegionHeld3
/- An entry as its bytes tell it: whether it shares just so many bytes with the key ahead, whether it is above it. -/
set_option linter.unusedVariables false
set_option maxRecDepth 100000
set_option maxRecDepth 100000
namespace Go.Proofs.YteejldddgogbkaaGreatDoor
open Go.RowKit

structure Tld where
  sh : Nat
  rest : List UInt8
  val : List UInt8
  gone : Bool
/-- What is told of an entry behind a key. -/
def tldOf (last : List UInt8) (x : Ent) : Tld := ⟨sharedL last x.key, x.key.drop (sharedL last x.key), x.val, x.gone⟩
def tldsOf : List UInt8 → List Ent → List Tld
  | _, [] => []
  | last, x :: T => tldOf last x :: tldsOf x.key T
def Tld.vals (t : Tld) : List Value := [.int .i64 (t.sh : Int), .string (bs t.rest), .string (bs t.val), .bool t.gone]
/-- The byte at place k of the key ahead, and the first one of the rest. -/
theorem shares_just {last rest : List UInt8} {k : Nat} (hk : k ≤ last.length) : sharedL last (last.take k ++ rest) = k ↔ rest = [] ∨ k = last.length ∨ ∀ x y, rest[0]? = some x → last[k]? = some y → x ≠ y := by
  have htk : (last.take k).length = k := by rw [List.length_take]; omega
  have hpre : ∀ i, i < k → last[i]? = (last.take k ++ rest)[i]? := fun i hi => by rw [List.getElem?_append_left (by omega), List.getElem?_take, if_pos hi]
  have hat : (last.take k ++ rest)[k]? = rest[0]? := by rw [List.getElem?_append_right (by omega), htk, Nat.sub_self]
  constructor
  · intro h
    cases rest with
    | nil => exact .inl rfl
    | cons c r =>
      refine .inr ?_
      rcases Nat.lt_or_ge k last.length with hlt | hge
      · refine .inr fun x y hx hy e => ?_
        subst e
        have hx' : (last.take k ++ c :: r)[k]? = some x := by rw [hat]; exact hx
        have h3 : ∀ (a b : List UInt8) (n : Nat) (z : UInt8), (∀ i, i < n → a[i]? = b[i]?) → a[n]? = some z → b[n]? = some z → n < sharedL a b := by
          intro a
          induction a with
          | nil => intro b n z _ h; cases h
          | cons u a ih =>
            intro b n z hp ha hb
            cases b with
            | nil => cases hb
            | cons v b =>
              cases n with
              | zero =>
                injection ha with ha
                injection hb with hb
                simp [sharedL, ha, hb]
              | succ n =>
                have h0 := hp 0 (by omega)
                injection h0 with h0
                simp only [sharedL, h0, if_true]
                have := ih b n z (fun i hi => hp (i + 1) (by omega)) ha hb
                omega
        have := h3 _ _ k x hpre hy hx'
        omega
      · exact .inl (by omega)
  · intro h
    rcases h with h | h | h
    · subst h
      rw [List.append_nil] at hpre ⊢
      exact shared_end _ _ k (by simpa using hpre) (.inr ⟨by omega, hk⟩)
    · exact shared_end _ _ k hpre (.inl ⟨h, by rw [List.length_append]; omega⟩)
    · cases rest with
      | nil =>
        rw [List.append_nil] at hpre ⊢
        exact shared_end _ _ k (by simpa using hpre) (.inr ⟨by omega, hk⟩)
      | cons c r =>
        rcases Nat.lt_or_ge k last.length with hlt | hge
        · exact shared_stop _ _ k last[k] c hpre (List.getElem?_eq_getElem hlt) (by rw [hat]; rfl) (fun e => h c last[k] rfl (List.getElem?_eq_getElem hlt) e.symm)
        · exact shared_end _ _ k hpre (.inl ⟨by omega, by rw [List.length_append]; omega⟩)
theorem lt_at : ∀ (a b : List UInt8) (n : Nat) (x y : UInt8), (∀ i, i < n → a[i]? = b[i]?) → a[n]? = some x → b[n]? = some y → x ≠ y → ltB a b = decide (x.toNat < y.toNat)
  | [], b, n, x, y, _, h, _, _ => by cases h
  | _ :: _, [], n, x, y, _, _, h, _ => by cases h
  | u :: a, v :: b, 0, x, y, h, h1, h2, h3 => by
    injection h1 with h1
    injection h2 with h2
    subst h1 h2
    simp [ltB, h3]
  | u :: a, v :: b, n + 1, x, y, h, h1, h2, h3 => by
    have h0 := h 0 (by omega)
    injection h0 with h0
    simp only [ltB, h0, if_true]
    exact lt_at a b n x y (fun i hi => h (i + 1) (by omega)) h1 h2 h3
theorem lt_pre : ∀ (a b : List UInt8), ltB a (a ++ b) = decide (b ≠ [])
  | [], [] => rfl
  | [], _ :: _ => rfl
  | x :: a, b => by simp [ltB, lt_pre a b]
theorem lt_short : ∀ (a : List UInt8) (k : Nat), ltB a (a.take k) = false
  | [], k => by simp [ltB]
  | x :: a, 0 => by simp [ltB]
  | x :: a, k + 1 => by simp [ltB, lt_short a k]
/-- Whether it is above the key ahead. -/
theorem above_is {last rest : List UInt8} {k : Nat} (hk : k ≤ last.length) (hs : sharedL last (last.take k ++ rest) = k) : ltB last (last.take k ++ rest) = true ↔ rest ≠ [] ∧ (k = last.length ∨ ∃ x y, rest[0]? = some x ∧ last[k]? = some y ∧ y.toNat < x.toNat) := by
  have htk : (last.take k).length = k := by rw [List.length_take]; omega
  have hpre : ∀ i, i < k → last[i]? = (last.take k ++ rest)[i]? := fun i hi => by rw [List.getElem?_append_left (by omega), List.getElem?_take, if_pos hi]
  have hat : (last.take k ++ rest)[k]? = rest[0]? := by rw [List.getElem?_append_right (by omega), htk, Nat.sub_self]
  cases rest with
  | nil =>
    rw [List.append_nil, lt_short]
    exact ⟨fun h => (by cases h), fun h => absurd rfl h.1⟩
  | cons c r =>
    rcases Nat.lt_or_ge k last.length with hlt | hge
    · have hne := ((shares_just hk).1 hs).resolve_left (by simp) |>.resolve_left (by omega)
      have hl := List.getElem?_eq_getElem hlt
      rw [lt_at last (last.take k ++ c :: r) k last[k] c hpre hl (by rw [hat]; rfl) (fun e => hne c last[k] rfl hl e.symm), decide_eq_true_iff]
      refine ⟨fun h => ⟨by simp, .inr ⟨c, last[k], rfl, hl, h⟩⟩, fun ⟨_, h⟩ => ?_⟩
      rcases h with h | ⟨x, y, hx, hy, h⟩
      · omega
      · injection hx with hx
        rw [hl] at hy
        injection hy with hy
        rw [hx, hy]
        exact h
    · obtain rfl : k = last.length := by omega
      rw [List.take_of_length_le (Nat.le_refl _), lt_pre]
      exact ⟨fun _ => ⟨by simp, .inl rfl⟩, fun _ => by simp⟩

/-- A slice that reads as these bytes. -/
def IsBy (w : World) (v : Value) (last : List UInt8) : Prop :=
  ∃ a cap, v = .slice a last.length cap ∧ (last.length = 0 ∨ ∃ b off, a = some ⟨b, off, none⟩ ∧ ∀ i x, last[i]? = some x → b < w.heap.size ∧ w.cell? ⟨b, off + i, none⟩ = some (.int .u8 (x.toNat : Int)))
theorem IsBy.below {w w' : World} {v : Value} {last : List UInt8} (h : IsBy w v last) (k : Below w.heap.size w w') : IsBy w' v last := by
  obtain ⟨a, cap, rfl, h⟩ := h
  refine ⟨a, cap, rfl, ?_⟩
  rcases h with h | ⟨b, off, ha, h⟩
  · exact .inl h
  · exact .inr ⟨b, off, ha, fun i x hx => ⟨Nat.lt_of_lt_of_le (h i x hx).1 k.size, by rw [k.cell (h i x hx).1]; exact (h i x hx).2⟩⟩

theorem retb {a b : Bool} (h : a = b) : Ending.returned (.bool a) = Ending.returned (.bool b) := by rw [h]
set_option maxHeartbeats 1000000 in
theorem told_shares (k : Nat) (rest val last : List UInt8) (g : Bool) (v : Value) (w : World) (hv : Hid (IsBy w v last)) (hk : k ≤ 9223372036854775807) (hl : last.length ≤ 9223372036854775807) (hr : rest.length ≤ 9223372036854775807) :
    Calls Tryz.prog 121 #[.agg #[.int .i64 (k : Int), .string (bs rest), .string (bs val), .bool g], v] w fun e w' => e = .returned (.bool (decide (k ≤ last.length ∧ sharedL last (last.take k ++ rest) = k))) ∧ Below w.heap.size w w' := by
  obtain ⟨a, cap, rfl, hrow⟩ := hv.out
  obtain ⟨n, hn⟩ : ∃ n, n = last.length := ⟨_, rfl⟩
  have HB := Lib.hid ((Below.refl w.heap.size w).alloc (Nat.le_refl _) (.cells #[.int .i64 (k : Int), .string (bs rest), .string (bs val), .bool g] 157))
  rw [← hn] at hrow hl ⊢
  by_cases h1 : n < k
  · have hres := Lib.hid (show decide (k ≤ n ∧ sharedL last (last.take k ++ rest) = k) = false from decide_eq_false (by omega))
    rw [hres.out]
    clear hn
    go_enter Tryz.func121, Tryz.ntmps121
    go_wp2_with fail
    go_ret
    exact ⟨rfl, HB.out⟩
  · have hsj := shares_just (rest := rest) (show k ≤ last.length by omega)
    cases rest with
    | nil =>
      have hres := Lib.hid (show decide (k ≤ n ∧ sharedL last (last.take k ++ []) = k) = true from decide_eq_true ⟨by omega, hsj.2 (.inl rfl)⟩)
      rw [hres.out]
      clear hn hsj
      have e1 : (bs []).toList = [] := by rw [Lib.toList_data, bs_list]
      go_enter Tryz.func121, Tryz.ntmps121
      go_wp2_with fail
      go_quiet (fail)
      go_wp2_with fail
      go_ret
      exact ⟨rfl, below_drewN HB.out _⟩
    | cons c r =>
      have e1 : (bs (c :: r)).toList = c :: r := by rw [Lib.toList_data, bs_list]
      have z1 : (bs (c :: r)).size = r.length + 1 := by rw [bs_size]; rfl
      by_cases h2 : k = n
      · have hres := Lib.hid (show decide (k ≤ n ∧ sharedL last (last.take k ++ c :: r) = k) = true from decide_eq_true ⟨by omega, hsj.2 (.inr (.inl (by omega)))⟩)
        rw [hres.out]
        clear hn hsj
        have hb : ((k : Int) == (n : Int)) = true := beq_iff_eq.2 (by omega)
        have H2 := Lib.hid h2
        clear h2
        go_enter Tryz.func121, Tryz.ntmps121
        go_wp2_with fail
        go_quiet (fail)
        go_wp2_with fail
        go_ret
        exact ⟨rfl, below_drewN HB.out _⟩
      · have hb : ((k : Int) == (n : Int)) = false := beq_eq_false_iff_ne.2 (by omega)
        have hkl : k < last.length := by omega
        obtain ⟨b, off, rfl, hrow2⟩ := hrow.resolve_left (by omega)
        obtain ⟨y, hy⟩ : ∃ y, last[k]? = some y := ⟨_, List.getElem?_eq_getElem hkl⟩
        obtain ⟨hbl, cy⟩ := hrow2 k y hy
        have cy' : ∀ o, (w.alloc o).cell? ⟨b, off + k, none⟩ = some (.int .u8 (y.toNat : Int)) := fun o => by rw [((Below.refl w.heap.size w).alloc (Nat.le_refl _) o).cell hbl]; exact cy
        have hc0 : (bs (c :: r))[0] = c := rfl
        have hkn : k < n := by omega
        by_cases hxy : c = y
        · have hres := Lib.hid (show decide (k ≤ n ∧ sharedL last (last.take k ++ c :: r) = k) = false from decide_eq_false fun ⟨_, h⟩ => by
            rcases hsj.1 h with h | h | h
            · cases h
            · omega
            · exact h c y rfl hy hxy)
          rw [hres.out]
          have hb2 : ((c.toNat : Int) != (y.toNat : Int)) = false := by rw [hxy]; simp
          clear hn hsj hy hrow hrow2 hkl hxy
          go_enter Tryz.func121, Tryz.ntmps121
          go_wp2_with fail
          go_quiet (fail)
          go_wp2_with fail
          go_ret
          exact ⟨rfl, below_drewN HB.out _⟩
        · have hres := Lib.hid (show decide (k ≤ n ∧ sharedL last (last.take k ++ c :: r) = k) = true from decide_eq_true ⟨by omega, hsj.2 (.inr (.inr fun x z hx hz e => by
            injection hx with hx
            rw [hy] at hz
            injection hz with hz
            exact hxy (by rw [hx, e, hz])))⟩)
          rw [hres.out]
          have hb2 : ((c.toNat : Int) != (y.toNat : Int)) = true := bne_iff_ne.2 fun e => hxy (UInt8.toNat_inj.1 (by omega))
          clear hn hsj hy hrow hrow2 hkl hxy
          go_enter Tryz.func121, Tryz.ntmps121
          go_wp2_with fail
          go_quiet (fail)
          go_wp2_with fail
          go_ret
          exact ⟨rfl, below_drewN HB.out _⟩

set_option maxHeartbeats 1000000 in
theorem told_above (k : Nat) (rest val last : List UInt8) (g : Bool) (v : Value) (w : World) (hv : Hid (IsBy w v last)) (hk : k ≤ last.length) (hl : last.length ≤ 9223372036854775807) (hr : rest.length ≤ 9223372036854775807) (hsh : Hid (sharedL last (last.take k ++ rest) = k)) :
    Calls Tryz.prog 116 #[.agg #[.int .i64 (k : Int), .string (bs rest), .string (bs val), .bool g], v] w fun e w' => e = .returned (.bool (ltB last (last.take k ++ rest))) ∧ Below w.heap.size w w' := by
  obtain ⟨a, cap, rfl, hrow⟩ := hv.out
  have hab := above_is hk hsh.out
  obtain ⟨n, hn⟩ : ∃ n, n = last.length := ⟨_, rfl⟩
  have HB := Lib.hid ((Below.refl w.heap.size w).alloc (Nat.le_refl _) (.cells #[.int .i64 (k : Int), .string (bs rest), .string (bs val), .bool g] 157))
  rw [← hn] at hrow hl hk hab ⊢
  obtain ⟨z, hz⟩ : ∃ z, z = ltB last (last.take k ++ rest) := ⟨_, rfl⟩
  rw [← hz] at hab ⊢
  clear hz hsh
  cases rest with
  | nil =>
    have hres : z = false := by
      cases z with
      | false => rfl
      | true => exact absurd rfl (hab.1 rfl).1
    subst hres
    clear hn hab
    have e1 : (bs []).toList = [] := by rw [Lib.toList_data, bs_list]
    go_enter Tryz.func116, Tryz.ntmps116
    go_wp2_with fail
    go_ret
    exact ⟨rfl, HB.out⟩
  | cons c r =>
    have e1 : (bs (c :: r)).toList = c :: r := by rw [Lib.toList_data, bs_list]
    have z1 : (bs (c :: r)).size = r.length + 1 := by rw [bs_size]; rfl
    by_cases h2 : k = n
    · obtain rfl : z = true := hab.2 ⟨by simp, .inl h2⟩
      clear hn hab
      have hb : ((k : Int) == (n : Int)) = true := beq_iff_eq.2 (by omega)
      have H2 := Lib.hid h2
      clear h2
      go_enter Tryz.func116, Tryz.ntmps116
      go_wp2_with fail
      go_quiet (fail)
      go_wp2_with fail
      go_ret
      exact ⟨rfl, below_drewN HB.out _⟩
    · have hb : ((k : Int) == (n : Int)) = false := beq_eq_false_iff_ne.2 (by omega)
      have hkl : k < last.length := by omega
      obtain ⟨b, off, rfl, hrow2⟩ := hrow.resolve_left (by omega)
      obtain ⟨y, hy⟩ : ∃ y, last[k]? = some y := ⟨_, List.getElem?_eq_getElem hkl⟩
      obtain ⟨hbl, cy⟩ := hrow2 k y hy
      have cy' : ∀ o, (w.alloc o).cell? ⟨b, off + k, none⟩ = some (.int .u8 (y.toNat : Int)) := fun o => by rw [((Below.refl w.heap.size w).alloc (Nat.le_refl _) o).cell hbl]; exact cy
      have hc0 : (bs (c :: r))[0] = c := rfl
      have hkn : k < n := by omega
      have hz : z = decide (y.toNat < c.toNat) := by
        rw [Bool.eq_iff_iff, hab, decide_eq_true_iff]
        refine ⟨fun ⟨_, h⟩ => ?_, fun h => ⟨by simp, .inr ⟨c, y, rfl, hy, by omega⟩⟩⟩
        rcases h with h | ⟨x, z, hx, hz, h⟩
        · omega
        · injection hx with hx
          rw [hy] at hz
          injection hz with hz
          rw [hx, hz]
          omega
      have HZ := Lib.hid hz
      clear hn hab hy hrow hrow2 hkl hz
      go_enter Tryz.func116, Tryz.ntmps116
      go_wp2_with fail
      go_quiet (fail)
      go_wp2_with fail
      go_ret
      exact ⟨retb HZ.out.symm, below_drewN HB.out _⟩
end Go.Proofs.YteejldddgogbkaaGreatDoor
/- Arrays by value, whole loads and stores, regions that draw their order: what all layers share. -/
set_option linter.unusedVariables false
set_option maxRecDepth 100000
namespace Go.Proofs.YteejldddgogbkaaGreatDoor
open Go.RowKit

theorem Below.frozen {B : Nat} {w w' : World} (k : Below B w w') {b : Nat} (hb : b < B) (j : Nat) : w'.frozen? ⟨b, j, none⟩ = w.frozen? ⟨b, j, none⟩ := by
  unfold World.frozen?
  rw [k.block b hb]
theorem below_setCells {B b : Nat} {a : World} (hB : B ≤ b) : ∀ (vs : List Value) (o : Nat) {w : World}, Below B a w → Below B a (w.setCells b o vs)
  | [], _, _, h => h
  | v :: vs, o, _, h => below_setCells hB vs (o + 1) (h.setCell (p := ⟨b, o, none⟩) hB v)
theorem results_cell1 {fn : Func} {p : Tmp} {ty : TypeId} (h : fn.results = #[.cell p ty]) (tmps : Array Value) (P : Program) (w : World) (b o : Nat) (cs : List Value) (d : TypeDesc) (hp : tmps.getD p undef = .pointer (some ⟨b, o, none⟩)) (hc : w.rangeAt b o cs)
    (hu : P.underlying ty = some d) (hd : d.isRow = true) (hi : (P.info? ty).map (·.size) = some cs.length) :
    (results fn tmps).run P w = .ok (.agg cs.toArray) w := by
  have hl := run_loadVar_mid w b o ty cs d hc hu hd hi
  have hp' : tmps[p]?.getD undef = .pointer (some ⟨b, o, none⟩) := by simpa using hp
  simp only [results, h]
  simp [Sem.run_bind, Result.andThen, hp', asAddr, hl]
/-- An array by value, at a place within it. -/
theorem run_index_arr (t e : TypeId) (n : Nat) (cs : Array Value) (i : Nat) (v : Value) (hu : Tryz.prog.underlying t = some (.array n e)) (ha : ∀ w, (isAgg e).run Tryz.prog w = .ok false w) (hs : ∀ w, (Go.sizeOf e).run Tryz.prog w = .ok 1 w) (hi : i < n) (hc : cs[i]? = some v) (w : World) :
    (Instr.index t (.agg cs) (.int .i64 (i : Int))).run Tryz.prog w = .ok v w := by
  have h1 : (0 : Int) ≤ (i : Int) ∧ (i : Int) < (n : Int) := by omega
  simp [Instr.index, run_underlying hu, asIntOf, h1, part, ha, hs, hc, go_sem]
  omega
theorem rangeAt_below {b o B : Nat} {cs : List Value} {w w' : World} (h : w.rangeAt b o cs) (k : Below B w w') (hb : b < B) : w'.rangeAt b o cs := by
  intro j v hj
  rw [k.cell hb]
  exact h j v hj

theorem results_arr {fn : Func} {p : Tmp} {ty : TypeId} (h : fn.results = #[.cell p ty]) (tmps : Array Value) (P : Program) (w : World) (b : Nat) (cs : Array Value) (d : TypeDesc) (hp : tmps.getD p undef = .pointer (some ⟨b, 0, none⟩)) (hc : w.there b 0 cs.size)
    (hu : P.underlying ty = some d) (hd : d.isRow = true) (hi : (P.info? ty).map (·.size) = some cs.toList.length) :
    (results fn tmps).run P (w.setCells b 0 cs.toList) = .ok (.agg cs) (w.setCells b 0 cs.toList) := by
  have := results_cell1 h tmps P (w.setCells b 0 cs.toList) b 0 cs.toList d hp (World.rangeAt_setCells_same w b 0 _ (by simpa using hc)) hu hd hi
  simpa using this

theorem seen_of {P : Program} {F : FuncId} {args : Array Value} {r : Value} (h : ∀ w, Calls P F args w fun e w' => e = .returned r ∧ Below w.heap.size w w') (W : World) (n : Seen W) : Calls P F args n.val fun e w'' => e = .returned r ∧ ∃ m : Seen W, w'' = m.val :=
  (h n.val).mono fun _ w'' ⟨h1, h2⟩ => ⟨h1, ⟨⟨w'', n.below.trans (h2.mono n.below.size)⟩, rfl⟩⟩
theorem held_of {P : Program} {F : FuncId} {args : Array Value} {r : Value} (h : ∀ w, Calls P F args w fun e w' => e = .returned r ∧ Below w.heap.size w w') (W w : World) (k : Below W.heap.size W w) : Calls P F args w fun e w'' => e = .returned r ∧ Below W.heap.size W w'' :=
  (h w).mono fun _ w'' ⟨h1, h2⟩ => ⟨h1, k.trans (h2.mono k.size)⟩
/-- A whole array that is loaded in a region that writes nothing that was there. -/
theorem quiet_load_mid {P : Program} {o : Oper} {a : Act} {C : World → Prop} {K : Act → Prop} (ty : TypeId) (x : Operand) (ho : o.op = .load ty x) (b off : Nat) (hx : a.eval x = .pointer (some ⟨b, off, none⟩)) (cs : List Value) (d : TypeDesc) (hS : ∀ w, C w → w.rangeAt b off cs)
    (hu : P.underlying ty = some d) (hd : d.isRow = true) (hi : (P.info? ty).map (·.size) = some cs.length) (hk : K (a.put o.dst (.agg cs.toArray))) : o.quiet P a C K :=
  ⟨_, fun w hw => by
    unfold Oper.quietAt execOp
    simp only [ho, hx, Instr.loadAt, Instr.sureAddr, Sem.run_bind, Sem.run_pure, Result.andThen_ok, run_loadVar_mid w b off ty cs d (hS w hw) hu hd hi]
    exact ⟨rfl, rfl⟩, hk⟩
theorem quiet_load_arr {P : Program} {o : Oper} {a : Act} {C : World → Prop} {K : Act → Prop} (ty : TypeId) (x : Operand) (ho : o.op = .load ty x) (b off : Nat) (hx : a.eval x = .pointer (some ⟨b, off, none⟩)) (cs : Array Value) (d : TypeDesc) (hS : ∀ w, C w → w.rangeAt b off cs.toList)
    (hu : P.underlying ty = some d) (hd : d.isRow = true) (hi : (P.info? ty).map (·.size) = some cs.toList.length) (hk : K (a.put o.dst (.agg cs))) : o.quiet P a C K :=
  quiet_load_mid ty x ho b off hx cs.toList d hS hu hd hi (by simpa using hk)
theorem seen_range {W W' : World} {b : Nat} {cs : List Value} (h : ∀ m, Below W.heap.size W m → m.rangeAt b 0 cs) (k : Below W.heap.size W W') : ∀ w, (∃ n : Seen W', w = n.val) → w.rangeAt b 0 cs := by
  rintro _ ⟨n, rfl⟩
  exact h n.val (k.trans (n.below.mono k.size))
/-- A whole array that is loaded behind a guard. -/
theorem wpList_load_arr {P : Program} {ops : Array Oper} {rest : List Oper} {op : Oper} {a : Act} {w : World} {Q : Exit → Act → World → Prop} (hw : Region.wanted op (yielded ops a.tmps) = true) (ty : TypeId) (x : Operand) (ho : op.op = .load ty x)
    (b o : Nat) (hx : a.eval x = .pointer (some ⟨b, o, none⟩)) (cs : Array Value) (d : TypeDesc) (hc : w.rangeAt b o cs.toList)
    (hu : P.underlying ty = some d) (hd : d.isRow = true) (hi : (P.info? ty).map (·.size) = some cs.toList.length)
    (h : wpList P ops Q rest (a.put op.dst (.agg cs)) w) : wpList P ops Q (op :: rest) a w :=
  wpList_step fun _ hK => by
    rw [if_pos hw]
    exact wp_load_mid ty x ho b o hx cs.toList d hc hu hd hi (hK _ _ (by simpa using h))
/-- A region that draws its order, gone through by hand: an operation that may come first, its slot named. -/
theorem held_take {P : Program} {md : Region.Mode} {ops : Array Oper} {Q : Exit → Act → World → Prop} {S : World → Prop} {fuel : Nat} {listed : Array Bool} {a : Act} {w : World} (i d : Nat) {oi : Oper} {v : Value} (hi : ops[i]? = some oi) (hd : oi.dst = some d)
    (hs : Region.noSelect ops = true) (hf : Region.free md ops listed i = true) (hr : (Region.ready md ops listed).contains i = true)
    (hQ : ∀ c a w, Q (.panic c) (a.put oi.dst v) w → Q (.panic c) a w) (hy : YieldsIf P ops S oi v a) (hS : S w)
    (h : wpAnyH P md ops Q S fuel (listed.setIfInBounds i true) (a.put (some d) v) w) : wpAnyH P md ops Q S (fuel + 1) listed a w :=
  wpAnyH_take hi hs hf hr hQ hy hS (by rw [hd]; exact h)
theorem seen_at {W : World} {b : Nat} {cs : List Value} (h : W.rangeAt b 0 cs) (hb : b < W.heap.size) : ∀ w, (∃ n : Seen W, w = n.val) → w.rangeAt b 0 cs := by
  rintro _ ⟨n, rfl⟩
  exact rangeAt_below h n.below hb
end Go.Proofs.YteejldddgogbkaaGreatDoor
/- A key and a value gone over. -/
set_option linter.unusedVariables false
set_option maxRecDepth 100000
set_option maxRecDepth 100000
namespace Go.Proofs.YteejldddgogbkaaGreatDoor
open Go.RowKit

def Tld.V (t : Tld) : Value := .agg #[.int .i64 (t.sh : Int), .string (bs t.rest), .string (bs t.val), .bool t.gone]
/-- Why what stands here is no key behind this one. -/
def kE (last l : List UInt8) : Int :=
  if ce l ≠ 0 then ce l
  else if te (l.drop (ck l)) ≠ 0 then te (l.drop (ck l))
  else if last.length < (cn l).toNat ∨ sharedL last (last.take (cn l).toNat ++ ts (l.drop (ck l))) ≠ (cn l).toNat then 3
  else if 65536 < (cn l).toNat + (ts (l.drop (ck l))).length then 6 else 0
/-- What a going over leaves: what is told, the error, the reader somewhere. -/
structure KeyPost (r : Nat) (last l : List UInt8) (w : World) (e : Ending) (w' : World) : Prop where
  out : ∃ t s, e = .returned (.tuple #[Tld.V t, .int .i64 (kE last l)]) ∧ Rt r (bs s) w' ∧ (kE last l = 0 → t = ⟨(cn l).toNat, ts (l.drop (ck l)), [], false⟩ ∧ s = (l.drop (ck l)).drop (tk (l.drop (ck l))))
  only : Only (fun k => k = r) w w'

/-- A variable that holds what is told. -/
def BxT (c : Nat) (t : Tld) (w : World) : Prop := w.heap[c]? = some (.cells #[.int .i64 (t.sh : Int), .string (bs t.rest), .string (bs t.val), .bool t.gone] 157 (0, 0))
theorem BxT.c0 {c : Nat} {t : Tld} {w : World} (h : BxT c t w) : w.cell? ⟨c, 0, none⟩ = some (.int .i64 (t.sh : Int)) := by unfold BxT at h; simp [World.cell?, h]
theorem BxT.c1 {c : Nat} {t : Tld} {w : World} (h : BxT c t w) : w.cell? ⟨c, 1, none⟩ = some (.string (bs t.rest)) := by unfold BxT at h; simp [World.cell?, h]
theorem BxT.c2 {c : Nat} {t : Tld} {w : World} (h : BxT c t w) : w.cell? ⟨c, 2, none⟩ = some (.string (bs t.val)) := by unfold BxT at h; simp [World.cell?, h]
theorem BxT.c3 {c : Nat} {t : Tld} {w : World} (h : BxT c t w) : w.cell? ⟨c, 3, none⟩ = some (.bool t.gone) := by unfold BxT at h; simp [World.cell?, h]
theorem BxT.free {c : Nat} {t : Tld} {w : World} (h : BxT c t w) (j : Nat) : w.frozen? ⟨c, j, none⟩ = false := by unfold BxT at h; simp [World.frozen?, h]
theorem BxT.put {c : Nat} {t : Tld} {w : World} (h : BxT c t w) (u : Tld) : BxT c u ((((w.setCell ⟨c, 0, none⟩ (.int .i64 (u.sh : Int))).setCell ⟨c, 1, none⟩ (.string (bs u.rest))).setCell ⟨c, 2, none⟩ (.string (bs u.val))).setCell ⟨c, 3, none⟩ (.bool u.gone)) := by
  have h1 := heap_set (o := 0) h (.int .i64 (u.sh : Int))
  have h2 := heap_set (o := 1) h1 (.string (bs u.rest))
  have h3 := heap_set (o := 2) h2 (.string (bs u.val))
  exact heap_set (o := 3) h3 (.bool u.gone)
theorem BxT.range {c : Nat} {t : Tld} {w : World} (h : BxT c t w) : w.rangeAt c 0 t.vals := by
  intro j v hj
  match j, hj with
  | 0, hj => injection hj with hj; subst hj; exact h.c0
  | 1, hj => injection hj with hj; subst hj; exact h.c1
  | 2, hj => injection hj with hj; subst hj; exact h.c2
  | 3, hj => injection hj with hj; subst hj; exact h.c3
  | n + 4, hj => cases hj
theorem BxT.keep {c : Nat} {t : Tld} {w w' : World} {S : Nat → Prop} (h : BxT c t w) (k : Only S w w') (hS : ¬ S c) : BxT c t w' := (k.block c (heap_lt h) hS).trans h
theorem BxT.below {c : Nat} {t : Tld} {w w' : World} (h : BxT c t w) (k : Below w.heap.size w w') : BxT c t w' := (k.block c (heap_lt h)).trans h
theorem infoT : (Tryz.prog.info? 157).map (·.size) = some 4 := by kernel_rfl
theorem results_told {fn : Func} {p u : Tmp} (h : fn.results = #[.cell p 157, .tmp u]) (tmps : Array Value) (w : World) (b : Nat) (t : Tld) (x : Value) (hp : tmps.getD p undef = .pointer (some ⟨b, 0, none⟩)) (hx : tmps.getD u undef = x) (hc : BxT b t w) :
    (results fn tmps).run Tryz.prog w = .ok (.tuple #[t.V, x]) w := by
  have hl := run_loadVar_mid (P := Tryz.prog) w b 0 157 t.vals _ hc.range Tryz.underlying157 rfl infoT
  have hp' : tmps[p]?.getD undef = .pointer (some ⟨b, 0, none⟩) := by simpa using hp
  have hx' : tmps[u]?.getD undef = x := by simpa using hx
  simp only [results, h]
  simp [Sem.run_bind, Result.andThen, hp', hx', asAddr, hl]
  rfl
/-- What is new may be written. -/
theorem Only.put4 {S : Nat → Prop} {a w : World} {c : Nat} (h : Only S a w) (hc : a.heap.size ≤ c) (v0 v1 v2 v3 : Value) : Only S a ((((w.setCell ⟨c, 0, none⟩ v0).setCell ⟨c, 1, none⟩ v1).setCell ⟨c, 2, none⟩ v2).setCell ⟨c, 3, none⟩ v3) :=
  (((h.setCell (p := ⟨c, 0, none⟩) (.inr hc) v0).setCell (p := ⟨c, 1, none⟩) (.inr hc) v1).setCell (p := ⟨c, 2, none⟩) (.inr hc) v2).setCell (p := ⟨c, 3, none⟩) (.inr hc) v3
theorem Rt.put4 {r c : Nat} {s : ByteArray} {w : World} (h : Rt r s w) (hc : r ≠ c) (v0 v1 v2 v3 : Value) : Rt r s ((((w.setCell ⟨c, 0, none⟩ v0).setCell ⟨c, 1, none⟩ v1).setCell ⟨c, 2, none⟩ v2).setCell ⟨c, 3, none⟩ v3) := by
  unfold Rt at h ⊢
  rw [heap_set_other hc, heap_set_other hc, heap_set_other hc, heap_set_other hc, h]
theorem IsBy.read {r : Nat} {s : ByteArray} {w w' : World} {v : Value} {last : List UInt8} (h : IsBy w v last) (hr : Rt r s w) (k : Only (fun k => k = r) w w') : IsBy w' v last := by
  obtain ⟨a, cap, rfl, h⟩ := h
  refine ⟨a, cap, rfl, ?_⟩
  rcases h with h | ⟨b, off, ha, h⟩
  · exact .inl h
  · refine .inr ⟨b, off, ha, fun i x hx => ?_⟩
    obtain ⟨h1, h2⟩ := h i x hx
    have hb : b ≠ r := by
      rintro rfl
      unfold Rt at hr
      simp only [World.cell?, hr] at h2
      match off + i, h2 with
      | 0, h2 => simp at h2
      | n + 1, h2 => simp at h2
    refine ⟨Nat.lt_of_lt_of_le h1 k.size, ?_⟩
    rw [← h2]
    unfold World.cell?
    rw [k.block b h1 hb]
def noTld : Tld := ⟨0, [], [], false⟩
/-- The end of a going over that is refused. -/
theorem key_no {r Z : Nat} {last l : List UInt8} {w w1 : World} {s : List UInt8} {z : Int} {t0 : Tld} (hk : kE last l = z) (hz : z ≠ 0) (hr : Rt r (bs s) w1) (ho : Only (fun k => k = r) w w1) (hb : BxT Z t0 w1) (hZ : Z = w.heap.size) (hrZ : r < w.heap.size) :
    KeyPost r last l w (.returned (.tuple #[noTld.V, .int .i64 z])) ((((w1.setCell ⟨Z, 0, none⟩ (.int .i64 ((0 : Nat) : Int))).setCell ⟨Z, 1, none⟩ (.string (bs []))).setCell ⟨Z, 2, none⟩ (.string (bs []))).setCell ⟨Z, 3, none⟩ (.bool false)) :=
  ⟨⟨noTld, s, by rw [hk], hr.put4 (by omega) _ _ _ _, fun h => absurd (hk.symm.trans h) hz⟩, ho.put4 (by omega) _ _ _ _⟩

theorem key_yes {r Z : Nat} {last l : List UInt8} {w w1 : World} {s : List UInt8} {t : Tld} (hk : kE last l = 0) (hr : Rt r (bs s) w1) (ho : Only (fun k => k = r) w w1) (hZ : Z = w.heap.size) (hrZ : r < w.heap.size) (hf : t = ⟨(cn l).toNat, ts (l.drop (ck l)), [], false⟩ ∧ s = (l.drop (ck l)).drop (tk (l.drop (ck l)))) :
    KeyPost r last l w (.returned (.tuple #[t.V, .int .i64 0])) ((((w1.setCell ⟨Z, 0, none⟩ (.int .i64 (t.sh : Int))).setCell ⟨Z, 1, none⟩ (.string (bs t.rest))).setCell ⟨Z, 2, none⟩ (.string (bs t.val))).setCell ⟨Z, 3, none⟩ (.bool t.gone)) :=
  ⟨⟨t, s, by rw [hk], hr.put4 (by omega) _ _ _ _, fun _ => hf⟩, ho.put4 (by omega) _ _ _ _⟩
set_option maxHeartbeats 2000000 in
theorem take_key (r : Nat) (last l : List UInt8) (v : Value) (w : World) (h : Rt r (bs l) w) (hv : Hid (IsBy w v last)) (hl : l.length ≤ 100000000000) (hlast : last.length ≤ 65536) :
    Calls Tryz.prog 114 #[.pointer (some ⟨r, 0, none⟩), v] w (KeyPost r last l w) := by
  have hs : (bs l).size ≤ maxLen := by rw [bs_size]; unfold maxLen; omega
  obtain ⟨w0, hw0⟩ : ∃ w0, w.alloc (.cells #[.int .i64 0, .string ⟨#[]⟩, .string ⟨#[]⟩, .bool false] 157) = w0 := ⟨_, rfl⟩
  have R0 := Lib.hid (show Rt r (bs l) w0 by rw [← hw0]; exact (Below.heap_alloc w _ r h.lt).trans h)
  have O0 := Lib.hid (show Only (fun k => k = r) w w0 by rw [← hw0]; exact (Only.refl _ _).alloc _)
  have V0 := Lib.hid (show IsBy w0 v last by rw [← hw0]; exact hv.out.below ((Below.refl _ _).alloc (Nat.le_refl _) _))
  have T0 := Lib.hid (show BxT w.heap.size noTld w0 by rw [← hw0]; exact heap_new w _)
  have HL := Lib.hid h.lt
  have HZ := Lib.hid (show w.heap.size ≠ r by have := h.lt; omega)
  clear h hv
  have hcnt := six_ReadCount r (bs l) w0 R0.out hs
  rw [bs_list, rest_bs] at hcnt
  by_cases h1 : ce l ≠ 0
  · have hk := Lib.hid (show kE last l = ce l by unfold kE; rw [if_pos h1])
    have hb : (ce l == 0) = false := beq_eq_false_iff_ne.2 h1
    obtain ⟨z, hz⟩ : ∃ z, z = ce l := ⟨_, rfl⟩
    rw [← hz] at hcnt hb hk
    have HCNT := Lib.hid hcnt
    clear hcnt h1 hz
    go_enter Tryz.func114, Tryz.ntmps114
    go_wp2_with fail
    refine HCNT.out.mono ?_
    rintro e w1 ⟨rfl, h2, k2⟩
    have t1 := T0.out.keep k2 HZ.out
    have H2 := Lib.hid h2
    have K2 := Lib.hid (O0.out.trans k2)
    have q0 := t1.c0
    have q1 := t1.c1
    have q2 := t1.c2
    have q3 := t1.c3
    have qf := t1.free
    have T1 := Lib.hid t1
    clear h2 k2 t1
    go_wp2_with fail
    refine bodyPost_ret (results_told rfl _ _ w.heap.size noTld _ rfl rfl (T1.out.put noTld)) rfl ?_
    exact key_no hk.out (by simpa using hb) H2.out K2.out T1.out rfl HL.out
  · have h1' : ce l = 0 := Decidable.of_not_not h1
    obtain ⟨k, hk⟩ : ∃ k, k = (cn l).toNat := ⟨_, rfl⟩
    have hkn : cn l = (k : Int) := by have := cn_of' h1'; omega
    have hk64 : k ≤ 9223372036854775807 := by have := cd_cases l; omega
    obtain ⟨l1, hl1⟩ : ∃ l1, l1 = l.drop (ck l) := ⟨_, rfl⟩
    have hl1l : l1.length ≤ 100000000000 := by rw [hl1, List.length_drop]; omega
    have hkE := Lib.hid (show kE last l = if te l1 ≠ 0 then te l1 else if last.length < k ∨ sharedL last (last.take k ++ ts l1) ≠ k then 3 else if 65536 < k + (ts l1).length then 6 else 0 by unfold kE; rw [if_neg h1, ← hl1, ← hk])
    have hfin := Lib.hid (show ∀ (t : Tld) (s : List UInt8), t = ⟨k, ts l1, [], false⟩ → s = l1.drop (tk l1) → t = ⟨(cn l).toNat, ts (l.drop (ck l)), [], false⟩ ∧ s = (l.drop (ck l)).drop (tk (l.drop (ck l))) by rw [← hl1, ← hk]; exact fun t s a b => ⟨a, b⟩)
    rw [← hl1, hkn, h1'] at hcnt
    have HCNT := Lib.hid hcnt
    clear hcnt h1 h1' hk hkn hl1
    have htx := fun W (hW : Rt r (bs l1) W) => six_ReadText r (bs l1) W hW (by rw [bs_size]; unfold maxLen; omega)
    rw [bs_list, rest_bs] at htx
    have htl : (ts l1).length ≤ 100000000000 := by
      have := td_cases l1
      rcases this with ⟨_, _, _, _, _, _, h⟩ | ⟨_, h, _⟩
      · rw [h, List.length_take, List.length_drop]; omega
      · rw [h]; simp
    by_cases h2 : te l1 ≠ 0
    · have hk := Lib.hid (show kE last l = te l1 by rw [hkE.out, if_pos h2])
      have hb : (te l1 == 0) = false := beq_eq_false_iff_ne.2 h2
      obtain ⟨z, hz⟩ : ∃ z, z = te l1 := ⟨_, rfl⟩
      rw [← hz] at htx hb hk
      have HTX := Lib.hid htx
      clear htx h2 hz
      go_enter Tryz.func114, Tryz.ntmps114
      go_wp2_with fail
      refine HCNT.out.mono ?_
      rintro e w1 ⟨rfl, h2, k2⟩
      have t1 := T0.out.keep k2 HZ.out
      have H2 := Lib.hid h2
      have K2 := Lib.hid (O0.out.trans k2)
      have T1 := Lib.hid t1
      clear h2 k2 t1
      go_wp2_with fail
      refine (HTX.out w1 H2.out).mono ?_
      rintro e w2 ⟨rfl, h3, k3⟩
      have t2 := T1.out.keep k3 HZ.out
      have H3 := Lib.hid h3
      have K3 := Lib.hid (K2.out.trans k3)
      have q0 := t2.c0
      have q1 := t2.c1
      have q2 := t2.c2
      have q3 := t2.c3
      have qf := t2.free
      have T2 := Lib.hid t2
      clear h3 k3 t2
      go_wp2_with fail
      refine bodyPost_ret (results_told rfl _ _ w.heap.size noTld _ rfl rfl (T2.out.put noTld)) rfl ?_
      exact key_no hk.out (by simpa using hb) H3.out K3.out T2.out rfl HL.out
    · have h2' : te l1 = 0 := Decidable.of_not_not h2
      have hkE2 := Lib.hid (show kE last l = if last.length < k ∨ sharedL last (last.take k ++ ts l1) ≠ k then 3 else if 65536 < k + (ts l1).length then 6 else 0 by rw [hkE.out, if_neg h2])
      rw [h2'] at htx
      have HTX := Lib.hid htx
      clear htx h2 h2' hkE
      obtain ⟨rest, hrest⟩ : ∃ rest, rest = ts l1 := ⟨_, rfl⟩
      rw [← hrest] at HTX hkE2 hfin htl
      have hz1 : (bs rest).size = rest.length := bs_size _
      have HSJ := Lib.hid (fun W (hW : IsBy W v last) => told_shares k rest [] last false v W (Lib.hid hW) hk64 (by omega) (by omega))
      obtain ⟨sj, hsj⟩ : ∃ sj, sj = decide (k ≤ last.length ∧ sharedL last (last.take k ++ rest) = k) := ⟨_, rfl⟩
      rw [← hsj] at HSJ
      have HRE := Lib.hid hrest
      clear hrest
      cases sj with
      | false =>
        have hk := Lib.hid (show kE last l = 3 by
          have := of_decide_eq_false hsj.symm
          rw [hkE2.out, if_pos (by omega)])
        clear hsj
        go_enter Tryz.func114, Tryz.ntmps114
        go_wp2_with fail
        refine HCNT.out.mono ?_
        rintro e w1 ⟨rfl, h2, k2⟩
        have H2 := Lib.hid h2
        have K2 := Lib.hid (O0.out.trans k2)
        have K2a := Lib.hid k2
        have T1 := Lib.hid (T0.out.keep k2 HZ.out)
        clear h2 k2
        go_wp2_with fail
        refine (HTX.out w1 H2.out).mono ?_
        rintro e w2 ⟨rfl, h3, k3⟩
        have H3 := Lib.hid h3
        have K3 := Lib.hid (K2.out.trans k3)
        have T2 := Lib.hid (T1.out.keep k3 HZ.out)
        have V2 := Lib.hid ((V0.out.read R0.out K2a.out).read H2.out k3)
        obtain ⟨w3, hw3⟩ : ∃ w3, w2.alloc (.cells #[.int .i64 (k : Int), .string (bs rest), .string ⟨#[]⟩, .bool false] 157) = w3 := ⟨_, rfl⟩
        have B3 := Lib.hid (show Below w2.heap.size w2 w3 by rw [← hw3]; exact (Below.refl _ _).alloc (Nat.le_refl _) _)
        have T9 := Lib.hid (show BxT w2.heap.size ⟨k, rest, [], false⟩ w3 by rw [← hw3]; exact heap_new w2 _)
        have SJ := Lib.hid (HSJ.out w3 (V2.out.below B3.out))
        have Z2 := Lib.hid (show w.heap.size ≤ w2.heap.size from K3.out.size)
        have HW3 := Lib.hid hw3
        clear h3 k3 hw3
        go_wp2_with fail
        rw [HW3.out]
        refine SJ.out.mono ?_
        rintro e w4 ⟨rfl, k4⟩
        have B4 := Lib.hid (B3.out.trans (k4.mono B3.out.size))
        have H4 := Lib.hid (show Rt r (bs (l1.drop (tk l1))) w4 from (B4.out.block r (by have := HL.out; have := Z2.out; omega)).trans H3.out)
        have K4 := Lib.hid (show Only (fun k => k = r) w w4 from K3.out.trans ⟨B4.out.os, B4.out.tape, B4.out.output, B4.out.size, fun j hj _ => B4.out.block j hj⟩)
        have T4 := T2.out.below B4.out
        have T94 := T9.out.below k4
        clear k4
        have q0 := T4.c0
        have q1 := T4.c1
        have q2 := T4.c2
        have q3 := T4.c3
        have qf := T4.free
        have T5 := Lib.hid T4
        clear T4
        have g0 := T94.c0
        have g1 := T94.c1
        have g2 := T94.c2
        have g3 := T94.c3
        clear T94
        go_wp2_with fail
        refine bodyPost_ret (results_told rfl _ _ w.heap.size noTld _ rfl rfl (T5.out.put noTld)) rfl ?_
        exact key_no hk.out (by decide) H4.out K4.out T5.out rfl HL.out
      | true =>
        have hsj2 := of_decide_eq_true hsj.symm
        have hkl : k ≤ 65536 := by omega
        by_cases h6 : 65536 < k + rest.length
        · have hk := Lib.hid (show kE last l = 6 by rw [hkE2.out, if_neg (by omega), if_pos h6])
          have h6' : decide (65536 < k + rest.length) = true := decide_eq_true h6
          clear hsj2
          clear hsj
          go_enter Tryz.func114, Tryz.ntmps114
          go_wp2_with fail
          refine HCNT.out.mono ?_
          rintro e w1 ⟨rfl, h2, k2⟩
          have H2 := Lib.hid h2
          have K2 := Lib.hid (O0.out.trans k2)
          have K2a := Lib.hid k2
          have T1 := Lib.hid (T0.out.keep k2 HZ.out)
          clear h2 k2
          go_wp2_with fail
          refine (HTX.out w1 H2.out).mono ?_
          rintro e w2 ⟨rfl, h3, k3⟩
          have H3 := Lib.hid h3
          have K3 := Lib.hid (K2.out.trans k3)
          have T2 := Lib.hid (T1.out.keep k3 HZ.out)
          have V2 := Lib.hid ((V0.out.read R0.out K2a.out).read H2.out k3)
          obtain ⟨w3, hw3⟩ : ∃ w3, w2.alloc (.cells #[.int .i64 (k : Int), .string (bs rest), .string ⟨#[]⟩, .bool false] 157) = w3 := ⟨_, rfl⟩
          have B3 := Lib.hid (show Below w2.heap.size w2 w3 by rw [← hw3]; exact (Below.refl _ _).alloc (Nat.le_refl _) _)
          have T9 := Lib.hid (show BxT w2.heap.size ⟨k, rest, [], false⟩ w3 by rw [← hw3]; exact heap_new w2 _)
          have SJ := Lib.hid (HSJ.out w3 (V2.out.below B3.out))
          have Z2 := Lib.hid (show w.heap.size ≤ w2.heap.size from K3.out.size)
          have HW3 := Lib.hid hw3
          clear h3 k3 hw3
          go_wp2_with fail
          rw [HW3.out]
          refine SJ.out.mono ?_
          rintro e w4 ⟨rfl, k4⟩
          have B4 := Lib.hid (B3.out.trans (k4.mono B3.out.size))
          have H4 := Lib.hid (show Rt r (bs (l1.drop (tk l1))) w4 from (B4.out.block r (by have := HL.out; have := Z2.out; omega)).trans H3.out)
          have K4 := Lib.hid (show Only (fun k => k = r) w w4 from K3.out.trans ⟨B4.out.os, B4.out.tape, B4.out.output, B4.out.size, fun j hj _ => B4.out.block j hj⟩)
          have T4 := T2.out.below B4.out
          have T94 := T9.out.below k4
          clear k4
          have q0 := T4.c0
          have q1 := T4.c1
          have q2 := T4.c2
          have q3 := T4.c3
          have qf := T4.free
          have T5 := Lib.hid T4
          clear T4
          have g0 := T94.c0
          have g1 := T94.c1
          have g2 := T94.c2
          have g3 := T94.c3
          clear T94
          go_wp2_with fail
          refine bodyPost_ret (results_told rfl _ _ w.heap.size noTld _ rfl rfl (T5.out.put noTld)) rfl ?_
          exact key_no hk.out (by decide) H4.out K4.out T5.out rfl HL.out
        · have hk := Lib.hid (show kE last l = 0 by rw [hkE2.out, if_neg (by omega), if_neg h6])
          have h6' : decide (65536 < k + rest.length) = false := decide_eq_false h6
          clear hsj2
          clear hsj
          go_enter Tryz.func114, Tryz.ntmps114
          go_wp2_with fail
          refine HCNT.out.mono ?_
          rintro e w1 ⟨rfl, h2, k2⟩
          have H2 := Lib.hid h2
          have K2 := Lib.hid (O0.out.trans k2)
          have K2a := Lib.hid k2
          have T1 := Lib.hid (T0.out.keep k2 HZ.out)
          clear h2 k2
          go_wp2_with fail
          refine (HTX.out w1 H2.out).mono ?_
          rintro e w2 ⟨rfl, h3, k3⟩
          have H3 := Lib.hid h3
          have K3 := Lib.hid (K2.out.trans k3)
          have T2 := Lib.hid (T1.out.keep k3 HZ.out)
          have V2 := Lib.hid ((V0.out.read R0.out K2a.out).read H2.out k3)
          obtain ⟨w3, hw3⟩ : ∃ w3, w2.alloc (.cells #[.int .i64 (k : Int), .string (bs rest), .string ⟨#[]⟩, .bool false] 157) = w3 := ⟨_, rfl⟩
          have B3 := Lib.hid (show Below w2.heap.size w2 w3 by rw [← hw3]; exact (Below.refl _ _).alloc (Nat.le_refl _) _)
          have T9 := Lib.hid (show BxT w2.heap.size ⟨k, rest, [], false⟩ w3 by rw [← hw3]; exact heap_new w2 _)
          have SJ := Lib.hid (HSJ.out w3 (V2.out.below B3.out))
          have Z2 := Lib.hid (show w.heap.size ≤ w2.heap.size from K3.out.size)
          have HW3 := Lib.hid hw3
          clear h3 k3 hw3
          go_wp2_with fail
          rw [HW3.out]
          refine SJ.out.mono ?_
          rintro e w4 ⟨rfl, k4⟩
          have B4 := Lib.hid (B3.out.trans (k4.mono B3.out.size))
          have H4 := Lib.hid (show Rt r (bs (l1.drop (tk l1))) w4 from (B4.out.block r (by have := HL.out; have := Z2.out; omega)).trans H3.out)
          have K4 := Lib.hid (show Only (fun k => k = r) w w4 from K3.out.trans ⟨B4.out.os, B4.out.tape, B4.out.output, B4.out.size, fun j hj _ => B4.out.block j hj⟩)
          have T4 := T2.out.below B4.out
          have T94 := T9.out.below k4
          clear k4
          have q0 := T4.c0
          have q1 := T4.c1
          have q2 := T4.c2
          have q3 := T4.c3
          have qf := T4.free
          have T5 := Lib.hid T4
          clear T4
          have g0 := T94.c0
          have g1 := T94.c1
          have g2 := T94.c2
          have g3 := T94.c3
          clear T94
          go_wp2_with fail
          refine bodyPost_ret (results_told rfl _ _ w.heap.size ⟨k, rest, [], false⟩ _ rfl rfl (T5.out.put ⟨k, rest, [], false⟩)) rfl ?_
          exact key_yes hk.out H4.out K4.out rfl HL.out (hfin.out _ _ rfl rfl)
end Go.Proofs.YteejldddgogbkaaGreatDoor
/- A value gone over. -/
set_option linter.unusedVariables false
set_option maxRecDepth 100000
set_option maxRecDepth 100000
namespace Go.Proofs.YteejldddgogbkaaGreatDoor
open Go.RowKit

/-- Why what stands here is no value. -/
def vE (l : List UInt8) : Int := if ce l ≠ 0 then ce l else if 65537 < (cn l).toNat then 6 else if (l.drop (ck l)).length + 1 < (cn l).toNat then 2 else 0
structure ValPost (r : Nat) (l : List UInt8) (w : World) (e : Ending) (w' : World) : Prop where
  out : ∃ (val : List UInt8) (g : Bool) (s : List UInt8), e = .returned (.tuple #[.string (bs val), .bool g, .int .i64 (vE l)]) ∧ Rt r (bs s) w' ∧ (vE l = 0 → val = (l.drop (ck l)).take ((cn l).toNat - 1) ∧ g = ((cn l).toNat == 0) ∧ s = (l.drop (ck l)).drop ((cn l).toNat - 1))
  only : Only (fun k => k = r) w w'
theorem val_post {r : Nat} {l : List UInt8} {w w' : World} {val : List UInt8} {g : Bool} {s : List UInt8} {z : Int} (hz : vE l = z) (hr : Rt r (bs s) w') (ho : Only (fun k => k = r) w w') (hf : z = 0 → val = (l.drop (ck l)).take ((cn l).toNat - 1) ∧ g = ((cn l).toNat == 0) ∧ s = (l.drop (ck l)).drop ((cn l).toNat - 1)) :
    ValPost r l w (.returned (.tuple #[.string (bs val), .bool g, .int .i64 z])) w' := ⟨⟨val, g, s, by rw [hz], hr, fun h => hf (hz.symm.trans h)⟩, ho⟩

set_option maxHeartbeats 2000000 in
theorem take_val (r : Nat) (l : List UInt8) (w : World) (h : Rt r (bs l) w) (hl : l.length ≤ 100000000000) :
    Calls Tryz.prog 115 #[.pointer (some ⟨r, 0, none⟩)] w (ValPost r l w) := by
  have hs : (bs l).size ≤ maxLen := by rw [bs_size]; unfold maxLen; omega
  have hcnt := six_ReadCount r (bs l) w h hs
  rw [bs_list, rest_bs] at hcnt
  clear h
  by_cases h1 : ce l ≠ 0
  · have hk := Lib.hid (show vE l = ce l by unfold vE; rw [if_pos h1])
    have hb : (ce l == 0) = false := beq_eq_false_iff_ne.2 h1
    obtain ⟨z, hz⟩ : ∃ z, z = ce l := ⟨_, rfl⟩
    rw [← hz] at hcnt hb hk
    have HCNT := Lib.hid hcnt
    clear hcnt h1 hz
    go_enter Tryz.func115, Tryz.ntmps115
    go_wp2_with fail
    refine HCNT.out.mono ?_
    rintro e w1 ⟨rfl, h2, k2⟩
    have H2 := Lib.hid h2
    have K2 := Lib.hid k2
    clear h2 k2
    go_wp2_with fail
    refine bodyPost_ret (results_tmp3 rfl _ _ _) rfl ?_
    exact val_post (val := []) hk.out H2.out K2.out (fun h => by simp [h] at hb)
  · have h1' : ce l = 0 := Decidable.of_not_not h1
    obtain ⟨k, hk⟩ : ∃ k, k = (cn l).toNat := ⟨_, rfl⟩
    have hkn : cn l = (k : Int) := by have := cn_of' h1'; omega
    have hk64 : k ≤ 9223372036854775807 := by have := cd_cases l; omega
    obtain ⟨l1, hl1⟩ : ∃ l1, l1 = l.drop (ck l) := ⟨_, rfl⟩
    have hl1l : l1.length ≤ 100000000000 := by rw [hl1, List.length_drop]; omega
    have hvE := Lib.hid (show vE l = if 65537 < k then 6 else if l1.length + 1 < k then 2 else 0 by unfold vE; rw [if_neg h1, ← hl1, ← hk])
    have hfin := Lib.hid (show ∀ (val : List UInt8) (g : Bool) (s : List UInt8), val = l1.take (k - 1) → g = (k == 0) → s = l1.drop (k - 1) → val = (l.drop (ck l)).take ((cn l).toNat - 1) ∧ g = ((cn l).toNat == 0) ∧ s = (l.drop (ck l)).drop ((cn l).toNat - 1) by rw [← hl1, ← hk]; exact fun _ _ _ a b c => ⟨a, b, c⟩)
    rw [← hl1, hkn, h1'] at hcnt
    have HCNT := Lib.hid hcnt
    clear hcnt h1 h1' hk hkn hl1
    by_cases hk0 : k = 0
    · subst hk0
      have hk := Lib.hid (show vE l = 0 by rw [hvE.out, if_neg (by omega), if_neg (by omega)])
      go_enter Tryz.func115, Tryz.ntmps115
      go_wp2_with fail
      refine HCNT.out.mono ?_
      rintro e w1 ⟨rfl, h2, k2⟩
      have H2 := Lib.hid h2
      have K2 := Lib.hid k2
      clear h2 k2
      go_wp2_with fail
      refine bodyPost_ret (results_tmp3 rfl _ _ _) rfl ?_
      exact val_post (val := []) (g := true) hk.out H2.out K2.out (fun h => hfin.out _ _ _ (by simp) rfl rfl)
    · have hm0 : ((k : Int) == 0) = false := beq_eq_false_iff_ne.2 (by omega)
      obtain ⟨m, hm⟩ : ∃ m : Nat, (k : Int) - 1 = (m : Int) := ⟨k - 1, by omega⟩
      have hmk := Lib.hid (show k - 1 = m ∧ (k == 0) = false from ⟨by omega, by simpa using hk0⟩)
      have HK0 := Lib.hid hk0
      clear hk0
      by_cases h6 : 65537 < k
      · have hk := Lib.hid (show vE l = 6 by rw [hvE.out, if_pos h6])
        go_enter Tryz.func115, Tryz.ntmps115
        go_wp2_with fail
        refine HCNT.out.mono ?_
        rintro e w1 ⟨rfl, h2, k2⟩
        have H2 := Lib.hid h2
        have K2 := Lib.hid k2
        clear h2 k2
        go_wp2_with fail
        refine bodyPost_ret (results_tmp3 rfl _ _ _) rfl ?_
        exact val_post (val := []) hk.out H2.out K2.out (fun h => by cases h)
      · have hraw := fun W (hW : Rt r (bs l1) W) => six_ReadRaw r (bs l1) (m : Int) W hW (by rw [bs_size]; unfold maxLen; omega) (by omega) (by omega)
        rw [bs_list, rest_bs] at hraw
        have hres : vE l = we l1 (m : Int) ∧ (we l1 (m : Int) = 0 → ws l1 (m : Int) = l1.take m ∧ wk l1 (m : Int) = m) := by
          have hmk1 := hmk.out.1
          have hk1 := HK0.out
          rw [hvE.out, if_neg h6]
          unfold we ws wk
          by_cases hq : l1.length < m
          · rw [if_pos (by omega), if_neg (by omega), if_pos (by omega)]
            exact ⟨rfl, fun h => by cases h⟩
          · rw [if_neg (by omega), if_neg (by omega), if_neg (by omega), if_neg (by omega), if_neg (by omega)]
            exact ⟨rfl, fun _ => ⟨by simp, by simp⟩⟩
        have HRAW := Lib.hid hraw
        have HRES := Lib.hid hres
        clear hraw hres
        go_enter Tryz.func115, Tryz.ntmps115
        go_wp2_with fail
        refine HCNT.out.mono ?_
        rintro e w1 ⟨rfl, h2, k2⟩
        have H2 := Lib.hid h2
        have K2 := Lib.hid k2
        clear h2 k2
        go_wp2_with fail
        refine (HRAW.out w1 H2.out).mono ?_
        rintro e w2 ⟨rfl, h3, k3⟩
        have H3 := Lib.hid h3
        have K3 := Lib.hid (K2.out.trans k3)
        clear h3 k3
        go_wp2_with fail
        refine bodyPost_ret (results_tmp3 rfl _ _ _) rfl ?_
        exact val_post HRES.out.1 H3.out K3.out (fun h => by
          obtain ⟨a, b⟩ := HRES.out.2 h
          exact hfin.out _ _ _ (by rw [a, hmk.out.1]) hmk.out.2.symm (by rw [b, hmk.out.1]))
end Go.Proofs.YteejldddgogbkaaGreatDoor
/- Rows of bytes of the call's own: cut to their first bytes, a text appended. -/
set_option linter.unusedVariables false
set_option maxRecDepth 100000
set_option maxRecDepth 100000
namespace Go.Proofs.YteejldddgogbkaaGreatDoor
open Go.RowKit

/-- Elements more. -/
theorem run_append_offS {P : Program} {w : World} {B : Nat} (t tx ty e : TypeId) (i : TypeInfo) (z : Value) (size bytes : Nat) (ht : P.underlying t = some (.slice e)) (hi : P.info? e = some i) (hz : i.zero = some z)
    (hsize : i.size = size) (hby : i.bytes = bytes) (hzs : z.cells.size = size)
    {v : Value} {n : Nat} {xs : List Value} (h : OffRow w B e size v n xs) (x : Value) (m : Nat) (news : List Value) (hs : Src P size tx x m news w)
    (h63 : n + m ≤ maxLen) (hbytes : (n + m) * bytes ≤ 140737488355328) (hB : B ≤ w.heap.size) :
    ∃ v' w', (Builtin.append_ #[t, tx] ty #[v, x]).run P w = .ok v' w' ∧ OffRow w' B e size v' (n + m) (xs ++ news) ∧ w.grownBy w' v.ownBlock ∧ (v'.ownBlock = v.ownBlock ∨ v'.ownBlock = some w.heap.size) := by
  subst hsize hby
  have hlen : (xs ++ news).length = (n + m) * i.size := by rw [List.length_append, h.1, hs.newsLen, Nat.add_mul]
  have hsmall : ((n + m : Nat) : Int) ≤ 9223372036854775807 := by unfold maxLen at h63; omega
  have grown : ∀ old, old < n + m → OffRow (w.drew.alloc (.cells ((xs ++ news).toArray ++ Builtin.zeroCells z.cells (grownCap w (n + m) old e - (n + m))) e)) B e i.size (.slice (some ⟨w.heap.size, 0, none⟩) (n + m) (grownCap w (n + m) old e)) (n + m) (xs ++ news) := by
    intro old ho
    refine ⟨hlen, .inr ⟨w.heap.size, 0, _, _, rfl, hB, heap_new w.drew _, grownCap_ge w (n + m) old e, grownCap_le_maxLen w (n + m) old e h63, ?_, fun j hj => ?_⟩⟩
    · have := grownCap_ge w (n + m) old e
      rw [Array.size_append, size_zeroCells, hzs, List.size_toArray, hlen, ← Nat.add_mul]
      exact Nat.le_of_eq (by rw [Nat.zero_add]; congr 1; omega)
    · rw [Nat.zero_add, Array.getElem?_append_left (by simpa [hlen] using hj)]
      simp
  rcases h.2 with ⟨rfl, rfl⟩ | ⟨g, off, cap, cur, rfl, hBg, hg, h1, h2, h3, h4⟩
  · obtain rfl : xs = [] := List.eq_nil_of_length_eq_zero (by simpa using h.1)
    by_cases hm : m = 0
    · subst hm
      obtain rfl : news = [] := List.eq_nil_of_length_eq_zero (by simpa using hs.newsLen)
      refine ⟨.slice none 0 0, w, ?_, OffRow.nil w B e i.size, ⟨rfl, rfl, rfl, Nat.le_refl _, fun _ _ _ => rfl⟩, .inl rfl⟩
      rcases hs.kind with ⟨e', hk⟩ | hk <;> simp [Builtin.append_, run_underlying ht, run_underlying hk, sizeOf, typeInfo, hi, hs.len, hs.cells]
    · have hold : (Builtin.firstCells i.size 0 (.slice none 0 0)).run P w.drew = .ok (#[] : Array Value) w.drew := rfl
      have hr := run_append_grow_src (P := P) w t tx ty e i z ht hi hz none 0 0 [] (by simpa using hold) x m news hs (by omega) (by simpa using hsmall) (growslice_fits (by omega) (by simpa using hbytes))
      simp only [Nat.zero_add, List.nil_append] at hr
      have hgr := grown 0 (by omega)
      simp only [Nat.zero_add, List.nil_append] at hgr ⊢
      exact ⟨_, _, hr, hgr, ⟨rfl, rfl, rfl, by simp, fun k hk _ => Below.heap_alloc w.drew _ k hk⟩, .inr rfl⟩
  · by_cases hroom : n + m ≤ cap
    · have hbd : ∀ j, j < news.length → off + n * i.size + j < cur.size := by
        intro j hj
        rw [hs.newsLen] at hj
        have : (n + m) * i.size ≤ cap * i.size := Nat.mul_le_mul_right _ hroom
        rw [Nat.add_mul] at this
        omega
      have hr := run_append_room_src (P := P) w t tx ty e i ht hi g off n cap x m news hs hroom (fun j hj => by simp [World.cell?, hg, hbd j hj]) (fun j hj => by simp [World.frozen?, hg])
      obtain ⟨cur', a1, a2, a3, a4⟩ := setCells_heap news g (off + n * i.size) w cur e hg
      obtain ⟨b1, b2, b3, b4⟩ := setCells_meta news g (off + n * i.size) w
      refine ⟨_, _, hr, ⟨hlen, .inr ⟨g, off, cap, cur', rfl, hBg, a1, hroom, h2, by omega, fun j hj => ?_⟩⟩, ⟨b1, b2, b3, by omega, fun k _ hk => setCells_other _ _ _ _ _ (fun e => hk (by simp [Value.ownBlock, e]))⟩, .inl rfl⟩
      by_cases hjo : j < n * i.size
      · rw [a4 _ (.inl (by omega)), h4 j hjo, List.getElem?_append_left (by rw [h.1]; exact hjo)]
      · have hjn : j - n * i.size < news.length := by rw [hs.newsLen]; rw [Nat.add_mul] at hj; omega
        rw [List.getElem?_append_right (by rw [h.1]; omega), h.1, ← a3 (j - n * i.size) hjn (hbd _ hjn)]
        congr 1
        omega
    · have hold : (Builtin.firstCells i.size n (.slice (some ⟨g, off, none⟩) n cap)).run P w.drew = .ok xs.toArray w.drew :=
        run_firstCells_some w.drew i.size n ⟨g, off, none⟩ n cap xs h.1 (fun j u hj => by
          have hjl : j < n * i.size := by rw [← h.1]; exact (List.getElem?_eq_some_iff.1 hj).1
          rw [addr_add]
          show w.cell? _ = _
          rw [← hj, ← h4 j hjl]
          simp [World.cell?, hg])
      have hr := run_append_grow_src (P := P) w t tx ty e i z ht hi hz (some ⟨g, off, none⟩) n cap xs hold x m news hs (by omega) hsmall (growslice_fits (by omega) hbytes)
      exact ⟨_, _, hr, grown cap (by omega), ⟨rfl, rfl, rfl, by simp, fun k hk _ => Below.heap_alloc w.drew _ k hk⟩, .inr rfl⟩
theorem wp_append_offS {P : Program} {w : World} {o : Oper} {a : Act} {K : Act → World → Prop} {Q : Exit → Act → World → Prop} (s x : Operand) (t tx : TypeId)
    (ho : o.op = .call { callee := .builtin .append, args := #[s, x], argTypes := #[t, tx] })
    (B : Nat) (e : TypeId) (i : TypeInfo) (z : Value) (size bytes : Nat) (ht : P.underlying t = some (.slice e)) (hi : P.info? e = some i) (hz : i.zero = some z)
    (hsize : i.size = size) (hby : i.bytes = bytes) (hzs : z.cells.size = size)
    (v : Value) (n : Nat) (xs : List Value) (hs : a.eval s = v) (hown : OffRow w B e size v n xs) (xv : Value) (hx : a.eval x = xv) (m : Nat) (news : List Value) (hsrc : Src P size tx xv m news w)
    (h63 : n + m ≤ maxLen) (hbytes : (n + m) * bytes ≤ 140737488355328) (hB : B ≤ w.heap.size)
    (h : ∀ v' w', OffRow w' B e size v' (n + m) (xs ++ news) → w.grownBy w' v.ownBlock → (v'.ownBlock = v.ownBlock ∨ v'.ownBlock = some w.heap.size) → K (a.put o.dst v') w') : o.wp P a w K Q := by
  obtain ⟨v', w', hr, h2, h3, h4⟩ := run_append_offS (P := P) t tx o.type e i z size bytes ht hi hz hsize hby hzs hown xv m news hsrc h63 hbytes hB
  unfold Oper.wp execOp
  simp only [ho, resolve, invoke, builtin, Sem.run_bind, Sem.run_pure, Result.andThen_ok, List.map_toArray, List.map_cons, List.map_nil, hs, hx, hr]
  exact h v' w' h2 h3 h4
/-- At a plain region's list. -/
theorem wpList_append_offS {P : Program} {w : World} {ops : Array Oper} {rest : List Oper} {o : Oper} {a : Act} {Q : Exit → Act → World → Prop} (hgd : o.guard = none) (s x : Operand) (t tx : TypeId)
    (ho : o.op = .call { callee := .builtin .append, args := #[s, x], argTypes := #[t, tx] })
    (B : Nat) (e : TypeId) (i : TypeInfo) (z : Value) (size bytes : Nat) (ht : P.underlying t = some (.slice e)) (hi : P.info? e = some i) (hz : i.zero = some z)
    (hsize : i.size = size) (hby : i.bytes = bytes) (hzs : z.cells.size = size)
    (v : Value) (n : Nat) (xs : List Value) (hs : a.eval s = v) (hown : OffRow w B e size v n xs) (xv : Value) (hx : a.eval x = xv) (m : Nat) (news : List Value) (hsrc : Src P size tx xv m news w)
    (h63 : n + m ≤ maxLen) (hbytes : (n + m) * bytes ≤ 140737488355328) (hB : B ≤ w.heap.size)
    (h : ∀ v' w', OffRow w' B e size v' (n + m) (xs ++ news) → w.grownBy w' v.ownBlock → (v'.ownBlock = v.ownBlock ∨ v'.ownBlock = some w.heap.size) → wpList P ops Q rest (a.put o.dst v') w') : wpList P ops Q (o :: rest) a w :=
  wpList_plain hgd fun _ hK => wp_append_offS s x t tx ho B e i z size bytes ht hi hz hsize hby hzs v n xs hs hown xv hx m news hsrc h63 hbytes hB fun v' w' h2 h3 h4 => hK _ _ (h v' w' h2 h3 h4)

/-- Its first elements. -/
theorem OffRow.take {w : World} {B : Nat} {e : TypeId} {size : Nat} {a : Option Addr} {n cap : Nat} {xs : List Value} (h : OffRow w B e size (.slice a n cap) n xs) {k : Nat} (hk : k ≤ n) : OffRow w B e size (.slice a k cap) k (xs.take (k * size)) := by
  have hle : k * size ≤ n * size := Nat.mul_le_mul_right _ hk
  refine ⟨by rw [List.length_take, h.1]; omega, ?_⟩
  rcases h.2 with ⟨h0, rfl⟩ | ⟨g, off, cap', cur, h0, hB, hg, h1, h2, h3, h4⟩
  · injection h0 with e1 _ e3
    subst e1 e3
    obtain rfl : k = 0 := by omega
    exact .inl ⟨rfl, rfl⟩
  · injection h0 with e1 _ e3
    subst e1 e3
    exact .inr ⟨g, off, cap, cur, rfl, hB, hg, by omega, h2, h3, fun j hj => by rw [h4 j (by omega), List.getElem?_take, if_pos hj]⟩
theorem OffRow.le {w : World} {B : Nat} {e : TypeId} {size : Nat} {a : Option Addr} {n cap : Nat} {xs : List Value} (h : OffRow w B e size (.slice a n cap) n xs) : n ≤ cap ∧ cap ≤ maxLen ∧ (a = none → cap = 0) ∧ ∀ x, a = some x → x.spot = none := by
  rcases h.2 with ⟨h0, rfl⟩ | ⟨g, off, cap', cur, h0, hB, hg, h1, h2, h3, h4⟩
  · injection h0 with e1 _ e3
    subst e1 e3
    exact ⟨Nat.le_refl _, by unfold maxLen; omega, fun _ => rfl, fun x hx => by cases hx⟩
  · injection h0 with e1 _ e3
    subst e1 e3
    exact ⟨h1, h2, fun hx => (by cases hx), fun x hx => (by injection hx with hx; rw [← hx])⟩
/-- The slice expression 's[:k]'. -/
theorem slice_to {P : Program} {t e : TypeId} {i : TypeInfo} (ht : P.underlying t = some (.slice e)) (hi : P.info? e = some i) {a : Option Addr} {n cap k : Nat} (hk : k ≤ cap) (ha : ∀ x, a = some x → x.spot = none) (hn : a = none → cap = 0) (W : World) :
    (Instr.slice t (.slice a n cap) none (some (.int .i64 (k : Int))) none).run P W = .ok (.slice a k cap) W := by
  have h1 : (k : Int) ≤ (cap : Int) := by omega
  cases a with
  | none =>
    obtain rfl : cap = 0 := hn rfl
    obtain rfl : k = 0 := by omega
    simp [Instr.slice, run_underlying ht, Instr.sliceBounds, run_sliceBound, sizeOf, typeInfo, hi]
  | some x =>
    obtain ⟨b, off, spot⟩ := x
    have := ha _ rfl
    simp only at this
    subst this
    simp [Instr.slice, run_underlying ht, Instr.sliceBounds, run_sliceBound, sizeOf, typeInfo, hi, hk, h1, addr_add]
theorem OffRow.by {w : World} {B : Nat} {v : Value} {last : List UInt8} (h : OffRow w B 5 1 v last.length (last.map fun b => Value.int .u8 b.toNat)) : IsBy w v last := by
  rcases h.2 with ⟨rfl, h0⟩ | ⟨g, off, cap, cur, rfl, hB, hg, h1, h2, h3, h4⟩
  · exact ⟨none, 0, by rw [h0], .inl h0⟩
  · refine ⟨some ⟨g, off, none⟩, cap, rfl, .inr ⟨g, off, rfl, fun i x hx => ⟨heap_lt hg, ?_⟩⟩⟩
    have hi : i < last.length := (List.getElem?_eq_some_iff.1 hx).1
    have h5 := h4 i (by omega)
    rw [List.getElem?_map, hx] at h5
    simp only [World.cell?, hg]
    exact h5
end Go.Proofs.YteejldddgogbkaaGreatDoor
