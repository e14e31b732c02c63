/- What Keeps name; what a file loses. -/
import Derived.Test.YtkelcmncjhnbgaaDiskAdd
import Derived.LoopTactic
set_option linter.unusedVariables false
set_option maxRecDepth 100000
namespace Go.Proofs.Ytkelcmncjhnbgaa
open Go.RowKit Go.Maps

/-- The Keeps that stand in a row. -/
def RowK (b off : Nat) (ks : List (Int × Int)) (w : World) : Prop :=
  ∀ k, k < ks.length → b < w.heap.size ∧ w.cell? ⟨b, off + k * 2, none⟩ = some (.int .i64 (ks.getD k (0, 0)).1) ∧ w.cell? ⟨b, off + k * 2 + 1, none⟩ = some (.int .i64 (ks.getD k (0, 0)).2) ∧ (Lit.int .i64 (ks.getD k (0, 0)).1).wf = true ∧ (Lit.int .i64 (ks.getD k (0, 0)).2).wf = true
def IsKeeps (w : World) (a : Option Addr) (len : Nat) (ks : List (Int × Int)) : Prop := len = ks.length ∧ len ≤ 9223372036854775807 ∧ ∃ b off, (len = 0 ∨ a = some ⟨b, off, none⟩) ∧ RowK b off ks w
theorem IsKeeps.nil (w : World) : IsKeeps w none 0 [] := ⟨rfl, by omega, 0, 0, .inl rfl, fun k hk => absurd hk (by simp)⟩
theorem IsKeeps.below {w w' : World} {a : Option Addr} {len : Nat} {ks : List (Int × Int)} (h : IsKeeps w a len ks) (k : Below w.heap.size w w') : IsKeeps w' a len ks := by
  obtain ⟨h0, h1, b, off, h2, h3⟩ := h
  refine ⟨h0, h1, b, off, h2, fun i hi => ?_⟩
  obtain ⟨a1, a2, a3, a4⟩ := h3 i hi
  exact ⟨Nat.lt_of_lt_of_le a1 k.size, by rw [k.cell a1]; exact a2, by rw [k.cell a1]; exact a3, a4⟩

theorem keepOf_nil (n : Int) : keepOf [] n = none := rfl
theorem keepOf_snoc (l : List (Int × Int)) (x : Int × Int) (n : Int) : keepOf (l ++ [x]) n = match keepOf l n with | some v => some v | none => if x.1 = n then some x.2 else none := by
  unfold keepOf
  rw [List.find?_append]
  cases l.find? fun k => decide (k.1 = n) with
  | some p => rfl
  | none =>
    by_cases h : x.1 = n
    · simp [h]
    · simp [h]
/-- A map that has, for each file that Keeps name, what the first says. -/
def KeptMap (D : DataW Unit) (l : List (Int × Int)) : Prop := ∀ n : Int, Maps.has D (.int .i64 n) = (keepOf l n).isSome ∧ ∀ v, keepOf l n = some v → D.atKey (.int .i64 n) (.lit (.int .i64 0)) = .lit (.int .i64 v)
theorem key_i64 {n : Int} (h : (Lit.int .i64 n).wf = true) : keyOf Try.prog 3 (.int .i64 n) = some (.int .i64 n) := keyOf_int_mk Try.underlying3 h
theorem isKey_i64 (n : Int) : WideAt.IsKeyLit (.int .i64 n) := by simp [WideAt.IsKeyLit]
theorem KeptMap.start : KeptMap (.map []) [] := fun n => ⟨rfl, fun v h => by cases h⟩
theorem KeptMap.put {D : DataW Unit} {l : List (Int × Int)} (h : KeptMap D l) (hD : Maps.IsMap D) (x : Int × Int) (hno : keepOf l x.1 = none) : KeptMap (D.put (.int .i64 x.1) (.lit (.int .i64 x.2))) (l ++ [x]) := by
  intro n
  rw [keepOf_snoc]
  by_cases hn : x.1 = n
  · subst hn
    rw [hno]
    simp only [if_pos]
    refine ⟨by rw [has_put_same hD (isKey_i64 _)]; simp, fun v hv => ?_⟩
    rw [atKey_put_same hD (isKey_i64 _)]
    injection hv with hv
    rw [hv]
  · have hne : (Lit.int .i64 n) ≠ .int .i64 x.1 := fun e => hn (by injection e with _ e; exact e.symm)
    rw [has_put_other hne, (h n).1]
    cases hk : keepOf l n with
    | some v =>
      refine ⟨by simp, fun v' hv => ?_⟩
      rw [atKey_put_other hne]
      exact (h n).2 v' (by rw [hk]; exact hv)
    | none =>
      rw [if_neg hn]
      exact ⟨rfl, fun v hv => by cases hv⟩
theorem KeptMap.skip {D : DataW Unit} {l : List (Int × Int)} (h : KeptMap D l) (x : Int × Int) {v : Int} (hv : keepOf l x.1 = some v) : KeptMap D (l ++ [x]) := by
  intro n
  rw [keepOf_snoc]
  cases hk : keepOf l n with
  | some u =>
    have := h n
    rw [hk] at this
    exact this
  | none =>
    have hn : ¬ x.1 = n := fun e => by rw [e, hk] at hv; cases hv
    have := h n
    rw [hk] at this
    simp only [if_neg hn]
    exact this
theorem take_snoc {α : Type} (l : List α) (d : α) (k : Nat) (h : k < l.length) : l.take (k + 1) = l.take k ++ [l.getD k d] := by
  rw [List.take_succ_eq_append_getElem h]
  simp [List.getD_eq_getElem?_getD, List.getElem?_eq_getElem h]
theorem zero3 (w : World) : (zeroValue 3).run Try.prog w = .ok (.int .i64 0) w := by kernel_rfl

set_option maxHeartbeats 800000 in
set_option maxRecDepth 100000 in
theorem disk_firstKeeps (a : Option Addr) (len cap : Nat) (ks : List (Int × Int)) (w : World) (h : IsKeeps w a len ks) :
    Calls Try.prog 65 #[.slice a len cap] w fun e w' => ∃ b n D, e = .returned (.map (some b)) ∧ w.heap.size ≤ b ∧ w'.ownsMap Try.prog 3 (plainElem Try.prog 3) b n D ∧ KeptMap D ks ∧ Below w.heap.size w w' := by
  obtain ⟨hlen, hmax, b, off, ha, hrow⟩ := h
  have hmm := @run_makeMap Try.prog
  have HL := Lib.hid hlen
  have HA := Lib.hid ha
  have HR := Lib.hid hrow
  clear hlen ha hrow
  go_enter Try.func65, Try.ntmps65
  go_wp2
  go_loopw [11] (fun i wr => ∃ k : Nat, k ≤ len ∧ i = .int .i64 k ∧ ∃ D, wr.ownsMap Try.prog 3 (plainElem Try.prog 3) w.heap.size k D ∧ KeptMap D (ks.take k) ∧ Below w.heap.size w wr) (fun i _ => len - (RowKit.intOf i).toNat)
  case atStart => exact ⟨0, Nat.zero_le _, rfl, .map [], World.ownsMap_made _ _ _ _, KeptMap.start, (Below.refl _ _).alloc (Nat.le_refl _) _⟩
  case round =>
    obtain ⟨k, hk, rfl, D, hown, hkd, hbl⟩ := hrel
    have HKD := Lib.hid hkd
    have HBL := Lib.hid hbl
    clear hkd
    by_cases hlt : k < len
    · obtain ⟨r1, r2, r3, r4, r5⟩ := HR.out k (by rw [← HL.out]; exact hlt)
      obtain rfl : a = some ⟨b, off, none⟩ := by rcases HA.out with x | x; (omega); (exact x)
      have c0 : wr.cell? ⟨b, off + k * 2, none⟩ = some (.int .i64 (ks.getD k (0, 0)).1) := by rw [hbl.cell r1]; exact r2
      have c1 : wr.cell? ⟨b, off + k * 2 + 1, none⟩ = some (.int .i64 (ks.getD k (0, 0)).2) := by rw [hbl.cell r1]; exact r3
      have hlt' : (k : Int) < len := by omega
      obtain ⟨x, hx⟩ : ∃ x, x = ks.getD k (0, 0) := ⟨_, rfl⟩
      rw [← hx] at c0 c1 r4 r5
      have HX := Lib.hid hx
      have hkm : k < maxLen := by unfold maxLen; omega
      have htk : Hid (ks.take (k + 1) = ks.take k ++ [x]) := by rw [HX.out]; exact take_snoc ks (0, 0) k (by rw [← HL.out]; exact hlt)
      clear hx r2 r3 hbl r1
      cases hko : keepOf (ks.take k) x.1 with
      | none =>
        have hh : Maps.has D (.int .i64 x.1) = false := by rw [(HKD.out x.1).1, hko]; rfl
        have HN := Lib.hid hko
        clear hko
        go_wp2_with (first | (at_lookup; refine wpList_lookup_own_ok_int _ rfl _ _ 113 rfl 3 3 .i64 law3 Try.underlying113 Try.underlying3 (zero3 _) _ k D rfl (hown.alloc _) _ _ rfl (key_i64 r4) ?_; intro cc hat hwc) | (at_mapUpdate; refine wpList_mapUpdate_own _ rfl _ _ _ 113 rfl 3 3 law3 Try.underlying113 _ _ k D rfl (hown.alloc _) hkm _ _ _ rfl rfl (key_i64 r4) _ [] (plainElem_int Try.underlying3 r5) ?_; intro w2 hown2 hgrow2))
        go_roundw
        case rel => exact ⟨k + 1, by omega, by go_num, _, hown2, by rw [htk.out]; exact HKD.out.put hown.isMap x HN.out, (HBL.out.alloc HBL.out.size _).grown hgrow2 (Nat.le_trans HBL.out.size (by simp)) fun j hj => by injection hj with hj; omega⟩
        case measure => simp [RowKit.intOf]; omega
      | some v =>
        have hh : Maps.has D (.int .i64 x.1) = true := by rw [(HKD.out x.1).1, hko]; rfl
        have HN := Lib.hid hko
        clear hko
        go_wp2_with (at_lookup; refine wpList_lookup_own_ok_int _ rfl _ _ 113 rfl 3 3 .i64 law3 Try.underlying113 Try.underlying3 (zero3 _) _ k D rfl (hown.alloc _) _ _ rfl (key_i64 r4) ?_; intro cc hat hwc)
        go_roundw
        case rel => exact ⟨k + 1, by omega, by go_num, D, (hown.alloc _).mono (Nat.le_succ _), by rw [htk.out]; exact HKD.out.skip x HN.out, HBL.out.alloc HBL.out.size _⟩
        case measure => simp [RowKit.intOf]; omega
    · go_wp2
      go_ret
      have hfin : ks.take k = ks := List.take_of_length_le (by rw [← HL.out]; omega)
      refine ⟨_, k, D, rfl, Nat.le_refl _, hown, ?_, HBL.out⟩
      have := HKD.out
      rw [hfin] at this
      exact this
end Go.Proofs.Ytkelcmncjhnbgaa
