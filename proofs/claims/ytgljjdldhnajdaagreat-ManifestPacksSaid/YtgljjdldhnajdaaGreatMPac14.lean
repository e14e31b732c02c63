/- Texts put together: ManMeet, ManAddT, Shelf -/
import Derived.Test.YtgljjdldhnajdaaGreatMPac13
import Derived.Test.YtgljjdldhnajdaaGreatMPac12
import Derived.Test.YtgljjdldhnajdaaGreatMPac11
import Derived.Shelf.SlSortCmp.WholeK
import Derived.Shelf.SlSortCmp.NoneTotal
import Derived.Shelf.SortM.Plain
import Derived.Shelf.SortM.SortNone
import Derived.Shelf.SlicesE.Clone
import Derived.Shelf.SlicesE.IndexFunc
import Derived.Shelf.SlicesE.Delete
import Derived.Shelf.SlicesQ.IndexFunc
import Derived.Shelf.SlicesG.Cmp
import Derived.Ground.SlsfProg
import Derived.Ground.SlgmProg
import Derived.Ground.SlgnProg
import Derived.Ground.SlgfProg
import Derived.Ground.SlgcProg
import Derived.Shelf.SlGeneric
import Derived.Test.YtgljjdldhnajdaaGreatProg
/- Whether two tables may have a key in common; whether one beside a place has one with a new table. -/
set_option linter.unusedVariables false
set_option maxRecDepth 100000
namespace Go.Proofs.YtgljjdldhnajdaaGreat
open Go.RowKit

theorem leq_texts (a b : List UInt8) : ∃ p q : Bool, Op.bytesLess (bs a).toList (bs b).toList = p ∧ ((bs a).toList == (bs b).toList) = q ∧ (!ltB b a) = (p || q) := by
  have e : ((bs a).toList == (bs b).toList) = decide (a = b) := by rw [Bool.eq_iff_iff, same_bytes, decide_eq_true_iff]
  refine ⟨_, _, rfl, rfl, ?_⟩
  rw [e, Lib.toList_data, Lib.toList_data, bs_list, bs_list, ltB_less]
  rcases ltB_total a b with h | h | h
  · rw [h, ltB_asymm h]; rfl
  · subst h; rw [ltB_irrefl]; simp
  · rw [h, ltB_asymm h, decide_eq_false (Ne.symm (ltB_ne h))]; rfl
set_option maxHeartbeats 1000000 in
theorem meet_T (t u : Tb) (w : World) : Calls Tryz.prog 156 #[.agg #[.int .i64 t.file, .int .i64 t.lev, .int .i64 t.cnt, .string (bs t.low), .string (bs t.high)], .agg #[.int .i64 u.file, .int .i64 u.lev, .int .i64 u.cnt, .string (bs u.low), .string (bs u.high)]] w fun e w' => e = .returned (.bool (meets t u)) ∧ Below w.heap.size w w' := by
  obtain ⟨p1, q1, h1, h2, h3⟩ := leq_texts t.low u.high
  obtain ⟨p2, q2, h4, h5, h6⟩ := leq_texts u.low t.high
  obtain ⟨z, hz⟩ : ∃ z, z = meets t u := ⟨_, rfl⟩
  rw [← hz]
  have HZ := Lib.hid (show z = (decide (u.lev = t.lev) && (p1 || q1) && (p2 || q2)) by rw [hz]; unfold meets; rw [h3, h6])
  have K0 := Lib.hid (show Below w.heap.size w ((w.alloc (.cells #[.int .i64 t.file, .int .i64 t.lev, .int .i64 t.cnt, .string (bs t.low), .string (bs t.high)] 119)).alloc (.cells #[.int .i64 u.file, .int .i64 u.lev, .int .i64 u.cnt, .string (bs u.low), .string (bs u.high)] 119)) from ((Below.refl _ _).alloc (Nat.le_refl _) _).alloc (by simp) _)
  clear hz h3 h6
  by_cases hl : t.lev = u.lev
  · have hl' : (t.lev == u.lev) = true := by simpa using hl
    have HL := Lib.hid (show z = ((p1 || q1) && (p2 || q2)) by rw [HZ.out, decide_eq_true hl.symm]; simp)
    clear HZ hl
    cases p1 <;> cases q1
    all_goals
      go_enter Tryz.func156, Tryz.ntmps156
      go_wp2
      go_ret
      exact ⟨by rw [HL.out]; rfl, K0.out⟩
  · have hl' : (t.lev == u.lev) = false := by simpa using hl
    have HL := Lib.hid (show z = false by rw [HZ.out, decide_eq_false (fun e => hl e.symm)]; simp)
    clear HZ hl
    go_enter Tryz.func156, Tryz.ntmps156
    go_wp2
    go_ret
    exact ⟨by rw [HL.out]; rfl, K0.out⟩
set_option maxHeartbeats 1000000 in
theorem meets_box (t u : Tb) (xb : Nat) (w : World) (h : w.heap[xb]? = some (.cells #[.int .i64 t.file, .int .i64 t.lev, .int .i64 t.cnt, .string (bs t.low), .string (bs t.high)] 119 (0, 0))) :
    Calls Tryz.prog 155 #[.agg #[.int .i64 u.file, .int .i64 u.lev, .int .i64 u.cnt, .string (bs u.low), .string (bs u.high)], .pointer (some ⟨xb, 0, none⟩)] w fun e w' => e = .returned (.bool (meets t u)) ∧ Below w.heap.size w w' := by
  obtain ⟨w1, hw1⟩ : ∃ w1, w.alloc (.cells #[.int .i64 u.file, .int .i64 u.lev, .int .i64 u.cnt, .string (bs u.low), .string (bs u.high)] 119) = w1 := ⟨_, rfl⟩
  obtain ⟨ub, hub⟩ : ∃ ub, ub = w.heap.size := ⟨_, rfl⟩
  have HUB := Lib.hid hub
  have K1 := Lib.hid (show Below w.heap.size w w1 by rw [← hw1]; exact (Below.refl _ _).alloc (Nat.le_refl _) _)
  have hx1 := (K1.out.block xb (heap_lt h)).trans h
  have hu1 : w1.heap[ub]? = some (.cells #[.int .i64 u.file, .int .i64 u.lev, .int .i64 u.cnt, .string (bs u.low), .string (bs u.high)] 119 (0, 0)) := by rw [← hw1, hub]; exact heap_new w _
  have HW1 := Lib.hid hw1
  have x0 : w1.cell? ⟨xb, 0, none⟩ = some (.int .i64 t.file) := by simp [World.cell?, hx1]
  have x1 : w1.cell? ⟨xb, 1, none⟩ = some (.int .i64 t.lev) := by simp [World.cell?, hx1]
  have x2 : w1.cell? ⟨xb, 2, none⟩ = some (.int .i64 t.cnt) := by simp [World.cell?, hx1]
  have x3 : w1.cell? ⟨xb, 3, none⟩ = some (.string (bs t.low)) := by simp [World.cell?, hx1]
  have x4 : w1.cell? ⟨xb, 4, none⟩ = some (.string (bs t.high)) := by simp [World.cell?, hx1]
  have u0 : w1.cell? ⟨ub, 0, none⟩ = some (.int .i64 u.file) := by simp [World.cell?, hu1]
  have u1 : w1.cell? ⟨ub, 1, none⟩ = some (.int .i64 u.lev) := by simp [World.cell?, hu1]
  have u2 : w1.cell? ⟨ub, 2, none⟩ = some (.int .i64 u.cnt) := by simp [World.cell?, hu1]
  have u3 : w1.cell? ⟨ub, 3, none⟩ = some (.string (bs u.low)) := by simp [World.cell?, hu1]
  have u4 : w1.cell? ⟨ub, 4, none⟩ = some (.string (bs u.high)) := by simp [World.cell?, hu1]
  have HM := Lib.hid (meet_T t u w1)
  obtain ⟨z, hz⟩ : ∃ z, z = meets t u := ⟨_, rfl⟩
  rw [← hz] at HM ⊢
  clear hw1 hub h hx1 hu1 hz
  go_enter Tryz.func155, Tryz.ntmps155
  go_upto_region 1 with (fail)
  rw [HW1.out, ← HUB.out]
  go_wp2_with fail
  refine HM.out.mono ?_
  rintro e w2 ⟨rfl, k2⟩
  have K2 := Lib.hid (K1.out.trans (k2.mono K1.out.size))
  clear k2
  go_wp2
  go_ret
  exact ⟨rfl, K2.out⟩

/-- The place of the first with a property, or nowhere. -/
def SeatP (L : List Tb) (p : Tb → Bool) (e : Ending) : Prop :=
  (∃ (i : Nat) (x : Tb), L[i]? = some x ∧ p x = true ∧ e = .returned (.int .i64 (i : Int))) ∨ ((∀ x ∈ L, p x = false) ∧ e = .returned (.int .i64 (-1)))
set_option maxHeartbeats 2000000 in
theorem index_P {T : Nat → Prop} {a : Option Addr} {n cap xb : Nat} {L : List Tb} {t : Tb} {w : World} (h : Hid (RdL T w (.slice a n cap) n (flat tcell L))) (hL : Hid (n = L.length)) (hn : n ≤ 1000000000)
    (hx : Hid (w.heap[xb]? = some (.cells #[.int .i64 t.file, .int .i64 t.lev, .int .i64 t.cnt, .string (bs t.low), .string (bs t.high)] 119 (0, 0)))) :
    Calls Tryz.prog 186 #[.slice a n cap, .func (.func 155) #[] #[.pointer (some ⟨xb, 0, none⟩)]] w fun e w' => SeatP L (meets t) e ∧ Below w.heap.size w w' := by
  have eg : ∀ args w, (callFunc 155 args).run Tryz.prog w = .ok (.enter 155 args) w := enters_of Tryz.func155 (by kernel_rfl) rfl
  go_enter Tryz.func186, Tryz.ntmps186
  go_wp2_with fail
  go_loopw [8] (fun iv wr => ∃ i : Nat, i ≤ n ∧ iv = .int .i64 i ∧ Hid (∀ j y, j < i → L[j]? = some y → meets t y = false) ∧ Hid (Below w.heap.size w wr)) (fun iv wr => n - (intOf iv).toNat)
  case atStart => exact ⟨0, by omega, rfl, Lib.hid (fun j y hj => by omega), Lib.hid (Below.refl _ _)⟩
  case round =>
    obtain ⟨i, hi, rfl, hno, hB⟩ := hrel
    by_cases hlt : i < n
    · have hlt' : (i : Int) < (n : Int) := by omega
      obtain ⟨y, hy⟩ : ∃ y, L[i]? = some y := ⟨_, List.getElem?_eq_getElem (by have := hL.out; omega)⟩
      obtain ⟨b, off, rfl, ht, hb2, hc⟩ := RdL.atT h.out hy hlt
      have hcr : ∀ i' u, (tcell y)[i']? = some u → wr.cell? ⟨b, off + i * 5 + i', none⟩ = some u := fun i' u hu => by
        rw [← hc i' u hu]
        simp only [World.cell?, hB.out.block b hb2]
      have y0 : wr.cell? ⟨b, off + i * 5, none⟩ = _ := hcr 0 _ rfl
      have y1 := hcr 1 _ rfl
      have y2 := hcr 2 _ rfl
      have y3 := hcr 3 _ rfl
      have y4 := hcr 4 _ rfl
      have HS := Lib.hid (meets_box t y xb wr ((hB.out.block xb (heap_lt hx.out)).trans hx.out))
      have HY := Lib.hid hy
      clear hy hc hcr
      obtain ⟨r, hr⟩ : ∃ r, meets t y = r := ⟨_, rfl⟩
      rw [hr] at HS
      have HR := Lib.hid hr
      clear hr
      cases r with
      | true =>
        go_wp2_with fail
        refine HS.out.mono ?_
        rintro e w2 ⟨rfl, k2⟩
        have K2 := Lib.hid (hB.out.trans (k2.mono hB.out.size))
        clear k2
        go_wp2
        go_ret
        exact ⟨.inl ⟨i, y, HY.out, HR.out, rfl⟩, K2.out⟩
      | false =>
        go_wp2_with fail
        refine HS.out.mono ?_
        rintro e w2 ⟨rfl, k2⟩
        have K2 := Lib.hid (hB.out.trans (k2.mono hB.out.size))
        clear k2
        go_wp2_with fail
        go_roundw
        case rel => exact ⟨i + 1, hlt, by go_num, Lib.hid (fun j z hj hz => by
          rcases Nat.lt_or_ge j i with e | e
          · exact hno.out j z e hz
          · obtain rfl : j = i := by omega
            rw [HY.out] at hz
            injection hz with hz
            subst hz
            exact HR.out), K2⟩
        case measure => simp [intOf]; omega
    · obtain rfl : i = n := by omega
      go_wp2
      go_ret
      refine ⟨.inr ⟨fun x hx => ?_, rfl⟩, hB.out⟩
      obtain ⟨j, hj, e⟩ := List.mem_iff_getElem.1 hx
      exact hno.out j x (by have := hL.out; omega) (by rw [← e]; exact List.getElem?_eq_getElem hj)
set_option maxHeartbeats 1000000 in
theorem contains_P {T : Nat → Prop} {a : Option Addr} {n cap xb : Nat} {L : List Tb} {t : Tb} {w : World} (h : Hid (RdL T w (.slice a n cap) n (flat tcell L))) (hL : Hid (n = L.length)) (hn : n ≤ 1000000000)
    (hx : Hid (w.heap[xb]? = some (.cells #[.int .i64 t.file, .int .i64 t.lev, .int .i64 t.cnt, .string (bs t.low), .string (bs t.high)] 119 (0, 0)))) :
    Calls Tryz.prog 154 #[.slice a n cap, .func (.func 155) #[] #[.pointer (some ⟨xb, 0, none⟩)]] w fun e w' => e = .returned (.bool (L.any (meets t))) ∧ Below w.heap.size w w' := by
  have HI := Lib.hid (index_P h hL hn hx)
  obtain ⟨z, hz⟩ : ∃ z, z = L.any (meets t) := ⟨_, rfl⟩
  rw [← hz]
  have HZ := Lib.hid hz
  clear hz
  go_enter Tryz.func154, Tryz.ntmps154
  go_wp2_with fail
  refine HI.out.mono ?_
  rintro e w1 ⟨hs, k1⟩
  have K1 := Lib.hid k1
  clear k1
  rcases hs with ⟨i, x, hx1, hx2, rfl⟩ | ⟨hno, rfl⟩
  · have HT := Lib.hid (show z = true by rw [HZ.out]; exact List.any_eq_true.2 ⟨x, List.mem_of_getElem? hx1, hx2⟩)
    have hi0 : (0 : Int) ≤ (i : Int) := by omega
    clear HZ hx1 hx2
    go_wp2
    go_ret
    exact ⟨by rw [HT.out]; rfl, K1.out⟩
  · have HT := Lib.hid (show z = false by rw [HZ.out]; exact List.any_eq_false.2 fun x hx => by rw [hno x hx]; simp)
    clear HZ hno
    go_wp2
    go_ret
    exact ⟨by rw [HT.out]; rfl, K1.out⟩

/-- The middle of a row's slice. -/
theorem slice_mid {w : World} {B : Nat} {t e : TypeId} {i : TypeInfo} (ht : Tryz.prog.underlying t = some (.slice e)) (hi : Tryz.prog.info? e = some i) {size : Nat} (hs : i.size = size) {n cap lo hi' : Nat} {a : Option Addr} {xs : List Value} (h : OffRow w B e size (.slice a n cap) n xs) (h1 : lo ≤ hi') (h2 : hi' ≤ n) :
    ∃ a', (∀ W, (Instr.slice t (.slice a n cap) (some (.int .i64 (lo : Int))) (some (.int .i64 (hi' : Int))) none).run Tryz.prog W = .ok (.slice a' (hi' - lo) (cap - lo)) W) ∧ OffRow w B e size (.slice a' (hi' - lo) (cap - lo)) (hi' - lo) ((xs.take (hi' * size)).drop (lo * size)) := by
  have hcn := OffRow.cap_ge h
  have hl : ((xs.take (hi' * size)).drop (lo * size)).length = (hi' - lo) * size := by
    have : hi' * size ≤ n * size := Nat.mul_le_mul_right _ h2
    rw [List.length_drop, List.length_take, h.1, Nat.min_eq_left this, Nat.sub_mul]
  have b1 : (lo : Int) ≤ (hi' : Int) := by omega
  have b2 : (hi' : Int) ≤ (cap : Int) := by omega
  subst hs
  rcases h.2 with ⟨e0, h0⟩ | ⟨g, off, c, cur, e0, hB, hg, r1, r2, r3, r4⟩
  · injection e0 with e1 e2 e3
    subst e1 e2 e3
    obtain rfl : hi' = 0 := by omega
    obtain rfl : lo = 0 := by omega
    refine ⟨none, fun W => ?_, hl, .inl ⟨rfl, rfl⟩⟩
    simp [Instr.slice, run_underlying ht, Instr.sliceBounds, run_sliceBound, sizeOf, typeInfo, hi]
  · injection e0 with e1 e2 e3
    subst e1 e3
    rcases Nat.lt_or_ge lo cap with hlc | hlc
    · have hne : ¬ cap = lo := by omega
      refine ⟨some ⟨g, off + lo * i.size, none⟩, fun W => ?_, hl, .inr ⟨g, off + lo * i.size, cap - lo, cur, rfl, hB, hg, by omega, by omega, ?_, fun j hj => ?_⟩⟩
      · simp [Instr.slice, run_underlying ht, Instr.sliceBounds, run_sliceBound, sizeOf, typeInfo, hi, h1, b1, b2, hne, addr_add]
      · have : lo * i.size + (cap - lo) * i.size = cap * i.size := by rw [← Nat.add_mul]; congr 1; omega
        omega
      · rw [Nat.sub_mul] at hj
        have hle : hi' * i.size ≤ n * i.size := Nat.mul_le_mul_right _ h2
        rw [List.getElem?_drop, List.getElem?_take, if_pos (by omega), Nat.add_assoc]
        exact r4 _ (by omega)
    · obtain rfl : lo = cap := by omega
      obtain rfl : hi' = lo := by omega
      refine ⟨some ⟨g, off, none⟩, fun W => ?_, hl, .inr ⟨g, off, hi' - hi', cur, rfl, hB, hg, by omega, by omega, by rw [Nat.sub_self, Nat.zero_mul]; omega, fun j hj => ?_⟩⟩
      · simp [Instr.slice, run_underlying ht, Instr.sliceBounds, run_sliceBound, sizeOf, typeInfo, hi]
      · rw [Nat.sub_self, Nat.zero_mul] at hj; omega
end Go.Proofs.YtgljjdldhnajdaaGreat
/- A table more. -/
set_option linter.unusedVariables false
set_option maxRecDepth 100000
namespace Go.Proofs.YtgljjdldhnajdaaGreat
open Go.RowKit Go.Maps Go.WideShapes Go.ChangeMaps
variable {B db mb : Nat} {w : World} {s : St} {tv sv lv : Value}

def tabBad (x : Tb) : Prop := x.lev < 0 ∨ 5 < x.lev ∨ x.cnt < 1 ∨ ltB x.high x.low = true
instance (x : Tb) : Decidable (tabBad x) := by unfold tabBad; infer_instance
def tabE (s : St) (x : Tb) : Int :=
  if tabBad x then 1 else if mayE s x.file = 0 then (if 0 < x.lev ∧ s.tabs.any (meets x) = true then 11 else 0) else mayE s x.file
def tcells (x : Tb) : Array Value := #[.int .i64 x.file, .int .i64 x.lev, .int .i64 x.cnt, .string (bs x.low), .string (bs x.high)]
theorem may_zero {s : St} {f : Int} (h : mayE s f = 0) : 1 ≤ f ∧ ¬ f ∈ s.files := by
  unfold mayE at h
  split at h
  · cases h
  · split at h
    · cases h
    · rename_i a b; exact ⟨by omega, b⟩
set_option maxHeartbeats 1000000 in
theorem add_table_bad (h : Hid (Dr B w db s tv sv lv mb)) (x : Tb) (hb : tabBad x) :
    Calls Tryz.prog 119 #[.pointer (some ⟨db, 0, none⟩), .agg #[.int .i64 x.file, .int .i64 x.lev, .int .i64 x.cnt, .string (bs x.low), .string (bs x.high)]] w fun e w' => e = .returned (.int .i64 1) ∧ Below w.heap.size w w' := by
  have K1 := Lib.hid (show Below w.heap.size w (w.alloc (.cells #[.int .i64 x.file, .int .i64 x.lev, .int .i64 x.cnt, .string (bs x.low), .string (bs x.high)] 119)) from (Below.refl _ _).alloc (Nat.le_refl _) _)
  obtain ⟨p, q, h1, h2, h3⟩ := leq_texts x.low x.high
  by_cases b1 : x.lev < 0
  · clear hb h3
    go_enter Tryz.func119, Tryz.ntmps119
    go_wp2
    go_ret
    exact ⟨rfl, K1.out⟩
  by_cases b2 : 5 < x.lev
  · have b2' : (6 : Int) ≤ x.lev := by omega
    clear hb h3
    go_enter Tryz.func119, Tryz.ntmps119
    go_wp2
    go_ret
    exact ⟨rfl, K1.out⟩
  have b2' : ¬ (6 : Int) ≤ x.lev := by omega
  by_cases b3 : x.cnt < 1
  · clear hb h3
    go_enter Tryz.func119, Tryz.ntmps119
    go_wp2
    go_ret
    exact ⟨rfl, K1.out⟩
  have b4 : ltB x.high x.low = true := by
    rcases hb with a | a | a | a
    · exact absurd a b1
    · exact absurd a b2
    · exact absurd a b3
    · exact a
  rw [b4] at h3
  have hp : p = false := by cases p <;> simp at h3 ⊢
  have hq : q = false := by cases q <;> simp at h3 ⊢
  subst hp hq
  clear hb h3 b4
  go_enter Tryz.func119, Tryz.ntmps119
  go_wp2
  go_ret
  exact ⟨rfl, K1.out⟩
set_option maxHeartbeats 4000000 in
theorem add_table_ok (h : Hid (Dr B w db s tv sv lv mb)) (hok : Hid s.Ok) (x : Tb) (hb : Hid (¬ tabBad x)) (hf : x.file ≤ 9223372036854775807) (hn : Hid (s.tabs.length ≤ 1000000000 ∧ s.files.length ≤ 1000000000)) :
    Calls Tryz.prog 119 #[.pointer (some ⟨db, 0, none⟩), .agg #[.int .i64 x.file, .int .i64 x.lev, .int .i64 x.cnt, .string (bs x.low), .string (bs x.high)]] w (DoPost B db w (tabE s x) { s with tabs := insT x s.tabs }) := by
  obtain ⟨z, hz⟩ : ∃ z, z = tabE s x := ⟨_, rfl⟩
  rw [← hz]
  have HZ := Lib.hid (show z = if mayE s x.file = 0 then (if 0 < x.lev ∧ s.tabs.any (meets x) = true then 11 else 0) else mayE s x.file by rw [hz]; unfold tabE; rw [if_neg hb.out])
  clear hz
  have HB := Lib.hid (show B ≤ w.heap.size by have := h.out.lo; have := h.out.lt; omega)
  obtain ⟨w1, hw1⟩ : ∃ w1, w.alloc (.cells #[.int .i64 x.file, .int .i64 x.lev, .int .i64 x.cnt, .string (bs x.low), .string (bs x.high)] 119) = w1 := ⟨_, rfl⟩
  obtain ⟨xb, hxb⟩ : ∃ xb, xb = w.heap.size := ⟨_, rfl⟩
  have HXB := Lib.hid hxb
  have K1 := Lib.hid (show Below w.heap.size w w1 by rw [← hw1]; exact (Below.refl _ _).alloc (Nat.le_refl _) _)
  have D1 := Lib.hid (h.out.below K1.out)
  have X1 := Lib.hid (show w1.heap[xb]? = some (.cells #[.int .i64 x.file, .int .i64 x.lev, .int .i64 x.cnt, .string (bs x.low), .string (bs x.high)] 119 (0, 0)) by rw [← hw1, hxb]; exact heap_new w _)
  have HW1 := Lib.hid hw1
  have x0 : w1.cell? ⟨xb, 0, none⟩ = some (.int .i64 x.file) := by simp [World.cell?, X1.out]
  have x1 : w1.cell? ⟨xb, 1, none⟩ = some (.int .i64 x.lev) := by simp [World.cell?, X1.out]
  have x2 : w1.cell? ⟨xb, 2, none⟩ = some (.int .i64 x.cnt) := by simp [World.cell?, X1.out]
  have x3 : w1.cell? ⟨xb, 3, none⟩ = some (.string (bs x.low)) := by simp [World.cell?, X1.out]
  have x4 : w1.cell? ⟨xb, 4, none⟩ = some (.string (bs x.high)) := by simp [World.cell?, X1.out]
  have HM := Lib.hid (may_add D1 x.file hf)
  have HXD := Lib.hid (show xb ≠ db by have := h.out.lt; omega)
  obtain ⟨p, q, h1, h2, h3⟩ := leq_texts x.low x.high
  have n1 : ¬ x.lev < 0 := fun e => hb.out (.inl e)
  have n2 : ¬ (6 : Int) ≤ x.lev := fun e => hb.out (.inr (.inl (by omega)))
  have n3 : ¬ x.cnt < 1 := fun e => hb.out (.inr (.inr (.inl e)))
  have hhl : ltB x.high x.low = false := by
    cases e : ltB x.high x.low with
    | false => rfl
    | true => exact absurd (.inr (.inr (.inr e))) hb.out
  rw [hhl] at h3
  have hpq : (!p && !q) = false := by cases p <;> cases q <;> simp at h3 ⊢
  have hpq' : ¬ (p = false ∧ q = false) := by cases p <;> cases q <;> simp at h3 ⊢
  have HHL := Lib.hid hhl
  clear hw1 hxb h3 hhl
  obtain ⟨z2, hz2⟩ : ∃ z2, z2 = mayE s x.file := ⟨_, rfl⟩
  rw [← hz2] at HM HZ
  have HZ3 := Lib.hid hz2
  clear hz2
  by_cases hz0 : z2 = 0
  · subst hz0
    obtain ⟨hf1, hno⟩ := may_zero HZ3.out.symm
    have HNO := Lib.hid hno
    have HZ4 := Lib.hid (show z = if 0 < x.lev ∧ s.tabs.any (meets x) = true then 11 else 0 by rw [HZ.out]; simp)
    have hw : (Lit.int .i64 x.file).wf = true := wf_i64 (by omega) hf
    have HK := Lib.hid (show keyOf Tryz.prog 3 (.int .i64 x.file) = some (.int .i64 x.file) from keyOf_int_mk Tryz.underlying3 hw)
    obtain ⟨k, hk⟩ : ∃ k, k = lbT x s.tabs := ⟨_, rfl⟩
    have hkl : k ≤ s.tabs.length := by rw [hk]; exact lbT_le _ _
    have HA := Lib.hid (show ∀ i u, i < k → s.tabs[i]? = some u → cfT u x < 0 from fun i u hi hu => by
      have h4 := (lb_at x hok.out.rise hu).1 (hk ▸ hi)
      have h5 := cfT_neg u x
      rw [h4] at h5
      simpa using h5)
    have HBb := Lib.hid (show ∀ i u, k ≤ i → s.tabs[i]? = some u → 0 ≤ cfT u x from fun i u hi hu => by
      have h4 : tlt u x = false := by
        have := mt (lb_at x hok.out.rise hu).2 (by omega)
        simpa using this
      have h5 := cfT_neg u x
      rw [h4] at h5
      simpa using h5)
    have HKK := Lib.hid hk
    clear hno hw hk HZ3 HZ
    obtain ⟨sa, sc, hsv⟩ := OffRow.slice D1.out.tabs
    obtain ⟨n, hnl⟩ : ∃ n, n = s.tabs.length := ⟨_, rfl⟩
    rw [← hnl] at hsv hkl
    subst hsv
    have HN := Lib.hid hnl
    have hn9 : n ≤ 1000000000 := by have := hn.out.1; omega
    clear hnl
    go_enter Tryz.func119, Tryz.ntmps119
    go_upto_region 1 with (fail)
    rw [HW1.out, ← HXB.out]
    go_wp2_with fail
    refine HM.out.mono ?_
    rintro e w2 ⟨rfl, k2⟩
    have D2 := Lib.hid (D1.out.below k2)
    have K2 := Lib.hid ((K1.out.mono HB.out).trans (k2.mono (Nat.le_trans HB.out K1.out.size)))
    have X2 := Lib.hid ((k2.block xb (heap_lt X1.out)).trans X1.out)
    clear k2 h1 h2 hpq hpq' n1 n2 n3 x0 x1 x2 x3 x4
    have OS2 := Lib.hid (show OffRow w2 B 119 5 (.slice sa n sc) n (flat tcell s.tabs) by have := D2.out.tabs; unfold OwnTb at this; rw [← HN.out] at this; exact this)
    have q1 : w2.cell? ⟨db, 0, none⟩ = some (.slice sa n sc) := D2.out.cell 0
    have x0 : w2.cell? ⟨xb, 0, none⟩ = some (.int .i64 x.file) := by simp [World.cell?, X2.out]
    have x1 : w2.cell? ⟨xb, 1, none⟩ = some (.int .i64 x.lev) := by simp [World.cell?, X2.out]
    have x2 : w2.cell? ⟨xb, 2, none⟩ = some (.int .i64 x.cnt) := by simp [World.cell?, X2.out]
    have x3 : w2.cell? ⟨xb, 3, none⟩ = some (.string (bs x.low)) := by simp [World.cell?, X2.out]
    have x4 : w2.cell? ⟨xb, 4, none⟩ = some (.string (bs x.high)) := by simp [World.cell?, X2.out]
    have HFI := Lib.hid (find_T (Lib.hid OS2.out.rdL) HN hn9 x k hkl HA HBb)
    go_wp2_with fail
    refine HFI.out.mono ?_
    rintro e w3 ⟨rfl, k3⟩
    have D3 := Lib.hid (D2.out.below k3)
    have K3 := Lib.hid (K2.out.trans (k3.mono (Nat.le_trans HB.out K2.out.size)))
    have X3 := Lib.hid ((k3.block xb (heap_lt X2.out)).trans X2.out)
    have OS3 := Lib.hid (OffRow.kept OS2.out (w' := w3) fun j hj => k3.block j (OffRow.lt OS2.out j hj).2)
    clear k3 q1 x0 x1 x2 x3 x4 HFI HM D2 K2 X2 OS2
    obtain ⟨i0, hi0, hz0, hz1, hz2⟩ := info_parts infoTb
    obtain ⟨hi', hhi⟩ : ∃ hi', hi' = min (k + 1) n := ⟨_, rfl⟩
    obtain ⟨lo, hlo⟩ : ∃ lo, lo = k - 1 := ⟨_, rfl⟩
    obtain ⟨a3, hsl, ho3⟩ := slice_mid Tryz.underlying42 hi0 hz1 OS3.out (lo := lo) (hi' := hi') (by omega) (by omega)
    obtain ⟨m3, hm3⟩ : ∃ m3, m3 = hi' - lo := ⟨_, rfl⟩
    obtain ⟨c3, hc3⟩ : ∃ c3, c3 = sc - lo := ⟨_, rfl⟩
    rw [← hm3, ← hc3] at hsl ho3
    have HBS := Lib.hid (show OffRow w3 B 119 5 (.slice a3 m3 c3) m3 (flat tcell (besides s.tabs k)) ∧ m3 = (besides s.tabs k).length from by
      have e1 : (flat tcell s.tabs).take (hi' * 5) = flat tcell (s.tabs.take hi') := (flat_split tcell_len s.tabs hi' (by have := HN.out; omega)).1
      have e2 : (flat tcell (s.tabs.take hi')).drop (lo * 5) = flat tcell ((s.tabs.take hi').drop lo) := (flat_split tcell_len (s.tabs.take hi') lo (by rw [List.length_take]; have := HN.out; omega)).2
      rw [e1, e2] at ho3
      have e3 : besides s.tabs k = (s.tabs.take hi').drop lo := by unfold besides; rw [hhi, hlo, HN.out]
      rw [e3]
      exact ⟨ho3, by rw [List.length_drop, List.length_take, hm3]; have := HN.out; omega⟩)
    have hmx1 : max ((k : Int) - 1) 0 = (lo : Int) := by omega
    have hmn1 : min ((k : Int) + 1) (n : Int) = (hi' : Int) := by omega
    have HSL := Lib.hid (And.intro hhi (And.intro hlo (And.intro hm3 hc3)))
    have hm9 : m3 ≤ 1000000000 := by omega
    have HCO := Lib.hid (contains_P (t := x) (xb := xb) (Lib.hid HBS.out.1.rdL) (Lib.hid HBS.out.2) hm9 X3)
    have HMB := Lib.hid (show 0 < x.lev → s.tabs.any (meets x) = (besides s.tabs k).any (meets x) from fun hl => by
      rw [HKK.out]
      exact meets_beside hok.out.rise hok.out.apart (fun u hu => (hok.out.tab u hu).2.2.2) HHL.out hl)
    have y0 : w3.cell? ⟨xb, 0, none⟩ = some (.int .i64 x.file) := by simp [World.cell?, X3.out]
    have y1 : w3.cell? ⟨xb, 1, none⟩ = some (.int .i64 x.lev) := by simp [World.cell?, X3.out]
    have y2 : w3.cell? ⟨xb, 2, none⟩ = some (.int .i64 x.cnt) := by simp [World.cell?, X3.out]
    have y3 : w3.cell? ⟨xb, 3, none⟩ = some (.string (bs x.low)) := by simp [World.cell?, X3.out]
    have y4 : w3.cell? ⟨xb, 4, none⟩ = some (.string (bs x.high)) := by simp [World.cell?, X3.out]
    obtain ⟨r, hr⟩ : ∃ r, r = (besides s.tabs k).any (meets x) := ⟨_, rfl⟩
    rw [← hr] at HCO HMB
    clear hhi hlo hm3 hc3 ho3 hi0 hz0 hz1 hz2 hr HBS
    have HC3 : (0 < x.lev ∧ r = true) ∨ (0 < x.lev ∧ r = false) ∨ ¬ 0 < x.lev := by
      by_cases a : 0 < x.lev
      · cases r
        · exact .inr (.inl ⟨a, rfl⟩)
        · exact .inl ⟨a, rfl⟩
      · exact .inr (.inr a)
    rcases HC3 with ⟨hl, rfl⟩ | ⟨hl, rfl⟩ | hl
    · have hz11 := Lib.hid (show z = 11 by rw [HZ4.out, if_pos ⟨hl, HMB.out hl⟩])
      clear HZ4
      go_wp2_with fail
      refine HCO.out.mono ?_
      rintro e w4 ⟨rfl, k4⟩
      have K4 := Lib.hid (K3.out.trans (k4.mono (Nat.le_trans HB.out K3.out.size)))
      clear k4
      go_wp2
      go_ret
      rw [hz11.out]
      exact do_bad K4.out (by omega)
    case' inr.inl =>
      have hz11 := Lib.hid (show z = 0 ∧ ¬ (0 < x.lev ∧ s.tabs.any (meets x) = true) by
        have : ¬ (0 < x.lev ∧ s.tabs.any (meets x) = true) := fun e => by rw [HMB.out hl] at e; cases e.2
        exact ⟨by rw [HZ4.out, if_neg this], this⟩)
      clear HZ4
      go_wp2_with fail
      refine HCO.out.mono ?_
      rintro e w4 ⟨rfl, k4⟩
    case' inr.inr =>
      have hz11 := Lib.hid (show z = 0 ∧ ¬ (0 < x.lev ∧ s.tabs.any (meets x) = true) by
        have : ¬ (0 < x.lev ∧ s.tabs.any (meets x) = true) := fun e => hl e.1
        exact ⟨by rw [HZ4.out, if_neg this], this⟩)
      have hl2 : decide (0 < x.lev) = false := decide_eq_false hl
      clear HZ4
      go_upto_region 11 with (fail)
      obtain ⟨w4, hw4⟩ : ∃ w4, w4 = w3 := ⟨_, rfl⟩
      have k4 : Below w3.heap.size w3 w4 := by rw [hw4]; exact Below.refl _ _
      subst hw4
    all_goals
      have D4 := Lib.hid (D3.out.below k4)
      have K4 := Lib.hid (K3.out.trans (k4.mono (Nat.le_trans HB.out K3.out.size)))
      have X4 := Lib.hid ((k4.block xb (heap_lt X3.out)).trans X3.out)
      have OS4 := Lib.hid (OffRow.kept OS3.out (w' := w4) fun j hj => k4.block j (OffRow.lt OS3.out j hj).2)
      clear k4 HCO HMB hmx1 hmn1 hsl HSL hm9 D3 K3 X3 OS3 y0 y1 y2 y3 y4
      obtain ⟨w5, hw5⟩ : ∃ w5, w5 = w4.alloc (.cells #[.int .i64 x.file, .int .i64 x.lev, .int .i64 x.cnt, .string (bs x.low), .string (bs x.high)] 119) := ⟨_, rfl⟩
      have A4 := Lib.hid (show Below w4.heap.size w4 w5 by rw [hw5]; exact (Below.refl _ _).alloc (Nat.le_refl _) _)
      have V5 := Lib.hid (show w5.heap[w4.heap.size]? = some (.cells (tcell x).toArray 119 (0, 0)) by rw [hw5]; exact heap_new w4 _)
      have D5 := Lib.hid (D4.out.below A4.out)
      have HI := Lib.hid (insert_T (vb := w4.heap.size) (x := x) (i := k) (Lib.hid (OffRow.kept OS4.out (w' := w5) fun j hj => A4.out.block j (OffRow.lt OS4.out j hj).2)) HN hn9 hkl V5 (Lib.hid fun g hg e => by have := (OffRow.lt OS4.out g hg).2; omega) (Nat.le_trans HB.out (Nat.le_trans K4.out.size A4.out.size)))
      have z0 : w4.cell? ⟨xb, 0, none⟩ = some (.int .i64 x.file) := by simp [World.cell?, X4.out]
      have z1 : w4.cell? ⟨xb, 1, none⟩ = some (.int .i64 x.lev) := by simp [World.cell?, X4.out]
      have z2 : w4.cell? ⟨xb, 2, none⟩ = some (.int .i64 x.cnt) := by simp [World.cell?, X4.out]
      have z3 : w4.cell? ⟨xb, 3, none⟩ = some (.string (bs x.low)) := by simp [World.cell?, X4.out]
      have z4 : w4.cell? ⟨xb, 4, none⟩ = some (.string (bs x.high)) := by simp [World.cell?, X4.out]
      rw [hw5] at HI
      have HW5 := Lib.hid hw5
      clear hw5
      go_wp2_with fail
      refine HI.out.mono ?_
      rintro e w7 ⟨v7, rfl, hr7, hg7, hv7⟩
      rw [← HW5.out] at hg7 hv7
      obtain ⟨a7, c7, rfl⟩ := OffRow.slice hr7
      have k5 : ∀ j, j < w5.heap.size → (Value.slice sa n sc).ownBlock ≠ some j → w7.heap[j]? = w5.heap[j]? := fun j hj hne => hg7.block j hj (fun e => hne e.symm)
      have hnd : ∀ g, (Value.slice a7 (n + 1) c7).ownBlock = some g → g ≠ db := fun g hg2 => by
        rcases hv7 with e | e
        · exact (D5.out.nt (e ▸ hg2)).1
        · rw [e] at hg2
          have := D5.out.lt
          injection hg2 with hg2
          omega
      have e5 : w7.heap[db]? = _ := (k5 db D5.out.lt (fun e => (D5.out.nt e).1 rfl)).trans D5.out.obj
      have P := Lib.hid (D5.out.putT (show OwnTb w7 B (.slice a7 (n + 1) c7) (s.tabs.take k ++ x :: s.tabs.drop k) by
        unfold OwnTb
        rw [show (s.tabs.take k ++ x :: s.tabs.drop k).length = n + 1 by rw [List.length_append, List.length_take, List.length_cons, List.length_drop]; have := HN.out; omega]
        exact hr7) k5 hnd)
      have hins : insT x s.tabs = s.tabs.take k ++ x :: s.tabs.drop k := by
        rw [HKK.out]
        exact insT_lb x s.tabs (no_tie (x := ⟨1, x.file, x.lev, x.cnt, x.low, x.high⟩) HHL.out HNO.out hz11.out.2 (by have := hb.out; unfold tabBad at this; show 0 ≤ x.lev; omega) (fun t ht => (hok.out.tab t ht).2.2.2))
      have D7 := Lib.hid (show Dr0 B (w7.setCell ⟨db, 0, none⟩ (.slice a7 (n + 1) c7)) db { s with tabs := insT x s.tabs } s.files (.slice a7 (n + 1) c7) sv lv mb from ⟨P.out.1, D5.out.lo, by rw [hins]; exact P.out.2.1, P.out.2.2.1, P.out.2.2.2.1, P.out.2.2.2.2, D5.out.mlo⟩)
      have d7 : w7.cell? ⟨db, 0, none⟩ = some (.slice sa n sc) := by simp [World.cell?, e5]
      have f7 : w7.frozen? ⟨db, 0, none⟩ = false := by simp [World.frozen?, e5]
      have K7 := Lib.hid ((K4.out.trans (A4.out.mono (Nat.le_trans HB.out K4.out.size))).grown hg7 (Nat.le_trans HB.out (Nat.le_trans K4.out.size A4.out.size)) (fun j hj => (OffRow.lt OS4.out j hj).1))
      have K8 := Lib.hid (K7.out.setCell (p := ⟨db, 0, none⟩) D5.out.lo (.slice a7 (n + 1) c7))
      have X7 : w7.heap[xb]? = some (.cells #[.int .i64 x.file, .int .i64 x.lev, .int .i64 x.cnt, .string (bs x.low), .string (bs x.high)] 119 (0, 0)) := (k5 xb (Nat.lt_of_lt_of_le (heap_lt X4.out) A4.out.size) (fun e => by
        have := (OffRow.lt h.out.tabs xb (by exact e)).2
        have := HXB.out
        omega)).trans ((A4.out.block xb (heap_lt X4.out)).trans X4.out)
      obtain ⟨w8, hw8⟩ : ∃ w8, w8 = w7.setCell ⟨db, 0, none⟩ (.slice a7 (n + 1) c7) := ⟨_, rfl⟩
      have X8 : w8.heap[xb]? = some (.cells #[.int .i64 x.file, .int .i64 x.lev, .int .i64 x.cnt, .string (bs x.low), .string (bs x.high)] 119 (0, 0)) := by rw [hw8, heap_set_other HXD.out]; exact X7
      rw [← hw8] at D7 K8
      obtain ⟨l, hl9, hp9⟩ := D7.out.set
      have HL := Lib.hid (And.intro hl9 hp9)
      have u4 : ∀ q : Seen w8, q.val.cell? ⟨db, 4, none⟩ = some (.map (some mb)) := fun q => by rw [q.below.cell (p := ⟨db, 4, none⟩) (heap_lt D7.out.obj)]; simp [World.cell?, D7.out.obj]
      have u0 : ∀ q : Seen w8, q.val.cell? ⟨xb, 0, none⟩ = some (.int .i64 x.file) := fun q => by rw [q.below.cell (p := ⟨xb, 0, none⟩) (heap_lt X8)]; simp [World.cell?, X8]
      have hmx : s.files.length < maxLen := by have := hn.out.2; unfold maxLen; omega
      have HW8 := Lib.hid hw8
      clear hr7 hg7 hv7 k5 hnd e5 hins hl9 hp9 X7 X8 z0 z1 z2 z3 z4 V5 A4 HI P hw8
      go_wp2_with fail
      rw [← HW8.out]
      refine wp_region_seen_tail 7 (by kernel_rfl) (by kernel_rfl) ?_
      simp only [List.take_succ_cons, List.take_zero, List.drop_succ_cons, List.drop_zero]
      repeat go_big_quiet_step (fail)
      refine wpQuiet_nil ?_
      rintro _ ⟨m9, rfl⟩
      have HOW := Lib.hid (show m9.val.ownsMap Tryz.prog 3 (unitElem (H := Unit)) mb s.files.length (.map l) by
        obtain ⟨x', c, hb, r⟩ := HL.out.1
        exact ⟨x', c, (m9.below.block mb (heap_lt hb)).trans hb, r⟩)
      have D9 := Lib.hid (D7.out.turn (D7.out.set.kept (m9.below.block mb (by obtain ⟨x', c, e⟩ := D7.out.set.obj; exact heap_lt e))) fun j hj _ => m9.below.block j hj)
      have K9 := Lib.hid (K8.out.trans (m9.below.mono (Nat.le_trans HB.out K8.out.size)))
      clear u4 u0
      go_wp2_with (at_mapUpdate; refine wpList_mapUpdate_own _ rfl _ _ _ 103 rfl 3 159 keyedI Tryz.underlying103 _ mb _ _ rfl HOW.out hmx _ _ _ rfl rfl HK.out _ [] unitElem_mk ?_)
      intro w10 hown hgrow
      have S10 := Lib.hid (set_put HL.out.2 HNO.out hown)
      have G10 := Lib.hid hgrow
      clear hown hgrow
      go_wp2
      go_ret
      refine ⟨by rw [hz11.out.1]; rfl, K9.out.grown G10.out (Nat.le_trans HB.out K9.out.size) (fun j hj => by injection hj with hj; rw [← hj]; exact D9.out.mlo), fun _ => ?_⟩
      have d10 := D9.out.turn S10.out fun j hj hne => G10.out.block j hj (fun e => hne (by injection e))
      exact ⟨_, _, _, mb, Dr.of0 d10 (files_insT s x).symm⟩
  · have HZ5 := Lib.hid (show z = z2 by rw [HZ.out, if_neg hz0])
    clear HZ3 HZ
    go_enter Tryz.func119, Tryz.ntmps119
    go_upto_region 1 with (fail)
    rw [HW1.out, ← HXB.out]
    go_wp2_with fail
    refine HM.out.mono ?_
    rintro e w2 ⟨rfl, k2⟩
    have K2 := Lib.hid ((K1.out.mono HB.out).trans (k2.mono (Nat.le_trans HB.out K1.out.size)))
    clear k2
    go_wp2
    go_ret
    rw [HZ5.out]
    exact do_bad K2.out hz0
/-- A table more. -/
theorem add_table (h : Hid (Dr B w db s tv sv lv mb)) (hok : Hid s.Ok) (x : Tb) (hf : x.file ≤ 9223372036854775807) (hn : Hid (s.tabs.length ≤ 1000000000 ∧ s.files.length ≤ 1000000000)) :
    Calls Tryz.prog 119 #[.pointer (some ⟨db, 0, none⟩), .agg #[.int .i64 x.file, .int .i64 x.lev, .int .i64 x.cnt, .string (bs x.low), .string (bs x.high)]] w (DoPost B db w (tabE s x) { s with tabs := insT x s.tabs }) := by
  by_cases hb : tabBad x
  · refine (add_table_bad h x hb).mono ?_
    rintro e w' ⟨rfl, k⟩
    rw [show tabE s x = 1 by unfold tabE; rw [if_pos hb]]
    exact do_bad (k.mono (by have := h.out.lo; have := h.out.lt; omega)) (by omega)
  · exact add_table_ok h hok x (Lib.hid hb) hf hn
end Go.Proofs.YtgljjdldhnajdaaGreat
/-
  DERIVED: THE SHELF's CONTRACTS AT THIS DUMP, IN PLAIN WORDS (tools/lay-plain.mjs out of 'YtgljjdldhnajdaaGreatShelfTry.lean', which tools/lay-shelf.mjs wrote): THE SAME DECLARATIONS UNDER THE SAME NAMES: 'import', 'namespace', 'open', 'def', 'theorem' AND NOTHING ELSE: no command of the shelf's: FOR A HAND-IN. Each laying: the table of numbers ('.._ren') and one theorem, a field a fact of the dump's own or the kernel's comparison; each contract: ONE APPLICATION.
-/
namespace Go.Proofs
open Go.Shelf
def Tryz.sortT_ren : Go.Shelf.Ren := ⟨fun | 6 => 88 | 15 => 115 | 14 => 114 | 28 => 140 | 29 => 141 | 20 => 132 | 21 => 133 | 22 => 134 | 23 => 135 | 24 => 136 | 25 => 137 | 26 => 138 | 27 => 139 | 46 => 178 | 47 => 179 | 48 => 180 | 49 => 181 | 50 => 182 | 57 => 201 | n => n, fun | 22 => 42 | 24 => 119 | 25 => 161 | 3 => 3 | 39 => 180 | 0 => 0 | 53 => 183 | 55 => 154 | 4 => 4 | 46 => 211 | 45 => 210 | 50 => 175 | 5 => 5 | 9 => 9 | 66 => 243 | 70 => 141 | 76 => 266 | 77 => 267 | n => n, fun | n => n⟩
theorem Tryz.sortT : Go.Proofs.SlLaysF0.n6 Tryz.prog Tryz.sortT_ren := {
  mixed := by kernel_rfl
  f6 := ⟨Tryz.f88.name, by decide, Tryz.func88.trans (congrArg some (by kernel_rfl))⟩
  f14 := ⟨Tryz.f114.name, by decide, Tryz.func114.trans (congrArg some (by kernel_rfl))⟩
  f15 := Tryz.func115.trans (congrArg some (by kernel_rfl))
  f20 := ⟨Tryz.f132.name, by decide, Tryz.func132.trans (congrArg some (by kernel_rfl))⟩
  f21 := ⟨Tryz.f133.name, by decide, Tryz.func133.trans (congrArg some (by kernel_rfl))⟩
  f22 := ⟨Tryz.f134.name, by decide, Tryz.func134.trans (congrArg some (by kernel_rfl))⟩
  f23 := ⟨Tryz.f135.name, by decide, Tryz.func135.trans (congrArg some (by kernel_rfl))⟩
  f24 := ⟨Tryz.f136.name, by decide, Tryz.func136.trans (congrArg some (by kernel_rfl))⟩
  f25 := ⟨Tryz.f137.name, by decide, Tryz.func137.trans (congrArg some (by kernel_rfl))⟩
  f26 := ⟨Tryz.f138.name, by decide, Tryz.func138.trans (congrArg some (by kernel_rfl))⟩
  f27 := ⟨Tryz.f139.name, by decide, Tryz.func139.trans (congrArg some (by kernel_rfl))⟩
  f28 := Tryz.func140.trans (congrArg some (by kernel_rfl))
  f29 := Tryz.func141.trans (congrArg some (by kernel_rfl))
  f46 := ⟨Tryz.f178.name, by decide, Tryz.func178.trans (congrArg some (by kernel_rfl))⟩
  f47 := Tryz.func179.trans (congrArg some (by kernel_rfl))
  f48 := Tryz.func180.trans (congrArg some (by kernel_rfl))
  f49 := ⟨Tryz.f181.name, by decide, Tryz.func181.trans (congrArg some (by kernel_rfl))⟩
  f50 := ⟨Tryz.f182.name, by decide, Tryz.func182.trans (congrArg some (by kernel_rfl))⟩
  f57 := ⟨Tryz.f201.name, by decide, Tryz.func201.trans (congrArg some (by kernel_rfl))⟩
  t0 := Tryz.underlying0
  a0 := Tryz.isAgg0
  z0 := Tryz.sizeOf0
  v0 := Tryz.zeroValue0
  t3 := Tryz.underlying3
  a3 := Tryz.isAgg3
  z3 := Tryz.sizeOf3
  v3 := Tryz.zeroValue3
  t4 := Tryz.underlying4
  a4 := Tryz.isAgg4
  z4 := Tryz.sizeOf4
  v4 := Tryz.zeroValue4
  t5 := Tryz.underlying5
  a5 := Tryz.isAgg5
  z5 := Tryz.sizeOf5
  v5 := Tryz.zeroValue5
  t9 := Tryz.underlying9
  a9 := Tryz.isAgg9
  z9 := Tryz.sizeOf9
  v9 := Tryz.zeroValue9
  t22 := Tryz.underlying42
  a22 := Tryz.isAgg42
  z22 := Tryz.sizeOf42
  v22 := Tryz.zeroValue42
  t25 := Tryz.underlying161
  a25 := Tryz.isAgg161
  z25 := Tryz.sizeOf161
  v25 := Tryz.zeroValue161
  t39 := Tryz.underlying180
  a39 := Tryz.isAgg180
  z39 := Tryz.sizeOf180
  v39 := Tryz.zeroValue180
  t45 := Tryz.underlying210
  a45 := Tryz.isAgg210
  z45 := Tryz.sizeOf210
  v45 := Tryz.zeroValue210
  t46 := Tryz.underlying211
  a46 := Tryz.isAgg211
  z46 := Tryz.sizeOf211
  v46 := Tryz.zeroValue211
  t50 := Tryz.underlying175
  a50 := Tryz.isAgg175
  z50 := Tryz.sizeOf175
  v50 := Tryz.zeroValue175
  t53 := Tryz.underlying183
  a53 := Tryz.isAgg183
  z53 := Tryz.sizeOf183
  v53 := Tryz.zeroValue183
  t55 := Tryz.underlying154
  a55 := Tryz.isAgg154
  z55 := Tryz.sizeOf154
  v55 := Tryz.zeroValue154
  t66 := Tryz.underlying243
  a66 := Tryz.isAgg243
  z66 := Tryz.sizeOf243
  v66 := Tryz.zeroValue243
  t70 := Tryz.underlying141
  a70 := Tryz.isAgg141
  z70 := Tryz.sizeOf141
  v70 := Tryz.zeroValue141
  t76 := Tryz.underlying266
  a76 := Tryz.isAgg266
  z76 := Tryz.sizeOf266
  v76 := Tryz.zeroValue266
  t77 := Tryz.underlying267
  a77 := Tryz.isAgg267
  z77 := Tryz.sizeOf267
  v77 := Tryz.zeroValue267 }
def Tryz.sortS_ren : Go.Shelf.Ren := ⟨fun | 6 => 90 | 15 => 115 | 14 => 118 | 28 => 140 | 29 => 141 | 20 => 144 | 21 => 145 | 22 => 146 | 23 => 147 | 24 => 148 | 25 => 149 | 26 => 150 | 27 => 151 | 46 => 183 | 47 => 179 | 48 => 180 | 49 => 184 | 50 => 185 | 57 => 202 | n => n, fun | 22 => 43 | 24 => 121 | 25 => 163 | 3 => 3 | 39 => 180 | 0 => 0 | 53 => 183 | 55 => 154 | 4 => 4 | 46 => 211 | 45 => 210 | 50 => 175 | 5 => 5 | 9 => 9 | 66 => 243 | 70 => 141 | 76 => 266 | 77 => 267 | n => n, fun | n => n⟩
theorem Tryz.sortS : Go.Proofs.SlLaysF0.n6 Tryz.prog Tryz.sortS_ren := {
  mixed := by kernel_rfl
  f6 := ⟨Tryz.f90.name, by decide, Tryz.func90.trans (congrArg some (by kernel_rfl))⟩
  f14 := ⟨Tryz.f118.name, by decide, Tryz.func118.trans (congrArg some (by kernel_rfl))⟩
  f15 := Tryz.func115.trans (congrArg some (by kernel_rfl))
  f20 := ⟨Tryz.f144.name, by decide, Tryz.func144.trans (congrArg some (by kernel_rfl))⟩
  f21 := ⟨Tryz.f145.name, by decide, Tryz.func145.trans (congrArg some (by kernel_rfl))⟩
  f22 := ⟨Tryz.f146.name, by decide, Tryz.func146.trans (congrArg some (by kernel_rfl))⟩
  f23 := ⟨Tryz.f147.name, by decide, Tryz.func147.trans (congrArg some (by kernel_rfl))⟩
  f24 := ⟨Tryz.f148.name, by decide, Tryz.func148.trans (congrArg some (by kernel_rfl))⟩
  f25 := ⟨Tryz.f149.name, by decide, Tryz.func149.trans (congrArg some (by kernel_rfl))⟩
  f26 := ⟨Tryz.f150.name, by decide, Tryz.func150.trans (congrArg some (by kernel_rfl))⟩
  f27 := ⟨Tryz.f151.name, by decide, Tryz.func151.trans (congrArg some (by kernel_rfl))⟩
  f28 := Tryz.func140.trans (congrArg some (by kernel_rfl))
  f29 := Tryz.func141.trans (congrArg some (by kernel_rfl))
  f46 := ⟨Tryz.f183.name, by decide, Tryz.func183.trans (congrArg some (by kernel_rfl))⟩
  f47 := Tryz.func179.trans (congrArg some (by kernel_rfl))
  f48 := Tryz.func180.trans (congrArg some (by kernel_rfl))
  f49 := ⟨Tryz.f184.name, by decide, Tryz.func184.trans (congrArg some (by kernel_rfl))⟩
  f50 := ⟨Tryz.f185.name, by decide, Tryz.func185.trans (congrArg some (by kernel_rfl))⟩
  f57 := ⟨Tryz.f202.name, by decide, Tryz.func202.trans (congrArg some (by kernel_rfl))⟩
  t0 := Tryz.underlying0
  a0 := Tryz.isAgg0
  z0 := Tryz.sizeOf0
  v0 := Tryz.zeroValue0
  t3 := Tryz.underlying3
  a3 := Tryz.isAgg3
  z3 := Tryz.sizeOf3
  v3 := Tryz.zeroValue3
  t4 := Tryz.underlying4
  a4 := Tryz.isAgg4
  z4 := Tryz.sizeOf4
  v4 := Tryz.zeroValue4
  t5 := Tryz.underlying5
  a5 := Tryz.isAgg5
  z5 := Tryz.sizeOf5
  v5 := Tryz.zeroValue5
  t9 := Tryz.underlying9
  a9 := Tryz.isAgg9
  z9 := Tryz.sizeOf9
  v9 := Tryz.zeroValue9
  t22 := Tryz.underlying43
  a22 := Tryz.isAgg43
  z22 := Tryz.sizeOf43
  v22 := Tryz.zeroValue43
  t25 := Tryz.underlying163
  a25 := Tryz.isAgg163
  z25 := Tryz.sizeOf163
  v25 := Tryz.zeroValue163
  t39 := Tryz.underlying180
  a39 := Tryz.isAgg180
  z39 := Tryz.sizeOf180
  v39 := Tryz.zeroValue180
  t45 := Tryz.underlying210
  a45 := Tryz.isAgg210
  z45 := Tryz.sizeOf210
  v45 := Tryz.zeroValue210
  t46 := Tryz.underlying211
  a46 := Tryz.isAgg211
  z46 := Tryz.sizeOf211
  v46 := Tryz.zeroValue211
  t50 := Tryz.underlying175
  a50 := Tryz.isAgg175
  z50 := Tryz.sizeOf175
  v50 := Tryz.zeroValue175
  t53 := Tryz.underlying183
  a53 := Tryz.isAgg183
  z53 := Tryz.sizeOf183
  v53 := Tryz.zeroValue183
  t55 := Tryz.underlying154
  a55 := Tryz.isAgg154
  z55 := Tryz.sizeOf154
  v55 := Tryz.zeroValue154
  t66 := Tryz.underlying243
  a66 := Tryz.isAgg243
  z66 := Tryz.sizeOf243
  v66 := Tryz.zeroValue243
  t70 := Tryz.underlying141
  a70 := Tryz.isAgg141
  z70 := Tryz.sizeOf141
  v70 := Tryz.zeroValue141
  t76 := Tryz.underlying266
  a76 := Tryz.isAgg266
  z76 := Tryz.sizeOf266
  v76 := Tryz.zeroValue266
  t77 := Tryz.underlying267
  a77 := Tryz.isAgg267
  z77 := Tryz.sizeOf267
  v77 := Tryz.zeroValue267 }
def Tryz.sortI_ren : Go.Shelf.Ren := ⟨fun | 5 => 113 | 8 => 115 | 7 => 131 | 19 => 140 | 20 => 141 | 10 => 169 | 11 => 170 | 12 => 171 | 13 => 172 | 14 => 173 | 15 => 174 | 16 => 175 | 17 => 176 | 18 => 177 | 30 => 198 | 31 => 179 | 32 => 180 | 33 => 199 | 34 => 200 | 35 => 142 | 40 => 206 | n => n, fun | 23 => 44 | 25 => 3 | 3 => 3 | 32 => 180 | 22 => 44 | 0 => 0 | 44 => 183 | 46 => 154 | 4 => 4 | 36 => 211 | 35 => 210 | 41 => 175 | 5 => 5 | 9 => 9 | 53 => 243 | 57 => 141 | 63 => 266 | 64 => 267 | n => n, fun | n => n⟩
theorem Tryz.sortI : Go.Proofs.SlLaysM.n5 Tryz.prog Tryz.sortI_ren := {
  mixed := by kernel_rfl
  f5 := ⟨Tryz.f113.name, by decide, Tryz.func113.trans (congrArg some (by kernel_rfl))⟩
  f7 := ⟨Tryz.f131.name, by decide, Tryz.func131.trans (congrArg some (by kernel_rfl))⟩
  f8 := Tryz.func115.trans (congrArg some (by kernel_rfl))
  f10 := ⟨Tryz.f169.name, by decide, Tryz.func169.trans (congrArg some (by kernel_rfl))⟩
  f11 := ⟨Tryz.f170.name, by decide, Tryz.func170.trans (congrArg some (by kernel_rfl))⟩
  f12 := ⟨Tryz.f171.name, by decide, Tryz.func171.trans (congrArg some (by kernel_rfl))⟩
  f13 := ⟨Tryz.f172.name, by decide, Tryz.func172.trans (congrArg some (by kernel_rfl))⟩
  f14 := ⟨Tryz.f173.name, by decide, Tryz.func173.trans (congrArg some (by kernel_rfl))⟩
  f15 := ⟨Tryz.f174.name, by decide, Tryz.func174.trans (congrArg some (by kernel_rfl))⟩
  f16 := ⟨Tryz.f175.name, by decide, Tryz.func175.trans (congrArg some (by kernel_rfl))⟩
  f17 := ⟨Tryz.f176.name, by decide, Tryz.func176.trans (congrArg some (by kernel_rfl))⟩
  f18 := ⟨Tryz.f177.name, by decide, Tryz.func177.trans (congrArg some (by kernel_rfl))⟩
  f19 := Tryz.func140.trans (congrArg some (by kernel_rfl))
  f20 := Tryz.func141.trans (congrArg some (by kernel_rfl))
  f30 := ⟨Tryz.f198.name, by decide, Tryz.func198.trans (congrArg some (by kernel_rfl))⟩
  f31 := Tryz.func179.trans (congrArg some (by kernel_rfl))
  f32 := Tryz.func180.trans (congrArg some (by kernel_rfl))
  f33 := ⟨Tryz.f199.name, by decide, Tryz.func199.trans (congrArg some (by kernel_rfl))⟩
  f34 := ⟨Tryz.f200.name, by decide, Tryz.func200.trans (congrArg some (by kernel_rfl))⟩
  f35 := ⟨Tryz.f142.name, by decide, Tryz.func142.trans (congrArg some (by kernel_rfl))⟩
  f40 := ⟨Tryz.f206.name, by decide, Tryz.func206.trans (congrArg some (by kernel_rfl))⟩
  t0 := Tryz.underlying0
  a0 := Tryz.isAgg0
  z0 := Tryz.sizeOf0
  v0 := Tryz.zeroValue0
  t3 := Tryz.underlying3
  a3 := Tryz.isAgg3
  z3 := Tryz.sizeOf3
  v3 := Tryz.zeroValue3
  t4 := Tryz.underlying4
  a4 := Tryz.isAgg4
  z4 := Tryz.sizeOf4
  v4 := Tryz.zeroValue4
  t5 := Tryz.underlying5
  a5 := Tryz.isAgg5
  z5 := Tryz.sizeOf5
  v5 := Tryz.zeroValue5
  t9 := Tryz.underlying9
  a9 := Tryz.isAgg9
  z9 := Tryz.sizeOf9
  v9 := Tryz.zeroValue9
  t22 := Tryz.underlying44
  a22 := Tryz.isAgg44
  z22 := Tryz.sizeOf44
  v22 := Tryz.zeroValue44
  t23 := Tryz.underlying44
  a23 := Tryz.isAgg44
  z23 := Tryz.sizeOf44
  v23 := Tryz.zeroValue44
  t25 := Tryz.underlying3
  a25 := Tryz.isAgg3
  z25 := Tryz.sizeOf3
  v25 := Tryz.zeroValue3
  t32 := Tryz.underlying180
  a32 := Tryz.isAgg180
  z32 := Tryz.sizeOf180
  v32 := Tryz.zeroValue180
  t35 := Tryz.underlying210
  a35 := Tryz.isAgg210
  z35 := Tryz.sizeOf210
  v35 := Tryz.zeroValue210
  t36 := Tryz.underlying211
  a36 := Tryz.isAgg211
  z36 := Tryz.sizeOf211
  v36 := Tryz.zeroValue211
  t41 := Tryz.underlying175
  a41 := Tryz.isAgg175
  z41 := Tryz.sizeOf175
  v41 := Tryz.zeroValue175
  t44 := Tryz.underlying183
  a44 := Tryz.isAgg183
  z44 := Tryz.sizeOf183
  v44 := Tryz.zeroValue183
  t46 := Tryz.underlying154
  a46 := Tryz.isAgg154
  z46 := Tryz.sizeOf154
  v46 := Tryz.zeroValue154
  t53 := Tryz.underlying243
  a53 := Tryz.isAgg243
  z53 := Tryz.sizeOf243
  v53 := Tryz.zeroValue243
  t57 := Tryz.underlying141
  a57 := Tryz.isAgg141
  z57 := Tryz.sizeOf141
  v57 := Tryz.zeroValue141
  t63 := Tryz.underlying266
  a63 := Tryz.isAgg266
  z63 := Tryz.sizeOf266
  v63 := Tryz.zeroValue266
  t64 := Tryz.underlying267
  a64 := Tryz.isAgg267
  z64 := Tryz.sizeOf267
  v64 := Tryz.zeroValue267 }
def Tryz.cloneT_ren : Go.Shelf.Ren := ⟨fun | 41 => 110 | n => n, fun | 22 => 42 | 23 => 119 | 4 => 4 | n => n, fun | n => n⟩
theorem Tryz.cloneT : Go.Proofs.SlLaysE0.n41 Tryz.prog Tryz.cloneT_ren := {
  mixed := by kernel_rfl
  f41 := ⟨Tryz.f110.name, by decide, Tryz.func110.trans (congrArg some (by kernel_rfl))⟩
  t4 := Tryz.underlying4
  a4 := Tryz.isAgg4
  z4 := Tryz.sizeOf4
  v4 := Tryz.zeroValue4
  t22 := Tryz.underlying42
  a22 := Tryz.isAgg42
  z22 := Tryz.sizeOf42
  v22 := Tryz.zeroValue42 }
def Tryz.cloneS_ren : Go.Shelf.Ren := ⟨fun | 41 => 111 | n => n, fun | 22 => 43 | 23 => 121 | 4 => 4 | n => n, fun | n => n⟩
theorem Tryz.cloneS : Go.Proofs.SlLaysE0.n41 Tryz.prog Tryz.cloneS_ren := {
  mixed := by kernel_rfl
  f41 := ⟨Tryz.f111.name, by decide, Tryz.func111.trans (congrArg some (by kernel_rfl))⟩
  t4 := Tryz.underlying4
  a4 := Tryz.isAgg4
  z4 := Tryz.sizeOf4
  v4 := Tryz.zeroValue4
  t22 := Tryz.underlying43
  a22 := Tryz.isAgg43
  z22 := Tryz.sizeOf43
  v22 := Tryz.zeroValue43 }
def Tryz.cloneI_ren : Go.Shelf.Ren := ⟨fun | 41 => 112 | n => n, fun | 22 => 44 | 23 => 3 | 4 => 4 | n => n, fun | n => n⟩
theorem Tryz.cloneI : Go.Proofs.SlLaysE0.n41 Tryz.prog Tryz.cloneI_ren := {
  mixed := by kernel_rfl
  f41 := ⟨Tryz.f112.name, by decide, Tryz.func112.trans (congrArg some (by kernel_rfl))⟩
  t4 := Tryz.underlying4
  a4 := Tryz.isAgg4
  z4 := Tryz.sizeOf4
  v4 := Tryz.zeroValue4
  t22 := Tryz.underlying44
  a22 := Tryz.isAgg44
  z22 := Tryz.sizeOf44
  v22 := Tryz.zeroValue44 }
def Tryz.idxT_ren : Go.Shelf.Ren := ⟨fun | 6 => 186 | n => n, fun | 22 => 42 | 23 => 119 | 25 => 226 | 3 => 3 | 0 => 0 | 4 => 4 | n => n, fun | n => n⟩
theorem Tryz.idxT : Go.Proofs.SlLaysH0.n6 Tryz.prog Tryz.idxT_ren := {
  mixed := by kernel_rfl
  f6 := ⟨Tryz.f186.name, by decide, Tryz.func186.trans (congrArg some (by kernel_rfl))⟩
  t0 := Tryz.underlying0
  a0 := Tryz.isAgg0
  z0 := Tryz.sizeOf0
  v0 := Tryz.zeroValue0
  t3 := Tryz.underlying3
  a3 := Tryz.isAgg3
  z3 := Tryz.sizeOf3
  v3 := Tryz.zeroValue3
  t4 := Tryz.underlying4
  a4 := Tryz.isAgg4
  z4 := Tryz.sizeOf4
  v4 := Tryz.zeroValue4
  t22 := Tryz.underlying42
  a22 := Tryz.isAgg42
  z22 := Tryz.sizeOf42
  v22 := Tryz.zeroValue42
  t25 := Tryz.underlying226
  a25 := Tryz.isAgg226
  z25 := Tryz.sizeOf226
  v25 := Tryz.zeroValue226 }
def Tryz.idxS_ren : Go.Shelf.Ren := ⟨fun | 6 => 192 | n => n, fun | 22 => 43 | 23 => 121 | 25 => 234 | 3 => 3 | 0 => 0 | 4 => 4 | n => n, fun | n => n⟩
theorem Tryz.idxS : Go.Proofs.SlLaysH0.n6 Tryz.prog Tryz.idxS_ren := {
  mixed := by kernel_rfl
  f6 := ⟨Tryz.f192.name, by decide, Tryz.func192.trans (congrArg some (by kernel_rfl))⟩
  t0 := Tryz.underlying0
  a0 := Tryz.isAgg0
  z0 := Tryz.sizeOf0
  v0 := Tryz.zeroValue0
  t3 := Tryz.underlying3
  a3 := Tryz.isAgg3
  z3 := Tryz.sizeOf3
  v3 := Tryz.zeroValue3
  t4 := Tryz.underlying4
  a4 := Tryz.isAgg4
  z4 := Tryz.sizeOf4
  v4 := Tryz.zeroValue4
  t22 := Tryz.underlying43
  a22 := Tryz.isAgg43
  z22 := Tryz.sizeOf43
  v22 := Tryz.zeroValue43
  t25 := Tryz.underlying234
  a25 := Tryz.isAgg234
  z25 := Tryz.sizeOf234
  v25 := Tryz.zeroValue234 }
def Tryz.idxI_ren : Go.Shelf.Ren := ⟨fun | 6 => 194 | n => n, fun | 22 => 44 | 23 => 3 | 25 => 67 | 3 => 3 | 0 => 0 | 4 => 4 | n => n, fun | n => n⟩
theorem Tryz.idxI : Go.Proofs.SlLaysH0.n6 Tryz.prog Tryz.idxI_ren := {
  mixed := by kernel_rfl
  f6 := ⟨Tryz.f194.name, by decide, Tryz.func194.trans (congrArg some (by kernel_rfl))⟩
  t0 := Tryz.underlying0
  a0 := Tryz.isAgg0
  z0 := Tryz.sizeOf0
  v0 := Tryz.zeroValue0
  t3 := Tryz.underlying3
  a3 := Tryz.isAgg3
  z3 := Tryz.sizeOf3
  v3 := Tryz.zeroValue3
  t4 := Tryz.underlying4
  a4 := Tryz.isAgg4
  z4 := Tryz.sizeOf4
  v4 := Tryz.zeroValue4
  t22 := Tryz.underlying44
  a22 := Tryz.isAgg44
  z22 := Tryz.sizeOf44
  v22 := Tryz.zeroValue44
  t25 := Tryz.underlying67
  a25 := Tryz.isAgg67
  z25 := Tryz.sizeOf67
  v25 := Tryz.zeroValue67 }
def Tryz.hasT_ren : Go.Shelf.Ren := ⟨fun | 8 => 154 | 6 => 186 | n => n, fun | 22 => 42 | 23 => 119 | 25 => 226 | 4 => 4 | 3 => 3 | 0 => 0 | n => n, fun | n => n⟩
theorem Tryz.hasT : Go.Proofs.SlLaysH0.n8 Tryz.prog Tryz.hasT_ren := {
  mixed := by kernel_rfl
  f6 := ⟨Tryz.f186.name, by decide, Tryz.func186.trans (congrArg some (by kernel_rfl))⟩
  f8 := ⟨Tryz.f154.name, by decide, Tryz.func154.trans (congrArg some (by kernel_rfl))⟩
  t0 := Tryz.underlying0
  a0 := Tryz.isAgg0
  z0 := Tryz.sizeOf0
  v0 := Tryz.zeroValue0
  t3 := Tryz.underlying3
  a3 := Tryz.isAgg3
  z3 := Tryz.sizeOf3
  v3 := Tryz.zeroValue3
  t4 := Tryz.underlying4
  a4 := Tryz.isAgg4
  z4 := Tryz.sizeOf4
  v4 := Tryz.zeroValue4
  t22 := Tryz.underlying42
  a22 := Tryz.isAgg42
  z22 := Tryz.sizeOf42
  v22 := Tryz.zeroValue42
  t25 := Tryz.underlying226
  a25 := Tryz.isAgg226
  z25 := Tryz.sizeOf226
  v25 := Tryz.zeroValue226 }
def Tryz.delI_ren : Go.Shelf.Ren := ⟨fun | 45 => 195 | n => n, fun | 22 => 44 | 23 => 3 | 3 => 3 | 4 => 4 | 0 => 0 | n => n, fun | n => n⟩
theorem Tryz.delI : Go.Proofs.SlLaysE.n45 Tryz.prog Tryz.delI_ren := {
  mixed := by kernel_rfl
  f45 := ⟨Tryz.f195.name, by decide, Tryz.func195.trans (congrArg some (by kernel_rfl))⟩
  t0 := Tryz.underlying0
  a0 := Tryz.isAgg0
  z0 := Tryz.sizeOf0
  v0 := Tryz.zeroValue0
  t3 := Tryz.underlying3
  a3 := Tryz.isAgg3
  z3 := Tryz.sizeOf3
  v3 := Tryz.zeroValue3
  t4 := Tryz.underlying4
  a4 := Tryz.isAgg4
  z4 := Tryz.sizeOf4
  v4 := Tryz.zeroValue4
  t22 := Tryz.underlying44
  a22 := Tryz.isAgg44
  z22 := Tryz.sizeOf44
  v22 := Tryz.zeroValue44
  a23 := Tryz.isAgg3
  z23 := Tryz.sizeOf3 }
def Tryz.cmpI_ren : Go.Shelf.Ren := ⟨fun | 5 => 116 | 7 => 142 | n => n, fun | 22 => 3 | 3 => 3 | 4 => 4 | n => n, fun | n => n⟩
theorem Tryz.cmpI : Go.Proofs.SlLaysC2.n5 Tryz.prog Tryz.cmpI_ren := {
  mixed := by kernel_rfl
  f5 := ⟨Tryz.f116.name, by decide, Tryz.func116.trans (congrArg some (by kernel_rfl))⟩
  f7 := ⟨Tryz.f142.name, by decide, Tryz.func142.trans (congrArg some (by kernel_rfl))⟩
  t3 := Tryz.underlying3
  a3 := Tryz.isAgg3
  z3 := Tryz.sizeOf3
  v3 := Tryz.zeroValue3
  t4 := Tryz.underlying4
  a4 := Tryz.isAgg4
  z4 := Tryz.sizeOf4
  v4 := Tryz.zeroValue4
  t22 := Tryz.underlying3
  a22 := Tryz.isAgg3
  z22 := Tryz.sizeOf3
  v22 := Tryz.zeroValue3 }
end Go.Proofs
