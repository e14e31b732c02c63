/- Texts put together: LevPick, LevOk, LevMaps -/
import Derived.Test.YtfbaenhajlckjaaGreatLSer10
import Derived.Test.YtfbaenhajlckjaaGreatLSer01
import Derived.StringKeys
import Derived.Maps.OwnSet
import Derived.Maps.Views
/- The tables of a level between two keys; those that may have a key; the next merging. -/
set_option linter.unusedVariables false
set_option maxRecDepth 100000
namespace Go.Proofs.YtfbaenhajlckjaaGreat
open Go.RowKit

set_option maxHeartbeats 2000000 in
theorem lev_over {T : Nat → Prop} {w : World} {a : Option Addr} {n cap : Nat} {L : List Tb} {l : Int} {lo hi : List UInt8} (h : Hid (RdL T w (.slice a n cap) n (flat tcell L))) (hL : Hid (n = L.length)) (hn : n ≤ 1000000000) :
    Calls Tryz.prog 92 #[.slice a n cap, .int .i64 l, .string (bs lo), .string (bs hi)] w fun e w' => ∃ v, e = .returned v ∧ OwnTb w' w.heap.size v (L.filter fun t => decide (t.lev = l) && mayB t lo hi) ∧ Below w.heap.size w w' := by
  obtain ⟨B, hB⟩ : ∃ B, B = w.heap.size := ⟨_, rfl⟩
  rw [← hB]
  obtain ⟨w1, hw1⟩ : ∃ w1, ((w.alloc (.cells #[.int .i64 l] 3)).alloc (.cells #[.string (bs lo)] 9)).alloc (.cells #[.string (bs hi)] 9) = w1 := ⟨_, rfl⟩
  have K1 := Lib.hid (show Below B w w1 by rw [← hw1, hB]; exact (((Below.refl _ _).alloc (Nat.le_refl _) _).alloc (by simp) _).alloc (by simp; omega) _)
  have e0 : w1.heap[B]? = some (.cells #[.int .i64 l] 3 (0, 0)) := by rw [← hw1, hB]; exact (Below.heap_alloc _ _ _ (by simp; omega)).trans ((Below.heap_alloc _ _ _ (by simp)).trans (heap_new w _))
  have e1 : w1.heap[B + 1]? = some (.cells #[.string (bs lo)] 9 (0, 0)) := by
    rw [← hw1, hB]
    refine (Below.heap_alloc _ _ _ (by simp)).trans ?_
    have := heap_new (w.alloc (.cells #[.int .i64 l] 3)) (.cells #[.string (bs lo)] 9)
    simpa using this
  have e2 : w1.heap[B + 2]? = some (.cells #[.string (bs hi)] 9 (0, 0)) := by
    rw [← hw1, hB]
    have := heap_new ((w.alloc (.cells #[.int .i64 l] 3)).alloc (.cells #[.string (bs lo)] 9)) (.cells #[.string (bs hi)] 9)
    simpa using this
  have HSZ := Lib.hid (show (w.alloc (.cells #[.int .i64 l] 3)).heap.size = B + 1 ∧ ((w.alloc (.cells #[.int .i64 l] 3)).alloc (.cells #[.string (bs lo)] 9)).heap.size = B + 2 by rw [hB]; simp)
  have HE := Lib.hid (And.intro e0 (And.intro e1 e2))
  have HC := Lib.hid (those_over (w := w1) (lb := B) (ob := B + 1) (hb := B + 2) (p := fun t => decide (t.lev = l) && mayB t lo hi) (Lib.hid (h.out.below (hB ▸ K1.out))) hL hn (Lib.hid fun y W k => over_look y W (by rw [k.cell (p := ⟨B, 0, none⟩) (heap_lt HE.out.1)]; simp [World.cell?, HE.out.1]) (by rw [k.cell (p := ⟨B + 1, 0, none⟩) (heap_lt HE.out.2.1)]; simp [World.cell?, HE.out.2.1]) (by rw [k.cell (p := ⟨B + 2, 0, none⟩) (heap_lt HE.out.2.2)]; simp [World.cell?, HE.out.2.2])))
  have HB1 := Lib.hid (show B ≤ w1.heap.size from Nat.le_of_lt (heap_lt e0))
  have HW1 := Lib.hid hw1
  have HB := Lib.hid hB
  clear hw1 hB e0 e1 e2
  go_enter Tryz.func92, Tryz.ntmps92
  go_upto_region 1 with (fail)
  rw [HW1.out, ← HB.out]
  go_wp2_with fail
  refine HC.out.mono ?_
  rintro e w2 ⟨v, rfl, ho, k2⟩
  have K2 := Lib.hid (K1.out.trans (k2.mono HB1.out))
  have O2 := Lib.hid (own_mono ho HB1.out)
  clear ho k2
  go_wp2
  go_ret
  exact ⟨_, rfl, O2.out, K2.out⟩
set_option maxHeartbeats 2000000 in
theorem lev_find {T : Nat → Prop} {w : World} {a : Option Addr} {n cap : Nat} {L : List Tb} {k : List UInt8} (h : Hid (RdL T w (.slice a n cap) n (flat tcell L))) (hL : Hid (n = L.length)) (hn : n ≤ 1000000000) :
    Calls Tryz.prog 49 #[.slice a n cap, .string (bs k)] w fun e w' => ∃ v, e = .returned v ∧ OwnI w' w.heap.size v ((L.filter fun t => mayB t k k).map (·.file)) ∧ Below w.heap.size w w' := by
  obtain ⟨B, hB⟩ : ∃ B, B = w.heap.size := ⟨_, rfl⟩
  rw [← hB]
  obtain ⟨w1, hw1⟩ : ∃ w1, w.alloc (.cells #[.string (bs k)] 9) = w1 := ⟨_, rfl⟩
  have K1 := Lib.hid (show Below B w w1 by rw [← hw1, hB]; exact (Below.refl _ _).alloc (Nat.le_refl _) _)
  have HE := Lib.hid (show w1.heap[B]? = some (.cells #[.string (bs k)] 9 (0, 0)) by rw [← hw1, hB]; exact heap_new w _)
  have HC := Lib.hid (those_find (w := w1) (ob := B) (p := fun t => mayB t k k) (Lib.hid (h.out.below (hB ▸ K1.out))) hL hn (Lib.hid fun y W k' => find_look y W (by rw [k'.cell (p := ⟨B, 0, none⟩) (heap_lt HE.out)]; simp [World.cell?, HE.out])))
  have HB1 := Lib.hid (show B ≤ w1.heap.size from Nat.le_of_lt (heap_lt HE.out))
  have HW1 := Lib.hid hw1
  have HB := Lib.hid hB
  obtain ⟨M, hM⟩ : ∃ M, M = L.filter fun t => mayB t k k := ⟨_, rfl⟩
  rw [← hM] at HC ⊢
  have hM9 : M.length ≤ 1000000000 := by rw [hM]; have := List.length_filter_le (fun t => mayB t k k) L; have := hL.out; omega
  clear hw1 hB hM
  go_enter Tryz.func49, Tryz.ntmps49
  go_upto_region 1 with (fail)
  rw [HW1.out, ← HB.out]
  go_wp2_with fail
  refine HC.out.mono ?_
  rintro e w2 ⟨v, rfl, ho, k2⟩
  obtain ⟨va, vc, rfl⟩ := OffRow.slice ho
  have K2 := Lib.hid (K1.out.trans (k2.mono HB1.out))
  have HB2 := Lib.hid (show B ≤ w2.heap.size from Nat.le_trans HB1.out k2.size)
  obtain ⟨q, hq⟩ : ∃ q, q = M.length := ⟨_, rfl⟩
  have HF := Lib.hid (lev_files (w := w2) (Lib.hid (show RdL (fun b => w1.heap.size ≤ b) w2 (.slice va q vc) q (flat tcell M) by rw [hq]; exact OffRow.rdL ho)) (Lib.hid hq) (by omega))
  rw [← hq]
  clear ho k2 HC hq
  go_wp2_with fail
  refine HF.out.mono ?_
  rintro e w3 ⟨v3, rfl, ho, k3⟩
  have K3 := Lib.hid (K2.out.trans (k3.mono HB2.out))
  have O3 := Lib.hid (own_mono ho HB2.out)
  clear ho k3
  go_wp2
  go_ret
  exact ⟨_, rfl, O3.out, K3.out⟩
def hidesB (l : Int) (lo hi : List UInt8) (t : Tb) : Bool := decide (l < t.lev) && mayB t lo hi
set_option maxHeartbeats 2000000 in
theorem index_H {T : Nat → Prop} {a : Option Addr} {n cap lb ob hb : Nat} {L : List Tb} {l : Int} {kl kh : List UInt8} {w : World} (h : Hid (RdL T w (.slice a n cap) n (flat tcell L))) (hL : Hid (n = L.length)) (hn : n ≤ 1000000000)
    (hx : Hid (w.cell? ⟨lb, 0, none⟩ = some (.int .i64 l) ∧ w.cell? ⟨ob, 0, none⟩ = some (.string (bs kl)) ∧ w.cell? ⟨hb, 0, none⟩ = some (.string (bs kh)))) :
    Calls Tryz.prog 133 #[.slice a n cap, .func (.func 93) #[] #[.pointer (some ⟨lb, 0, none⟩), .pointer (some ⟨ob, 0, none⟩), .pointer (some ⟨hb, 0, none⟩)]] w fun e w' => SeatP L (hidesB l kl kh) e ∧ Below w.heap.size w w' := by
  have eg : ∀ args w, (callFunc 93 args).run Tryz.prog w = .ok (.enter 93 args) w := enters_of Tryz.func93 (by kernel_rfl) rfl
  go_enter Tryz.func133, Tryz.ntmps133
  go_wp2_with fail
  go_loopw [8] (fun iv wr => ∃ i : Nat, i ≤ n ∧ iv = .int .i64 i ∧ Hid (∀ j y, j < i → L[j]? = some y → hidesB l kl kh y = false) ∧ Hid (Below w.heap.size w wr)) (fun iv wr => n - (intOf iv).toNat)
  case atStart => exact ⟨0, by omega, rfl, Lib.hid (fun j y hj => by omega), Lib.hid (Below.refl _ _)⟩
  case round =>
    obtain ⟨i, hi, rfl, hno, hB⟩ := hrel
    by_cases hlt : i < n
    · have hlt' : (i : Int) < (n : Int) := by omega
      obtain ⟨y, hy⟩ : ∃ y, L[i]? = some y := ⟨_, List.getElem?_eq_getElem (by have := hL.out; omega)⟩
      obtain ⟨b, off, rfl, ht, hb2, hc⟩ := RdL.atT h.out hy hlt
      have hcr : ∀ i' u, (tcell y)[i']? = some u → wr.cell? ⟨b, off + i * 5 + i', none⟩ = some u := fun i' u hu => by
        rw [← hc i' u hu]
        simp only [World.cell?, hB.out.block b hb2]
      have y0 : wr.cell? ⟨b, off + i * 5, none⟩ = _ := hcr 0 _ rfl
      have y1 := hcr 1 _ rfl
      have y2 := hcr 2 _ rfl
      have y3 := hcr 3 _ rfl
      have y4 := hcr 4 _ rfl
      have HS := Lib.hid (show Calls Tryz.prog 93 #[.agg #[.int .i64 y.file, .int .i64 y.lev, .int .i64 y.cnt, .string (bs y.low), .string (bs y.high)], .pointer (some ⟨lb, 0, none⟩), .pointer (some ⟨ob, 0, none⟩), .pointer (some ⟨hb, 0, none⟩)] wr fun e w' => e = .returned (.bool (hidesB l kl kh y)) ∧ Below wr.heap.size wr w' from pick_look y wr (by rw [hB.out.cell (p := ⟨lb, 0, none⟩) (cell_block (v := .int .i64 l) hx.out.1)]; exact hx.out.1) (by rw [hB.out.cell (p := ⟨ob, 0, none⟩) (cell_block (v := .string (bs kl)) hx.out.2.1)]; exact hx.out.2.1) (by rw [hB.out.cell (p := ⟨hb, 0, none⟩) (cell_block (v := .string (bs kh)) hx.out.2.2)]; exact hx.out.2.2))
      have HY := Lib.hid hy
      clear hy hc hcr
      obtain ⟨r, hr⟩ : ∃ r, hidesB l kl kh y = r := ⟨_, rfl⟩
      rw [hr] at HS
      have HR := Lib.hid hr
      clear hr
      cases r with
      | true =>
        go_wp2_with fail
        refine HS.out.mono ?_
        rintro e w2 ⟨rfl, k2⟩
        have K2 := Lib.hid (hB.out.trans (k2.mono hB.out.size))
        clear k2
        go_wp2
        go_ret
        exact ⟨.inl ⟨i, y, HY.out, HR.out, rfl⟩, K2.out⟩
      | false =>
        go_wp2_with fail
        refine HS.out.mono ?_
        rintro e w2 ⟨rfl, k2⟩
        have K2 := Lib.hid (hB.out.trans (k2.mono hB.out.size))
        clear k2
        go_wp2_with fail
        go_roundw
        case rel => exact ⟨i + 1, hlt, by go_num, Lib.hid (fun j z hj hz => by
          rcases Nat.lt_or_ge j i with e | e
          · exact hno.out j z e hz
          · obtain rfl : j = i := by omega
            rw [HY.out] at hz
            injection hz with hz
            subst hz
            exact HR.out), K2⟩
        case measure => simp [intOf]; omega
    · obtain rfl : i = n := by omega
      go_wp2
      go_ret
      refine ⟨.inr ⟨fun x hx => ?_, rfl⟩, hB.out⟩
      obtain ⟨j, hj, e⟩ := List.mem_iff_getElem.1 hx
      exact hno.out j x (by have := hL.out; omega) (by rw [← e]; exact List.getElem?_eq_getElem hj)
set_option maxHeartbeats 1000000 in
theorem contains_H {T : Nat → Prop} {a : Option Addr} {n cap lb ob hb : Nat} {L : List Tb} {l : Int} {kl kh : List UInt8} {w : World} (h : Hid (RdL T w (.slice a n cap) n (flat tcell L))) (hL : Hid (n = L.length)) (hn : n ≤ 1000000000)
    (hx : Hid (w.cell? ⟨lb, 0, none⟩ = some (.int .i64 l) ∧ w.cell? ⟨ob, 0, none⟩ = some (.string (bs kl)) ∧ w.cell? ⟨hb, 0, none⟩ = some (.string (bs kh)))) :
    Calls Tryz.prog 96 #[.slice a n cap, .func (.func 93) #[] #[.pointer (some ⟨lb, 0, none⟩), .pointer (some ⟨ob, 0, none⟩), .pointer (some ⟨hb, 0, none⟩)]] w fun e w' => e = .returned (.bool (L.any (hidesB l kl kh))) ∧ Below w.heap.size w w' := by
  have HI := Lib.hid (index_H h hL hn hx)
  obtain ⟨z, hz⟩ : ∃ z, z = L.any (hidesB l kl kh) := ⟨_, rfl⟩
  rw [← hz]
  have HZ := Lib.hid hz
  clear hz
  go_enter Tryz.func96, Tryz.ntmps96
  go_wp2_with fail
  refine HI.out.mono ?_
  rintro e w1 ⟨hs, k1⟩
  have K1 := Lib.hid k1
  clear k1
  rcases hs with ⟨i, x, hx1, hx2, rfl⟩ | ⟨hno, rfl⟩
  · have HT := Lib.hid (show z = true by rw [HZ.out]; exact List.any_eq_true.2 ⟨x, List.mem_of_getElem? hx1, hx2⟩)
    have hi0 : (0 : Int) ≤ (i : Int) := by omega
    clear HZ hx1 hx2
    go_wp2
    go_ret
    exact ⟨by rw [HT.out]; rfl, K1.out⟩
  · have HT := Lib.hid (show z = false by rw [HZ.out]; exact List.any_eq_false.2 fun x hx => by rw [hno x hx]; simp)
    clear HZ hno
    go_wp2
    go_ret
    exact ⟨by rw [HT.out]; rfl, K1.out⟩


/-- A row of tables, as what is appended. -/
theorem src_tabs {w : World} {B : Nat} {v : Value} {L : List Tb} (h : OwnTb w B v L) : Src Tryz.prog 5 25 v L.length (flat tcell L) w := by
  have hl : (flat tcell L).length = L.length * 5 := flat_len tcell_len L
  rcases h.2 with ⟨rfl, h0⟩ | ⟨g, off, cap, cur, rfl, hB, hg, h1, h2, h3, h4⟩
  · have hT : L = [] := List.length_eq_zero_iff.1 h0
    subst hT
    exact Src.ofNil w Tryz.underlying25 0
  · refine Src.ofSlice w Tryz.underlying25 ⟨g, off, none⟩ L.length cap (flat tcell L) hl (fun j u hj => ?_) (fun u hu => flat_one' tcell_one L u hu)
    have hlt : j < L.length * 5 := by rw [← hl]; exact (List.getElem?_eq_some_iff.1 hj).1
    rw [addr_add, ← hj, ← h4 j hlt]
    simp [World.cell?, hg]
structure PlanL where
  ins : List Tb
  out : Int
  low : List UInt8
  high : List UInt8
  bot : Bool
def insL (T I : List Tb) (o : Int) : List Tb := I ++ T.filter fun t => decide (t.lev = o) && mayB t (lowL I) (highL I)
def planL (T I : List Tb) : PlanL := ⟨insL T I ((I.headD default).lev + 1), (I.headD default).lev + 1, lowL (insL T I ((I.headD default).lev + 1)), highL (insL T I ((I.headD default).lev + 1)), !T.any (hidesB ((I.headD default).lev + 1) (lowL (insL T I ((I.headD default).lev + 1))) (highL (insL T I ((I.headD default).lev + 1))))⟩
/-- A variable that holds a plan. -/
def P5 (b : Nat) (v0 : Value) (o : Int) (lo hi : ByteArray) (f : Bool) (w : World) : Prop := w.heap[b]? = some (.cells #[v0, .int .i64 o, .string lo, .string hi, .bool f] 93 (0, 0))
theorem P5.below {b : Nat} {v0 : Value} {o : Int} {lo hi : ByteArray} {f : Bool} {w w' : World} (h : P5 b v0 o lo hi f w) (k : Below w.heap.size w w') : P5 b v0 o lo hi f w' := (k.block b (heap_lt h)).trans h
theorem P5.c0 {b : Nat} {v0 : Value} {o : Int} {lo hi : ByteArray} {f : Bool} {w : World} (h : P5 b v0 o lo hi f w) : w.cell? ⟨b, 0, none⟩ = some v0 ∧ w.cell? ⟨b, 1, none⟩ = some (.int .i64 o) ∧ w.cell? ⟨b, 2, none⟩ = some (.string lo) ∧ w.cell? ⟨b, 3, none⟩ = some (.string hi) ∧ w.cell? ⟨b, 4, none⟩ = some (.bool f) := by unfold P5 at h; simp [World.cell?, h]
theorem P5.free {b : Nat} {v0 : Value} {o : Int} {lo hi : ByteArray} {f : Bool} {w : World} (h : P5 b v0 o lo hi f w) (j : Nat) : w.frozen? ⟨b, j, none⟩ = false := by unfold P5 at h; simp [World.frozen?, h]
theorem P5.put {b : Nat} {v0 : Value} {o : Int} {lo hi : ByteArray} {f : Bool} {w : World} (h : P5 b v0 o lo hi f w) (u0 : Value) (o' : Int) (lo' hi' : ByteArray) (f' : Bool) : P5 b u0 o' lo' hi' f' (((((w.setCell ⟨b, 0, none⟩ u0).setCell ⟨b, 1, none⟩ (.int .i64 o')).setCell ⟨b, 2, none⟩ (.string lo')).setCell ⟨b, 3, none⟩ (.string hi')).setCell ⟨b, 4, none⟩ (.bool f')) := by
  have h0 := heap_set (o := 0) h u0
  have h1 := heap_set (o := 1) h0 (.int .i64 o')
  have h2 := heap_set (o := 2) h1 (.string lo')
  have h3 := heap_set (o := 3) h2 (.string hi')
  exact heap_set (o := 4) h3 (.bool f')
theorem P5.range {b : Nat} {v0 : Value} {o : Int} {lo hi : ByteArray} {f : Bool} {w : World} (h : P5 b v0 o lo hi f w) : w.rangeAt b 0 [v0, .int .i64 o, .string lo, .string hi, .bool f] := fun j v hj => by
  obtain ⟨e0, e1, e2, e3, e4⟩ := h.c0
  match j, hj with
  | 0, hj => cases hj; exact e0
  | 1, hj => cases hj; exact e1
  | 2, hj => cases hj; exact e2
  | 3, hj => cases hj; exact e3
  | 4, hj => cases hj; exact e4
  | n + 5, hj => cases hj
theorem sizePl : (Tryz.prog.info? 93).map (·.size) = some 5 := by kernel_rfl
theorem results_pl {fn : Func} {p u : Tmp} (h : fn.results = #[.cell p 93, .tmp u]) (tmps : Array Value) (w : World) (b : Nat) (v0 : Value) (o : Int) (lo hi : ByteArray) (f : Bool) (x : Value) (hp : tmps.getD p undef = .pointer (some ⟨b, 0, none⟩)) (hx : tmps.getD u undef = x) (hc : P5 b v0 o lo hi f w) :
    (results fn tmps).run Tryz.prog w = .ok (.tuple #[.agg #[v0, .int .i64 o, .string lo, .string hi, .bool f], x]) w :=
  results_cell_bool h tmps Tryz.prog w b 0 [v0, .int .i64 o, .string lo, .string hi, .bool f] _ x hp hx hc.range Tryz.underlying93 rfl sizePl
def noPlan : Value := .tuple #[.agg #[.slice none 0 0, .int .i64 0, .string { data := #[] }, .string { data := #[] }, .bool false], .bool false]
/-- What Pick answers. -/
def PickPost (B : Nat) (T : List Tb) (fan : Int) (e : Ending) (w' : World) : Prop :=
  (leaveL T fan = [] ∧ e = .returned noPlan) ∨ (leaveL T fan ≠ [] ∧ ∃ a c, e = .returned (.tuple #[.agg #[.slice a (planL T (leaveL T fan)).ins.length c, .int .i64 (planL T (leaveL T fan)).out, .string (bs (planL T (leaveL T fan)).low), .string (bs (planL T (leaveL T fan)).high), .bool (planL T (leaveL T fan)).bot], .bool true]) ∧ OwnI w' B (.slice a (planL T (leaveL T fan)).ins.length c) ((planL T (leaveL T fan)).ins.map (·.file)))
set_option maxHeartbeats 16000000 in
theorem lev_pick {T : Nat → Prop} {w : World} {a : Option Addr} {n cap : Nat} {L : List Tb} {fan : Int} (h : Hid (RdL T w (.slice a n cap) n (flat tcell L))) (hL : Hid (n = L.length)) (hn : n ≤ 100000000) (hf : 2 ≤ fan ∧ fan ≤ 16) (hlev : Hid (∀ t ∈ L, 0 ≤ t.lev ∧ t.lev ≤ 5)) :
    Calls Tryz.prog 48 #[.slice a n cap, .int .i64 fan] w fun e w' => PickPost w.heap.size L fan e w' ∧ Below w.heap.size w w' := by
  obtain ⟨B, hB⟩ : ∃ B, B = w.heap.size := ⟨_, rfl⟩
  rw [← hB]
  obtain ⟨w1, hw1⟩ : ∃ w1, w.alloc (.cells #[.slice none 0 0, .int .i64 0, .string { data := #[] }, .string { data := #[] }, .bool false] 93) = w1 := ⟨_, rfl⟩
  have K1 := Lib.hid (show Below B w w1 by rw [← hw1, hB]; exact (Below.refl _ _).alloc (Nat.le_refl _) _)
  have R1 := Lib.hid (show P5 B (.slice none 0 0) 0 { data := #[] } { data := #[] } false w1 by rw [← hw1, hB]; exact heap_new w _)
  have HB1 := Lib.hid (show B ≤ w1.heap.size from Nat.le_of_lt (heap_lt R1.out))
  have T1 := Lib.hid (h.out.below (hB ▸ K1.out))
  have HLV := Lib.hid (lev_leaving (fan := fan) T1 hL (by omega) hf)
  have HW1 := Lib.hid hw1
  have HB := Lib.hid hB
  obtain ⟨I, hI⟩ : ∃ I, I = leaveL L fan := ⟨_, rfl⟩
  have HI := Lib.hid hI
  have HIS := Lib.hid (leaveL_is (T := L) (fan := fan) (by omega))
  unfold PickPost
  rw [← hI] at HLV HIS ⊢
  obtain ⟨hf1, hf2⟩ := hf
  clear hw1 hB hI
  go_enter Tryz.func48, Tryz.ntmps48
  go_upto_region 1 with (fail)
  rw [HW1.out, ← HB.out]
  go_wp2_with fail
  refine HLV.out.mono ?_
  rintro e w2 ⟨v, rfl, ho, k2⟩
  obtain ⟨va, vc, rfl⟩ := OffRow.slice ho
  have K2 := Lib.hid (K1.out.trans (k2.mono HB1.out))
  have HB2 := Lib.hid (show B ≤ w2.heap.size from Nat.le_trans HB1.out k2.size)
  have R2 := Lib.hid (R1.out.below k2)
  have O2 := Lib.hid (own_mono ho HB1.out)
  have HNB := Lib.hid (show ∀ g, (Value.slice va I.length vc).ownBlock = some g → w1.heap.size ≤ g from fun g hg => (OffRow.lt ho g hg).1)
  obtain ⟨q, hq⟩ : ∃ q, q = I.length := ⟨_, rfl⟩
  have HIL := Lib.hid (show I.length ≤ L.length by
    rcases HIS.out with e | e | ⟨t, ht, _, _, e⟩
    · rw [e]; simp
    · rw [e]; exact atLev_len _ _
    · rw [e]; have := List.length_pos_of_mem ht; simp only [List.length_singleton]; omega)
  have hq9 : q ≤ 100000000 := by have := HIL.out; have := hL.out; omega
  rw [← hq] at O2 HNB ⊢
  have HQ := Lib.hid hq
  clear ho k2 HLV hq
  by_cases hq0 : q = 0
  · have gf := R2.out.free
    obtain ⟨r0, r1, r2, r3, r4⟩ := R2.out.c0
    have HE := Lib.hid (show I = [] from List.eq_nil_of_length_eq_zero (by have := HQ.out; omega))
    subst hq0
    go_wp2
    have KE := Lib.hid (below_set5 K2.out (Nat.le_refl B) (.slice none 0 0) (.int .i64 0) (.string { data := #[] }) (.string { data := #[] }) (.bool false))
    refine bodyPost_ret (results_pl rfl _ _ B _ _ _ _ _ _ rfl rfl (R2.out.put (.slice none 0 0) 0 { data := #[] } { data := #[] } false)) rfl ?_
    exact ⟨.inl ⟨HE.out, rfl⟩, KE.out⟩
  · have HNE := Lib.hid (show I ≠ [] from fun e => hq0 (by rw [HQ.out, e]; rfl))
    obtain ⟨x, hx⟩ : ∃ x, I[0]? = some x := ⟨_, List.getElem?_eq_getElem (by have := HQ.out; omega)⟩
    have HX := Lib.hid (show I.headD default = x by
      cases I with
      | nil => cases hx
      | cons y I => simpa using hx)
    have HXL := Lib.hid (show x ∈ L by
      have hm := List.mem_of_getElem? hx
      rcases HIS.out with e | e | ⟨t, ht, _, _, e⟩
      · rw [e] at hm; cases hm
      · rw [e] at hm; exact (List.mem_filter.1 hm).1
      · rw [e] at hm; rw [List.mem_singleton.1 hm]; exact ht)
    have RI2 := Lib.hid (show RdL (fun b => B ≤ b) w2 (.slice va q vc) q (flat tcell I) from OffRow.rdL O2.out)
    obtain ⟨b, off, rfl, ht, hb2, hc⟩ := RdL.atT RI2.out hx (by omega)
    have c1 := hc 1 _ rfl
    rw [show off + 0 * 5 + 1 = off + 1 by omega] at c1
    obtain ⟨o, ho⟩ : ∃ o, o = x.lev + 1 := ⟨_, rfl⟩
    have hxl := hlev.out x HXL.out
    have how : IntKind.i64.wrap (x.lev + 1) = o := by rw [ho]; exact IntWalk.i64_in _ (by omega)
    have HO := Lib.hid (show (I.headD default).lev + 1 = o by rw [HX.out, ho])
    obtain ⟨xl, hxl'⟩ : ∃ xl, xl = x.lev := ⟨_, rfl⟩
    rw [← hxl'] at c1 how
    have hq0' : ¬ (q : Int) = 0 := by omega
    have hqp : (0 : Int) < (q : Int) := by omega
    clear hx ht hb2 hc ho hxl hxl'
    obtain ⟨w3, hw3⟩ : ∃ w3, w2.alloc (.cells #[.int .i64 o] 3) = w3 := ⟨_, rfl⟩
    obtain ⟨lb, hlb⟩ : ∃ lb, lb = w2.heap.size := ⟨_, rfl⟩
    have k3 : Below w2.heap.size w2 w3 := by rw [← hw3]; exact (Below.refl _ _).alloc (Nat.le_refl _) _
    have L3 := Lib.hid (show w3.heap[lb]? = some (.cells #[.int .i64 o] 3 (0, 0)) by rw [← hw3, hlb]; exact heap_new w2 _)
    have K3 := Lib.hid (K2.out.trans (k3.mono HB2.out))
    have HB3 := Lib.hid (show B ≤ w3.heap.size from Nat.le_trans HB2.out k3.size)
    have RI3 := Lib.hid (RI2.out.below k3)
    have HEN := Lib.hid (lev_ends RI3 HQ (by omega) (by omega))
    have R3 := Lib.hid (R2.out.below k3)
    have O3 := Lib.hid (OffRow.kept O2.out (w' := w3) fun j hj => k3.block j (OffRow.lt O2.out j hj).2)
    have HLB := Lib.hid (show w2.heap.size ≤ lb by omega)
    have HW3 := Lib.hid hw3
    have HL3 := Lib.hid hlb
    obtain ⟨l0, hl0⟩ : ∃ l, l = lowL I := ⟨_, rfl⟩
    obtain ⟨h0, hh0⟩ : ∃ l, l = highL I := ⟨_, rfl⟩
    rw [← hl0, ← hh0] at HEN
    have HLH := Lib.hid (And.intro hl0 hh0)
    clear hw3 hlb k3 hl0 hh0
    go_upto_region 7 with (fail)
    rw [HW3.out, ← HL3.out]
    clear c1 how
    go_wp2_with fail
    refine HEN.out.mono ?_
    rintro e w4 ⟨rfl, k4⟩
    obtain ⟨w5, hw5⟩ : ∃ w5, (w4.alloc (.cells #[.string (bs l0)] 9)).alloc (.cells #[.string (bs h0)] 9) = w5 := ⟨_, rfl⟩
    obtain ⟨ob, hob⟩ : ∃ ob, ob = w4.heap.size := ⟨_, rfl⟩
    have HSZ := Lib.hid (show (w4.alloc (.cells #[.string (bs l0)] 9)).heap.size = ob + 1 by rw [hob]; simp)
    have k5 : Below w4.heap.size w4 w5 := by rw [← hw5]; exact ((Below.refl _ _).alloc (Nat.le_refl _) _).alloc (by simp) _
    have k45 := k4.trans (k5.mono k4.size)
    have S5 := Lib.hid (show w5.heap[ob]? = some (.cells #[.string (bs l0)] 9 (0, 0)) by rw [← hw5, hob]; exact (Below.heap_alloc _ _ _ (by simp)).trans (heap_new w4 _))
    have H5 := Lib.hid (show w5.heap[ob + 1]? = some (.cells #[.string (bs h0)] 9 (0, 0)) by
      rw [← hw5, hob]
      have := heap_new (w4.alloc (.cells #[.string (bs l0)] 9)) (.cells #[.string (bs h0)] 9)
      simpa using this)
    have L5 := Lib.hid ((k45.block lb (heap_lt L3.out)).trans L3.out)
    have K5 := Lib.hid (K3.out.trans (k45.mono HB3.out))
    have HB5 := Lib.hid (show B ≤ w5.heap.size from Nat.le_trans HB3.out k45.size)
    have R5 := Lib.hid (R3.out.below k45)
    have O5 := Lib.hid (OffRow.kept O3.out (w' := w5) fun j hj => k45.block j (OffRow.lt O3.out j hj).2)
    have T5 := Lib.hid (h.out.below (HB.out ▸ K5.out))
    have HOV := Lib.hid (lev_over (l := o) (lo := l0) (hi := h0) T5 hL (by omega))
    have HOB := Lib.hid (show w3.heap.size ≤ ob by rw [hob]; exact k4.size)
    have HW5 := Lib.hid hw5
    have HO5 := Lib.hid hob
    clear hw5 hob k4 k5 k45 HEN
    go_upto_region 8 with (fail)
    rw [HW5.out, ← HO5.out]
    have c2 : w5.cell? ⟨lb, 0, none⟩ = some (.int .i64 o) := by simp [World.cell?, L5.out]
    have c3 : w5.cell? ⟨ob, 0, none⟩ = some (.string (bs l0)) := by simp [World.cell?, S5.out]
    have c4 : w5.cell? ⟨ob + 1, 0, none⟩ = some (.string (bs h0)) := by simp [World.cell?, H5.out]
    go_wp2_with fail
    refine HOV.out.mono ?_
    rintro e w6 ⟨v6, rfl, ho6, k6⟩
    obtain ⟨a6, c6, rfl⟩ := OffRow.slice ho6
    obtain ⟨M, hM⟩ : ∃ M, M = L.filter fun t => decide (t.lev = o) && mayB t l0 h0 := ⟨_, rfl⟩
    obtain ⟨m, hm⟩ : ∃ m, m = M.length := ⟨_, rfl⟩
    rw [← hM] at ho6
    rw [show (L.filter fun t => decide (t.lev = o) && mayB t l0 h0).length = m by rw [hm, hM]]
    rw [← hm] at ho6
    have hm9 : m ≤ 100000000 := by rw [hm, hM]; have := List.length_filter_le (fun t => decide (t.lev = o) && mayB t l0 h0) L; have := hL.out; omega
    have HINS := Lib.hid (show insL L I o = I ++ M by unfold insL; rw [← HLH.out.1, ← HLH.out.2, ← hM])
    have SRC := Lib.hid (show Src Tryz.prog 5 25 (.slice a6 m c6) m (flat tcell M) w6 by have := src_tabs ho6; rw [← hm] at this; exact this)
    have K6 := Lib.hid (K5.out.trans (k6.mono HB5.out))
    have HB6 := Lib.hid (show B ≤ w6.heap.size from Nat.le_trans HB5.out k6.size)
    have L6 := Lib.hid ((k6.block lb (heap_lt L5.out)).trans L5.out)
    have S6 := Lib.hid ((k6.block ob (heap_lt S5.out)).trans S5.out)
    have H6 := Lib.hid ((k6.block (ob + 1) (heap_lt H5.out)).trans H5.out)
    have R6 := Lib.hid (R5.out.below k6)
    have O6 := Lib.hid (OffRow.kept O5.out (w' := w6) fun j hj => k6.block j (OffRow.lt O5.out j hj).2)
    have HBB := Lib.hid (show B < b ∧ b < lb ∧ lb < ob by
      have h1 := HNB.out b rfl
      have h2 := (OffRow.lt O2.out b rfl).2
      have h3 := heap_lt R1.out
      have h4 := HLB.out
      have h5 := heap_lt L3.out
      have h6 := HOB.out
      omega)
    have HM := Lib.hid hm
    obtain ⟨i0, hi0, hz0, hz1, hz2⟩ := info_parts infoTb
    have HIn := Lib.hid (And.intro hi0 (And.intro hz0 (And.intro hz1 hz2)))
    clear hi0 hz0 hz1 hz2 ho6 k6 HOV c2 c3 c4 hM hm T5 R5 L5 S5 H5 O5
    go_wp2_with (at_builtin; refine wpList_append_off rfl (.tmp 35) (.tmp 40) 25 rfl B 42 i0 _ 5 56 Tryz.underlying25 HIn.out.1 HIn.out.2.1 HIn.out.2.2.1 HIn.out.2.2.2 rfl (.slice (some ⟨b, off, none⟩) q vc) q _ rfl O6.out (.slice a6 m c6) rfl m _ SRC.out (by unfold maxLen; omega) (by omega) HB6.out ?_)
    intro v7 w7 hr7 hg7 hat7
    obtain ⟨a7, c7, rfl⟩ := OffRow.slice hr7
    obtain ⟨nn, hnn⟩ : ∃ nn, nn = q + m := ⟨_, rfl⟩
    rw [← hnn] at hr7 ⊢
    obtain ⟨J, hJ⟩ : ∃ J, J = I ++ M := ⟨_, rfl⟩
    have HJ := Lib.hid (show insL L I o = J by rw [HINS.out, hJ])
    have HJL := Lib.hid (show nn = J.length by rw [hnn, hJ, List.length_append, HQ.out, HM.out])
    have RJ7 := Lib.hid (show RdL (fun b => B ≤ b) w7 (.slice a7 nn c7) nn (flat tcell J) by rw [hJ, flat_append]; exact OffRow.rdL hr7)
    have K7 := Lib.hid (K6.out.grown hg7 HB6.out (fun j hj => (OffRow.lt O6.out j hj).1))
    have hk7 : ∀ j, j < w6.heap.size → j ≠ b → w7.heap[j]? = w6.heap[j]? := fun j hj hne => hg7.block j hj (fun e => hne (by injection e))
    have L7 := Lib.hid ((hk7 lb (heap_lt L6.out) (by have := HBB.out; omega)).trans L6.out)
    have S7 := Lib.hid ((hk7 ob (heap_lt S6.out) (by have := HBB.out; omega)).trans S6.out)
    have H7 := Lib.hid ((hk7 (ob + 1) (heap_lt H6.out) (by have := HBB.out; omega)).trans H6.out)
    have R7 := Lib.hid (show P5 B (.slice none 0 0) 0 { data := #[] } { data := #[] } false w7 from (hk7 B (heap_lt R6.out) (by have := HBB.out; omega)).trans R6.out)
    have HB7 := Lib.hid (show B ≤ w7.heap.size from Nat.le_of_lt (heap_lt R7.out))
    have hnn9 : nn ≤ 200000000 := by omega
    have hnnp : 0 < nn := by omega
    have HEN := Lib.hid (lev_ends RJ7 HJL (by omega) hnnp)
    obtain ⟨l1, hl1⟩ : ∃ l, l = lowL J := ⟨_, rfl⟩
    obtain ⟨h1, hh1⟩ : ∃ l, l = highL J := ⟨_, rfl⟩
    rw [← hl1, ← hh1] at HEN
    have HLH1 := Lib.hid (And.intro hl1 hh1)
    clear hr7 hg7 hat7 hnn hJ hk7 hl1 hh1 SRC O6 R6 L6 S6 H6
    have c3 : w7.cell? ⟨ob, 0, none⟩ = some (.string (bs l0)) := by simp [World.cell?, S7.out]
    have c4 : w7.cell? ⟨ob + 1, 0, none⟩ = some (.string (bs h0)) := by simp [World.cell?, H7.out]
    go_wp2_with fail
    refine HEN.out.mono ?_
    rintro e w8 ⟨rfl, k8⟩
    have L8 := Lib.hid ((k8.block lb (heap_lt L7.out)).trans L7.out)
    have S8 := Lib.hid ((k8.block ob (heap_lt S7.out)).trans S7.out)
    have H8 := Lib.hid ((k8.block (ob + 1) (heap_lt H7.out)).trans H7.out)
    have R8 := Lib.hid (R7.out.below k8)
    have RJ8 := Lib.hid (RJ7.out.below k8)
    have K8 := Lib.hid (K7.out.trans (k8.mono HB7.out))
    clear c3 c4 k8 HEN L7 S7 H7 R7 RJ7
    have c3 : w8.cell? ⟨ob, 0, none⟩ = some (.string (bs l0)) := by simp [World.cell?, S8.out]
    have c4 : w8.cell? ⟨ob + 1, 0, none⟩ = some (.string (bs h0)) := by simp [World.cell?, H8.out]
    have f3 : w8.frozen? ⟨ob, 0, none⟩ = false := by simp [World.frozen?, S8.out]
    have f4 : w8.frozen? ⟨ob + 1, 0, none⟩ = false := by simp [World.frozen?, H8.out]
    obtain ⟨w9, hw9⟩ : ∃ w9, (w8.setCell ⟨ob, 0, none⟩ (.string (bs l1))).setCell ⟨ob + 1, 0, none⟩ (.string (bs h1)) = w9 := ⟨_, rfl⟩
    have k9 : ∀ j, j ≠ ob → j ≠ ob + 1 → w9.heap[j]? = w8.heap[j]? := fun j h1 h2 => by rw [← hw9, heap_set_other h2, heap_set_other h1]
    have S9 := Lib.hid (show w9.heap[ob]? = some (.cells #[.string (bs l1)] 9 (0, 0)) by rw [← hw9, heap_set_other (by omega)]; exact heap_set (o := 0) S8.out (.string (bs l1)))
    have H9 := Lib.hid (show w9.heap[ob + 1]? = some (.cells #[.string (bs h1)] 9 (0, 0)) by rw [← hw9]; exact heap_set (o := 0) ((heap_set_other (by omega) _).trans H8.out) (.string (bs h1)))
    have L9 := Lib.hid ((k9 lb (by have := HBB.out; omega) (by have := HBB.out; omega)).trans L8.out)
    have R9 := Lib.hid (show P5 B (.slice none 0 0) 0 { data := #[] } { data := #[] } false w9 from (k9 B (by have := HBB.out; omega) (by have := HBB.out; omega)).trans R8.out)
    have K9 := Lib.hid (show Below B w w9 by rw [← hw9]; exact (K8.out.setCell (p := ⟨ob, 0, none⟩) (by have := HBB.out; show B ≤ ob; omega) _).setCell (p := ⟨ob + 1, 0, none⟩) (by have := HBB.out; show B ≤ ob + 1; omega) _)
    have RJ9 := Lib.hid (show RdL (fun _ => True) w9 (.slice a7 nn c7) nn (flat tcell J) by
      obtain ⟨a', cap', e', hn', hh⟩ := RJ8.out
      refine ⟨a', cap', e', hn', ?_⟩
      rcases hh with hh | ⟨b', off', rfl, ht, hb, hc⟩
      · exact .inl hh
      · have hbs : b' ≠ ob ∧ b' ≠ ob + 1 := by
          have hj : ∃ x, J[0]? = some x := ⟨_, List.getElem?_eq_getElem (by have := HJL.out; omega)⟩
          obtain ⟨x, hx⟩ := hj
          have := flat_at tcell_len hx (i := 0) (by omega)
          have hcc := hc 0 (.int .i64 x.file) (by rw [show (0 : Nat) = 0 * 5 + 0 from rfl, this]; rfl)
          have hc1 := hc 1 (.int .i64 x.lev) (by have := flat_at tcell_len hx (i := 1) (by omega); rw [show (1 : Nat) = 0 * 5 + 1 from rfl, this]; rfl)
          constructor
          · rintro rfl
            have h2 := S8.out
            rcases Nat.eq_zero_or_pos off' with h0 | h0
            · subst h0; simp [World.cell?, h2] at hcc
            · simp [World.cell?, h2] at hcc; rw [List.getElem?_eq_none (by simp only [List.length_singleton]; omega)] at hcc; cases hcc
          · rintro rfl
            have h2 := H8.out
            rcases Nat.eq_zero_or_pos off' with h0 | h0
            · subst h0; simp [World.cell?, h2] at hcc
            · simp [World.cell?, h2] at hcc; rw [List.getElem?_eq_none (by simp only [List.length_singleton]; omega)] at hcc; cases hcc
        refine .inr ⟨b', off', rfl, trivial, ?_, fun j u hj => ?_⟩
        · have := k9 b' hbs.1 hbs.2
          exact heap_lt (o := (w8.heap[b']'hb)) (by rw [this]; exact Array.getElem?_eq_getElem hb)
        · rw [← hc j u hj]; simp only [World.cell?, k9 b' hbs.1 hbs.2])
    have HB9 := Lib.hid (show B ≤ w9.heap.size from Nat.le_of_lt (heap_lt R9.out))
    have HW9 := Lib.hid hw9
    clear hw9 k9
    go_upto_region 11 with (fail)
    rw [HW9.out]
    clear c3 c4 f3 f4 S8 H8 L8 R8 RJ8 HW9
    have HFL := Lib.hid (fun (W : World) (k : Below w9.heap.size w9 W) => lev_files (w := W) (Lib.hid (RJ9.out.below k)) HJL (by omega))
    have HCT := Lib.hid (fun (W : World) (k : Below w9.heap.size w9 W) => contains_H (w := W) (lb := lb) (ob := ob) (hb := ob + 1) (l := o) (kl := l1) (kh := h1) (Lib.hid (h.out.below (HB.out ▸ (K9.out.trans (k.mono HB9.out))))) hL (by omega) (Lib.hid ⟨by rw [k.cell (p := ⟨lb, 0, none⟩) (heap_lt L9.out)]; simp [World.cell?, L9.out], by rw [k.cell (p := ⟨ob, 0, none⟩) (heap_lt S9.out)]; simp [World.cell?, S9.out], by rw [k.cell (p := ⟨ob + 1, 0, none⟩) (heap_lt H9.out)]; simp [World.cell?, H9.out]⟩))
    obtain ⟨z, hz⟩ : ∃ z, z = L.any (hidesB o l1 h1) := ⟨_, rfl⟩
    rw [← hz] at HCT
    have HZ := Lib.hid hz
    clear hz
    refine wp_region_kept (fun W => ∀ j, j < w9.heap.size → j ≠ B → W.heap[j]? = w9.heap[j]?) (by kernel_rfl) ?_
    change wpAnyE _ _ _ _ _ _ _ _ _ w9.drew
    have hS : Below w9.heap.size w9 w9.drew := (Below.refl _ _).drew
    generalize w9.drew = wa at *
    refine kept_take (i := 0) (d := 48) (v := (.slice a7 nn c7)) rfl rfl (by kernel_rfl) (by kernel_rfl) (by kernel_rfl) (fun _ _ _ h => h) (Or.inl ⟨by rfl, ?_⟩) (fun j hj _ => hS.block j hj) ?_
    · intro w' hw'
      go_simp
    try go_frame
    refine kept_take (i := 2) (d := 50) (v := (.int .i64 o)) rfl rfl (by kernel_rfl) (by kernel_rfl) (by kernel_rfl) (fun _ _ _ h => h) (Or.inl ⟨by rfl, ?_⟩) (fun j hj _ => hS.block j hj) ?_
    · intro w' hw'
      have c2 : w'.cell? ⟨lb, 0, none⟩ = some (.int .i64 o) := by have := hw' (lb) (heap_lt L9.out) (by have := HBB.out; omega); simp [World.cell?, this, L9.out]
      go_simp
    try go_frame
    refine kept_take (i := 3) (d := 51) (v := (.string (bs l1))) rfl rfl (by kernel_rfl) (by kernel_rfl) (by kernel_rfl) (fun _ _ _ h => h) (Or.inl ⟨by rfl, ?_⟩) (fun j hj _ => hS.block j hj) ?_
    · intro w' hw'
      have c2 : w'.cell? ⟨ob, 0, none⟩ = some (.string (bs l1)) := by have := hw' (ob) (heap_lt S9.out) (by have := HBB.out; omega); simp [World.cell?, this, S9.out]
      go_simp
    try go_frame
    refine kept_take (i := 4) (d := 52) (v := (.string (bs h1))) rfl rfl (by kernel_rfl) (by kernel_rfl) (by kernel_rfl) (fun _ _ _ h => h) (Or.inl ⟨by rfl, ?_⟩) (fun j hj _ => hS.block j hj) ?_
    · intro w' hw'
      have c2 : w'.cell? ⟨ob + 1, 0, none⟩ = some (.string (bs h1)) := by have := hw' (ob + 1) (heap_lt H9.out) (by have := HBB.out; omega); simp [World.cell?, this, H9.out]
      go_simp
    try go_frame
    refine kept_take (i := 5) (d := 53) (v := (.slice a n cap)) rfl rfl (by kernel_rfl) (by kernel_rfl) (by kernel_rfl) (fun _ _ _ h => h) (Or.inl ⟨by rfl, ?_⟩) (fun j hj _ => hS.block j hj) ?_
    · intro w' hw'
      go_simp
    try go_frame
    refine kept_take (i := 6) (d := 54) (v := (.func (.func 93) #[] #[.pointer (some ⟨lb, 0, none⟩), .pointer (some ⟨ob, 0, none⟩), .pointer (some ⟨ob + 1, 0, none⟩)])) rfl rfl (by kernel_rfl) (by kernel_rfl) (by kernel_rfl) (fun _ _ _ h => h) (Or.inl ⟨by rfl, ?_⟩) (fun j hj _ => hS.block j hj) ?_
    · intro w' hw'
      go_simp
    try go_frame
    refine wpAnyE_ready (rs := [1]) (by kernel_rfl) (by simp) (AllE.cons rfl (fun K hK0 => ?_) AllE.nil)
    go_simp
    refine Calls.mono (HFL.out _ hS) ?_
    rintro e wb ⟨vb, rfl, hob, kb⟩
    obtain ⟨ab, cb, rfl⟩ := OffRow.slice hob
    have hS2 : Below w9.heap.size w9 wb := hS.trans (kb.mono hS.size)
    have OB := Lib.hid (own_mono hob (Nat.le_trans HB9.out hS.size))
    rw [List.length_map, ← HJL.out] at OB ⊢
    refine hK0.out _ _ (fun _ j hj _ => hS2.block j hj) (fun _ => ?_)
    clear hK0 K hS kb hob
    have hS := hS2
    clear hS2
    try go_frame
    refine wpAnyE_ready (rs := [7]) (by kernel_rfl) (by simp) (AllE.cons rfl (fun K hK0 => ?_) AllE.nil)
    go_simp
    refine Calls.mono (HCT.out _ hS) ?_
    rintro e wc ⟨rfl, kc⟩
    have hS2 : Below w9.heap.size w9 wc := hS.trans (kc.mono hS.size)
    have OC := Lib.hid (OffRow.kept OB.out (w' := wc) fun j hj => kc.block j (OffRow.lt OB.out j hj).2)
    refine hK0.out _ _ (fun _ j hj _ => hS2.block j hj) (fun _ => ?_)
    clear hK0 K hS kc OB
    have hS := hS2
    clear hS2
    try go_frame
    refine kept_take (i := 8) (d := 56) (v := (.bool (!z))) rfl rfl (by kernel_rfl) (by kernel_rfl) (by kernel_rfl) (fun _ _ _ h => h) (Or.inl ⟨by rfl, ?_⟩) (fun j hj _ => hS.block j hj) ?_
    · intro w' hw'
      go_simp
    try go_frame
    refine kept_take (i := 9) (d := 57) (v := (.agg #[.slice ab nn cb, .int .i64 o, .string (bs l1), .string (bs h1), .bool (!z)])) rfl rfl (by kernel_rfl) (by kernel_rfl) (by kernel_rfl) (fun _ _ _ h => h) (Or.inl ⟨by rfl, ?_⟩) (fun j hj _ => hS.block j hj) ?_
    · intro w' hw'
      go_simp
    try go_frame
    have RC := Lib.hid (R9.out.below hS)
    obtain ⟨d0, d1, d2, d3, d4⟩ := RC.out.c0
    have df := RC.out.free
    refine wpAnyE_ready (rs := [10]) (by kernel_rfl) (by simp) (AllE.cons rfl (fun K hK0 => ?_) AllE.nil)
    go_simp
    have KE := Lib.hid (below_set5 (K9.out.trans (hS.mono HB9.out)) (Nat.le_refl B) (.slice ab nn cb) (.int .i64 o) (.string (bs l1)) (.string (bs h1)) (.bool (!z)))
    have RE := Lib.hid (RC.out.put (.slice ab nn cb) o (bs l1) (bs h1) (!z))
    have OE := Lib.hid (show OwnI (((((wc.setCell ⟨B, 0, none⟩ (.slice ab nn cb)).setCell ⟨B, 1, none⟩ (.int .i64 o)).setCell ⟨B, 2, none⟩ (.string (bs l1))).setCell ⟨B, 3, none⟩ (.string (bs h1))).setCell ⟨B, 4, none⟩ (.bool (!z))) B (.slice ab nn cb) (J.map (·.file)) by
      unfold OwnI
      rw [List.length_map, ← HJL.out]
      exact OffRow.kept OC.out fun j hj => heap_set5 (fun e => by
        obtain ⟨cur, hcur⟩ := OffRow.tag OC.out hj
        rw [e, RC.out] at hcur
        simp at hcur) _ _ _ _ _)
    have hSE : ∀ j, j < w9.heap.size → j ≠ B → (((((wc.setCell ⟨B, 0, none⟩ (.slice ab nn cb)).setCell ⟨B, 1, none⟩ (.int .i64 o)).setCell ⟨B, 2, none⟩ (.string (bs l1))).setCell ⟨B, 3, none⟩ (.string (bs h1))).setCell ⟨B, 4, none⟩ (.bool (!z))).heap[j]? = w9.heap[j]? := fun j hj hne => (heap_set5 hne _ _ _ _ _).trans (hS.block j hj)
    refine hK0.out _ _ (fun _ => hSE) (fun _ => ?_)
    clear hK0 K hS d0 d1 d2 d3 d4 df
    try go_frame
    generalize (((((wc.setCell ⟨B, 0, none⟩ (.slice ab nn cb)).setCell ⟨B, 1, none⟩ (.int .i64 o)).setCell ⟨B, 2, none⟩ (.string (bs l1))).setCell ⟨B, 3, none⟩ (.string (bs h1))).setCell ⟨B, 4, none⟩ (.bool (!z))) = wd at *
    refine kept_take (i := 11) (d := 5) (v := (.bool true)) rfl rfl (by kernel_rfl) (by kernel_rfl) (by kernel_rfl) (fun _ _ _ h => h) (Or.inl ⟨by rfl, ?_⟩) hSE ?_
    · intro w' hw'
      go_simp
    try go_frame
    refine wpAnyE_done (by kernel_rfl) ?_ _
    have HPL := Lib.hid (show planL L I = ⟨J, o, l1, h1, !z⟩ by unfold planL; rw [HO.out, HJ.out, ← HLH1.out.1, ← HLH1.out.2, ← HZ.out])
    go_wp2
    refine bodyPost_ret (results_pl rfl _ _ B _ _ _ _ _ _ rfl rfl RE.out) rfl ?_
    refine ⟨.inr ⟨HNE.out, ?_⟩, KE.out⟩
    rw [HPL.out]
    show ∃ a c, _ = Ending.returned (Value.tuple #[Value.agg #[Value.slice a J.length c, .int .i64 o, .string (bs l1), .string (bs h1), .bool (!z)], .bool true]) ∧ OwnI wd B (Value.slice a J.length c) (J.map (·.file))
    rw [← HJL.out]
    exact ⟨ab, cb, rfl, OE.out⟩
end Go.Proofs.YtfbaenhajlckjaaGreat
/- The program's next merging is a plan that may be done; what Find tells (plain). -/
set_option linter.unusedVariables false
set_option maxRecDepth 100000
namespace Go.Proofs.YtfbaenhajlckjaaGreat

theorem minB_le (a b : List UInt8) : ltB a (minB a b) = false ∧ ltB b (minB a b) = false := by
  unfold minB
  cases h : ltB b a with
  | true => rw [if_pos rfl]; exact ⟨ltB_asymm h, ltB_irrefl b⟩
  | false => rw [if_neg (by simp)]; exact ⟨ltB_irrefl a, h⟩
theorem maxB_ge (a b : List UInt8) : ltB (maxB a b) a = false ∧ ltB (maxB a b) b = false := by
  unfold maxB
  cases h : ltB a b with
  | true => rw [if_pos rfl]; exact ⟨ltB_asymm h, ltB_irrefl b⟩
  | false => rw [if_neg (by simp)]; exact ⟨ltB_irrefl a, h⟩
theorem minB_is (a b : List UInt8) : minB a b = a ∨ minB a b = b := by unfold minB; split; exact .inr rfl; exact .inl rfl
theorem maxB_is (a b : List UInt8) : maxB a b = a ∨ maxB a b = b := by unfold maxB; split; exact .inr rfl; exact .inl rfl
theorem low_fold : ∀ (M : List Tb) (a : List UInt8), (ltB a (M.foldl (fun a t => minB a t.low) a) = false) ∧ (∀ t ∈ M, ltB t.low (M.foldl (fun a t => minB a t.low) a) = false) ∧ (M.foldl (fun a t => minB a t.low) a = a ∨ ∃ t ∈ M, M.foldl (fun a t => minB a t.low) a = t.low)
  | [], a => ⟨ltB_irrefl a, fun t h => (by cases h), .inl rfl⟩
  | x :: M, a => by
    rw [List.foldl_cons]
    obtain ⟨h1, h2, h3⟩ := low_fold M (minB a x.low)
    obtain ⟨m1, m2⟩ := minB_le a x.low
    refine ⟨ltB_ntrans m1 h1, fun t ht => ?_, ?_⟩
    · rcases List.mem_cons.1 ht with rfl | ht
      · exact ltB_ntrans m2 h1
      · exact h2 t ht
    · rcases h3 with e | ⟨t, ht, e⟩
      · rw [e]
        rcases minB_is a x.low with e | e
        · exact .inl e
        · exact .inr ⟨x, List.mem_cons_self .., e⟩
      · exact .inr ⟨t, List.mem_cons_of_mem _ ht, e⟩
theorem high_fold : ∀ (M : List Tb) (a : List UInt8), (ltB (M.foldl (fun a t => maxB a t.high) a) a = false) ∧ (∀ t ∈ M, ltB (M.foldl (fun a t => maxB a t.high) a) t.high = false) ∧ (M.foldl (fun a t => maxB a t.high) a = a ∨ ∃ t ∈ M, M.foldl (fun a t => maxB a t.high) a = t.high)
  | [], a => ⟨ltB_irrefl a, fun t h => (by cases h), .inl rfl⟩
  | x :: M, a => by
    rw [List.foldl_cons]
    obtain ⟨h1, h2, h3⟩ := high_fold M (maxB a x.high)
    obtain ⟨m1, m2⟩ := maxB_ge a x.high
    refine ⟨ltB_ntrans h1 m1, fun t ht => ?_, ?_⟩
    · rcases List.mem_cons.1 ht with rfl | ht
      · exact ltB_ntrans h1 m2
      · exact h2 t ht
    · rcases h3 with e | ⟨t, ht, e⟩
      · rw [e]
        rcases maxB_is a x.high with e | e
        · exact .inl e
        · exact .inr ⟨x, List.mem_cons_self .., e⟩
      · exact .inr ⟨t, List.mem_cons_of_mem _ ht, e⟩
theorem low_is {L : List Tb} (h : L ≠ []) : (∀ t ∈ L, ltB t.low (lowL L) = false) ∧ ∃ t ∈ L, lowL L = t.low := by
  cases L with
  | nil => exact absurd rfl h
  | cons x L =>
    obtain ⟨h1, h2, h3⟩ := low_fold (x :: L) x.low
    refine ⟨h2, ?_⟩
    rcases h3 with e | e
    · exact ⟨x, List.mem_cons_self .., e⟩
    · exact e
theorem high_is {L : List Tb} (h : L ≠ []) : (∀ t ∈ L, ltB (highL L) t.high = false) ∧ ∃ t ∈ L, highL L = t.high := by
  cases L with
  | nil => exact absurd rfl h
  | cons x L =>
    obtain ⟨h1, h2, h3⟩ := high_fold (x :: L) x.high
    refine ⟨h2, ?_⟩
    rcases h3 with e | e
    · exact ⟨x, List.mem_cons_self .., e⟩
    · exact e
/-- THE NEXT MERGING MAY BE DONE. -/
theorem plan_ok {s : St} (h : s.Ok) {fan : Int} (hf : 0 ≤ fan) (hne : leaveL s.tabs fan ≠ []) : PlanOk s (planL s.tabs (leaveL s.tabs fan)).ins (planL s.tabs (leaveL s.tabs fan)).out (planL s.tabs (leaveL s.tabs fan)).low (planL s.tabs (leaveL s.tabs fan)).high := by
  obtain ⟨I, hI⟩ : ∃ I, I = leaveL s.tabs fan := ⟨_, rfl⟩
  rw [← hI] at hne ⊢
  obtain ⟨l, hl⟩ : ∃ l, l = (I.headD default).lev := ⟨_, rfl⟩
  have hcase : (l = 0 ∧ I = atLev s.tabs 0) ∨ (1 ≤ l ∧ l ≤ 4 ∧ ∃ t ∈ s.tabs, t.lev = l ∧ I = [t]) := by
    rcases leaveL_is (T := s.tabs) (fan := fan) hf with e | e | ⟨t, ht, h1, h2, e⟩
    · rw [← hI] at e; exact absurd e hne
    · rw [← hI] at e
      refine .inl ⟨?_, e⟩
      cases hI2 : I with
      | nil => exact absurd hI2 hne
      | cons y I' =>
        have hy : y ∈ atLev s.tabs 0 := by rw [← e, hI2]; exact List.mem_cons_self ..
        rw [hl, hI2]
        simpa using (List.mem_filter.1 hy).2
    · rw [← hI] at e
      have : l = t.lev := by rw [hl, e]; rfl
      exact .inr ⟨by omega, by omega, t, ht, this.symm, e⟩
  have hl0 : 0 ≤ l ∧ l ≤ 4 := by rcases hcase with ⟨e, _⟩ | ⟨a, b, _⟩ <;> omega
  have hIm : ∀ t ∈ I, t ∈ s.tabs ∧ t.lev = l := fun t ht => by
    rcases hcase with ⟨e, e2⟩ | ⟨a, b, u, hu, e1, e2⟩
    · rw [e2] at ht
      obtain ⟨a, b⟩ := List.mem_filter.1 ht
      exact ⟨a, by rw [e]; simpa using b⟩
    · rw [e2] at ht
      rw [List.mem_singleton.1 ht]; exact ⟨hu, e1⟩
  have hIr : I.Pairwise fun a b => tlt a b = true := by
    rcases hcase with ⟨e, e2⟩ | ⟨a, b, u, hu, e1, e2⟩
    · rw [e2]; exact h.rise.sublist List.filter_sublist
    · rw [e2]; exact List.pairwise_singleton ..
  obtain ⟨o, ho⟩ : ∃ o, o = l + 1 := ⟨_, rfl⟩
  have hpl : planL s.tabs I = ⟨insL s.tabs I o, o, lowL (insL s.tabs I o), highL (insL s.tabs I o), !s.tabs.any (hidesB o (lowL (insL s.tabs I o)) (highL (insL s.tabs I o)))⟩ := by unfold planL; rw [← hl, ← ho]
  rw [hpl]
  obtain ⟨M, hM⟩ : ∃ M, M = s.tabs.filter fun t => decide (t.lev = o) && mayB t (lowL I) (highL I) := ⟨_, rfl⟩
  obtain ⟨J, hJ⟩ : ∃ J, J = insL s.tabs I o := ⟨_, rfl⟩
  have hJM : J = I ++ M := by rw [hJ, hM]; rfl
  have hMm : ∀ t ∈ M, t ∈ s.tabs ∧ t.lev = o ∧ mayB t (lowL I) (highL I) = true := fun t ht => by
    rw [hM] at ht
    obtain ⟨a, b⟩ := List.mem_filter.1 ht
    simp only [Bool.and_eq_true, decide_eq_true_eq] at b
    exact ⟨a, b.1, b.2⟩
  have hJne : J ≠ [] := by rw [hJM]; intro e; exact hne (List.append_eq_nil_iff.1 e).1
  have hJt : ∀ t ∈ J, t ∈ s.tabs := fun t ht => by rw [hJM] at ht; rcases List.mem_append.1 ht with e | e; (exact (hIm t e).1); (exact (hMm t e).1)
  obtain ⟨lo1, t1, ht1, lo2⟩ := low_is hJne
  obtain ⟨hi1, t2, ht2, hi2⟩ := high_is hJne
  obtain ⟨li1, ti1, hti1, li2⟩ := low_is hne
  obtain ⟨ri1, ti2, hti2, ri2⟩ := high_is hne
  show PlanOk s (insL s.tabs I o) o (lowL (insL s.tabs I o)) (highL (insL s.tabs I o))
  rw [← hJ]
  refine ⟨hJt, ?_, hJne, by omega, by omega, ?_, ?_, fun t ht => ⟨lo1 t ht, hi1 t ht⟩, ?_, ?_⟩
  · rw [hJM]
    refine List.pairwise_append.2 ⟨hIr, ?_, fun a ha b hb => ?_⟩
    · rw [hM]; exact h.rise.sublist List.filter_sublist
    · have e1 := (hIm a ha).2
      have e2 := (hMm b hb).2.1
      unfold tlt
      rw [if_neg (by omega)]
      simp; omega
  · intro t ht
    rw [hJM] at ht
    rcases List.mem_append.1 ht with e | e
    · left; have := (hIm t e).2; omega
    · right; exact (hMm t e).2.1
  · intro e u hu hu0
    rcases hcase with ⟨e1, e2⟩ | ⟨a, _⟩
    · rw [hJM, e2]
      exact List.mem_append_left _ (List.mem_filter.2 ⟨hu, by simpa using hu0⟩)
    · omega
  · have a1 := lo1 t1 ht1
    have a2 := hi1 t1 ht1
    have a3 := (h.tab t1 (hJt t1 ht1)).2.2.2
    exact ltB_ntrans a2 (ltB_ntrans a3 a1)
  · intro u hu huo huJ
    have hu4 := (h.tab u hu).2.2.2
    have hnm : mayB u (lowL I) (highL I) = false := by
      cases e : mayB u (lowL I) (highL I) with
      | false => rfl
      | true =>
        exfalso
        refine huJ ?_
        rw [hJM, hM]
        exact List.mem_append_right _ (List.mem_filter.2 ⟨hu, by simp [huo, e]⟩)
    have hlh : ltB (highL I) (lowL I) = false := ltB_ntrans (ri1 ti1 hti1) (ltB_ntrans (h.tab ti1 (hIm ti1 hti1).1).2.2.2 (li1 ti1 hti1))
    have hno : ltB (highL I) u.low = true ∨ ltB u.high (lowL I) = true := by
      cases e1 : ltB (highL I) u.low with
      | true => exact .inl rfl
      | false =>
        cases e2 : ltB u.high (lowL I) with
        | true => exact .inr rfl
        | false =>
          have := (mayB_iff u (lowL I) (highL I)).2 ⟨hu4, e1, e2, hlh⟩
          rw [hnm] at this; cases this
    rcases hno with e | e
    · right
      cases hh : ltB (highL J) u.low with
      | true => rfl
      | false =>
        exfalso
        rw [hi2] at hh
        have ht2' := ht2
        rw [hJM] at ht2'
        rcases List.mem_append.1 ht2' with q | q
        · have := ltB_le_lt (ri1 t2 q) e
          rw [hh] at this; cases this
        · obtain ⟨m1, m2, m3⟩ := hMm t2 q
          obtain ⟨n1, n2, n3, n4⟩ := (mayB_iff t2 _ _).1 m3
          -- u.low lies within t2
          have k1 : inT t2 u.low := by
            refine ⟨?_, hh⟩
            cases hc : ltB u.low t2.low with
            | false => rfl
            | true => have := ltB_trans e hc; rw [n2] at this; cases this
          have k2 : inT u u.low := ⟨ltB_irrefl _, hu4⟩
          exact huJ ((apart_one h (hJt t2 ht2) hu (by omega) (by omega) k1 k2) ▸ ht2)
    · left
      cases hh : ltB u.high (lowL J) with
      | true => rfl
      | false =>
        exfalso
        rw [lo2] at hh
        have ht1' := ht1
        rw [hJM] at ht1'
        rcases List.mem_append.1 ht1' with q | q
        · have := ltB_lt_le e (li1 t1 q)
          rw [hh] at this; cases this
        · obtain ⟨m1, m2, m3⟩ := hMm t1 q
          obtain ⟨n1, n2, n3, n4⟩ := (mayB_iff t1 _ _).1 m3
          have k1 : inT t1 u.high := by
            refine ⟨hh, ?_⟩
            cases hc : ltB t1.high u.high with
            | false => rfl
            | true => have := ltB_trans hc e; rw [n3] at this; cases this
          have k2 : inT u u.high := ⟨hu4, ltB_irrefl _⟩
          exact huJ ((apart_one h (hJt t1 ht1) hu (by omega) (by omega) k1 k2) ▸ ht1)
/-- What Find tells is enough. -/
theorem find_first {s : St} {n : Int} {val : Int → List UInt8 → Option Int} {last : List UInt8 → Option Int} (h : Serve s n val last) (k : List UInt8) : (s.tabs.filter fun t => mayB t k k).findSome? (fun t => val t.file k) = last k := by
  rw [fs_sub, h.first]
  intro t ht hp
  cases hv : val t.file k with
  | none => rfl
  | some v =>
    have hin := h.key t ht k v hv
    have := (mayB_iff t k k).2 ⟨(h.ok.tab t ht).2.2.2, hin.1, hin.2, ltB_irrefl k⟩
    rw [hp] at this; cases this
end Go.Proofs.YtfbaenhajlckjaaGreat
/- Maps of texts to numbers, and a map of files to such maps. -/
set_option linter.unusedVariables false
set_option maxRecDepth 100000
namespace Go.Proofs.YtfbaenhajlckjaaGreat
open Go.RowKit Go.Maps Go.WideShapes Go.ChangeMaps

theorem keyedS : Keyed Tryz.prog 9 := string_keyed Tryz.underlying9
theorem key_str {k : List UInt8} (h : k.length ≤ maxLen) : keyOf Tryz.prog 9 (.string (bs k)) = some (.string k) := WideMaps.keyOf_string_mk Tryz.underlying9 (by rw [bs_size]; exact h)
theorem key_int {f : Int} (h1 : -9223372036854775808 ≤ f) (h2 : f ≤ 9223372036854775807) : keyOf Tryz.prog 3 (.int .i64 f) = some (.int .i64 f) := keyOf_int_mk Tryz.underlying3 (wf_i64 h1 h2)
/-- A map of texts to numbers that reads as g; it has n entries at most. -/
def MS (w : World) (b n : Nat) (g : List UInt8 → Option Int) : Prop := ∃ D : DataW Unit, w.ownsMap Tryz.prog 9 (plainElem Tryz.prog 3) b n D ∧ ∀ k : List UInt8, Maps.has D (.string k) = (g k).isSome ∧ D.atKey (.string k) (.lit (.int .i64 0)) = .lit (.int .i64 ((g k).getD 0))
def putG (g : List UInt8 → Option Int) (k : List UInt8) (v : Int) : List UInt8 → Option Int := fun x => if x = k then some v else g x
namespace MS
variable {w w' : World} {b n : Nat} {g : List UInt8 → Option Int}
theorem lt (h : MS w b n g) : b < w.heap.size := by obtain ⟨D, h, _⟩ := h; exact h.lt
theorem tag (h : MS w b n g) : ∃ es c, w.heap[b]? = some (.map es c) := by obtain ⟨D, ⟨es, c, hb, _⟩, _⟩ := h; exact ⟨es, c, hb⟩
theorem kept (h : MS w b n g) (hk : w'.heap[b]? = w.heap[b]?) : MS w' b n g := by
  obtain ⟨D, ⟨es, c, hb, r⟩, hD⟩ := h
  exact ⟨D, ⟨es, c, hk.trans hb, r⟩, hD⟩
theorem below (h : MS w b n g) (k : Below w.heap.size w w') : MS w' b n g := h.kept (k.block b h.lt)
theorem mono (h : MS w b n g) {m : Nat} (hm : n ≤ m) : MS w b m g := by
  obtain ⟨D, h, hD⟩ := h
  exact ⟨D, h.mono hm, hD⟩
theorem made (w : World) : MS (w.alloc (.map #[] 0)) w.heap.size 0 (fun _ => none) :=
  ⟨_, World.ownsMap_made w _ _ _, fun k => ⟨rfl, rfl⟩⟩
theorem same (h : MS w b n g) {g' : List UInt8 → Option Int} (e : ∀ k, g' k = g k) : MS w b n g' := by
  have : g' = g := funext e
  rw [this]; exact h
theorem look (h : MS w b n g) {k : List UInt8} (hk : k.length ≤ maxLen) : (Instr.lookup 89 (.map (some b)) (.string (bs k)) true).run Tryz.prog w = .ok (.tuple #[.int .i64 ((g k).getD 0), .bool (g k).isSome]) w := by
  obtain ⟨D, h, hD⟩ := h
  obtain ⟨h1, h2⟩ := hD k
  have hz : (zeroValue 3).run Tryz.prog w = .ok (.int .i64 0) w := by kernel_rfl
  obtain ⟨v, ps, hrun, hv⟩ := h.look_ok keyedS Tryz.underlying89 hz (plainElem_int Tryz.underlying3 (by decide)) (key_str hk)
  obtain ⟨c, rfl, hc, _⟩ := plainElem_int_inv Tryz.underlying3 hv
  rw [hrun, h1]
  have hc1 : D.atKey (.string k) (.lit (.int .i64 0)) = .lit (.int .i64 c) := congrArg Prod.fst hc
  rw [h2] at hc1
  injection hc1 with hc1
  injection hc1 with _ hc1
  rw [hc1]
theorem put {m : Nat} {D : DataW Unit} {k : List UInt8} {v : Int} (hw : w.ownsMap Tryz.prog 9 (plainElem Tryz.prog 3) b n D) (hD : ∀ k : List UInt8, Maps.has D (.string k) = (g k).isSome ∧ D.atKey (.string k) (.lit (.int .i64 0)) = .lit (.int .i64 ((g k).getD 0)))
    (hp : w'.ownsMap Tryz.prog 9 (plainElem Tryz.prog 3) b m (D.put (.string k) (.lit (.int .i64 v)))) : MS w' b m (putG g k v) := by
  refine ⟨_, hp, fun x => ?_⟩
  unfold putG
  by_cases e : x = k
  · subst e
    rw [if_pos rfl]
    exact ⟨has_put_same hw.isMap (by simp [WideAt.IsKeyLit]) _, atKey_put_same hw.isMap (by simp [WideAt.IsKeyLit]) _ _⟩
  · rw [if_neg e]
    have hne : (Lit.string x) ≠ .string k := fun h => e (by injection h)
    rw [has_put_other hne, atKey_put_other hne]
    exact hD x
theorem size_le (h : MS w b n g) : ∃ z : Nat, z ≤ n ∧ ∀ ty, (Builtin.len_ #[89] ty #[.map (some b)]).run Tryz.prog w = .ok (.int .i64 (z : Int)) w := by
  obtain ⟨D, h, _⟩ := h
  exact ⟨Maps.size D, h.size_le, fun ty => h.len Tryz.underlying89 ty⟩
end MS

/-- How a map reads as an element: its block's number; nil: -1. -/
def mapR : Value → Option (DataW Unit × List MemPlace)
  | .map none => some (.lit (.int .i64 (-1)), [])
  | .map (some b) => some (.lit (.int .i64 (b : Int)), [])
  | _ => none
theorem mapR_inv {v : Value} {y : DataW Unit × List MemPlace} (h : mapR v = some y) : (v = .map none ∧ y = (.lit (.int .i64 (-1)), [])) ∨ ∃ b : Nat, v = .map (some b) ∧ y = (.lit (.int .i64 (b : Int)), []) := by
  unfold mapR at h
  split at h
  · cases h; exact .inl ⟨rfl, rfl⟩
  · cases h; exact .inr ⟨_, rfl, rfl⟩
  · cases h
def blkI : Option Nat → Int
  | none => -1
  | some b => (b : Int)
/-- A map of files to maps that has the blocks blk; n entries at most. -/
def MO (w : World) (b n : Nat) (blk : Int → Option Nat) : Prop := ∃ D : DataW Unit, w.ownsMap Tryz.prog 3 mapR b n D ∧ ∀ f : Int, D.atKey (.int .i64 f) (.lit (.int .i64 (-1))) = .lit (.int .i64 (blkI (blk f)))
def putO (blk : Int → Option Nat) (f : Int) (b : Nat) : Int → Option Nat := fun x => if x = f then some b else blk x
namespace MO
variable {w w' : World} {b n : Nat} {blk : Int → Option Nat}
theorem lt (h : MO w b n blk) : b < w.heap.size := by obtain ⟨D, h, _⟩ := h; exact h.lt
theorem tag (h : MO w b n blk) : ∃ es c, w.heap[b]? = some (.map es c) := by obtain ⟨D, ⟨es, c, hb, _⟩, _⟩ := h; exact ⟨es, c, hb⟩
theorem kept (h : MO w b n blk) (hk : w'.heap[b]? = w.heap[b]?) : MO w' b n blk := by
  obtain ⟨D, ⟨es, c, hb, r⟩, hD⟩ := h
  exact ⟨D, ⟨es, c, hk.trans hb, r⟩, hD⟩
theorem below (h : MO w b n blk) (k : Below w.heap.size w w') : MO w' b n blk := h.kept (k.block b h.lt)
theorem mono (h : MO w b n blk) {m : Nat} (hm : n ≤ m) : MO w b m blk := by
  obtain ⟨D, h, hD⟩ := h
  exact ⟨D, h.mono hm, hD⟩
theorem made (w : World) : MO (w.alloc (.map #[] 0)) w.heap.size 0 (fun _ => none) :=
  ⟨_, World.ownsMap_made w _ _ _, fun k => rfl⟩
theorem look (h : MO w b n blk) {f : Int} (h1 : -9223372036854775808 ≤ f) (h2 : f ≤ 9223372036854775807) {c : Nat} (hc : blk f = some c) : (Instr.lookup 88 (.map (some b)) (.int .i64 f) false).run Tryz.prog w = .ok (.map (some c)) w := by
  obtain ⟨D, h, hD⟩ := h
  have hz : (zeroValue 89).run Tryz.prog w = .ok (.map none) w := by kernel_rfl
  obtain ⟨v, ps, hrun, hv⟩ := h.lookup keyedI Tryz.underlying88 hz (show mapR (.map none) = some (.lit (.int .i64 (-1)), []) from rfl) (key_int h1 h2)
  rw [hD f, hc] at hv
  rcases mapR_inv hv with ⟨rfl, e⟩ | ⟨b', rfl, e⟩
  · injection e with e _
    injection e with e
    injection e with _ e
    simp only [blkI] at e
    omega
  · injection e with e _
    injection e with e
    injection e with _ e
    simp only [blkI] at e
    have : c = b' := by omega
    subst this
    exact hrun
theorem put {m : Nat} {D : DataW Unit} {f : Int} {c : Nat} (hw : w.ownsMap Tryz.prog 3 mapR b n D) (hD : ∀ f : Int, D.atKey (.int .i64 f) (.lit (.int .i64 (-1))) = .lit (.int .i64 (blkI (blk f))))
    (hp : w'.ownsMap Tryz.prog 3 mapR b m (D.put (.int .i64 f) (.lit (.int .i64 (c : Int))))) : MO w' b m (putO blk f c) := by
  refine ⟨_, hp, fun x => ?_⟩
  unfold putO
  by_cases e : x = f
  · subst e
    rw [if_pos rfl]
    exact atKey_put_same hw.isMap (by simp [WideAt.IsKeyLit]) _ _
  · rw [if_neg e]
    have hne : (Lit.int .i64 x) ≠ .int .i64 f := fun h => e (by injection h)
    rw [atKey_put_other hne]
    exact hD x
end MO
end Go.Proofs.YtfbaenhajlckjaaGreat
