/- Maps stay as they are, whatever is made of them. -/
import Derived.Test.YtbmihajbdobgbaaMemPlaysWalk
set_option linter.unusedVariables false
set_option maxRecDepth 100000
namespace Go.Proofs.Ytbmihajbdobgbaa.MI
open Go.RowKit

theorem infoMap : (Try.prog.info? 27).map (fun i => (i.zero, i.size, i.bytes)) = some (some (.agg #[.pointer none]), 1, 8) := by kernel_rfl
theorem infoPairs : (Try.prog.info? 28).map (fun i => (i.zero, i.size, i.bytes)) = some (some (.slice none 0 0), 1, 24) := by kernel_rfl
theorem Pl.kn {w w' : World} {v : Value} {L : PL} (h : Pl w v L) (k : Kn 59 w w') : Pl w' v L :=
  OffRow.kept h fun j hj => by
    obtain ⟨cur, hc⟩ := OffRow.tag h hj
    exact k.2 j cur hc
/-- A map that was, and its list. -/
structure El where
  t : Tr Int
  u : Option Addr
  v : Value
structure El.Ok (x : El) (n : Nat) (w : World) : Prop where
  map : IsM w x.t
  ptr : x.t.ptr = .pointer x.u
  pl : Pl w x.v x.t.prs
  len : x.t.prs.length ≤ n
/-- What a world keeps of maps and lists. -/
structure K2 (w w' : World) : Prop where
  kn : Kn 64 w w'
  kp : Kn 59 w w'
theorem K2.below {w w' : World} (h : Below w.heap.size w w') : K2 w w' := ⟨Kn.of_below h, Kn.of_below h⟩
theorem K2.trans {a b c : World} (h : K2 a b) (k : K2 b c) : K2 a c := ⟨h.kn.trans k.kn, h.kp.trans k.kp⟩
theorem El.Ok.keep {x : El} {n m : Nat} {w w' : World} (h : x.Ok n w) (k : K2 w w') (hm : n ≤ m) : x.Ok m w' := ⟨h.map.kn k.kn, h.ptr, h.pl.kn k.kp, Nat.le_trans h.len hm⟩
/-- The rows of all maps and all lists. -/
def RwM (B : Nat) (v : Value) (Ts : List El) (w : World) : Prop := OffRow w B 27 1 v Ts.length (Ts.map fun x => .pointer x.u)
def RwL (B : Nat) (v : Value) (Ts : List El) (w : World) : Prop := OffRow w B 28 1 v Ts.length (Ts.map fun x => x.v)
/-- A row of other things has grown: what is kept. -/
structure Grew (B : Nat) (t : TypeId) (w w' : World) : Prop where
  k2 : K2 w w'
  size : w.heap.size ≤ w'.heap.size
  low : ∀ b : Nat, b < B → b < w.heap.size → w'.heap[b]? = w.heap[b]?
  other : ∀ (b : Nat) (cs : Array Value) (ty : TypeId), w.heap[b]? = some (.cells cs ty (0, 0)) → ty ≠ t → w'.heap[b]? = w.heap[b]?
  below : Below (min B w.heap.size) w w'
theorem grew {B : Nat} {t : TypeId} {n : Nat} {v : Value} {xs : List Value} {w w' : World} {o : Obj} (h : OffRow w B t 1 v n xs) (hg : (w.alloc o).grownBy w' v.ownBlock) (h1 : t ≠ 64) (h2 : t ≠ 59) : Grew B t w w' := by
  have hs : w.heap.size ≤ w'.heap.size := by have := hg.size; simp at this; omega
  have hb : ∀ b, b < w.heap.size → v.ownBlock ≠ some b → w'.heap[b]? = w.heap[b]? := fun b hb hv => (hg.block b (by simp; omega) (fun e => hv e.symm)).trans (Below.heap_alloc w o b hb)
  have hk : ∀ ty, t ≠ ty → Kn ty w w' := fun ty hty => ⟨hs, fun b cs hc => hb b (heap_lt hc) fun e => by
    obtain ⟨cur, hcur⟩ := h.tag e
    rw [hc] at hcur
    injection hcur with hcur
    injection hcur with _ hcur
    exact hty hcur.symm⟩
  refine ⟨⟨hk _ h1, hk _ h2⟩, hs, fun b hB hlt => hb b hlt fun e => by have := (h.lt b e).1; omega, fun b cs ty hc hty => hb b (heap_lt hc) fun e => ?_, ?_⟩
  · obtain ⟨cur, hcur⟩ := h.tag e
    rw [hc] at hcur
    injection hcur with hcur
    injection hcur with _ hcur
    exact hty hcur
  · exact ⟨hg.os, hg.tape, hg.output, hs, fun b hlt => hb b (by omega) fun e => by have := (h.lt b e).1; omega⟩
theorem PlS.move {w : World} {bm : Nat} {lv : Value} {i : Nat} {t : Tr Int} {u : Option Addr} {wr w' : World} (h : PlS w bm lv i t u wr) (k : K2 wr w') (hb : w'.heap[bm]? = wr.heap[bm]?) (hB : Below w.heap.size wr w') : PlS w bm lv i t u w' :=
  ⟨h.below.trans hB, h.lo, hb.trans h.box, h.map.kn k.kn, h.ptr, h.pl.kn k.kp, h.len⟩
/-- Between two rounds: the map that is gone on with, all maps and lists that were. -/
structure StS (w : World) (bm : Nat) (lv mv sv : Value) (i : Nat) (t : Tr Int) (u : Option Addr) (Ts : List El) (wr : World) : Prop where
  now : PlS w bm lv i t u wr
  maps : RwM (bm + 1) mv Ts wr
  lists : RwL (bm + 1) sv Ts wr
  all : ∀ x ∈ Ts, x.Ok i wr
theorem RwM.below {B : Nat} {v : Value} {Ts : List El} {w w' : World} (h : RwM B v Ts w) (k : Below w.heap.size w w') : RwM B v Ts w' := OffRow.below h k
theorem RwL.below {B : Nat} {v : Value} {Ts : List El} {w w' : World} (h : RwL B v Ts w) (k : Below w.heap.size w w') : RwL B v Ts w' := OffRow.below h k
theorem row_set {w : World} {b o B n : Nat} {e : TypeId} {v : Value} {xs : List Value} (h : OffRow w B e 1 v n xs) (hb : b < B) (x : Value) : OffRow (w.setCell ⟨b, o, none⟩ x) B e 1 v n xs :=
  h.kept fun j hj => heap_set_other (fun e => by subst e; have := (h.lt _ hj).1; omega) x
/-- Both rows have grown. -/
theorem StS.push {w : World} {bm : Nat} {lv mv sv mv2 sv2 : Value} {i : Nat} {t : Tr Int} {u : Option Addr} {Ts : List El} {wr w1 w2 : World} {o1 o2 : Obj} (h : StS w bm lv mv sv i t u Ts wr)
    (r1 : OffRow w1 (bm + 1) 27 1 mv2 (Ts.length + 1) ((Ts.map fun x => .pointer x.u) ++ [.pointer u])) (g1 : (wr.alloc o1).grownBy w1 mv.ownBlock)
    (r2 : OffRow w2 (bm + 1) 28 1 sv2 (Ts.length + 1) ((Ts.map fun x => x.v) ++ [lv])) (g2 : (w1.alloc o2).grownBy w2 sv.ownBlock) (hlt : bm < wr.heap.size) :
    StS w bm lv mv2 sv2 i t u (Ts ++ [⟨t, u, lv⟩]) w2 := by
  have G1 := grew h.maps g1 (by decide) (by decide)
  have hs1 : OffRow w1 (bm + 1) 28 1 sv Ts.length (Ts.map fun x => x.v) := OffRow.kept h.lists fun j hj => by
    obtain ⟨cur, hc⟩ := OffRow.tag h.lists hj
    exact G1.other j cur _ hc (by decide)
  have G2 := grew hs1 g2 (by decide) (by decide)
  have hlo := h.now.lo
  have hsz := h.now.below.size
  have KK := G1.k2.trans G2.k2
  have hbm : w2.heap[bm]? = wr.heap[bm]? := (G2.low bm (by omega) (by have := G1.size; omega)).trans (G1.low bm (by omega) hlt)
  have B12 : Below w.heap.size wr w2 := (G1.below.mono (by omega)).trans (G2.below.mono (by have := G1.size; omega))
  have hnow := h.now.move KK hbm B12
  refine ⟨hnow, ?_, ?_, fun x hx => ?_⟩
  · have : OffRow w2 (bm + 1) 27 1 mv2 (Ts.length + 1) ((Ts.map fun x => .pointer x.u) ++ [.pointer u]) := r1.kept fun j hj => by
      obtain ⟨cur, hc⟩ := r1.tag hj
      exact G2.other j cur _ hc (by decide)
    unfold RwM
    rw [List.length_append, List.map_append]
    exact this
  · unfold RwL
    rw [List.length_append, List.map_append]
    exact r2
  · rcases List.mem_append.1 hx with hx | hx
    · exact (h.all x hx).keep KK (Nat.le_refl _)
    · rw [List.mem_singleton] at hx
      subst hx
      exact ⟨hnow.map, hnow.ptr, hnow.pl, hnow.len⟩
/-- A call has been done. -/
theorem StS.does {w : World} {bm : Nat} {lv lv' mv sv : Value} {i : Nat} {t t' : Tr Int} {u u' : Option Addr} {Ts : List El} {wr w' : World} {o : OpM} (h : StS w bm lv mv sv i t u Ts wr) (k : Below wr.heap.size wr w') (hu : t'.ptr = .pointer u') (hm : IsM w' t') (hp : Pl w' lv' (doesL t.prs o)) (hL : t'.prs = doesL t.prs o) : StS w bm lv' mv sv (i + 1) t' u' Ts (w'.setCell ⟨bm, 0, none⟩ (.pointer u')) := by
  have hb := (k.block bm (heap_lt h.now.box)).trans h.now.box
  have KK : K2 wr (w'.setCell ⟨bm, 0, none⟩ (.pointer u')) := ⟨(Kn.of_below k).set hb (by decide) _, (Kn.of_below k).set hb (by decide) _⟩
  exact ⟨h.now.does k hu hm hp hL, row_set (h.maps.below k) (by omega) _, row_set (h.lists.below k) (by omega) _, fun x hx => (h.all x hx).keep KK (Nat.le_succ _)⟩
/-- An elder one is gone on with. -/
theorem StS.back {w : World} {bm : Nat} {lv mv sv : Value} {i : Nat} {t : Tr Int} {u : Option Addr} {Ts : List El} {wr : World} {x : El} (h : StS w bm lv mv sv i t u Ts wr) (hx : x ∈ Ts) : StS w bm x.v mv sv i x.t x.u Ts (wr.setCell ⟨bm, 0, none⟩ (.pointer x.u)) := by
  have hb := h.now.box
  have KK : K2 wr (wr.setCell ⟨bm, 0, none⟩ (.pointer x.u)) := ⟨(Kn.refl _ _).set hb (by decide) _, (Kn.refl _ _).set hb (by decide) _⟩
  have hx2 := (h.all x hx).keep KK (Nat.le_refl _)
  exact ⟨⟨h.now.below.setCell (p := ⟨bm, 0, none⟩) h.now.lo _, h.now.lo, heap_set hb _, hx2.map, hx2.ptr, hx2.pl, hx2.len⟩, row_set h.maps (by omega) _, row_set h.lists (by omega) _, fun y hy => (h.all y hy).keep KK (Nat.le_refl _)⟩
theorem StS.seen {w : World} {bm : Nat} {lv mv sv : Value} {i : Nat} {t : Tr Int} {u : Option Addr} {Ts : List El} {wr w' : World} (h : StS w bm lv mv sv i t u Ts wr) (k : Below wr.heap.size wr w') : StS w bm lv mv sv i t u Ts w' :=
  ⟨h.now.seen k, h.maps.below k, h.lists.below k, fun x hx => (h.all x hx).keep (K2.below k) (Nat.le_refl _)⟩
/-- A place of both rows. -/
theorem StS.at {w : World} {bm : Nat} {lv mv sv : Value} {i : Nat} {t : Tr Int} {u : Option Addr} {Ts : List El} {wr : World} (h : StS w bm lv mv sv i t u Ts wr) {k : Nat} {x : El} (hk : Ts[k]? = some x) :
    ∃ g1 o1 c1 g2 o2 c2, mv = .slice (some ⟨g1, o1, none⟩) Ts.length c1 ∧ sv = .slice (some ⟨g2, o2, none⟩) Ts.length c2 ∧ wr.cell? ⟨g1, o1 + k, none⟩ = some (.pointer x.u) ∧ wr.cell? ⟨g2, o2 + k, none⟩ = some x.v := by
  have hlt := (List.getElem?_eq_some_iff.1 hk).1
  obtain ⟨g1, o1, c1, cur1, e1, _, _, h1⟩ := OffRow.form h.maps (by omega)
  obtain ⟨g2, o2, c2, cur2, e2, _, _, h2⟩ := OffRow.form h.lists (by omega)
  exact ⟨g1, o1, c1, g2, o2, c2, e1, e2, by rw [h1 k (by omega), List.getElem?_map, hk]; rfl, by rw [h2 k (by omega), List.getElem?_map, hk]; rfl⟩
set_option maxHeartbeats 8000000 in
theorem stays_walk {a : Option Addr} {len cap : Nat} {T : List OpM} {w : World} (h : Hid (InO w a len cap T)) : Calls Try.prog 4 #[.slice a len cap] w fun e w' => e = .returned (.bool true) ∧ Below w.heap.size w w' := by
  have HA := fun y => Lib.hid (law_awake y)
  have hbig := h.out.big
  obtain ⟨i1, hi1, hm0, hm1, hm2⟩ := info_parts infoMap
  obtain ⟨i2, hi2, hl0, hl1, hl2⟩ := info_parts infoPairs
  have HI1 := Lib.hid (And.intro hi1 (And.intro hm0 (And.intro hm1 hm2)))
  have HI2 := Lib.hid (And.intro hi2 (And.intro hl0 (And.intro hl1 hl2)))
  clear hi1 hm0 hm1 hm2 hi2 hl0 hl1 hl2
  go_enter Try.func4, Try.ntmps4
  go_wp2_with fail
  refine (HA _).out.mono ?_
  rintro e w1 ⟨rfl, B1⟩
  have K1 := Lib.hid B1
  have O1 := Lib.hid (h.out.below B1)
  have HF := Lib.hid (law_few O1)
  clear B1
  go_wp2_with fail
  refine HF.out.mono ?_
  rintro e w1 ⟨b, rfl, hb, rfl⟩
  by_cases hbt : b = true ∧ len ≤ 80
  · obtain ⟨rfl, h80⟩ := hbt
    have h80' : (len : Int) ≤ 80 := by omega
    have HFW := Lib.hid (hb rfl)
    have H80 := Lib.hid h80
    clear hb
    go_wp2_with fail
    have hcell : (w1.alloc (.cells #[.pointer none] 27)).heap[w1.heap.size]? = some (.cells #[.pointer none] 27 (0, 0)) := heap_new _ _
    have S0 := Lib.hid (show StS w w1.heap.size (.slice none 0 0) (.slice none 0 0) (.slice none 0 0) 0 .nil none [] (w1.alloc (.cells #[.pointer none] 27)) from
      ⟨⟨K1.out.alloc K1.out.size _, K1.out.size, hcell, IsM.nil _, rfl, Pl.nil _, Nat.le_refl _⟩, OffRow.nil _ _ _ _, OffRow.nil _ _ _ _, fun x hx => by cases hx⟩)
    clear hcell
    obtain ⟨bm, hbm⟩ : ∃ bm, bm = w1.heap.size := ⟨_, rfl⟩
    rw [← hbm] at S0 ⊢
    have HBM := Lib.hid hbm
    clear hbm
    go_loopw [4, 5, 6, 7] (fun lv mv sv iv wr => ∃ i : Nat, i ≤ len ∧ iv = .int .i64 (i : Int) ∧ ∃ t u Ts, Hid (StS w bm lv mv sv i t u Ts wr) ∧ Hid (Ts.length = i)) (fun lv mv sv iv wr => len - (intOf iv).toNat)
    case atStart => exact ⟨0, Nat.zero_le _, rfl, .nil, none, [], S0, Lib.hid rfl⟩
    case round =>
      obtain ⟨i, hi, rfl, t, u, Ts, S, HTS⟩ := hrel
      have HTL := Lib.hid (show t.sz ≤ 300 by have := S.out.now.len; have := t.sz_prs; have := H80.out; omega)
      obtain ⟨ma, mc, hmv⟩ := OffRow.slice S.out.maps
      obtain ⟨sa, sc, hsv⟩ := OffRow.slice S.out.lists
      rw [HTS.out] at hmv hsv
      subst hmv hsv
      obtain ⟨n, hn⟩ : ∃ n, n = t.prs.length := ⟨_, rfl⟩
      obtain ⟨la, lc, hlv⟩ := OffRow.slice S.out.now.pl
      rw [← hn] at hlv
      subst hlv
      have HN := Lib.hid hn
      clear hn
      rcases Nat.lt_or_ge i len with hlt | hge
      · obtain ⟨b, off, o, rfl, ho, hb, -, -, -⟩ := (h.out.below S.out.now.below).at hlt
        have hlt2 : (i : Int) < (len : Int) := by omega
        have c0 := S.out.now.c0
        have hi80 : i < 80 := by have := H80.out; omega
        have HO := Lib.hid ho
        have HBW := Lib.hid (heap_lt S.out.now.box)
        have hfit := h.out.fit o (List.mem_of_getElem? ho)
        have HFit := Lib.hid hfit
        clear ho hb hfit
        obtain ⟨hi1, hm0, hm1, hm2⟩ := HI1.out
        go_wp2_with (at_builtin; refine wpList_append_off rfl (.tmp 29) (.tmp 31) 38 rfl (bm + 1) 27 i1 _ 1 8 Try.underlying38 hi1 hm0 hm1 hm2 rfl (.slice ma i mc) i (Ts.map fun x => .pointer x.u) rfl ?c1 (.slice (some ⟨wr.heap.size, 0, none⟩) 1 1) rfl 1 [.pointer u] ?c2 ?c3 ?c4 ?c5 ?_)
        case c1 => have := OffRow.allocd S.out.maps (.cells #[.pointer u] 27); rw [HTS.out] at this; exact this
        case c2 => exact src_block (size := 1) (cs := #[.pointer u]) Try.underlying38 (heap_new _ _) 1 1 rfl (by intro x hx; simp at hx; subst hx; rfl)
        case c3 => unfold maxLen; omega
        case c4 => omega
        case c5 => have := HBW.out; simp; omega
        intro mv7 w7 hr7 hg7 _
        have R7 := Lib.hid hr7
        have G7 := Lib.hid hg7
        have GR := Lib.hid (grew S.out.maps hg7 (by decide) (by decide))
        have HL7 := Lib.hid (show OffRow w7 (bm + 1) 28 1 (.slice sa i sc) Ts.length (Ts.map fun x => x.v) from OffRow.kept S.out.lists fun j hj => by
          obtain ⟨cur, hc⟩ := OffRow.tag S.out.lists hj
          exact GR.out.other j cur _ hc (by decide))
        clear hr7 hg7 hi1 hm0 hm1 hm2 c0
        obtain ⟨hi2, hl0, hl1, hl2⟩ := HI2.out
        go_wp2_with (at_builtin; refine wpList_append_off rfl (.tmp 33) (.tmp 35) 39 rfl (bm + 1) 28 i2 _ 1 24 Try.underlying39 hi2 hl0 hl1 hl2 rfl (.slice sa i sc) i (Ts.map fun x => x.v) rfl ?c1 (.slice (some ⟨w7.heap.size, 0, none⟩) 1 1) rfl 1 [.slice la n lc] ?c2 ?c3 ?c4 ?c5 ?_)
        case c1 => have := OffRow.allocd HL7.out (.cells #[.slice la n lc] 28); rw [HTS.out] at this; exact this
        case c2 => exact src_block (size := 1) (cs := #[.slice la n lc]) Try.underlying39 (heap_new _ _) 1 1 rfl (by intro x hx; simp at hx; subst hx; rfl)
        case c3 => unfold maxLen; omega
        case c4 => omega
        case c5 => have := HBW.out; have := GR.out.size; simp; omega
        intro sv8 w8 hr8 hg8 _
        have S8 := Lib.hid (S.out.push (by rw [HTS.out]; exact R7.out) G7.out (by rw [HTS.out]; exact hr8) hg8 HBW.out)
        have HT8 := Lib.hid (show (Ts ++ [(⟨t, u, .slice la n lc⟩ : El)]).length = i + 1 by rw [List.length_append, HTS.out]; rfl)
        obtain ⟨Us, hUs⟩ : ∃ Us, Us = Ts ++ [(⟨t, u, .slice la n lc⟩ : El)] := ⟨_, rfl⟩
        rw [← hUs] at S8 HT8
        clear hUs hr8 hg8 hi2 hl0 hl1 hl2 R7 G7 HL7
        have OB := Lib.hid (show ∀ y, Below w.heap.size w y → (y.cell? ⟨b, off + i * 3, none⟩ = some (.int .i64 o.kind) ∧ y.cell? ⟨b, off + i * 3 + 1, none⟩ = some (.string (bs o.key)) ∧ y.cell? ⟨b, off + i * 3 + 2, none⟩ = some (.int .i64 o.val)) from fun y K => by
          obtain ⟨b', off', o', e1, ho', _, h5, h6, h7⟩ := (h.out.below K).at hlt
          simp only [Option.some.injEq, Addr.mk.injEq, and_true] at e1
          obtain ⟨rfl, rfl⟩ := e1
          rw [HO.out] at ho'
          injection ho' with ho'
          subst ho'
          exact ⟨h5, h6, h7⟩)
        have HD := Lib.hid (fun y (K : Below w8.heap.size w8 y) => law_does (o := o) (Lib.hid (S8.out.now.map.seen K)) S8.out.now.ptr (Lib.hid (S8.out.now.pl.below K)) (by have := HTL.out; omega))
        have c0 := S8.out.now.c0
        obtain ⟨d0, d1, d2⟩ := OB.out _ S8.out.now.below
        have Q1 := Lib.hid (show Below w8.heap.size w8 w8.drew from (Below.refl _ _).drew)
        obtain ⟨ma8, mc8, hmv8⟩ := OffRow.slice S8.out.maps
        obtain ⟨sa8, sc8, hsv8⟩ := OffRow.slice S8.out.lists
        obtain ⟨n1, hn1⟩ : ∃ n1, n1 = i + 1 := ⟨_, rfl⟩
        rw [HT8.out, ← hn1] at hmv8 hsv8
        subst hmv8 hsv8
        have HN1 := Lib.hid hn1
        clear hn1
        go_wp2_with fail
        go_region_with (go_at_call 9; (with_reducible refine (HD.out _ Q1.out).mono ?_); rintro e y2 ⟨t', u', v', e1, rfl, M, P, L', B⟩; have Q2 := Lib.hid (Q1.out.trans (B.mono Q1.out.size)); have c2 := (S8.out.seen Q2.out).now.c0; have f2 := (S8.out.seen Q2.out).now.f0; have S2 := Lib.hid (S8.out.does Q2.out e1 M P L'); obtain ⟨n', hn'⟩ : ∃ n', n' = t'.prs.length := ⟨_, rfl⟩; obtain ⟨la', lc', hv'⟩ := OffRow.slice P; rw [← L', ← hn'] at hv'; subst hv'; have HN' := Lib.hid hn'; obtain ⟨p0, p1, p2⟩ := OB.out _ S2.out.now.below; clear e1 M P L' B hn')
        all_goals
          clear d0 d1 d2 c0 c2 f2
          have hn0 : ((n1 : Int) == 0) = false := by have := HN1.out; simp; omega
          have hnp : (0 : Int) < (n1 : Int) := by have := HN1.out; omega
          have hn81 : n1 ≤ 81 := by have := HN1.out; omega
          rcases Int.lt_or_le 2 o.kind with hk | hk
          · rcases Int.lt_or_le o.val 0 with hv | hv
            · go_wp2_with fail
              go_roundw
              case rel => exact ⟨i + 1, by omega, by go_num, t', u', Us, S2, HT8⟩
              case measure => simp [intOf]; omega
            · obtain ⟨q, hq, hqn⟩ : ∃ q : Nat, o.val % (n1 : Int) = (q : Int) ∧ q < n1 := ⟨(o.val % (n1 : Int)).toNat, by have := Int.emod_nonneg o.val (b := (n1 : Int)) (by omega); omega, by have := Int.emod_lt_of_pos o.val hnp; have := Int.emod_nonneg o.val (b := (n1 : Int)) (by omega); omega⟩
              obtain ⟨x, hx⟩ : ∃ x, Us[q]? = some x := ⟨_, List.getElem?_eq_getElem (by rw [HT8.out, ← HN1.out]; exact hqn)⟩
              obtain ⟨g1, o1, c1, g2, o2, c2, e1, e2, f1, f2⟩ := S2.out.at hx
              simp only [Value.slice.injEq] at e1 e2
              obtain ⟨rfl, -, -⟩ := e1
              obtain ⟨rfl, -, -⟩ := e2
              have HMX := Lib.hid (List.mem_of_getElem? hx)
              have HXP := Lib.hid ((S2.out.all x (List.mem_of_getElem? hx)))
              clear hx
              have hqI : (q : Int) < (n1 : Int) := by omega
              obtain ⟨y3, hy3⟩ : ∃ y3, y3 = y2.setCell ⟨bm, 0, none⟩ (.pointer u') := ⟨_, rfl⟩
              rw [← hy3] at HXP f1 f2 p0 p1 p2 S2 ⊢
              clear hy3
              obtain ⟨xt, xu, xv⟩ := x
              obtain ⟨va, vc, hxv⟩ := OffRow.slice HXP.out.pl
              obtain ⟨xn, hxn⟩ : ∃ xn, xn = xt.prs.length := ⟨_, rfl⟩
              simp only at hxv f1 f2
              rw [← hxn] at hxv
              subst hxv
              clear hxn
              have c0 := S2.out.now.c0
              have cf := S2.out.now.f0
              go_wp2_with fail
              go_simp
              have hne1 : g1 ≠ bm := by have := (OffRow.lt S2.out.maps g1 rfl).1; omega
              have hne2 : g2 ≠ bm := by have := (OffRow.lt S2.out.lists g2 rfl).1; omega
              have HKS := Lib.hid (show ∀ v : Value, ((y3.drew.setCell ⟨bm, 0, none⟩ v).cell? ⟨g1, o1 + q, none⟩ = some (.pointer xu) ∧ (y3.drew.setCell ⟨bm, 0, none⟩ v).cell? ⟨g2, o2 + q, none⟩ = some (.slice va xn vc)) from fun v => ⟨by rw [World.cell?_setCell_other _ _ _ _ (by simp [hne1])]; exact f1, by rw [World.cell?_setCell_other _ _ _ _ (by simp [hne2])]; exact f2⟩)
              have HKP := Lib.hid (show y3.drew.cell? ⟨g1, o1 + q, none⟩ = some (.pointer xu) ∧ y3.drew.cell? ⟨g2, o2 + q, none⟩ = some (.slice va xn vc) from ⟨f1, f2⟩)
              have S9 := Lib.hid ((S2.out.seen (Below.refl _ _).drew).back HMX.out)
              clear p0 p1 p2 hne1 hne2
              go_region_held3 (fun w' => w'.cell? ⟨g1, o1 + q, none⟩ = some (.pointer xu) ∧ w'.cell? ⟨g2, o2 + q, none⟩ = some (.slice va xn vc))
                (first | exact HKP.out | exact HKS.out _)
                (fail)
              go_wp2_with fail
              go_roundw
              case rel => exact ⟨i + 1, by omega, by go_num, xt, xu, Us, S9, HT8⟩
              case measure => simp [intOf]; omega
          · go_wp2_with fail
            go_roundw
            case rel => exact ⟨i + 1, by omega, by go_num, t', u', Us, S2, HT8⟩
            case measure => simp [intOf]; omega
      · obtain rfl : i = len := by omega
        go_wp2_with fail
        go_loopw [9] (fun jv wr => ∃ j : Nat, j ≤ i ∧ jv = .int .i64 (j : Int) ∧ Hid (StS w bm (.slice la n lc) (.slice ma i mc) (.slice sa i sc) i t u Ts wr)) (fun jv wr => i - (intOf jv).toNat)
        case atStart => exact ⟨0, Nat.zero_le _, rfl, S⟩
        case round =>
          obtain ⟨j, hj, rfl, R⟩ := hrel
          rcases Nat.lt_or_ge j i with hlt | hge2
          · obtain ⟨x, hx⟩ : ∃ x, Ts[j]? = some x := ⟨_, List.getElem?_eq_getElem (by rw [HTS.out]; exact hlt)⟩
            obtain ⟨g1, o1, c1, g2, o2, c2, e1, e2, f1, f2⟩ := R.out.at hx
            simp only [Value.slice.injEq] at e1 e2
            obtain ⟨rfl, -, -⟩ := e1
            obtain ⟨rfl, -, -⟩ := e2
            have HXP := Lib.hid ((R.out.all x (List.mem_of_getElem? hx)))
            clear hx
            obtain ⟨xt, xu, xv⟩ := x
            obtain ⟨va, vc, hxv⟩ := OffRow.slice HXP.out.pl
            obtain ⟨xn, hxn⟩ : ∃ xn, xn = xt.prs.length := ⟨_, rfl⟩
            simp only at hxv f1 f2
            rw [← hxn] at hxv
            subst hxv
            clear hxn
            have hlt2 : (j : Int) < (i : Int) := by omega
            have m1 : ∀ z : Seen wr, z.val.cell? ⟨g1, o1 + j, none⟩ = some (.pointer xu) := fun z => by rw [z.below.cell (cell_block f1)]; exact f1
            have m2 : ∀ z : Seen wr, z.val.cell? ⟨g2, o2 + j, none⟩ = some (.slice va xn vc) := fun z => by rw [z.below.cell (cell_block f2)]; exact f2
            have HIS := fun z : Seen wr => Lib.hid (show Calls Try.prog 13 #[.agg #[.pointer xu], .slice va xn vc, .string ⟨#[]⟩] z.val fun e w' => e = .returned (.bool true) ∧ ∃ m : Seen wr, w' = m.val from seen_is (k := []) (Lib.hid HXP.out.map) HXP.out.ptr (Lib.hid HXP.out.pl) (by have := HXP.out.len; have := xt.sz_prs; have := H80.out; simp only at *; omega) z)
            clear f1 f2
            go_wp2_with fail
            go_simp
            refine region_seen (by kernel_rfl) (by kernel_rfl) ?_
            repeat go_big_quiet_step (first | (go_at_call 13; with_reducible exact (HIS _).out))
            refine wpQuiet_nil ?_
            rintro _ ⟨z1, rfl⟩
            have R2 := Lib.hid (R.out.seen z1.below)
            generalize z1.val = y4 at *
            clear m1 m2 HIS
            go_wp2_with fail
            go_roundw
            case rel => exact ⟨j + 1, by omega, by go_num, R2⟩
            case measure => simp [intOf]; omega
          · obtain rfl : j = i := by omega
            go_wp2_with fail
            go_ret
            exact ⟨rfl, R.out.now.below⟩
  · have HE : ∀ y, Below w.heap.size w y → Hid (Calls Try.prog 7 #[] y fun e w' => e = .returned (.bool true) ∧ Below w.heap.size w w') := fun y K => Lib.hid ((law_awake y).mono fun e w' ⟨h1, h2⟩ => ⟨h1, K.trans (h2.mono K.size)⟩)
    have HK := (HE _ K1.out)
    cases b with
    | false =>
      clear hb hbt
      go_wp2_with fail
      refine HK.out.mono ?_
      rintro e w2 ⟨rfl, K2⟩
      have KF := Lib.hid K2
      clear K2
      go_wp2_with fail
      go_ret
      exact ⟨rfl, KF.out⟩
    | true =>
      have h80 : (80 : Int) < (len : Int) := by
        have : ¬ len ≤ 80 := fun h => hbt ⟨rfl, h⟩
        omega
      clear hb hbt
      go_wp2_with fail
      refine HK.out.mono ?_
      rintro e w2 ⟨rfl, K2⟩
      have KF := Lib.hid K2
      clear K2
      go_wp2_with fail
      go_ret
      exact ⟨rfl, KF.out⟩
end Go.Proofs.Ytbmihajbdobgbaa.MI
