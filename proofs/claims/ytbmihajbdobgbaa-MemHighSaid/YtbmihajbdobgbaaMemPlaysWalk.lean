/- Whatever is put and taken away, a map has what a list has. -/
import Derived.Test.YtbmihajbdobgbaaMemDoes
import Derived.Test.YtbmihajbdobgbaaMemAwake
import Derived.Test.YtbmihajbdobgbaaQTail
set_option linter.unusedVariables false
set_option maxRecDepth 100000
namespace Go.Proofs.Ytbmihajbdobgbaa.MI
open Go.RowKit

theorem seen_is {t : Tr Int} {u : Option Addr} {k : List UInt8} {v : Value} {w : World} (h : Hid (IsM w t)) (hu : t.ptr = .pointer u) (hv : Hid (Pl w v t.prs)) (hl : t.sz ≤ 800000) (n : Seen w) :
    Calls Try.prog 13 #[.agg #[.pointer u], v, .string (bs k)] n.val fun e w' => e = .returned (.bool true) ∧ ∃ m : Seen w, w' = m.val :=
  (law_is (Lib.hid (h.out.seen n.below)) hu (Lib.hid (hv.out.below n.below)) hl).mono fun e w' ⟨h1, h2⟩ => ⟨h1, ⟨w', n.below.trans (h2.mono n.below.size)⟩, rfl⟩
theorem seen_Len {t : Tr Int} {u : Option Addr} {w : World} (h : Hid (IsM w t)) (hu : t.ptr = .pointer u) (n : Seen w) :
    Calls Try.prog 12 #[.agg #[.pointer u]] n.val fun e w' => e = .returned (.int .i64 (t.sz : Int)) ∧ ∃ m : Seen w, w' = m.val :=
  (map_Len (Lib.hid (h.out.seen n.below).tree) hu).mono fun e w' ⟨h1, h2⟩ => ⟨h1, ⟨w', n.below.trans (h2.mono n.below.size)⟩, rfl⟩
theorem getV_is (g : Option Int) : ∃ x b, getV g = .tuple #[.int .i64 x, .bool b] := by
  cases g with
  | none => exact ⟨0, false, rfl⟩
  | some x => exact ⟨x, true, rfl⟩
theorem seen_Get {t : Tr Int} {u : Option Addr} {k : List UInt8} {w : World} (h : Hid (IsM w t)) (hu : t.ptr = .pointer u) (n : Seen w) :
    Calls Try.prog 10 #[.agg #[.pointer u], .string (bs k)] n.val fun e w' => e = .returned (getV (getP k t.prs)) ∧ ∃ m : Seen w, w' = m.val :=
  (map_Get (Lib.hid (h.out.seen n.below)) hu).mono fun e w' ⟨h1, h2⟩ => ⟨h1, ⟨w', n.below.trans (h2.mono n.below.size)⟩, rfl⟩
/-- What holds between two rounds. -/
structure PlS (w : World) (bm : Nat) (lv : Value) (i : Nat) (t : Tr Int) (u : Option Addr) (wr : World) : Prop where
  below : Below w.heap.size w wr
  lo : w.heap.size ≤ bm
  box : wr.heap[bm]? = some (.cells #[.pointer u] 27 (0, 0))
  map : IsM wr t
  ptr : t.ptr = .pointer u
  pl : Pl wr lv t.prs
  len : t.prs.length ≤ i
theorem PlS.c0 {w : World} {bm : Nat} {lv : Value} {i : Nat} {t : Tr Int} {u : Option Addr} {wr : World} (h : PlS w bm lv i t u wr) : wr.cell? ⟨bm, 0, none⟩ = some (.pointer u) := by simp [World.cell?, h.box]
theorem PlS.f0 {w : World} {bm : Nat} {lv : Value} {i : Nat} {t : Tr Int} {u : Option Addr} {wr : World} (h : PlS w bm lv i t u wr) : wr.frozen? ⟨bm, 0, none⟩ = false := by simp [World.frozen?, h.box]
theorem PlS.seen {w : World} {bm : Nat} {lv : Value} {i : Nat} {t : Tr Int} {u : Option Addr} {wr w' : World} (h : PlS w bm lv i t u wr) (k : Below wr.heap.size wr w') : PlS w bm lv i t u w' :=
  ⟨h.below.trans (k.mono h.below.size), h.lo, (k.block bm (heap_lt h.box)).trans h.box, h.map.seen k, h.ptr, h.pl.below k, h.len⟩
/-- A call has been done. -/
theorem PlS.does {w : World} {bm : Nat} {lv lv' : Value} {i : Nat} {t t' : Tr Int} {u u' : Option Addr} {wr w' : World} {o : OpM} (h : PlS w bm lv i t u wr) (k : Below wr.heap.size wr w') (hu : t'.ptr = .pointer u') (hm : IsM w' t') (hp : Pl w' lv' (doesL t.prs o)) (hL : t'.prs = doesL t.prs o) : PlS w bm lv' (i + 1) t' u' (w'.setCell ⟨bm, 0, none⟩ (.pointer u')) := by
  have hb := (k.block bm (heap_lt h.box)).trans h.box
  refine ⟨(h.below.trans (k.mono h.below.size)).setCell (p := ⟨bm, 0, none⟩) h.lo _, h.lo, heap_set hb _, hm.kn ((Kn.refl _ _).set hb (by decide) _), hu, ?_, ?_⟩
  · rw [hL]
    exact hp.set hb (by decide) _
  · rw [hL]
    have := doesL_len t.prs o
    have := h.len
    omega
set_option maxHeartbeats 8000000 in
theorem plays_walk {a : Option Addr} {len cap : Nat} {T : List OpM} {w : World} (h : Hid (InO w a len cap T)) : Calls Try.prog 3 #[.slice a len cap] w fun e w' => e = .returned (.bool true) ∧ Below w.heap.size w w' := by
  have HA := fun y => Lib.hid (law_awake y)
  have hbig := h.out.big
  go_enter Try.func3, Try.ntmps3
  go_wp2_with fail
  refine (HA _).out.mono ?_
  rintro e w1 ⟨rfl, B1⟩
  have K1 := Lib.hid B1
  have O1 := Lib.hid (h.out.below B1)
  have HF := Lib.hid (law_few O1)
  clear B1
  go_wp2_with fail
  refine HF.out.mono ?_
  rintro e w1 ⟨b, rfl, hb, rfl⟩
  cases b with
  | false =>
    clear hb
    go_wp2_with fail
    refine (HA _).out.mono ?_
    rintro e w2 ⟨rfl, B2⟩
    have K2 := Lib.hid (K1.out.trans (B2.mono K1.out.size))
    clear B2
    go_wp2_with fail
    go_ret
    exact ⟨rfl, K2.out⟩
  | true =>
    have hfew := hb rfl
    have HFW := Lib.hid hfew
    clear hb hfew
    go_wp2_with fail
    have S0 := Lib.hid (show PlS w w1.heap.size (.slice none 0 0) 0 .nil none (w1.alloc (.cells #[.pointer none] 27)) from
      ⟨K1.out.alloc K1.out.size _, K1.out.size, heap_new _ _, IsM.nil _, rfl, Pl.nil _, Nat.le_refl _⟩)
    have HS1 := Lib.hid K1.out.size
    obtain ⟨bm, hbm⟩ : ∃ bm, bm = w1.heap.size := ⟨_, rfl⟩
    rw [← hbm] at S0 ⊢
    have HBM := Lib.hid hbm
    clear hbm
    go_loopw [4, 5] (fun lv iv wr => ∃ i : Nat, i ≤ len ∧ iv = .int .i64 (i : Int) ∧ ∃ t u, Hid (PlS w bm lv i t u wr)) (fun lv iv wr => len - (intOf iv).toNat)
    case atStart => exact ⟨0, Nat.zero_le _, rfl, .nil, none, S0⟩
    case round =>
      obtain ⟨i, hi, rfl, t, u, S⟩ := hrel
      have HL3 := Lib.hid (show i ≤ 300 by have := HFW.out.1; have := h.out.lenT; omega)
      have HTL := Lib.hid (show t.sz ≤ 300 by have := S.out.len; have := t.sz_prs; have := HL3.out; omega)
      obtain ⟨n, hn⟩ : ∃ n, n = t.prs.length := ⟨_, rfl⟩
      obtain ⟨la, lc, hlv⟩ := OffRow.slice S.out.pl
      rw [← hn] at hlv
      subst hlv
      have HN := Lib.hid hn
      clear hn
      rcases Nat.lt_or_ge i len with hlt | hge
      · obtain ⟨b, off, o, rfl, ho, hb, d0, d1, d2⟩ := (h.out.below S.out.below).at hlt
        have hlt2 : (i : Int) < (len : Int) := by omega
        have c0 := S.out.c0
        have HLB := Lib.hid (show b < w.heap.size ∧ b < bm from by
          obtain ⟨b', off', o', e1, _, h2, _⟩ := h.out.at hlt
          simp only [Option.some.injEq, Addr.mk.injEq] at e1
          have := S.out.lo
          omega)
        have HK := Lib.hid (show o.key.length ≤ 10000 from HFW.out.2 o (List.mem_of_getElem? ho))
        have HD := Lib.hid (fun y (K : Below wr.heap.size wr y) => law_does (o := o) (Lib.hid (S.out.map.seen K)) S.out.ptr (Lib.hid (S.out.pl.below K)) (by have := HTL.out; omega))
        have n0 : ∀ q : Seen wr, q.val.cell? ⟨bm, 0, none⟩ = some (.pointer u) := fun q => by rw [q.below.cell (p := ⟨bm, 0, none⟩) (heap_lt S.out.box)]; exact c0
        have n1 : ∀ q : Seen wr, q.val.cell? ⟨b, off + i * 3, none⟩ = some (.int .i64 o.kind) := fun q => by rw [q.below.cell (p := ⟨b, off + i * 3, none⟩) hb]; exact d0
        have n2 : ∀ q : Seen wr, q.val.cell? ⟨b, off + i * 3 + 1, none⟩ = some (.string (bs o.key)) := fun q => by rw [q.below.cell (p := ⟨b, off + i * 3 + 1, none⟩) hb]; exact d1
        have n3 : ∀ q : Seen wr, q.val.cell? ⟨b, off + i * 3 + 2, none⟩ = some (.int .i64 o.val) := fun q => by rw [q.below.cell (p := ⟨b, off + i * 3 + 2, none⟩) hb]; exact d2
        have HO := Lib.hid ho
        clear ho n0 n1 n2 n3
        go_wp2_with fail
        have Q1 := Lib.hid (show Below wr.heap.size wr wr.drew from (Below.refl _ _).drew)
        go_region_with (go_at_call 9; (with_reducible refine (HD.out _ Q1.out).mono ?_); rintro e y2 ⟨t', u', v', e1, rfl, M, P, L', B⟩; have Q2 := Lib.hid (Q1.out.trans (B.mono Q1.out.size)); have c2 := (S.out.seen Q2.out).c0; have f2 := (S.out.seen Q2.out).f0; have S2 := Lib.hid (S.out.does Q2.out e1 M P L'); obtain ⟨n', hn'⟩ : ∃ n', n' = t'.sz := ⟨_, rfl⟩; obtain ⟨la', lc', hv'⟩ := OffRow.slice P; rw [← L', ← Tr.sz_prs, ← hn'] at hv'; subst hv'; have HN' := Lib.hid hn'; have HTS := Lib.hid (show t'.sz ≤ 800000 by have := S2.out.len; have := t'.sz_prs; have := HL3.out; omega); clear e1 M P L' B hn')
        all_goals
          go_wp2_with fail
          clear c2 f2 d0 d1 d2 c0
          obtain ⟨y3, hy3⟩ : ∃ y3, y3 = y2.setCell ⟨bm, 0, none⟩ (.pointer u') := ⟨_, rfl⟩
          rw [← hy3] at S2 ⊢
          clear hy3
          have OB := Lib.hid (show ∀ y, Below y3.heap.size y3 y → y.cell? ⟨b, off + i * 3 + 1, none⟩ = some (.string (bs o.key)) from fun y K => by
            obtain ⟨b', off', o', e1, ho', _, _, h6, _⟩ := (h.out.below (S2.out.seen K).below).at hlt
            simp only [Option.some.injEq, Addr.mk.injEq, and_true] at e1
            obtain ⟨rfl, rfl⟩ := e1
            rw [HO.out] at ho'
            injection ho' with ho'
            subst ho'
            exact h6)
          obtain ⟨gx, gb, hgv⟩ := getV_is (getP o.key t'.prs)
          have HGV := Lib.hid hgv
          have HG := fun q : Seen y3 => Lib.hid (seen_Get (k := o.key) (Lib.hid S2.out.map) S2.out.ptr q)
          rw [hgv] at HG
          clear hgv
          have n0 : ∀ q : Seen y3, q.val.cell? ⟨bm, 0, none⟩ = some (.pointer u') := fun q => (S2.out.seen q.below).c0
          have n1 : ∀ q : Seen y3, q.val.cell? ⟨b, off + i * 3 + 1, none⟩ = some (.string (bs o.key)) := fun q => OB.out _ q.below
          go_simp
          refine region_seen (by kernel_rfl) (by kernel_rfl) ?_
          repeat go_big_quiet_step (first | (go_at_call 10; with_reducible exact (HG _).out))
          refine wpQuiet_nil ?_
          rintro _ ⟨q5, rfl⟩
          have Q5 := Lib.hid q5.below
          have S5 := Lib.hid (S2.out.seen q5.below)
          generalize q5.val = y5 at *
          clear n0 n1 HG
          have d1 := OB.out _ Q5.out
          have HR := Lib.hid (ref_Get (k := o.key) (Lib.hid S5.out.pl) (by rw [← Tr.sz_prs]; exact HTS.out))
          rw [HGV.out] at HR
          go_wp2_with fail
          refine HR.out.mono ?_
          rintro e y5 ⟨rfl, rfl⟩
          clear d1
          have n0 : ∀ q : Seen y5, q.val.cell? ⟨bm, 0, none⟩ = some (.pointer u') := fun q => (S5.out.seen q.below).c0
          have n1 : ∀ q : Seen y5, q.val.cell? ⟨b, off + i * 3 + 1, none⟩ = some (.string (bs o.key)) := fun q => OB.out _ (Q5.out.trans (q.below.mono Q5.out.size))
          have HLN := fun q : Seen y5 => Lib.hid (seen_Len (Lib.hid S5.out.map) S5.out.ptr q)
          have HIS := fun q : Seen y5 => Lib.hid (seen_is (k := o.key) (Lib.hid S5.out.map) S5.out.ptr (Lib.hid S5.out.pl) HTS.out q)
          rw [← HN'.out] at HLN
          go_wp2_with fail
          refine region_seen (by kernel_rfl) (by kernel_rfl) ?_
          repeat go_big_quiet_step (first | (go_at_call 12; with_reducible exact (HLN _).out) | (go_at_call 13; with_reducible exact (HIS _).out))
          refine wpQuiet_nil ?_
          rintro _ ⟨q5, rfl⟩
          have S6 := Lib.hid (S5.out.seen q5.below)
          generalize q5.val = y6 at *
          clear n0 n1 HLN HIS
          go_wp2_with fail
          go_roundw
          case rel => exact ⟨i + 1, by omega, by go_num, t', u', S6⟩
          case measure => simp [intOf]; omega
      · obtain rfl : i = len := by omega
        have c0 := S.out.c0
        have HIS := Lib.hid (law_is (k := []) (Lib.hid S.out.map) S.out.ptr (Lib.hid S.out.pl) (by have := HTL.out; omega))
        have HIS2 := Lib.hid (show Calls Try.prog 13 #[.agg #[.pointer u], .slice la n lc, .string ⟨#[]⟩] wr fun e w' => e = .returned (.bool true) ∧ Below wr.heap.size wr w' from HIS.out)
        go_wp2_with fail
        refine HIS2.out.mono ?_
        rintro e y ⟨rfl, B⟩
        have KF := Lib.hid (S.out.below.trans (B.mono S.out.below.size))
        clear B c0
        go_wp2_with fail
        go_ret
        exact ⟨rfl, KF.out⟩
end Go.Proofs.Ytbmihajbdobgbaa.MI
