/- A map is never higher than the document says. -/
import Derived.Test.YtbmihajbdobgbaaMemPlaysWalk
import Derived.Laws.BytesString
set_option linter.unusedVariables false
set_option maxRecDepth 100000
namespace Go.Proofs.Ytbmihajbdobgbaa.MI
open Go.RowKit

/-- How many binary digits. -/
def dgl (m : Nat) : Nat := if h : m = 0 then 0 else dgl (m / 2) + 1
termination_by m
decreasing_by exact Nat.div_lt_self (by omega) (by decide)
theorem dgl_lt (m : Nat) : m < 2 ^ dgl m := by
  induction m using Nat.strongRecOn with
  | ind m ih =>
    unfold dgl
    split
    · omega
    · rename_i h
      have := ih (m / 2) (Nat.div_lt_self (by omega) (by decide))
      rw [Nat.pow_succ]
      omega
def highL (n : Nat) : Nat := (3 * dgl (n + 1) + 1) / 2
set_option maxHeartbeats 4000000 in
theorem ref_HighD {n : Nat} {w : World} (hn : n ≤ 1000000) : Calls Try.prog 16 #[.int .i64 (n : Int)] w fun e w' => e = .returned (.int .i64 (highL n : Int)) ∧ w' = w := by
  obtain ⟨D, hD⟩ : ∃ D, D = dgl (n + 1) := ⟨_, rfl⟩
  have HD := Lib.hid (show highL n = (3 * D + 1) / 2 by rw [hD]; rfl)
  have HD0 := Lib.hid hD
  clear hD
  go_enter Try.func16, Try.ntmps16
  go_wp2_with fail
  go_loopw [0, 3] (fun nv dv wr => ∃ m d : Nat, nv = .int .i64 (m : Int) ∧ dv = .int .i64 (d : Int) ∧ m ≤ 1000001 ∧ d + m ≤ 1000001 ∧ Hid (D = d + dgl m) ∧ wr = w) (fun nv dv wr => (intOf nv).toNat)
  case atStart => exact ⟨n + 1, 0, by go_num, rfl, by omega, by omega, Lib.hid (by rw [HD0.out]; omega), rfl⟩
  case round =>
    obtain ⟨m, d, rfl, rfl, hm, hdm, hp, rfl⟩ := hrel
    rcases Nat.eq_zero_or_pos m with h0 | h0
    · subst h0
      obtain ⟨q, hq⟩ : ∃ q : Nat, q = 3 * d + 1 := ⟨_, rfl⟩
      have hq1 : 3 * (d : Int) + 1 = (q : Int) := by omega
      have hq2 : q ≤ 10000000 := by omega
      have HQ := Lib.hid hq
      clear hq
      go_wp2_with fail
      go_ret
      refine ⟨?_, rfl⟩
      show Ending.returned (.int .i64 ((q : Int) / 2)) = _
      have e : dgl 0 = 0 := by unfold dgl; rfl
      have h2 := hp.out
      rw [e, Nat.add_zero] at h2
      rw [HD.out, h2, HQ.out]
      congr 2
    · have hpos : (0 : Int) < (m : Int) := by omega
      have hhalf := half m h0
      have HH := Lib.hid (show dgl m = dgl (m / 2) + 1 by conv => lhs; unfold dgl; rw [dif_neg (by omega)])
      go_wp2_with fail
      go_roundw
      case rel => exact ⟨m / 2, d + 1, by go_num, by go_num, by omega, by omega, Lib.hid (by rw [hp.out, HH.out]; omega), trivial⟩
      case measure => simp [intOf]; omega
theorem seen_refHigh {n : Nat} {w : World} (hn : n ≤ 1000000) (q : Seen w) : Calls Try.prog 16 #[.int .i64 (n : Int)] q.val fun e w' => e = .returned (.int .i64 (highL n : Int)) ∧ ∃ m : Seen w, w' = m.val :=
  (ref_HighD hn).mono fun e w' ⟨h1, h2⟩ => ⟨h1, q, h2⟩
theorem seen_High {t : Tr Int} {u : Option Addr} {w : World} (h : Hid (IsM w t)) (hu : t.ptr = .pointer u) (n : Seen w) :
    Calls Try.prog 15 #[.agg #[.pointer u]] n.val fun e w' => e = .returned (.int .i64 (t.ht : Int)) ∧ ∃ m : Seen w, w' = m.val :=
  (map_High (Lib.hid (h.out.seen n.below).tree) hu).mono fun e w' ⟨h1, h2⟩ => ⟨h1, ⟨w', n.below.trans (h2.mono n.below.size)⟩, rfl⟩
theorem high_le {t : Tr Int} {w : World} (h : IsM w t) : t.ht ≤ highL t.sz := avl_high h.avl (dgl_lt _)
/-- What holds between two rounds. -/
structure HiS (w : World) (bm : Nat) (t : Tr Int) (u : Option Addr) (wr : World) : Prop where
  below : Below w.heap.size w wr
  lo : w.heap.size ≤ bm
  box : wr.heap[bm]? = some (.cells #[.pointer u] 27 (0, 0))
  map : IsM wr t
  ptr : t.ptr = .pointer u
theorem HiS.c0 {w : World} {bm : Nat} {t : Tr Int} {u : Option Addr} {wr : World} (h : HiS w bm t u wr) : wr.cell? ⟨bm, 0, none⟩ = some (.pointer u) := by simp [World.cell?, h.box]
theorem HiS.f0 {w : World} {bm : Nat} {t : Tr Int} {u : Option Addr} {wr : World} (h : HiS w bm t u wr) : wr.frozen? ⟨bm, 0, none⟩ = false := by simp [World.frozen?, h.box]
theorem HiS.seen {w : World} {bm : Nat} {t : Tr Int} {u : Option Addr} {wr w' : World} (h : HiS w bm t u wr) (k : Below wr.heap.size wr w') : HiS w bm t u w' :=
  ⟨h.below.trans (k.mono h.below.size), h.lo, (k.block bm (heap_lt h.box)).trans h.box, h.map.seen k, h.ptr⟩
theorem HiS.set {w : World} {bm : Nat} {t t' : Tr Int} {u u' : Option Addr} {wr w' : World} (h : HiS w bm t u wr) (k : Below wr.heap.size wr w') (hu : t'.ptr = .pointer u') (hm : IsM w' t') : HiS w bm t' u' (w'.setCell ⟨bm, 0, none⟩ (.pointer u')) := by
  have hb := (k.block bm (heap_lt h.box)).trans h.box
  exact ⟨(h.below.trans (k.mono h.below.size)).setCell (p := ⟨bm, 0, none⟩) h.lo _, h.lo, heap_set hb _, hm.kn ((Kn.refl _ _).set hb (by decide) _), hu⟩
theorem conv2 (w : World) (x y : Int) : ∃ s : List UInt8, (convert 42 9 (.slice (some ⟨w.heap.size, 0, none⟩) 2 2)).run Try.prog (w.alloc (.cells #[.int .u8 x, .int .u8 y] 5)) = .ok (.string (bs s)) (w.alloc (.cells #[.int .u8 x, .int .u8 y] 5)) := by
  have hl : (loadCells ⟨w.heap.size, 0, none⟩ 2).run Try.prog (w.alloc (.cells #[.int .u8 x, .int .u8 y] 5)) = .ok ([x, y].map (Value.int .u8)).toArray (w.alloc (.cells #[.int .u8 x, .int .u8 y] 5)) := by
    have := run_loadCells_list (P := Try.prog) (w.alloc (.cells #[.int .u8 x, .int .u8 y] 5)) ⟨w.heap.size, 0, none⟩ [.int .u8 x, .int .u8 y] (fun j u hu => by
      rw [addr_add, Nat.zero_add, World.cell?_alloc_mark]
      simpa using hu)
    exact this
  rw [run_convert_bytes_string (e := 5) _ _ _ _ _ _ Try.underlying42 Try.underlying5 Try.underlying9, run_bytesToString _ _ _ _ _ hl]
  exact ⟨_, congrArg (fun z => Result.ok (Value.string z) _) (bs_eq rfl)⟩
set_option maxHeartbeats 8000000 in
theorem high_walk {n step away : Nat} {w : World} (hn : n ≤ 65535) (hst : step ≤ 65535) (haw : away ≤ 255) : Calls Try.prog 5 #[.int .u16 (n : Int), .int .u16 (step : Int), .int .u8 (away : Int)] w fun e w' => e = .returned (.bool true) ∧ Below w.heap.size w w' := by
  obtain ⟨size, hsize⟩ : ∃ size, size = n % 600 := ⟨_, rfl⟩
  have hs1 : (n : Int) % 600 = (size : Int) := by omega
  have hs2 : size ≤ 600 := by omega
  have HSZ := Lib.hid hsize
  clear hsize
  go_enter Try.func5, Try.ntmps5
  go_wp2_with fail
  refine (law_awake w).mono ?_
  rintro e w1 ⟨rfl, B1⟩
  have K1 := Lib.hid B1
  clear B1
  go_wp2_with fail
  have hcell : (w1.alloc (.cells #[.pointer none] 27)).heap[w1.heap.size]? = some (.cells #[.pointer none] 27 (0, 0)) := heap_new _ _
  have S0 := Lib.hid (show HiS w w1.heap.size .nil none (w1.alloc (.cells #[.pointer none] 27)) from ⟨K1.out.alloc K1.out.size _, K1.out.size, hcell, IsM.nil _, rfl⟩)
  clear hcell
  obtain ⟨bm, hbm⟩ : ∃ bm, bm = w1.heap.size := ⟨_, rfl⟩
  rw [← hbm] at S0 ⊢
  have HBM := Lib.hid hbm
  clear hbm
  have HS1 := Lib.hid hs1
  clear hs1
  go_loopw [9] (fun iv wr => ∃ i : Nat, i ≤ size ∧ iv = .int .i64 (i : Int) ∧ ∃ t u, Hid (HiS w bm t u wr) ∧ Hid (t.sz ≤ i)) (fun iv wr => size - (intOf iv).toNat)
  case atStart => exact ⟨0, Nat.zero_le _, rfl, .nil, none, S0, Lib.hid (Nat.le_refl _)⟩
  case round =>
    obtain ⟨i, hi, rfl, t, u, S, HSz⟩ := hrel
    rcases Nat.lt_or_ge i size with hlt | hge
    · have hlt2 : (i : Int) < (size : Int) := by omega
      have c0 := S.out.c0
      have f0 := S.out.f0
      obtain ⟨p, hp, hp2⟩ : ∃ p : Nat, (i : Int) * (step : Int) = (p : Int) ∧ p ≤ 40000000 := ⟨i * step, by simp, by
        have := Nat.mul_le_mul (show i ≤ 600 by omega) hst
        omega⟩
      obtain ⟨k, hk, hk2⟩ : ∃ k : Nat, (p : Int) % 60000 = (k : Int) ∧ k < 60000 := ⟨p % 60000, by omega, by omega⟩
      have hp3 : (p : Int) ≤ 40000000 := by omega
      obtain ⟨ks, hcv⟩ := conv2 wr ((k : Int) / 250) ((k : Int) % 250)
      have HP := Lib.hid (fun y (K : Below wr.heap.size wr y) => map_Put (k := ks) (x := (i : Int)) (Lib.hid (S.out.map.seen K)) S.out.ptr (by have := HSz.out; omega))
      have KA := Lib.hid (show ∀ o, Below wr.heap.size wr (wr.alloc o) from fun o => (Below.refl _ _).alloc (Nat.le_refl _) o)
      go_wp2_with fail
      refine (HP.out _ (KA.out _)).mono ?_
      rintro e y2 ⟨t', u', e1, rfl, M, B, L'⟩
      have Q2 := Lib.hid ((KA.out _).trans (B.mono (KA.out (.cells #[.int .u8 ((k : Int) / 250), .int .u8 ((k : Int) % 250)] 5)).size))
      have c2 := (S.out.seen Q2.out).c0
      have f2 := (S.out.seen Q2.out).f0
      have S2 := Lib.hid (S.out.set Q2.out e1 M)
      have HL := Lib.hid (show t'.sz ≤ i + 1 ∧ 1 ≤ t'.sz from by
        have h1 := putP_len ks (i : Int) t.prs
        have h2 := t.sz_prs
        have h3 := t'.sz_prs
        rw [L'] at h3
        have h4 := HSz.out
        refine ⟨by omega, ?_⟩
        rcases Nat.eq_zero_or_pos (putP ks (i : Int) t.prs).length with h5 | h5
        · exfalso
          cases hp : t.prs with
          | nil => rw [hp] at h5; simp [putP] at h5
          | cons a b => rw [hp] at h1; simp at h1; rw [hp] at h5; omega
        · omega)
      clear e1 M B L' hcv c0 f0
      go_wp2_with fail
      clear c2 f2
      obtain ⟨y3, hy3⟩ : ∃ y3, y3 = y2.setCell ⟨bm, 0, none⟩ (.pointer u') := ⟨_, rfl⟩
      rw [← hy3] at S2 ⊢
      clear hy3
      have hh := high_le S2.out.map
      have h0 : t'.ht ≠ 0 := fun h => by have := (t'.ht_zero).1 h; have := HL.out.2; omega
      have n0 : ∀ q : Seen y3, q.val.cell? ⟨bm, 0, none⟩ = some (.pointer u') := fun q => (S2.out.seen q.below).c0
      have HHI := fun q : Seen y3 => Lib.hid (seen_High (Lib.hid S2.out.map) S2.out.ptr q)
      have HLN := fun q : Seen y3 => Lib.hid (seen_Len (Lib.hid S2.out.map) S2.out.ptr q)
      obtain ⟨sz, hsz⟩ : ∃ sz, sz = t'.sz := ⟨_, rfl⟩
      obtain ⟨ht, hht⟩ : ∃ ht, ht = t'.ht := ⟨_, rfl⟩
      have HRF := fun q : Seen y3 => Lib.hid (seen_refHigh (n := sz) (w := y3) (by rw [hsz]; have := HL.out.1; omega) q)
      rw [← hsz] at HLN hh
      rw [← hht] at HHI hh h0
      obtain ⟨hb, hhb⟩ : ∃ hb, hb = highL sz := ⟨_, rfl⟩
      rw [← hhb] at HRF hh
      have hg1 : (ht : Int) ≤ (hb : Int) := by omega
      have hg2 : (1 : Int) ≤ (ht : Int) := by omega
      have hg3 : decide (hb < ht) = false := by simp; omega
      have hg4 : decide ((hb : Int) < (ht : Int)) = false := by simp; omega
      clear hsz hht hhb hh h0
      go_simp
      refine region_seen (by kernel_rfl) (by kernel_rfl) ?_
      repeat go_big_quiet_step (first | (go_at_call 15; with_reducible exact (HHI _).out) | (go_at_call 12; with_reducible exact (HLN _).out) | (go_at_call 16; with_reducible exact (HRF _).out))
      refine wpQuiet_nil ?_
      rintro _ ⟨q5, rfl⟩
      have S5 := Lib.hid (S2.out.seen q5.below)
      generalize q5.val = y6 at *
      clear n0 HHI HLN HRF
      go_wp2_with fail
      go_roundw
      case rel => exact ⟨i + 1, by omega, by go_num, t', u', S5, Lib.hid HL.out.1⟩
      case measure => simp [intOf]; omega
    · obtain rfl : i = size := by omega
      have HS9 := Lib.hid (show t.sz ≤ 600 by have := HSz.out; omega)
      go_wp2_with fail
      go_loopw [11] (fun jv wr => ∃ j : Nat, j ≤ i ∧ jv = .int .i64 (j : Int) ∧ ∃ t u, Hid (HiS w bm t u wr) ∧ Hid (t.sz ≤ 600)) (fun jv wr => i - (intOf jv).toNat)
      case atStart => exact ⟨0, Nat.zero_le _, rfl, t, u, S, HS9⟩
      case round =>
        obtain ⟨j, hj, rfl, t, u, S, HSz⟩ := hrel
        rcases Nat.lt_or_ge j i with hlt | hge2
        · have hlt2 : (j : Int) < (i : Int) := by omega
          have c0 := S.out.c0
          have f0 := S.out.f0
          obtain ⟨p, hp, hp2⟩ : ∃ p : Nat, (j : Int) * (1 + (away : Int)) = (p : Int) ∧ p ≤ 40000000 := ⟨j * (1 + away), by simp, by
            have := Nat.mul_le_mul (show j ≤ 600 by omega) (show 1 + away ≤ 256 by omega)
            omega⟩
          obtain ⟨k, hk, hk2⟩ : ∃ k : Nat, (p : Int) % 60000 = (k : Int) ∧ k < 60000 := ⟨p % 60000, by omega, by omega⟩
          have hp3 : (p : Int) ≤ 40000000 := by omega
          obtain ⟨ks, hcv⟩ := conv2 wr ((k : Int) / 250) ((k : Int) % 250)
          have HP := Lib.hid (fun y (K : Below wr.heap.size wr y) => map_Without (k := ks) (Lib.hid (S.out.map.seen K)) S.out.ptr (by have := HSz.out; omega))
          have KA := Lib.hid (show ∀ o, Below wr.heap.size wr (wr.alloc o) from fun o => (Below.refl _ _).alloc (Nat.le_refl _) o)
          go_wp2_with fail
          refine (HP.out _ (KA.out _)).mono ?_
          rintro e y2 ⟨t', u', e1, rfl, M, B, L'⟩
          have Q2 := Lib.hid ((KA.out _).trans (B.mono (KA.out (.cells #[.int .u8 ((k : Int) / 250), .int .u8 ((k : Int) % 250)] 5)).size))
          have c2 := (S.out.seen Q2.out).c0
          have f2 := (S.out.seen Q2.out).f0
          have S2 := Lib.hid (S.out.set Q2.out e1 M)
          have HL := Lib.hid (show t'.sz ≤ 600 from by
            have h1 := delP_len ks t.prs
            have h2 := t.sz_prs
            have h3 := t'.sz_prs
            rw [L'] at h3
            have h4 := HSz.out
            omega)
          clear e1 M B L' hcv c0 f0
          go_wp2_with fail
          clear c2 f2
          obtain ⟨y3, hy3⟩ : ∃ y3, y3 = y2.setCell ⟨bm, 0, none⟩ (.pointer u') := ⟨_, rfl⟩
          rw [← hy3] at S2 ⊢
          clear hy3
          have hh := high_le S2.out.map
          have h0 := t'.ht_zero
          have n0 : ∀ q : Seen y3, q.val.cell? ⟨bm, 0, none⟩ = some (.pointer u') := fun q => (S2.out.seen q.below).c0
          have HHI := fun q : Seen y3 => Lib.hid (seen_High (Lib.hid S2.out.map) S2.out.ptr q)
          have HLN := fun q : Seen y3 => Lib.hid (seen_Len (Lib.hid S2.out.map) S2.out.ptr q)
          obtain ⟨sz, hsz⟩ : ∃ sz, sz = t'.sz := ⟨_, rfl⟩
          obtain ⟨ht, hht⟩ : ∃ ht, ht = t'.ht := ⟨_, rfl⟩
          have HRF := fun q : Seen y3 => Lib.hid (seen_refHigh (n := sz) (w := y3) (by rw [hsz]; have := HL.out; omega) q)
          rw [← hsz] at HLN hh h0
          rw [← hht] at HHI hh h0
          obtain ⟨hb, hhb⟩ : ∃ hb, hb = highL sz := ⟨_, rfl⟩
          rw [← hhb] at HRF hh
          have hg1 : (ht : Int) ≤ (hb : Int) := by omega
          have hg3 : decide (hb < ht) = false := by simp; omega
          have hg4 : decide ((hb : Int) < (ht : Int)) = false := by simp; omega
          obtain ⟨z, hz1, hz2⟩ : ∃ z : Bool, ((ht : Int) == 0) = z ∧ ((sz : Int) == 0) = z := by
            by_cases h : ht = 0
            · exact ⟨true, by simp [h], by simp [h0.1 h]⟩
            · exact ⟨false, by simp; omega, by simp; omega⟩
          clear hsz hht hhb hh h0
          go_simp
          refine region_seen (by kernel_rfl) (by kernel_rfl) ?_
          repeat go_big_quiet_step (first | (go_at_call 15; with_reducible exact (HHI _).out) | (go_at_call 12; with_reducible exact (HLN _).out) | (go_at_call 16; with_reducible exact (HRF _).out))
          refine wpQuiet_nil ?_
          rintro _ ⟨q5, rfl⟩
          have S5 := Lib.hid (S2.out.seen q5.below)
          generalize q5.val = y6 at *
          clear n0 HHI HLN HRF
          go_wp2_with fail
          go_roundw
          case rel => exact ⟨j + 1, by omega, by go_num, t', u', S5, HL⟩
          case measure => simp [intOf]; omega
        · obtain rfl : j = i := by omega
          go_wp2_with fail
          go_ret
          exact ⟨rfl, S.out.below⟩
end Go.Proofs.Ytbmihajbdobgbaa.MI
