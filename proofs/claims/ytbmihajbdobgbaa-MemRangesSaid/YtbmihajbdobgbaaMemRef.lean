/- The document's lists of pairs: Put, Without, Get; its bound of a map's height. -/
import Derived.Test.YtbmihajbdobgbaaMemLaw
set_option linter.unusedVariables false
set_option maxRecDepth 100000
namespace Go.Proofs.Ytbmihajbdobgbaa.MI
open Go.RowKit

/-- 's[g:]' of such a slice, whatever its room. -/
theorem slice_off {w : World} {B : Nat} {t e : TypeId} {i : TypeInfo} (ht : Try.prog.underlying t = some (.slice e)) (hi : Try.prog.info? e = some i) {size : Nat} (hs : i.size = size) {n cap g : Nat} {a : Option Addr} {xs : List Value} (h : OffRow w B e size (.slice a n cap) n xs) (hg : g ≤ n) :
    ∃ a', (∀ W, (Instr.slice t (.slice a n cap) (some (.int .i64 (g : Int))) none none).run Try.prog W = .ok (.slice a' (n - g) (cap - g)) W) ∧ OffRow w B e size (.slice a' (n - g) (cap - g)) (n - g) (xs.drop (g * size)) ∧ ∀ j, (Value.slice a' (n - g) (cap - g)).ownBlock = some j → (Value.slice a n cap).ownBlock = some j := by
  obtain ⟨a', d1, d2, d3⟩ := h.drop rfl hg
  have hc : g ≤ cap := by
    rcases h.2 with ⟨e0, h0⟩ | ⟨b, off, c, cur, e0, _, _, h1, _⟩
    · omega
    · injection e0 with _ _ e3
      omega
  have h1 : (g : Int) ≤ (n : Int) := by omega
  refine ⟨a', fun W => ?_, d3, fun j hj => ?_⟩
  · subst hs
    rcases Nat.lt_or_ge g cap with x | x
    · have hne : ¬ cap = g := by omega
      have e1 := d1 x
      have hgn : g ≤ n := hg
      subst e1
      simp [Instr.slice, run_underlying ht, Instr.sliceBounds, run_sliceBound, sizeOf, typeInfo, hi, hgn, hne]
    · have hge : g = cap := by omega
      have e1 := d2 hge
      subst e1
      have hgn : g ≤ n := hg
      rw [← hge]
      simp [Instr.slice, run_underlying ht, Instr.sliceBounds, run_sliceBound, sizeOf, typeInfo, hi, hgn]
  · rcases Nat.lt_or_ge g cap with x | x
    · rw [d1 x] at hj
      cases a with
      | none => simp [Value.ownBlock] at hj
      | some y =>
        obtain ⟨b, off, spot⟩ := y
        simp [Value.ownBlock, Addr.add] at hj ⊢
        first | exact hj | (split at hj <;> simp_all)
    · rw [d2 (by omega)] at hj
      cases a with
      | none => simp [Value.ownBlock] at hj
      | some y => simpa [Value.ownBlock] using hj
theorem OffRow.src {w : World} {B : Nat} {t e : TypeId} {size : Nat} {a : Option Addr} {n cap : Nat} {xs : List Value} (ht : Try.prog.underlying t = some (.slice e)) (h : OffRow w B e size (.slice a n cap) n xs) (h1 : ∀ u ∈ xs, u.oneCell' = true) : Src Try.prog size t (.slice a n cap) n xs w := by
  rcases h.2 with ⟨h0, rfl⟩ | ⟨g, off, cap', cur, h0, hB, hg, h2, h3, h4, h5⟩
  · injection h0 with e1 _ e3
    subst e1 e3
    obtain rfl : xs = [] := List.eq_nil_of_length_eq_zero (by simpa using h.1)
    exact Src.ofNil w ht 0
  · injection h0 with e1 _ e3
    subst e1 e3
    refine Src.ofSlice w ht ⟨g, off, none⟩ n cap xs h.1 (fun j u hu => ?_) h1
    have hj : j < n * size := by rw [← h.1]; exact (List.getElem?_eq_some_iff.1 hu).1
    rw [addr_add]
    simp [World.cell?, hg, h5 j hj, hu]
theorem pcells_one (L : PL) : ∀ u ∈ pcells L, u.oneCell' = true := by
  intro u hu
  obtain ⟨y, _, hy⟩ := List.mem_flatMap.1 hu
  simp at hy
  rcases hy with rfl | rfl <;> rfl
theorem pcells_drop (L : PL) (i : Nat) : (pcells L).drop (i * 2) = pcells (L.drop i) := by
  rcases Nat.lt_or_ge L.length i with h | h
  · rw [List.drop_eq_nil_of_le (by rw [pcells_len]; omega), List.drop_eq_nil_of_le (by omega)]
    rfl
  · conv => lhs; rw [← List.take_append_drop i L, pcells_append]
    rw [List.drop_append_of_le_length (by rw [pcells_len, List.length_take]; omega), List.drop_eq_nil_of_le (by rw [pcells_len, List.length_take]; omega), List.nil_append]
/-- Where a pair is put. -/
theorem putP_at {k : List UInt8} {x : Int} : ∀ {L : PL} {i : Nat}, i ≤ L.length → (∀ j y, j < i → L[j]? = some y → ltB y.1 k = true) → (∀ y, L[i]? = some y → ltB y.1 k = false) →
    putP k x L = L.take i ++ (k, x) :: L.drop (if (L[i]?).map (·.1) = some k then i + 1 else i)
  | [], i, hi, _, _ => by
    simp at hi
    subst hi
    simp [putP]
  | y :: L, 0, _, _, hb => by
    have := hb y rfl
    simp only [putP, this]
    by_cases h : y.1 = k <;> simp [h]
  | y :: L, i + 1, hi, ha, hb => by
    have h0 := ha 0 y (by omega) rfl
    have := putP_at (k := k) (x := x) (L := L) (i := i) (by simpa using hi) (fun j z hj hz => ha (j + 1) z (by omega) hz) (fun z hz => hb z hz)
    simp only [putP, h0, if_true, this, List.take_succ_cons, List.cons_append, List.getElem?_cons_succ]
    split <;> rfl
/-- A list so far: a row of the call's own. -/
def Ol (w : World) (B : Nat) (v : Value) (L : PL) : Prop := OffRow w B 59 2 v L.length (pcells L)
theorem Ol.pl {w : World} {B : Nat} {v : Value} {L : PL} (h : Ol w B v L) : Pl w v L := OffRow.mono h (fun _ _ => Nat.zero_le _)
theorem Ol.snoc {w0 w1 w2 : World} {B : Nat} {v v2 : Value} {L : PL} {k : List UInt8} {x : Int} {o : Obj} (hB : Below B w0 w1) (hBw : B ≤ w1.heap.size) (h : Ol w1 B v L) (hr : OffRow w2 B 59 2 v2 (L.length + 1) (pcells L ++ [.string (bs k), .int .i64 x])) (hg : (w1.alloc o).grownBy w2 v.ownBlock) : Below B w0 w2 ∧ Ol w2 B v2 (L ++ [(k, x)]) := by
  refine ⟨(hB.alloc hBw o).grown hg (by simp; omega) fun j hj => (OffRow.lt h j hj).1, ?_⟩
  unfold Ol
  rw [List.length_append, pcells_append]
  exact hr
set_option maxHeartbeats 4000000 in
theorem ref_Put {v : Value} {k : List UInt8} {x : Int} {L : PL} {w : World} (h : Hid (Pl w v L)) (hl : L.length ≤ 800000) : Calls Try.prog 22 #[v, .string (bs k), .int .i64 x] w fun e w' => ∃ v', e = .returned v' ∧ Pl w' v' (putP k x L) ∧ Below w.heap.size w w' := by
  obtain ⟨n, hn⟩ : ∃ n, n = L.length := ⟨_, rfl⟩
  obtain ⟨a, cap, rfl⟩ : ∃ a cap, v = .slice a n cap := by rw [hn]; exact OffRow.slice h.out
  have hn8 : n ≤ 800000 := by omega
  have HN := Lib.hid hn
  obtain ⟨B, hB⟩ : ∃ B, B = w.heap.size := ⟨_, rfl⟩
  have HB := Lib.hid hB
  obtain ⟨i0, hi, hz0, hz1, hz2⟩ := info_parts infoPair
  have HI := Lib.hid (And.intro hi (And.intro hz0 (And.intro hz1 hz2)))
  rw [← hB]
  clear hi hz0 hz1 hz2 hn hl hB
  go_enter Try.func22, Try.ntmps22
  go_wp2_with fail
  go_loopw [7, 8] (fun ov iv wr => ∃ i : Nat, i ≤ n ∧ iv = .int .i64 (i : Int) ∧ Hid (Below B w wr ∧ Ol wr B ov (L.take i)) ∧ Hid (∀ j y, j < i → L[j]? = some y → ltB y.1 k = true)) (fun ov iv wr => n - (intOf iv).toNat)
  case atStart => exact ⟨0, Nat.zero_le _, rfl, Lib.hid ⟨Below.refl _ _, OffRow.nil _ _ _ _⟩, Lib.hid fun j y hj => by omega⟩
  case round =>
    obtain ⟨i, hi, rfl, hR, hbl⟩ := hrel
    obtain ⟨a1, cap1, hov⟩ := OffRow.slice hR.out.2
    have hti : (L.take i).length = i := by rw [List.length_take]; have := HN.out; omega
    rw [hti] at hov
    subst hov
    have P1 := Lib.hid (h.out.below (by rw [← HB.out]; exact hR.out.1))
    have HT := Lib.hid hti
    clear hti
    have HBW := Lib.hid (show B ≤ wr.heap.size by have := hR.out.1.size; rw [HB.out]; exact this)
    by_cases hc : ∃ y, L[i]? = some y ∧ ltB y.1 k = true
    · obtain ⟨⟨yk, yx⟩, hy, hk⟩ := hc
      have hlt : i < n := by rw [HN.out]; exact (List.getElem?_eq_some_iff.1 hy).1
      obtain ⟨g, off, cap', e0, d0, d1⟩ := P1.out.at hy
      simp only [Value.slice.injEq] at e0
      obtain ⟨rfl, -, -⟩ := e0
      have hlt2 : (i : Int) < (n : Int) := by omega
      have hle : Op.bytesLess (bs yk).toList (bs k).toList = true := by rw [Lib.toList_data, Lib.toList_data, bs_list, bs_list, ltB_less]; exact hk
      have HY := Lib.hid (And.intro hy hk)
      clear hy hk
      obtain ⟨hi0, hz0, hz1, hz2⟩ := HI.out
      go_wp2_with (at_builtin; refine wpList_append_off rfl (.tmp 24) (.tmp 29) 28 rfl B 59 i0 _ 2 24 Try.underlying28 hi0 hz0 hz1 hz2 rfl (.slice a1 i cap1) i (pcells (L.take i)) rfl ?c1 (.slice (some ⟨wr.heap.size, 0, none⟩) 1 1) rfl 1 [.string (bs yk), .int .i64 yx] ?c2 ?c3 ?c4 ?c5 ?_)
      case c1 => have := OffRow.allocd hR.out.2 (.cells #[.string (bs yk), .int .i64 yx] 59); rw [HT.out] at this; exact this
      case c2 => exact src_block (size := 2) (cs := #[.string (bs yk), .int .i64 yx]) Try.underlying28 (heap_new _ _) 1 1 rfl (by intro u hu; simp at hu; rcases hu with rfl | rfl <;> rfl)
      case c3 => unfold maxLen; omega
      case c4 => omega
      case c5 => have := HBW.out; simp; omega
      intro v7 w7 hr7 hg7 _
      have HS := Lib.hid (Ol.snoc hR.out.1 HBW.out hR.out.2 (by rw [HT.out]; exact hr7) hg7)
      clear hr7 hg7 hi0 hz0 hz1 hz2 d0 d1
      go_wp2_with fail
      go_roundw
      case rel => exact ⟨i + 1, by omega, by go_num, Lib.hid (by rw [List.take_add_one, HY.out.1]; exact HS.out), Lib.hid fun j y hj hy => by
        rcases Nat.lt_or_ge j i with h1 | h1
        · exact hbl.out j y h1 hy
        · obtain rfl : j = i := by omega
          rw [HY.out.1] at hy
          injection hy with hy
          subst hy
          exact HY.out.2⟩
      case measure => simp [intOf]; omega
    · have hnb : ∀ y, L[i]? = some y → ltB y.1 k = false := fun y hy => by
        cases e : ltB y.1 k with
        | false => rfl
        | true => exact absurd ⟨y, hy, e⟩ hc
      have HPA := Lib.hid (putP_at (k := k) (x := x) (L := L) (i := i) (by rw [← HN.out]; exact hi) hbl.out hnb)
      clear hc
      rcases Nat.lt_or_ge i n with hlt | hge
      · obtain ⟨⟨yk, yx⟩, hy⟩ : ∃ y, L[i]? = some y := ⟨_, List.getElem?_eq_getElem (by have := HN.out; omega)⟩
        by_cases hke : yk = k
        · skip
          obtain ⟨gb, off, cap', e0, d0, d1⟩ := P1.out.at hy
          simp only [Value.slice.injEq] at e0
          obtain ⟨rfl, -, -⟩ := e0
          have hlt2 : (i : Int) < (n : Int) := by omega
          have hle : Op.bytesLess (bs yk).toList (bs k).toList = false := by rw [Lib.toList_data, Lib.toList_data, bs_list, bs_list, ltB_less]; exact hnb _ hy
          have heq : ((bs yk).toList == (bs k).toList) = true := by rw [Lib.toList_data, Lib.toList_data, bs_list, bs_list]; simpa using hke
          have HY := Lib.hid (And.intro hy hke)
          clear hy hke hnb
          obtain ⟨hi0, hz0, hz1, hz2⟩ := HI.out
          go_wp2_with (at_builtin; refine wpList_append_off rfl (.tmp 31) (.tmp 35) 28 rfl B 59 i0 _ 2 24 Try.underlying28 hi0 hz0 hz1 hz2 rfl (.slice a1 i cap1) i (pcells (L.take i)) rfl ?c1 (.slice (some ⟨wr.heap.size, 0, none⟩) 1 1) rfl 1 [.string (bs k), .int .i64 x] ?c2 ?c3 ?c4 ?c5 ?_)
          case c1 => have := OffRow.allocd hR.out.2 (.cells #[.string (bs k), .int .i64 x] 59); rw [HT.out] at this; exact this
          case c2 => exact src_block (size := 2) (cs := #[.string (bs k), .int .i64 x]) Try.underlying28 (heap_new _ _) 1 1 rfl (by intro u hu; simp at hu; rcases hu with rfl | rfl <;> rfl)
          case c3 => unfold maxLen; omega
          case c4 => omega
          case c5 => have := HBW.out; simp; omega
          intro v7 w7 hr7 hg7 _
          have HS := Lib.hid (Ol.snoc hR.out.1 HBW.out hR.out.2 (by rw [HT.out]; exact hr7) hg7)
          have P7 := Lib.hid (h.out.below (by rw [← HB.out]; exact HS.out.1))
          have HL7 := Lib.hid (show (L.take i ++ [(k, x)]).length = i + 1 by rw [List.length_append, HT.out]; rfl)
          obtain ⟨a7, cap7, hv7⟩ := OffRow.slice HS.out.2
          rw [HL7.out] at hv7
          subst hv7
          clear hr7 hg7
          obtain ⟨gb', off', cap'', e7, f0, f1⟩ := P7.out.at HY.out.1
          simp only [Value.slice.injEq, Option.some.injEq, Addr.mk.injEq] at e7
          obtain ⟨⟨rfl, rfl, -⟩, -, -⟩ := e7
          clear d0 d1 f1
          have HG := Lib.hid (show i + 1 ≤ n by omega)
          obtain ⟨aD, hsl, hOD, -⟩ := slice_off Try.underlying28 hi0 hz1 (w := w7) (B := 0) (n := n) (cap := cap) (a := some ⟨gb, off, none⟩) (xs := pcells L) (g := i + 1) (by have := P7.out; unfold Pl at this; rw [← HN.out] at this; exact this) HG.out
          have hsl' : ∀ W, (Instr.slice 28 (.slice (some ⟨gb, off, none⟩) n cap) (some (.int .i64 ((i : Int) + 1))) none none).run Try.prog W = .ok (.slice aD (n - (i + 1)) (cap - (i + 1))) W := fun W => hsl W
          have HOD := Lib.hid hOD
          have HEND := Lib.hid (show putP k x L = (L.take i ++ [(k, x)]) ++ L.drop (i + 1) by rw [HPA.out]; rw [if_pos (by rw [HY.out.1]; simpa using HY.out.2), List.append_assoc]; rfl)
          obtain ⟨q, hq⟩ : ∃ q, q = n - (i + 1) := ⟨_, rfl⟩
          obtain ⟨c, hc⟩ : ∃ c, c = cap - (i + 1) := ⟨_, rfl⟩
          obtain ⟨m7, hm7⟩ : ∃ m7, m7 = i + 1 := ⟨_, rfl⟩
          have HQ := Lib.hid (And.intro hq (And.intro hc hm7))
          rw [← hq, ← hc] at hsl' HOD
          rw [← hm7] at HL7
          rw [← hm7]
          clear hsl hOD hq hc hm7
          go_wp2_with (at_builtin; refine wpList_append_off rfl (.tmp 52) (.tmp 55) 28 rfl B 59 i0 _ 2 24 Try.underlying28 hi0 hz0 hz1 hz2 rfl (.slice a7 m7 cap7) m7 (pcells (L.take i ++ [(k, x)])) rfl ?e1 (.slice aD q c) rfl q (pcells (L.drop (i + 1))) ?e2 ?e3 ?e4 ?e5 ?_)
          case e1 => have := HS.out.2; unfold Ol at this; rw [HL7.out, HQ.out.2.2] at this; rw [HQ.out.2.2]; exact this
          case e2 => have := HOD.out; rw [pcells_drop] at this; exact OffRow.src Try.underlying28 this (pcells_one _)
          case e3 => have := HQ.out; unfold maxLen; omega
          case e4 => have := HQ.out; omega
          case e5 => have := HS.out.1.size; have := HB.out; omega
          intro v8 w8 hr8 hg8 _
          have K8 := Lib.hid (HS.out.1.grown hg8 (by have := HS.out.1.size; have := HB.out; omega) fun j hj => (OffRow.lt HS.out.2 j (by rw [← HQ.out.2.2]; exact hj)).1)
          have R8 := Lib.hid hr8
          clear hr8 hg8 hi0 hz0 hz1 hz2 hsl'
          go_wp2_with fail
          go_ret
          refine ⟨v8, rfl, ?_, K8.out⟩
          rw [HEND.out]
          unfold Pl
          rw [pcells_append, List.length_append, HL7.out]
          have hln : (L.drop (i + 1)).length = q := by rw [List.length_drop, HQ.out.1, HN.out]
          rw [hln]
          exact OffRow.mono R8.out (fun _ _ => Nat.zero_le _)
        · skip
          obtain ⟨gb, off, cap', e0, d0, d1⟩ := P1.out.at hy
          simp only [Value.slice.injEq] at e0
          obtain ⟨rfl, -, -⟩ := e0
          have hlt2 : (i : Int) < (n : Int) := by omega
          have hle : Op.bytesLess (bs yk).toList (bs k).toList = false := by rw [Lib.toList_data, Lib.toList_data, bs_list, bs_list, ltB_less]; exact hnb _ hy
          have heq : ((bs yk).toList == (bs k).toList) = false := by rw [Lib.toList_data, Lib.toList_data, bs_list, bs_list]; simpa using hke
          have HY := Lib.hid (And.intro hy hke)
          clear hy hke hnb
          obtain ⟨hi0, hz0, hz1, hz2⟩ := HI.out
          go_wp2_with (at_builtin; refine wpList_append_off rfl (.tmp 31) (.tmp 35) 28 rfl B 59 i0 _ 2 24 Try.underlying28 hi0 hz0 hz1 hz2 rfl (.slice a1 i cap1) i (pcells (L.take i)) rfl ?c1 (.slice (some ⟨wr.heap.size, 0, none⟩) 1 1) rfl 1 [.string (bs k), .int .i64 x] ?c2 ?c3 ?c4 ?c5 ?_)
          case c1 => have := OffRow.allocd hR.out.2 (.cells #[.string (bs k), .int .i64 x] 59); rw [HT.out] at this; exact this
          case c2 => exact src_block (size := 2) (cs := #[.string (bs k), .int .i64 x]) Try.underlying28 (heap_new _ _) 1 1 rfl (by intro u hu; simp at hu; rcases hu with rfl | rfl <;> rfl)
          case c3 => unfold maxLen; omega
          case c4 => omega
          case c5 => have := HBW.out; simp; omega
          intro v7 w7 hr7 hg7 _
          have HS := Lib.hid (Ol.snoc hR.out.1 HBW.out hR.out.2 (by rw [HT.out]; exact hr7) hg7)
          have P7 := Lib.hid (h.out.below (by rw [← HB.out]; exact HS.out.1))
          have HL7 := Lib.hid (show (L.take i ++ [(k, x)]).length = i + 1 by rw [List.length_append, HT.out]; rfl)
          obtain ⟨a7, cap7, hv7⟩ := OffRow.slice HS.out.2
          rw [HL7.out] at hv7
          subst hv7
          clear hr7 hg7
          obtain ⟨gb', off', cap'', e7, f0, f1⟩ := P7.out.at HY.out.1
          simp only [Value.slice.injEq, Option.some.injEq, Addr.mk.injEq] at e7
          obtain ⟨⟨rfl, rfl, -⟩, -, -⟩ := e7
          clear d0 d1 f1
          have HG := Lib.hid (show i ≤ n by omega)
          obtain ⟨aD, hsl, hOD, -⟩ := slice_off Try.underlying28 hi0 hz1 (w := w7) (B := 0) (n := n) (cap := cap) (a := some ⟨gb, off, none⟩) (xs := pcells L) (g := i) (by have := P7.out; unfold Pl at this; rw [← HN.out] at this; exact this) HG.out
          have hsl' : ∀ W, (Instr.slice 28 (.slice (some ⟨gb, off, none⟩) n cap) (some (.int .i64 (i : Int))) none none).run Try.prog W = .ok (.slice aD (n - (i)) (cap - (i))) W := fun W => hsl W
          have HOD := Lib.hid hOD
          have HEND := Lib.hid (show putP k x L = (L.take i ++ [(k, x)]) ++ L.drop (i) by rw [HPA.out]; rw [if_neg (by rw [HY.out.1]; simpa using HY.out.2), List.append_assoc]; rfl)
          obtain ⟨q, hq⟩ : ∃ q, q = n - (i) := ⟨_, rfl⟩
          obtain ⟨c, hc⟩ : ∃ c, c = cap - (i) := ⟨_, rfl⟩
          obtain ⟨m7, hm7⟩ : ∃ m7, m7 = i + 1 := ⟨_, rfl⟩
          have HQ := Lib.hid (And.intro hq (And.intro hc hm7))
          rw [← hq, ← hc] at hsl' HOD
          rw [← hm7] at HL7
          rw [← hm7]
          clear hsl hOD hq hc hm7
          go_wp2_with (at_builtin; refine wpList_append_off rfl (.tmp 52) (.tmp 55) 28 rfl B 59 i0 _ 2 24 Try.underlying28 hi0 hz0 hz1 hz2 rfl (.slice a7 m7 cap7) m7 (pcells (L.take i ++ [(k, x)])) rfl ?e1 (.slice aD q c) rfl q (pcells (L.drop (i))) ?e2 ?e3 ?e4 ?e5 ?_)
          case e1 => have := HS.out.2; unfold Ol at this; rw [HL7.out, HQ.out.2.2] at this; rw [HQ.out.2.2]; exact this
          case e2 => have := HOD.out; rw [pcells_drop] at this; exact OffRow.src Try.underlying28 this (pcells_one _)
          case e3 => have := HQ.out; unfold maxLen; omega
          case e4 => have := HQ.out; omega
          case e5 => have := HS.out.1.size; have := HB.out; omega
          intro v8 w8 hr8 hg8 _
          have K8 := Lib.hid (HS.out.1.grown hg8 (by have := HS.out.1.size; have := HB.out; omega) fun j hj => (OffRow.lt HS.out.2 j (by rw [← HQ.out.2.2]; exact hj)).1)
          have R8 := Lib.hid hr8
          clear hr8 hg8 hi0 hz0 hz1 hz2 hsl'
          go_wp2_with fail
          go_ret
          refine ⟨v8, rfl, ?_, K8.out⟩
          rw [HEND.out]
          unfold Pl
          rw [pcells_append, List.length_append, HL7.out]
          have hln : (L.drop (i)).length = q := by rw [List.length_drop, HQ.out.1, HN.out]
          rw [hln]
          exact OffRow.mono R8.out (fun _ _ => Nat.zero_le _)
      · skip
        have hge2 : ¬ (i : Int) < (n : Int) := by omega
        obtain ⟨hi0, hz0, hz1, hz2⟩ := HI.out
        go_wp2_with (at_builtin; refine wpList_append_off rfl (.tmp 31) (.tmp 35) 28 rfl B 59 i0 _ 2 24 Try.underlying28 hi0 hz0 hz1 hz2 rfl (.slice a1 i cap1) i (pcells (L.take i)) rfl ?c1 (.slice (some ⟨wr.heap.size, 0, none⟩) 1 1) rfl 1 [.string (bs k), .int .i64 x] ?c2 ?c3 ?c4 ?c5 ?_)
        case c1 => have := OffRow.allocd hR.out.2 (.cells #[.string (bs k), .int .i64 x] 59); rw [HT.out] at this; exact this
        case c2 => exact src_block (size := 2) (cs := #[.string (bs k), .int .i64 x]) Try.underlying28 (heap_new _ _) 1 1 rfl (by intro u hu; simp at hu; rcases hu with rfl | rfl <;> rfl)
        case c3 => unfold maxLen; omega
        case c4 => omega
        case c5 => have := HBW.out; simp; omega
        intro v7 w7 hr7 hg7 _
        have HS := Lib.hid (Ol.snoc hR.out.1 HBW.out hR.out.2 (by rw [HT.out]; exact hr7) hg7)
        have P7 := Lib.hid (h.out.below (by rw [← HB.out]; exact HS.out.1))
        have HL7 := Lib.hid (show (L.take i ++ [(k, x)]).length = i + 1 by rw [List.length_append, HT.out]; rfl)
        obtain ⟨a7, cap7, hv7⟩ := OffRow.slice HS.out.2
        rw [HL7.out] at hv7
        subst hv7
        clear hr7 hg7
        have HG := Lib.hid (show i ≤ n by omega)
        obtain ⟨aD, hsl, hOD, -⟩ := slice_off Try.underlying28 hi0 hz1 (w := w7) (B := 0) (n := n) (cap := cap) (a := a) (xs := pcells L) (g := i) (by have := P7.out; unfold Pl at this; rw [← HN.out] at this; exact this) HG.out
        have hsl' : ∀ W, (Instr.slice 28 (.slice a n cap) (some (.int .i64 (i : Int))) none none).run Try.prog W = .ok (.slice aD (n - (i)) (cap - (i))) W := fun W => hsl W
        have HOD := Lib.hid hOD
        have HEND := Lib.hid (show putP k x L = (L.take i ++ [(k, x)]) ++ L.drop (i) by rw [HPA.out]; rw [if_neg (by rw [List.getElem?_eq_none (by rw [← HN.out]; omega)]; simp), List.append_assoc]; rfl)
        obtain ⟨q, hq⟩ : ∃ q, q = n - (i) := ⟨_, rfl⟩
        obtain ⟨c, hc⟩ : ∃ c, c = cap - (i) := ⟨_, rfl⟩
        obtain ⟨m7, hm7⟩ : ∃ m7, m7 = i + 1 := ⟨_, rfl⟩
        have HQ := Lib.hid (And.intro hq (And.intro hc hm7))
        rw [← hq, ← hc] at hsl' HOD
        rw [← hm7] at HL7
        rw [← hm7]
        clear hsl hOD hq hc hm7
        go_wp2_with (at_builtin; refine wpList_append_off rfl (.tmp 52) (.tmp 55) 28 rfl B 59 i0 _ 2 24 Try.underlying28 hi0 hz0 hz1 hz2 rfl (.slice a7 m7 cap7) m7 (pcells (L.take i ++ [(k, x)])) rfl ?e1 (.slice aD q c) rfl q (pcells (L.drop (i))) ?e2 ?e3 ?e4 ?e5 ?_)
        case e1 => have := HS.out.2; unfold Ol at this; rw [HL7.out, HQ.out.2.2] at this; rw [HQ.out.2.2]; exact this
        case e2 => have := HOD.out; rw [pcells_drop] at this; exact OffRow.src Try.underlying28 this (pcells_one _)
        case e3 => have := HQ.out; unfold maxLen; omega
        case e4 => have := HQ.out; omega
        case e5 => have := HS.out.1.size; have := HB.out; omega
        intro v8 w8 hr8 hg8 _
        have K8 := Lib.hid (HS.out.1.grown hg8 (by have := HS.out.1.size; have := HB.out; omega) fun j hj => (OffRow.lt HS.out.2 j (by rw [← HQ.out.2.2]; exact hj)).1)
        have R8 := Lib.hid hr8
        clear hr8 hg8 hi0 hz0 hz1 hz2 hsl'
        go_wp2_with fail
        go_ret
        refine ⟨v8, rfl, ?_, K8.out⟩
        rw [HEND.out]
        unfold Pl
        rw [pcells_append, List.length_append, HL7.out]
        have hln : (L.drop (i)).length = q := by rw [List.length_drop, HQ.out.1, HN.out]
        rw [hln]
        exact OffRow.mono R8.out (fun _ _ => Nat.zero_le _)
end Go.Proofs.Ytbmihajbdobgbaa.MI
