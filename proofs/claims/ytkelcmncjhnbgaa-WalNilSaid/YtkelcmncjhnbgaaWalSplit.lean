/- Rows of texts; Split and Frames, the program's and the document's; whether two rows are the same. -/
import Derived.Test.YtkelcmncjhnbgaaWalFrame
import Derived.Test.YtkelcmncjhnbgaaEpRow
import Derived.Test.YtkelcmncjhnbgaaQTail
set_option linter.unusedVariables false
set_option maxRecDepth 100000
namespace Go.Proofs.Ytkelcmncjhnbgaa
open Go.RowKit

theorem info_parts {t : TypeId} {z : Value} {s b : Nat} (h : (Try.prog.info? t).map (fun i => (i.zero, i.size, i.bytes)) = some (some z, s, b)) : ∃ i, Try.prog.info? t = some i ∧ i.zero = some z ∧ i.size = s ∧ i.bytes = b := by
  cases hi : Try.prog.info? t with
  | none => rw [hi] at h; cases h
  | some i =>
    rw [hi] at h
    simp only [Option.map_some, Option.some.injEq, Prod.mk.injEq] at h
    exact ⟨i, rfl, h.1, h.2.1, h.2.2⟩
theorem infoStr : (Try.prog.info? 9).map (fun i => (i.zero, i.size, i.bytes)) = some (some (.string ⟨#[]⟩), 1, 16) := by kernel_rfl
theorem OffRow.allocd {w : World} {B n size : Nat} {e : TypeId} {v : Value} {xs : List Value} (h : OffRow w B e size v n xs) (o : Obj) : OffRow (w.alloc o) B e size v n xs := h.kept fun j hj => Below.heap_alloc w o j (h.lt j hj).2

/-- A row of texts of the call's own. -/
def scells (T : List (List UInt8)) : List Value := T.map fun t => .string (bs t)
theorem scells_snoc (T : List (List UInt8)) (t : List UInt8) : scells (T ++ [t]) = scells T ++ [.string (bs t)] := by simp [scells]
def OwnT (w : World) (B : Nat) (v : Value) (T : List (List UInt8)) : Prop := OffRow w B 9 1 v T.length (scells T)
/-- A slice of texts. -/
def TxV (w : World) (v : Value) (T : List (List UInt8)) : Prop := ∃ a cap, v = .slice a T.length cap ∧ ∃ b off, (T.length = 0 ∨ a = some ⟨b, off, none⟩) ∧ ∀ k (hk : k < T.length), b < w.heap.size ∧ w.cell? ⟨b, off + k, none⟩ = some (.string (bs T[k]))
theorem TxV.below {w w' : World} {v : Value} {T : List (List UInt8)} (h : TxV w v T) (k : Below w.heap.size w w') : TxV w' v T := by
  obtain ⟨a, cap, rfl, b, off, h1, h2⟩ := h
  refine ⟨a, cap, rfl, b, off, h1, fun j hj => ?_⟩
  obtain ⟨h3, h4⟩ := h2 j hj
  exact ⟨Nat.lt_of_lt_of_le h3 k.size, by rw [k.cell (p := ⟨b, off + j, none⟩) h3]; exact h4⟩
theorem TxV.at {w : World} {a : Option Addr} {n cap : Nat} {T : List (List UInt8)} (h : TxV w (.slice a n cap) T) {i : Nat} {t : List UInt8} (hi : T[i]? = some t) : ∃ b off, a = some ⟨b, off, none⟩ ∧ b < w.heap.size ∧ w.cell? ⟨b, off + i, none⟩ = some (.string (bs t)) := by
  obtain ⟨hl, ht⟩ := List.getElem?_eq_some_iff.1 hi
  obtain ⟨a', cap', e, b, off, h1, h2⟩ := h
  simp only [Value.slice.injEq] at e
  obtain ⟨rfl, rfl, rfl⟩ := e
  obtain ⟨h3, h4⟩ := h2 i hl
  rw [ht] at h4
  exact ⟨b, off, by rcases h1 with h1 | h1; (omega); (exact h1), h3, h4⟩
theorem TxV.len {w : World} {a : Option Addr} {n cap : Nat} {T : List (List UInt8)} (h : TxV w (.slice a n cap) T) : n = T.length := by
  obtain ⟨a', cap', e, _⟩ := h
  simp only [Value.slice.injEq] at e
  exact e.2.1
theorem OwnT.txs {w : World} {B : Nat} {v : Value} {T : List (List UInt8)} (h : OwnT w B v T) : TxV w v T := by
  unfold OwnT at h
  rcases Nat.eq_zero_or_pos T.length with h0 | h0
  · obtain ⟨a, cap, rfl⟩ := OffRow.slice h
    exact ⟨a, cap, rfl, 0, 0, .inl h0, fun k hk => absurd hk (by omega)⟩
  · obtain ⟨g, off, cap, cur, rfl, hB, hg, hc⟩ := OffRow.form h h0
    refine ⟨_, cap, rfl, g, off, .inr rfl, fun k hk => ⟨heap_lt hg, ?_⟩⟩
    rw [hc k (by omega)]
    simp [scells, hk]

/-- What Split answers. -/
def SplitPost (l : List UInt8) (w : World) (e : Ending) (w' : World) : Prop := ∃ v, e = .returned (.tuple #[v, .int .i64 ((splitL l).2 : Int)]) ∧ OwnT w' w.heap.size v (splitL l).1 ∧ Below w.heap.size w w'
theorem split_ret {l : List UInt8} {w w' : World} {v : Value} {T : List (List UInt8)} {k : Nat} (h : splitL l = (T, k)) (o : OwnT w' w.heap.size v T) (b : Below w.heap.size w w') : SplitPost l w (.returned (.tuple #[v, .int .i64 (k : Int)])) w' := ⟨v, by rw [h], by rw [h]; exact o, b⟩
theorem split_end {l rest : List UInt8} {T : List (List UInt8)} {k : Nat} (h : splitL l = (T ++ (splitL rest).1, k + (splitL rest).2)) (hf : firstL rest = none) : splitL l = (T, k) := by rw [h, split_none hf]; simp
theorem split_more {l : List UInt8} {T : List (List UInt8)} {k n : Nat} {t : List UInt8} (h : splitL l = (T ++ (splitL (l.drop k)).1, k + (splitL (l.drop k)).2)) (hf : firstL (l.drop k) = some (t, n)) : splitL l = ((T ++ [t]) ++ (splitL (l.drop (k + n))).1, (k + n) + (splitL (l.drop (k + n))).2) := by
  rw [h, split_some hf, List.drop_drop]
  simp [Nat.add_assoc]

set_option maxHeartbeats 4000000 in
theorem wal_Split (l : List UInt8) (w : World) (hl : l.length ≤ 1000000000) : Calls Try.prog 12 #[.string (bs l)] w fun e w' => SplitPost l w e w' := by
  have hz : (bs l).size = l.length := bs_size l
  obtain ⟨B, hB⟩ : ∃ B, B = w.heap.size := ⟨_, rfl⟩
  have HB := Lib.hid hB
  obtain ⟨i0, hi, hz0, hz1, hz2⟩ := info_parts infoStr
  have HI := Lib.hid (And.intro hi (And.intro hz0 (And.intro hz1 hz2)))
  have HL := Lib.hid hl
  clear hi hz0 hz1 hz2 hB
  go_enter Try.func12, Try.ntmps12
  go_wp2_with fail
  go_loopw [4, 5] (fun rv kv wr => ∃ (k : Nat) (T : List (List UInt8)), k ≤ l.length ∧ kv = .int .i64 (k : Int) ∧ Hid (Below B w wr ∧ OwnT wr B rv T) ∧ Hid (4 * T.length ≤ k) ∧ Hid (splitL l = (T ++ (splitL (l.drop k)).1, k + (splitL (l.drop k)).2))) (fun rv kv wr => l.length - (intOf kv).toNat)
  case atStart => exact ⟨0, [], Nat.zero_le _, rfl, Lib.hid ⟨Below.refl _ _, OffRow.nil _ _ _ _⟩, Lib.hid (by simp), Lib.hid (by simp)⟩
  case round =>
    obtain ⟨k, T, hk, rfl, hR, hn4, hS⟩ := hrel
    have hn := Lib.hid (show T.length ≤ 1000000000 by have := hn4.out; omega)
    obtain ⟨a1, cap1, rfl⟩ := OffRow.slice hR.out.2
    obtain ⟨rest, hrest⟩ : ∃ rest, rest = l.drop k := ⟨_, rfl⟩
    have hex : (bs l).extract k l.length = bs rest := by rw [hrest, ← bs_from l k hk, hz]
    have hrl : rest.length ≤ 1000000000 := by rw [hrest, List.length_drop]; omega
    have hk2 : (k : Int) ≤ (l.length : Int) := by omega
    have HR := Lib.hid hrest
    clear hrest
    rcases hf : firstL rest with _ | ⟨t, n⟩
    · have HF := Lib.hid (firstV_none hf)
      have HE := Lib.hid (show splitL l = (T, k) from split_end (rest := rest) (by rw [HR.out]; exact hS.out) hf)
      clear hf
      go_wp2_with fail
      refine (wal_first rest wr hrl).mono ?_
      rintro e w1 ⟨rfl, k1⟩
      have K1 := Lib.hid (hR.out.1.trans (k1.mono (by have := hR.out.1.size; have := HB.out; omega)))
      have O1 := Lib.hid (show OwnT w1 B (.slice a1 T.length cap1) T from OffRow.kept hR.out.2 fun j hj => k1.block j (OffRow.lt hR.out.2 j hj).2)
      rw [HF.out]
      clear k1
      go_wp2
      go_ret2
      exact split_ret HE.out (by rw [← HB.out]; exact O1.out) (by rw [← HB.out]; exact K1.out)
    · have HF := Lib.hid (firstV_some hf)
      have HE := Lib.hid (split_more hS.out (by rw [← HR.out]; exact hf))
      have hlt := first_lt hf
      have hkn : k + n ≤ l.length := by rw [HR.out, List.length_drop] at hlt; omega
      have h4 : 4 ≤ n := by have := (first_back hf).2.2; have := frameL_pos t; omega
      clear hf hlt
      go_wp2_with fail
      refine (wal_first rest wr hrl).mono ?_
      rintro e w1 ⟨rfl, k1⟩
      have K1 := Lib.hid (hR.out.1.trans (k1.mono (by have := hR.out.1.size; have := HB.out; omega)))
      have O1 := Lib.hid (show OffRow w1 B 9 1 (.slice a1 T.length cap1) T.length (scells T) from OffRow.kept hR.out.2 fun j hj => k1.block j (OffRow.lt hR.out.2 j hj).2)
      rw [HF.out]
      clear k1
      obtain ⟨hi, hz0, hz1, hz2⟩ := HI.out
      go_wp2_with (at_builtin; refine wpList_append_off rfl (.tmp 21) (.tmp 23) 22 rfl B 9 i0 _ 1 16 Try.underlying22 hi hz0 hz1 hz2 rfl (.slice a1 T.length cap1) T.length (scells T) rfl ?c1 (.slice (some ⟨w1.heap.size, 0, none⟩) 1 1) rfl 1 [.string (bs t)] ?c2 ?c3 ?c4 ?c5 ?_)
      case c1 => exact O1.out.allocd _
      case c2 => exact src_block (size := 1) (cs := #[.string (bs t)]) Try.underlying22 (heap_new _ _) 1 1 rfl (by intro u hu; simp at hu; subst hu; rfl)
      case c3 => have := hn.out; unfold maxLen; omega
      case c4 => have := hn.out; omega
      case c5 => have := K1.out.size; have := HB.out; simp; omega
      intro v7 w7 hr7 hg7 hat7
      have O7 := Lib.hid (show OwnT w7 B v7 (T ++ [t]) from by unfold OwnT; rw [List.length_append, scells_snoc]; exact hr7)
      have K7 := Lib.hid ((K1.out.alloc (by have := K1.out.size; have := HB.out; omega) _).grown hg7 (by have := K1.out.size; have := HB.out; simp; omega) (fun j hj => ((O1.out.allocd (.cells #[.string (bs t)] 9)).lt j hj).1))
      clear hr7 hg7 hat7 hi hz0 hz1 hz2
      go_wp2_with fail
      go_roundw
      case rel => exact ⟨k + n, T ++ [t], hkn, by go_num, Lib.hid ⟨K7.out, O7.out⟩, Lib.hid (by have := hn4.out; simp; omega), HE⟩
      case measure => simp [intOf]; omega

set_option maxHeartbeats 4000000 in
theorem ref_Split (l : List UInt8) (w : World) (hl : l.length ≤ 1000000000) : Calls Try.prog 13 #[.string (bs l)] w fun e w' => SplitPost l w e w' := by
  have hz : (bs l).size = l.length := bs_size l
  obtain ⟨B, hB⟩ : ∃ B, B = w.heap.size := ⟨_, rfl⟩
  have HB := Lib.hid hB
  obtain ⟨i0, hi, hz0, hz1, hz2⟩ := info_parts infoStr
  have HI := Lib.hid (And.intro hi (And.intro hz0 (And.intro hz1 hz2)))
  have HL := Lib.hid hl
  clear hi hz0 hz1 hz2 hB
  go_enter Try.func13, Try.ntmps13
  go_wp2_with fail
  go_loopw [4, 5] (fun rv kv wr => ∃ (k : Nat) (T : List (List UInt8)), k ≤ l.length ∧ kv = .int .i64 (k : Int) ∧ Hid (Below B w wr ∧ OwnT wr B rv T) ∧ Hid (4 * T.length ≤ k) ∧ Hid (splitL l = (T ++ (splitL (l.drop k)).1, k + (splitL (l.drop k)).2))) (fun rv kv wr => l.length - (intOf kv).toNat)
  case atStart => exact ⟨0, [], Nat.zero_le _, rfl, Lib.hid ⟨Below.refl _ _, OffRow.nil _ _ _ _⟩, Lib.hid (by simp), Lib.hid (by simp)⟩
  case round =>
    obtain ⟨k, T, hk, rfl, hR, hn4, hS⟩ := hrel
    have hn := Lib.hid (show T.length ≤ 1000000000 by have := hn4.out; omega)
    obtain ⟨a1, cap1, rfl⟩ := OffRow.slice hR.out.2
    obtain ⟨rest, hrest⟩ : ∃ rest, rest = l.drop k := ⟨_, rfl⟩
    have hex : (bs l).extract k l.length = bs rest := by rw [hrest, ← bs_from l k hk, hz]
    obtain ⟨rl, hrl⟩ : ∃ rl, rl = rest.length := ⟨_, rfl⟩
    have hrz : (bs rest).size = rl := by rw [bs_size, hrl]
    have hkr : k + rl = l.length := by rw [hrl, hrest, List.length_drop]; omega
    have hk2 : (k : Int) ≤ (l.length : Int) := by omega
    have HR := Lib.hid hrest
    have hT := fun wr => ref_ReadText (bs rest) wr (by rw [hrz]; unfold maxLen; omega)
    rw [bs_list] at hT
    clear hrest
    rcases td_cases rest with ⟨b1, b2, b3, b4, b5, b6, b7⟩ | ⟨b1 | b1, b2, b3⟩
    · obtain ⟨t, ht⟩ : ∃ t, t = ts rest := ⟨_, rfl⟩
      obtain ⟨n, hn'⟩ : ∃ n, n = tk rest := ⟨_, rfl⟩
      obtain ⟨q, hq⟩ : ∃ q, q = t.length := ⟨_, rfl⟩
      have htz : (bs t).size = q := by rw [bs_size, hq]
      have hql : q ≤ rl := by rw [hq, ht, b7, List.length_take, List.length_drop]; omega
      have hnr : n ≤ rl := by rw [hn', b6, hrl]; exact b4
      obtain ⟨m, hm⟩ : ∃ m, m + n = rl := ⟨rl - n, by omega⟩
      rw [b1, ← ht, ← hn'] at hT
      have HT := Lib.hid (And.intro b1 (And.intro ht (And.intro hn' (And.intro hq hrl))))
      clear b1 b2 b3 b4 b5 b6 b7 ht hn' hq hrl
      have hsub1 : ((l.length : Int) - (k : Int)) = ((rl : Nat) : Int) := by omega
      have hsub2 : ((rl : Int) - (n : Int)) = ((m : Nat) : Int) := by omega
      by_cases hbig : q ≤ 1048576
      · have hbig' : (q : Int) ≤ 1048576 := by omega
        by_cases h4 : 4 ≤ m
        · have h4' : (4 : Int) ≤ (m : Int) := by omega
          obtain ⟨cut, hcut⟩ : ∃ cut, cut = rest.take (n + 4) := ⟨_, rfl⟩
          have hex2 : (bs rest).extract 0 (n + 4) = bs cut := by rw [hcut]; exact bs_upto rest (n + 4) (by rw [← HT.out.2.2.2.2]; omega)
          have hcl : cut.length = n + 4 := by rw [hcut, List.length_take, ← HT.out.2.2.2.2]; omega
          have hcs : (bs cut).size ≤ 140737488355328 := by rw [bs_size]; omega
          have hnl' : ((n : Int) + 4) ≤ (rl : Int) := by omega
          by_cases hok : okT cut
          · have hE := Lib.hid (show takeE cut = 0 by rw [take_err cut (by omega), if_pos hok])
            have hf : firstL rest = some (t, n + 4) := by
              have := first_yes HT.out.1 (by rw [← HT.out.2.1, ← HT.out.2.2.2.1]; exact hbig) (by rw [← HT.out.2.2.1, ← HT.out.2.2.2.2]; omega) (by rw [← HT.out.2.2.1, ← hcut]; exact hok)
              rw [this, ← HT.out.2.1, ← HT.out.2.2.1]
            have HE := Lib.hid (split_more hS.out (by rw [← HR.out]; exact hf))
            clear hf hok HT hcut
            go_wp2_with fail
            refine (hT wr).mono ?_
            rintro e w1 ⟨rfl, rfl⟩
            go_wp2_with fail
            refine (ref_Take (bs cut) wr hcs).mono ?_
            rintro e w1 ⟨rfl, k1⟩
            have K1 := Lib.hid (hR.out.1.trans (k1.mono (by have := hR.out.1.size; have := HB.out; omega)))
            have O1 := Lib.hid (show OffRow w1 B 9 1 (.slice a1 T.length cap1) T.length (scells T) from OffRow.kept hR.out.2 fun j hj => k1.block j (OffRow.lt hR.out.2 j hj).2)
            rw [bs_list, hE.out]
            clear k1
            obtain ⟨hi, hz0, hz1, hz2⟩ := HI.out
            go_wp2_with (at_builtin; refine wpList_append_off rfl (.tmp 51) (.tmp 53) 22 rfl B 9 i0 _ 1 16 Try.underlying22 hi hz0 hz1 hz2 rfl (.slice a1 T.length cap1) T.length (scells T) rfl ?c1 (.slice (some ⟨w1.heap.size, 0, none⟩) 1 1) rfl 1 [.string (bs t)] ?c2 ?c3 ?c4 ?c5 ?_)
            case c1 => exact O1.out.allocd _
            case c2 => exact src_block (size := 1) (cs := #[.string (bs t)]) Try.underlying22 (heap_new _ _) 1 1 rfl (by intro u hu; simp at hu; subst hu; rfl)
            case c3 => have := hn.out; unfold maxLen; omega
            case c4 => have := hn.out; omega
            case c5 => have := K1.out.size; have := HB.out; simp; omega
            intro v7 w7 hr7 hg7 hat7
            have O7 := Lib.hid (show OwnT w7 B v7 (T ++ [t]) from by unfold OwnT; rw [List.length_append, scells_snoc]; exact hr7)
            have K7 := Lib.hid ((K1.out.alloc (by have := K1.out.size; have := HB.out; omega) _).grown hg7 (by have := K1.out.size; have := HB.out; simp; omega) (fun j hj => ((O1.out.allocd (.cells #[.string (bs t)] 9)).lt j hj).1))
            clear hr7 hg7 hat7 hi hz0 hz1 hz2
            go_wp2_with fail
            go_roundw
            case rel => exact ⟨k + (n + 4), T ++ [t], by omega, by go_num, Lib.hid ⟨K7.out, O7.out⟩, Lib.hid (by have := hn4.out; simp; omega), HE⟩
            case measure => simp [intOf]; omega
          · have hE := Lib.hid (show takeE cut = 4 by rw [take_err cut (by omega), if_neg hok])
            have HE := Lib.hid (show splitL l = (T, k) from split_end (rest := rest) (by rw [HR.out]; exact hS.out) (first_no (by
              intro hh
              have := hh.2.2.2
              rw [← HT.out.2.2.1, ← hcut] at this
              exact hok this)))
            clear hok HT hcut
            go_wp2_with fail
            refine (hT wr).mono ?_
            rintro e w1 ⟨rfl, rfl⟩
            go_wp2_with fail
            refine (ref_Take (bs cut) wr hcs).mono ?_
            rintro e w1 ⟨rfl, k1⟩
            have K1 := Lib.hid (hR.out.1.trans (k1.mono (by have := hR.out.1.size; have := HB.out; omega)))
            have O1 := Lib.hid (show OwnT w1 B (.slice a1 T.length cap1) T from OffRow.kept hR.out.2 fun j hj => k1.block j (OffRow.lt hR.out.2 j hj).2)
            rw [bs_list, hE.out]
            clear k1
            go_wp2
            go_ret2
            exact split_ret HE.out (by rw [← HB.out]; exact O1.out) (by rw [← HB.out]; exact K1.out)
        · have h4' : (m : Int) < 4 := by omega
          have HE := Lib.hid (show splitL l = (T, k) from split_end (rest := rest) (by rw [HR.out]; exact hS.out) (first_no (by
            intro hh
            have := hh.2.2.1
            rw [← HT.out.2.2.1, ← HT.out.2.2.2.2] at this
            omega)))
          clear HT
          go_wp2_with fail
          refine (hT wr).mono ?_
          rintro e w1 ⟨rfl, rfl⟩
          go_wp2
          go_ret2
          exact split_ret HE.out (by rw [← HB.out]; exact hR.out.2) (by rw [← HB.out]; exact hR.out.1)
      · have hbig' : (1048576 : Int) < (q : Int) := by omega
        have HE := Lib.hid (show splitL l = (T, k) from split_end (rest := rest) (by rw [HR.out]; exact hS.out) (first_no (by
          intro hh
          have := hh.2.1
          rw [← HT.out.2.1, ← HT.out.2.2.2.1] at this
          omega)))
        clear HT
        go_wp2_with fail
        refine (hT wr).mono ?_
        rintro e w1 ⟨rfl, rfl⟩
        go_wp2
        go_ret2
        exact split_ret HE.out (by rw [← HB.out]; exact hR.out.2) (by rw [← HB.out]; exact hR.out.1)
    · rw [b1] at hT
      have HE := Lib.hid (show splitL l = (T, k) from split_end (rest := rest) (by rw [HR.out]; exact hS.out) (first_no (by omega)))
      clear b1 b2 b3
      go_wp2_with fail
      refine (hT wr).mono ?_
      rintro e w1 ⟨rfl, rfl⟩
      go_wp2
      go_ret2
      exact split_ret HE.out (by rw [← HB.out]; exact hR.out.2) (by rw [← HB.out]; exact hR.out.1)
    · rw [b1] at hT
      have HE := Lib.hid (show splitL l = (T, k) from split_end (rest := rest) (by rw [HR.out]; exact hS.out) (first_no (by omega)))
      clear b1 b2 b3
      go_wp2_with fail
      refine (hT wr).mono ?_
      rintro e w1 ⟨rfl, rfl⟩
      go_wp2
      go_ret2
      exact split_ret HE.out (by rw [← HB.out]; exact hR.out.2) (by rw [← HB.out]; exact hR.out.1)

theorem frame_ge (r : List UInt8) : r.length ≤ (frameL r).length := by rw [frameL_len, text, List.length_append]; omega
theorem frames_mem {T : List (List UInt8)} {t : List UInt8} (h : t ∈ T) : t.length ≤ (framesL T).length := by
  induction T with
  | nil => cases h
  | cons r T ih =>
    show _ ≤ (frameL r ++ framesL T).length
    rw [List.length_append]
    rcases List.mem_cons.1 h with rfl | h
    · have := frame_ge t; omega
    · have := ih h; omega
theorem frames_snoc {T : List (List UInt8)} {i : Nat} {t : List UInt8} (h : T[i]? = some t) : framesL (T.take (i + 1)) = framesL (T.take i) ++ frameL t := by
  rw [List.take_add_one, h]
  show framesL (T.take i ++ [t]) = _
  rw [framesL_append, framesL_one]
theorem frames_take (T : List (List UInt8)) (i : Nat) : (framesL (T.take i)).length ≤ (framesL T).length := by
  conv => rhs; rw [← List.take_append_drop i T, framesL_append, List.length_append]
  omega
set_option maxHeartbeats 1000000 in
theorem ref_Frames {a : Option Addr} {len cap : Nat} {T : List (List UInt8)} {w : World} (h : Hid (TxV w (.slice a len cap) T)) (hb : Hid ((framesL T).length ≤ 1000000000)) (hl : len ≤ 1000000000) :
    Calls Try.prog 14 #[.slice a len cap] w fun e w' => e = .returned (.string (bs (framesL T))) ∧ Below w.heap.size w w' := by
  have HL := Lib.hid h.out.len
  go_enter Try.func14, Try.ntmps14
  go_wp2_with fail
  go_loopw [3, 4] (fun sv iv wr => ∃ i : Nat, i ≤ len ∧ iv = .int .i64 (i : Int) ∧ sv = .string (bs (framesL (T.take i))) ∧ Hid (Below w.heap.size w wr)) (fun sv iv wr => len - (intOf iv).toNat)
  case atStart => exact ⟨0, Nat.zero_le _, rfl, rfl, Lib.hid (Below.refl _ _)⟩
  case round =>
    obtain ⟨i, hi, rfl, rfl, hK⟩ := hrel
    rcases Nat.lt_or_ge i len with hlt | hge
    · obtain ⟨t, ht⟩ : ∃ t, T[i]? = some t := ⟨_, List.getElem?_eq_getElem (by have := HL.out; omega)⟩
      obtain ⟨b, off, rfl, hbl, hc⟩ := (h.out.below hK.out).at ht
      have hlt2 : (i : Int) < (len : Int) := by omega
      have htl : t.length ≤ 1000000000 := Nat.le_trans (frames_mem (List.mem_of_getElem? ht)) hb.out
      have hcat : bs (framesL (T.take i)) ++ bs (frameL t) = bs (framesL (T.take (i + 1))) := by rw [frames_snoc ht, bs_cat, bs_list]
      have hsz : ((bs (framesL (T.take i))).size : Int) + ((bs (frameL t)).size : Int) ≤ 9223372036854775807 := by
        have := frames_take T i
        have := frameL_le (r := t) (by omega)
        have := hb.out
        rw [bs_size, bs_size]
        omega
      clear ht
      go_wp2_with fail
      refine (ref_Frame t wr htl).mono ?_
      rintro e w1 ⟨rfl, k1⟩
      have K1 := Lib.hid (hK.out.trans (k1.mono hK.out.size))
      clear k1
      go_wp2_with fail
      go_roundw
      case rel => exact ⟨i + 1, by omega, by go_num, rfl, K1⟩
      case measure => simp [intOf]; omega
    · obtain rfl : i = len := by omega
      have HE := Lib.hid (show T.take i = T by rw [HL.out]; exact List.take_length)
      rw [HE.out]
      go_wp2
      go_ret
      exact ⟨rfl, hK.out⟩
set_option maxHeartbeats 2000000 in
theorem ref_Same {va vb : Value} {T : List (List UInt8)} {w : World} (ha : TxV w va T) (hb : TxV w vb T) (hl : T.length ≤ 1000000000) :
    Calls Try.prog 15 #[va, vb] w fun e w' => e = .returned (.bool true) ∧ Below w.heap.size w w' := by
  have HA := Lib.hid ha
  have HB := Lib.hid hb
  obtain ⟨a, ca, rfl, _⟩ := ha
  obtain ⟨b, cb, rfl, _⟩ := hb
  obtain ⟨len, hlen⟩ : ∃ len, len = T.length := ⟨_, rfl⟩
  rw [← hlen] at HA HB hl ⊢
  have HL := Lib.hid hlen
  clear hlen
  go_enter Try.func15, Try.ntmps15
  go_wp2_with fail
  go_loopw [5] (fun i wr => ∃ k : Nat, k ≤ len ∧ i = .int .i64 k ∧ Hid (Below w.heap.size w wr)) (fun i wr => len - (intOf i).toNat)
  case atStart => exact ⟨0, Nat.zero_le _, rfl, Lib.hid (Below.refl _ _)⟩
  case round =>
    obtain ⟨k, hk, rfl, hK⟩ := hrel
    by_cases hlt : k < len
    · obtain ⟨t, ht⟩ : ∃ t, T[k]? = some t := ⟨_, List.getElem?_eq_getElem (by have := HL.out; omega)⟩
      obtain ⟨b0, off0, rfl, hb0, c0⟩ := (HA.out.below hK.out).at ht
      obtain ⟨b1, off1, rfl, hb1, c1⟩ := (HB.out.below hK.out).at ht
      have hlt2 : (k : Int) < (len : Int) := by omega
      clear ht
      go_wp2_with fail
      go_quiet (fail)
      go_wp2
      go_roundw
      case rel => exact ⟨k + 1, by omega, by go_num, Lib.hid (below_drewN hK.out _)⟩
      case measure => simp [intOf]; omega
    · go_wp2
      go_ret
      exact ⟨rfl, hK.out⟩
end Go.Proofs.Ytkelcmncjhnbgaa
