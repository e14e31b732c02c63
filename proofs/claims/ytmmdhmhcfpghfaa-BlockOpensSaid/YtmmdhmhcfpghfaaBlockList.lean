/- The list of entries gone over: TakeList. -/
import Derived.Test.YtmmdhmhcfpghfaaBlockTakes
set_option linter.unusedVariables false
set_option maxRecDepth 100000
namespace Go.Proofs.Ytmmdhmhcfpghfaa
open Go.RowKit

/-- Where the going over of a list stands: m entries more. -/
def UponE (N : Nat) (l : List UInt8) (m : Nat) (T : List Ent) (k : Nat) : Prop :=
  rdEs N true [] l = (if (rdEs m T.isEmpty (lastK [] T) (l.drop k)).1 ≠ 0 then ((rdEs m T.isEmpty (lastK [] T) (l.drop k)).1, [], 0) else (0, T ++ (rdEs m T.isEmpty (lastK [] T) (l.drop k)).2.1, k + (rdEs m T.isEmpty (lastK [] T) (l.drop k)).2.2))
theorem uponE_start (N : Nat) (l : List UInt8) : UponE N l N [] 0 := by
  unfold UponE
  simp only [List.isEmpty_nil, lastK, List.drop_zero, List.nil_append, Nat.zero_add]
  have key : ∀ (m : Nat) (first : Bool) (last l : List UInt8), (rdEs m first last l).1 ≠ 0 → rdEs m first last l = ((rdEs m first last l).1, [], 0) := by
    intro m
    induction m with
    | zero => intro first last l h; exact absurd rfl h
    | succ m ih =>
      intro first last l h
      simp only [rdEs] at h ⊢
      split
      · rfl
      · rename_i g
        rw [if_neg g] at h
        split
        · rfl
        · rename_i g2
          rw [if_neg g2] at h
          exact absurd rfl h
  split
  · rename_i h
    exact key _ _ _ _ h
  · rename_i h
    have h0 : (rdEs N true [] l).1 = 0 := Decidable.of_not_not h
    rw [← h0]
theorem uponE_end {N : Nat} {l : List UInt8} {T : List Ent} {k : Nat} (h : UponE N l 0 T k) : rdEs N true [] l = (0, T, k) := by
  unfold UponE at h
  rw [h]
  simp [rdEs]
theorem uponE_stop {N : Nat} {l : List UInt8} {m : Nat} {T : List Ent} {k : Nat} (h : UponE N l (m + 1) T k) (he : (rdE T.isEmpty (lastK [] T) (l.drop k)).1 ≠ 0) : rdEs N true [] l = ((rdE T.isEmpty (lastK [] T) (l.drop k)).1, [], 0) := by
  unfold UponE at h
  rw [h]
  simp only [rdEs]
  rw [if_pos he, if_pos he]
theorem uponE_next {N : Nat} {l : List UInt8} {m : Nat} {T : List Ent} {k n : Nat} {x : Ent} (h : UponE N l (m + 1) T k) (he : rdE T.isEmpty (lastK [] T) (l.drop k) = (0, x, n)) : UponE N l m (T ++ [x]) (k + n) := by
  unfold UponE at h ⊢
  rw [h, lastK_snoc]
  have e1 : (T ++ [x]).isEmpty = false := by cases T <;> rfl
  simp only [rdEs, he, e1, List.drop_drop]
  by_cases g : (rdEs m false x.key (l.drop (k + n))).1 ≠ 0
  · simp [g]
  · simp [g, List.append_assoc, Nat.add_assoc]
theorem rdE_nil (first : Bool) (last : List UInt8) : (rdE first last []).1 = 2 := by
  have : kE last [] = 2 := rfl
  rcases rdE_parts first last [] with ⟨_, h⟩ | ⟨h, _⟩
  · rw [h, this]
  · rw [this] at h; cases h
theorem block_taker (w : World) : Calls Try.prog 32 #[] w fun e w' => e = .returned (.func (.func 50) #[] #[.pointer (some ⟨w.heap.size, 0, none⟩), .pointer (some ⟨w.heap.size + 1, 0, none⟩)]) ∧ (w.alloc (.cells #[.slice none 0 0] 39)).alloc (.cells #[.bool true] 4) = w' := by
  go_enter Try.func32, Try.ntmps32
  go_wp2
  go_ret
  exact ⟨rfl, rfl⟩
set_option maxHeartbeats 2000000 in
theorem take_one (B r c1 c2 : Nat) (first : Bool) (last l : List UInt8) (w : World) (h : Rt r (bs l) w) (hBr : B ≤ r) (ha : Ahd B c1 c2 first last w) (hl : l.length ≤ 100000000000) (hlast : last.length ≤ 65536) :
    Calls Try.prog 49 #[.pointer (some ⟨r, 0, none⟩), .func (.func 50) #[] #[.pointer (some ⟨c1, 0, none⟩), .pointer (some ⟨c2, 0, none⟩)]] w (TakerPost B r c1 c2 first last l w) := by
  have hrw := h.lt
  have hBw : B ≤ w.heap.size := by omega
  obtain ⟨w0, hw0⟩ : ∃ w0, w.alloc (.cells #[.int .i64 0, .string ⟨#[]⟩, .string ⟨#[]⟩, .bool false] 64) = w0 := ⟨_, rfl⟩
  have A := Lib.hid (show Rt r (bs l) w0 ∧ Tb B w w0 ∧ Ahd B c1 c2 first last w0 ∧ BxT w.heap.size noTld w0 ∧ w.heap.size ≤ w0.heap.size from by
    have hb : Below w.heap.size w w0 := by rw [← hw0]; exact (Below.refl _ _).alloc (Nat.le_refl _) _
    exact ⟨(hb.block r h.lt).trans h, Tb.of_below hb hBw, ha.below hb, by rw [← hw0]; exact heap_new w _, hb.size⟩)
  have HL := Lib.hid (And.intro hrw (And.intro hBw hBr))
  have hone := Lib.hid (take_entry B r c1 c2 first last l w0 A.out.1 hBr A.out.2.2.1 hl hlast)
  have HW0 := Lib.hid hw0
  clear h ha hrw hBw hBr hw0
  have hcr := A.out.1.cell
  by_cases he : l = []
  · subst he
    have e1 : (bs []).toList.isEmpty = true := by rw [Lib.toList_data, bs_list]; rfl
    have e0 : (bs []).toList = [] := by rw [Lib.toList_data, bs_list]
    go_enter Try.func49, Try.ntmps49
    go_upto_region 1 with (fail)
    rw [HW0.out]
    clear HW0
    obtain ⟨w1, hw1⟩ : ∃ w1, w0.alloc (.cells #[.int .i64 0, .string ⟨#[]⟩, .string ⟨#[]⟩, .bool false] 64) = w1 := ⟨_, rfl⟩
    have B1 : Below w0.heap.size w0 w1 := by rw [← hw1]; exact (Below.refl _ _).alloc (Nat.le_refl _) _
    have P1 := Lib.hid (show Rt r (bs []) w1 ∧ Tb B w w1 ∧ BxT w.heap.size noTld w1 from ⟨(B1.block r A.out.1.lt).trans A.out.1, A.out.2.1.trans (Tb.of_below B1 (by have := HL.out; have := A.out.2.2.2.2; omega)), A.out.2.2.2.1.below B1⟩)
    have HW1 := Lib.hid hw1
    have g0 : w1.cell? ⟨w0.heap.size, 0, none⟩ = some (.int .i64 ((0 : Nat) : Int)) := BxT.c0 (t := noTld) (by rw [← hw1]; exact heap_new w0 _)
    have g1 : w1.cell? ⟨w0.heap.size, 1, none⟩ = some (.string (bs [])) := BxT.c1 (t := noTld) (by rw [← hw1]; exact heap_new w0 _)
    have g2 : w1.cell? ⟨w0.heap.size, 2, none⟩ = some (.string (bs [])) := BxT.c2 (t := noTld) (by rw [← hw1]; exact heap_new w0 _)
    have g3 : w1.cell? ⟨w0.heap.size, 3, none⟩ = some (.bool false) := BxT.c3 (t := noTld) (by rw [← hw1]; exact heap_new w0 _)
    clear B1 hw1
    go_upto_region 3 with (fail)
    rw [HW1.out]
    clear HW1
    have q0 := P1.out.2.2.c0
    have q1 := P1.out.2.2.c1
    have q2 := P1.out.2.2.c2
    have q3 := P1.out.2.2.c3
    have qf := P1.out.2.2.free
    go_wp2_with fail
    refine bodyPost_ret (results_told rfl _ _ w.heap.size noTld _ rfl rfl (P1.out.2.2.put noTld)) rfl ?_
    exact taker_no (rdE_nil _ _) (by decide) P1.out.1 P1.out.2.1 P1.out.2.2 rfl HL.out.1 HL.out.2.1
  · have e0 : ¬ (bs l).toList = [] := by rw [Lib.toList_data]; exact he
    have e1 : (bs l).toList.isEmpty = false := by rw [Lib.toList_data, bs_list]; simpa using he
    clear he
    go_enter Try.func49, Try.ntmps49
    go_upto_region 1 with (fail)
    rw [HW0.out]
    clear HW0
    go_wp2_with fail
    refine hone.out.mono ?_
    rintro e w1 ⟨⟨t, s, rfl, hr1, hts⟩, htb⟩
    have P1 := Lib.hid (show Rt r (bs s) w1 ∧ Tb B w w1 ∧ BxT w.heap.size noTld w1 from ⟨hr1, A.out.2.1.trans htb, htb.keep _ _ _ A.out.2.2.2.1⟩)
    have HTS := Lib.hid hts
    obtain ⟨z, hz⟩ : ∃ z, z = (rdE first last l).1 := ⟨_, rfl⟩
    rw [← hz]
    have HZ := Lib.hid hz
    have q0 := P1.out.2.2.c0
    have q1 := P1.out.2.2.c1
    have q2 := P1.out.2.2.c2
    have q3 := P1.out.2.2.c3
    have qf := P1.out.2.2.free
    clear hr1 hts htb hz
    unfold Tld.V
    go_wp2_with fail
    refine bodyPost_ret (results_told rfl _ _ w.heap.size t _ rfl rfl (P1.out.2.2.put t)) rfl ?_
    refine ⟨⟨t, s, by rw [← HZ.out]; rfl, P1.out.1.put4 (by have := HL.out; omega) _ _ _ _, fun h => ?_⟩, P1.out.2.1.put4 HL.out.2.1 (Nat.le_refl _) _ _ _ _⟩
    obtain ⟨a1, a2, a3⟩ := HTS.out h
    refine ⟨a1, a2, a3.keep fun j cs ty z hj ht => ?_⟩
    have hj2 := tag_ne hj P1.out.2.2 (by rcases ht with h | h | h <;> subst h <;> decide)
    rw [heap_set_other hj2, heap_set_other hj2, heap_set_other hj2, heap_set_other hj2, hj]
/-- The cells of what is told. -/
def tcells (T : List Ent) : List Value := (tldsOf [] T).flatMap Tld.vals
theorem tldsOf_snoc (x : Ent) : ∀ (T : List Ent) (last : List UInt8), tldsOf last (T ++ [x]) = tldsOf last T ++ [tldOf (lastK last T) x]
  | [], _ => rfl
  | y :: T, last => by
    show tldOf last y :: tldsOf y.key (T ++ [x]) = _
    rw [tldsOf_snoc x T y.key]
    rfl
theorem tcells_snoc (T : List Ent) (x : Ent) : tcells (T ++ [x]) = tcells T ++ (tldOf (lastK [] T) x).vals := by
  unfold tcells
  rw [tldsOf_snoc, List.flatMap_append]
  simp
/-- Why a list of entries is refused. -/
def listE (l : List UInt8) : Int := if ce l ≠ 0 then ce l else (rdEs (cn l).toNat true [] (l.drop (ck l))).1
structure ListPost (B r : Nat) (l : List UInt8) (w : World) (e : Ending) (w' : World) : Prop where
  out : ∃ v, e = .returned (.tuple #[v, .int .i64 (listE l)]) ∧ (listE l = 0 → OffRow w' B 64 4 v (rdEs (cn l).toNat true [] (l.drop (ck l))).2.1.length (tcells (rdEs (cn l).toNat true [] (l.drop (ck l))).2.1) ∧ Rt r (bs ((l.drop (ck l)).drop (rdEs (cn l).toNat true [] (l.drop (ck l))).2.2)) w' ∧ (rdEs (cn l).toNat true [] (l.drop (ck l))).2.1.length ≤ l.length)
  bel : Below B w w'
theorem infoT4 : (Try.prog.info? 64).map (fun i => (i.zero, i.size, i.bytes)) = some (some (.agg #[.int .i64 0, .string ByteArray.empty, .string ByteArray.empty, .bool false]), 4, 48) := by kernel_rfl
theorem grown_any {w w' : World} {B n size : Nat} {e : TypeId} {v : Value} {xs : List Value} (hO : OffRow w B e size v n xs) (hg : w.grownBy w' v.ownBlock) {j : Nat} {cs : Array Value} {t : TypeId} {z : Nat × Nat} (hj : w.heap[j]? = some (.cells cs t z)) (ht : t ≠ e) : w'.heap[j]? = some (.cells cs t z) := by
  rw [hg.block j (heap_lt hj) fun e => ?_, hj]
  obtain ⟨cur, hc⟩ := hO.tag e.symm
  rw [hc] at hj
  injection hj with hj
  injection hj with _ hj
  exact ht hj.symm
theorem OffRow.allocd {w : World} {B n size : Nat} {e : TypeId} {v : Value} {xs : List Value} (h : OffRow w B e size v n xs) (o : Obj) : OffRow (w.alloc o) B e size v n xs := h.kept fun j hj => Below.heap_alloc w o j (h.lt j hj).2
theorem list_no {B r : Nat} {l : List UInt8} {w w' : World} {z : Int} (hz : listE l = z) (h0 : z ≠ 0) (hb : Below B w w') : ListPost B r l w (.returned (.tuple #[.slice none 0 0, .int .i64 z])) w' := ⟨⟨_, by rw [hz], fun h => absurd (hz.symm.trans h) h0⟩, hb⟩

set_option maxHeartbeats 4000000 in
theorem take_list (B r c1 c2 : Nat) (l : List UInt8) (w : World) (h : Rt r (bs l) w) (hBr : B ≤ r) (ha : Ahd B c1 c2 true [] w) (hl : l.length ≤ 100000000000) :
    Calls Try.prog 31 #[.pointer (some ⟨r, 0, none⟩), .func (.func 50) #[] #[.pointer (some ⟨c1, 0, none⟩), .pointer (some ⟨c2, 0, none⟩)]] w (ListPost B r l w) := by
  have hf : ∀ w : World, (binOp .eql 65 (.func (.func 50) #[] #[.pointer (some ⟨c1, 0, none⟩), .pointer (some ⟨c2, 0, none⟩)]) .nilFunc).run Try.prog w = .ok (.bool false) w := fun _ => by kernel_rfl
  obtain ⟨i0, hi, hz0, hz1, hz2⟩ := info_parts infoT4
  have c0 := h.cell
  have hcount := six_ReadCount r (bs l) w h (by rw [bs_size]; unfold maxLen; omega)
  rw [bs_list, rest_bs] at hcount
  have HW := Lib.hid h
  have HA := Lib.hid ha
  clear h ha
  by_cases h1 : ce l ≠ 0
  · have hk := Lib.hid (show listE l = ce l by unfold listE; rw [if_pos h1])
    have hb : (ce l == 0) = false := beq_eq_false_iff_ne.2 h1
    obtain ⟨z, hz⟩ : ∃ z, z = ce l := ⟨_, rfl⟩
    rw [← hz] at hcount hb hk
    have HC := Lib.hid hcount
    clear hcount h1 hz
    go_enter Try.func31, Try.ntmps31
    go_wp2_with fail
    refine HC.out.mono ?_
    rintro e w1 ⟨rfl, h2, k2⟩
    have K2 := Lib.hid (Tb.of_read k2 HW.out hBr)
    clear h2 k2
    go_wp2_with fail
    go_ret2
    exact list_no hk.out (by simpa using hb) K2.out.bel
  · have h1' : ce l = 0 := Decidable.of_not_not h1
    obtain ⟨n, hn⟩ : ∃ n, n = (cn l).toNat := ⟨_, rfl⟩
    have hkn : cn l = (n : Int) := by have := cn_of' h1'; omega
    have hn64 : n ≤ 9223372036854775807 := by have := cd_cases l; omega
    obtain ⟨l1, hl1⟩ : ∃ l1, l1 = l.drop (ck l) := ⟨_, rfl⟩
    have hl1l : l1.length ≤ l.length := by rw [hl1, List.length_drop]; omega
    have hlE := Lib.hid (show listE l = (rdEs n true [] l1).1 by unfold listE; rw [if_neg h1, ← hl1, ← hn])
    have hyes := Lib.hid (show ∀ (v : Value) (w' : World) (T : List Ent) (k : Nat), rdEs n true [] l1 = (0, T, k) → OffRow w' B 64 4 v T.length (tcells T) → Rt r (bs (l1.drop k)) w' → T.length ≤ l.length → Below B w w' → ListPost B r l w (.returned (.tuple #[v, .int .i64 0])) w' from fun v w' T k hT hO hR hl hb => by
      have e0 : listE l = 0 := by unfold listE; rw [if_neg h1, ← hl1, ← hn, hT]
      refine ⟨⟨v, by rw [e0], fun _ => ?_⟩, hb⟩
      rw [← hl1, ← hn, hT]
      exact ⟨hO, hR, hl⟩)
    rw [← hl1, hkn, h1'] at hcount
    have HC := Lib.hid hcount
    have HL1 := Lib.hid hl1l
    clear hcount h1 h1' hn hkn hl1 hl1l
    go_enter Try.func31, Try.ntmps31
    go_wp2_with fail
    refine HC.out.mono ?_
    rintro e w1 ⟨rfl, h2, k2⟩
    have H2 := Lib.hid h2
    have A2 := Lib.hid (HA.out.read HW.out k2)
    have K2 := Lib.hid (Tb.of_read k2 HW.out hBr).bel
    clear h2 k2
    go_wp2_with fail
    go_loopw [9, 31] (fun v i wr => ∃ (j k : Nat) (T : List Ent), j ≤ n ∧ i = .int .i64 j ∧ OffRow wr B 64 4 v T.length (tcells T) ∧ Rt r (bs (l1.drop k)) wr ∧ Ahd B c1 c2 T.isEmpty (lastK [] T) wr ∧ Hid (UponE n l1 (n - j) T k) ∧ Hid (T.length ≤ k ∧ k ≤ l1.length ∧ (lastK [] T).length ≤ 65536) ∧ Below B w wr) (fun v i wr => n - (intOf i).toNat)
    case atStart => exact ⟨0, 0, [], Nat.zero_le _, rfl, OffRow.nil _ _ _ _, H2.out, A2.out, Lib.hid (uponE_start n l1), Lib.hid ⟨Nat.zero_le _, Nat.zero_le _, by simp [lastK]⟩, K2.out⟩
    case round =>
      obtain ⟨j, k, T, hj, rfl, hown, hrt, hahd, hup, hTk, hbw⟩ := hrel
      have HO := Lib.hid hown
      have HR := Lib.hid hrt
      have HD := Lib.hid hahd
      have HB := Lib.hid hbw
      clear hown hrt hahd hbw
      by_cases hlt : j < n
      · obtain ⟨m, hm⟩ : ∃ m, n - j = m + 1 := ⟨n - j - 1, by omega⟩
        rw [hm] at hup
        have HM := Lib.hid hm
        clear hm
        have HONE := Lib.hid (take_one B r c1 c2 T.isEmpty (lastK [] T) (l1.drop k) wr HR.out hBr HD.out (by rw [List.length_drop]; have := HL1.out; omega) hTk.out.2.2)
        obtain ⟨z, hz⟩ : ∃ z, z = (rdE T.isEmpty (lastK [] T) (l1.drop k)).1 := ⟨_, rfl⟩
        by_cases he : z = 0
        · obtain ⟨x, c, hx⟩ : ∃ x c, rdE T.isEmpty (lastK [] T) (l1.drop k) = (0, x, c) := ⟨_, _, by rw [← he, hz]⟩
          have hnext := Lib.hid (uponE_next hup.out hx)
          obtain ⟨b1, b2, b3, b4⟩ := rdE_back hx
          have hroom := Lib.hid (show T.length + 1 ≤ k + c ∧ k + c ≤ l1.length ∧ (lastK [] (T ++ [x])).length ≤ 65536 by
            have hd : (entB (lastK [] T) x ++ (l1.drop k).drop c).length = (l1.drop k).length := by rw [b2]
            rw [List.length_append, List.length_drop, List.length_drop, ← b3] at hd
            refine ⟨by have := hTk.out; omega, by have := hTk.out; omega, by rw [lastK_snoc]; exact b1.1⟩)
          have HX := Lib.hid hx
          clear hz he hup hx b1 b2 b3 b4
          go_wp2_with fail
          refine HONE.out.mono ?_
          rintro e w2 ⟨⟨t, s, rfl, hr2, hts⟩, htb⟩
          rw [HX.out] at hts ⊢
          obtain ⟨rfl, rfl, ha2⟩ := hts rfl
          have HO2 := Lib.hid (show OffRow w2 B 64 4 u9 T.length (tcells T) from HO.out.kept fun q hq => by
            obtain ⟨cur, hc⟩ := HO.out.tag hq
            rw [hc]
            exact htb.keep _ _ _ hc)
          have HR2 := Lib.hid hr2
          have HA2 := Lib.hid ha2
          have HB2 := Lib.hid (HB.out.trans htb.bel)
          obtain ⟨t, ht⟩ : ∃ t, t = tldOf (lastK [] T) x := ⟨_, rfl⟩
          rw [← ht]
          have HT := Lib.hid ht
          obtain ⟨tn, htn⟩ : ∃ tn, tn = T.length := ⟨_, rfl⟩
          rw [← htn] at HO2
          have HTN := Lib.hid htn
          clear hr2 hts ha2 htb ht htn HONE
          unfold Tld.V
          go_wp2_with (at_builtin; refine wpList_append_off rfl (.tmp 46) (.tmp 48) 60 rfl B 64 i0 _ 4 48 Try.underlying60 hi hz0 hz1 hz2 rfl u9 tn (tcells T) rfl ?c1 (.slice (some ⟨w2.heap.size + 1, 0, none⟩) 1 1) rfl 1 t.vals ?c2 ?c3 ?c4 ?c5 ?_)
          case c1 => exact (HO2.out.allocd _).allocd _
          case c2 =>
            have hb := heap_new (w2.alloc (.cells #[.int .i64 (t.sh : Int), .string (bs t.rest), .string (bs t.val), .bool t.gone] 64)) (.cells #[.int .i64 (t.sh : Int), .string (bs t.rest), .string (bs t.val), .bool t.gone] 64)
            rw [show (w2.alloc (.cells #[.int .i64 (t.sh : Int), .string (bs t.rest), .string (bs t.val), .bool t.gone] 64)).heap.size = w2.heap.size + 1 by simp] at hb
            exact src_block (size := 4) Try.underlying60 hb 1 1 rfl (by intro u hu; simp at hu; rcases hu with rfl | rfl | rfl | rfl <;> rfl)
          case c3 => have := hroom.out; have := HL1.out; have := HTN.out; unfold maxLen; omega
          case c4 => have := hroom.out; have := HL1.out; have := HTN.out; omega
          case c5 => have := HR2.out.lt; simp; omega
          intro v' w3 hown' hgrow _
          have D1 := (HO2.out.allocd (.cells #[.int .i64 (t.sh : Int), .string (bs t.rest), .string (bs t.val), .bool t.gone] 64)).allocd (.cells #[.int .i64 (t.sh : Int), .string (bs t.rest), .string (bs t.val), .bool t.gone] 64)
          have keep : ∀ (q : Nat) (cs : Array Value) (ty : TypeId) (z : Nat × Nat), w2.heap[q]? = some (.cells cs ty z) → ty ≠ 64 → w3.heap[q]? = some (.cells cs ty z) := fun q cs ty z hq hty =>
            grown_any D1 hgrow (by rw [Below.heap_alloc _ _ _ (by simp; have := heap_lt hq; omega), Below.heap_alloc _ _ _ (heap_lt hq), hq]) hty
          have HO3 := Lib.hid (show OffRow w3 B 64 4 v' (T ++ [x]).length (tcells (T ++ [x])) by
            rw [tcells_snoc, ← HT.out, List.length_append, ← HTN.out]
            exact hown')
          have HR3 := Lib.hid (show Rt r (bs ((l1.drop k).drop c)) w3 from keep _ _ _ _ HR2.out (by decide))
          have HA3 := Lib.hid (show Ahd B c1 c2 (T ++ [x]).isEmpty (lastK [] (T ++ [x])) w3 by
            rw [lastK_snoc, show (T ++ [x]).isEmpty = false by cases T <;> rfl]
            exact HA2.out.keep fun q cs ty z hq ht => keep _ _ _ _ hq (by rcases ht with h | h | h <;> subst h <;> decide))
          have HB3 := Lib.hid (show Below B w w3 from
            ((HB2.out.alloc (by have := HR2.out.lt; omega) _).alloc (by have := HR2.out.lt; simp; omega) _).grown hgrow (by have := HR2.out.lt; simp; omega) (fun q hq => (HO2.out.lt q hq).1))
          clear hown' hgrow D1 keep
          go_wp2
          go_roundw
          case rel =>
            have hR1 := hroom.out
            exact ⟨j + 1, k + c, T ++ [x], by omega, by go_num, HO3.out, by rw [← List.drop_drop]; exact HR3.out, HA3.out, by rw [show n - (j + 1) = m by have := HM.out; omega]; exact hnext, Lib.hid ⟨by rw [List.length_append]; exact hR1.1, hR1.2.1, hR1.2.2⟩, HB3.out⟩
          case measure => simp [intOf]; omega
        · have hzb : (z == 0) = false := beq_eq_false_iff_ne.2 he
          have hstop := Lib.hid (show listE l = z by
            rw [hlE.out, uponE_stop hup.out (by rw [← hz]; exact he), ← hz])
          have HE := Lib.hid he
          have HZ := Lib.hid hz
          clear he hup
          go_wp2_with fail
          refine HONE.out.mono ?_
          rintro e w2 ⟨⟨t, s, rfl, hr2, _⟩, htb⟩
          rw [← HZ.out]
          have c2 := hr2.cell
          have f2 := hr2.free
          have hrl := hr2.lt
          have c3 : ∀ o, (w2.alloc o).cell? ⟨r, 0, none⟩ = some (.string (bs s)) := fun o => by rw [((Below.refl w2.heap.size w2).alloc (Nat.le_refl _) o).cell hrl]; exact c2
          have HB2 := Lib.hid (HB.out.trans htb.bel)
          have HR2 := Lib.hid hr2
          clear hr2 htb hz HONE
          unfold Tld.V
          go_wp2_with fail
          go_ret2
          exact list_no hstop.out HE.out ((HB2.out.setCell (p := ⟨r, 0, none⟩) hBr _).alloc (by simp [World.setCell]; have := HR2.out.lt; omega) _)
      · have hend := Lib.hid (show UponE n l1 0 T k by have := hup.out; rwa [show n - j = 0 by omega] at this)
        go_wp2
        go_ret2
        exact hyes.out _ _ T k (uponE_end hend.out) HO.out HR.out (by have := hTk.out; have := HL1.out; omega) HB.out
end Go.Proofs.Ytmmdhmhcfpghfaa
