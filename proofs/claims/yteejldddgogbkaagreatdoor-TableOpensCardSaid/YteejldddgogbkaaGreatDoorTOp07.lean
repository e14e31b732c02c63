/- Texts put together: BlockList, BlockEntries, BlockOpened, BlockAwake, BlockFind -/
import Derived.Test.YteejldddgogbkaaGreatDoorTOp06
/- The list of entries gone over: TakeList. -/
set_option linter.unusedVariables false
set_option maxRecDepth 100000
set_option maxRecDepth 100000
namespace Go.Proofs.YteejldddgogbkaaGreatDoor
open Go.RowKit

/-- Where the going over of a list stands: m entries more. -/
def UponE (N : Nat) (l : List UInt8) (m : Nat) (T : List Ent) (k : Nat) : Prop :=
  rdEs N true [] l = (if (rdEs m T.isEmpty (lastK [] T) (l.drop k)).1 ≠ 0 then ((rdEs m T.isEmpty (lastK [] T) (l.drop k)).1, [], 0) else (0, T ++ (rdEs m T.isEmpty (lastK [] T) (l.drop k)).2.1, k + (rdEs m T.isEmpty (lastK [] T) (l.drop k)).2.2))
theorem uponE_start (N : Nat) (l : List UInt8) : UponE N l N [] 0 := by
  unfold UponE
  simp only [List.isEmpty_nil, lastK, List.drop_zero, List.nil_append, Nat.zero_add]
  have key : ∀ (m : Nat) (first : Bool) (last l : List UInt8), (rdEs m first last l).1 ≠ 0 → rdEs m first last l = ((rdEs m first last l).1, [], 0) := by
    intro m
    induction m with
    | zero => intro first last l h; exact absurd rfl h
    | succ m ih =>
      intro first last l h
      simp only [rdEs] at h ⊢
      split
      · rfl
      · rename_i g
        rw [if_neg g] at h
        split
        · rfl
        · rename_i g2
          rw [if_neg g2] at h
          exact absurd rfl h
  split
  · rename_i h
    exact key _ _ _ _ h
  · rename_i h
    have h0 : (rdEs N true [] l).1 = 0 := Decidable.of_not_not h
    rw [← h0]
theorem uponE_end {N : Nat} {l : List UInt8} {T : List Ent} {k : Nat} (h : UponE N l 0 T k) : rdEs N true [] l = (0, T, k) := by
  unfold UponE at h
  rw [h]
  simp [rdEs]
theorem uponE_stop {N : Nat} {l : List UInt8} {m : Nat} {T : List Ent} {k : Nat} (h : UponE N l (m + 1) T k) (he : (rdE T.isEmpty (lastK [] T) (l.drop k)).1 ≠ 0) : rdEs N true [] l = ((rdE T.isEmpty (lastK [] T) (l.drop k)).1, [], 0) := by
  unfold UponE at h
  rw [h]
  simp only [rdEs]
  rw [if_pos he, if_pos he]
theorem uponE_next {N : Nat} {l : List UInt8} {m : Nat} {T : List Ent} {k n : Nat} {x : Ent} (h : UponE N l (m + 1) T k) (he : rdE T.isEmpty (lastK [] T) (l.drop k) = (0, x, n)) : UponE N l m (T ++ [x]) (k + n) := by
  unfold UponE at h ⊢
  rw [h, lastK_snoc]
  have e1 : (T ++ [x]).isEmpty = false := by cases T <;> rfl
  simp only [rdEs, he, e1, List.drop_drop]
  by_cases g : (rdEs m false x.key (l.drop (k + n))).1 ≠ 0
  · simp [g]
  · simp [g, List.append_assoc, Nat.add_assoc]
theorem rdE_nil (first : Bool) (last : List UInt8) : (rdE first last []).1 = 2 := by
  have : kE last [] = 2 := rfl
  rcases rdE_parts first last [] with ⟨_, h⟩ | ⟨h, _⟩
  · rw [h, this]
  · rw [this] at h; cases h
theorem block_taker (w : World) : Calls Tryz.prog 96 #[] w fun e w' => e = .returned (.func (.func 113) #[] #[.pointer (some ⟨w.heap.size, 0, none⟩), .pointer (some ⟨w.heap.size + 1, 0, none⟩)]) ∧ (w.alloc (.cells #[.slice none 0 0] 62)).alloc (.cells #[.bool true] 4) = w' := by
  go_enter Tryz.func96, Tryz.ntmps96
  go_wp2
  go_ret
  exact ⟨rfl, rfl⟩
set_option maxHeartbeats 2000000 in
theorem take_one (B r c1 c2 : Nat) (first : Bool) (last l : List UInt8) (w : World) (h : Rt r (bs l) w) (hBr : B ≤ r) (ha : Ahd B c1 c2 first last w) (hl : l.length ≤ 100000000000) (hlast : last.length ≤ 65536) :
    Calls Tryz.prog 112 #[.pointer (some ⟨r, 0, none⟩), .func (.func 113) #[] #[.pointer (some ⟨c1, 0, none⟩), .pointer (some ⟨c2, 0, none⟩)]] w (TakerPost B r c1 c2 first last l w) := by
  have hrw := h.lt
  have hBw : B ≤ w.heap.size := by omega
  obtain ⟨w0, hw0⟩ : ∃ w0, w.alloc (.cells #[.int .i64 0, .string ⟨#[]⟩, .string ⟨#[]⟩, .bool false] 157) = w0 := ⟨_, rfl⟩
  have A := Lib.hid (show Rt r (bs l) w0 ∧ Tb B w w0 ∧ Ahd B c1 c2 first last w0 ∧ BxT w.heap.size noTld w0 ∧ w.heap.size ≤ w0.heap.size from by
    have hb : Below w.heap.size w w0 := by rw [← hw0]; exact (Below.refl _ _).alloc (Nat.le_refl _) _
    exact ⟨(hb.block r h.lt).trans h, Tb.of_below hb hBw, ha.below hb, by rw [← hw0]; exact heap_new w _, hb.size⟩)
  have HL := Lib.hid (And.intro hrw (And.intro hBw hBr))
  have hone := Lib.hid (take_entry B r c1 c2 first last l w0 A.out.1 hBr A.out.2.2.1 hl hlast)
  have HW0 := Lib.hid hw0
  clear h ha hrw hBw hBr hw0
  have hcr := A.out.1.cell
  by_cases he : l = []
  · subst he
    have e1 : (bs []).toList.isEmpty = true := by rw [Lib.toList_data, bs_list]; rfl
    have e0 : (bs []).toList = [] := by rw [Lib.toList_data, bs_list]
    go_enter Tryz.func112, Tryz.ntmps112
    go_upto_region 1 with (fail)
    rw [HW0.out]
    clear HW0
    obtain ⟨w1, hw1⟩ : ∃ w1, w0.alloc (.cells #[.int .i64 0, .string ⟨#[]⟩, .string ⟨#[]⟩, .bool false] 157) = w1 := ⟨_, rfl⟩
    have B1 : Below w0.heap.size w0 w1 := by rw [← hw1]; exact (Below.refl _ _).alloc (Nat.le_refl _) _
    have P1 := Lib.hid (show Rt r (bs []) w1 ∧ Tb B w w1 ∧ BxT w.heap.size noTld w1 from ⟨(B1.block r A.out.1.lt).trans A.out.1, A.out.2.1.trans (Tb.of_below B1 (by have := HL.out; have := A.out.2.2.2.2; omega)), A.out.2.2.2.1.below B1⟩)
    have HW1 := Lib.hid hw1
    have g0 : w1.cell? ⟨w0.heap.size, 0, none⟩ = some (.int .i64 ((0 : Nat) : Int)) := BxT.c0 (t := noTld) (by rw [← hw1]; exact heap_new w0 _)
    have g1 : w1.cell? ⟨w0.heap.size, 1, none⟩ = some (.string (bs [])) := BxT.c1 (t := noTld) (by rw [← hw1]; exact heap_new w0 _)
    have g2 : w1.cell? ⟨w0.heap.size, 2, none⟩ = some (.string (bs [])) := BxT.c2 (t := noTld) (by rw [← hw1]; exact heap_new w0 _)
    have g3 : w1.cell? ⟨w0.heap.size, 3, none⟩ = some (.bool false) := BxT.c3 (t := noTld) (by rw [← hw1]; exact heap_new w0 _)
    clear B1 hw1
    go_upto_region 3 with (fail)
    rw [HW1.out]
    clear HW1
    have q0 := P1.out.2.2.c0
    have q1 := P1.out.2.2.c1
    have q2 := P1.out.2.2.c2
    have q3 := P1.out.2.2.c3
    have qf := P1.out.2.2.free
    go_wp2_with fail
    refine bodyPost_ret (results_told rfl _ _ w.heap.size noTld _ rfl rfl (P1.out.2.2.put noTld)) rfl ?_
    exact taker_no (rdE_nil _ _) (by decide) P1.out.1 P1.out.2.1 P1.out.2.2 rfl HL.out.1 HL.out.2.1
  · have e0 : ¬ (bs l).toList = [] := by rw [Lib.toList_data]; exact he
    have e1 : (bs l).toList.isEmpty = false := by rw [Lib.toList_data, bs_list]; simpa using he
    clear he
    go_enter Tryz.func112, Tryz.ntmps112
    go_upto_region 1 with (fail)
    rw [HW0.out]
    clear HW0
    go_wp2_with fail
    refine hone.out.mono ?_
    rintro e w1 ⟨⟨t, s, rfl, hr1, hts⟩, htb⟩
    have P1 := Lib.hid (show Rt r (bs s) w1 ∧ Tb B w w1 ∧ BxT w.heap.size noTld w1 from ⟨hr1, A.out.2.1.trans htb, htb.keep _ _ _ A.out.2.2.2.1⟩)
    have HTS := Lib.hid hts
    obtain ⟨z, hz⟩ : ∃ z, z = (rdE first last l).1 := ⟨_, rfl⟩
    rw [← hz]
    have HZ := Lib.hid hz
    have q0 := P1.out.2.2.c0
    have q1 := P1.out.2.2.c1
    have q2 := P1.out.2.2.c2
    have q3 := P1.out.2.2.c3
    have qf := P1.out.2.2.free
    clear hr1 hts htb hz
    unfold Tld.V
    go_wp2_with fail
    refine bodyPost_ret (results_told rfl _ _ w.heap.size t _ rfl rfl (P1.out.2.2.put t)) rfl ?_
    refine ⟨⟨t, s, by rw [← HZ.out]; rfl, P1.out.1.put4 (by have := HL.out; omega) _ _ _ _, fun h => ?_⟩, P1.out.2.1.put4 HL.out.2.1 (Nat.le_refl _) _ _ _ _⟩
    obtain ⟨a1, a2, a3⟩ := HTS.out h
    refine ⟨a1, a2, a3.keep fun j cs ty z hj ht => ?_⟩
    have hj2 := tag_ne hj P1.out.2.2 (by rcases ht with h | h | h <;> subst h <;> decide)
    rw [heap_set_other hj2, heap_set_other hj2, heap_set_other hj2, heap_set_other hj2, hj]
/-- The cells of what is told. -/
def tcells (T : List Ent) : List Value := (tldsOf [] T).flatMap Tld.vals
theorem tldsOf_snoc (x : Ent) : ∀ (T : List Ent) (last : List UInt8), tldsOf last (T ++ [x]) = tldsOf last T ++ [tldOf (lastK last T) x]
  | [], _ => rfl
  | y :: T, last => by
    show tldOf last y :: tldsOf y.key (T ++ [x]) = _
    rw [tldsOf_snoc x T y.key]
    rfl
theorem tcells_snoc (T : List Ent) (x : Ent) : tcells (T ++ [x]) = tcells T ++ (tldOf (lastK [] T) x).vals := by
  unfold tcells
  rw [tldsOf_snoc, List.flatMap_append]
  simp
/-- Why a list of entries is refused. -/
def listE (l : List UInt8) : Int := if ce l ≠ 0 then ce l else (rdEs (cn l).toNat true [] (l.drop (ck l))).1
structure ListPost (B r : Nat) (l : List UInt8) (w : World) (e : Ending) (w' : World) : Prop where
  out : ∃ v, e = .returned (.tuple #[v, .int .i64 (listE l)]) ∧ (listE l = 0 → OffRow w' B 157 4 v (rdEs (cn l).toNat true [] (l.drop (ck l))).2.1.length (tcells (rdEs (cn l).toNat true [] (l.drop (ck l))).2.1) ∧ Rt r (bs ((l.drop (ck l)).drop (rdEs (cn l).toNat true [] (l.drop (ck l))).2.2)) w' ∧ (rdEs (cn l).toNat true [] (l.drop (ck l))).2.1.length ≤ l.length)
  bel : Below B w w'
theorem infoT4 : (Tryz.prog.info? 157).map (fun i => (i.zero, i.size, i.bytes)) = some (some (.agg #[.int .i64 0, .string ByteArray.empty, .string ByteArray.empty, .bool false]), 4, 48) := by kernel_rfl
theorem grown_any {w w' : World} {B n size : Nat} {e : TypeId} {v : Value} {xs : List Value} (hO : OffRow w B e size v n xs) (hg : w.grownBy w' v.ownBlock) {j : Nat} {cs : Array Value} {t : TypeId} {z : Nat × Nat} (hj : w.heap[j]? = some (.cells cs t z)) (ht : t ≠ e) : w'.heap[j]? = some (.cells cs t z) := by
  rw [hg.block j (heap_lt hj) fun e => ?_, hj]
  obtain ⟨cur, hc⟩ := hO.tag e.symm
  rw [hc] at hj
  injection hj with hj
  injection hj with _ hj
  exact ht hj.symm
theorem OffRow.allocd {w : World} {B n size : Nat} {e : TypeId} {v : Value} {xs : List Value} (h : OffRow w B e size v n xs) (o : Obj) : OffRow (w.alloc o) B e size v n xs := h.kept fun j hj => Below.heap_alloc w o j (h.lt j hj).2
theorem list_no {B r : Nat} {l : List UInt8} {w w' : World} {z : Int} (hz : listE l = z) (h0 : z ≠ 0) (hb : Below B w w') : ListPost B r l w (.returned (.tuple #[.slice none 0 0, .int .i64 z])) w' := ⟨⟨_, by rw [hz], fun h => absurd (hz.symm.trans h) h0⟩, hb⟩

set_option maxHeartbeats 4000000 in
theorem take_list (B r c1 c2 : Nat) (l : List UInt8) (w : World) (h : Rt r (bs l) w) (hBr : B ≤ r) (ha : Ahd B c1 c2 true [] w) (hl : l.length ≤ 100000000000) :
    Calls Tryz.prog 95 #[.pointer (some ⟨r, 0, none⟩), .func (.func 113) #[] #[.pointer (some ⟨c1, 0, none⟩), .pointer (some ⟨c2, 0, none⟩)]] w (ListPost B r l w) := by
  have hf : ∀ w : World, (binOp .eql 158 (.func (.func 113) #[] #[.pointer (some ⟨c1, 0, none⟩), .pointer (some ⟨c2, 0, none⟩)]) .nilFunc).run Tryz.prog w = .ok (.bool false) w := fun _ => by kernel_rfl
  obtain ⟨i0, hi, hz0, hz1, hz2⟩ := info_parts infoT4
  have c0 := h.cell
  have hcount := six_ReadCount r (bs l) w h (by rw [bs_size]; unfold maxLen; omega)
  rw [bs_list, rest_bs] at hcount
  have HW := Lib.hid h
  have HA := Lib.hid ha
  clear h ha
  by_cases h1 : ce l ≠ 0
  · have hk := Lib.hid (show listE l = ce l by unfold listE; rw [if_pos h1])
    have hb : (ce l == 0) = false := beq_eq_false_iff_ne.2 h1
    obtain ⟨z, hz⟩ : ∃ z, z = ce l := ⟨_, rfl⟩
    rw [← hz] at hcount hb hk
    have HC := Lib.hid hcount
    clear hcount h1 hz
    go_enter Tryz.func95, Tryz.ntmps95
    go_wp2_with fail
    refine HC.out.mono ?_
    rintro e w1 ⟨rfl, h2, k2⟩
    have K2 := Lib.hid (Tb.of_read k2 HW.out hBr)
    clear h2 k2
    go_wp2_with fail
    go_ret2
    exact list_no hk.out (by simpa using hb) K2.out.bel
  · have h1' : ce l = 0 := Decidable.of_not_not h1
    obtain ⟨n, hn⟩ : ∃ n, n = (cn l).toNat := ⟨_, rfl⟩
    have hkn : cn l = (n : Int) := by have := cn_of' h1'; omega
    have hn64 : n ≤ 9223372036854775807 := by have := cd_cases l; omega
    obtain ⟨l1, hl1⟩ : ∃ l1, l1 = l.drop (ck l) := ⟨_, rfl⟩
    have hl1l : l1.length ≤ l.length := by rw [hl1, List.length_drop]; omega
    have hlE := Lib.hid (show listE l = (rdEs n true [] l1).1 by unfold listE; rw [if_neg h1, ← hl1, ← hn])
    have hyes := Lib.hid (show ∀ (v : Value) (w' : World) (T : List Ent) (k : Nat), rdEs n true [] l1 = (0, T, k) → OffRow w' B 157 4 v T.length (tcells T) → Rt r (bs (l1.drop k)) w' → T.length ≤ l.length → Below B w w' → ListPost B r l w (.returned (.tuple #[v, .int .i64 0])) w' from fun v w' T k hT hO hR hl hb => by
      have e0 : listE l = 0 := by unfold listE; rw [if_neg h1, ← hl1, ← hn, hT]
      refine ⟨⟨v, by rw [e0], fun _ => ?_⟩, hb⟩
      rw [← hl1, ← hn, hT]
      exact ⟨hO, hR, hl⟩)
    rw [← hl1, hkn, h1'] at hcount
    have HC := Lib.hid hcount
    have HL1 := Lib.hid hl1l
    clear hcount h1 h1' hn hkn hl1 hl1l
    go_enter Tryz.func95, Tryz.ntmps95
    go_wp2_with fail
    refine HC.out.mono ?_
    rintro e w1 ⟨rfl, h2, k2⟩
    have H2 := Lib.hid h2
    have A2 := Lib.hid (HA.out.read HW.out k2)
    have K2 := Lib.hid (Tb.of_read k2 HW.out hBr).bel
    clear h2 k2
    go_wp2_with fail
    go_loopw [9, 31] (fun v i wr => ∃ (j k : Nat) (T : List Ent), j ≤ n ∧ i = .int .i64 j ∧ OffRow wr B 157 4 v T.length (tcells T) ∧ Rt r (bs (l1.drop k)) wr ∧ Ahd B c1 c2 T.isEmpty (lastK [] T) wr ∧ Hid (UponE n l1 (n - j) T k) ∧ Hid (T.length ≤ k ∧ k ≤ l1.length ∧ (lastK [] T).length ≤ 65536) ∧ Below B w wr) (fun v i wr => n - (intOf i).toNat)
    case atStart => exact ⟨0, 0, [], Nat.zero_le _, rfl, OffRow.nil _ _ _ _, H2.out, A2.out, Lib.hid (uponE_start n l1), Lib.hid ⟨Nat.zero_le _, Nat.zero_le _, by simp [lastK]⟩, K2.out⟩
    case round =>
      obtain ⟨j, k, T, hj, rfl, hown, hrt, hahd, hup, hTk, hbw⟩ := hrel
      have HO := Lib.hid hown
      have HR := Lib.hid hrt
      have HD := Lib.hid hahd
      have HB := Lib.hid hbw
      clear hown hrt hahd hbw
      by_cases hlt : j < n
      · obtain ⟨m, hm⟩ : ∃ m, n - j = m + 1 := ⟨n - j - 1, by omega⟩
        rw [hm] at hup
        have HM := Lib.hid hm
        clear hm
        have HONE := Lib.hid (take_one B r c1 c2 T.isEmpty (lastK [] T) (l1.drop k) wr HR.out hBr HD.out (by rw [List.length_drop]; have := HL1.out; omega) hTk.out.2.2)
        obtain ⟨z, hz⟩ : ∃ z, z = (rdE T.isEmpty (lastK [] T) (l1.drop k)).1 := ⟨_, rfl⟩
        by_cases he : z = 0
        · obtain ⟨x, c, hx⟩ : ∃ x c, rdE T.isEmpty (lastK [] T) (l1.drop k) = (0, x, c) := ⟨_, _, by rw [← he, hz]⟩
          have hnext := Lib.hid (uponE_next hup.out hx)
          obtain ⟨b1, b2, b3, b4⟩ := rdE_back hx
          have hroom := Lib.hid (show T.length + 1 ≤ k + c ∧ k + c ≤ l1.length ∧ (lastK [] (T ++ [x])).length ≤ 65536 by
            have hd : (entB (lastK [] T) x ++ (l1.drop k).drop c).length = (l1.drop k).length := by rw [b2]
            rw [List.length_append, List.length_drop, List.length_drop, ← b3] at hd
            refine ⟨by have := hTk.out; omega, by have := hTk.out; omega, by rw [lastK_snoc]; exact b1.1⟩)
          have HX := Lib.hid hx
          clear hz he hup hx b1 b2 b3 b4
          go_wp2_with fail
          refine HONE.out.mono ?_
          rintro e w2 ⟨⟨t, s, rfl, hr2, hts⟩, htb⟩
          rw [HX.out] at hts ⊢
          obtain ⟨rfl, rfl, ha2⟩ := hts rfl
          have HO2 := Lib.hid (show OffRow w2 B 157 4 u9 T.length (tcells T) from HO.out.kept fun q hq => by
            obtain ⟨cur, hc⟩ := HO.out.tag hq
            rw [hc]
            exact htb.keep _ _ _ hc)
          have HR2 := Lib.hid hr2
          have HA2 := Lib.hid ha2
          have HB2 := Lib.hid (HB.out.trans htb.bel)
          obtain ⟨t, ht⟩ : ∃ t, t = tldOf (lastK [] T) x := ⟨_, rfl⟩
          rw [← ht]
          have HT := Lib.hid ht
          obtain ⟨tn, htn⟩ : ∃ tn, tn = T.length := ⟨_, rfl⟩
          rw [← htn] at HO2
          have HTN := Lib.hid htn
          clear hr2 hts ha2 htb ht htn HONE
          unfold Tld.V
          go_wp2_with (at_builtin; refine wpList_append_off rfl (.tmp 46) (.tmp 48) 153 rfl B 157 i0 _ 4 48 Tryz.underlying153 hi hz0 hz1 hz2 rfl u9 tn (tcells T) rfl ?c1 (.slice (some ⟨w2.heap.size + 1, 0, none⟩) 1 1) rfl 1 t.vals ?c2 ?c3 ?c4 ?c5 ?_)
          case c1 => exact (HO2.out.allocd _).allocd _
          case c2 =>
            have hb := heap_new (w2.alloc (.cells #[.int .i64 (t.sh : Int), .string (bs t.rest), .string (bs t.val), .bool t.gone] 157)) (.cells #[.int .i64 (t.sh : Int), .string (bs t.rest), .string (bs t.val), .bool t.gone] 157)
            rw [show (w2.alloc (.cells #[.int .i64 (t.sh : Int), .string (bs t.rest), .string (bs t.val), .bool t.gone] 157)).heap.size = w2.heap.size + 1 by simp] at hb
            exact src_block (size := 4) Tryz.underlying153 hb 1 1 rfl (by intro u hu; simp at hu; rcases hu with rfl | rfl | rfl | rfl <;> rfl)
          case c3 => have := hroom.out; have := HL1.out; have := HTN.out; unfold maxLen; omega
          case c4 => have := hroom.out; have := HL1.out; have := HTN.out; omega
          case c5 => have := HR2.out.lt; simp; omega
          intro v' w3 hown' hgrow _
          have D1 := (HO2.out.allocd (.cells #[.int .i64 (t.sh : Int), .string (bs t.rest), .string (bs t.val), .bool t.gone] 157)).allocd (.cells #[.int .i64 (t.sh : Int), .string (bs t.rest), .string (bs t.val), .bool t.gone] 157)
          have keep : ∀ (q : Nat) (cs : Array Value) (ty : TypeId) (z : Nat × Nat), w2.heap[q]? = some (.cells cs ty z) → ty ≠ 157 → w3.heap[q]? = some (.cells cs ty z) := fun q cs ty z hq hty =>
            grown_any D1 hgrow (by rw [Below.heap_alloc _ _ _ (by simp; have := heap_lt hq; omega), Below.heap_alloc _ _ _ (heap_lt hq), hq]) hty
          have HO3 := Lib.hid (show OffRow w3 B 157 4 v' (T ++ [x]).length (tcells (T ++ [x])) by
            rw [tcells_snoc, ← HT.out, List.length_append, ← HTN.out]
            exact hown')
          have HR3 := Lib.hid (show Rt r (bs ((l1.drop k).drop c)) w3 from keep _ _ _ _ HR2.out (by decide))
          have HA3 := Lib.hid (show Ahd B c1 c2 (T ++ [x]).isEmpty (lastK [] (T ++ [x])) w3 by
            rw [lastK_snoc, show (T ++ [x]).isEmpty = false by cases T <;> rfl]
            exact HA2.out.keep fun q cs ty z hq ht => keep _ _ _ _ hq (by rcases ht with h | h | h <;> subst h <;> decide))
          have HB3 := Lib.hid (show Below B w w3 from
            ((HB2.out.alloc (by have := HR2.out.lt; omega) _).alloc (by have := HR2.out.lt; simp; omega) _).grown hgrow (by have := HR2.out.lt; simp; omega) (fun q hq => (HO2.out.lt q hq).1))
          clear hown' hgrow D1 keep
          go_wp2
          go_roundw
          case rel =>
            have hR1 := hroom.out
            exact ⟨j + 1, k + c, T ++ [x], by omega, by go_num, HO3.out, by rw [← List.drop_drop]; exact HR3.out, HA3.out, by rw [show n - (j + 1) = m by have := HM.out; omega]; exact hnext, Lib.hid ⟨by rw [List.length_append]; exact hR1.1, hR1.2.1, hR1.2.2⟩, HB3.out⟩
          case measure => simp [intOf]; omega
        · have hzb : (z == 0) = false := beq_eq_false_iff_ne.2 he
          have hstop := Lib.hid (show listE l = z by
            rw [hlE.out, uponE_stop hup.out (by rw [← hz]; exact he), ← hz])
          have HE := Lib.hid he
          have HZ := Lib.hid hz
          clear he hup
          go_wp2_with fail
          refine HONE.out.mono ?_
          rintro e w2 ⟨⟨t, s, rfl, hr2, _⟩, htb⟩
          rw [← HZ.out]
          have c2 := hr2.cell
          have f2 := hr2.free
          have hrl := hr2.lt
          have c3 : ∀ o, (w2.alloc o).cell? ⟨r, 0, none⟩ = some (.string (bs s)) := fun o => by rw [((Below.refl w2.heap.size w2).alloc (Nat.le_refl _) o).cell hrl]; exact c2
          have HB2 := Lib.hid (HB.out.trans htb.bel)
          have HR2 := Lib.hid hr2
          clear hr2 htb hz HONE
          unfold Tld.V
          go_wp2_with fail
          go_ret2
          exact list_no hstop.out HE.out ((HB2.out.setCell (p := ⟨r, 0, none⟩) hBr _).alloc (by simp [World.setCell]; have := HR2.out.lt; omega) _)
      · have hend := Lib.hid (show UponE n l1 0 T k by have := hup.out; rwa [show n - j = 0 by omega] at this)
        go_wp2
        go_ret2
        exact hyes.out _ _ T k (uponE_end hend.out) HO.out HR.out (by have := hTk.out; have := HL1.out; omega) HB.out
end Go.Proofs.YteejldddgogbkaaGreatDoor
/- The entries that are told. -/
set_option linter.unusedVariables false
set_option maxRecDepth 100000
set_option maxRecDepth 100000
namespace Go.Proofs.YteejldddgogbkaaGreatDoor
open Go.RowKit

theorem flat_at {α : Type} (f : α → List Value) (hf : ∀ y, (f y).length = 4) : ∀ (L : List α) (i q : Nat) (y : α), q < 4 → L[i]? = some y → (L.flatMap f)[i * 4 + q]? = (f y)[q]?
  | [], i, q, y, _, h => by cases h
  | z :: L, 0, q, y, hq, h => by
    injection h with h
    subst h
    rw [List.flatMap_cons, List.getElem?_append_left (by rw [hf]; omega)]
    simp
  | z :: L, i + 1, q, y, hq, h => by
    have := flat_at f hf L i q y hq h
    rw [List.flatMap_cons, List.getElem?_append_right (by rw [hf]; omega), hf]
    rw [← this]
    congr 1
    omega
theorem tlds_at : ∀ (T : List Ent) (last : List UInt8) (i : Nat) (x : Ent), T[i]? = some x → (tldsOf last T)[i]? = some (tldOf (lastK last (T.take i)) x)
  | [], _, i, x, h => by cases h
  | y :: T, last, 0, x, h => by
    injection h with h
    subst h
    rfl
  | y :: T, last, i + 1, x, h => tlds_at T y.key i x h
theorem tcells_at {T : List Ent} {i : Nat} {x : Ent} (h : T[i]? = some x) (q : Nat) (hq : q < 4) : (tcells T)[i * 4 + q]? = (tldOf (lastK [] (T.take i)) x).vals[q]? :=
  flat_at Tld.vals (fun _ => rfl) _ i q _ hq (tlds_at T [] i x h)
/-- A row of entries that is being filled. -/
def Fill (G n : Nat) (T : List Ent) (i : Nat) (w : World) : Prop :=
  ∃ cur, w.heap[G]? = some (.cells cur 49 (0, 0)) ∧ cur.size = n * 3 ∧ ∀ j x, j < i → T[j]? = some x → cur[j * 3]? = some (.string (bs x.key)) ∧ cur[j * 3 + 1]? = some (.string (bs x.val)) ∧ cur[j * 3 + 2]? = some (.bool x.gone)
theorem Fill.cells {G n i : Nat} {T : List Ent} {w : World} (h : Fill G n T i w) {k : Nat} (hk : k < n * 3) : (∃ v, w.cell? ⟨G, k, none⟩ = some v) ∧ w.frozen? ⟨G, k, none⟩ = false := by
  obtain ⟨cur, h1, h2, _⟩ := h
  refine ⟨⟨cur[k]'(by omega), ?_⟩, by simp [World.frozen?, h1]⟩
  simp only [World.cell?, h1]
  exact Array.getElem?_eq_getElem _
theorem Fill.put {G n i : Nat} {T : List Ent} {w : World} {x : Ent} (h : Fill G n T i w) (hi : i < n) (hx : T[i]? = some x) : Fill G n T (i + 1) (((w.setCell ⟨G, i * 3, none⟩ (.string (bs x.key))).setCell ⟨G, i * 3 + 1, none⟩ (.string (bs x.val))).setCell ⟨G, i * 3 + 2, none⟩ (.bool x.gone)) := by
  obtain ⟨cur, h1, h2, h3⟩ := h
  have s1 := heap_set (o := i * 3) h1 (.string (bs x.key))
  have s2 := heap_set (o := i * 3 + 1) s1 (.string (bs x.val))
  have s3 := heap_set (o := i * 3 + 2) s2 (.bool x.gone)
  refine ⟨_, s3, by simp [h2], fun j y hj hy => ?_⟩
  simp only [Array.getElem?_setIfInBounds, Array.size_setIfInBounds, h2]
  by_cases hji : j = i
  · subst hji
    rw [hx] at hy
    injection hy with hy
    subst hy
    refine ⟨?_, ?_, ?_⟩
    · rw [if_neg (by omega), if_neg (by omega), if_pos rfl, if_pos (by omega)]
    · rw [if_neg (by omega), if_pos rfl, if_pos (by omega)]
    · rw [if_pos rfl, if_pos (by omega)]
  · obtain ⟨a, b, c⟩ := h3 j y (by omega) hy
    refine ⟨?_, ?_, ?_⟩
    · rw [if_neg (by omega), if_neg (by omega), if_neg (by omega)]; exact a
    · rw [if_neg (by omega), if_neg (by omega), if_neg (by omega)]; exact b
    · rw [if_neg (by omega), if_neg (by omega), if_neg (by omega)]; exact c
theorem Fill.keep {G n i : Nat} {T : List Ent} {w w' : World} (h : Fill G n T i w) (k : Below w.heap.size w w') : Fill G n T i w' := by
  obtain ⟨cur, h1, h2⟩ := h
  exact ⟨cur, (k.block G (heap_lt h1)).trans h1, h2⟩
theorem Fill.full {G : Nat} {T : List Ent} {w : World} (h : Fill G T.length T T.length w) : IsE w (some ⟨G, 0, none⟩) T.length T := by
  obtain ⟨cur, h1, h2, h3⟩ := h
  refine ⟨rfl, G, 0, .inr rfl, fun k hk => ?_⟩
  obtain ⟨a, b, c⟩ := h3 k _ hk (List.getElem?_eq_getElem hk)
  rw [Nat.zero_add]
  exact ⟨heap_lt h1, by simp only [World.cell?, h1]; exact a, by simp only [World.cell?, h1]; exact b, by simp only [World.cell?, h1]; exact c⟩
theorem infoE : (Tryz.prog.info? 49).map (fun i => (i.zero, i.size, i.bytes)) = some (some (.agg #[.string ByteArray.empty, .string ByteArray.empty, .bool false]), 3, 40) := by kernel_rfl

/-- A slice that a call answers is new. -/
def NewS (w : World) (e : Ending) : Prop := ∀ b off n c, e = .returned (.slice (some ⟨b, off, none⟩) n c) → w.heap.size ≤ b
set_option maxHeartbeats 2000000 in
theorem block_entries (B : Nat) (v : Value) (T : List Ent) (w : World) (hO : OffRow w B 157 4 v T.length (tcells T)) (hl : T.length ≤ 100000000000) (hs : Hid (smallE T)) :
    Calls Tryz.prog 98 #[v] w fun e w' => (∃ a c, e = .returned (.slice a T.length c) ∧ T.length ≤ c ∧ IsE w' a T.length T) ∧ Below w.heap.size w w' ∧ NewS w e := by
  obtain ⟨i0, hi, hz0, hz1, hz2⟩ := info_parts infoE
  obtain ⟨a, cap, rfl⟩ := hO.slice
  obtain ⟨n, hn⟩ : ∃ n, n = T.length := ⟨_, rfl⟩
  have HO := Lib.hid hO
  rw [← hn] at HO hl ⊢
  have HN := Lib.hid hn
  clear hO hn
  go_enter Tryz.func98, Tryz.ntmps98
  go_wp2_with (at_make; refine wpList_make_full w rfl _ _ 22 rfl w.heap.size 49 i0 _ 3 Tryz.underlying22 hi hz0 hz1 _ _ _ _ n rfl rfl rfl rfl ?b1 ?b2 ?b3 ?_)
  case b1 => rw [hz2]; omega
  case b2 => unfold maxLen; omega
  case b3 => exact Nat.le_refl _
  intro wm hown hgr
  have F0 := Lib.hid (show Fill w.heap.size n T 0 wm by
    rcases hown.2 with ⟨h, _⟩ | ⟨g, c, cur, h, _, hg, _, _, hsz, _⟩
    · cases h
    · injection h with h hn hc
      injection h with h
      injection h with h
      subst h
      exact ⟨cur, hg, by omega, fun j x hj => absurd hj (by omega)⟩)
  have B0 := Lib.hid (show Below w.heap.size w wm from (Below.refl _ _).grown hgr (Nat.le_refl _) (fun k hk => by cases hk))
  clear hown hgr hi hz0 hz1 hz2
  obtain ⟨G, hG⟩ : ∃ G, G = w.heap.size := ⟨_, rfl⟩
  rw [← hG] at F0 ⊢
  have HG := Lib.hid hG
  clear hG
  go_wp2_with fail
  go_loopw [4, 12] (fun sv iv wr => ∃ i : Nat, i ≤ n ∧ iv = .int .i64 i ∧ sv = .string (bs (lastK [] (T.take i))) ∧ Hid (Fill G n T i wr) ∧ Hid (Below w.heap.size w wr)) (fun sv iv wr => n - (intOf iv).toNat)
  case atStart => exact ⟨0, Nat.zero_le _, rfl, rfl, F0, B0⟩
  case round =>
    obtain ⟨i, hi, rfl, rfl, hF, hB⟩ := hrel
    rcases Nat.lt_or_ge i n with hlt | hge
    · obtain ⟨x, hx⟩ : ∃ x, T[i]? = some x := ⟨_, List.getElem?_eq_getElem (by rw [← HN.out]; exact hlt)⟩
      obtain ⟨g, off, cp, cur, e1, hBg, hg, hcell⟩ := HO.out.form (by omega)
      injection e1 with e1 e2 e3
      subst e1 e3
      have hq := fun q (hq : q < 4) => (hcell (i * 4 + q) (by omega)).trans (tcells_at hx q hq)
      have hgw := heap_lt hg
      obtain ⟨last, hlast⟩ : ∃ last, last = lastK [] (T.take i) := ⟨_, rfl⟩
      have hnx := Lib.hid (show lastK [] (T.take (i + 1)) = x.key by rw [take_ent hx, lastK_snoc])
      rw [← hlast] at hq ⊢
      obtain ⟨sh, hsh⟩ : ∃ sh, sh = sharedL last x.key := ⟨_, rfl⟩
      obtain ⟨rest, hrest⟩ : ∃ rest, rest = x.key.drop sh := ⟨_, rfl⟩
      have hv : (tldOf last x).vals = [.int .i64 (sh : Int), .string (bs rest), .string (bs x.val), .bool x.gone] := by rw [hrest, hsh]; rfl
      have c0 : wr.cell? ⟨g, off + i * 4, none⟩ = some (.int .i64 (sh : Int)) := by rw [hB.out.cell (p := ⟨g, off + i * 4, none⟩) hgw]; have := hq 0 (by omega); rw [hv] at this; exact this
      have c1 : wr.cell? ⟨g, off + i * 4 + 1, none⟩ = some (.string (bs rest)) := by rw [hB.out.cell (p := ⟨g, off + i * 4 + 1, none⟩) hgw]; have := hq 1 (by omega); rw [hv] at this; exact this
      have c2 : wr.cell? ⟨g, off + i * 4 + 2, none⟩ = some (.string (bs x.val)) := by rw [hB.out.cell (p := ⟨g, off + i * 4 + 2, none⟩) hgw]; have := hq 2 (by omega); rw [hv] at this; exact this
      have c3 : wr.cell? ⟨g, off + i * 4 + 3, none⟩ = some (.bool x.gone) := by rw [hB.out.cell (p := ⟨g, off + i * 4 + 3, none⟩) hgw]; have := hq 3 (by omega); rw [hv] at this; exact this
      have hsm := hs.out x (List.mem_of_getElem? hx)
      have hsl := shared_le last x.key
      rw [← hsh] at hsl
      have hll : last.length ≤ 65536 := by rw [hlast]; exact lastK_le _ _ (by simp) (hs.out.take i)
      have zl : (bs last).size = last.length := bs_size _
      have x1 : (bs last).extract 0 sh = bs (last.take sh) := (take_split (s := bs last) (n := sh) (by omega)).1
      have x2 : bs (last.take sh) ++ bs rest = bs x.key := by rw [bs_cat, bs_list, hrest, hsh, shared_back]
      have x3 : ((bs (last.take sh)).size : Int) + ((bs rest).size : Int) ≤ 9223372036854775807 := by rw [bs_size, bs_size, List.length_take, hrest, List.length_drop]; omega
      have x4 : sh ≤ last.length := hsl.1
      have HX := Lib.hid hx
      clear hq hv hcell hgw hlast hsh hrest hsl hg hBg hx
      obtain ⟨wb, hwb⟩ : ∃ wb, wr.alloc (.cells #[.int .i64 (sh : Int), .string (bs rest), .string (bs x.val), .bool x.gone] 157) = wb := ⟨_, rfl⟩
      have BB := Lib.hid (show Below wr.heap.size wr wb by rw [← hwb]; exact (Below.refl _ _).alloc (Nat.le_refl _) _)
      have TB := Lib.hid (show BxT wr.heap.size ⟨sh, rest, x.val, x.gone⟩ wb by rw [← hwb]; exact heap_new wr _)
      have HWB := Lib.hid hwb
      clear hwb
      go_upto_region 6 with (fail)
      rw [HWB.out]
      clear HWB c0 c1 c2 c3
      have g0 := TB.out.c0
      have g1 := TB.out.c1
      have g2 := TB.out.c2
      have g3 := TB.out.c3
      go_quiet (fail)
      obtain ⟨wq, hwq⟩ : ∃ wq, wq = wb.drewN nq := ⟨_, rfl⟩
      have FQ := Lib.hid (show Fill G n T i wq by rw [hwq]; exact hF.out.keep (below_drewN BB.out nq))
      have BQ := Lib.hid (show Below w.heap.size w wq by rw [hwq]; exact below_drewN (hB.out.trans (BB.out.mono hB.out.size)) nq)
      have TQ : BxT wr.heap.size ⟨sh, rest, x.val, x.gone⟩ wq := by rw [hwq]; exact TB.out
      rw [← hwq]
      clear g0 g1 g2 g3 hwq
      have g0 := TQ.c0
      have g1 := TQ.c1
      have g2 := TQ.c2
      have g3 := TQ.c3
      obtain ⟨⟨v0, f0⟩, z0⟩ := FQ.out.cells (k := i * 3) (by omega)
      obtain ⟨⟨v1, f1⟩, z1⟩ := FQ.out.cells (k := i * 3 + 1) (by omega)
      obtain ⟨⟨v2, f2⟩, z2⟩ := FQ.out.cells (k := i * 3 + 2) (by omega)
      clear TQ
      go_wp2_with fail
      go_roundw
      case rel => exact ⟨i + 1, by omega, by go_num, by rw [hnx.out], Lib.hid (FQ.out.put hlt HX.out), Lib.hid (((BQ.out.setCell (p := ⟨G, i * 3, none⟩) (by rw [HG.out]; exact Nat.le_refl _) _).setCell (p := ⟨G, i * 3 + 1, none⟩) (by rw [HG.out]; exact Nat.le_refl _) _).setCell (p := ⟨G, i * 3 + 2, none⟩) (by rw [HG.out]; exact Nat.le_refl _) _)⟩
      case measure => simp [intOf]; omega
    · obtain rfl : i = n := by omega
      have hfull := Lib.hid (show IsE wr (some ⟨G, 0, none⟩) i T by
        have h1 := hF.out
        rw [HN.out] at h1 ⊢
        exact h1.full)
      go_wp2_with fail
      go_ret
      refine ⟨⟨_, _, rfl, Nat.le_refl _, hfull.out⟩, hB.out, fun b off n c h => ?_⟩
      injection h with h
      injection h with h _ _
      injection h with h
      injection h with h _ _
      rw [← h, HG.out]
      exact Nat.le_refl _
end Go.Proofs.YteejldddgogbkaaGreatDoor
/- The program's Open. -/
set_option linter.unusedVariables false
set_option maxRecDepth 100000
set_option maxRecDepth 100000
namespace Go.Proofs.YteejldddgogbkaaGreatDoor
open Go.RowKit

/-- What any bytes are, read as entries with their sum: the error, the entries. -/
def opnS (s : List UInt8) : Int × List Ent := if takeE s ≠ 0 then (takeE s, []) else opn (takeT s)
structure OpenedPost (s : List UInt8) (w : World) (e : Ending) (w' : World) : Prop where
  out : ∃ a c, e = .returned (.tuple #[.slice a (opnS s).2.length c, .int .i64 (opnS s).1]) ∧ (opnS s).2.length ≤ c ∧ IsE w' a (opnS s).2.length (opnS s).2
  bel : Below w.heap.size w w'
theorem open_no {s : List UInt8} {w w' : World} {z : Int} (h : opnS s = (z, [])) (hb : Below w.heap.size w w') : OpenedPost s w (.returned (.tuple #[.slice none 0 0, .int .i64 z])) w' :=
  ⟨⟨none, 0, by rw [h]; rfl, by rw [h]; exact Nat.le_refl _, by rw [h]; exact IsE.nil _ _⟩, hb⟩
theorem opn_list_no {l : List UInt8} (h : listE l ≠ 0) : opn l = (listE l, []) := by
  unfold listE at h ⊢
  unfold opn
  by_cases g : ce l ≠ 0
  · simp only [if_pos g]
  · rw [if_neg g] at h
    simp only [if_neg g, if_pos h]
theorem takeT_len (s : List UInt8) : (takeT s).length ≤ s.length := by
  unfold takeT
  split
  · rw [List.length_take]; omega
  · simp
/-- What is known where the list is read. -/
theorem opn_list_yes {l : List UInt8} (h : listE l = 0) : ∃ T K, rdEs (cn l).toNat true [] (l.drop (ck l)) = (0, T, K) ∧ smallE T ∧ opn l = (if 65536 < T.length then (6, []) else if (l.drop (ck l)).drop K ≠ [] then (5, []) else (0, T)) := by
  unfold listE at h
  by_cases g : ce l ≠ 0
  · rw [if_pos g] at h; exact absurd h g
  · rw [if_neg g] at h
    obtain ⟨T, K, hr⟩ : ∃ T K, rdEs (cn l).toNat true [] (l.drop (ck l)) = (0, T, K) := ⟨_, _, by rw [← h]⟩
    obtain ⟨b1, b2, b3, b4⟩ := rdEs_back _ _ _ _ _ _ hr
    have hlen : (entsB [] T).length + ((l.drop (ck l)).drop K).length = (l.drop (ck l)).length := by rw [← List.length_append, b3]
    rw [List.length_drop, List.length_drop] at hlen
    have hck : ck l ≤ l.length := by have := cd_cases l; omega
    refine ⟨T, K, hr, smallE_of b2, ?_⟩
    unfold opn
    simp only [hr, if_neg g]
    rw [if_neg (by simp)]
    by_cases q : 65536 < T.length
    · rw [if_pos q, if_pos q]
    · rw [if_neg q, if_neg q]
      by_cases q2 : (l.drop (ck l)).drop K = []
      · have : ((l.drop (ck l)).drop K).length = 0 := by rw [q2]; rfl
        rw [List.length_drop, List.length_drop] at this
        rw [if_neg (by omega), if_neg (fun h => h q2)]
      · have : ((l.drop (ck l)).drop K).length ≠ 0 := fun h => q2 (List.eq_nil_of_length_eq_zero h)
        rw [List.length_drop, List.length_drop] at this
        rw [if_pos (by omega), if_pos q2]

/-- Entries that a call answers are new. -/
def NewE (w : World) (e : Ending) : Prop := ∀ b off n c z, e = .returned (.tuple #[.slice (some ⟨b, off, none⟩) n c, z]) → w.heap.size ≤ b
theorem NewE.none (w : World) (n c : Nat) (z : Value) : NewE w (.returned (.tuple #[.slice none n c, z])) := fun b off n c z h => by
  injection h with h
  injection h with h
  have hh := congrArg (fun v => v.toList) h
  simp only [List.cons.injEq] at hh
  cases hh.1
set_option maxHeartbeats 2000000 in
theorem block_Open_new (s : List UInt8) (w : World) (hs : s.length ≤ 100000000000) :
    Calls Tryz.prog 72 #[.string (bs s)] w (fun e w' => OpenedPost s w e w' ∧ NewE w e) := by
  have htk := crc_Take (bs s) w (by rw [bs_size]; omega)
  rw [bs_list] at htk
  by_cases h1 : takeE s ≠ 0
  · have hno := Lib.hid (show opnS s = (takeE s, []) by unfold opnS; rw [if_pos h1])
    have hb : (takeE s == 0) = false := beq_eq_false_iff_ne.2 h1
    obtain ⟨z, hz⟩ : ∃ z, z = takeE s := ⟨_, rfl⟩
    rw [← hz] at htk hb hno
    have HT := Lib.hid htk
    clear htk h1 hz
    go_enter Tryz.func72, Tryz.ntmps72
    go_wp2_with fail
    refine HT.out.mono ?_
    rintro e w1 ⟨rfl, k1⟩
    go_wp2_with fail
    go_ret2
    exact ⟨open_no hno.out k1, NewE.none _ _ _ _⟩
  · have h1' : takeE s = 0 := Decidable.of_not_not h1
    have hop := Lib.hid (show opnS s = opn (takeT s) by unfold opnS; rw [if_neg h1])
    obtain ⟨l, hl⟩ : ∃ l, l = takeT s := ⟨_, rfl⟩
    have hll : l.length ≤ 100000000000 := by rw [hl]; have := takeT_len s; omega
    rw [← hl] at hop htk
    rw [h1'] at htk
    have HT := Lib.hid htk
    clear htk h1 h1' hl
    go_enter Tryz.func72, Tryz.ntmps72
    go_wp2_with fail
    refine HT.out.mono ?_
    rintro e w1 ⟨rfl, k1⟩
    have K1 := Lib.hid k1
    clear k1
    go_wp2_with fail
    refine (six_Over (bs l) w1).mono ?_
    rintro e w2 ⟨rfl, hw2⟩
    have R2 := Lib.hid (show Rt w1.heap.size (bs l) w2 by rw [← hw2]; exact Rt.new _ _)
    have K2 := Lib.hid (show Below w1.heap.size w1 w2 by rw [← hw2]; exact (Below.refl _ _).alloc (Nat.le_refl _) _)
    clear hw2
    go_wp2_with fail
    refine (block_taker w2).mono ?_
    rintro e w3 ⟨rfl, hw3⟩
    have K3a := Lib.hid (show Below w2.heap.size w2 w3 by rw [← hw3]; exact ((Below.refl _ _).alloc (Nat.le_refl _) _).alloc (by simp) _)
    have A3 := Lib.hid (show Ahd w1.heap.size w2.heap.size (w2.heap.size + 1) true [] w3 by
      have h0 := heap_new w2 (.cells #[.slice none 0 0] 62)
      have h1 := heap_new (w2.alloc (.cells #[.slice none 0 0] 62)) (.cells #[.bool true] 4)
      rw [show (w2.alloc (.cells #[.slice none 0 0] 62)).heap.size = w2.heap.size + 1 by simp] at h1
      rw [← hw3]
      exact ⟨⟨.slice none 0 0, (Below.heap_alloc _ _ _ (by simp)).trans h0, OffRow.nil _ _ _ _⟩, h1, K2.out.size, by have := K2.out.size; omega⟩)
    have R3 := Lib.hid (show Rt w1.heap.size (bs l) w3 from (K3a.out.block _ R2.out.lt).trans R2.out)
    have K3 := Lib.hid (K2.out.trans (K3a.out.mono K2.out.size))
    have HTL := Lib.hid (take_list w1.heap.size w1.heap.size w2.heap.size (w2.heap.size + 1) l w3 R3.out (Nat.le_refl _) A3.out hll)
    clear hw3
    go_wp2_with fail
    refine HTL.out.mono ?_
    rintro e w4 ⟨⟨v, rfl, hyes⟩, hb4⟩
    have K4 := Lib.hid (K1.out.trans ((K3.out.trans hb4).mono K1.out.size))
    have HY := Lib.hid hyes
    clear hb4 hyes
    by_cases h2 : listE l ≠ 0
    · have hno := Lib.hid (show opnS s = (listE l, []) by rw [hop.out, opn_list_no h2])
      have hb : (listE l == 0) = false := beq_eq_false_iff_ne.2 h2
      obtain ⟨z, hz⟩ : ∃ z, z = listE l := ⟨_, rfl⟩
      rw [← hz] at hb hno ⊢
      clear h2 hz
      go_wp2_with fail
      go_ret2
      exact ⟨open_no hno.out K4.out, NewE.none _ _ _ _⟩
    · have h2' : listE l = 0 := Decidable.of_not_not h2
      obtain ⟨T, K, hr, hsm, hopn⟩ := opn_list_yes h2'
      obtain ⟨hO, hR, hTl⟩ := HY.out h2'
      rw [hr] at hO hR hTl
      rw [← hop.out] at hopn
      rw [h2']
      have HO := Lib.hid hO
      have HR := Lib.hid hR
      have HSM := Lib.hid hsm
      obtain ⟨a, cap, rfl⟩ := hO.slice
      obtain ⟨n, hn⟩ : ∃ n, n = T.length := ⟨_, rfl⟩
      simp only at hn hTl
      rw [← hn] at HO hTl hopn ⊢
      have HN := Lib.hid hn
      clear h2 h2' hr hO hR hsm hn
      by_cases h3 : 65536 < n
      · have hno := Lib.hid (show opnS s = (6, []) by rw [hopn, if_pos h3])
        clear hopn
        go_wp2_with fail
        go_ret2
        exact ⟨open_no hno.out K4.out, NewE.none _ _ _ _⟩
      · rw [if_neg h3] at hopn
        have hend := six_End w1.heap.size _ w4 HR.out
        rw [bs_list] at hend
        by_cases h4 : (l.drop (ck l)).drop K = []
        · have hyes := Lib.hid (show opnS s = (0, T) by rw [hopn, if_neg (fun h => h h4)])
          have he : endE ((l.drop (ck l)).drop K) = 0 := by unfold endE; rw [if_pos h4]
          rw [he] at hend
          have HE := Lib.hid hend
          clear hopn hend h4 he
          go_wp2_with fail
          refine HE.out.mono ?_
          rintro e w5 ⟨rfl, rfl⟩
          go_wp2_with fail
          have hent := block_entries w1.heap.size (.slice a n cap) T w4 (by rw [← HN.out]; exact HO.out) (by rw [← HN.out]; omega) HSM
          rw [← HN.out] at hent
          refine hent.mono ?_
          rintro e w5 ⟨⟨a5, c5, rfl, hc5, hE5⟩, hb5, hn5⟩
          have HE5 := Lib.hid hE5
          have HN5 := Lib.hid (show ∀ b off, a5 = some ⟨b, off, none⟩ → w.heap.size ≤ b from fun b off h => Nat.le_trans K4.out.size (hn5 b off _ _ (by rw [h])))
          have HC5 := Lib.hid hc5
          have HB5 := Lib.hid (K4.out.trans (hb5.mono K4.out.size))
          clear hE5 hc5 hb5 hn5 hent
          go_wp2_with fail
          go_ret2
          refine ⟨⟨⟨a5, c5, by rw [hyes.out, HN.out]; rfl, by rw [hyes.out]; have := HC5.out; rwa [HN.out] at this, by rw [hyes.out]; have := HE5.out; rwa [HN.out] at this⟩, HB5.out⟩, fun b off n' c' z h => ?_⟩
          injection h with h
          injection h with h
          have hh := congrArg (fun v => v.toList) h
          simp only [List.cons.injEq] at hh
          have h0 := hh.1
          injection h0 with h0 _ _
          exact HN5.out b off h0
        · have hno := Lib.hid (show opnS s = (5, []) by rw [hopn, if_pos h4])
          have he : endE ((l.drop (ck l)).drop K) = 5 := by unfold endE; rw [if_neg h4]
          rw [he] at hend
          have HE := Lib.hid hend
          clear hopn hend h4 he
          go_wp2_with fail
          refine HE.out.mono ?_
          rintro e w5 ⟨rfl, rfl⟩
          go_wp2_with fail
          go_ret2
          exact ⟨open_no hno.out K4.out, NewE.none _ _ _ _⟩
theorem block_Open (s : List UInt8) (w : World) (hs : s.length ≤ 100000000000) :
    Calls Tryz.prog 72 #[.string (bs s)] w (OpenedPost s w) := (block_Open_new s w hs).mono fun _ _ h => h.1
end Go.Proofs.YteejldddgogbkaaGreatDoor
/- Packed and opened, and the document's example. -/
set_option linter.unusedVariables false
set_option maxRecDepth 100000
set_option maxRecDepth 100000
namespace Go.Proofs.YteejldddgogbkaaGreatDoor
open Go.RowKit

theorem take_put (l : List UInt8) : takeE (l ++ four (sumL l)) = 0 ∧ takeT (l ++ four (sumL l)) = l := by
  have hl : (l ++ four (sumL l)).length - 4 = l.length := by rw [List.length_append, four_len]; omega
  have h4 : 4 ≤ (l ++ four (sumL l)).length := by rw [List.length_append, four_len]; omega
  have hok : okT (l ++ four (sumL l)) := by
    unfold okT
    rw [hl, List.drop_left, List.take_left]
  constructor
  · unfold takeE; rw [if_neg (by omega), if_pos hok]
  · unfold takeT; rw [if_pos ⟨h4, hok⟩, hl, List.take_left]
theorem put_take {s : List UInt8} (h : takeE s = 0) : takeT s ++ four (sumL (takeT s)) = s := by
  unfold takeE at h
  split at h
  · cases h
  · rename_i h4
    split at h
    · rename_i hok
      have e : takeT s = s.take (s.length - 4) := by unfold takeT; rw [if_pos ⟨by omega, hok⟩]
      rw [e]
      unfold okT at hok
      rw [← hok, List.take_append_drop]
    · cases h
/-- What is packed is opened as it was. -/
theorem opened_pack {T : List Ent} (h : chkE T = 0) : opnS (packB T) = (0, T) := by
  obtain ⟨h1, h2⟩ := (chkE_ok T).1 h
  obtain ⟨e1, e2⟩ := take_put (listB T)
  unfold packB opnS
  rw [if_pos h, if_neg (by rw [e1]; decide), e2]
  exact opn_list h1 h2
/-- What is opened was packed. -/
theorem pack_open {s : List UInt8} (h : (opnS s).1 = 0) : chkE (opnS s).2 = 0 ∧ packB (opnS s).2 = s := by
  have hE : takeE s = 0 := Decidable.of_not_not fun g => by
    unfold opnS at h
    rw [if_pos g] at h
    exact g h
  have e : opnS s = opn (takeT s) := by unfold opnS; rw [if_neg (by rw [hE]; decide)]
  rw [e] at h ⊢
  obtain ⟨T, hT⟩ : ∃ T, opn (takeT s) = (0, T) := ⟨_, by rw [← h]⟩
  obtain ⟨a, b, c⟩ := opn_back hT
  rw [hT]
  have hc := (chkE_ok T).2 ⟨b, c⟩
  refine ⟨hc, ?_⟩
  unfold packB
  rw [if_pos hc, a]
  exact put_take hE
theorem packB_len {T : List Ent} : (packB T).length ≤ 10000000100 := by
  unfold packB
  split
  · rename_i h
    obtain ⟨h1, h2⟩ := (chkE_ok T).1 h
    rw [List.length_append, four_len]
    have := listB_len (smallE_of h1) h2
    omega
  · simp

theorem whole_small {n : Nat} (h : n < 64) : whole (n : Int) = [UInt8.ofNat (64 + n)] := by
  unfold whole grp
  rw [if_neg (by omega), Int.toNat_natCast, Nat.div_eq_of_lt h, lead_zero, Nat.mod_eq_of_lt h]
  rfl
def awT : List Ent := [⟨[97, 98], [120], false⟩, ⟨[97, 99], [], true⟩]
def awL : List UInt8 := [66, 64, 66, 97, 98, 66, 120, 65, 65, 99, 64]
theorem aw_list : listB awT = awL := by
  have w0 := whole_small (n := 0) (by decide)
  have w1 := whole_small (n := 1) (by decide)
  have w2 := whole_small (n := 2) (by decide)
  have s1 : sharedL [] [97, 98] = 0 := rfl
  have s2 : sharedL [97, 98] [97, 99] = 1 := rfl
  unfold listB awT
  simp only [entsB, entB, text, s1, s2, List.length_cons, List.length_nil, List.drop_zero, List.drop_succ_cons, if_true, Bool.false_eq_true, if_false, Nat.zero_add]
  rw [show (whole 0) = whole ((0 : Nat) : Int) from rfl]
  simp only [w0, w1, w2]
  rfl
theorem aw_chk : chkE awT = 0 := by decide
theorem aw_pack : packB awT = awL ++ four (sumL awL) := by unfold packB; rw [if_pos aw_chk, aw_list]
theorem aw_row (w : World) : IsE (w.alloc (.cells #[.string ⟨#[97, 98]⟩, .string ⟨#[120]⟩, .bool false, .string ⟨#[97, 99]⟩, .string ⟨#[]⟩, .bool true] 49)) (some ⟨w.heap.size, 0, none⟩) 2 awT := by
  have h := heap_new w (.cells #[.string ⟨#[97, 98]⟩, .string ⟨#[120]⟩, .bool false, .string ⟨#[97, 99]⟩, .string ⟨#[]⟩, .bool true] 49)
  refine ⟨rfl, w.heap.size, 0, .inr rfl, fun k hk => ?_⟩
  match k, hk with
  | 0, _ => exact ⟨heap_lt h, by simp only [World.cell?, h]; rfl, by simp only [World.cell?, h]; rfl, by simp only [World.cell?, h]; rfl⟩
  | 1, _ => exact ⟨heap_lt h, by simp only [World.cell?, h]; rfl, by simp only [World.cell?, h]; rfl, by simp only [World.cell?, h]; rfl⟩
  | k + 2, hk => exact absurd hk (by simp [awT])
theorem fit_of_small {T : List Ent} (h : smallE T) : fitE T := fun x hx => by have := h x hx; omega

end Go.Proofs.YteejldddgogbkaaGreatDoor
/- The program's Find. -/
set_option linter.unusedVariables false
set_option maxRecDepth 100000
set_option maxRecDepth 100000
namespace Go.Proofs.YteejldddgogbkaaGreatDoor
open Go.RowKit

/-- A variable that holds a slice. -/
def BxS (c : Nat) (v : Value) (w : World) : Prop := w.heap[c]? = some (.cells #[v] 22 (0, 0))
set_option maxHeartbeats 1000000 in
theorem find_look (b1 b2 : Nat) (a : Option Addr) (len cap : Nat) (T : List Ent) (key : List UInt8) (i : Nat) (x : Ent) (w : World) (h1 : BxS b1 (.slice a len cap) w) (h2 : Bx b2 key w) (hT : Hid (IsE w a len T)) (hi : i < len) (hx : Hid (T[i]? = some x)) :
    Calls Tryz.prog 79 #[.int .i64 (i : Int), .pointer (some ⟨b1, 0, none⟩), .pointer (some ⟨b2, 0, none⟩)] w fun e w' => e = .returned (.bool (!ltB x.key key)) ∧ Below w.heap.size w w' := by
  obtain ⟨b, off, y, rfl, hy, _, hc⟩ := hT.out.at hi
  have hxy : x = y := by have := hx.out; rw [hy] at this; injection this with this; exact this.symm
  have c0 := hc.c0
  have k1 : w.cell? ⟨b1, 0, none⟩ = some (.slice (some ⟨b, off, none⟩) len cap) := by unfold BxS at h1; simp [World.cell?, h1]
  have k2 := h2.cell
  have hlt : Op.bytesLess (bs y.key).toList (bs key).toList = ltB y.key key := by rw [Lib.toList_data, Lib.toList_data, bs_list, bs_list, ltB_less]
  rw [hxy]
  clear hxy hx hy h1 h2 hc
  obtain ⟨z, hz⟩ : ∃ z, z = ltB y.key key := ⟨_, rfl⟩
  rw [← hz] at hlt ⊢
  clear hz
  go_enter Tryz.func79, Tryz.ntmps79
  go_wp2_with fail
  go_quiet (fail)
  go_wp2_with fail
  go_ret
  exact ⟨rfl, below_drewN (Below.refl _ _) _⟩
/-- What Find answers. -/
structure FindPost (T : List Ent) (key : List UInt8) (w : World) (e : Ending) (w' : World) : Prop where
  out : ∃ r, e = .returned (.int .i64 ((r : Nat) : Int)) ∧ r ≤ T.length ∧ (∀ x, 0 < r → T[r - 1]? = some x → ltB x.key key = true) ∧ (∀ x, T[r]? = some x → ltB x.key key = false)
  bel : Below w.heap.size w w'
set_option maxHeartbeats 2000000 in
theorem find_search (b1 b2 : Nat) (a : Option Addr) (len cap : Nat) (T : List Ent) (key : List UInt8) (w : World) (h1 : BxS b1 (.slice a len cap) w) (h2 : Bx b2 key w) (hT : Hid (IsE w a len T)) (hl : len ≤ 100000) :
    Calls Tryz.prog 77 #[.int .i64 (len : Int), .func (.func 79) #[] #[.pointer (some ⟨b1, 0, none⟩), .pointer (some ⟨b2, 0, none⟩)]] w (FindPost T key w) := by
  have H1 := Lib.hid h1
  have H2 := Lib.hid h2
  clear h1 h2
  go_enter Tryz.func77, Tryz.ntmps77
  go_wp2_with fail
  go_loopw [5, 6] (fun iv jv wr => ∃ i j : Nat, i ≤ j ∧ j ≤ len ∧ iv = .int .i64 i ∧ jv = .int .i64 j ∧ Hid (∀ x, 0 < i → T[i - 1]? = some x → ltB x.key key = true) ∧ Hid (∀ x, T[j]? = some x → ltB x.key key = false) ∧ Hid (Below w.heap.size w wr)) (fun iv jv wr => (intOf jv).toNat - (intOf iv).toNat)
  case atStart => exact ⟨0, len, by omega, by omega, rfl, rfl, Lib.hid (fun x h => absurd h (by omega)), Lib.hid (fun x h => by have := (List.getElem?_eq_some_iff.1 h).1; have := hT.out.1; omega), Lib.hid (Below.refl _ _)⟩
  case round =>
    obtain ⟨i, j, hij, hj, rfl, rfl, hA, hZ, hB⟩ := hrel
    by_cases hlt : i < j
    · obtain ⟨m, hm⟩ : ∃ m, m = (i + j) / 2 := ⟨_, rfl⟩
      obtain ⟨s, hs⟩ : ∃ s : Int, s = (i : Int) + (j : Int) := ⟨_, rfl⟩
      have hs1 : IntKind.i64.wrap ((i : Int) + (j : Int)) = s := by rw [IntWalk.i64_in _ (by omega), hs]
      have hm1 : s / 2 = (m : Int) := by omega
      have hmi : i ≤ m := by omega
      have hmj : m < j := by omega
      have hml : m < len := by omega
      have hs0 : 0 ≤ s := by omega
      have hs2 : s ≤ 200000 := by omega
      have hs3 : (i : Int) + (j : Int) = s := hs.symm
      obtain ⟨x, hx⟩ : ∃ x, T[m]? = some x := ⟨_, List.getElem?_eq_getElem (by have := hT.out.1; omega)⟩
      have HL := Lib.hid (find_look b1 b2 a len cap T key m x wr ((hB.out.block b1 (heap_lt H1.out)).trans H1.out) ((hB.out.block b2 (heap_lt H2.out)).trans H2.out) (Lib.hid (hT.out.below hB.out)) hml (Lib.hid hx))
      have HX := Lib.hid hx
      have HM := Lib.hid (And.intro hmi hmj)
      clear hs hm hx
      cases hc : ltB x.key key with
      | true =>
        rw [hc, Bool.not_true] at HL
        have HC := Lib.hid hc
        clear hc
        go_wp2_with fail
        refine HL.out.mono ?_
        rintro e w2 ⟨rfl, k2⟩
        have HB2 := Lib.hid (hB.out.trans (k2.mono hB.out.size))
        clear k2
        go_wp2_with fail
        go_roundw
        case rel => exact ⟨m + 1, j, by omega, hj, by go_num, rfl, Lib.hid (fun y _ hy => by rw [Nat.add_sub_cancel, HX.out] at hy; injection hy with hy; rw [← hy]; exact HC.out), hZ, HB2⟩
        case measure => simp [intOf]; omega
      | false =>
        rw [hc, Bool.not_false] at HL
        have HC := Lib.hid hc
        clear hc
        go_wp2_with fail
        refine HL.out.mono ?_
        rintro e w2 ⟨rfl, k2⟩
        have HB2 := Lib.hid (hB.out.trans (k2.mono hB.out.size))
        clear k2
        go_wp2_with fail
        go_roundw
        case rel => exact ⟨i, m, hmi, by omega, rfl, rfl, hA, Lib.hid (fun y hy => by rw [HX.out] at hy; injection hy with hy; rw [← hy]; exact HC.out), HB2⟩
        case measure => simp [intOf]; omega
    · obtain rfl : i = j := by omega
      go_wp2_with fail
      go_ret
      exact ⟨⟨i, rfl, by have := hT.out.1; omega, hA.out, hZ.out⟩, hB.out⟩
theorem block_Find (a : Option Addr) (len cap : Nat) (T : List Ent) (key : List UInt8) (w : World) (hT : Hid (IsE w a len T)) (hl : len ≤ 100000) :
    Calls Tryz.prog 50 #[.slice a len cap, .string (bs key)] w (FindPost T key w) := by
  obtain ⟨w0, hw0⟩ : ∃ w0, (w.alloc (.cells #[.slice a len cap] 22)).alloc (.cells #[.string (bs key)] 9) = w0 := ⟨_, rfl⟩
  have K0 := Lib.hid (show Below w.heap.size w w0 by rw [← hw0]; exact ((Below.refl _ _).alloc (Nat.le_refl _) _).alloc (by simp) _)
  have S0 := Lib.hid (show BxS w.heap.size (.slice a len cap) w0 by rw [← hw0]; exact (Below.heap_alloc _ _ _ (by simp)).trans (heap_new w _))
  have S1 := Lib.hid (show Bx (w.heap.size + 1) key w0 by
    have h := heap_new (w.alloc (.cells #[.slice a len cap] 22)) (.cells #[.string (bs key)] 9)
    rw [show (w.alloc (.cells #[.slice a len cap] 22)).heap.size = w.heap.size + 1 by simp] at h
    rw [← hw0]; exact h)
  have HS := Lib.hid (find_search w.heap.size (w.heap.size + 1) a len cap T key w0 S0.out S1.out (Lib.hid (hT.out.below K0.out)) hl)
  have c0 : w0.cell? ⟨w.heap.size, 0, none⟩ = some (.slice a len cap) := by have := S0.out; unfold BxS at this; simp [World.cell?, this]
  have HW0 := Lib.hid hw0
  clear hw0
  go_enter Tryz.func50, Tryz.ntmps50
  go_upto_region 1 with (fail)
  rw [HW0.out]
  go_wp2_with fail
  refine HS.out.mono ?_
  rintro e w1 ⟨⟨r, rfl, hr⟩, k1⟩
  go_wp2_with fail
  go_ret
  exact ⟨⟨r, rfl, hr⟩, K0.out.trans (k1.mono K0.out.size)⟩
/-- In rising entries it is the place. -/
theorem find_place {T : List Ent} {key : List UInt8} (hT : rises T) {r : Nat} (h1 : r ≤ T.length) (h2 : ∀ x, 0 < r → T[r - 1]? = some x → ltB x.key key = true) (h3 : ∀ x, T[r]? = some x → ltB x.key key = false) : place key T = r := by
  refine place_of hT h1 (fun i x hi hx => ?_) (fun i x hi hx => ?_)
  · obtain ⟨y, hy⟩ : ∃ y, T[r - 1]? = some y := ⟨_, List.getElem?_eq_getElem (by omega)⟩
    have hy2 := h2 y (by omega) hy
    by_cases e : i = r - 1
    · subst e
      rw [hx] at hy
      injection hy with hy
      rw [hy]
      exact hy2
    · exact ltB_trans (rises_at hT i (r - 1) x y (by omega) hx hy) hy2
  · by_cases e : i = r
    · subst e
      exact h3 x hx
    · have hil := (List.getElem?_eq_some_iff.1 hx).1
      obtain ⟨y, hy⟩ : ∃ y, T[r]? = some y := ⟨_, List.getElem?_eq_getElem (by omega)⟩
      have hyx := rises_at hT r i y x (by omega) hy hx
      have hyf := h3 y hy
      cases hb : ltB x.key key with
      | false => rfl
      | true => rw [ltB_trans hyx hb] at hyf; cases hyf
end Go.Proofs.YteejldddgogbkaaGreatDoor
