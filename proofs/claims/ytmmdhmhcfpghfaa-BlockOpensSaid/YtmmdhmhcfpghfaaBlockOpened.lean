/- The program's Open. -/
import Derived.Test.YtmmdhmhcfpghfaaBlockEntries
set_option linter.unusedVariables false
set_option maxRecDepth 100000
namespace Go.Proofs.Ytmmdhmhcfpghfaa
open Go.RowKit

/-- What any bytes are, read as entries with their sum: the error, the entries. -/
def opnS (s : List UInt8) : Int × List Ent := if takeE s ≠ 0 then (takeE s, []) else opn (takeT s)
structure OpenPost (s : List UInt8) (w : World) (e : Ending) (w' : World) : Prop where
  out : ∃ a c, e = .returned (.tuple #[.slice a (opnS s).2.length c, .int .i64 (opnS s).1]) ∧ IsE w' a (opnS s).2.length (opnS s).2
  bel : Below w.heap.size w w'
theorem open_no {s : List UInt8} {w w' : World} {z : Int} (h : opnS s = (z, [])) (hb : Below w.heap.size w w') : OpenPost s w (.returned (.tuple #[.slice none 0 0, .int .i64 z])) w' :=
  ⟨⟨none, 0, by rw [h]; rfl, by rw [h]; exact IsE.nil _ _⟩, hb⟩
theorem opn_list_no {l : List UInt8} (h : listE l ≠ 0) : opn l = (listE l, []) := by
  unfold listE at h ⊢
  unfold opn
  by_cases g : ce l ≠ 0
  · simp only [if_pos g]
  · rw [if_neg g] at h
    simp only [if_neg g, if_pos h]
theorem takeT_len (s : List UInt8) : (takeT s).length ≤ s.length := by
  unfold takeT
  split
  · rw [List.length_take]; omega
  · simp
/-- What is known where the list is read. -/
theorem opn_list_yes {l : List UInt8} (h : listE l = 0) : ∃ T K, rdEs (cn l).toNat true [] (l.drop (ck l)) = (0, T, K) ∧ smallE T ∧ opn l = (if 65536 < T.length then (6, []) else if (l.drop (ck l)).drop K ≠ [] then (5, []) else (0, T)) := by
  unfold listE at h
  by_cases g : ce l ≠ 0
  · rw [if_pos g] at h; exact absurd h g
  · rw [if_neg g] at h
    obtain ⟨T, K, hr⟩ : ∃ T K, rdEs (cn l).toNat true [] (l.drop (ck l)) = (0, T, K) := ⟨_, _, by rw [← h]⟩
    obtain ⟨b1, b2, b3, b4⟩ := rdEs_back _ _ _ _ _ _ hr
    have hlen : (entsB [] T).length + ((l.drop (ck l)).drop K).length = (l.drop (ck l)).length := by rw [← List.length_append, b3]
    rw [List.length_drop, List.length_drop] at hlen
    have hck : ck l ≤ l.length := by have := cd_cases l; omega
    refine ⟨T, K, hr, smallE_of b2, ?_⟩
    unfold opn
    simp only [hr, if_neg g]
    rw [if_neg (by simp)]
    by_cases q : 65536 < T.length
    · rw [if_pos q, if_pos q]
    · rw [if_neg q, if_neg q]
      by_cases q2 : (l.drop (ck l)).drop K = []
      · have : ((l.drop (ck l)).drop K).length = 0 := by rw [q2]; rfl
        rw [List.length_drop, List.length_drop] at this
        rw [if_neg (by omega), if_neg (fun h => h q2)]
      · have : ((l.drop (ck l)).drop K).length ≠ 0 := fun h => q2 (List.eq_nil_of_length_eq_zero h)
        rw [List.length_drop, List.length_drop] at this
        rw [if_pos (by omega), if_pos q2]

set_option maxHeartbeats 2000000 in
theorem block_Open (s : List UInt8) (w : World) (hs : s.length ≤ 100000000000) :
    Calls Try.prog 15 #[.string (bs s)] w (OpenPost s w) := by
  have htk := crc_Take (bs s) w (by rw [bs_size]; omega)
  rw [bs_list] at htk
  by_cases h1 : takeE s ≠ 0
  · have hno := Lib.hid (show opnS s = (takeE s, []) by unfold opnS; rw [if_pos h1])
    have hb : (takeE s == 0) = false := beq_eq_false_iff_ne.2 h1
    obtain ⟨z, hz⟩ : ∃ z, z = takeE s := ⟨_, rfl⟩
    rw [← hz] at htk hb hno
    have HT := Lib.hid htk
    clear htk h1 hz
    go_enter Try.func15, Try.ntmps15
    go_wp2_with fail
    refine HT.out.mono ?_
    rintro e w1 ⟨rfl, k1⟩
    go_wp2_with fail
    go_ret2
    exact open_no hno.out k1
  · have h1' : takeE s = 0 := Decidable.of_not_not h1
    have hop := Lib.hid (show opnS s = opn (takeT s) by unfold opnS; rw [if_neg h1])
    obtain ⟨l, hl⟩ : ∃ l, l = takeT s := ⟨_, rfl⟩
    have hll : l.length ≤ 100000000000 := by rw [hl]; have := takeT_len s; omega
    rw [← hl] at hop htk
    rw [h1'] at htk
    have HT := Lib.hid htk
    clear htk h1 h1' hl
    go_enter Try.func15, Try.ntmps15
    go_wp2_with fail
    refine HT.out.mono ?_
    rintro e w1 ⟨rfl, k1⟩
    have K1 := Lib.hid k1
    clear k1
    go_wp2_with fail
    refine (six_Over (bs l) w1).mono ?_
    rintro e w2 ⟨rfl, hw2⟩
    have R2 := Lib.hid (show Rt w1.heap.size (bs l) w2 by rw [← hw2]; exact Rt.new _ _)
    have K2 := Lib.hid (show Below w1.heap.size w1 w2 by rw [← hw2]; exact (Below.refl _ _).alloc (Nat.le_refl _) _)
    clear hw2
    go_wp2_with fail
    refine (block_taker w2).mono ?_
    rintro e w3 ⟨rfl, hw3⟩
    have K3a := Lib.hid (show Below w2.heap.size w2 w3 by rw [← hw3]; exact ((Below.refl _ _).alloc (Nat.le_refl _) _).alloc (by simp) _)
    have A3 := Lib.hid (show Ahd w1.heap.size w2.heap.size (w2.heap.size + 1) true [] w3 by
      have h0 := heap_new w2 (.cells #[.slice none 0 0] 39)
      have h1 := heap_new (w2.alloc (.cells #[.slice none 0 0] 39)) (.cells #[.bool true] 4)
      rw [show (w2.alloc (.cells #[.slice none 0 0] 39)).heap.size = w2.heap.size + 1 by simp] at h1
      rw [← hw3]
      exact ⟨⟨.slice none 0 0, (Below.heap_alloc _ _ _ (by simp)).trans h0, OffRow.nil _ _ _ _⟩, h1, K2.out.size, by have := K2.out.size; omega⟩)
    have R3 := Lib.hid (show Rt w1.heap.size (bs l) w3 from (K3a.out.block _ R2.out.lt).trans R2.out)
    have K3 := Lib.hid (K2.out.trans (K3a.out.mono K2.out.size))
    have HTL := Lib.hid (take_list w1.heap.size w1.heap.size w2.heap.size (w2.heap.size + 1) l w3 R3.out (Nat.le_refl _) A3.out hll)
    clear hw3
    go_wp2_with fail
    refine HTL.out.mono ?_
    rintro e w4 ⟨⟨v, rfl, hyes⟩, hb4⟩
    have K4 := Lib.hid (K1.out.trans ((K3.out.trans hb4).mono K1.out.size))
    have HY := Lib.hid hyes
    clear hb4 hyes
    by_cases h2 : listE l ≠ 0
    · have hno := Lib.hid (show opnS s = (listE l, []) by rw [hop.out, opn_list_no h2])
      have hb : (listE l == 0) = false := beq_eq_false_iff_ne.2 h2
      obtain ⟨z, hz⟩ : ∃ z, z = listE l := ⟨_, rfl⟩
      rw [← hz] at hb hno ⊢
      clear h2 hz
      go_wp2_with fail
      go_ret2
      exact open_no hno.out K4.out
    · have h2' : listE l = 0 := Decidable.of_not_not h2
      obtain ⟨T, K, hr, hsm, hopn⟩ := opn_list_yes h2'
      obtain ⟨hO, hR, hTl⟩ := HY.out h2'
      rw [hr] at hO hR hTl
      rw [← hop.out] at hopn
      rw [h2']
      have HO := Lib.hid hO
      have HR := Lib.hid hR
      have HSM := Lib.hid hsm
      obtain ⟨a, cap, rfl⟩ := hO.slice
      obtain ⟨n, hn⟩ : ∃ n, n = T.length := ⟨_, rfl⟩
      simp only at hn hTl
      rw [← hn] at HO hTl hopn ⊢
      have HN := Lib.hid hn
      clear h2 h2' hr hO hR hsm hn
      by_cases h3 : 65536 < n
      · have hno := Lib.hid (show opnS s = (6, []) by rw [hopn, if_pos h3])
        clear hopn
        go_wp2_with fail
        go_ret2
        exact open_no hno.out K4.out
      · rw [if_neg h3] at hopn
        have hend := six_End w1.heap.size _ w4 HR.out
        rw [bs_list] at hend
        by_cases h4 : (l.drop (ck l)).drop K = []
        · have hyes := Lib.hid (show opnS s = (0, T) by rw [hopn, if_neg (fun h => h h4)])
          have he : endE ((l.drop (ck l)).drop K) = 0 := by unfold endE; rw [if_pos h4]
          rw [he] at hend
          have HE := Lib.hid hend
          clear hopn hend h4 he
          go_wp2_with fail
          refine HE.out.mono ?_
          rintro e w5 ⟨rfl, rfl⟩
          go_wp2_with fail
          have hent := block_entries w1.heap.size (.slice a n cap) T w4 (by rw [← HN.out]; exact HO.out) (by rw [← HN.out]; omega) HSM
          rw [← HN.out] at hent
          refine hent.mono ?_
          rintro e w5 ⟨⟨a5, c5, rfl, hE5⟩, hb5⟩
          have HE5 := Lib.hid hE5
          have HB5 := Lib.hid (K4.out.trans (hb5.mono K4.out.size))
          clear hE5 hb5 hent
          go_wp2_with fail
          go_ret2
          exact ⟨⟨a5, c5, by rw [hyes.out, HN.out]; rfl, by rw [hyes.out]; have := HE5.out; rwa [HN.out] at this⟩, HB5.out⟩
        · have hno := Lib.hid (show opnS s = (5, []) by rw [hopn, if_pos h4])
          have he : endE ((l.drop (ck l)).drop K) = 5 := by unfold endE; rw [if_neg h4]
          rw [he] at hend
          have HE := Lib.hid hend
          clear hopn hend h4 he
          go_wp2_with fail
          refine HE.out.mono ?_
          rintro e w5 ⟨rfl, rfl⟩
          go_wp2_with fail
          go_ret2
          exact open_no hno.out K4.out
end Go.Proofs.Ytmmdhmhcfpghfaa
