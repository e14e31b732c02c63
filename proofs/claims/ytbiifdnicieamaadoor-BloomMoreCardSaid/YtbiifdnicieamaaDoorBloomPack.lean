/- Pack and Open: a filter's bytes; the filter with these bytes. -/
import Derived.Test.YtbiifdnicieamaaDoorBloomMade
set_option linter.unusedVariables false
set_option maxRecDepth 100000
namespace Go.Proofs.YtbiifdnicieamaaDoor
open Go.RowKit

/-- Bytes as a string, and back. -/
theorem conv_back (w : World) (B : Nat) (L : List UInt8) (n cap : Nat) (hn : n = L.length) (h : Row8 B L w) : (convert 48 9 (.slice (some ⟨B, 0, none⟩) n cap)).run Tryd.prog w = .ok (.string (bs L)) w := by
  subst hn
  refine run_convert_bytes_back (P := Tryd.prog) _ 48 9 5 ⟨B, 0, none⟩ cap L Tryd.underlying48 Tryd.underlying5 Tryd.underlying9 ?_
  intro j hj
  rw [addr_add, Nat.zero_add, (h.2 j hj).1, byteAt_get L j hj]
theorem row8_bytes (w : World) (s : ByteArray) (cap : Nat) (t : TypeId) : Row8 w.heap.size s.data.toList (w.drew.alloc (.cells (bytesRow s cap) t ((bytesRow s cap).size, (bytesRow s cap).size + 1))) := by
  refine ⟨by show w.heap.size < (w.heap.push _).size; simp, fun j hj => ?_⟩
  have hs : j < s.data.size := by simpa using hj
  have hlen : j < (bytesRow s cap).size := (Array.getElem?_eq_some_iff.1 (bytesRow_at s cap j hs)).1
  refine ⟨?_, ?_⟩
  · have h := World.cell?_alloc_mark w.drew (bytesRow s cap) t ((bytesRow s cap).size, (bytesRow s cap).size + 1) j
    refine h.trans ?_
    rw [bytesRow_at s cap j hs, byteAt_get _ j hj]
    rfl
  · have h := World.frozen?_alloc_mark w.drew (bytesRow s cap) t (bytesRow s cap).size ((bytesRow s cap).size + 1) j
    refine h.trans ?_
    rw [decide_eq_false (by omega), Bool.false_and]
theorem conv_out (w : World) (L : List UInt8) (n : Nat) (hn : n = L.length) : ∃ (w2 : World) (cap : Nat), (convert 9 48 (.string (bs L))).run Tryd.prog w = .ok (.slice (some ⟨w.heap.size, 0, none⟩) n cap) w2 ∧ Row8 w.heap.size L w2 ∧ Below w.heap.size w w2 ∧ w2.heap.size = w.heap.size + 1 := by
  have h := run_bytes_of_string (P := Tryd.prog) w 9 48 5 (bs L) Tryd.underlying9 Tryd.underlying48 Tryd.underlying5
  rw [bs_size, ← hn] at h
  exact ⟨_, _, h, row8_bytes w (bs L) _ 5, ((Below.refl _ _).drew).alloc (Nat.le_refl _) _, by simp⟩

set_option maxHeartbeats 1000000 in
theorem flt_pack (b g h m : Nat) (L : List UInt8) (w : World) (f : Hid (Flt b g h L w)) (hm : Hid (m = L.length)) (hl : m ≤ 100000000) (hh : h ≤ 8) :
    Calls Tryd.prog 14 #[.pointer (some ⟨b, 0, none⟩)] w fun e w' => e = .returned (.string (bs (packF h L))) ∧ Below w.heap.size w w' := by
  obtain ⟨Z, hZ⟩ : ∃ Z, Z = w.heap.size := ⟨_, rfl⟩
  have hbg := Lib.hid (show b < Z ∧ g < Z by rw [hZ]; exact ⟨f.out.lt, f.out.row.1⟩)
  obtain ⟨cap, c1⟩ := f.out.c1
  rw [← hm.out] at c1
  obtain ⟨w1, hw1⟩ : ∃ w1, w1 = w.alloc (.cells #[.pointer none, .slice none 0 0] 84) := ⟨_, rfl⟩
  have hWt := Lib.hid (show Wt Z Z [] w1 by rw [hw1, hZ]; exact wt_new w)
  have B1 := Lib.hid (show Below Z w w1 by rw [hw1, hZ]; exact (Below.refl _ _).alloc (Nat.le_refl _) _)
  have F1 := Lib.hid (f.out.keep B1.out hbg.out.1 hbg.out.2)
  have hc01 : w1.cell? ⟨b, 0, none⟩ = some (.int .i64 (h : Int)) := F1.out.c0
  have C1 := Lib.hid (show w1.cell? ⟨b, 1, none⟩ = some (.slice (some ⟨g, 0, none⟩) m cap) by rw [B1.out.cell hbg.out.1]; exact c1)
  have HW1 := Lib.hid hw1
  have HZ := Lib.hid hZ
  clear hZ hw1 c1
  go_enter Tryd.func14, Tryd.ntmps14
  go_wp2_with fail
  refine (six_New w).mono ?_
  rintro e _ ⟨rfl, rfl⟩
  rw [← HW1.out, ← HZ.out]
  go_wp2_with fail
  refine (six_CountI Z Z [] (h : Int) w1 hWt.out (by omega) (by omega) (by simp)).mono ?_
  rintro e w2 ⟨rfl, hWt2, B2⟩
  have HB2 := Lib.hid B2
  have HWt2 := Lib.hid hWt2
  have c2 : w2.cell? ⟨b, 1, none⟩ = some (.slice (some ⟨g, 0, none⟩) m cap) := by rw [HB2.out.cell hbg.out.1]; exact C1.out
  have hconv := conv_back w2 g L m cap hm.out (F1.out.row.keep HB2.out hbg.out.2)
  clear hWt2 B2 hc01
  go_wp2_with fail
  refine (six_Text Z Z (whole (h : Int)) (bs L) w2 (by have := HWt2.out; rw [List.nil_append] at this; exact this) (by have := (whole_len (n := (h : Int)) (by omega) (by omega)).1; rw [bs_size, ← hm.out]; omega)).mono ?_
  rintro e w3 ⟨rfl, hWt3, B3⟩
  have HB3 := Lib.hid B3
  have HWt3 := Lib.hid hWt3
  clear hWt3 B3 c2 hconv
  go_wp2_with fail
  refine (six_Bytes Z Z _ w3 HWt3.out).mono ?_
  rintro e w4 ⟨rfl, _, B4, _⟩
  have HB4 := Lib.hid B4
  clear B4
  go_wp2_with fail
  go_ret
  refine ⟨by rw [bs_list]; rfl, ?_⟩
  rw [← HZ.out]
  exact ((B1.out.trans HB2.out).trans HB3.out).trans HB4.out

/-- What Open leaves. -/
def OpenPost (l : List UInt8) (w : World) (e : Ending) (w' : World) : Prop :=
  Below w.heap.size w w' ∧ ((openE l ≠ 0 ∧ e = .returned (.tuple #[.pointer none, .int .i64 (openE l)])) ∨
    (openE l = 0 ∧ ∃ b g, w.heap.size ≤ b ∧ w.heap.size ≤ g ∧ e = .returned (.tuple #[.pointer (some ⟨b, 0, none⟩), .int .i64 0]) ∧ Flt b g (openH l) (openT l) w'))

def Opened (n e1 e2 e3 : Int) (T : List UInt8) (w : World) (e : Ending) (w' : World) : Prop := Below w.heap.size w w' ∧
      ((e1 ≠ 0 ∧ e = .returned (.tuple #[.pointer none, .int .i64 e1])) ∨ (e1 = 0 ∧ (n < 1 ∨ 8 < n) ∧ e = .returned (.tuple #[.pointer none, .int .i64 3])) ∨
       (e1 = 0 ∧ ¬ (n < 1 ∨ 8 < n) ∧ e2 ≠ 0 ∧ e = .returned (.tuple #[.pointer none, .int .i64 e2])) ∨ (e1 = 0 ∧ ¬ (n < 1 ∨ 8 < n) ∧ e2 = 0 ∧ (T = [] ∨ T.length % 8 ≠ 0) ∧ e = .returned (.tuple #[.pointer none, .int .i64 3])) ∨
       (e1 = 0 ∧ ¬ (n < 1 ∨ 8 < n) ∧ e2 = 0 ∧ ¬ (T = [] ∨ T.length % 8 ≠ 0) ∧ e3 ≠ 0 ∧ e = .returned (.tuple #[.pointer none, .int .i64 e3])) ∨
       (e1 = 0 ∧ ¬ (n < 1 ∨ 8 < n) ∧ e2 = 0 ∧ ¬ (T = [] ∨ T.length % 8 ≠ 0) ∧ e3 = 0 ∧ ∃ b g, w.heap.size ≤ b ∧ w.heap.size ≤ g ∧ e = .returned (.tuple #[.pointer (some ⟨b, 0, none⟩), .int .i64 0]) ∧ Flt b g n.toNat T w'))

set_option maxHeartbeats 1000000 in
/-- Open, its callees' answers as letters. -/
theorem open_core (s s1 s2 : ByteArray) (T : List UInt8) (n e1 e2 e3 : Int) (w : World)
    (h1 : Hid (∀ w' r, Rt r s w' → Calls Tryd.prog 25 #[.pointer (some ⟨r, 0, none⟩)] w' (Rd r s1 (.int .i64 n) (.int .i64 e1) w')))
    (h2 : Hid (∀ w' r, Rt r s1 w' → Calls Tryd.prog 26 #[.pointer (some ⟨r, 0, none⟩)] w' (Rd r s2 (.string (bs T)) (.int .i64 e2) w')))
    (h3 : Hid (∀ w' r, Rt r s2 w' → Calls Tryd.prog 27 #[.pointer (some ⟨r, 0, none⟩)] w' fun e w'' => e = .returned (.int .i64 e3) ∧ w' = w'')) (hT : T.length ≤ 9223372036854775807) :
    Calls Tryd.prog 13 #[.string s] w (Opened n e1 e2 e3 T w) := by
  obtain ⟨Z, hZ⟩ : ∃ Z, Z = w.heap.size := ⟨_, rfl⟩
  obtain ⟨w1, hw1⟩ : ∃ w1, w1 = w.alloc (.cells #[.string s] 78) := ⟨_, rfl⟩
  have R1 := Lib.hid (show Rt Z s w1 by rw [hw1, hZ]; exact Rt.new s w)
  have B1 := Lib.hid (show Below Z w w1 by rw [hw1, hZ]; exact (Below.refl _ _).alloc (Nat.le_refl _) _)
  have HW1 := Lib.hid hw1
  have HZ := Lib.hid hZ
  clear hZ hw1
  go_enter Tryd.func13, Tryd.ntmps13
  go_wp2_with fail
  refine (six_Over s w).mono ?_
  rintro e _ ⟨rfl, rfl⟩
  rw [← HW1.out, ← HZ.out]
  go_wp2_with fail
  refine (h1.out w1 Z R1.out).mono ?_
  rintro e w2 ⟨rfl, r2, k2⟩
  have R2 := Lib.hid r2
  have B2 := Lib.hid (B1.out.trans (k2.below (fun j _ e => by omega) (by rw [HZ.out]; exact B1.out.size)))
  clear r2 k2
  by_cases he1 : e1 = 0
  · subst he1
    by_cases hn : n < 1 ∨ 8 < n
    · rcases hn with hn | hn
      · go_wp2_with fail
        go_ret2
        exact ⟨by rw [← HZ.out]; exact B2.out, .inr (.inl ⟨rfl, .inl hn, rfl⟩)⟩
      · have hn1 : ¬ n < 1 := by omega
        go_wp2_with fail
        go_ret2
        exact ⟨by rw [← HZ.out]; exact B2.out, .inr (.inl ⟨rfl, .inr hn, rfl⟩)⟩
    · have hn1 : ¬ n < 1 := fun h => hn (.inl h)
      have hn8 : ¬ 8 < n := fun h => hn (.inr h)
      have Hn := Lib.hid hn
      clear hn
      go_wp2_with fail
      refine (h2.out w2 Z R2.out).mono ?_
      rintro e w3 ⟨rfl, r3, k3⟩
      have R3 := Lib.hid r3
      have B3 := Lib.hid (B2.out.trans (k3.below (fun j _ e => by omega) (Nat.le_trans (by rw [HZ.out]; exact Nat.le_refl _) B2.out.size)))
      clear r3 k3
      by_cases he2 : e2 = 0
      · subst he2
        by_cases hT0 : T = []
        · subst hT0
          have hE : (bs []).toList.isEmpty = true := by rw [Lib.toList_data, bs_list]; rfl
          have ht := Lib.hid hT
          clear hT
          go_wp2_with fail
          go_ret2
          exact ⟨by rw [← HZ.out]; exact B3.out, .inr (.inr (.inr (.inl ⟨rfl, Hn.out, rfl, .inl rfl, rfl⟩)))⟩
        · have hE : (bs T).toList.isEmpty = false := by rw [Lib.toList_data, bs_list]; cases T with | nil => exact absurd rfl hT0 | cons a l => rfl
          have HT0 := Lib.hid hT0
          obtain ⟨m, hml⟩ : ∃ m, m = T.length := ⟨_, rfl⟩
          have hml' : (bs T).size = m := by rw [bs_size, hml]
          have hmb : m ≤ 9223372036854775807 := by rw [hml]; exact hT
          by_cases hm : T.length % 8 = 0
          · have HM := Lib.hid hm
            have hrem : (m : Int) % 8 = 0 := by omega
            have HML := Lib.hid hml
            clear hm hT0 hml hT
            go_wp2_with fail
            refine (h3.out w3 Z R3.out).mono ?_
            rintro e _ ⟨rfl, rfl⟩
            by_cases he3 : e3 = 0
            · subst he3
              obtain ⟨w5, cap, hcv, r5, k5, s5⟩ := conv_out w3 T m HML.out
              have K5 := Lib.hid k5
              have H5 := Lib.hid r5
              have S5 := Lib.hid s5
              clear k5 r5 s5
              have HN := Lib.hid (show ((n.toNat : Nat) : Int) = n by have := Hn.out; omega)
              go_wp2_with fail
              go_ret2
              obtain ⟨w6, hw6⟩ : ∃ w6, w6 = w5.alloc (.cells #[.int .i64 n, .slice (some ⟨w3.heap.size, 0, none⟩) m cap] 50) := ⟨_, rfl⟩
              have b6 : Below w5.heap.size w5 w6 := by rw [hw6]; exact (Below.refl _ _).alloc (Nat.le_refl _) _
              have hz3 : Z ≤ w3.heap.size := Nat.le_trans (by rw [HZ.out]; exact Nat.le_refl _) B3.out.size
              have bb : Below Z w w6 := (B3.out.trans (K5.out.mono hz3)).trans (b6.mono (Nat.le_trans hz3 K5.out.size))
              refine ⟨by rw [← HZ.out, ← hw6]; exact bb, .inr (.inr (.inr (.inr (.inr ⟨rfl, Hn.out, rfl, fun h => h.elim HT0.out (fun h => h HM.out), rfl, w5.heap.size, w3.heap.size, ?_, ?_, rfl, ?_⟩))))⟩
              · exact Nat.le_trans B3.out.size K5.out.size
              · exact B3.out.size
              · rw [← hw6]
                have hcell : ∀ j v, (#[Value.int .i64 n, .slice (some ⟨w3.heap.size, 0, none⟩) m cap] : Array Value)[j]? = some v → w6.cell? ⟨w5.heap.size, j, none⟩ = some v := fun j v hv => by rw [hw6, World.cell?_alloc_mark]; exact hv
                refine ⟨hcell 0 _ (by rw [HN.out]; rfl), ⟨cap, hcell 1 _ (by rw [← HML.out]; rfl)⟩, H5.out.keep b6 H5.out.1, by rw [hw6]; simp⟩
            · have hb : (e3 == 0) = false := beq_eq_false_iff_ne.2 he3
              have He3 := Lib.hid he3
              clear he3
              go_wp2_with fail
              go_ret2
              exact ⟨by rw [← HZ.out]; exact B3.out, .inr (.inr (.inr (.inr (.inl ⟨rfl, Hn.out, rfl, fun h => h.elim HT0.out (fun h => h HM.out), He3.out, rfl⟩))))⟩
          · have HM := Lib.hid hm
            have hrem : ((m : Int) % 8 != 0) = true := by rw [bne_iff_ne]; omega
            have HML := Lib.hid hml
            clear hm hT0 hml hT
            go_wp2_with fail
            go_ret2
            exact ⟨by rw [← HZ.out]; exact B3.out, .inr (.inr (.inr (.inl ⟨rfl, Hn.out, rfl, .inr HM.out, rfl⟩)))⟩
      · have hb : (e2 == 0) = false := beq_eq_false_iff_ne.2 he2
        have He2 := Lib.hid he2
        clear he2
        go_wp2_with fail
        go_ret2
        exact ⟨by rw [← HZ.out]; exact B3.out, .inr (.inr (.inl ⟨rfl, Hn.out, He2.out, rfl⟩))⟩
  · have hb : (e1 == 0) = false := beq_eq_false_iff_ne.2 he1
    have He1 := Lib.hid he1
    clear he1
    go_wp2_with fail
    go_ret2
    exact ⟨by rw [← HZ.out]; exact B2.out, .inl ⟨He1.out, rfl⟩⟩

theorem flt_Open (s : ByteArray) (w : World) (hs : s.size ≤ maxLen) : Calls Tryd.prog 13 #[.string s] w (OpenPost s.data.toList w) := by
  obtain ⟨l, hl⟩ : ∃ l, l = s.data.toList := ⟨_, rfl⟩
  have hlen : l.length = s.size := by rw [hl, ← Lib.size_eq]
  obtain ⟨S1, hS1⟩ : ∃ S1, S1 = s.extract (ck l) s.size := ⟨_, rfl⟩
  have e1 : S1.data.toList = openL l := by rw [hS1, extract_rest, ← hl]; rfl
  have z1 : S1.size ≤ maxLen := by rw [hS1, extract_size]; omega
  obtain ⟨S2, hS2⟩ : ∃ S2, S2 = S1.extract (tk (openL l)) S1.size := ⟨_, rfl⟩
  have e2 : S2.data.toList = (openL l).drop (tk (openL l)) := by rw [hS2, extract_rest, e1]
  have c1 := fun w' r (h : Rt r s w') => six_ReadCount r s w' h hs
  have c2 := fun w' r (h : Rt r S1 w') => six_ReadText r S1 w' h z1
  have c3 := fun w' r (h : Rt r S2 w') => six_End r S2 w' h
  rw [← hl, ← hS1] at c1
  rw [e1, ← hS2] at c2
  rw [e2] at c3
  have l1 : (openL l).length ≤ l.length := by unfold openL; simp
  have hts : (ts (openL l)).length ≤ (openL l).length := by
    rcases td_cases (openL l) with ⟨_, _, _, h4, _, _, h7⟩ | ⟨_, h2, _⟩
    · rw [h7]; simp; omega
    · rw [h2]; simp
  have hm : maxLen = 9223372036854775807 := rfl
  refine (open_core s S1 S2 (ts (openL l)) (cn l) (ce l) (te (openL l)) (endE ((openL l).drop (tk (openL l)))) w (Lib.hid c1) (Lib.hid c2) (Lib.hid c3) (by omega)).mono ?_
  rw [← hl]
  rintro e w' ⟨hb, h⟩
  refine ⟨hb, ?_⟩
  have hend : te (openL l) = 0 → (endE ((openL l).drop (tk (openL l))) = 0 ↔ (openL l).length = tk (openL l)) := by
    intro ht
    have htk : tk (openL l) ≤ (openL l).length := by
      rcases td_cases (openL l) with ⟨_, _, _, h4, _, h6, _⟩ | ⟨h1, _⟩
      · omega
      · omega
    unfold endE
    split
    · rename_i h0
      have := congrArg List.length h0
      simp at this
      simp
      omega
    · rename_i h0
      have : ¬ ((openL l).length = tk (openL l)) := fun h1 => h0 (by rw [List.drop_eq_nil_iff]; omega)
      simp [this]
  rcases h with ⟨a1, a2⟩ | ⟨a1, a2, a3⟩ | ⟨a1, a2, a3, a4⟩ | ⟨a1, a2, a3, a4, a5⟩ | ⟨a1, a2, a3, a4, a5, a6⟩ | ⟨a1, a2, a3, a4, a5, a6⟩
  · have : openE l = ce l := by unfold openE; rw [if_pos a1]
    exact .inl ⟨by rw [this]; exact a1, by rw [this]; exact a2⟩
  · have : openE l = 3 := by unfold openE; rw [if_neg (by omega), if_pos a2]
    exact .inl ⟨by rw [this]; decide, by rw [this]; exact a3⟩
  · have : openE l = te (openL l) := by unfold openE; rw [if_neg (by omega), if_neg a2, if_pos a3]
    exact .inl ⟨by rw [this]; exact a3, by rw [this]; exact a4⟩
  · have : openE l = 3 := by unfold openE; rw [if_neg (by omega), if_neg a2, if_neg (by omega), if_pos a4]
    exact .inl ⟨by rw [this]; decide, by rw [this]; exact a5⟩
  · have hne : ¬ ((openL l).length = tk (openL l)) := fun h => a5 ((hend a3).2 h)
    have he5 : endE ((openL l).drop (tk (openL l))) = 5 := by
      unfold endE at a5 ⊢
      split
      · rename_i h0; rw [if_pos h0] at a5; exact absurd rfl a5
      · rfl
    have : openE l = 5 := by unfold openE; rw [if_neg (by omega), if_neg a2, if_neg (by omega), if_neg a4, if_pos hne]
    exact .inl ⟨by rw [this]; decide, by rw [this, a6, he5]⟩
  · have : openE l = 0 := by unfold openE; rw [if_neg (by omega), if_neg a2, if_neg (by omega), if_neg a4, if_neg (by rw [(hend a3).1 a5]; simp)]
    exact .inr ⟨this, a6⟩
end Go.Proofs.YtbiifdnicieamaaDoor
