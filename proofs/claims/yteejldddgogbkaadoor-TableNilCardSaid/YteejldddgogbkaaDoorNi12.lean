/- Texts for layer 9, put together: BloomPack, BlockOwn, BlockSame, ShaLaid, TablePlain, TableTold, TableOpenPlain, TableBlockPlain -/
import Derived.Test.YteejldddgogbkaaDoorNi11
import Derived.Test.YteejldddgogbkaaDoorNi10
import Derived.Test.YteejldddgogbkaaDoorNi02
import Derived.Laws.StructEq
import Derived.Test.YteejldddgogbkaaDoorCards
import Derived.Test.YteejldddgogbkaaDoorTie
import Derived.ProofKit
import Derived.OpenShut
import Derived.Deep.DeepHandedRow
import Derived.Lib.LaidTab
import Derived.Test.YteejldddgogbkaaDoorNi03
import Derived.Test.YteejldddgogbkaaDoorNi04
import Derived.Test.YteejldddgogbkaaDoorNi07
/- Pack and Open: a filter's bytes; the filter with these bytes. -/
set_option linter.unusedVariables false
set_option maxRecDepth 100000
set_option maxRecDepth 100000
namespace Go.Proofs.YteejldddgogbkaaDoor
open Go.RowKit

/-- Bytes as a string, and back. -/
theorem conv_back (w : World) (B : Nat) (L : List UInt8) (n cap : Nat) (hn : n = L.length) (h : Row8 B L w) : (convert 45 9 (.slice (some ⟨B, 0, none⟩) n cap)).run Tryd.prog w = .ok (.string (bs L)) w := by
  subst hn
  refine run_convert_bytes_back (P := Tryd.prog) _ 45 9 5 ⟨B, 0, none⟩ cap L Tryd.underlying45 Tryd.underlying5 Tryd.underlying9 ?_
  intro j hj
  rw [addr_add, Nat.zero_add, (h.2 j hj).1, byteAt_get L j hj]
theorem row8_bytes (w : World) (s : ByteArray) (cap : Nat) (t : TypeId) : Row8 w.heap.size s.data.toList (w.drew.alloc (.cells (bytesRow s cap) t ((bytesRow s cap).size, (bytesRow s cap).size + 1))) := by
  refine ⟨by show w.heap.size < (w.heap.push _).size; simp, fun j hj => ?_⟩
  have hs : j < s.data.size := by simpa using hj
  have hlen : j < (bytesRow s cap).size := (Array.getElem?_eq_some_iff.1 (bytesRow_at s cap j hs)).1
  refine ⟨?_, ?_⟩
  · have h := World.cell?_alloc_mark w.drew (bytesRow s cap) t ((bytesRow s cap).size, (bytesRow s cap).size + 1) j
    refine h.trans ?_
    rw [bytesRow_at s cap j hs, byteAt_get _ j hj]
    rfl
  · have h := World.frozen?_alloc_mark w.drew (bytesRow s cap) t (bytesRow s cap).size ((bytesRow s cap).size + 1) j
    refine h.trans ?_
    rw [decide_eq_false (by omega), Bool.false_and]
theorem conv_out (w : World) (L : List UInt8) (n : Nat) (hn : n = L.length) : ∃ (w2 : World) (cap : Nat), (convert 9 45 (.string (bs L))).run Tryd.prog w = .ok (.slice (some ⟨w.heap.size, 0, none⟩) n cap) w2 ∧ Row8 w.heap.size L w2 ∧ Below w.heap.size w w2 ∧ w2.heap.size = w.heap.size + 1 := by
  have h := run_bytes_of_string (P := Tryd.prog) w 9 45 5 (bs L) Tryd.underlying9 Tryd.underlying45 Tryd.underlying5
  rw [bs_size, ← hn] at h
  exact ⟨_, _, h, row8_bytes w (bs L) _ 5, ((Below.refl _ _).drew).alloc (Nat.le_refl _) _, by simp⟩

set_option maxHeartbeats 1000000 in
theorem flt_pack (b g h m : Nat) (L : List UInt8) (w : World) (f : Hid (Flt b g h L w)) (hm : Hid (m = L.length)) (hl : m ≤ 100000000) (hh : h ≤ 8) :
    Calls Tryd.prog 29 #[.pointer (some ⟨b, 0, none⟩)] w fun e w' => e = .returned (.string (bs (packF h L))) ∧ Below w.heap.size w w' := by
  obtain ⟨Z, hZ⟩ : ∃ Z, Z = w.heap.size := ⟨_, rfl⟩
  have hbg := Lib.hid (show b < Z ∧ g < Z by rw [hZ]; exact ⟨f.out.lt, f.out.row.1⟩)
  obtain ⟨cap, c1⟩ := f.out.c1
  rw [← hm.out] at c1
  obtain ⟨w1, hw1⟩ : ∃ w1, w1 = w.alloc (.cells #[.pointer none, .slice none 0 0] 114) := ⟨_, rfl⟩
  have hWt := Lib.hid (show Wt Z Z [] w1 by rw [hw1, hZ]; exact wt_new w)
  have B1 := Lib.hid (show Below Z w w1 by rw [hw1, hZ]; exact (Below.refl _ _).alloc (Nat.le_refl _) _)
  have F1 := Lib.hid (f.out.keep B1.out hbg.out.1 hbg.out.2)
  have hc01 : w1.cell? ⟨b, 0, none⟩ = some (.int .i64 (h : Int)) := F1.out.c0
  have C1 := Lib.hid (show w1.cell? ⟨b, 1, none⟩ = some (.slice (some ⟨g, 0, none⟩) m cap) by rw [B1.out.cell hbg.out.1]; exact c1)
  have HW1 := Lib.hid hw1
  have HZ := Lib.hid hZ
  clear hZ hw1 c1
  go_enter Tryd.func29, Tryd.ntmps29
  go_wp2_with fail
  refine (six_New w).mono ?_
  rintro e _ ⟨rfl, rfl⟩
  rw [← HW1.out, ← HZ.out]
  go_wp2_with fail
  refine (six_CountI Z Z [] (h : Int) w1 hWt.out (by omega) (by omega) (by simp)).mono ?_
  rintro e w2 ⟨rfl, hWt2, B2⟩
  have HB2 := Lib.hid B2
  have HWt2 := Lib.hid hWt2
  have c2 : w2.cell? ⟨b, 1, none⟩ = some (.slice (some ⟨g, 0, none⟩) m cap) := by rw [HB2.out.cell hbg.out.1]; exact C1.out
  have hconv := conv_back w2 g L m cap hm.out (F1.out.row.keep HB2.out hbg.out.2)
  clear hWt2 B2 hc01
  go_wp2_with fail
  refine (six_Text Z Z (whole (h : Int)) (bs L) w2 (by have := HWt2.out; rw [List.nil_append] at this; exact this) (by have := (whole_len (n := (h : Int)) (by omega) (by omega)).1; rw [bs_size, ← hm.out]; omega)).mono ?_
  rintro e w3 ⟨rfl, hWt3, B3⟩
  have HB3 := Lib.hid B3
  have HWt3 := Lib.hid hWt3
  clear hWt3 B3 c2 hconv
  go_wp2_with fail
  refine (six_Bytes Z Z _ w3 HWt3.out).mono ?_
  rintro e w4 ⟨rfl, _, B4, _⟩
  have HB4 := Lib.hid B4
  clear B4
  go_wp2_with fail
  go_ret
  refine ⟨by rw [bs_list]; rfl, ?_⟩
  rw [← HZ.out]
  exact ((B1.out.trans HB2.out).trans HB3.out).trans HB4.out

/-- What Open leaves. -/
def OpenPost (l : List UInt8) (w : World) (e : Ending) (w' : World) : Prop :=
  Below w.heap.size w w' ∧ ((openE l ≠ 0 ∧ e = .returned (.tuple #[.pointer none, .int .i64 (openE l)])) ∨
    (openE l = 0 ∧ ∃ b g, w.heap.size ≤ b ∧ w.heap.size ≤ g ∧ e = .returned (.tuple #[.pointer (some ⟨b, 0, none⟩), .int .i64 0]) ∧ Flt b g (openH l) (openT l) w'))

def Opened (n e1 e2 e3 : Int) (T : List UInt8) (w : World) (e : Ending) (w' : World) : Prop := Below w.heap.size w w' ∧
      ((e1 ≠ 0 ∧ e = .returned (.tuple #[.pointer none, .int .i64 e1])) ∨ (e1 = 0 ∧ (n < 1 ∨ 8 < n) ∧ e = .returned (.tuple #[.pointer none, .int .i64 3])) ∨
       (e1 = 0 ∧ ¬ (n < 1 ∨ 8 < n) ∧ e2 ≠ 0 ∧ e = .returned (.tuple #[.pointer none, .int .i64 e2])) ∨ (e1 = 0 ∧ ¬ (n < 1 ∨ 8 < n) ∧ e2 = 0 ∧ (T = [] ∨ T.length % 8 ≠ 0) ∧ e = .returned (.tuple #[.pointer none, .int .i64 3])) ∨
       (e1 = 0 ∧ ¬ (n < 1 ∨ 8 < n) ∧ e2 = 0 ∧ ¬ (T = [] ∨ T.length % 8 ≠ 0) ∧ e3 ≠ 0 ∧ e = .returned (.tuple #[.pointer none, .int .i64 e3])) ∨
       (e1 = 0 ∧ ¬ (n < 1 ∨ 8 < n) ∧ e2 = 0 ∧ ¬ (T = [] ∨ T.length % 8 ≠ 0) ∧ e3 = 0 ∧ ∃ b g, w.heap.size ≤ b ∧ w.heap.size ≤ g ∧ e = .returned (.tuple #[.pointer (some ⟨b, 0, none⟩), .int .i64 0]) ∧ Flt b g n.toNat T w'))

set_option maxHeartbeats 1000000 in
/-- Open, its callees' answers as letters. -/
theorem open_core (s s1 s2 : ByteArray) (T : List UInt8) (n e1 e2 e3 : Int) (w : World)
    (h1 : Hid (∀ w' r, Rt r s w' → Calls Tryd.prog 78 #[.pointer (some ⟨r, 0, none⟩)] w' (Rd r s1 (.int .i64 n) (.int .i64 e1) w')))
    (h2 : Hid (∀ w' r, Rt r s1 w' → Calls Tryd.prog 80 #[.pointer (some ⟨r, 0, none⟩)] w' (Rd r s2 (.string (bs T)) (.int .i64 e2) w')))
    (h3 : Hid (∀ w' r, Rt r s2 w' → Calls Tryd.prog 76 #[.pointer (some ⟨r, 0, none⟩)] w' fun e w'' => e = .returned (.int .i64 e3) ∧ w' = w'')) (hT : T.length ≤ 9223372036854775807) :
    Calls Tryd.prog 57 #[.string s] w (Opened n e1 e2 e3 T w) := by
  obtain ⟨Z, hZ⟩ : ∃ Z, Z = w.heap.size := ⟨_, rfl⟩
  obtain ⟨w1, hw1⟩ : ∃ w1, w1 = w.alloc (.cells #[.string s] 150) := ⟨_, rfl⟩
  have R1 := Lib.hid (show Rt Z s w1 by rw [hw1, hZ]; exact Rt.new s w)
  have B1 := Lib.hid (show Below Z w w1 by rw [hw1, hZ]; exact (Below.refl _ _).alloc (Nat.le_refl _) _)
  have HW1 := Lib.hid hw1
  have HZ := Lib.hid hZ
  clear hZ hw1
  go_enter Tryd.func57, Tryd.ntmps57
  go_wp2_with fail
  refine (six_Over s w).mono ?_
  rintro e _ ⟨rfl, rfl⟩
  rw [← HW1.out, ← HZ.out]
  go_wp2_with fail
  refine (h1.out w1 Z R1.out).mono ?_
  rintro e w2 ⟨rfl, r2, k2⟩
  have R2 := Lib.hid r2
  have B2 := Lib.hid (B1.out.trans (k2.below (fun j _ e => by omega) (by rw [HZ.out]; exact B1.out.size)))
  clear r2 k2
  by_cases he1 : e1 = 0
  · subst he1
    by_cases hn : n < 1 ∨ 8 < n
    · rcases hn with hn | hn
      · go_wp2_with fail
        go_ret2
        exact ⟨by rw [← HZ.out]; exact B2.out, .inr (.inl ⟨rfl, .inl hn, rfl⟩)⟩
      · have hn1 : ¬ n < 1 := by omega
        go_wp2_with fail
        go_ret2
        exact ⟨by rw [← HZ.out]; exact B2.out, .inr (.inl ⟨rfl, .inr hn, rfl⟩)⟩
    · have hn1 : ¬ n < 1 := fun h => hn (.inl h)
      have hn8 : ¬ 8 < n := fun h => hn (.inr h)
      have Hn := Lib.hid hn
      clear hn
      go_wp2_with fail
      refine (h2.out w2 Z R2.out).mono ?_
      rintro e w3 ⟨rfl, r3, k3⟩
      have R3 := Lib.hid r3
      have B3 := Lib.hid (B2.out.trans (k3.below (fun j _ e => by omega) (Nat.le_trans (by rw [HZ.out]; exact Nat.le_refl _) B2.out.size)))
      clear r3 k3
      by_cases he2 : e2 = 0
      · subst he2
        by_cases hT0 : T = []
        · subst hT0
          have hE : (bs []).toList.isEmpty = true := by rw [Lib.toList_data, bs_list]; rfl
          have ht := Lib.hid hT
          clear hT
          go_wp2_with fail
          go_ret2
          exact ⟨by rw [← HZ.out]; exact B3.out, .inr (.inr (.inr (.inl ⟨rfl, Hn.out, rfl, .inl rfl, rfl⟩)))⟩
        · have hE : (bs T).toList.isEmpty = false := by rw [Lib.toList_data, bs_list]; cases T with | nil => exact absurd rfl hT0 | cons a l => rfl
          have HT0 := Lib.hid hT0
          obtain ⟨m, hml⟩ : ∃ m, m = T.length := ⟨_, rfl⟩
          have hml' : (bs T).size = m := by rw [bs_size, hml]
          have hmb : m ≤ 9223372036854775807 := by rw [hml]; exact hT
          by_cases hm : T.length % 8 = 0
          · have HM := Lib.hid hm
            have hrem : (m : Int) % 8 = 0 := by omega
            have HML := Lib.hid hml
            clear hm hT0 hml hT
            go_wp2_with fail
            refine (h3.out w3 Z R3.out).mono ?_
            rintro e _ ⟨rfl, rfl⟩
            by_cases he3 : e3 = 0
            · subst he3
              obtain ⟨w5, cap, hcv, r5, k5, s5⟩ := conv_out w3 T m HML.out
              have K5 := Lib.hid k5
              have H5 := Lib.hid r5
              have S5 := Lib.hid s5
              clear k5 r5 s5
              have HN := Lib.hid (show ((n.toNat : Nat) : Int) = n by have := Hn.out; omega)
              go_wp2_with fail
              go_ret2
              obtain ⟨w6, hw6⟩ : ∃ w6, w6 = w5.alloc (.cells #[.int .i64 n, .slice (some ⟨w3.heap.size, 0, none⟩) m cap] 100) := ⟨_, rfl⟩
              have b6 : Below w5.heap.size w5 w6 := by rw [hw6]; exact (Below.refl _ _).alloc (Nat.le_refl _) _
              have hz3 : Z ≤ w3.heap.size := Nat.le_trans (by rw [HZ.out]; exact Nat.le_refl _) B3.out.size
              have bb : Below Z w w6 := (B3.out.trans (K5.out.mono hz3)).trans (b6.mono (Nat.le_trans hz3 K5.out.size))
              refine ⟨by rw [← HZ.out, ← hw6]; exact bb, .inr (.inr (.inr (.inr (.inr ⟨rfl, Hn.out, rfl, fun h => h.elim HT0.out (fun h => h HM.out), rfl, w5.heap.size, w3.heap.size, ?_, ?_, rfl, ?_⟩))))⟩
              · exact Nat.le_trans B3.out.size K5.out.size
              · exact B3.out.size
              · rw [← hw6]
                have hcell : ∀ j v, (#[Value.int .i64 n, .slice (some ⟨w3.heap.size, 0, none⟩) m cap] : Array Value)[j]? = some v → w6.cell? ⟨w5.heap.size, j, none⟩ = some v := fun j v hv => by rw [hw6, World.cell?_alloc_mark]; exact hv
                refine ⟨hcell 0 _ (by rw [HN.out]; rfl), ⟨cap, hcell 1 _ (by rw [← HML.out]; rfl)⟩, H5.out.keep b6 H5.out.1, by rw [hw6]; simp⟩
            · have hb : (e3 == 0) = false := beq_eq_false_iff_ne.2 he3
              have He3 := Lib.hid he3
              clear he3
              go_wp2_with fail
              go_ret2
              exact ⟨by rw [← HZ.out]; exact B3.out, .inr (.inr (.inr (.inr (.inl ⟨rfl, Hn.out, rfl, fun h => h.elim HT0.out (fun h => h HM.out), He3.out, rfl⟩))))⟩
          · have HM := Lib.hid hm
            have hrem : ((m : Int) % 8 != 0) = true := by rw [bne_iff_ne]; omega
            have HML := Lib.hid hml
            clear hm hT0 hml hT
            go_wp2_with fail
            go_ret2
            exact ⟨by rw [← HZ.out]; exact B3.out, .inr (.inr (.inr (.inl ⟨rfl, Hn.out, rfl, .inr HM.out, rfl⟩)))⟩
      · have hb : (e2 == 0) = false := beq_eq_false_iff_ne.2 he2
        have He2 := Lib.hid he2
        clear he2
        go_wp2_with fail
        go_ret2
        exact ⟨by rw [← HZ.out]; exact B3.out, .inr (.inr (.inl ⟨rfl, Hn.out, He2.out, rfl⟩))⟩
  · have hb : (e1 == 0) = false := beq_eq_false_iff_ne.2 he1
    have He1 := Lib.hid he1
    clear he1
    go_wp2_with fail
    go_ret2
    exact ⟨by rw [← HZ.out]; exact B2.out, .inl ⟨He1.out, rfl⟩⟩

theorem flt_Open (s : ByteArray) (w : World) (hs : s.size ≤ maxLen) : Calls Tryd.prog 57 #[.string s] w (OpenPost s.data.toList w) := by
  obtain ⟨l, hl⟩ : ∃ l, l = s.data.toList := ⟨_, rfl⟩
  have hlen : l.length = s.size := by rw [hl, ← Lib.size_eq]
  obtain ⟨S1, hS1⟩ : ∃ S1, S1 = s.extract (ck l) s.size := ⟨_, rfl⟩
  have e1 : S1.data.toList = openL l := by rw [hS1, extract_rest, ← hl]; rfl
  have z1 : S1.size ≤ maxLen := by rw [hS1, extract_size]; omega
  obtain ⟨S2, hS2⟩ : ∃ S2, S2 = S1.extract (tk (openL l)) S1.size := ⟨_, rfl⟩
  have e2 : S2.data.toList = (openL l).drop (tk (openL l)) := by rw [hS2, extract_rest, e1]
  have c1 := fun w' r (h : Rt r s w') => six_ReadCount r s w' h hs
  have c2 := fun w' r (h : Rt r S1 w') => six_ReadText r S1 w' h z1
  have c3 := fun w' r (h : Rt r S2 w') => six_End r S2 w' h
  rw [← hl, ← hS1] at c1
  rw [e1, ← hS2] at c2
  rw [e2] at c3
  have l1 : (openL l).length ≤ l.length := by unfold openL; simp
  have hts : (ts (openL l)).length ≤ (openL l).length := by
    rcases td_cases (openL l) with ⟨_, _, _, h4, _, _, h7⟩ | ⟨_, h2, _⟩
    · rw [h7]; simp; omega
    · rw [h2]; simp
  have hm : maxLen = 9223372036854775807 := rfl
  refine (open_core s S1 S2 (ts (openL l)) (cn l) (ce l) (te (openL l)) (endE ((openL l).drop (tk (openL l)))) w (Lib.hid c1) (Lib.hid c2) (Lib.hid c3) (by omega)).mono ?_
  rw [← hl]
  rintro e w' ⟨hb, h⟩
  refine ⟨hb, ?_⟩
  have hend : te (openL l) = 0 → (endE ((openL l).drop (tk (openL l))) = 0 ↔ (openL l).length = tk (openL l)) := by
    intro ht
    have htk : tk (openL l) ≤ (openL l).length := by
      rcases td_cases (openL l) with ⟨_, _, _, h4, _, h6, _⟩ | ⟨h1, _⟩
      · omega
      · omega
    unfold endE
    split
    · rename_i h0
      have := congrArg List.length h0
      simp at this
      simp
      omega
    · rename_i h0
      have : ¬ ((openL l).length = tk (openL l)) := fun h1 => h0 (by rw [List.drop_eq_nil_iff]; omega)
      simp [this]
  rcases h with ⟨a1, a2⟩ | ⟨a1, a2, a3⟩ | ⟨a1, a2, a3, a4⟩ | ⟨a1, a2, a3, a4, a5⟩ | ⟨a1, a2, a3, a4, a5, a6⟩ | ⟨a1, a2, a3, a4, a5, a6⟩
  · have : openE l = ce l := by unfold openE; rw [if_pos a1]
    exact .inl ⟨by rw [this]; exact a1, by rw [this]; exact a2⟩
  · have : openE l = 3 := by unfold openE; rw [if_neg (by omega), if_pos a2]
    exact .inl ⟨by rw [this]; decide, by rw [this]; exact a3⟩
  · have : openE l = te (openL l) := by unfold openE; rw [if_neg (by omega), if_neg a2, if_pos a3]
    exact .inl ⟨by rw [this]; exact a3, by rw [this]; exact a4⟩
  · have : openE l = 3 := by unfold openE; rw [if_neg (by omega), if_neg a2, if_neg (by omega), if_pos a4]
    exact .inl ⟨by rw [this]; decide, by rw [this]; exact a5⟩
  · have hne : ¬ ((openL l).length = tk (openL l)) := fun h => a5 ((hend a3).2 h)
    have he5 : endE ((openL l).drop (tk (openL l))) = 5 := by
      unfold endE at a5 ⊢
      split
      · rename_i h0; rw [if_pos h0] at a5; exact absurd rfl a5
      · rfl
    have : openE l = 5 := by unfold openE; rw [if_neg (by omega), if_neg a2, if_neg (by omega), if_neg a4, if_pos hne]
    exact .inl ⟨by rw [this]; decide, by rw [this, a6, he5]⟩
  · have : openE l = 0 := by unfold openE; rw [if_neg (by omega), if_neg a2, if_neg (by omega), if_neg a4, if_neg (by rw [(hend a3).1 a5]; simp)]
    exact .inr ⟨this, a6⟩
end Go.Proofs.YteejldddgogbkaaDoor
/- Rows of entries of the call's own: what stands in them, one entry overwritten, one more. -/
set_option linter.unusedVariables false
set_option maxRecDepth 100000
set_option maxRecDepth 100000
namespace Go.Proofs.YteejldddgogbkaaDoor
open Go.RowKit

def ecells (R : List Ent) : List Value := R.flatMap Ent.vals
theorem ecells_len : ∀ R : List Ent, (ecells R).length = R.length * 3
  | [] => rfl
  | x :: R => by
    show (x.vals ++ ecells R).length = _
    rw [List.length_append, ecells_len R]
    simp [Ent.vals]
    omega
theorem ecells_append (R S : List Ent) : ecells (R ++ S) = ecells R ++ ecells S := List.flatMap_append
theorem ecells_at : ∀ (R : List Ent) (i q : Nat) (x : Ent), q < 3 → R[i]? = some x → (ecells R)[i * 3 + q]? = x.vals[q]?
  | [], i, q, x, _, h => by cases h
  | z :: R, 0, q, x, hq, h => by
    injection h with h
    subst h
    show (z.vals ++ ecells R)[0 * 3 + q]? = _
    rw [List.getElem?_append_left (by simp [Ent.vals]; omega)]
    simp
  | z :: R, i + 1, q, x, hq, h => by
    show (z.vals ++ ecells R)[(i + 1) * 3 + q]? = _
    rw [List.getElem?_append_right (by simp [Ent.vals]; omega), ← ecells_at R i q x hq h]
    congr 1
    simp [Ent.vals]
    omega
/-- A row of entries of the call's own. -/
def OwnE (w : World) (B : Nat) (v : Value) (R : List Ent) : Prop := OffRow w B 38 3 v R.length (ecells R)
theorem OwnE.ent {w : World} {B : Nat} {a : Option Addr} {n cap : Nat} {R : List Ent} (h : OwnE w B (.slice a n cap) R) {k : Nat} {x : Ent} (hx : R[k]? = some x) :
    ∃ g off, a = some ⟨g, off, none⟩ ∧ B ≤ g ∧ CellE g (off + k * 3) x w := by
  have hk : k < R.length := (List.getElem?_eq_some_iff.1 hx).1
  obtain ⟨g, off, cp, cur, e1, hB, hg, hc⟩ := OffRow.form h (by omega)
  injection e1 with e1 _ _
  have hq := fun q (hq : q < 3) => (hc (k * 3 + q) (by omega)).trans (ecells_at R k q x hq hx)
  exact ⟨g, off, e1, hB, heap_lt hg, hq 0 (by omega), by have := hq 1 (by omega); rwa [← Nat.add_assoc] at this, by have := hq 2 (by omega); rwa [← Nat.add_assoc] at this⟩
theorem OwnE.is {w : World} {B : Nat} {a : Option Addr} {n cap : Nat} {R : List Ent} (h : OwnE w B (.slice a n cap) R) (hn : n = R.length) : IsE w a n R := by
  cases R with
  | nil => subst hn; exact IsE.nil _ _
  | cons y R =>
    obtain ⟨g, off, ha, _, _⟩ := h.ent (k := 0) (x := y) rfl
    refine ⟨hn, g, off, .inr ha, fun k hk => ?_⟩
    obtain ⟨g', off', ha', _, hc⟩ := h.ent (List.getElem?_eq_getElem hk)
    rw [ha] at ha'
    injection ha' with ha'
    injection ha' with e1 e2
    rw [e1, e2]
    exact hc
theorem OwnE.below {w w' : World} {B : Nat} {v : Value} {R : List Ent} (h : OwnE w B v R) (k : Below w.heap.size w w') : OwnE w' B v R := OffRow.kept h fun j hj => k.block j (OffRow.lt h j hj).2
theorem OwnE.len_cap {w : World} {B : Nat} {a : Option Addr} {n cap : Nat} {R : List Ent} (h : OwnE w B (.slice a n cap) R) : R.length ≤ cap := by
  rcases h.2 with ⟨h1, h2⟩ | ⟨g, off, c, cur, h1, _, _, h3, _⟩
  · omega
  · injection h1 with _ _ h1
    rw [h1]; exact h3
theorem OwnE.nil (w : World) (B : Nat) : OwnE w B (.slice none 0 0) [] := OffRow.nil _ _ _ _
theorem OwnE.slice {w : World} {B : Nat} {v : Value} {R : List Ent} (h : OwnE w B v R) : ∃ a cap, v = .slice a R.length cap := OffRow.slice h
/-- Where an entry stands it may be overwritten. -/
theorem OwnE.room {w : World} {B : Nat} {g off n cap : Nat} {R : List Ent} (h : OwnE w B (.slice (some ⟨g, off, none⟩) n cap) R) : (∃ cur, w.heap[g]? = some (.cells cur 38 (0, 0))) ∧ ∀ j, w.frozen? ⟨g, j, none⟩ = false := by
  obtain ⟨cur, hc⟩ := OffRow.tag h (k := g) rfl
  exact ⟨⟨cur, hc⟩, fun j => by simp [World.frozen?, hc]⟩
theorem OwnE.set {w : World} {B : Nat} {g off n cap : Nat} {R : List Ent} (h : OwnE w B (.slice (some ⟨g, off, none⟩) n cap) R) {k : Nat} (hk : k < R.length) (x : Ent) :
    OwnE (((w.setCell ⟨g, off + k * 3, none⟩ (.string (bs x.key))).setCell ⟨g, off + k * 3 + 1, none⟩ (.string (bs x.val))).setCell ⟨g, off + k * 3 + 2, none⟩ (.bool x.gone)) B (.slice (some ⟨g, off, none⟩) n cap) (R.set k x) := by
  rcases OffRow.form h (by omega) with ⟨g', off', cp, cur, e1, hB, hg, hc⟩
  rcases h.2 with ⟨h0, _⟩ | ⟨g2, off2, cap2, cur2, h0, hB2, hg2, h1, h2, h3, h4⟩
  · cases h0
  · injection h0 with e2 e3 e4
    injection e2 with e2
    injection e2 with e2 e5
    subst e2 e4 e5
    have s1 := heap_set (o := off + k * 3) hg2 (.string (bs x.key))
    have s2 := heap_set (o := off + k * 3 + 1) s1 (.string (bs x.val))
    have s3 := heap_set (o := off + k * 3 + 2) s2 (.bool x.gone)
    have hle : k * 3 + 3 ≤ cap * 3 := by omega
    refine ⟨by rw [ecells_len], .inr ⟨g, off, cap, _, by rw [List.length_set, e3], hB2, s3, by rw [List.length_set]; exact h1, h2, by simp only [Array.size_setIfInBounds]; exact h3, fun j hj => ?_⟩⟩
    rw [List.length_set] at hj
    obtain ⟨i, q, hq, rfl⟩ : ∃ i q, q < 3 ∧ j = i * 3 + q := ⟨j / 3, j % 3, by omega, by omega⟩
    have hi : i < R.length := by omega
    obtain ⟨y, hy⟩ : ∃ y, (R.set k x)[i]? = some y := ⟨_, List.getElem?_eq_getElem (by rw [List.length_set]; exact hi)⟩
    rw [ecells_at (R.set k x) i q y hq hy]
    simp only [Array.getElem?_setIfInBounds, Array.size_setIfInBounds]
    by_cases hik : i = k
    · subst hik
      rw [List.getElem?_set_self hk] at hy
      injection hy with hy
      subst hy
      match q, hq with
      | 0, _ => rw [if_neg (by omega), if_neg (by omega), if_pos (by omega), if_pos (by omega)]; rfl
      | 1, _ => rw [if_neg (by omega), if_pos (by omega), if_pos (by omega)]; rfl
      | 2, _ => rw [if_pos (by omega), if_pos (by omega)]; rfl
    · rw [List.getElem?_set_ne (Ne.symm hik)] at hy
      rw [if_neg (by omega), if_neg (by omega), if_neg (by omega), h4 _ hj, ecells_at R i q y hq hy]
theorem below_put3 {B g : Nat} {a w : World} (h : Below B a w) (hB : B ≤ g) (o1 o2 o3 : Nat) (v1 v2 v3 : Value) : Below B a (((w.setCell ⟨g, o1, none⟩ v1).setCell ⟨g, o2, none⟩ v2).setCell ⟨g, o3, none⟩ v3) :=
  ((h.setCell (p := ⟨g, o1, none⟩) hB v1).setCell (p := ⟨g, o2, none⟩) hB v2).setCell (p := ⟨g, o3, none⟩) hB v3
/-- The place is the first one that isn't below. -/
theorem place_first {key : List UInt8} : ∀ {R : List Ent} {p : Nat}, p ≤ R.length → (∀ j y, j < p → R[j]? = some y → ltB y.key key = true) → (∀ y, R[p]? = some y → ltB y.key key = false) → place key R = p
  | [], p, h, _, _ => by simp at h; subst h; rfl
  | z :: R, 0, _, _, h => by rw [place_cons, h z rfl]; rfl
  | z :: R, p + 1, hp, h1, h2 => by
    rw [place_cons, h1 0 z (by omega) rfl, if_pos rfl, place_first (by simpa using hp) (fun j y hj hy => h1 (j + 1) y (by omega) hy) (fun y hy => h2 y hy)]
/-- One entry moved up. -/
theorem shift_step {R : List Ent} {z y : Ent} {k : Nat} (hk : 0 < k) (hkl : k ≤ R.length) (hy : R[k - 1]? = some y) : ((R ++ [z]).take (k + 1) ++ R.drop k).set k y = (R ++ [z]).take k ++ R.drop (k - 1) := by
  apply List.ext_getElem?
  intro j
  have hl : ((R ++ [z]).take (k + 1)).length = k + 1 := by simp; omega
  have hl2 : ((R ++ [z]).take k).length = k := by simp; omega
  rw [List.getElem?_set]
  by_cases hj : k = j
  · subst hj
    rw [if_pos rfl, if_pos (by rw [List.length_append, hl]; omega), List.getElem?_append_right (by omega), hl2, Nat.sub_self, List.getElem?_drop, Nat.add_zero, hy]
  · rw [if_neg hj]
    rcases Nat.lt_or_ge j k with h | h
    · rw [List.getElem?_append_left (by omega), List.getElem?_append_left (by omega), List.getElem?_take, List.getElem?_take, if_pos (by omega), if_pos h]
    · rw [List.getElem?_append_right (by omega), List.getElem?_append_right (by omega), hl, hl2, List.getElem?_drop, List.getElem?_drop]
      congr 1
      omega
theorem shift_end {R : List Ent} {z x : Ent} {k : Nat} (hkl : k ≤ R.length) : ((R ++ [z]).take (k + 1) ++ R.drop k).set k x = R.take k ++ x :: R.drop k := by
  apply List.ext_getElem?
  intro j
  have hl : ((R ++ [z]).take (k + 1)).length = k + 1 := by simp; omega
  have hl2 : (R.take k).length = k := by simp; omega
  rw [List.getElem?_set]
  by_cases hj : k = j
  · subst hj
    rw [if_pos rfl, if_pos (by rw [List.length_append, hl]; omega), List.getElem?_append_right (by omega), hl2, Nat.sub_self]
    rfl
  · rw [if_neg hj]
    rcases Nat.lt_or_ge j k with h | h
    · rw [List.getElem?_append_left (by omega), List.getElem?_append_left (by omega), List.getElem?_take, List.getElem?_take, if_pos (by omega), if_pos h, List.getElem?_append_left (by omega)]
    · rw [List.getElem?_append_right (by omega), List.getElem?_append_right (by omega), hl, hl2]
      obtain ⟨m, rfl⟩ : ∃ m, j = k + 1 + m := ⟨j - k - 1, by omega⟩
      rw [show k + 1 + m - (k + 1) = m by omega, show k + 1 + m - k = m + 1 by omega, List.getElem?_cons_succ]
end Go.Proofs.YteejldddgogbkaaDoor
/- The laws' look whether entries are alike. -/
set_option linter.unusedVariables false
set_option maxRecDepth 100000
set_option maxRecDepth 100000
namespace Go.Proofs.YteejldddgogbkaaDoor
open Go.RowKit

theorem ent_same (k v : ByteArray) (g : Bool) (w : World) : (binOp .neq 38 (.agg #[.string k, .string v, .bool g]) (.agg #[.string k, .string v, .bool g])).run Tryd.prog w = .ok (.bool false) w := by
  have u3 := Tryd.underlying9
  have a3 := Tryd.isAgg9
  have z3 := Tryd.sizeOf9
  have u4 := Tryd.underlying4
  have a4 := Tryd.isAgg4
  have z4 := Tryd.sizeOf4
  have hS : Tryd.prog.underlying 38 = some (.struct (Tryd.prog.fieldsOf 38)) := by kernel_rfl
  have hp : Tryd.prog.stoodInHeld 38 = false := by kernel_rfl
  rw [run_neq_struct, show (10000 : Nat) = 9999 + 1 from rfl, run_equalIn_agg w 9999 38 _ _ hS hp]
  simp only [Program.fieldsOf, Tryd.underlying38]
  go_simp
set_option maxHeartbeats 1000000 in
theorem ref_Same (a1 a2 : Option Addr) (len c1 c2 : Nat) (T : List Ent) (w : World) (h1 : Hid (IsE w a1 len T)) (h2 : Hid (IsE w a2 len T)) (hl : len ≤ 9223372036854775807) :
    Calls Tryd.prog 17 #[.slice a1 len c1, .slice a2 len c2] w fun e w' => e = .returned (.bool true) ∧ Below w.heap.size w w' := by
  go_enter Tryd.func17, Tryd.ntmps17
  go_wp2_with fail
  go_loopw [5] (fun vi wr => ∃ i : Nat, i ≤ len ∧ vi = .int .i64 i ∧ Hid (Below w.heap.size w wr)) (fun vi wr => len - (intOf vi).toNat)
  case atStart => exact ⟨0, by omega, rfl, Lib.hid (Below.refl _ _)⟩
  case round =>
    obtain ⟨i, hi, rfl, hB⟩ := hrel
    rcases Nat.lt_or_ge i len with hlt | hge
    · obtain ⟨b, off, x, rfl, hx, _, hc⟩ := (h1.out.below hB.out).at hlt
      obtain ⟨b2, off2, y, rfl, hy, _, hd⟩ := (h2.out.below hB.out).at hlt
      rw [hx] at hy
      injection hy with hy
      subst hy
      have c0 := hc.c0
      have c1 := hc.c1
      have c2 := hc.c2
      have d0 := hd.c0
      have d1 := hd.c1
      have d2 := hd.c2
      have hsame := ent_same (bs x.key) (bs x.val) x.gone
      generalize bs x.key = sk at *
      generalize bs x.val = sv at *
      generalize x.gone = sg at *
      clear hx hc hd
      go_wp2_with fail
      go_quiet (fail)
      go_wp2_with fail
      go_roundw
      case rel => exact ⟨i + 1, by omega, by go_num, Lib.hid (below_drewN hB.out _)⟩
      case measure => simp [intOf]; omega
    · obtain rfl : i = len := by omega
      go_wp2_with fail
      go_ret
      exact ⟨rfl, hB.out⟩
theorem ref_Same_nil (a1 : Option Addr) (len c1 : Nat) (w : World) (hl : len ≤ 9223372036854775807) : Calls Tryd.prog 17 #[.slice none 0 0, .slice none 0 0] w fun e w' => e = .returned (.bool true) ∧ Below w.heap.size w w' :=
  ref_Same none none 0 0 0 [] w (Lib.hid (IsE.nil _ _)) (Lib.hid (IsE.nil _ _)) (by omega)
end Go.Proofs.YteejldddgogbkaaDoor
/- The round numbers that the program's variable holds: what each row lists, and the world in which its initialiser lays them. -/
set_option linter.unusedVariables false
set_option maxRecDepth 100000
namespace Go.Proofs.YteejldddgogbkaaDoor
open Go.ChangeShapes Go.WideShapes Go.ChangeAt Go.RowKit

theorem own : ownKnob Tryd.prog.godebug = none := by kernel_rfl
theorem gNum : Tryd.prog.globalNamed "silo/sha.roundNumbers" = some 0 := by kernel_rfl
theorem gNumType : (Tryd.prog.globals[0]?).map (·.type) = some 158 := by kernel_rfl
theorem arr64w : Tryd.prog.underlying 158 = some (.array 64 122) := by kernel_rfl
theorem cells64w : Tryd.prog.cellsOf 158 = 64 := by kernel_rfl
theorem cells1w : Tryd.prog.cellsOf 122 = 1 := by kernel_rfl
def numsI : List Int := [1116352408, 1899447441, 3049323471, 3921009573, 961987163, 1508970993, 2453635748, 2870763221, 3624381080, 310598401, 607225278, 1426881987, 1925078388, 2162078206, 2614888103, 3248222580, 3835390401, 4022224774, 264347078, 604807628, 770255983, 1249150122, 1555081692, 1996064986, 2554220882, 2821834349, 2952996808, 3210313671, 3336571891, 3584528711, 113926993, 338241895, 666307205, 773529912, 1294757372, 1396182291, 1695183700, 1986661051, 2177026350, 2456956037, 2730485921, 2820302411, 3259730800, 3345764771, 3516065817, 3600352804, 4094571909, 275423344, 430227734, 506948616, 659060556, 883997877, 958139571, 1322822218, 1537002063, 1747873779, 1955562222, 2024104815, 2227730452, 2361852424, 2428436474, 2756734187, 3204031479, 3329325298]
theorem numsI_at (j : Nat) (h : j < 64) : numsI.getD j 0 = ((numbers.getD j 0 : Nat) : Int) := by
  have : ∀ j, j < 64 → numsI.getD j 0 = ((numbers.getD j 0 : Nat) : Int) := by decide +kernel
  exact this j h

/-- WHAT THE ROWS' LIST GIVES. -/
theorem glob_of {W : World} (h : laidMetH Tryd.prog [("silo/sha.roundNumbers", Rows.laid_silo_sha_roundNumbers)] W) : Glob W := by
  have ht : Lib.TabIs Tryd.prog W "silo/sha.roundNumbers" .u32 numsI :=
    Lib.tabIs_of_head (rest := []) gNum gNumType arr64w Tryd.underlying122 cells1w cells64w h
  have hc : ∀ j, j < 64 → W.cell? ⟨0, j, none⟩ = some (.int .u32 ((numbers.getD j 0 : Nat) : Int)) := fun j hj => by
    have := ht.cell gNum j (by exact hj)
    rw [this, ← numsI_at j hj]
  refine ⟨World.block_lt_of_cell? W ⟨0, 0, none⟩ (hc 0 (by decide)), hc⟩

/-- A WORLD FOR THE WITNESS: the settled one, the variable (block 0) holding what its initialiser lays. -/
noncomputable def laidWorld (os : Os) : World :=
  { World.holding Tryd.prog os ⟨#[], #[], []⟩ with heap := (World.holding Tryd.prog os ⟨#[], #[], []⟩).heap.modify 0 fun
      | .cells _ t frozen => .cells (numsI.map fun z => Value.int .u32 z).toArray t frozen
      | o => o }

end Go.Proofs.YteejldddgogbkaaDoor
/- Tables in plain words. -/
set_option linter.unusedVariables false
set_option maxRecDepth 100000
namespace Go.Proofs.YteejldddgogbkaaDoor
open Go.RowKit

def crcd (l : List UInt8) : List UInt8 := l ++ four (sumL l)
/-- A block's bytes. -/
def blkB (T : List Ent) : List UInt8 := crcd (listB T)
theorem blkB_eq (T : List Ent) : listB T ++ four (sumL (listB T)) = blkB T := by unfold blkB crcd; rfl
theorem crcd_len (l : List UInt8) : (crcd l).length = l.length + 4 := by unfold crcd; rw [List.length_append, four_len]
theorem blkB_len {T : List Ent} (hs : smallE T) (hl : T.length ≤ 65536) : (blkB T).length ≤ T.length * 140000 + 15 := by
  unfold blkB listB
  rw [crcd_len, List.length_append]
  have h0 := (whole_len (n := ((T.length : Nat) : Int)) (by omega) (by omega)).1
  have h1 := entsB_len T [] hs
  omega
theorem blkB_pos (T : List Ent) : 4 ≤ (blkB T).length := by unfold blkB; rw [crcd_len]; omega

/-- Entries in parts of k. -/
def parts : Nat → Nat → List Ent → List (List Ent)
  | 0, _, _ => []
  | f + 1, k, T => if T.isEmpty then [] else T.take k :: parts f k (T.drop k)
def chunks (k : Nat) (T : List Ent) : List (List Ent) := parts T.length k T
def last1 (P : List Ent) : List (List Ent) := if P.isEmpty then [] else [P]
theorem parts_of {k : Nat} (hk : 0 < k) : ∀ (C : List (List Ent)) (P : List Ent) (f : Nat), (∀ c ∈ C, c.length = k) → P.length ≤ k → (C.flatten ++ P).length ≤ f → parts f k (C.flatten ++ P) = C ++ last1 P
  | [], P, f, _, hP, hf => by
    simp only [List.flatten_nil, List.nil_append] at hf ⊢
    unfold last1
    cases f with
    | zero =>
      obtain rfl : P = [] := List.eq_nil_of_length_eq_zero (by omega)
      rfl
    | succ f =>
      unfold parts
      cases P with
      | nil => rfl
      | cons x P =>
        simp only [List.isEmpty_cons, Bool.false_eq_true, if_false]
        rw [List.take_of_length_le hP, List.drop_eq_nil_of_le hP]
        cases f <;> rfl
  | c :: C, P, f, hC, hP, hf => by
    have hc : c.length = k := hC c (by simp)
    rw [List.flatten_cons, List.append_assoc] at hf ⊢
    rw [List.length_append] at hf
    cases f with
    | zero => omega
    | succ f =>
      unfold parts
      rw [if_neg (by cases c with
        | nil => simp at hc; omega
        | cons x c => simp)]
      rw [← hc, List.take_left, List.drop_left, hc, parts_of hk C P f (fun d hd => hC d (List.mem_cons_of_mem _ hd)) hP (by omega)]
      rfl
theorem chunks_of {k : Nat} (hk : 0 < k) {C : List (List Ent)} {P : List Ent} (hC : ∀ c ∈ C, c.length = k) (hP : P.length ≤ k) : chunks k (C.flatten ++ P) = C ++ last1 P := parts_of hk C P _ hC hP (Nat.le_refl _)

def keyE : List Ent → List UInt8
  | [] => []
  | x :: _ => x.key
def idxE (n : Nat) (c : List Ent) : Ent := ⟨keyE c, whole (n : Int) ++ whole ((blkB c).length : Int), false⟩
def idxs : Nat → List (List Ent) → List Ent
  | _, [] => []
  | n, c :: C => idxE n c :: idxs (n + (blkB c).length) C
def blksB (C : List (List Ent)) : List UInt8 := C.flatMap blkB
theorem blksB_snoc (C : List (List Ent)) (c : List Ent) : blksB (C ++ [c]) = blksB C ++ blkB c := by simp [blksB]
theorem idxs_snoc : ∀ (C : List (List Ent)) (c : List Ent) (n : Nat), idxs n (C ++ [c]) = idxs n C ++ [idxE (n + (blksB C).length) c]
  | [], c, n => by simp [idxs, blksB]
  | d :: C, c, n => by
    simp only [List.cons_append, idxs]
    rw [idxs_snoc C c]
    simp only [blksB, List.flatMap_cons, List.length_append, Nat.add_assoc]
theorem idxs_len : ∀ (C : List (List Ent)) (n : Nat), (idxs n C).length = C.length
  | [], _ => rfl
  | _ :: C, n => by simp [idxs, idxs_len C]
/-- How long blocks and their places are. -/
theorem blks_len : ∀ (C : List (List Ent)), (∀ c ∈ C, smallE c ∧ 1 ≤ c.length ∧ c.length ≤ 65536) → (blksB C).length ≤ C.flatten.length * 140015 ∧ C.length ≤ C.flatten.length
  | [], _ => by simp [blksB]
  | c :: C, h => by
    have hc := h c (by simp)
    have hC := blks_len C (fun d hd => h d (List.mem_cons_of_mem _ hd))
    have h1 := blkB_len hc.1 hc.2.2
    simp only [blksB, List.flatMap_cons, List.length_append, List.flatten_cons, List.length_cons] at hC ⊢
    rw [Nat.add_mul]
    omega
theorem idxE_small {n : Nat} {c : List Ent} (hc : smallE c) (hl : c.length ≤ 65536) (hn : n ≤ 9223372036854775807) : (idxE n c).key.length ≤ 65536 ∧ (idxE n c).val.length ≤ 65536 := by
  constructor
  · cases c with
    | nil => simp [idxE, keyE]
    | cons x c => exact (hc x (by simp)).1
  · have h1 := blkB_len hc hl
    have a := (whole_len (n := (n : Int)) (by omega) (by omega)).1
    have b := (whole_len (n := ((blkB c).length : Int)) (by omega) (by omega)).1
    show (whole (n : Int) ++ whole ((blkB c).length : Int)).length ≤ 65536
    rw [List.length_append]
    omega
theorem smallE.snoc {T : List Ent} {x : Ent} (h : smallE T) (hx : x.key.length ≤ 65536 ∧ x.val.length ≤ 65536) : smallE (T ++ [x]) := fun y hy => by
  rcases List.mem_append.1 hy with hy | hy
  · exact h y hy
  · rw [List.mem_singleton.1 hy]; exact hx
theorem idxs_small : ∀ (C : List (List Ent)) (n : Nat), (∀ c ∈ C, smallE c ∧ 1 ≤ c.length ∧ c.length ≤ 65536) → n + (blksB C).length ≤ 9223372036854775807 → smallE (idxs n C)
  | [], _, _, _ => fun x hx => by simp [idxs] at hx
  | c :: C, n, h, hn => by
    have hb : (blksB (c :: C)).length = (blkB c).length + (blksB C).length := by simp [blksB]
    intro x hx
    rcases List.mem_cons.1 hx with hx | hx
    · rw [hx]; exact idxE_small (h c (by simp)).1 (h c (by simp)).2.2 (by omega)
    · exact idxs_small C _ (fun d hd => h d (List.mem_cons_of_mem _ hd)) (by omega) x hx
/-- The filter's bytes, the foot, a table's bytes. -/
def filB (per : Nat) (T : List Ent) : List UInt8 := packF (hashesOf per) (bytesOf (made (hashesOf per) (wordsOf per T.length * 64) (T.map (·.key))) (wordsOf per T.length * 8))
theorem filB_len {per : Nat} {T : List Ent} (h3 : 1 ≤ per) (h4 : per ≤ 32) (hl : T.length ≤ 65536) : (filB per T).length ≤ 300000 := by
  have hw : wordsOf per T.length ≤ 32769 := by
    have := Nat.mul_le_mul h4 hl
    unfold wordsOf
    omega
  have hh := hashesOf_le per
  unfold filB packF text
  rw [List.length_append, List.length_append, bytesOf_len]
  have a := (whole_len (n := ((hashesOf per : Nat) : Int)) (by omega) (by omega)).1
  have b := (whole_len (n := ((wordsOf per T.length * 8 : Nat) : Int)) (by omega) (by omega)).1
  omega
def footB (a b n : Nat) : List UInt8 := four a ++ four b ++ four n
def tabC (C : List (List Ent)) (per : Nat) (T : List Ent) : List UInt8 :=
  blksB C ++ blkB (idxs 0 C) ++ crcd (filB per T) ++ crcd (footB (blksB C).length ((blksB C).length + (blkB (idxs 0 C)).length) T.length)
def tabB (each per : Nat) (T : List Ent) : List UInt8 := tabC (chunks each T) per T

/-- Where building stands: C are the whole parts, P is the one under way. -/
structure Cut (k : Nat) (T : List Ent) (i : Nat) (C : List (List Ent)) (P : List Ent) : Prop where
  all : C.flatten ++ P = T.take i
  each : i < T.length → ∀ c ∈ C, c.length = k
  few : P.length < k
  done : i = T.length → P = [] ∧ C = chunks k T
  ok : ∀ c ∈ C, 1 ≤ c.length ∧ c.length ≤ k
theorem Cut.start {k : Nat} (hk : 0 < k) (T : List Ent) : Cut k T 0 [] [] where
  all := by simp
  each := fun _ c hc => by simp at hc
  few := by simpa using hk
  done := fun h => ⟨rfl, by rw [List.eq_nil_of_length_eq_zero h.symm]; rfl⟩
  ok := fun c hc => by simp at hc
/-- One more, and the part is not full. -/
theorem Cut.more {k i : Nat} {T : List Ent} {C : List (List Ent)} {P : List Ent} {x : Ent} (h : Cut k T i C P) (hx : T[i]? = some x) (hf : P.length + 1 ≠ k) (hl : i + 1 ≠ T.length) : Cut k T (i + 1) C (P ++ [x]) where
  all := by rw [take_ent hx, ← h.all, List.append_assoc]
  each := fun hi => h.each (by omega)
  few := by have := h.few; rw [List.length_append]; simp; omega
  done := fun e => absurd e hl
  ok := h.ok
/-- One more, and the part is full, or the last. -/
theorem Cut.full {k i : Nat} {T : List Ent} {C : List (List Ent)} {P : List Ent} {x : Ent} (h : Cut k T i C P) (hk : 0 < k) (hx : T[i]? = some x) (hf : P.length + 1 = k ∨ i + 1 = T.length) : Cut k T (i + 1) (C ++ [P ++ [x]]) [] where
  all := by rw [take_ent hx, ← h.all]; simp
  each := fun hi c hc => by
    rcases List.mem_append.1 hc with hc | hc
    · exact h.each (by omega) c hc
    · rw [List.mem_singleton.1 hc, List.length_append]
      rcases hf with hf | hf
      · simpa using hf
      · omega
  few := by simpa using hk
  done := fun e => ⟨rfl, by
    have hi : i < T.length := by omega
    have hP : (P ++ [x]).length ≤ k := by have := h.few; rw [List.length_append]; simp; omega
    have hT : C.flatten ++ (P ++ [x]) = T := by rw [← List.append_assoc, h.all, ← take_ent hx, e, List.take_length]
    have := chunks_of hk (h.each hi) hP
    rw [hT] at this
    rw [this]
    unfold last1
    rw [if_neg (by simp)]⟩
  ok := fun c hc => by
    rcases List.mem_append.1 hc with hc | hc
    · exact h.ok c hc
    · rw [List.mem_singleton.1 hc, List.length_append]
      have := h.few
      simp
      omega
theorem Cut.small {k i : Nat} {T : List Ent} {C : List (List Ent)} {P : List Ent} (h : Cut k T i C P) (hs : smallE T) : (∀ c ∈ C, smallE c) ∧ smallE P := by
  have hm : ∀ x, x ∈ C.flatten ++ P → x ∈ T := fun x hx => by rw [h.all] at hx; exact List.mem_of_mem_take hx
  exact ⟨fun c hc x hx => hs x (hm x (List.mem_append_left _ (List.mem_flatten.2 ⟨c, hc, hx⟩))), fun x hx => hs x (hm x (List.mem_append_right _ hx))⟩
theorem Cut.len {k i : Nat} {T : List Ent} {C : List (List Ent)} {P : List Ent} (h : Cut k T i C P) (hi : i ≤ T.length) : C.flatten.length + P.length = i := by
  rw [← List.length_append, h.all, List.length_take]; omega
end Go.Proofs.YteejldddgogbkaaDoor
/- How a table is told again, in plain words: the places of its blocks. -/
set_option linter.unusedVariables false
set_option maxRecDepth 100000
namespace Go.Proofs.YteejldddgogbkaaDoor
open Go.RowKit

/-- The places of the blocks that an index tells, n being where the next one must begin, a where they end. -/
def placesL (a : Nat) : Nat → List Ent → Int × List (Nat × Nat)
  | n, [] => if n = a then (0, []) else (3, [])
  | n, x :: X =>
    let v := x.val
    if ce v ≠ 0 then (ce v, []) else
    let r := v.drop (ck v)
    if ce r ≠ 0 then (ce r, []) else
    if ck v + ck r < v.length ∨ cn v ≠ (n : Int) ∨ cn r > (a : Int) - cn v then (3, []) else
    let p := placesL a (n + (cn r).toNat) X
    (p.1, if p.1 = 0 then (n, (cn r).toNat) :: p.2 else [])
def offs : Nat → List (List Ent) → List (Nat × Nat)
  | _, [] => []
  | n, c :: C => (n, (blkB c).length) :: offs (n + (blkB c).length) C
theorem offs_len : ∀ (C : List (List Ent)) (n : Nat), (offs n C).length = C.length
  | [], _ => rfl
  | _ :: C, n => by simp [offs, offs_len C]
theorem places_idxs {a : Nat} (ha : a ≤ 9223372036854775807) : ∀ (C : List (List Ent)) (n : Nat), n + (blksB C).length = a → placesL a n (idxs n C) = (0, offs n C)
  | [], n, h => by
    have : n = a := by simpa [blksB] using h
    simp [idxs, placesL, offs, this]
  | c :: C, n, h => by
    have hb : (blksB (c :: C)).length = (blkB c).length + (blksB C).length := by simp [blksB]
    have h1 := cd_whole (n := n) (by omega) (whole ((blkB c).length : Int))
    have h2 := cd_whole (n := (blkB c).length) (by omega) []
    rw [List.append_nil] at h2
    have ih := places_idxs ha C (n + (blkB c).length) (by omega)
    have hd : (whole (n : Int) ++ whole ((blkB c).length : Int)).drop (ck (whole (n : Int) ++ whole ((blkB c).length : Int))) = whole ((blkB c).length : Int) := by rw [h1.2.2, List.drop_left]
    have hv : (idxE n c).val = whole (n : Int) ++ whole ((blkB c).length : Int) := rfl
    unfold idxs placesL offs
    simp only [hv, hd, h1.1, h2.1, h1.2.1, h2.2.1, Int.toNat_natCast, ih]
    rw [if_neg (by simp), if_neg (by simp), if_neg (by rw [h1.2.2, h2.2.2, List.length_append]; omega)]
    simp
theorem chunks_flat {k : Nat} (hk : 0 < k) (T : List Ent) : ∃ (C : List (List Ent)) (P : List Ent), (∀ c ∈ C, c.length = k) ∧ P.length < k ∧ C.flatten ++ P = T ∧ chunks k T = C ++ last1 P := by
  have h : ∀ (n : Nat) (T : List Ent), T.length ≤ n → ∃ (C : List (List Ent)) (P : List Ent), (∀ c ∈ C, c.length = k) ∧ P.length < k ∧ C.flatten ++ P = T := by
    intro n
    induction n with
    | zero => intro T h; exact ⟨[], T, by simp, by omega, by simp⟩
    | succ n ih =>
      intro T h
      by_cases hT : T.length < k
      · exact ⟨[], T, by simp, hT, by simp⟩
      · obtain ⟨C, P, h1, h2, h3⟩ := ih (T.drop k) (by rw [List.length_drop]; omega)
        refine ⟨T.take k :: C, P, ?_, h2, ?_⟩
        · intro c hc
          rcases List.mem_cons.1 hc with hc | hc
          · rw [hc, List.length_take]; omega
          · exact h1 c hc
        · rw [List.flatten_cons, List.append_assoc, h3, List.take_append_drop]
  obtain ⟨C, P, h1, h2, h3⟩ := h T.length T (Nat.le_refl _)
  exact ⟨C, P, h1, h2, h3, by rw [← h3]; exact chunks_of hk h1 (by omega)⟩
/-- The parts of k: none is empty, together they are all. -/
theorem chunks_all {k : Nat} (hk : 0 < k) (T : List Ent) : (chunks k T).flatten = T ∧ ∀ c ∈ chunks k T, 1 ≤ c.length ∧ c.length ≤ k := by
  obtain ⟨C, P, h1, h2, h3, h4⟩ := chunks_flat hk T
  rw [h4]
  unfold last1
  cases P with
  | nil =>
    rw [if_pos (by rfl), List.append_nil]
    rw [List.append_nil] at h3
    exact ⟨h3, fun c hc => by rw [h1 c hc]; omega⟩
  | cons x P =>
    rw [if_neg (by simp)]
    refine ⟨by simpa using h3, fun c hc => ?_⟩
    rcases List.mem_append.1 hc with hc | hc
    · rw [h1 c hc]; omega
    · rw [List.mem_singleton.1 hc]
      simp at h2 ⊢
      omega
theorem rises_app : ∀ {A D : List Ent}, rises (A ++ D) → rises A ∧ rises D ∧ ∀ x ∈ A, ∀ y ∈ D, ltB x.key y.key = true
  | [], D, h => ⟨trivial, h, fun _ hx => by cases hx⟩
  | x :: A, D, ⟨h1, h2⟩ => by
    obtain ⟨a, b, c⟩ := rises_app h2
    refine ⟨⟨fun y hy => h1 y (List.mem_append_left _ hy), a⟩, b, fun z hz y hy => ?_⟩
    rcases List.mem_cons.1 hz with rfl | hz
    · exact h1 y (List.mem_append_right _ hy)
    · exact c z hz y hy
theorem keyE_mem {c : List Ent} (h : 1 ≤ c.length) : ∃ x ∈ c, keyE c = x.key := by
  cases c with
  | nil => simp at h
  | cons x c => exact ⟨x, by simp, rfl⟩
theorem idxs_mem : ∀ {C : List (List Ent)} {n : Nat} {x : Ent}, x ∈ idxs n C → ∃ c ∈ C, x.key = keyE c ∧ x.gone = false
  | [], _, _, h => by simp [idxs] at h
  | c :: C, n, x, h => by
    rcases List.mem_cons.1 h with h | h
    · exact ⟨c, by simp, by rw [h]; rfl, by rw [h]; rfl⟩
    · obtain ⟨d, hd, e⟩ := idxs_mem h
      exact ⟨d, by simp [hd], e⟩
theorem idxs_rises : ∀ (C : List (List Ent)) (n : Nat), rises C.flatten → (∀ c ∈ C, 1 ≤ c.length) → rises (idxs n C)
  | [], _, _, _ => trivial
  | c :: C, n, h, hc => by
    rw [List.flatten_cons] at h
    obtain ⟨a, b, d⟩ := rises_app h
    refine ⟨fun y hy => ?_, idxs_rises C _ b fun e he => hc e (by simp [he])⟩
    obtain ⟨e, he, hk, _⟩ := idxs_mem hy
    obtain ⟨x, hx, hkx⟩ := keyE_mem (hc c (by simp))
    obtain ⟨z, hz, hkz⟩ := keyE_mem (hc e (by simp [he]))
    show ltB (keyE c) y.key = true
    rw [hk, hkx, hkz]
    exact d x hx z (List.mem_flatten.2 ⟨e, he, hz⟩)
/-- An index of rising parts may be packed, and is opened as it was. -/
theorem idxs_ok {C : List (List Ent)} (h : rises C.flatten) (hs : ∀ c ∈ C, smallE c ∧ 1 ≤ c.length ∧ c.length ≤ 65536) (hl : C.length ≤ 65536) (hn : (blksB C).length ≤ 9223372036854775807) : chkE (idxs 0 C) = 0 := by
  refine (chkE_ok _).2 ⟨okEs_of_rises true [] (idxs_rises C 0 h fun c hc => (hs c hc).2.1) (fun x hx => ?_) (fun hf => by cases hf), by rw [idxs_len]; exact hl⟩
  have := idxs_small C 0 hs (by omega) x hx
  exact ⟨this.1, this.2, fun hg => by obtain ⟨_, _, _, e⟩ := idxs_mem hx; rw [e] at hg; cases hg⟩
theorem opnS_blk {T : List Ent} (h : chkE T = 0) : opnS (blkB T) = (0, T) := by
  have := opened_pack h
  unfold packB at this
  rw [if_pos h] at this
  exact this
end Go.Proofs.YteejldddgogbkaaDoor
/- A table opened, in plain words. -/
set_option linter.unusedVariables false
set_option maxRecDepth 100000
namespace Go.Proofs.YteejldddgogbkaaDoor
open Go.RowKit

def num4 : List UInt8 → Nat
  | a :: b :: c :: d :: _ => ((a.toNat * 256 + b.toNat) * 256 + c.toNat) * 256 + d.toNat
  | _ => 0
theorem num4_four {x : Nat} (h : x < 4294967296) (t : List UInt8) : num4 (four x ++ t) = x := by
  show ((((UInt8.ofNat (x / 16777216)).toNat * 256 + (UInt8.ofNat (x / 65536)).toNat) * 256 + (UInt8.ofNat (x / 256)).toNat) * 256 + (UInt8.ofNat x).toNat) = x
  simp only [UInt8.toNat_ofNat']
  omega
structure Tab where
  bytes : List UInt8
  index : List Ent
  places : List (Nat × Nat)
  h : Nat
  bits : List UInt8
  count : Nat
def noTab : Tab := ⟨[], [], [], 0, [], 0⟩
def openTab (s : List UInt8) : Int × Tab :=
  if s.length < 16 then (2, noTab) else
  let n := s.length - 16
  if takeE (s.drop n) ≠ 0 then (takeE (s.drop n), noTab) else
  let f := takeT (s.drop n)
  let a := num4 f
  let b := num4 (f.drop 4)
  if b < a ∨ n < b then (3, noTab) else
  let o := opnS ((s.take b).drop a)
  if o.1 ≠ 0 then (o.1, noTab) else
  let p := placesL a 0 o.2
  if p.1 ≠ 0 then (p.1, noTab) else
  let c := num4 (f.drop 8)
  if o.2.isEmpty = true ∧ 0 < c ∨ o.2.isEmpty = false ∧ c = 0 then (3, noTab) else
  if takeE ((s.take n).drop b) ≠ 0 then (takeE ((s.take n).drop b), noTab) else
  let q := takeT ((s.take n).drop b)
  if openE q ≠ 0 then (openE q, noTab) else
  (0, ⟨s, o.2, p.2, openH q, openT q, c⟩)
theorem take_crcd (l : List UInt8) : takeE (crcd l) = 0 ∧ takeT (crcd l) = l := take_put l
/-- A table that was built is opened as what it was built of. -/
theorem open_tab {each per : Nat} {T : List Ent} (h1 : 1 ≤ each) (h2 : each ≤ 256) (h3 : 1 ≤ per) (h4 : per ≤ 32) (hl : T.length ≤ 3001) (hT : chkE T = 0) :
    openTab (tabB each per T) = (0, ⟨tabB each per T, idxs 0 (chunks each T), offs 0 (chunks each T), hashesOf per, bytesOf (made (hashesOf per) (wordsOf per T.length * 64) (T.map (·.key))) (wordsOf per T.length * 8), T.length⟩) := by
  obtain ⟨hok, _⟩ := (chkE_ok T).1 hT
  have hsm := smallE_of hok
  have hr := (rises_of_okEs true [] hok).1
  obtain ⟨hfl, hcn⟩ := chunks_all (k := each) (by omega) T
  obtain ⟨C, hC⟩ : ∃ C, C = chunks each T := ⟨_, rfl⟩
  rw [← hC] at hfl hcn
  have hcs : ∀ c ∈ C, smallE c ∧ 1 ≤ c.length ∧ c.length ≤ 65536 := fun c hc => ⟨fun x hx => hsm x (by rw [← hfl]; exact List.mem_flatten.2 ⟨c, hc, hx⟩), (hcn c hc).1, by have := (hcn c hc).2; omega⟩
  have hbl := blks_len C hcs
  rw [hfl] at hbl
  have hix := idxs_ok (C := C) (by rw [hfl]; exact hr) hcs (by omega) (by omega)
  have hop := opnS_blk hix
  have hpl := places_idxs (a := (blksB C).length) (by omega) C 0 (by omega)
  have hxs := idxs_small C 0 hcs (by omega)
  have hYl := blkB_len hxs (by rw [idxs_len]; omega)
  rw [idxs_len] at hYl
  have hem : (idxs 0 C).isEmpty = T.isEmpty := by
    cases C with
    | nil => rw [← hfl]; rfl
    | cons c C =>
      have hc := hcs c (by simp)
      rw [← hfl]
      cases c with
      | nil => simp at hc
      | cons x c => rfl
  obtain ⟨F, hF⟩ : ∃ F, F = filB per T := ⟨_, rfl⟩
  have hw : 1 ≤ wordsOf per T.length := wordsOf_pos per T.length
  have hh8 := hashesOf_le per
  have hof := open_pack (h := hashesOf per) (L := bytesOf (made (hashesOf per) (wordsOf per T.length * 64) (T.map (·.key))) (wordsOf per T.length * 8)) hh8.1 hh8.2 (by
    intro h; have := congrArg List.length h; rw [bytesOf_len] at this; simp at this; omega) (by rw [bytesOf_len]; omega) (by
    rw [bytesOf_len]
    have := Nat.mul_le_mul h4 (show T.length ≤ 65536 by omega)
    unfold wordsOf
    omega)
  rw [show packF (hashesOf per) (bytesOf (made (hashesOf per) (wordsOf per T.length * 64) (T.map (·.key))) (wordsOf per T.length * 8)) = F from hF.symm] at hof
  have hfol : (filB per T).length ≤ 300000 := filB_len h3 h4 (by omega)
  rw [← hF] at hfol
  have htab : tabB each per T = blksB C ++ blkB (idxs 0 C) ++ crcd F ++ crcd (footB (blksB C).length ((blksB C).length + (blkB (idxs 0 C)).length) T.length) := by unfold tabB tabC; rw [← hC, ← hF]
  rw [htab]
  obtain ⟨X, hX⟩ : ∃ X, X = idxs 0 C := ⟨_, rfl⟩
  rw [← hX] at hop hpl hYl hem ⊢
  obtain ⟨S, hS⟩ : ∃ S, S = blksB C := ⟨_, rfl⟩
  rw [← hS] at hpl hbl ⊢
  obtain ⟨Y, hY⟩ : ∃ Y, Y = blkB X := ⟨_, rfl⟩
  rw [← hY] at hop hYl ⊢
  obtain ⟨E, hE⟩ : ∃ E, E = footB S.length (S.length + Y.length) T.length := ⟨_, rfl⟩
  have hEl : E.length = 12 := by rw [hE]; rfl
  have e0 : num4 E = S.length := by rw [hE]; unfold footB; rw [List.append_assoc]; exact num4_four (by omega) _
  have e1 : num4 (E.drop 4) = S.length + Y.length := by rw [hE]; exact num4_four (x := S.length + Y.length) (by omega) (four T.length)
  have e2 : num4 (E.drop 8) = T.length := by rw [hE]; have := num4_four (x := T.length) (by omega) []; rwa [List.append_nil] at this
  rw [← hE]
  obtain ⟨R, hR⟩ : ∃ R, R = S ++ Y ++ crcd F := ⟨_, rfl⟩
  have hlen : (S ++ Y ++ crcd F ++ crcd E).length = R.length + 16 := by rw [← hR, List.length_append, crcd_len, hEl]
  have d0 : (S ++ Y ++ crcd F ++ crcd E).drop R.length = crcd E := by rw [← hR, List.drop_left]
  have d1 : (S ++ Y ++ crcd F ++ crcd E).take R.length = R := by rw [← hR, List.take_left]
  have d2 : ((S ++ Y ++ crcd F ++ crcd E).take (S.length + Y.length)).drop S.length = Y := by
    rw [List.append_assoc (S ++ Y), ← List.length_append, List.take_left, List.drop_left]
  have d3 : R.drop (S.length + Y.length) = crcd F := by rw [hR, ← List.length_append, List.drop_left]
  have hRl : S.length + Y.length ≤ R.length := by rw [hR, List.length_append, List.length_append]; omega
  unfold openTab
  simp only [hlen, Nat.add_sub_cancel, d0, d1, (take_crcd E).1, (take_crcd E).2, e0, e1, e2, d2, d3, hop, hpl, (take_crcd F).1, (take_crcd F).2, hof.1, hof.2.1, hof.2.2, hem]
  rw [if_neg (by omega), if_neg (by simp), if_neg (by omega), if_neg (by simp), if_neg (by simp), if_neg (by
    cases T with
    | nil => simp
    | cons x T => simp), if_neg (by simp), if_neg (by simp)]
  rw [hX, hC]
end Go.Proofs.YteejldddgogbkaaDoor
/- A table's blocks, in plain words. -/
set_option linter.unusedVariables false
set_option maxRecDepth 100000
namespace Go.Proofs.YteejldddgogbkaaDoor
open Go.RowKit

/-- A block's entries, or the error. -/
def blockT (t : Tab) (i : Nat) : Int × List Ent :=
  let p := t.places.getD i (0, 0)
  let o := opnS ((t.bytes.drop p.1).take p.2)
  if o.1 ≠ 0 then (o.1, []) else
  if o.2.isEmpty = true ∨ keyE o.2 ≠ ((t.index.map (·.key)).getD i []) then (3, []) else (0, o.2)
theorem offs_at : ∀ (C : List (List Ent)) (n i : Nat) (c : List Ent), C[i]? = some c → (offs n C)[i]? = some (n + (blksB (C.take i)).length, (blkB c).length)
  | [], _, _, _, h => by simp at h
  | d :: C, n, 0, c, h => by
    injection h with h
    subst h
    simp [offs, blksB]
  | d :: C, n, i + 1, c, h => by
    have ih := offs_at C (n + (blkB d).length) i c (by simpa using h)
    simp only [offs, List.getElem?_cons_succ, ih, List.take_succ_cons]
    simp [blksB, Nat.add_assoc]
theorem idxs_at : ∀ (C : List (List Ent)) (n i : Nat) (c : List Ent), C[i]? = some c → ((idxs n C).map (·.key))[i]? = some (keyE c)
  | [], _, _, _, h => by simp at h
  | d :: C, n, 0, c, h => by
    injection h with h
    subst h
    simp [idxs, idxE]
  | d :: C, n, i + 1, c, h => by
    have ih := idxs_at C (n + (blkB d).length) i c (by simpa using h)
    simpa [idxs] using ih
theorem blks_at (R : List UInt8) : ∀ (C : List (List Ent)) (i : Nat) (c : List Ent), C[i]? = some c → ((blksB C ++ R).drop (blksB (C.take i)).length).take (blkB c).length = blkB c
  | [], _, _, h => by simp at h
  | d :: C, 0, c, h => by
    injection h with h
    subst h
    simp [blksB]
  | d :: C, i + 1, c, h => by
    have ih := blks_at R C i c (by simpa using h)
    have e1 : blksB (d :: C) ++ R = blkB d ++ (blksB C ++ R) := by simp [blksB]
    have e2 : (blksB ((d :: C).take (i + 1))).length = (blkB d).length + (blksB (C.take i)).length := by simp [blksB]
    rw [e1, e2, ← List.drop_drop, List.drop_left, ih]
/-- A block of a table that was built. -/
theorem block_built {C : List (List Ent)} {R : List UInt8} {h : Nat} {bits : List UInt8} {n i : Nat} {c : List Ent} (hr : okEs true [] C.flatten) (hcs : ∀ d ∈ C, 1 ≤ d.length ∧ d.length ≤ 65536) (hi : C[i]? = some c) :
    blockT ⟨blksB C ++ R, idxs 0 C, offs 0 C, h, bits, n⟩ i = (0, c) := by
  have hm : c ∈ C := List.mem_of_getElem? hi
  have hrs := (rises_of_okEs true [] hr).1
  have hsub : c.Sublist C.flatten := List.sublist_flatten_of_mem hm
  have hrc : rises c := by
    have : ∀ {D : List (List Ent)}, rises D.flatten → ∀ d ∈ D, rises d := by
      intro D
      induction D with
      | nil => intro _ d hd; cases hd
      | cons e D ih =>
        intro h d hd
        rw [List.flatten_cons] at h
        obtain ⟨a, b, _⟩ := rises_app h
        rcases List.mem_cons.1 hd with rfl | hd
        · exact a
        · exact ih b d hd
    exact this hrs c hm
  have hall : ∀ {f : Bool} {l : List UInt8} {T : List Ent}, okEs f l T → ∀ x ∈ T, x.key.length ≤ 65536 ∧ x.val.length ≤ 65536 ∧ (x.gone = true → x.val = []) := by
    intro f l T
    induction T generalizing f l with
    | nil => intro _ x hx; cases hx
    | cons y T ih =>
      intro h x hx
      rcases List.mem_cons.1 hx with rfl | hx
      · exact ⟨h.1.1, h.1.2.1, h.1.2.2.1⟩
      · exact ih h.2 x hx
  have hck : chkE c = 0 := (chkE_ok c).2 ⟨okEs_of_rises true [] hrc (fun x hx => hall hr x (hsub.subset hx)) (fun hf => by cases hf), (hcs c hm).2⟩
  have h1 := offs_at C 0 i c hi
  have h2 := idxs_at C 0 i c hi
  have h3 := blks_at R C i c hi
  unfold blockT
  simp only [List.getD_eq_getElem?_getD, h1, h2, Option.getD_some, Nat.zero_add, h3, opnS_blk hck]
  rw [if_neg (by simp), if_neg (by
    have := (hcs c hm).1
    cases c with
    | nil => simp at this
    | cons x c => simp)]
end Go.Proofs.YteejldddgogbkaaDoor
