/- Texts for layer 9, put together: BloomPack, BlockOwn, BlockSame, BlockRise, BlockIn -/
import Derived.Test.YteejldddgogbkaaDoorTSca11
import Derived.Test.YteejldddgogbkaaDoorTSca10
import Derived.Test.YteejldddgogbkaaDoorTSca02
import Derived.Laws.StructEq
import Derived.Deep.Slices
import Derived.Deep.Fields
import Derived.ChangeSame
/- Pack and Open: a filter's bytes; the filter with these bytes. -/
set_option linter.unusedVariables false
set_option maxRecDepth 100000
set_option maxRecDepth 100000
namespace Go.Proofs.YteejldddgogbkaaDoor
open Go.RowKit

/-- Bytes as a string, and back. -/
theorem conv_back (w : World) (B : Nat) (L : List UInt8) (n cap : Nat) (hn : n = L.length) (h : Row8 B L w) : (convert 45 9 (.slice (some ⟨B, 0, none⟩) n cap)).run Tryd.prog w = .ok (.string (bs L)) w := by
  subst hn
  refine run_convert_bytes_back (P := Tryd.prog) _ 45 9 5 ⟨B, 0, none⟩ cap L Tryd.underlying45 Tryd.underlying5 Tryd.underlying9 ?_
  intro j hj
  rw [addr_add, Nat.zero_add, (h.2 j hj).1, byteAt_get L j hj]
theorem row8_bytes (w : World) (s : ByteArray) (cap : Nat) (t : TypeId) : Row8 w.heap.size s.data.toList (w.drew.alloc (.cells (bytesRow s cap) t ((bytesRow s cap).size, (bytesRow s cap).size + 1))) := by
  refine ⟨by show w.heap.size < (w.heap.push _).size; simp, fun j hj => ?_⟩
  have hs : j < s.data.size := by simpa using hj
  have hlen : j < (bytesRow s cap).size := (Array.getElem?_eq_some_iff.1 (bytesRow_at s cap j hs)).1
  refine ⟨?_, ?_⟩
  · have h := World.cell?_alloc_mark w.drew (bytesRow s cap) t ((bytesRow s cap).size, (bytesRow s cap).size + 1) j
    refine h.trans ?_
    rw [bytesRow_at s cap j hs, byteAt_get _ j hj]
    rfl
  · have h := World.frozen?_alloc_mark w.drew (bytesRow s cap) t (bytesRow s cap).size ((bytesRow s cap).size + 1) j
    refine h.trans ?_
    rw [decide_eq_false (by omega), Bool.false_and]
theorem conv_out (w : World) (L : List UInt8) (n : Nat) (hn : n = L.length) : ∃ (w2 : World) (cap : Nat), (convert 9 45 (.string (bs L))).run Tryd.prog w = .ok (.slice (some ⟨w.heap.size, 0, none⟩) n cap) w2 ∧ Row8 w.heap.size L w2 ∧ Below w.heap.size w w2 ∧ w2.heap.size = w.heap.size + 1 := by
  have h := run_bytes_of_string (P := Tryd.prog) w 9 45 5 (bs L) Tryd.underlying9 Tryd.underlying45 Tryd.underlying5
  rw [bs_size, ← hn] at h
  exact ⟨_, _, h, row8_bytes w (bs L) _ 5, ((Below.refl _ _).drew).alloc (Nat.le_refl _) _, by simp⟩

set_option maxHeartbeats 1000000 in
theorem flt_pack (b g h m : Nat) (L : List UInt8) (w : World) (f : Hid (Flt b g h L w)) (hm : Hid (m = L.length)) (hl : m ≤ 100000000) (hh : h ≤ 8) :
    Calls Tryd.prog 29 #[.pointer (some ⟨b, 0, none⟩)] w fun e w' => e = .returned (.string (bs (packF h L))) ∧ Below w.heap.size w w' := by
  obtain ⟨Z, hZ⟩ : ∃ Z, Z = w.heap.size := ⟨_, rfl⟩
  have hbg := Lib.hid (show b < Z ∧ g < Z by rw [hZ]; exact ⟨f.out.lt, f.out.row.1⟩)
  obtain ⟨cap, c1⟩ := f.out.c1
  rw [← hm.out] at c1
  obtain ⟨w1, hw1⟩ : ∃ w1, w1 = w.alloc (.cells #[.pointer none, .slice none 0 0] 114) := ⟨_, rfl⟩
  have hWt := Lib.hid (show Wt Z Z [] w1 by rw [hw1, hZ]; exact wt_new w)
  have B1 := Lib.hid (show Below Z w w1 by rw [hw1, hZ]; exact (Below.refl _ _).alloc (Nat.le_refl _) _)
  have F1 := Lib.hid (f.out.keep B1.out hbg.out.1 hbg.out.2)
  have hc01 : w1.cell? ⟨b, 0, none⟩ = some (.int .i64 (h : Int)) := F1.out.c0
  have C1 := Lib.hid (show w1.cell? ⟨b, 1, none⟩ = some (.slice (some ⟨g, 0, none⟩) m cap) by rw [B1.out.cell hbg.out.1]; exact c1)
  have HW1 := Lib.hid hw1
  have HZ := Lib.hid hZ
  clear hZ hw1 c1
  go_enter Tryd.func29, Tryd.ntmps29
  go_wp2_with fail
  refine (six_New w).mono ?_
  rintro e _ ⟨rfl, rfl⟩
  rw [← HW1.out, ← HZ.out]
  go_wp2_with fail
  refine (six_CountI Z Z [] (h : Int) w1 hWt.out (by omega) (by omega) (by simp)).mono ?_
  rintro e w2 ⟨rfl, hWt2, B2⟩
  have HB2 := Lib.hid B2
  have HWt2 := Lib.hid hWt2
  have c2 : w2.cell? ⟨b, 1, none⟩ = some (.slice (some ⟨g, 0, none⟩) m cap) := by rw [HB2.out.cell hbg.out.1]; exact C1.out
  have hconv := conv_back w2 g L m cap hm.out (F1.out.row.keep HB2.out hbg.out.2)
  clear hWt2 B2 hc01
  go_wp2_with fail
  refine (six_Text Z Z (whole (h : Int)) (bs L) w2 (by have := HWt2.out; rw [List.nil_append] at this; exact this) (by have := (whole_len (n := (h : Int)) (by omega) (by omega)).1; rw [bs_size, ← hm.out]; omega)).mono ?_
  rintro e w3 ⟨rfl, hWt3, B3⟩
  have HB3 := Lib.hid B3
  have HWt3 := Lib.hid hWt3
  clear hWt3 B3 c2 hconv
  go_wp2_with fail
  refine (six_Bytes Z Z _ w3 HWt3.out).mono ?_
  rintro e w4 ⟨rfl, _, B4, _⟩
  have HB4 := Lib.hid B4
  clear B4
  go_wp2_with fail
  go_ret
  refine ⟨by rw [bs_list]; rfl, ?_⟩
  rw [← HZ.out]
  exact ((B1.out.trans HB2.out).trans HB3.out).trans HB4.out

/-- What Open leaves. -/
def OpenPost (l : List UInt8) (w : World) (e : Ending) (w' : World) : Prop :=
  Below w.heap.size w w' ∧ ((openE l ≠ 0 ∧ e = .returned (.tuple #[.pointer none, .int .i64 (openE l)])) ∨
    (openE l = 0 ∧ ∃ b g, w.heap.size ≤ b ∧ w.heap.size ≤ g ∧ e = .returned (.tuple #[.pointer (some ⟨b, 0, none⟩), .int .i64 0]) ∧ Flt b g (openH l) (openT l) w'))

def Opened (n e1 e2 e3 : Int) (T : List UInt8) (w : World) (e : Ending) (w' : World) : Prop := Below w.heap.size w w' ∧
      ((e1 ≠ 0 ∧ e = .returned (.tuple #[.pointer none, .int .i64 e1])) ∨ (e1 = 0 ∧ (n < 1 ∨ 8 < n) ∧ e = .returned (.tuple #[.pointer none, .int .i64 3])) ∨
       (e1 = 0 ∧ ¬ (n < 1 ∨ 8 < n) ∧ e2 ≠ 0 ∧ e = .returned (.tuple #[.pointer none, .int .i64 e2])) ∨ (e1 = 0 ∧ ¬ (n < 1 ∨ 8 < n) ∧ e2 = 0 ∧ (T = [] ∨ T.length % 8 ≠ 0) ∧ e = .returned (.tuple #[.pointer none, .int .i64 3])) ∨
       (e1 = 0 ∧ ¬ (n < 1 ∨ 8 < n) ∧ e2 = 0 ∧ ¬ (T = [] ∨ T.length % 8 ≠ 0) ∧ e3 ≠ 0 ∧ e = .returned (.tuple #[.pointer none, .int .i64 e3])) ∨
       (e1 = 0 ∧ ¬ (n < 1 ∨ 8 < n) ∧ e2 = 0 ∧ ¬ (T = [] ∨ T.length % 8 ≠ 0) ∧ e3 = 0 ∧ ∃ b g, w.heap.size ≤ b ∧ w.heap.size ≤ g ∧ e = .returned (.tuple #[.pointer (some ⟨b, 0, none⟩), .int .i64 0]) ∧ Flt b g n.toNat T w'))

set_option maxHeartbeats 1000000 in
/-- Open, its callees' answers as letters. -/
theorem open_core (s s1 s2 : ByteArray) (T : List UInt8) (n e1 e2 e3 : Int) (w : World)
    (h1 : Hid (∀ w' r, Rt r s w' → Calls Tryd.prog 78 #[.pointer (some ⟨r, 0, none⟩)] w' (Rd r s1 (.int .i64 n) (.int .i64 e1) w')))
    (h2 : Hid (∀ w' r, Rt r s1 w' → Calls Tryd.prog 80 #[.pointer (some ⟨r, 0, none⟩)] w' (Rd r s2 (.string (bs T)) (.int .i64 e2) w')))
    (h3 : Hid (∀ w' r, Rt r s2 w' → Calls Tryd.prog 76 #[.pointer (some ⟨r, 0, none⟩)] w' fun e w'' => e = .returned (.int .i64 e3) ∧ w' = w'')) (hT : T.length ≤ 9223372036854775807) :
    Calls Tryd.prog 57 #[.string s] w (Opened n e1 e2 e3 T w) := by
  obtain ⟨Z, hZ⟩ : ∃ Z, Z = w.heap.size := ⟨_, rfl⟩
  obtain ⟨w1, hw1⟩ : ∃ w1, w1 = w.alloc (.cells #[.string s] 150) := ⟨_, rfl⟩
  have R1 := Lib.hid (show Rt Z s w1 by rw [hw1, hZ]; exact Rt.new s w)
  have B1 := Lib.hid (show Below Z w w1 by rw [hw1, hZ]; exact (Below.refl _ _).alloc (Nat.le_refl _) _)
  have HW1 := Lib.hid hw1
  have HZ := Lib.hid hZ
  clear hZ hw1
  go_enter Tryd.func57, Tryd.ntmps57
  go_wp2_with fail
  refine (six_Over s w).mono ?_
  rintro e _ ⟨rfl, rfl⟩
  rw [← HW1.out, ← HZ.out]
  go_wp2_with fail
  refine (h1.out w1 Z R1.out).mono ?_
  rintro e w2 ⟨rfl, r2, k2⟩
  have R2 := Lib.hid r2
  have B2 := Lib.hid (B1.out.trans (k2.below (fun j _ e => by omega) (by rw [HZ.out]; exact B1.out.size)))
  clear r2 k2
  by_cases he1 : e1 = 0
  · subst he1
    by_cases hn : n < 1 ∨ 8 < n
    · rcases hn with hn | hn
      · go_wp2_with fail
        go_ret2
        exact ⟨by rw [← HZ.out]; exact B2.out, .inr (.inl ⟨rfl, .inl hn, rfl⟩)⟩
      · have hn1 : ¬ n < 1 := by omega
        go_wp2_with fail
        go_ret2
        exact ⟨by rw [← HZ.out]; exact B2.out, .inr (.inl ⟨rfl, .inr hn, rfl⟩)⟩
    · have hn1 : ¬ n < 1 := fun h => hn (.inl h)
      have hn8 : ¬ 8 < n := fun h => hn (.inr h)
      have Hn := Lib.hid hn
      clear hn
      go_wp2_with fail
      refine (h2.out w2 Z R2.out).mono ?_
      rintro e w3 ⟨rfl, r3, k3⟩
      have R3 := Lib.hid r3
      have B3 := Lib.hid (B2.out.trans (k3.below (fun j _ e => by omega) (Nat.le_trans (by rw [HZ.out]; exact Nat.le_refl _) B2.out.size)))
      clear r3 k3
      by_cases he2 : e2 = 0
      · subst he2
        by_cases hT0 : T = []
        · subst hT0
          have hE : (bs []).toList.isEmpty = true := by rw [Lib.toList_data, bs_list]; rfl
          have ht := Lib.hid hT
          clear hT
          go_wp2_with fail
          go_ret2
          exact ⟨by rw [← HZ.out]; exact B3.out, .inr (.inr (.inr (.inl ⟨rfl, Hn.out, rfl, .inl rfl, rfl⟩)))⟩
        · have hE : (bs T).toList.isEmpty = false := by rw [Lib.toList_data, bs_list]; cases T with | nil => exact absurd rfl hT0 | cons a l => rfl
          have HT0 := Lib.hid hT0
          obtain ⟨m, hml⟩ : ∃ m, m = T.length := ⟨_, rfl⟩
          have hml' : (bs T).size = m := by rw [bs_size, hml]
          have hmb : m ≤ 9223372036854775807 := by rw [hml]; exact hT
          by_cases hm : T.length % 8 = 0
          · have HM := Lib.hid hm
            have hrem : (m : Int) % 8 = 0 := by omega
            have HML := Lib.hid hml
            clear hm hT0 hml hT
            go_wp2_with fail
            refine (h3.out w3 Z R3.out).mono ?_
            rintro e _ ⟨rfl, rfl⟩
            by_cases he3 : e3 = 0
            · subst he3
              obtain ⟨w5, cap, hcv, r5, k5, s5⟩ := conv_out w3 T m HML.out
              have K5 := Lib.hid k5
              have H5 := Lib.hid r5
              have S5 := Lib.hid s5
              clear k5 r5 s5
              have HN := Lib.hid (show ((n.toNat : Nat) : Int) = n by have := Hn.out; omega)
              go_wp2_with fail
              go_ret2
              obtain ⟨w6, hw6⟩ : ∃ w6, w6 = w5.alloc (.cells #[.int .i64 n, .slice (some ⟨w3.heap.size, 0, none⟩) m cap] 100) := ⟨_, rfl⟩
              have b6 : Below w5.heap.size w5 w6 := by rw [hw6]; exact (Below.refl _ _).alloc (Nat.le_refl _) _
              have hz3 : Z ≤ w3.heap.size := Nat.le_trans (by rw [HZ.out]; exact Nat.le_refl _) B3.out.size
              have bb : Below Z w w6 := (B3.out.trans (K5.out.mono hz3)).trans (b6.mono (Nat.le_trans hz3 K5.out.size))
              refine ⟨by rw [← HZ.out, ← hw6]; exact bb, .inr (.inr (.inr (.inr (.inr ⟨rfl, Hn.out, rfl, fun h => h.elim HT0.out (fun h => h HM.out), rfl, w5.heap.size, w3.heap.size, ?_, ?_, rfl, ?_⟩))))⟩
              · exact Nat.le_trans B3.out.size K5.out.size
              · exact B3.out.size
              · rw [← hw6]
                have hcell : ∀ j v, (#[Value.int .i64 n, .slice (some ⟨w3.heap.size, 0, none⟩) m cap] : Array Value)[j]? = some v → w6.cell? ⟨w5.heap.size, j, none⟩ = some v := fun j v hv => by rw [hw6, World.cell?_alloc_mark]; exact hv
                refine ⟨hcell 0 _ (by rw [HN.out]; rfl), ⟨cap, hcell 1 _ (by rw [← HML.out]; rfl)⟩, H5.out.keep b6 H5.out.1, by rw [hw6]; simp⟩
            · have hb : (e3 == 0) = false := beq_eq_false_iff_ne.2 he3
              have He3 := Lib.hid he3
              clear he3
              go_wp2_with fail
              go_ret2
              exact ⟨by rw [← HZ.out]; exact B3.out, .inr (.inr (.inr (.inr (.inl ⟨rfl, Hn.out, rfl, fun h => h.elim HT0.out (fun h => h HM.out), He3.out, rfl⟩))))⟩
          · have HM := Lib.hid hm
            have hrem : ((m : Int) % 8 != 0) = true := by rw [bne_iff_ne]; omega
            have HML := Lib.hid hml
            clear hm hT0 hml hT
            go_wp2_with fail
            go_ret2
            exact ⟨by rw [← HZ.out]; exact B3.out, .inr (.inr (.inr (.inl ⟨rfl, Hn.out, rfl, .inr HM.out, rfl⟩)))⟩
      · have hb : (e2 == 0) = false := beq_eq_false_iff_ne.2 he2
        have He2 := Lib.hid he2
        clear he2
        go_wp2_with fail
        go_ret2
        exact ⟨by rw [← HZ.out]; exact B3.out, .inr (.inr (.inl ⟨rfl, Hn.out, He2.out, rfl⟩))⟩
  · have hb : (e1 == 0) = false := beq_eq_false_iff_ne.2 he1
    have He1 := Lib.hid he1
    clear he1
    go_wp2_with fail
    go_ret2
    exact ⟨by rw [← HZ.out]; exact B2.out, .inl ⟨He1.out, rfl⟩⟩

theorem flt_Open (s : ByteArray) (w : World) (hs : s.size ≤ maxLen) : Calls Tryd.prog 57 #[.string s] w (OpenPost s.data.toList w) := by
  obtain ⟨l, hl⟩ : ∃ l, l = s.data.toList := ⟨_, rfl⟩
  have hlen : l.length = s.size := by rw [hl, ← Lib.size_eq]
  obtain ⟨S1, hS1⟩ : ∃ S1, S1 = s.extract (ck l) s.size := ⟨_, rfl⟩
  have e1 : S1.data.toList = openL l := by rw [hS1, extract_rest, ← hl]; rfl
  have z1 : S1.size ≤ maxLen := by rw [hS1, extract_size]; omega
  obtain ⟨S2, hS2⟩ : ∃ S2, S2 = S1.extract (tk (openL l)) S1.size := ⟨_, rfl⟩
  have e2 : S2.data.toList = (openL l).drop (tk (openL l)) := by rw [hS2, extract_rest, e1]
  have c1 := fun w' r (h : Rt r s w') => six_ReadCount r s w' h hs
  have c2 := fun w' r (h : Rt r S1 w') => six_ReadText r S1 w' h z1
  have c3 := fun w' r (h : Rt r S2 w') => six_End r S2 w' h
  rw [← hl, ← hS1] at c1
  rw [e1, ← hS2] at c2
  rw [e2] at c3
  have l1 : (openL l).length ≤ l.length := by unfold openL; simp
  have hts : (ts (openL l)).length ≤ (openL l).length := by
    rcases td_cases (openL l) with ⟨_, _, _, h4, _, _, h7⟩ | ⟨_, h2, _⟩
    · rw [h7]; simp; omega
    · rw [h2]; simp
  have hm : maxLen = 9223372036854775807 := rfl
  refine (open_core s S1 S2 (ts (openL l)) (cn l) (ce l) (te (openL l)) (endE ((openL l).drop (tk (openL l)))) w (Lib.hid c1) (Lib.hid c2) (Lib.hid c3) (by omega)).mono ?_
  rw [← hl]
  rintro e w' ⟨hb, h⟩
  refine ⟨hb, ?_⟩
  have hend : te (openL l) = 0 → (endE ((openL l).drop (tk (openL l))) = 0 ↔ (openL l).length = tk (openL l)) := by
    intro ht
    have htk : tk (openL l) ≤ (openL l).length := by
      rcases td_cases (openL l) with ⟨_, _, _, h4, _, h6, _⟩ | ⟨h1, _⟩
      · omega
      · omega
    unfold endE
    split
    · rename_i h0
      have := congrArg List.length h0
      simp at this
      simp
      omega
    · rename_i h0
      have : ¬ ((openL l).length = tk (openL l)) := fun h1 => h0 (by rw [List.drop_eq_nil_iff]; omega)
      simp [this]
  rcases h with ⟨a1, a2⟩ | ⟨a1, a2, a3⟩ | ⟨a1, a2, a3, a4⟩ | ⟨a1, a2, a3, a4, a5⟩ | ⟨a1, a2, a3, a4, a5, a6⟩ | ⟨a1, a2, a3, a4, a5, a6⟩
  · have : openE l = ce l := by unfold openE; rw [if_pos a1]
    exact .inl ⟨by rw [this]; exact a1, by rw [this]; exact a2⟩
  · have : openE l = 3 := by unfold openE; rw [if_neg (by omega), if_pos a2]
    exact .inl ⟨by rw [this]; decide, by rw [this]; exact a3⟩
  · have : openE l = te (openL l) := by unfold openE; rw [if_neg (by omega), if_neg a2, if_pos a3]
    exact .inl ⟨by rw [this]; exact a3, by rw [this]; exact a4⟩
  · have : openE l = 3 := by unfold openE; rw [if_neg (by omega), if_neg a2, if_neg (by omega), if_pos a4]
    exact .inl ⟨by rw [this]; decide, by rw [this]; exact a5⟩
  · have hne : ¬ ((openL l).length = tk (openL l)) := fun h => a5 ((hend a3).2 h)
    have he5 : endE ((openL l).drop (tk (openL l))) = 5 := by
      unfold endE at a5 ⊢
      split
      · rename_i h0; rw [if_pos h0] at a5; exact absurd rfl a5
      · rfl
    have : openE l = 5 := by unfold openE; rw [if_neg (by omega), if_neg a2, if_neg (by omega), if_neg a4, if_pos hne]
    exact .inl ⟨by rw [this]; decide, by rw [this, a6, he5]⟩
  · have : openE l = 0 := by unfold openE; rw [if_neg (by omega), if_neg a2, if_neg (by omega), if_neg a4, if_neg (by rw [(hend a3).1 a5]; simp)]
    exact .inr ⟨this, a6⟩
end Go.Proofs.YteejldddgogbkaaDoor
/- Rows of entries of the call's own: what stands in them, one entry overwritten, one more. -/
set_option linter.unusedVariables false
set_option maxRecDepth 100000
set_option maxRecDepth 100000
namespace Go.Proofs.YteejldddgogbkaaDoor
open Go.RowKit

def ecells (R : List Ent) : List Value := R.flatMap Ent.vals
theorem ecells_len : ∀ R : List Ent, (ecells R).length = R.length * 3
  | [] => rfl
  | x :: R => by
    show (x.vals ++ ecells R).length = _
    rw [List.length_append, ecells_len R]
    simp [Ent.vals]
    omega
theorem ecells_append (R S : List Ent) : ecells (R ++ S) = ecells R ++ ecells S := List.flatMap_append
theorem ecells_at : ∀ (R : List Ent) (i q : Nat) (x : Ent), q < 3 → R[i]? = some x → (ecells R)[i * 3 + q]? = x.vals[q]?
  | [], i, q, x, _, h => by cases h
  | z :: R, 0, q, x, hq, h => by
    injection h with h
    subst h
    show (z.vals ++ ecells R)[0 * 3 + q]? = _
    rw [List.getElem?_append_left (by simp [Ent.vals]; omega)]
    simp
  | z :: R, i + 1, q, x, hq, h => by
    show (z.vals ++ ecells R)[(i + 1) * 3 + q]? = _
    rw [List.getElem?_append_right (by simp [Ent.vals]; omega), ← ecells_at R i q x hq h]
    congr 1
    simp [Ent.vals]
    omega
/-- A row of entries of the call's own. -/
def OwnE (w : World) (B : Nat) (v : Value) (R : List Ent) : Prop := OffRow w B 38 3 v R.length (ecells R)
theorem OwnE.ent {w : World} {B : Nat} {a : Option Addr} {n cap : Nat} {R : List Ent} (h : OwnE w B (.slice a n cap) R) {k : Nat} {x : Ent} (hx : R[k]? = some x) :
    ∃ g off, a = some ⟨g, off, none⟩ ∧ B ≤ g ∧ CellE g (off + k * 3) x w := by
  have hk : k < R.length := (List.getElem?_eq_some_iff.1 hx).1
  obtain ⟨g, off, cp, cur, e1, hB, hg, hc⟩ := OffRow.form h (by omega)
  injection e1 with e1 _ _
  have hq := fun q (hq : q < 3) => (hc (k * 3 + q) (by omega)).trans (ecells_at R k q x hq hx)
  exact ⟨g, off, e1, hB, heap_lt hg, hq 0 (by omega), by have := hq 1 (by omega); rwa [← Nat.add_assoc] at this, by have := hq 2 (by omega); rwa [← Nat.add_assoc] at this⟩
theorem OwnE.is {w : World} {B : Nat} {a : Option Addr} {n cap : Nat} {R : List Ent} (h : OwnE w B (.slice a n cap) R) (hn : n = R.length) : IsE w a n R := by
  cases R with
  | nil => subst hn; exact IsE.nil _ _
  | cons y R =>
    obtain ⟨g, off, ha, _, _⟩ := h.ent (k := 0) (x := y) rfl
    refine ⟨hn, g, off, .inr ha, fun k hk => ?_⟩
    obtain ⟨g', off', ha', _, hc⟩ := h.ent (List.getElem?_eq_getElem hk)
    rw [ha] at ha'
    injection ha' with ha'
    injection ha' with e1 e2
    rw [e1, e2]
    exact hc
theorem OwnE.below {w w' : World} {B : Nat} {v : Value} {R : List Ent} (h : OwnE w B v R) (k : Below w.heap.size w w') : OwnE w' B v R := OffRow.kept h fun j hj => k.block j (OffRow.lt h j hj).2
theorem OwnE.len_cap {w : World} {B : Nat} {a : Option Addr} {n cap : Nat} {R : List Ent} (h : OwnE w B (.slice a n cap) R) : R.length ≤ cap := by
  rcases h.2 with ⟨h1, h2⟩ | ⟨g, off, c, cur, h1, _, _, h3, _⟩
  · omega
  · injection h1 with _ _ h1
    rw [h1]; exact h3
theorem OwnE.nil (w : World) (B : Nat) : OwnE w B (.slice none 0 0) [] := OffRow.nil _ _ _ _
theorem OwnE.slice {w : World} {B : Nat} {v : Value} {R : List Ent} (h : OwnE w B v R) : ∃ a cap, v = .slice a R.length cap := OffRow.slice h
/-- Where an entry stands it may be overwritten. -/
theorem OwnE.room {w : World} {B : Nat} {g off n cap : Nat} {R : List Ent} (h : OwnE w B (.slice (some ⟨g, off, none⟩) n cap) R) : (∃ cur, w.heap[g]? = some (.cells cur 38 (0, 0))) ∧ ∀ j, w.frozen? ⟨g, j, none⟩ = false := by
  obtain ⟨cur, hc⟩ := OffRow.tag h (k := g) rfl
  exact ⟨⟨cur, hc⟩, fun j => by simp [World.frozen?, hc]⟩
theorem OwnE.set {w : World} {B : Nat} {g off n cap : Nat} {R : List Ent} (h : OwnE w B (.slice (some ⟨g, off, none⟩) n cap) R) {k : Nat} (hk : k < R.length) (x : Ent) :
    OwnE (((w.setCell ⟨g, off + k * 3, none⟩ (.string (bs x.key))).setCell ⟨g, off + k * 3 + 1, none⟩ (.string (bs x.val))).setCell ⟨g, off + k * 3 + 2, none⟩ (.bool x.gone)) B (.slice (some ⟨g, off, none⟩) n cap) (R.set k x) := by
  rcases OffRow.form h (by omega) with ⟨g', off', cp, cur, e1, hB, hg, hc⟩
  rcases h.2 with ⟨h0, _⟩ | ⟨g2, off2, cap2, cur2, h0, hB2, hg2, h1, h2, h3, h4⟩
  · cases h0
  · injection h0 with e2 e3 e4
    injection e2 with e2
    injection e2 with e2 e5
    subst e2 e4 e5
    have s1 := heap_set (o := off + k * 3) hg2 (.string (bs x.key))
    have s2 := heap_set (o := off + k * 3 + 1) s1 (.string (bs x.val))
    have s3 := heap_set (o := off + k * 3 + 2) s2 (.bool x.gone)
    have hle : k * 3 + 3 ≤ cap * 3 := by omega
    refine ⟨by rw [ecells_len], .inr ⟨g, off, cap, _, by rw [List.length_set, e3], hB2, s3, by rw [List.length_set]; exact h1, h2, by simp only [Array.size_setIfInBounds]; exact h3, fun j hj => ?_⟩⟩
    rw [List.length_set] at hj
    obtain ⟨i, q, hq, rfl⟩ : ∃ i q, q < 3 ∧ j = i * 3 + q := ⟨j / 3, j % 3, by omega, by omega⟩
    have hi : i < R.length := by omega
    obtain ⟨y, hy⟩ : ∃ y, (R.set k x)[i]? = some y := ⟨_, List.getElem?_eq_getElem (by rw [List.length_set]; exact hi)⟩
    rw [ecells_at (R.set k x) i q y hq hy]
    simp only [Array.getElem?_setIfInBounds, Array.size_setIfInBounds]
    by_cases hik : i = k
    · subst hik
      rw [List.getElem?_set_self hk] at hy
      injection hy with hy
      subst hy
      match q, hq with
      | 0, _ => rw [if_neg (by omega), if_neg (by omega), if_pos (by omega), if_pos (by omega)]; rfl
      | 1, _ => rw [if_neg (by omega), if_pos (by omega), if_pos (by omega)]; rfl
      | 2, _ => rw [if_pos (by omega), if_pos (by omega)]; rfl
    · rw [List.getElem?_set_ne (Ne.symm hik)] at hy
      rw [if_neg (by omega), if_neg (by omega), if_neg (by omega), h4 _ hj, ecells_at R i q y hq hy]
theorem below_put3 {B g : Nat} {a w : World} (h : Below B a w) (hB : B ≤ g) (o1 o2 o3 : Nat) (v1 v2 v3 : Value) : Below B a (((w.setCell ⟨g, o1, none⟩ v1).setCell ⟨g, o2, none⟩ v2).setCell ⟨g, o3, none⟩ v3) :=
  ((h.setCell (p := ⟨g, o1, none⟩) hB v1).setCell (p := ⟨g, o2, none⟩) hB v2).setCell (p := ⟨g, o3, none⟩) hB v3
/-- The place is the first one that isn't below. -/
theorem place_first {key : List UInt8} : ∀ {R : List Ent} {p : Nat}, p ≤ R.length → (∀ j y, j < p → R[j]? = some y → ltB y.key key = true) → (∀ y, R[p]? = some y → ltB y.key key = false) → place key R = p
  | [], p, h, _, _ => by simp at h; subst h; rfl
  | z :: R, 0, _, _, h => by rw [place_cons, h z rfl]; rfl
  | z :: R, p + 1, hp, h1, h2 => by
    rw [place_cons, h1 0 z (by omega) rfl, if_pos rfl, place_first (by simpa using hp) (fun j y hj hy => h1 (j + 1) y (by omega) hy) (fun y hy => h2 y hy)]
/-- One entry moved up. -/
theorem shift_step {R : List Ent} {z y : Ent} {k : Nat} (hk : 0 < k) (hkl : k ≤ R.length) (hy : R[k - 1]? = some y) : ((R ++ [z]).take (k + 1) ++ R.drop k).set k y = (R ++ [z]).take k ++ R.drop (k - 1) := by
  apply List.ext_getElem?
  intro j
  have hl : ((R ++ [z]).take (k + 1)).length = k + 1 := by simp; omega
  have hl2 : ((R ++ [z]).take k).length = k := by simp; omega
  rw [List.getElem?_set]
  by_cases hj : k = j
  · subst hj
    rw [if_pos rfl, if_pos (by rw [List.length_append, hl]; omega), List.getElem?_append_right (by omega), hl2, Nat.sub_self, List.getElem?_drop, Nat.add_zero, hy]
  · rw [if_neg hj]
    rcases Nat.lt_or_ge j k with h | h
    · rw [List.getElem?_append_left (by omega), List.getElem?_append_left (by omega), List.getElem?_take, List.getElem?_take, if_pos (by omega), if_pos h]
    · rw [List.getElem?_append_right (by omega), List.getElem?_append_right (by omega), hl, hl2, List.getElem?_drop, List.getElem?_drop]
      congr 1
      omega
theorem shift_end {R : List Ent} {z x : Ent} {k : Nat} (hkl : k ≤ R.length) : ((R ++ [z]).take (k + 1) ++ R.drop k).set k x = R.take k ++ x :: R.drop k := by
  apply List.ext_getElem?
  intro j
  have hl : ((R ++ [z]).take (k + 1)).length = k + 1 := by simp; omega
  have hl2 : (R.take k).length = k := by simp; omega
  rw [List.getElem?_set]
  by_cases hj : k = j
  · subst hj
    rw [if_pos rfl, if_pos (by rw [List.length_append, hl]; omega), List.getElem?_append_right (by omega), hl2, Nat.sub_self]
    rfl
  · rw [if_neg hj]
    rcases Nat.lt_or_ge j k with h | h
    · rw [List.getElem?_append_left (by omega), List.getElem?_append_left (by omega), List.getElem?_take, List.getElem?_take, if_pos (by omega), if_pos h, List.getElem?_append_left (by omega)]
    · rw [List.getElem?_append_right (by omega), List.getElem?_append_right (by omega), hl, hl2]
      obtain ⟨m, rfl⟩ : ∃ m, j = k + 1 + m := ⟨j - k - 1, by omega⟩
      rw [show k + 1 + m - (k + 1) = m by omega, show k + 1 + m - k = m + 1 by omega, List.getElem?_cons_succ]
end Go.Proofs.YteejldddgogbkaaDoor
/- The laws' look whether entries are alike. -/
set_option linter.unusedVariables false
set_option maxRecDepth 100000
set_option maxRecDepth 100000
namespace Go.Proofs.YteejldddgogbkaaDoor
open Go.RowKit

theorem ent_same (k v : ByteArray) (g : Bool) (w : World) : (binOp .neq 38 (.agg #[.string k, .string v, .bool g]) (.agg #[.string k, .string v, .bool g])).run Tryd.prog w = .ok (.bool false) w := by
  have u3 := Tryd.underlying9
  have a3 := Tryd.isAgg9
  have z3 := Tryd.sizeOf9
  have u4 := Tryd.underlying4
  have a4 := Tryd.isAgg4
  have z4 := Tryd.sizeOf4
  have hS : Tryd.prog.underlying 38 = some (.struct (Tryd.prog.fieldsOf 38)) := by kernel_rfl
  have hp : Tryd.prog.stoodInHeld 38 = false := by kernel_rfl
  rw [run_neq_struct, show (10000 : Nat) = 9999 + 1 from rfl, run_equalIn_agg w 9999 38 _ _ hS hp]
  simp only [Program.fieldsOf, Tryd.underlying38]
  go_simp
set_option maxHeartbeats 1000000 in
theorem ref_Same (a1 a2 : Option Addr) (len c1 c2 : Nat) (T : List Ent) (w : World) (h1 : Hid (IsE w a1 len T)) (h2 : Hid (IsE w a2 len T)) (hl : len ≤ 9223372036854775807) :
    Calls Tryd.prog 17 #[.slice a1 len c1, .slice a2 len c2] w fun e w' => e = .returned (.bool true) ∧ Below w.heap.size w w' := by
  go_enter Tryd.func17, Tryd.ntmps17
  go_wp2_with fail
  go_loopw [5] (fun vi wr => ∃ i : Nat, i ≤ len ∧ vi = .int .i64 i ∧ Hid (Below w.heap.size w wr)) (fun vi wr => len - (intOf vi).toNat)
  case atStart => exact ⟨0, by omega, rfl, Lib.hid (Below.refl _ _)⟩
  case round =>
    obtain ⟨i, hi, rfl, hB⟩ := hrel
    rcases Nat.lt_or_ge i len with hlt | hge
    · obtain ⟨b, off, x, rfl, hx, _, hc⟩ := (h1.out.below hB.out).at hlt
      obtain ⟨b2, off2, y, rfl, hy, _, hd⟩ := (h2.out.below hB.out).at hlt
      rw [hx] at hy
      injection hy with hy
      subst hy
      have c0 := hc.c0
      have c1 := hc.c1
      have c2 := hc.c2
      have d0 := hd.c0
      have d1 := hd.c1
      have d2 := hd.c2
      have hsame := ent_same (bs x.key) (bs x.val) x.gone
      generalize bs x.key = sk at *
      generalize bs x.val = sv at *
      generalize x.gone = sg at *
      clear hx hc hd
      go_wp2_with fail
      go_quiet (fail)
      go_wp2_with fail
      go_roundw
      case rel => exact ⟨i + 1, by omega, by go_num, Lib.hid (below_drewN hB.out _)⟩
      case measure => simp [intOf]; omega
    · obtain rfl : i = len := by omega
      go_wp2_with fail
      go_ret
      exact ⟨rfl, hB.out⟩
theorem ref_Same_nil (a1 : Option Addr) (len c1 : Nat) (w : World) (hl : len ≤ 9223372036854775807) : Calls Tryd.prog 17 #[.slice none 0 0, .slice none 0 0] w fun e w' => e = .returned (.bool true) ∧ Below w.heap.size w w' :=
  ref_Same none none 0 0 0 [] w (Lib.hid (IsE.nil _ _)) (Lib.hid (IsE.nil _ _)) (by omega)
end Go.Proofs.YteejldddgogbkaaDoor
/- Entries by rising keys, made of any. -/
set_option linter.unusedVariables false
set_option maxRecDepth 100000
set_option maxRecDepth 100000
namespace Go.Proofs.YteejldddgogbkaaDoor
open Go.RowKit

theorem Bx3.below {c : Nat} {x : Ent} {w w' : World} (h : Bx3 c x w) (k : Below w.heap.size w w') : Bx3 c x w' := (k.block c (heap_lt h)).trans h
def noEnt : Ent := ⟨[], [], false⟩
set_option maxHeartbeats 4000000 in
theorem law_rising_cap (a : Option Addr) (len cap : Nat) (T : List Ent) (w : World) (hT : Hid (IsE w a len T)) (hl : len ≤ 3001) (hs : Hid (∀ x ∈ T, x.key.length ≤ 60000 ∧ x.val.length ≤ 60000)) :
    Calls Tryd.prog 9 #[.slice a len cap] w fun e w' => (∃ a' c, e = .returned (.slice a' (rising T).length c) ∧ IsE w' a' (rising T).length (rising T) ∧ (rising T).length ≤ c) ∧ Below w.heap.size w w' := by
  obtain ⟨i0, hi, hz0, hz1, hz2⟩ := info_parts infoE
  have HI := Lib.hid (And.intro hi (And.intro hz0 (And.intro hz1 hz2)))
  obtain ⟨B, hB⟩ : ∃ B, B = w.heap.size := ⟨_, rfl⟩
  rw [← hB]
  have HBW := Lib.hid hB
  clear hB hi hz0 hz1 hz2
  go_enter Tryd.func9, Tryd.ntmps9
  go_wp2_with fail
  go_loopw [3, 4] (fun v iv wr => ∃ i : Nat, i ≤ len ∧ iv = .int .i64 i ∧ Hid (OwnE wr B v (rising (T.take i))) ∧ Hid (Below B w wr)) (fun v iv wr => len - (intOf iv).toNat)
  case atStart => exact ⟨0, Nat.zero_le _, rfl, Lib.hid (OwnE.nil _ _), Lib.hid (Below.refl _ _)⟩
  case round =>
    obtain ⟨i, hi, rfl, hO, hBl⟩ := hrel
    rcases Nat.lt_or_ge i len with hlt | hge
    · obtain ⟨b, off, x, rfl, hx, _, hc⟩ := (hT.out.below (by rw [← HBW.out]; exact hBl.out)).at hlt
      have hnx := Lib.hid (show rising (T.take (i + 1)) = put (norm x) (rising (T.take i)) by rw [take_ent hx, rising_snoc])
      have hrl := Lib.hid (show (rising (T.take i)).length ≤ 3001 by have := rising_len (T.take i); rw [List.length_take] at this; omega)
      have hsx := Lib.hid (hs.out x (List.mem_of_getElem? hx))
      have hBwr := Lib.hid (show B ≤ wr.heap.size by rw [HBW.out]; exact hBl.out.size)
      generalize rising (T.take i) = R at *
      have c0 := hc.c0
      have c1 := hc.c1
      have c2 := hc.c2
      clear hx hc
      obtain ⟨W1, hW1⟩ : ∃ W1, wr.alloc (.cells #[.string (bs (norm x).key), .string (bs (norm x).val), .bool (norm x).gone] 38) = W1 := ⟨_, rfl⟩
      have P1 := Lib.hid (show OwnE W1 B u3 R ∧ Below B w W1 ∧ Bx3 wr.heap.size (norm x) W1 from by
        have hb : Below wr.heap.size wr W1 := by rw [← hW1]; exact (Below.refl _ _).alloc (Nat.le_refl _) _
        exact ⟨hO.out.below hb, hBl.out.trans (hb.mono hBwr.out), by rw [← hW1]; exact heap_new wr _⟩)
      have HW1 := Lib.hid hW1
      obtain ⟨a3, cap3, rfl⟩ := P1.out.1.slice
      obtain ⟨n, hn⟩ : ∃ n, n = R.length := ⟨_, rfl⟩
      have hnk : (norm x).key = x.key := by unfold norm; split <;> rfl
      have hnorm := Lib.hid (show (x.gone = true → wr.alloc (.cells #[.string (bs x.key), .string ⟨#[]⟩, .bool true] 38) = W1) ∧ (x.gone = false → wr.alloc (.cells #[.string (bs x.key), .string (bs x.val), .bool false] 38) = W1) from
        ⟨fun h => by rw [← HW1.out]; unfold norm; rw [if_pos h, h]; rfl, fun h => by rw [← HW1.out]; unfold norm; rw [if_neg (by rw [h]; decide), h]⟩)
      have hok := Lib.hid (show (norm x).key.length ≤ 60000 ∧ (norm x).val.length ≤ 60000 by
        unfold norm
        split
        · exact ⟨hsx.out.1, by simp⟩
        · exact hsx.out)
      rw [← hn]
      have HN := Lib.hid hn
      have hn3 : n ≤ 3001 := by rw [hn]; exact hrl.out
      have hO2 := hO.out
      rw [← hn] at hO2 P1
      obtain ⟨x', hx'⟩ : ∃ x', x' = norm x := ⟨_, rfl⟩
      rw [← hx'] at P1 hnx hok
      have HVZ := Lib.hid (fun k hk => (OffRow.lt hO2 k hk).2 : ∀ k, (Value.slice a3 n cap3).ownBlock = some k → k < wr.heap.size)
      clear hW1 HW1 hn hx' hnk hO hO2
      have zk : x'.key.length ≤ 60000 := hok.out.1
      rcases Bool.eq_false_or_eq_true x.gone with hg | hg
      rw [hg] at c2
      have HG := Lib.hid (hnorm.out.1 hg)
      clear hg hnorm
      go_upto_region 8 with (fail)
      rw [HG.out]
      clear HG c0 c1 c2
      rotate_left
      rw [hg] at c2
      have HG := Lib.hid (hnorm.out.2 hg)
      clear hg hnorm
      go_upto_region 8 with (fail)
      rw [HG.out]
      clear HG c0 c1 c2
      all_goals
        obtain ⟨Z, hZ⟩ : ∃ Z, Z = wr.heap.size := ⟨_, rfl⟩
        rw [← hZ] at P1 hBwr HVZ ⊢
        have HZ := Lib.hid hZ
        clear hZ
        go_wp2_with fail
        go_loopw [6] (fun pv wq => ∃ p : Nat, p ≤ n ∧ pv = .int .i64 p ∧ Hid (∀ j y, j < p → R[j]? = some y → ltB y.key x'.key = true) ∧ Hid (Below W1.heap.size W1 wq)) (fun pv wq => n - (intOf pv).toNat)
        case atStart => exact ⟨0, Nat.zero_le _, rfl, Lib.hid (fun j y h => absurd h (by omega)), Lib.hid (Below.refl _ _)⟩
        case round =>
          obtain ⟨p, hp, rfl, hA, hQ⟩ := hrel
          obtain ⟨wq, hwq⟩ : ∃ wq, wq = wr := ⟨_, rfl⟩
          subst hwq
          have PQ := Lib.hid (show OwnE wq B (.slice a3 n cap3) R ∧ Below B w wq ∧ Bx3 Z x' wq from ⟨P1.out.1.below hQ.out, P1.out.2.1.trans (hQ.out.mono (by rw [HBW.out]; exact P1.out.2.1.size)), P1.out.2.2.below hQ.out⟩)
          obtain ⟨d0, d1, d2⟩ := PQ.out.2.2.cells
          by_cases hpn : p < n
          · obtain ⟨y, hy⟩ : ∃ y, R[p]? = some y := ⟨_, List.getElem?_eq_getElem (by rw [← HN.out]; exact hpn)⟩
            obtain ⟨g, off, rfl, hBg, hcy⟩ := PQ.out.1.ent hy
            have e0 := hcy.c0
            have hlt2 : Op.bytesLess (bs y.key).toList (bs x'.key).toList = ltB y.key x'.key := by rw [Lib.toList_data, Lib.toList_data, bs_list, bs_list, ltB_less]
            have HY := Lib.hid hy
            clear hcy hy
            cases hc : ltB y.key x'.key with
            | true =>
              rw [hc] at hlt2
              have HA2 := Lib.hid (show ∀ j z, j < p + 1 → R[j]? = some z → ltB z.key x'.key = true from fun j z hj hz => by
                by_cases e : j < p
                · exact hA.out j z e hz
                · obtain rfl : j = p := by omega
                  rw [HY.out] at hz
                  injection hz with hz
                  rw [← hz]
                  exact hc)
              clear hc
              go_wp2_with fail
              go_quiet (fail)
              go_wp2_with fail
              go_roundw
              case rel => exact ⟨p + 1, by omega, by go_num, HA2, Lib.hid (below_drewN hQ.out _)⟩
              case measure => simp [intOf]; omega
            | false =>
              rw [hc] at hlt2
              have HP := Lib.hid (place_first (key := x'.key) (R := R) (p := p) (by rw [← HN.out]; exact hp) hA.out (fun z hz => by rw [HY.out] at hz; injection hz with hz; rw [← hz]; exact hc))
              have heq : ((bs y.key).toList == (bs x'.key).toList) = decide (y.key = x'.key) := by rw [Bool.eq_iff_iff, same_bytes, decide_eq_true_iff]
              clear hc
              go_wp2_with fail
              go_quiet (fail)
              obtain ⟨w5, hw5⟩ : ∃ w5, w5 = wq.drewN nq := ⟨_, rfl⟩
              have P5 := Lib.hid (show OwnE w5 B (.slice (some ⟨g, off, none⟩) n cap3) R ∧ Below B w w5 ∧ Bx3 Z x' w5 by rw [hw5]; exact ⟨PQ.out.1.below (below_drewN (Below.refl _ _) _), below_drewN PQ.out.2.1 _, PQ.out.2.2.below (below_drewN (Below.refl _ _) _)⟩)
              have e5 : w5.cell? ⟨g, off + p * 3, none⟩ = some (.string (bs y.key)) := by rw [hw5]; exact e0
              rw [← hw5]
              clear hw5 e0 d0 d1 d2 PQ
              obtain ⟨d0, d1, d2⟩ := P5.out.2.2.cells
              by_cases hs : y.key = x'.key
              · rw [decide_eq_true hs] at heq
                have HRS := Lib.hid (show put x' R = R.set p x' by have := put_same (x := x') (y := y) (R := R) (by rw [HP.out]; exact HY.out) hs; rwa [HP.out] at this)
                clear hs
                go_wp2_with fail
                go_quiet (fail)
                obtain ⟨w6, hw6⟩ : ∃ w6, w6 = w5.drewN nq := ⟨_, rfl⟩
                have P6 := Lib.hid (show OwnE w6 B (.slice (some ⟨g, off, none⟩) n cap3) R ∧ Below B w w6 ∧ Bx3 Z x' w6 by rw [hw6]; exact ⟨P5.out.1.below (below_drewN (Below.refl _ _) _), below_drewN P5.out.2.1 _, P5.out.2.2.below (below_drewN (Below.refl _ _) _)⟩)
                rw [← hw6]
                clear hw6 e5 d0 d1 d2 P5 hlt2 heq
                obtain ⟨d0, d1, d2⟩ := P6.out.2.2.cells
                obtain ⟨g', off', e, _, hcz⟩ := P6.out.1.ent HY.out
                injection e with e
                injection e with e1 e2
                subst e1 e2
                have f0 := hcz.c0
                have f1 := hcz.c1
                have f2 := hcz.c2
                have fz := P6.out.1.room.2
                clear hcz
                go_wp2_with fail
                go_roundw
                case rel => exact ⟨i + 1, by omega, by go_num, Lib.hid (by rw [hnx.out, HRS.out]; exact P6.out.1.set (by rw [← HN.out]; exact hpn) x'), Lib.hid (below_put3 P6.out.2.1 hBg _ _ _ _ _ _)⟩
                case measure => simp [intOf]; omega
              · rw [decide_eq_false hs] at heq
                have HRS := Lib.hid (show put x' R = R.take p ++ x' :: R.drop p by
                  have := put_new (x := x') (R := R) (fun z hz => by rw [HP.out, HY.out] at hz; injection hz with hz; rw [← hz]; exact hs)
                  rwa [HP.out] at this)
                clear hs
                go_wp2_with fail
                go_quiet (fail)
                obtain ⟨w6, hw6⟩ : ∃ w6, w6 = w5.drewN nq := ⟨_, rfl⟩
                have P6 := Lib.hid (show OwnE w6 B (.slice (some ⟨g, off, none⟩) n cap3) R ∧ Below B w w6 ∧ Bx3 Z x' w6 by rw [hw6]; exact ⟨P5.out.1.below (below_drewN (Below.refl _ _) _), below_drewN P5.out.2.1 _, P5.out.2.2.below (below_drewN (Below.refl _ _) _)⟩)
                rw [← hw6]
                clear hw6 e5 d0 d1 d2 P5 hlt2 heq
                obtain ⟨hi, hz0, hz1, hz2⟩ := HI.out
                go_wp2_with (at_builtin; refine wpList_append_off rfl (.tmp 55) (.tmp 57) 22 rfl B 38 i0 _ 3 40 Tryd.underlying22 hi hz0 hz1 hz2 rfl (.slice (some ⟨g, off, none⟩) n cap3) n (ecells R) rfl ?c1 (.slice (some ⟨w6.heap.size, 0, none⟩) 1 1) rfl 1 noEnt.vals ?c2 ?c3 ?c4 ?c5 ?_)
                case c1 => have := P6.out.1; unfold OwnE at this; rw [← HN.out] at this; exact OffRow.allocd this _
                case c2 => exact src_block (size := 3) (cs := #[.string (bs []), .string (bs []), .bool false]) Tryd.underlying22 (heap_new _ _) 1 1 rfl (by intro u hu; simp at hu; rcases hu with rfl | rfl | rfl <;> rfl)
                case c3 => unfold maxLen; omega
                case c4 => omega
                case c5 => have := P6.out.2.1.size; rw [← HBW.out] at this; simp; omega
                intro v7 w7 hr7 hg7 hat7
                have O7 : OwnE w7 B v7 (R ++ [noEnt]) := by
                  unfold OwnE
                  rw [ecells_append, List.length_append, ← HN.out]
                  exact hr7
                obtain ⟨a7, cap7, hv7⟩ := O7.slice
                rw [List.length_append, ← HN.out] at hv7
                simp only [List.length_cons, List.length_nil, Nat.zero_add] at hv7
                subst hv7
                obtain ⟨y7, hy7⟩ : ∃ y7, (R ++ [noEnt])[p]? = some y7 := ⟨_, List.getElem?_eq_getElem (by rw [List.length_append, ← HN.out]; simp; omega)⟩
                obtain ⟨g7, off7, rfl, hBg7, _⟩ := O7.ent hy7
                have hZt : Z < w6.heap.size := heap_lt P6.out.2.2
                have hgZ : g7 ≠ Z := by
                  rcases hat7 with h | h
                  · have := HVZ.out g7 h.symm
                    omega
                  · injection h with h
                    simp at h
                    omega
                have Q7 := Lib.hid (show OwnE w7 B (.slice (some ⟨g7, off7, none⟩) (n + 1) cap7) ((R ++ [noEnt]).take (n + 1) ++ R.drop n) ∧ Below B w w7 ∧ Bx3 Z x' w7 by
                  refine ⟨?_, ?_, ?_⟩
                  · rw [List.take_of_length_le (by rw [List.length_append, ← HN.out]; simp), List.drop_eq_nil_of_le (by rw [← HN.out]; exact Nat.le_refl _), List.append_nil]
                    exact O7
                  · exact (P6.out.2.1.alloc (by have := P6.out.2.1.size; rw [← HBW.out] at this; exact this) _).grown hg7 (by have := P6.out.2.1.size; rw [← HBW.out] at this; simp; omega) (fun k hk => (OffRow.lt P6.out.1 k hk).1)
                  · unfold Bx3
                    rw [hg7.block Z (by simp; omega) (fun e => by have := HVZ.out Z e.symm; omega), Below.heap_alloc _ _ _ hZt]
                    exact P6.out.2.2)
                have HG7 := Lib.hid (And.intro hgZ hBg7)
                clear hr7 hg7 hat7 O7 hy7 hBg7 hgZ hi hz0 hz1 hz2 hZt
                go_wp2_with fail
                go_loopw [7] (fun kv wk => ∃ k : Nat, p ≤ k ∧ k ≤ n ∧ kv = .int .i64 k ∧ Hid (OwnE wk B (.slice (some ⟨g7, off7, none⟩) (n + 1) cap7) ((R ++ [noEnt]).take (k + 1) ++ R.drop k)) ∧ Hid (Below B w wk) ∧ Hid (Bx3 Z x' wk)) (fun kv wk => (intOf kv).toNat)
                case atStart => exact ⟨n, by omega, Nat.le_refl _, by go_num, Lib.hid Q7.out.1, Lib.hid Q7.out.2.1, Lib.hid Q7.out.2.2⟩
                case round =>
                  obtain ⟨k, hpk, hkn, rfl, hOk, hBk, hXk⟩ := hrel
                  obtain ⟨wk, hwk⟩ : ∃ wk, wk = wr := ⟨_, rfl⟩
                  subst hwk
                  have hlk := Lib.hid (show ((R ++ [noEnt]).take (k + 1) ++ R.drop k).length = n + 1 by
                    rw [List.length_append, List.length_take, List.length_append, List.length_drop, ← HN.out]; simp; omega)
                  obtain ⟨y8, hy8⟩ : ∃ y8, ((R ++ [noEnt]).take (k + 1) ++ R.drop k)[k]? = some y8 := ⟨_, List.getElem?_eq_getElem (by rw [hlk.out]; omega)⟩
                  obtain ⟨g8, off8, e8, _, hc8⟩ := hOk.out.ent hy8
                  injection e8 with e8
                  injection e8 with e1 e2
                  subst e1 e2
                  have f0 := hc8.c0
                  have f1 := hc8.c1
                  have f2 := hc8.c2
                  have fz := hOk.out.room.2
                  obtain ⟨d0, d1, d2⟩ := hXk.out.cells
                  clear hc8 hy8
                  by_cases hkp : p < k
                  · obtain ⟨j, hj⟩ : ∃ j : Nat, (k : Int) - 1 = (j : Int) := ⟨k - 1, by omega⟩
                    have hjk := Lib.hid (show k - 1 = j ∧ 0 < k from ⟨by omega, by omega⟩)
                    have hjn : j < n + 1 := by omega
                    have hjw : IntKind.i64.wrap (j : Int) = (j : Int) := IntWalk.i64_in _ (by omega)
                    obtain ⟨y9, hy9⟩ : ∃ y9, R[j]? = some y9 := ⟨_, List.getElem?_eq_getElem (by rw [← HN.out]; omega)⟩
                    have hy9' : ((R ++ [noEnt]).take (k + 1) ++ R.drop k)[j]? = some y9 := by
                      rw [List.getElem?_append_left (by rw [List.length_take, List.length_append, ← HN.out]; simp; omega), List.getElem?_take, if_pos (by omega), List.getElem?_append_left (by rw [← HN.out]; omega), hy9]
                    obtain ⟨g9, off9, e9, _, hc9⟩ := hOk.out.ent hy9'
                    injection e9 with e9
                    injection e9 with e1 e2
                    subst e1 e2
                    have h0 := hc9.c0
                    have h1 := hc9.c1
                    have h2 := hc9.c2
                    have HST := Lib.hid (shift_step (R := R) (z := noEnt) (y := y9) hjk.out.2 (by rw [← HN.out]; exact hkn) (by rw [hjk.out.1]; exact hy9))
                    clear hc9 hy9 hy9'
                    go_wp2_with fail
                    go_roundw
                    case rel => exact ⟨j, by omega, by omega, by go_num, Lib.hid (by
                      have := hOk.out.set (k := k) (by rw [hlk.out]; omega) y9
                      rw [HST.out] at this
                      rw [show j + 1 = k by have := hjk.out; omega]
                      rw [show k - 1 = j by have := hjk.out; omega] at this
                      exact this), Lib.hid (below_put3 hBk.out HG7.out.2 _ _ _ _ _ _), Lib.hid (by
                      unfold Bx3
                      rw [heap_set_other HG7.out.1.symm, heap_set_other HG7.out.1.symm, heap_set_other HG7.out.1.symm]
                      exact hXk.out)⟩
                    case measure => simp [intOf]; omega
                  · obtain rfl : k = p := by omega
                    have HEN := Lib.hid (shift_end (R := R) (z := noEnt) (x := x') (k := k) (by rw [← HN.out]; exact hkn))
                    have hkn1 : k < n + 1 := by omega
                    go_wp2_with fail
                    go_roundw
                    case rel => exact ⟨i + 1, by omega, by go_num, Lib.hid (by
                      have := hOk.out.set (k := k) (by rw [hlk.out]; omega) x'
                      rw [HEN.out, ← HRS.out, ← hnx.out] at this
                      exact this), Lib.hid (below_put3 hBk.out HG7.out.2 _ _ _ _ _ _)⟩
                    case measure => simp [intOf]; omega
          · have HP := Lib.hid (place_first (key := x'.key) (R := R) (p := p) (by rw [← HN.out]; exact hp) hA.out (fun z hz => by have := (List.getElem?_eq_some_iff.1 hz).1; have := HN.out; omega))
            have HRS := Lib.hid (show put x' R = R.take p ++ x' :: R.drop p by
              have := put_new (x := x') (R := R) (fun z hz => by rw [HP.out] at hz; have := (List.getElem?_eq_some_iff.1 hz).1; have := HN.out; omega)
              rwa [HP.out] at this)
            have hpn' : decide ((p : Int) < (n : Int)) = false := decide_eq_false (by omega)
            go_wp2_with fail
            go_quiet (fail)
            obtain ⟨w5, hw5⟩ : ∃ w5, w5 = wq.drewN nq := ⟨_, rfl⟩
            have P5 := Lib.hid (show OwnE w5 B (.slice a3 n cap3) R ∧ Below B w w5 ∧ Bx3 Z x' w5 by rw [hw5]; exact ⟨PQ.out.1.below (below_drewN (Below.refl _ _) _), below_drewN PQ.out.2.1 _, PQ.out.2.2.below (below_drewN (Below.refl _ _) _)⟩)
            rw [← hw5]
            clear hw5 d0 d1 d2 PQ
            go_wp2_with fail
            go_quiet (fail)
            obtain ⟨w6, hw6⟩ : ∃ w6, w6 = w5.drewN nq := ⟨_, rfl⟩
            have P6 := Lib.hid (show OwnE w6 B (.slice a3 n cap3) R ∧ Below B w w6 ∧ Bx3 Z x' w6 by rw [hw6]; exact ⟨P5.out.1.below (below_drewN (Below.refl _ _) _), below_drewN P5.out.2.1 _, P5.out.2.2.below (below_drewN (Below.refl _ _) _)⟩)
            rw [← hw6]
            clear hw6 P5 hpn'
            obtain ⟨hi, hz0, hz1, hz2⟩ := HI.out
            go_wp2_with (at_builtin; refine wpList_append_off rfl (.tmp 55) (.tmp 57) 22 rfl B 38 i0 _ 3 40 Tryd.underlying22 hi hz0 hz1 hz2 rfl (.slice a3 n cap3) n (ecells R) rfl ?c1 (.slice (some ⟨w6.heap.size, 0, none⟩) 1 1) rfl 1 noEnt.vals ?c2 ?c3 ?c4 ?c5 ?_)
            case c1 => have := P6.out.1; unfold OwnE at this; rw [← HN.out] at this; exact OffRow.allocd this _
            case c2 => exact src_block (size := 3) (cs := #[.string (bs []), .string (bs []), .bool false]) Tryd.underlying22 (heap_new _ _) 1 1 rfl (by intro u hu; simp at hu; rcases hu with rfl | rfl | rfl <;> rfl)
            case c3 => unfold maxLen; omega
            case c4 => omega
            case c5 => have := P6.out.2.1.size; rw [← HBW.out] at this; simp; omega
            intro v7 w7 hr7 hg7 hat7
            have O7 : OwnE w7 B v7 (R ++ [noEnt]) := by
              unfold OwnE
              rw [ecells_append, List.length_append, ← HN.out]
              exact hr7
            obtain ⟨a7, cap7, hv7⟩ := O7.slice
            rw [List.length_append, ← HN.out] at hv7
            simp only [List.length_cons, List.length_nil, Nat.zero_add] at hv7
            subst hv7
            obtain ⟨y7, hy7⟩ : ∃ y7, (R ++ [noEnt])[p]? = some y7 := ⟨_, List.getElem?_eq_getElem (by rw [List.length_append, ← HN.out]; simp; omega)⟩
            obtain ⟨g7, off7, rfl, hBg7, _⟩ := O7.ent hy7
            have hZt : Z < w6.heap.size := heap_lt P6.out.2.2
            have hgZ : g7 ≠ Z := by
              rcases hat7 with h | h
              · have := HVZ.out g7 h.symm
                omega
              · injection h with h
                simp at h
                omega
            have Q7 := Lib.hid (show OwnE w7 B (.slice (some ⟨g7, off7, none⟩) (n + 1) cap7) ((R ++ [noEnt]).take (n + 1) ++ R.drop n) ∧ Below B w w7 ∧ Bx3 Z x' w7 by
              refine ⟨?_, ?_, ?_⟩
              · rw [List.take_of_length_le (by rw [List.length_append, ← HN.out]; simp), List.drop_eq_nil_of_le (by rw [← HN.out]; exact Nat.le_refl _), List.append_nil]
                exact O7
              · exact (P6.out.2.1.alloc (by have := P6.out.2.1.size; rw [← HBW.out] at this; exact this) _).grown hg7 (by have := P6.out.2.1.size; rw [← HBW.out] at this; simp; omega) (fun k hk => (OffRow.lt P6.out.1 k hk).1)
              · unfold Bx3
                rw [hg7.block Z (by simp; omega) (fun e => by have := HVZ.out Z e.symm; omega), Below.heap_alloc _ _ _ hZt]
                exact P6.out.2.2)
            have HG7 := Lib.hid (And.intro hgZ hBg7)
            clear hr7 hg7 hat7 O7 hy7 hBg7 hgZ hi hz0 hz1 hz2 hZt
            go_wp2_with fail
            go_loopw [7] (fun kv wk => ∃ k : Nat, p ≤ k ∧ k ≤ n ∧ kv = .int .i64 k ∧ Hid (OwnE wk B (.slice (some ⟨g7, off7, none⟩) (n + 1) cap7) ((R ++ [noEnt]).take (k + 1) ++ R.drop k)) ∧ Hid (Below B w wk) ∧ Hid (Bx3 Z x' wk)) (fun kv wk => (intOf kv).toNat)
            case atStart => exact ⟨n, by omega, Nat.le_refl _, by go_num, Lib.hid Q7.out.1, Lib.hid Q7.out.2.1, Lib.hid Q7.out.2.2⟩
            case round =>
              obtain ⟨k, hpk, hkn, rfl, hOk, hBk, hXk⟩ := hrel
              obtain ⟨wk, hwk⟩ : ∃ wk, wk = wr := ⟨_, rfl⟩
              subst hwk
              have hlk := Lib.hid (show ((R ++ [noEnt]).take (k + 1) ++ R.drop k).length = n + 1 by
                rw [List.length_append, List.length_take, List.length_append, List.length_drop, ← HN.out]; simp; omega)
              obtain ⟨y8, hy8⟩ : ∃ y8, ((R ++ [noEnt]).take (k + 1) ++ R.drop k)[k]? = some y8 := ⟨_, List.getElem?_eq_getElem (by rw [hlk.out]; omega)⟩
              obtain ⟨g8, off8, e8, _, hc8⟩ := hOk.out.ent hy8
              injection e8 with e8
              injection e8 with e1 e2
              subst e1 e2
              have f0 := hc8.c0
              have f1 := hc8.c1
              have f2 := hc8.c2
              have fz := hOk.out.room.2
              obtain ⟨d0, d1, d2⟩ := hXk.out.cells
              clear hc8 hy8
              by_cases hkp : p < k
              · exact absurd hkp (by omega)
              · obtain rfl : k = p := by omega
                have HEN := Lib.hid (shift_end (R := R) (z := noEnt) (x := x') (k := k) (by rw [← HN.out]; exact hkn))
                have hkn1 : k < n + 1 := by omega
                go_wp2_with fail
                go_roundw
                case rel => exact ⟨i + 1, by omega, by go_num, Lib.hid (by
                  have := hOk.out.set (k := k) (by rw [hlk.out]; omega) x'
                  rw [HEN.out, ← HRS.out, ← hnx.out] at this
                  exact this), Lib.hid (below_put3 hBk.out HG7.out.2 _ _ _ _ _ _)⟩
                case measure => simp [intOf]; omega
    · obtain rfl : i = len := by omega
      have hR := Lib.hid (show rising (T.take i) = rising T by rw [List.take_of_length_le (by rw [hT.out.1]; exact Nat.le_refl _)])
      obtain ⟨a3, cap3, rfl⟩ := hO.out.slice
      go_wp2_with fail
      go_ret
      have h1 := hO.out
      rw [hR.out] at h1 ⊢
      exact ⟨⟨a3, cap3, rfl, h1.is rfl, h1.len_cap⟩, hBl.out⟩
theorem law_rising (a : Option Addr) (len cap : Nat) (T : List Ent) (w : World) (hT : Hid (IsE w a len T)) (hl : len ≤ 3001) (hs : Hid (∀ x ∈ T, x.key.length ≤ 60000 ∧ x.val.length ≤ 60000)) :
    Calls Tryd.prog 9 #[.slice a len cap] w fun e w' => (∃ a' c, e = .returned (.slice a' (rising T).length c) ∧ IsE w' a' (rising T).length (rising T)) ∧ Below w.heap.size w w' :=
  (law_rising_cap a len cap T w hT hl hs).mono fun _ _ ⟨⟨a', c, h1, h2, _⟩, h3⟩ => ⟨⟨a', c, h1, h2⟩, h3⟩
end Go.Proofs.YteejldddgogbkaaDoor
/- Slices of entries that come in. -/
set_option linter.unusedVariables false
set_option maxRecDepth 100000
set_option maxRecDepth 100000
namespace Go.Proofs.YteejldddgogbkaaDoor
open Go.ChangeShapes Go.WideShapes Go.Deep
open Go.RowKit (Below)

/-- What is known of a slice of entries that came in. -/
structure InE (w : World) (a : Option Addr) (len cap : Nat) (T : List Ent) : Prop where
  is : IsE w a len T
  big : len ≤ 9223372036854775807
  room : len ≤ cap
  fit : fitE T
section
variable {H : Type} {enc : TypeId × Value → H} {w : World} {base : Nat} {spare : Nat → Bool} {held : Bool}
/-- A struct of one-cell fields, field by field. -/
theorem fields_read {P : Program} {t : TypeId} {fs : Array Field} {fuel : Nat} {cs : List Value} {x : DataW H × List MemPlace} (hs : P.underlying t = some (.struct fs)) (hone : oneCellFields P fs = true) (hC : P.cellsOf t = fs.size)
    (h : DataW.trod enc P w base spare held fuel t cs = some x) : cs.length = fs.size ∧ ∃ n, ∀ (j : Nat) (f : Field), fs[j]? = some f → ∃ v y, cs[j]? = some v ∧ DataW.trod enc P w base spare held n f.type [v] = some y := by
  obtain ⟨xs, n, _, _, hlen, hxl, hg⟩ := DataW.trod_struct hs h
  refine ⟨hlen.trans hC, n, fun j f hj => ?_⟩
  obtain ⟨ho, hk⟩ := hone_of hone j f hj
  have hjs : j < fs.size := (Array.getElem?_eq_some_iff.1 hj).1
  have hjc : j < cs.length := by omega
  have hjx : j < xs.length := by omega
  have h1 := hg j f hj
  rw [ho, hk, List.getElem?_eq_getElem hjx] at h1
  have h2 : (cs.drop j).take 1 = [cs[j]] := by rw [List.drop_eq_getElem_cons hjc]; rfl
  rw [h2] at h1
  exact ⟨cs[j], xs[j], List.getElem?_eq_getElem hjc, h1⟩
theorem oneE : ∃ fs, Tryd.prog.underlying 38 = some (.struct fs) ∧ oneCellFields Tryd.prog fs = true ∧ Tryd.prog.cellsOf 38 = fs.size ∧ fs.size = 3 ∧ (fs[0]?.map (·.type)) = some 9 ∧ (fs[1]?.map (·.type)) = some 9 ∧ (fs[2]?.map (·.type)) = some 4 := ⟨_, Tryd.underlying38, by kernel_rfl, by kernel_rfl, by kernel_rfl, by kernel_rfl, by kernel_rfl, by kernel_rfl⟩
theorem map_some {α β : Type} {o : Option α} {f : α → β} {b : β} (h : o.map f = some b) : ∃ a, o = some a ∧ f a = b := by
  cases o with
  | none => cases h
  | some a => exact ⟨a, rfl, by injection h⟩
theorem string_field {n : Nat} {v : Value} {y : DataW H × List MemPlace} {t : TypeId} (ht : t = 9) (h : DataW.trod enc Tryd.prog w base spare held n t [v] = some y) : ∃ l : List UInt8, v = .string (bs l) ∧ l.length ≤ 9223372036854775807 := by
  subst ht
  obtain ⟨tx, hv, _, htx⟩ := DataW.trod_string Tryd.underlying9 h
  injection hv with hv _
  refine ⟨tx.data.toList, by rw [hv, bs_eq (s := tx) rfl]; rfl, ?_⟩
  have : tx.data.toList.length = tx.size := by rw [← Lib.size_eq]
  rw [this]
  unfold maxLen at htx
  omega
theorem ent_read {fuel : Nat} {cs : List Value} {x : DataW H × List MemPlace} (h : DataW.trod enc Tryd.prog w base spare held fuel 38 cs = some x) : ∃ e : Ent, cs = e.vals ∧ e.key.length ≤ 9223372036854775807 ∧ e.val.length ≤ 9223372036854775807 := by
  obtain ⟨fs, hs, hone, hC, h3, t0, t1, t2⟩ := oneE
  obtain ⟨hlen, n, hf⟩ := fields_read hs hone hC h
  obtain ⟨f0, e0, g0⟩ := map_some t0
  obtain ⟨f1, e1, g1⟩ := map_some t1
  obtain ⟨f2, e2, g2⟩ := map_some t2
  obtain ⟨v0, y0, c0, r0⟩ := hf 0 f0 e0
  obtain ⟨v1, y1, c1, r1⟩ := hf 1 f1 e1
  obtain ⟨v2, y2, c2, r2⟩ := hf 2 f2 e2
  obtain ⟨k, rfl, hk⟩ := string_field g0 r0
  obtain ⟨u, rfl, hu⟩ := string_field g1 r1
  rw [g2] at r2
  obtain ⟨g, hv, _⟩ := DataW.trod_bool Tryd.underlying4 r2
  injection hv with hv _
  subst hv
  refine ⟨⟨k, u, g⟩, ?_, hk, hu⟩
  match cs, hlen.trans h3 with
  | [x0, x1, x2], _ =>
    simp at c0 c1 c2
    subst c0 c1 c2
    rfl
/-- A slice of entries. -/
theorem ents_read {fuel : Nat} {cs : List Value} {x : DataW H × List MemPlace} (h : DataW.trod enc Tryd.prog w base spare held fuel 22 cs = some x) : ∃ a len cap T, cs = [.slice a len cap] ∧ InE w a len cap T := by
  rcases open_slice Tryd.underlying22 h with ⟨hcs, _⟩ | ⟨a, len, cap, m, n, D, Pl, hcs, _, hl, hm, hmm, _, hi⟩
  · exact ⟨none, 0, 0, [], hcs, IsE.nil _ _, by omega, Nat.le_refl _, fun x hx => by cases hx⟩
  · refine ⟨some a, len, cap, ?_⟩
    have hlm : len ≤ m := by rw [hmm]; split <;> omega
    obtain ⟨fs, _, _, hC, h3, _⟩ := oneE
    have hcell : ∀ i, i < len → ∃ e : Ent, (∀ j, j < 3 → w.cell? ((a.add (i * 3)).add j) = e.vals[j]?) ∧ e.key.length ≤ 9223372036854775807 ∧ e.val.length ≤ 9223372036854775807 := by
      intro i hil
      obtain ⟨cs', hc, ht⟩ := hi i (by omega)
      rw [hC, h3] at hc
      obtain ⟨_, hcl, hat⟩ := World.cells?_some hc
      obtain ⟨e, rfl, he⟩ := ent_read ht
      exact ⟨e, fun j hj => hat j hj, he⟩
    obtain ⟨V, hV⟩ := choose_lt (α := Ent) hcell
    refine ⟨(List.range len).map V, hcs, ?_, by unfold maxLen at hm; omega, hl, fun e he => ?_⟩
    · refine ⟨by simp, ?_⟩
      by_cases h0 : len = 0
      · subst h0
        exact ⟨0, 0, .inl rfl, fun k hk => absurd hk (by simp)⟩
      · obtain ⟨c0, _⟩ := hV 0 (by omega)
        have c00 := c0 0 (by omega)
        have ha : ∃ b off, a = ⟨b, off, none⟩ := by
          obtain ⟨b, off, spot⟩ := a
          have := World.cell?_spot (v := .string (bs (V 0).key)) c00
          have hs : spot = none := by simpa [Addr.add] using this
          subst hs
          exact ⟨b, off, rfl⟩
        obtain ⟨b, off, rfl⟩ := ha
        refine ⟨b, off, .inr rfl, fun k hk => ?_⟩
        have hk' : k < len := by simpa using hk
        obtain ⟨h1, _⟩ := hV k hk'
        have hg : ((List.range len).map V)[k] = V k := by simp
        rw [hg]
        have q0 := h1 0 (by omega)
        have q1 := h1 1 (by omega)
        have q2 := h1 2 (by omega)
        rw [addr_add, addr_add] at q0 q1 q2
        exact ⟨cell_block (v := .string (bs (V k).key)) q0, q0, q1, q2⟩
    · obtain ⟨i, hi, rfl⟩ := List.mem_map.1 he
      exact (hV i (by simpa using hi)).2
end
theorem open_ents {H : Type} {enc : TypeId × Value → H} {W : World} {d : DataW H} {p : List MemPlace} {a : Option Addr} {len cap : Nat} (h : DataW.Trod enc Tryd.prog W 0 (fun _ => true) true 22 (.slice a len cap) d p) : ∃ T, InE W a len cap T := by
  obtain ⟨fuel, hf⟩ := h
  obtain ⟨a', len', cap', T, hcs, hi⟩ := ents_read hf
  simp [Value.cells] at hcs
  obtain ⟨rfl, rfl, rfl⟩ := hcs
  exact ⟨T, hi⟩
end Go.Proofs.YteejldddgogbkaaDoor
