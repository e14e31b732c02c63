/- CrcSums: the sum of any texts is the document's, whatever they are cut into. For every input; no condition. -/
import Derived.Test.YtmpmkjanpnolaaaRows
import Derived.Test.YtmpmkjanpnolaaaAwake
import Derived.Test.YtmpmkjanpnolaaaRefPuts
import Derived.ChangeOld
import Derived.Below
import Derived.SliceStrings
import Derived.WalkKit
import Derived.ProofKit
import Derived.OpenShut
import Derived.ShutString
namespace Go.Proofs.Ytmpmkjanpnolaaa.crcSums
open Go.ChangeShapes Go.WideShapes Go.ChangeAt Go.RowKit
open Go.ChangeMaps (open_string shut_string)
set_option linter.unusedVariables false      -- a walk need not use every 'w<i>' (that an integer argument fits its kind)

theorem own : ownKnob Try.prog.godebug = none := by kernel_rfl
theorem laidOut : laidOutB Try.prog = true := by kernel_rfl

theorem rows_below {b off : Nat} {T : List ByteArray} {w w' : World} (h : RowS b off T w) (k : Below w.heap.size w w') : RowS b off T w' := by
  intro i hi
  obtain ⟨h1, h2⟩ := h i hi
  exact ⟨Nat.lt_of_lt_of_le h1 k.size, by rw [k.cell h1]; exact h2⟩
theorem take_sizes {T : List ByteArray} {k n : Nat} (hk : k < T.length) (h : ∀ s ∈ T.take k, s.size ≤ n) (h1 : (T.getD k ByteArray.empty).size ≤ n) : ∀ s ∈ T.take (k + 1), s.size ≤ n := by
  intro s hs
  rw [List.take_add_one, List.mem_append] at hs
  rcases hs with hs | hs
  · exact h s hs
  · rw [List.getElem?_eq_getElem hk] at hs
    have : s = T[k] := by simpa using hs
    rw [this]
    rw [List.getD_eq_getElem?_getD, List.getElem?_eq_getElem hk] at h1
    exact h1

set_option maxHeartbeats 1000000 in
theorem core (a : Option Addr) (b off len cap : Nat) (T : List ByteArray) (w : World) (hlen : Hid (len = T.length)) (hl : len ≤ 9223372036854775807) (hz : Hid (RowS b off T w)) (hab : Hid (len = 0 ∨ a = some ⟨b, off, none⟩)) :
    Calls Try.prog 3 #[.slice a len cap] w fun e w' => e = .returned (.bool true) ∧ Below w.heap.size w w' := by
  go_enter Try.func3, Try.ntmps3
  go_wp2_with fail
  go_loopw [3, 4] (fun x i wr => ∃ k : Nat, k ≤ len ∧ i = .int .i64 k ∧ x = .string (bs (joined (T.take k))) ∧ Hid ((joined (T.take k)).length ≤ 40000) ∧ Hid (∀ s ∈ T.take k, s.size ≤ 20000) ∧ wr = w) (fun x i wr => len - (intOf i).toNat)
  case atStart => exact ⟨0, by omega, rfl, rfl, Lib.hid (by simp [joined]), Lib.hid (by simp), rfl⟩
  case round =>
    obtain ⟨k, hk, rfl, rfl, hjl, hts, rfl⟩ := hrel
    by_cases hlt : k < len
    · have hkT : k < T.length := by rw [← hlen.out]; exact hlt
      obtain ⟨hb, c1⟩ := hz.out k hkT
      have ha : a = some ⟨b, off, none⟩ := by rcases hab.out with h | h; (omega); (exact h)
      have hnext := Lib.hid (joined_next T k hkT)
      have hts' := Lib.hid (fun h => take_sizes hkT hts.out h)
      clear hb
      generalize T.getD k ByteArray.empty = s at *
      obtain ⟨J, hJ⟩ : ∃ J, J = joined (T.take k) := ⟨_, rfl⟩
      rw [← hJ] at hjl hnext ⊢
      have HJ := Lib.hid hJ
      clear hJ
      subst ha
      by_cases hgo : s.size ≤ 20000 ∧ J.length ≤ 20000
      · obtain ⟨g1, g2⟩ := hgo
        have gj : (bs J).size ≤ 20000 := by rw [bs_size]; exact g2
        have hcat : bs J ++ s = bs (J ++ s.data.toList) := bs_eq (by rw [cat_list, bs_list])
        have hsum : ((bs J).size : Int) + (s.size : Int) ≤ 9223372036854775807 := by omega
        have hnl : (J ++ s.data.toList).length ≤ 40000 := by rw [List.length_append, ← Lib.size_eq]; omega
        have HNL := Lib.hid hnl
        clear hnl
        go_wp2_with fail
        go_roundw
        case rel => exact ⟨k + 1, by omega, by go_num, by rw [hnext.out], Lib.hid (by rw [hnext.out]; exact HNL.out), Lib.hid (hts'.out g1), trivial⟩
        case measure => simp [intOf]; omega
      · by_cases g1 : 20000 < s.size
        · go_wp2_with fail
          refine (law_awake wr).mono ?_
          rintro e w1 ⟨rfl, k1⟩
          go_wp2
          go_ret
          exact ⟨rfl, k1⟩
        · have g2 : (20000 : Int) < ((bs J).size : Int) := by rw [bs_size]; omega
          go_wp2_with fail
          refine (law_awake wr).mono ?_
          rintro e w1 ⟨rfl, k1⟩
          go_wp2
          go_ret
          exact ⟨rfl, k1⟩
    · obtain rfl : k = len := by omega
      have hall : T.take k = T := by rw [hlen.out, List.take_length]
      rw [hall] at hjl hts ⊢
      have hss := Lib.hid (show ∀ s ∈ T, s.size ≤ 140737488355328 from fun s h => Nat.le_trans (hts.out s h) (by omega))
      have hone : joined [bs (joined T)] = joined T := by simp [joined, bs_list]
      have HONE := Lib.hid hone
      clear hone hts hall
      go_wp2_with fail
      refine (ref_Sum (bs (joined T)) wr (by rw [bs_size]; exact Nat.le_trans hjl.out (by omega))).mono ?_
      rintro e w1 ⟨rfl, k1⟩
      rw [bs_list]
      have K1 := Lib.hid k1
      clear k1
      go_wp2_with fail
      refine (law_awake w1).mono ?_
      rintro e w2 ⟨rfl, k2⟩
      have K2 := Lib.hid (K1.out.trans (k2.mono K1.out.size))
      clear k2 K1
      go_wp2_with fail
      refine (crc_Sum a b off k cap T w2 hlen hl (Lib.hid (rows_below hz.out K2.out)) hss hab).mono ?_
      rintro e w3 ⟨rfl, rfl⟩
      have hrow := Lib.hid (row_new w2 [bs (joined T)] 9)
      go_wp2_with fail
      refine (crc_Sum (some ⟨w2.heap.size, 0, none⟩) w2.heap.size 0 1 1 [bs (joined T)] _ (Lib.hid rfl) (by omega) hrow (Lib.hid (by simp [bs_size]; exact Nat.le_trans hjl.out (by omega))) (Lib.hid (.inr rfl))).mono ?_
      rintro e w4 ⟨rfl, rfl⟩
      rw [HONE.out]
      go_wp2
      go_ret
      exact ⟨rfl, K2.out.alloc K2.out.size _⟩

/-- WHAT IS KNOWN OF A SLICE OF TEXTS THAT CAME IN. -/
def IsTexts (w : World) (a : Option Addr) (len : Nat) (T : List ByteArray) : Prop :=
  len = T.length ∧ ∃ b off, (len = 0 ∨ a = some ⟨b, off, none⟩) ∧ RowS b off T w

theorem take_get {α : Type} (l : List α) (d : α) (n k : Nat) (h : k < n) : (l.take n).getD k d = l.getD k d := by
  simp [List.getD_eq_getElem?_getD, List.getElem?_take, h]
theorem cell_block {w : World} {b o : Nat} {v : Value} (h : w.cell? ⟨b, o, none⟩ = some v) : b < w.heap.size := by
  rcases Nat.lt_or_ge b w.heap.size with h' | h'
  · exact h'
  · simp [World.cell?, Array.getElem?_eq_none h'] at h

theorem texts_is {w : World} {x : Addr} {len cap : Nat} {ss : List ByteArray} (hl : len ≤ cap) (hz : ss.length = cap) (hcell : ∀ i, i < ss.length → w.cell? (x.add i) = some (.string (ss.getD i ByteArray.empty))) :
    IsTexts w (some x) len (ss.take len) := by
  refine ⟨by rw [List.length_take]; omega, ?_⟩
  by_cases h0 : len = 0
  · subst h0
    exact ⟨0, 0, .inl rfl, fun k hk => absurd hk (by simp)⟩
  · obtain ⟨b, off, spot⟩ := x
    have hspot : spot = none := by simpa [Addr.add] using World.cell?_spot (hcell 0 (by omega))
    subst hspot
    refine ⟨b, off, .inr rfl, fun k hk => ?_⟩
    have hk' : k < len := by rw [List.length_take] at hk; omega
    have h1 := hcell k (by omega)
    rw [add_plain] at h1
    rw [take_get ss ByteArray.empty len k hk']
    exact ⟨cell_block h1, h1⟩

theorem walk (a : Option Addr) (len cap : Nat) (T : List ByteArray) (w : World) (h : IsTexts w a len T) (hl : len ≤ 9223372036854775807) :
    Calls Try.prog 3 #[.slice a len cap] w fun e w' => e = .returned (.bool true) ∧ Below w.heap.size w w' := by
  obtain ⟨e1, b1, off1, hab, hz⟩ := h
  exact core a b1 off1 len cap T w (Lib.hid e1) hl (Lib.hid hz) (Lib.hid hab)

/-! ### THE ROW's STEP: WRITTEN OUT: LEAVE IT -/
set_option maxRecDepth 100000 in
theorem lifted (os : Os) (started : os.Started) (H : Type) (enc : TypeId × Value → H) :
    ReturnsInHanded {} Try.checked os 3 .any (Rows.crcSumsSpec.pre6 enc Try.prog Try.f3 Rows.crcSumsRow.domain false) (Rows.crcSumsSpec.post enc Try.prog Try.f3 false true false false) := by
  refine returnsInHanded_of_change (C := Try.checked) own started (by kernel_rfl) Try.func3
    (ChangeSpec.witness6 (enc := enc) (C := Try.checked) false ⟨#[], #[.slice none 0 0], []⟩ 8 (by kernel_rfl) (by kernel_rfl) (by kernel_rfl) (by kernel_rfl)) ?_
  intro W base args ds gs before hval0 hW hcnd _
  have hval : ∀ (j : Nat) t v, Try.f3.params[j]? = some t → args[j]? = some v → Value.okWide Try.prog W .any base t v := hval0
  have hW' := hW
  obtain ⟨p, q, hA0, hV, rfl, hfz, hnd⟩ := hW
  have hA : DataW.TrodAll enc Try.prog W 0 (fun _ => true) true Try.f3.params.toList args.toList ds p := hA0
  rw [Try.params3] at hA hval
  obtain ⟨v0, vs0, d0, ds0, p0, q0, hargs, rfl, rfl, h0, r0⟩ := trodAll_cons hA
  obtain ⟨rfl, rfl, rfl⟩ := trodAll_nil r0
  obtain rfl : args = #[v0] := by cases args; simp_all
  obtain ⟨rfl, rfl⟩ := trodVars_none hV
  obtain ⟨a0, len0, cap0, rfl⟩ := okWide_slice Try.underlying22 (hval 0 22 v0 rfl rfl)
  have k0 := h0
  have lt0 : ∀ x ∈ p0, x.block < W.heap.size := by obtain ⟨m, hm⟩ := k0; exact DataW.trod_lt m _ _ _ hm
  obtain ⟨T, i0, hl0⟩ : ∃ T, IsTexts W a0 len0 T ∧ len0 ≤ 9223372036854775807 := by
    obtain ⟨fuel, hf⟩ := h0
    rcases open_strings Try.underlying22 Try.underlying9 (by kernel_rfl) hf with ⟨hcs, _⟩ | ⟨x, l, c, ss, hcs, _, hl, hm, hz, hx, hcell, hws⟩
    · simp [Value.cells] at hcs
      obtain ⟨rfl, rfl, rfl⟩ := hcs
      exact ⟨[], ⟨rfl, 0, 0, .inl rfl, fun k hk => absurd hk (by simp)⟩, by omega⟩
    · simp [Value.cells] at hcs
      obtain ⟨rfl, rfl, rfl⟩ := hcs
      have hz' : ss.length = cap0 := by simpa using hz
      have hm' : cap0 ≤ 9223372036854775807 := hm
      exact ⟨ss.take len0, texts_is hl hz' hcell, by omega⟩
  clear hA0 hval0
  simp only [List.append_nil] at hW'
  refine (walk a0 len0 cap0 T W i0 hl0).mono fun e W' ⟨he, bel⟩ => ?_
  subst he
  exact ⟨_, rfl, _, _, _, [], _, [], hW', trodAll_mk1 (shut_bool Try.underlying4 _), (trodAll_cons_mk (Below.trod laidOut (by kernel_rfl) (of_decide_eq_true (by kernel_rfl)) k0 bel lt0) trodAll_mk0), rfl, bel.frame _, fun h => by cases h⟩

theorem over : Rows.crcSumsRow.holds Try.pinned (OpenSpec.ofChange Rows.crcSumsSpec) :=
  OpenClaim.holds_of_wide 3 Try.f3 rfl rfl rfl rfl rfl rfl rfl ⟨rfl, rfl, rfl, rfl, rfl⟩ rfl rfl rfl rfl rfl (by kernel_rfl) Try.func3 (by kernel_rfl)
    (of_decide_eq_true (by kernel_rfl)) (by unfold Func.isWrapper; first | (rw [if_pos (by decide +kernel)]; kernel_rfl) | (rw [if_neg (by decide +kernel)]; exact ⟨rfl, rfl⟩))
    (fun os started H enc _ => lifted os started H enc)

/-- ████ THE STATEMENT ████ -/
theorem proved : Rows.CrcSumsSaid :=
  over
#print axioms proved
end Go.Proofs.Ytmpmkjanpnolaaa.crcSums
