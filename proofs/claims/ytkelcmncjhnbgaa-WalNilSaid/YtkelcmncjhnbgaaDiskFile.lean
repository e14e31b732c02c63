/- A file made sure; how many bytes it has; bytes read. -/
import Derived.Test.YtkelcmncjhnbgaaDiskStep
import Derived.Laws.BytesArg
set_option linter.unusedVariables false
set_option maxRecDepth 100000
namespace Go.Proofs.Ytkelcmncjhnbgaa
open Go.RowKit Go.Maps

/-- A slice of bytes has a length. -/
theorem row_slice {w : World} {v : Value} {n : Nat} {xs : List Value} (h : w.ownsRow 0 5 1 v n xs) : ∃ a cap, v = .slice a n cap ∧ n ≤ cap := by
  rcases h.2 with ⟨rfl, rfl⟩ | ⟨g, cap, cur, rfl, _, _, hc, _⟩
  · exact ⟨none, 0, rfl, Nat.le_refl _⟩
  · exact ⟨_, cap, rfl, hc⟩

theorem lay_settle {S : Nat → Prop} {w : World} {d mb : Nat} {es : List DE} {c : DC} (h : Lay S w d mb es c) (e0 : DE) (n : Int) (hf : findE n es = some e0) :
    Calls Try.prog 68 #[.pointer (some ⟨e0.fb, 0, none⟩)] w fun e w' => e = .returned (.tuple #[]) ∧ Lay S w' d mb (updE n { e0 with f := syncF e0.f } es) c ∧ Only (fun k => k = e0.fb) w w' := by
  obtain ⟨hm, hn⟩ := findE_mem hf
  obtain ⟨a, cap, hv, hc⟩ := row_slice (h.file e0 hm).2
  have g1 : w.cell? ⟨e0.fb, 1, none⟩ = some (.slice a e0.f.data.length cap) := by rw [h.fcell hm 1, ← hv]; rfl
  have g2 : w.cell? ⟨e0.fb, 2, none⟩ = some (.bool e0.f.sure) := h.fcell hm 2
  have g3 : w.cell? ⟨e0.fb, 3, none⟩ = some (.int .i64 (e0.f.sb : Int)) := h.fcell hm 3
  have f2 := h.ffree hm 2
  have f3 := h.ffree hm 3
  have hO : Only (fun k => k = e0.fb) w ((w.setCell ⟨e0.fb, 2, none⟩ (.bool true)).setCell ⟨e0.fb, 3, none⟩ (.int .i64 (e0.f.data.length : Int))) := (only_setD _).trans (only_setD _)
  have H := Lib.hid (Lay.turn (S' := S) (e' := { e0 with f := syncF e0.f }) h hf hn rfl (fun k hk h1 _ => hO.block k hk h1) ⟨by
      have := heap_set (o := 3) (heap_set (o := 2) (h.file e0 hm).1 (.bool true)) (.int .i64 (e0.f.data.length : Int))
      exact this, ownsRow_same (h.file e0 hm).2 fun g hg => by
        rw [heap_set_other ((h.ne_row hm hg).2.2 e0 hm), heap_set_other ((h.ne_row hm hg).2.2 e0 hm)]⟩ (fun g hg => .inl hg) (fun k hk => hk) (fun g hg => h.sr e0 hm g hg))
  have HO := Lib.hid hO
  clear h hv hf hn hm hO
  go_enter Try.func68, Try.ntmps68
  go_wp2
  go_end0
  exact ⟨rfl, H.out, HO.out⟩

theorem lay_Size_down {S : Nat → Prop} {w : World} {d mb : Nat} {es : List DE} {c : DC} (h : Lay S w d mb es c) (n : Int) (hd : c.down = true) :
    Calls Try.prog 28 #[.pointer (some ⟨d, 0, none⟩), .int .i64 n] w fun e w' => e = .returned (.tuple #[.int .i64 0, .int .i64 0, .int .i64 8]) ∧ ∃ m, w' = w.drewN m := by
  have hF := lay_find_down h n hd
  clear h hd
  go_enter Try.func28, Try.ntmps28
  go_wp2_with (go_at_call 48; refine hF.mono ?_; rintro e w' ⟨rfl, rfl⟩)
  go_ret3
  exact ⟨rfl, 0, rfl⟩
theorem disk_Size_nil (n : Int) (w : World) :
    Calls Try.prog 28 #[.pointer none, .int .i64 n] w fun e w' => e = .returned (.tuple #[.int .i64 0, .int .i64 0, .int .i64 8]) ∧ w = w' := by
  have hF := disk_find_nil n w
  go_enter Try.func28, Try.ntmps28
  go_wp2_with (go_at_call 48; refine hF.mono ?_; rintro e w' ⟨rfl, rfl⟩)
  go_ret3
  exact ⟨rfl, rfl⟩
theorem lay_Size_none {S : Nat → Prop} {w : World} {d mb : Nat} {es : List DE} {c : DC} (h : Lay S w d mb es c) (n : Int) (hw : (Lit.int .i64 n).wf = true) (hd : c.down = false) (hf : findE n es = none) :
    Calls Try.prog 28 #[.pointer (some ⟨d, 0, none⟩), .int .i64 n] w fun e w' => e = .returned (.tuple #[.int .i64 0, .int .i64 0, .int .i64 9]) ∧ ∃ m, w' = w.drewN m := by
  have hF := lay_find_none h n hw hd hf
  clear h hd hf
  go_enter Try.func28, Try.ntmps28
  go_wp2_with (go_at_call 48; refine hF.mono ?_; rintro e w' ⟨rfl, rfl⟩)
  go_ret3
  exact ⟨rfl, 0, rfl⟩
theorem lay_Size_some {S : Nat → Prop} {w : World} {d mb : Nat} {es : List DE} {c : DC} (h : Lay S w d mb es c) (n : Int) (hw : (Lit.int .i64 n).wf = true) (hd : c.down = false) (e0 : DE) (hf : findE n es = some e0) :
    Calls Try.prog 28 #[.pointer (some ⟨d, 0, none⟩), .int .i64 n] w fun e w' => e = .returned (.tuple #[.int .i64 (e0.f.data.length : Int), .int .i64 e0.f.t, .int .i64 0]) ∧ ∃ m, w' = w.drewN m := by
  have hF := lay_find_some h n hw hd e0 hf
  obtain ⟨hm, hn⟩ := findE_mem hf
  obtain ⟨a, cap, hv, hc⟩ := row_slice (h.file e0 hm).2
  have g1 : w.cell? ⟨e0.fb, 1, none⟩ = some (.slice a e0.f.data.length cap) := by rw [h.fcell hm 1, ← hv]; rfl
  have g0 : w.cell? ⟨e0.fb, 0, none⟩ = some (.int .i64 e0.f.t) := h.fcell hm 0
  clear h hd hf hn hm hv
  go_enter Try.func28, Try.ntmps28
  go_wp2_with (go_at_call 48; refine hF.mono ?_; rintro e w' ⟨rfl, rfl⟩)
  go_quiet (fail)
  go_wp2
  go_ret3
  exact ⟨rfl, _, rfl⟩

/-! Read -/
theorem bytes_are (l : List UInt8) : strOfNums (l.map fun b => (b.toNat : Int)) = bs l := by
  unfold strOfNums bs
  congr 2
  rw [List.map_map]
  conv => rhs; rw [← List.map_id l]
  apply List.map_congr_left
  intro x _
  simp
/-- Bytes of a row, as a string. -/
theorem conv_row {w : World} {v : Value} {n : Nat} {l : List UInt8} (h : w.ownsRow 0 5 1 v n (l.map byteV)) (i m : Nat) (hi : i + m ≤ n) {g : Addr} {cap cap' : Nat} (hv : v = .slice (some g) n cap) :
    (convert 34 9 (.slice (some (g.add i)) m cap')).run Try.prog w = .ok (.string (bs ((l.drop i).take m))) w := by
  rcases h.2 with ⟨rfl, h0⟩ | ⟨g', cap'', cur, hv', _, hg, hle, hmx, hsz, htk⟩
  · cases hv
  · rw [hv] at hv'
    injection hv' with h1 h2 h3
    injection h1 with h1
    subst h1
    have hlen : l.length = n := by have := h.1; simpa using this
    rw [addr_add]
    have := run_convert_bytes_arg (P := Try.prog) w 34 5 Try.underlying34 Try.underlying5 g' (0 + i) m cap' (((l.drop i).take m).map fun b => (b.toNat : Int)) (by rw [List.length_map, List.length_take, List.length_drop]; omega) (fun j hj => by
      simp only [World.cell?, hg]
      have h5 : (l.map byteV)[i + j]? = cur.toList[i + j]? := by
        rw [← htk, Nat.mul_one, List.getElem?_take, if_pos (show i + j < n by omega)]
      have h6 : cur[0 + i + j]? = some (byteV (l[i + j]'(by omega))) := by
        rw [show 0 + i + j = i + j by omega]
        have := h5.symm
        rw [List.getElem?_map, List.getElem?_eq_getElem (show i + j < l.length by omega)] at this
        simpa using this
      rw [h6]
      simp [byteV, List.getD_eq_getElem?_getD, List.getElem?_take, hj, List.getElem?_drop, List.getElem?_eq_getElem (show i + j < l.length by omega)]) 9 Try.underlying9
    rw [this, bytes_are]
theorem lay_Read_down {S : Nat → Prop} {w : World} {d mb : Nat} {es : List DE} {c : DC} (h : Lay S w d mb es c) (n i m : Int) (hd : c.down = true) :
    Calls Try.prog 29 #[.pointer (some ⟨d, 0, none⟩), .int .i64 n, .int .i64 i, .int .i64 m] w fun e w' => e = .returned (.tuple #[.string (bs []), .int .i64 8]) ∧ w = w' := by
  have hF := lay_find_down h n hd
  clear h hd
  go_enter Try.func29, Try.ntmps29
  go_wp2_with (go_at_call 48; refine hF.mono ?_; rintro e w' ⟨rfl, rfl⟩)
  go_ret2
  exact ⟨rfl, rfl⟩
theorem disk_Read_nil (n i m : Int) (w : World) :
    Calls Try.prog 29 #[.pointer none, .int .i64 n, .int .i64 i, .int .i64 m] w fun e w' => e = .returned (.tuple #[.string (bs []), .int .i64 8]) ∧ w = w' := by
  have hF := disk_find_nil n w
  go_enter Try.func29, Try.ntmps29
  go_wp2_with (go_at_call 48; refine hF.mono ?_; rintro e w' ⟨rfl, rfl⟩)
  go_ret2
  exact ⟨rfl, rfl⟩
theorem lay_Read_none {S : Nat → Prop} {w : World} {d mb : Nat} {es : List DE} {c : DC} (h : Lay S w d mb es c) (n i m : Int) (hw : (Lit.int .i64 n).wf = true) (hd : c.down = false) (hf : findE n es = none) :
    Calls Try.prog 29 #[.pointer (some ⟨d, 0, none⟩), .int .i64 n, .int .i64 i, .int .i64 m] w fun e w' => e = .returned (.tuple #[.string (bs []), .int .i64 9]) ∧ w = w' := by
  have hF := lay_find_none h n hw hd hf
  clear h hd hf
  go_enter Try.func29, Try.ntmps29
  go_wp2_with (go_at_call 48; refine hF.mono ?_; rintro e w' ⟨rfl, rfl⟩)
  go_ret2
  exact ⟨rfl, rfl⟩
theorem lay_Read_no {S : Nat → Prop} {w : World} {d mb : Nat} {es : List DE} {c : DC} (h : Lay S w d mb es c) (n i m : Int) (hw : (Lit.int .i64 n).wf = true) (hd : c.down = false) (e0 : DE) (hf : findE n es = some e0) (hl : e0.f.data.length ≤ 4611686018427387904)
    (hi : i ≤ 9223372036854775807) (hno : i < 0 ∨ m < 0 ∨ (e0.f.data.length : Int) - i < m) :
    Calls Try.prog 29 #[.pointer (some ⟨d, 0, none⟩), .int .i64 n, .int .i64 i, .int .i64 m] w fun e w' => e = .returned (.tuple #[.string (bs []), .int .i64 1]) ∧ w = w' := by
  have hF := lay_find_some h n hw hd e0 hf
  obtain ⟨hm, hn⟩ := findE_mem hf
  obtain ⟨a, cap, hv, hc⟩ := row_slice (h.file e0 hm).2
  have g1 : w.cell? ⟨e0.fb, 1, none⟩ = some (.slice a e0.f.data.length cap) := by rw [h.fcell hm 1, ← hv]; rfl
  clear h hd hf hn hm hv
  by_cases h0 : i < 0
  · go_enter Try.func29, Try.ntmps29
    go_wp2_with (go_at_call 48; refine hF.mono ?_; rintro e w' ⟨rfl, rfl⟩)
    go_ret2
    exact ⟨rfl, rfl⟩
  · by_cases h1 : m < 0
    · have h0' : 0 ≤ i := by omega
      go_enter Try.func29, Try.ntmps29
      go_wp2_with (go_at_call 48; refine hF.mono ?_; rintro e w' ⟨rfl, rfl⟩)
      go_ret2
      exact ⟨rfl, rfl⟩
    · have h0' : 0 ≤ i := by omega
      have h1' : 0 ≤ m := by omega
      have h2' : (e0.f.data.length : Int) - i < m := by omega
      clear hno h0 h1
      go_enter Try.func29, Try.ntmps29
      go_wp2_with (go_at_call 48; refine hF.mono ?_; rintro e w' ⟨rfl, rfl⟩)
      go_ret2
      exact ⟨rfl, rfl⟩
set_option maxRecDepth 100000 in
theorem lay_Read {S : Nat → Prop} {w : World} {d mb : Nat} {es : List DE} {c : DC} (h : Lay S w d mb es c) (n : Int) (i m : Nat) (hw : (Lit.int .i64 n).wf = true) (hd : c.down = false) (e0 : DE) (hf : findE n es = some e0) (hl : e0.f.data.length ≤ 4611686018427387904)
    (hi : i + m ≤ e0.f.data.length) :
    Calls Try.prog 29 #[.pointer (some ⟨d, 0, none⟩), .int .i64 n, .int .i64 (i : Int), .int .i64 (m : Int)] w fun e w' => e = .returned (.tuple #[.string (bs ((e0.f.data.drop i).take m)), .int .i64 0]) ∧ w = w' := by
  have hF := lay_find_some h n hw hd e0 hf
  obtain ⟨hm, hn⟩ := findE_mem hf
  have hrow := (h.file e0 hm).2
  have g1 : w.cell? ⟨e0.fb, 1, none⟩ = some e0.v := h.fcell hm 1
  have i0 : (0 : Int) ≤ i := by omega
  have m0 : (0 : Int) ≤ m := by omega
  have hno : (m : Int) ≤ (e0.f.data.length : Int) - i := by omega
  have hdata : e0.f.data.length = e0.f.data.length := rfl
  rcases hrow.2 with ⟨hv, h0⟩ | ⟨g, cap, cur, hv, _, hg, hle, hmx, _⟩
  · rw [hv] at g1
    have hi0 : i = 0 := by omega
    have hm0 : m = 0 := by omega
    subst hi0 hm0
    have hcv : ∀ W : World, (convert 34 9 (.slice none 0 0)).run Try.prog W = .ok (.string (bs [])) W := fun W => run_convert_bytes_nil (P := Try.prog) W 34 5 Try.underlying34 Try.underlying5 0 0 9 Try.underlying9
    have HE := Lib.hid (show bs ((e0.f.data.drop 0).take 0) = bs [] by simp)
    rw [h0] at hno
    clear hdata h hd hf hn hm hv hrow h0 hi i0 m0
    go_enter Try.func29, Try.ntmps29
    go_wp2_with (go_at_call 48; refine hF.mono ?_; rintro e w' ⟨rfl, rfl⟩)
    go_ret2
    exact ⟨ret2s HE.out rfl, rfl⟩
  · have hcv := conv_row hrow i m hi (cap' := cap - i) hv
    rw [addr_add, Nat.zero_add] at hcv
    rw [hv] at g1
    have hcap : cap ≤ 9223372036854775807 := by unfold maxLen at hmx; omega
    by_cases hic : i < cap
    · have hic' : (i : Int) < cap := by omega
      clear hdata h hd hf hn hm hv hrow hg hic
      go_enter Try.func29, Try.ntmps29
      go_wp2_with (go_at_call 48; refine hF.mono ?_; rintro e w' ⟨rfl, rfl⟩)
      go_ret2
      exact ⟨rfl, rfl⟩
    · have hm0 : m = 0 := by omega
      have hi0 : i = cap := by omega
      subst hm0 hi0
      have hcv2 := conv_row hrow 0 0 (by omega) (cap' := 0) hv
      rw [addr_add, Nat.zero_add] at hcv2
      clear hdata h hd hf hn hm hv hrow hg hic hcv
      go_enter Try.func29, Try.ntmps29
      go_wp2_with (go_at_call 48; refine hF.mono ?_; rintro e w' ⟨rfl, rfl⟩)
      go_ret2
      exact ⟨ret2s (by simp) rfl, rfl⟩
end Go.Proofs.Ytkelcmncjhnbgaa
