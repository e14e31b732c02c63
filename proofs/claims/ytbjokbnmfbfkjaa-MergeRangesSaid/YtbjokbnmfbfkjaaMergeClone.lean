/- Copies of slices of entries and of cursors. -/
import Derived.Test.YtbjokbnmfbfkjaaMergeLive
set_option linter.unusedVariables false
set_option maxRecDepth 100000
namespace Go.Proofs.Ytbjokbnmfbfkjaa
open Go.RowKit

/-- A slice of entries, as the source of an append. -/
theorem src_ents {w : World} {a : Option Addr} {n : Nat} (c : Nat) {T : List Ent} (h : IsE w a n T) : Go.Src Try.prog 3 22 (.slice a n c) n (ecells T) w := by
  obtain ⟨hn, b, off, hab, hz⟩ := h
  cases a with
  | none =>
    have h0 : n = 0 := hab.resolve_right (by simp)
    subst h0
    obtain rfl : T = [] := List.eq_nil_of_length_eq_zero hn.symm
    exact Src.ofNil w Try.underlying22 c
  | some x =>
    refine Src.ofSlice w Try.underlying22 x n c _ (by rw [ecells_len, hn]) (fun j u hu => ?_) (fun v hv => ?_)
    · have hj : j < T.length * 3 := by rw [← ecells_len]; exact (List.getElem?_eq_some_iff.1 hu).1
      obtain ⟨i, q, hq, rfl⟩ : ∃ i q, q < 3 ∧ j = i * 3 + q := ⟨j / 3, j % 3, by omega, by omega⟩
      have hi : i < T.length := by omega
      have hx := List.getElem?_eq_getElem hi
      rw [ecells_at T i q _ hq hx] at hu
      have := hab.resolve_left (by omega)
      injection this with this
      subst this
      rw [addr_add, ← Nat.add_assoc]
      have hc := hz i hi
      match q, hq with
      | 0, _ => rw [← hu]; exact hc.c0
      | 1, _ => rw [← hu]; exact hc.c1
      | 2, _ => rw [← hu]; exact hc.c2
    · obtain ⟨e, _, hv⟩ := List.mem_flatMap.1 hv
      simp [Ent.vals] at hv
      rcases hv with rfl | rfl | rfl <;> rfl
theorem off_empty (w : World) {B : Nat} (hB : B ≤ w.heap.size) (e : TypeId) (size : Nat) : OffRow (w.alloc (.cells #[] e)) B e size (.slice (some ⟨w.heap.size, 0, none⟩) 0 0) 0 [] :=
  ⟨by simp, .inr ⟨w.heap.size, 0, 0, #[], rfl, hB, heap_new w _, Nat.le_refl _, by unfold maxLen; omega, by simp, fun j hj => by simp at hj⟩⟩
/-- A slice of cursors, as the source of an append. -/
theorem src_curs {w : World} {g : Nat} {a : Option Addr} {n : Nat} (c : Nat) {cs : List Cu} (hp : ∀ c ∈ cs, ∃ a, c.v = .pointer a) (h : IsC w g a n cs) : Go.Src Try.prog 1 39 (.slice a n c) n (cs.map (·.v)) w := by
  obtain ⟨hn, _, off, hab, hz⟩ := h
  cases a with
  | none =>
    have h0 : n = 0 := hab.resolve_right (by simp)
    subst h0
    obtain rfl : cs = [] := List.eq_nil_of_length_eq_zero hn.symm
    exact Src.ofNil w Try.underlying39 c
  | some x =>
    refine Src.ofSlice w Try.underlying39 x n c _ (by simp [hn]) (fun j u hu => ?_) (fun v hv => ?_)
    · rw [List.getElem?_map] at hu
      cases hc : cs[j]? with
      | none => rw [hc] at hu; cases hu
      | some d =>
        rw [hc] at hu
        injection hu with hu
        have := hab.resolve_left (by have := (List.getElem?_eq_some_iff.1 hc).1; omega)
        injection this with this
        subst this
        rw [addr_add, ← hu]
        exact hz j d hc
    · obtain ⟨d, hd, rfl⟩ := List.mem_map.1 hv
      obtain ⟨a, ha⟩ := hp d hd
      rw [ha]
      rfl
theorem infoC : (Try.prog.info? 29).map (fun i => (i.zero, i.size, i.bytes)) = some (some (.pointer none), 1, 8) := by kernel_rfl
/-- A row of cursors of the call's own. -/
def OwnC (w : World) (B : Nat) (v : Value) (cs : List Cu) : Prop := OffRow w B 29 1 v cs.length (cs.map (·.v))
theorem OwnC.slice {w : World} {B : Nat} {v : Value} {cs : List Cu} (h : OwnC w B v cs) : ∃ a cap, v = .slice a cs.length cap := OffRow.slice h
theorem OwnC.is {w : World} {B : Nat} {a : Option Addr} {n cap : Nat} {cs : List Cu} (h : OwnC w B (.slice a n cap) cs) (hn : n = cs.length) {p : Nat} (hp : p < w.heap.size) : ∃ g, (g = p ∨ B ≤ g) ∧ (∀ j, (Value.slice a n cap).ownBlock = some j → j = g) ∧ IsC w g a n cs := by
  rcases h.2 with ⟨h0, h1⟩ | ⟨g, off, cap', cur, h0, hB, hg, h1, h2, h3, h4⟩
  · injection h0 with e1 e2 e3
    subst e1
    refine ⟨p, .inl rfl, fun j hj => (by cases hj), hn, hp, 0, .inl (by omega), fun k c hc => ?_⟩
    have := (List.getElem?_eq_some_iff.1 hc).1
    omega
  · injection h0 with e1 e2 e3
    subst e1
    refine ⟨g, .inr hB, fun j hj => (by injection hj with hj; exact hj.symm), hn, heap_lt hg, off, .inr rfl, fun k c hc => ?_⟩
    have hk := (List.getElem?_eq_some_iff.1 hc).1
    have := h4 k (by omega)
    simp only [World.cell?, hg]
    rw [this, List.getElem?_map, hc]
    rfl
theorem OwnC.nil (w : World) (B : Nat) : OwnC w B (.slice none 0 0) [] := OffRow.nil _ _ _ _
/-- 's[g:]' of such a slice, whatever its room. -/
theorem slice_off {w : World} {B : Nat} {t e : TypeId} {i : TypeInfo} (ht : Try.prog.underlying t = some (.slice e)) (hi : Try.prog.info? e = some i) {size : Nat} (hs : i.size = size) {n cap g : Nat} {a : Option Addr} {xs : List Value} (h : OffRow w B e size (.slice a n cap) n xs) (hg : g ≤ n) :
    ∃ a', (∀ W, (Instr.slice t (.slice a n cap) (some (.int .i64 (g : Int))) none none).run Try.prog W = .ok (.slice a' (n - g) (cap - g)) W) ∧ OffRow w B e size (.slice a' (n - g) (cap - g)) (n - g) (xs.drop (g * size)) ∧ ∀ j, (Value.slice a' (n - g) (cap - g)).ownBlock = some j → (Value.slice a n cap).ownBlock = some j := by
  obtain ⟨a', d1, d2, d3⟩ := h.drop rfl hg
  have hc : g ≤ cap := by
    rcases h.2 with ⟨e0, h0⟩ | ⟨b, off, c, cur, e0, _, _, h1, _⟩
    · omega
    · injection e0 with _ _ e3
      omega
  have h1 : (g : Int) ≤ (n : Int) := by omega
  refine ⟨a', fun W => ?_, d3, fun j hj => ?_⟩
  · subst hs
    rcases Nat.lt_or_ge g cap with x | x
    · have hne : ¬ cap = g := by omega
      have e1 := d1 x
      have hgn : g ≤ n := hg
      subst e1
      simp [Instr.slice, run_underlying ht, Instr.sliceBounds, run_sliceBound, sizeOf, typeInfo, hi, hgn, hne]
    · have hge : g = cap := by omega
      have e1 := d2 hge
      subst e1
      have hgn : g ≤ n := hg
      rw [← hge]
      simp [Instr.slice, run_underlying ht, Instr.sliceBounds, run_sliceBound, sizeOf, typeInfo, hi, hgn]
  · rcases Nat.lt_or_ge g cap with x | x
    · rw [d1 x] at hj
      cases a with
      | none => simp [Value.ownBlock] at hj
      | some y =>
        obtain ⟨b, off, spot⟩ := y
        simp [Value.ownBlock, Addr.add] at hj ⊢
        first | exact hj | (split at hj <;> simp_all)
    · rw [d2 (by omega)] at hj
      cases a with
      | none => simp [Value.ownBlock] at hj
      | some y => simpa [Value.ownBlock] using hj
theorem nil_slice_e (w : World) (n c : Nat) : (binOp .eql 22 (.slice none n c) (.slice none 0 0)).run Try.prog w = .ok (.bool true) w := by kernel_rfl
theorem some_slice_e (w : World) (x : Addr) (n c : Nat) : (binOp .eql 22 (.slice (some x) n c) (.slice none 0 0)).run Try.prog w = .ok (.bool false) w := by kernel_rfl
theorem nil_slice_c (w : World) (n c : Nat) : (binOp .eql 39 (.slice none n c) (.slice none 0 0)).run Try.prog w = .ok (.bool true) w := by kernel_rfl
theorem some_slice_c (w : World) (x : Addr) (n c : Nat) : (binOp .eql 39 (.slice (some x) n c) (.slice none 0 0)).run Try.prog w = .ok (.bool false) w := by kernel_rfl
set_option maxHeartbeats 1000000 in
theorem clone_ents (a : Option Addr) (n c : Nat) (T : List Ent) (w : World) (h : Hid (IsE w a n T)) (hn : n ≤ 1000000) :
    Calls Try.prog 25 #[.slice a n c] w fun e w' => (∃ v, e = .returned v ∧ OwnE w' w.heap.size v T) ∧ Below w.heap.size w w' := by
  obtain ⟨i0, hi, hz0, hz1, hz2⟩ := info_parts infoE
  cases a with
  | none =>
    have hnl := nil_slice_e
    have h0 : n = 0 := by obtain ⟨_, b, off, h1, _⟩ := h.out; exact h1.resolve_right (by simp)
    have hT := Lib.hid (show T = [] from List.eq_nil_of_length_eq_zero (by rw [← h.out.1, h0]))
    go_enter Try.func25, Try.ntmps25
    go_wp2_with fail
    go_ret
    rw [hT.out]
    exact ⟨⟨_, rfl, OwnE.nil _ _⟩, Below.refl _ _⟩
  | some x =>
    have hnl := some_slice_e
    have HLEN := Lib.hid h.out.1
    go_enter Try.func25, Try.ntmps25
    go_wp2_with (at_builtin; refine wpList_append_off rfl (.tmp 5) (.tmp 6) 22 rfl w.heap.size 32 i0 _ 3 40 Try.underlying22 hi hz0 hz1 hz2 rfl (.slice (some ⟨w.heap.size, 0, none⟩) 0 0) 0 [] rfl (off_empty w (Nat.le_refl _) _ _) (.slice (some x) n c) rfl n (ecells T) ?c2 ?c3 ?c4 ?c5 ?_)
    case c2 => exact src_ents c (h.out.below ((Below.refl _ _).alloc (Nat.le_refl _) _))
    case c3 => unfold maxLen; omega
    case c4 => omega
    case c5 => simp
    intro v3 w3 hr3 hg3 _
    have O3 := Lib.hid (show OwnE w3 w.heap.size v3 T by
      unfold OwnE
      rw [← HLEN.out]
      simpa using hr3)
    have K3 := Lib.hid (show Below w.heap.size w w3 from ((Below.refl _ _).alloc (Nat.le_refl _) _).grown hg3 (by simp) (fun k hk => by simp [Value.ownBlock] at hk; omega))
    clear hr3 hg3
    go_wp2_with fail
    go_ret
    exact ⟨⟨_, rfl, O3.out⟩, K3.out⟩
set_option maxHeartbeats 1000000 in
theorem clone_curs (a : Option Addr) (n c g : Nat) (cs : List Cu) (w : World) (hp : Hid (∀ c ∈ cs, ∃ a, c.v = .pointer a)) (h : Hid (IsC w g a n cs)) (hn : n ≤ 1000000) :
    Calls Try.prog 31 #[.slice a n c] w fun e w' => (∃ v, e = .returned v ∧ OwnC w' w.heap.size v cs) ∧ Below w.heap.size w w' := by
  obtain ⟨i0, hi, hz0, hz1, hz2⟩ := info_parts infoC
  cases a with
  | none =>
    have hnl := nil_slice_c
    have h0 : n = 0 := by obtain ⟨_, _, off, h1, _⟩ := h.out; exact h1.resolve_right (by simp)
    have hT := Lib.hid (show cs = [] from List.eq_nil_of_length_eq_zero (by rw [← h.out.1, h0]))
    go_enter Try.func31, Try.ntmps31
    go_wp2_with fail
    go_ret
    rw [hT.out]
    exact ⟨⟨_, rfl, OwnC.nil _ _⟩, Below.refl _ _⟩
  | some x =>
    have hnl := some_slice_c
    have HLEN := Lib.hid h.out.1
    go_enter Try.func31, Try.ntmps31
    go_wp2_with (at_builtin; refine wpList_append_off rfl (.tmp 5) (.tmp 6) 39 rfl w.heap.size 29 i0 _ 1 8 Try.underlying39 hi hz0 hz1 hz2 rfl (.slice (some ⟨w.heap.size, 0, none⟩) 0 0) 0 [] rfl (off_empty w (Nat.le_refl _) _ _) (.slice (some x) n c) rfl n (cs.map (·.v)) ?c2 ?c3 ?c4 ?c5 ?_)
    case c2 => exact src_curs c hp.out (h.out.only ((Only.refl (fun _ => False) w).alloc _) fun h => h)
    case c3 => unfold maxLen; omega
    case c4 => omega
    case c5 => simp
    intro v3 w3 hr3 hg3 _
    have O3 := Lib.hid (show OwnC w3 w.heap.size v3 cs by
      unfold OwnC
      rw [← HLEN.out]
      simpa using hr3)
    have K3 := Lib.hid (show Below w.heap.size w w3 from ((Below.refl _ _).alloc (Nat.le_refl _) _).grown hg3 (by simp) (fun k hk => by simp [Value.ownBlock] at hk; omega))
    clear hr3 hg3
    go_wp2_with fail
    go_ret
    exact ⟨⟨_, rfl, O3.out⟩, K3.out⟩
end Go.Proofs.Ytbjokbnmfbfkjaa
