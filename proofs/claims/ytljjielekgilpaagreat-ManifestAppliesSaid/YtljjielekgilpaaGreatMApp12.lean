/- Texts put together: QTake, ManRefOrd -/
import Derived.Test.YtljjielekgilpaaGreatMApp11
import Derived.Test.YtljjielekgilpaaGreatMApp10
/- A region that draws its order: reads taken first, where what they read stays behind every operation. -/
set_option linter.unusedVariables false
set_option maxRecDepth 100000
namespace Go.Proofs.YtljjielekgilpaaGreat
open Go.RowKit

section
variable {P : Program} {ops : Array Oper} {Q : Exit → Act → World → Prop} {md : Region.Mode} {S : World → Prop}
theorem kept_first {i : Nat} {oi : Oper} {v : Value} (hi : ops[i]? = some oi) (hsel : ∀ (j : Nat) (o : Oper) cs b, ops[j]? = some o → o.op ≠ .select cs b)
    (hQ : ∀ c a w, Q (.panic c) (a.put oi.dst v) w → Q (.panic c) a w) :
    ∀ (fuel : Nat) (listed : Array Bool) (a : Act) (w : World),
      (∀ j oj, ops[j]? = some oj → j ≠ i → listed.getD j true = false → (∀ e ∈ oj.after, Region.binds md e = true → e.on ≠ i) → oi.apart ops oj = true) →
      i ∈ Region.ready md ops listed → YieldsIf P ops S oi v a → S w →
      wpAnyE P md ops Q S (fun _ => false) fuel (listed.setIfInBounds i true) (a.put oi.dst v) w → wpAnyE P md ops Q S (fun _ => false) (fuel + 1) listed a w := by
  intro fuel
  induction fuel with
  | zero =>
    intro listed a w _ hr hy hS H
    refine ⟨fun h => (by rw [h] at hr; cases hr), fun j hj => ?_⟩
    by_cases hji : j = i
    · subst hji; exact hy.wpOp hi hS ⟨fun _ => hS, H⟩
    · have := ready_mono hj hji
      rw [H.1] at this
      cases this
  | succ fuel ih =>
    intro listed a w hfree hr hy hS H
    refine ⟨fun h => (by rw [h] at hr; cases hr), fun j hj => ?_⟩
    by_cases hji : j = i
    · subst hji; exact hy.wpOp hi hS ⟨fun _ => hS, H⟩
    · have h1 := H.2 j (ready_mono hj hji)
      obtain ⟨hjun, oj, hoj, hall⟩ := mem_ready.1 hj
      have hnot : ∀ e ∈ oj.after, Region.binds md e = true → e.on ≠ i := fun e he hb heq => by
        have h1 := hall e he hb
        have h0 := (mem_ready.1 hr).1
        rw [heq] at h1
        rcases Nat.lt_or_ge i listed.size with h' | h'
        · simp [h'] at h0 h1; rw [h0] at h1; cases h1
        · simp [Array.getElem?_eq_none h'] at h1
      have h2 := wpOp_putIf hoj (hfree j oj hoj hji hjun hnot) (fun cs b => hsel i oi cs b hi) (fun cs b => hsel j oj cs b hoj) hQ hy h1
      have hfree' : ∀ k ok, ops[k]? = some ok → k ≠ i → (listed.setIfInBounds j true).getD k true = false →
          (∀ e ∈ ok.after, Region.binds md e = true → e.on ≠ i) → oi.apart ops ok = true := fun k ok hk hki hun hno => by
        refine hfree k ok hk hki ?_ hno
        by_cases hjk : j = k
        · subst hjk; exact hjun
        · rw [getD_set_ne true hjk] at hun; exact hun
      refine wpOp_mono (fun a' w' h3 => ⟨h3.2.1, ih (listed.setIfInBounds j true) a' w' hfree' (ready_mono hr (Ne.symm hji)) h3.1 (h3.2.1 rfl) ?_⟩) h2
      rw [Array.setIfInBounds_comm _ _ hji]
      exact h3.2.2
/-- A read is taken first. -/
theorem kept_take {i d : Nat} {oi : Oper} {v : Value} {fuel : Nat} {listed : Array Bool} {a : Act} {w : World} (hi : ops[i]? = some oi) (hd : oi.dst = some d)
    (hs : Region.noSelect ops = true) (hf : Region.free md ops listed i = true) (hr : (Region.ready md ops listed).contains i = true)
    (hQ : ∀ c a w, Q (.panic c) (a.put oi.dst v) w → Q (.panic c) a w) (hy : YieldsIf P ops S oi v a) (hS : S w)
    (h : wpAnyE P md ops Q S (fun _ => false) fuel (listed.setIfInBounds i true) (a.put (some d) v) w) : wpAnyE P md ops Q S (fun _ => false) (fuel + 1) listed a w :=
  kept_first hi (Region.noSelect_spec hs) hQ fuel listed a w (Region.free_spec hi hf) (by simpa using hr) hy hS (by rw [hd]; exact h)
/-- A region by hand. -/
theorem wp_region_kept {id : Nat} {a : Act} {w : World} {l : List Oper} (S : World → Prop) (hm : P.follows .mixedOrders = true)
    (h : wpAnyE P .any l.toArray Q S (fun _ => false) l.toArray.size (Array.replicate l.toArray.size false) a { w with drawn := w.drawn + 1 }) : (Code.region id l.toArray true).wp P Q a w :=
  wp_region_any hm (wpAny_of_E _ _ _ _ h)
end
end Go.Proofs.YtljjielekgilpaaGreat
/- The document's side: which one of two tables stands ahead; what a slice yields. -/
set_option linter.unusedVariables false
set_option maxRecDepth 100000
namespace Go.Proofs.YtljjielekgilpaaGreat
open Go.RowKit

theorem rise_sortI {L M : List Int} (hp : L.Perm M) (hL : L.Pairwise fun a b => a ≤ b) : L = sortI M := by
  refine rise_same (hp.trans (List.mergeSort_perm M _).symm) hL ?_
  have := List.pairwise_mergeSort (le := fun x y : Int => decide (x ≤ y)) (fun a b c h1 h2 => by simp at *; omega) (fun a b => by simp; omega) M
  exact this.imp fun h => by simpa using h
set_option maxHeartbeats 1000000 in
theorem ref_before (a b : Tb) (w : World) : Calls Tryz.prog 84 #[.agg #[.int .i64 a.file, .int .i64 a.lev, .int .i64 a.cnt, .string (bs a.low), .string (bs a.high)], .agg #[.int .i64 b.file, .int .i64 b.lev, .int .i64 b.cnt, .string (bs b.low), .string (bs b.high)]] w fun e w' => e = .returned (.bool (tlt a b)) ∧ Below w.heap.size w w' := by
  have hb : Op.bytesLess (bs a.low).toList (bs b.low).toList = ltB a.low b.low := by rw [Lib.toList_data, Lib.toList_data, bs_list, bs_list, ltB_less]
  have HK := Lib.hid (show ∀ x y : Obj, Below w.heap.size w ((w.alloc x).alloc y) from fun x y => ((Below.refl _ _).alloc (Nat.le_refl _) _).alloc (by simp) _)
  obtain ⟨r, hr⟩ : ∃ r, r = tlt a b := ⟨_, rfl⟩
  rw [← hr]
  have HR := Lib.hid hr
  clear hr
  cases a with | mk af al ac alo ahi =>
  cases b with | mk bf bl bc blo bhi =>
  simp only at hb ⊢
  by_cases h : al = bl
  · subst h
    by_cases h0 : al = 0
    · have hv := Lib.hid (show r = decide (bf < af) by rw [HR.out]; unfold tlt; rw [if_pos rfl, if_pos h0])
      clear HR hb
      subst h0
      go_enter Tryz.func84, Tryz.ntmps84
      go_wp2
      go_ret
      exact ⟨by rw [hv.out]; rfl, HK.out _ _⟩
    · have hv := Lib.hid (show r = ltB alo blo by rw [HR.out]; unfold tlt; rw [if_pos rfl, if_neg h0])
      have h0' : (al == 0) = false := by simpa using h0
      clear HR h0
      obtain ⟨q, hq⟩ : ∃ q, q = ltB alo blo := ⟨_, rfl⟩
      rw [← hq] at hb hv
      clear hq
      go_enter Tryz.func84, Tryz.ntmps84
      go_wp2
      go_ret
      exact ⟨by rw [hv.out]; rfl, HK.out _ _⟩
  · have hv := Lib.hid (show r = decide (al < bl) by rw [HR.out]; unfold tlt; rw [if_neg h])
    have h' : (al == bl) = false := by simpa using h
    have h'' : (al != bl) = true := by simpa using h
    clear HR hb h
    go_enter Tryz.func84, Tryz.ntmps84
    go_wp2
    go_ret
    exact ⟨by rw [hv.out]; rfl, HK.out _ _⟩
/-- What a list of numbers yields that is added to another one. -/
theorem src_ints {T : Nat → Prop} {w : World} {v : Value} {L : List Int} (h : RdL T w v L.length (flat icell L)) : Src Tryz.prog 1 27 v L.length (flat icell L) w := by
  obtain ⟨a, cap, rfl, _, h⟩ := h
  rcases h with ⟨rfl, h0, h1⟩ | ⟨b, off, rfl, _, _, hc⟩
  · have : L = [] := List.eq_nil_of_length_eq_zero h0
    subst this
    exact Src.ofNil _ Tryz.underlying27 _
  · exact Src.ofSlice _ Tryz.underlying27 ⟨b, off, none⟩ _ _ (flat icell L) (by rw [flat_len icell_len]) (fun j u hj => by rw [← hc j u hj]; unfold Addr.add; split; (next h0 => subst h0; rfl); (next => rfl)) (flat_one' icell_one L)
/-- A cell written in a list of numbers of the call's own. -/
theorem own_set {w : World} {B : Nat} {g off n cap : Nat} {L : List Int} (h : OffRow w B 3 1 (.slice (some ⟨g, off, none⟩) n cap) n (flat icell L)) {k : Nat} (hk : k < n) (x : Int) :
    OffRow (w.setCell ⟨g, off + k, none⟩ (.int .i64 x)) B 3 1 (.slice (some ⟨g, off, none⟩) n cap) n (flat icell (L.set k x)) := by
  have e : flat icell (L.set k x) = (flat icell L).set k (.int .i64 x) := by
    have : ∀ M : List Int, flat icell M = M.map (Value.int .i64) := fun M => by
      unfold flat icell
      induction M with
      | nil => rfl
      | cons y M ih => rw [List.flatMap_cons, ih]; rfl
    rw [this, this, List.map_set]
  rw [e]
  rcases h.2 with ⟨h0, _⟩ | ⟨g2, off2, cap2, cur2, h0, hB2, hg2, h1, h2, h3, h4⟩
  · cases h0
  · injection h0 with e2 e3 e4
    injection e2 with e2
    injection e2 with e2 e5
    subst e2 e4 e5
    have s1 := heap_set (o := off + k) hg2 (.int .i64 x)
    refine ⟨by rw [List.length_set]; exact h.1, .inr ⟨g, off, cap, _, rfl, hB2, s1, h1, h2, by simp only [Array.size_setIfInBounds]; exact h3, fun j hj => ?_⟩⟩
    have hl := h.1
    simp only [Array.getElem?_setIfInBounds]
    by_cases hjk : j = k
    · subst hjk
      rw [if_pos rfl, if_pos (by omega), List.getElem?_set_self (by omega)]
    · rw [if_neg (by omega), h4 j hj, List.getElem?_set_ne (Ne.symm hjk)]
end Go.Proofs.YtljjielekgilpaaGreat
