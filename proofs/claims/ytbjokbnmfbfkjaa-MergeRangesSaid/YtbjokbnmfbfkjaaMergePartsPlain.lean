/- Parts of rows of rows; rising rows rise again; cursors beside cursors. -/
import Derived.Test.YtbjokbnmfbfkjaaMergeLatestWalk
set_option linter.unusedVariables false
set_option maxRecDepth 100000
namespace Go.Proofs.Ytbjokbnmfbfkjaa
open Go.RowKit

theorem put_end {x : Ent} : ∀ {T : List Ent}, (∀ y ∈ T, ltB y.key x.key = true) → put x T = T ++ [x]
  | [], _ => rfl
  | y :: T, h => by
    have h1 := h y List.mem_cons_self
    have ih := put_end fun z hz => h z (List.mem_cons_of_mem y hz)
    unfold put
    rw [if_pos h1, ih]
    rfl
theorem rising_self {M : List Ent} (h : rises M) (hn : ∀ x ∈ M, norm x = x) : rising M = M := by
  suffices ∀ j, j ≤ M.length → rising (M.take j) = M.take j by
    have := this M.length (Nat.le_refl _)
    rwa [List.take_length] at this
  intro j
  induction j with
  | zero => intro _; rfl
  | succ j ih =>
    intro hj
    obtain ⟨x, hx⟩ : ∃ x, M[j]? = some x := ⟨_, List.getElem?_eq_getElem (by omega)⟩
    rw [off_take hx, rising_snoc, hn x (List.mem_of_getElem? hx), ih (by omega)]
    exact put_end fun y hy => by
      obtain ⟨i, hi⟩ := List.getElem?_of_mem hy
      rw [List.getElem?_take] at hi
      split at hi
      · exact rises_at h i j y x (by assumption) hi hx
      · cases hi
theorem norm_norm (x : Ent) : norm (norm x) = norm x := by
  unfold norm
  split
  · rename_i h; simp [h]
  · rename_i h; simp [h]
theorem norm_key (x : Ent) : (norm x).key = x.key := by unfold norm; split <;> rfl
theorem norm_val (x : Ent) : (norm x).val.length ≤ x.val.length := by unfold norm; split <;> simp
theorem findK_self {M : List Ent} (h : rises M) {x : Ent} (hx : x ∈ M) : findK x.key M = some x := by
  obtain ⟨j, hj⟩ := List.getElem?_of_mem hx
  have hb : findK x.key (M.take j) = none := findK_none fun y hy e => by
    obtain ⟨i, hi⟩ := List.getElem?_of_mem hy
    rw [List.getElem?_take] at hi
    split at hi
    · exact ltB_ne (rises_at h i j y x (by assumption) hi hj) e
    · cases hi
  have hs := findK_snoc x.key (M.take j) x
  rw [hb, if_pos rfl, ← off_take hj] at hs
  unfold findK at hs ⊢
  rw [← List.take_append_drop (j + 1) M, List.find?_append, hs]
  rfl
/-- What is merged comes from the rows. -/
theorem merge_mem {ps : List (List Ent × Int)} (h : Good ps) {x : Ent} (hx : x ∈ (mergeP ps).1) : ∃ p ∈ ps, x ∈ p.1 := by
  obtain ⟨_, h2, h3⟩ := good_merge h
  have := findK_self h2 hx
  rw [h3] at this
  unfold firstP at this
  obtain ⟨p, hp, hq⟩ := List.exists_of_findSome?_eq_some this
  exact ⟨p, hp, findK_mem hq⟩
def risP (l : Lst) : List Ent × Int := (rising l.T, 0)
theorem good_ris (Ls : List Lst) : Good (Ls.map risP) := fun p hp => by
  obtain ⟨l, _, rfl⟩ := List.mem_map.1 hp
  exact ⟨rising_rises _, rfl⟩
theorem ris_norm (Ls : List Lst) {x : Ent} (hx : x ∈ (mergeP (Ls.map risP)).1) : norm x = x := by
  obtain ⟨p, hp, hm⟩ := merge_mem (good_ris Ls) hx
  obtain ⟨l, _, rfl⟩ := List.mem_map.1 hp
  obtain ⟨y, _, rfl⟩ := rising_mem hm
  exact norm_norm y
theorem ris_total : ∀ (Ls : List Lst), (∀ l ∈ Ls, l.T.length ≤ 300) → total (Ls.map risP) ≤ Ls.length * 300
  | [], _ => by simp [total]
  | l :: Ls, h => by
    have h1 := ris_total Ls fun x hx => h x (List.mem_cons_of_mem _ hx)
    have h2 := h l List.mem_cons_self
    have h3 := rising_len l.T
    simp only [total, List.map_cons, List.sum_cons, List.length_cons, risP, Nat.add_mul] at *
    omega
/-- A part of a row of the call's own. -/
theorem OffRow.take {w : World} {B : Nat} {e : TypeId} {size : Nat} {a : Option Addr} {n cap : Nat} {xs : List Value} (h : OffRow w B e size (.slice a n cap) n xs) {k : Nat} (hk : k ≤ n) : OffRow w B e size (.slice a k cap) k (xs.take (k * size)) := by
  have hl : (xs.take (k * size)).length = k * size := by
    rw [List.length_take, h.1]
    have := Nat.mul_le_mul_right size hk
    omega
  rcases h.2 with ⟨h0, h1⟩ | ⟨g, off, cap', cur, h0, hB, hg, h1, h2, h3, h4⟩
  · injection h0 with e1 e2 e3
    refine ⟨hl, .inl ⟨?_, by omega⟩⟩
    rw [e1, e3, show k = 0 by omega]
  · injection h0 with e1 e2 e3
    subst e3
    refine ⟨hl, .inr ⟨g, off, cap, cur, by rw [e1], hB, hg, by omega, h2, h3, fun j hj => ?_⟩⟩
    rw [List.getElem?_take, if_pos hj]
    exact h4 j (by have := Nat.mul_le_mul_right size hk; omega)
theorem rcells_take : ∀ (R : List Rw) (k : Nat), (rcells R).take (k * 2) = rcells (R.take k)
  | [], k => by simp [rcells]
  | x :: R, 0 => by simp [rcells]
  | x :: R, k + 1 => by
    show (x.vals ++ rcells R).take ((k + 1) * 2) = x.vals ++ rcells (R.take k)
    rw [List.take_append, ← rcells_take R k]
    congr 1
    · exact List.take_of_length_le (by simp [Rw.vals]; omega)
    · congr 1
      simp [Rw.vals]
      omega
theorem rcells_drop : ∀ (R : List Rw) (k : Nat), (rcells R).drop (k * 2) = rcells (R.drop k)
  | [], k => by simp [rcells]
  | x :: R, 0 => by simp [rcells]
  | x :: R, k + 1 => by
    show (x.vals ++ rcells R).drop ((k + 1) * 2) = rcells (R.drop k)
    rw [List.drop_append, ← rcells_drop R k, List.drop_eq_nil_of_le (by simp [Rw.vals]; omega), List.nil_append]
    congr 1
    simp [Rw.vals]
    omega
/-- 's[:k]' of such a slice. -/
theorem slice_to {w : World} {B : Nat} {t e : TypeId} {i : TypeInfo} (ht : Try.prog.underlying t = some (.slice e)) (hi : Try.prog.info? e = some i) {size : Nat} {n cap k : Nat} {a : Option Addr} {xs : List Value} (h : OffRow w B e size (.slice a n cap) n xs) (hk : k ≤ n) :
    ∀ W, (Instr.slice t (.slice a n cap) none (some (.int .i64 (k : Int))) none).run Try.prog W = .ok (.slice a k cap) W := by
  have hc : n ≤ cap := by
    rcases h.2 with ⟨e0, h0⟩ | ⟨b, off, c, cur, e0, _, _, h1, _⟩
    · omega
    · injection e0 with _ _ e3
      omega
  intro W
  have h1 : k ≤ cap := by omega
  cases a with
  | none =>
    have : cap = 0 ∨ True := .inr trivial
    simp [Instr.slice, run_underlying ht, Instr.sliceBounds, run_sliceBound, sizeOf, typeInfo, hi, h1]
  | some y =>
    have hy : y.add 0 = y := by
      rcases h.2 with ⟨e0, _⟩ | ⟨b, off, c, cur, e0, _⟩
      · cases e0
      · injection e0 with e1
        injection e1 with e1
        rw [e1]
        exact addr_add _ _ _
    simp [Instr.slice, run_underlying ht, Instr.sliceBounds, run_sliceBound, sizeOf, typeInfo, hi, h1, hy]
/-- Rows of the call's own are rows in memory. -/
theorem OwnR.rows {w : World} {B M : Nat} {a : Option Addr} {n cap : Nat} {R : List Rw} (h : OwnR w B (.slice a n cap) R) (hn : n = R.length) (hE : EachAt w B M R) (hf : ∀ r ∈ R, r.len ≤ 9223372036854775807 ∧ fitE r.T) : IsRows w a n R := by
  refine ⟨hn, ?_, fun r hr => ⟨(hE r hr).1.is (hE r hr).2.1, hf r hr⟩⟩
  rcases Nat.eq_zero_or_pos n with h0 | h0
  · exact ⟨0, 0, .inl h0, fun k r hr => by have := (List.getElem?_eq_some_iff.1 hr).1; omega⟩
  · obtain ⟨g, off, ha, -, -, -, -, -⟩ := h.get (k := 0) (x := R[0]'(by omega)) (List.getElem?_eq_getElem (by omega))
    refine ⟨g, off, .inr ha, fun k r hr => ?_⟩
    obtain ⟨g', off', ha', -, c0, c1, -, cur, hg⟩ := h.get hr
    rw [ha] at ha'
    injection ha' with ha'
    injection ha' with e1 e2
    subst e1 e2
    exact ⟨heap_lt hg, c0, c1⟩
theorem EachAt.sub {w : World} {B M : Nat} {R S : List Rw} (h : EachAt w B M R) (hS : ∀ r ∈ S, r ∈ R) : EachAt w B M S := fun r hr => h r (hS r hr)
/-- Cursors, and newer ones. -/
theorem Curs.append {B B2 : Nat} {cs ds : List Cu} {ss ts : List (List Ent × Int)} {w : World} (h : Curs B cs ss w) (k : Curs B2 ds ts w) (hlt : ∀ j, FAll cs j → j < B2) (hB : B ≤ B2) : Curs B (cs ++ ds) (ss ++ ts) w where
  apart := fun i j x y hx hy hij m hm hm' => by
    have hcd : ∀ (x y : Cu), x ∈ cs → y ∈ ds → x.F m → y.F m → False := fun x y hx hy h1 h2 => by
      have := hlt m ⟨x, hx, h1⟩
      have := k.low m ⟨y, hy, h2⟩
      omega
    rcases Nat.lt_or_ge i cs.length with hi | hi <;> rcases Nat.lt_or_ge j cs.length with hj | hj
    · rw [List.getElem?_append_left hi] at hx
      rw [List.getElem?_append_left hj] at hy
      exact h.apart i j x y hx hy hij m hm hm'
    · rw [List.getElem?_append_left hi] at hx
      rw [List.getElem?_append_right hj] at hy
      exact hcd x y (List.mem_of_getElem? hx) (List.mem_of_getElem? hy) hm hm'
    · rw [List.getElem?_append_right hi] at hx
      rw [List.getElem?_append_left hj] at hy
      exact hcd y x (List.mem_of_getElem? hy) (List.mem_of_getElem? hx) hm' hm
    · rw [List.getElem?_append_right hi] at hx
      rw [List.getElem?_append_right hj] at hy
      exact k.apart _ _ x y hx hy (by omega) m hm hm'
  low := fun j ⟨x, hx, hj⟩ => by
    rcases List.mem_append.1 hx with hx | hx
    · exact h.low j ⟨x, hx, hj⟩
    · exact Nat.le_trans hB (k.low j ⟨x, hx, hj⟩)
  has := by
    refine ⟨by simp [h.has.1, k.has.1], fun i x s hx hs => ?_⟩
    rcases Nat.lt_or_ge i cs.length with hi | hi
    · rw [List.getElem?_append_left hi] at hx
      rw [List.getElem?_append_left (by rw [h.has.1]; exact hi)] at hs
      exact h.has.2 i x s hx hs
    · rw [List.getElem?_append_right hi] at hx
      rw [List.getElem?_append_right (by rw [h.has.1]; exact hi), h.has.1] at hs
      exact k.has.2 (i - cs.length) x s hx hs
  ptr := fun x hx => by
    rcases List.mem_append.1 hx with hx | hx
    · exact h.ptr x hx
    · exact k.ptr x hx
end Go.Proofs.Ytbjokbnmfbfkjaa
