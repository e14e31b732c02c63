/- A slice of the call's own that may begin behind its row's beginning: what it holds, one element more, its beginning taken off. -/
import Derived.Test.YtkelcmncjhnbgaaOnly
import Derived.Laws.AppendOwn
import Derived.Deep.AppendSrc
import Derived.RegionTactic
set_option linter.unusedVariables false
set_option maxRecDepth 100000
namespace Go.Proofs.Ytkelcmncjhnbgaa
open Go.RowKit

/-- v is a slice of n elements of type e, each of so many cells, in a row from block B on; its elements' cells are xs. -/
def OffRow (w : World) (B : Nat) (e : TypeId) (size : Nat) (v : Value) (n : Nat) (xs : List Value) : Prop :=
  xs.length = n * size ∧ ((v = .slice none 0 0 ∧ n = 0) ∨ ∃ g off cap cur, v = .slice (some ⟨g, off, none⟩) n cap ∧ B ≤ g ∧ w.heap[g]? = some (.cells cur e (0, 0)) ∧ n ≤ cap ∧ cap ≤ maxLen ∧ off + cap * size ≤ cur.size ∧ ∀ j, j < n * size → cur[off + j]? = xs[j]?)
namespace OffRow
variable {w w' : World} {B : Nat} {e : TypeId} {size : Nat} {v : Value} {n : Nat} {xs : List Value}
theorem nil (w : World) (B : Nat) (e : TypeId) (size : Nat) : OffRow w B e size (.slice none 0 0) 0 [] := ⟨by simp, .inl ⟨rfl, rfl⟩⟩
theorem slice (h : OffRow w B e size v n xs) : ∃ a cap, v = .slice a n cap := by
  rcases h.2 with ⟨rfl, rfl⟩ | ⟨g, off, cap, cur, rfl, _⟩
  · exact ⟨_, _, rfl⟩
  · exact ⟨_, _, rfl⟩
theorem form (h : OffRow w B e size v n xs) (hn : 0 < n) : ∃ g off cap cur, v = .slice (some ⟨g, off, none⟩) n cap ∧ B ≤ g ∧ w.heap[g]? = some (.cells cur e (0, 0)) ∧ ∀ j, j < n * size → w.cell? ⟨g, off + j, none⟩ = xs[j]? := by
  rcases h.2 with ⟨_, h0⟩ | ⟨g, off, cap, cur, rfl, hB, hg, h1, h2, h3, h4⟩
  · omega
  · exact ⟨g, off, cap, cur, rfl, hB, hg, fun j hj => by rw [← h4 j hj]; simp [World.cell?, hg]⟩
theorem lt (h : OffRow w B e size v n xs) : ∀ k, v.ownBlock = some k → B ≤ k ∧ k < w.heap.size := by
  intro k hk
  rcases h.2 with ⟨rfl, _⟩ | ⟨g, off, cap, cur, rfl, hB, hg, _⟩
  · simp [Value.ownBlock] at hk
  · simp [Value.ownBlock] at hk
    subst hk
    exact ⟨hB, heap_lt hg⟩
theorem tag (h : OffRow w B e size v n xs) {k : Nat} (hk : v.ownBlock = some k) : ∃ cur, w.heap[k]? = some (.cells cur e (0, 0)) := by
  rcases h.2 with ⟨rfl, _⟩ | ⟨g, off, cap, cur, rfl, hB, hg, _⟩
  · simp [Value.ownBlock] at hk
  · simp [Value.ownBlock] at hk
    subst hk
    exact ⟨cur, hg⟩
theorem kept (h : OffRow w B e size v n xs) (k : ∀ j, v.ownBlock = some j → w'.heap[j]? = w.heap[j]?) : OffRow w' B e size v n xs := by
  refine ⟨h.1, ?_⟩
  rcases h.2 with h0 | ⟨g, off, cap, cur, rfl, hB, hg, h1⟩
  · exact .inl h0
  · exact .inr ⟨g, off, cap, cur, rfl, hB, (k g rfl).trans hg, h1⟩
theorem of_own (h : w.ownsRow B e size v n xs) : OffRow w B e size v n xs := by
  refine ⟨h.1, ?_⟩
  rcases h.2 with h0 | ⟨g, cap, cur, rfl, hB, hg, h1, h2, h3, h4⟩
  · exact .inl h0
  · refine .inr ⟨g, 0, cap, cur, rfl, hB, hg, h1, h2, by omega, fun j hj => ?_⟩
    rw [← h4, List.getElem?_take, if_pos hj]
    simp
theorem cap_le (h : OffRow w B e size v n xs) : n ≤ maxLen := by
  rcases h.2 with ⟨_, h0⟩ | ⟨g, off, cap, cur, rfl, hB, hg, h1, h2, _⟩
  · unfold maxLen; omega
  · omega
/-- Its beginning is taken off. -/
theorem drop (h : OffRow w B e size v n xs) {a : Option Addr} {cap : Nat} (hv : v = .slice a n cap) {g : Nat} (hg : g ≤ n) : ∃ a', (g < cap → a' = a.map (·.add (g * size))) ∧ (g = cap → a' = a) ∧ OffRow w B e size (.slice a' (n - g) (cap - g)) (n - g) (xs.drop (g * size)) := by
  subst hv
  have hl : (xs.drop (g * size)).length = (n - g) * size := by rw [List.length_drop, h.1, Nat.sub_mul]
  rcases h.2 with ⟨h0, rfl⟩ | ⟨b, off, cap', cur, h0, hB, hh, h1, h2, h3, h4⟩
  · injection h0 with e1 _ e3
    subst e1 e3
    obtain rfl : g = 0 := by omega
    exact ⟨none, fun x => absurd x (by omega), fun _ => rfl, hl, .inl ⟨rfl, rfl⟩⟩
  · injection h0 with e1 _ e3
    subst e1 e3
    by_cases hc : g < cap
    · refine ⟨some ⟨b, off + g * size, none⟩, fun _ => by simp [addr_add], fun x => absurd x (by omega), hl, .inr ⟨b, off + g * size, cap - g, cur, rfl, hB, hh, by omega, by omega, ?_, fun j hj => ?_⟩⟩
      · have : g * size + (cap - g) * size = cap * size := by rw [← Nat.add_mul]; congr 1; omega
        omega
      · rw [Nat.sub_mul] at hj
        rw [List.getElem?_drop, Nat.add_assoc]
        exact h4 _ (by omega)
    · obtain rfl : g = cap := by omega
      obtain rfl : n = g := by omega
      refine ⟨some ⟨b, off, none⟩, fun x => absurd x (by omega), fun _ => rfl, hl, .inr ⟨b, off, n - n, cur, rfl, hB, hh, Nat.le_refl _, by omega, by simp; have := h3; omega, fun j hj => ?_⟩⟩
      simp at hj
end OffRow

theorem setCells_heap : ∀ (vs : List Value) (b o : Nat) (w : World) (cur : Array Value) (t : TypeId), w.heap[b]? = some (.cells cur t (0, 0)) → ∃ cur', (w.setCells b o vs).heap[b]? = some (.cells cur' t (0, 0)) ∧ cur'.size = cur.size ∧ (∀ j, j < vs.length → o + j < cur.size → cur'[o + j]? = vs[j]?) ∧ (∀ j, (j < o ∨ o + vs.length ≤ j) → cur'[j]? = cur[j]?)
  | [], b, o, w, cur, t, h => ⟨cur, h, rfl, fun j hj => absurd hj (by simp), fun _ _ => rfl⟩
  | v :: r, b, o, w, cur, t, h => by
    have h1 := heap_set (o := o) h v
    obtain ⟨cur', a1, a2, a3, a4⟩ := setCells_heap r b (o + 1) (w.setCell ⟨b, o, none⟩ v) _ t h1
    refine ⟨cur', a1, by rw [a2]; simp, fun j hj hlt => ?_, fun j hj => ?_⟩
    · cases j with
      | zero =>
        rw [a4 (o + 0) (.inl (by omega))]
        simp [Array.getElem?_setIfInBounds]
        omega
      | succ j =>
        have := a3 j (by simpa using hj) (by simp; omega)
        rw [show o + (j + 1) = o + 1 + j by omega]
        simpa using this
    · rw [a4 j (by simp at hj; omega), Array.getElem?_setIfInBounds, if_neg (by simp at hj; omega)]
theorem setCells_other : ∀ (vs : List Value) (b o : Nat) (w : World) (k : Nat), k ≠ b → (w.setCells b o vs).heap[k]? = w.heap[k]?
  | [], _, _, _, _, _ => rfl
  | v :: r, b, o, w, k, h => (setCells_other r b (o + 1) _ k h).trans (heap_set_other h v)
theorem setCells_meta : ∀ (vs : List Value) (b o : Nat) (w : World), (w.setCells b o vs).os = w.os ∧ (w.setCells b o vs).tape = w.tape ∧ (w.setCells b o vs).output = w.output ∧ (w.setCells b o vs).heap.size = w.heap.size
  | [], _, _, _ => ⟨rfl, rfl, rfl, rfl⟩
  | v :: r, b, o, w => by
    obtain ⟨h1, h2, h3, h4⟩ := setCells_meta r b (o + 1) (w.setCell ⟨b, o, none⟩ v)
    exact ⟨h1, h2, h3, h4.trans (by simp [World.setCell])⟩

/-- Elements more. -/
theorem run_append_off {P : Program} {w : World} {B : Nat} (t ty e : TypeId) (i : TypeInfo) (z : Value) (size bytes : Nat) (ht : P.underlying t = some (.slice e)) (hi : P.info? e = some i) (hz : i.zero = some z)
    (hsize : i.size = size) (hby : i.bytes = bytes) (hzs : z.cells.size = size)
    {v : Value} {n : Nat} {xs : List Value} (h : OffRow w B e size v n xs) (x : Value) (m : Nat) (news : List Value) (hs : Src P size t x m news w)
    (h63 : n + m ≤ maxLen) (hbytes : (n + m) * bytes ≤ 140737488355328) (hB : B ≤ w.heap.size) :
    ∃ v' w', (Builtin.append_ #[t, t] ty #[v, x]).run P w = .ok v' w' ∧ OffRow w' B e size v' (n + m) (xs ++ news) ∧ w.grownBy w' v.ownBlock ∧ (v'.ownBlock = v.ownBlock ∨ v'.ownBlock = some w.heap.size) := by
  subst hsize hby
  have hlen : (xs ++ news).length = (n + m) * i.size := by rw [List.length_append, h.1, hs.newsLen, Nat.add_mul]
  have hsmall : ((n + m : Nat) : Int) ≤ 9223372036854775807 := by unfold maxLen at h63; omega
  have grown : ∀ old, old < n + m → OffRow (w.drew.alloc (.cells ((xs ++ news).toArray ++ Builtin.zeroCells z.cells (grownCap w (n + m) old e - (n + m))) e)) B e i.size (.slice (some ⟨w.heap.size, 0, none⟩) (n + m) (grownCap w (n + m) old e)) (n + m) (xs ++ news) := by
    intro old ho
    refine ⟨hlen, .inr ⟨w.heap.size, 0, _, _, rfl, hB, heap_new w.drew _, grownCap_ge w (n + m) old e, grownCap_le_maxLen w (n + m) old e h63, ?_, fun j hj => ?_⟩⟩
    · have := grownCap_ge w (n + m) old e
      rw [Array.size_append, size_zeroCells, hzs, List.size_toArray, hlen, ← Nat.add_mul]
      exact Nat.le_of_eq (by rw [Nat.zero_add]; congr 1; omega)
    · rw [Nat.zero_add, Array.getElem?_append_left (by simpa [hlen] using hj)]
      simp
  rcases h.2 with ⟨rfl, rfl⟩ | ⟨g, off, cap, cur, rfl, hBg, hg, h1, h2, h3, h4⟩
  · obtain rfl : xs = [] := List.eq_nil_of_length_eq_zero (by simpa using h.1)
    by_cases hm : m = 0
    · subst hm
      obtain rfl : news = [] := List.eq_nil_of_length_eq_zero (by simpa using hs.newsLen)
      refine ⟨.slice none 0 0, w, ?_, OffRow.nil w B e i.size, ⟨rfl, rfl, rfl, Nat.le_refl _, fun _ _ _ => rfl⟩, .inl rfl⟩
      have hk := hs.kind
      simp [Builtin.append_, run_underlying ht, sizeOf, typeInfo, hi, hs.len, hs.cells]
    · have hold : (Builtin.firstCells i.size 0 (.slice none 0 0)).run P w.drew = .ok (#[] : Array Value) w.drew := rfl
      have hr := run_append_grow_src (P := P) w t t ty e i z ht hi hz none 0 0 [] (by simpa using hold) x m news hs (by omega) (by simpa using hsmall) (growslice_fits (by omega) (by simpa using hbytes))
      simp only [Nat.zero_add, List.nil_append] at hr
      have hgr := grown 0 (by omega)
      simp only [Nat.zero_add, List.nil_append] at hgr ⊢
      exact ⟨_, _, hr, hgr, ⟨rfl, rfl, rfl, by simp, fun k hk _ => Below.heap_alloc w.drew _ k hk⟩, .inr rfl⟩
  · by_cases hroom : n + m ≤ cap
    · have hbd : ∀ j, j < news.length → off + n * i.size + j < cur.size := by
        intro j hj
        rw [hs.newsLen] at hj
        have : (n + m) * i.size ≤ cap * i.size := Nat.mul_le_mul_right _ hroom
        rw [Nat.add_mul] at this
        omega
      have hr := run_append_room_src (P := P) w t t ty e i ht hi g off n cap x m news hs hroom (fun j hj => by simp [World.cell?, hg, hbd j hj]) (fun j hj => by simp [World.frozen?, hg])
      obtain ⟨cur', a1, a2, a3, a4⟩ := setCells_heap news g (off + n * i.size) w cur e hg
      obtain ⟨b1, b2, b3, b4⟩ := setCells_meta news g (off + n * i.size) w
      refine ⟨_, _, hr, ⟨hlen, .inr ⟨g, off, cap, cur', rfl, hBg, a1, hroom, h2, by omega, fun j hj => ?_⟩⟩, ⟨b1, b2, b3, by omega, fun k _ hk => setCells_other _ _ _ _ _ (fun e => hk (by simp [Value.ownBlock, e]))⟩, .inl rfl⟩
      by_cases hjo : j < n * i.size
      · rw [a4 _ (.inl (by omega)), h4 j hjo, List.getElem?_append_left (by rw [h.1]; exact hjo)]
      · have hjn : j - n * i.size < news.length := by rw [hs.newsLen]; rw [Nat.add_mul] at hj; omega
        rw [List.getElem?_append_right (by rw [h.1]; omega), h.1, ← a3 (j - n * i.size) hjn (hbd _ hjn)]
        congr 1
        omega
    · have hold : (Builtin.firstCells i.size n (.slice (some ⟨g, off, none⟩) n cap)).run P w.drew = .ok xs.toArray w.drew :=
        run_firstCells_some w.drew i.size n ⟨g, off, none⟩ n cap xs h.1 (fun j u hj => by
          have hjl : j < n * i.size := by rw [← h.1]; exact (List.getElem?_eq_some_iff.1 hj).1
          rw [addr_add]
          show w.cell? _ = _
          rw [← hj, ← h4 j hjl]
          simp [World.cell?, hg])
      have hr := run_append_grow_src (P := P) w t t ty e i z ht hi hz (some ⟨g, off, none⟩) n cap xs hold x m news hs (by omega) hsmall (growslice_fits (by omega) hbytes)
      exact ⟨_, _, hr, grown cap (by omega), ⟨rfl, rfl, rfl, by simp, fun k hk _ => Below.heap_alloc w.drew _ k hk⟩, .inr rfl⟩
theorem wp_append_off {P : Program} {w : World} {o : Oper} {a : Act} {K : Act → World → Prop} {Q : Exit → Act → World → Prop} (s x : Operand) (t : TypeId)
    (ho : o.op = .call { callee := .builtin .append, args := #[s, x], argTypes := #[t, t] })
    (B : Nat) (e : TypeId) (i : TypeInfo) (z : Value) (size bytes : Nat) (ht : P.underlying t = some (.slice e)) (hi : P.info? e = some i) (hz : i.zero = some z)
    (hsize : i.size = size) (hby : i.bytes = bytes) (hzs : z.cells.size = size)
    (v : Value) (n : Nat) (xs : List Value) (hs : a.eval s = v) (hown : OffRow w B e size v n xs) (xv : Value) (hx : a.eval x = xv) (m : Nat) (news : List Value) (hsrc : Src P size t xv m news w)
    (h63 : n + m ≤ maxLen) (hbytes : (n + m) * bytes ≤ 140737488355328) (hB : B ≤ w.heap.size)
    (h : ∀ v' w', OffRow w' B e size v' (n + m) (xs ++ news) → w.grownBy w' v.ownBlock → (v'.ownBlock = v.ownBlock ∨ v'.ownBlock = some w.heap.size) → K (a.put o.dst v') w') : o.wp P a w K Q := by
  obtain ⟨v', w', hr, h2, h3, h4⟩ := run_append_off (P := P) t o.type e i z size bytes ht hi hz hsize hby hzs hown xv m news hsrc h63 hbytes hB
  unfold Oper.wp execOp
  simp only [ho, resolve, invoke, builtin, Sem.run_bind, Sem.run_pure, Result.andThen_ok, List.map_toArray, List.map_cons, List.map_nil, hs, hx, hr]
  exact h v' w' h2 h3 h4
/-- At a plain region's list. -/
theorem wpList_append_off {P : Program} {w : World} {ops : Array Oper} {rest : List Oper} {o : Oper} {a : Act} {Q : Exit → Act → World → Prop} (hgd : o.guard = none) (s x : Operand) (t : TypeId)
    (ho : o.op = .call { callee := .builtin .append, args := #[s, x], argTypes := #[t, t] })
    (B : Nat) (e : TypeId) (i : TypeInfo) (z : Value) (size bytes : Nat) (ht : P.underlying t = some (.slice e)) (hi : P.info? e = some i) (hz : i.zero = some z)
    (hsize : i.size = size) (hby : i.bytes = bytes) (hzs : z.cells.size = size)
    (v : Value) (n : Nat) (xs : List Value) (hs : a.eval s = v) (hown : OffRow w B e size v n xs) (xv : Value) (hx : a.eval x = xv) (m : Nat) (news : List Value) (hsrc : Src P size t xv m news w)
    (h63 : n + m ≤ maxLen) (hbytes : (n + m) * bytes ≤ 140737488355328) (hB : B ≤ w.heap.size)
    (h : ∀ v' w', OffRow w' B e size v' (n + m) (xs ++ news) → w.grownBy w' v.ownBlock → (v'.ownBlock = v.ownBlock ∨ v'.ownBlock = some w.heap.size) → wpList P ops Q rest (a.put o.dst v') w') : wpList P ops Q (o :: rest) a w :=
  wpList_plain hgd fun _ hK => wp_append_off s x t ho B e i z size bytes ht hi hz hsize hby hzs v n xs hs hown xv hx m news hsrc h63 hbytes hB fun v' w' h2 h3 h4 => hK _ _ (h v' w' h2 h3 h4)
/-- At a step of a region that draws. -/
theorem step_append_off {P : Program} {w : World} {ops : Array Oper} {o : Oper} {a : Act} {K : Act → World → Prop} {Q : Exit → Act → World → Prop} {E : Prop} (hgd : o.guard = none) (s x : Operand) (t : TypeId)
    (ho : o.op = .call { callee := .builtin .append, args := #[s, x], argTypes := #[t, t] })
    (B : Nat) (e : TypeId) (i : TypeInfo) (z : Value) (size bytes : Nat) (ht : P.underlying t = some (.slice e)) (hi : P.info? e = some i) (hz : i.zero = some z)
    (hsize : i.size = size) (hby : i.bytes = bytes) (hzs : z.cells.size = size)
    (v : Value) (n : Nat) (xs : List Value) (hs : a.eval s = v) (hown : OffRow w B e size v n xs) (xv : Value) (hx : a.eval x = xv) (m : Nat) (news : List Value) (hsrc : Src P size t xv m news w)
    (h63 : n + m ≤ maxLen) (hbytes : (n + m) * bytes ≤ 140737488355328) (hB : B ≤ w.heap.size)
    (h : ∀ v' w', OffRow w' B e size v' (n + m) (xs ++ news) → w.grownBy w' v.ownBlock → (v'.ownBlock = v.ownBlock ∨ v'.ownBlock = some w.heap.size) → K (a.put o.dst v') w') :
    if Region.wanted o (yielded ops a.tmps) = true then Oper.wp P o a w K Q else E := by
  have hw : Region.wanted o (yielded ops a.tmps) = true := by simp [Region.wanted, hgd]
  rw [if_pos hw]
  exact wp_append_off s x t ho B e i z size bytes ht hi hz hsize hby hzs v n xs hs hown xv hx m news hsrc h63 hbytes hB h
/-- What a buildSlice has laid: a source of one element. -/
theorem src_block {P : Program} {size : Nat} {t e' : TypeId} (hk : P.underlying t = some (.slice e')) {w : World} {b : Nat} {cs : Array Value} {ty : TypeId} (hb : w.heap[b]? = some (.cells cs ty (0, 0))) (m c : Nat) (hl : cs.size = m * size) (h1 : ∀ u ∈ cs.toList, u.oneCell' = true) :
    Src P size t (.slice (some ⟨b, 0, none⟩) m c) m cs.toList w :=
  Src.ofSlice w hk ⟨b, 0, none⟩ m c cs.toList (by simpa using hl) (fun j u hu => by rw [addr_add, Nat.zero_add]; simp [World.cell?, hb]; simpa using hu) h1
/-- The builtin clear of the beginning of such a slice, which is taken off then. -/
theorem run_clear_off {P : Program} {w : World} {B : Nat} (t ty e : TypeId) (i : TypeInfo) (z : Value) (size : Nat) (ht : P.underlying t = some (.slice e)) (hi : P.info? e = some i) (hz : i.zero = some z) (hzs : z.cells.size = size) (hz1 : ∀ u ∈ z.cells.toList, u.oneCell' = true)
    {v : Value} {n : Nat} {xs : List Value} (h : OffRow w B e size v n xs) {a : Option Addr} {cap : Nat} (hv : v = .slice a n cap) (g : Nat) (hg : g ≤ n) (c : Nat) :
    ∃ w', (Builtin.clear_ #[t] ty #[.slice a g c]).run P w = .ok (.tuple #[]) w' ∧ w.grownBy w' v.ownBlock ∧ ∃ a', (g < cap → a' = a.map (·.add (g * size))) ∧ (g = cap → a' = a) ∧ OffRow w' B e size (.slice a' (n - g) (cap - g)) (n - g) (xs.drop (g * size)) := by
  by_cases h0 : g = 0
  · refine ⟨w, ?_, ⟨rfl, rfl, rfl, Nat.le_refl _, fun _ _ _ => rfl⟩, h.drop hv hg⟩
    subst h0
    cases a <;> simp [Builtin.clear_, run_underlying ht]
  · obtain ⟨a', d1, d2, d3⟩ := h.drop hv hg
    subst hv
    rcases h.2 with ⟨_, rfl⟩ | ⟨b, off, cap', cur, e0, hB, hh, h1, h2, h3, h4⟩
    · omega
    · injection e0 with e1 _ e3
      subst e1 e3
      have hzl : (Builtin.zeroCells z.cells g).toList.length = g * size := by rw [Array.length_toList, size_zeroCells, hzs]
      have hle : g * size ≤ cap * size := Nat.mul_le_mul_right _ (by omega)
      have hbd : ∀ j, j < (Builtin.zeroCells z.cells g).toList.length → off + 0 + j < cur.size := by intro j hj; rw [hzl] at hj; omega
      have hst := run_storeCells_cells (P := P) b off (Builtin.zeroCells z.cells g).toList 0 w (fun j hj => by simp only [World.cell?, hh]; simp [hbd j hj]; exact hbd j hj) (fun j hj => by simp [World.frozen?, hh]) (fun u hu => by
        simp [Builtin.zeroCells] at hu
        obtain ⟨k, hk, rfl⟩ := hu
        have hk2 : k % z.cells.size < z.cells.size := Nat.mod_lt _ (by rcases Nat.eq_zero_or_pos z.cells.size with x | x; (rw [x] at hk; simp at hk); (exact x))
        rw [getElem!_pos z.cells _ hk2]
        exact hz1 _ (by simp))
      obtain ⟨b1, b2, b3, b4⟩ := setCells_meta (Builtin.zeroCells z.cells g).toList b (off + 0) w
      obtain ⟨cur', q1, q2, _, q4⟩ := setCells_heap (Builtin.zeroCells z.cells g).toList b (off + 0) w cur e hh
      refine ⟨_, ?_, ⟨b1, b2, b3, by omega, fun k _ hk => setCells_other _ _ _ _ _ (fun e => hk (by simp [Value.ownBlock, e]))⟩, a', d1, d2, d3.1, ?_⟩
      · have hu : ∀ g', g = g' + 1 → (Builtin.clear_ #[t] ty #[.slice (some ⟨b, off, none⟩) g c]).run P w = .ok (.tuple #[]) (w.setCells b (off + 0) (Builtin.zeroCells z.cells g).toList) := by
          intro g' hg'
          subst hg'
          simp [Builtin.clear_, run_underlying ht, zeroValue, typeInfo, hi, hz, hst]
        exact hu (g - 1) (by omega)
      · rcases d3.2 with d | ⟨b', off', c', cu, e0, k1, k2, k3, k4, k5, k6⟩
        · exact .inl d
        · injection e0 with e1 _ e3
          have hbb : b' = b ∧ (n - g = 0 ∨ off + g * size ≤ off') := by
            rcases Nat.lt_or_ge g cap with x | x
            · rw [d1 x] at e1
              simp [addr_add] at e1
              exact ⟨e1.1.symm, .inr (by omega)⟩
            · rw [d2 (by omega)] at e1
              simp at e1
              exact ⟨e1.1.symm, .inl (by omega)⟩
          obtain ⟨rfl, hoff⟩ := hbb
          rw [hh] at k2
          injection k2 with k2
          injection k2 with k2
          subst k2
          refine .inr ⟨b', off', c', cur', by rw [e1, e3], k1, q1, k3, k4, by omega, fun j hj => ?_⟩
          rw [q4 _ (.inr ?_)]
          · exact k6 j hj
          · rcases hoff with x | x
            · rw [x] at hj; simp at hj
            · rw [hzl]; omega
/-- The slice expression 's[k:]'. -/
theorem slice_from {P : Program} {t e : TypeId} {i : TypeInfo} (ht : P.underlying t = some (.slice e)) (hi : P.info? e = some i) {size : Nat} (hs : i.size = size) {g off n cap k : Nat} (hk : k ≤ n) (hc : ¬ cap = k) (W : World) :
    (Instr.slice t (.slice (some ⟨g, off, none⟩) n cap) (some (.int .i64 (k : Int))) none none).run P W = .ok (.slice (some ⟨g, off + k * size, none⟩) (n - k) (cap - k)) W := by
  subst hs
  have h1 : (k : Int) ≤ (n : Int) := by omega
  simp [Instr.slice, run_underlying ht, Instr.sliceBounds, run_sliceBound, sizeOf, typeInfo, hi, hk, hc, addr_add]
/-- What is left when the beginning is taken off. -/
def Left (w : World) (B : Nat) (e : TypeId) (size : Nat) (a : Option Addr) (n cap g : Nat) (xs : List Value) : Prop :=
  ∃ a', (g < cap → a' = a.map (·.add (g * size))) ∧ (g = cap → a' = a) ∧ OffRow w B e size (.slice a' (n - g) (cap - g)) (n - g) (xs.drop (g * size))
theorem wpList_clear_off {P : Program} {w : World} {ops : Array Oper} {rest : List Oper} {o : Oper} {act : Act} {Q : Exit → Act → World → Prop} (hgd : o.guard = none) (s : Operand) (t : TypeId)
    (ho : o.op = .call { callee := .builtin .clear, args := #[s], argTypes := #[t] })
    (B : Nat) (e : TypeId) (i : TypeInfo) (z : Value) (size : Nat) (ht : P.underlying t = some (.slice e)) (hi : P.info? e = some i) (hz : i.zero = some z) (hzs : z.cells.size = size) (hz1 : ∀ u ∈ z.cells.toList, u.oneCell' = true)
    (v : Value) (n : Nat) (xs : List Value) (h : OffRow w B e size v n xs) (a : Option Addr) (cap : Nat) (hv : v = .slice a n cap) (g : Nat) (hg : g ≤ n) (c : Nat) (hs : act.eval s = .slice a g c)
    (hk : ∀ w', w.grownBy w' v.ownBlock → Left w' B e size a n cap g xs → wpList P ops Q rest (act.put o.dst (.tuple #[])) w') : wpList P ops Q (o :: rest) act w := by
  refine wpList_plain hgd fun K hK => ?_
  obtain ⟨w', hr, h2, h3⟩ := run_clear_off (P := P) t o.type e i z size ht hi hz hzs hz1 h hv g hg c
  unfold Oper.wp execOp
  simp only [ho, resolve, invoke, builtin, Sem.run_bind, Sem.run_pure, Result.andThen_ok, List.map_toArray, List.map_cons, List.map_nil, hs, hr]
  exact hK _ _ (hk w' h2 h3)
end Go.Proofs.Ytkelcmncjhnbgaa
