/- Texts put together: EpRow, BoxRows, BoxItem, BoxSplit -/
import Derived.Test.YtlpknhiagdhkcaaBSp00
import Derived.Laws.AppendOwn
import Derived.Deep.AppendSrc
import Derived.RegionTactic
import Derived.Test.YtlpknhiagdhkcaaBSp10
import Derived.Great.BuildSlice
/- A slice of the call's own that may begin behind its row's beginning: what it holds, one element more, its beginning taken off. -/
set_option linter.unusedVariables false
set_option maxRecDepth 100000
namespace Go.Proofs.Ytlpknhiagdhkcaa
open Go.RowKit

/-- v is a slice of n elements of type e, each of so many cells, in a row from block B on; its elements' cells are xs. -/
def OffRow (w : World) (B : Nat) (e : TypeId) (size : Nat) (v : Value) (n : Nat) (xs : List Value) : Prop :=
  xs.length = n * size ∧ ((v = .slice none 0 0 ∧ n = 0) ∨ ∃ g off cap cur, v = .slice (some ⟨g, off, none⟩) n cap ∧ B ≤ g ∧ w.heap[g]? = some (.cells cur e (0, 0)) ∧ n ≤ cap ∧ cap ≤ maxLen ∧ off + cap * size ≤ cur.size ∧ ∀ j, j < n * size → cur[off + j]? = xs[j]?)
namespace OffRow
variable {w w' : World} {B : Nat} {e : TypeId} {size : Nat} {v : Value} {n : Nat} {xs : List Value}
theorem nil (w : World) (B : Nat) (e : TypeId) (size : Nat) : OffRow w B e size (.slice none 0 0) 0 [] := ⟨by simp, .inl ⟨rfl, rfl⟩⟩
theorem slice (h : OffRow w B e size v n xs) : ∃ a cap, v = .slice a n cap := by
  rcases h.2 with ⟨rfl, rfl⟩ | ⟨g, off, cap, cur, rfl, _⟩
  · exact ⟨_, _, rfl⟩
  · exact ⟨_, _, rfl⟩
theorem form (h : OffRow w B e size v n xs) (hn : 0 < n) : ∃ g off cap cur, v = .slice (some ⟨g, off, none⟩) n cap ∧ B ≤ g ∧ w.heap[g]? = some (.cells cur e (0, 0)) ∧ ∀ j, j < n * size → w.cell? ⟨g, off + j, none⟩ = xs[j]? := by
  rcases h.2 with ⟨_, h0⟩ | ⟨g, off, cap, cur, rfl, hB, hg, h1, h2, h3, h4⟩
  · omega
  · exact ⟨g, off, cap, cur, rfl, hB, hg, fun j hj => by rw [← h4 j hj]; simp [World.cell?, hg]⟩
theorem lt (h : OffRow w B e size v n xs) : ∀ k, v.ownBlock = some k → B ≤ k ∧ k < w.heap.size := by
  intro k hk
  rcases h.2 with ⟨rfl, _⟩ | ⟨g, off, cap, cur, rfl, hB, hg, _⟩
  · simp [Value.ownBlock] at hk
  · simp [Value.ownBlock] at hk
    subst hk
    exact ⟨hB, heap_lt hg⟩
theorem tag (h : OffRow w B e size v n xs) {k : Nat} (hk : v.ownBlock = some k) : ∃ cur, w.heap[k]? = some (.cells cur e (0, 0)) := by
  rcases h.2 with ⟨rfl, _⟩ | ⟨g, off, cap, cur, rfl, hB, hg, _⟩
  · simp [Value.ownBlock] at hk
  · simp [Value.ownBlock] at hk
    subst hk
    exact ⟨cur, hg⟩
theorem kept (h : OffRow w B e size v n xs) (k : ∀ j, v.ownBlock = some j → w'.heap[j]? = w.heap[j]?) : OffRow w' B e size v n xs := by
  refine ⟨h.1, ?_⟩
  rcases h.2 with h0 | ⟨g, off, cap, cur, rfl, hB, hg, h1⟩
  · exact .inl h0
  · exact .inr ⟨g, off, cap, cur, rfl, hB, (k g rfl).trans hg, h1⟩
theorem of_own (h : w.ownsRow B e size v n xs) : OffRow w B e size v n xs := by
  refine ⟨h.1, ?_⟩
  rcases h.2 with h0 | ⟨g, cap, cur, rfl, hB, hg, h1, h2, h3, h4⟩
  · exact .inl h0
  · refine .inr ⟨g, 0, cap, cur, rfl, hB, hg, h1, h2, by omega, fun j hj => ?_⟩
    rw [← h4, List.getElem?_take, if_pos hj]
    simp
theorem cap_le (h : OffRow w B e size v n xs) : n ≤ maxLen := by
  rcases h.2 with ⟨_, h0⟩ | ⟨g, off, cap, cur, rfl, hB, hg, h1, h2, _⟩
  · unfold maxLen; omega
  · omega
/-- Its beginning is taken off. -/
theorem drop (h : OffRow w B e size v n xs) {a : Option Addr} {cap : Nat} (hv : v = .slice a n cap) {g : Nat} (hg : g ≤ n) : ∃ a', (g < cap → a' = a.map (·.add (g * size))) ∧ (g = cap → a' = a) ∧ OffRow w B e size (.slice a' (n - g) (cap - g)) (n - g) (xs.drop (g * size)) := by
  subst hv
  have hl : (xs.drop (g * size)).length = (n - g) * size := by rw [List.length_drop, h.1, Nat.sub_mul]
  rcases h.2 with ⟨h0, rfl⟩ | ⟨b, off, cap', cur, h0, hB, hh, h1, h2, h3, h4⟩
  · injection h0 with e1 _ e3
    subst e1 e3
    obtain rfl : g = 0 := by omega
    exact ⟨none, fun x => absurd x (by omega), fun _ => rfl, hl, .inl ⟨rfl, rfl⟩⟩
  · injection h0 with e1 _ e3
    subst e1 e3
    by_cases hc : g < cap
    · refine ⟨some ⟨b, off + g * size, none⟩, fun _ => by simp [addr_add], fun x => absurd x (by omega), hl, .inr ⟨b, off + g * size, cap - g, cur, rfl, hB, hh, by omega, by omega, ?_, fun j hj => ?_⟩⟩
      · have : g * size + (cap - g) * size = cap * size := by rw [← Nat.add_mul]; congr 1; omega
        omega
      · rw [Nat.sub_mul] at hj
        rw [List.getElem?_drop, Nat.add_assoc]
        exact h4 _ (by omega)
    · obtain rfl : g = cap := by omega
      obtain rfl : n = g := by omega
      refine ⟨some ⟨b, off, none⟩, fun x => absurd x (by omega), fun _ => rfl, hl, .inr ⟨b, off, n - n, cur, rfl, hB, hh, Nat.le_refl _, by omega, by simp; have := h3; omega, fun j hj => ?_⟩⟩
      simp at hj
end OffRow

theorem setCells_heap : ∀ (vs : List Value) (b o : Nat) (w : World) (cur : Array Value) (t : TypeId), w.heap[b]? = some (.cells cur t (0, 0)) → ∃ cur', (w.setCells b o vs).heap[b]? = some (.cells cur' t (0, 0)) ∧ cur'.size = cur.size ∧ (∀ j, j < vs.length → o + j < cur.size → cur'[o + j]? = vs[j]?) ∧ (∀ j, (j < o ∨ o + vs.length ≤ j) → cur'[j]? = cur[j]?)
  | [], b, o, w, cur, t, h => ⟨cur, h, rfl, fun j hj => absurd hj (by simp), fun _ _ => rfl⟩
  | v :: r, b, o, w, cur, t, h => by
    have h1 := heap_set (o := o) h v
    obtain ⟨cur', a1, a2, a3, a4⟩ := setCells_heap r b (o + 1) (w.setCell ⟨b, o, none⟩ v) _ t h1
    refine ⟨cur', a1, by rw [a2]; simp, fun j hj hlt => ?_, fun j hj => ?_⟩
    · cases j with
      | zero =>
        rw [a4 (o + 0) (.inl (by omega))]
        simp [Array.getElem?_setIfInBounds]
        omega
      | succ j =>
        have := a3 j (by simpa using hj) (by simp; omega)
        rw [show o + (j + 1) = o + 1 + j by omega]
        simpa using this
    · rw [a4 j (by simp at hj; omega), Array.getElem?_setIfInBounds, if_neg (by simp at hj; omega)]
theorem setCells_other : ∀ (vs : List Value) (b o : Nat) (w : World) (k : Nat), k ≠ b → (w.setCells b o vs).heap[k]? = w.heap[k]?
  | [], _, _, _, _, _ => rfl
  | v :: r, b, o, w, k, h => (setCells_other r b (o + 1) _ k h).trans (heap_set_other h v)
theorem setCells_meta : ∀ (vs : List Value) (b o : Nat) (w : World), (w.setCells b o vs).os = w.os ∧ (w.setCells b o vs).tape = w.tape ∧ (w.setCells b o vs).output = w.output ∧ (w.setCells b o vs).heap.size = w.heap.size
  | [], _, _, _ => ⟨rfl, rfl, rfl, rfl⟩
  | v :: r, b, o, w => by
    obtain ⟨h1, h2, h3, h4⟩ := setCells_meta r b (o + 1) (w.setCell ⟨b, o, none⟩ v)
    exact ⟨h1, h2, h3, h4.trans (by simp [World.setCell])⟩

/-- Elements more. -/
theorem run_append_off {P : Program} {w : World} {B : Nat} (t ty e : TypeId) (i : TypeInfo) (z : Value) (size bytes : Nat) (ht : P.underlying t = some (.slice e)) (hi : P.info? e = some i) (hz : i.zero = some z)
    (hsize : i.size = size) (hby : i.bytes = bytes) (hzs : z.cells.size = size)
    {v : Value} {n : Nat} {xs : List Value} (h : OffRow w B e size v n xs) (x : Value) (m : Nat) (news : List Value) (hs : Src P size t x m news w)
    (h63 : n + m ≤ maxLen) (hbytes : (n + m) * bytes ≤ 140737488355328) (hB : B ≤ w.heap.size) :
    ∃ v' w', (Builtin.append_ #[t, t] ty #[v, x]).run P w = .ok v' w' ∧ OffRow w' B e size v' (n + m) (xs ++ news) ∧ w.grownBy w' v.ownBlock ∧ (v'.ownBlock = v.ownBlock ∨ v'.ownBlock = some w.heap.size) := by
  subst hsize hby
  have hlen : (xs ++ news).length = (n + m) * i.size := by rw [List.length_append, h.1, hs.newsLen, Nat.add_mul]
  have hsmall : ((n + m : Nat) : Int) ≤ 9223372036854775807 := by unfold maxLen at h63; omega
  have grown : ∀ old, old < n + m → OffRow (w.drew.alloc (.cells ((xs ++ news).toArray ++ Builtin.zeroCells z.cells (grownCap w (n + m) old e - (n + m))) e)) B e i.size (.slice (some ⟨w.heap.size, 0, none⟩) (n + m) (grownCap w (n + m) old e)) (n + m) (xs ++ news) := by
    intro old ho
    refine ⟨hlen, .inr ⟨w.heap.size, 0, _, _, rfl, hB, heap_new w.drew _, grownCap_ge w (n + m) old e, grownCap_le_maxLen w (n + m) old e h63, ?_, fun j hj => ?_⟩⟩
    · have := grownCap_ge w (n + m) old e
      rw [Array.size_append, size_zeroCells, hzs, List.size_toArray, hlen, ← Nat.add_mul]
      exact Nat.le_of_eq (by rw [Nat.zero_add]; congr 1; omega)
    · rw [Nat.zero_add, Array.getElem?_append_left (by simpa [hlen] using hj)]
      simp
  rcases h.2 with ⟨rfl, rfl⟩ | ⟨g, off, cap, cur, rfl, hBg, hg, h1, h2, h3, h4⟩
  · obtain rfl : xs = [] := List.eq_nil_of_length_eq_zero (by simpa using h.1)
    by_cases hm : m = 0
    · subst hm
      obtain rfl : news = [] := List.eq_nil_of_length_eq_zero (by simpa using hs.newsLen)
      refine ⟨.slice none 0 0, w, ?_, OffRow.nil w B e i.size, ⟨rfl, rfl, rfl, Nat.le_refl _, fun _ _ _ => rfl⟩, .inl rfl⟩
      have hk := hs.kind
      simp [Builtin.append_, run_underlying ht, sizeOf, typeInfo, hi, hs.len, hs.cells]
    · have hold : (Builtin.firstCells i.size 0 (.slice none 0 0)).run P w.drew = .ok (#[] : Array Value) w.drew := rfl
      have hr := run_append_grow_src (P := P) w t t ty e i z ht hi hz none 0 0 [] (by simpa using hold) x m news hs (by omega) (by simpa using hsmall) (growslice_fits (by omega) (by simpa using hbytes))
      simp only [Nat.zero_add, List.nil_append] at hr
      have hgr := grown 0 (by omega)
      simp only [Nat.zero_add, List.nil_append] at hgr ⊢
      exact ⟨_, _, hr, hgr, ⟨rfl, rfl, rfl, by simp, fun k hk _ => Below.heap_alloc w.drew _ k hk⟩, .inr rfl⟩
  · by_cases hroom : n + m ≤ cap
    · have hbd : ∀ j, j < news.length → off + n * i.size + j < cur.size := by
        intro j hj
        rw [hs.newsLen] at hj
        have : (n + m) * i.size ≤ cap * i.size := Nat.mul_le_mul_right _ hroom
        rw [Nat.add_mul] at this
        omega
      have hr := run_append_room_src (P := P) w t t ty e i ht hi g off n cap x m news hs hroom (fun j hj => by simp [World.cell?, hg, hbd j hj]) (fun j hj => by simp [World.frozen?, hg])
      obtain ⟨cur', a1, a2, a3, a4⟩ := setCells_heap news g (off + n * i.size) w cur e hg
      obtain ⟨b1, b2, b3, b4⟩ := setCells_meta news g (off + n * i.size) w
      refine ⟨_, _, hr, ⟨hlen, .inr ⟨g, off, cap, cur', rfl, hBg, a1, hroom, h2, by omega, fun j hj => ?_⟩⟩, ⟨b1, b2, b3, by omega, fun k _ hk => setCells_other _ _ _ _ _ (fun e => hk (by simp [Value.ownBlock, e]))⟩, .inl rfl⟩
      by_cases hjo : j < n * i.size
      · rw [a4 _ (.inl (by omega)), h4 j hjo, List.getElem?_append_left (by rw [h.1]; exact hjo)]
      · have hjn : j - n * i.size < news.length := by rw [hs.newsLen]; rw [Nat.add_mul] at hj; omega
        rw [List.getElem?_append_right (by rw [h.1]; omega), h.1, ← a3 (j - n * i.size) hjn (hbd _ hjn)]
        congr 1
        omega
    · have hold : (Builtin.firstCells i.size n (.slice (some ⟨g, off, none⟩) n cap)).run P w.drew = .ok xs.toArray w.drew :=
        run_firstCells_some w.drew i.size n ⟨g, off, none⟩ n cap xs h.1 (fun j u hj => by
          have hjl : j < n * i.size := by rw [← h.1]; exact (List.getElem?_eq_some_iff.1 hj).1
          rw [addr_add]
          show w.cell? _ = _
          rw [← hj, ← h4 j hjl]
          simp [World.cell?, hg])
      have hr := run_append_grow_src (P := P) w t t ty e i z ht hi hz (some ⟨g, off, none⟩) n cap xs hold x m news hs (by omega) hsmall (growslice_fits (by omega) hbytes)
      exact ⟨_, _, hr, grown cap (by omega), ⟨rfl, rfl, rfl, by simp, fun k hk _ => Below.heap_alloc w.drew _ k hk⟩, .inr rfl⟩
theorem wp_append_off {P : Program} {w : World} {o : Oper} {a : Act} {K : Act → World → Prop} {Q : Exit → Act → World → Prop} (s x : Operand) (t : TypeId)
    (ho : o.op = .call { callee := .builtin .append, args := #[s, x], argTypes := #[t, t] })
    (B : Nat) (e : TypeId) (i : TypeInfo) (z : Value) (size bytes : Nat) (ht : P.underlying t = some (.slice e)) (hi : P.info? e = some i) (hz : i.zero = some z)
    (hsize : i.size = size) (hby : i.bytes = bytes) (hzs : z.cells.size = size)
    (v : Value) (n : Nat) (xs : List Value) (hs : a.eval s = v) (hown : OffRow w B e size v n xs) (xv : Value) (hx : a.eval x = xv) (m : Nat) (news : List Value) (hsrc : Src P size t xv m news w)
    (h63 : n + m ≤ maxLen) (hbytes : (n + m) * bytes ≤ 140737488355328) (hB : B ≤ w.heap.size)
    (h : ∀ v' w', OffRow w' B e size v' (n + m) (xs ++ news) → w.grownBy w' v.ownBlock → (v'.ownBlock = v.ownBlock ∨ v'.ownBlock = some w.heap.size) → K (a.put o.dst v') w') : o.wp P a w K Q := by
  obtain ⟨v', w', hr, h2, h3, h4⟩ := run_append_off (P := P) t o.type e i z size bytes ht hi hz hsize hby hzs hown xv m news hsrc h63 hbytes hB
  unfold Oper.wp execOp
  simp only [ho, resolve, invoke, builtin, Sem.run_bind, Sem.run_pure, Result.andThen_ok, List.map_toArray, List.map_cons, List.map_nil, hs, hx, hr]
  exact h v' w' h2 h3 h4
/-- At a plain region's list. -/
theorem wpList_append_off {P : Program} {w : World} {ops : Array Oper} {rest : List Oper} {o : Oper} {a : Act} {Q : Exit → Act → World → Prop} (hgd : o.guard = none) (s x : Operand) (t : TypeId)
    (ho : o.op = .call { callee := .builtin .append, args := #[s, x], argTypes := #[t, t] })
    (B : Nat) (e : TypeId) (i : TypeInfo) (z : Value) (size bytes : Nat) (ht : P.underlying t = some (.slice e)) (hi : P.info? e = some i) (hz : i.zero = some z)
    (hsize : i.size = size) (hby : i.bytes = bytes) (hzs : z.cells.size = size)
    (v : Value) (n : Nat) (xs : List Value) (hs : a.eval s = v) (hown : OffRow w B e size v n xs) (xv : Value) (hx : a.eval x = xv) (m : Nat) (news : List Value) (hsrc : Src P size t xv m news w)
    (h63 : n + m ≤ maxLen) (hbytes : (n + m) * bytes ≤ 140737488355328) (hB : B ≤ w.heap.size)
    (h : ∀ v' w', OffRow w' B e size v' (n + m) (xs ++ news) → w.grownBy w' v.ownBlock → (v'.ownBlock = v.ownBlock ∨ v'.ownBlock = some w.heap.size) → wpList P ops Q rest (a.put o.dst v') w') : wpList P ops Q (o :: rest) a w :=
  wpList_plain hgd fun _ hK => wp_append_off s x t ho B e i z size bytes ht hi hz hsize hby hzs v n xs hs hown xv hx m news hsrc h63 hbytes hB fun v' w' h2 h3 h4 => hK _ _ (h v' w' h2 h3 h4)
/-- At a step of a region that draws. -/
theorem step_append_off {P : Program} {w : World} {ops : Array Oper} {o : Oper} {a : Act} {K : Act → World → Prop} {Q : Exit → Act → World → Prop} {E : Prop} (hgd : o.guard = none) (s x : Operand) (t : TypeId)
    (ho : o.op = .call { callee := .builtin .append, args := #[s, x], argTypes := #[t, t] })
    (B : Nat) (e : TypeId) (i : TypeInfo) (z : Value) (size bytes : Nat) (ht : P.underlying t = some (.slice e)) (hi : P.info? e = some i) (hz : i.zero = some z)
    (hsize : i.size = size) (hby : i.bytes = bytes) (hzs : z.cells.size = size)
    (v : Value) (n : Nat) (xs : List Value) (hs : a.eval s = v) (hown : OffRow w B e size v n xs) (xv : Value) (hx : a.eval x = xv) (m : Nat) (news : List Value) (hsrc : Src P size t xv m news w)
    (h63 : n + m ≤ maxLen) (hbytes : (n + m) * bytes ≤ 140737488355328) (hB : B ≤ w.heap.size)
    (h : ∀ v' w', OffRow w' B e size v' (n + m) (xs ++ news) → w.grownBy w' v.ownBlock → (v'.ownBlock = v.ownBlock ∨ v'.ownBlock = some w.heap.size) → K (a.put o.dst v') w') :
    if Region.wanted o (yielded ops a.tmps) = true then Oper.wp P o a w K Q else E := by
  have hw : Region.wanted o (yielded ops a.tmps) = true := by simp [Region.wanted, hgd]
  rw [if_pos hw]
  exact wp_append_off s x t ho B e i z size bytes ht hi hz hsize hby hzs v n xs hs hown xv hx m news hsrc h63 hbytes hB h
/-- What a buildSlice has laid: a source of one element. -/
theorem src_block {P : Program} {size : Nat} {t e' : TypeId} (hk : P.underlying t = some (.slice e')) {w : World} {b : Nat} {cs : Array Value} {ty : TypeId} (hb : w.heap[b]? = some (.cells cs ty (0, 0))) (m c : Nat) (hl : cs.size = m * size) (h1 : ∀ u ∈ cs.toList, u.oneCell' = true) :
    Src P size t (.slice (some ⟨b, 0, none⟩) m c) m cs.toList w :=
  Src.ofSlice w hk ⟨b, 0, none⟩ m c cs.toList (by simpa using hl) (fun j u hu => by rw [addr_add, Nat.zero_add]; simp [World.cell?, hb]; simpa using hu) h1
/-- The builtin clear of the beginning of such a slice, which is taken off then. -/
theorem run_clear_off {P : Program} {w : World} {B : Nat} (t ty e : TypeId) (i : TypeInfo) (z : Value) (size : Nat) (ht : P.underlying t = some (.slice e)) (hi : P.info? e = some i) (hz : i.zero = some z) (hzs : z.cells.size = size) (hz1 : ∀ u ∈ z.cells.toList, u.oneCell' = true)
    {v : Value} {n : Nat} {xs : List Value} (h : OffRow w B e size v n xs) {a : Option Addr} {cap : Nat} (hv : v = .slice a n cap) (g : Nat) (hg : g ≤ n) (c : Nat) :
    ∃ w', (Builtin.clear_ #[t] ty #[.slice a g c]).run P w = .ok (.tuple #[]) w' ∧ w.grownBy w' v.ownBlock ∧ ∃ a', (g < cap → a' = a.map (·.add (g * size))) ∧ (g = cap → a' = a) ∧ OffRow w' B e size (.slice a' (n - g) (cap - g)) (n - g) (xs.drop (g * size)) := by
  by_cases h0 : g = 0
  · refine ⟨w, ?_, ⟨rfl, rfl, rfl, Nat.le_refl _, fun _ _ _ => rfl⟩, h.drop hv hg⟩
    subst h0
    cases a <;> simp [Builtin.clear_, run_underlying ht]
  · obtain ⟨a', d1, d2, d3⟩ := h.drop hv hg
    subst hv
    rcases h.2 with ⟨_, rfl⟩ | ⟨b, off, cap', cur, e0, hB, hh, h1, h2, h3, h4⟩
    · omega
    · injection e0 with e1 _ e3
      subst e1 e3
      have hzl : (Builtin.zeroCells z.cells g).toList.length = g * size := by rw [Array.length_toList, size_zeroCells, hzs]
      have hle : g * size ≤ cap * size := Nat.mul_le_mul_right _ (by omega)
      have hbd : ∀ j, j < (Builtin.zeroCells z.cells g).toList.length → off + 0 + j < cur.size := by intro j hj; rw [hzl] at hj; omega
      have hst := run_storeCells_cells (P := P) b off (Builtin.zeroCells z.cells g).toList 0 w (fun j hj => by simp only [World.cell?, hh]; simp [hbd j hj]; exact hbd j hj) (fun j hj => by simp [World.frozen?, hh]) (fun u hu => by
        simp [Builtin.zeroCells] at hu
        obtain ⟨k, hk, rfl⟩ := hu
        have hk2 : k % z.cells.size < z.cells.size := Nat.mod_lt _ (by rcases Nat.eq_zero_or_pos z.cells.size with x | x; (rw [x] at hk; simp at hk); (exact x))
        rw [getElem!_pos z.cells _ hk2]
        exact hz1 _ (by simp))
      obtain ⟨b1, b2, b3, b4⟩ := setCells_meta (Builtin.zeroCells z.cells g).toList b (off + 0) w
      obtain ⟨cur', q1, q2, _, q4⟩ := setCells_heap (Builtin.zeroCells z.cells g).toList b (off + 0) w cur e hh
      refine ⟨_, ?_, ⟨b1, b2, b3, by omega, fun k _ hk => setCells_other _ _ _ _ _ (fun e => hk (by simp [Value.ownBlock, e]))⟩, a', d1, d2, d3.1, ?_⟩
      · have hu : ∀ g', g = g' + 1 → (Builtin.clear_ #[t] ty #[.slice (some ⟨b, off, none⟩) g c]).run P w = .ok (.tuple #[]) (w.setCells b (off + 0) (Builtin.zeroCells z.cells g).toList) := by
          intro g' hg'
          subst hg'
          simp [Builtin.clear_, run_underlying ht, zeroValue, typeInfo, hi, hz, hst]
        exact hu (g - 1) (by omega)
      · rcases d3.2 with d | ⟨b', off', c', cu, e0, k1, k2, k3, k4, k5, k6⟩
        · exact .inl d
        · injection e0 with e1 _ e3
          have hbb : b' = b ∧ (n - g = 0 ∨ off + g * size ≤ off') := by
            rcases Nat.lt_or_ge g cap with x | x
            · rw [d1 x] at e1
              simp [addr_add] at e1
              exact ⟨e1.1.symm, .inr (by omega)⟩
            · rw [d2 (by omega)] at e1
              simp at e1
              exact ⟨e1.1.symm, .inl (by omega)⟩
          obtain ⟨rfl, hoff⟩ := hbb
          rw [hh] at k2
          injection k2 with k2
          injection k2 with k2
          subst k2
          refine .inr ⟨b', off', c', cur', by rw [e1, e3], k1, q1, k3, k4, by omega, fun j hj => ?_⟩
          rw [q4 _ (.inr ?_)]
          · exact k6 j hj
          · rcases hoff with x | x
            · rw [x] at hj; simp at hj
            · rw [hzl]; omega
/-- The slice expression 's[k:]'. -/
theorem slice_from {P : Program} {t e : TypeId} {i : TypeInfo} (ht : P.underlying t = some (.slice e)) (hi : P.info? e = some i) {size : Nat} (hs : i.size = size) {g off n cap k : Nat} (hk : k ≤ n) (hc : ¬ cap = k) (W : World) :
    (Instr.slice t (.slice (some ⟨g, off, none⟩) n cap) (some (.int .i64 (k : Int))) none none).run P W = .ok (.slice (some ⟨g, off + k * size, none⟩) (n - k) (cap - k)) W := by
  subst hs
  have h1 : (k : Int) ≤ (n : Int) := by omega
  simp [Instr.slice, run_underlying ht, Instr.sliceBounds, run_sliceBound, sizeOf, typeInfo, hi, hk, hc, addr_add]
/-- What is left when the beginning is taken off. -/
def Left (w : World) (B : Nat) (e : TypeId) (size : Nat) (a : Option Addr) (n cap g : Nat) (xs : List Value) : Prop :=
  ∃ a', (g < cap → a' = a.map (·.add (g * size))) ∧ (g = cap → a' = a) ∧ OffRow w B e size (.slice a' (n - g) (cap - g)) (n - g) (xs.drop (g * size))
theorem wpList_clear_off {P : Program} {w : World} {ops : Array Oper} {rest : List Oper} {o : Oper} {act : Act} {Q : Exit → Act → World → Prop} (hgd : o.guard = none) (s : Operand) (t : TypeId)
    (ho : o.op = .call { callee := .builtin .clear, args := #[s], argTypes := #[t] })
    (B : Nat) (e : TypeId) (i : TypeInfo) (z : Value) (size : Nat) (ht : P.underlying t = some (.slice e)) (hi : P.info? e = some i) (hz : i.zero = some z) (hzs : z.cells.size = size) (hz1 : ∀ u ∈ z.cells.toList, u.oneCell' = true)
    (v : Value) (n : Nat) (xs : List Value) (h : OffRow w B e size v n xs) (a : Option Addr) (cap : Nat) (hv : v = .slice a n cap) (g : Nat) (hg : g ≤ n) (c : Nat) (hs : act.eval s = .slice a g c)
    (hk : ∀ w', w.grownBy w' v.ownBlock → Left w' B e size a n cap g xs → wpList P ops Q rest (act.put o.dst (.tuple #[])) w') : wpList P ops Q (o :: rest) act w := by
  refine wpList_plain hgd fun K hK => ?_
  obtain ⟨w', hr, h2, h3⟩ := run_clear_off (P := P) t o.type e i z size ht hi hz hzs hz1 h hv g hg c
  unfold Oper.wp execOp
  simp only [ho, resolve, invoke, builtin, Sem.run_bind, Sem.run_pure, Result.andThen_ok, List.map_toArray, List.map_cons, List.map_nil, hs, hr]
  exact hK _ _ (hk w' h2 h3)
end Go.Proofs.Ytlpknhiagdhkcaa
/- Items: a record with its place; rows of them. -/
set_option linter.unusedVariables false
set_option maxRecDepth 100000
namespace Go.Proofs.Ytlpknhiagdhkcaa
open Go.RowKit

def itmC (a n : Nat) (r : RecB) : List Value := .int .i64 (a : Int) :: .int .i64 (n : Int) :: recC r
theorem itmC_len {a n : Nat} {r : RecB} (h : r.Ok) : (itmC a n r).length = 68 := by simp [itmC, recC_len h]
theorem itmC_one (a n : Nat) (r : RecB) : ∀ v ∈ itmC a n r, v.oneCell' = true := by
  intro v hv
  simp only [itmC, List.mem_cons] at hv
  rcases hv with rfl | rfl | hv
  · rfl
  · rfl
  · exact recC_one r v hv
theorem info_item : (Try.prog.info? 50).map (·.size) = some 68 := by kernel_rfl
theorem info_itmA {a n : Nat} {r : RecB} (h : r.Ok) : (Try.prog.info? 50).map (·.size) = some (itmC a n r).toArray.size := by
  rw [show (itmC a n r).toArray.size = 68 by simp [itmC_len h]]; exact info_item
theorem info_itmL {a n : Nat} {r : RecB} (h : r.Ok) : (Try.prog.info? 50).map (·.size) = some (itmC a n r).length := by rw [itmC_len h]; exact info_item
theorem zero_item : (itmC 0 0 RecB.zero).toArray = Try.zeroCells50 := by kernel_rfl
theorem und_item : Try.prog.underlying 50 = some (.struct (Try.prog.fieldsOf 50)) := by kernel_rfl
theorem stood_item : Try.prog.stoodInHeld 50 = false := by kernel_rfl
theorem guard_item : Try.prog.eqGuardType Try.prog.depth 50 = false := by kernel_rfl
theorem item_fields : ∃ f0 f1 f2 : Field, (Try.prog.fieldsOf 50).toList = [f0, f1, f2] ∧ (f0.name ≠ "_" ∧ f0.type = 3 ∧ f0.offset = 0) ∧ (f1.name ≠ "_" ∧ f1.type = 3 ∧ f1.offset = 1) ∧ (f2.name ≠ "_" ∧ f2.type = 30 ∧ f2.offset = 2) := by
  refine ⟨_, _, _, rfl, ?_, ?_, ?_⟩ <;> exact ⟨by decide, rfl, rfl⟩
theorem part_int (w : World) (cs : Array Value) (o : Nat) (v : Value) (h : cs[o]? = some v) : (part 3 cs o).run Try.prog w = .ok v w := by
  unfold part
  simp only [Sem.run_bind]
  rw [show (isAgg 3).run Try.prog w = .ok false w by kernel_rfl]
  simp [h]
theorem part_rec (w : World) (a n : Nat) (r : RecB) (h : r.Ok) : (part 30 (itmC a n r).toArray 2).run Try.prog w = .ok (.agg (recA r)) w := by
  unfold part
  simp only [Sem.run_bind]
  rw [show (isAgg 30).run Try.prog w = .ok true w by kernel_rfl]
  simp only [Result.andThen_ok, if_true, Sem.run_bind]
  rw [show (sizeOf 30).run Try.prog w = .ok 66 w by kernel_rfl]
  have e : (itmC a n r).toArray.extract 2 (2 + 66) = recA r := by
    rw [List.extract_toArray]
    unfold recA
    congr 1
    rw [List.extract_eq_take_drop]
    show (recC r).take 66 = recC r
    exact List.take_of_length_le (by rw [recC_len h]; omega)
  simp only [Result.andThen_ok, Sem.run_pure, e]
theorem eql_item (a n : Nat) (r : RecB) (h : r.Ok) (w : World) (b : Bool) (hb : b = (decide (a = 0) && decide (n = 0) && decide (r = RecB.zero))) : (binOp .eql 50 (.agg (itmC a n r).toArray) (.agg (itmC 0 0 RecB.zero).toArray)).run Try.prog w = .ok (.bool b) w := by
  obtain ⟨f0, f1, f2, hf, ⟨n0, t0, o0⟩, ⟨n1, t1, o1⟩, ⟨n2, t2, o2⟩⟩ := item_fields
  rw [run_eql_struct, run_equalIn_struct w 9999 50 _ _ und_item stood_item, hf]
  have e0 : ∀ (a n : Nat) (r : RecB), (itmC a n r).toArray[0]? = some (.int .i64 (a : Int)) := fun a n r => by simp [itmC]
  have e1 : ∀ (a n : Nat) (r : RecB), (itmC a n r).toArray[1]? = some (.int .i64 (n : Int)) := fun a n r => by simp [itmC]
  simp only [Op.eqFields, n0, n1, n2, ne_eq, not_false_eq_true, if_true, t0, t1, t2, o0, o1, o2, Sem.run_bind, part_int w _ 0 _ (e0 a n r), part_int w _ 0 _ (e0 0 0 RecB.zero), Result.andThen_ok, run_equalIn_int w 9998 3 .i64 .i64 _ _ Try.underlying3]
  by_cases ha : a = 0
  · subst ha
    rw [show (((0 : Nat) : Int) == ((0 : Nat) : Int)) = true from rfl]
    simp only [Bool.not_true, Bool.false_eq_true, if_false, Sem.run_bind, part_int w _ 1 _ (e1 0 n r), part_int w _ 1 _ (e1 0 0 RecB.zero), Result.andThen_ok, run_equalIn_int w 9998 3 .i64 .i64 _ _ Try.underlying3]
    by_cases hn : n = 0
    · subst hn
      rw [show (((0 : Nat) : Int) == ((0 : Nat) : Int)) = true from rfl]
      simp only [Bool.not_true, Bool.false_eq_true, if_false, Sem.run_bind, part_rec w _ _ _ h, part_rec w _ _ _ RecB.zero_ok, Result.andThen_ok, eq_recs 9996 r RecB.zero h RecB.zero_ok]
      by_cases hr : r = RecB.zero
      · rw [decide_eq_true hr]; rw [hb]; simp [hr]
      · rw [decide_eq_false hr]; rw [hb]; simp [hr]
    · rw [show ((n : Int) == ((0 : Nat) : Int)) = false from beq_eq_false_iff_ne.2 (by omega)]
      rw [hb]; simp [hn]
  · rw [show ((a : Int) == ((0 : Nat) : Int)) = false from beq_eq_false_iff_ne.2 (by omega)]
    rw [hb]; simp [ha]
theorem built_item (parts : List (Nat × Value)) : Try.prog.built 50 parts = Instr.fill ((#[(0, 1), (1, 1), (2, 66)] : Array (Nat × Nat))[·]?) (itmC 0 0 RecB.zero).toArray parts := by kernel_rfl
theorem build_item (a n : Nat) {r : RecB} (h : r.Ok) (w : World) : (Instr.build 50 #[(0, .int .i64 (a : Int)), (1, .int .i64 (n : Int)), (2, .agg (recA r))]).run Try.prog w = .ok (.agg (itmC a n r).toArray) w := by
  refine run_build w _ _ _ ?_
  rw [built_item]
  have z : (itmC 0 0 RecB.zero).length = 68 := itmC_len RecB.zero_ok
  rw [fill_one _ _ (.int .i64 (a : Int)) 0 0 _ rfl rfl (by omega)]
  have e1 : List.take 0 (itmC 0 0 RecB.zero) ++ ([Value.int .i64 (a : Int)] ++ List.drop (0 + 1) (itmC 0 0 RecB.zero)) = itmC a 0 RecB.zero := rfl
  rw [e1, fill_one _ _ (.int .i64 (n : Int)) 1 1 _ rfl rfl (by rw [itmC_len RecB.zero_ok]; omega)]
  have e2 : List.take 1 (itmC a 0 RecB.zero) ++ ([Value.int .i64 (n : Int)] ++ List.drop (1 + 1) (itmC a 0 RecB.zero)) = itmC a n RecB.zero := rfl
  rw [e2]
  unfold recA
  rw [fill_agg _ (itmC a n RecB.zero) (recC r) 2 2 [] (by rw [recC_len h]; rfl) (by rw [recC_len h, itmC_len RecB.zero_ok]; omega), List.drop_of_length_le (by rw [recC_len h, itmC_len RecB.zero_ok]; omega), List.append_nil]
  rfl

/-! ### In a block -/
def ItIn (b : Nat) (a n : Nat) (r : RecB) (w : World) : Prop := w.heap[b]? = some (.cells (itmC a n r).toArray 50 (0, 0))
theorem ItIn.range {b a n : Nat} {r : RecB} {w : World} (h : ItIn b a n r w) : w.rangeAt b 0 (itmC a n r) := fun j v hj => by
  unfold ItIn at h
  rw [Nat.zero_add]; simp only [World.cell?, h]; simpa using hj
theorem ItIn.there {b a n : Nat} {r : RecB} {w : World} (h : ItIn b a n r w) (hr : r.Ok) : w.there b 0 68 := fun j hj => by
  unfold ItIn at h
  refine ⟨?_, by simp [World.frozen?, h]⟩
  rw [Nat.zero_add]; simp only [World.cell?, h]
  have : j < (itmC a n r).length := by rw [itmC_len hr]; exact hj
  simp [this]
theorem ItIn.setAll {b a n a' n' : Nat} {r r' : RecB} {w : World} (h : ItIn b a n r w) (hr : r.Ok) (hr' : r'.Ok) : ItIn b a' n' r' (w.setCells b 0 (itmC a' n' r')) := by
  have := setCells_mid (itmC a' n' r') 0 (itmC a n r) w h (by rw [itmC_len hr, itmC_len hr']; omega)
  rw [List.take_zero, List.nil_append, List.drop_of_length_le (by rw [itmC_len hr, itmC_len hr']; omega), List.append_nil] at this
  exact this
theorem ItIn.new (w : World) (a n : Nat) (r : RecB) : ItIn w.heap.size a n r (w.alloc (.cells (itmC a n r).toArray 50)) := heap_new _ _
theorem ItIn.below {b a n B : Nat} {r : RecB} {w w' : World} (h : ItIn b a n r w) (k : Below B w w') (hb : b < B) : ItIn b a n r w' := by unfold ItIn at h ⊢; rw [k.block b hb, h]

/-! ### One element laid for an append -/
theorem wpList_buildOne {P : Program} {ops : Array Oper} {rest : List Oper} {o : Oper} {a : Act} {w : World} {Q : Exit → Act → World → Prop} (hg : o.guard = none) (t e : TypeId) (x : Operand) (ho : o.op = .buildSlice t 1 [(0, x)].toArray)
    (cs : List Value) (hx : a.eval x = .agg cs.toArray) (ie : TypeInfo) (z : Value) (hu : P.underlying t = some (.slice e)) (hie : P.info? e = some ie) (hz : ie.zero = some z) (hl : ie.size = cs.length) (hpos : 0 < cs.length) (hsm : cs.length ≤ 16777216)
    (h : wpList P ops Q rest (a.put o.dst (.slice (some ⟨w.heap.size, 0, none⟩) 1 1)) (w.alloc (.cells cs.toArray e))) : wpList P ops Q (o :: rest) a w := by
  refine wpList_buildSlice hg t e 1 _ ho cs.toArray ie z hu hie hz (by rw [hl]; omega) (by rw [hl]; omega) ?_ h
  have e1 : (([(0, x)].toArray : Array (Nat × Operand)).map fun (i, x) => (i, a.eval x)).toList = [(0, .agg cs.toArray)] := by simp [hx]
  rw [e1]
  obtain ⟨C, hC, hCl⟩ : ∃ C : List Value, ((Array.range (1 * ie.size)).map (z.cells[· % z.cells.size]!)) = C.toArray ∧ C.length = cs.length :=
    ⟨((Array.range (1 * ie.size)).map (z.cells[· % z.cells.size]!)).toList, (Array.toArray_toList ..).symm, by simp [hl]⟩
  rw [hC, fill_agg _ C cs 0 0 [] (by rw [hl]; simp) (by omega), List.take_zero, List.nil_append, List.drop_of_length_le (by omega), List.append_nil]
  rfl
end Go.Proofs.Ytlpknhiagdhkcaa
/- The program's item: the whole record that begins at a place. -/
set_option linter.unusedVariables false
set_option maxRecDepth 100000
namespace Go.Proofs.Ytlpknhiagdhkcaa
open Go.RowKit

def itR (l : List UInt8) (at_ : Nat) : Nat × Nat × RecB := match fstR (l.drop at_) with
  | some (r, k) => (at_, k, r)
  | none => (0, 0, RecB.zero)
theorem itR_no {l : List UInt8} {at_ : Nat} (h : fstR (l.drop at_) = none) : itR l at_ = (0, 0, RecB.zero) := by unfold itR; rw [h]
theorem itR_yes {l : List UInt8} {at_ k : Nat} {r : RecB} (h : fstR (l.drop at_) = some (r, k)) : itR l at_ = (at_, k, r) := by unfold itR; rw [h]
theorem we4 (l : List UInt8) : we l 4 = if l.length < 4 then 2 else 0 := by
  unfold we
  rw [if_neg (by omega)]
  by_cases h : l.length < 4
  · rw [if_pos (by omega), if_pos h]
  · rw [if_neg (by omega), if_neg h]
theorem takeE_ok {l : List UInt8} (h : 4 ≤ l.length) : takeE l = if okT l then 0 else 4 := by unfold takeE; rw [if_neg (by omega)]

set_option maxHeartbeats 8000000 in
theorem box_item (s : ByteArray) (at_ : Nat) (w : World) (hat : at_ ≤ s.size) (hs : s.size ≤ 140737488355328) :
    Calls Try.prog 47 #[.string s, .int .i64 (at_ : Int)] w fun e w' => e = .returned (.agg (itmC (itR s.data.toList at_).1 (itR s.data.toList at_).2.1 (itR s.data.toList at_).2.2).toArray) ∧ Below w.heap.size w w' := by
  have HLEN := Lib.hid (show s.data.toList.length = s.size by rw [← Lib.size_eq])
  obtain ⟨B, hB⟩ : ∃ B, B = w.heap.size := ⟨_, rfl⟩
  obtain ⟨w1, hw1⟩ : ∃ w1, w1 = w.alloc (.cells (itmC 0 0 RecB.zero).toArray 50) := ⟨_, rfl⟩
  have K1 := Lib.hid (show Below w.heap.size w w1 by rw [hw1]; exact (Below.refl _ w).alloc (Nat.le_refl _) _)
  have N1 := Lib.hid (show ItIn B 0 0 RecB.zero w1 by rw [hw1, hB]; exact ItIn.new w _ _ _)
  have HBW := Lib.hid (show w.heap.size ≤ B by omega)
  have HB := Lib.hid hB
  have HW := Lib.hid hw1
  have HZ := Lib.hid zero_item
  obtain ⟨s1, hs1⟩ : ∃ s1, s1 = s.extract at_ s.size := ⟨_, rfl⟩
  have hx1 : s.extract at_ s.size = s1 := hs1.symm
  obtain ⟨l1, hl1⟩ : ∃ l1, l1 = s.data.toList.drop at_ := ⟨_, rfl⟩
  have HS1 := Lib.hid (show s1.data.toList = l1 by rw [hs1, ext_list, hl1])
  have HZ1 := Lib.hid (show s1.size ≤ maxLen by rw [hs1, extract_size]; unfold maxLen; omega)
  have HL1 := Lib.hid hl1
  have HLL := Lib.hid (show l1.length = s.size - at_ by rw [hl1, List.length_drop, HLEN.out])
  clear hB hw1 hs1 hl1
  go_enter Try.func47, Try.ntmps47
  go_wp2_with fail
  rw [← HZ.out, ← HB.out, ← HW.out]
  refine (six_Over s1 w1).mono ?_
  rintro e w3 ⟨rfl, hw3⟩
  have H3 := Lib.hid (show Rt w1.heap.size s1 w3 by rw [← hw3]; exact Rt.new _ w1)
  have K3 := Lib.hid (show Below w.heap.size w w3 by rw [← hw3]; exact K1.out.alloc K1.out.size _)
  have N3 := Lib.hid (show ItIn B 0 0 RecB.zero w3 by rw [← hw3]; exact N1.out.below ((Below.refl _ w1).alloc (Nat.le_refl _) _) (heap_lt N1.out))
  have HR := Lib.hid (show B ≠ w1.heap.size by have := heap_lt N1.out; omega)
  have HR2 := Lib.hid (show w.heap.size ≤ w1.heap.size from K1.out.size)
  clear hw3 hx1
  generalize w1.heap.size = r at *
  go_wp2_with fail
  refine (box_take r s1 w3 H3.out HZ1.out).mono ?_
  rintro e w4 ⟨q, hq, rfl, hq0, -, k4⟩
  rw [HS1.out] at hq0 ⊢
  have HQ := Lib.hid hq
  have HQ0 := Lib.hid hq0
  have N4 := Lib.hid (show ItIn B 0 0 RecB.zero w4 by have := N3.out; unfold ItIn at this ⊢; rw [k4.block B (heap_lt this) HR.out]; exact this)
  have K4 := Lib.hid (K3.out.trans (k4.below (B := w.heap.size) (fun k hk e => by subst e; exact HR2.out) K3.out.size))
  clear hq hq0 k4
  obtain ⟨e1, he1⟩ : ∃ e1, e1 = rdE l1 := ⟨_, rfl⟩
  rw [← he1] at HQ0 ⊢
  have HE1 := Lib.hid he1
  obtain ⟨C, hC⟩ : ∃ C, C = w4.heap.size := ⟨_, rfl⟩
  obtain ⟨w5, hw5⟩ : ∃ w5, w5 = laidR 30 w4 q := ⟨_, rfl⟩
  have KL := Lib.hid (laidR_below 30 w4 q)
  have N5 := Lib.hid (show ItIn B 0 0 RecB.zero w5 by rw [hw5]; exact N4.out.below KL.out (heap_lt N4.out))
  have M5 := Lib.hid (show RecIn C 30 q w5 by rw [hw5, hC]; exact laidR_in _ _ HQ.out)
  have K5 := Lib.hid (show Below w.heap.size w w5 by rw [hw5]; exact K4.out.trans (KL.out.mono K4.out.size))
  have HCB := Lib.hid (show C ≠ r ∨ True from .inr trivial)
  have T4 := Lib.hid (show (w4.alloc (.cells Try.zeroCells30 30)).there w4.heap.size 0 (recA q).size by rw [← zeroA_eq]; exact laidR_there 30 w4 HQ.out)
  have I4 := Lib.hid (info_recA HQ.out)
  have HC := Lib.hid hC
  have HW5 := Lib.hid (show (w4.alloc (.cells Try.zeroCells30 30)).setCells w4.heap.size 0 (recA q).toList = w5 by rw [← zeroA_eq, hw5]; rfl)
  have H5 := Lib.hid (show e1 = 0 → Rt r (s1.extract (rdK l1) s1.size) w5 by
    intro h0
    have h4 := (HQ0.out h0).2
    rw [hw5]; exact h4.below KL.out h4.lt)
  clear hC hw5 he1
  go_upto_region 3 with (first | (with_reducible refine wpList_store_mid rfl 30 (.tmp 6) (.tmp 20) rfl w4.heap.size 0 (recA q) rfl rfl T4.out I4.out (recA_one _) ?_; rw [HW5.out, ← HC.out]) | fail)
  by_cases h1 : e1 = 0
  · have b1 : (e1 != 0) = false := by simp [h1]
    have hrt := H5.out h1
    have HQR := Lib.hid (HQ0.out h1).1
    have Z1 := Lib.hid (show rdE l1 = 0 by rw [← HE1.out]; exact h1)
    obtain ⟨hk0, hkl⟩ := rdK_le Z1.out
    clear h1
    obtain ⟨k, hk⟩ : ∃ k, k = rdK l1 := ⟨_, rfl⟩
    rw [← hk] at hrt hk0 hkl
    have HK := Lib.hid hk
    obtain ⟨s2, hs2⟩ : ∃ s2, s2 = s1.extract k s1.size := ⟨_, rfl⟩
    rw [← hs2] at hrt
    have HRT := Lib.hid hrt
    have HS2 := Lib.hid (show s2.data.toList = l1.drop k by rw [hs2, ext_list, HS1.out])
    have HZ2 := Lib.hid (show s2.size ≤ maxLen by rw [hs2, extract_size]; have := HZ1.out; omega)
    have h2l : s2.data.toList.length = s.size - at_ - k := by rw [HS2.out, List.length_drop, HLL.out]
    clear hrt hk hs2
    go_upto_region 5 with (fail)
    go_wp2_with fail
    refine (six_ReadRaw r s2 4 w5 HRT.out HZ2.out (by omega) (by omega)).mono ?_
    rintro e w6 ⟨rfl, h6, k6⟩
    have N6 := Lib.hid (show ItIn B 0 0 RecB.zero w6 by have := N5.out; unfold ItIn at this ⊢; rw [k6.block B (heap_lt this) HR.out]; exact this)
    have HCR := Lib.hid (show C ≠ r by
      intro e
      have h1 := HRT.out
      have h2 := M5.out
      rw [e] at h2
      unfold Rt at h1; unfold RecIn at h2
      rw [h1] at h2
      injection h2 with h2
      injection h2 with h2
      have := congrArg Array.size h2
      rw [recA_size HQ.out] at this
      simp at this)
    have M6 := Lib.hid (M5.out.kept k6 HCR.out)
    have K6 := Lib.hid (K5.out.trans (k6.below (B := w.heap.size) (fun k hk e => by subst e; exact HR2.out) K5.out.size))
    have H6 := Lib.hid h6
    clear h6 k6
    have hE2 := we4 s2.data.toList
    obtain ⟨e2, he2⟩ : ∃ e2, e2 = we s2.data.toList 4 := ⟨_, rfl⟩
    rw [← he2] at hE2 ⊢
    by_cases h2 : s.size - at_ - k < 4
    · have b2 : (e2 != 0) = true := by rw [hE2, if_pos (by rw [h2l]; exact h2)]; rfl
      have Z2 := Lib.hid h2
      clear h2 hE2 he2
      go_upto_region 7 with (fail)
      have Y1 := Lib.hid (N6.out.setAll (a' := 0) (n' := 0) RecB.zero_ok RecB.zero_ok)
      have Y2 := Lib.hid (below_setCells HBW.out (itmC 0 0 RecB.zero) 0 K6.out)
      have T8 := Lib.hid (show World.there w6 B 0 (itmC 0 0 RecB.zero).toArray.size from N6.out.there RecB.zero_ok)
      go_wp2_with (first | (refine wpList_store_mid rfl 50 (.tmp 4) (.tmp 32) rfl B 0 (itmC 0 0 RecB.zero).toArray rfl rfl T8.out (info_itmA RecB.zero_ok) (all_oneCell_toArray (itmC_one _ _ _)) ?_) | fail)
      have hN : fstR (s.data.toList.drop at_) = none := by rw [← HL1.out]; exact fst_no (fun hh => by have h1 := hh.2.1; have h3 := Z2.out; have h4 := HLL.out; rw [← HK.out] at h1; omega)
      refine bodyPost_ret (v := .agg (itmC 0 0 RecB.zero).toArray) (results_cell1 rfl _ _ _ B 0 (itmC 0 0 RecB.zero) _ rfl Y1.out.range Try.underlying50 rfl (info_itmL RecB.zero_ok)) rfl ⟨?_, Y2.out⟩
      rw [itR_no hN]
    · have b2 : (e2 != 0) = false := by rw [hE2, if_neg (by rw [h2l]; exact h2)]; rfl
      have hwk : wk s2.data.toList 4 = 4 := by unfold wk; rw [if_neg (by rw [h2l]; omega)]; rfl
      have H7 := Lib.hid (show Rt r (s2.extract 4 s2.size) w6 by rw [← hwk]; exact H6.out)
      obtain ⟨s3, hs3⟩ : ∃ s3, s3 = s2.extract 4 s2.size := ⟨_, rfl⟩
      have h3s : s3.size = s.size - at_ - k - 4 := by rw [hs3, extract_size, show s2.size = s2.data.toList.length by rw [← Lib.size_eq], h2l]
      rw [← hs3] at H7
      obtain ⟨en, hen⟩ : ∃ en, en = at_ + k + 4 := ⟨_, rfl⟩
      have hd : (s.size : Int) - (s3.size : Int) = (en : Int) := by rw [h3s]; omega
      have henl : en ≤ s.size := by omega
      have hate : at_ ≤ en := by omega
      have HEN := Lib.hid hen
      obtain ⟨s4, hs4⟩ : ∃ s4, s4 = s.extract at_ en := ⟨_, rfl⟩
      have hx4 : s.extract at_ en = s4 := hs4.symm
      have HS4 := Lib.hid (show s4.data.toList = l1.take (k + 4) by
        rw [hs4, Lib.extract_data, HL1.out]
        congr 1; omega)
      have HZ4 := Lib.hid (show s4.size ≤ 140737488355328 by
        rw [show s4.size = s4.data.toList.length by rw [← Lib.size_eq], HS4.out, List.length_take]; have := HLL.out; omega)
      have HF4 := Lib.hid (show takeE s4.data.toList = if okT (l1.take (k + 4)) then 0 else 4 by rw [HS4.out]; exact takeE_ok (by rw [List.length_take, HLL.out]; omega))
      have hkk : k + 4 ≤ l1.length := by rw [HLL.out]; omega
      have HKK := Lib.hid hkk
      clear h2 hE2 he2 hwk hs3 hen hs4 H6 hkk h3s h2l hk0 hkl
      go_upto_region 8 with (fail)
      go_wp2_with fail
      refine (six_Rest r s3 w6 H7.out).mono ?_
      rintro e _ ⟨rfl, rfl⟩
      go_upto_region 9 with (fail)
      clear hd
      go_wp2_with fail
      refine (crc_Take s4 w6 HZ4.out).mono ?_
      rintro e w8 ⟨rfl, k8⟩
      have N8 := Lib.hid (N6.out.below k8 (heap_lt N6.out))
      have M8 := Lib.hid (M6.out.below k8 M6.out.lt)
      have K8 := Lib.hid (K6.out.trans (k8.mono K6.out.size))
      clear k8 hx4
      obtain ⟨e3, he3⟩ : ∃ e3, e3 = takeE s4.data.toList := ⟨_, rfl⟩
      rw [← he3] at HF4 ⊢
      clear he3
      by_cases h3 : okT (l1.take (k + 4))
      · have b3 : (e3 != 0) = false := by rw [HF4.out, if_pos h3]; rfl
        have HOK := Lib.hid h3
        clear h3
        go_upto_region 12 with (fail)
        obtain ⟨nn, hnn⟩ : ∃ nn, nn = k + 4 := ⟨_, rfl⟩
        have hdd : (en : Int) - (at_ : Int) = (nn : Int) := by have := HEN.out; omega
        have HNN := Lib.hid hnn
        have R8 := Lib.hid (show w8.rangeAt C 0 (recA q).toList from M8.out.range)
        have IL8 := Lib.hid (show (Try.prog.info? 30).map (·.size) = some (recA q).toList.length by simpa using I4.out)
        have HBI := Lib.hid (fun W => build_item at_ nn HQ.out W)
        have Y1 := Lib.hid (N8.out.setAll (a' := at_) (n' := nn) RecB.zero_ok HQ.out)
        have Y2 := Lib.hid (below_setCells HBW.out (itmC at_ nn q) 0 K8.out)
        have T8 := Lib.hid (show World.there w8 B 0 (itmC at_ nn q).toArray.size by rw [show (itmC at_ nn q).toArray.size = 68 by simp [itmC_len HQ.out]]; exact N8.out.there RecB.zero_ok)
        have IT8 := Lib.hid (info_itmA (a := at_) (n := nn) HQ.out)
        clear hnn
        go_wp2_with (first
          | (with_reducible refine wpList_load_mid rfl 30 (.tmp 6) rfl C 0 rfl (recA q).toList _ R8.out Try.underlying30 rfl IL8.out ?_; rw [Array.toArray_toList])
          | (refine wpList_build_is rfl 50 [(0, .tmp 50), (1, .tmp 53), (2, .tmp 54)] rfl [(0, .int .i64 (at_ : Int)), (1, .int .i64 (nn : Int)), (2, .agg (recA q))] rfl (itmC at_ nn q).toArray HBI.out ?_)
          | (with_reducible refine wpList_store_mid rfl 50 (.tmp 4) (.tmp 55) rfl B 0 (itmC at_ nn q).toArray rfl rfl T8.out IT8.out (all_oneCell_toArray (itmC_one _ _ _)) ?_)
          | fail)
        have hY : fstR (s.data.toList.drop at_) = some (q, nn) := by
          rw [← HL1.out, fst_yes ⟨Z1.out, by rw [← HK.out]; exact HKK.out, by rw [← HK.out]; exact HOK.out⟩, HQR.out, HNN.out, HK.out]
        refine bodyPost_ret (v := .agg (itmC at_ nn q).toArray) (results_cell1 rfl _ _ _ B 0 (itmC at_ nn q) _ rfl Y1.out.range Try.underlying50 rfl (info_itmL HQ.out)) rfl ⟨?_, Y2.out⟩
        rw [itR_yes hY]
      · have b3 : (e3 != 0) = true := by rw [HF4.out, if_neg h3]; rfl
        have HOK := Lib.hid h3
        clear h3
        go_upto_region 11 with (fail)
        have Y1 := Lib.hid (N8.out.setAll (a' := 0) (n' := 0) RecB.zero_ok RecB.zero_ok)
        have Y2 := Lib.hid (below_setCells HBW.out (itmC 0 0 RecB.zero) 0 K8.out)
        have T8 := Lib.hid (show World.there w8 B 0 (itmC 0 0 RecB.zero).toArray.size from N8.out.there RecB.zero_ok)
        go_wp2_with (first | (refine wpList_store_mid rfl 50 (.tmp 4) (.tmp 49) rfl B 0 (itmC 0 0 RecB.zero).toArray rfl rfl T8.out (info_itmA RecB.zero_ok) (all_oneCell_toArray (itmC_one _ _ _)) ?_) | fail)
        have hN : fstR (s.data.toList.drop at_) = none := by rw [← HL1.out]; exact fst_no (fun hh => HOK.out (by have := hh.2.2; rwa [← HK.out] at this))
        refine bodyPost_ret (v := .agg (itmC 0 0 RecB.zero).toArray) (results_cell1 rfl _ _ _ B 0 (itmC 0 0 RecB.zero) _ rfl Y1.out.range Try.underlying50 rfl (info_itmL RecB.zero_ok)) rfl ⟨?_, Y2.out⟩
        rw [itR_no hN]
  · have b1 : (e1 != 0) = true := by simp [h1]
    have Z1 := Lib.hid h1
    clear h1
    go_upto_region 4 with (fail)
    have Y1 := Lib.hid (N5.out.setAll (a' := 0) (n' := 0) RecB.zero_ok RecB.zero_ok)
    have Y2 := Lib.hid (below_setCells HBW.out (itmC 0 0 RecB.zero) 0 K5.out)
    have T8 := Lib.hid (show World.there w5 B 0 (itmC 0 0 RecB.zero).toArray.size from N5.out.there RecB.zero_ok)
    go_wp2_with (first | (refine wpList_store_mid rfl 50 (.tmp 4) (.tmp 24) rfl B 0 (itmC 0 0 RecB.zero).toArray rfl rfl T8.out (info_itmA RecB.zero_ok) (all_oneCell_toArray (itmC_one _ _ _)) ?_) | fail)
    have hN : fstR (s.data.toList.drop at_) = none := by rw [← HL1.out]; exact fst_no (fun hh => Z1.out (by rw [HE1.out]; exact hh.1))
    refine bodyPost_ret (v := .agg (itmC 0 0 RecB.zero).toArray) (results_cell1 rfl _ _ _ B 0 (itmC 0 0 RecB.zero) _ rfl Y1.out.range Try.underlying50 rfl (info_itmL RecB.zero_ok)) rfl ⟨?_, Y2.out⟩
    rw [itR_no hN]
end Go.Proofs.Ytlpknhiagdhkcaa
/- The program splits bytes into records. -/
set_option linter.unusedVariables false
set_option maxRecDepth 100000
namespace Go.Proofs.Ytlpknhiagdhkcaa
open Go.RowKit

/-! ### Plain -/
def sumK : List (RecB × Nat) → Nat
  | [] => 0
  | x :: L => x.2 + sumK L
theorem sumK_append : ∀ L M, sumK (L ++ M) = sumK L + sumK M
  | [], M => by simp [sumK]
  | x :: L, M => by show x.2 + sumK (L ++ M) = x.2 + sumK L + sumK M; rw [sumK_append L M]; omega
def itemsL : List (RecB × Nat) → Nat → List (Nat × Nat × RecB)
  | [], _ => []
  | x :: L, a => (a, x.2, x.1) :: itemsL L (a + x.2)
theorem itemsL_len : ∀ L a, (itemsL L a).length = L.length
  | [], _ => rfl
  | x :: L, a => by show (itemsL L (a + x.2)).length + 1 = L.length + 1; rw [itemsL_len L]
theorem itemsL_snoc : ∀ (L : List (RecB × Nat)) (x : RecB × Nat) (a : Nat), itemsL (L ++ [x]) a = itemsL L a ++ [(a + sumK L, x.2, x.1)]
  | [], x, a => rfl
  | y :: L, x, a => by
    show (a, y.2, y.1) :: itemsL (L ++ [x]) (a + y.2) = (a, y.2, y.1) :: (itemsL L (a + y.2) ++ [(a + (y.2 + sumK L), x.2, x.1)])
    rw [itemsL_snoc L x (a + y.2), Nat.add_assoc]
def SplitAt (l : List UInt8) (pre : List (RecB × Nat)) (at_ : Nat) : Prop :=
  at_ ≤ l.length ∧ at_ = sumK pre ∧ pre.length ≤ at_ ∧ (∀ x ∈ pre, x.1.Ok) ∧ splitR l = (pre ++ (splitR (l.drop at_)).1, at_ + (splitR (l.drop at_)).2)
theorem SplitAt.start (l : List UInt8) : SplitAt l [] 0 := ⟨Nat.zero_le _, rfl, Nat.le_refl _, fun x h => by simp at h, by simp [List.drop_zero]⟩
theorem SplitAt.next {l : List UInt8} {pre : List (RecB × Nat)} {at_ k : Nat} {r : RecB} (h : SplitAt l pre at_) (hf : fstR (l.drop at_) = some (r, k)) : SplitAt l (pre ++ [(r, k)]) (at_ + k) := by
  obtain ⟨h1, h2, h3, h4, h5⟩ := h
  have hl := fst_lt hf
  rw [List.length_drop] at hl
  refine ⟨by omega, by rw [sumK_append, h2]; rfl, by rw [List.length_append]; simp; omega, fun x hx => ?_, ?_⟩
  · rcases List.mem_append.1 hx with hx | hx
    · exact h4 x hx
    · simp at hx; subst hx; exact (fst_back hf).1
  · rw [h5, splitR_some hf, List.drop_drop, List.append_assoc, Nat.add_assoc]
    rfl
theorem SplitAt.done {l : List UInt8} {pre : List (RecB × Nat)} {at_ : Nat} (h : SplitAt l pre at_) (hf : fstR (l.drop at_) = none) : splitR l = (pre, at_) := by
  obtain ⟨h1, h2, h3, h4, h5⟩ := h
  rw [h5, splitR_none hf]; simp

/-! ### Rows -/
def flatI (L : List (Nat × Nat × RecB)) : List Value := L.flatMap fun x => itmC x.1 x.2.1 x.2.2
theorem flatI_snoc (L : List (Nat × Nat × RecB)) (a n : Nat) (r : RecB) : flatI (L ++ [(a, n, r)]) = flatI L ++ itmC a n r := by simp [flatI]
def OwnIt (w : World) (B : Nat) (v : Value) (L : List (Nat × Nat × RecB)) : Prop := OffRow w B 50 68 v L.length (flatI L)
theorem infoI0 : (Try.prog.info? 50).map (fun i => (i.zero, i.size, i.bytes)) = some (some (.agg (itmC 0 0 RecB.zero).toArray), 68, 104) := by kernel_rfl
theorem infoI : ∃ i, Try.prog.info? 50 = some i ∧ i.zero = some (.agg (itmC 0 0 RecB.zero).toArray) ∧ i.size = 68 ∧ i.bytes = 104 := by
  have h := infoI0
  cases hi : Try.prog.info? 50 with
  | none => simp [hi] at h
  | some i =>
    rw [hi] at h
    injection h with h
    injection h with h1 h2
    injection h2 with h2 h3
    exact ⟨i, rfl, h1, h2, h3⟩
def laidI (W : World) (a n : Nat) (r : RecB) : World := (W.alloc (.cells (itmC 0 0 RecB.zero).toArray 50)).setCells W.heap.size 0 (itmC a n r)
theorem laidI_in (W : World) (a n : Nat) {r : RecB} (h : r.Ok) : ItIn W.heap.size a n r (laidI W a n r) := (ItIn.new W 0 0 RecB.zero).setAll RecB.zero_ok h
theorem laidI_below (W : World) (a n : Nat) (r : RecB) : Below W.heap.size W (laidI W a n r) := below_setCells (Nat.le_refl _) _ 0 ((Below.refl _ W).alloc (Nat.le_refl _) _)
theorem itR_ok (l : List UInt8) (a : Nat) : (itR l a).2.2.Ok := by
  unfold itR
  split
  · rename_i r k h; exact (fst_back h).1
  · exact RecB.zero_ok

set_option maxHeartbeats 8000000 in
theorem box_Split (s : ByteArray) (w : World) (hs : s.size ≤ 1000000000) :
    Calls Try.prog 17 #[.string s] w fun e w' => ∃ v, e = .returned (.tuple #[v, .int .i64 ((splitR s.data.toList).2 : Int)]) ∧ OwnIt w' w.heap.size v (itemsL (splitR s.data.toList).1 0) ∧ (∀ x ∈ (splitR s.data.toList).1, x.1.Ok) ∧ Below w.heap.size w w' := by
  have HLEN := Lib.hid (show s.data.toList.length = s.size by rw [← Lib.size_eq])
  obtain ⟨ii, hi1, hi2, hi3, hi4⟩ := infoI
  have HI1 := Lib.hid hi1
  have HI2 := Lib.hid hi2
  have HI3 := Lib.hid hi3
  have HI4 := Lib.hid hi4
  have HZ := Lib.hid zero_item
  clear hi1 hi2 hi3 hi4
  go_enter Try.func17, Try.ntmps17
  go_wp2_with fail
  go_loopw [4, 5] (fun vv vi wr => ∃ (at_ : Nat) (pre : List (RecB × Nat)), vi = .int .i64 (at_ : Int) ∧ Hid (SplitAt s.data.toList pre at_) ∧ Hid (OwnIt wr w.heap.size vv (itemsL pre 0)) ∧ Hid (Below w.heap.size w wr)) (fun vv vi wr => s.size - (intOf vi).toNat)
  case atStart => exact ⟨0, [], rfl, Lib.hid (SplitAt.start _), Lib.hid (OffRow.nil _ _ _ _), Lib.hid (Below.refl _ _)⟩
  case round =>
    obtain ⟨at_, pre, rfl, HSA, HO, HK⟩ := hrel
    have hat : at_ ≤ s.size := by have := HSA.out.1; rw [HLEN.out] at this; exact this
    obtain ⟨va, vc, rfl⟩ := OffRow.slice HO.out
    go_wp2_with fail
    refine (box_item s at_ wr hat (by omega)).mono ?_
    rintro e w3 ⟨rfl, k3⟩
    have HOK := Lib.hid (itR_ok s.data.toList at_)
    obtain ⟨ia, hia⟩ : ∃ x, x = (itR s.data.toList at_).1 := ⟨_, rfl⟩
    obtain ⟨ik, hik⟩ : ∃ x, x = (itR s.data.toList at_).2.1 := ⟨_, rfl⟩
    obtain ⟨ir, hir⟩ : ∃ x, x = (itR s.data.toList at_).2.2 := ⟨_, rfl⟩
    have HIT := Lib.hid (show itR s.data.toList at_ = (ia, ik, ir) by rw [hia, hik, hir])
    rw [← hir] at HOK
    rw [← hia, ← hik, ← hir]
    have HO3 := Lib.hid (show OwnIt w3 w.heap.size (.slice va (itemsL pre 0).length vc) (itemsL pre 0) from OffRow.kept HO.out (fun j hj => k3.block j (OffRow.lt HO.out j hj).2))
    have HK3 := Lib.hid (HK.out.trans (k3.mono HK.out.size))
    clear k3 hia hik hir
    obtain ⟨X, hX⟩ : ∃ X, X = w3.heap.size := ⟨_, rfl⟩
    obtain ⟨w4, hw4⟩ : ∃ x, x = laidI w3 ia ik ir := ⟨_, rfl⟩
    have KL := Lib.hid (laidI_below w3 ia ik ir)
    have X4 := Lib.hid (show ItIn X ia ik ir w4 by rw [hw4, hX]; exact laidI_in _ _ _ HOK.out)
    have HO4 := Lib.hid (show OwnIt w4 w.heap.size (.slice va (itemsL pre 0).length vc) (itemsL pre 0) by rw [hw4]; exact OffRow.kept HO3.out (fun j hj => KL.out.block j (OffRow.lt HO3.out j hj).2))
    have HK4 := Lib.hid (show Below w.heap.size w w4 by rw [hw4]; exact HK3.out.trans (KL.out.mono HK3.out.size))
    have T3 := Lib.hid (show (w3.alloc (.cells Try.zeroCells50 50)).there w3.heap.size 0 (itmC ia ik ir).toArray.size by
      rw [← zero_item, show (itmC ia ik ir).toArray.size = 68 by simp [itmC_len HOK.out]]; exact (ItIn.new w3 0 0 RecB.zero).there RecB.zero_ok)
    have I3 := Lib.hid (info_itmA (a := ia) (n := ik) HOK.out)
    have HX := Lib.hid hX
    have HW4 := Lib.hid (show (w3.alloc (.cells Try.zeroCells50 50)).setCells w3.heap.size 0 (itmC ia ik ir) = w4 by rw [← zero_item, hw4]; rfl)
    clear hX hw4 KL
    go_upto_region 4 with (first | (with_reducible refine wpList_store_mid rfl 50 (.tmp 6) (.tmp 9) rfl w3.heap.size 0 (itmC ia ik ir).toArray rfl rfl T3.out I3.out (all_oneCell_toArray (itmC_one _ _ _)) ?_; rw [List.toList_toArray, HW4.out, ← HX.out]) | fail)
    have R4 := Lib.hid X4.out.range
    have IL := Lib.hid (info_itmL (a := ia) (n := ik) HOK.out)
    obtain ⟨b, hb⟩ : ∃ b, b = (decide (ia = 0) && decide (ik = 0) && decide (ir = RecB.zero)) := ⟨_, rfl⟩
    have heq : ∀ W, (binOp .eql 50 (.agg (itmC ia ik ir).toArray) (.agg Try.zeroCells50)).run Try.prog W = .ok (.bool b) W := fun W => by rw [← zero_item]; exact eql_item ia ik ir HOK.out W b hb
    rcases hf : fstR (s.data.toList.drop at_) with _ | ⟨q, k⟩
    · have hno := itR_no hf
      rw [HIT.out] at hno
      injection hno with e1 hno
      injection hno with e2 e3
      have hbt : b = true := by rw [hb, e1, e2, e3]; simp
      have HF := Lib.hid (HSA.out.done hf)
      clear hb hf e1 e2 e3
      subst hbt
      go_wp2_with (first | (with_reducible refine wpList_load_mid rfl 50 (.tmp 6) rfl X 0 rfl (itmC ia ik ir) _ R4.out Try.underlying50 rfl IL.out ?_) | fail)
      go_ret2
      exact ⟨_, by rw [HF.out]; rfl, by rw [HF.out]; exact HO4.out, by rw [HF.out]; exact HSA.out.2.2.2.1, HK4.out⟩
    · have hyes := itR_yes hf
      rw [HIT.out] at hyes
      injection hyes with e1 hyes
      injection hyes with e2 e3
      have hkp := fst_lt hf
      rw [List.length_drop, HLEN.out] at hkp
      have hbt : b = false := by rw [hb]; simp; intro _ h; omega
      have HNX := Lib.hid (HSA.out.next hf)
      have HSN := Lib.hid (show itemsL (pre ++ [(q, k)]) 0 = itemsL pre 0 ++ [(ia, ik, ir)] by rw [itemsL_snoc, e1, e2, e3, Nat.zero_add, ← HSA.out.2.1])
      have HNL := Lib.hid (show (itemsL pre 0).length ≤ at_ by rw [itemsL_len]; exact HSA.out.2.2.1)
      have E2 := Lib.hid e2
      have HKP := Lib.hid hkp
      clear hb hf e1 e2 e3
      subst hbt
      go_upto_region 6 with (first | (with_reducible refine wpList_load_mid rfl 50 (.tmp 6) rfl X 0 rfl (itmC ia ik ir) _ R4.out Try.underlying50 rfl IL.out ?_) | fail)
      clear heq
      obtain ⟨Y, hY⟩ : ∃ Y, Y = w4.heap.size := ⟨_, rfl⟩
      obtain ⟨w5, hw5⟩ : ∃ x, x = w4.alloc (.cells (itmC ia ik ir).toArray 50) := ⟨_, rfl⟩
      have k5 : Below Y w4 w5 := by rw [hw5, hY]; exact (Below.refl _ w4).alloc (Nat.le_refl _) _
      have HXY := Lib.hid (show X < Y by rw [hY]; exact heap_lt X4.out)
      have X5 := Lib.hid (X4.out.below k5 HXY.out)
      have HO5 := Lib.hid (show OffRow w5 w.heap.size 50 68 (.slice va (itemsL pre 0).length vc) (itemsL pre 0).length (flatI (itemsL pre 0)) from OffRow.kept HO4.out (fun j hj => k5.block j (by rw [hY]; exact (OffRow.lt HO4.out j hj).2)))
      have HK5 := Lib.hid (show Below w.heap.size w w5 from HK4.out.trans (k5.mono (by rw [hY]; exact HK4.out.size)))
      have HSR := Lib.hid (show Src Try.prog 68 43 (.slice (some ⟨Y, 0, none⟩) 1 1) 1 (itmC ia ik ir) w5 from
        src_block Try.underlying43 (by rw [hw5, hY]; exact heap_new w4 _) 1 1 (show (itmC ia ik ir).toArray.size = 1 * 68 by rw [List.size_toArray, itmC_len HOK.out]) (fun u hu => itmC_one ia ik ir u (by rwa [List.toList_toArray] at hu)))
      have HXR := Lib.hid (show (Value.slice va (itemsL pre 0).length vc).ownBlock ≠ some X from fun e => by have := (OffRow.lt HO3.out X e).2; have := HX.out; omega)
      have HY := Lib.hid hY
      have HW5 := Lib.hid (show w4.alloc (.cells (itmC ia ik ir).toArray 50) = w5 from hw5.symm)
      have HL68 := Lib.hid (itmC_len (a := ia) (n := ik) HOK.out)
      have HB5 := Lib.hid (show w.heap.size ≤ w5.heap.size from HK5.out.size)
      clear hY hw5 k5
      obtain ⟨n, hn⟩ : ∃ n, n = (itemsL pre 0).length := ⟨_, rfl⟩
      rw [← hn] at HO5 HNL HXR ⊢
      have hnl := HNL.out
      have HN := Lib.hid hn
      clear hn
      go_wp2_with (first
        | (with_reducible refine wpList_load_mid rfl 50 (.tmp 6) rfl X 0 rfl (itmC ia ik ir) _ R4.out Try.underlying50 rfl IL.out ?_)
        | (with_reducible refine wpList_buildOne rfl 43 50 (.tmp 16) rfl (itmC ia ik ir) rfl ii _ Try.underlying43 HI1.out HI2.out (by rw [HI3.out, HL68.out]) (by rw [HL68.out]; omega) (by rw [HL68.out]; omega) ?_; rw [HW5.out, ← HY.out])
        | (at_builtin; refine wpList_append_off rfl (.tmp 15) (.tmp 17) 43 rfl w.heap.size 50 ii _ 68 104 Try.underlying43 HI1.out HI2.out HI3.out HI4.out (by show (itmC 0 0 RecB.zero).toArray.size = 68; simp [itmC_len RecB.zero_ok]) (.slice va n vc) n (flatI (itemsL pre 0)) rfl HO5.out (.slice (some ⟨Y, 0, none⟩) 1 1) rfl 1 (itmC ia ik ir) HSR.out (by unfold maxLen; omega) (by omega) HB5.out ?_)
        | fail)
      intro v6 w6 g1 g2 g3
      have X6 := Lib.hid (show ItIn X ia ik ir w6 by unfold ItIn; rw [g2.block X (heap_lt X5.out) (fun e => HXR.out e.symm)]; exact X5.out)
      have HO6 := Lib.hid (show OwnIt w6 w.heap.size v6 (itemsL (pre ++ [(q, k)]) 0) by
        unfold OwnIt
        rw [HSN.out, flatI_snoc, List.length_append, ← HN.out]
        exact g1)
      have HK6 := Lib.hid (show Below w.heap.size w w6 from HK5.out.grown g2 HB5.out (fun j hj => (OffRow.lt HO5.out j hj).1))
      have cx : w6.cell? ⟨X, 1, none⟩ = some (.int .i64 (ik : Int)) := by have := X6.out; unfold ItIn at this; simp [World.cell?, this, itmC]
      obtain ⟨a2, ha2⟩ : ∃ a2, a2 = at_ + ik := ⟨_, rfl⟩
      have hsum : (at_ : Int) + (ik : Int) = (a2 : Int) := by omega
      have hk2 := HKP.out
      have hik := E2.out
      have ha2l : a2 ≤ 1000000000 := by omega
      have HA2 := Lib.hid ha2
      clear g1 g2 g3 hnl hik hk2 ha2
      go_wp2_with fail
      go_roundw
      case rel => exact ⟨a2, pre ++ [(q, k)], by go_num, Lib.hid (by rw [HA2.out, E2.out]; exact HNX.out), HO6, HK6⟩
      case measure => simp [intOf]; have := HKP.out; have := E2.out; have := HA2.out; omega
end Go.Proofs.Ytlpknhiagdhkcaa
