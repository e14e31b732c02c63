/- The program's world is begun: cells and mutexes. -/
import Derived.Test.YtccliallljcjgaaGo5
import Derived.Deep.RegionLaw
set_option linter.unusedVariables false
namespace Go.Proofs.Ytccliallljcjgaa
open Go.RowKit

theorem info54 : (Try.prog.info? 54).map (fun i => (i.zero, i.size, i.bytes)) = some (some (.pointer none), 1, 8) := by kernel_rfl
theorem info56 : (Try.prog.info? 56).map (fun i => (i.zero, i.size, i.bytes)) = some (some (.pointer none), 1, 8) := by kernel_rfl
theorem step_append_own {P : Program} {ops : Array Oper} {o : Oper} {a : Act} {w : World} {K : Act → World → Prop} {Q : Exit → Act → World → Prop} {E : Prop}
    (hg : o.guard = none) (s x : Operand) (t : TypeId) (hop : o.op = Op.call { callee := Callee.builtin Builtin.append, args := #[s, x], argTypes := #[t, t] })
    (base : Nat) (e : TypeId) (i : TypeInfo) (z : Value) (size bytes : Nat) (h1 : P.underlying t = some (.slice e)) (h2 : P.info? e = some i) (h3 : i.zero = some z) (h4 : i.size = size) (h5 : i.bytes = bytes) (h6 : z.cells.size = size) (h7 : 0 < size)
    (v : Value) (n : Nat) (xs : List Value) (hs : a.eval s = v) (hown : w.ownsRow base e size v n xs)
    (ad : Addr) (m c : Nat) (news : List Value) (hx : a.eval x = .slice (some ad) m c) (hn : news.length = m * size) (hc : ∀ j u, news[j]? = some u → w.cell? (ad.add j) = some u) (h1c : ∀ u ∈ news, u.oneCell' = true)
    (b1 : n + m ≤ maxLen) (b2 : (n + m) * bytes ≤ 140737488355328) (hbase : base ≤ w.heap.size)
    (hK : ∀ v' w', w'.ownsRow base e size v' (n + m) (xs ++ news) → w.grownBy w' v.ownBlock → K (a.put o.dst v') w') :
    if Region.wanted o (yielded ops a.tmps) = true then Oper.wp P o a w K Q else E := by
  have hw : Region.wanted o (yielded ops a.tmps) = true := by simp [Region.wanted, hg]
  rw [if_pos hw]
  obtain ⟨v', w', hrun, r1, r2, _⟩ := run_append_own (P := P) w base t o.type e i z size bytes h1 h2 h3 h4 h5 h6 h7 v n xs hown ad m c news hn hc h1c b1 b2 hbase
  unfold Oper.wp
  simp [execOp, hop, resolve, invoke, builtin, hs, hx, hrun, Result.andThen]
  exact hK v' w' r1 r2
/-- A call of a function by its contract, as one step of a region that draws. -/
theorem step_call {P : Program} {ops : Array Oper} {o : Oper} {a : Act} {w : World} {K : Act → World → Prop} {Q : Exit → Act → World → Prop} {E : Prop}
    (hg : o.guard = none) (f : FuncId) (xs : Array Operand) (ts : Array TypeId) (hop : o.op = Op.call { callee := Callee.value (Operand.func f), args := xs, argTypes := ts }) (hent : Enters P f)
    (args : Array Value) (hargs : xs.map a.eval = args) (v : Value) (w1 : World) (hc : Calls P f args w fun e w' => e = .returned v ∧ w' = w1) (hK : K (a.put o.dst v) w1) :
    if Region.wanted o (yielded ops a.tmps) = true then Oper.wp P o a w K Q else E := by
  have hw : Region.wanted o (yielded ops a.tmps) = true := by simp [Region.wanted, hg]
  rw [if_pos hw]
  unfold Oper.wp
  unfold Enters at hent
  subst hargs
  simp [execOp, hop, resolve, invoke, hent, Result.andThen, Act.eval, Deferred.ofValue]
  refine hc.mono ?_
  rintro e w' ⟨rfl, rfl⟩
  exact hK
def ptrB (b : Nat) : Value := .pointer (some ⟨b, 0, none⟩)
/-- A row of pointers that a call has made. -/
def OwnP (B : Nat) (e : TypeId) (v : Value) (l : List Nat) (w : World) : Prop := w.ownsRow B e 1 v l.length (l.map ptrB)
theorem OwnP.form {B : Nat} {e : TypeId} {v : Value} {l : List Nat} {w : World} (h : OwnP B e v l w) (hl : 0 < l.length) : ∃ g cap cur, v = .slice (some ⟨g, 0, none⟩) l.length cap ∧ B ≤ g ∧ w.heap[g]? = some (.cells cur e (0, 0)) ∧ ∀ k (hk : k < l.length), cur[k]? = some (ptrB l[k]) := by
  obtain ⟨_, ⟨rfl, h0⟩ | ⟨g, cap, cur, rfl, hB, hg, h1, h2, h3, h4⟩⟩ := h
  · omega
  · refine ⟨g, cap, cur, rfl, hB, hg, fun k hk => ?_⟩
    have h5 : (cur.toList.take (l.length * 1))[k]? = (l.map ptrB)[k]? := by rw [h4]
    rw [List.getElem?_take, if_pos (by omega)] at h5
    simpa [hk] using h5
/-- So many cells and mutexes are there. -/
structure Beg (B : Nat) (w : World) (W : Nat) (v1 v2 : Value) (cs ms : List Nat) : Prop where
  obj : w.heap[W]? = some (.cells #[v1, v2, .slice none 0 0, .pointer none] 38 (0, 0))
  o1 : OwnP B 54 v1 cs w
  o2 : OwnP B 56 v2 ms w
  c : ∀ c ∈ cs, B ≤ c ∧ w.heap[c]? = some (.cells #[.int .i64 0, .int .i64 0] 86 (0, 0))
  m : ∀ m ∈ ms, B ≤ m ∧ w.heap[m]? = some (.cells #[.int .i64 (-1)] 83 (0, 0))
  nc : cs.Nodup
  nm : ms.Nodup
  low : B ≤ W
namespace Beg
variable {B : Nat} {w w' : World} {W : Nat} {v1 v2 : Value} {cs ms : List Nat}
theorem cellW (h : Beg B w W v1 v2 cs ms) (i : Nat) : w.cell? ⟨W, i, none⟩ = (#[v1, v2, .slice none 0 0, .pointer none] : Array Value)[i]? := by simp [World.cell?, h.obj]
theorem freeW (h : Beg B w W v1 v2 cs ms) (i : Nat) : w.frozen? ⟨W, i, none⟩ = false := by simp [World.frozen?, h.obj]
end Beg
theorem own_tag {w : World} {B : Nat} {e : TypeId} {v : Value} {l : List Nat} (h : OwnP B e v l w) {q : Nat} (hq : v.ownBlock = some q) : ∃ cur, w.heap[q]? = some (.cells cur e (0, 0)) := by
  obtain ⟨_, ⟨rfl, h0⟩ | ⟨g, cap, cur, rfl, hB, hg, _⟩⟩ := h
  · simp [Value.ownBlock] at hq
  · simp [Value.ownBlock] at hq
    subst hq
    exact ⟨cur, hg⟩
theorem OwnP.kept {w w' : World} {B : Nat} {e : TypeId} {v : Value} {l : List Nat} (h : OwnP B e v l w) (k : ∀ q, v.ownBlock = some q → w'.heap[q]? = w.heap[q]?) : OwnP B e v l w' := by
  obtain ⟨h1, ⟨rfl, h0⟩ | ⟨g, cap, cur, rfl, hB, hg, h2⟩⟩ := h
  · exact ⟨h1, .inl ⟨rfl, h0⟩⟩
  · exact ⟨h1, .inr ⟨g, cap, cur, rfl, hB, (k g rfl).trans hg, h2⟩⟩
theorem own_lt {w : World} {B : Nat} {e : TypeId} {v : Value} {l : List Nat} (h : OwnP B e v l w) {q : Nat} (hq : v.ownBlock = some q) : q < w.heap.size := by
  obtain ⟨cur, hc⟩ := own_tag h hq
  exact heap_lt hc
/-- A block of another kind than the row that grows is kept. -/
theorem grown_keep {w wA w3 : World} {B : Nat} {e : TypeId} {v : Value} {l : List Nat} (h : OwnP B e v l w) (hA : Below w.heap.size w wA) (hg : wA.grownBy w3 v.ownBlock) {j : Nat} {cb : Array Value} {tb : TypeId}
    (hb : wA.heap[j]? = some (.cells cb tb (0, 0))) (ht : tb ≠ e) : w3.heap[j]? = some (.cells cb tb (0, 0)) := by
  refine (hg.block j (heap_lt hb) fun e1 => ?_).trans hb
  obtain ⟨cur, hc⟩ := own_tag h e1.symm
  rw [← hA.block _ (heap_lt hc), hb] at hc
  injection hc with hc
  injection hc with _ hc
  exact ht hc
theorem own_keep {w wA w3 : World} {B : Nat} {e e' : TypeId} {v v' : Value} {l l' : List Nat} (h : OwnP B e v l w) (h' : OwnP B e' v' l' w) (hA : Below w.heap.size w wA) (hg : wA.grownBy w3 v.ownBlock) (ht : e' ≠ e) : OwnP B e' v' l' w3 :=
  h'.kept fun q hq => by
    obtain ⟨cur, hc⟩ := own_tag h' hq
    have hc' := (hA.block _ (heap_lt hc)).trans hc
    rw [grown_keep h hA hg hc' ht, hc]
theorem own_set {w : World} {B W o : Nat} {e : TypeId} {v u : Value} {l : List Nat} (h : OwnP B e v l w) {cb : Array Value} {tb : TypeId} (hW : w.heap[W]? = some (.cells cb tb (0, 0))) (ht : tb ≠ e) : OwnP B e v l (w.setCell ⟨W, o, none⟩ u) :=
  h.kept fun q hq => by
    obtain ⟨cur, hc⟩ := own_tag h hq
    exact heap_set_other (tag_ne hc hW (Ne.symm ht)) u
namespace Beg
variable {B : Nat} {w wA w3 : World} {W : Nat} {v1 v2 v3 : Value} {cs ms : List Nat}
theorem pushC (h : Beg B w W v1 v2 cs ms) (hBs : B ≤ w.heap.size) (hA : Below w.heap.size w wA) {c : Nat} (hcn : w.heap.size ≤ c) (hc : wA.heap[c]? = some (.cells #[.int .i64 0, .int .i64 0] 86 (0, 0)))
    (ho : OwnP B 54 v3 (cs ++ [c]) w3) (hg : wA.grownBy w3 v1.ownBlock) :
    (w3.cell? ⟨W, 0, none⟩ = some v1 ∧ w3.frozen? ⟨W, 0, none⟩ = false) ∧ Beg B (w3.setCell ⟨W, 0, none⟩ v3) W v3 v2 (cs ++ [c]) ms := by
  have hW := grown_keep h.o1 hA hg ((hA.block _ (heap_lt h.obj)).trans h.obj) (by decide)
  refine ⟨⟨by simp [World.cell?, hW], by simp [World.frozen?, hW]⟩, heap_set hW _, own_set ho hW (by decide), own_set (own_keep h.o1 h.o2 hA hg (by decide)) hW (by decide), fun x hx => ?_, fun x hx => ?_, ?_, h.nm, h.low⟩
  · have hx3 : B ≤ x ∧ w3.heap[x]? = some (.cells #[.int .i64 0, .int .i64 0] 86 (0, 0)) := by
      rcases List.mem_append.1 hx with hx | hx
      · exact ⟨(h.c x hx).1, grown_keep h.o1 hA hg ((hA.block _ (heap_lt (h.c x hx).2)).trans (h.c x hx).2) (by decide)⟩
      · simp at hx
        subst hx
        exact ⟨by omega, grown_keep h.o1 hA hg hc (by decide)⟩
    exact ⟨hx3.1, (heap_set_other (tag_ne hx3.2 hW (by decide)) _).trans hx3.2⟩
  · have hx3 := grown_keep h.o1 hA hg ((hA.block _ (heap_lt (h.m x hx).2)).trans (h.m x hx).2) (by decide)
    exact ⟨(h.m x hx).1, (heap_set_other (tag_ne hx3 hW (by decide)) _).trans hx3⟩
  · rw [List.nodup_append]
    refine ⟨h.nc, by simp, fun a ha b hb e => ?_⟩
    simp at hb
    have := heap_lt (h.c a ha).2
    omega
theorem pushM (h : Beg B w W v1 v2 cs ms) (hBs : B ≤ w.heap.size) (hA : Below w.heap.size w wA) {c : Nat} (hcn : w.heap.size ≤ c) (hc : wA.heap[c]? = some (.cells #[.int .i64 (-1)] 83 (0, 0)))
    (ho : OwnP B 56 v3 (ms ++ [c]) w3) (hg : wA.grownBy w3 v2.ownBlock) :
    (w3.cell? ⟨W, 1, none⟩ = some v2 ∧ w3.frozen? ⟨W, 1, none⟩ = false) ∧ Beg B (w3.setCell ⟨W, 1, none⟩ v3) W v1 v3 cs (ms ++ [c]) := by
  have hW := grown_keep h.o2 hA hg ((hA.block _ (heap_lt h.obj)).trans h.obj) (by decide)
  refine ⟨⟨by simp [World.cell?, hW], by simp [World.frozen?, hW]⟩, heap_set hW _, own_set (own_keep h.o2 h.o1 hA hg (by decide)) hW (by decide), own_set ho hW (by decide), fun x hx => ?_, fun x hx => ?_, h.nc, ?_, h.low⟩
  · have hx3 := grown_keep h.o2 hA hg ((hA.block _ (heap_lt (h.c x hx).2)).trans (h.c x hx).2) (by decide)
    exact ⟨(h.c x hx).1, (heap_set_other (tag_ne hx3 hW (by decide)) _).trans hx3⟩
  · have hx3 : B ≤ x ∧ w3.heap[x]? = some (.cells #[.int .i64 (-1)] 83 (0, 0)) := by
      rcases List.mem_append.1 hx with hx | hx
      · exact ⟨(h.m x hx).1, grown_keep h.o2 hA hg ((hA.block _ (heap_lt (h.m x hx).2)).trans (h.m x hx).2) (by decide)⟩
      · simp at hx
        subst hx
        exact ⟨by omega, grown_keep h.o2 hA hg hc (by decide)⟩
    exact ⟨hx3.1, (heap_set_other (tag_ne hx3.2 hW (by decide)) _).trans hx3.2⟩
  · rw [List.nodup_append]
    refine ⟨h.nm, by simp, fun a ha b hb e => ?_⟩
    simp at hb
    have := heap_lt (h.m a ha).2
    omega
theorem addC (h : Beg B w W v1 v2 cs ms) (hBs : B ≤ w.heap.size) {w0 : World} (hbel : Below B w0 w)
    (ho : w3.ownsRow B 54 1 v3 (cs.length + 1) (cs.map ptrB ++ [ptrB w.heap.size])) (hg : (((w.alloc (.cells #[.int .i64 0, .int .i64 0] 86)).alloc (.cells #[ptrB w.heap.size] 54)).drew).grownBy w3 v1.ownBlock) :
    ∃ g cap, v3 = .slice (some ⟨g, 0, none⟩) (cs.length + 1) cap ∧ w3.cell? ⟨W, 0, none⟩ = some v1 ∧ w3.frozen? ⟨W, 0, none⟩ = false ∧ Beg B (w3.setCell ⟨W, 0, none⟩ v3) W v3 v2 (cs ++ [w.heap.size]) ms ∧ Below B w0 (w3.setCell ⟨W, 0, none⟩ v3) := by
  have ho' : OwnP B 54 v3 (cs ++ [w.heap.size]) w3 := by
    unfold OwnP
    rw [List.length_append, List.map_append]
    exact ho
  have hA : Below w.heap.size w (((w.alloc (.cells #[.int .i64 0, .int .i64 0] 86)).alloc (.cells #[ptrB w.heap.size] 54)).drew) := (((Below.refl _ w).alloc (Nat.le_refl _) _).alloc (by simp) _).drew
  obtain ⟨⟨q1, q2⟩, hb⟩ := h.pushC hBs hA (Nat.le_refl _) (heap_new2 w _ _) ho' hg
  obtain ⟨g, cap, cur, hv, _⟩ := ho'.form (by simp)
  rw [List.length_append] at hv
  refine ⟨g, cap, hv, q1, q2, hb, ?_⟩
  have hb1 := hbel.trans (hA.mono hBs)
  exact (hb1.grown hg (Nat.le_trans hBs hA.size) (fun q hq => by
    obtain ⟨_, ⟨rfl, h0⟩ | ⟨g, cap, cur, rfl, hB, _⟩⟩ := h.o1
    · simp [Value.ownBlock] at hq
    · simp [Value.ownBlock] at hq
      omega)).setCell (p := ⟨W, 0, none⟩) h.low _
theorem addM (h : Beg B w W v1 v2 cs ms) (hBs : B ≤ w.heap.size) {w0 : World} (hbel : Below B w0 w)
    (ho : w3.ownsRow B 56 1 v3 (ms.length + 1) (ms.map ptrB ++ [ptrB w.heap.size])) (hg : (((w.alloc (.cells #[.int .i64 (-1)] 83)).alloc (.cells #[ptrB w.heap.size] 56)).drew).grownBy w3 v2.ownBlock) :
    ∃ g cap, v3 = .slice (some ⟨g, 0, none⟩) (ms.length + 1) cap ∧ w3.cell? ⟨W, 1, none⟩ = some v2 ∧ w3.frozen? ⟨W, 1, none⟩ = false ∧ Beg B (w3.setCell ⟨W, 1, none⟩ v3) W v1 v3 cs (ms ++ [w.heap.size]) ∧ Below B w0 (w3.setCell ⟨W, 1, none⟩ v3) := by
  have ho' : OwnP B 56 v3 (ms ++ [w.heap.size]) w3 := by
    unfold OwnP
    rw [List.length_append, List.map_append]
    exact ho
  have hA : Below w.heap.size w (((w.alloc (.cells #[.int .i64 (-1)] 83)).alloc (.cells #[ptrB w.heap.size] 56)).drew) := (((Below.refl _ w).alloc (Nat.le_refl _) _).alloc (by simp) _).drew
  obtain ⟨⟨q1, q2⟩, hb⟩ := h.pushM hBs hA (Nat.le_refl _) (heap_new2 w _ _) ho' hg
  obtain ⟨g, cap, cur, hv, _⟩ := ho'.form (by simp)
  rw [List.length_append] at hv
  refine ⟨g, cap, hv, q1, q2, hb, ?_⟩
  have hb1 := hbel.trans (hA.mono hBs)
  exact (hb1.grown hg (Nat.le_trans hBs hA.size) (fun q hq => by
    obtain ⟨_, ⟨rfl, h0⟩ | ⟨g, cap, cur, rfl, hB, _⟩⟩ := h.o2
    · simp [Value.ownBlock] at hq
    · simp [Value.ownBlock] at hq
      omega)).setCell (p := ⟨W, 1, none⟩) h.low _
end Beg

end Go.Proofs.Ytccliallljcjgaa
