/- Maps (of int values): Len, Put. -/
import Derived.Test.YtbmihajbdobgbaaMemPutI
import Derived.Test.YtbmihajbdobgbaaMemKept
import Derived.Deep.Cut
import Derived.Deep.MidRow
set_option linter.unusedVariables false
set_option maxRecDepth 100000
namespace Go.Proofs.Ytbmihajbdobgbaa.MI
open Go.RowKit

/-- How many keys the tree has that a value leads to. -/
def szAt (v : Value) (w : World) : Nat :=
  match v with
  | .pointer (some ⟨b, _, _⟩) => match w.cell? ⟨b, 5, none⟩ with
    | some (.int _ n) => n.toNat
    | _ => 0
  | _ => 0
theorem szAt_is {B : Nat} {w : World} {t : Tr Int} (h : In B w t) : szAt t.ptr w = t.sz := by
  cases t with
  | nil => rfl
  | node b k x l r =>
    have := h.c5
    simp only [szAt, Tr.ptr, this, Tr.sz]
    omega
/-- A map: a tree that is even and rises, in a world. -/
structure IsM (w : World) (t : Tr Int) : Prop where
  tree : In w.heap.size w t
  avl : t.avl
  ris : ris t.prs
theorem IsM.seen {w w' : World} {t : Tr Int} (h : IsM w t) (k : Below w.heap.size w w') : IsM w' t := ⟨h.tree.seen k, h.avl, h.ris⟩
theorem IsM.kn {w w' : World} {t : Tr Int} (h : IsM w t) (k : Kn 64 w w') : IsM w' t := ⟨InT.kn h.tree k, h.avl, h.ris⟩
theorem IsM.nil (w : World) : IsM w .nil := ⟨trivial, trivial, List.Pairwise.nil⟩

set_option maxHeartbeats 1000000 in
theorem map_Len {t : Tr Int} {u : Option Addr} {w : World} (h : Hid (In w.heap.size w t)) (hu : t.ptr = .pointer u) : Calls Try.prog 12 #[.agg #[.pointer u]] w fun e w' => e = .returned (.int .i64 (t.sz : Int)) ∧ Below w.heap.size w w' := by
  have HK := Lib.hid (show ∀ y, Below w.heap.size w y → Calls Try.prog 25 #[.pointer u] y fun e w' => e = .returned (.int .i64 (t.sz : Int)) ∧ w' = y from fun y K => by rw [← hu]; exact keys (h.out.seen K))
  clear hu
  go_enter Try.func12, Try.ntmps12
  have B0 := fun o => Lib.hid (show Below w.heap.size w (w.alloc o) from (Below.refl _ w).alloc (Nat.le_refl _) _)
  go_wp2_with (go_at_call 25; (with_reducible refine (HK.out _ (B0 _).out).mono ?_); rintro e y ⟨rfl, rfl⟩)
  go_ret
  exact ⟨rfl, (B0 _).out⟩
theorem infoM : (Try.prog.info? 27).map (·.size) = some 1 := by kernel_rfl
theorem results_map {fn : Func} {p : Tmp} (h : fn.results = #[.cell p 27]) (tmps : Array Value) (w : World) (b : Nat) (u : Option Addr) (hp : tmps.getD p undef = .pointer (some ⟨b, 0, none⟩)) (hc : w.heap[b]? = some (.cells #[.pointer u] 27 (0, 0))) :
    (results fn tmps).run Try.prog w = .ok (.agg #[.pointer u]) w := by
  have hr : w.rangeAt b 0 [.pointer u] := by
    intro j v hj
    cases j with
    | zero => injection hj with hj; subst hj; simp [World.cell?, hc]
    | succ j => cases hj
  have hl := run_loadVar_mid (P := Try.prog) w b 0 27 [.pointer u] _ hr Try.underlying27 rfl infoM
  have hp' : tmps[p]?.getD undef = .pointer (some ⟨b, 0, none⟩) := by simpa using hp
  simp only [results, h]
  simp [Sem.run_bind, Result.andThen, hp', asAddr, hl]
/-- A map is handed back out of a result's cell. -/
theorem ret_map {fn : Func} {p : Tmp} (h : fn.results = #[.cell p 27]) {R : Ending → World → Prop} {a : Act} {w : World} (b : Nat) (u : Option Addr) (hp : a.tmps.getD p undef = .pointer (some ⟨b, 0, none⟩)) (hd : a.defers = []) (hc : w.heap[b]? = some (.cells #[.pointer u] 27 (0, 0))) (hR : R (.returned (.agg #[.pointer u])) w) :
    bodyPost Try.prog fn R .ret a w := bodyPost_ret (results_map h _ _ b u hp hc) hd hR
/-- What Put answers: a map. -/
def MapPost (L : List (List UInt8 × Int)) (w : World) (e : Ending) (w' : World) : Prop :=
  ∃ t u, t.ptr = .pointer u ∧ e = .returned (.agg #[.pointer u]) ∧ IsM w' t ∧ Below w.heap.size w w' ∧ t.prs = L
set_option maxHeartbeats 1000000 in
theorem map_Put {t : Tr Int} {u : Option Addr} {k : List UInt8} {x : Int} {w : World} (h : Hid (IsM w t)) (hu : t.ptr = .pointer u) (hs : t.sz ≤ 800000) : Calls Try.prog 14 #[.agg #[.pointer u], .string (bs k), .int .i64 x] w fun e w' => MapPost (putP k x t.prs) w e w' := by
  have HP := Lib.hid (show ∀ y, Below w.heap.size w y → Calls Try.prog 27 #[.pointer u, .string (bs k), .int .i64 x] y fun e w' => PutPost k x t y e w' from fun y K => by rw [← hu]; exact put t y (h.out.tree.seen K) h.out.avl h.out.ris hs)
  have HR := Lib.hid (putP_ris (k := k) (x := x) h.out.ris)
  clear hu
  obtain ⟨w2, hw2⟩ : ∃ w2, w2 = (w.alloc (.cells #[.pointer u] 27)).alloc (.cells #[.pointer none] 27) := ⟨_, rfl⟩
  have K2 := Lib.hid (show Below w.heap.size w w2 by rw [hw2]; exact ((Below.refl _ w).alloc (Nat.le_refl _) _).alloc (by simp) _)
  have C2 := Lib.hid (show w2.cell? ⟨w.heap.size, 0, none⟩ = some (.pointer u) by
    rw [hw2, ((Below.refl (w.alloc (.cells #[.pointer u] 27)).heap.size _).alloc (Nat.le_refl _) _).cell (p := ⟨w.heap.size, 0, none⟩) (by simp), World.cell?_alloc_mark]
    rfl)
  have D2 := Lib.hid (show w2.heap[w.heap.size + 1]? = some (.cells #[.pointer none] 27 (0, 0)) by
    have := heap_new (w.alloc (.cells #[.pointer u] 27)) (.cells #[.pointer none] 27)
    rw [World.size_alloc] at this
    rw [hw2]
    exact this)
  have HW := Lib.hid hw2
  clear hw2
  go_enter Try.func14, Try.ntmps14
  go_upto_region 1 with (fail)
  rw [← HW.out]
  have c2 := C2.out
  go_wp2_with fail
  refine (HP.out _ K2.out).mono ?_
  rintro e y ⟨t', c, e1, rfl, I1, BA, e2, e3, e4, e5⟩
  have D3 := Lib.hid ((BA.block (w.heap.size + 1) (heap_lt D2.out)).trans D2.out)
  have d0 : y.cell? ⟨w.heap.size + 1, 0, none⟩ = some (.pointer none) := by simp [World.cell?, D3.out]
  have f0 : y.frozen? ⟨w.heap.size + 1, 0, none⟩ = false := by simp [World.frozen?, D3.out]
  have PT := Lib.hid (And.intro e1 (And.intro I1 (And.intro e2 e3)))
  have BB := Lib.hid BA
  clear e1 I1 e2 e3 e4 e5 BA
  go_wp2_with fail
  refine ret_map rfl (w.heap.size + 1) (some ⟨c, 0, none⟩) rfl rfl (heap_set D3.out _) ⟨t', _, PT.out.1, rfl, ?_, ?_, PT.out.2.2.1⟩
  · exact IsM.kn ⟨PT.out.2.1, PT.out.2.2.2, by rw [PT.out.2.2.1]; exact HR.out⟩ ((Kn.refl _ _).set D3.out (by decide) _)
  · exact (K2.out.trans (BB.out.mono K2.out.size)).setCell (p := ⟨w.heap.size + 1, 0, none⟩) (Nat.le_succ _) _
end Go.Proofs.Ytbmihajbdobgbaa.MI
