/- The document's world is begun. -/
import Derived.Test.YtccliallljcjgaaBegun
import Derived.Deep.CutRange
set_option linter.unusedVariables false
namespace Go.Proofs.Ytccliallljcjgaa
open Go.RowKit

theorem info46 : (Try.prog.info? 46).map (fun i => (i.zero, i.size, i.bytes)) = some (some (.agg #[.slice none 0 0, .int .i64 0, .int .i64 0, .bool false]), 4, 48) := by kernel_rfl
theorem info31 : (Try.prog.info? 31).map (·.size) = some 5 := by kernel_rfl
/-- A task as it is laid in a row. -/
def tv (t : TK) : List Value := [.slice t.a t.l.length t.cap, .int .i64 (t.at_ : Int), .int .i64 t.known, .bool t.gone]
theorem tv_vals (t : TK) : t.vals = (tv t).toArray := rfl
def tvs (L : List TK) : List Value := L.flatMap tv
theorem tvs_len (L : List TK) : (tvs L).length = L.length * 4 := by
  induction L with
  | nil => rfl
  | cons t L ih =>
    have e : tvs (t :: L) = tv t ++ tvs L := rfl
    rw [e, List.length_append, ih]
    simp [tv]
    omega
theorem tvs_get (L : List TK) (i j : Nat) (hi : i < L.length) (hj : j < 4) : (tvs L)[i * 4 + j]? = (L.getD i default).vals[j]? := by
  induction L generalizing i with
  | nil => simp at hi
  | cons t L ih =>
    have e : tvs (t :: L) = tv t ++ tvs L := rfl
    have h4 : (tv t).length = 4 := rfl
    rw [e]
    cases i with
    | zero =>
      rw [List.getElem?_append_left (by omega), tv_vals]
      simp
    | succ i =>
      rw [List.getElem?_append_right (by omega), h4, show (i + 1) * 4 + j - 4 = i * 4 + j by omega, ih i (by simp at hi; omega)]
      rfl
theorem tvs_next (L : List TK) (j : Nat) (t : TK) (h : L[j]? = some t) : tvs (L.take (j + 1)) = tvs (L.take j) ++ tv t := by
  have hj := lt_of_get h
  rw [List.take_add_one, h]
  simp [tvs]
/-- A row of tasks that a call has made. -/
def OwnT (B : Nat) (v : Value) (L : List TK) (w : World) : Prop := w.ownsRow B 46 4 v L.length (tvs L)
theorem OwnT.row {B : Nat} {v : Value} {L : List TK} {w : World} (h : OwnT B v L w) (hl : 0 < L.length) : ∃ T cap, v = .slice (some ⟨T, 0, none⟩) L.length cap ∧ B ≤ T ∧ TRow w T L := by
  obtain ⟨_, ⟨rfl, h0⟩ | ⟨g, cap, cur, rfl, hB, hg, h1, h2, h3, h4⟩⟩ := h
  · omega
  · refine ⟨g, cap, rfl, hB, cur, hg, fun i hi j hj => ?_⟩
    have h5 : (cur.toList.take (L.length * 4))[i * 4 + j]? = (tvs L)[i * 4 + j]? := by rw [h4]
    rw [List.getElem?_take, if_pos (by omega), tvs_get L i j hi hj] at h5
    simpa using h5
/-- The document's world as it is laid at first. -/
structure NewW (w0 : World) (vT : Value) (L : List TK) (wx : World) : Prop where
  r : wx.heap[w0.heap.size]? = some (.cells #[.slice none 0 0, .slice none 0 0, .slice none 0 0, .slice none 0 0, .int .i64 0] 31 (0, 0))
  c : wx.heap[w0.heap.size + 1]? = some (.cells (([0, 0, 0, 0] : List Int).map intV).toArray 3 (0, 0))
  x : wx.heap[w0.heap.size + 2]? = some (.cells (([0, 0, 0, 0] : List Int).map intV).toArray 3 (0, 0))
  h : wx.heap[w0.heap.size + 3]? = some (.cells (([-1, -1, -1, -1] : List Int).map intV).toArray 3 (0, 0))
  o : wx.heap[w0.heap.size + 4]? = some (.cells #[vT, .slice (some ⟨w0.heap.size + 1, 0, none⟩) 4 4, .slice (some ⟨w0.heap.size + 2, 0, none⟩) 4 4, .slice (some ⟨w0.heap.size + 3, 0, none⟩) 4 4, .int .i64 0] 31 (0, 0))
  t : OwnT w0.heap.size vT L wx
  below : Below w0.heap.size w0 wx
theorem newW_mk (w : World) : NewW w (.slice none 0 0) [] ((((((w.alloc (.cells #[.slice none 0 0, .slice none 0 0, .slice none 0 0, .slice none 0 0, .int .i64 0] 31)).alloc (.cells #[.int .i64 0, .int .i64 0, .int .i64 0, .int .i64 0] 3)).alloc (.cells #[.int .i64 0, .int .i64 0, .int .i64 0, .int .i64 0] 3)).alloc (.cells #[.int .i64 (-1), .int .i64 (-1), .int .i64 (-1), .int .i64 (-1)] 3)).alloc
    (.cells #[.slice none 0 0, .slice (some ⟨w.heap.size + 1, 0, none⟩) 4 4, .slice (some ⟨w.heap.size + 2, 0, none⟩) 4 4, .slice (some ⟨w.heap.size + 3, 0, none⟩) 4 4, .int .i64 0] 31))) := by
  have n1 : ∀ (w : World) (o : Obj), (w.alloc o).heap.size = w.heap.size + 1 := fun w o => by simp
  have new : ∀ (w : World) (o : Obj) (k : Nat), k = w.heap.size → (w.alloc o).heap[k]? = some o := fun w o k hk => by rw [hk]; exact heap_new w o
  have old : ∀ (w : World) (o : Obj) (k : Nat), k < w.heap.size → (w.alloc o).heap[k]? = w.heap[k]? := fun w o k hk => Below.heap_alloc w o k hk
  refine ⟨?_, ?_, ?_, ?_, ?_, World.ownsRow_nil _ _ _ _, ?_⟩
  · rw [old _ _ _ (by simp only [n1]; omega), old _ _ _ (by simp only [n1]; omega), old _ _ _ (by simp only [n1]; omega), old _ _ _ (by simp only [n1]; omega), new _ _ _ (by simp only [n1])]
  · rw [old _ _ _ (by simp only [n1]; omega), old _ _ _ (by simp only [n1]; omega), old _ _ _ (by simp only [n1]; omega), new _ _ _ (by simp only [n1])]; rfl
  · rw [old _ _ _ (by simp only [n1]; omega), old _ _ _ (by simp only [n1]; omega), new _ _ _ (by simp only [n1])]; rfl
  · rw [old _ _ _ (by simp only [n1]; omega), new _ _ _ (by simp only [n1])]; rfl
  · rw [new _ _ _ (by simp only [n1])]
  · exact (((((Below.refl _ w).alloc (Nat.le_refl _) _).alloc (by simp only [n1]; omega) _).alloc (by simp only [n1]; omega) _).alloc (by simp only [n1]; omega) _).alloc (by simp only [n1]; omega) _
theorem cells_new (w : World) (l : List Value) (t : TypeId) : ∀ j u, l[j]? = some u → (w.alloc (.cells l.toArray t)).cell? ((⟨w.heap.size, 0, none⟩ : Addr).add j) = some u := by
  intro j u h
  rw [addr_add]
  simp only [World.cell?, heap_new]
  simpa using h
theorem tag_ownT {B : Nat} {v : Value} {L : List TK} {w : World} (h : OwnT B v L w) {q : Nat} (hq : v.ownBlock = some q) : ∃ cur, w.heap[q]? = some (.cells cur 46 (0, 0)) ∧ B ≤ q := by
  obtain ⟨_, ⟨rfl, h0⟩ | ⟨g, cap, cur, rfl, hB, hg, _⟩⟩ := h
  · simp [Value.ownBlock] at hq
  · simp [Value.ownBlock] at hq
    subst hq
    exact ⟨cur, hg, hB⟩
theorem OwnT.kept {w w' : World} {B : Nat} {v : Value} {L : List TK} (h : OwnT B v L w) (k : ∀ q, v.ownBlock = some q → w'.heap[q]? = w.heap[q]?) : OwnT B v L w' := by
  obtain ⟨h1, ⟨rfl, h0⟩ | ⟨g, cap, cur, rfl, hB, hg, h2⟩⟩ := h
  · exact ⟨h1, .inl ⟨rfl, h0⟩⟩
  · exact ⟨h1, .inr ⟨g, cap, cur, rfl, hB, (k g rfl).trans hg, h2⟩⟩
namespace NewW
variable {w0 w w3 : World} {vT v3 : Value} {L : List TK}
theorem cell (h : NewW w0 vT L w) : w.cell? ⟨w0.heap.size + 4, 0, none⟩ = some vT := by simp [World.cell?, h.o]
/-- One more task is laid. -/
theorem add (h : NewW w0 vT L w) (t : TK) (ho : w3.ownsRow w0.heap.size 46 4 v3 (L.length + 1) (tvs L ++ tv t)) (hg : (((w.alloc (.cells (tv t).toArray 46))).drew).grownBy w3 vT.ownBlock) :
    ∃ T cap, v3 = .slice (some ⟨T, 0, none⟩) (L.length + 1) cap ∧ w3.cell? ⟨w0.heap.size + 4, 0, none⟩ = some vT ∧ w3.frozen? ⟨w0.heap.size + 4, 0, none⟩ = false ∧ NewW w0 v3 (L ++ [t]) (w3.setCell ⟨w0.heap.size + 4, 0, none⟩ v3) := by
  have hA : Below w.heap.size w ((w.alloc (.cells (tv t).toArray 46)).drew) := ((Below.refl _ w).alloc (Nat.le_refl _) _).drew
  have keep : ∀ (q : Nat) (cb : Array Value) (tb : TypeId), w.heap[q]? = some (.cells cb tb (0, 0)) → tb ≠ 46 → w3.heap[q]? = some (.cells cb tb (0, 0)) := by
    intro q cb tb hq ht
    refine ((hg.block q (Nat.lt_of_lt_of_le (heap_lt hq) hA.size) fun e => ?_).trans (hA.block q (heap_lt hq))).trans hq
    obtain ⟨cur, hc, _⟩ := tag_ownT h.t e.symm
    rw [hc] at hq
    injection hq with hq
    injection hq with _ hq
    exact ht hq.symm
  have e : tvs (L ++ [t]) = tvs L ++ tv t := by simp [tvs]
  have ho' : OwnT w0.heap.size v3 (L ++ [t]) w3 := by
    unfold OwnT
    rw [e, List.length_append]
    exact ho
  obtain ⟨T, cap, hv, hBT, cur, hc, _⟩ := ho'.row (by simp)
  rw [List.length_append] at hv
  have hO := keep _ _ _ h.o (by decide)
  have hlow := h.below.size
  refine ⟨T, cap, hv, by simp [World.cell?, hO], by simp [World.frozen?, hO], ⟨?_, ?_, ?_, ?_, heap_set hO _, ?_, ?_⟩⟩
  · rw [heap_set_other (by omega)]; exact keep _ _ _ h.r (by decide)
  · rw [heap_set_other (by omega)]; exact keep _ _ _ h.c (by decide)
  · rw [heap_set_other (by omega)]; exact keep _ _ _ h.x (by decide)
  · rw [heap_set_other (by omega)]; exact keep _ _ _ h.h (by decide)
  · exact ho'.kept fun q hq => by
      obtain ⟨cur', hc', _⟩ := tag_ownT ho' hq
      exact heap_set_other (tag_ne hc' hO (by decide)) _
  · refine ((h.below.trans (hA.mono h.below.size)).grown hg (Nat.le_trans h.below.size hA.size) (fun q hq => ?_)).setCell (p := ⟨w0.heap.size + 4, 0, none⟩) (by simp only; omega) _
    obtain ⟨_, _, hb⟩ := tag_ownT h.t hq
    exact hb
end NewW

set_option maxHeartbeats 2000000 in
set_option maxRecDepth 100000 in
theorem ref_New_walk {w : World} {a : Option Addr} {n cap : Nat} {L : List TK} (h : Progs w w.heap.size a n L) (h1 : 1 ≤ n) : Calls Try.prog 11 #[.slice a n cap] w fun e w' => ∃ vT, e = .returned (.agg #[vT, .slice (some ⟨w.heap.size + 1, 0, none⟩) 4 4, .slice (some ⟨w.heap.size + 2, 0, none⟩) 4 4, .slice (some ⟨w.heap.size + 3, 0, none⟩) 4 4, .int .i64 0]) ∧ ∃ w1, NewW w vT L w1 ∧ Only (fun j => j = w.heap.size) w1 w' := by
  obtain ⟨i0, hi, hz0, hz1, hz2⟩ := info_parts info46
  have h8 := h.few
  have HN := Lib.hid h.len
  obtain ⟨b, off, hab, hbB, hrow⟩ := h.row
  have hae : a = some ⟨b, off, none⟩ := hab.resolve_left (by omega)
  have HE := Lib.hid h.each
  have HROW := Lib.hid hrow
  have HMK := Lib.hid (newW_mk w)
  clear h hab hrow
  subst hae
  go_enter Try.func11, Try.ntmps11
  go_upto_region 1 with fail
  go_cut [2, 3] from 4 (fun s2 s3 wx => s2 = .pointer (some ⟨w.heap.size, 0, none⟩) ∧ s3 = .pointer (some ⟨w.heap.size + 4, 0, none⟩) ∧ Hid (NewW w (.slice none 0 0) [] wx))
  case first =>
    go_wp2_with fail
    go_meet
    exact ⟨rfl, rfl, HMK⟩
  case rest =>
  obtain ⟨rfl, rfl, hM⟩ := hcut
  obtain ⟨w1, hw1⟩ : ∃ w1, w1 = wc := ⟨_, rfl⟩
  subst hw1
  clear HMK
  go_wp2_with fail
  go_loopw [4] (fun is wr => ∃ (j : Nat) (vT : Value), j ≤ n ∧ is = .int .i64 (j : Int) ∧ Hid (NewW w vT (L.take j) wr)) (fun is wr => n - (intOf is).toNat)
  case atStart => exact ⟨0, _, Nat.zero_le _, rfl, hM⟩
  case round =>
    obtain ⟨j, vT, hj, rfl, hN⟩ := hrel
    by_cases hlt : j < n
    · obtain ⟨t, ht⟩ : ∃ t, L[j]? = some t := ⟨_, List.getElem?_eq_getElem (by rw [← HN.out]; exact hlt)⟩
      have hlt' : (j : Int) < (n : Int) := by omega
      have hj8 : j ≤ 8 := by omega
      obtain ⟨r1, r2⟩ := HROW.out j t ht
      have hB := hN.out.below
      have rI := (hB.cell (p := ⟨b, off + j, none⟩) r1).trans r2
      have rJ := ((hB.trans ((Below.refl _ wr).alloc (Nat.le_refl _) (.cells #[.slice t.a t.l.length t.cap, .int .i64 0, .int .i64 0, .bool t.gone] 46) |>.mono hB.size)).cell (p := ⟨b, off + j, none⟩) r1).trans r2
      obtain ⟨_, e1, e2, e3⟩ := HE.out j t ht
      have hg : ((t.l.length : Int) == 0) = t.gone := by
        rw [e3]
        by_cases h0 : t.l.length = 0
        · rw [decide_eq_true h0]; exact beq_iff_eq.2 (by omega)
        · rw [decide_eq_false h0]; exact beq_eq_false_iff_ne.2 (by omega)
      have c0 := hN.out.cell
      have c0a := (((Below.refl _ wr).alloc (Nat.le_refl _) (.cells #[.slice t.a t.l.length t.cap, .int .i64 0, .int .i64 0, .bool t.gone] 46)).cell (p := ⟨w.heap.size + 4, 0, none⟩) (heap_lt hN.out.o)).trans c0
      have htv : tv t = [.slice t.a t.l.length t.cap, .int .i64 0, .int .i64 0, .bool t.gone] := by unfold tv; rw [e1, e2]; rfl
      have HTV := Lib.hid htv
      have hLl : (L.take j).length = j := by rw [List.length_take]; have := HN.out; omega
      have HLL := Lib.hid hLl
      have HO := Lib.hid hN.out.t
      have HT := Lib.hid ht
      have HLT := Lib.hid hlt
      have HCN := Lib.hid (cells_new wr [.slice t.a t.l.length t.cap, .int .i64 0, .int .i64 0, .bool t.gone] 46)
      have hsz := Lib.hid hB.size
      generalize t.gone = tg at *
      generalize t.l.length = tl at *
      clear ht hlt hj hB r1 r2 e1 e2 e3 htv hLl
      go_upto_region 5 with fail
      go_region_law (refine step_append_own rfl (.tmp 16) (.tmp 28) 29 rfl w.heap.size 46 i0 (.agg #[.slice none 0 0, .int .i64 0, .int .i64 0, .bool false]) 4 48 Try.underlying29 hi hz0 hz1 hz2 rfl (by decide) vT (L.take j).length (tvs (L.take j)) (by simp [Act.eval, Act.put]) (HO.out.alloc _) ⟨wr.heap.size, 0, none⟩ 1 1 [.slice t.a tl t.cap, .int .i64 0, .int .i64 0, .bool tg] (by simp [Act.eval, Act.put]) rfl (fun j u hj => HCN.out j u hj) (by simp [Value.oneCell']) (by unfold maxLen; have := HLL.out; omega) (by have := HLL.out; omega) (by have := hsz.out; simp; omega) ?_; intro v3 w3 hown3 hg3; obtain ⟨T3, cap3, hv3, q1, q2, hN3⟩ := hN.out.add t (by rw [HTV.out]; exact hown3) (by rw [HTV.out]; exact hg3); rw [HLL.out] at hv3; subst hv3; clear hown3 hg3)
      all_goals
        have HE3 := Lib.hid hN3
        clear hN3 rI rJ c0 c0a hN HTV HO HCN
        go_wp2_with fail
        go_roundw
        case rel => exact ⟨j + 1, _, HLT.out, by go_num, Lib.hid (by rw [List.take_add_one, HT.out]; exact HE3.out)⟩
        case measure => have := HLT.out; simp [intOf]; omega
    · obtain rfl : j = n := by omega
      have hLL : L.take j = L := List.take_of_length_le (by have := HN.out; omega)
      rw [hLL] at hN
      have h1' : 0 < L.length := by have := HN.out; omega
      obtain ⟨T, cp, rfl, _, _⟩ := hN.out.t.row h1'
      have hr := hN.out.r
      have ho := hN.out.o
      have hh := heap_set (o := 4) (heap_set (o := 3) (heap_set (o := 2) (heap_set (o := 1) (heap_set (o := 0) hr (.slice (some ⟨T, 0, none⟩) L.length cp)) (.slice (some ⟨w.heap.size + 1, 0, none⟩) 4 4)) (.slice (some ⟨w.heap.size + 2, 0, none⟩) 4 4)) (.slice (some ⟨w.heap.size + 3, 0, none⟩) 4 4)) (.int .i64 0)
      have HO1 := Lib.hid ((((((Only.refl (fun k => k = w.heap.size) wr).setCell (p := ⟨w.heap.size, 0, none⟩) (.inl rfl) (.slice (some ⟨T, 0, none⟩) L.length cp)).setCell (p := ⟨w.heap.size, 1, none⟩) (.inl rfl) (.slice (some ⟨w.heap.size + 1, 0, none⟩) 4 4)).setCell (p := ⟨w.heap.size, 2, none⟩) (.inl rfl) (.slice (some ⟨w.heap.size + 2, 0, none⟩) 4 4)).setCell (p := ⟨w.heap.size, 3, none⟩) (.inl rfl) (.slice (some ⟨w.heap.size + 3, 0, none⟩) 4 4)).setCell (p := ⟨w.heap.size, 4, none⟩) (.inl rfl) (.int .i64 0))
      have HH := Lib.hid hh
      have r0 : wr.cell? ⟨w.heap.size, 0, none⟩ = some (.slice none 0 0) := by simp [World.cell?, hr]
      have r1 : wr.cell? ⟨w.heap.size, 1, none⟩ = some (.slice none 0 0) := by simp [World.cell?, hr]
      have r2 : wr.cell? ⟨w.heap.size, 2, none⟩ = some (.slice none 0 0) := by simp [World.cell?, hr]
      have r3 : wr.cell? ⟨w.heap.size, 3, none⟩ = some (.slice none 0 0) := by simp [World.cell?, hr]
      have r4 : wr.cell? ⟨w.heap.size, 4, none⟩ = some (.int .i64 0) := by simp [World.cell?, hr]
      have f0 : wr.frozen? ⟨w.heap.size, 0, none⟩ = false := by simp [World.frozen?, hr]
      have f1 : wr.frozen? ⟨w.heap.size, 1, none⟩ = false := by simp [World.frozen?, hr]
      have f2 : wr.frozen? ⟨w.heap.size, 2, none⟩ = false := by simp [World.frozen?, hr]
      have f3 : wr.frozen? ⟨w.heap.size, 3, none⟩ = false := by simp [World.frozen?, hr]
      have f4 : wr.frozen? ⟨w.heap.size, 4, none⟩ = false := by simp [World.frozen?, hr]
      have c0 : wr.cell? ⟨w.heap.size + 4, 0, none⟩ = some (.slice (some ⟨T, 0, none⟩) L.length cp) := by simp [World.cell?, ho]
      have c1 : wr.cell? ⟨w.heap.size + 4, 1, none⟩ = some (.slice (some ⟨w.heap.size + 1, 0, none⟩) 4 4) := by simp [World.cell?, ho]
      have c2 : wr.cell? ⟨w.heap.size + 4, 2, none⟩ = some (.slice (some ⟨w.heap.size + 2, 0, none⟩) 4 4) := by simp [World.cell?, ho]
      have c3 : wr.cell? ⟨w.heap.size + 4, 3, none⟩ = some (.slice (some ⟨w.heap.size + 3, 0, none⟩) 4 4) := by simp [World.cell?, ho]
      have c4 : wr.cell? ⟨w.heap.size + 4, 4, none⟩ = some (.int .i64 0) := by simp [World.cell?, ho]
      have HNN := hN
      clear hr ho hh hN hLL h1' hj hlt
      go_wp2_with fail
      refine bodyPost_ret (v := .agg #[_, _, _, _, _]) (results_cell_row rfl _ _ w.heap.size 31 _ (0, 0) _ rfl HH.out Try.underlying31 rfl info31) rfl ?_
      exact ⟨_, rfl, wr, HNN.out, HO1.out⟩
end Go.Proofs.Ytccliallljcjgaa
