/- The program's book: its bound, its readers, a new one, Retire. -/
import Derived.Test.YtagadjgemgajjaaEpBook
import Derived.StillTailTactics
import Derived.Laws.MakeOwn
import Derived.Laws.NewBlocks
import Derived.Laws.Pointers
import Derived.Deep.CutRange
import Derived.Deep.CutBlock
set_option linter.unusedVariables false
namespace Go.Proofs.Ytagadjgemgajjaa
open Go.RowKit

theorem info62 : (Try.prog.info? 62).map (fun i => (i.zero, i.size, i.bytes)) = some (some (.agg #[.string ByteArray.empty, .int .i64 0]), 2, 24) := by kernel_rfl
theorem info3 : (Try.prog.info? 3).map (fun i => (i.zero, i.size, i.bytes)) = some (some (.int .i64 0), 1, 8) := by kernel_rfl
theorem info9 : (Try.prog.info? 9).map (fun i => (i.zero, i.size, i.bytes)) = some (some (.string ByteArray.empty), 1, 16) := by kernel_rfl
theorem info_parts {t : TypeId} {z : Value} {n b : Nat} (h : (Try.prog.info? t).map (fun i => (i.zero, i.size, i.bytes)) = some (some z, n, b)) : ∃ i, Try.prog.info? t = some i ∧ i.zero = some z ∧ i.size = n ∧ i.bytes = b := by
  cases hi : Try.prog.info? t with
  | none => rw [hi] at h; cases h
  | some i =>
    rw [hi] at h
    injection h with h
    injection h with h1 h2
    injection h2 with h2 h3
    exact ⟨i, rfl, h1, h2, h3⟩
theorem take_next {α : Type} {l : List α} {k : Nat} {x : α} (h : l[k]? = some x) : l.take (k + 1) = l.take k ++ [x] := by rw [List.take_add_one, h]; rfl
section
variable {B : Nat} {w : World} {q : AtB} {s : EB}
set_option maxHeartbeats 1000000 in
theorem book_limit (h : Bk 58 62 B w q s) (hl : s.came.length ≤ 16) : Calls Try.prog 32 #[.pointer (some ⟨q.b, 0, none⟩)] w fun e w' => e = .returned (.int .i64 s.limit) ∧ w = w' := by
  have c0 := h.c0
  have c1 := h.c1
  have hcc := Lib.hid (fun (i : Nat) (x : Int) (hx : s.came[i]? = some x) => h.cc hx)
  clear h
  unfold EB.limit
  go_enter Try.func32, Try.ntmps32
  go_wp2_with fail
  go_loop [3, 15] (fun m i => ∃ k : Nat, k ≤ s.came.length ∧ i = .int .i64 (k : Int) ∧ m = .int .i64 (EB.lim s.now (s.came.take k))) (fun _ i => s.came.length - (intOf i).toNat)
  case atStart => exact ⟨0, Nat.zero_le _, rfl, rfl⟩
  case round =>
    obtain ⟨k, hk, rfl, rfl⟩ := hrel
    by_cases hlt : k < s.came.length
    · obtain ⟨x, hx⟩ : ∃ x, s.came[k]? = some x := ⟨_, List.getElem?_eq_getElem hlt⟩
      have cc := hcc.out k x hx
      have HN := Lib.hid (show EB.lim s.now (s.came.take (k + 1)) = if x = 0 then EB.lim s.now (s.came.take k) else min (EB.lim s.now (s.came.take k)) x by rw [take_next hx, EB.lim_app]; rfl)
      have hlt' : (k : Int) < (s.came.length : Int) := by omega
      clear hx
      generalize EB.lim s.now (s.came.take k) = m at *
      by_cases h0 : x = 0
      · subst h0
        go_wp2
        go_round
        case rel => exact ⟨k + 1, by omega, by go_num, by rw [HN.out, if_pos rfl]⟩
        case measure => simp [intOf]; omega
      · have h0' : (x == 0) = false := by simpa using h0
        by_cases hm : m ≤ x
        · have e : min m x = m := by omega
          go_wp2
          all_goals
            go_round
            case rel => exact ⟨k + 1, by omega, by go_num, by rw [HN.out, if_neg h0, e]⟩
            case measure => simp [intOf]; omega
        · have e : min m x = x := by omega
          have hd : decide (x < m) = true := by simp; omega
          have hx' : x < m := by omega
          go_wp2
          all_goals
            go_round
            case rel => exact ⟨k + 1, by omega, by go_num, by rw [HN.out, if_neg h0, e]; try rw [if_pos hx']⟩
            case measure => simp [intOf]; omega
    · have e : s.came.take k = s.came := List.take_of_length_le (by omega)
      rw [e]
      go_wp2
      go_ret
      exact ⟨rfl, rfl⟩
set_option maxHeartbeats 1000000 in
theorem book_Readers (h : Bk 58 62 B w q s) (hl : s.came.length ≤ 16) : Calls Try.prog 21 #[.pointer (some ⟨q.b, 0, none⟩)] w fun e w' => e = .returned (.int .i64 (EB.cnt s.came : Int)) ∧ w = w' := by
  have c1 := h.c1
  have hcc := Lib.hid (fun (i : Nat) (x : Int) (hx : s.came[i]? = some x) => h.cc hx)
  clear h
  go_enter Try.func21, Try.ntmps21
  go_wp2_with fail
  go_loop [3, 13] (fun m i => ∃ k : Nat, k ≤ s.came.length ∧ i = .int .i64 (k : Int) ∧ m = .int .i64 (EB.cnt (s.came.take k) : Int)) (fun _ i => s.came.length - (intOf i).toNat)
  case atStart => exact ⟨0, Nat.zero_le _, rfl, rfl⟩
  case round =>
    obtain ⟨k, hk, rfl, rfl⟩ := hrel
    by_cases hlt : k < s.came.length
    · obtain ⟨x, hx⟩ : ∃ x, s.came[k]? = some x := ⟨_, List.getElem?_eq_getElem hlt⟩
      have cc := hcc.out k x hx
      have HN := Lib.hid (show EB.cnt (s.came.take (k + 1)) = EB.cnt (s.came.take k) + if x = 0 then 0 else 1 by rw [take_next hx, EB.cnt_app]; rfl)
      have hlt' : (k : Int) < (s.came.length : Int) := by omega
      have hb : EB.cnt (s.came.take k) ≤ k := Nat.le_trans (EB.cnt_le _) (List.length_take_le _ _)
      clear hx
      generalize EB.cnt (s.came.take k) = m at *
      by_cases h0 : x = 0
      · subst h0
        go_wp2
        go_round
        case rel => exact ⟨k + 1, by omega, by go_num, by rw [HN.out, if_pos rfl]; rfl⟩
        case measure => simp [intOf]; omega
      · have h0' : (x == 0) = false := by simpa using h0
        go_wp2
        go_round
        case rel => exact ⟨k + 1, by omega, by go_num, by rw [HN.out, if_neg h0]; go_num⟩
        case measure => simp [intOf]; omega
    · have e : s.came.take k = s.came := List.take_of_length_le (by omega)
      rw [e]
      go_wp2
      go_ret
      exact ⟨rfl, rfl⟩
theorem book_New_not (n : Int) (hn : n < 1 ∨ 16 < n) (w : World) : Calls Try.prog 7 #[.int .i64 n] w fun e w' => e = .returned (.tuple #[.pointer none, .int .i64 1]) ∧ w = w' := by
  by_cases h : n < 1
  · go_enter Try.func7, Try.ntmps7
    go_wp2
    go_ret2
    exact ⟨rfl, rfl⟩
  · have h16 : 16 < n := by omega
    go_enter Try.func7, Try.ntmps7
    go_wp2
    go_ret2
    exact ⟨rfl, rfl⟩
end
/-- A new book. -/
def newB (n : Nat) : EB := ⟨1, List.replicate n 0, []⟩
theorem newB_ok {n : Nat} (h1 : 1 ≤ n) (h2 : n ≤ 16) : (newB n).Ok :=
  ⟨by simp [newB], by simp [newB], by simp [newB]; omega, by simp [newB]; omega, fun x hx => by simp [newB] at hx; simp [newB, hx.2], fun p hp => by simp [newB] at hp, fun p hp => by simp [newB] at hp, by simp [newB], by simp [newB]⟩
theorem book_New (n : Nat) (h1 : 1 ≤ n) (h2 : n ≤ 16) (w : World) : Calls Try.prog 7 #[.int .i64 (n : Int)] w fun e w' => e = .returned (.tuple #[.pointer (some ⟨w.heap.size + 1, 0, none⟩), .int .i64 0]) ∧
    Bk 58 62 w.heap.size w' ⟨w.heap.size + 1, w.heap.size, .slice none 0 0⟩ (newB n) ∧ Below w.heap.size w w' := by
  have a1 : ¬ (n : Int) < 1 := by omega
  have a2 : ¬ (16 : Int) < (n : Int) := by omega
  have hB := ((Below.refl w.heap.size w).alloc (Nat.le_refl _) (.cells (Array.replicate n (Value.int .i64 0)) 3)).alloc (by simp) (.cells #[.int .i64 1, .slice (some ⟨w.heap.size, 0, none⟩) n n, .slice none 0 0] 58)
  have hS : Bk 58 62 w.heap.size ((w.alloc (.cells (Array.replicate n (Value.int .i64 0)) 3)).alloc (.cells #[.int .i64 1, .slice (some ⟨w.heap.size, 0, none⟩) n n, .slice none 0 0] 58)) ⟨w.heap.size + 1, w.heap.size, .slice none 0 0⟩ (newB n) := by
    have e1 : (w.alloc (.cells (Array.replicate n (Value.int .i64 0)) 3)).heap.size = w.heap.size + 1 := by simp
    refine ⟨?_, ?_, OffRow.nil _ _ _ _, by simp, by simp, by decide, by decide, by decide⟩
    · simp only
      rw [← e1]
      rw [heap_new]
      simp [newB]
    · simp only
      rw [Below.heap_alloc _ _ _ (by omega), heap_new]
      congr 2
      apply Array.ext'
      simp [newB, intV]
  have HS := Lib.hid hS
  have HB := Lib.hid hB
  clear hB hS
  obtain ⟨i0, hi, hz0, hz1, hz2⟩ := info_parts info3
  have hmk : ∀ w, (Instr.makeSlice 27 (.int .i64 (n : Int)) (.int .i64 (n : Int))).run Try.prog w = .ok (.slice (some ⟨w.heap.size, 0, none⟩) n n) (w.alloc (.cells (Array.replicate n (Value.int .i64 0)) 3)) := by
    intro w
    rw [run_make w 27 3 i0 (.int .i64 0) Try.underlying27 hi hz0 .i64 .i64 n n (by omega) (by omega) (by rw [hz2]; omega) (by omega)]
    rw [hz1, Int.toNat_natCast, Nat.mul_one]
    have : madeCells (Value.int .i64 0).cells n = Array.replicate n (Value.int .i64 0) := by
      apply Array.ext
      · simp [madeCells]
      · intro i h1 h2
        simp [madeCells, Value.cells, Nat.mod_one]
    rw [this]
  clear hi hz0 hz1 hz2
  go_enter Try.func7, Try.ntmps7
  go_wp2
  go_ret2
  exact ⟨rfl, HS.out, HB.out⟩
/-- A slice whose elements are known. -/
def IsVals (w : World) (a : Option Addr) (n : Nat) (l : List Value) : Prop :=
  n = l.length ∧ ∃ b off, (n = 0 ∨ a = some ⟨b, off, none⟩) ∧ ∀ k v, l[k]? = some v → b < w.heap.size ∧ w.cell? ⟨b, off + k, none⟩ = some v
theorem IsVals.kept {w w' : World} {a : Option Addr} {n : Nat} {l : List Value} (h : IsVals w a n l) (hs : w.heap.size ≤ w'.heap.size) (k : ∀ b off, 0 < n → a = some ⟨b, off, none⟩ → b < w.heap.size → w'.heap[b]? = w.heap[b]?) : IsVals w' a n l := by
  obtain ⟨h1, b, off, ha, h2⟩ := h
  refine ⟨h1, b, off, ha, fun i v hv => ?_⟩
  obtain ⟨h3, h4⟩ := h2 i v hv
  have hi : i < l.length := (List.getElem?_eq_some_iff.1 hv).1
  have hb := k b off (by omega) (ha.resolve_left (by omega)) h3
  exact ⟨by omega, by rw [← h4]; simp [World.cell?, hb]⟩
theorem IsVals.below {w w' : World} {a : Option Addr} {n : Nat} {l : List Value} (h : IsVals w a n l) (k : Below w.heap.size w w') : IsVals w' a n l := h.kept k.size fun b _ _ _ hb => k.block b hb
theorem OffRow.alloc {w : World} {B : Nat} {e : TypeId} {size : Nat} {v : Value} {n : Nat} {xs : List Value} (h : OffRow w B e size v n xs) (o : Obj) : OffRow (w.alloc o) B e size v n xs := h.kept fun j hj => Below.heap_alloc w o j (h.lt j hj).2
theorem OffRow.below {w w' : World} {B : Nat} {e : TypeId} {size : Nat} {v : Value} {n : Nat} {xs : List Value} (h : OffRow w B e size v n xs) (k : Below w.heap.size w w') : OffRow w' B e size v n xs := h.kept fun j hj => k.block j (h.lt j hj).2
theorem OffRow.vals {w : World} {B : Nat} {e : TypeId} {v : Value} {n : Nat} {xs : List Value} (h : OffRow w B e 1 v n xs) {a : Option Addr} {c : Nat} (hv : v = .slice a n c) : IsVals w a n xs := by
  subst hv
  have hl := h.1
  refine ⟨by omega, ?_⟩
  rcases h.2 with ⟨h1, h2⟩ | ⟨g, off, cap, cur, h1, hB, hg, h2, h3, h4, h5⟩
  · exact ⟨0, 0, .inl h2, fun k v hv => by have := (List.getElem?_eq_some_iff.1 hv).1; omega⟩
  · injection h1 with h1
    refine ⟨g, off, .inr h1, fun k v hv => ?_⟩
    have hk := (List.getElem?_eq_some_iff.1 hv).1
    refine ⟨heap_lt hg, ?_⟩
    rw [← hv, ← h5 k (by omega)]
    simp [World.cell?, hg]
/-- .. wherever the book's blocks are then. -/
def Turns (tb tr : TypeId) (B : Nat) (w : World) (q : AtB) (s : EB) (w' : World) : Prop := ∃ q', Turned tb tr B w q s w' q'
theorem Turned.trans {tb tr : TypeId} {B : Nat} {w w1 w2 : World} {q q1 q2 : AtB} {s1 s2 : EB} (h : Turned tb tr B w q s1 w1 q1) (k : Turned tb tr B w1 q1 s2 w2 q2) : Turned tb tr B w q s2 w2 q2 := by
  refine ⟨k.b.trans h.b, k.bk, h.only.andThen k.only fun j hj hs => ?_, fun j hj => ?_⟩
  · rcases h.sub j hs with x | x
    · exact x
    · omega
  · rcases k.sub j hj with x | x
    · exact h.sub j x
    · exact .inr (Nat.le_trans h.only.size x)
theorem stamp_next {W : List (Value × Int)} {l : List Value} {k : Nat} {v : Value} {t : Int} (h : l[k]? = some v) : W ++ EB.stamp (l.take (k + 1)) t = W ++ EB.stamp (l.take k) t ++ [(v, t)] := by
  rw [take_next h]; simp [EB.stamp]
/-- One thing more waits: its cells are laid, the row is appended to, the field is written. -/
theorem Bk.push {tb tr : TypeId} {B : Nat} {w W w3 : World} {q : AtB} {s : EB} (h : Bk tb tr B w q s) (hA : Below w.heap.size w W) {v3 : Value} {v : Value} {t : Int} (hr : OffRow w3 B tr 2 v3 (s.wait.length + 1) (cellsOf s.wait ++ [v, .int .i64 t])) (hg : W.grownBy w3 q.v.ownBlock)
    (hat : v3.ownBlock = q.v.ownBlock ∨ v3.ownBlock = some W.heap.size) :
    w3.cell? ⟨q.b, 2, none⟩ = some q.v ∧ w3.frozen? ⟨q.b, 2, none⟩ = false ∧ Turned tb tr B w q { s with wait := s.wait ++ [(v, t)] } (w3.setCell ⟨q.b, 2, none⟩ v3) ⟨q.b, q.c, v3⟩ := by
  have hk : ∀ j, j = q.b ∨ j = q.c → w3.heap[j]? = w.heap[j]? := by
    intro j hj
    have hlt : j < w.heap.size := (h.low j (by rcases hj with x | x; (exact .inl x); (exact .inr (.inl x)))).2
    refine (hg.block j (Nat.lt_of_lt_of_le hlt hA.size) fun e => ?_).trans (hA.block j hlt)
    have := h.v_ne e.symm
    rcases hj with x | x
    · exact this.1 x
    · exact this.2 x
  have ho := (hk _ (.inl rfl)).trans h.obj
  have hr' : OffRow w3 B tr 2 v3 (s.wait ++ [(v, t)]).length (cellsOf (s.wait ++ [(v, t)])) := by
    rw [cellsOf_app, List.length_append]; exact hr
  refine ⟨by simp [World.cell?, ho], by simp [World.frozen?, ho], rfl, h.setWait hk hr', ?_, fun j hj => ?_⟩
  · have h1 : Only q.S w W := ⟨hA.os, hA.tape, hA.output, hA.size, fun k hk _ => hA.block k hk⟩
    exact (h1.grown hg fun j hj => .inl (.inr (.inr hj))).setCell (p := ⟨q.b, 2, none⟩) (.inl (.inl rfl)) v3
  · rcases hj with x | x | x
    · exact .inl (.inl x)
    · exact .inl (.inr (.inl x))
    · rcases hat with e | e
      · exact .inl (.inr (.inr (e.symm.trans x)))
      · have hx : v3.ownBlock = some j := x
        rw [e] at hx
        injection hx with hx
        exact .inr (by rw [← hx]; exact hA.size)
set_option maxHeartbeats 4000000 in
set_option maxRecDepth 100000 in
theorem book_Retire {B : Nat} {w : World} {q : AtB} {s : EB} (h : Bk 58 62 B w q s) (h1 : 1 ≤ s.now) (h2 : s.now < 4611686018427387904) {a : Option Addr} {n : Nat} (cap : Nat) {l : List Value} (hl : IsVals w a n l) (hone : ∀ v ∈ l, ∃ t, v = Value.string t) (hsep : ∀ b off, 0 < n → a = some ⟨b, off, none⟩ → ¬ q.S b)
    (hfew : s.wait.length + l.length ≤ 1099511627776) (hBw : B ≤ w.heap.size) :
    Calls Try.prog 14 #[.pointer (some ⟨q.b, 0, none⟩), .slice a n cap] w fun e w' => e = .returned (.int .i64 0) ∧ Turns 58 62 B w q (s.retire l) w' := by
  obtain ⟨i0, hi, hz0, hz1, hz2⟩ := info_parts info62
  have HL := Lib.hid hl
  have HSEP := Lib.hid hsep
  have HONE := Lib.hid hone
  have hn : n ≤ 1099511627776 := by have := hl.1; omega
  have HT0 := Lib.hid (show Turned 58 62 B w q { s with wait := s.wait ++ EB.stamp (l.take 0) s.now } w q from by simpa [EB.stamp] using Turned.same h)
  clear hl hsep hone h
  go_enter Try.func14, Try.ntmps14
  go_wp2_with fail
  go_loopw [11] (fun i wr => ∃ k : Nat, k ≤ n ∧ i = .int .i64 (k : Int) ∧ Turns 58 62 B w q { s with wait := s.wait ++ EB.stamp (l.take k) s.now } wr) (fun i _ => n - (intOf i).toNat)
  case atStart => exact ⟨0, Nat.zero_le _, rfl, q, HT0.out⟩
  case round =>
    obtain ⟨k, hk, rfl, q1, hT⟩ := hrel
    obtain ⟨wo, hwo⟩ : ∃ wo, wo = wr := ⟨_, rfl⟩
    subst hwo
    have hb1 := hT.b
    have HT := Lib.hid hT
    by_cases hlt : k < n
    · have hll := HL.out.1
      obtain ⟨v, hv⟩ : ∃ v, l[k]? = some v := ⟨_, List.getElem?_eq_getElem (by omega)⟩
      obtain ⟨-, b, off, ha, hrow⟩ := HL.out
      obtain rfl : a = some ⟨b, off, none⟩ := ha.resolve_left (by omega)
      obtain ⟨r1, r2⟩ := hrow k v hv
      have rv : wo.cell? ⟨b, off + k, none⟩ = some v := by
        rw [← r2]
        simp [World.cell?, hT.only.block b r1 (HSEP.out b off (by omega) rfl)]
      have c2 : wo.cell? ⟨q.b, 2, none⟩ = some q1.v := by rw [← hb1]; exact hT.bk.c2
      have c0 : wo.cell? ⟨q.b, 0, none⟩ = some (.int .i64 s.now) := by rw [← hb1]; exact hT.bk.c0
      obtain ⟨tx, rfl⟩ := HONE.out v (List.mem_of_getElem? hv)
      have hv1 : (Value.string tx).oneCell' = true := rfl
      have HNEW := Lib.hid (show Src Try.prog 2 56 (.slice (some ⟨wo.heap.size, 0, none⟩) 1 1) 1 [.string tx, .int .i64 s.now] (wo.alloc (.cells #[.string tx, .int .i64 s.now] 62)).drew from src_block (w := (wo.alloc (.cells #[.string tx, .int .i64 s.now] 62)).drew) Try.underlying56 (heap_new wo _) 1 1 rfl (fun u hu => by simp at hu; rcases hu with rfl | rfl <;> rfl))
      obtain ⟨N, hN⟩ : ∃ N, (s.wait ++ EB.stamp (l.take k) s.now).length = N := ⟨_, rfl⟩
      have hrow0 : OffRow wo B 62 2 q1.v (s.wait ++ EB.stamp (l.take k) s.now).length (cellsOf (s.wait ++ EB.stamp (l.take k) s.now)) := hT.bk.row
      rw [hN] at hrow0
      have HO := Lib.hid (hrow0.alloc (.cells #[.string tx, .int .i64 s.now] 62))
      have hqb : q.b < wo.heap.size := by rw [← hb1]; exact (hT.bk.low _ (.inl rfl)).2
      have c2a := (((Below.refl _ wo).alloc (Nat.le_refl _) (.cells #[.string tx, .int .i64 s.now] 62)).cell (p := ⟨q.b, 2, none⟩) hqb).trans c2
      have c0a := (((Below.refl _ wo).alloc (Nat.le_refl _) (.cells #[.string tx, .int .i64 s.now] 62)).cell (p := ⟨q.b, 0, none⟩) hqb).trans c0
      have HA := Lib.hid (show Below wo.heap.size wo (wo.alloc (.cells #[.string tx, .int .i64 s.now] 62)).drew from ((Below.refl _ wo).alloc (Nat.le_refl _) (.cells #[.string tx, .int .i64 s.now] 62)).drew)
      have HLEN := Lib.hid (show N + 1 ≤ 1099511627776 by rw [← hN, List.length_append, EB.stamp_len, List.length_take]; omega)
      have HBS := Lib.hid (show B ≤ wo.heap.size from Nat.le_trans hBw hT.only.size)
      have HPUSH := Lib.hid (fun (w3 : World) (v3 : Value) (hr : OffRow w3 B 62 2 v3 (N + 1) (cellsOf (s.wait ++ EB.stamp (l.take k) s.now) ++ [.string tx, .int .i64 s.now])) => hT.bk.push (W := (wo.alloc (.cells #[.string tx, .int .i64 s.now] 62)).drew) HA.out (w3 := w3) (v3 := v3) (v := .string tx) (t := s.now) (by simp only; rw [hN]; exact hr))
      have HV := Lib.hid hv
      have hlt' : (k : Int) < (n : Int) := by omega
      have hk0 : (0 : Int) ≤ (k : Int) := by omega
      clear hT hll hrow ha r1 r2 hv hqb hN hrow0
      go_upto_region 6 with fail
      go_region_law (refine step_append_off rfl (.tmp 19) (.tmp 26) 56 rfl B 62 i0 _ 2 24 Try.underlying56 hi hz0 hz1 hz2 rfl q1.v N _ (by simp [Act.eval, Act.put]) HO.out (.slice (some ⟨wo.heap.size, 0, none⟩) 1 1) (by simp [Act.eval, Act.put]) 1 [.string tx, .int .i64 s.now] HNEW.out (by unfold maxLen; have := HLEN.out; omega) (by have := HLEN.out; omega) (by have := HBS.out; simp; omega) ?_; intro v3 w3 hown3 hg3 hat3; obtain ⟨a3, cap3, rfl⟩ := hown3.slice; obtain ⟨p1, p2, p3⟩ := HPUSH.out w3 _ hown3 hg3 hat3; rw [hb1] at p1 p2 p3; clear hown3 hg3 hat3)
      all_goals
        have HE3 := Lib.hid (HT.out.trans p3)
        clear p3 c2 c0 c2a c0a rv HO HNEW HA HPUSH
        go_wp2_with fail
        go_roundw
        case rel => exact ⟨k + 1, by omega, by go_num, _, by rw [stamp_next HV.out]; exact HE3.out⟩
        case measure => simp [intOf]; omega
    · have hkl : l.take k = l := List.take_of_length_le (by have := HL.out.1; omega)
      rw [hkl] at hT
      have c0 : wo.cell? ⟨q.b, 0, none⟩ = some (.int .i64 s.now) := by rw [← hb1]; exact hT.bk.c0
      have fb : wo.frozen? ⟨q.b, 0, none⟩ = false := by rw [← hb1]; exact hT.bk.fb 0
      have HE := Lib.hid (show Turned 58 62 B w q (s.retire l) (wo.setCell ⟨q.b, 0, none⟩ (.int .i64 (s.now + 1))) q1 from hT.trans (by
        rw [← hb1]
        exact ⟨rfl, hT.bk.setNow (s.now + 1), (Only.refl _ _).setCell (p := ⟨q1.b, 0, none⟩) (.inl (.inl rfl)) _, fun _ hj => .inl hj⟩))
      clear hT HT
      go_wp2_with fail
      go_ret
      exact ⟨rfl, q1, HE.out⟩
end Go.Proofs.Ytagadjgemgajjaa
