/- Books of numbers: what of books of texts is said, said of them. Written by a program out of those texts. -/
import Derived.Test.YtagadjgemgajjaaEpAwake
set_option linter.unusedVariables false
namespace Go.Proofs.Ytagadjgemgajjaa
open Go.RowKit

theorem info67 : (Try.prog.info? 67).map (fun i => (i.zero, i.size, i.bytes)) = some (some (.agg #[.int .i64 0, .int .i64 0]), 2, 16) := by kernel_rfl
section
variable {B : Nat} {w : World} {q : AtB} {s : EB}
theorem ibook_isSlot (h : Bk 65 67 B w q s) (i : Int) : Calls Try.prog 35 #[.pointer (some ⟨q.b, 0, none⟩), .int .i64 i] w fun e w' => e = .returned (.bool (decide (0 ≤ i ∧ i < s.came.length))) ∧ w = w' := by
  have c1 := h.c1
  clear h
  by_cases h1 : 0 ≤ i
  · by_cases h2 : i < s.came.length
    · rw [decide_eq_true (⟨h1, h2⟩ : 0 ≤ i ∧ i < (s.came.length : Int))]
      go_enter Try.func35, Try.ntmps35
      go_wp2
      go_ret
      exact ⟨rfl, rfl⟩
    · rw [decide_eq_false (fun e : 0 ≤ i ∧ i < (s.came.length : Int) => h2 e.2)]
      go_enter Try.func35, Try.ntmps35
      go_wp2
      go_ret
      exact ⟨rfl, rfl⟩
  · rw [decide_eq_false (fun e : 0 ≤ i ∧ i < (s.came.length : Int) => h1 e.1)]
    go_enter Try.func35, Try.ntmps35
    go_wp2
    go_ret
    exact ⟨rfl, rfl⟩
theorem iisSlot_nil (i : Int) (w : World) : Calls Try.prog 35 #[.pointer none, .int .i64 i] w fun e w' => e = .returned (.bool false) ∧ w = w' := by
  go_enter Try.func35, Try.ntmps35
  go_wp2
  go_ret
  exact ⟨rfl, rfl⟩
theorem ibook_Now (h : Bk 65 67 B w q s) : Calls Try.prog 26 #[.pointer (some ⟨q.b, 0, none⟩)] w fun e w' => e = .returned (.int .i64 s.now) ∧ w = w' := by
  have c0 := h.c0
  clear h
  go_enter Try.func26, Try.ntmps26
  go_wp2
  go_ret
  exact ⟨rfl, rfl⟩
theorem ibook_Held (h : Bk 65 67 B w q s) : Calls Try.prog 27 #[.pointer (some ⟨q.b, 0, none⟩)] w fun e w' => e = .returned (.int .i64 (s.wait.length : Int)) ∧ w = w' := by
  have c2 := h.c2
  obtain ⟨a, cap, hv⟩ := h.row.slice
  rw [hv] at c2
  clear h hv
  go_enter Try.func27, Try.ntmps27
  go_wp2
  go_ret
  exact ⟨rfl, rfl⟩
set_option maxHeartbeats 1000000 in
theorem ibook_limit (h : Bk 65 67 B w q s) (hl : s.came.length ≤ 16) : Calls Try.prog 34 #[.pointer (some ⟨q.b, 0, none⟩)] w fun e w' => e = .returned (.int .i64 s.limit) ∧ w = w' := by
  have c0 := h.c0
  have c1 := h.c1
  have hcc := Lib.hid (fun (i : Nat) (x : Int) (hx : s.came[i]? = some x) => h.cc hx)
  clear h
  unfold EB.limit
  go_enter Try.func34, Try.ntmps34
  go_wp2_with fail
  go_loop [3, 15] (fun m i => ∃ k : Nat, k ≤ s.came.length ∧ i = .int .i64 (k : Int) ∧ m = .int .i64 (EB.lim s.now (s.came.take k))) (fun _ i => s.came.length - (intOf i).toNat)
  case atStart => exact ⟨0, Nat.zero_le _, rfl, rfl⟩
  case round =>
    obtain ⟨k, hk, rfl, rfl⟩ := hrel
    by_cases hlt : k < s.came.length
    · obtain ⟨x, hx⟩ : ∃ x, s.came[k]? = some x := ⟨_, List.getElem?_eq_getElem hlt⟩
      have cc := hcc.out k x hx
      have HN := Lib.hid (show EB.lim s.now (s.came.take (k + 1)) = if x = 0 then EB.lim s.now (s.came.take k) else min (EB.lim s.now (s.came.take k)) x by rw [take_next hx, EB.lim_app]; rfl)
      have hlt' : (k : Int) < (s.came.length : Int) := by omega
      clear hx
      generalize EB.lim s.now (s.came.take k) = m at *
      by_cases h0 : x = 0
      · subst h0
        go_wp2
        go_round
        case rel => exact ⟨k + 1, by omega, by go_num, by rw [HN.out, if_pos rfl]⟩
        case measure => simp [intOf]; omega
      · have h0' : (x == 0) = false := by simpa using h0
        by_cases hm : m ≤ x
        · have e : min m x = m := by omega
          go_wp2
          all_goals
            go_round
            case rel => exact ⟨k + 1, by omega, by go_num, by rw [HN.out, if_neg h0, e]⟩
            case measure => simp [intOf]; omega
        · have e : min m x = x := by omega
          have hd : decide (x < m) = true := by simp; omega
          have hx' : x < m := by omega
          go_wp2
          all_goals
            go_round
            case rel => exact ⟨k + 1, by omega, by go_num, by rw [HN.out, if_neg h0, e]; try rw [if_pos hx']⟩
            case measure => simp [intOf]; omega
    · have e : s.came.take k = s.came := List.take_of_length_le (by omega)
      rw [e]
      go_wp2
      go_ret
      exact ⟨rfl, rfl⟩
theorem ibook_New_not (n : Int) (hn : n < 1 ∨ 16 < n) (w : World) : Calls Try.prog 23 #[.int .i64 n] w fun e w' => e = .returned (.tuple #[.pointer none, .int .i64 1]) ∧ w = w' := by
  by_cases h : n < 1
  · go_enter Try.func23, Try.ntmps23
    go_wp2
    go_ret2
    exact ⟨rfl, rfl⟩
  · have h16 : 16 < n := by omega
    go_enter Try.func23, Try.ntmps23
    go_wp2
    go_ret2
    exact ⟨rfl, rfl⟩
end
theorem ibook_New (n : Nat) (h1 : 1 ≤ n) (h2 : n ≤ 16) (w : World) : Calls Try.prog 23 #[.int .i64 (n : Int)] w fun e w' => e = .returned (.tuple #[.pointer (some ⟨w.heap.size + 1, 0, none⟩), .int .i64 0]) ∧
    Bk 65 67 w.heap.size w' ⟨w.heap.size + 1, w.heap.size, .slice none 0 0⟩ (newB n) ∧ Below w.heap.size w w' := by
  have a1 : ¬ (n : Int) < 1 := by omega
  have a2 : ¬ (16 : Int) < (n : Int) := by omega
  have hB := ((Below.refl w.heap.size w).alloc (Nat.le_refl _) (.cells (Array.replicate n (Value.int .i64 0)) 3)).alloc (by simp) (.cells #[.int .i64 1, .slice (some ⟨w.heap.size, 0, none⟩) n n, .slice none 0 0] 65)
  have hS : Bk 65 67 w.heap.size ((w.alloc (.cells (Array.replicate n (Value.int .i64 0)) 3)).alloc (.cells #[.int .i64 1, .slice (some ⟨w.heap.size, 0, none⟩) n n, .slice none 0 0] 65)) ⟨w.heap.size + 1, w.heap.size, .slice none 0 0⟩ (newB n) := by
    have e1 : (w.alloc (.cells (Array.replicate n (Value.int .i64 0)) 3)).heap.size = w.heap.size + 1 := by simp
    refine ⟨?_, ?_, OffRow.nil _ _ _ _, by simp, by simp, by decide, by decide, by decide⟩
    · simp only
      rw [← e1]
      rw [heap_new]
      simp [newB]
    · simp only
      rw [Below.heap_alloc _ _ _ (by omega), heap_new]
      congr 2
      apply Array.ext'
      simp [newB, intV]
  have HS := Lib.hid hS
  have HB := Lib.hid hB
  clear hB hS
  obtain ⟨i0, hi, hz0, hz1, hz2⟩ := info_parts info3
  have hmk : ∀ w, (Instr.makeSlice 27 (.int .i64 (n : Int)) (.int .i64 (n : Int))).run Try.prog w = .ok (.slice (some ⟨w.heap.size, 0, none⟩) n n) (w.alloc (.cells (Array.replicate n (Value.int .i64 0)) 3)) := by
    intro w
    rw [run_make w 27 3 i0 (.int .i64 0) Try.underlying27 hi hz0 .i64 .i64 n n (by omega) (by omega) (by rw [hz2]; omega) (by omega)]
    rw [hz1, Int.toNat_natCast, Nat.mul_one]
    have : madeCells (Value.int .i64 0).cells n = Array.replicate n (Value.int .i64 0) := by
      apply Array.ext
      · simp [madeCells]
      · intro i h1 h2
        simp [madeCells, Value.cells, Nat.mod_one]
    rw [this]
  clear hi hz0 hz1 hz2
  go_enter Try.func23, Try.ntmps23
  go_wp2
  go_ret2
  exact ⟨rfl, HS.out, HB.out⟩
set_option maxHeartbeats 4000000 in
set_option maxRecDepth 100000 in
theorem ibook_Retire {B : Nat} {w : World} {q : AtB} {s : EB} (h : Bk 65 67 B w q s) (h1 : 1 ≤ s.now) (h2 : s.now < 4611686018427387904) {a : Option Addr} {n : Nat} (cap : Nat) {l : List Value} (hl : IsVals w a n l) (hone : ∀ v ∈ l, ∃ t, v = Value.int .i64 t) (hsep : ∀ b off, 0 < n → a = some ⟨b, off, none⟩ → ¬ q.S b)
    (hfew : s.wait.length + l.length ≤ 1099511627776) (hBw : B ≤ w.heap.size) :
    Calls Try.prog 24 #[.pointer (some ⟨q.b, 0, none⟩), .slice a n cap] w fun e w' => e = .returned (.int .i64 0) ∧ Turns 65 67 B w q (s.retire l) w' := by
  obtain ⟨i0, hi, hz0, hz1, hz2⟩ := info_parts info67
  have HL := Lib.hid hl
  have HSEP := Lib.hid hsep
  have HONE := Lib.hid hone
  have hn : n ≤ 1099511627776 := by have := hl.1; omega
  have HT0 := Lib.hid (show Turned 65 67 B w q { s with wait := s.wait ++ EB.stamp (l.take 0) s.now } w q from by simpa [EB.stamp] using Turned.same h)
  clear hl hsep hone h
  go_enter Try.func24, Try.ntmps24
  go_wp2_with fail
  go_loopw [11] (fun i wr => ∃ k : Nat, k ≤ n ∧ i = .int .i64 (k : Int) ∧ Turns 65 67 B w q { s with wait := s.wait ++ EB.stamp (l.take k) s.now } wr) (fun i _ => n - (intOf i).toNat)
  case atStart => exact ⟨0, Nat.zero_le _, rfl, q, HT0.out⟩
  case round =>
    obtain ⟨k, hk, rfl, q1, hT⟩ := hrel
    obtain ⟨wo, hwo⟩ : ∃ wo, wo = wr := ⟨_, rfl⟩
    subst hwo
    have hb1 := hT.b
    have HT := Lib.hid hT
    by_cases hlt : k < n
    · have hll := HL.out.1
      obtain ⟨v, hv⟩ : ∃ v, l[k]? = some v := ⟨_, List.getElem?_eq_getElem (by omega)⟩
      obtain ⟨-, b, off, ha, hrow⟩ := HL.out
      obtain rfl : a = some ⟨b, off, none⟩ := ha.resolve_left (by omega)
      obtain ⟨r1, r2⟩ := hrow k v hv
      have rv : wo.cell? ⟨b, off + k, none⟩ = some v := by
        rw [← r2]
        simp [World.cell?, hT.only.block b r1 (HSEP.out b off (by omega) rfl)]
      have c2 : wo.cell? ⟨q.b, 2, none⟩ = some q1.v := by rw [← hb1]; exact hT.bk.c2
      have c0 : wo.cell? ⟨q.b, 0, none⟩ = some (.int .i64 s.now) := by rw [← hb1]; exact hT.bk.c0
      obtain ⟨tx, rfl⟩ := HONE.out v (List.mem_of_getElem? hv)
      have hv1 : (Value.int .i64 tx).oneCell' = true := rfl
      have HNEW := Lib.hid (show Src Try.prog 2 63 (.slice (some ⟨wo.heap.size, 0, none⟩) 1 1) 1 [.int .i64 tx, .int .i64 s.now] (wo.alloc (.cells #[.int .i64 tx, .int .i64 s.now] 67)).drew from src_block (w := (wo.alloc (.cells #[.int .i64 tx, .int .i64 s.now] 67)).drew) Try.underlying63 (heap_new wo _) 1 1 rfl (fun u hu => by simp at hu; rcases hu with rfl | rfl <;> rfl))
      obtain ⟨N, hN⟩ : ∃ N, (s.wait ++ EB.stamp (l.take k) s.now).length = N := ⟨_, rfl⟩
      have hrow0 : OffRow wo B 67 2 q1.v (s.wait ++ EB.stamp (l.take k) s.now).length (cellsOf (s.wait ++ EB.stamp (l.take k) s.now)) := hT.bk.row
      rw [hN] at hrow0
      have HO := Lib.hid (hrow0.alloc (.cells #[.int .i64 tx, .int .i64 s.now] 67))
      have hqb : q.b < wo.heap.size := by rw [← hb1]; exact (hT.bk.low _ (.inl rfl)).2
      have c2a := (((Below.refl _ wo).alloc (Nat.le_refl _) (.cells #[.int .i64 tx, .int .i64 s.now] 67)).cell (p := ⟨q.b, 2, none⟩) hqb).trans c2
      have c0a := (((Below.refl _ wo).alloc (Nat.le_refl _) (.cells #[.int .i64 tx, .int .i64 s.now] 67)).cell (p := ⟨q.b, 0, none⟩) hqb).trans c0
      have HA := Lib.hid (show Below wo.heap.size wo (wo.alloc (.cells #[.int .i64 tx, .int .i64 s.now] 67)).drew from ((Below.refl _ wo).alloc (Nat.le_refl _) (.cells #[.int .i64 tx, .int .i64 s.now] 67)).drew)
      have HLEN := Lib.hid (show N + 1 ≤ 1099511627776 by rw [← hN, List.length_append, EB.stamp_len, List.length_take]; omega)
      have HBS := Lib.hid (show B ≤ wo.heap.size from Nat.le_trans hBw hT.only.size)
      have HPUSH := Lib.hid (fun (w3 : World) (v3 : Value) (hr : OffRow w3 B 67 2 v3 (N + 1) (cellsOf (s.wait ++ EB.stamp (l.take k) s.now) ++ [.int .i64 tx, .int .i64 s.now])) => hT.bk.push (W := (wo.alloc (.cells #[.int .i64 tx, .int .i64 s.now] 67)).drew) HA.out (w3 := w3) (v3 := v3) (v := .int .i64 tx) (t := s.now) (by simp only; rw [hN]; exact hr))
      have HV := Lib.hid hv
      have hlt' : (k : Int) < (n : Int) := by omega
      have hk0 : (0 : Int) ≤ (k : Int) := by omega
      clear hT hll hrow ha r1 r2 hv hqb hN hrow0
      go_upto_region 6 with fail
      go_region_law (refine step_append_off rfl (.tmp 19) (.tmp 26) 63 rfl B 67 i0 _ 2 16 Try.underlying63 hi hz0 hz1 hz2 rfl q1.v N _ (by simp [Act.eval, Act.put]) HO.out (.slice (some ⟨wo.heap.size, 0, none⟩) 1 1) (by simp [Act.eval, Act.put]) 1 [.int .i64 tx, .int .i64 s.now] HNEW.out (by unfold maxLen; have := HLEN.out; omega) (by have := HLEN.out; omega) (by have := HBS.out; simp; omega) ?_; intro v3 w3 hown3 hg3 hat3; obtain ⟨a3, cap3, rfl⟩ := hown3.slice; obtain ⟨p1, p2, p3⟩ := HPUSH.out w3 _ hown3 hg3 hat3; rw [hb1] at p1 p2 p3; clear hown3 hg3 hat3)
      all_goals
        have HE3 := Lib.hid (HT.out.trans p3)
        clear p3 c2 c0 c2a c0a rv HO HNEW HA HPUSH
        go_wp2_with fail
        go_roundw
        case rel => exact ⟨k + 1, by omega, by go_num, _, by rw [stamp_next HV.out]; exact HE3.out⟩
        case measure => simp [intOf]; omega
    · have hkl : l.take k = l := List.take_of_length_le (by have := HL.out.1; omega)
      rw [hkl] at hT
      have c0 : wo.cell? ⟨q.b, 0, none⟩ = some (.int .i64 s.now) := by rw [← hb1]; exact hT.bk.c0
      have fb : wo.frozen? ⟨q.b, 0, none⟩ = false := by rw [← hb1]; exact hT.bk.fb 0
      have HE := Lib.hid (show Turned 65 67 B w q (s.retire l) (wo.setCell ⟨q.b, 0, none⟩ (.int .i64 (s.now + 1))) q1 from hT.trans (by
        rw [← hb1]
        exact ⟨rfl, hT.bk.setNow (s.now + 1), (Only.refl _ _).setCell (p := ⟨q1.b, 0, none⟩) (.inl (.inl rfl)) _, fun _ hj => .inl hj⟩))
      clear hT HT
      go_wp2_with fail
      go_ret
      exact ⟨rfl, q1, HE.out⟩
set_option maxHeartbeats 4000000 in
set_option maxRecDepth 100000 in
theorem ibook_Free {B : Nat} {w : World} {q : AtB} {s : EB} (h : Bk 65 67 B w q s) (hl : s.came.length ≤ 16) (hstr : ∀ p ∈ s.wait, ∃ t, p.1 = Value.int .i64 t) (hfew : s.wait.length ≤ 1099511627776) (hBw : B ≤ w.heap.size) :
    Calls Try.prog 25 #[.pointer (some ⟨q.b, 0, none⟩)] w fun e w' => Freed 65 67 3 B w q s e w' := by
  obtain ⟨i0, hi, hz0, hz1, hz2⟩ := info_parts info3
  obtain ⟨j0, hj, hy0, hy1, hy2⟩ := info_parts info67
  have hlim := ibook_limit h hl
  have c2 := h.c2
  have H := Lib.hid h
  have HS := Lib.hid hstr
  obtain ⟨a, cap, hv⟩ := h.row.slice
  obtain ⟨n, hn⟩ : ∃ n, n = s.wait.length := ⟨_, rfl⟩
  have HN := Lib.hid hn
  obtain ⟨L, hL⟩ : ∃ L, L = s.limit := ⟨_, rfl⟩
  rw [← hL] at hlim
  have HL := Lib.hid hL
  rw [hv, ← hn] at c2
  rw [← hn] at hfew
  have HV := Lib.hid hv
  have HF0 := Lib.hid (show Frees w.heap.size w w 3 L s.wait (.slice none 0 0) 0 from ⟨OffRow.nil _ _ _ _, Below.refl _ _, fun i hi => absurd hi (Nat.not_lt_zero _)⟩)
  clear h hstr hv hn hL
  go_enter Try.func25, Try.ntmps25
  go_wp2_with (go_at_call 34; refine hlim.mono ?_; rintro e w' ⟨rfl, rfl⟩)
  go_loopw [3, 17] (fun t i wr => ∃ k : Nat, k ≤ n ∧ i = .int .i64 (k : Int) ∧ Frees w.heap.size w wr 3 L s.wait t k) (fun _ i _ => n - (intOf i).toNat)
  case atStart => exact ⟨0, Nat.zero_le _, rfl, HF0.out⟩
  case round =>
    obtain ⟨k, hk, rfl, hF⟩ := hrel
    obtain ⟨wo, hwo⟩ : ∃ wo, wo = wr := ⟨_, rfl⟩
    subst hwo
    obtain ⟨a1, cap1, hv1⟩ := hF.row.slice
    subst hv1
    have HF := Lib.hid hF
    clear hF
    have hends : (∃ p : Value × Int, s.wait[k]? = some p ∧ p.2 < L) ∨ (EB.gone L s.wait = k ∧ ((∃ p : Value × Int, s.wait[k]? = some p ∧ ¬ p.2 < L) ∨ k = n)) := by
      by_cases hlt : k < n
      · obtain ⟨p, hp⟩ : ∃ p, s.wait[k]? = some p := ⟨_, List.getElem?_eq_getElem (by have := HN.out; omega)⟩
        by_cases hd : p.2 < L
        · exact .inl ⟨p, hp, hd⟩
        · exact .inr ⟨EB.gone_is HF.out.low fun p' hp' => by rw [hp] at hp'; injection hp' with hp'; subst hp'; exact hd, .inl ⟨p, hp, hd⟩⟩
      · exact .inr ⟨EB.gone_is HF.out.low fun p' hp' => by have := (List.getElem?_eq_some_iff.1 hp').1; have := HN.out; omega, .inr (by omega)⟩
    rcases hends with ⟨p, hp, hd⟩ | ⟨hgone, hway⟩
    · have hlt : k < n := by have := (List.getElem?_eq_some_iff.1 hp).1; have := HN.out; omega
      have hlt' : (k : Int) < (n : Int) := by omega
      have hk0 : (0 : Int) ≤ (k : Int) := by omega
      obtain ⟨pv, pt⟩ := p
      obtain ⟨tx, htx⟩ := HS.out _ (List.mem_of_getElem? hp)
      simp only at htx
      subst htx
      obtain ⟨g, off, cp, e1, r1, r2⟩ := (H.out.below (HF.out.bel)).thing hp
      rw [HV.out] at e1
      injection e1 with e1 _ e3
      subst e1 e3
      have HP := Lib.hid hp
      simp only at r1 r2 hd
      clear hp
      have hsz : w.heap.size ≤ wo.heap.size := HF.out.bel.size
      go_wp2_with (at_builtin; refine wpList_append_off rfl (.tmp 25) (.tmp 28) 27 rfl w.heap.size 3 i0 _ 1 8 Try.underlying27 hi hz0 hz1 hz2 rfl (.slice a1 k cap1) k ((s.wait.map (·.1)).take k) rfl ?c1 _ rfl 1 [.int .i64 tx] ?c2 ?c3 ?c4 ?c5 ?_)
      case c1 => exact (HF.out.row.alloc _).alloc _
      case c2 => exact src_block Try.underlying27 (by have := heap_new (wo.alloc (.cells #[.int .i64 tx, .int .i64 pt] 67)) (.cells #[.int .i64 tx] 3); simpa using this) 1 1 rfl (by simp; rfl)
      case c3 => unfold maxLen; omega
      case c4 => omega
      case c5 => omega
      intro v3 w3 hown3 hg3 hat3
      have HE := Lib.hid (HF.out.next rfl (((Below.refl _ wo).alloc (Nat.le_refl _) _).alloc (by simp) _) HP.out hd hown3 hg3)
      clear hown3 hg3 hat3 r1 r2
      go_wp2_with fail
      go_roundw
      case rel => exact ⟨k + 1, hlt, by go_num, HE.out⟩
      case measure => simp [intOf]; omega
    · have hkn : k ≤ n := hk
      have hn := HN.out
      have HR := Lib.hid (show ∀ W, Below wo.heap.size wo W → OffRow W B 67 2 (.slice a n cap) n (cellsOf s.wait) from fun W hW => by
        have r := ((H.out.below HF.out.bel).below hW).row
        rw [HV.out, ← hn] at r
        exact r)
      have c2' : wo.cell? ⟨q.b, 2, none⟩ = some (.slice a n cap) := by
        have c := (H.out.below HF.out.bel).c2
        rw [HV.out, ← hn] at c
        exact c
      have HFIN := Lib.hid (show ∀ (W : World) (hW : Below wo.heap.size wo W) (w4 : World) (hg : W.grownBy w4 (Value.slice a n cap).ownBlock) (v : Value) (hr : OffRow w4 B 67 2 v (n - k) ((cellsOf s.wait).drop (k * 2))) (hv : ∀ j, v.ownBlock = some j → (Value.slice a n cap).ownBlock = some j), w4.cell? ⟨q.b, 2, none⟩ = some (.slice a n cap) ∧ w4.frozen? ⟨q.b, 2, none⟩ = false ∧ Freed 65 67 3 B w q s (.returned (.slice a1 k cap1)) (w4.setCell ⟨q.b, 2, none⟩ v) from fun W hW w4 hg v hr hv => by
        have := (HF.out.below hW).fin (e := 3) H.out HL.out hgone (by rw [HV.out, ← hn]; exact hg) (v := v) (by rw [← hn]; exact hr) (fun j hj => by rw [HV.out, ← hn]; exact hv j hj)
        rw [HV.out, ← hn] at this
        exact this)
      have HONE := Lib.hid (show ∀ u ∈ (Value.agg #[Value.int .i64 0, Value.int .i64 0]).cells.toList, u.oneCell' = true from fun u hu => by simp [Value.cells] at hu; rcases hu with rfl | rfl <;> rfl)
      have hcases : (a = none ∧ n = 0 ∧ cap = 0) ∨ ∃ g off, a = some ⟨g, off, none⟩ ∧ n ≤ cap ∧ cap ≤ maxLen := by
        rcases (HR.out wo (Below.refl _ _)).2 with ⟨e, e0⟩ | ⟨g, off, cp, cur, e, _, _, x1, x2, _⟩
        · injection e with e1 _ e3
          exact .inl ⟨e1, e0, e3⟩
        · injection e with e1 _ e3
          exact .inr ⟨g, off, e1, by omega, by omega⟩
      rcases hway with ⟨p, hp, hd⟩ | rfl
      · have hlt : k < n := by have := (List.getElem?_eq_some_iff.1 hp).1; omega
        obtain ⟨g, off, rfl, hnc, hcm⟩ := hcases.resolve_left (by rintro ⟨_, h, _⟩; omega)
        obtain ⟨pv, pt⟩ := p
        obtain ⟨tx, htx⟩ := HS.out _ (List.mem_of_getElem? hp)
        simp only at htx
        subst htx
        obtain ⟨g', off', cp, e1, r1, r2⟩ := (H.out.below (HF.out.bel)).thing hp
        rw [HV.out] at e1
        injection e1 with e1 _ e3
        injection e1 with e1
        injection e1 with e1 e2
        subst e1 e2 e3
        simp only at r1 r2 hd
        have hd' : L ≤ pt := by omega
        unfold maxLen at hcm
        have hlt' : (k : Int) < (n : Int) := by omega
        have hk0 : (0 : Int) ≤ (k : Int) := by omega
        have hkc : (k : Int) ≤ (cap : Int) := by omega
        have hc : k < cap := by omega
        have hsl := Lib.hid (slice_from Try.underlying63 hj hy1 (g := g) (off := off) (n := n) (cap := cap) hkn (by omega))
        have hqb : q.b < wo.heap.size := ((H.out.below HF.out.bel).low _ (.inl rfl)).2
        have c2a := (((Below.refl _ wo).alloc (Nat.le_refl _) (.cells #[.int .i64 tx, .int .i64 pt] 67)).cell (p := ⟨q.b, 2, none⟩) hqb).trans c2'
        clear hn hgone hk hp c2' hqb
        go_wp2_with (with_reducible refine wpList_clear_off rfl (.tmp 38) 63 rfl B 67 j0 _ 2 Try.underlying63 hj hy0 rfl HONE.out _ _ _ (HR.out _ ((Below.refl _ wo).alloc (Nat.le_refl _) _)) (some ⟨g, off, none⟩) cap rfl k hkn _ rfl ?_)
        intro w4 hg4 ⟨a', x1, x2, hr4⟩
        replace x1 := x1 hc
        rw [Option.map_some, addr_add] at x1
        subst x1
        obtain ⟨p1, p2, p3⟩ := HFIN.out _ ((Below.refl _ wo).alloc (Nat.le_refl _) _) w4 hg4 _ hr4 (fun j hj => hj)
        have HE := Lib.hid p3
        have hsl := hsl.out
        clear p3 hg4 hr4 x2
        go_wp2_with fail
        go_ret
        exact HE.out
      · clear hgone hk
        rcases hcases with ⟨rfl, h0, rfl⟩ | ⟨g, off, rfl, hnc, hcm⟩
        · subst h0
          clear hn
          go_wp2_with (with_reducible refine wpList_clear_off rfl (.tmp 38) 63 rfl B 67 j0 _ 2 Try.underlying63 hj hy0 rfl HONE.out _ _ _ (HR.out _ (Below.refl _ _)) none 0 rfl 0 (Nat.le_refl _) _ rfl ?_)
          intro w4 hg4 ⟨a', x1, x2, hr4⟩
          replace x2 := x2 rfl
          subst x2
          obtain ⟨p1, p2, p3⟩ := HFIN.out _ (Below.refl _ _) w4 hg4 _ hr4 (fun j hj => hj)
          have HE := Lib.hid p3
          clear p3 hg4 hr4 x1
          go_wp2_with fail
          go_ret
          exact HE.out
        · unfold maxLen at hcm
          have hkc : (k : Int) ≤ (cap : Int) := by omega
          clear hn
          by_cases hlt : k < cap
          · have hsl := Lib.hid (slice_from Try.underlying63 hj hy1 (g := g) (off := off) (n := k) (cap := cap) (Nat.le_refl _) (by omega))
            go_wp2_with (with_reducible refine wpList_clear_off rfl (.tmp 38) 63 rfl B 67 j0 _ 2 Try.underlying63 hj hy0 rfl HONE.out _ _ _ (HR.out _ (Below.refl _ _)) (some ⟨g, off, none⟩) cap rfl k hkn _ rfl ?_)
            intro w4 hg4 ⟨a', x1, x2, hr4⟩
            replace x1 := x1 hlt
            rw [Option.map_some, addr_add] at x1
            subst x1
            obtain ⟨p1, p2, p3⟩ := HFIN.out _ (Below.refl _ _) w4 hg4 _ hr4 (fun j hj => hj)
            simp only [Nat.sub_self] at p3
            have HE := Lib.hid p3
            have hsl := hsl.out
            clear p3 hg4 hr4 x2
            go_wp2_with fail
            go_ret
            exact HE.out
          · obtain rfl : k = cap := by omega
            go_wp2_with (with_reducible refine wpList_clear_off rfl (.tmp 38) 63 rfl B 67 j0 _ 2 Try.underlying63 hj hy0 rfl HONE.out _ _ _ (HR.out _ (Below.refl _ _)) (some ⟨g, off, none⟩) k rfl k hkn _ rfl ?_)
            intro w4 hg4 ⟨a', x1, x2, hr4⟩
            replace x2 := x2 rfl
            subst x2
            obtain ⟨p1, p2, p3⟩ := HFIN.out _ (Below.refl _ _) w4 hg4 _ hr4 (fun j hj => hj)
            simp only [Nat.sub_self] at p3
            have HE := Lib.hid p3
            clear p3 hg4 hr4 x1
            go_wp2_with fail
            go_ret
            exact HE.out
end Go.Proofs.Ytagadjgemgajjaa
