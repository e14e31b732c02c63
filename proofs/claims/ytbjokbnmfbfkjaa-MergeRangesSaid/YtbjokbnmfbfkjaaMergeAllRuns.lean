/- The program's All: it goes through what is left of a cursor, an error last. -/
import Derived.Test.YtbjokbnmfbfkjaaMergeAll
set_option linter.unusedVariables false
set_option maxRecDepth 100000
namespace Go.Proofs.Ytbjokbnmfbfkjaa
open Go.RowKit

/-- What All hands on. -/
def yields (l : List Ent) (e : Int) : List (Ent × Int) := l.map (fun x => (x, 0)) ++ if e = 0 then [] else [(noEnt, e)]
def encY (p : Ent × Int) : Array Value := #[.agg #[.string (bs p.1.key), .string (bs p.1.val), .bool p.1.gone], .int .i64 p.2]
/-- What All knows of its cursor behind k rounds. -/
def CurK (c : Cu) (q : Nat) (l : List Ent) (e : Int) (k : Nat) (W : World) : Prop := c.I (l.drop k) e false W ∧ BxP q c.v W
def FsK (c : Cu) (q : Nat) (k : Nat) : Prop := c.F k ∨ k = q
theorem curK_only {c : Cu} {q : Nat} {l : List Ent} {e : Int} {k : Nat} {A B : World} {S : Nat → Prop} (h : CurK c q l e k A) (o : Only S A B) (hS : ∀ j, S j → ¬ FsK c q j) : CurK c q l e k B :=
  ⟨c.ok.only h.1 o fun j hj hs => hS j hs (.inl hj), (o.block q (heap_lt h.2) fun hs => hS q hs (.inr rfl)).trans h.2⟩
theorem yields_at {l : List Ent} {e : Int} {k : Nat} {x : Ent} (h : l[k]? = some x) : (yields l e)[k]? = some (x, 0) := by
  have hk := (List.getElem?_eq_some_iff.1 h).1
  unfold yields
  rw [List.getElem?_append_left (by simpa using hk), List.getElem?_map, h]
  rfl
theorem yields_end {l : List Ent} {e : Int} (h : e ≠ 0) : (yields l e)[l.length]? = some (noEnt, e) := by
  unfold yields
  rw [if_neg h, List.getElem?_append_right (by simp)]
  simp
theorem yields_take {l : List Ent} {e : Int} {k : Nat} {x : Ent} (h : l[k]? = some x) : (yields l e).take (k + 1) = (yields l e).take k ++ [(x, 0)] := by
  rw [List.take_add_one, yields_at h]; rfl
theorem yields_len {l : List Ent} {e : Int} {k : Nat} (h : k ≤ l.length) : ((yields l e).take k).length = k := by
  rw [List.length_take]
  unfold yields
  simp only [List.length_append, List.length_map]
  omega
theorem yields_ok {l : List Ent} {e : Int} (h : e = 0) : (yields l e).take l.length = yields l e := by
  unfold yields
  rw [if_pos h, List.append_nil]
  exact List.take_of_length_le (by simp)
theorem yields_err {l : List Ent} {e : Int} (h : e ≠ 0) : (yields l e).take l.length ++ [(noEnt, e)] = yields l e := by
  unfold yields
  rw [if_neg h, List.take_append_of_le_length (by simp), List.take_of_length_le (by simp)]
/-- How a round of All begins. -/
def AllF (c : Cu) (q zx : Nat) (l : List Ent) (e : Int) (J : List (Ent × Int) → World → Prop) (fv ev : Value) (w : World) (r : Nat) : Prop :=
  ∃ k, k ≤ l.length ∧ r = l.length - k ∧ J ((yields l e).take k) w ∧
    ((∃ x, l[k]? = some x ∧ fv = .bool true ∧ ev = .int .i64 0 ∧ C3 zx 32 (.string (bs x.key)) (.string (bs x.val)) (.bool x.gone) w ∧ CurK c q l e (k + 1) w) ∨
      (k = l.length ∧ fv = .bool false ∧ ev = .int .i64 e ∧ C3 zx 32 (.string ⟨#[]⟩) (.string ⟨#[]⟩) (.bool false) w ∧ CurK c q l e k w))
set_option maxHeartbeats 4000000 in
theorem all_runs (n : Nat) (c : Cu) (hp : ∃ a, c.v = .pointer a) (q : Nat) (l : List Ent) (e : Int) (lp : Nat) (J Jx : List (Ent × Int) → World → Prop) (W : World) (hq : Hid (¬ c.F q))
    (hJ : Hid (∀ pre A B, J pre A → Only (fun k => FsK c q k ∨ W.heap.size ≤ k) A B → J pre B))
    (hY : Hid (∀ pre x W1, J pre W1 → CurK c q l e (pre.length + 1) W1 → (yields l e)[pre.length]? = some x → YieldAt Fence.wide (n - 1) Try.prog lp (encY x) W1 fun en W' =>
      (en = .returned (.bool true) ∧ J (pre ++ [x]) W' ∧ Only (fun k => k < W.heap.size ∧ ¬ FsK c q k) W1 W') ∨ (en = .returned (.bool false) ∧ Jx (pre ++ [x]) W')))
    (h0 : Hid (J [] W)) (hc0 : Hid (CurK c q l e 0 W)) :
    Calls Try.prog 37 #[.func (.yield lp) #[] #[], .pointer (some ⟨q, 0, none⟩)] W fun en W' => (∃ v, en = .returned v) ∧ ((J (yields l e) W' ∧ CurK c q l e (yields l e).length W') ∨ (∃ pre, Jx pre W')) := by
  obtain ⟨pv, hpv⟩ := hp
  have HPV := Lib.hid hpv
  have x0 := BxP.cell hc0.out.2
  have HN := Lib.hid (cur_next (Lib.hid c.ok) l e false W (Lib.hid hc0.out.1))
  have hFz := Lib.hid (show ∀ k, FsK c q k → k < W.heap.size from fun k h => by
    rcases h with h | rfl
    · exact Nat.lt_of_lt_of_le (c.ok.low _ h) (c.ok.size _ _ _ _ hc0.out.1)
    · exact heap_lt hc0.out.2)
  rw [hpv] at x0 HN
  clear hpv
  go_enter Try.func37, Try.ntmps37
  go_wp2_with fail
  refine HN.out.mono ?_
  rintro en w2 ⟨hA, hI2, k2⟩
  have I2 := Lib.hid (c.ok.weak' hI2)
  have B2 := Lib.hid (show BxP q c.v w2 from (k2.block q (heap_lt hc0.out.2) hq.out).trans hc0.out.2)
  have J2 := Lib.hid (hJ.out _ _ _ h0.out (k2.mono fun _ _ h => .inl (.inl h)))
  have s2 := Lib.hid k2.size
  clear hI2 k2 x0
  obtain ⟨zx, hzx⟩ : ∃ zx, zx = w2.heap.size := ⟨_, rfl⟩
  have s3 : W.heap.size ≤ zx := by rw [hzx]; exact s2.out
  have HZX := Lib.hid hzx
  have HS3 := Lib.hid s3
  clear s3 hzx
  have hst : (l = [] ∧ en = .returned (.tuple #[.agg #[.string ⟨#[]⟩, .string ⟨#[]⟩, .bool false], .bool false, .int .i64 e])) ∨ ∃ x t, l = x :: t ∧ en = .returned (.tuple #[.agg #[.string (bs x.key), .string (bs x.val), .bool x.gone], .bool true, .int .i64 0]) := by
    cases hA with
    | ends => exact .inl ⟨rfl, rfl⟩
    | next x t => exact .inr ⟨x, t, rfl, rfl⟩
  clear hA
  rcases hst with ⟨hl, rfl⟩ | ⟨x, t, hl, rfl⟩
  obtain ⟨w3, hw3⟩ : ∃ w3, w3 = w2.alloc (.cells #[.string ⟨#[]⟩, .string ⟨#[]⟩, .bool false] 32) := ⟨_, rfl⟩
  have K3 := Lib.hid (show Below w2.heap.size w2 w3 by rw [hw3]; exact (Below.refl _ _).alloc (Nat.le_refl _) _)
  have HF := Lib.hid (show AllF c q zx l e J (.bool false) (.int .i64 e) w3 (l.length - 0) from ⟨0, Nat.zero_le _, rfl, hJ.out _ _ _ J2.out (Only.of_below' K3.out rfl), .inr ⟨by rw [hl]; rfl, rfl, rfl, by rw [hw3, HZX.out]; exact heap_new w2 _, by rw [List.drop_zero]; have := c.ok.below I2.out K3.out; rwa [hl] at this ⊢, (K3.out.block q (heap_lt B2.out)).trans B2.out⟩⟩)
  have HW3 := Lib.hid hw3
  clear hw3
  go_upto_region 1 with (fail)
  rw [← HW3.out, ← HZX.out]
  rotate_left
  obtain ⟨w3, hw3⟩ : ∃ w3, w3 = w2.alloc (.cells #[.string (bs x.key), .string (bs x.val), .bool x.gone] 32) := ⟨_, rfl⟩
  have K3 := Lib.hid (show Below w2.heap.size w2 w3 by rw [hw3]; exact (Below.refl _ _).alloc (Nat.le_refl _) _)
  have HF := Lib.hid (show AllF c q zx l e J (.bool true) (.int .i64 0) w3 (l.length - 0) from ⟨0, Nat.zero_le _, rfl, hJ.out _ _ _ J2.out (Only.of_below' K3.out rfl), .inl ⟨x, by rw [hl]; rfl, rfl, rfl, by rw [hw3, HZX.out]; exact heap_new w2 _, by rw [Nat.zero_add, List.drop_one]; exact c.ok.below I2.out K3.out, (K3.out.block q (heap_lt B2.out)).trans B2.out⟩⟩)
  have HW3 := Lib.hid hw3
  clear hw3
  go_upto_region 1 with (fail)
  rw [← HW3.out, ← HZX.out]
  all_goals
    clear HN I2 J2 B2 K3 hl
    go_loopw [4, 5] (fun fv ev wr => Hid (∃ r, AllF c q zx l e J fv ev wr r)) (fun fv ev wr => leastOf (AllF c q zx l e J fv ev wr))
    case atStart => exact Lib.hid ⟨_, HF.out⟩
    case round =>
      rename_i fv1 ev1 wr
      obtain ⟨wo, hwo⟩ : ∃ wo, wo = wr := ⟨_, rfl⟩
      subst hwo
      obtain ⟨⟨k, hk, hr, hJk, hcase⟩, hmin⟩ := leastOf_spec hrel.out
      have HR := Lib.hid hr
      have HK := Lib.hid hk
      have HJK := Lib.hid hJk
      clear hr hk hJk hmin
      rcases hcase with ⟨y, hy, rfl, rfl, hX, hC⟩ | ⟨rfl, rfl, rfl, hX, hC⟩
      · have HX := Lib.hid hX
        have HC := Lib.hid hC
        have HYK := Lib.hid hy
        have y0 := hX.c0
        have y1 := hX.c1
        have y2 := hX.c2
        have hlen := Lib.hid (yields_len (e := e) HK.out)
        have hklt := Lib.hid (show k < l.length from (List.getElem?_eq_some_iff.1 hy).1)
        have hyt := Lib.hid (yields_take (e := e) hy)
        obtain ⟨fn, tm, asg, bdy, hyi, hRd⟩ := hY.out ((yields l e).take k) (y, 0) wo HJK.out (by rw [hlen.out]; exact hC) (by rw [hlen.out]; exact yields_at hy)
        unfold encY at hyi
        simp only at hyi
        clear hX hC hy
        go_upto_region 1 with (fail)
        refine (wpIn_wide (n := n)).1 ?_
        gi_wp2
        refine ⟨fun h => by simp [Fence.wide] at h, hRd.mono ?_⟩
        rintro en W5 (⟨rfl, hJ5, hk5⟩ | ⟨rfl, hx5⟩)
        · rw [← hyt.out] at hJ5
          have HJ5 := Lib.hid hJ5
          have X5 := Lib.hid (HX.out.only hk5 fun h => by have := HS3.out; omega)
          have C5 := Lib.hid (curK_only HC.out hk5 fun j hj => hj.2)
          have x0 := BxP.cell C5.out.2
          have s5 := Lib.hid hk5.size
          obtain ⟨L2, hL2⟩ : ∃ L2, L2 = l.drop (k + 1) := ⟨_, rfl⟩
          have HN5 := Lib.hid (cur_next (Lib.hid c.ok) L2 e false W5 (Lib.hid (by rw [hL2]; exact C5.out.1)))
          rw [HPV.out] at x0 HN5
          have HL2 := Lib.hid hL2
          clear hJ5 hk5 y0 y1 y2 hL2
          gi_wp2
          go_wp2_with fail
          refine HN5.out.mono ?_
          rintro en w6 ⟨hA6, hI6, k6⟩
          have I6 := Lib.hid (c.ok.weak' hI6)
          have X6 := Lib.hid (X5.out.only k6 fun h => by have := hFz.out _ (.inl h); have := HS3.out; omega)
          have B6 := Lib.hid (show BxP q c.v w6 from (k6.block q (heap_lt C5.out.2) hq.out).trans C5.out.2)
          have J6 := Lib.hid (hJ.out _ _ _ HJ5.out (k6.mono fun _ _ h => .inl (.inl h)))
          have hst : (L2 = [] ∧ en = .returned (.tuple #[.agg #[.string ⟨#[]⟩, .string ⟨#[]⟩, .bool false], .bool false, .int .i64 e])) ∨ ∃ x t, L2 = x :: t ∧ en = .returned (.tuple #[.agg #[.string (bs x.key), .string (bs x.val), .bool x.gone], .bool true, .int .i64 0]) := by
            cases hA6 with
            | ends => exact .inl ⟨rfl, rfl⟩
            | next x t => exact .inr ⟨x, t, rfl, rfl⟩
          clear hA6 hI6 k6 x0
          have y0 := X6.out.c0
          have y1 := X6.out.c1
          have y2 := X6.out.c2
          have yf := X6.out.free
          have hzq := Lib.hid (show q ≠ zx ∧ ∀ j, c.F j → j ≠ zx from ⟨by have := hFz.out q (.inr rfl); have := HS3.out; omega, fun j hj => by have := hFz.out j (.inl hj); have := HS3.out; omega⟩)
          have hnext : ∀ (v0 v1 v2 : Value), J ((yields l e).take (k + 1)) (((w6.setCell ⟨zx, 0, none⟩ v0).setCell ⟨zx, 1, none⟩ v1).setCell ⟨zx, 2, none⟩ v2) ∧ c.I L2.tail e false (((w6.setCell ⟨zx, 0, none⟩ v0).setCell ⟨zx, 1, none⟩ v1).setCell ⟨zx, 2, none⟩ v2) ∧ BxP q c.v (((w6.setCell ⟨zx, 0, none⟩ v0).setCell ⟨zx, 1, none⟩ v1).setCell ⟨zx, 2, none⟩ v2) := fun v0 v1 v2 =>
            ⟨hJ.out _ _ _ J6.out ((put3_only w6 zx v0 v1 v2).mono fun j _ hj => .inr (by rw [hj]; exact HS3.out)), c.ok.only I6.out (put3_only w6 zx v0 v1 v2) fun j hj => hzq.out.2 j hj, (put3_other v0 v1 v2 q hzq.out.1).trans B6.out⟩
          have HNX := Lib.hid hnext
          clear hnext
          rcases hst with ⟨hl, rfl⟩ | ⟨x, t, hl, rfl⟩
          · have hkl : k + 1 = l.length := by
              have := HL2.out
              rw [hl] at this
              have := List.drop_eq_nil_iff.1 this.symm
              have := hklt.out
              omega
            have HKL := Lib.hid hkl
            have HF6 := Lib.hid (show AllF c q zx l e J (.bool false) (.int .i64 e) (((w6.setCell ⟨zx, 0, none⟩ (.string ⟨#[]⟩)).setCell ⟨zx, 1, none⟩ (.string ⟨#[]⟩)).setCell ⟨zx, 2, none⟩ (.bool false)) (l.length - (k + 1)) from
              ⟨k + 1, by omega, rfl, (HNX.out _ _ _).1, .inr ⟨hkl, rfl, rfl, X6.out.put _ _ _, by rw [← HL2.out, hl]; have := (HNX.out (.string ⟨#[]⟩) (.string ⟨#[]⟩) (.bool false)).2.1; rwa [hl] at this, (HNX.out _ _ _).2.2⟩⟩)
            clear hl hkl
            go_wp2_with fail
            go_roundw
            case rel => exact Lib.hid ⟨_, HF6.out⟩
            case measure =>
              have h1 := (leastOf_spec ⟨_, HF6.out⟩).2 _ HF6.out
              have h2 := HR.out
              have h3 := hklt.out
              omega
          · have hkl : l[k + 1]? = some x ∧ l.drop (k + 1 + 1) = t := by
              have h1 := HL2.out
              rw [hl] at h1
              have hlt : k + 1 < l.length := by
                rcases Nat.lt_or_ge (k + 1) l.length with h | h
                · exact h
                · rw [List.drop_eq_nil_of_le h] at h1; cases h1
              rw [List.drop_eq_getElem_cons hlt] at h1
              injection h1 with h1 h2
              exact ⟨by rw [List.getElem?_eq_getElem hlt, h1], h2.symm⟩
            have HF6 := Lib.hid (show AllF c q zx l e J (.bool true) (.int .i64 0) (((w6.setCell ⟨zx, 0, none⟩ (.string (bs x.key))).setCell ⟨zx, 1, none⟩ (.string (bs x.val))).setCell ⟨zx, 2, none⟩ (.bool x.gone)) (l.length - (k + 1)) from
              ⟨k + 1, hklt.out, rfl, (HNX.out _ _ _).1, .inl ⟨x, hkl.1, rfl, rfl, X6.out.put _ _ _, by rw [hkl.2]; have := (HNX.out (.string (bs x.key)) (.string (bs x.val)) (.bool x.gone)).2.1; rwa [hl] at this, (HNX.out _ _ _).2.2⟩⟩)
            clear hl hkl
            go_wp2_with fail
            go_roundw
            case rel => exact Lib.hid ⟨_, HF6.out⟩
            case measure =>
              have h1 := (leastOf_spec ⟨_, HF6.out⟩).2 _ HF6.out
              have h2 := HR.out
              have h3 := hklt.out
              omega
        · have HX5 := Lib.hid hx5
          clear hx5 y0 y1 y2
          gi_wp2
          go_wp2_with fail
          go_end0
          exact ⟨⟨_, rfl⟩, .inr ⟨_, HX5.out⟩⟩
      · have HC := Lib.hid hC
        have hlen := Lib.hid (yields_len (l := l) (e := e) (Nat.le_refl _))
        clear hX hC
        by_cases h0e : e = 0
        · have hye := Lib.hid (yields_ok (l := l) h0e)
          have hye2 := Lib.hid (show (yields l e).length = l.length by unfold yields; rw [if_pos h0e]; simp)
          subst h0e
          go_wp2_with fail
          go_end0
          exact ⟨⟨_, rfl⟩, .inl ⟨by rw [← hye.out]; exact HJK.out, by rw [hye2.out]; exact HC.out⟩⟩
        · have hye := Lib.hid (yields_err (l := l) h0e)
          have hye2 := Lib.hid (show (yields l e).length = l.length + 1 by unfold yields; rw [if_neg h0e]; simp)
          have hC1 := Lib.hid (show CurK c q l e (l.length + 1) wo from ⟨by rw [List.drop_eq_nil_of_le (Nat.le_succ _)]; have := HC.out.1; rwa [List.drop_length] at this, HC.out.2⟩)
          have h1e : (e == 0) = false := by simpa using h0e
          have h2e : (e != 0) = true := by simpa using h0e
          obtain ⟨fn, tm, asg, bdy, hyi, hRd⟩ := hY.out ((yields l e).take l.length) (noEnt, e) wo HJK.out (by rw [hlen.out]; exact hC1.out) (by rw [hlen.out]; exact yields_end h0e)
          have hyi' : (Instr.yield lp #[.agg #[.string ⟨#[]⟩, .string ⟨#[]⟩, .bool false], .int .i64 e]).run Try.prog wo = .ok (.round lp fn tm asg bdy) wo := hyi
          clear hyi h0e
          go_upto_region 4 with (fail)
          refine (wpIn_wide (n := n)).1 ?_
          gi_wp2
          refine ⟨fun h => by simp [Fence.wide] at h, hRd.mono ?_⟩
          rintro en W5 (⟨rfl, hJ5, hk5⟩ | ⟨rfl, hx5⟩)
          · rw [hye.out] at hJ5
            have HJ5 := Lib.hid hJ5
            have C5 := Lib.hid (curK_only hC1.out hk5 fun j hj => hj.2)
            clear hJ5 hk5
            gi_wp2
            go_wp2_with fail
            go_end0
            exact ⟨⟨_, rfl⟩, .inl ⟨HJ5.out, by rw [hye2.out]; exact C5.out⟩⟩
          · have HX5 := Lib.hid hx5
            clear hx5
            gi_wp2
            go_wp2_with fail
            go_end0
            exact ⟨⟨_, rfl⟩, .inr ⟨_, HX5.out⟩⟩
/-- All, of a cursor: what is ranged over. -/
theorem all_stops (n : Nat) (c : Cu) (hp : ∃ a, c.v = .pointer a) (q : Nat) (l : List Ent) (e : Int) (hq : ¬ c.F q) : CurStops n Try.prog 37 #[.pointer (some ⟨q, 0, none⟩)] encY (FsK c q) (CurK c q l e) (yields l e) :=
  fun lp J Jx W hJ hY h0 hc0 => callsIn_wide.2 (all_runs n c hp q l e lp J Jx W (Lib.hid hq) (Lib.hid hJ) (Lib.hid hY) (Lib.hid h0) (Lib.hid hc0))
end Go.Proofs.Ytbjokbnmfbfkjaa
