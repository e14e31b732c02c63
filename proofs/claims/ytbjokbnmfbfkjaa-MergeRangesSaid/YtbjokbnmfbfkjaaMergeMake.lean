/- The program's From, Merge and Live: what they answer is a cursor. -/
import Derived.Test.YtbjokbnmfbfkjaaMergeClone
set_option linter.unusedVariables false
set_option maxRecDepth 100000
namespace Go.Proofs.Ytbjokbnmfbfkjaa
open Go.RowKit

/-- A cursor was answered. -/
structure Got (c : Cu) (w : World) (en : Ending) (w' : World) (G : Nat → Prop) (l : List Ent) (e : Int) : Prop where
  out : en = .returned c.v
  ptr : ∃ a, c.v = .pointer a
  own : c.I l e false w'
  has : ∀ k, c.F k → G k ∨ w.heap.size ≤ k
  bel : Below w.heap.size w w'
def GotC (w : World) (G : Nat → Prop) (l : List Ent) (e : Int) (en : Ending) (w' : World) : Prop := ∃ c : Cu, Got c w en w' G l e
theorem from_run (f : Nat) (b c : Array Value) (w : World) : Calls Try.prog 23 #[.func (.func f) b c] w fun en w' => en = .returned (.pointer (some ⟨w.heap.size + 1, 0, none⟩)) ∧
    w' = (w.alloc (.cells #[.func (.func f) b c, .string ⟨#[]⟩, .string ⟨#[]⟩, .bool false, .bool false, .bool false] 63)).alloc (.cells #[.func (.func 35) #[.pointer (some ⟨w.heap.size, 0, none⟩)] #[], .func (.func 36) #[.pointer (some ⟨w.heap.size, 0, none⟩)] #[], .int .i64 0] 58) := by
  have hfn := fn_look f b c
  go_enter Try.func23, Try.ntmps23
  go_wp2_with fail
  go_ret
  exact ⟨by simp, rfl⟩
/-- The program's From, of a function that is there. -/
theorem merge_From {f : Nat} {b0 c0 : Array Value} {n0 : Nat} {G : Nat → Prop} {N : List Ent → Int → World → Prop} (hR : Raw f b0 c0 n0 G N) {R : List Ent} {e : Int} {w : World} (hN : N R e w) :
    Calls Try.prog 23 #[.func (.func f) b0 c0] w (GotC w G (toldP e none R).1 (toldP e none R).2) := by
  refine (from_run f b0 c0 w).mono ?_
  rintro en w' ⟨rfl, hw⟩
  obtain ⟨w1, hw1⟩ : ∃ w1, w1 = w.alloc (.cells #[.func (.func f) b0 c0, .string ⟨#[]⟩, .string ⟨#[]⟩, .bool false, .bool false, .bool false] 63) := ⟨_, rfl⟩
  have K1 : Below w.heap.size w w1 := by rw [hw1]; exact (Below.refl _ _).alloc (Nat.le_refl _) _
  have hs1 : w1.heap.size = w.heap.size + 1 := by rw [hw1]; simp
  have Q1 : Row6 w.heap.size (.func (.func f) b0 c0) noEnt false false w1 := by rw [hw1]; exact heap_new w _
  rw [← hw1] at hw
  have K2 : Below w1.heap.size w1 w' := by rw [hw]; exact (Below.refl _ _).alloc (Nat.le_refl _) _
  have C2 : C3 w1.heap.size 58 (.func (.func 35) #[.pointer (some ⟨w.heap.size, 0, none⟩)] #[]) (.func (.func 36) #[.pointer (some ⟨w.heap.size, 0, none⟩)] #[]) (.int .i64 0) w' := by rw [hw]; exact heap_new w1 _
  have hs2 : w'.heap.size = w.heap.size + 2 := by rw [hw]; simp [hs1]
  have Q2 := Q1.below K2
  have N2 := hR.below (hR.below hN K1) K2
  have hG : ∀ k, G k → k < w.heap.size := fun k h => Nat.lt_of_lt_of_le (hR.low k h) (hR.size _ _ _ hN)
  have hS := src_row hR (r := w.heap.size) (n := w.heap.size + 2) (Nat.le_trans (hR.size _ _ _ hN) (by omega)) (by omega) (fun h => Nat.lt_irrefl _ (hG _ h))
  have hC := cur_over hS (c := w.heap.size + 1) (n := w.heap.size + 2) (Nat.le_refl _) (by omega) (by
    rintro (h | h)
    · have := hG _ h; omega
    · omega)
  refine ⟨⟨_, _, _, _, hC⟩, rfl, ⟨_, rfl⟩, .inl ⟨by omega, by rw [← hs1]; exact C2, ⟨by omega, noEnt, false, false, Q2, .inr (.inr ⟨rfl, rfl, R, e, N2, rfl⟩)⟩, fun h => by cases h⟩, ?_, K1.trans (K2.mono K1.size)⟩
  rintro k ((h | h) | h)
  · exact .inl h
  · exact .inr (by omega)
  · exact .inr (by omega)
set_option maxHeartbeats 1000000 in
theorem none_peek (c : Nat) (w : World) (h : Hid (C3 c 58 .nilFunc .nilFunc (.int .i64 0) w)) :
    Calls Try.prog 29 #[.pointer (some ⟨c, 0, none⟩)] w fun en w' => Ans [] 0 en ∧ Below w.heap.size w w' := by
  obtain ⟨w1, hw1⟩ : ∃ w1, w1 = w.alloc (.cells #[.string ⟨#[]⟩, .string ⟨#[]⟩, .bool false] 32) := ⟨_, rfl⟩
  have K1 := Lib.hid (show Below w.heap.size w w1 by rw [hw1]; exact (Below.refl _ _).alloc (Nat.le_refl _) _)
  have R1 := Lib.hid (show C3 w.heap.size 32 (.string ⟨#[]⟩) (.string ⟨#[]⟩) (.bool false) w1 by rw [hw1]; exact heap_new w _)
  have C1 := Lib.hid (h.out.below K1.out)
  have HW1 := Lib.hid hw1
  have x0 := C1.out.c0
  have x2 := C1.out.c2
  have d0 := R1.out.c0
  have d1 := R1.out.c1
  have d2 := R1.out.c2
  have df := R1.out.free
  have hfn : ∀ w, (binOp .eql 47 .nilFunc .nilFunc).run Try.prog w = .ok (.bool true) w := fun w => by kernel_rfl
  have hcz := Lib.hid (show c ≠ w.heap.size from Nat.ne_of_lt (heap_lt h.out))
  have x3 : (((w1.setCell ⟨w.heap.size, 0, none⟩ (.string ⟨#[]⟩)).setCell ⟨w.heap.size, 1, none⟩ (.string ⟨#[]⟩)).setCell ⟨w.heap.size, 2, none⟩ (.bool false)).cell? ⟨c, 2, none⟩ = some (.int .i64 0) := cell_same x2 (put3_other _ _ _ c hcz.out)
  have x4 : (((w1.setCell ⟨w.heap.size, 0, none⟩ (.string ⟨#[]⟩)).setCell ⟨w.heap.size, 1, none⟩ (.string ⟨#[]⟩)).setCell ⟨w.heap.size, 2, none⟩ (.bool false)).drew.cell? ⟨c, 2, none⟩ = some (.int .i64 0) := x3
  have x5 : (((w1.drew.setCell ⟨w.heap.size, 0, none⟩ (.string ⟨#[]⟩)).setCell ⟨w.heap.size, 1, none⟩ (.string ⟨#[]⟩)).setCell ⟨w.heap.size, 2, none⟩ (.bool false)).cell? ⟨c, 2, none⟩ = some (.int .i64 0) := by rw [← set3_drew]; exact x3
  have d0' : w1.drew.cell? ⟨w.heap.size, 0, none⟩ = some (.string ⟨#[]⟩) := d0
  have d1' : w1.drew.cell? ⟨w.heap.size, 1, none⟩ = some (.string ⟨#[]⟩) := d1
  have d2' : w1.drew.cell? ⟨w.heap.size, 2, none⟩ = some (.bool false) := d2
  have df' : ∀ j, w1.drew.frozen? ⟨w.heap.size, j, none⟩ = false := df
  clear hw1
  go_enter Try.func29, Try.ntmps29
  go_upto_region 1 with (fail)
  rw [← HW1.out]
  go_wp2_with fail
  go_region
  all_goals
    go_wp2_with fail
    simp only [set3_drew]
    have R2 : C3 w.heap.size 32 (.string ⟨#[]⟩) (.string ⟨#[]⟩) (.bool false) w1.drew := R1.out
    refine bodyPost_ret (results_c3b rfl _ _ w.heap.size _ _ _ _ _ _ rfl rfl rfl (R2.put _ _ _) Try.underlying32 rfl sizeEnt) rfl ?_
    exact ⟨Ans.ends 0, below_put3' (Below.drew K1.out) (Nat.le_refl _) _ _ _⟩
theorem none_pass (c : Nat) (w : World) (key : List UInt8) (h : w.cell? ⟨c, 1, none⟩ = some .nilFunc) :
    Calls Try.prog 30 #[.pointer (some ⟨c, 0, none⟩), .string (bs key)] w fun en w' => en = .returned (.tuple #[]) ∧ w = w' := by
  have hfn : ∀ w, (binOp .neq 56 .nilFunc .nilFunc).run Try.prog w = .ok (.bool false) w := fun w => by kernel_rfl
  go_enter Try.func30, Try.ntmps30
  go_wp2_with fail
  go_end0
  exact ⟨rfl, rfl⟩
/-- A cursor that tells nothing. -/
theorem cur_none (c n : Nat) (hc : c < n) : Cur (.pointer (some ⟨c, 0, none⟩)) n (fun k => k = c) (fun l e b w => l = [] ∧ e = 0 ∧ n ≤ w.heap.size ∧ C3 c 58 .nilFunc .nilFunc (.int .i64 0) w) where
  low := fun k h => by omega
  size := fun l e b w h => h.2.2.1
  keep := fun l e b w w' ⟨h1, h2, h3, h4⟩ hs k => ⟨h1, h2, Nat.le_trans h3 hs, (k c rfl).trans h4⟩
  weak := fun l e w h => h
  peek := fun l e b w ⟨h1, h2, h3, h4⟩ => by
    subst h1 h2
    exact (none_peek c w (Lib.hid h4)).mono fun en w' ⟨a, b⟩ => ⟨a, ⟨rfl, rfl, Nat.le_trans h3 b.size, h4.below b⟩, Only.of_below' b rfl⟩
  pass := fun l e w key ⟨h1, h2, h3, h4⟩ _ => by
    subst h1 h2
    exact (none_pass c w key h4.c1).mono fun en w' ⟨a, b⟩ => ⟨a, b ▸ ⟨rfl, rfl, h3, h4⟩, b ▸ Only.refl _ _⟩
theorem from_nil (w : World) : Calls Try.prog 23 #[.nilFunc] w fun en w' => en = .returned (.pointer (some ⟨w.heap.size, 0, none⟩)) ∧ w' = w.alloc (.cells #[.nilFunc, .nilFunc, .int .i64 0] 58) := by
  have hfn : ∀ w, (binOp .eql 47 .nilFunc .nilFunc).run Try.prog w = .ok (.bool true) w := fun w => by kernel_rfl
  go_enter Try.func23, Try.ntmps23
  go_wp2_with fail
  go_ret
  exact ⟨rfl, rfl⟩
theorem merge_From_nil (w : World) : Calls Try.prog 23 #[.nilFunc] w (GotC w (fun _ => False) [] 0) := by
  refine (from_nil w).mono ?_
  rintro en w' ⟨rfl, hw⟩
  refine ⟨⟨_, _, _, _, cur_none w.heap.size (w.heap.size + 1) (by omega)⟩, rfl, ⟨_, rfl⟩, ⟨rfl, rfl, by rw [hw]; simp, by rw [hw]; exact heap_new w _⟩, fun k h => .inr (by omega), by rw [hw]; exact (Below.refl _ _).alloc (Nat.le_refl _) _⟩
theorem nil_peek (w : World) : Calls Try.prog 29 #[.pointer none] w fun en w' => Ans [] 0 en ∧ Below w.heap.size w w' := by
  obtain ⟨w1, hw1⟩ : ∃ w1, w1 = w.alloc (.cells #[.string ⟨#[]⟩, .string ⟨#[]⟩, .bool false] 32) := ⟨_, rfl⟩
  have K1 := Lib.hid (show Below w.heap.size w w1 by rw [hw1]; exact (Below.refl _ _).alloc (Nat.le_refl _) _)
  have R1 := Lib.hid (show C3 w.heap.size 32 (.string ⟨#[]⟩) (.string ⟨#[]⟩) (.bool false) w1 by rw [hw1]; exact heap_new w _)
  have HW1 := Lib.hid hw1
  have d0 := R1.out.c0
  have d1 := R1.out.c1
  have d2 := R1.out.c2
  have df := R1.out.free
  clear hw1
  go_enter Try.func29, Try.ntmps29
  go_upto_region 1 with (fail)
  rw [← HW1.out]
  go_wp2_with fail
  refine bodyPost_ret (results_c3b rfl _ _ w.heap.size _ _ _ _ _ _ rfl rfl rfl (R1.out.put _ _ _) Try.underlying32 rfl sizeEnt) rfl ?_
  exact ⟨Ans.ends 0, below_put3' K1.out (Nat.le_refl _) _ _ _⟩
theorem nil_pass (w : World) (key : List UInt8) : Calls Try.prog 30 #[.pointer none, .string (bs key)] w fun en w' => en = .returned (.tuple #[]) ∧ w = w' := by
  go_enter Try.func30, Try.ntmps30
  go_wp2_with fail
  go_end0
  exact ⟨rfl, rfl⟩
/-- The nil cursor. -/
theorem cur_nil : Cur (.pointer none) 0 (fun _ => False) (fun l e b w => l = [] ∧ e = 0) where
  low := fun k h => h.elim
  size := fun l e b w h => Nat.zero_le _
  keep := fun l e b w w' h hs k => h
  weak := fun l e w h => h
  peek := fun l e b w ⟨h1, h2⟩ => by
    subst h1 h2
    exact (nil_peek w).mono fun en w' ⟨a, b⟩ => ⟨a, ⟨rfl, rfl⟩, Only.of_below' b rfl⟩
  pass := fun l e w key ⟨h1, h2⟩ _ => by
    subst h1 h2
    exact (nil_pass w key).mono fun en w' ⟨a, b⟩ => ⟨a, ⟨rfl, rfl⟩, b ▸ Only.refl _ _⟩
def cuNil : Cu := ⟨_, _, _, _, cur_nil⟩
/-- The program's Live. -/
theorem live_run (v : Value) (hv : ∃ a, v = .pointer a) (w : World) : Calls Try.prog 14 #[v] w fun en w' => en = .returned (.pointer (some ⟨w.heap.size + 1, 0, none⟩)) ∧
    w' = (w.alloc (.cells #[v] 29)).alloc (.cells #[.func (.func 28) #[] #[.pointer (some ⟨w.heap.size, 0, none⟩)], .func (.func 30) #[v] #[], .int .i64 0] 58) := by
  obtain ⟨a, rfl⟩ := hv
  go_enter Try.func14, Try.ntmps14
  go_wp2_with fail
  go_ret
  exact ⟨by simp, rfl⟩
theorem merge_Live (c : Cu) (hv : ∃ a, c.v = .pointer a) {l : List Ent} {e : Int} {w : World} (hI : c.I l e false w) : Calls Try.prog 14 #[c.v] w (GotC w c.F (liveL l) e) := by
  refine (live_run c.v hv w).mono ?_
  rintro en w' ⟨rfl, hw⟩
  obtain ⟨w1, hw1⟩ : ∃ w1, w1 = w.alloc (.cells #[c.v] 29) := ⟨_, rfl⟩
  have K1 : Below w.heap.size w w1 := by rw [hw1]; exact (Below.refl _ _).alloc (Nat.le_refl _) _
  have hs1 : w1.heap.size = w.heap.size + 1 := by rw [hw1]; simp
  have Q1 : BxP w.heap.size c.v w1 := by rw [hw1]; exact heap_new w _
  rw [← hw1] at hw
  have K2 : Below w1.heap.size w1 w' := by rw [hw]; exact (Below.refl _ _).alloc (Nat.le_refl _) _
  have C2 : C3 w1.heap.size 58 (.func (.func 28) #[] #[.pointer (some ⟨w.heap.size, 0, none⟩)]) (.func (.func 30) #[c.v] #[]) (.int .i64 0) w' := by rw [hw]; exact heap_new w1 _
  have hs2 : w'.heap.size = w.heap.size + 2 := by rw [hw]; simp [hs1]
  have Q2 : BxP w.heap.size c.v w' := (K2.block _ (heap_lt Q1)).trans Q1
  have I2 := c.ok.below (c.ok.below hI K1) K2
  have hF : ∀ k, c.F k → k < w.heap.size := fun k h => Nat.lt_of_lt_of_le (c.ok.low k h) (c.ok.size _ _ _ _ hI)
  have hS := src_live (q := w.heap.size) (n := w.heap.size + 2) (c := c) (fun h => Nat.lt_irrefl _ (hF _ h)) (by omega) (Nat.le_trans (c.ok.size _ _ _ _ hI) (by omega))
  have hC := cur_over hS (c := w.heap.size + 1) (n := w.heap.size + 2) (Nat.le_refl _) (by omega) (by
    rintro (h | h)
    · have := hF _ h; omega
    · omega)
  refine ⟨⟨_, _, _, _, hC⟩, rfl, ⟨_, rfl⟩, .inl ⟨by omega, by rw [← hs1]; exact C2, ⟨by omega, Q2, l, I2, rfl, fun h => by cases h⟩, fun h => by cases h⟩, ?_, K1.trans (K2.mono K1.size)⟩
  rintro k ((h | h) | h)
  · exact .inl h
  · exact .inr (by omega)
  · exact .inr (by omega)
/-- The program's Merge. -/
theorem merge_run (a : Option Addr) (len cap g : Nat) (cs : List Cu) (w : World) (hp : Hid (∀ c ∈ cs, ∃ a, c.v = .pointer a)) (h : Hid (IsC w g a len cs)) (hl : len ≤ 100000) :
    Calls Try.prog 18 #[.slice a len cap] w fun en w' => ∃ w1 v, OwnC w1 w.heap.size v cs ∧ Below w.heap.size w w1 ∧ en = .returned (.pointer (some ⟨w1.heap.size + 1, 0, none⟩)) ∧
      w' = (w1.alloc (.cells #[v] 39)).alloc (.cells #[.func (.func 32) #[] #[.pointer (some ⟨w1.heap.size, 0, none⟩)], .func (.func 34) #[] #[.pointer (some ⟨w1.heap.size, 0, none⟩)], .int .i64 0] 58) := by
  go_enter Try.func18, Try.ntmps18
  go_wp2_with fail
  refine (clone_curs a len cap g cs w hp h (by omega)).mono ?_
  rintro en w1 ⟨⟨v, rfl, hO⟩, k1⟩
  obtain ⟨a1, cap1, rfl⟩ := hO.slice
  have HO := Lib.hid hO
  have K1 := Lib.hid k1
  clear hO k1
  go_wp2_with fail
  go_ret
  exact ⟨w1, _, HO.out, K1.out, by simp, rfl⟩
theorem merge_Merge (a : Option Addr) (len cap g : Nat) (cs : List Cu) (ss : List (List Ent × Int)) (w : World) (hp : ∀ c ∈ cs, ∃ a, c.v = .pointer a) (h : IsC w g a len cs) (hl : len ≤ 100000) (hA : Apart cs) (hH : Have cs ss 0 false w) :
    Calls Try.prog 18 #[.slice a len cap] w (GotC w (FAll cs) (mergeP ss).1 (mergeP ss).2) := by
  refine (merge_run a len cap g cs w (Lib.hid hp) (Lib.hid h) hl).mono ?_
  rintro en w' ⟨w1, v, hO, k1, rfl, hw⟩
  obtain ⟨a1, cap1, rfl⟩ := hO.slice
  obtain ⟨w2, hw2⟩ : ∃ w2, w2 = w1.alloc (.cells #[.slice a1 cs.length cap1] 39) := ⟨_, rfl⟩
  have K2 : Below w1.heap.size w1 w2 := by rw [hw2]; exact (Below.refl _ _).alloc (Nat.le_refl _) _
  have hs2 : w2.heap.size = w1.heap.size + 1 := by rw [hw2]; simp
  have Q2 : BxC w1.heap.size (.slice a1 cs.length cap1) w2 := by rw [hw2]; exact heap_new w1 _
  have O2 : OwnC w2 w.heap.size (.slice a1 cs.length cap1) cs := by rw [hw2]; exact OffRow.allocd (n := cs.length) hO _
  rw [← hw2] at hw
  have K3 : Below w2.heap.size w2 w' := by rw [hw]; exact (Below.refl _ _).alloc (Nat.le_refl _) _
  have C3' : C3 w2.heap.size 58 (.func (.func 32) #[] #[.pointer (some ⟨w1.heap.size, 0, none⟩)]) (.func (.func 34) #[] #[.pointer (some ⟨w1.heap.size, 0, none⟩)]) (.int .i64 0) w' := by rw [hw]; exact heap_new w2 _
  have hs3 : w'.heap.size = w1.heap.size + 2 := by rw [hw]; simp [hs2]
  have Q3 : BxC w1.heap.size (.slice a1 cs.length cap1) w' := (K3.block _ (heap_lt Q2)).trans Q2
  obtain ⟨g2, hg2, _, hI2⟩ := O2.is rfl (heap_lt Q2)
  have on3 : Only (fun _ => False) w2 w' := Only.of_below' K3 rfl
  have hI3 := hI2.only on3 fun h => h
  have hH3 : Have cs ss 0 false w' := hH.only (S := fun _ => False) ((Only.of_below' k1 rfl).trans ((Only.of_below' K2 rfl).trans on3)) fun _ _ h => h
  have hF : ∀ k, FAll cs k → k < w.heap.size := fall_lt hH
  have h1 := k1.size
  have hS := src_merge (p := w1.heap.size) (g := g2) (n := w1.heap.size + 2) (cs := cs) hA (fun h => by have := hF _ h; omega) (fun h => by have := hF _ h; omega) (by rw [← h.1]; exact hl)
    (fun c hc => by
      obtain ⟨i, hi⟩ := List.getElem?_of_mem hc
      obtain ⟨s, hs⟩ : ∃ s, ss[i]? = some s := ⟨_, List.getElem?_eq_getElem (by rw [hH.1]; exact (List.getElem?_eq_some_iff.1 hi).1)⟩
      have := c.ok.size _ _ _ _ (hH.2 i c s hi hs)
      omega) (by omega) (by have := hI2.2.1; omega)
  have hC := cur_over hS (c := w2.heap.size) (n := w1.heap.size + 2) (Nat.le_refl _) (by omega) (by
    rintro (h | h | h)
    · have := hF _ h; omega
    · omega
    · have := hI2.2.1; omega)
  refine ⟨⟨_, _, _, _, hC⟩, by rw [← hs2], ⟨_, rfl⟩, .inl ⟨by omega, C3', ⟨by omega, ⟨_, _, _, Q3, hI3⟩, .inr ⟨ss, hH3, rfl⟩⟩, fun h => by cases h⟩, ?_, k1.trans ((K2.trans (K3.mono K2.size)).mono h1)⟩
  rintro k ((h | h | h) | h)
  · exact .inl h
  · exact .inr (by omega)
  · exact .inr (by omega)
  · exact .inr (by omega)
end Go.Proofs.Ytbjokbnmfbfkjaa
