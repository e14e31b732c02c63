/- A tree (of int values) made even where one side is higher by two. -/
import Derived.Test.YtbmihajbdobgbaaMemOverI
import Derived.Test.YtbmihajbdobgbaaMemEvenPlain
import Derived.Deep.RegionHeld3
set_option linter.unusedVariables false
set_option maxRecDepth 100000
namespace Go.Proofs.Ytbmihajbdobgbaa.MI
open Go.RowKit

theorem over_at {b : Nat} {k : List UInt8} {x : Int} {l r : Tr Int} {w y : World} (K : Below w.heap.size w y) (h0 : w.cell? ⟨b, 0, none⟩ = some (.string (bs k))) (h1 : w.cell? ⟨b, 1, none⟩ = some (.int .i64 x))
    (hl : In w.heap.size w l) (hr : In w.heap.size w r) (hs : l.sz + r.sz ≤ 1000000) : Calls Try.prog 41 #[.pointer (some ⟨b, 0, none⟩), l.ptr, r.ptr] y fun e w' => OverPost k x l r y e w' :=
  over (by rw [K.cell (cell_block h0)]; exact h0) (by rw [K.cell (cell_block h1)]; exact h1) (Lib.hid (hl.seen K)) (Lib.hid (hr.seen K)) hs

set_option maxHeartbeats 1000000 in
theorem even_ll {b lb : Nat} {k lk : List UInt8} {x lx : Int} {ll lr r : Tr Int} {w : World} (c0 : Hid (w.cell? ⟨b, 0, none⟩ = some (.string (bs k)))) (c1 : Hid (w.cell? ⟨b, 1, none⟩ = some (.int .i64 x)))
    (hh : Hid (In w.heap.size w (Tr.node lb lk lx ll lr))) (ho : Hid (In w.heap.size w r)) (ht : Hid (r.ht + 1 < (Tr.node lb lk lx ll lr).ht)) (h3 : Hid (lr.ht ≤ ll.ht)) (hs : Hid ((Tr.node lb lk lx ll lr).sz + r.sz ≤ 900000)) :
    Calls Try.prog 38 #[.pointer (some ⟨b, 0, none⟩), (Tr.node lb lk lx ll lr).ptr, r.ptr] w fun e w' => ∃ a c, e = .returned (.pointer (some ⟨c, 0, none⟩)) ∧ In w'.heap.size w' (.node c lk lx ll (.node a k x lr r)) ∧ Below w.heap.size w w' := by
  obtain ⟨po, hpo⟩ := r.ptr_is
  obtain ⟨px, hpx⟩ := ll.ptr_is
  obtain ⟨pn, hpn⟩ := lr.ptr_is
  have H1 := Lib.hid (show Calls Try.prog 28 #[.pointer (some ⟨lb, 0, none⟩)] w fun e w' => e = .returned (.int .i64 ((Tr.node lb lk lx ll lr).ht : Int)) ∧ w' = w from high hh.out)
  have H2 := Lib.hid (high ho.out)
  have H3 := fun n => Lib.hid (seen_high (Lib.hid hh.out.left) n)
  have H4 := fun n => Lib.hid (seen_high (Lib.hid hh.out.right) n)
  have e1 := (Tr.node lb lk lx ll lr).ht_le
  have e2 := r.ht_le
  have e3 := hs.out
  obtain ⟨a1, ha1⟩ : ∃ a : Nat, a = (Tr.node lb lk lx ll lr).ht := ⟨_, rfl⟩
  obtain ⟨a2, ha2⟩ : ∃ a : Nat, a = r.ht := ⟨_, rfl⟩
  obtain ⟨a3, ha3⟩ : ∃ a : Nat, a = ll.ht := ⟨_, rfl⟩
  obtain ⟨a4, ha4⟩ : ∃ a : Nat, a = lr.ht := ⟨_, rfl⟩
  have g1 : (a2 : Int) + 1 < (a1 : Int) := by have := ht.out; omega
  have g2 : (a4 : Int) ≤ (a3 : Int) := by have := h3.out; omega
  have g3 : a2 ≤ 900000 := by omega
  have g4 : a1 ≤ 900000 := by omega
  rw [← ha1] at H1
  rw [hpo, ← ha2] at H2
  rw [hpx, ← ha3] at H3
  rw [hpn, ← ha4] at H4
  have l2 := Lib.hid hh.out.c2
  have l3 := Lib.hid hh.out.c3
  rw [hpx] at l2
  rw [hpn] at l3
  have hlb := Lib.hid (hh.out.lt)
  have n2 : ∀ n : Seen w, n.val.cell? ⟨lb, 2, none⟩ = some (.pointer px) := fun n => by rw [n.below.cell (p := ⟨lb, 2, none⟩) hlb.out]; exact l2.out
  have n3 : ∀ n : Seen w, n.val.cell? ⟨lb, 3, none⟩ = some (.pointer pn) := fun n => by rw [n.below.cell (p := ⟨lb, 3, none⟩) hlb.out]; exact l3.out
  have HKP := Lib.hid (show ∀ y, Below w.heap.size w y → (y.cell? ⟨lb, 2, none⟩ = some (.pointer px) ∧ y.cell? ⟨lb, 3, none⟩ = some (.pointer pn)) from fun y K => ⟨by rw [K.cell (p := ⟨lb, 2, none⟩) hlb.out]; exact l2.out, by rw [K.cell (p := ⟨lb, 3, none⟩) hlb.out]; exact l3.out⟩)
  have HO1 := Lib.hid (show ∀ y, Below w.heap.size w y → Calls Try.prog 41 #[.pointer (some ⟨b, 0, none⟩), .pointer pn, .pointer po] y fun e w' => OverPost k x lr r y e w' from fun y K => by
    rw [← hpn, ← hpo]; exact over_at K c0.out c1.out hh.out.right ho.out (by simp only [Tr.sz] at e3; omega))
  have HO2 := Lib.hid (show ∀ a y, In y.heap.size y (.node a k x lr r) → Below w.heap.size w y → Calls Try.prog 41 #[.pointer (some ⟨lb, 0, none⟩), .pointer px, .pointer (some ⟨a, 0, none⟩)] y fun e w' => OverPost lk lx ll (.node a k x lr r) y e w' from fun a y I K => by
    rw [← hpx]; exact over (by rw [K.cell (p := ⟨lb, 0, none⟩) hlb.out]; exact hh.out.c0) (by rw [K.cell (p := ⟨lb, 1, none⟩) hlb.out]; exact hh.out.c1) (Lib.hid (hh.out.left.seen K)) (Lib.hid I) (by simp only [Tr.sz] at e3 ⊢; omega))
  rw [hpo]
  clear hpo hpx hpn ha1 ha2 ha3 ha4 e1 e2 e3
  show Calls Try.prog 38 #[.pointer (some ⟨b, 0, none⟩), .pointer (some ⟨lb, 0, none⟩), .pointer po] w _
  go_enter Try.func38, Try.ntmps38
  go_wp2_with (first | (go_at_call 28; (with_reducible refine H1.out.mono ?_); rintro e w ⟨rfl, rfl⟩) | (go_at_call 28; (with_reducible refine H2.out.mono ?_); rintro e w ⟨rfl, rfl⟩))
  refine region_seen (by kernel_rfl) (by kernel_rfl) ?_
  repeat go_big_quiet_step (first | (go_at_call 28; with_reducible exact (H3 _).out) | (go_at_call 28; with_reducible exact (H4 _).out))
  refine wpQuiet_nil ?_
  rintro _ ⟨m1, rfl⟩
  have K0 := Lib.hid m1.below
  have B0 := Lib.hid (show Below w.heap.size w m1.val.drew from m1.below.drew)
  generalize m1.val = y0 at *
  clear n2 n3 H1 H2 H3 H4
  go_wp2_with fail
  go_region_held3 (fun w' => w'.cell? ⟨lb, 2, none⟩ = some (.pointer px) ∧ w'.cell? ⟨lb, 3, none⟩ = some (.pointer pn))
    (first | exact HKP.out _ B0.out | exact HKP.out _ B1.out | exact HKP.out _ B2.out)
    (first
    | (go_at_call 41; (with_reducible refine (HO1.out _ B0.out).mono ?_); rintro e y1 ⟨na, rfl, IA, BA⟩; have B1 := Lib.hid (B0.out.trans (BA.mono B0.out.size)); have hc := Lib.hid (HO2.out na y1 IA B1.out); clear BA)
    | (go_at_call 41; (with_reducible refine hc.out.mono ?_); rintro e y2 ⟨nc, rfl, IC, BC⟩; have B2 := Lib.hid (B1.out.trans (BC.mono B1.out.size))))
  go_wp2_with fail
  go_ret
  exact ⟨na, nc, rfl, IC, B2.out⟩
set_option maxHeartbeats 1000000 in
theorem even_rr {b rb : Nat} {k rk : List UInt8} {x rx : Int} {rr rl l : Tr Int} {w : World} (c0 : Hid (w.cell? ⟨b, 0, none⟩ = some (.string (bs k)))) (c1 : Hid (w.cell? ⟨b, 1, none⟩ = some (.int .i64 x)))
    (hh : Hid (In w.heap.size w (Tr.node rb rk rx rl rr))) (ho : Hid (In w.heap.size w l)) (ht : Hid (l.ht + 1 < (Tr.node rb rk rx rl rr).ht)) (h3 : Hid (rl.ht ≤ rr.ht)) (hs : Hid ((Tr.node rb rk rx rl rr).sz + l.sz ≤ 900000)) :
    Calls Try.prog 38 #[.pointer (some ⟨b, 0, none⟩), l.ptr, (Tr.node rb rk rx rl rr).ptr] w fun e w' => ∃ a c, e = .returned (.pointer (some ⟨c, 0, none⟩)) ∧ In w'.heap.size w' (.node c rk rx (.node a k x l rl) rr) ∧ Below w.heap.size w w' := by
  obtain ⟨po, hpo⟩ := l.ptr_is
  obtain ⟨px, hpx⟩ := rr.ptr_is
  obtain ⟨pn, hpn⟩ := rl.ptr_is
  have H1 := Lib.hid (show Calls Try.prog 28 #[.pointer (some ⟨rb, 0, none⟩)] w fun e w' => e = .returned (.int .i64 ((Tr.node rb rk rx rl rr).ht : Int)) ∧ w' = w from high hh.out)
  have H2 := Lib.hid (high ho.out)
  have H3 := fun n => Lib.hid (seen_high (Lib.hid hh.out.right) n)
  have H4 := fun n => Lib.hid (seen_high (Lib.hid hh.out.left) n)
  have e1 := (Tr.node rb rk rx rl rr).ht_le
  have e2 := l.ht_le
  have e3 := hs.out
  obtain ⟨a1, ha1⟩ : ∃ a : Nat, a = (Tr.node rb rk rx rl rr).ht := ⟨_, rfl⟩
  obtain ⟨a2, ha2⟩ : ∃ a : Nat, a = l.ht := ⟨_, rfl⟩
  obtain ⟨a3, ha3⟩ : ∃ a : Nat, a = rr.ht := ⟨_, rfl⟩
  obtain ⟨a4, ha4⟩ : ∃ a : Nat, a = rl.ht := ⟨_, rfl⟩
  have g1 : (a2 : Int) + 1 < (a1 : Int) := by have := ht.out; omega
  have g2 : (a4 : Int) ≤ (a3 : Int) := by have := h3.out; omega
  have g3 : a2 ≤ 900000 := by omega
  have g4 : a1 ≤ 900000 := by omega
  rw [← ha1] at H1
  rw [hpo, ← ha2] at H2
  rw [hpx, ← ha3] at H3
  rw [hpn, ← ha4] at H4
  have l2 := Lib.hid hh.out.c3
  have l3 := Lib.hid hh.out.c2
  rw [hpx] at l2
  rw [hpn] at l3
  have hlb := Lib.hid (hh.out.lt)
  have n2 : ∀ n : Seen w, n.val.cell? ⟨rb, 3, none⟩ = some (.pointer px) := fun n => by rw [n.below.cell (p := ⟨rb, 3, none⟩) hlb.out]; exact l2.out
  have n3 : ∀ n : Seen w, n.val.cell? ⟨rb, 2, none⟩ = some (.pointer pn) := fun n => by rw [n.below.cell (p := ⟨rb, 2, none⟩) hlb.out]; exact l3.out
  have HKP := Lib.hid (show ∀ y, Below w.heap.size w y → (y.cell? ⟨rb, 2, none⟩ = some (.pointer pn) ∧ y.cell? ⟨rb, 3, none⟩ = some (.pointer px)) from fun y K => ⟨by rw [K.cell (p := ⟨rb, 2, none⟩) hlb.out]; exact l3.out, by rw [K.cell (p := ⟨rb, 3, none⟩) hlb.out]; exact l2.out⟩)
  have HO1 := Lib.hid (show ∀ y, Below w.heap.size w y → Calls Try.prog 41 #[.pointer (some ⟨b, 0, none⟩), .pointer po, .pointer pn] y fun e w' => OverPost k x l rl y e w' from fun y K => by
    rw [← hpn, ← hpo]; exact over_at K c0.out c1.out ho.out hh.out.left (by simp only [Tr.sz] at e3; omega))
  have HO2 := Lib.hid (show ∀ a y, In y.heap.size y (.node a k x l rl) → Below w.heap.size w y → Calls Try.prog 41 #[.pointer (some ⟨rb, 0, none⟩), .pointer (some ⟨a, 0, none⟩), .pointer px] y fun e w' => OverPost rk rx (.node a k x l rl) rr y e w' from fun a y I K => by
    rw [← hpx]; exact over (by rw [K.cell (p := ⟨rb, 0, none⟩) hlb.out]; exact hh.out.c0) (by rw [K.cell (p := ⟨rb, 1, none⟩) hlb.out]; exact hh.out.c1) (Lib.hid I) (Lib.hid (hh.out.right.seen K)) (by simp only [Tr.sz] at e3 ⊢; omega))
  rw [hpo]
  clear hpo hpx hpn ha1 ha2 ha3 ha4 e1 e2 e3
  show Calls Try.prog 38 #[.pointer (some ⟨b, 0, none⟩), .pointer po, .pointer (some ⟨rb, 0, none⟩)] w _
  go_enter Try.func38, Try.ntmps38
  go_wp2_with (first | (go_at_call 28; (with_reducible refine H1.out.mono ?_); rintro e w ⟨rfl, rfl⟩) | (go_at_call 28; (with_reducible refine H2.out.mono ?_); rintro e w ⟨rfl, rfl⟩))
  refine region_seen (by kernel_rfl) (by kernel_rfl) ?_
  repeat go_big_quiet_step (first | (go_at_call 28; with_reducible exact (H3 _).out) | (go_at_call 28; with_reducible exact (H4 _).out))
  refine wpQuiet_nil ?_
  rintro _ ⟨m1, rfl⟩
  have K0 := Lib.hid m1.below
  have B0 := Lib.hid (show Below w.heap.size w m1.val.drew from m1.below.drew)
  generalize m1.val = y0 at *
  clear n2 n3 H1 H2 H3 H4
  go_wp2_with fail
  go_region_held3 (fun w' => w'.cell? ⟨rb, 2, none⟩ = some (.pointer pn) ∧ w'.cell? ⟨rb, 3, none⟩ = some (.pointer px))
    (first | exact HKP.out _ B0.out | exact HKP.out _ B1.out | exact HKP.out _ B2.out)
    (first
    | (go_at_call 41; (with_reducible refine (HO1.out _ B0.out).mono ?_); rintro e y1 ⟨na, rfl, IA, BA⟩; have B1 := Lib.hid (B0.out.trans (BA.mono B0.out.size)); have hc := Lib.hid (HO2.out na y1 IA B1.out); clear BA)
    | (go_at_call 41; (with_reducible refine hc.out.mono ?_); rintro e y2 ⟨nc, rfl, IC, BC⟩; have B2 := Lib.hid (B1.out.trans (BC.mono B1.out.size))))
  go_wp2_with fail
  go_ret
  exact ⟨na, nc, rfl, IC, B2.out⟩
set_option maxHeartbeats 1000000 in
theorem even_lr {b lb mb : Nat} {k lk mk : List UInt8} {x lx mx : Int} {ll ml mr r : Tr Int} {w : World} (c0 : Hid (w.cell? ⟨b, 0, none⟩ = some (.string (bs k)))) (c1 : Hid (w.cell? ⟨b, 1, none⟩ = some (.int .i64 x)))
    (hh : Hid (In w.heap.size w (Tr.node lb lk lx ll (Tr.node mb mk mx ml mr)))) (ho : Hid (In w.heap.size w r)) (ht : Hid (r.ht + 1 < (Tr.node lb lk lx ll (Tr.node mb mk mx ml mr)).ht)) (h3 : Hid (ll.ht < (Tr.node mb mk mx ml mr).ht)) (hs : Hid ((Tr.node lb lk lx ll (Tr.node mb mk mx ml mr)).sz + r.sz ≤ 900000)) :
    Calls Try.prog 38 #[.pointer (some ⟨b, 0, none⟩), (Tr.node lb lk lx ll (Tr.node mb mk mx ml mr)).ptr, r.ptr] w fun e w' => ∃ a d c, e = .returned (.pointer (some ⟨c, 0, none⟩)) ∧ In w'.heap.size w' (.node c mk mx (.node a lk lx ll ml) (.node d k x mr r)) ∧ Below w.heap.size w w' := by
  obtain ⟨po, hpo⟩ := r.ptr_is
  obtain ⟨px, hpx⟩ := ll.ptr_is
  obtain ⟨p1, hp1⟩ := ml.ptr_is
  obtain ⟨p2, hp2⟩ := mr.ptr_is
  have H1 := Lib.hid (show Calls Try.prog 28 #[.pointer (some ⟨lb, 0, none⟩)] w fun e w' => e = .returned (.int .i64 ((Tr.node lb lk lx ll (Tr.node mb mk mx ml mr)).ht : Int)) ∧ w' = w from high hh.out)
  have H2 := Lib.hid (high ho.out)
  have H3 := fun n => Lib.hid (seen_high (Lib.hid hh.out.left) n)
  have H4 := fun n => Lib.hid (show Calls Try.prog 28 #[.pointer (some ⟨mb, 0, none⟩)] (Seen.val n) fun e w'' => e = .returned (.int .i64 ((Tr.node mb mk mx ml mr).ht : Int)) ∧ ∃ m : Seen w, w'' = m.val from seen_high (Lib.hid hh.out.right) n)
  have e1 := (Tr.node lb lk lx ll (Tr.node mb mk mx ml mr)).ht_le
  have e2 := r.ht_le
  have e3 := hs.out
  obtain ⟨a1, ha1⟩ : ∃ a : Nat, a = (Tr.node lb lk lx ll (Tr.node mb mk mx ml mr)).ht := ⟨_, rfl⟩
  obtain ⟨a2, ha2⟩ : ∃ a : Nat, a = r.ht := ⟨_, rfl⟩
  obtain ⟨a3, ha3⟩ : ∃ a : Nat, a = ll.ht := ⟨_, rfl⟩
  obtain ⟨a4, ha4⟩ : ∃ a : Nat, a = (Tr.node mb mk mx ml mr).ht := ⟨_, rfl⟩
  have g1 : (a2 : Int) + 1 < (a1 : Int) := by have := ht.out; omega
  have g2 : (a3 : Int) < (a4 : Int) := by have := h3.out; omega
  have g3 : a2 ≤ 900000 := by omega
  have g4 : a1 ≤ 900000 := by omega
  rw [← ha1] at H1
  rw [hpo, ← ha2] at H2
  rw [hpx, ← ha3] at H3
  rw [← ha4] at H4
  have l2 := Lib.hid hh.out.c2
  have l3 := Lib.hid (show w.cell? ⟨lb, 3, none⟩ = some (.pointer (some ⟨mb, 0, none⟩)) from hh.out.c3)
  rw [hpx] at l2
  have hlb := Lib.hid (hh.out.lt)
  have n2 : ∀ n : Seen w, n.val.cell? ⟨lb, 2, none⟩ = some (.pointer px) := fun n => by rw [n.below.cell (p := ⟨lb, 2, none⟩) hlb.out]; exact l2.out
  have n3 : ∀ n : Seen w, n.val.cell? ⟨lb, 3, none⟩ = some (.pointer (some ⟨mb, 0, none⟩)) := fun n => by rw [n.below.cell (p := ⟨lb, 3, none⟩) hlb.out]; exact l3.out
  have m2 := Lib.hid (hh.out.right.c2)
  have m3 := Lib.hid (hh.out.right.c3)
  rw [hp1] at m2
  rw [hp2] at m3
  have hmb := Lib.hid (hh.out.right.lt)
  have o2 : ∀ n : Seen w, n.val.cell? ⟨lb, 3, none⟩ = some (.pointer (some ⟨mb, 0, none⟩)) := n3
  have HKP := Lib.hid (show ∀ y, Below w.heap.size w y → (y.cell? ⟨lb, 2, none⟩ = some (.pointer px) ∧ y.cell? ⟨mb, 2, none⟩ = some (.pointer p1) ∧ y.cell? ⟨mb, 3, none⟩ = some (.pointer p2)) from fun y K => ⟨by rw [K.cell (p := ⟨lb, 2, none⟩) hlb.out]; exact l2.out, by rw [K.cell (p := ⟨mb, 2, none⟩) hmb.out]; exact m2.out, by rw [K.cell (p := ⟨mb, 3, none⟩) hmb.out]; exact m3.out⟩)
  have HO1 := Lib.hid (show ∀ y, Below w.heap.size w y → Calls Try.prog 41 #[.pointer (some ⟨lb, 0, none⟩), .pointer px, .pointer p1] y fun e w' => OverPost lk lx ll ml y e w' from fun y K => by rw [← hpx, ← hp1]; exact over_at K hh.out.c0 hh.out.c1 hh.out.left hh.out.right.left (by simp only [Tr.sz] at e3; omega))
  have HO2 := Lib.hid (show ∀ y, Below w.heap.size w y → Calls Try.prog 41 #[.pointer (some ⟨b, 0, none⟩), .pointer p2, .pointer po] y fun e w' => OverPost k x mr r y e w' from fun y K => by rw [← hp2, ← hpo]; exact over_at K c0.out c1.out hh.out.right.right ho.out (by simp only [Tr.sz] at e3; omega))
  have HO3 := Lib.hid (show ∀ a d y, In y.heap.size y (.node a lk lx ll ml) → In y.heap.size y (.node d k x mr r) → Below w.heap.size w y → Calls Try.prog 41 #[.pointer (some ⟨mb, 0, none⟩), .pointer (some ⟨a, 0, none⟩), .pointer (some ⟨d, 0, none⟩)] y fun e w' => OverPost mk mx (.node a lk lx ll ml) (.node d k x mr r) y e w' from fun a d y I J K => by
    exact over (by rw [K.cell (p := ⟨mb, 0, none⟩) hmb.out]; exact hh.out.right.c0) (by rw [K.cell (p := ⟨mb, 1, none⟩) hmb.out]; exact hh.out.right.c1) (Lib.hid I) (Lib.hid J) (by simp only [Tr.sz] at e3 ⊢; omega))
  rw [hpo]
  clear hpo hpx hp1 hp2 ha1 ha2 ha3 ha4 e1 e2 e3
  show Calls Try.prog 38 #[.pointer (some ⟨b, 0, none⟩), .pointer (some ⟨lb, 0, none⟩), .pointer po] w _
  go_enter Try.func38, Try.ntmps38
  go_wp2_with (first | (go_at_call 28; (with_reducible refine H1.out.mono ?_); rintro e w ⟨rfl, rfl⟩) | (go_at_call 28; (with_reducible refine H2.out.mono ?_); rintro e w ⟨rfl, rfl⟩))
  refine region_seen (by kernel_rfl) (by kernel_rfl) ?_
  repeat go_big_quiet_step (first | (go_at_call 28; with_reducible exact (H3 _).out) | (go_at_call 28; with_reducible exact (H4 _).out))
  refine wpQuiet_nil ?_
  rintro _ ⟨m1, rfl⟩
  have K0 := Lib.hid m1.below
  have q0 := o2 m1
  have B0 := Lib.hid (show Below w.heap.size w m1.val.drew from m1.below.drew)
  generalize m1.val = y0 at *
  clear n2 n3 H1 H2 H3 H4 o2
  go_wp2_with fail
  go_region_held3 (fun w' => w'.cell? ⟨lb, 2, none⟩ = some (.pointer px) ∧ w'.cell? ⟨mb, 2, none⟩ = some (.pointer p1) ∧ w'.cell? ⟨mb, 3, none⟩ = some (.pointer p2))
    (first | exact HKP.out _ B0.out | exact HKP.out _ B1.out | exact HKP.out _ B2.out | exact HKP.out _ B3.out)
    (first
    | (go_at_call 41; (with_reducible refine hc.out.mono ?_); rintro e y3 ⟨nc, rfl, IC, BC⟩; have B3 := Lib.hid (B2.out.trans (BC.mono B2.out.size)))
    | (go_at_call 41; (with_reducible refine (HO1.out _ B1.out).mono ?_); rintro e y2 ⟨na, rfl, IA, BA⟩; have B2 := Lib.hid (B1.out.trans (BA.mono B1.out.size)); have hc := Lib.hid (HO3.out na nd y2 IA (ID.out.seen BA) B2.out); clear BA)
    | (go_at_call 41; (with_reducible refine (HO2.out _ B1.out).mono ?_); rintro e y2 ⟨nd, rfl, ID, BA⟩; have B2 := Lib.hid (B1.out.trans (BA.mono B1.out.size)); have hc := Lib.hid (HO3.out na nd y2 (IA.out.seen BA) ID B2.out); clear BA)
    | (go_at_call 41; (with_reducible refine (HO1.out _ B0.out).mono ?_); rintro e y1 ⟨na, rfl, IA1, BA⟩; have IA := Lib.hid IA1; have B1 := Lib.hid (B0.out.trans (BA.mono B0.out.size)); clear BA IA1)
    | (go_at_call 41; (with_reducible refine (HO2.out _ B0.out).mono ?_); rintro e y1 ⟨nd, rfl, ID1, BA⟩; have ID := Lib.hid ID1; have B1 := Lib.hid (B0.out.trans (BA.mono B0.out.size)); clear BA ID1))
  all_goals go_wp2_with fail
  all_goals go_ret
  all_goals exact ⟨na, nd, nc, rfl, IC, B3.out⟩
set_option maxHeartbeats 1000000 in
theorem even_rl {b rb mb : Nat} {k rk mk : List UInt8} {x rx mx : Int} {rr ml mr l : Tr Int} {w : World} (c0 : Hid (w.cell? ⟨b, 0, none⟩ = some (.string (bs k)))) (c1 : Hid (w.cell? ⟨b, 1, none⟩ = some (.int .i64 x)))
    (hh : Hid (In w.heap.size w (Tr.node rb rk rx (Tr.node mb mk mx ml mr) rr))) (ho : Hid (In w.heap.size w l)) (ht : Hid (l.ht + 1 < (Tr.node rb rk rx (Tr.node mb mk mx ml mr) rr).ht)) (h3 : Hid (rr.ht < (Tr.node mb mk mx ml mr).ht)) (hs : Hid ((Tr.node rb rk rx (Tr.node mb mk mx ml mr) rr).sz + l.sz ≤ 900000)) :
    Calls Try.prog 38 #[.pointer (some ⟨b, 0, none⟩), l.ptr, (Tr.node rb rk rx (Tr.node mb mk mx ml mr) rr).ptr] w fun e w' => ∃ a d c, e = .returned (.pointer (some ⟨c, 0, none⟩)) ∧ In w'.heap.size w' (.node c mk mx (.node a k x l ml) (.node d rk rx mr rr)) ∧ Below w.heap.size w w' := by
  obtain ⟨po, hpo⟩ := l.ptr_is
  obtain ⟨px, hpx⟩ := rr.ptr_is
  obtain ⟨p1, hp1⟩ := ml.ptr_is
  obtain ⟨p2, hp2⟩ := mr.ptr_is
  have H1 := Lib.hid (show Calls Try.prog 28 #[.pointer (some ⟨rb, 0, none⟩)] w fun e w' => e = .returned (.int .i64 ((Tr.node rb rk rx (Tr.node mb mk mx ml mr) rr).ht : Int)) ∧ w' = w from high hh.out)
  have H2 := Lib.hid (high ho.out)
  have H3 := fun n => Lib.hid (seen_high (Lib.hid hh.out.right) n)
  have H4 := fun n => Lib.hid (show Calls Try.prog 28 #[.pointer (some ⟨mb, 0, none⟩)] (Seen.val n) fun e w'' => e = .returned (.int .i64 ((Tr.node mb mk mx ml mr).ht : Int)) ∧ ∃ m : Seen w, w'' = m.val from seen_high (Lib.hid hh.out.left) n)
  have e1 := (Tr.node rb rk rx (Tr.node mb mk mx ml mr) rr).ht_le
  have e2 := l.ht_le
  have e3 := hs.out
  obtain ⟨a1, ha1⟩ : ∃ a : Nat, a = (Tr.node rb rk rx (Tr.node mb mk mx ml mr) rr).ht := ⟨_, rfl⟩
  obtain ⟨a2, ha2⟩ : ∃ a : Nat, a = l.ht := ⟨_, rfl⟩
  obtain ⟨a3, ha3⟩ : ∃ a : Nat, a = rr.ht := ⟨_, rfl⟩
  obtain ⟨a4, ha4⟩ : ∃ a : Nat, a = (Tr.node mb mk mx ml mr).ht := ⟨_, rfl⟩
  have g1 : (a2 : Int) + 1 < (a1 : Int) := by have := ht.out; omega
  have g2 : (a3 : Int) < (a4 : Int) := by have := h3.out; omega
  have g3 : a2 ≤ 900000 := by omega
  have g4 : a1 ≤ 900000 := by omega
  rw [← ha1] at H1
  rw [hpo, ← ha2] at H2
  rw [hpx, ← ha3] at H3
  rw [← ha4] at H4
  have l2 := Lib.hid hh.out.c3
  have l3 := Lib.hid (show w.cell? ⟨rb, 2, none⟩ = some (.pointer (some ⟨mb, 0, none⟩)) from hh.out.c2)
  rw [hpx] at l2
  have hlb := Lib.hid (hh.out.lt)
  have n2 : ∀ n : Seen w, n.val.cell? ⟨rb, 3, none⟩ = some (.pointer px) := fun n => by rw [n.below.cell (p := ⟨rb, 3, none⟩) hlb.out]; exact l2.out
  have n3 : ∀ n : Seen w, n.val.cell? ⟨rb, 2, none⟩ = some (.pointer (some ⟨mb, 0, none⟩)) := fun n => by rw [n.below.cell (p := ⟨rb, 2, none⟩) hlb.out]; exact l3.out
  have m2 := Lib.hid (hh.out.left.c2)
  have m3 := Lib.hid (hh.out.left.c3)
  rw [hp1] at m2
  rw [hp2] at m3
  have hmb := Lib.hid (hh.out.left.lt)
  have o2 : ∀ n : Seen w, n.val.cell? ⟨rb, 2, none⟩ = some (.pointer (some ⟨mb, 0, none⟩)) := n3
  have HKP := Lib.hid (show ∀ y, Below w.heap.size w y → (y.cell? ⟨rb, 3, none⟩ = some (.pointer px) ∧ y.cell? ⟨mb, 2, none⟩ = some (.pointer p1) ∧ y.cell? ⟨mb, 3, none⟩ = some (.pointer p2)) from fun y K => ⟨by rw [K.cell (p := ⟨rb, 3, none⟩) hlb.out]; exact l2.out, by rw [K.cell (p := ⟨mb, 2, none⟩) hmb.out]; exact m2.out, by rw [K.cell (p := ⟨mb, 3, none⟩) hmb.out]; exact m3.out⟩)
  have HO1 := Lib.hid (show ∀ y, Below w.heap.size w y → Calls Try.prog 41 #[.pointer (some ⟨b, 0, none⟩), .pointer po, .pointer p1] y fun e w' => OverPost k x l ml y e w' from fun y K => by rw [← hpo, ← hp1]; exact over_at K c0.out c1.out ho.out hh.out.left.left (by simp only [Tr.sz] at e3; omega))
  have HO2 := Lib.hid (show ∀ y, Below w.heap.size w y → Calls Try.prog 41 #[.pointer (some ⟨rb, 0, none⟩), .pointer p2, .pointer px] y fun e w' => OverPost rk rx mr rr y e w' from fun y K => by rw [← hp2, ← hpx]; exact over_at K hh.out.c0 hh.out.c1 hh.out.left.right hh.out.right (by simp only [Tr.sz] at e3; omega))
  have HO3 := Lib.hid (show ∀ a d y, In y.heap.size y (.node a k x l ml) → In y.heap.size y (.node d rk rx mr rr) → Below w.heap.size w y → Calls Try.prog 41 #[.pointer (some ⟨mb, 0, none⟩), .pointer (some ⟨a, 0, none⟩), .pointer (some ⟨d, 0, none⟩)] y fun e w' => OverPost mk mx (.node a k x l ml) (.node d rk rx mr rr) y e w' from fun a d y I J K => by
    exact over (by rw [K.cell (p := ⟨mb, 0, none⟩) hmb.out]; exact hh.out.left.c0) (by rw [K.cell (p := ⟨mb, 1, none⟩) hmb.out]; exact hh.out.left.c1) (Lib.hid I) (Lib.hid J) (by simp only [Tr.sz] at e3 ⊢; omega))
  rw [hpo]
  clear hpo hpx hp1 hp2 ha1 ha2 ha3 ha4 e1 e2 e3
  show Calls Try.prog 38 #[.pointer (some ⟨b, 0, none⟩), .pointer po, .pointer (some ⟨rb, 0, none⟩)] w _
  go_enter Try.func38, Try.ntmps38
  go_wp2_with (first | (go_at_call 28; (with_reducible refine H1.out.mono ?_); rintro e w ⟨rfl, rfl⟩) | (go_at_call 28; (with_reducible refine H2.out.mono ?_); rintro e w ⟨rfl, rfl⟩))
  refine region_seen (by kernel_rfl) (by kernel_rfl) ?_
  repeat go_big_quiet_step (first | (go_at_call 28; with_reducible exact (H3 _).out) | (go_at_call 28; with_reducible exact (H4 _).out))
  refine wpQuiet_nil ?_
  rintro _ ⟨m1, rfl⟩
  have K0 := Lib.hid m1.below
  have q0 := o2 m1
  have B0 := Lib.hid (show Below w.heap.size w m1.val.drew from m1.below.drew)
  generalize m1.val = y0 at *
  clear n2 n3 H1 H2 H3 H4 o2
  go_wp2_with fail
  go_region_held3 (fun w' => w'.cell? ⟨rb, 3, none⟩ = some (.pointer px) ∧ w'.cell? ⟨mb, 2, none⟩ = some (.pointer p1) ∧ w'.cell? ⟨mb, 3, none⟩ = some (.pointer p2))
    (first | exact HKP.out _ B0.out | exact HKP.out _ B1.out | exact HKP.out _ B2.out | exact HKP.out _ B3.out)
    (first
    | (go_at_call 41; (with_reducible refine hc.out.mono ?_); rintro e y3 ⟨nc, rfl, IC, BC⟩; have B3 := Lib.hid (B2.out.trans (BC.mono B2.out.size)))
    | (go_at_call 41; (with_reducible refine (HO1.out _ B1.out).mono ?_); rintro e y2 ⟨na, rfl, IA, BA⟩; have B2 := Lib.hid (B1.out.trans (BA.mono B1.out.size)); have hc := Lib.hid (HO3.out na nd y2 IA (ID.out.seen BA) B2.out); clear BA)
    | (go_at_call 41; (with_reducible refine (HO2.out _ B1.out).mono ?_); rintro e y2 ⟨nd, rfl, ID, BA⟩; have B2 := Lib.hid (B1.out.trans (BA.mono B1.out.size)); have hc := Lib.hid (HO3.out na nd y2 (IA.out.seen BA) ID B2.out); clear BA)
    | (go_at_call 41; (with_reducible refine (HO1.out _ B0.out).mono ?_); rintro e y1 ⟨na, rfl, IA1, BA⟩; have IA := Lib.hid IA1; have B1 := Lib.hid (B0.out.trans (BA.mono B0.out.size)); clear BA IA1)
    | (go_at_call 41; (with_reducible refine (HO2.out _ B0.out).mono ?_); rintro e y1 ⟨nd, rfl, ID1, BA⟩; have ID := Lib.hid ID1; have B1 := Lib.hid (B0.out.trans (BA.mono B0.out.size)); clear BA ID1))
  all_goals go_wp2_with fail
  all_goals go_ret
  all_goals exact ⟨na, nd, nc, rfl, IC, B3.out⟩
set_option maxHeartbeats 1000000 in
theorem even_none {b : Nat} {k : List UInt8} {x : Int} {l r : Tr Int} {w : World} (c0 : Hid (w.cell? ⟨b, 0, none⟩ = some (.string (bs k)))) (c1 : Hid (w.cell? ⟨b, 1, none⟩ = some (.int .i64 x)))
    (hl : Hid (In w.heap.size w l)) (hr : Hid (In w.heap.size w r)) (h1 : Hid (l.ht ≤ r.ht + 1)) (h2 : Hid (r.ht ≤ l.ht + 1)) (hs : Hid (l.sz + r.sz ≤ 900000)) :
    Calls Try.prog 38 #[.pointer (some ⟨b, 0, none⟩), l.ptr, r.ptr] w fun e w' => ∃ c, e = .returned (.pointer (some ⟨c, 0, none⟩)) ∧ In w'.heap.size w' (.node c k x l r) ∧ Below w.heap.size w w' := by
  obtain ⟨pl, hpl⟩ := l.ptr_is
  obtain ⟨pr, hpr⟩ := r.ptr_is
  have H1 := Lib.hid (high hl.out)
  have H2 := Lib.hid (high hr.out)
  have HO := Lib.hid (over_at (Below.refl _ w) c0.out c1.out hl.out hr.out (by have := hs.out; omega))
  have e1 := l.ht_le
  have e2 := r.ht_le
  obtain ⟨a1, ha1⟩ : ∃ a : Nat, a = l.ht := ⟨_, rfl⟩
  obtain ⟨a2, ha2⟩ : ∃ a : Nat, a = r.ht := ⟨_, rfl⟩
  have g1 : (a1 : Int) ≤ (a2 : Int) + 1 := by have := h1.out; omega
  have g2 : (a2 : Int) ≤ (a1 : Int) + 1 := by have := h2.out; omega
  have g3 : a2 ≤ 900000 := by have := hs.out; omega
  have g4 : a1 ≤ 900000 := by have := hs.out; omega
  rw [hpl, ← ha1] at H1
  rw [hpr, ← ha2] at H2
  rw [hpl, hpr] at HO
  rw [hpl, hpr]
  clear hpl hpr ha1 ha2 e1 e2
  go_enter Try.func38, Try.ntmps38
  go_wp2_with (first | (go_at_call 28; (with_reducible refine H1.out.mono ?_); rintro e w ⟨rfl, rfl⟩) | (go_at_call 28; (with_reducible refine H2.out.mono ?_); rintro e w ⟨rfl, rfl⟩) | (go_at_call 41; (with_reducible refine HO.out.mono ?_); rintro e y ⟨c, rfl, hI, hB⟩))
  go_ret
  exact ⟨c, rfl, hI, hB⟩

/-- A node over two sides, made even. -/
def EvenPost (k : List UInt8) (x : Int) (l r : Tr Int) (w : World) (e : Ending) (w' : World) : Prop :=
  ∃ t c, t.ptr = .pointer (some ⟨c, 0, none⟩) ∧ e = .returned (.pointer (some ⟨c, 0, none⟩)) ∧ In w'.heap.size w' t ∧ Below w.heap.size w w' ∧ Ev k x l r t
theorem even {b : Nat} {k : List UInt8} {x : Int} {l r : Tr Int} {w : World} (c0 : Hid (w.cell? ⟨b, 0, none⟩ = some (.string (bs k)))) (c1 : Hid (w.cell? ⟨b, 1, none⟩ = some (.int .i64 x)))
    (hl : Hid (In w.heap.size w l)) (hr : Hid (In w.heap.size w r)) (al : l.avl) (ar : r.avl) (h1 : l.ht ≤ r.ht + 2) (h2 : r.ht ≤ l.ht + 2) (hs : l.sz + r.sz ≤ 900000) :
    Calls Try.prog 38 #[.pointer (some ⟨b, 0, none⟩), l.ptr, r.ptr] w fun e w' => EvenPost k x l r w e w' := by
  by_cases hx : r.ht + 1 < l.ht
  · cases l with
    | nil => simp [Tr.ht] at hx
    | node lb lk lx ll lr =>
      by_cases hy : lr.ht ≤ ll.ht
      · refine (even_ll c0 c1 hl hr (Lib.hid hx) (Lib.hid hy) (Lib.hid hs)).mono ?_
        rintro e w' ⟨a, c, rfl, hI, hB⟩
        exact ⟨_, c, rfl, rfl, hI, hB, ev_ll al ar hx h1 hy a c⟩
      · cases lr with
        | nil => simp [Tr.ht] at hy
        | node mb mk mx ml mr =>
          refine (even_lr c0 c1 hl hr (Lib.hid hx) (Lib.hid (by omega)) (Lib.hid hs)).mono ?_
          rintro e w' ⟨a, d, c, rfl, hI, hB⟩
          exact ⟨_, c, rfl, rfl, hI, hB, ev_lr al ar hx h1 (by omega) a c d⟩
  · by_cases hz : l.ht + 1 < r.ht
    · cases r with
      | nil => simp [Tr.ht] at hz
      | node rb rk rx rl rr =>
        by_cases hy : rl.ht ≤ rr.ht
        · refine (even_rr c0 c1 hr hl (Lib.hid hz) (Lib.hid hy) (Lib.hid (by omega))).mono ?_
          rintro e w' ⟨a, c, rfl, hI, hB⟩
          exact ⟨_, c, rfl, rfl, hI, hB, ev_rr al ar hz h2 hy a c⟩
        · cases rl with
          | nil => simp [Tr.ht] at hy
          | node mb mk mx ml mr =>
            refine (even_rl c0 c1 hr hl (Lib.hid hz) (Lib.hid (by omega)) (Lib.hid (by omega))).mono ?_
            rintro e w' ⟨a, d, c, rfl, hI, hB⟩
            exact ⟨_, c, rfl, rfl, hI, hB, ev_rl al ar hz h2 (by omega) a c d⟩
    · refine (even_none c0 c1 hl hr (Lib.hid (by omega)) (Lib.hid (by omega)) (Lib.hid hs)).mono ?_
      rintro e w' ⟨c, rfl, hI, hB⟩
      exact ⟨_, c, rfl, rfl, hI, hB, ev_none al ar (by omega) (by omega) c⟩
end Go.Proofs.Ytbmihajbdobgbaa.MI
