/- Schedulers of any number of slots; nil cells, mutexes and schedulers: the law's walk. -/
import Derived.Test.YtccliallljcjgaaAwake
import Derived.ProofKit
import Derived.OpenShut
import Derived.ShutString
import Derived.Deep.CutRange
set_option linter.unusedVariables false
namespace Go.Proofs.Ytccliallljcjgaa.schedNil
open Go.ChangeShapes Go.WideShapes Go.ChangeAt Go.RowKit
open Go.ChangeMaps (open_string shut_string)

/-- The block of the step that is put. -/
def IsB (b : Nat) (w : World) : Prop := w.heap[b]? = some (.cells #[.func (.func 38) #[] #[], .pointer none] 60 (0, 0))
theorem IsB.below {b : Nat} {w w' : World} (h : IsB b w) (k : Below w.heap.size w w') : IsB b w' := (k.block b (heap_lt h)).trans h
theorem IsB.c0 {b : Nat} {w : World} (h : IsB b w) : w.cell? ⟨b, 0, none⟩ = some (.func (.func 38) #[] #[]) := by unfold IsB at h; simp [World.cell?, h]
theorem IsB.c1 {b : Nat} {w : World} (h : IsB b w) : w.cell? ⟨b, 1, none⟩ = some (.pointer none) := by unfold IsB at h; simp [World.cell?, h]
theorem isfn : IsFn (.func (.func 38) #[] #[]) := ⟨38, #[], rfl⟩

set_option maxHeartbeats 4000000 in
set_option maxRecDepth 100000 in
theorem walk (n slot : Int) (w : World) : Calls Try.prog 7 #[.int .i64 n, .int .i64 slot] w fun e w' => e = .returned (.bool true) ∧ Below w.heap.size w w' := by
  by_cases hn : 1 ≤ n ∧ n ≤ 16
  · obtain ⟨k, rfl⟩ : ∃ k : Nat, n = (k : Int) := ⟨n.toNat, by omega⟩
    have hk1 : 1 ≤ k := by omega
    have hk2 : k ≤ 16 := by omega
    have hd1 : (1 : Int) ≤ (k : Int) := by omega
    have hd2 : (k : Int) ≤ 16 := by omega
    have hnew := sched_New k hk1 hk2 w
    go_enter Try.func7, Try.ntmps7
    go_wp2_with fail
    refine hnew.mono ?_
    rintro e w1 ⟨rfl, hS, hb⟩
    have B1 := Lib.hid hb
    have S1 := Lib.hid hS
    obtain ⟨sb, hsb⟩ : ∃ sb, sb = w.heap.size + 1 := ⟨_, rfl⟩
    obtain ⟨tb, htb⟩ : ∃ tb, tb = w.heap.size := ⟨_, rfl⟩
    rw [← hsb, ← htb] at S1
    have HTB := Lib.hid htb
    have HSB := Lib.hid hsb
    clear hnew hS hb htb
    go_wp2_with fail
    refine (cell_Store_nil _ _).mono ?_
    rintro e w2 ⟨rfl, rfl⟩
    go_wp2_with fail
    refine (drop_out (Out.nil _ _)).mono ?_
    rintro e w2 ⟨rfl, rfl⟩
    go_wp2_with fail
    refine (pick_nil _ _).mono ?_
    rintro e w2 ⟨rfl, rfl⟩
    go_upto_region 10 with fail
    obtain ⟨b, hb⟩ : ∃ b, b = w2.heap.size := ⟨_, rfl⟩
    have HBK := Lib.hid hb
    have HI0 := Lib.hid (heap_new w2 (.cells #[.func (.func 38) #[] #[], .pointer none] 60))
    have HBL := Lib.hid ((Below.refl w2.heap.size w2).alloc (Nat.le_refl _) (.cells #[.func (.func 38) #[] #[], .pointer none] 60))
    go_cut [12] from 13 (fun s12 wx => s12 = .pointer (some ⟨b, 0, none⟩) ∧ Hid (IsB b wx ∧ Below w2.heap.size w2 wx))
    case first =>
      clear hb
      go_wp2_with fail
      go_meet
      exact ⟨by rw [HBK.out], Lib.hid ⟨by rw [HBK.out]; exact HI0.out, HBL.out⟩⟩
    case rest =>
    obtain ⟨rfl, hc⟩ := hcut
    obtain ⟨w3, hw3⟩ : ∃ w3, w3 = wc := ⟨_, rfl⟩
    subst hw3
    clear hb HI0 HBL
    have I3 := Lib.hid hc.out.1
    have B3 := Lib.hid (B1.out.trans (hc.out.2.mono B1.out.size))
    have S3 := Lib.hid (S1.out.below hc.out.2)
    clear hc B1 S1
    generalize hsb2 : w.heap.size + 1 = sb2 at *
    subst hsb
    go_upto_if 57 with fail
    go_cut [] from 13 (fun wx => Hid (IsB b wx ∧ Below w.heap.size w wx))
    case first =>
      have hlen : (List.replicate k (none : Option TS)).length = k := List.length_replicate
      have c0 := I3.out.c0
      have c1 := I3.out.c1
      by_cases hin : 0 ≤ slot ∧ slot < (k : Int)
      · obtain ⟨i, rfl⟩ : ∃ i : Nat, slot = (i : Int) := ⟨slot.toNat, by omega⟩
        have hik : i < k := by omega
        have hik' : (i : Int) < (k : Int) := by omega
        have hi0 : (0 : Int) ≤ (i : Int) := by omega
        have hnone : (List.replicate k (none : Option TS))[i]? = some none := by rw [List.getElem?_replicate, if_pos hik]
        have hput := sched_Put S3.out hnone none isfn
        have HIK := Lib.hid hik
        clear hin hik
        go_wp2_with fail
        refine hput.mono ?_
        rintro e w4 ⟨rfl, S4, O4, _⟩
        have hx4 : ((List.replicate k (none : Option TS)).set i (some ⟨w3.heap.size, .func (.func 38) #[] #[], none⟩))[i]? = some (some ⟨w3.heap.size, .func (.func 38) #[] #[], none⟩) := by rw [List.getElem?_set, if_pos rfl, if_pos (by rw [hlen]; exact HIK.out)]
        have hal : Calls Try.prog 17 #[.pointer (some ⟨sb, 0, none⟩), .int .i64 (i : Int)] w4 fun e w' => e = .returned (.bool true) ∧ w' = w4 := sched_Alive S4 hx4
        have hp2 := put_nil S4 (i := i) (by rw [List.length_set, hlen]; exact HIK.out) (.pointer none)
        have HE := Lib.hid (show IsB b w4 ∧ Below w.heap.size w w4 from ⟨(O4.block b (heap_lt I3.out) (tag_ne I3.out S3.out.row (by decide))).trans I3.out, B3.out.trans (O4.below (B := w.heap.size) (fun j _ hj => by have := HTB.out; omega) B3.out.size)⟩)
        clear S4 O4 hput hnone hx4 c0 c1
        go_wp2_with fail
        refine hal.mono ?_
        rintro e w5 ⟨rfl, rfl⟩
        go_wp2_with fail
        refine hp2.mono ?_
        rintro e w6 ⟨rfl, hb6⟩
        have HF := Lib.hid (show IsB b w6 ∧ Below w.heap.size w w6 from ⟨HE.out.1.below hb6, HE.out.2.trans (hb6.mono HE.out.2.size)⟩)
        clear hb6 hal hp2
        go_wp2_with fail
        go_meet
        exact HF
      · have hout : ∀ wx, Sch wx sb tb (List.replicate k none) 0 → Out wx (some ⟨sb, 0, none⟩) slot := fun wx hS => Out.of hS.c0 (by rw [hlen]; exact hin)
        have hput := put_out (s := some ⟨sb, 0, none⟩) (i := slot) (.func (.func 38) #[] #[]) (.pointer none) (fun o => hout _ (S3.out.below ((Below.refl _ w3).alloc (Nat.le_refl _) o)))
        have hb1 : ¬ (0 : Int) ≤ slot ∨ ((0 : Int) ≤ slot ∧ ¬ slot < (k : Int)) := by omega
        clear hin
        rcases hb1 with hb1 | ⟨hb1, hb2⟩
        all_goals
          go_wp2_with fail
          refine hput.mono ?_
          rintro e w4 ⟨rfl, hb4⟩
          have S4 := S3.out.below hb4
          have hal := alive_out (hout _ S4)
          have hp2 := put_out (s := some ⟨sb, 0, none⟩) (i := slot) .nilFunc (.pointer none) (fun o => hout _ (S4.below ((Below.refl _ w4).alloc (Nat.le_refl _) o)))
          have HE := Lib.hid (show IsB b w4 ∧ Below w.heap.size w w4 from ⟨I3.out.below hb4, B3.out.trans (hb4.mono B3.out.size)⟩)
          clear hb4 S4 hput c0 c1
          go_wp2_with fail
          refine hal.mono ?_
          rintro e w5 ⟨rfl, rfl⟩
          go_wp2_with fail
          refine hp2.mono ?_
          rintro e w6 ⟨rfl, hb6⟩
          have HF := Lib.hid (show IsB b w6 ∧ Below w.heap.size w w6 from ⟨HE.out.1.below hb6, HE.out.2.trans (hb6.mono HE.out.2.size)⟩)
          clear hb6 hal hp2
          go_wp2_with fail
          go_meet
          exact HF
    case rest =>
    obtain ⟨w2, hw2⟩ : ∃ w2, w2 = wc := ⟨_, rfl⟩
    subst hw2
    have HI := Lib.hid hcut.out.1
    have B2 := Lib.hid hcut.out.2
    clear hcut I3 B3 S3

    go_wp2_with fail
    refine (law_awake _).mono ?_
    rintro e w3 ⟨rfl, hb3⟩
    have B3 := Lib.hid (B2.out.trans (hb3.mono B2.out.size))
    have I3 := Lib.hid (HI.out.below hb3)
    clear hb3
    go_wp2_with fail
    refine (cell_Load_nil _).mono ?_
    rintro e w4 ⟨rfl, hb4⟩
    have B4 := Lib.hid (B3.out.trans (hb4.mono B3.out.size))
    have I4 := Lib.hid (I3.out.below hb4)
    have c0 := I4.out.c0
    have c1 := I4.out.c1
    clear hb4
    go_wp2_with fail
    refine (cell_Swap_nil _ _ _).mono ?_
    rintro e w5 ⟨rfl, rfl⟩
    go_wp2_with fail
    refine (cell_Sets_nil _).mono ?_
    rintro e w5 ⟨rfl, rfl⟩
    go_wp2_with fail
    refine (mutex_Holder_nil _).mono ?_
    rintro e w5 ⟨rfl, rfl⟩
    go_wp2_with fail
    refine (mutex_Free_nil _ _).mono ?_
    rintro e w5 ⟨rfl, rfl⟩
    go_wp2_with fail
    refine (put_out _ _ (fun o => Out.nil _ _)).mono ?_
    rintro e w6 ⟨rfl, hb6⟩
    have B6 := Lib.hid (B4.out.trans (hb6.mono B4.out.size))
    clear hb6 c0 c1
    go_wp2_with fail
    refine (alive_out (Out.nil _ _)).mono ?_
    rintro e w7 ⟨rfl, rfl⟩
    go_wp2_with fail
    refine (ready_out (Out.nil _ _)).mono ?_
    rintro e w7 ⟨rfl, rfl⟩
    go_wp2_with fail
    refine (step_out (Out.nil _ _)).mono ?_
    rintro e w7 ⟨rfl, rfl⟩
    go_wp2_with fail
    refine (steps_nil _).mono ?_
    rintro e w7 ⟨rfl, rfl⟩
    go_wp2_with fail
    go_ret
    exact ⟨rfl, B6.out⟩
  · have hno : n < 1 ∨ 16 < n := by omega
    have hnew := sched_New_not n hno w
    have hb1 : ¬ (1 : Int) ≤ n ∨ ((1 : Int) ≤ n ∧ ¬ n ≤ 16) := by omega
    clear hn hno
    rcases hb1 with hb1 | ⟨hb1, hb2⟩
    all_goals
      go_enter Try.func7, Try.ntmps7
      go_wp2_with fail
      refine hnew.mono ?_
      rintro e w1 ⟨rfl, hw⟩
      have B1 := Lib.hid (show Below w.heap.size w w1 by rw [hw]; exact Below.refl _ _)
      clear hw hnew
      go_wp2_with fail
      refine (cell_Store_nil _ _).mono ?_
      rintro e w2 ⟨rfl, rfl⟩
      go_wp2_with fail
      refine (drop_out (Out.nil _ _)).mono ?_
      rintro e w2 ⟨rfl, rfl⟩
      go_wp2_with fail
      refine (pick_nil _ _).mono ?_
      rintro e w2 ⟨rfl, rfl⟩
      go_upto_region 10 with fail
      obtain ⟨b, hb⟩ : ∃ b, b = w2.heap.size := ⟨_, rfl⟩
      have HBK := Lib.hid hb
      have HI0 := Lib.hid (heap_new w2 (.cells #[.func (.func 38) #[] #[], .pointer none] 60))
      have HBL := Lib.hid ((Below.refl w2.heap.size w2).alloc (Nat.le_refl _) (.cells #[.func (.func 38) #[] #[], .pointer none] 60))
      go_cut [12] from 13 (fun s12 wx => s12 = .pointer (some ⟨b, 0, none⟩) ∧ Hid (IsB b wx ∧ Below w2.heap.size w2 wx))
      case first =>
        clear hb
        go_wp2_with fail
        go_meet
        exact ⟨by rw [HBK.out], Lib.hid ⟨by rw [HBK.out]; exact HI0.out, HBL.out⟩⟩
      case rest =>
      obtain ⟨rfl, hc⟩ := hcut
      obtain ⟨w3, hw3⟩ : ∃ w3, w3 = wc := ⟨_, rfl⟩
      subst hw3
      clear hb HI0 HBL
      have HI := Lib.hid hc.out.1
      have B2 := Lib.hid (B1.out.trans (hc.out.2.mono B1.out.size))
      clear hc B1

      go_wp2_with fail
      refine (law_awake _).mono ?_
      rintro e w3 ⟨rfl, hb3⟩
      have B3 := Lib.hid (B2.out.trans (hb3.mono B2.out.size))
      have I3 := Lib.hid (HI.out.below hb3)
      clear hb3
      go_wp2_with fail
      refine (cell_Load_nil _).mono ?_
      rintro e w4 ⟨rfl, hb4⟩
      have B4 := Lib.hid (B3.out.trans (hb4.mono B3.out.size))
      have I4 := Lib.hid (I3.out.below hb4)
      have c0 := I4.out.c0
      have c1 := I4.out.c1
      clear hb4
      go_wp2_with fail
      refine (cell_Swap_nil _ _ _).mono ?_
      rintro e w5 ⟨rfl, rfl⟩
      go_wp2_with fail
      refine (cell_Sets_nil _).mono ?_
      rintro e w5 ⟨rfl, rfl⟩
      go_wp2_with fail
      refine (mutex_Holder_nil _).mono ?_
      rintro e w5 ⟨rfl, rfl⟩
      go_wp2_with fail
      refine (mutex_Free_nil _ _).mono ?_
      rintro e w5 ⟨rfl, rfl⟩
      go_wp2_with fail
      refine (put_out _ _ (fun o => Out.nil _ _)).mono ?_
      rintro e w6 ⟨rfl, hb6⟩
      have B6 := Lib.hid (B4.out.trans (hb6.mono B4.out.size))
      clear hb6 c0 c1
      go_wp2_with fail
      refine (alive_out (Out.nil _ _)).mono ?_
      rintro e w7 ⟨rfl, rfl⟩
      go_wp2_with fail
      refine (ready_out (Out.nil _ _)).mono ?_
      rintro e w7 ⟨rfl, rfl⟩
      go_wp2_with fail
      refine (step_out (Out.nil _ _)).mono ?_
      rintro e w7 ⟨rfl, rfl⟩
      go_wp2_with fail
      refine (steps_nil _).mono ?_
      rintro e w7 ⟨rfl, rfl⟩
      go_wp2_with fail
      go_ret
      exact ⟨rfl, B6.out⟩
end Go.Proofs.Ytccliallljcjgaa.schedNil
