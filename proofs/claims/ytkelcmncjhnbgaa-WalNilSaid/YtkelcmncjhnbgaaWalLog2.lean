/- The log's calls that change the disk; a log begun; what is read of a file. -/
import Derived.Test.YtkelcmncjhnbgaaWalLog
set_option linter.unusedVariables false
set_option maxRecDepth 100000
namespace Go.Proofs.Ytkelcmncjhnbgaa
open Go.RowKit

variable {O : Nat → Prop} {w : World} {lb d wt wr su : Nat} {s : DS} {file : Int} {F : List UInt8}

theorem log_Add_long {t : List UInt8} (h : Hid (Lg O w lb d s file F wt wr su)) (ht : 1048576 < t.length) (hm : t.length ≤ 9223372036854775807) : Calls Try.prog 24 #[.pointer (some ⟨lb, 0, none⟩), .string (bs t)] w fun e w' => e = .returned (.int .i64 6) ∧ w = w' := by
  obtain ⟨q, hq⟩ : ∃ q, q = t.length := ⟨_, rfl⟩
  have hqz : (bs t).size = q := by rw [bs_size, hq]
  have hq2 : 1048576 < (q : Int) := by omega
  have hq3 : (q : Int) ≤ 9223372036854775807 := by omega
  clear hq ht hm
  go_enter Try.func24, Try.ntmps24
  go_wp2_with fail
  go_ret
  exact ⟨rfl, rfl⟩
theorem log_Write_none (h : Hid (Lg O w lb d s file F 0 wr su)) : Calls Try.prog 26 #[.pointer (some ⟨lb, 0, none⟩)] w fun e w' => e = .returned (.int .i64 0) ∧ w = w' := by
  obtain ⟨S, fv, h1, h2, h3, h4, h5, h6, h7⟩ := h.out
  have c3 : w.cell? ⟨lb, 3, none⟩ = some (.int .i64 0) := by simp [World.cell?, h7]
  clear h1 h2 h3 h4 h5 h6 h7
  go_enter Try.func26, Try.ntmps26
  go_wp2_with fail
  go_ret
  exact ⟨rfl, rfl⟩
/-- Behind a call of its disk a log is as it was. -/
theorem Lg.did {w1 w2 : World} {s2 : DS} {S : Nat → Prop} {fv : Value} (h2 : ∀ k, S k → O k) (h3 : O lb) (h4 : ¬ S lb) (h5 : OwnB w 0 fv F) (h6 : ∀ g, fv.ownBlock = some g → O g ∧ ¬ S g)
    (h7 : w.heap[lb]? = some (.cells #[.pointer (some ⟨d, 0, none⟩), .int .i64 file, fv, .int .i64 (wt : Int), .int .i64 (wr : Int), .int .i64 (su : Int)] 83 (0, 0)))
    (k1 : Below w.heap.size w w1) (hd : Disk (New S w1) w2 d s2) (ho : Only S w1 w2) : Lg (New O w) w2 lb d s2 file F wt wr su ∧ Only O w w2 := by
  have k2 : Only S w w2 := (Only.of_below (S := S) k1 (fun k hk hB => absurd hk (by omega))).andThen ho fun k _ hk => hk
  refine ⟨⟨New S w1, fv, hd, fun k hk => ?_, .inl h3, fun x => ?_, OffRow.kept h5 (fun j hj => k2.block j (OffRow.lt h5 j hj).2 (h6 j hj).2), fun g hg => ⟨.inl (h6 g hg).1, fun x => ?_⟩, (k2.block lb (heap_lt h7) h4).trans h7⟩, k2.mono fun k _ hk => h2 k hk⟩
  · rcases hk with hk | hk
    · exact .inl (h2 k hk)
    · exact .inr (Nat.le_trans k1.size hk)
  · rcases x with x | x
    · exact h4 x
    · have := heap_lt h7; have := k1.size; omega
  · rcases x with x | x
    · exact (h6 g hg).2 x
    · have := (OffRow.lt h5 g hg).2; have := k1.size; omega

/-- What Write leaves. -/
def WritePost (O : Nat → Prop) (w : World) (lb d : Nat) (s2 : DS) (z : Int) (file : Int) (F : List UInt8) (wt wr su : Nat) (e : Ending) (w' : World) : Prop :=
  e = .returned (.int .i64 z) ∧ (z ≠ 0 → Lg (New O w) w' lb d s2 file F wt wr su) ∧ (z = 0 → Lg (New O w) w' lb d s2 file [] 0 (wr + wt) su) ∧ Only O w w'
set_option maxHeartbeats 2000000 in
theorem log_Write (h : Hid (Lg O w lb d s file F wt wr su)) (hw : (Lit.int .i64 file).wf = true) (hst : s.steps < 4611686018427387904) (hwt : 0 < wt ∧ wt ≤ 1000000000) (hwr : wr ≤ 1000000000) (hF : 0 < F.length ∧ F.length ≤ 1000000000) {s2 : DS} {z : Int} (hz : Hid (s.add file F = (s2, z))) :
    Calls Try.prog 26 #[.pointer (some ⟨lb, 0, none⟩)] w fun e w' => WritePost O w lb d s2 z file F wt wr su e w' := by
  obtain ⟨S, fv, h1, h2, h3, h4, h5, h6, h7⟩ := h.out
  have hlt := heap_lt h7
  obtain ⟨af, cf, hfv⟩ := OffRow.slice h5
  subst hfv
  have HDID := Lib.hid (show ∀ (w1 w2 : World) (s2 : DS), Below w.heap.size w w1 → Disk (New S w1) w2 d s2 → Only S w1 w2 → Lg (New O w) w2 lb d s2 file F wt wr su ∧ Only O w w2 from fun w1 w2 s2 => Lg.did h2 h3 h4 h5 h6 h7)
  have n0 : ∀ n : Seen w, n.val.cell? ⟨lb, 0, none⟩ = some (.pointer (some ⟨d, 0, none⟩)) := fun n => by rw [n.below.cell (p := ⟨lb, 0, none⟩) hlt]; simp [World.cell?, h7]
  have n1 : ∀ n : Seen w, n.val.cell? ⟨lb, 1, none⟩ = some (.int .i64 file) := fun n => by rw [n.below.cell (p := ⟨lb, 1, none⟩) hlt]; simp [World.cell?, h7]
  have n2 : ∀ n : Seen w, n.val.cell? ⟨lb, 2, none⟩ = some (.slice af F.length cf) := fun n => by rw [n.below.cell (p := ⟨lb, 2, none⟩) hlt]; simp [World.cell?, h7]
  have n3 : ∀ n : Seen w, (convert 34 9 (.slice af F.length cf)).run Try.prog n.val = .ok (.string (bs F)) n.val := fun n => conv_own (B := 0) (v := .slice af F.length cf) (OffRow.kept h5 fun j hj => n.below.block j (OffRow.lt h5 j hj).2) hF.1
  have c3 : w.cell? ⟨lb, 3, none⟩ = some (.int .i64 (wt : Int)) := by simp [World.cell?, h7]
  have hwt0 : ((wt : Int) == 0) = false := beq_eq_false_iff_ne.2 (by omega)
  have H1 := Lib.hid h1
  clear h1 h2 h3 h4 h5 h6 h7
  go_enter Try.func26, Try.ntmps26
  go_wp2_with fail
  refine wp_region_seen_tail 13 (by kernel_rfl) (by kernel_rfl) ?_
  simp only [List.take_succ_cons, List.take_zero, List.drop_succ_cons, List.drop_zero]
  repeat go_big_quiet_step (fail)
  refine wpQuiet_nil ?_
  rintro _ ⟨m1, rfl⟩
  have K1 := Lib.hid m1.below
  have D1 := Lib.hid (H1.out.below K1.out)
  generalize m1.val = w1 at *
  clear n0 n1 n2 n3 c3 H1
  go_wp2_with fail
  refine (disk_Add D1.out file F hw hst (by omega)).mono ?_
  rintro e w2 ⟨rfl, hd2, ho2⟩
  rw [hz.out] at hd2 ⊢
  obtain ⟨l2, o2⟩ := HDID.out w1 w2 s2 K1.out hd2 ho2
  have L2 := Lib.hid l2
  have O2 := Lib.hid o2
  clear hd2 ho2 l2 o2 HDID D1
  simp only
  by_cases hz0 : z = 0
  · subst hz0
    obtain ⟨S', fv', g1, g2, g3, g4, g5, g6, g7⟩ := L2.out
    have p3 : ∀ n : Seen w2, n.val.cell? ⟨lb, 3, none⟩ = some (.int .i64 (wt : Int)) := fun n => by rw [n.below.cell (p := ⟨lb, 3, none⟩) (heap_lt g7)]; simp [World.cell?, g7]
    have p4 : ∀ n : Seen w2, n.val.cell? ⟨lb, 4, none⟩ = some (.int .i64 (wr : Int)) := fun n => by rw [n.below.cell (p := ⟨lb, 4, none⟩) (heap_lt g7)]; simp [World.cell?, g7]
    obtain ⟨wx, hwx⟩ : ∃ wx, wx = wr + wt := ⟨_, rfl⟩
    have HL3 := Lib.hid (show ∀ w3, Below w2.heap.size w2 w3 → Lg (New O w) (w3.setCell ⟨lb, 4, none⟩ (.int .i64 (wx : Int))) lb d s2 file F wt wx su ∧ Only (New O w) w2 (w3.setCell ⟨lb, 4, none⟩ (.int .i64 (wx : Int))) ∧ w3.cell? ⟨lb, 4, none⟩ = some (.int .i64 (wr : Int)) ∧ w3.frozen? ⟨lb, 4, none⟩ = false from fun w3 k => by
      have q7 := (k.block lb (heap_lt g7)).trans g7
      have o1 : Only (fun k => k = lb) w2 (w3.setCell ⟨lb, 4, none⟩ (.int .i64 (wx : Int))) := (Only.of_below (S := fun k => k = lb) k (fun k hk hB => absurd hk (by omega))).setCell (p := ⟨lb, 4, none⟩) (.inl rfl) _
      refine ⟨⟨S', fv', g1.only o1 (fun j _ hs e => g4 (e ▸ hs)), g2, g3, g4, OffRow.kept g5 (fun j hj => o1.block j (OffRow.lt g5 j hj).2 fun e => ?_), g6, heap_set q7 _⟩, o1.mono fun k hk e => e ▸ g3, by simp [World.cell?, q7], by simp [World.frozen?, q7]⟩
      subst e
      obtain ⟨cur, hc⟩ := OffRow.tag g5 hj
      rw [g7] at hc
      injection hc with hc
      injection hc with _ hc
      revert hc
      decide)
    clear g1 g2 g3 g4 g5 g6 g7 L2
    have hsum : ((wr : Int) + (wt : Int)) = (wx : Int) := by omega
    have hwx2 : wx ≤ 2000000000 := by omega
    have HWX := Lib.hid hwx
    clear hwx
    go_wp2_with fail
    refine wp_region_seen_tail 11 (by kernel_rfl) (by kernel_rfl) ?_
    simp only [List.take_succ_cons, List.take_zero, List.drop_succ_cons, List.drop_zero]
    repeat go_big_quiet_step (fail)
    refine wpQuiet_nil ?_
    rintro _ ⟨m3, rfl⟩
    obtain ⟨L3, O3, c4, f4⟩ := HL3.out m3.val m3.below
    generalize m3.val = w3 at *
    have L3 := Lib.hid L3
    have O4 := Lib.hid (O2.out.andThen O3 (S' := New O w) fun j hj x => by rcases x with x | x; (exact x); (exact absurd hj (by omega)))
    clear p3 p4 HL3 O3
    go_wp2_with fail
    refine (log_Clear L3).mono ?_
    rintro e w4 ⟨rfl, l4, o4⟩
    have L4 := Lib.hid l4
    have O5 := Lib.hid (O4.out.andThen o4 (S' := New O w) fun j hj x => by rcases x with x | x; (exact x); (exact absurd hj (by omega)))
    clear l4 o4
    go_wp2_with fail
    go_ret
    exact ⟨rfl, fun h => absurd rfl h, fun _ => by rw [← HWX.out]; exact L4.out, O5.out⟩
  · have hz1 : (z == 0) = false := beq_eq_false_iff_ne.2 hz0
    go_wp2_with fail
    go_ret
    exact ⟨rfl, fun _ => L2.out, fun h => absurd h hz0, O2.out⟩
end Go.Proofs.Ytkelcmncjhnbgaa
