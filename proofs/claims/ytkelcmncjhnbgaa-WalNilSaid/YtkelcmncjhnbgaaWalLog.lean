/- The log's calls: what each answers and leaves. -/
import Derived.Test.YtkelcmncjhnbgaaWalRow
set_option linter.unusedVariables false
set_option maxRecDepth 100000
namespace Go.Proofs.Ytkelcmncjhnbgaa
open Go.RowKit

variable {O : Nat → Prop} {w : World} {lb d wt wr su : Nat} {s : DS} {file : Int} {F : List UInt8}

theorem log_File (h : Hid (Lg O w lb d s file F wt wr su)) : Calls Try.prog 32 #[.pointer (some ⟨lb, 0, none⟩)] w fun e w' => e = .returned (.int .i64 file) ∧ w = w' := by
  obtain ⟨S, fv, h1, h2, h3, h4, h5, h6, h7⟩ := h.out
  have c1 : w.cell? ⟨lb, 1, none⟩ = some (.int .i64 file) := by simp [World.cell?, h7]
  clear h1 h2 h3 h4 h5 h6 h7
  go_enter Try.func32, Try.ntmps32
  go_wp2_with fail
  go_ret
  exact ⟨rfl, rfl⟩
theorem log_Counts (h : Hid (Lg O w lb d s file F wt wr su)) : Calls Try.prog 27 #[.pointer (some ⟨lb, 0, none⟩)] w fun e w' => e = .returned (.tuple #[.int .i64 (wt : Int), .int .i64 (wr : Int), .int .i64 (su : Int)]) ∧ ∃ m, w' = w.drewN m := by
  obtain ⟨S, fv, h1, h2, h3, h4, h5, h6, h7⟩ := h.out
  have c3 : w.cell? ⟨lb, 3, none⟩ = some (.int .i64 (wt : Int)) := by simp [World.cell?, h7]
  have c4 : w.cell? ⟨lb, 4, none⟩ = some (.int .i64 (wr : Int)) := by simp [World.cell?, h7]
  have c5 : w.cell? ⟨lb, 5, none⟩ = some (.int .i64 (su : Int)) := by simp [World.cell?, h7]
  clear h1 h2 h3 h4 h5 h6 h7
  go_enter Try.func27, Try.ntmps27
  go_wp2_with fail
  go_quiet (fail)
  go_wp2
  go_ret3
  exact ⟨rfl, _, rfl⟩
theorem log_Clear (h : Hid (Lg O w lb d s file F wt wr su)) : Calls Try.prog 31 #[.pointer (some ⟨lb, 0, none⟩)] w fun e w' => e = .returned (.tuple #[]) ∧ Lg O w' lb d s file [] 0 wr su ∧ Only O w w' := by
  obtain ⟨S, fv, h1, h2, h3, h4, h5, h6, h7⟩ := h.out
  have c2 : w.cell? ⟨lb, 2, none⟩ = some fv := by simp [World.cell?, h7]
  have f2 : w.frozen? ⟨lb, 2, none⟩ = false := by simp [World.frozen?, h7]
  have g1 := heap_set (o := 2) h7 (.slice none 0 0)
  have c3 : (w.setCell ⟨lb, 2, none⟩ (.slice none 0 0)).cell? ⟨lb, 3, none⟩ = some (.int .i64 (wt : Int)) := by simp [World.cell?, g1]
  have f3 : (w.setCell ⟨lb, 2, none⟩ (.slice none 0 0)).frozen? ⟨lb, 3, none⟩ = false := by simp [World.frozen?, g1]
  have g2 := heap_set (o := 3) g1 (.int .i64 0)
  have K := Lib.hid (((Only.refl (fun k => k = lb) w).setCell (p := ⟨lb, 2, none⟩) (.inl rfl) (.slice none 0 0)).setCell (p := ⟨lb, 3, none⟩) (.inl rfl) (.int .i64 0))
  have R := Lib.hid (show Lg O ((w.setCell ⟨lb, 2, none⟩ (.slice none 0 0)).setCell ⟨lb, 3, none⟩ (.int .i64 0)) lb d s file [] 0 wr su from
    ⟨S, .slice none 0 0, h1.only K.out (fun j hj hs e => h4 (e ▸ hs)), h2, h3, h4, OffRow.nil _ _ _ _, fun g hg => by simp [Value.ownBlock] at hg, g2⟩)
  have K2 := Lib.hid (show Only O w _ from K.out.mono fun k hk e => e ▸ h3)
  obtain ⟨w2, hw2⟩ : ∃ w2, w2 = (w.setCell ⟨lb, 2, none⟩ (.slice none 0 0)).setCell ⟨lb, 3, none⟩ (.int .i64 0) := ⟨_, rfl⟩
  clear h1 h2 h3 h4 h5 h6 h7 g1 g2 K hw2
  go_enter Try.func31, Try.ntmps31
  go_wp2_with fail
  go_end0
  exact ⟨rfl, R.out, K2.out⟩

/-- A log's cells when its frames are another slice. -/
theorem Lg.framed {fv fv' : Value} {G : List UInt8} {w1 w2 : World} {S : Nat → Prop} {k : Nat} (h1 : Disk S w d s) (hS : ∀ k, S k → k < w.heap.size) (h2 : ∀ k, S k → O k) (h3 : O lb) (h4 : ¬ S lb) (h5 : OwnB w 0 fv F) (h6 : ∀ g, fv.ownBlock = some g → O g ∧ ¬ S g)
    (h7 : w.heap[lb]? = some (.cells #[.pointer (some ⟨d, 0, none⟩), .int .i64 file, fv, .int .i64 (wt : Int), .int .i64 (wr : Int), .int .i64 (su : Int)] 83 (0, 0)))
    (k1 : Below w.heap.size w w1) (hr : OwnB w2 0 fv' G) (hg : w1.grownBy w2 fv.ownBlock) (hat : fv'.ownBlock = fv.ownBlock ∨ fv'.ownBlock = some w1.heap.size) :
    Lg (New O w) ((w2.setCell ⟨lb, 2, none⟩ fv').setCell ⟨lb, 3, none⟩ (.int .i64 ((wt + 1 : Nat) : Int))) lb d s file G (wt + 1) wr su ∧ Only O w ((w2.setCell ⟨lb, 2, none⟩ fv').setCell ⟨lb, 3, none⟩ (.int .i64 ((wt + 1 : Nat) : Int))) ∧ w2.heap[lb]? = w.heap[lb]? := by
  have k2 : Only O w w2 := (Only.of_below (S := O) k1 (fun k hk hB => absurd hk (by omega))).grown hg fun j hj => .inl (h6 j hj).1
  have hlb : w2.heap[lb]? = w.heap[lb]? := by
    have hne : fv.ownBlock ≠ some lb := fun e => by
      obtain ⟨cur, hc⟩ := OffRow.tag h5 e
      rw [h7] at hc
      injection hc with hc
      injection hc with _ hc
      revert hc
      decide
    rw [← k1.block lb (heap_lt h7)]
    exact hg.block lb (Nat.lt_of_lt_of_le (heap_lt h7) k1.size) (fun e => hne e.symm)
  have g0 := hlb.trans h7
  have g1 := heap_set (o := 2) g0 fv'
  have g2 := heap_set (o := 3) g1 (.int .i64 ((wt + 1 : Nat) : Int))
  have hK : Only O w ((w2.setCell ⟨lb, 2, none⟩ fv').setCell ⟨lb, 3, none⟩ (.int .i64 ((wt + 1 : Nat) : Int))) := (k2.setCell (p := ⟨lb, 2, none⟩) (.inl h3) _).setCell (p := ⟨lb, 3, none⟩) (.inl h3) _
  -- the disk is kept: neither the log's block nor its row is of it
  have k3 : Only (fun k => ¬ S k) w ((w2.setCell ⟨lb, 2, none⟩ fv').setCell ⟨lb, 3, none⟩ (.int .i64 ((wt + 1 : Nat) : Int))) :=
    (((Only.of_below (S := fun k => ¬ S k) k1 (fun k hk hB => absurd hk (by omega))).grown hg fun j hj => .inl (h6 j hj).2).setCell (p := ⟨lb, 2, none⟩) (.inl h4) _).setCell (p := ⟨lb, 3, none⟩) (.inl h4) _
  have hgne : ∀ g, fv'.ownBlock = some g → g ≠ lb := fun g hg' e => by
    subst e
    obtain ⟨cur, hc⟩ := OffRow.tag hr hg'
    rw [g0] at hc
    injection hc with hc
    injection hc with _ hc
    revert hc
    decide
  refine ⟨⟨S, fv', h1.only k3 (fun j _ hs x => x hs), fun k hk => .inl (h2 k hk), .inl h3, h4, ?_, ?_, g2⟩, hK, hlb⟩
  · exact OffRow.kept hr fun j hj => (heap_set_other (hgne j hj) _).trans (heap_set_other (hgne j hj) _)
  · intro g hg'
    rcases hat with e | e
    · rw [e] at hg'; exact ⟨.inl (h6 g hg').1, (h6 g hg').2⟩
    · rw [e] at hg'
      injection hg' with hg'
      subst hg'
      exact ⟨.inr k1.size, fun x => by have := hS _ x; have := k1.size; omega⟩

/-- What Add leaves. -/
def AddPost (O : Nat → Prop) (w : World) (lb d : Nat) (s : DS) (file : Int) (F t : List UInt8) (wt wr su : Nat) (e : Ending) (w' : World) : Prop :=
  e = .returned (.int .i64 0) ∧ Lg (New O w) w' lb d s file (F ++ frameL t) (wt + 1) wr su ∧ Only O w w'
set_option maxHeartbeats 1000000 in
theorem log_Add {t : List UInt8} (h : Hid (Lg O w lb d s file F wt wr su)) (ht : t.length ≤ 1048576) (hF : F.length ≤ 1000000000) (hwt : wt ≤ 1000000000) : Calls Try.prog 24 #[.pointer (some ⟨lb, 0, none⟩), .string (bs t)] w fun e w' => AddPost O w lb d s file F t wt wr su e w' := by
  obtain ⟨S, fv, h1, h2, h3, h4, h5, h6, h7⟩ := h.out.tight
  have HO : ∀ k, O k ∧ k < w.heap.size → O k := fun _ x => x.1
  obtain ⟨q, hq⟩ : ∃ q, q = t.length := ⟨_, rfl⟩
  have hqz : (bs t).size = q := by rw [bs_size, hq]
  have hq2 : (q : Int) ≤ 1048576 := by omega
  have HA := Lib.hid (show ∀ (w1 w2 : World) fv', Below w.heap.size w w1 → OwnB w2 0 fv' (F ++ frameL t) → w1.grownBy w2 fv.ownBlock → (fv'.ownBlock = fv.ownBlock ∨ fv'.ownBlock = some w1.heap.size) → _ from
    fun w1 w2 fv' => Lg.framed (O := O) (lb := lb) (file := file) (wt := wt) (wr := wr) (su := su) (F := F) (G := F ++ frameL t) (k := 0) h1 (fun k hk => (h2 k hk).2) (fun k hk => (h2 k hk).1) h3.1 h4 h5 (fun g hg => ⟨(h6 g hg).1.1, (h6 g hg).2⟩) h7)
  have H5 := Lib.hid h5
  have H7 := Lib.hid h7
  have n2 : ∀ n : Seen w, n.val.cell? ⟨lb, 2, none⟩ = some fv := fun n => by rw [n.below.cell (p := ⟨lb, 2, none⟩) (heap_lt H7.out)]; simp [World.cell?, H7.out]
  have HFR := fun n : Seen w => Lib.hid (show Calls Try.prog 11 #[.string (bs t)] n.val fun e w' => e = .returned (.string (bs (frameL t))) ∧ ∃ m : Seen w, w' = m.val from (wal_Frame t n.val (by omega)).mono fun e w' ⟨h1, h2⟩ => ⟨h1, ⟨⟨w', n.below.trans (h2.mono n.below.size)⟩, rfl⟩⟩)
  obtain ⟨i0, hi, hz0, hz1, hz2⟩ := info_parts infoByte
  have HI := Lib.hid (And.intro hi (And.intro hz0 (And.intro hz1 hz2)))
  clear h1 h2 h3 h4 h5 h6 h7 hi hz0 hz1 hz2 hq
  go_enter Try.func24, Try.ntmps24
  go_wp2_with fail
  refine wp_region_first_tail 7 (.pointer (some ⟨lb, 0, none⟩)) (by kernel_rfl) (by kernel_rfl) (.inl ⟨rfl, fun w => rfl⟩) (fun _ _ _ h => h) ?_
  simp only [List.take_succ_cons, List.take_zero, List.drop_succ_cons, List.drop_zero, Nat.reduceSub]
  go_frame
  repeat go_big_quiet_step (first | (go_at_call 11; with_reducible exact (HFR _).out))
  refine wpQuiet_nil ?_
  rintro _ ⟨m1, rfl⟩
  have K1 := Lib.hid m1.below
  have O1 := Lib.hid (show OffRow m1.val 0 5 1 fv F.length (F.map byteV) from OffRow.kept H5.out fun j hj => m1.below.block j (OffRow.lt H5.out j hj).2)
  generalize m1.val = w1 at *
  clear n2 HFR
  obtain ⟨p, hp⟩ : ∃ p, p = (frameL t).length := ⟨_, rfl⟩
  have hp2 : p ≤ 2000000 := by have := frameL_le (r := t) (by omega); omega
  have HP := Lib.hid hp
  clear hp
  obtain ⟨hi, hz0, hz1, hz2⟩ := HI.out
  go_wp2_with (at_builtin; refine wpList_append_offS rfl (.tmp 14) (.tmp 16) 34 9 rfl 0 5 i0 _ 1 1 Try.underlying34 hi hz0 hz1 hz2 rfl fv F.length (F.map byteV) rfl O1.out (.string (bs (frameL t))) rfl (bs (frameL t)).size _ (Src.ofString _ Try.underlying9 (bs (frameL t))) ?c3 ?c4 (Nat.zero_le _) ?_)
  case c3 => rw [bs_size, ← HP.out]; unfold maxLen; omega
  case c4 => rw [bs_size, ← HP.out]; omega
  intro v7 w7 hr7 hg7 hat7
  obtain ⟨a7, cap7, hv7⟩ := OffRow.slice hr7
  have O7 : OwnB w7 0 v7 (F ++ frameL t) := by
    unfold OwnB
    rw [List.length_append, List.map_append, ← bs_size (frameL t)]
    exact hr7
  obtain ⟨R1, R2, R3⟩ := HA.out w1 w7 v7 K1.out O7 hg7 hat7
  have g0 := R3.trans H7.out
  have c2 : w7.cell? ⟨lb, 2, none⟩ = some fv := by simp [World.cell?, g0]
  have f2 : w7.frozen? ⟨lb, 2, none⟩ = false := by simp [World.frozen?, g0]
  have g1 := heap_set (o := 2) g0 v7
  have c3 : (w7.setCell ⟨lb, 2, none⟩ v7).cell? ⟨lb, 3, none⟩ = some (.int .i64 (wt : Int)) := by simp [World.cell?, g1]
  have f3 : (w7.setCell ⟨lb, 2, none⟩ v7).frozen? ⟨lb, 3, none⟩ = false := by simp [World.frozen?, g1]
  have R1 := Lib.hid R1
  have R2 := Lib.hid R2
  subst hv7
  clear hr7 hg7 hat7 hi hz0 hz1 hz2 O7 R3 g0 g1 HA
  go_wp2_with fail
  go_ret
  exact ⟨rfl, R1.out, R2.out⟩
end Go.Proofs.Ytkelcmncjhnbgaa
