/- Texts put together: WalReplay, WalReplaysWalk, WalPlayPlain, WalFullWalk, WalAppend -/
import Derived.Test.YtkelcmncjhnbgaaWPl08
/- A log made sure; a log begun; what is read of a file; logs and disks that are none. -/
set_option linter.unusedVariables false
set_option maxRecDepth 100000
namespace Go.Proofs.Ytkelcmncjhnbgaa
open Go.RowKit

section
variable {O : Nat → Prop} {w : World} {lb d wt wr su : Nat} {s : DS} {file : Int} {F : List UInt8}
/-- What Sync leaves. -/
def SyncPost (O : Nat → Prop) (w : World) (lb d : Nat) (s2 : DS) (z : Int) (file : Int) (F : List UInt8) (wt wr su : Nat) (e : Ending) (w' : World) : Prop :=
  e = .returned (.int .i64 z) ∧ (z ≠ 0 → Lg (New O w) w' lb d s2 file F wt wr su) ∧ (z = 0 → Lg (New O w) w' lb d s2 file F wt wr wr) ∧ Only O w w'
set_option maxHeartbeats 2000000 in
theorem log_Sync (h : Hid (Lg O w lb d s file F wt wr su)) (hw : (Lit.int .i64 file).wf = true) (hst : s.steps < 4611686018427387904) {s2 : DS} {z : Int} (hz : Hid (s.sync file = (s2, z))) :
    Calls Try.prog 30 #[.pointer (some ⟨lb, 0, none⟩)] w fun e w' => SyncPost O w lb d s2 z file F wt wr su e w' := by
  obtain ⟨S, fv, h1, h2, h3, h4, h5, h6, h7⟩ := h.out
  have hlt := heap_lt h7
  have HDID := Lib.hid (show ∀ (w1 w2 : World) (s2 : DS), Below w.heap.size w w1 → Disk (New S w1) w2 d s2 → Only S w1 w2 → Lg (New O w) w2 lb d s2 file F wt wr su ∧ Only O w w2 from fun w1 w2 s2 => Lg.did h2 h3 h4 h5 h6 h7)
  have n0 : ∀ n : Seen w, n.val.cell? ⟨lb, 0, none⟩ = some (.pointer (some ⟨d, 0, none⟩)) := fun n => by rw [n.below.cell (p := ⟨lb, 0, none⟩) hlt]; simp [World.cell?, h7]
  have n1 : ∀ n : Seen w, n.val.cell? ⟨lb, 1, none⟩ = some (.int .i64 file) := fun n => by rw [n.below.cell (p := ⟨lb, 1, none⟩) hlt]; simp [World.cell?, h7]
  have H1 := Lib.hid h1
  clear h1 h2 h3 h4 h5 h6 h7
  go_enter Try.func30, Try.ntmps30
  go_wp2_with fail
  refine wp_region_seen_tail 8 (by kernel_rfl) (by kernel_rfl) ?_
  simp only [List.take_succ_cons, List.take_zero, List.drop_succ_cons, List.drop_zero]
  repeat go_big_quiet_step (fail)
  refine wpQuiet_nil ?_
  rintro _ ⟨m1, rfl⟩
  have K1 := Lib.hid m1.below
  have D1 := Lib.hid (H1.out.below K1.out)
  generalize m1.val = w1 at *
  clear n0 n1 H1
  go_wp2_with fail
  refine (disk_Sync D1.out file hw hst).mono ?_
  rintro e w2 ⟨rfl, hd2, ho2⟩
  rw [hz.out] at hd2 ⊢
  obtain ⟨l2, o2⟩ := HDID.out w1 w2 s2 K1.out hd2 ho2
  have L2 := Lib.hid l2
  have O2 := Lib.hid o2
  clear hd2 ho2 l2 o2 HDID D1
  simp only
  by_cases hz0 : z = 0
  · subst hz0
    obtain ⟨S', fv', g1, g2, g3, g4, g5, g6, g7⟩ := L2.out
    have p4 : w2.cell? ⟨lb, 4, none⟩ = some (.int .i64 (wr : Int)) := by simp [World.cell?, g7]
    have p5 : w2.cell? ⟨lb, 5, none⟩ = some (.int .i64 (su : Int)) := by simp [World.cell?, g7]
    have f5 : w2.frozen? ⟨lb, 5, none⟩ = false := by simp [World.frozen?, g7]
    have o1 : Only (fun k => k = lb) w2 (w2.setCell ⟨lb, 5, none⟩ (.int .i64 (wr : Int))) := (Only.refl (fun k => k = lb) w2).setCell (p := ⟨lb, 5, none⟩) (.inl rfl) _
    have HL3 := Lib.hid (show Lg (New O w) (w2.setCell ⟨lb, 5, none⟩ (.int .i64 (wr : Int))) lb d s2 file F wt wr wr ∧ Only O w (w2.setCell ⟨lb, 5, none⟩ (.int .i64 (wr : Int))) from by
      refine ⟨⟨S', fv', g1.only o1 (fun j _ hs e => g4 (e ▸ hs)), g2, g3, g4, OffRow.kept g5 (fun j hj => o1.block j (OffRow.lt g5 j hj).2 fun e => ?_), g6, heap_set g7 _⟩, O2.out.andThen (o1.mono fun k hk e => e ▸ g3) (S' := New O w) fun j hj x => by rcases x with x | x; (exact x); (exact absurd hj (by omega))⟩
      subst e
      obtain ⟨cur, hc⟩ := OffRow.tag g5 hj
      rw [g7] at hc
      injection hc with hc
      injection hc with _ hc
      revert hc
      decide)
    clear g1 g2 g3 g4 g5 g6 g7 L2 o1
    go_wp2_with fail
    go_ret
    exact ⟨rfl, fun h => absurd rfl h, fun _ => HL3.out.1, HL3.out.2⟩
  · have hz1 : (z == 0) = false := beq_eq_false_iff_ne.2 hz0
    go_wp2_with fail
    go_ret
    exact ⟨rfl, fun _ => L2.out, fun h => absurd h hz0, O2.out⟩
end

/-- What Begin leaves. -/
def BeginPost (S : Nat → Prop) (w : World) (d : Nat) (s2 : DS) (z n : Int) (e : Ending) (w' : World) : Prop :=
  (z ≠ 0 ∧ e = .returned (.tuple #[.pointer none, .int .i64 z]) ∧ Disk (New S w) w' d s2 ∧ Only S w w') ∨
  (z = 0 ∧ ∃ lb, w.heap.size ≤ lb ∧ e = .returned (.tuple #[.pointer (some ⟨lb, 0, none⟩), .int .i64 0]) ∧ Lg (New S w) w' lb d s2 n [] 0 0 0 ∧ Only S w w')
set_option maxHeartbeats 2000000 in
theorem wal_Begin {S : Nat → Prop} {w : World} {d : Nat} {s s2 : DS} {t n z : Int} (h : Hid (Disk S w d s)) (hw : (Lit.int .i64 n).wf = true) (hst : s.steps < 4611686018427387904) (hz : Hid (s.make t n = (s2, z))) :
    Calls Try.prog 18 #[.pointer (some ⟨d, 0, none⟩), .int .i64 t, .int .i64 n] w fun e w' => BeginPost S w d s2 z n e w' := by
  go_enter Try.func18, Try.ntmps18
  go_wp2_with fail
  refine (disk_Make h.out t n hw (wf_hi hw).2 hst).mono ?_
  rintro e w2 ⟨rfl, hd2, ho2⟩
  rw [hz.out] at hd2 ⊢
  have D2 := Lib.hid hd2
  have O2 := Lib.hid ho2
  clear hd2 ho2
  simp only
  by_cases hz0 : z = 0
  · subst hz0
    have HL := Lib.hid (show Lg (New S w) (w2.alloc (.cells #[.pointer (some ⟨d, 0, none⟩), .int .i64 n, .slice none 0 0, .int .i64 0, .int .i64 0, .int .i64 0] 83)) w2.heap.size d s2 n [] 0 0 0 from
      ⟨fun k => New S w k ∧ k < w2.heap.size, .slice none 0 0, D2.out.tight.below ((Below.refl _ _).alloc (Nat.le_refl _) _), fun k hk => hk.1, .inr O2.out.size, fun x => Nat.lt_irrefl _ x.2, OffRow.nil _ _ _ _, fun g hg => by simp [Value.ownBlock] at hg, heap_new _ _⟩)
    have HO := Lib.hid (O2.out.alloc (.cells #[.pointer (some ⟨d, 0, none⟩), .int .i64 n, .slice none 0 0, .int .i64 0, .int .i64 0, .int .i64 0] 83))
    have hsz := Lib.hid O2.out.size
    go_wp2_with fail
    go_ret2
    exact .inr ⟨rfl, w2.heap.size, hsz.out, rfl, HL.out, HO.out⟩
  · have hz1 : (z == 0) = false := beq_eq_false_iff_ne.2 hz0
    go_wp2_with fail
    go_ret2
    exact .inl ⟨hz0, rfl, D2.out, O2.out⟩

/-- What Replay tells of a file that is there. -/
def ReplayPost (D : List UInt8) (w : World) (e : Ending) (w' : World) : Prop :=
  ∃ v, e = .returned (.tuple #[v, .bool (decide ((splitL D).2 = D.length)), .int .i64 0]) ∧ OwnT w' w.heap.size v (splitL D).1 ∧ Below w.heap.size w w'
theorem replay_ret {D : List UInt8} {w w' : World} {v : Value} {b : Bool} (h : decide ((splitL D).2 = D.length) = b) (o : OwnT w' w.heap.size v (splitL D).1) (k : Below w.heap.size w w') : ReplayPost D w (.returned (.tuple #[v, .bool b, .int .i64 0])) w' := ⟨v, by rw [h], o, k⟩
set_option maxHeartbeats 2000000 in
theorem wal_Replay {S : Nat → Prop} {w : World} {d : Nat} {s : DS} {n : Int} {f : DF} (h : Hid (Disk S w d s)) (hw : (Lit.int .i64 n).wf = true) (hd : s.down = false) (hf : findL n s.fs = some f) :
    Calls Try.prog 23 #[.pointer (some ⟨d, 0, none⟩), .int .i64 n] w fun e w' => ReplayPost f.data w e w' := by
  have hfl : f.data.length ≤ 67108864 := fit_len h.out.1 hf
  have HS := Lib.hid (show s.size n = ((f.data.length : Int), f.t, 0) by unfold DS.size; rw [if_neg (by rw [hd]; simp), hf])
  have HRD := Lib.hid (show s.read n 0 (f.data.length : Int) = (f.data, 0) by
    unfold DS.read
    rw [if_neg (by rw [hd]; simp), hf]
    simp only
    rw [if_neg (by omega)]
    simp)
  obtain ⟨D, hD⟩ : ∃ D, D = f.data := ⟨_, rfl⟩
  rw [← hD] at HRD HS hfl ⊢
  obtain ⟨q, hq⟩ : ∃ q, q = D.length := ⟨_, rfl⟩
  have HQ := Lib.hid hq
  rw [← hq] at HRD HS hfl
  clear hd hf hD hq
  go_enter Try.func23, Try.ntmps23
  go_wp2_with fail
  refine (disk_Size h.out n hw).mono ?_
  rintro e w1 ⟨rfl, m1, rfl⟩
  rw [HS.out]
  have D1 := Lib.hid (h.out.drewN m1)
  have K1 := Lib.hid (below_drewN (Below.refl w.heap.size w) m1)
  have hsz := Lib.hid (show (w.drewN m1).heap.size = w.heap.size from rfl)
  generalize w.drewN m1 = w1 at *
  go_wp2_with fail
  refine (disk_Read D1.out n 0 (q : Int) hw (by omega)).mono ?_
  rintro e w2 ⟨rfl, rfl⟩
  rw [HRD.out]
  go_wp2_with fail
  refine (wal_Split D w1 (by have := HQ.out; omega)).mono ?_
  rintro e w3 ⟨v, rfl, o3, k3⟩
  rw [hsz.out] at o3 k3
  have O3 := Lib.hid o3
  have K3 := Lib.hid (K1.out.trans k3)
  obtain ⟨av, cv, rfl, _⟩ := id o3.txs
  clear o3 k3
  obtain ⟨x, hx⟩ : ∃ x, x = (splitL D).2 := ⟨_, rfl⟩
  have HX := Lib.hid hx
  rw [← hx]
  clear hx
  by_cases hxq : x = q
  · have hxq' : ((x : Int) == (q : Int)) = true := by rw [hxq]; exact beq_self_eq_true _
    have HE := Lib.hid (show decide ((splitL D).2 = D.length) = true by rw [← HX.out, ← HQ.out]; exact decide_eq_true hxq)
    clear hxq
    go_wp2_with fail
    go_ret3
    exact replay_ret HE.out O3.out K3.out
  · have hxq' : ((x : Int) == (q : Int)) = false := beq_eq_false_iff_ne.2 (by omega)
    have HE := Lib.hid (show decide ((splitL D).2 = D.length) = false by rw [← HX.out, ← HQ.out]; exact decide_eq_false hxq)
    clear hxq
    go_wp2_with fail
    go_ret3
    exact replay_ret HE.out O3.out K3.out
set_option maxHeartbeats 1000000 in
theorem wal_Replay_none {S : Nat → Prop} {w : World} {d : Nat} {s : DS} {n : Int} (h : Hid (Disk S w d s)) (hw : (Lit.int .i64 n).wf = true) (hd : s.down = false) (hf : findL n s.fs = none) :
    Calls Try.prog 23 #[.pointer (some ⟨d, 0, none⟩), .int .i64 n] w fun e w' => e = .returned (.tuple #[.slice none 0 0, .bool false, .int .i64 9]) ∧ Below w.heap.size w w' := by
  have HS := Lib.hid (show s.size n = (0, 0, 9) by unfold DS.size; rw [if_neg (by rw [hd]; simp), hf])
  clear hd hf
  go_enter Try.func23, Try.ntmps23
  go_wp2_with fail
  refine (disk_Size h.out n hw).mono ?_
  rintro e w1 ⟨rfl, m1, rfl⟩
  rw [HS.out]
  have K1 := Lib.hid (below_drewN (Below.refl w.heap.size w) m1)
  generalize w.drewN m1 = w1 at *
  go_wp2_with fail
  go_ret3
  exact ⟨rfl, K1.out⟩
set_option maxHeartbeats 1000000 in
theorem wal_Replay_nil (n : Int) (w : World) : Calls Try.prog 23 #[.pointer none, .int .i64 n] w fun e w' => e = .returned (.tuple #[.slice none 0 0, .bool false, .int .i64 8]) ∧ Below w.heap.size w w' := by
  go_enter Try.func23, Try.ntmps23
  go_wp2_with fail
  refine (disk_Size_nil n w).mono ?_
  rintro e w1 ⟨rfl, rfl⟩
  go_wp2_with fail
  go_ret3
  exact ⟨rfl, Below.refl _ _⟩
theorem wal_Begin_nil (t n : Int) (w : World) : Calls Try.prog 18 #[.pointer none, .int .i64 t, .int .i64 n] w fun e w' => e = .returned (.tuple #[.pointer none, .int .i64 8]) ∧ w = w' := by
  go_enter Try.func18, Try.ntmps18
  go_wp2_with fail
  refine (disk_Make_nil t n w).mono ?_
  rintro e w1 ⟨rfl, rfl⟩
  go_wp2_with fail
  go_ret2
  exact ⟨rfl, rfl⟩
theorem log_nil_File (w : World) : Calls Try.prog 32 #[.pointer none] w fun e w' => e = .returned (.int .i64 0) ∧ w = w' := by
  go_enter Try.func32, Try.ntmps32
  go_wp2
  go_ret
  exact ⟨rfl, rfl⟩
theorem log_nil_Add (s : ByteArray) (w : World) : Calls Try.prog 24 #[.pointer none, .string s] w fun e w' => e = .returned (.int .i64 1) ∧ w = w' := by
  go_enter Try.func24, Try.ntmps24
  go_wp2
  go_ret
  exact ⟨rfl, rfl⟩
theorem log_nil_Write (w : World) : Calls Try.prog 26 #[.pointer none] w fun e w' => e = .returned (.int .i64 1) ∧ w = w' := by
  go_enter Try.func26, Try.ntmps26
  go_wp2
  go_ret
  exact ⟨rfl, rfl⟩
theorem log_nil_Sync (w : World) : Calls Try.prog 30 #[.pointer none] w fun e w' => e = .returned (.int .i64 1) ∧ w = w' := by
  go_enter Try.func30, Try.ntmps30
  go_wp2
  go_ret
  exact ⟨rfl, rfl⟩
theorem log_nil_Counts (w : World) : Calls Try.prog 27 #[.pointer none] w fun e w' => e = .returned (.tuple #[.int .i64 0, .int .i64 0, .int .i64 0]) ∧ w = w' := by
  go_enter Try.func27, Try.ntmps27
  go_wp2
  go_ret3
  exact ⟨rfl, rfl⟩
theorem log_nil_Clear (w : World) : Calls Try.prog 31 #[.pointer none] w fun e w' => e = .returned (.tuple #[]) ∧ w = w' := by
  go_enter Try.func31, Try.ntmps31
  go_wp2
  refine bodyPost_ret (results_none rfl _ _ _) rfl ?_
  exact ⟨rfl, rfl⟩
end Go.Proofs.Ytkelcmncjhnbgaa
/- WalReplays, walked: of any file's bytes the records are told that the document says, and whether they are all of it. -/
set_option linter.unusedVariables false
set_option maxRecDepth 100000
namespace Go.Proofs.Ytkelcmncjhnbgaa
open Go.RowKit

/-- A disk with one file. -/
def file1 (r : Nat) (b : List UInt8) (st : Nat) : DS := ⟨r, 0, [⟨1, 0, b, false, 0⟩], 0, st, -1, false⟩
theorem new_make {r : Nat} (hr : 1 ≤ r) : (DS.new r 0).make 0 1 = (file1 r [] 1, 0) := by
  unfold DS.make DS.new DS.room DS.used DS.tick file1
  simp [findL, usedL]
  omega
theorem file1_add {r st : Nat} (b : List UInt8) : (file1 r [] st).add 1 b = if r < blk b.length then (file1 r [] st, 7) else (file1 r b (st + 1), 0) := by
  have h1 : findL 1 (file1 r [] st).fs = some ⟨1, 0, [], false, 0⟩ := by simp [file1, findL]
  have hp := blk_pos b.length
  unfold DS.add
  rw [if_neg (by simp [file1]), h1]
  simp only [List.length_nil, Nat.zero_add, blk_zero]
  have hu : (file1 r [] st).room 0 = r := by simp [DS.room, file1]
  have hv : (file1 r [] st).used 0 = 1 := by simp [DS.used, file1, usedL, blk_zero]
  rw [hu, hv]
  by_cases h : r < blk b.length
  · rw [if_pos h, if_pos (by omega)]
  · rw [if_neg h, if_neg (by omega), if_neg (by simp [file1])]
    simp [file1, DS.tick, updL, addF]
theorem file1_find (r : Nat) (b : List UInt8) (st : Nat) : findL 1 (file1 r b st).fs = some ⟨1, 0, b, false, 0⟩ := by simp [file1, findL]
theorem file1_none (r : Nat) (b : List UInt8) (st : Nat) {n : Int} (h : n ≠ 1) : findL n (file1 r b st).fs = none := by
  simp [file1, findL]
  omega
theorem one_wf : (Lit.int .i64 1).wf = true := by decide
theorem wf_of {n : Int} (h1 : -9223372036854775808 ≤ n) (h2 : n ≤ 9223372036854775807) : (Lit.int .i64 n).wf = true := by
  simp [Lit.wf, IntKind.min, IntKind.max, IntKind.signed, IntKind.bits]
  omega
theorem frames_many : ∀ L : List (List UInt8), L.length ≤ (framesL L).length
  | [] => Nat.le_refl _
  | r :: L => by
    have := frameL_pos r
    have := frames_many L
    show L.length + 1 ≤ (frameL r ++ framesL L).length
    rw [List.length_append]; omega
theorem split_many (l : List UInt8) : (splitL l).1.length ≤ l.length := by
  obtain ⟨h1, h2, _⟩ := split_back _ l (Nat.le_refl _)
  have := frames_many (splitL l).1
  have := split_le l
  omega

set_option maxHeartbeats 4000000 in
theorem replays_walk (s : List UInt8) (hz : s.length ≤ 140737488351232) (file : Int) (hfile : -9223372036854775808 ≤ file ∧ file ≤ 9223372036854775807) (w : World) :
    Calls Try.prog 6 #[.string (bs s), .int .i64 file] w fun e w' => e = .returned (.bool true) ∧ Below w.heap.size w w' := by
  obtain ⟨q, hq⟩ : ∃ q, q = s.length := ⟨_, rfl⟩
  have hsz : (bs s).size = q := by rw [bs_size, hq]
  have HQ := Lib.hid hq
  rw [← hq] at hz
  clear hq
  go_enter Try.func6, Try.ntmps6
  go_wp2_with fail
  refine (law_awake w).mono ?_
  rintro e w1 ⟨rfl, k1⟩
  have K1 := Lib.hid k1
  clear k1
  by_cases hq3 : q ≤ 30000
  · have hq3' : (q : Int) ≤ 30000 := by omega
    go_wp2_with fail
    refine (show Calls Try.prog 17 #[.int .i64 1000, .int .i64 0] w1 _ from at_New 1000 0 w1 (by omega) (by omega)).mono ?_
    rintro e w2 ⟨d, rfl, d2, k2⟩
    have D2 := Lib.hid d2
    have K2 := Lib.hid (K1.out.trans (k2.mono K1.out.size))
    clear d2 k2
    go_wp2_with fail
    refine (at_Make D2.out 0 1 one_wf (by simp [DS.new])).mono ?_
    rintro e w3 ⟨rfl, d3, k3⟩
    rw [new_make (by omega)] at d3 ⊢
    have D3 := Lib.hid d3
    have K3 := Lib.hid (K2.out.trans (k3.mono K1.out.size))
    clear d3 k3 D2
    simp only
    go_wp2_with fail
    refine (at_Add D3.out 1 s one_wf (by simp [file1]) (by rw [← HQ.out]; omega)).mono ?_
    rintro e w4 ⟨rfl, d4, k4⟩
    have hnb : ¬ 1000 < blk s.length := by unfold blk; rw [← HQ.out]; omega
    rw [file1_add, if_neg hnb] at d4 ⊢
    have D4 := Lib.hid d4.1
    have K4 := Lib.hid (K3.out.trans (k4.mono K1.out.size))
    clear d4 k4 D3 hnb
    simp only
    by_cases hf1 : file = 1
    · subst hf1
      go_wp2_with fail
      refine (wal_Replay D4 one_wf (by rfl) (file1_find _ _ _)).mono ?_
      rintro e w5 ⟨v, rfl, o5, k5⟩
      have K5 := Lib.hid (K4.out.trans (k5.mono K4.out.size))
      have T5 := Lib.hid o5.txs
      clear o5 k5
      obtain ⟨a5, c5, rfl, _⟩ := id T5.out
      go_wp2_with fail
      refine (ref_Split s w5 (by rw [← HQ.out]; omega)).mono ?_
      rintro e w6 ⟨v, rfl, o6, k6⟩
      have K6 := Lib.hid (K5.out.trans (k6.mono K5.out.size))
      have T6 := Lib.hid (T5.out.below k6)
      have S6 := Lib.hid o6.txs
      clear o6 k6 T5
      obtain ⟨a6, c6, rfl, _⟩ := id S6.out
      obtain ⟨x, hx⟩ : ∃ x, x = (splitL s).2 := ⟨_, rfl⟩
      have hmany := Lib.hid (split_many s)
      have HX := Lib.hid hx
      rw [← hx, ← HQ.out]
      clear hx
      go_wp2_with fail
      refine (ref_Same T6.out S6.out (by have := hmany.out; have := HQ.out; omega)).mono ?_
      rintro e w7 ⟨rfl, k7⟩
      have K7 := Lib.hid (K6.out.trans (k7.mono K6.out.size))
      clear k7
      by_cases hxq : x = q
      · have hxq' : ((x : Int) == (q : Int)) = true := by rw [hxq]; exact beq_self_eq_true _
        have hxd : decide (x = q) = true := decide_eq_true hxq
        clear hxq
        rw [hxd]
        go_wp2_with fail
        go_ret
        exact ⟨rfl, K7.out⟩
      · have hxq' : ((x : Int) == (q : Int)) = false := beq_eq_false_iff_ne.2 (by omega)
        have hxd : decide (x = q) = false := decide_eq_false hxq
        clear hxq
        rw [hxd]
        go_wp2_with fail
        go_ret
        exact ⟨rfl, K7.out⟩
    · have hf1' : (file == 1) = false := beq_eq_false_iff_ne.2 hf1
      go_wp2_with fail
      refine (wal_Replay_none D4 (wf_of hfile.1 hfile.2) (by rfl) (file1_none _ _ _ hf1)).mono ?_
      rintro e w5 ⟨rfl, k5⟩
      have K5 := Lib.hid (K4.out.trans (k5.mono K4.out.size))
      clear k5
      go_wp2_with fail
      go_ret
      exact ⟨rfl, K5.out⟩
  · have hq3' : (30000 : Int) < (q : Int) := by omega
    go_wp2_with fail
    refine (law_awake w1).mono ?_
    rintro e w3 ⟨rfl, k3⟩
    go_wp2
    go_ret
    exact ⟨rfl, K1.out.trans (k3.mono K1.out.size)⟩
end Go.Proofs.Ytkelcmncjhnbgaa
/- A log on a disk whose power may go, in plain words: what each call makes of it, and what stands behind any loss of power. -/
set_option linter.unusedVariables false
set_option maxRecDepth 100000
namespace Go.Proofs.Ytkelcmncjhnbgaa

/-- A disk, a log's file, and the records that wait, were written, were perhaps written; how many are sure. -/
structure PS where
  s : DS
  file : Int
  wait : List (List UInt8)
  writ : List (List UInt8)
  may : List (List UInt8)
  sure : Nat
/-- The files' bytes, and something for each file. -/
def DV : List DF → Nat
  | [] => 0
  | f :: r => 127 + f.data.length + DV r
theorem DV_append : ∀ a b : List DF, DV (a ++ b) = DV a + DV b
  | [], b => by simp [DV]
  | f :: r, b => by show 127 + f.data.length + DV (r ++ b) = 127 + f.data.length + DV r + DV b; rw [DV_append r b]; omega
theorem DV_used (t : Int) : ∀ fs : List DF, 64 * usedL t fs ≤ DV fs
  | [] => by simp [usedL]
  | f :: r => by
    have ih := DV_used t r
    have hb : 64 * blk f.data.length ≤ 127 + f.data.length := by unfold blk; omega
    show 64 * ((if f.t = t then blk f.data.length else 0) + usedL t r) ≤ 127 + f.data.length + DV r
    split <;> omega
theorem DV_upd {n : Int} {g : DF → DF} {b : List UInt8} : ∀ {l : List DF} {f : DF}, (l.map (·.n)).Nodup → findL n l = some f → (g f).data = f.data ++ b → DV (updL n g l) = DV l + b.length
  | [], f, _, h, _ => by cases h
  | a :: r, f, hn, h, hd => by
    have hn' : (∀ x ∈ r, x.n ≠ a.n) ∧ (r.map (·.n)).Nodup := by
      rw [List.map_cons, List.nodup_cons] at hn
      exact ⟨fun x hx e => hn.1 (List.mem_map.2 ⟨x, hx, e⟩), hn.2⟩
    unfold findL at h
    show DV ((if a.n = n then g a else a) :: updL n g r) = _
    by_cases ha : a.n = n
    · rw [if_pos ha] at h
      cases h
      rw [if_pos ha, upd_none g (fun x hx e => hn'.1 x hx (e.trans ha.symm))]
      show 127 + (g a).data.length + DV r = 127 + a.data.length + DV r + b.length
      rw [hd, List.length_append]
      omega
    · rw [if_neg ha] at h
      rw [if_neg ha]
      show 127 + a.data.length + DV (updL n g r) = 127 + a.data.length + DV r + b.length
      rw [DV_upd hn'.2 h hd]
      omega
theorem DV_same {n : Int} {g : DF → DF} (hd : ∀ f, (g f).data = f.data) : ∀ l : List DF, DV (updL n g l) = DV l
  | [] => rfl
  | a :: r => by
    show DV ((if a.n = n then g a else a) :: updL n g r) = _
    have : (if a.n = n then g a else a).data = a.data := by split; (exact hd a); rfl
    show 127 + (if a.n = n then g a else a).data.length + DV (updL n g r) = 127 + a.data.length + DV r
    rw [this, DV_same hd r]
theorem DV_back (ks : List (Int × Int)) : ∀ fs : List DF, DV (fs.filterMap (backF ks)) ≤ DV fs
  | [] => Nat.le_refl _
  | a :: r => by
    have ih := DV_back ks r
    cases hb : backF ks a with
    | none => rw [List.filterMap_cons_none hb]; show _ ≤ 127 + a.data.length + DV r; omega
    | some g =>
      rw [List.filterMap_cons_some hb]
      have := (backF_n hb).2.2
      show 127 + g.data.length + DV (r.filterMap (backF ks)) ≤ 127 + a.data.length + DV r
      omega

/-- What holds of it behind K calls with so many bytes. -/
structure PS.Ok (p : PS) (K N : Nat) : Prop where
  r0 : p.s.r0 = 20000
  lo : 1 ≤ p.file
  hi : p.file ≤ K + 1
  top : ∀ f ∈ p.s.fs, f.n ≤ p.file
  here : ∃ f, findL p.file p.s.fs = some f ∧ f.data = framesL (p.writ ++ p.may) ∧ f.sb = (framesL (p.writ.take p.sure)).length
  sureR : p.sure ≤ p.writ.length
  calm : p.s.down = false → p.may = []
  small : (∀ r ∈ p.wait, r.length ≤ 30000) ∧ (∀ r ∈ p.writ, r.length ≤ 30000) ∧ (∀ r ∈ p.may, r.length ≤ 30000)
  lens : p.wait.length + p.writ.length ≤ K ∧ p.may.length ≤ K
  steps : p.s.steps ≤ 2 * K + 1
  bulk : DV p.s.fs + (if p.s.down = true then 0 else (framesL p.wait).length) ≤ 127 * (K + 1) + N
namespace PS.Ok
variable {p : PS} {K N : Nat}
theorem more (h : p.Ok K N) (x : Nat) : p.Ok (K + 1) (N + x) :=
  ⟨h.r0, h.lo, by have := h.hi; omega, h.top, h.here, h.sureR, h.calm, h.small, ⟨by have := h.lens.1; omega, by have := h.lens.2; omega⟩, by have := h.steps; omega, by have := h.bulk; omega⟩
theorem add (h : p.Ok K N) {t : List UInt8} (ht : t.length ≤ 30000) : PS.Ok { p with wait := p.wait ++ [t] } (K + 1) (N + (t.length + 15)) := by
  refine ⟨h.r0, h.lo, by have := h.hi; simp only; omega, h.top, h.here, h.sureR, h.calm, ⟨fun r hr => ?_, h.small.2⟩, ⟨by have := h.lens.1; simp only [List.length_append, List.length_singleton]; omega, by have := h.lens.2; simp only; omega⟩, by have := h.steps; simp only; omega, ?_⟩
  · rcases List.mem_append.1 hr with hr | hr
    · exact h.small.1 r hr
    · rw [List.mem_singleton.1 hr]; exact ht
  · have h1 := h.bulk
    have h2 := frameL_le (r := t) (by omega)
    simp only [framesL_append, framesL_one, List.length_append]
    split at h1 <;> rename_i hd
    · rw [if_pos hd]; omega
    · rw [if_neg hd]; omega
theorem clear (h : p.Ok K N) : PS.Ok { p with wait := [] } K N := by
  refine ⟨h.r0, h.lo, h.hi, h.top, h.here, h.sureR, h.calm, ⟨(fun r hr => by cases hr), h.small.2⟩, ⟨by have := h.lens.1; simp only [List.length_nil]; omega, h.lens.2⟩, h.steps, ?_⟩
  have h1 := h.bulk
  simp only [framesL, List.length_nil]
  split at h1 <;> rename_i hd
  · rw [if_pos hd]; omega
  · rw [if_neg hd]; omega
theorem arm (h : p.Ok K N) (n : Int) : PS.Ok { p with s := p.s.arm n } K N := ⟨h.r0, h.lo, h.hi, h.top, h.here, h.sureR, h.calm, h.small, h.lens, h.steps, h.bulk⟩
theorem waits (h : p.Ok K N) (hK : K ≤ 1000) : (framesL p.wait).length ≤ 40000000 := by
  have h1 := frames_len p.wait (fun t ht => by have := h.small.1 t ht; omega)
  have h2 : ∀ T : List (List UInt8), (∀ t ∈ T, t.length ≤ 30000) → totalT T ≤ 30000 * T.length := by
    intro T
    induction T with
    | nil => intro _; simp [totalT]
    | cons a T ih =>
      intro hT
      have := ih (fun t ht => hT t (List.mem_cons_of_mem _ ht))
      have := hT a (List.mem_cons_self ..)
      show a.length + totalT T ≤ 30000 * (T.length + 1)
      omega
  have := h2 p.wait h.small.1
  have := h.lens.1
  omega
end PS.Ok

theorem top_upd {n : Int} {g : DF → DF} (hg : ∀ f, (g f).n = f.n) {fs : List DF} {m : Int} (h : ∀ f ∈ fs, f.n ≤ m) : ∀ f ∈ updL n g fs, f.n ≤ m := by
  intro f hf
  rcases upd_mem hf with ⟨x, hx, _, rfl⟩ | ⟨hx, _⟩
  · rw [hg]; exact h x hx
  · exact h f hx

/-- What Write comes to. -/
theorem write_cases {p : PS} {K N : Nat} (h : p.Ok K N) (hF : p.s.Fit) : ∃ s2 z, p.s.add p.file (framesL p.wait) = (s2, z) ∧
    ((z = 0 ∧ p.s.down = false ∧ s2.down = false ∧ s2.steps = p.s.steps + 1 ∧ PS.Ok { p with s := s2, writ := p.writ ++ p.wait, wait := [] } (K + 1) N) ∨
     (z = 7 ∧ s2 = p.s ∧ p.s.down = false) ∨ (z = 8 ∧ p.s.down = true ∧ s2 = p.s) ∨
     (z = 8 ∧ p.s.down = false ∧ s2.down = true ∧ s2.steps = p.s.steps ∧ PS.Ok { p with s := s2, may := p.wait } (K + 1) N)) := by
  obtain ⟨f, hf, hd, hsb⟩ := h.here
  cases hdn : p.s.down with
  | true => exact ⟨p.s, 8, by unfold DS.add; rw [if_pos hdn], .inr (.inr (.inl ⟨rfl, rfl, rfl⟩))⟩
  | false =>
    have hm : p.may = [] := h.calm hdn
    have hb := h.bulk
    rw [if_neg (by rw [hdn]; simp)] at hb
    have hdv : DV (updL p.file (addF (framesL p.wait)) p.s.fs) = DV p.s.fs + (framesL p.wait).length := DV_upd hF.nod hf rfl
    have hnew : findL p.file (updL p.file (addF (framesL p.wait)) p.s.fs) = some (addF (framesL p.wait) f) := find_upd (g := addF (framesL p.wait)) (fun _ => rfl) hf
    have htop := top_upd (n := p.file) (g := addF (framesL p.wait)) (fun _ => rfl) h.top
    by_cases hfull : p.s.room f.t < p.s.used f.t + (blk (f.data.length + (framesL p.wait).length) - blk f.data.length)
    · exact ⟨p.s, 7, by unfold DS.add; rw [if_neg (by rw [hdn]; simp), hf]; simp only; rw [if_pos hfull], .inr (.inl ⟨rfl, rfl, rfl⟩)⟩
    · by_cases hl : p.s.left = 0
      · refine ⟨{ p.s.off with fs := updL p.file (addF (framesL p.wait)) p.s.fs }, 8, by unfold DS.add; rw [if_neg (by rw [hdn]; simp), hf]; simp only; rw [if_neg hfull, if_pos hl], .inr (.inr (.inr ⟨rfl, rfl, rfl, rfl, ?_⟩))⟩
        refine ⟨h.r0, h.lo, by have := h.hi; simp only; omega, htop, ⟨_, hnew, ?_, ?_⟩, h.sureR, (fun x => by cases x), ⟨h.small.1, h.small.2.1, h.small.1⟩, ⟨by have := h.lens.1; simp only; omega, by have := h.lens.1; simp only; omega⟩, by have := h.steps; simp only [DS.off]; omega, ?_⟩
        · show f.data ++ framesL p.wait = framesL (p.writ ++ p.wait)
          rw [hd, hm, List.append_nil, framesL_append]
        · exact hsb
        · show DV (updL p.file (addF (framesL p.wait)) p.s.fs) + (if (true : Bool) = true then 0 else (framesL p.wait).length) ≤ 127 * (K + 1 + 1) + N
          rw [if_pos rfl, hdv]
          omega
      · refine ⟨{ p.s.tick with fs := updL p.file (addF (framesL p.wait)) p.s.fs }, 0, by unfold DS.add; rw [if_neg (by rw [hdn]; simp), hf]; simp only; rw [if_neg hfull, if_neg hl], .inl ⟨rfl, rfl, hdn, rfl, ?_⟩⟩
        refine ⟨h.r0, h.lo, by have := h.hi; simp only; omega, htop, ⟨_, hnew, ?_, ?_⟩, by have := h.sureR; simp only [List.length_append]; omega, (fun _ => hm), ⟨(fun r hr => by cases hr), fun r hr => ?_, h.small.2.2⟩, ⟨by have := h.lens.1; simp only [List.length_append, List.length_nil]; omega, by have := h.lens.2; simp only; omega⟩, by have := h.steps; simp only [DS.tick]; omega, ?_⟩
        · show f.data ++ framesL p.wait = framesL ((p.writ ++ p.wait) ++ p.may)
          rw [hd, hm, List.append_nil, List.append_nil, framesL_append]
        · show f.sb = _
          rw [hsb, List.take_append_of_le_length h.sureR]
        · rcases List.mem_append.1 hr with hr | hr
          · exact h.small.2.1 r hr
          · exact h.small.1 r hr
        · have : ({ p.s.tick with fs := updL p.file (addF (framesL p.wait)) p.s.fs } : DS).down = false := hdn
          simp only [framesL, List.length_nil]
          rw [hdv]
          split <;> omega
/-- What Sync comes to. -/
theorem sync_cases {p : PS} {K N : Nat} (h : p.Ok K N) (hF : p.s.Fit) : ∃ s2 z, p.s.sync p.file = (s2, z) ∧
    ((z = 0 ∧ p.s.down = false ∧ PS.Ok { p with s := s2, sure := p.writ.length } (K + 1) N) ∨ (z = 8 ∧ (s2.down = false → p.s.down = false) ∧ PS.Ok { p with s := s2 } (K + 1) N)) := by
  obtain ⟨f, hf, hd, hsb⟩ := h.here
  cases hdn : p.s.down with
  | true => exact ⟨p.s, 8, by unfold DS.sync; rw [if_pos hdn], .inr ⟨rfl, fun x => absurd (hdn.symm.trans x) (by simp), h.more 0⟩⟩
  | false =>
    have hm : p.may = [] := h.calm hdn
    have hb := h.bulk
    rw [if_neg (by rw [hdn]; simp)] at hb
    by_cases hl : p.s.left = 0
    · refine ⟨p.s.off, 8, by unfold DS.sync; rw [if_neg (by rw [hdn]; simp), hf]; simp only; rw [if_pos hl], .inr ⟨rfl, fun _ => rfl, ?_⟩⟩
      exact ⟨h.r0, h.lo, by have := h.hi; simp only; omega, h.top, ⟨f, hf, hd, hsb⟩, h.sureR, (fun x => by cases x), h.small, ⟨by have := h.lens.1; simp only; omega, by have := h.lens.2; simp only; omega⟩, by have := h.steps; simp only [DS.off]; omega, by
        show DV p.s.fs + (if (true : Bool) = true then 0 else (framesL p.wait).length) ≤ 127 * (K + 1 + 1) + N
        rw [if_pos rfl]
        omega⟩
    · refine ⟨{ p.s.tick with fs := updL p.file syncF p.s.fs }, 0, by unfold DS.sync; rw [if_neg (by rw [hdn]; simp), hf]; simp only; rw [if_neg hl], .inl ⟨rfl, rfl, ?_⟩⟩
      refine ⟨h.r0, h.lo, by have := h.hi; simp only; omega, top_upd (n := p.file) (g := syncF) (fun _ => rfl) h.top, ⟨_, find_upd (g := syncF) (fun _ => rfl) hf, ?_, ?_⟩, Nat.le_refl _, (fun _ => hm), h.small, ⟨by have := h.lens.1; simp only; omega, by have := h.lens.2; simp only; omega⟩, by have := h.steps; simp only [DS.tick]; omega, ?_⟩
      · exact hd
      · show f.data.length = (framesL (p.writ.take p.writ.length)).length
        rw [hd, hm, List.append_nil, List.take_length]
      · simp only
        rw [DV_same (g := syncF) (fun _ => rfl)]
        split <;> omega

/-- Behind a loss of power: the file bears the first ones of the records, the sure ones all; and there is room for another. -/
theorem back_cases {p : PS} {K N : Nat} (h : p.Ok K N) (hF : p.s.Fit) (hK : K ≤ 300) (hN : N ≤ 100000) (n : Int) : ∃ f m s4, findL p.file (p.s.back [(p.file, n)]).fs = some f ∧ (splitL f.data).1 = (p.writ ++ p.may).take m ∧ p.sure ≤ m ∧ m ≤ (p.writ ++ p.may).length ∧
    (p.s.back [(p.file, n)]).make 0 (p.file + 1) = (s4, 0) ∧ s4.down = false ∧ PS.Ok ⟨s4, p.file + 1, [], [], [], 0⟩ (K + 1) N := by
  obtain ⟨f, hf, hd, hsb⟩ := h.here
  have hn := (findL_mem hf).2
  have h1 : findL p.file (p.s.back [(p.file, n)]).fs = some (loseF (most [(p.file, n)] f.n) f) := by
    show findL p.file (p.s.fs.filterMap (backF [(p.file, n)])) = _
    rw [back_find hF.nod, hf]
    show backF [(p.file, n)] f = _
    unfold backF
    rw [if_neg (by simp [keepOf, hn])]
  have hsbl := (hF.file f (findL_mem hf).1).2.1
  obtain ⟨k1, k2⟩ := keptLen_le (k := most [(p.file, n)] f.n) hsbl
  obtain ⟨g, hg⟩ : ∃ g, g = loseF (most [(p.file, n)] f.n) f := ⟨_, rfl⟩
  rw [← hg] at h1
  have hdata : ∃ k, g.data = f.data.take k ∧ f.sb ≤ k := ⟨_, by rw [hg, loseF_eq], k2⟩
  obtain ⟨k, hk1, hk2⟩ := hdata
  have hall : ∀ r ∈ p.writ ++ p.may, r.length ≤ 1048576 := by
    intro r hr
    rcases List.mem_append.1 hr with hr | hr
    · have := h.small.2.1 r hr; omega
    · have := h.small.2.2 r hr; omega
  have hsp : (splitL g.data).1 = (p.writ ++ p.may).take (wholeN (p.writ ++ p.may) k) := by rw [hk1, hd, split_cut _ _ hall]
  have hsl : p.sure ≤ (p.writ ++ p.may).length := by have := h.sureR; rw [List.length_append]; omega
  have hsu : p.sure ≤ wholeN (p.writ ++ p.may) k := (whole_iff _ _ _ hsl).2 (by rw [List.take_append_of_le_length h.sureR, ← hsb]; exact hk2)
  -- the next file
  have htop3 : ∀ x ∈ (p.s.back [(p.file, n)]).fs, x.n ≤ p.file := by
    intro x hx
    obtain ⟨y, hy, he⟩ := List.mem_filterMap.1 hx
    rw [(backF_n he).1]
    exact h.top y hy
  have hno : findL (p.file + 1) (p.s.back [(p.file, n)]).fs = none := by
    cases hx : findL (p.file + 1) (p.s.back [(p.file, n)]).fs with
    | none => rfl
    | some x =>
      obtain ⟨a, b⟩ := findL_mem hx
      have := htop3 x a
      omega
  have hdv : DV (p.s.back [(p.file, n)]).fs ≤ DV p.s.fs := DV_back _ _
  have hb := h.bulk
  have hus := DV_used 0 (p.s.back [(p.file, n)]).fs
  have hroom : ¬ (p.s.back [(p.file, n)]).room 0 ≤ (p.s.back [(p.file, n)]).used 0 := by
    have e1 : (p.s.back [(p.file, n)]).room 0 = 20000 := by unfold DS.room; rw [if_pos rfl]; exact h.r0
    rw [e1]
    unfold DS.used
    omega
  have hlo := h.lo
  refine ⟨g, wholeN (p.writ ++ p.may) k, { (p.s.back [(p.file, n)]).tick with fs := (p.s.back [(p.file, n)]).fs ++ [⟨p.file + 1, 0, [], false, 0⟩] }, h1, hsp, hsu, whole_le _ _, ?_, rfl, ?_⟩
  · unfold DS.make
    rw [if_neg (by simp [DS.back]), if_neg (by omega), hno, if_neg (by simp), if_neg hroom, if_neg (by simp [DS.back])]
  · refine ⟨h.r0, by show 1 ≤ p.file + 1; omega, by have := h.hi; simp only; omega, fun x hx => ?_, ⟨⟨p.file + 1, 0, [], false, 0⟩, find_new (x := ⟨p.file + 1, 0, [], false, 0⟩) rfl hno, rfl, rfl⟩, Nat.le_refl _, fun _ => rfl, ⟨(fun r hr => by cases hr), (fun r hr => by cases hr), (fun r hr => by cases hr)⟩, ⟨by simp, by simp⟩, by have := h.steps; simp only [DS.tick, DS.back]; omega, ?_⟩
    · rcases List.mem_append.1 hx with hx | hx
      · have := htop3 x hx
        show x.n ≤ p.file + 1
        omega
      · rw [List.mem_singleton.1 hx]
        exact Int.le_refl _
    · simp only [framesL, List.length_nil]
      rw [DV_append]
      simp only [DV, List.length_nil]
      have : (if p.s.down = true then 0 else (framesL p.wait).length) ≥ 0 := Nat.zero_le _
      split <;> omega
theorem ok_start : PS.Ok ⟨file1 20000 [] 1, 1, [], [], [], 0⟩ 0 0 := by
  refine ⟨rfl, by decide, by decide, ?_, ⟨⟨1, 0, [], false, 0⟩, file1_find _ _ _, rfl, rfl⟩, Nat.le_refl _, fun _ => rfl, ⟨(fun r hr => by cases hr), (fun r hr => by cases hr), (fun r hr => by cases hr)⟩, ⟨by simp, by simp⟩, by simp [file1], by simp [file1, DV, framesL]⟩
  intro f hf
  simp [file1] at hf
  rw [hf]
  exact Int.le_refl _
end Go.Proofs.Ytkelcmncjhnbgaa
/- WalFull, walked: a group for which there is no room is not written, waits, and is written where there is room. -/
set_option linter.unusedVariables false
set_option maxRecDepth 100000
namespace Go.Proofs.Ytkelcmncjhnbgaa
open Go.RowKit

theorem Lg.low {B lb d wt wr su : Nat} {w w' : World} {s : DS} {file : Int} {F : List UInt8} (h : Lg (New (fun k => B ≤ k) w) w' lb d s file F wt wr su) (hB : B ≤ w.heap.size) : Lg (fun k => B ≤ k) w' lb d s file F wt wr su :=
  h.mono fun k _ hk => by rcases hk with hk | hk; (exact hk); (exact Nat.le_trans hB hk)
theorem Lg.disk {O : Nat → Prop} {w : World} {lb d wt wr su : Nat} {s : DS} {file : Int} {F : List UInt8} (h : Lg O w lb d s file F wt wr su) : ∃ S, Disk S w d s := by
  obtain ⟨S, fv, h1, _⟩ := h
  exact ⟨S, h1⟩
theorem file1_sync (r : Nat) (b : List UInt8) (st : Nat) : ∃ s2, (file1 r b st).sync 1 = (s2, 0) := by
  unfold DS.sync
  rw [if_neg (by simp [file1]), file1_find]
  simp only
  rw [if_neg (by simp [file1])]
  exact ⟨_, rfl⟩
theorem file1_size (r : Nat) (b : List UInt8) (st : Nat) : (file1 r b st).size 1 = ((b.length : Int), 0, 0) := by
  unfold DS.size
  rw [if_neg (by simp [file1]), file1_find]
theorem file1_read (r : Nat) (b : List UInt8) (st : Nat) : (file1 r b st).read 1 0 (b.length : Int) = (b, 0) := by
  unfold DS.read
  rw [if_neg (by simp [file1]), file1_find]
  simp only
  rw [if_neg (by omega)]
  simp

set_option maxHeartbeats 8000000 in
theorem full_walk {a : Option Addr} {len cap : Nat} {T : List (List UInt8)} {w : World} (h : Hid (TxV w (.slice a len cap) T)) (hbig : len ≤ 9223372036854775807) (hs : Hid (∀ t ∈ T, t.length ≤ 9223372036854775807)) (x : Int) (hx : 0 ≤ x ∧ x ≤ 255) :
    Calls Try.prog 7 #[.slice a len cap, .int .u8 x] w fun e w' => e = .returned (.bool true) ∧ Below w.heap.size w w' := by
  obtain ⟨r, hr⟩ : ∃ r : Nat, (1 : Int) + x = (r : Int) := ⟨(1 + x).toNat, by omega⟩
  have hr1 : 1 ≤ r ∧ r ≤ 256 := by omega
  go_enter Try.func7, Try.ntmps7
  go_wp2_with fail
  refine (law_awake w).mono ?_
  rintro e w1 ⟨rfl, k1⟩
  have K1 := Lib.hid k1
  clear k1
  go_wp2_with fail
  refine (law_few (Lib.hid (h.out.below K1.out)) hbig hs).mono ?_
  rintro e w2 ⟨b, rfl, hb, rfl⟩
  have HB := Lib.hid hb
  clear hb
  have stop : ∀ w1 : World, Hid (Below w.heap.size w w1) → Calls Try.prog 9 #[] w1 fun e w' => e = .returned (.bool true) ∧ Below w.heap.size w w' := fun w1 k => (law_awake w1).mono fun e w' ⟨h1, h2⟩ => ⟨h1, k.out.trans (h2.mono k.out.size)⟩
  cases b with
  | false =>
    go_wp2_with fail
    refine (stop w1 K1).mono ?_
    rintro e w3 ⟨rfl, k3⟩
    go_wp2
    go_ret
    exact ⟨rfl, k3⟩
  | true =>
    by_cases hl0 : len = 0
    · have hl0' : ((len : Int) == 0) = true := by rw [hl0]; rfl
      clear hl0
      go_wp2_with fail
      refine (stop w1 K1).mono ?_
      rintro e w3 ⟨rfl, k3⟩
      go_wp2
      go_ret
      exact ⟨rfl, k3⟩
    · have hl0' : ((len : Int) == 0) = false := beq_eq_false_iff_ne.2 (by omega)
      have HF := Lib.hid (HB.out rfl)
      have HL := Lib.hid h.out.len
      have hlen : len ≤ 200 := by rw [HL.out]; exact HF.out.len
      clear HB stop
      obtain ⟨B, hBw⟩ : ∃ B, B = w.heap.size := ⟨_, rfl⟩
      go_wp2_with fail
      refine (at_New r 0 w1 (by omega) (by omega)).mono ?_
      rintro e w2 ⟨d, rfl, d2, k2⟩
      have D2 := Lib.hid (show Disk (fun k => w.heap.size ≤ k) w2 d (DS.new r 0) from d2.1.mono fun k _ hk => Nat.le_trans K1.out.size hk)
      have K2 := Lib.hid (K1.out.trans (k2.mono K1.out.size))
      clear d2 k2
      go_wp2_with fail
      refine (wal_Begin D2 one_wf (by simp [DS.new]) (Lib.hid (new_make hr1.1))).mono ?_
      rintro e w3 (⟨hz, _⟩ | ⟨_, lb, hlb, rfl, l3, o3⟩)
      · exact absurd rfl hz
      · have L3 := Lib.hid (l3.low K2.out.size)
        have K3 := Lib.hid (K2.out.trans (o3.below (B := w.heap.size) (fun k _ hk => hk) K2.out.size))
        clear l3 o3 D2 K2 K1 hlb
        go_wp2_with fail
        go_loopw [9, 10] (fun av iv wr => ∃ i : Nat, i ≤ len ∧ iv = .int .i64 (i : Int) ∧ av = .string (bs (framesL (T.take i))) ∧ Hid (Below w.heap.size w wr ∧ Lg (fun k => w.heap.size ≤ k) wr lb d (file1 r [] 1) 1 (framesL (T.take i)) i 0 0)) (fun av iv wr => len - (intOf iv).toNat)
        case atStart => exact ⟨0, Nat.zero_le _, rfl, rfl, Lib.hid ⟨K3.out, L3.out⟩⟩
        case round =>
          clear K3 L3
          obtain ⟨i, hi, rfl, rfl, hK⟩ := hrel
          rcases Nat.lt_or_ge i len with hlt | hge
          · obtain ⟨t, ht⟩ : ∃ t, T[i]? = some t := ⟨_, List.getElem?_eq_getElem (by have := HL.out; omega)⟩
            obtain ⟨b, off, rfl, hb0, hcw⟩ := h.out.at ht
            have hc : wr.cell? ⟨b, off + i, none⟩ = some (.string (bs t)) := by rw [hK.out.1.cell (p := ⟨b, off + i, none⟩) hb0]; exact hcw
            have HB0 := Lib.hid (And.intro hb0 hcw)
            clear hb0 hcw
            have hlt2 : (i : Int) < (len : Int) := by omega
            have htl : t.length ≤ 30000 := HF.out.mem (List.mem_of_getElem? ht)
            have hcat : bs (framesL (T.take i)) ++ bs (frameL t) = bs (framesL (T.take (i + 1))) := by rw [frames_snoc ht, bs_cat, bs_list]
            have HSN := Lib.hid (frames_snoc ht)
            have hF9 : (framesL (T.take i)).length ≤ 33000 := by have := frames_take T i; have := HF.out.frames; omega
            have hsz2 : ((bs (framesL (T.take i))).size : Int) + ((bs (frameL t)).size : Int) ≤ 9223372036854775807 := by
              have := frameL_le (r := t) (by omega)
              rw [bs_size, bs_size]
              omega
            have HC := Lib.hid hc
            clear ht hc
            have hc := HC.out
            go_wp2_with fail
            refine (log_Add (Lib.hid hK.out.2) (by omega) (by omega) (by omega)).mono ?_
            rintro e w4 ⟨rfl, l4, o4⟩
            have K4 := Lib.hid (hK.out.1.trans (o4.below (B := w.heap.size) (fun k _ hk => hk) hK.out.1.size))
            have L4 := Lib.hid (l4.low hK.out.1.size)
            have hc4 : w4.cell? ⟨b, off + i, none⟩ = some (.string (bs t)) := by rw [K4.out.cell (p := ⟨b, off + i, none⟩) HB0.out.1]; exact HB0.out.2
            clear l4 o4 hc
            go_wp2_with fail
            refine (ref_Frame t w4 (by omega)).mono ?_
            rintro e w5 ⟨rfl, k5⟩
            have K5 := Lib.hid (K4.out.trans (k5.mono K4.out.size))
            have L5 := Lib.hid (L4.out.below k5)
            clear k5
            go_wp2_with fail
            go_roundw
            case rel => exact ⟨i + 1, by omega, by go_num, rfl, Lib.hid ⟨K5.out, by rw [HSN.out]; exact L5.out⟩⟩
            case measure => simp [intOf]; omega
          · have hie : i = len := by omega
            subst hie
            have HE := Lib.hid (show T.take i = T by rw [HL.out]; exact List.take_length)
            rw [HE.out] at hK ⊢
            obtain ⟨A, hA⟩ : ∃ A, A = framesL T := ⟨_, rfl⟩
            obtain ⟨n, hn⟩ : ∃ n, n = (framesL T).length := ⟨_, rfl⟩
            have hn2 : n ≤ 33000 ∧ 0 < n := by have := HF.out.frames; have := frames_many T; have := HL.out; omega
            have hAl : A.length = n := by rw [hA, hn]
            have hAz : (bs A).size = n := by rw [bs_size, hAl]
            rw [← hA] at hK ⊢
            clear hA hn
            obtain ⟨q, hq⟩ : ∃ q : Nat, ((n : Int) + 63) / 64 = (q : Int) := ⟨(n + 63) / 64, by omega⟩
            have hblk : blk A.length = 1 + q := by unfold blk; rw [hAl]; omega
            go_wp2_with fail
            by_cases hfull : r < 1 + q
            · have HADD := Lib.hid (show (file1 r [] 1).add 1 A = (file1 r [] 1, 7) by rw [file1_add, if_pos (by rw [hblk]; exact hfull)])
              have hgt : x < (q : Int) := by omega
              refine (log_Write (Lib.hid hK.out.2) one_wf (by simp [file1]) (by omega) (by omega) (by omega) HADD).mono ?_
              rintro e w4 ⟨rfl, l4, _, o4⟩
              have K4 := Lib.hid (hK.out.1.trans (o4.below (B := w.heap.size) (fun k _ hk => hk) hK.out.1.size))
              have L4 := Lib.hid (l4 (by decide))
              clear l4 o4
              go_wp2_with fail
              refine (log_Counts L4).mono ?_
              rintro e w5 ⟨rfl, m5, rfl⟩
              have K5 := Lib.hid (below_drewN K4.out m5)
              obtain ⟨S4, d4⟩ := L4.out.disk
              have D5 := Lib.hid (d4.drewN m5)
              generalize w4.drewN m5 = w5 at *
              go_wp2_with fail
              refine (disk_Size D5.out 1 one_wf).mono ?_
              rintro e w6 ⟨rfl, m6, rfl⟩
              rw [file1_size]
              have K6 := Lib.hid (below_drewN K5.out m6)
              generalize w5.drewN m6 = w6 at *
              go_wp2_with fail
              go_ret
              exact ⟨rfl, K6.out⟩
            · have HADD := Lib.hid (show (file1 r [] 1).add 1 A = (file1 r A 2, 0) by rw [file1_add, if_neg (by rw [hblk]; exact hfull)])
              have hgt : ¬ x < (q : Int) := by omega
              refine (log_Write (Lib.hid hK.out.2) one_wf (by simp [file1]) (by omega) (by omega) (by omega) HADD).mono ?_
              rintro e w4 ⟨rfl, _, l4, o4⟩
              have K4 := Lib.hid (hK.out.1.trans (o4.below (B := w.heap.size) (fun k _ hk => hk) hK.out.1.size))
              have L4 := Lib.hid (l4 rfl)
              clear l4 o4
              go_wp2_with fail
              refine (log_Counts L4).mono ?_
              rintro e w5 ⟨rfl, m5, rfl⟩
              have K5 := Lib.hid (below_drewN K4.out m5)
              have L5 := Lib.hid (L4.out.below (below_drewN (Below.refl _ w4) m5))
              obtain ⟨S4, d4⟩ := L5.out.disk
              have D5 := Lib.hid d4
              clear d4 L4
              generalize w4.drewN m5 = w5 at *
              go_wp2_with fail
              refine (disk_Size D5.out 1 one_wf).mono ?_
              rintro e w6 ⟨rfl, m6, rfl⟩
              rw [file1_size, hAl]
              have K6 := Lib.hid (below_drewN K5.out m6)
              have L6 := Lib.hid (L5.out.below (below_drewN (Below.refl _ w5) m6))
              have D6 := Lib.hid (D5.out.drewN m6)
              have HRD := Lib.hid (file1_read r A 2)
              rw [hAl] at HRD
              clear L5 D5
              generalize w5.drewN m6 = w6 at *
              go_wp2_with fail
              refine (disk_Read D6.out 1 0 (n : Int) one_wf (by omega)).mono ?_
              rintro e w7 ⟨rfl, rfl⟩
              rw [HRD.out]
              obtain ⟨s8, hs8⟩ := file1_sync r A 2
              have HS8 := Lib.hid hs8
              clear hs8
              go_wp2_with fail
              refine (log_Sync L6 one_wf (by simp [file1]) HS8).mono ?_
              rintro e w8 ⟨rfl, _, _, o8⟩
              have K8 := Lib.hid (K6.out.trans (o8.below (B := w.heap.size) (fun k _ hk => by rcases hk with hk | hk; (exact hk); (exact Nat.le_trans hK.out.1.size hk)) K6.out.size))
              clear o8
              go_wp2_with fail
              go_ret
              exact ⟨rfl, K8.out⟩
end Go.Proofs.Ytkelcmncjhnbgaa
/- A row that is appended to: the elder slice of it reads as it did; where the new one lies. -/
set_option linter.unusedVariables false
set_option maxRecDepth 100000
namespace Go.Proofs.Ytkelcmncjhnbgaa
open Go.RowKit

/-- Elements more. -/
theorem run_append_offK {P : Program} {w : World} {B : Nat} (t ty e : TypeId) (i : TypeInfo) (z : Value) (size bytes : Nat) (ht : P.underlying t = some (.slice e)) (hi : P.info? e = some i) (hz : i.zero = some z)
    (hsize : i.size = size) (hby : i.bytes = bytes) (hzs : z.cells.size = size)
    {v : Value} {n : Nat} {xs : List Value} (h : OffRow w B e size v n xs) (x : Value) (m : Nat) (news : List Value) (hs : Src P size t x m news w)
    (h63 : n + m ≤ maxLen) (hbytes : (n + m) * bytes ≤ 140737488355328) (hB : B ≤ w.heap.size) :
    ∃ v' w', (Builtin.append_ #[t, t] ty #[v, x]).run P w = .ok v' w' ∧ OffRow w' B e size v' (n + m) (xs ++ news) ∧ w.grownBy w' v.ownBlock ∧ OffRow w' B e size v n xs ∧ ((∃ a cap, v = .slice a n cap ∧ v' = .slice a (n + m) cap) ∨ v'.ownBlock = some w.heap.size) := by
  subst hsize hby
  have hlen : (xs ++ news).length = (n + m) * i.size := by rw [List.length_append, h.1, hs.newsLen, Nat.add_mul]
  have hsmall : ((n + m : Nat) : Int) ≤ 9223372036854775807 := by unfold maxLen at h63; omega
  have grown : ∀ old, old < n + m → OffRow (w.drew.alloc (.cells ((xs ++ news).toArray ++ Builtin.zeroCells z.cells (grownCap w (n + m) old e - (n + m))) e)) B e i.size (.slice (some ⟨w.heap.size, 0, none⟩) (n + m) (grownCap w (n + m) old e)) (n + m) (xs ++ news) := by
    intro old ho
    refine ⟨hlen, .inr ⟨w.heap.size, 0, _, _, rfl, hB, heap_new w.drew _, grownCap_ge w (n + m) old e, grownCap_le_maxLen w (n + m) old e h63, ?_, fun j hj => ?_⟩⟩
    · have := grownCap_ge w (n + m) old e
      rw [Array.size_append, size_zeroCells, hzs, List.size_toArray, hlen, ← Nat.add_mul]
      exact Nat.le_of_eq (by rw [Nat.zero_add]; congr 1; omega)
    · rw [Nat.zero_add, Array.getElem?_append_left (by simpa [hlen] using hj)]
      simp
  rcases h.2 with ⟨rfl, rfl⟩ | ⟨g, off, cap, cur, rfl, hBg, hg, h1, h2, h3, h4⟩
  · obtain rfl : xs = [] := List.eq_nil_of_length_eq_zero (by simpa using h.1)
    by_cases hm : m = 0
    · subst hm
      obtain rfl : news = [] := List.eq_nil_of_length_eq_zero (by simpa using hs.newsLen)
      refine ⟨.slice none 0 0, w, ?_, OffRow.nil w B e i.size, ⟨rfl, rfl, rfl, Nat.le_refl _, fun _ _ _ => rfl⟩, OffRow.nil w B e i.size, .inl ⟨none, 0, rfl, rfl⟩⟩
      have hk := hs.kind
      simp [Builtin.append_, run_underlying ht, sizeOf, typeInfo, hi, hs.len, hs.cells]
    · have hold : (Builtin.firstCells i.size 0 (.slice none 0 0)).run P w.drew = .ok (#[] : Array Value) w.drew := rfl
      have hr := run_append_grow_src (P := P) w t t ty e i z ht hi hz none 0 0 [] (by simpa using hold) x m news hs (by omega) (by simpa using hsmall) (growslice_fits (by omega) (by simpa using hbytes))
      simp only [Nat.zero_add, List.nil_append] at hr
      have hgr := grown 0 (by omega)
      simp only [Nat.zero_add, List.nil_append] at hgr ⊢
      exact ⟨_, _, hr, hgr, ⟨rfl, rfl, rfl, by simp, fun k hk _ => Below.heap_alloc w.drew _ k hk⟩, OffRow.nil _ B e i.size, .inr rfl⟩
  · by_cases hroom : n + m ≤ cap
    · have hbd : ∀ j, j < news.length → off + n * i.size + j < cur.size := by
        intro j hj
        rw [hs.newsLen] at hj
        have : (n + m) * i.size ≤ cap * i.size := Nat.mul_le_mul_right _ hroom
        rw [Nat.add_mul] at this
        omega
      have hr := run_append_room_src (P := P) w t t ty e i ht hi g off n cap x m news hs hroom (fun j hj => by simp [World.cell?, hg, hbd j hj]) (fun j hj => by simp [World.frozen?, hg])
      obtain ⟨cur', a1, a2, a3, a4⟩ := setCells_heap news g (off + n * i.size) w cur e hg
      obtain ⟨b1, b2, b3, b4⟩ := setCells_meta news g (off + n * i.size) w
      refine ⟨_, _, hr, ⟨hlen, .inr ⟨g, off, cap, cur', rfl, hBg, a1, hroom, h2, by omega, fun j hj => ?_⟩⟩, ⟨b1, b2, b3, by omega, fun k _ hk => setCells_other _ _ _ _ _ (fun e => hk (by simp [Value.ownBlock, e]))⟩, ⟨h.1, .inr ⟨g, off, cap, cur', rfl, hBg, a1, h1, h2, by omega, fun j hj => by rw [a4 _ (.inl (by omega)), h4 j hj]⟩⟩, .inl ⟨_, _, rfl, rfl⟩⟩
      by_cases hjo : j < n * i.size
      · rw [a4 _ (.inl (by omega)), h4 j hjo, List.getElem?_append_left (by rw [h.1]; exact hjo)]
      · have hjn : j - n * i.size < news.length := by rw [hs.newsLen]; rw [Nat.add_mul] at hj; omega
        rw [List.getElem?_append_right (by rw [h.1]; omega), h.1, ← a3 (j - n * i.size) hjn (hbd _ hjn)]
        congr 1
        omega
    · have hold : (Builtin.firstCells i.size n (.slice (some ⟨g, off, none⟩) n cap)).run P w.drew = .ok xs.toArray w.drew :=
        run_firstCells_some w.drew i.size n ⟨g, off, none⟩ n cap xs h.1 (fun j u hj => by
          have hjl : j < n * i.size := by rw [← h.1]; exact (List.getElem?_eq_some_iff.1 hj).1
          rw [addr_add]
          show w.cell? _ = _
          rw [← hj, ← h4 j hjl]
          simp [World.cell?, hg])
      have hr := run_append_grow_src (P := P) w t t ty e i z ht hi hz (some ⟨g, off, none⟩) n cap xs hold x m news hs (by omega) hsmall (growslice_fits (by omega) hbytes)
      exact ⟨_, _, hr, grown cap (by omega), ⟨rfl, rfl, rfl, by simp, fun k hk _ => Below.heap_alloc w.drew _ k hk⟩, OffRow.kept h (fun j hj => by obtain ⟨_, hlt⟩ := h.lt j hj; exact Below.heap_alloc w.drew _ j hlt), .inr rfl⟩
theorem wp_append_offK {P : Program} {w : World} {o : Oper} {a : Act} {K : Act → World → Prop} {Q : Exit → Act → World → Prop} (s x : Operand) (t : TypeId)
    (ho : o.op = .call { callee := .builtin .append, args := #[s, x], argTypes := #[t, t] })
    (B : Nat) (e : TypeId) (i : TypeInfo) (z : Value) (size bytes : Nat) (ht : P.underlying t = some (.slice e)) (hi : P.info? e = some i) (hz : i.zero = some z)
    (hsize : i.size = size) (hby : i.bytes = bytes) (hzs : z.cells.size = size)
    (v : Value) (n : Nat) (xs : List Value) (hs : a.eval s = v) (hown : OffRow w B e size v n xs) (xv : Value) (hx : a.eval x = xv) (m : Nat) (news : List Value) (hsrc : Src P size t xv m news w)
    (h63 : n + m ≤ maxLen) (hbytes : (n + m) * bytes ≤ 140737488355328) (hB : B ≤ w.heap.size)
    (h : ∀ v' w', OffRow w' B e size v' (n + m) (xs ++ news) → w.grownBy w' v.ownBlock → OffRow w' B e size v n xs ∧ ((∃ a cap, v = .slice a n cap ∧ v' = .slice a (n + m) cap) ∨ v'.ownBlock = some w.heap.size) → K (a.put o.dst v') w') : o.wp P a w K Q := by
  obtain ⟨v', w', hr, h2, h3, h4⟩ := run_append_offK (P := P) t o.type e i z size bytes ht hi hz hsize hby hzs hown xv m news hsrc h63 hbytes hB
  unfold Oper.wp execOp
  simp only [ho, resolve, invoke, builtin, Sem.run_bind, Sem.run_pure, Result.andThen_ok, List.map_toArray, List.map_cons, List.map_nil, hs, hx, hr]
  exact h v' w' h2 h3 h4
/-- At a plain region's list. -/
theorem wpList_append_offK {P : Program} {w : World} {ops : Array Oper} {rest : List Oper} {o : Oper} {a : Act} {Q : Exit → Act → World → Prop} (hgd : o.guard = none) (s x : Operand) (t : TypeId)
    (ho : o.op = .call { callee := .builtin .append, args := #[s, x], argTypes := #[t, t] })
    (B : Nat) (e : TypeId) (i : TypeInfo) (z : Value) (size bytes : Nat) (ht : P.underlying t = some (.slice e)) (hi : P.info? e = some i) (hz : i.zero = some z)
    (hsize : i.size = size) (hby : i.bytes = bytes) (hzs : z.cells.size = size)
    (v : Value) (n : Nat) (xs : List Value) (hs : a.eval s = v) (hown : OffRow w B e size v n xs) (xv : Value) (hx : a.eval x = xv) (m : Nat) (news : List Value) (hsrc : Src P size t xv m news w)
    (h63 : n + m ≤ maxLen) (hbytes : (n + m) * bytes ≤ 140737488355328) (hB : B ≤ w.heap.size)
    (h : ∀ v' w', OffRow w' B e size v' (n + m) (xs ++ news) → w.grownBy w' v.ownBlock → OffRow w' B e size v n xs ∧ ((∃ a cap, v = .slice a n cap ∧ v' = .slice a (n + m) cap) ∨ v'.ownBlock = some w.heap.size) → wpList P ops Q rest (a.put o.dst v') w') : wpList P ops Q (o :: rest) a w :=
  wpList_plain hgd fun _ hK => wp_append_offK s x t ho B e i z size bytes ht hi hz hsize hby hzs v n xs hs hown xv hx m news hsrc h63 hbytes hB fun v' w' h2 h3 h4 => hK _ _ (h v' w' h2 h3 h4)
/-- At a step of a region that draws. -/
theorem step_append_offK {P : Program} {w : World} {ops : Array Oper} {o : Oper} {a : Act} {K : Act → World → Prop} {Q : Exit → Act → World → Prop} {E : Prop} (hgd : o.guard = none) (s x : Operand) (t : TypeId)
    (ho : o.op = .call { callee := .builtin .append, args := #[s, x], argTypes := #[t, t] })
    (B : Nat) (e : TypeId) (i : TypeInfo) (z : Value) (size bytes : Nat) (ht : P.underlying t = some (.slice e)) (hi : P.info? e = some i) (hz : i.zero = some z)
    (hsize : i.size = size) (hby : i.bytes = bytes) (hzs : z.cells.size = size)
    (v : Value) (n : Nat) (xs : List Value) (hs : a.eval s = v) (hown : OffRow w B e size v n xs) (xv : Value) (hx : a.eval x = xv) (m : Nat) (news : List Value) (hsrc : Src P size t xv m news w)
    (h63 : n + m ≤ maxLen) (hbytes : (n + m) * bytes ≤ 140737488355328) (hB : B ≤ w.heap.size)
    (h : ∀ v' w', OffRow w' B e size v' (n + m) (xs ++ news) → w.grownBy w' v.ownBlock → OffRow w' B e size v n xs ∧ ((∃ a cap, v = .slice a n cap ∧ v' = .slice a (n + m) cap) ∨ v'.ownBlock = some w.heap.size) → K (a.put o.dst v') w') :
    if Region.wanted o (yielded ops a.tmps) = true then Oper.wp P o a w K Q else E := by
  have hw : Region.wanted o (yielded ops a.tmps) = true := by simp [Region.wanted, hgd]
  rw [if_pos hw]
  exact wp_append_offK s x t ho B e i z size bytes ht hi hz hsize hby hzs v n xs hs hown xv hx m news hsrc h63 hbytes hB h
end Go.Proofs.Ytkelcmncjhnbgaa
