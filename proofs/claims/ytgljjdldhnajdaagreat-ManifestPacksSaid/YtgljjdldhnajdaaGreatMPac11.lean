/- Texts put together: WalReplay, WalReplaysWalk, WalFullWalk, WalAppend, ManDraft, ManOps1, ManCall -/
import Derived.Test.YtgljjdldhnajdaaGreatMPac10
import Derived.Test.YtgljjdldhnajdaaGreatMPac05
import Derived.Maps.OwnSet
import Derived.Test.YtgljjdldhnajdaaGreatMPac02
import Derived.RegionTactic
import Derived.Shelf.Abstract
/- A log made sure; a log begun; what is read of a file; logs and disks that are none. -/
set_option linter.unusedVariables false
set_option maxRecDepth 100000
set_option maxRecDepth 100000
namespace Go.Proofs.YtgljjdldhnajdaaGreat
open Go.RowKit

section
variable {O : Nat → Prop} {w : World} {lb d wt wr su : Nat} {s : DS} {file : Int} {F : List UInt8}
/-- What Sync leaves. -/
def SyncPost (O : Nat → Prop) (w : World) (lb d : Nat) (s2 : DS) (z : Int) (file : Int) (F : List UInt8) (wt wr su : Nat) (e : Ending) (w' : World) : Prop :=
  e = .returned (.int .i64 z) ∧ (z ≠ 0 → Lg (New O w) w' lb d s2 file F wt wr su) ∧ (z = 0 → Lg (New O w) w' lb d s2 file F wt wr wr) ∧ Only O w w'
set_option maxHeartbeats 2000000 in
theorem log_Sync (h : Hid (Lg O w lb d s file F wt wr su)) (hw : (Lit.int .i64 file).wf = true) (hst : s.steps < 4611686018427387904) {s2 : DS} {z : Int} (hz : Hid (s.sync file = (s2, z))) :
    Calls Tryz.prog 99 #[.pointer (some ⟨lb, 0, none⟩)] w fun e w' => SyncPost O w lb d s2 z file F wt wr su e w' := by
  obtain ⟨S, fv, h1, h2, h3, h4, h5, h6, h7⟩ := h.out
  have hlt := heap_lt h7
  have HDID := Lib.hid (show ∀ (w1 w2 : World) (s2 : DS), Below w.heap.size w w1 → Disk (New S w1) w2 d s2 → Only S w1 w2 → Lg (New O w) w2 lb d s2 file F wt wr su ∧ Only O w w2 from fun w1 w2 s2 => Lg.did h2 h3 h4 h5 h6 h7)
  have n0 : ∀ n : Seen w, n.val.cell? ⟨lb, 0, none⟩ = some (.pointer (some ⟨d, 0, none⟩)) := fun n => by rw [n.below.cell (p := ⟨lb, 0, none⟩) hlt]; simp [World.cell?, h7]
  have n1 : ∀ n : Seen w, n.val.cell? ⟨lb, 1, none⟩ = some (.int .i64 file) := fun n => by rw [n.below.cell (p := ⟨lb, 1, none⟩) hlt]; simp [World.cell?, h7]
  have H1 := Lib.hid h1
  clear h1 h2 h3 h4 h5 h6 h7
  go_enter Tryz.func99, Tryz.ntmps99
  go_wp2_with fail
  refine wp_region_seen_tail 8 (by kernel_rfl) (by kernel_rfl) ?_
  simp only [List.take_succ_cons, List.take_zero, List.drop_succ_cons, List.drop_zero]
  repeat go_big_quiet_step (fail)
  refine wpQuiet_nil ?_
  rintro _ ⟨m1, rfl⟩
  have K1 := Lib.hid m1.below
  have D1 := Lib.hid (H1.out.below K1.out)
  generalize m1.val = w1 at *
  clear n0 n1 H1
  go_wp2_with fail
  refine (disk_Sync D1.out file hw hst).mono ?_
  rintro e w2 ⟨rfl, hd2, ho2⟩
  rw [hz.out] at hd2 ⊢
  obtain ⟨l2, o2⟩ := HDID.out w1 w2 s2 K1.out hd2 ho2
  have L2 := Lib.hid l2
  have O2 := Lib.hid o2
  clear hd2 ho2 l2 o2 HDID D1
  simp only
  by_cases hz0 : z = 0
  · subst hz0
    obtain ⟨S', fv', g1, g2, g3, g4, g5, g6, g7⟩ := L2.out
    have p4 : w2.cell? ⟨lb, 4, none⟩ = some (.int .i64 (wr : Int)) := by simp [World.cell?, g7]
    have p5 : w2.cell? ⟨lb, 5, none⟩ = some (.int .i64 (su : Int)) := by simp [World.cell?, g7]
    have f5 : w2.frozen? ⟨lb, 5, none⟩ = false := by simp [World.frozen?, g7]
    have o1 : Only (fun k => k = lb) w2 (w2.setCell ⟨lb, 5, none⟩ (.int .i64 (wr : Int))) := (Only.refl (fun k => k = lb) w2).setCell (p := ⟨lb, 5, none⟩) (.inl rfl) _
    have HL3 := Lib.hid (show Lg (New O w) (w2.setCell ⟨lb, 5, none⟩ (.int .i64 (wr : Int))) lb d s2 file F wt wr wr ∧ Only O w (w2.setCell ⟨lb, 5, none⟩ (.int .i64 (wr : Int))) from by
      refine ⟨⟨S', fv', g1.only o1 (fun j _ hs e => g4 (e ▸ hs)), g2, g3, g4, OffRow.kept g5 (fun j hj => o1.block j (OffRow.lt g5 j hj).2 fun e => ?_), g6, heap_set g7 _⟩, O2.out.andThen (o1.mono fun k hk e => e ▸ g3) (S' := New O w) fun j hj x => by rcases x with x | x; (exact x); (exact absurd hj (by omega))⟩
      subst e
      obtain ⟨cur, hc⟩ := OffRow.tag g5 hj
      rw [g7] at hc
      injection hc with hc
      injection hc with _ hc
      revert hc
      decide)
    clear g1 g2 g3 g4 g5 g6 g7 L2 o1
    go_wp2_with fail
    go_ret
    exact ⟨rfl, fun h => absurd rfl h, fun _ => HL3.out.1, HL3.out.2⟩
  · have hz1 : (z == 0) = false := beq_eq_false_iff_ne.2 hz0
    go_wp2_with fail
    go_ret
    exact ⟨rfl, fun _ => L2.out, fun h => absurd h hz0, O2.out⟩
end

/-- What Begin leaves. -/
def BeginPost (S : Nat → Prop) (w : World) (d : Nat) (s2 : DS) (z n : Int) (e : Ending) (w' : World) : Prop :=
  (z ≠ 0 ∧ e = .returned (.tuple #[.pointer none, .int .i64 z]) ∧ Disk (New S w) w' d s2 ∧ Only S w w') ∨
  (z = 0 ∧ ∃ lb, w.heap.size ≤ lb ∧ e = .returned (.tuple #[.pointer (some ⟨lb, 0, none⟩), .int .i64 0]) ∧ Lg (New S w) w' lb d s2 n [] 0 0 0 ∧ Only S w w')
set_option maxHeartbeats 2000000 in
theorem wal_Begin {S : Nat → Prop} {w : World} {d : Nat} {s s2 : DS} {t n z : Int} (h : Hid (Disk S w d s)) (hw : (Lit.int .i64 n).wf = true) (hst : s.steps < 4611686018427387904) (hz : Hid (s.make t n = (s2, z))) :
    Calls Tryz.prog 96 #[.pointer (some ⟨d, 0, none⟩), .int .i64 t, .int .i64 n] w fun e w' => BeginPost S w d s2 z n e w' := by
  go_enter Tryz.func96, Tryz.ntmps96
  go_wp2_with fail
  refine (disk_Make h.out t n hw (wf_hi hw).2 hst).mono ?_
  rintro e w2 ⟨rfl, hd2, ho2⟩
  rw [hz.out] at hd2 ⊢
  have D2 := Lib.hid hd2
  have O2 := Lib.hid ho2
  clear hd2 ho2
  simp only
  by_cases hz0 : z = 0
  · subst hz0
    have HL := Lib.hid (show Lg (New S w) (w2.alloc (.cells #[.pointer (some ⟨d, 0, none⟩), .int .i64 n, .slice none 0 0, .int .i64 0, .int .i64 0, .int .i64 0] 177)) w2.heap.size d s2 n [] 0 0 0 from
      ⟨fun k => New S w k ∧ k < w2.heap.size, .slice none 0 0, D2.out.tight.below ((Below.refl _ _).alloc (Nat.le_refl _) _), fun k hk => hk.1, .inr O2.out.size, fun x => Nat.lt_irrefl _ x.2, OffRow.nil _ _ _ _, fun g hg => by simp [Value.ownBlock] at hg, heap_new _ _⟩)
    have HO := Lib.hid (O2.out.alloc (.cells #[.pointer (some ⟨d, 0, none⟩), .int .i64 n, .slice none 0 0, .int .i64 0, .int .i64 0, .int .i64 0] 177))
    have hsz := Lib.hid O2.out.size
    go_wp2_with fail
    go_ret2
    exact .inr ⟨rfl, w2.heap.size, hsz.out, rfl, HL.out, HO.out⟩
  · have hz1 : (z == 0) = false := beq_eq_false_iff_ne.2 hz0
    go_wp2_with fail
    go_ret2
    exact .inl ⟨hz0, rfl, D2.out, O2.out⟩

/-- What Replay tells of a file that is there. -/
def ReplayPost (D : List UInt8) (w : World) (e : Ending) (w' : World) : Prop :=
  ∃ v, e = .returned (.tuple #[v, .bool (decide ((splitL D).2 = D.length)), .int .i64 0]) ∧ OwnT w' w.heap.size v (splitL D).1 ∧ Below w.heap.size w w'
theorem replay_ret {D : List UInt8} {w w' : World} {v : Value} {b : Bool} (h : decide ((splitL D).2 = D.length) = b) (o : OwnT w' w.heap.size v (splitL D).1) (k : Below w.heap.size w w') : ReplayPost D w (.returned (.tuple #[v, .bool b, .int .i64 0])) w' := ⟨v, by rw [h], o, k⟩
set_option maxHeartbeats 2000000 in
theorem wal_Replay {S : Nat → Prop} {w : World} {d : Nat} {s : DS} {n : Int} {f : DF} (h : Hid (Disk S w d s)) (hw : (Lit.int .i64 n).wf = true) (hd : s.down = false) (hf : findL n s.fs = some f) :
    Calls Tryz.prog 47 #[.pointer (some ⟨d, 0, none⟩), .int .i64 n] w fun e w' => ReplayPost f.data w e w' := by
  have hfl : f.data.length ≤ 67108864 := fit_len h.out.1 hf
  have HS := Lib.hid (show s.size n = ((f.data.length : Int), f.t, 0) by unfold DS.size; rw [if_neg (by rw [hd]; simp), hf])
  have HRD := Lib.hid (show s.read n 0 (f.data.length : Int) = (f.data, 0) by
    unfold DS.read
    rw [if_neg (by rw [hd]; simp), hf]
    simp only
    rw [if_neg (by omega)]
    simp)
  obtain ⟨D, hD⟩ : ∃ D, D = f.data := ⟨_, rfl⟩
  rw [← hD] at HRD HS hfl ⊢
  obtain ⟨q, hq⟩ : ∃ q, q = D.length := ⟨_, rfl⟩
  have HQ := Lib.hid hq
  rw [← hq] at HRD HS hfl
  clear hd hf hD hq
  go_enter Tryz.func47, Tryz.ntmps47
  go_wp2_with fail
  refine (disk_Size h.out n hw).mono ?_
  rintro e w1 ⟨rfl, m1, rfl⟩
  rw [HS.out]
  have D1 := Lib.hid (h.out.drewN m1)
  have K1 := Lib.hid (below_drewN (Below.refl w.heap.size w) m1)
  have hsz := Lib.hid (show (w.drewN m1).heap.size = w.heap.size from rfl)
  generalize w.drewN m1 = w1 at *
  go_wp2_with fail
  refine (disk_Read D1.out n 0 (q : Int) hw (by omega)).mono ?_
  rintro e w2 ⟨rfl, rfl⟩
  rw [HRD.out]
  go_wp2_with fail
  refine (wal_Split D w1 (by have := HQ.out; omega)).mono ?_
  rintro e w3 ⟨v, rfl, o3, k3⟩
  rw [hsz.out] at o3 k3
  have O3 := Lib.hid o3
  have K3 := Lib.hid (K1.out.trans k3)
  obtain ⟨av, cv, rfl, _⟩ := id o3.txs
  clear o3 k3
  obtain ⟨x, hx⟩ : ∃ x, x = (splitL D).2 := ⟨_, rfl⟩
  have HX := Lib.hid hx
  rw [← hx]
  clear hx
  by_cases hxq : x = q
  · have hxq' : ((x : Int) == (q : Int)) = true := by rw [hxq]; exact beq_self_eq_true _
    have HE := Lib.hid (show decide ((splitL D).2 = D.length) = true by rw [← HX.out, ← HQ.out]; exact decide_eq_true hxq)
    clear hxq
    go_wp2_with fail
    go_ret3
    exact replay_ret HE.out O3.out K3.out
  · have hxq' : ((x : Int) == (q : Int)) = false := beq_eq_false_iff_ne.2 (by omega)
    have HE := Lib.hid (show decide ((splitL D).2 = D.length) = false by rw [← HX.out, ← HQ.out]; exact decide_eq_false hxq)
    clear hxq
    go_wp2_with fail
    go_ret3
    exact replay_ret HE.out O3.out K3.out
set_option maxHeartbeats 1000000 in
theorem wal_Replay_none {S : Nat → Prop} {w : World} {d : Nat} {s : DS} {n : Int} (h : Hid (Disk S w d s)) (hw : (Lit.int .i64 n).wf = true) (hd : s.down = false) (hf : findL n s.fs = none) :
    Calls Tryz.prog 47 #[.pointer (some ⟨d, 0, none⟩), .int .i64 n] w fun e w' => e = .returned (.tuple #[.slice none 0 0, .bool false, .int .i64 9]) ∧ Below w.heap.size w w' := by
  have HS := Lib.hid (show s.size n = (0, 0, 9) by unfold DS.size; rw [if_neg (by rw [hd]; simp), hf])
  clear hd hf
  go_enter Tryz.func47, Tryz.ntmps47
  go_wp2_with fail
  refine (disk_Size h.out n hw).mono ?_
  rintro e w1 ⟨rfl, m1, rfl⟩
  rw [HS.out]
  have K1 := Lib.hid (below_drewN (Below.refl w.heap.size w) m1)
  generalize w.drewN m1 = w1 at *
  go_wp2_with fail
  go_ret3
  exact ⟨rfl, K1.out⟩
set_option maxHeartbeats 1000000 in
theorem wal_Replay_nil (n : Int) (w : World) : Calls Tryz.prog 47 #[.pointer none, .int .i64 n] w fun e w' => e = .returned (.tuple #[.slice none 0 0, .bool false, .int .i64 8]) ∧ Below w.heap.size w w' := by
  go_enter Tryz.func47, Tryz.ntmps47
  go_wp2_with fail
  refine (disk_Size_nil n w).mono ?_
  rintro e w1 ⟨rfl, rfl⟩
  go_wp2_with fail
  go_ret3
  exact ⟨rfl, Below.refl _ _⟩
theorem wal_Begin_nil (t n : Int) (w : World) : Calls Tryz.prog 96 #[.pointer none, .int .i64 t, .int .i64 n] w fun e w' => e = .returned (.tuple #[.pointer none, .int .i64 8]) ∧ w = w' := by
  go_enter Tryz.func96, Tryz.ntmps96
  go_wp2_with fail
  refine (disk_Make_nil t n w).mono ?_
  rintro e w1 ⟨rfl, rfl⟩
  go_wp2_with fail
  go_ret2
  exact ⟨rfl, rfl⟩
theorem log_nil_File (w : World) : Calls Tryz.prog 100 #[.pointer none] w fun e w' => e = .returned (.int .i64 0) ∧ w = w' := by
  go_enter Tryz.func100, Tryz.ntmps100
  go_wp2
  go_ret
  exact ⟨rfl, rfl⟩
theorem log_nil_Add (s : ByteArray) (w : World) : Calls Tryz.prog 69 #[.pointer none, .string s] w fun e w' => e = .returned (.int .i64 1) ∧ w = w' := by
  go_enter Tryz.func69, Tryz.ntmps69
  go_wp2
  go_ret
  exact ⟨rfl, rfl⟩
theorem log_nil_Write (w : World) : Calls Tryz.prog 97 #[.pointer none] w fun e w' => e = .returned (.int .i64 1) ∧ w = w' := by
  go_enter Tryz.func97, Tryz.ntmps97
  go_wp2
  go_ret
  exact ⟨rfl, rfl⟩
theorem log_nil_Sync (w : World) : Calls Tryz.prog 99 #[.pointer none] w fun e w' => e = .returned (.int .i64 1) ∧ w = w' := by
  go_enter Tryz.func99, Tryz.ntmps99
  go_wp2
  go_ret
  exact ⟨rfl, rfl⟩
theorem log_nil_Counts (w : World) : Calls Tryz.prog 98 #[.pointer none] w fun e w' => e = .returned (.tuple #[.int .i64 0, .int .i64 0, .int .i64 0]) ∧ w = w' := by
  go_enter Tryz.func98, Tryz.ntmps98
  go_wp2
  go_ret3
  exact ⟨rfl, rfl⟩
theorem log_nil_Clear (w : World) : Calls Tryz.prog 70 #[.pointer none] w fun e w' => e = .returned (.tuple #[]) ∧ w = w' := by
  go_enter Tryz.func70, Tryz.ntmps70
  go_wp2
  refine bodyPost_ret (results_none rfl _ _ _) rfl ?_
  exact ⟨rfl, rfl⟩
end Go.Proofs.YtgljjdldhnajdaaGreat
/- WalReplays, walked: of any file's bytes the records are told that the document says, and whether they are all of it. -/
set_option linter.unusedVariables false
set_option maxRecDepth 100000
set_option maxRecDepth 100000
namespace Go.Proofs.YtgljjdldhnajdaaGreat
open Go.RowKit

/-- A disk with one file. -/
def file1 (r : Nat) (b : List UInt8) (st : Nat) : DS := ⟨r, 0, [⟨1, 0, b, false, 0⟩], 0, st, -1, false⟩
theorem new_make {r : Nat} (hr : 1 ≤ r) : (DS.new r 0).make 0 1 = (file1 r [] 1, 0) := by
  unfold DS.make DS.new DS.room DS.used DS.tick file1
  simp [findL, usedL]
  omega
theorem file1_add {r st : Nat} (b : List UInt8) : (file1 r [] st).add 1 b = if r < blk b.length then (file1 r [] st, 7) else (file1 r b (st + 1), 0) := by
  have h1 : findL 1 (file1 r [] st).fs = some ⟨1, 0, [], false, 0⟩ := by simp [file1, findL]
  have hp := blk_pos b.length
  unfold DS.add
  rw [if_neg (by simp [file1]), h1]
  simp only [List.length_nil, Nat.zero_add, blk_zero]
  have hu : (file1 r [] st).room 0 = r := by simp [DS.room, file1]
  have hv : (file1 r [] st).used 0 = 1 := by simp [DS.used, file1, usedL, blk_zero]
  rw [hu, hv]
  by_cases h : r < blk b.length
  · rw [if_pos h, if_pos (by omega)]
  · rw [if_neg h, if_neg (by omega), if_neg (by simp [file1])]
    simp [file1, DS.tick, updL, addF]
theorem file1_find (r : Nat) (b : List UInt8) (st : Nat) : findL 1 (file1 r b st).fs = some ⟨1, 0, b, false, 0⟩ := by simp [file1, findL]
theorem file1_none (r : Nat) (b : List UInt8) (st : Nat) {n : Int} (h : n ≠ 1) : findL n (file1 r b st).fs = none := by
  simp [file1, findL]
  omega
theorem one_wf : (Lit.int .i64 1).wf = true := by decide
theorem wf_of {n : Int} (h1 : -9223372036854775808 ≤ n) (h2 : n ≤ 9223372036854775807) : (Lit.int .i64 n).wf = true := by
  simp [Lit.wf, IntKind.min, IntKind.max, IntKind.signed, IntKind.bits]
  omega
theorem frames_many : ∀ L : List (List UInt8), L.length ≤ (framesL L).length
  | [] => Nat.le_refl _
  | r :: L => by
    have := frameL_pos r
    have := frames_many L
    show L.length + 1 ≤ (frameL r ++ framesL L).length
    rw [List.length_append]; omega
theorem split_many (l : List UInt8) : (splitL l).1.length ≤ l.length := by
  obtain ⟨h1, h2, _⟩ := split_back _ l (Nat.le_refl _)
  have := frames_many (splitL l).1
  have := split_le l
  omega

end Go.Proofs.YtgljjdldhnajdaaGreat
/- WalFull, walked: a group for which there is no room is not written, waits, and is written where there is room. -/
set_option linter.unusedVariables false
set_option maxRecDepth 100000
set_option maxRecDepth 100000
namespace Go.Proofs.YtgljjdldhnajdaaGreat
open Go.RowKit

theorem Lg.low {B lb d wt wr su : Nat} {w w' : World} {s : DS} {file : Int} {F : List UInt8} (h : Lg (New (fun k => B ≤ k) w) w' lb d s file F wt wr su) (hB : B ≤ w.heap.size) : Lg (fun k => B ≤ k) w' lb d s file F wt wr su :=
  h.mono fun k _ hk => by rcases hk with hk | hk; (exact hk); (exact Nat.le_trans hB hk)
theorem Lg.disk {O : Nat → Prop} {w : World} {lb d wt wr su : Nat} {s : DS} {file : Int} {F : List UInt8} (h : Lg O w lb d s file F wt wr su) : ∃ S, Disk S w d s := by
  obtain ⟨S, fv, h1, _⟩ := h
  exact ⟨S, h1⟩
theorem file1_sync (r : Nat) (b : List UInt8) (st : Nat) : ∃ s2, (file1 r b st).sync 1 = (s2, 0) := by
  unfold DS.sync
  rw [if_neg (by simp [file1]), file1_find]
  simp only
  rw [if_neg (by simp [file1])]
  exact ⟨_, rfl⟩
theorem file1_size (r : Nat) (b : List UInt8) (st : Nat) : (file1 r b st).size 1 = ((b.length : Int), 0, 0) := by
  unfold DS.size
  rw [if_neg (by simp [file1]), file1_find]
theorem file1_read (r : Nat) (b : List UInt8) (st : Nat) : (file1 r b st).read 1 0 (b.length : Int) = (b, 0) := by
  unfold DS.read
  rw [if_neg (by simp [file1]), file1_find]
  simp only
  rw [if_neg (by omega)]
  simp

end Go.Proofs.YtgljjdldhnajdaaGreat
/- A row that is appended to: the elder slice of it reads as it did; where the new one lies. -/
set_option linter.unusedVariables false
set_option maxRecDepth 100000
set_option maxRecDepth 100000
namespace Go.Proofs.YtgljjdldhnajdaaGreat
open Go.RowKit

/-- Elements more. -/
theorem run_append_offK {P : Program} {w : World} {B : Nat} (t ty e : TypeId) (i : TypeInfo) (z : Value) (size bytes : Nat) (ht : P.underlying t = some (.slice e)) (hi : P.info? e = some i) (hz : i.zero = some z)
    (hsize : i.size = size) (hby : i.bytes = bytes) (hzs : z.cells.size = size)
    {v : Value} {n : Nat} {xs : List Value} (h : OffRow w B e size v n xs) (x : Value) (m : Nat) (news : List Value) (hs : Src P size t x m news w)
    (h63 : n + m ≤ maxLen) (hbytes : (n + m) * bytes ≤ 140737488355328) (hB : B ≤ w.heap.size) :
    ∃ v' w', (Builtin.append_ #[t, t] ty #[v, x]).run P w = .ok v' w' ∧ OffRow w' B e size v' (n + m) (xs ++ news) ∧ w.grownBy w' v.ownBlock ∧ OffRow w' B e size v n xs ∧ ((∃ a cap, v = .slice a n cap ∧ v' = .slice a (n + m) cap) ∨ v'.ownBlock = some w.heap.size) := by
  subst hsize hby
  have hlen : (xs ++ news).length = (n + m) * i.size := by rw [List.length_append, h.1, hs.newsLen, Nat.add_mul]
  have hsmall : ((n + m : Nat) : Int) ≤ 9223372036854775807 := by unfold maxLen at h63; omega
  have grown : ∀ old, old < n + m → OffRow (w.drew.alloc (.cells ((xs ++ news).toArray ++ Builtin.zeroCells z.cells (grownCap w (n + m) old e - (n + m))) e)) B e i.size (.slice (some ⟨w.heap.size, 0, none⟩) (n + m) (grownCap w (n + m) old e)) (n + m) (xs ++ news) := by
    intro old ho
    refine ⟨hlen, .inr ⟨w.heap.size, 0, _, _, rfl, hB, heap_new w.drew _, grownCap_ge w (n + m) old e, grownCap_le_maxLen w (n + m) old e h63, ?_, fun j hj => ?_⟩⟩
    · have := grownCap_ge w (n + m) old e
      rw [Array.size_append, size_zeroCells, hzs, List.size_toArray, hlen, ← Nat.add_mul]
      exact Nat.le_of_eq (by rw [Nat.zero_add]; congr 1; omega)
    · rw [Nat.zero_add, Array.getElem?_append_left (by simpa [hlen] using hj)]
      simp
  rcases h.2 with ⟨rfl, rfl⟩ | ⟨g, off, cap, cur, rfl, hBg, hg, h1, h2, h3, h4⟩
  · obtain rfl : xs = [] := List.eq_nil_of_length_eq_zero (by simpa using h.1)
    by_cases hm : m = 0
    · subst hm
      obtain rfl : news = [] := List.eq_nil_of_length_eq_zero (by simpa using hs.newsLen)
      refine ⟨.slice none 0 0, w, ?_, OffRow.nil w B e i.size, ⟨rfl, rfl, rfl, Nat.le_refl _, fun _ _ _ => rfl⟩, OffRow.nil w B e i.size, .inl ⟨none, 0, rfl, rfl⟩⟩
      have hk := hs.kind
      simp [Builtin.append_, run_underlying ht, sizeOf, typeInfo, hi, hs.len, hs.cells]
    · have hold : (Builtin.firstCells i.size 0 (.slice none 0 0)).run P w.drew = .ok (#[] : Array Value) w.drew := rfl
      have hr := run_append_grow_src (P := P) w t t ty e i z ht hi hz none 0 0 [] (by simpa using hold) x m news hs (by omega) (by simpa using hsmall) (growslice_fits (by omega) (by simpa using hbytes))
      simp only [Nat.zero_add, List.nil_append] at hr
      have hgr := grown 0 (by omega)
      simp only [Nat.zero_add, List.nil_append] at hgr ⊢
      exact ⟨_, _, hr, hgr, ⟨rfl, rfl, rfl, by simp, fun k hk _ => Below.heap_alloc w.drew _ k hk⟩, OffRow.nil _ B e i.size, .inr rfl⟩
  · by_cases hroom : n + m ≤ cap
    · have hbd : ∀ j, j < news.length → off + n * i.size + j < cur.size := by
        intro j hj
        rw [hs.newsLen] at hj
        have : (n + m) * i.size ≤ cap * i.size := Nat.mul_le_mul_right _ hroom
        rw [Nat.add_mul] at this
        omega
      have hr := run_append_room_src (P := P) w t t ty e i ht hi g off n cap x m news hs hroom (fun j hj => by simp [World.cell?, hg, hbd j hj]) (fun j hj => by simp [World.frozen?, hg])
      obtain ⟨cur', a1, a2, a3, a4⟩ := setCells_heap news g (off + n * i.size) w cur e hg
      obtain ⟨b1, b2, b3, b4⟩ := setCells_meta news g (off + n * i.size) w
      refine ⟨_, _, hr, ⟨hlen, .inr ⟨g, off, cap, cur', rfl, hBg, a1, hroom, h2, by omega, fun j hj => ?_⟩⟩, ⟨b1, b2, b3, by omega, fun k _ hk => setCells_other _ _ _ _ _ (fun e => hk (by simp [Value.ownBlock, e]))⟩, ⟨h.1, .inr ⟨g, off, cap, cur', rfl, hBg, a1, h1, h2, by omega, fun j hj => by rw [a4 _ (.inl (by omega)), h4 j hj]⟩⟩, .inl ⟨_, _, rfl, rfl⟩⟩
      by_cases hjo : j < n * i.size
      · rw [a4 _ (.inl (by omega)), h4 j hjo, List.getElem?_append_left (by rw [h.1]; exact hjo)]
      · have hjn : j - n * i.size < news.length := by rw [hs.newsLen]; rw [Nat.add_mul] at hj; omega
        rw [List.getElem?_append_right (by rw [h.1]; omega), h.1, ← a3 (j - n * i.size) hjn (hbd _ hjn)]
        congr 1
        omega
    · have hold : (Builtin.firstCells i.size n (.slice (some ⟨g, off, none⟩) n cap)).run P w.drew = .ok xs.toArray w.drew :=
        run_firstCells_some w.drew i.size n ⟨g, off, none⟩ n cap xs h.1 (fun j u hj => by
          have hjl : j < n * i.size := by rw [← h.1]; exact (List.getElem?_eq_some_iff.1 hj).1
          rw [addr_add]
          show w.cell? _ = _
          rw [← hj, ← h4 j hjl]
          simp [World.cell?, hg])
      have hr := run_append_grow_src (P := P) w t t ty e i z ht hi hz (some ⟨g, off, none⟩) n cap xs hold x m news hs (by omega) hsmall (growslice_fits (by omega) hbytes)
      exact ⟨_, _, hr, grown cap (by omega), ⟨rfl, rfl, rfl, by simp, fun k hk _ => Below.heap_alloc w.drew _ k hk⟩, OffRow.kept h (fun j hj => by obtain ⟨_, hlt⟩ := h.lt j hj; exact Below.heap_alloc w.drew _ j hlt), .inr rfl⟩
theorem wp_append_offK {P : Program} {w : World} {o : Oper} {a : Act} {K : Act → World → Prop} {Q : Exit → Act → World → Prop} (s x : Operand) (t : TypeId)
    (ho : o.op = .call { callee := .builtin .append, args := #[s, x], argTypes := #[t, t] })
    (B : Nat) (e : TypeId) (i : TypeInfo) (z : Value) (size bytes : Nat) (ht : P.underlying t = some (.slice e)) (hi : P.info? e = some i) (hz : i.zero = some z)
    (hsize : i.size = size) (hby : i.bytes = bytes) (hzs : z.cells.size = size)
    (v : Value) (n : Nat) (xs : List Value) (hs : a.eval s = v) (hown : OffRow w B e size v n xs) (xv : Value) (hx : a.eval x = xv) (m : Nat) (news : List Value) (hsrc : Src P size t xv m news w)
    (h63 : n + m ≤ maxLen) (hbytes : (n + m) * bytes ≤ 140737488355328) (hB : B ≤ w.heap.size)
    (h : ∀ v' w', OffRow w' B e size v' (n + m) (xs ++ news) → w.grownBy w' v.ownBlock → OffRow w' B e size v n xs ∧ ((∃ a cap, v = .slice a n cap ∧ v' = .slice a (n + m) cap) ∨ v'.ownBlock = some w.heap.size) → K (a.put o.dst v') w') : o.wp P a w K Q := by
  obtain ⟨v', w', hr, h2, h3, h4⟩ := run_append_offK (P := P) t o.type e i z size bytes ht hi hz hsize hby hzs hown xv m news hsrc h63 hbytes hB
  unfold Oper.wp execOp
  simp only [ho, resolve, invoke, builtin, Sem.run_bind, Sem.run_pure, Result.andThen_ok, List.map_toArray, List.map_cons, List.map_nil, hs, hx, hr]
  exact h v' w' h2 h3 h4
/-- At a plain region's list. -/
theorem wpList_append_offK {P : Program} {w : World} {ops : Array Oper} {rest : List Oper} {o : Oper} {a : Act} {Q : Exit → Act → World → Prop} (hgd : o.guard = none) (s x : Operand) (t : TypeId)
    (ho : o.op = .call { callee := .builtin .append, args := #[s, x], argTypes := #[t, t] })
    (B : Nat) (e : TypeId) (i : TypeInfo) (z : Value) (size bytes : Nat) (ht : P.underlying t = some (.slice e)) (hi : P.info? e = some i) (hz : i.zero = some z)
    (hsize : i.size = size) (hby : i.bytes = bytes) (hzs : z.cells.size = size)
    (v : Value) (n : Nat) (xs : List Value) (hs : a.eval s = v) (hown : OffRow w B e size v n xs) (xv : Value) (hx : a.eval x = xv) (m : Nat) (news : List Value) (hsrc : Src P size t xv m news w)
    (h63 : n + m ≤ maxLen) (hbytes : (n + m) * bytes ≤ 140737488355328) (hB : B ≤ w.heap.size)
    (h : ∀ v' w', OffRow w' B e size v' (n + m) (xs ++ news) → w.grownBy w' v.ownBlock → OffRow w' B e size v n xs ∧ ((∃ a cap, v = .slice a n cap ∧ v' = .slice a (n + m) cap) ∨ v'.ownBlock = some w.heap.size) → wpList P ops Q rest (a.put o.dst v') w') : wpList P ops Q (o :: rest) a w :=
  wpList_plain hgd fun _ hK => wp_append_offK s x t ho B e i z size bytes ht hi hz hsize hby hzs v n xs hs hown xv hx m news hsrc h63 hbytes hB fun v' w' h2 h3 h4 => hK _ _ (h v' w' h2 h3 h4)
/-- At a step of a region that draws. -/
theorem step_append_offK {P : Program} {w : World} {ops : Array Oper} {o : Oper} {a : Act} {K : Act → World → Prop} {Q : Exit → Act → World → Prop} {E : Prop} (hgd : o.guard = none) (s x : Operand) (t : TypeId)
    (ho : o.op = .call { callee := .builtin .append, args := #[s, x], argTypes := #[t, t] })
    (B : Nat) (e : TypeId) (i : TypeInfo) (z : Value) (size bytes : Nat) (ht : P.underlying t = some (.slice e)) (hi : P.info? e = some i) (hz : i.zero = some z)
    (hsize : i.size = size) (hby : i.bytes = bytes) (hzs : z.cells.size = size)
    (v : Value) (n : Nat) (xs : List Value) (hs : a.eval s = v) (hown : OffRow w B e size v n xs) (xv : Value) (hx : a.eval x = xv) (m : Nat) (news : List Value) (hsrc : Src P size t xv m news w)
    (h63 : n + m ≤ maxLen) (hbytes : (n + m) * bytes ≤ 140737488355328) (hB : B ≤ w.heap.size)
    (h : ∀ v' w', OffRow w' B e size v' (n + m) (xs ++ news) → w.grownBy w' v.ownBlock → OffRow w' B e size v n xs ∧ ((∃ a cap, v = .slice a n cap ∧ v' = .slice a (n + m) cap) ∨ v'.ownBlock = some w.heap.size) → K (a.put o.dst v') w') :
    if Region.wanted o (yielded ops a.tmps) = true then Oper.wp P o a w K Q else E := by
  have hw : Region.wanted o (yielded ops a.tmps) = true := by simp [Region.wanted, hgd]
  rw [if_pos hw]
  exact wp_append_offK s x t ho B e i z size bytes ht hi hz hsize hby hzs v n xs hs hown xv hx m news hsrc h63 hbytes hB h
end Go.Proofs.YtgljjdldhnajdaaGreat
/- A draft in memory: its lists, and the set of its files. -/
set_option linter.unusedVariables false
set_option maxRecDepth 100000
namespace Go.Proofs.YtgljjdldhnajdaaGreat
open Go.RowKit Go.Maps Go.WideShapes Go.ChangeMaps

def fent (f : Int) : Lit × DataW Unit := (.int .i64 f, .agg [])
theorem keyedI : Keyed Tryz.prog 3 := int_keyed Tryz.underlying3
theorem zeroU (w : World) : (zeroValue 159).run Tryz.prog w = .ok (.agg #[]) w := by kernel_rfl
theorem wf_i64 {f : Int} (h1 : -9223372036854775808 ≤ f) (h2 : f ≤ 9223372036854775807) : (Lit.int .i64 f).wf = true := by
  have a : IntKind.i64.min = -9223372036854775808 := rfl
  have b : IntKind.i64.max = 9223372036854775807 := rfl
  simp [Lit.wf, a, b, h1, h2]
def SetM (w : World) (mb : Nat) (F : List Int) : Prop := ∃ l, w.ownsMap Tryz.prog 3 (unitElem (H := Unit)) mb F.length (.map l) ∧ l.Perm (F.map fent)
theorem SetM.obj {w : World} {mb : Nat} {F : List Int} (h : SetM w mb F) : ∃ x c, w.heap[mb]? = some (.map x c) := by
  obtain ⟨l, ⟨x, c, hb, _⟩, _⟩ := h
  exact ⟨x, c, hb⟩
theorem SetM.kept {w w' : World} {mb : Nat} {F : List Int} (h : SetM w mb F) (hk : w'.heap[mb]? = w.heap[mb]?) : SetM w' mb F := by
  obtain ⟨l, ⟨x, c, hb, r⟩, hp⟩ := h
  exact ⟨l, ⟨x, c, hk.trans hb, r⟩, hp⟩
theorem SetM.perm {w : World} {mb : Nat} {F F' : List Int} (h : SetM w mb F) (hp : F.Perm F') : SetM w mb F' := by
  obtain ⟨l, hl, hq⟩ := h
  exact ⟨l, by rw [← hp.length_eq]; exact hl, hq.trans (hp.map _)⟩
theorem key_same (a b : Int) : (Lit.int .i64 a).sameKey (.int .i64 b) = decide (a = b) := by
  by_cases h : a = b
  · subst h
    rw [WideAt.sameKey_self (by simp [WideAt.IsKeyLit]), decide_eq_true rfl]
  · rw [decide_eq_false h]
    exact sameKey_ne fun e => h (by injection e)
theorem set_has {l : List (Lit × DataW Unit)} {F : List Int} (hp : l.Perm (F.map fent)) (f : Int) : Maps.has (DataW.map l) (.int .i64 f) = decide (f ∈ F) := by
  rw [Bool.eq_iff_iff]
  simp only [Maps.has, List.any_eq_true, decide_eq_true_eq]
  constructor
  · rintro ⟨p, hpl, hs⟩
    obtain ⟨g, hg, rfl⟩ := List.mem_map.1 (hp.mem_iff.1 hpl)
    rw [show (fent g).1 = Lit.int .i64 g from rfl, key_same] at hs
    have : g = f := by simpa using hs
    rw [← this]; exact hg
  · intro hf
    exact ⟨fent f, hp.mem_iff.2 (List.mem_map.2 ⟨f, hf, rfl⟩), by rw [show (fent f).1 = Lit.int .i64 f from rfl, key_same]; simp⟩
theorem set_put {w : World} {mb : Nat} {F : List Int} {f : Int} {l : List (Lit × DataW Unit)} (hp : l.Perm (F.map fent)) (hno : ¬ f ∈ F)
    (h : w.ownsMap Tryz.prog 3 (unitElem (H := Unit)) mb (F.length + 1) ((DataW.map l).put (.int .i64 f) (.agg []))) : SetM w mb (f :: F) := by
  refine ⟨DataW.insert (.int .i64 f, .agg []) (l.filter fun p => !p.1.sameKey (.int .i64 f)), h, ?_⟩
  have hfl : (l.filter fun p => !p.1.sameKey (.int .i64 f)) = l := List.filter_eq_self.2 fun p hpl => by
    obtain ⟨x, hx, rfl⟩ := List.mem_map.1 (hp.mem_iff.1 hpl)
    have : x ≠ f := fun e => hno (e ▸ hx)
    rw [show (fent x).1 = Lit.int .i64 x from rfl, key_same, decide_eq_false this]
    rfl
  rw [hfl]
  refine (insert_perm _ _).trans ?_
  rw [List.map_cons]
  exact List.Perm.cons _ hp
theorem set_tight {w : World} {mb n : Nat} {l : List (Lit × DataW Unit)} (h : w.ownsMap Tryz.prog 3 (unitElem (H := Unit)) mb n (.map l)) : w.ownsMap Tryz.prog 3 (unitElem (H := Unit)) mb l.length (.map l) := by
  obtain ⟨es, clock, hb, F, hs, hD⟩ := h
  injection hD with hD
  refine ⟨es, clock, hb, F, ?_, by rw [hD]⟩
  rw [hD, length_sorted]
  simp
theorem set_del {w : World} {mb m : Nat} {F : List Int} {f : Int} {l : List (Lit × DataW Unit)} (hp : l.Perm (F.map fent))
    (h : w.ownsMap Tryz.prog 3 (unitElem (H := Unit)) mb m ((DataW.map l).del (.int .i64 f))) : SetM w mb (F.filter fun g => decide (g ≠ f)) := by
  have h' : w.ownsMap Tryz.prog 3 (unitElem (H := Unit)) mb m (.map (l.filter fun p => !p.1.sameKey (.int .i64 f))) := h
  have hpp : (l.filter fun p => !p.1.sameKey (.int .i64 f)).Perm ((F.filter fun g => decide (g ≠ f)).map fent) := by
    refine (hp.filter _).trans ?_
    rw [List.filter_map]
    have : ((fun p : Lit × DataW Unit => !p.1.sameKey (.int .i64 f)) ∘ fent) = fun g => decide (g ≠ f) := by
      funext g
      show (!(Lit.int .i64 g).sameKey (.int .i64 f)) = _
      rw [key_same]
      simp
    rw [this]
  have := set_tight h'
  rw [hpp.length_eq, List.length_map] at this
  exact ⟨_, this, hpp⟩
theorem turned_other' {w w' : World} {b : Nat} (h : w.mapTurned w' b) (k : Nat) (hk : k ≠ b) : w'.heap[k]? = w.heap[k]? := by
  obtain ⟨es, clock, es', clock', hb, rfl⟩ := h
  exact heap_setBlock_other hb _ hk
theorem turned_meta {w w' : World} {b : Nat} (h : w.mapTurned w' b) : w.grownBy w' (some b) := by
  obtain ⟨es, clock, es', clock', hb, rfl⟩ := h
  exact ⟨rfl, rfl, rfl, by simp [setBlock], fun k _ hk => heap_setBlock_other hb _ (fun e => hk (by rw [e]))⟩

/-- A draft in memory, all of it from block B on. -/
structure Dr (B : Nat) (w : World) (db : Nat) (s : St) (tv sv lv : Value) (mb : Nat) : Prop where
  obj : w.heap[db]? = some (.cells #[tv, sv, lv, .int .i64 s.next, .map (some mb)] 105 (0, 0))
  lo : B ≤ db
  tabs : OwnTb w B tv s.tabs
  stos : OwnSo w B sv s.stos
  logs : OwnI w B lv s.logs
  set : SetM w mb s.files
  mlo : B ≤ mb
namespace Dr
variable {B db mb : Nat} {w w' : World} {s : St} {tv sv lv : Value}
theorem lt (h : Dr B w db s tv sv lv mb) : db < w.heap.size := heap_lt h.obj
theorem ltm (h : Dr B w db s tv sv lv mb) : mb < w.heap.size := by obtain ⟨x, c, e⟩ := h.set.obj; exact heap_lt e
theorem nmb (h : Dr B w db s tv sv lv mb) : mb ≠ db := by
  rintro rfl
  obtain ⟨x, c, e⟩ := h.set.obj
  rw [h.obj] at e; cases e
theorem nt (h : Dr B w db s tv sv lv mb) {g : Nat} (hg : tv.ownBlock = some g) : g ≠ db ∧ g ≠ mb ∧ sv.ownBlock ≠ some g ∧ lv.ownBlock ≠ some g := by
  obtain ⟨cur, hc⟩ := OffRow.tag h.tabs hg
  refine ⟨?_, ?_, fun e => ?_, fun e => ?_⟩
  · rintro rfl; rw [h.obj] at hc; simp at hc
  · rintro rfl; obtain ⟨x, c, e⟩ := h.set.obj; rw [hc] at e; cases e
  · obtain ⟨c2, h2⟩ := OffRow.tag h.stos e; rw [hc] at h2; simp at h2
  · obtain ⟨c2, h2⟩ := OffRow.tag h.logs e; rw [hc] at h2; simp at h2
theorem ns (h : Dr B w db s tv sv lv mb) {g : Nat} (hg : sv.ownBlock = some g) : g ≠ db ∧ g ≠ mb ∧ tv.ownBlock ≠ some g ∧ lv.ownBlock ≠ some g := by
  obtain ⟨cur, hc⟩ := OffRow.tag h.stos hg
  refine ⟨?_, ?_, fun e => ?_, fun e => ?_⟩
  · rintro rfl; rw [h.obj] at hc; simp at hc
  · rintro rfl; obtain ⟨x, c, e⟩ := h.set.obj; rw [hc] at e; cases e
  · obtain ⟨c2, h2⟩ := OffRow.tag h.tabs e; rw [hc] at h2; simp at h2
  · obtain ⟨c2, h2⟩ := OffRow.tag h.logs e; rw [hc] at h2; simp at h2
theorem nl (h : Dr B w db s tv sv lv mb) {g : Nat} (hg : lv.ownBlock = some g) : g ≠ db ∧ g ≠ mb ∧ tv.ownBlock ≠ some g ∧ sv.ownBlock ≠ some g := by
  obtain ⟨cur, hc⟩ := OffRow.tag h.logs hg
  refine ⟨?_, ?_, fun e => ?_, fun e => ?_⟩
  · rintro rfl; rw [h.obj] at hc; simp at hc
  · rintro rfl; obtain ⟨x, c, e⟩ := h.set.obj; rw [hc] at e; cases e
  · obtain ⟨c2, h2⟩ := OffRow.tag h.tabs e; rw [hc] at h2; simp at h2
  · obtain ⟨c2, h2⟩ := OffRow.tag h.stos e; rw [hc] at h2; simp at h2
/-- A draft stays while other blocks are written. -/
theorem kept (h : Dr B w db s tv sv lv mb) (k : ∀ j, j < w.heap.size → w'.heap[j]? = w.heap[j]?) : Dr B w' db s tv sv lv mb :=
  ⟨(k _ h.lt).trans h.obj, h.lo, OffRow.kept h.tabs fun j hj => k j (OffRow.lt h.tabs j hj).2, OffRow.kept h.stos fun j hj => k j (OffRow.lt h.stos j hj).2, OffRow.kept h.logs fun j hj => k j (OffRow.lt h.logs j hj).2, h.set.kept (k _ h.ltm), h.mlo⟩
theorem below (h : Dr B w db s tv sv lv mb) (k : Below w.heap.size w w') : Dr B w' db s tv sv lv mb := h.kept fun j hj => k.block j hj
theorem cell (h : Dr B w db s tv sv lv mb) (i : Nat) : w.cell? ⟨db, i, none⟩ = #[tv, sv, lv, .int .i64 s.next, Value.map (some mb)][i]? := by simp [World.cell?, h.obj]
theorem free (h : Dr B w db s tv sv lv mb) (i : Nat) : w.frozen? ⟨db, i, none⟩ = false := by simp [World.frozen?, h.obj]
/-- New tables. -/
theorem putT (h : Dr B w db s tv sv lv mb) {tv' : Value} {T' : List Tb} (ho : OwnTb w' B tv' T') (k : ∀ j, j < w.heap.size → tv.ownBlock ≠ some j → w'.heap[j]? = w.heap[j]?) (hn : ∀ g, tv'.ownBlock = some g → g ≠ db) :
    (w'.setCell ⟨db, 0, none⟩ tv').heap[db]? = some (.cells #[tv', sv, lv, .int .i64 s.next, .map (some mb)] 105 (0, 0)) ∧ OwnTb (w'.setCell ⟨db, 0, none⟩ tv') B tv' T' ∧ OwnSo (w'.setCell ⟨db, 0, none⟩ tv') B sv s.stos ∧ OwnI (w'.setCell ⟨db, 0, none⟩ tv') B lv s.logs ∧ SetM (w'.setCell ⟨db, 0, none⟩ tv') mb s.files := by
  have e1 : w'.heap[db]? = _ := (k db h.lt (fun e => (h.nt e).1 rfl)).trans h.obj
  refine ⟨by rw [heap_set e1]; simp, OffRow.kept ho fun j hj => heap_set_other (hn j hj) _, ?_, ?_, ?_⟩
  · exact OffRow.kept h.stos fun j hj => (heap_set_other (h.ns hj).1 _).trans (k j (OffRow.lt h.stos j hj).2 (h.ns hj).2.2.1)
  · exact OffRow.kept h.logs fun j hj => (heap_set_other (h.nl hj).1 _).trans (k j (OffRow.lt h.logs j hj).2 (h.nl hj).2.2.1)
  · exact h.set.kept ((heap_set_other h.nmb _).trans (k mb h.ltm (fun e => (h.nt e).2.1 rfl)))
theorem putS (h : Dr B w db s tv sv lv mb) {sv' : Value} {S' : List So} (ho : OwnSo w' B sv' S') (k : ∀ j, j < w.heap.size → sv.ownBlock ≠ some j → w'.heap[j]? = w.heap[j]?) (hn : ∀ g, sv'.ownBlock = some g → g ≠ db) :
    (w'.setCell ⟨db, 1, none⟩ sv').heap[db]? = some (.cells #[tv, sv', lv, .int .i64 s.next, .map (some mb)] 105 (0, 0)) ∧ OwnTb (w'.setCell ⟨db, 1, none⟩ sv') B tv s.tabs ∧ OwnSo (w'.setCell ⟨db, 1, none⟩ sv') B sv' S' ∧ OwnI (w'.setCell ⟨db, 1, none⟩ sv') B lv s.logs ∧ SetM (w'.setCell ⟨db, 1, none⟩ sv') mb s.files := by
  have e1 : w'.heap[db]? = _ := (k db h.lt (fun e => (h.ns e).1 rfl)).trans h.obj
  refine ⟨by rw [heap_set e1]; simp, ?_, OffRow.kept ho fun j hj => heap_set_other (hn j hj) _, ?_, ?_⟩
  · exact OffRow.kept h.tabs fun j hj => (heap_set_other (h.nt hj).1 _).trans (k j (OffRow.lt h.tabs j hj).2 (h.nt hj).2.2.1)
  · exact OffRow.kept h.logs fun j hj => (heap_set_other (h.nl hj).1 _).trans (k j (OffRow.lt h.logs j hj).2 (h.nl hj).2.2.2)
  · exact h.set.kept ((heap_set_other h.nmb _).trans (k mb h.ltm (fun e => (h.ns e).2.1 rfl)))
theorem putL (h : Dr B w db s tv sv lv mb) {lv' : Value} {L' : List Int} (ho : OwnI w' B lv' L') (k : ∀ j, j < w.heap.size → lv.ownBlock ≠ some j → w'.heap[j]? = w.heap[j]?) (hn : ∀ g, lv'.ownBlock = some g → g ≠ db) :
    (w'.setCell ⟨db, 2, none⟩ lv').heap[db]? = some (.cells #[tv, sv, lv', .int .i64 s.next, .map (some mb)] 105 (0, 0)) ∧ OwnTb (w'.setCell ⟨db, 2, none⟩ lv') B tv s.tabs ∧ OwnSo (w'.setCell ⟨db, 2, none⟩ lv') B sv s.stos ∧ OwnI (w'.setCell ⟨db, 2, none⟩ lv') B lv' L' ∧ SetM (w'.setCell ⟨db, 2, none⟩ lv') mb s.files := by
  have e1 : w'.heap[db]? = _ := (k db h.lt (fun e => (h.nl e).1 rfl)).trans h.obj
  refine ⟨by rw [heap_set e1]; simp, ?_, ?_, OffRow.kept ho fun j hj => heap_set_other (hn j hj) _, ?_⟩
  · exact OffRow.kept h.tabs fun j hj => (heap_set_other (h.nt hj).1 _).trans (k j (OffRow.lt h.tabs j hj).2 (h.nt hj).2.2.2)
  · exact OffRow.kept h.stos fun j hj => (heap_set_other (h.ns hj).1 _).trans (k j (OffRow.lt h.stos j hj).2 (h.ns hj).2.2.2)
  · exact h.set.kept ((heap_set_other h.nmb _).trans (k mb h.ltm (fun e => (h.nl e).2.1 rfl)))
end Dr
/-- Lists and a set that stand beside a draft's block: all that a draft is but the set's own files. -/
structure Dr0 (B : Nat) (w : World) (db : Nat) (s : St) (F : List Int) (tv sv lv : Value) (mb : Nat) : Prop where
  obj : w.heap[db]? = some (.cells #[tv, sv, lv, .int .i64 s.next, .map (some mb)] 105 (0, 0))
  lo : B ≤ db
  tabs : OwnTb w B tv s.tabs
  stos : OwnSo w B sv s.stos
  logs : OwnI w B lv s.logs
  set : SetM w mb F
  mlo : B ≤ mb
/-- The set turned. -/
theorem Dr0.turn {B db mb : Nat} {w w' : World} {s : St} {F F' : List Int} {tv sv lv : Value} (h : Dr0 B w db s F tv sv lv mb) (hs : SetM w' mb F') (k : ∀ j, j < w.heap.size → j ≠ mb → w'.heap[j]? = w.heap[j]?) : Dr0 B w' db s F' tv sv lv mb := by
  obtain ⟨x, c, hx⟩ := h.set.obj
  have n1 : db ≠ mb := by rintro rfl; rw [h.obj] at hx; cases hx
  have nt : ∀ g, tv.ownBlock = some g → g ≠ mb := fun g hg e => by obtain ⟨c, hc⟩ := OffRow.tag h.tabs hg; rw [e, hx] at hc; cases hc
  have ns : ∀ g, sv.ownBlock = some g → g ≠ mb := fun g hg e => by obtain ⟨c, hc⟩ := OffRow.tag h.stos hg; rw [e, hx] at hc; cases hc
  have nl : ∀ g, lv.ownBlock = some g → g ≠ mb := fun g hg e => by obtain ⟨c, hc⟩ := OffRow.tag h.logs hg; rw [e, hx] at hc; cases hc
  exact ⟨(k db (heap_lt h.obj) n1).trans h.obj, h.lo, OffRow.kept h.tabs fun j hj => k j (OffRow.lt h.tabs j hj).2 (nt j hj), OffRow.kept h.stos fun j hj => k j (OffRow.lt h.stos j hj).2 (ns j hj), OffRow.kept h.logs fun j hj => k j (OffRow.lt h.logs j hj).2 (nl j hj), hs, h.mlo⟩
theorem Dr.of0 {B db mb : Nat} {w : World} {s : St} {F : List Int} {tv sv lv : Value} (h : Dr0 B w db s F tv sv lv mb) (hp : F.Perm s.files) : Dr B w db s tv sv lv mb := ⟨h.obj, h.lo, h.tabs, h.stos, h.logs, h.set.perm hp, h.mlo⟩
theorem Dr.to0 {B db mb : Nat} {w : World} {s : St} {tv sv lv : Value} (h : Dr B w db s tv sv lv mb) : Dr0 B w db s s.files tv sv lv mb := ⟨h.obj, h.lo, h.tabs, h.stos, h.logs, h.set, h.mlo⟩
end Go.Proofs.YtgljjdldhnajdaaGreat
/- What a draft does: whether a file may be added, a log more, the number of the next file. -/
set_option linter.unusedVariables false
set_option maxRecDepth 100000
namespace Go.Proofs.YtgljjdldhnajdaaGreat
open Go.RowKit Go.Maps Go.WideShapes Go.ChangeMaps
variable {B db mb : Nat} {w : World} {s : St} {tv sv lv : Value}

def mayE (s : St) (f : Int) : Int := if f < 1 then 1 else if f ∈ s.files then 10 else 0
set_option maxHeartbeats 2000000 in
theorem may_add (h : Hid (Dr B w db s tv sv lv mb)) (f : Int) (hf : f ≤ 9223372036854775807) :
    Calls Tryz.prog 152 #[.pointer (some ⟨db, 0, none⟩), .int .i64 f] w fun e w' => e = .returned (.int .i64 (mayE s f)) ∧ Below w.heap.size w w' := by
  have HM := Lib.hid (show mayE s f = _ from rfl)
  obtain ⟨z, hz⟩ : ∃ z, z = mayE s f := ⟨_, rfl⟩
  rw [← hz]
  have HZ := Lib.hid hz
  clear HM hz
  have c4 : w.cell? ⟨db, 4, none⟩ = some (.map (some mb)) := h.out.cell 4
  by_cases h1 : f < 1
  · have hv := Lib.hid (show z = 1 by rw [HZ.out]; unfold mayE; rw [if_pos h1])
    clear HZ
    go_enter Tryz.func152, Tryz.ntmps152
    go_wp2
    go_ret
    exact ⟨by rw [hv.out]; rfl, Below.refl _ _⟩
  · obtain ⟨l, hl, hp⟩ := h.out.set
    have hw : (Lit.int .i64 f).wf = true := wf_i64 (by omega) hf
    have hkey : keyOf Tryz.prog 3 (.int .i64 f) = some (.int .i64 f) := keyOf_int_mk Tryz.underlying3 hw
    have hhas := set_has hp f
    have HH := Lib.hid (And.intro hl hkey)
    obtain ⟨b, hb⟩ : ∃ b, b = decide (f ∈ s.files) := ⟨_, rfl⟩
    rw [← hb] at hhas
    have hv := Lib.hid (show z = if b then 10 else 0 by rw [HZ.out, hb]; unfold mayE; rw [if_neg h1]; simp)
    clear HZ hl hkey hp hw hb
    cases b
    all_goals
      go_enter Tryz.func152, Tryz.ntmps152
      go_wp2_with (at_lookup; refine wpList_lookup_own_unit _ rfl _ _ 103 rfl 3 159 keyedI Tryz.underlying103 (zeroU _) mb _ _ rfl HH.out.1 _ _ rfl HH.out.2 ?_)
      go_ret
      exact ⟨by rw [hv.out]; rfl, (Below.refl _ _).alloc (Nat.le_refl _) _⟩

/-- What a call of a draft leaves: its error; where there is none, the draft of the state behind it. -/
def DoPost (B db : Nat) (w : World) (z : Int) (s' : St) (e : Ending) (w' : World) : Prop := e = .returned (.int .i64 z) ∧ Below B w w' ∧ (z = 0 → ∃ tv sv lv mb, Dr B w' db s' tv sv lv mb)
theorem do_bad {w' : World} {z : Int} {s' : St} (h : Below B w w') (hz : ¬ z = 0) : DoPost B db w z s' (.returned (.int .i64 z)) w' := ⟨rfl, h, fun e => absurd e hz⟩

set_option maxHeartbeats 4000000 in
theorem add_log (h : Hid (Dr B w db s tv sv lv mb)) (f : Int) (hf : f ≤ 9223372036854775807) (hn : Hid (s.logs.length ≤ 1000000000 ∧ s.files.length ≤ 1000000000)) :
    Calls Tryz.prog 121 #[.pointer (some ⟨db, 0, none⟩), .int .i64 f] w (DoPost B db w (mayE s f) { s with logs := s.logs ++ [f] }) := by
  have HM := Lib.hid (may_add h f hf)
  obtain ⟨z, hz⟩ : ∃ z, z = mayE s f := ⟨_, rfl⟩
  rw [← hz] at HM ⊢
  have HZ := Lib.hid hz
  clear hz
  have HB := Lib.hid (show B ≤ w.heap.size by have := h.out.lo; have := h.out.lt; omega)
  by_cases hz0 : z = 0
  · subst hz0
    obtain ⟨hf1, hno⟩ : 1 ≤ f ∧ ¬ f ∈ s.files := by
      have := HZ.out
      unfold mayE at this
      split at this
      · cases this
      · split at this
        · cases this
        · rename_i a b; exact ⟨by omega, b⟩
    have HNO := Lib.hid hno
    have hw : (Lit.int .i64 f).wf = true := wf_i64 (by omega) hf
    have HK := Lib.hid (show keyOf Tryz.prog 3 (.int .i64 f) = some (.int .i64 f) from keyOf_int_mk Tryz.underlying3 hw)
    obtain ⟨i0, hi0, hz0, hz1, hz2⟩ := info_parts infoInt
    have HI := Lib.hid (And.intro hi0 (And.intro hz0 (And.intro hz1 hz2)))
    clear hno hw hi0 hz0 hz1 hz2 HZ
    go_enter Tryz.func121, Tryz.ntmps121
    go_wp2_with fail
    refine HM.out.mono ?_
    rintro e w1 ⟨rfl, k1⟩
    have D1 := Lib.hid (h.out.below k1)
    have K1 := Lib.hid (k1.mono HB.out)
    clear k1
    have c0 : w1.cell? ⟨db, 2, none⟩ = some lv := D1.out.cell 2
    obtain ⟨la, lc, rfl⟩ := OffRow.slice D1.out.logs
    obtain ⟨n, hnl⟩ : ∃ n, n = s.logs.length := ⟨_, rfl⟩
    rw [← hnl] at c0
    have OL := Lib.hid (show OffRow w1 B 3 1 (.slice la n lc) n (flat icell s.logs) by rw [hnl]; exact D1.out.logs)
    rw [← hnl] at D1 h
    have HN := Lib.hid hnl
    clear hnl
    go_wp2_with (at_builtin; refine wpList_append_off rfl (.tmp 17) (.tmp 19) 44 rfl B 3 i0 _ 1 8 Tryz.underlying44 HI.out.1 HI.out.2.1 HI.out.2.2.1 HI.out.2.2.2 rfl (.slice la n lc) n (flat icell s.logs) rfl (OL.out.allocd _) (.slice (some ⟨w1.heap.size, 0, none⟩) 1 1) rfl 1 [.int .i64 f] ?c2 ?c3 ?c4 ?c5 ?_)
    case c2 => exact src_block (size := 1) (cs := #[.int .i64 f]) Tryz.underlying44 (heap_new _ _) 1 1 rfl (by intro u hu; simp at hu; subst hu; rfl)
    case c3 => have := hn.out.1; have := HN.out; unfold maxLen; omega
    case c4 => have := hn.out.1; have := HN.out; omega
    case c5 => have := D1.out.lo; have := D1.out.lt; simp; omega
    intro VV w2 hr2 hg2 hat2
    obtain ⟨a2, c2', rfl⟩ := OffRow.slice hr2
    have O2 := Lib.hid (show OwnI w2 B (.slice a2 (n + 1) c2') (s.logs ++ [f]) by unfold OwnI; rw [List.length_append, flat_append, flat_one, ← HN.out]; exact hr2)
    have K2 := Lib.hid ((K1.out.alloc (by have := K1.out.size; have := HB.out; omega) (.cells #[.int .i64 f] 3)).grown hg2 (by have := K1.out.size; have := HB.out; simp; omega) (fun j hj => ((OL.out.allocd (.cells #[.int .i64 f] 3)).lt j hj).1))
    have k2 : ∀ j, j < w1.heap.size → (Value.slice la n lc).ownBlock ≠ some j → w2.heap[j]? = w1.heap[j]? := fun j hj hne => (hg2.block j (by simp; omega) (fun e => hne e.symm)).trans (Below.heap_alloc w1 _ j hj)
    have hv2 : ∀ g, (Value.slice a2 (n + 1) c2').ownBlock = some g → g ≠ db := fun g hg => by
      rcases hat2 with e | e
      · rw [e] at hg; exact (D1.out.nl hg).1
      · rw [e] at hg
        have := D1.out.lt
        simp at hg
        omega
    obtain ⟨p1, p2, p3, p4, p5⟩ := D1.out.putL O2.out k2 hv2
    have P := Lib.hid (And.intro p1 (And.intro p2 (And.intro p3 (And.intro p4 p5))))
    have e2 : w2.heap[db]? = _ := (k2 db D1.out.lt (fun e => (D1.out.nl e).1 rfl)).trans D1.out.obj
    have d2 : w2.cell? ⟨db, 2, none⟩ = some (.slice la n lc) := by simp [World.cell?, e2]
    have f2 : w2.frozen? ⟨db, 2, none⟩ = false := by simp [World.frozen?, e2]
    have d4 : (w2.setCell ⟨db, 2, none⟩ (.slice a2 (n + 1) c2')).cell? ⟨db, 4, none⟩ = some (.map (some mb)) := by simp [World.cell?, p1]
    have K3 := Lib.hid (K2.out.setCell (p := ⟨db, 2, none⟩) D1.out.lo (.slice a2 (n + 1) c2'))
    obtain ⟨l, hl, hp⟩ := p5
    have HL := Lib.hid (And.intro hl hp)
    have hmx : s.files.length < maxLen := by have := hn.out.2; unfold maxLen; omega
    clear hr2 hg2 hat2 k2 hv2 p1 p2 p3 p4 e2 hl hp c0
    go_wp2_with (at_mapUpdate; refine wpList_mapUpdate_own _ rfl _ _ _ 103 rfl 3 159 keyedI Tryz.underlying103 _ mb _ _ rfl HL.out.1 hmx _ _ _ rfl rfl HK.out _ [] unitElem_mk ?_)
    intro w4 hown4 hgrow4
    have S4 := Lib.hid (set_put HL.out.2 HNO.out hown4)
    have G4 := Lib.hid hgrow4
    clear hown4 hgrow4
    go_wp2
    go_ret
    refine ⟨rfl, K3.out.grown G4.out (by have := K3.out.size; have := HB.out; omega) (fun j hj => by injection hj with hj; rw [← hj]; exact D1.out.mlo), fun _ => ?_⟩
    have d0 : Dr0 B (w2.setCell ⟨db, 2, none⟩ (.slice a2 (n + 1) c2')) db { s with logs := s.logs ++ [f] } s.files tv sv (.slice a2 (n + 1) c2') mb := ⟨P.out.1, D1.out.lo, P.out.2.1, P.out.2.2.1, P.out.2.2.2.1, P.out.2.2.2.2, D1.out.mlo⟩
    refine ⟨tv, sv, (.slice a2 (n + 1) c2'), mb, Dr.of0 (d0.turn S4.out fun j hj hne => G4.out.block j hj (fun e => hne (by injection e))) ?_⟩
    show (f :: s.files).Perm (s.tabs.map (·.file) ++ s.stos.map (·.file) ++ (s.logs ++ [f]))
    rw [← List.append_assoc]
    exact (List.perm_append_singleton f s.files).symm
  · clear HZ
    go_enter Tryz.func121, Tryz.ntmps121
    go_wp2_with fail
    refine HM.out.mono ?_
    rintro e w1 ⟨rfl, k1⟩
    have K1 := Lib.hid (k1.mono HB.out)
    clear k1
    go_wp2
    go_ret
    exact do_bad K1.out hz0
end Go.Proofs.YtgljjdldhnajdaaGreat
/- A call by contract as one step of a region that draws. -/
set_option linter.unusedVariables false
set_option maxRecDepth 100000
namespace Go.Proofs.YtgljjdldhnajdaaGreat
open Go.RowKit
theorem step_callR {P : Program} {ops : Array Oper} {o : Oper} {a : Act} {w : World} {K : Act → World → Prop} {Q : Exit → Act → World → Prop} {E : Prop}
    (hg : o.guard = none) (f : FuncId) (xs : Array Operand) (ts : Array TypeId) (hop : o.op = Op.call { callee := Callee.value (Operand.func f), args := xs, argTypes := ts }) (hent : Enters P f)
    (args : Array Value) (hargs : xs.map a.eval = args) (R : Value → World → Prop) (hc : Calls P f args w fun e w' => ∃ v, e = .returned v ∧ R v w') (hK : ∀ v w1, R v w1 → K (a.put o.dst v) w1) :
    if Region.wanted o (yielded ops a.tmps) = true then Oper.wp P o a w K Q else E := by
  have hw : Region.wanted o (yielded ops a.tmps) = true := by simp [Region.wanted, hg]
  rw [if_pos hw]
  unfold Oper.wp
  unfold Enters at hent
  subst hargs
  simp [execOp, hop, resolve, invoke, hent, Result.andThen, Act.eval, Deferred.ofValue]
  refine hc.mono ?_
  rintro e w' ⟨v, rfl, hR⟩
  exact hK v w' hR
end Go.Proofs.YtgljjdldhnajdaaGreat
