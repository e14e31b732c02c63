/- A log made sure; a log begun; what is read of a file; logs and disks that are none. -/
import Derived.Test.YtkelcmncjhnbgaaWalLog2
set_option linter.unusedVariables false
set_option maxRecDepth 100000
namespace Go.Proofs.Ytkelcmncjhnbgaa
open Go.RowKit

section
variable {O : Nat → Prop} {w : World} {lb d wt wr su : Nat} {s : DS} {file : Int} {F : List UInt8}
/-- What Sync leaves. -/
def SyncPost (O : Nat → Prop) (w : World) (lb d : Nat) (s2 : DS) (z : Int) (file : Int) (F : List UInt8) (wt wr su : Nat) (e : Ending) (w' : World) : Prop :=
  e = .returned (.int .i64 z) ∧ (z ≠ 0 → Lg (New O w) w' lb d s2 file F wt wr su) ∧ (z = 0 → Lg (New O w) w' lb d s2 file F wt wr wr) ∧ Only O w w'
set_option maxHeartbeats 2000000 in
theorem log_Sync (h : Hid (Lg O w lb d s file F wt wr su)) (hw : (Lit.int .i64 file).wf = true) (hst : s.steps < 4611686018427387904) {s2 : DS} {z : Int} (hz : Hid (s.sync file = (s2, z))) :
    Calls Try.prog 30 #[.pointer (some ⟨lb, 0, none⟩)] w fun e w' => SyncPost O w lb d s2 z file F wt wr su e w' := by
  obtain ⟨S, fv, h1, h2, h3, h4, h5, h6, h7⟩ := h.out
  have hlt := heap_lt h7
  have HDID := Lib.hid (show ∀ (w1 w2 : World) (s2 : DS), Below w.heap.size w w1 → Disk (New S w1) w2 d s2 → Only S w1 w2 → Lg (New O w) w2 lb d s2 file F wt wr su ∧ Only O w w2 from fun w1 w2 s2 => Lg.did h2 h3 h4 h5 h6 h7)
  have n0 : ∀ n : Seen w, n.val.cell? ⟨lb, 0, none⟩ = some (.pointer (some ⟨d, 0, none⟩)) := fun n => by rw [n.below.cell (p := ⟨lb, 0, none⟩) hlt]; simp [World.cell?, h7]
  have n1 : ∀ n : Seen w, n.val.cell? ⟨lb, 1, none⟩ = some (.int .i64 file) := fun n => by rw [n.below.cell (p := ⟨lb, 1, none⟩) hlt]; simp [World.cell?, h7]
  have H1 := Lib.hid h1
  clear h1 h2 h3 h4 h5 h6 h7
  go_enter Try.func30, Try.ntmps30
  go_wp2_with fail
  refine wp_region_seen_tail 8 (by kernel_rfl) (by kernel_rfl) ?_
  simp only [List.take_succ_cons, List.take_zero, List.drop_succ_cons, List.drop_zero]
  repeat go_big_quiet_step (fail)
  refine wpQuiet_nil ?_
  rintro _ ⟨m1, rfl⟩
  have K1 := Lib.hid m1.below
  have D1 := Lib.hid (H1.out.below K1.out)
  generalize m1.val = w1 at *
  clear n0 n1 H1
  go_wp2_with fail
  refine (disk_Sync D1.out file hw hst).mono ?_
  rintro e w2 ⟨rfl, hd2, ho2⟩
  rw [hz.out] at hd2 ⊢
  obtain ⟨l2, o2⟩ := HDID.out w1 w2 s2 K1.out hd2 ho2
  have L2 := Lib.hid l2
  have O2 := Lib.hid o2
  clear hd2 ho2 l2 o2 HDID D1
  simp only
  by_cases hz0 : z = 0
  · subst hz0
    obtain ⟨S', fv', g1, g2, g3, g4, g5, g6, g7⟩ := L2.out
    have p4 : w2.cell? ⟨lb, 4, none⟩ = some (.int .i64 (wr : Int)) := by simp [World.cell?, g7]
    have p5 : w2.cell? ⟨lb, 5, none⟩ = some (.int .i64 (su : Int)) := by simp [World.cell?, g7]
    have f5 : w2.frozen? ⟨lb, 5, none⟩ = false := by simp [World.frozen?, g7]
    have o1 : Only (fun k => k = lb) w2 (w2.setCell ⟨lb, 5, none⟩ (.int .i64 (wr : Int))) := (Only.refl (fun k => k = lb) w2).setCell (p := ⟨lb, 5, none⟩) (.inl rfl) _
    have HL3 := Lib.hid (show Lg (New O w) (w2.setCell ⟨lb, 5, none⟩ (.int .i64 (wr : Int))) lb d s2 file F wt wr wr ∧ Only O w (w2.setCell ⟨lb, 5, none⟩ (.int .i64 (wr : Int))) from by
      refine ⟨⟨S', fv', g1.only o1 (fun j _ hs e => g4 (e ▸ hs)), g2, g3, g4, OffRow.kept g5 (fun j hj => o1.block j (OffRow.lt g5 j hj).2 fun e => ?_), g6, heap_set g7 _⟩, O2.out.andThen (o1.mono fun k hk e => e ▸ g3) (S' := New O w) fun j hj x => by rcases x with x | x; (exact x); (exact absurd hj (by omega))⟩
      subst e
      obtain ⟨cur, hc⟩ := OffRow.tag g5 hj
      rw [g7] at hc
      injection hc with hc
      injection hc with _ hc
      revert hc
      decide)
    clear g1 g2 g3 g4 g5 g6 g7 L2 o1
    go_wp2_with fail
    go_ret
    exact ⟨rfl, fun h => absurd rfl h, fun _ => HL3.out.1, HL3.out.2⟩
  · have hz1 : (z == 0) = false := beq_eq_false_iff_ne.2 hz0
    go_wp2_with fail
    go_ret
    exact ⟨rfl, fun _ => L2.out, fun h => absurd h hz0, O2.out⟩
end

/-- What Begin leaves. -/
def BeginPost (S : Nat → Prop) (w : World) (d : Nat) (s2 : DS) (z n : Int) (e : Ending) (w' : World) : Prop :=
  (z ≠ 0 ∧ e = .returned (.tuple #[.pointer none, .int .i64 z]) ∧ Disk (New S w) w' d s2 ∧ Only S w w') ∨
  (z = 0 ∧ ∃ lb, w.heap.size ≤ lb ∧ e = .returned (.tuple #[.pointer (some ⟨lb, 0, none⟩), .int .i64 0]) ∧ Lg (New S w) w' lb d s2 n [] 0 0 0 ∧ Only S w w')
set_option maxHeartbeats 2000000 in
theorem wal_Begin {S : Nat → Prop} {w : World} {d : Nat} {s s2 : DS} {t n z : Int} (h : Hid (Disk S w d s)) (hw : (Lit.int .i64 n).wf = true) (hst : s.steps < 4611686018427387904) (hz : Hid (s.make t n = (s2, z))) :
    Calls Try.prog 18 #[.pointer (some ⟨d, 0, none⟩), .int .i64 t, .int .i64 n] w fun e w' => BeginPost S w d s2 z n e w' := by
  go_enter Try.func18, Try.ntmps18
  go_wp2_with fail
  refine (disk_Make h.out t n hw (wf_hi hw).2 hst).mono ?_
  rintro e w2 ⟨rfl, hd2, ho2⟩
  rw [hz.out] at hd2 ⊢
  have D2 := Lib.hid hd2
  have O2 := Lib.hid ho2
  clear hd2 ho2
  simp only
  by_cases hz0 : z = 0
  · subst hz0
    have HL := Lib.hid (show Lg (New S w) (w2.alloc (.cells #[.pointer (some ⟨d, 0, none⟩), .int .i64 n, .slice none 0 0, .int .i64 0, .int .i64 0, .int .i64 0] 83)) w2.heap.size d s2 n [] 0 0 0 from
      ⟨fun k => New S w k ∧ k < w2.heap.size, .slice none 0 0, D2.out.tight.below ((Below.refl _ _).alloc (Nat.le_refl _) _), fun k hk => hk.1, .inr O2.out.size, fun x => Nat.lt_irrefl _ x.2, OffRow.nil _ _ _ _, fun g hg => by simp [Value.ownBlock] at hg, heap_new _ _⟩)
    have HO := Lib.hid (O2.out.alloc (.cells #[.pointer (some ⟨d, 0, none⟩), .int .i64 n, .slice none 0 0, .int .i64 0, .int .i64 0, .int .i64 0] 83))
    have hsz := Lib.hid O2.out.size
    go_wp2_with fail
    go_ret2
    exact .inr ⟨rfl, w2.heap.size, hsz.out, rfl, HL.out, HO.out⟩
  · have hz1 : (z == 0) = false := beq_eq_false_iff_ne.2 hz0
    go_wp2_with fail
    go_ret2
    exact .inl ⟨hz0, rfl, D2.out, O2.out⟩

/-- What Replay tells of a file that is there. -/
def ReplayPost (D : List UInt8) (w : World) (e : Ending) (w' : World) : Prop :=
  ∃ v, e = .returned (.tuple #[v, .bool (decide ((splitL D).2 = D.length)), .int .i64 0]) ∧ OwnT w' w.heap.size v (splitL D).1 ∧ Below w.heap.size w w'
theorem replay_ret {D : List UInt8} {w w' : World} {v : Value} {b : Bool} (h : decide ((splitL D).2 = D.length) = b) (o : OwnT w' w.heap.size v (splitL D).1) (k : Below w.heap.size w w') : ReplayPost D w (.returned (.tuple #[v, .bool b, .int .i64 0])) w' := ⟨v, by rw [h], o, k⟩
set_option maxHeartbeats 2000000 in
theorem wal_Replay {S : Nat → Prop} {w : World} {d : Nat} {s : DS} {n : Int} {f : DF} (h : Hid (Disk S w d s)) (hw : (Lit.int .i64 n).wf = true) (hd : s.down = false) (hf : findL n s.fs = some f) :
    Calls Try.prog 23 #[.pointer (some ⟨d, 0, none⟩), .int .i64 n] w fun e w' => ReplayPost f.data w e w' := by
  have hfl : f.data.length ≤ 67108864 := fit_len h.out.1 hf
  have HS := Lib.hid (show s.size n = ((f.data.length : Int), f.t, 0) by unfold DS.size; rw [if_neg (by rw [hd]; simp), hf])
  have HRD := Lib.hid (show s.read n 0 (f.data.length : Int) = (f.data, 0) by
    unfold DS.read
    rw [if_neg (by rw [hd]; simp), hf]
    simp only
    rw [if_neg (by omega)]
    simp)
  obtain ⟨D, hD⟩ : ∃ D, D = f.data := ⟨_, rfl⟩
  rw [← hD] at HRD HS hfl ⊢
  obtain ⟨q, hq⟩ : ∃ q, q = D.length := ⟨_, rfl⟩
  have HQ := Lib.hid hq
  rw [← hq] at HRD HS hfl
  clear hd hf hD hq
  go_enter Try.func23, Try.ntmps23
  go_wp2_with fail
  refine (disk_Size h.out n hw).mono ?_
  rintro e w1 ⟨rfl, m1, rfl⟩
  rw [HS.out]
  have D1 := Lib.hid (h.out.drewN m1)
  have K1 := Lib.hid (below_drewN (Below.refl w.heap.size w) m1)
  have hsz := Lib.hid (show (w.drewN m1).heap.size = w.heap.size from rfl)
  generalize w.drewN m1 = w1 at *
  go_wp2_with fail
  refine (disk_Read D1.out n 0 (q : Int) hw (by omega)).mono ?_
  rintro e w2 ⟨rfl, rfl⟩
  rw [HRD.out]
  go_wp2_with fail
  refine (wal_Split D w1 (by have := HQ.out; omega)).mono ?_
  rintro e w3 ⟨v, rfl, o3, k3⟩
  rw [hsz.out] at o3 k3
  have O3 := Lib.hid o3
  have K3 := Lib.hid (K1.out.trans k3)
  obtain ⟨av, cv, rfl, _⟩ := id o3.txs
  clear o3 k3
  obtain ⟨x, hx⟩ : ∃ x, x = (splitL D).2 := ⟨_, rfl⟩
  have HX := Lib.hid hx
  rw [← hx]
  clear hx
  by_cases hxq : x = q
  · have hxq' : ((x : Int) == (q : Int)) = true := by rw [hxq]; exact beq_self_eq_true _
    have HE := Lib.hid (show decide ((splitL D).2 = D.length) = true by rw [← HX.out, ← HQ.out]; exact decide_eq_true hxq)
    clear hxq
    go_wp2_with fail
    go_ret3
    exact replay_ret HE.out O3.out K3.out
  · have hxq' : ((x : Int) == (q : Int)) = false := beq_eq_false_iff_ne.2 (by omega)
    have HE := Lib.hid (show decide ((splitL D).2 = D.length) = false by rw [← HX.out, ← HQ.out]; exact decide_eq_false hxq)
    clear hxq
    go_wp2_with fail
    go_ret3
    exact replay_ret HE.out O3.out K3.out
set_option maxHeartbeats 1000000 in
theorem wal_Replay_none {S : Nat → Prop} {w : World} {d : Nat} {s : DS} {n : Int} (h : Hid (Disk S w d s)) (hw : (Lit.int .i64 n).wf = true) (hd : s.down = false) (hf : findL n s.fs = none) :
    Calls Try.prog 23 #[.pointer (some ⟨d, 0, none⟩), .int .i64 n] w fun e w' => e = .returned (.tuple #[.slice none 0 0, .bool false, .int .i64 9]) ∧ Below w.heap.size w w' := by
  have HS := Lib.hid (show s.size n = (0, 0, 9) by unfold DS.size; rw [if_neg (by rw [hd]; simp), hf])
  clear hd hf
  go_enter Try.func23, Try.ntmps23
  go_wp2_with fail
  refine (disk_Size h.out n hw).mono ?_
  rintro e w1 ⟨rfl, m1, rfl⟩
  rw [HS.out]
  have K1 := Lib.hid (below_drewN (Below.refl w.heap.size w) m1)
  generalize w.drewN m1 = w1 at *
  go_wp2_with fail
  go_ret3
  exact ⟨rfl, K1.out⟩
set_option maxHeartbeats 1000000 in
theorem wal_Replay_nil (n : Int) (w : World) : Calls Try.prog 23 #[.pointer none, .int .i64 n] w fun e w' => e = .returned (.tuple #[.slice none 0 0, .bool false, .int .i64 8]) ∧ Below w.heap.size w w' := by
  go_enter Try.func23, Try.ntmps23
  go_wp2_with fail
  refine (disk_Size_nil n w).mono ?_
  rintro e w1 ⟨rfl, rfl⟩
  go_wp2_with fail
  go_ret3
  exact ⟨rfl, Below.refl _ _⟩
theorem wal_Begin_nil (t n : Int) (w : World) : Calls Try.prog 18 #[.pointer none, .int .i64 t, .int .i64 n] w fun e w' => e = .returned (.tuple #[.pointer none, .int .i64 8]) ∧ w = w' := by
  go_enter Try.func18, Try.ntmps18
  go_wp2_with fail
  refine (disk_Make_nil t n w).mono ?_
  rintro e w1 ⟨rfl, rfl⟩
  go_wp2_with fail
  go_ret2
  exact ⟨rfl, rfl⟩
theorem log_nil_File (w : World) : Calls Try.prog 32 #[.pointer none] w fun e w' => e = .returned (.int .i64 0) ∧ w = w' := by
  go_enter Try.func32, Try.ntmps32
  go_wp2
  go_ret
  exact ⟨rfl, rfl⟩
theorem log_nil_Add (s : ByteArray) (w : World) : Calls Try.prog 24 #[.pointer none, .string s] w fun e w' => e = .returned (.int .i64 1) ∧ w = w' := by
  go_enter Try.func24, Try.ntmps24
  go_wp2
  go_ret
  exact ⟨rfl, rfl⟩
theorem log_nil_Write (w : World) : Calls Try.prog 26 #[.pointer none] w fun e w' => e = .returned (.int .i64 1) ∧ w = w' := by
  go_enter Try.func26, Try.ntmps26
  go_wp2
  go_ret
  exact ⟨rfl, rfl⟩
theorem log_nil_Sync (w : World) : Calls Try.prog 30 #[.pointer none] w fun e w' => e = .returned (.int .i64 1) ∧ w = w' := by
  go_enter Try.func30, Try.ntmps30
  go_wp2
  go_ret
  exact ⟨rfl, rfl⟩
theorem log_nil_Counts (w : World) : Calls Try.prog 27 #[.pointer none] w fun e w' => e = .returned (.tuple #[.int .i64 0, .int .i64 0, .int .i64 0]) ∧ w = w' := by
  go_enter Try.func27, Try.ntmps27
  go_wp2
  go_ret3
  exact ⟨rfl, rfl⟩
theorem log_nil_Clear (w : World) : Calls Try.prog 31 #[.pointer none] w fun e w' => e = .returned (.tuple #[]) ∧ w = w' := by
  go_enter Try.func31, Try.ntmps31
  go_wp2
  refine bodyPost_ret (results_none rfl _ _ _) rfl ?_
  exact ⟨rfl, rfl⟩
end Go.Proofs.Ytkelcmncjhnbgaa
