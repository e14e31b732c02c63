/- Texts put together: ManDropI, ManDo, Region, ManSort, ManCloneI, ManFiles, ManCloneT, ManCloneS -/
import Derived.Test.YtgljjdldhnajdaaGreatMPac11
import Derived.Test.YtgljjdldhnajdaaGreatMPac12
import Derived.Test.YtgljjdldhnajdaaGreatMPac15
import Derived.Test.YtgljjdldhnajdaaGreatMPac13
import Derived.Test.YtgljjdldhnajdaaGreatMPac14
import Derived.Test.YtgljjdldhnajdaaGreatMPac00
import Derived.Laws.Rows
import Derived.Deep.MidRow
import Derived.Deep.RegionHeld3
import Derived.Lib.SlKeysI
import Derived.Test.YtgljjdldhnajdaaGreatMPac05
/- A draft without a thing. -/
set_option linter.unusedVariables false
set_option maxRecDepth 100000
namespace Go.Proofs.YtgljjdldhnajdaaGreat
open Go.RowKit Go.Maps Go.WideShapes Go.ChangeMaps
variable {B db mb : Nat} {w : World} {s : St} {tv sv lv : Value}

set_option maxHeartbeats 4000000 in
theorem draft_dropI (h : Hid (Dr B w db s tv sv lv mb)) (f : Int) (hw : Hid ((Lit.int .i64 f).wf = true)) (hnod : Hid s.files.Nodup) (hn : s.logs.length ≤ 1000000000) :
    Calls Tryz.prog 122 #[.pointer (some ⟨db, 0, none⟩), .int .i64 6, .int .i64 f] w
      (DoPost B db w (if f ∈ s.logs then 0 else 9) { s with logs := s.logs.filter fun t => decide (t ≠ f) }) := by
  have HB := Lib.hid (show B ≤ w.heap.size by have := h.out.lo; have := h.out.lt; omega)
  obtain ⟨a1, c1, hv1⟩ := OffRow.slice h.out.logs
  obtain ⟨n1, hn1⟩ : ∃ n1, n1 = s.logs.length := ⟨_, rfl⟩
  have HN1 := Lib.hid hn1
  rw [← hn1] at hv1
  subst hv1
  obtain ⟨w1, hw1⟩ : ∃ w1, w.alloc (.cells #[.int .i64 f] 3) = w1 := ⟨_, rfl⟩
  obtain ⟨fb, hfb⟩ : ∃ fb, fb = w.heap.size := ⟨_, rfl⟩
  have HFB := Lib.hid hfb
  have K1 := Lib.hid (show Below w.heap.size w w1 by rw [← hw1]; exact (Below.refl _ _).alloc (Nat.le_refl _) _)
  have D1 := Lib.hid (h.out.below K1.out)
  have F1 := Lib.hid (show w1.heap[fb]? = some (.cells #[.int .i64 f] 3 (0, 0)) by rw [← hw1, hfb]; exact heap_new w _)
  have HW1 := Lib.hid hw1
  have c0 : w1.cell? ⟨db, 2, none⟩ = some (.slice a1 n1 c1) := D1.out.cell 2
  have O1 := Lib.hid (show OffRow w1 B 3 1 (.slice a1 n1 c1) n1 (flat icell s.logs) by have := D1.out.logs; unfold OwnI at this; rw [← hn1] at this; exact this)
  have HWI := Lib.hid (without_I (fb := fb) (f := f) O1 HN1 (by omega) (Lib.hid (by simp [World.cell?, F1.out])) (Nat.le_trans HB.out K1.out.size))
  have hne : fb ≠ db := by have := h.out.lt; omega
  obtain ⟨zz, hzz⟩ : ∃ zz : Int, zz = if f ∈ s.logs then 0 else 9 := ⟨_, rfl⟩
  rw [← hzz]
  have HZZ := Lib.hid hzz
  clear hw1 hfb hn1 hzz
  go_enter Tryz.func122, Tryz.ntmps122
  go_upto_region 1 with (fail)
  rw [HW1.out, ← HFB.out]
  go_wp2_with fail
  refine HWI.out.mono ?_
  rintro e w2 ⟨v', z, L', rfl, o2, k2, hv2, hcase⟩
  obtain ⟨a2, c2, rfl⟩ := OffRow.slice o2
  obtain ⟨n2, hn2⟩ : ∃ n2, n2 = L'.length := ⟨_, rfl⟩
  rw [← hn2] at hv2 o2
  rw [← hn2]
  have HN2 := Lib.hid hn2
  have HC := Lib.hid hcase
  have hk2 : ∀ j, j < w1.heap.size → (Value.slice a1 n1 c1).ownBlock ≠ some j → w2.heap[j]? = w1.heap[j]? := fun j hj hne => k2.block j hj hne
  have hnd : ∀ g, (Value.slice a2 n2 c2).ownBlock = some g → g ≠ db := fun g hg => (D1.out.nl (hv2 ▸ hg)).1
  have P := Lib.hid (D1.out.putL (show OwnI w2 B (.slice a2 n2 c2) L' by unfold OwnI; rw [← hn2]; exact o2) hk2 hnd)
  have e2 : w2.heap[db]? = _ := (hk2 db D1.out.lt (fun e => (D1.out.nl e).1 rfl)).trans D1.out.obj
  have d2 : w2.cell? ⟨db, 2, none⟩ = some (.slice a1 n1 c1) := by simp [World.cell?, e2]
  have f2 : w2.frozen? ⟨db, 2, none⟩ = false := by simp [World.frozen?, e2]
  have K2 := Lib.hid (show Below B w w2 from (K1.out.mono HB.out).trans (k2.below (fun k _ hk => ((OffRow.lt O1.out k hk).1)) (Nat.le_trans HB.out K1.out.size)))
  have K3 := Lib.hid (K2.out.setCell (p := ⟨db, 2, none⟩) D1.out.lo (.slice a2 n2 c2))
  have F2 : w2.heap[fb]? = some (.cells #[.int .i64 f] 3 (0, 0)) := (hk2 fb (heap_lt F1.out) (fun e => by obtain ⟨cur, hc⟩ := OffRow.tag O1.out e; have := OffRow.lt h.out.logs fb e; have := HFB.out; omega)).trans F1.out
  obtain ⟨w3, hw3⟩ : ∃ w3, w3 = w2.setCell ⟨db, 2, none⟩ (.slice a2 n2 c2) := ⟨_, rfl⟩
  have HW3 := Lib.hid hw3
  rw [← hw3] at P K3
  have F3 : w3.heap[fb]? = some (.cells #[.int .i64 f] 3 (0, 0)) := by rw [hw3, heap_set_other hne]; exact F2
  have x4 : w3.cell? ⟨db, 4, none⟩ = some (.map (some mb)) := by simp [World.cell?, P.out.1]
  have xf : w3.cell? ⟨fb, 0, none⟩ = some (.int .i64 f) := by simp [World.cell?, F3]
  clear o2 k2 hv2 hcase hn2 hk2 hnd e2 F2 F3 hw3 c0
  rcases HC.out with ⟨i, x, hx, hxf, rfl, rfl⟩ | ⟨hno, rfl, rfl⟩
  · have hmem : x ∈ s.logs := List.mem_of_getElem? hx
    have hz0 := Lib.hid (show zz = 0 by rw [HZZ.out, ← hxf, if_pos hmem])
    have HD := Lib.hid (drop_I hnod.out hx)
    have HX := Lib.hid hxf
    obtain ⟨l, hl, hp⟩ := P.out.2.2.2.2
    have HL := Lib.hid (And.intro hl hp)
    have HK := Lib.hid (show keyOf Tryz.prog 3 (.int .i64 f) = some (.int .i64 f) from keyOf_int_mk Tryz.underlying3 hw.out)
    have x4' : ∀ q : Seen w3, q.val.cell? ⟨db, 4, none⟩ = some (.map (some mb)) := fun q => by rw [q.below.cell (cell_block x4)]; exact x4
    have xf' : ∀ q : Seen w3, q.val.cell? ⟨fb, 0, none⟩ = some (.int .i64 f) := fun q => by rw [q.below.cell (cell_block xf)]; exact xf
    clear hmem hx hxf hl hp x4 xf HZZ HC
    go_wp2_with fail
    rw [← HW3.out]
    refine wp_region_seen_tail 5 (by kernel_rfl) (by kernel_rfl) ?_
    simp only [List.take_succ_cons, List.take_zero, List.drop_succ_cons, List.drop_zero]
    repeat go_big_quiet_step (fail)
    refine wpQuiet_nil ?_
    rintro _ ⟨m1, rfl⟩
    have hown : m1.val.ownsMap Tryz.prog 3 (unitElem (H := Unit)) mb s.files.length (.map l) := by
      obtain ⟨x, c, hb, r⟩ := HL.out.1
      exact ⟨x, c, (m1.below.block mb (heap_lt hb)).trans hb, r⟩
    have HOW := Lib.hid hown
    clear hown x4' xf'
    go_wp2_with (at_delete; refine wpList_delete_own _ rfl _ _ 103 3 rfl 159 keyedI Tryz.underlying103 _ mb _ _ rfl HOW.out _ _ rfl HK.out ?_)
    intro w4 hown4 hturn4
    have S4 := Lib.hid (set_del HL.out.2 hown4)
    have T4 := Lib.hid hturn4
    clear hown4 hturn4
    go_wp2
    go_ret
    refine ⟨by rw [hz0.out]; rfl, (K3.out.trans (m1.below.mono (Nat.le_trans HB.out K3.out.size))).grown (turned_meta T4.out) (Nat.le_trans (Nat.le_trans HB.out K3.out.size) m1.below.size) (fun j hj => by injection hj with hj; rw [← hj]; exact D1.out.mlo), fun _ => ?_⟩
    have d0 : Dr0 B w3 db { s with logs := s.logs.eraseIdx i } s.files tv sv (.slice a2 n2 c2) mb := ⟨P.out.1, D1.out.lo, P.out.2.1, P.out.2.2.1, P.out.2.2.2.1, P.out.2.2.2.2, D1.out.mlo⟩
    have d1 : Dr0 B m1.val db { s with logs := s.logs.eraseIdx i } s.files tv sv (.slice a2 n2 c2) mb := by
      refine d0.turn (d0.set.kept (m1.below.block mb ?_)) fun j hj _ => m1.below.block j hj
      obtain ⟨x, c, e⟩ := d0.set.obj
      exact heap_lt e
    have d2 := d1.turn S4.out fun j hj hne => turned_other' T4.out j hne
    rw [show s.logs.filter (fun t => decide (t ≠ f)) = s.logs.eraseIdx i by rw [← HX.out]; exact HD.out.1]
    exact ⟨_, _, _, mb, Dr.of0 d2 (by rw [← HX.out, HD.out.2])⟩
  · have hmem : ¬ f ∈ s.logs := fun hm => hno f hm rfl
    have hz9 := Lib.hid (show zz = 9 by rw [HZZ.out, if_neg hmem])
    have HX := Lib.hid hno
    clear hno hmem HC x4 xf HZZ
    go_wp2
    go_ret
    rw [hz9.out]
    exact do_bad (by rw [← HW3.out]; exact K3.out) (by omega)
end Go.Proofs.YtgljjdldhnajdaaGreat
/- An edit done by a draft. -/
set_option linter.unusedVariables false
set_option maxRecDepth 100000
namespace Go.Proofs.YtgljjdldhnajdaaGreat
open Go.RowKit Go.Maps Go.WideShapes Go.ChangeMaps
variable {B db mb : Nat} {w : World} {s : St} {tv sv lv : Value}

def nextE (s : St) (f : Int) : Int := if f < 1 ∨ f < s.next then 1 else 0
set_option maxHeartbeats 2000000 in
theorem set_next (h : Hid (Dr B w db s tv sv lv mb)) (f : Int) :
    Calls Tryz.prog 123 #[.pointer (some ⟨db, 0, none⟩), .int .i64 f] w (DoPost B db w (nextE s f) { s with next := f }) := by
  obtain ⟨z, hz⟩ : ∃ z, z = nextE s f := ⟨_, rfl⟩
  rw [← hz]
  have HZ := Lib.hid hz
  clear hz
  obtain ⟨m, hm⟩ : ∃ m, m = s.next := ⟨_, rfl⟩
  have HM := Lib.hid hm
  have HB := Lib.hid (show B ≤ w.heap.size by have := h.out.lo; have := h.out.lt; omega)
  have c3 : w.cell? ⟨db, 3, none⟩ = some (.int .i64 m) := by rw [hm]; exact h.out.cell 3
  have f3 : w.frozen? ⟨db, 3, none⟩ = false := h.out.free 3
  clear hm
  by_cases h1 : f < 1
  · have hv := Lib.hid (show z = 1 by rw [HZ.out]; unfold nextE; rw [if_pos (.inl h1)])
    clear HZ
    go_enter Tryz.func123, Tryz.ntmps123
    go_wp2
    go_ret
    rw [hv.out]
    exact do_bad (Below.refl _ _) (by omega)
  by_cases h2 : f < m
  · have hv := Lib.hid (show z = 1 by rw [HZ.out]; unfold nextE; rw [if_pos (.inr (by rw [← HM.out]; exact h2))])
    clear HZ
    go_enter Tryz.func123, Tryz.ntmps123
    go_wp2
    go_ret
    rw [hv.out]
    exact do_bad (Below.refl _ _) (by omega)
  have hv := Lib.hid (show z = 0 by rw [HZ.out]; unfold nextE; rw [if_neg (by rw [← HM.out]; omega)])
  clear HZ
  go_enter Tryz.func123, Tryz.ntmps123
  go_wp2
  go_ret
  rw [hv.out]
  have ne : ∀ {v : Value}, (∀ j, v.ownBlock = some j → j ≠ db) → ∀ j, v.ownBlock = some j → (w.setCell ⟨db, 3, none⟩ (.int .i64 f)).heap[j]? = w.heap[j]? := fun hv j hj => heap_set_other (hv j hj) _
  refine ⟨rfl, (Below.refl B w).setCell (p := ⟨db, 3, none⟩) h.out.lo _, fun _ => ⟨tv, sv, lv, mb, by rw [heap_set h.out.obj]; simp, h.out.lo, OffRow.kept h.out.tabs (ne fun j hj => (h.out.nt hj).1), OffRow.kept h.out.stos (ne fun j hj => (h.out.ns hj).1), OffRow.kept h.out.logs (ne fun j hj => (h.out.nl hj).1), h.out.set.kept (heap_set_other h.out.nmb _), h.out.mlo⟩⟩

theorem oneE1 {s : St} {x : Ed} (h : x.kind = 1) : oneE s x = tabE s x.tab := by
  unfold oneE tabE mayE
  rw [if_pos h]
  by_cases hb : badTab x = true ∨ x.file < 1
  · rw [if_pos hb]
    by_cases ht : tabBad x.tab
    · rw [if_pos ht]
    · rw [if_neg ht]
      have hf : x.tab.file < 1 := by
        rcases hb with a | a
        · exfalso; apply ht
          unfold badTab at a
          simp only [Bool.or_eq_true, decide_eq_true_eq] at a
          unfold tabBad
          rcases a with ((a | a) | a) | a
          · exact .inl a
          · exact .inr (.inl a)
          · exact .inr (.inr (.inl a))
          · exact .inr (.inr (.inr a))
        · exact a
      rw [if_pos hf, if_neg (by omega)]
  · rw [if_neg hb]
    have ht : ¬ tabBad x.tab := fun e => hb (.inl (by
      unfold tabBad at e
      unfold badTab
      simp only [Bool.or_eq_true, decide_eq_true_eq]
      rcases e with a | a | a | a
      · exact .inl (.inl (.inl a))
      · exact .inl (.inl (.inr a))
      · exact .inl (.inr a)
      · exact .inr a))
    have hf : ¬ x.tab.file < 1 := fun e => hb (.inr e)
    rw [if_neg ht, if_neg hf]
    show _ = if (if x.file ∈ s.files then (10 : Int) else 0) = 0 then _ else _
    by_cases hm : x.file ∈ s.files
    · rw [if_pos hm, if_pos hm, if_neg (by omega)]
      show (10 : Int) = if x.file ∈ s.files then 10 else 0
      rw [if_pos hm]
    · rw [if_neg hm, if_neg hm, if_pos rfl]
      rfl
theorem oneE3 {s : St} {x : Ed} (h : x.kind = 3) : oneE s x = stoE s x.sto := by
  unfold oneE stoE mayE
  rw [if_neg (by omega), if_neg (by omega), if_pos h]
  show _ = if x.lev = 0 ∨ x.lev = 1 then (if x.file < 1 then _ else if x.file ∈ s.files then _ else _) else _
  by_cases a : x.lev = 0 ∨ x.lev = 1
  · rw [if_pos a]
    by_cases b : x.file < 1
    · rw [if_pos (.inl b), if_pos b]
    · rw [if_neg (by simp [b, a]), if_neg b]
  · rw [if_neg a, if_pos (.inr a)]
/-- A state that is small. -/
def St.small (s : St) (N : Nat) : Prop := s.tabs.length + s.stos.length + s.logs.length ≤ N
theorem files_len (s : St) : s.files.length = s.tabs.length + s.stos.length + s.logs.length := by unfold St.files; simp; omega
def Ed.fit (x : Ed) : Prop := -9223372036854775808 ≤ x.file ∧ x.file ≤ 9223372036854775807

set_option maxHeartbeats 4000000 in
theorem draft_do (h : Hid (Dr B w db s tv sv lv mb)) (hok : Hid s.Ok) (x : Ed) (hf : x.fit) (hs : Hid (s.small 1000000000)) :
    Calls Tryz.prog 92 #[.pointer (some ⟨db, 0, none⟩), .agg #[.int .i64 x.kind, .int .i64 x.file, .int .i64 x.lev, .int .i64 x.cnt, .string (bs x.low), .string (bs x.high)]] w (DoPost B db w (oneE s x) (oneS s x)) := by
  have HB := Lib.hid (show B ≤ w.heap.size by have := h.out.lo; have := h.out.lt; omega)
  have hsm := hs.out
  unfold St.small at hsm
  have hfl := files_len s
  obtain ⟨w1, hw1⟩ : ∃ w1, w.alloc (.cells #[.int .i64 x.kind, .int .i64 x.file, .int .i64 x.lev, .int .i64 x.cnt, .string (bs x.low), .string (bs x.high)] 31) = w1 := ⟨_, rfl⟩
  obtain ⟨xb, hxb⟩ : ∃ xb, xb = w.heap.size := ⟨_, rfl⟩
  have HXB := Lib.hid hxb
  have K1 := Lib.hid (show Below w.heap.size w w1 by rw [← hw1]; exact (Below.refl _ _).alloc (Nat.le_refl _) _)
  have D1 := Lib.hid (h.out.below K1.out)
  have X1 := Lib.hid (show w1.heap[xb]? = some (.cells #[.int .i64 x.kind, .int .i64 x.file, .int .i64 x.lev, .int .i64 x.cnt, .string (bs x.low), .string (bs x.high)] 31 (0, 0)) by rw [← hw1, hxb]; exact heap_new w _)
  have HW1 := Lib.hid hw1
  have hk1 : Below B w w1 := K1.out.mono HB.out
  have post : ∀ {z : Int} {s' : St} {e : Ending} {w' : World}, DoPost B db w1 z s' e w' → DoPost B db w z s' e w' := fun hp => ⟨hp.1, hk1.trans hp.2.1, hp.2.2⟩
  have POST := Lib.hid (fun (z : Int) (s' : St) (e : Ending) (w' : World) (hp : DoPost B db w1 z s' e w') => post hp)
  have x0 : w1.cell? ⟨xb, 0, none⟩ = some (.int .i64 x.kind) := by simp [World.cell?, X1.out]
  have x1 : w1.cell? ⟨xb, 1, none⟩ = some (.int .i64 x.file) := by simp [World.cell?, X1.out]
  have x2 : w1.cell? ⟨xb, 2, none⟩ = some (.int .i64 x.lev) := by simp [World.cell?, X1.out]
  have x3 : w1.cell? ⟨xb, 3, none⟩ = some (.int .i64 x.cnt) := by simp [World.cell?, X1.out]
  have x4 : w1.cell? ⟨xb, 4, none⟩ = some (.string (bs x.low)) := by simp [World.cell?, X1.out]
  have x5 : w1.cell? ⟨xb, 5, none⟩ = some (.string (bs x.high)) := by simp [World.cell?, X1.out]
  have hwf : Hid ((Lit.int .i64 x.file).wf = true) := Lib.hid (wf_i64 hf.1 hf.2)
  clear hw1 hxb post hk1
  obtain ⟨k, hk⟩ : ∃ k, k = x.kind := ⟨_, rfl⟩
  rw [← hk] at x0 HW1
  by_cases k1 : k = 1
  · have HP := Lib.hid (add_table D1 hok x.tab hf.2 (Lib.hid ⟨by omega, by omega⟩))
    have HE := Lib.hid (show oneE s x = tabE s x.tab ∧ oneS s x = { s with tabs := insT x.tab s.tabs } from ⟨oneE1 (by omega), by unfold oneS; rw [if_pos (by omega)]⟩)
    obtain ⟨zz, hzz⟩ : ∃ zz : Int, zz = tabE s x.tab := ⟨_, rfl⟩
    obtain ⟨ss, hss⟩ : ∃ ss : St, ss = { s with tabs := insT x.tab s.tabs } := ⟨_, rfl⟩
    rw [HE.out.1, HE.out.2, ← hzz, ← hss]
    rw [← hzz, ← hss] at HP
    clear hzz hss
    have HKK := Lib.hid hk
    clear hfl hsm hk
    subst k1
    show Calls Tryz.prog 92 #[.pointer (some ⟨db, 0, none⟩), .agg #[.int .i64 x.kind, .int .i64 x.file, .int .i64 x.lev, .int .i64 x.cnt, .string (bs x.low), .string (bs x.high)]] w _
    go_enter Tryz.func92, Tryz.ntmps92
    go_upto_region 1 with (fail)
    rw [← HKK.out, HW1.out, ← HXB.out]
    go_wp2_with fail
    refine HP.out.mono ?_
    rintro e w2 hp
    obtain ⟨rfl, hp2⟩ := id hp
    have HPP := Lib.hid (POST.out _ _ _ _ hp)
    clear hp hp2
    go_wp2
    go_ret
    exact HPP.out
  by_cases k2 : k = 2
  · have HP := Lib.hid (draft_dropT D1 x.file hwf (Lib.hid hok.out.nod) (by omega))
    have HE := Lib.hid (show oneE s x = (if x.file ∈ s.tabs.map (·.file) then 0 else 9) ∧ oneS s x = { s with tabs := s.tabs.filter fun t => decide (t.file ≠ x.file) } from ⟨by unfold oneE; rw [if_neg (by omega), if_pos (by omega)], by unfold oneS; rw [if_neg (by omega), if_pos (by omega)]⟩)
    obtain ⟨zz, hzz⟩ : ∃ zz : Int, zz = (if x.file ∈ s.tabs.map (·.file) then 0 else 9) := ⟨_, rfl⟩
    obtain ⟨ss, hss⟩ : ∃ ss : St, ss = { s with tabs := s.tabs.filter fun t => decide (t.file ≠ x.file) } := ⟨_, rfl⟩
    rw [HE.out.1, HE.out.2, ← hzz, ← hss]
    rw [← hzz, ← hss] at HP
    clear hzz hss
    have HKK := Lib.hid hk
    clear hfl hsm hk
    subst k2
    show Calls Tryz.prog 92 #[.pointer (some ⟨db, 0, none⟩), .agg #[.int .i64 x.kind, .int .i64 x.file, .int .i64 x.lev, .int .i64 x.cnt, .string (bs x.low), .string (bs x.high)]] w _
    go_enter Tryz.func92, Tryz.ntmps92
    go_upto_region 1 with (fail)
    rw [← HKK.out, HW1.out, ← HXB.out]
    go_wp2_with fail
    refine HP.out.mono ?_
    rintro e w2 hp
    obtain ⟨rfl, hp2⟩ := id hp
    have HPP := Lib.hid (POST.out _ _ _ _ hp)
    clear hp hp2
    go_wp2
    go_ret
    exact HPP.out
  by_cases k3 : k = 3
  · have HP := Lib.hid (add_store D1 hok x.sto hf.2 (Lib.hid ⟨by omega, by omega⟩))
    have HE := Lib.hid (show oneE s x = stoE s x.sto ∧ oneS s x = { s with stos := insS x.sto s.stos } from ⟨oneE3 (by omega), by unfold oneS; rw [if_neg (by omega), if_neg (by omega), if_pos (by omega)]⟩)
    obtain ⟨zz, hzz⟩ : ∃ zz : Int, zz = stoE s x.sto := ⟨_, rfl⟩
    obtain ⟨ss, hss⟩ : ∃ ss : St, ss = { s with stos := insS x.sto s.stos } := ⟨_, rfl⟩
    rw [HE.out.1, HE.out.2, ← hzz, ← hss]
    rw [← hzz, ← hss] at HP
    clear hzz hss
    have HKK := Lib.hid hk
    clear hfl hsm hk
    subst k3
    show Calls Tryz.prog 92 #[.pointer (some ⟨db, 0, none⟩), .agg #[.int .i64 x.kind, .int .i64 x.file, .int .i64 x.lev, .int .i64 x.cnt, .string (bs x.low), .string (bs x.high)]] w _
    go_enter Tryz.func92, Tryz.ntmps92
    go_upto_region 1 with (fail)
    rw [← HKK.out, HW1.out, ← HXB.out]
    go_wp2_with fail
    refine HP.out.mono ?_
    rintro e w2 hp
    obtain ⟨rfl, hp2⟩ := id hp
    have HPP := Lib.hid (POST.out _ _ _ _ hp)
    clear hp hp2
    go_wp2
    go_ret
    exact HPP.out
  by_cases k4 : k = 4
  · have HP := Lib.hid (draft_dropS D1 x.file hwf (Lib.hid hok.out.nod) (by omega))
    have HE := Lib.hid (show oneE s x = (if x.file ∈ s.stos.map (·.file) then 0 else 9) ∧ oneS s x = { s with stos := s.stos.filter fun t => decide (t.file ≠ x.file) } from ⟨by unfold oneE; rw [if_neg (by omega), if_neg (by omega), if_neg (by omega), if_pos (by omega)], by unfold oneS; rw [if_neg (by omega), if_neg (by omega), if_neg (by omega), if_pos (by omega)]⟩)
    obtain ⟨zz, hzz⟩ : ∃ zz : Int, zz = (if x.file ∈ s.stos.map (·.file) then 0 else 9) := ⟨_, rfl⟩
    obtain ⟨ss, hss⟩ : ∃ ss : St, ss = { s with stos := s.stos.filter fun t => decide (t.file ≠ x.file) } := ⟨_, rfl⟩
    rw [HE.out.1, HE.out.2, ← hzz, ← hss]
    rw [← hzz, ← hss] at HP
    clear hzz hss
    have HKK := Lib.hid hk
    clear hfl hsm hk
    subst k4
    show Calls Tryz.prog 92 #[.pointer (some ⟨db, 0, none⟩), .agg #[.int .i64 x.kind, .int .i64 x.file, .int .i64 x.lev, .int .i64 x.cnt, .string (bs x.low), .string (bs x.high)]] w _
    go_enter Tryz.func92, Tryz.ntmps92
    go_upto_region 1 with (fail)
    rw [← HKK.out, HW1.out, ← HXB.out]
    go_wp2_with fail
    refine HP.out.mono ?_
    rintro e w2 hp
    obtain ⟨rfl, hp2⟩ := id hp
    have HPP := Lib.hid (POST.out _ _ _ _ hp)
    clear hp hp2
    go_wp2
    go_ret
    exact HPP.out
  by_cases k5 : k = 5
  · have HP := Lib.hid (add_log D1 x.file hf.2 (Lib.hid ⟨by omega, by omega⟩))
    have HE := Lib.hid (show oneE s x = mayE s x.file ∧ oneS s x = { s with logs := s.logs ++ [x.file] } from ⟨by unfold oneE mayE; rw [if_neg (by omega), if_neg (by omega), if_neg (by omega), if_neg (by omega), if_pos (by omega)], by unfold oneS; rw [if_neg (by omega), if_neg (by omega), if_neg (by omega), if_neg (by omega), if_pos (by omega)]⟩)
    obtain ⟨zz, hzz⟩ : ∃ zz : Int, zz = mayE s x.file := ⟨_, rfl⟩
    obtain ⟨ss, hss⟩ : ∃ ss : St, ss = { s with logs := s.logs ++ [x.file] } := ⟨_, rfl⟩
    rw [HE.out.1, HE.out.2, ← hzz, ← hss]
    rw [← hzz, ← hss] at HP
    clear hzz hss
    have HKK := Lib.hid hk
    clear hfl hsm hk
    subst k5
    show Calls Tryz.prog 92 #[.pointer (some ⟨db, 0, none⟩), .agg #[.int .i64 x.kind, .int .i64 x.file, .int .i64 x.lev, .int .i64 x.cnt, .string (bs x.low), .string (bs x.high)]] w _
    go_enter Tryz.func92, Tryz.ntmps92
    go_upto_region 1 with (fail)
    rw [← HKK.out, HW1.out, ← HXB.out]
    go_wp2_with fail
    refine HP.out.mono ?_
    rintro e w2 hp
    obtain ⟨rfl, hp2⟩ := id hp
    have HPP := Lib.hid (POST.out _ _ _ _ hp)
    clear hp hp2
    go_wp2
    go_ret
    exact HPP.out
  by_cases k6 : k = 6
  · have HP := Lib.hid (draft_dropI D1 x.file hwf (Lib.hid hok.out.nod) (by omega))
    have HE := Lib.hid (show oneE s x = (if x.file ∈ s.logs then 0 else 9) ∧ oneS s x = { s with logs := s.logs.filter fun t => decide (t ≠ x.file) } from ⟨by unfold oneE; rw [if_neg (by omega), if_neg (by omega), if_neg (by omega), if_neg (by omega), if_neg (by omega), if_pos (by omega)], by unfold oneS; rw [if_neg (by omega), if_neg (by omega), if_neg (by omega), if_neg (by omega), if_neg (by omega), if_pos (by omega)]⟩)
    obtain ⟨zz, hzz⟩ : ∃ zz : Int, zz = (if x.file ∈ s.logs then 0 else 9) := ⟨_, rfl⟩
    obtain ⟨ss, hss⟩ : ∃ ss : St, ss = { s with logs := s.logs.filter fun t => decide (t ≠ x.file) } := ⟨_, rfl⟩
    rw [HE.out.1, HE.out.2, ← hzz, ← hss]
    rw [← hzz, ← hss] at HP
    clear hzz hss
    have HKK := Lib.hid hk
    clear hfl hsm hk
    subst k6
    show Calls Tryz.prog 92 #[.pointer (some ⟨db, 0, none⟩), .agg #[.int .i64 x.kind, .int .i64 x.file, .int .i64 x.lev, .int .i64 x.cnt, .string (bs x.low), .string (bs x.high)]] w _
    go_enter Tryz.func92, Tryz.ntmps92
    go_upto_region 1 with (fail)
    rw [← HKK.out, HW1.out, ← HXB.out]
    go_wp2_with fail
    refine HP.out.mono ?_
    rintro e w2 hp
    obtain ⟨rfl, hp2⟩ := id hp
    have HPP := Lib.hid (POST.out _ _ _ _ hp)
    clear hp hp2
    go_wp2
    go_ret
    exact HPP.out
  by_cases k7 : k = 7
  · have HP := Lib.hid (set_next D1 x.file)
    have HE := Lib.hid (show oneE s x = nextE s x.file ∧ oneS s x = { s with next := x.file } from ⟨by unfold oneE nextE; rw [if_neg (by omega), if_neg (by omega), if_neg (by omega), if_neg (by omega), if_neg (by omega), if_neg (by omega), if_pos (by omega)], by unfold oneS; rw [if_neg (by omega), if_neg (by omega), if_neg (by omega), if_neg (by omega), if_neg (by omega), if_neg (by omega)]⟩)
    obtain ⟨zz, hzz⟩ : ∃ zz : Int, zz = nextE s x.file := ⟨_, rfl⟩
    obtain ⟨ss, hss⟩ : ∃ ss : St, ss = { s with next := x.file } := ⟨_, rfl⟩
    rw [HE.out.1, HE.out.2, ← hzz, ← hss]
    rw [← hzz, ← hss] at HP
    clear hzz hss
    have HKK := Lib.hid hk
    clear hfl hsm hk
    subst k7
    show Calls Tryz.prog 92 #[.pointer (some ⟨db, 0, none⟩), .agg #[.int .i64 x.kind, .int .i64 x.file, .int .i64 x.lev, .int .i64 x.cnt, .string (bs x.low), .string (bs x.high)]] w _
    go_enter Tryz.func92, Tryz.ntmps92
    go_upto_region 1 with (fail)
    rw [← HKK.out, HW1.out, ← HXB.out]
    go_wp2_with fail
    refine HP.out.mono ?_
    rintro e w2 hp
    obtain ⟨rfl, hp2⟩ := id hp
    have HPP := Lib.hid (POST.out _ _ _ _ hp)
    clear hp hp2
    go_wp2
    go_ret
    exact HPP.out
  have hv := Lib.hid (show oneE s x = 1 by unfold oneE; rw [if_neg (by omega), if_neg (by omega), if_neg (by omega), if_neg (by omega), if_neg (by omega), if_neg (by omega), if_neg (by omega)])
  rw [hv.out]
  have HKK := Lib.hid hk
  clear hfl hsm hk
  go_enter Tryz.func92, Tryz.ntmps92
  go_upto_region 1 with (fail)
  rw [← HKK.out, HW1.out, ← HXB.out]
  go_wp2
  go_ret
  exact do_bad (K1.out.mono HB.out) (by omega)
end Go.Proofs.YtgljjdldhnajdaaGreat
/- Arrays by value, whole loads and stores, regions that draw their order: what all layers share. -/
set_option linter.unusedVariables false
set_option maxRecDepth 100000
namespace Go.Proofs.YtgljjdldhnajdaaGreat
open Go.RowKit

theorem Below.frozen {B : Nat} {w w' : World} (k : Below B w w') {b : Nat} (hb : b < B) (j : Nat) : w'.frozen? ⟨b, j, none⟩ = w.frozen? ⟨b, j, none⟩ := by
  unfold World.frozen?
  rw [k.block b hb]
theorem below_setCells {B b : Nat} {a : World} (hB : B ≤ b) : ∀ (vs : List Value) (o : Nat) {w : World}, Below B a w → Below B a (w.setCells b o vs)
  | [], _, _, h => h
  | v :: vs, o, _, h => below_setCells hB vs (o + 1) (h.setCell (p := ⟨b, o, none⟩) hB v)
theorem results_cell1 {fn : Func} {p : Tmp} {ty : TypeId} (h : fn.results = #[.cell p ty]) (tmps : Array Value) (P : Program) (w : World) (b o : Nat) (cs : List Value) (d : TypeDesc) (hp : tmps.getD p undef = .pointer (some ⟨b, o, none⟩)) (hc : w.rangeAt b o cs)
    (hu : P.underlying ty = some d) (hd : d.isRow = true) (hi : (P.info? ty).map (·.size) = some cs.length) :
    (results fn tmps).run P w = .ok (.agg cs.toArray) w := by
  have hl := run_loadVar_mid w b o ty cs d hc hu hd hi
  have hp' : tmps[p]?.getD undef = .pointer (some ⟨b, o, none⟩) := by simpa using hp
  simp only [results, h]
  simp [Sem.run_bind, Result.andThen, hp', asAddr, hl]
/-- An array by value, at a place within it. -/
theorem run_index_arr (t e : TypeId) (n : Nat) (cs : Array Value) (i : Nat) (v : Value) (hu : Tryz.prog.underlying t = some (.array n e)) (ha : ∀ w, (isAgg e).run Tryz.prog w = .ok false w) (hs : ∀ w, (Go.sizeOf e).run Tryz.prog w = .ok 1 w) (hi : i < n) (hc : cs[i]? = some v) (w : World) :
    (Instr.index t (.agg cs) (.int .i64 (i : Int))).run Tryz.prog w = .ok v w := by
  have h1 : (0 : Int) ≤ (i : Int) ∧ (i : Int) < (n : Int) := by omega
  simp [Instr.index, run_underlying hu, asIntOf, h1, part, ha, hs, hc, go_sem]
  omega
theorem rangeAt_below {b o B : Nat} {cs : List Value} {w w' : World} (h : w.rangeAt b o cs) (k : Below B w w') (hb : b < B) : w'.rangeAt b o cs := by
  intro j v hj
  rw [k.cell hb]
  exact h j v hj

theorem results_arr {fn : Func} {p : Tmp} {ty : TypeId} (h : fn.results = #[.cell p ty]) (tmps : Array Value) (P : Program) (w : World) (b : Nat) (cs : Array Value) (d : TypeDesc) (hp : tmps.getD p undef = .pointer (some ⟨b, 0, none⟩)) (hc : w.there b 0 cs.size)
    (hu : P.underlying ty = some d) (hd : d.isRow = true) (hi : (P.info? ty).map (·.size) = some cs.toList.length) :
    (results fn tmps).run P (w.setCells b 0 cs.toList) = .ok (.agg cs) (w.setCells b 0 cs.toList) := by
  have := results_cell1 h tmps P (w.setCells b 0 cs.toList) b 0 cs.toList d hp (World.rangeAt_setCells_same w b 0 _ (by simpa using hc)) hu hd hi
  simpa using this

theorem seen_of {P : Program} {F : FuncId} {args : Array Value} {r : Value} (h : ∀ w, Calls P F args w fun e w' => e = .returned r ∧ Below w.heap.size w w') (W : World) (n : Seen W) : Calls P F args n.val fun e w'' => e = .returned r ∧ ∃ m : Seen W, w'' = m.val :=
  (h n.val).mono fun _ w'' ⟨h1, h2⟩ => ⟨h1, ⟨⟨w'', n.below.trans (h2.mono n.below.size)⟩, rfl⟩⟩
theorem held_of {P : Program} {F : FuncId} {args : Array Value} {r : Value} (h : ∀ w, Calls P F args w fun e w' => e = .returned r ∧ Below w.heap.size w w') (W w : World) (k : Below W.heap.size W w) : Calls P F args w fun e w'' => e = .returned r ∧ Below W.heap.size W w'' :=
  (h w).mono fun _ w'' ⟨h1, h2⟩ => ⟨h1, k.trans (h2.mono k.size)⟩
/-- A whole array that is loaded in a region that writes nothing that was there. -/
theorem quiet_load_mid {P : Program} {o : Oper} {a : Act} {C : World → Prop} {K : Act → Prop} (ty : TypeId) (x : Operand) (ho : o.op = .load ty x) (b off : Nat) (hx : a.eval x = .pointer (some ⟨b, off, none⟩)) (cs : List Value) (d : TypeDesc) (hS : ∀ w, C w → w.rangeAt b off cs)
    (hu : P.underlying ty = some d) (hd : d.isRow = true) (hi : (P.info? ty).map (·.size) = some cs.length) (hk : K (a.put o.dst (.agg cs.toArray))) : o.quiet P a C K :=
  ⟨_, fun w hw => by
    unfold Oper.quietAt execOp
    simp only [ho, hx, Instr.loadAt, Instr.sureAddr, Sem.run_bind, Sem.run_pure, Result.andThen_ok, run_loadVar_mid w b off ty cs d (hS w hw) hu hd hi]
    exact ⟨rfl, rfl⟩, hk⟩
theorem quiet_load_arr {P : Program} {o : Oper} {a : Act} {C : World → Prop} {K : Act → Prop} (ty : TypeId) (x : Operand) (ho : o.op = .load ty x) (b off : Nat) (hx : a.eval x = .pointer (some ⟨b, off, none⟩)) (cs : Array Value) (d : TypeDesc) (hS : ∀ w, C w → w.rangeAt b off cs.toList)
    (hu : P.underlying ty = some d) (hd : d.isRow = true) (hi : (P.info? ty).map (·.size) = some cs.toList.length) (hk : K (a.put o.dst (.agg cs))) : o.quiet P a C K :=
  quiet_load_mid ty x ho b off hx cs.toList d hS hu hd hi (by simpa using hk)
theorem seen_range {W W' : World} {b : Nat} {cs : List Value} (h : ∀ m, Below W.heap.size W m → m.rangeAt b 0 cs) (k : Below W.heap.size W W') : ∀ w, (∃ n : Seen W', w = n.val) → w.rangeAt b 0 cs := by
  rintro _ ⟨n, rfl⟩
  exact h n.val (k.trans (n.below.mono k.size))
/-- A whole array that is loaded behind a guard. -/
theorem wpList_load_arr {P : Program} {ops : Array Oper} {rest : List Oper} {op : Oper} {a : Act} {w : World} {Q : Exit → Act → World → Prop} (hw : Region.wanted op (yielded ops a.tmps) = true) (ty : TypeId) (x : Operand) (ho : op.op = .load ty x)
    (b o : Nat) (hx : a.eval x = .pointer (some ⟨b, o, none⟩)) (cs : Array Value) (d : TypeDesc) (hc : w.rangeAt b o cs.toList)
    (hu : P.underlying ty = some d) (hd : d.isRow = true) (hi : (P.info? ty).map (·.size) = some cs.toList.length)
    (h : wpList P ops Q rest (a.put op.dst (.agg cs)) w) : wpList P ops Q (op :: rest) a w :=
  wpList_step fun _ hK => by
    rw [if_pos hw]
    exact wp_load_mid ty x ho b o hx cs.toList d hc hu hd hi (hK _ _ (by simpa using h))
/-- A region that draws its order, gone through by hand: an operation that may come first, its slot named. -/
theorem held_take {P : Program} {md : Region.Mode} {ops : Array Oper} {Q : Exit → Act → World → Prop} {S : World → Prop} {fuel : Nat} {listed : Array Bool} {a : Act} {w : World} (i d : Nat) {oi : Oper} {v : Value} (hi : ops[i]? = some oi) (hd : oi.dst = some d)
    (hs : Region.noSelect ops = true) (hf : Region.free md ops listed i = true) (hr : (Region.ready md ops listed).contains i = true)
    (hQ : ∀ c a w, Q (.panic c) (a.put oi.dst v) w → Q (.panic c) a w) (hy : YieldsIf P ops S oi v a) (hS : S w)
    (h : wpAnyH P md ops Q S fuel (listed.setIfInBounds i true) (a.put (some d) v) w) : wpAnyH P md ops Q S (fuel + 1) listed a w :=
  wpAnyH_take hi hs hf hr hQ hy hS (by rw [hd]; exact h)
theorem seen_at {W : World} {b : Nat} {cs : List Value} (h : W.rangeAt b 0 cs) (hb : b < W.heap.size) : ∀ w, (∃ n : Seen W, w = n.val) → w.rangeAt b 0 cs := by
  rintro _ ⟨n, rfl⟩
  exact rangeAt_below h n.below hb
end Go.Proofs.YtgljjdldhnajdaaGreat
/- Lists sorted. -/
set_option linter.unusedVariables false
set_option maxRecDepth 100000
namespace Go.Proofs.YtgljjdldhnajdaaGreat
open Go.RowKit
open Go.Sort (grow SWO PermIn SortedIn HoldsK Holds putRow putRowK flatK)

/-- A list that rises strictly is what sorting any permutation of it gives. -/
theorem sorted_same {α : Type} {lt : α → α → Bool} {L M : List α} (hp : M.Perm L) (hL : L.Pairwise fun a b => lt a b = true) (hM : M.Pairwise fun a b => lt b a = false) (hasym : ∀ a b, lt a b = true → lt b a = false) : M = L := by
  refine List.Perm.eq_of_pairwise (le := fun a b => lt b a = false) ?_ hM ?_ hp
  · intro a b ha hb h1 h2
    have ha' := hp.mem_iff.1 ha
    obtain ⟨i, hi, e1⟩ := List.mem_iff_getElem.1 ha'
    obtain ⟨j, hj, e2⟩ := List.mem_iff_getElem.1 hb
    rcases Nat.lt_trichotomy i j with h | h | h
    · have := List.pairwise_iff_getElem.1 hL i j hi hj h
      rw [e1, e2] at this
      rw [this] at h2; cases h2
    · subst h; rw [← e1, ← e2]
    · have := List.pairwise_iff_getElem.1 hL j i hj hi h
      rw [e1, e2] at this
      rw [this] at h1; cases h1
  · exact hL.imp fun h => hasym _ _ h
theorem flatK_flat {α : Type} [Inhabited α] {enc : α → List Value} {k : Nat} (hk : ∀ x, (enc x).length = k) (h0 : 0 < k) {L : List α} {j : Nat} (hj : j < L.length * k) : (flat enc L)[j]? = some ((flatK enc k L.toArray)[j]!) := by
  have hq : j / k < L.length := (Nat.div_lt_iff_lt_mul h0).2 hj
  have hm : j % k < k := Nat.mod_lt _ h0
  have e := flat_at (enc := enc) hk (List.getElem?_eq_getElem hq) hm
  rw [show j / k * k + j % k = j by rw [Nat.mul_comm]; exact Nat.div_add_mod j k] at e
  rw [e, Go.Sort.get_flatK enc k L.toArray j (by simpa using hj)]
  have hl : j % k < (enc L[j / k]).length := by rw [hk]; exact hm
  rw [List.getElem?_eq_getElem hl]
  simp [hq, getElem!_pos, hl]
theorem sort_world {α : Type} [Inhabited α] {enc : α → List Value} {k g off n : Nat} {w : World} {d : Array α} {os : Array Obj} (h : HoldsK enc k w g off d) : Go.Proofs.sortWorldK enc k w g off n d os = grow (Sort.ahead w n) os := by
  unfold Go.Proofs.sortWorldK putRowK
  rw [Go.Sort.putRow_self _ _ _ _ _ (show Holds id (Sort.ahead w n) g off (flatK enc k d) from h)]
/-- Numbers sorted. -/
def sortI (L : List Int) : List Int := L.mergeSort fun x y => decide (x ≤ y)
set_option maxHeartbeats 1000000 in
theorem sort_I {B : Nat} {v : Value} {L : List Int} {w : World} (h : OwnI w B v L) (hn : L.length ≤ 1000000000) :
    Calls Tryz.prog 113 #[v] w fun e w' => e = .returned (.tuple #[]) ∧ w.grownBy w' v.ownBlock ∧ RdL (fun b => B ≤ b) w' v L.length (flat icell (sortI L)) := by
  have hperm : (sortI L).length = L.length := List.length_mergeSort L
  have hmx := OffRow.cap_le h
  rcases h.2 with ⟨rfl, h0⟩ | ⟨g, off, cap, cur, rfl, hB, hg, h1, h2, h3, h4⟩
  · obtain rfl : L = [] := List.eq_nil_of_length_eq_zero h0
    refine (AnyM.slices_Sort_int_none Tryz.sortI none 0 w).mono ?_
    rintro e w' ⟨rfl, rfl⟩
    exact ⟨rfl, ⟨rfl, rfl, rfl, Nat.le_refl _, fun _ _ _ => rfl⟩, by simpa [sortI, flat] using RdL.none' w' _⟩
  · have hH : Holds (Value.int .i64) w g off L.toArray := by
      intro j hj
      have hj' : j < L.length := by simpa using hj
      refine ⟨?_, by simp [World.frozen?, hg]⟩
      have := h4 j (by omega)
      rw [show j = j * 1 + 0 by omega, flat_at icell_len (List.getElem?_eq_getElem hj') (by omega)] at this
      simp [icell] at this
      simp [World.cell?, hg, this, hj']
    refine (AnyM.slices_Sort_int Tryz.sortI g off cap L w hH (heap_lt hg) (by omega)).mono ?_
    rintro e w' ⟨rfl, n, os, rfl⟩
    have hH2 : Holds (Value.int .i64) (grow (putRow (Value.int .i64) (Sort.ahead w n) g off (sortI L).toArray) os) g off (sortI L).toArray :=
      Go.Sort.holds_grow _ _ os g off _ (by simpa [Sort.ahead] using heap_lt hg) (Go.Sort.holds_putRow _ (Sort.ahead w n) g off L.toArray _ hH (by simp [hperm]))
    refine ⟨rfl, ⟨rfl, rfl, rfl, by simp [Sort.ahead, grow], fun k hk hne => ?_⟩, ⟨_, cap, rfl, hmx, .inr ⟨g, off, rfl, hB, ?_, fun j u hj => ?_⟩⟩⟩
    · have hgk : g ≠ k := fun e => hne (by rw [← e]; rfl)
      show ((putRow (Value.int .i64) (Sort.ahead w n) g off _).heap ++ os)[k]? = _
      rw [Array.getElem?_append_left (by simpa [Sort.ahead] using hk)]
      simp [putRow, Go.Sort.mapBlock, Sort.ahead, Array.getElem?_modify, hgk]
    · simp [grow, Sort.ahead]
      have := heap_lt hg
      omega
    · have hj' : j < (sortI L).length := by
        have := (List.getElem?_eq_some_iff.1 hj).1
        rw [flat_len icell_len] at this
        omega
      have e := (hH2 j (by simpa using hj')).1
      rw [show j = j * 1 + 0 by omega, flat_at icell_len (List.getElem?_eq_getElem hj') (by omega)] at hj
      simp [icell] at hj
      rw [← hj]
      have hj2 : j < (sortI L).toArray.size := by simpa using hj'
      rw [getElem!_pos (sortI L).toArray j hj2] at e
      simpa [sortI] using e
end Go.Proofs.YtgljjdldhnajdaaGreat
/- A list's copy. -/
set_option linter.unusedVariables false
set_option maxRecDepth 100000
namespace Go.Proofs.YtgljjdldhnajdaaGreat
open Go.RowKit
theorem clone_I {T : Nat → Prop} {v : Value} {L : List Int} {w : World} (h : RdL T w v L.length (flat icell L)) (hn : L.length ≤ 1000000000) :
    Calls Tryz.prog 112 #[v] w fun e w' => ∃ v', e = .returned v' ∧ OwnI w' w.heap.size v' L ∧ Below w.heap.size w w' := by
  obtain ⟨a, cap, rfl, hmx, h⟩ := h
  obtain ⟨i0, hi0, hz0, hz1, hz2⟩ := info_parts infoInt
  rcases h with ⟨rfl, h0, h1⟩ | ⟨b, off, rfl, ht, hb, hc⟩
  · refine (AnyE.slices_Clone_nil Tryz.cloneI L.length cap w).mono ?_
    rintro e w' ⟨rfl, rfl⟩
    refine ⟨_, rfl, ?_, Below.refl _ _⟩
    unfold OwnI
    rw [h0, h1]
    exact OffRow.nil _ _ _ _
  · refine (AnyE.slices_Clone Tryz.cloneI i0 _ 1 8 hi0 hz0 hz1 hz2 rfl (by omega) Tryz.sizeOf3 b off L.length cap (flat icell L) w (flat_len icell_len L) hmx (by omega) hc (flat_one' icell_one L)).mono ?_
    rintro e w' ⟨v', rfl, ho, _, k⟩
    exact ⟨v', rfl, OffRow.of_own ho, k⟩
end Go.Proofs.YtgljjdldhnajdaaGreat
/- The files of a state. -/
set_option linter.unusedVariables false
set_option maxRecDepth 100000
namespace Go.Proofs.YtgljjdldhnajdaaGreat
open Go.RowKit

/-- A state by value: its lists read. -/
structure StV (T : Nat → Prop) (w : World) (tv sv lv : Value) (s : St) : Prop where
  tabs : RdL T w tv s.tabs.length (flat tcell s.tabs)
  stos : RdL T w sv s.stos.length (flat socell s.stos)
  logs : RdL T w lv s.logs.length (flat icell s.logs)
theorem StV.below {T : Nat → Prop} {w w' : World} {tv sv lv : Value} {s : St} (h : StV T w tv sv lv s) (k : Below w.heap.size w w') : StV T w' tv sv lv s := ⟨h.tabs.below k, h.stos.below k, h.logs.below k⟩
theorem StV.mono {T T' : Nat → Prop} {w : World} {tv sv lv : Value} {s : St} (h : StV T w tv sv lv s) (hT : ∀ b, b < w.heap.size → T b → T' b) : StV T' w tv sv lv s := ⟨h.tabs.mono hT, h.stos.mono hT, h.logs.mono hT⟩
/-- One number more behind a list of the call's own. -/
theorem own_push {B : Nat} {w' : World} {v : Value} {L : List Int} {f : Int} (h : OffRow w' B 3 1 v (L.length + 1) (flat icell L ++ [.int .i64 f])) : OwnI w' B v (L ++ [f]) := by
  unfold OwnI
  rw [List.length_append, flat_append, flat_one]
  exact h
def filesOf (s : St) : List Int := sortI (s.logs ++ s.tabs.map (·.file) ++ s.stos.map (·.file))
set_option maxHeartbeats 4000000 in
theorem man_Files {T : Nat → Prop} {w : World} {tv sv lv : Value} {s : St} (h : Hid (StV T w tv sv lv s)) (hs : Hid (s.tabs.length + s.stos.length + s.logs.length ≤ 1000000000)) :
    Calls Tryz.prog 87 #[.agg #[tv, sv, lv, .int .i64 s.next]] w fun e w' => ∃ v', e = .returned v' ∧ RdL (fun b => w.heap.size ≤ b) w' v' (filesOf s).length (flat icell (filesOf s)) ∧ Below w.heap.size w w' := by
  obtain ⟨B, hB⟩ : ∃ B, B = w.heap.size := ⟨_, rfl⟩
  rw [← hB]
  have HB := Lib.hid hB
  obtain ⟨nt, hnt⟩ : ∃ n, n = s.tabs.length := ⟨_, rfl⟩
  obtain ⟨ns, hns⟩ : ∃ n, n = s.stos.length := ⟨_, rfl⟩
  obtain ⟨w1, hw1⟩ : ∃ w1, w.alloc (.cells #[tv, sv, lv, .int .i64 s.next] 46) = w1 := ⟨_, rfl⟩
  have K1 := Lib.hid (show Below B w w1 by rw [← hw1, hB]; exact (Below.refl _ _).alloc (Nat.le_refl _) _)
  have S1 := Lib.hid (h.out.below (HB.out ▸ K1.out))
  have X1 := Lib.hid (show w1.heap[B]? = some (.cells #[tv, sv, lv, .int .i64 s.next] 46 (0, 0)) by rw [← hw1, hB]; exact heap_new w _)
  have HW1 := Lib.hid hw1
  have c2 : w1.cell? ⟨B, 2, none⟩ = some lv := by simp [World.cell?, X1.out]
  obtain ⟨ta, tc, ht⟩ := RdL.slice S1.out.tabs
  obtain ⟨sa, sc, hsv⟩ := RdL.slice S1.out.stos
  obtain ⟨la, lc, hlv⟩ := RdL.slice S1.out.logs
  rw [← hnt] at ht
  rw [← hns] at hsv
  subst ht hsv hlv
  have HNT := Lib.hid hnt
  have HNS := Lib.hid hns
  have HC := Lib.hid (clone_I S1.out.logs (by have := hs.out; omega))
  obtain ⟨i0, hi0, hz0, hz1, hz2⟩ := info_parts infoInt
  have HI := Lib.hid (And.intro hi0 (And.intro hz0 (And.intro hz1 hz2)))
  have hnt9 : nt ≤ 1000000000 := by have := hs.out; omega
  have hns9 : ns ≤ 1000000000 := by have := hs.out; omega
  obtain ⟨FT, hFT⟩ : ∃ FT, FT = s.tabs.map (·.file) := ⟨_, rfl⟩
  obtain ⟨FS, hFS⟩ : ∃ FS, FS = s.stos.map (·.file) := ⟨_, rfl⟩
  have HFL := Lib.hid (show FT.length = s.tabs.length ∧ FS.length = s.stos.length by rw [hFT, hFS]; simp)
  have HFT := Lib.hid hFT
  have HFS := Lib.hid hFS
  clear hFT hFS
  clear hw1 hB hnt hns hi0 hz0 hz1 hz2
  go_enter Tryz.func87, Tryz.ntmps87
  go_upto_region 1 with (fail)
  rw [HW1.out, ← HB.out]
  go_wp2_with fail
  refine HC.out.mono ?_
  rintro e w2 ⟨v2, rfl, o2, k2⟩
  have O2 := Lib.hid (show OwnI w2 B v2 s.logs from by
    have := o2
    unfold OwnI at this ⊢
    rcases this with ⟨x, y | ⟨g, off, cap, cur, a1, a2, a3⟩⟩
    · exact ⟨x, .inl y⟩
    · exact ⟨x, .inr ⟨g, off, cap, cur, a1, Nat.le_trans (by have := K1.out.size; have := HB.out; omega) a2, a3⟩⟩)
  have K2 := Lib.hid (K1.out.trans (k2.mono (by have := K1.out.size; have := HB.out; omega)))
  have S2 := Lib.hid (S1.out.below k2)
  have X2 := Lib.hid ((k2.block B (heap_lt X1.out)).trans X1.out)
  have c0 : w2.cell? ⟨B, 0, none⟩ = some (.slice ta nt tc) := by simp [World.cell?, X2.out]
  have HTB := Lib.hid (show RdL T w (.slice ta nt tc) nt (flat tcell s.tabs) by have := h.out.tabs; rw [← HNT.out] at this; exact this)
  have HSB := Lib.hid (show RdL T w (.slice sa ns sc) ns (flat socell s.stos) by have := h.out.stos; rw [← HNS.out] at this; exact this)
  clear o2 k2 c2 S1 X1 K1
  go_wp2_with fail
  go_loopw [3, 14] (fun v iv wr => ∃ i : Nat, i ≤ nt ∧ iv = .int .i64 (i : Int) ∧ Hid (OwnI wr B v (s.logs ++ FT.take i)) ∧ Hid (wr.heap[B]? = some (.cells #[.slice ta nt tc, .slice sa ns sc, .slice la s.logs.length lc, .int .i64 s.next] 46 (0, 0)) ∧ Below B w wr)) (fun v iv wr => nt - (intOf iv).toNat)
  case atStart => exact ⟨0, Nat.zero_le _, rfl, Lib.hid (by simpa using O2.out), Lib.hid ⟨X2.out, K2.out⟩⟩
  case round =>
    obtain ⟨i, hi, rfl, hO, hK⟩ := hrel
    obtain ⟨N, hN⟩ : ∃ N, N = (s.logs ++ FT.take i).length := ⟨_, rfl⟩
    have hN9 : N ≤ 1000000000 := by
      rw [hN]
      simp only [List.length_append, List.length_take]
      have := hs.out; have := HNT.out; have := HNS.out; have := HFL.out
      omega
    have HNN := Lib.hid hN
    have HO := Lib.hid (show OffRow wr B 3 1 _ N (flat icell (s.logs ++ FT.take i)) by have := hO.out; unfold OwnI at this; rw [← hN] at this; exact this)
    obtain ⟨a3, c3, rfl⟩ := OffRow.slice HO.out
    clear hN hO
    by_cases hlt : i < nt
    · have hlt' : (i : Int) < (nt : Int) := by omega
      obtain ⟨y, hy⟩ : ∃ y, s.tabs[i]? = some y := ⟨_, List.getElem?_eq_getElem (by have := HNT.out; omega)⟩
      obtain ⟨b, off, rfl, ht, hb2, hc⟩ := RdL.atT HTB.out hy hlt
      have hcr : ∀ i' u, (tcell y)[i']? = some u → wr.cell? ⟨b, off + i * 5 + i', none⟩ = some u := fun i' u hu => by
        rw [← hc i' u hu]
        simp only [World.cell?, hK.out.2.block b (by rw [HB.out]; exact hb2)]
      have y0 : wr.cell? ⟨b, off + i * 5, none⟩ = _ := hcr 0 _ rfl
      have y1 := hcr 1 _ rfl
      have y2 := hcr 2 _ rfl
      have y3 := hcr 3 _ rfl
      have y4 := hcr 4 _ rfl
      have HNX := Lib.hid (show s.logs ++ FT.take (i + 1) = s.logs ++ FT.take i ++ [y.file] by
        have hF : FT[i]? = some y.file := by rw [HFT.out, List.getElem?_map, hy]; rfl
        rw [List.take_add_one, hF, List.append_assoc]
        rfl)
      clear hc hcr hy
      obtain ⟨w4, hw4⟩ : ∃ w4, w4 = (wr.alloc (.cells #[.int .i64 y.file, .int .i64 y.lev, .int .i64 y.cnt, .string (bs y.low), .string (bs y.high)] 119)).alloc (.cells #[.int .i64 y.file] 3) := ⟨_, rfl⟩
      have O4 := Lib.hid (show OffRow w4 B 3 1 (.slice a3 N c3) N (flat icell (s.logs ++ FT.take i)) by rw [hw4]; exact (HO.out.allocd _).allocd _)
      have K4 := Lib.hid (show Below wr.heap.size wr w4 by rw [hw4]; exact ((Below.refl _ _).alloc (Nat.le_refl _) _).alloc (by simp) _)
      have HSR := Lib.hid (show Src Tryz.prog 1 44 (.slice (some ⟨wr.heap.size + 1, 0, none⟩) 1 1) 1 [.int .i64 y.file] w4 by
        have hb : w4.heap[wr.heap.size + 1]? = some (.cells #[.int .i64 y.file] 3 (0, 0)) := by
          rw [hw4]
          have := heap_new (wr.alloc (.cells #[.int .i64 y.file, .int .i64 y.lev, .int .i64 y.cnt, .string (bs y.low), .string (bs y.high)] 119)) (.cells #[.int .i64 y.file] 3)
          simpa using this
        exact src_block (size := 1) (cs := #[.int .i64 y.file]) Tryz.underlying44 hb 1 1 rfl (by intro u hu; simp at hu; subst hu; rfl))
      have HB4 := Lib.hid (show B ≤ w4.heap.size by have := K4.out.size; have := hK.out.2.size; have := HB.out; omega)
      rw [hw4] at O4 HSR HB4
      have HW4 := Lib.hid hw4
      clear hw4
      go_wp2_with (at_builtin; refine wpList_append_off rfl (.tmp 18) (.tmp 21) 44 rfl B 3 i0 _ 1 8 Tryz.underlying44 HI.out.1 HI.out.2.1 HI.out.2.2.1 HI.out.2.2.2 rfl (.slice a3 N c3) N _ rfl O4.out (.slice (some ⟨wr.heap.size + 1, 0, none⟩) 1 1) rfl 1 _ HSR.out ?q3 ?q4 HB4.out ?_)
      case q3 => unfold maxLen; omega
      case q4 => omega
      intro v7 w7 hr7 hg7 hat7
      rw [← HW4.out] at hg7
      have O7 := Lib.hid (show OwnI w7 B v7 (s.logs ++ FT.take (i + 1)) by rw [HNX.out]; exact own_push (by rw [← HNN.out]; exact hr7))
      have K7 := Lib.hid ((hK.out.2.trans (K4.out.mono (by have := hK.out.2.size; have := HB.out; omega))).grown hg7 (by rw [HW4.out]; exact HB4.out) (fun j hj => (OffRow.lt HO.out j hj).1))
      have J7 := Lib.hid (
        (hg7.block B (Nat.lt_of_lt_of_le (heap_lt hK.out.1) K4.out.size) (fun e => by
          obtain ⟨cur, hc⟩ := OffRow.tag HO.out e.symm
          rw [hK.out.1] at hc
          simp at hc)).trans ((K4.out.block B (heap_lt hK.out.1)).trans hK.out.1))
      clear hr7 hg7 hat7 y0 O4 HSR
      go_wp2_with fail
      go_roundw
      case rel => exact ⟨i + 1, hlt, by go_num, O7, Lib.hid ⟨J7.out, K7.out⟩⟩
      case measure => simp [intOf]; omega
    · obtain rfl : i = nt := by omega
      obtain ⟨nq, hnq⟩ : ∃ nq, nq = i := ⟨_, rfl⟩
      subst hnq
      obtain ⟨PRE, hPRE⟩ : ∃ PRE, PRE = s.logs ++ FT := ⟨_, rfl⟩
      have HPRE := Lib.hid hPRE
      clear hPRE
      have HPL := Lib.hid (show PRE.length = s.logs.length + s.tabs.length by rw [HPRE.out, List.length_append, HFL.out.1])
      have O5 := Lib.hid (show OwnI wr B (.slice a3 N c3) (PRE ++ FS.take 0) by
        rw [HPRE.out]
        have := HO.out
        rw [List.take_of_length_le (show FT.length ≤ nq by have := HFL.out; have := HNT.out; omega)] at this HNN
        rw [List.take_zero, List.append_nil]
        unfold OwnI
        rw [← HNN.out]
        exact this)
      have c1 : wr.cell? ⟨B, 1, none⟩ = some (.slice sa ns sc) := by simp [World.cell?, hK.out.1]
      have HK5 := hK
      obtain ⟨wo, hwo⟩ : ∃ wo, wo = wr := ⟨_, rfl⟩
      subst hwo
      clear hK HO HNN
      go_wp2_with fail
      go_loopw [3, 27] (fun v iv wq => ∃ i : Nat, i ≤ ns ∧ iv = .int .i64 (i : Int) ∧ Hid (OwnI wq B v (PRE ++ FS.take i)) ∧ Hid (wq.heap[B]? = some (.cells #[.slice ta nq tc, .slice sa ns sc, .slice la s.logs.length lc, .int .i64 s.next] 46 (0, 0)) ∧ Below B w wq)) (fun v iv wq => ns - (intOf iv).toNat)
      case atStart => exact ⟨0, Nat.zero_le _, rfl, O5, HK5⟩
      case round =>
        obtain ⟨i, hi, rfl, hO, hK⟩ := hrel
        obtain ⟨N, hN⟩ : ∃ N, N = (PRE ++ FS.take i).length := ⟨_, rfl⟩
        have hN9 : N ≤ 1000000000 := by
          rw [hN]
          simp only [List.length_append, List.length_take]
          have := HPL.out; have := hs.out; have := HNT.out; have := HNS.out; have := HFL.out
          omega
        have HNN := Lib.hid hN
        have HO := Lib.hid (show OffRow wr B 3 1 _ N (flat icell (PRE ++ FS.take i)) by have := hO.out; unfold OwnI at this; rw [← hN] at this; exact this)
        obtain ⟨a3, c3, rfl⟩ := OffRow.slice HO.out
        clear hN hO
        by_cases hlt : i < ns
        · have hlt' : (i : Int) < (ns : Int) := by omega
          obtain ⟨y, hy⟩ : ∃ y, s.stos[i]? = some y := ⟨_, List.getElem?_eq_getElem (by have := HNS.out; omega)⟩
          obtain ⟨b, off, rfl, ht, hb2, hc⟩ := RdL.atS HSB.out hy hlt
          have hcr : ∀ i' u, (socell y)[i']? = some u → wr.cell? ⟨b, off + i * 2 + i', none⟩ = some u := fun i' u hu => by
            rw [← hc i' u hu]
            simp only [World.cell?, hK.out.2.block b (by rw [HB.out]; exact hb2)]
          have y0 : wr.cell? ⟨b, off + i * 2, none⟩ = _ := hcr 0 _ rfl
          have y1 := hcr 1 _ rfl
          have HNX := Lib.hid (show PRE ++ FS.take (i + 1) = PRE ++ FS.take i ++ [y.file] by
            have hF : FS[i]? = some y.file := by rw [HFS.out, List.getElem?_map, hy]; rfl
            rw [List.take_add_one, hF, List.append_assoc]
            rfl)
          clear hc hcr hy
          obtain ⟨w4, hw4⟩ : ∃ w4, w4 = (wr.alloc (.cells #[.int .i64 y.file, .int .i64 y.tier] 121)).alloc (.cells #[.int .i64 y.file] 3) := ⟨_, rfl⟩
          have O4 := Lib.hid (show OffRow w4 B 3 1 (.slice a3 N c3) N (flat icell (PRE ++ FS.take i)) by rw [hw4]; exact (HO.out.allocd _).allocd _)
          have K4 := Lib.hid (show Below wr.heap.size wr w4 by rw [hw4]; exact ((Below.refl _ _).alloc (Nat.le_refl _) _).alloc (by simp) _)
          have HSR := Lib.hid (show Src Tryz.prog 1 44 (.slice (some ⟨wr.heap.size + 1, 0, none⟩) 1 1) 1 [.int .i64 y.file] w4 by
            have hb : w4.heap[wr.heap.size + 1]? = some (.cells #[.int .i64 y.file] 3 (0, 0)) := by
              rw [hw4]
              have := heap_new (wr.alloc (.cells #[.int .i64 y.file, .int .i64 y.tier] 121)) (.cells #[.int .i64 y.file] 3)
              simpa using this
            exact src_block (size := 1) (cs := #[.int .i64 y.file]) Tryz.underlying44 hb 1 1 rfl (by intro u hu; simp at hu; subst hu; rfl))
          have HB4 := Lib.hid (show B ≤ w4.heap.size by have := K4.out.size; have := hK.out.2.size; have := HB.out; omega)
          rw [hw4] at O4 HSR HB4
          have HW4 := Lib.hid hw4
          clear hw4
          go_wp2_with (at_builtin; refine wpList_append_off rfl (.tmp 31) (.tmp 34) 44 rfl B 3 i0 _ 1 8 Tryz.underlying44 HI.out.1 HI.out.2.1 HI.out.2.2.1 HI.out.2.2.2 rfl (.slice a3 N c3) N _ rfl O4.out (.slice (some ⟨wr.heap.size + 1, 0, none⟩) 1 1) rfl 1 _ HSR.out ?q3 ?q4 HB4.out ?_)
          case q3 => unfold maxLen; omega
          case q4 => omega
          intro v7 w7 hr7 hg7 hat7
          rw [← HW4.out] at hg7
          have O7 := Lib.hid (show OwnI w7 B v7 (PRE ++ FS.take (i + 1)) by rw [HNX.out]; exact own_push (by rw [← HNN.out]; exact hr7))
          have K7 := Lib.hid ((hK.out.2.trans (K4.out.mono (by have := hK.out.2.size; have := HB.out; omega))).grown hg7 (by rw [HW4.out]; exact HB4.out) (fun j hj => (OffRow.lt HO.out j hj).1))
          have J7 := Lib.hid (
            (hg7.block B (Nat.lt_of_lt_of_le (heap_lt hK.out.1) K4.out.size) (fun e => by
              obtain ⟨cur, hc⟩ := OffRow.tag HO.out e.symm
              rw [hK.out.1] at hc
              simp at hc)).trans ((K4.out.block B (heap_lt hK.out.1)).trans hK.out.1))
          clear hr7 hg7 hat7 y0 O4 HSR
          go_wp2_with fail
          go_roundw
          case rel => exact ⟨i + 1, hlt, by go_num, O7, Lib.hid ⟨J7.out, K7.out⟩⟩
          case measure => simp [intOf]; omega
        · obtain rfl : i = ns := by omega
          have HFULL := Lib.hid (show PRE ++ FS.take i = s.logs ++ s.tabs.map (·.file) ++ s.stos.map (·.file) by
            rw [List.take_of_length_le (show FS.length ≤ i by have := HFL.out; have := HNS.out; omega), HPRE.out, HFT.out, HFS.out])
          have O6 := Lib.hid (show OwnI wr B (.slice a3 N c3) (PRE ++ FS.take i) by unfold OwnI; rw [← HNN.out]; exact HO.out)
          have HSO := Lib.hid (sort_I O6.out (by rw [← HNN.out]; exact hN9))
          have HLEN := Lib.hid (show (filesOf s).length = N by unfold filesOf sortI; rw [List.length_mergeSort, ← HFULL.out, ← HNN.out])
          clear HO O6
          go_wp2_with fail
          refine HSO.out.mono ?_
          rintro e w8 ⟨rfl, g8, r8⟩
          have R8 := Lib.hid (show RdL (fun b => B ≤ b) w8 (.slice a3 N c3) (filesOf s).length (flat icell (filesOf s)) by rw [HLEN.out]; unfold filesOf; rw [← HFULL.out]; rw [← HNN.out] at r8; exact r8)
          have K8 := Lib.hid (hK.out.2.grown g8 (by have := hK.out.2.size; have := HB.out; omega) (fun j hj => by
            have : RdL (fun b => B ≤ b) w8 (.slice a3 N c3) (filesOf s).length (flat icell (filesOf s)) := R8.out
            obtain ⟨a', c', e, _, h5⟩ := this
            injection e with e1 e2 e3
            subst e1
            rcases h5 with ⟨h6, _, _⟩ | ⟨b6, o6, h6, h7, _⟩
            · rw [h6] at hj; simp [Value.ownBlock] at hj
            · rw [h6] at hj; simp [Value.ownBlock] at hj; rw [← hj]; exact h7))
          clear g8 r8 HSO
          go_wp2
          go_ret
          exact ⟨_, rfl, R8.out, K8.out⟩
end Go.Proofs.YtgljjdldhnajdaaGreat
/- A list's copy. -/
set_option linter.unusedVariables false
set_option maxRecDepth 100000
namespace Go.Proofs.YtgljjdldhnajdaaGreat
open Go.RowKit
theorem clone_T {T : Nat → Prop} {v : Value} {L : List Tb} {w : World} (h : RdL T w v L.length (flat tcell L)) (hn : L.length ≤ 1000000000) :
    Calls Tryz.prog 110 #[v] w fun e w' => ∃ v', e = .returned v' ∧ OwnTb w' w.heap.size v' L ∧ Below w.heap.size w w' := by
  obtain ⟨a, cap, rfl, hmx, h⟩ := h
  obtain ⟨i0, hi0, hz0, hz1, hz2⟩ := info_parts infoTb
  rcases h with ⟨rfl, h0, h1⟩ | ⟨b, off, rfl, ht, hb, hc⟩
  · refine (AnyE.slices_Clone_nil Tryz.cloneT L.length cap w).mono ?_
    rintro e w' ⟨rfl, rfl⟩
    refine ⟨_, rfl, ?_, Below.refl _ _⟩
    unfold OwnTb
    rw [h0, h1]
    exact OffRow.nil _ _ _ _
  · refine (AnyE.slices_Clone Tryz.cloneT i0 _ 5 56 hi0 hz0 hz1 hz2 rfl (by omega) Tryz.sizeOf119 b off L.length cap (flat tcell L) w (flat_len tcell_len L) hmx (by omega) hc (flat_one' tcell_one L)).mono ?_
    rintro e w' ⟨v', rfl, ho, _, k⟩
    exact ⟨v', rfl, OffRow.of_own ho, k⟩
end Go.Proofs.YtgljjdldhnajdaaGreat
/- A list's copy. -/
set_option linter.unusedVariables false
set_option maxRecDepth 100000
namespace Go.Proofs.YtgljjdldhnajdaaGreat
open Go.RowKit
theorem clone_S {T : Nat → Prop} {v : Value} {L : List So} {w : World} (h : RdL T w v L.length (flat socell L)) (hn : L.length ≤ 1000000000) :
    Calls Tryz.prog 111 #[v] w fun e w' => ∃ v', e = .returned v' ∧ OwnSo w' w.heap.size v' L ∧ Below w.heap.size w w' := by
  obtain ⟨a, cap, rfl, hmx, h⟩ := h
  obtain ⟨i0, hi0, hz0, hz1, hz2⟩ := info_parts infoSo
  rcases h with ⟨rfl, h0, h1⟩ | ⟨b, off, rfl, ht, hb, hc⟩
  · refine (AnyE.slices_Clone_nil Tryz.cloneS L.length cap w).mono ?_
    rintro e w' ⟨rfl, rfl⟩
    refine ⟨_, rfl, ?_, Below.refl _ _⟩
    unfold OwnSo
    rw [h0, h1]
    exact OffRow.nil _ _ _ _
  · refine (AnyE.slices_Clone Tryz.cloneS i0 _ 2 16 hi0 hz0 hz1 hz2 rfl (by omega) Tryz.sizeOf121 b off L.length cap (flat socell L) w (flat_len socell_len L) hmx (by omega) hc (flat_one' socell_one L)).mono ?_
    rintro e w' ⟨v', rfl, ho, _, k⟩
    exact ⟨v', rfl, OffRow.of_own ho, k⟩
end Go.Proofs.YtgljjdldhnajdaaGreat
