/- Texts put together: ManDropS, ManDelI, ManAtI, ManOutI, ManWithI, ManDropI, ManDo, Region, ManSort -/
import Derived.Test.YtljjielekgilpaaGreatMApp02
import Derived.Test.YtljjielekgilpaaGreatMApp05
import Derived.Test.YtljjielekgilpaaGreatMApp00
import Derived.Shelf.RegionOpenPlain
import Derived.Test.YtljjielekgilpaaGreatMApp01
import Derived.Test.YtljjielekgilpaaGreatMApp03
import Derived.Test.YtljjielekgilpaaGreatMApp04
import Derived.Laws.Rows
import Derived.Deep.MidRow
import Derived.Deep.RegionHeld3
import Derived.Lib.SlKeysI
/- A draft without a thing. -/
set_option linter.unusedVariables false
set_option maxRecDepth 100000
namespace Go.Proofs.YtljjielekgilpaaGreat
open Go.RowKit Go.Maps Go.WideShapes Go.ChangeMaps
variable {B db mb : Nat} {w : World} {s : St} {tv sv lv : Value}

set_option maxHeartbeats 4000000 in
theorem draft_dropS (h : Hid (Dr B w db s tv sv lv mb)) (f : Int) (hw : Hid ((Lit.int .i64 f).wf = true)) (hnod : Hid s.files.Nodup) (hn : s.stos.length ≤ 1000000000) :
    Calls Tryz.prog 121 #[.pointer (some ⟨db, 0, none⟩), .int .i64 4, .int .i64 f] w
      (DoPost B db w (if f ∈ s.stos.map (·.file) then 0 else 9) { s with stos := s.stos.filter fun t => decide (t.file ≠ f) }) := by
  have HB := Lib.hid (show B ≤ w.heap.size by have := h.out.lo; have := h.out.lt; omega)
  obtain ⟨a1, c1, hv1⟩ := OffRow.slice h.out.stos
  obtain ⟨n1, hn1⟩ : ∃ n1, n1 = s.stos.length := ⟨_, rfl⟩
  have HN1 := Lib.hid hn1
  rw [← hn1] at hv1
  subst hv1
  obtain ⟨w1, hw1⟩ : ∃ w1, w.alloc (.cells #[.int .i64 f] 3) = w1 := ⟨_, rfl⟩
  obtain ⟨fb, hfb⟩ : ∃ fb, fb = w.heap.size := ⟨_, rfl⟩
  have HFB := Lib.hid hfb
  have K1 := Lib.hid (show Below w.heap.size w w1 by rw [← hw1]; exact (Below.refl _ _).alloc (Nat.le_refl _) _)
  have D1 := Lib.hid (h.out.below K1.out)
  have F1 := Lib.hid (show w1.heap[fb]? = some (.cells #[.int .i64 f] 3 (0, 0)) by rw [← hw1, hfb]; exact heap_new w _)
  have HW1 := Lib.hid hw1
  have c0 : w1.cell? ⟨db, 1, none⟩ = some (.slice a1 n1 c1) := D1.out.cell 1
  have O1 := Lib.hid (show OffRow w1 B 88 2 (.slice a1 n1 c1) n1 (flat socell s.stos) by have := D1.out.stos; unfold OwnSo at this; rw [← hn1] at this; exact this)
  have HWI := Lib.hid (without_S (fb := fb) (f := f) O1 HN1 (by omega) (Lib.hid (by simp [World.cell?, F1.out])) (Nat.le_trans HB.out K1.out.size))
  have hne : fb ≠ db := by have := h.out.lt; omega
  obtain ⟨zz, hzz⟩ : ∃ zz : Int, zz = if f ∈ s.stos.map (·.file) then 0 else 9 := ⟨_, rfl⟩
  rw [← hzz]
  have HZZ := Lib.hid hzz
  clear hw1 hfb hn1 hzz
  go_enter Tryz.func121, Tryz.ntmps121
  go_upto_region 1 with (fail)
  rw [HW1.out, ← HFB.out]
  go_wp2_with fail
  refine HWI.out.mono ?_
  rintro e w2 ⟨v', z, L', rfl, o2, k2, hv2, hcase⟩
  obtain ⟨a2, c2, rfl⟩ := OffRow.slice o2
  obtain ⟨n2, hn2⟩ : ∃ n2, n2 = L'.length := ⟨_, rfl⟩
  rw [← hn2] at hv2 o2
  rw [← hn2]
  have HN2 := Lib.hid hn2
  have HC := Lib.hid hcase
  have hk2 : ∀ j, j < w1.heap.size → (Value.slice a1 n1 c1).ownBlock ≠ some j → w2.heap[j]? = w1.heap[j]? := fun j hj hne => k2.block j hj hne
  have hnd : ∀ g, (Value.slice a2 n2 c2).ownBlock = some g → g ≠ db := fun g hg => (D1.out.ns (hv2 ▸ hg)).1
  have P := Lib.hid (D1.out.putS (show OwnSo w2 B (.slice a2 n2 c2) L' by unfold OwnSo; rw [← hn2]; exact o2) hk2 hnd)
  have e2 : w2.heap[db]? = _ := (hk2 db D1.out.lt (fun e => (D1.out.ns e).1 rfl)).trans D1.out.obj
  have d2 : w2.cell? ⟨db, 1, none⟩ = some (.slice a1 n1 c1) := by simp [World.cell?, e2]
  have f2 : w2.frozen? ⟨db, 1, none⟩ = false := by simp [World.frozen?, e2]
  have K2 := Lib.hid (show Below B w w2 from (K1.out.mono HB.out).trans (k2.below (fun k _ hk => ((OffRow.lt O1.out k hk).1)) (Nat.le_trans HB.out K1.out.size)))
  have K3 := Lib.hid (K2.out.setCell (p := ⟨db, 1, none⟩) D1.out.lo (.slice a2 n2 c2))
  have F2 : w2.heap[fb]? = some (.cells #[.int .i64 f] 3 (0, 0)) := (hk2 fb (heap_lt F1.out) (fun e => by obtain ⟨cur, hc⟩ := OffRow.tag O1.out e; have := OffRow.lt h.out.stos fb e; have := HFB.out; omega)).trans F1.out
  obtain ⟨w3, hw3⟩ : ∃ w3, w3 = w2.setCell ⟨db, 1, none⟩ (.slice a2 n2 c2) := ⟨_, rfl⟩
  have HW3 := Lib.hid hw3
  rw [← hw3] at P K3
  have F3 : w3.heap[fb]? = some (.cells #[.int .i64 f] 3 (0, 0)) := by rw [hw3, heap_set_other hne]; exact F2
  have x4 : w3.cell? ⟨db, 4, none⟩ = some (.map (some mb)) := by simp [World.cell?, P.out.1]
  have xf : w3.cell? ⟨fb, 0, none⟩ = some (.int .i64 f) := by simp [World.cell?, F3]
  clear o2 k2 hv2 hcase hn2 hk2 hnd e2 F2 F3 hw3 c0
  rcases HC.out with ⟨i, x, hx, hxf, rfl, rfl⟩ | ⟨hno, rfl, rfl⟩
  · have hmem : x.file ∈ s.stos.map (·.file) := List.mem_map.2 ⟨x, List.mem_of_getElem? hx, rfl⟩
    have hz0 := Lib.hid (show zz = 0 by rw [HZZ.out, ← hxf, if_pos hmem])
    have HD := Lib.hid (drop_S hnod.out hx)
    have HX := Lib.hid hxf
    obtain ⟨l, hl, hp⟩ := P.out.2.2.2.2
    have HL := Lib.hid (And.intro hl hp)
    have HK := Lib.hid (show keyOf Tryz.prog 3 (.int .i64 f) = some (.int .i64 f) from keyOf_int_mk Tryz.underlying3 hw.out)
    have x4' : ∀ q : Seen w3, q.val.cell? ⟨db, 4, none⟩ = some (.map (some mb)) := fun q => by rw [q.below.cell (cell_block x4)]; exact x4
    have xf' : ∀ q : Seen w3, q.val.cell? ⟨fb, 0, none⟩ = some (.int .i64 f) := fun q => by rw [q.below.cell (cell_block xf)]; exact xf
    clear hmem hx hxf hl hp x4 xf HZZ HC
    go_wp2_with fail
    rw [← HW3.out]
    refine wp_region_seen_tail 5 (by kernel_rfl) (by kernel_rfl) ?_
    simp only [List.take_succ_cons, List.take_zero, List.drop_succ_cons, List.drop_zero]
    repeat go_big_quiet_step (fail)
    refine wpQuiet_nil ?_
    rintro _ ⟨m1, rfl⟩
    have hown : m1.val.ownsMap Tryz.prog 3 (unitElem (H := Unit)) mb s.files.length (.map l) := by
      obtain ⟨x, c, hb, r⟩ := HL.out.1
      exact ⟨x, c, (m1.below.block mb (heap_lt hb)).trans hb, r⟩
    have HOW := Lib.hid hown
    clear hown x4' xf'
    go_wp2_with (at_delete; refine wpList_delete_own _ rfl _ _ 81 3 rfl 138 keyedI Tryz.underlying81 _ mb _ _ rfl HOW.out _ _ rfl HK.out ?_)
    intro w4 hown4 hturn4
    have S4 := Lib.hid (set_del HL.out.2 hown4)
    have T4 := Lib.hid hturn4
    clear hown4 hturn4
    go_wp2
    go_ret
    refine ⟨by rw [hz0.out]; rfl, (K3.out.trans (m1.below.mono (Nat.le_trans HB.out K3.out.size))).grown (turned_meta T4.out) (Nat.le_trans (Nat.le_trans HB.out K3.out.size) m1.below.size) (fun j hj => by injection hj with hj; rw [← hj]; exact D1.out.mlo), fun _ => ?_⟩
    have d0 : Dr0 B w3 db { s with stos := s.stos.eraseIdx i } s.files tv (.slice a2 n2 c2) lv mb := ⟨P.out.1, D1.out.lo, P.out.2.1, P.out.2.2.1, P.out.2.2.2.1, P.out.2.2.2.2, D1.out.mlo⟩
    have d1 : Dr0 B m1.val db { s with stos := s.stos.eraseIdx i } s.files tv (.slice a2 n2 c2) lv mb := by
      refine d0.turn (d0.set.kept (m1.below.block mb ?_)) fun j hj _ => m1.below.block j hj
      obtain ⟨x, c, e⟩ := d0.set.obj
      exact heap_lt e
    have d2 := d1.turn S4.out fun j hj hne => turned_other' T4.out j hne
    rw [show s.stos.filter (fun t => decide (t.file ≠ f)) = s.stos.eraseIdx i by rw [← HX.out]; exact HD.out.1]
    exact ⟨_, _, _, mb, Dr.of0 d2 (by rw [← HX.out, HD.out.2])⟩
  · have hmem : ¬ f ∈ s.stos.map (·.file) := fun hm => by obtain ⟨t, ht, e⟩ := List.mem_map.1 hm; exact hno t ht e
    have hz9 := Lib.hid (show zz = 9 by rw [HZZ.out, if_neg hmem])
    have HX := Lib.hid hno
    clear hno hmem HC x4 xf HZZ
    go_wp2
    go_ret
    rw [hz9.out]
    exact do_bad (by rw [← HW3.out]; exact K3.out) (by omega)
end Go.Proofs.YtljjielekgilpaaGreat
/- An element taken out of a row: the library's Delete, of one element; the place of the first that is sought. -/
set_option linter.unusedVariables false
set_option maxRecDepth 100000
namespace Go.Proofs.YtljjielekgilpaaGreat
open Go.RowKit

def DelPostI (B g off n cap i : Nat) (L : List Int) (w : World) (e : Ending) (w' : World) : Prop :=
  ∃ v', e = .returned v' ∧ OffRow w' B 3 1 v' (n - 1) (flat icell (L.eraseIdx i)) ∧ w.grownBy w' (some g) ∧ v'.ownBlock = some g
theorem flat_eraseI {L : List Int} {i : Nat} (hi : i < L.length) : flat icell (L.eraseIdx i) = (flat icell L).take (i * 1) ++ (flat icell L).drop ((i + 1) * 1) := by
  rw [List.eraseIdx_eq_take_drop_succ, flat_append, (flat_split icell_len L i (by omega)).1, (flat_split icell_len L (i + 1) (by omega)).2]

set_option maxHeartbeats 4000000 in
theorem delete_I {B n cap i g off : Nat} {L : List Int} {w : World} (h : Hid (AtRow w 3 1 g off n cap (flat icell L))) (hBg : B ≤ g) (hL : Hid (n = L.length)) (hn : n ≤ 1000000000) (hi : i < n) :
    Calls Tryz.prog 198 #[.slice (some ⟨g, off, none⟩) n cap, .int .i64 (i : Int), .int .i64 ((i : Int) + 1)] w (DelPostI B g off n cap i L w) := by
  have mixed : Tryz.prog.follows .mixedOrders = true := by kernel_rfl
  have HE := Lib.hid (flat_eraseI (L := L) (i := i) (by have := hL.out; omega))
  obtain ⟨i0, hi0, hz0, hz1, hz2⟩ := info_parts infoInt
  obtain ⟨m, rfl⟩ : ∃ m, n = m + 1 := ⟨n - 1, by omega⟩
  have him : i ≤ m := by omega
  have hxs : (flat icell L).length = (m + 1) * 1 := h.out.len
  obtain ⟨cur, hg, hcs, hcc⟩ := h.out.obj
  have hcn : m + 1 ≤ cap := h.out.room
  have hmx : cap ≤ maxLen := h.out.max
  have hdl : ((flat icell L).drop ((i + 1) * 1)).length = (m - i) * 1 := by rw [List.length_drop, hxs]; omega
  have hsrc : ∀ a2 c2, (i + 1 < cap → a2 = ⟨g, off + (i + 1) * 1, none⟩) → Src Tryz.prog 1 27 (.slice (some a2) (m - i) c2) (m - i) ((flat icell L).drop ((i + 1) * 1)) w.drew := fun a2 c2 ha => by
    refine Src.ofSlice w.drew Tryz.underlying27 a2 (m - i) c2 _ hdl (fun j u hj => ?_) (fun v hv => flat_one' icell_one L v (List.mem_of_mem_drop hv))
    have hlt : j < (m - i) * 1 := by rw [← hdl]; exact (List.getElem?_eq_some_iff.1 hj).1
    rw [ha (by omega), addr_add, Nat.add_assoc]
    rw [List.getElem?_drop] at hj
    exact h.out.cell hj
  have hap : ∀ ty a2 c2, (i + 1 < cap → a2 = ⟨g, off + (i + 1) * 1, none⟩) → (Builtin.append_ #[27, 27] ty #[.slice (some ⟨g, off, none⟩) i cap, .slice (some a2) (m - i) c2]).run Tryz.prog w.drew = .ok (.slice (some ⟨g, off, none⟩) m cap) (w.drew.setCells g (off + i * 1) ((flat icell L).drop ((i + 1) * 1))) := fun ty a2 c2 ha => by
    have := run_append_room_src (P := Tryz.prog) w.drew 27 27 ty 3 i0 Tryz.underlying27 hi0 g off i cap _ (m - i) ((flat icell L).drop ((i + 1) * 1)) (by rw [hz1]; exact hsrc a2 c2 ha) (by omega)
      (fun j hj => by rw [hz1, Nat.add_assoc]; exact h.out.some (by rw [hdl] at hj; omega)) (fun j hj => h.out.free _)
    rw [hz1, show i + (m - i) = m by omega] at this
    exact this
  obtain ⟨W1, hW1⟩ : ∃ W1, W1 = w.drew.setCells g (off + i * 1) ((flat icell L).drop ((i + 1) * 1)) := ⟨_, rfl⟩
  obtain ⟨c1, a1, a2, _, _⟩ := setCells_heap ((flat icell L).drop ((i + 1) * 1)) g (off + i * 1) w.drew cur 3 hg
  rw [← hW1] at a1
  have hcl : ∀ ty c, (Builtin.clear_ #[27] ty #[.slice (some ⟨g, off + m * 1, none⟩) 1 c]).run Tryz.prog W1 = .ok (.tuple #[]) (W1.setCells g (off + m * 1) (Value.int .i64 0).cells.toList) := fun ty c => by
    refine run_clear_one (P := Tryz.prog) W1 27 ty 3 i0 (Value.int .i64 0) 1 g (off + m * 1) c Tryz.underlying27 hi0 hz0 rfl (fun u hu => ?_) (fun j hj => by simp [World.cell?, a1]; omega) (fun j hj => by simp [World.frozen?, a1])
    simp [Value.cells] at hu
    subst hu; rfl
  have HF := Lib.hid (show OffRow (W1.setCells g (off + m * 1) (Value.int .i64 0).cells.toList) B 3 1 (.slice (some ⟨g, off, none⟩) m cap) (m + 1 - 1) (flat icell (L.eraseIdx i)) by
    rw [HE.out, hW1, Nat.add_sub_cancel]
    exact AtRow.off (AtRow.delete (w := w.drew) (h.out.kept (w' := w.drew) rfl) hi rfl rfl) hBg)
  have HG := Lib.hid (show w.grownBy (W1.setCells g (off + m * 1) (Value.int .i64 0).cells.toList) (some g) by
    rw [hW1]
    obtain ⟨p1, p2, p3, p4⟩ := setCells_meta ((flat icell L).drop ((i + 1) * 1)) g (off + i * 1) w.drew
    obtain ⟨q1, q2, q3, q4⟩ := setCells_meta (Value.int .i64 0).cells.toList g (off + m * 1) (w.drew.setCells g (off + i * 1) ((flat icell L).drop ((i + 1) * 1)))
    exact ⟨q1.trans p1, q2.trans p2, q3.trans p3, by rw [q4, p4]; exact Nat.le_refl _, fun k _ hk => (setCells_other _ _ _ _ _ (fun e => hk (by rw [e]))).trans (setCells_other _ _ _ _ _ (fun e => hk (by rw [e])))⟩)
  rw [← hW1] at hap
  have hb0 : (i : Int) ≤ (i : Int) + 1 := by omega
  have hb1 : (i : Int) + 1 ≤ ((m : Int) + 1) := by omega
  have hb2 : ((m : Int) + 1) ≤ (cap : Int) := by omega
  have hb3 : i ≤ cap := by omega
  have hb4 : (0 : Int) ≤ (i : Int) + 1 := by omega
  have htn : ((i : Int) + 1).toNat = i + 1 := by omega
  have hne : ¬ (i : Int) = (i : Int) + 1 := by omega
  have hmn : (m : Int) ≤ ((m : Int) + 1) := by omega
  have hmc : ¬ cap = m := by omega
  have hnm : m + 1 - m = 1 := by omega
  have hcap63 : (cap : Int) ≤ 9223372036854775807 := by unfold maxLen at hmx; omega
  have hib : (i : Int) ≤ (cap : Int) := by omega
  have hi1 : i + 1 ≤ cap := by omega
  have HX := Lib.hid (And.intro a1 (And.intro a2 (And.intro hcc (And.intro hcs (And.intro hxs hdl)))))
  clear a1 a2 hcc hcs hxs hdl hg hi0 hz0 hz1 hz2 hsrc hW1 hmx
  have hcs := Nat.lt_or_ge (i + 1) cap
  rcases hcs with hlt | hge
  · have hnc : ¬ cap = i + 1 := by omega
    have HAP := fun ty c2 => hap ty ⟨g, off + (i + 1) * 1, none⟩ c2 (fun _ => rfl)
    clear hap
    simp only [Nat.mul_one] at HAP hcl HF HG
    go_enter Tryz.func198, Tryz.ntmps198
    go_wp2_with fail
    go_region_law_o (refine step_append_runI rfl _ _ 27 27 rfl (.slice (some ⟨g, off, none⟩) i cap) (.slice (some ⟨g, off + (i + 1), none⟩) (m - i) (cap - (i + 1))) (by simp [Act.eval, Act.put]) (by simp [Act.eval, Act.put]) (HAP _ _) ?_)
    go_wp2_with (at_builtin; refine wpList_clear_runI rfl _ 27 rfl _ rfl (hcl _ _) ?_)
    go_ret
    exact ⟨_, rfl, HF.out, HG.out, rfl⟩
  · have hnc : (cap = i + 1) ↔ True := by constructor <;> (intro; first | trivial | omega)
    have HAP := fun ty c2 => hap ty ⟨g, off, none⟩ c2 (fun h => absurd h (by omega))
    clear hap hge
    simp only [Nat.mul_one] at HAP hcl HF HG
    go_enter Tryz.func198, Tryz.ntmps198
    go_wp2_with fail
    go_region_law_o (refine step_append_runI rfl _ _ 27 27 rfl (.slice (some ⟨g, off, none⟩) i cap) (.slice (some ⟨g, off, none⟩) (m - i) (cap - (i + 1))) (by simp [Act.eval, Act.put]) (by simp [Act.eval, Act.put]) (HAP _ _) ?_)
    go_wp2_with (at_builtin; refine wpList_clear_runI rfl _ 27 rfl _ rfl (hcl _ _) ?_)
    go_ret
    exact ⟨_, rfl, HF.out, HG.out, rfl⟩
end Go.Proofs.YtljjielekgilpaaGreat
/- An element of a list that reads. -/
set_option linter.unusedVariables false
set_option maxRecDepth 100000
namespace Go.Proofs.YtljjielekgilpaaGreat
open Go.RowKit

theorem RdL.atI {T : Nat → Prop} {w : World} {a : Option Addr} {n cap : Nat} {L : List Int} (h : RdL T w (.slice a n cap) n (flat icell L)) {m : Nat} {x : Int} (hx : L[m]? = some x) (hm : m < n) :
    ∃ b off, a = some ⟨b, off, none⟩ ∧ T b ∧ b < w.heap.size ∧ ∀ i u, (icell x)[i]? = some u → w.cell? ⟨b, off + m * 1 + i, none⟩ = some u := by
  obtain ⟨a', cap', e, _, h⟩ := h
  injection e with e1 e2 e3
  subst e1
  rcases h with ⟨_, h0, _⟩ | ⟨b, off, rfl, ht, hb, hc⟩
  · omega
  · refine ⟨b, off, rfl, ht, hb, fun i u hi => ?_⟩
    have hik : i < 1 := by rw [← icell_len x]; exact (List.getElem?_eq_some_iff.1 hi).1
    have := flat_at icell_len hx hik
    rw [hi] at this
    rw [Nat.add_assoc]
    exact hc _ _ this

end Go.Proofs.YtljjielekgilpaaGreat
/- The element with a file taken out of a list, where there is one. -/
set_option linter.unusedVariables false
set_option maxRecDepth 100000
namespace Go.Proofs.YtljjielekgilpaaGreat
open Go.RowKit

set_option maxHeartbeats 1000000 in
theorem sought_I (x : Int) (f : Int) (fb : Nat) (w : World) (h : w.cell? ⟨fb, 0, none⟩ = some (.int .i64 f)) :
    Calls Tryz.prog 172 #[(Value.int .i64 x), .pointer (some ⟨fb, 0, none⟩)] w fun e w' => e = .returned (.bool (x == f)) ∧ Below w.heap.size w w' := by
  have hfb : fb < w.heap.size := cell_block h
  have hne : ¬ fb = w.heap.size := by omega
  obtain ⟨r, hr⟩ : ∃ r, (x == f) = r := ⟨_, rfl⟩
  rw [hr]
  cases r
  all_goals
    go_enter Tryz.func172, Tryz.ntmps172
    go_wp2
    go_ret
    exact ⟨rfl, Below.refl _ _⟩
/-- Where the file stands, or nowhere. -/
def SeatI (L : List Int) (f : Int) (e : Ending) : Prop :=
  (∃ (i : Nat) (x : Int), L[i]? = some x ∧ x = f ∧ e = .returned (.int .i64 (i : Int))) ∨ ((∀ x ∈ L, x ≠ f) ∧ e = .returned (.int .i64 (-1)))
set_option maxHeartbeats 2000000 in
theorem index_I {T : Nat → Prop} {a : Option Addr} {n cap fb : Nat} {L : List Int} {f : Int} {w : World} (h : Hid (RdL T w (.slice a n cap) n (flat icell L))) (hL : Hid (n = L.length)) (hn : n ≤ 1000000000) (hf : Hid (w.cell? ⟨fb, 0, none⟩ = some (.int .i64 f))) :
    Calls Tryz.prog 197 #[.slice a n cap, .func (.func 172) #[] #[.pointer (some ⟨fb, 0, none⟩)]] w fun e w' => SeatI L f e ∧ Below w.heap.size w w' := by
  have eg : ∀ args w, (callFunc 172 args).run Tryz.prog w = .ok (.enter 172 args) w := enters_of Tryz.func172 (by kernel_rfl) rfl
  go_enter Tryz.func197, Tryz.ntmps197
  go_wp2_with fail
  go_loopw [8] (fun iv wr => ∃ i : Nat, i ≤ n ∧ iv = .int .i64 i ∧ Hid (∀ j y, j < i → L[j]? = some y → y ≠ f) ∧ Hid (Below w.heap.size w wr)) (fun iv wr => n - (intOf iv).toNat)
  case atStart => exact ⟨0, by omega, rfl, Lib.hid (fun j y hj => by omega), Lib.hid (Below.refl _ _)⟩
  case round =>
    obtain ⟨i, hi, rfl, hno, hB⟩ := hrel
    by_cases hlt : i < n
    · have hlt' : (i : Int) < (n : Int) := by omega
      obtain ⟨y, hy⟩ : ∃ y, L[i]? = some y := ⟨_, List.getElem?_eq_getElem (by have := hL.out; omega)⟩
      obtain ⟨b, off, rfl, ht, hb2, hc⟩ := RdL.atI h.out hy hlt
      have hcr : ∀ i' u, (icell y)[i']? = some u → wr.cell? ⟨b, off + i * 1 + i', none⟩ = some u := fun i' u hu => by
        rw [← hc i' u hu]
        simp only [World.cell?, hB.out.block b hb2]
      have y0 : wr.cell? ⟨b, off + i * 1, none⟩ = _ := hcr 0 _ rfl
      simp only [Nat.mul_one] at y0
      have hfr : wr.cell? ⟨fb, 0, none⟩ = some (.int .i64 f) := by rw [hB.out.cell (p := ⟨fb, 0, none⟩) (cell_block hf.out)]; exact hf.out
      have HS := Lib.hid (sought_I y f fb wr hfr)
      have HY := Lib.hid hy
      clear hfr hy hc hcr
      obtain ⟨r, hr⟩ : ∃ r, (y == f) = r := ⟨_, rfl⟩
      rw [hr] at HS
      have HR := Lib.hid hr
      clear hr
      cases r with
      | true =>
        go_wp2_with fail
        refine HS.out.mono ?_
        rintro e w2 ⟨rfl, k2⟩
        have K2 := Lib.hid (hB.out.trans (k2.mono hB.out.size))
        clear k2
        go_wp2
        go_ret
        exact ⟨.inl ⟨i, y, HY.out, by simpa using HR.out, rfl⟩, K2.out⟩
      | false =>
        go_wp2_with fail
        refine HS.out.mono ?_
        rintro e w2 ⟨rfl, k2⟩
        have K2 := Lib.hid (hB.out.trans (k2.mono hB.out.size))
        clear k2
        go_wp2_with fail
        go_roundw
        case rel => exact ⟨i + 1, hlt, by go_num, Lib.hid (fun j z hj hz => by
          rcases Nat.lt_or_ge j i with e | e
          · exact hno.out j z e hz
          · obtain rfl : j = i := by omega
            rw [HY.out] at hz
            injection hz with hz
            subst hz
            simpa using HR.out), K2⟩
        case measure => simp [intOf]; omega
    · obtain rfl : i = n := by omega
      go_wp2
      go_ret
      refine ⟨.inr ⟨fun x hx => ?_, rfl⟩, hB.out⟩
      obtain ⟨j, hj, e⟩ := List.mem_iff_getElem.1 hx
      exact hno.out j x (by have := hL.out; omega) (by rw [← e]; exact List.getElem?_eq_getElem hj)
end Go.Proofs.YtljjielekgilpaaGreat
/- A list without the element of a file. -/
set_option linter.unusedVariables false
set_option maxRecDepth 100000
namespace Go.Proofs.YtljjielekgilpaaGreat
open Go.RowKit

def WithPostI (B : Nat) (a : Option Addr) (n cap : Nat) (L : List Int) (f : Int) (w : World) (e : Ending) (w' : World) : Prop :=
  ∃ v' z L', e = .returned (.tuple #[v', .int .i64 z]) ∧ OffRow w' B 3 1 v' L'.length (flat icell L') ∧ Only (fun k => (Value.slice a n cap).ownBlock = some k) w w' ∧ v'.ownBlock = (Value.slice a n cap).ownBlock ∧
    ((∃ i x, L[i]? = some x ∧ x = f ∧ z = 0 ∧ L' = L.eraseIdx i) ∨ ((∀ x ∈ L, x ≠ f) ∧ z = 9 ∧ L' = L))
set_option maxHeartbeats 2000000 in
theorem without_I {B n cap fb : Nat} {a : Option Addr} {L : List Int} {f : Int} {w : World} (h : Hid (OffRow w B 3 1 (.slice a n cap) n (flat icell L))) (hL : Hid (n = L.length)) (hn : n ≤ 1000000000) (hf : Hid (w.cell? ⟨fb, 0, none⟩ = some (.int .i64 f))) (hB : B ≤ w.heap.size) :
    Calls Tryz.prog 171 #[.slice a n cap, .func (.func 172) #[] #[.pointer (some ⟨fb, 0, none⟩)]] w (WithPostI B a n cap L f w) := by
  have HI := Lib.hid (index_I (Lib.hid h.out.rdL) hL hn hf)
  go_enter Tryz.func171, Tryz.ntmps171
  go_wp2_with fail
  refine HI.out.mono ?_
  rintro e w1 ⟨hs, k1⟩
  have K1 := Lib.hid k1
  have O1 := Lib.hid (OffRow.kept h.out (w' := w1) fun j hj => K1.out.block j (OffRow.lt h.out j hj).2)
  have HO1 := Lib.hid (show Only (fun k => (Value.slice a n cap).ownBlock = some k) w w1 from Only.of_below k1 (fun k hk hk2 => absurd hk (by omega)))
  clear k1
  rcases hs with ⟨i, x, hx, hxf, rfl⟩ | ⟨hno, rfl⟩
  · have hin : i < n := by have := (List.getElem?_eq_some_iff.1 hx).1; have := hL.out; omega
    have hcn := OffRow.cap_ge h.out
    obtain ⟨g, off, rfl, hBg, hr⟩ := OffRow.at' O1.out (by omega)
    have HD := Lib.hid (delete_I (Lib.hid hr) hBg hL hn hin)
    have HX := Lib.hid (And.intro hx hxf)
    have hi0 : ¬ (i : Int) < 0 := by omega
    clear hx hxf hr
    go_wp2_with fail
    refine HD.out.mono ?_
    rintro e w2 ⟨v', rfl, o2, g2, hv⟩
    have O2 := Lib.hid (And.intro o2 (And.intro g2 hv))
    clear o2 g2 hv
    go_wp2
    go_ret2
    refine ⟨v', 0, L.eraseIdx i, rfl, ?_, ?_, O2.out.2.2, .inl ⟨i, x, HX.out.1, HX.out.2, rfl, rfl⟩⟩
    · have := O2.out.1
      rw [List.length_eraseIdx_of_lt (by have := hL.out; omega), ← hL.out]
      exact this
    · exact HO1.out.grown O2.out.2.1 fun j hj => .inl (by rw [← hj]; rfl)
  · have HN := Lib.hid hno
    clear hno
    go_wp2
    go_ret2
    exact ⟨_, 9, L, rfl, by rw [← hL.out]; exact O1.out, HO1.out, rfl, .inr ⟨HN.out, rfl, rfl⟩⟩
end Go.Proofs.YtljjielekgilpaaGreat
/- A draft without a thing. -/
set_option linter.unusedVariables false
set_option maxRecDepth 100000
namespace Go.Proofs.YtljjielekgilpaaGreat
open Go.RowKit Go.Maps Go.WideShapes Go.ChangeMaps
variable {B db mb : Nat} {w : World} {s : St} {tv sv lv : Value}

set_option maxHeartbeats 4000000 in
theorem draft_dropI (h : Hid (Dr B w db s tv sv lv mb)) (f : Int) (hw : Hid ((Lit.int .i64 f).wf = true)) (hnod : Hid s.files.Nodup) (hn : s.logs.length ≤ 1000000000) :
    Calls Tryz.prog 121 #[.pointer (some ⟨db, 0, none⟩), .int .i64 6, .int .i64 f] w
      (DoPost B db w (if f ∈ s.logs then 0 else 9) { s with logs := s.logs.filter fun t => decide (t ≠ f) }) := by
  have HB := Lib.hid (show B ≤ w.heap.size by have := h.out.lo; have := h.out.lt; omega)
  obtain ⟨a1, c1, hv1⟩ := OffRow.slice h.out.logs
  obtain ⟨n1, hn1⟩ : ∃ n1, n1 = s.logs.length := ⟨_, rfl⟩
  have HN1 := Lib.hid hn1
  rw [← hn1] at hv1
  subst hv1
  obtain ⟨w1, hw1⟩ : ∃ w1, w.alloc (.cells #[.int .i64 f] 3) = w1 := ⟨_, rfl⟩
  obtain ⟨fb, hfb⟩ : ∃ fb, fb = w.heap.size := ⟨_, rfl⟩
  have HFB := Lib.hid hfb
  have K1 := Lib.hid (show Below w.heap.size w w1 by rw [← hw1]; exact (Below.refl _ _).alloc (Nat.le_refl _) _)
  have D1 := Lib.hid (h.out.below K1.out)
  have F1 := Lib.hid (show w1.heap[fb]? = some (.cells #[.int .i64 f] 3 (0, 0)) by rw [← hw1, hfb]; exact heap_new w _)
  have HW1 := Lib.hid hw1
  have c0 : w1.cell? ⟨db, 2, none⟩ = some (.slice a1 n1 c1) := D1.out.cell 2
  have O1 := Lib.hid (show OffRow w1 B 3 1 (.slice a1 n1 c1) n1 (flat icell s.logs) by have := D1.out.logs; unfold OwnI at this; rw [← hn1] at this; exact this)
  have HWI := Lib.hid (without_I (fb := fb) (f := f) O1 HN1 (by omega) (Lib.hid (by simp [World.cell?, F1.out])) (Nat.le_trans HB.out K1.out.size))
  have hne : fb ≠ db := by have := h.out.lt; omega
  obtain ⟨zz, hzz⟩ : ∃ zz : Int, zz = if f ∈ s.logs then 0 else 9 := ⟨_, rfl⟩
  rw [← hzz]
  have HZZ := Lib.hid hzz
  clear hw1 hfb hn1 hzz
  go_enter Tryz.func121, Tryz.ntmps121
  go_upto_region 1 with (fail)
  rw [HW1.out, ← HFB.out]
  go_wp2_with fail
  refine HWI.out.mono ?_
  rintro e w2 ⟨v', z, L', rfl, o2, k2, hv2, hcase⟩
  obtain ⟨a2, c2, rfl⟩ := OffRow.slice o2
  obtain ⟨n2, hn2⟩ : ∃ n2, n2 = L'.length := ⟨_, rfl⟩
  rw [← hn2] at hv2 o2
  rw [← hn2]
  have HN2 := Lib.hid hn2
  have HC := Lib.hid hcase
  have hk2 : ∀ j, j < w1.heap.size → (Value.slice a1 n1 c1).ownBlock ≠ some j → w2.heap[j]? = w1.heap[j]? := fun j hj hne => k2.block j hj hne
  have hnd : ∀ g, (Value.slice a2 n2 c2).ownBlock = some g → g ≠ db := fun g hg => (D1.out.nl (hv2 ▸ hg)).1
  have P := Lib.hid (D1.out.putL (show OwnI w2 B (.slice a2 n2 c2) L' by unfold OwnI; rw [← hn2]; exact o2) hk2 hnd)
  have e2 : w2.heap[db]? = _ := (hk2 db D1.out.lt (fun e => (D1.out.nl e).1 rfl)).trans D1.out.obj
  have d2 : w2.cell? ⟨db, 2, none⟩ = some (.slice a1 n1 c1) := by simp [World.cell?, e2]
  have f2 : w2.frozen? ⟨db, 2, none⟩ = false := by simp [World.frozen?, e2]
  have K2 := Lib.hid (show Below B w w2 from (K1.out.mono HB.out).trans (k2.below (fun k _ hk => ((OffRow.lt O1.out k hk).1)) (Nat.le_trans HB.out K1.out.size)))
  have K3 := Lib.hid (K2.out.setCell (p := ⟨db, 2, none⟩) D1.out.lo (.slice a2 n2 c2))
  have F2 : w2.heap[fb]? = some (.cells #[.int .i64 f] 3 (0, 0)) := (hk2 fb (heap_lt F1.out) (fun e => by obtain ⟨cur, hc⟩ := OffRow.tag O1.out e; have := OffRow.lt h.out.logs fb e; have := HFB.out; omega)).trans F1.out
  obtain ⟨w3, hw3⟩ : ∃ w3, w3 = w2.setCell ⟨db, 2, none⟩ (.slice a2 n2 c2) := ⟨_, rfl⟩
  have HW3 := Lib.hid hw3
  rw [← hw3] at P K3
  have F3 : w3.heap[fb]? = some (.cells #[.int .i64 f] 3 (0, 0)) := by rw [hw3, heap_set_other hne]; exact F2
  have x4 : w3.cell? ⟨db, 4, none⟩ = some (.map (some mb)) := by simp [World.cell?, P.out.1]
  have xf : w3.cell? ⟨fb, 0, none⟩ = some (.int .i64 f) := by simp [World.cell?, F3]
  clear o2 k2 hv2 hcase hn2 hk2 hnd e2 F2 F3 hw3 c0
  rcases HC.out with ⟨i, x, hx, hxf, rfl, rfl⟩ | ⟨hno, rfl, rfl⟩
  · have hmem : x ∈ s.logs := List.mem_of_getElem? hx
    have hz0 := Lib.hid (show zz = 0 by rw [HZZ.out, ← hxf, if_pos hmem])
    have HD := Lib.hid (drop_I hnod.out hx)
    have HX := Lib.hid hxf
    obtain ⟨l, hl, hp⟩ := P.out.2.2.2.2
    have HL := Lib.hid (And.intro hl hp)
    have HK := Lib.hid (show keyOf Tryz.prog 3 (.int .i64 f) = some (.int .i64 f) from keyOf_int_mk Tryz.underlying3 hw.out)
    have x4' : ∀ q : Seen w3, q.val.cell? ⟨db, 4, none⟩ = some (.map (some mb)) := fun q => by rw [q.below.cell (cell_block x4)]; exact x4
    have xf' : ∀ q : Seen w3, q.val.cell? ⟨fb, 0, none⟩ = some (.int .i64 f) := fun q => by rw [q.below.cell (cell_block xf)]; exact xf
    clear hmem hx hxf hl hp x4 xf HZZ HC
    go_wp2_with fail
    rw [← HW3.out]
    refine wp_region_seen_tail 5 (by kernel_rfl) (by kernel_rfl) ?_
    simp only [List.take_succ_cons, List.take_zero, List.drop_succ_cons, List.drop_zero]
    repeat go_big_quiet_step (fail)
    refine wpQuiet_nil ?_
    rintro _ ⟨m1, rfl⟩
    have hown : m1.val.ownsMap Tryz.prog 3 (unitElem (H := Unit)) mb s.files.length (.map l) := by
      obtain ⟨x, c, hb, r⟩ := HL.out.1
      exact ⟨x, c, (m1.below.block mb (heap_lt hb)).trans hb, r⟩
    have HOW := Lib.hid hown
    clear hown x4' xf'
    go_wp2_with (at_delete; refine wpList_delete_own _ rfl _ _ 81 3 rfl 138 keyedI Tryz.underlying81 _ mb _ _ rfl HOW.out _ _ rfl HK.out ?_)
    intro w4 hown4 hturn4
    have S4 := Lib.hid (set_del HL.out.2 hown4)
    have T4 := Lib.hid hturn4
    clear hown4 hturn4
    go_wp2
    go_ret
    refine ⟨by rw [hz0.out]; rfl, (K3.out.trans (m1.below.mono (Nat.le_trans HB.out K3.out.size))).grown (turned_meta T4.out) (Nat.le_trans (Nat.le_trans HB.out K3.out.size) m1.below.size) (fun j hj => by injection hj with hj; rw [← hj]; exact D1.out.mlo), fun _ => ?_⟩
    have d0 : Dr0 B w3 db { s with logs := s.logs.eraseIdx i } s.files tv sv (.slice a2 n2 c2) mb := ⟨P.out.1, D1.out.lo, P.out.2.1, P.out.2.2.1, P.out.2.2.2.1, P.out.2.2.2.2, D1.out.mlo⟩
    have d1 : Dr0 B m1.val db { s with logs := s.logs.eraseIdx i } s.files tv sv (.slice a2 n2 c2) mb := by
      refine d0.turn (d0.set.kept (m1.below.block mb ?_)) fun j hj _ => m1.below.block j hj
      obtain ⟨x, c, e⟩ := d0.set.obj
      exact heap_lt e
    have d2 := d1.turn S4.out fun j hj hne => turned_other' T4.out j hne
    rw [show s.logs.filter (fun t => decide (t ≠ f)) = s.logs.eraseIdx i by rw [← HX.out]; exact HD.out.1]
    exact ⟨_, _, _, mb, Dr.of0 d2 (by rw [← HX.out, HD.out.2])⟩
  · have hmem : ¬ f ∈ s.logs := fun hm => hno f hm rfl
    have hz9 := Lib.hid (show zz = 9 by rw [HZZ.out, if_neg hmem])
    have HX := Lib.hid hno
    clear hno hmem HC x4 xf HZZ
    go_wp2
    go_ret
    rw [hz9.out]
    exact do_bad (by rw [← HW3.out]; exact K3.out) (by omega)
end Go.Proofs.YtljjielekgilpaaGreat
/- An edit done by a draft. -/
set_option linter.unusedVariables false
set_option maxRecDepth 100000
namespace Go.Proofs.YtljjielekgilpaaGreat
open Go.RowKit Go.Maps Go.WideShapes Go.ChangeMaps
variable {B db mb : Nat} {w : World} {s : St} {tv sv lv : Value}

def nextE (s : St) (f : Int) : Int := if f < 1 ∨ f < s.next then 1 else 0
set_option maxHeartbeats 2000000 in
theorem set_next (h : Hid (Dr B w db s tv sv lv mb)) (f : Int) :
    Calls Tryz.prog 122 #[.pointer (some ⟨db, 0, none⟩), .int .i64 f] w (DoPost B db w (nextE s f) { s with next := f }) := by
  obtain ⟨z, hz⟩ : ∃ z, z = nextE s f := ⟨_, rfl⟩
  rw [← hz]
  have HZ := Lib.hid hz
  clear hz
  obtain ⟨m, hm⟩ : ∃ m, m = s.next := ⟨_, rfl⟩
  have HM := Lib.hid hm
  have HB := Lib.hid (show B ≤ w.heap.size by have := h.out.lo; have := h.out.lt; omega)
  have c3 : w.cell? ⟨db, 3, none⟩ = some (.int .i64 m) := by rw [hm]; exact h.out.cell 3
  have f3 : w.frozen? ⟨db, 3, none⟩ = false := h.out.free 3
  clear hm
  by_cases h1 : f < 1
  · have hv := Lib.hid (show z = 1 by rw [HZ.out]; unfold nextE; rw [if_pos (.inl h1)])
    clear HZ
    go_enter Tryz.func122, Tryz.ntmps122
    go_wp2
    go_ret
    rw [hv.out]
    exact do_bad (Below.refl _ _) (by omega)
  by_cases h2 : f < m
  · have hv := Lib.hid (show z = 1 by rw [HZ.out]; unfold nextE; rw [if_pos (.inr (by rw [← HM.out]; exact h2))])
    clear HZ
    go_enter Tryz.func122, Tryz.ntmps122
    go_wp2
    go_ret
    rw [hv.out]
    exact do_bad (Below.refl _ _) (by omega)
  have hv := Lib.hid (show z = 0 by rw [HZ.out]; unfold nextE; rw [if_neg (by rw [← HM.out]; omega)])
  clear HZ
  go_enter Tryz.func122, Tryz.ntmps122
  go_wp2
  go_ret
  rw [hv.out]
  have ne : ∀ {v : Value}, (∀ j, v.ownBlock = some j → j ≠ db) → ∀ j, v.ownBlock = some j → (w.setCell ⟨db, 3, none⟩ (.int .i64 f)).heap[j]? = w.heap[j]? := fun hv j hj => heap_set_other (hv j hj) _
  refine ⟨rfl, (Below.refl B w).setCell (p := ⟨db, 3, none⟩) h.out.lo _, fun _ => ⟨tv, sv, lv, mb, by rw [heap_set h.out.obj]; simp, h.out.lo, OffRow.kept h.out.tabs (ne fun j hj => (h.out.nt hj).1), OffRow.kept h.out.stos (ne fun j hj => (h.out.ns hj).1), OffRow.kept h.out.logs (ne fun j hj => (h.out.nl hj).1), h.out.set.kept (heap_set_other h.out.nmb _), h.out.mlo⟩⟩

theorem oneE1 {s : St} {x : Ed} (h : x.kind = 1) : oneE s x = tabE s x.tab := by
  unfold oneE tabE mayE
  rw [if_pos h]
  by_cases hb : badTab x = true ∨ x.file < 1
  · rw [if_pos hb]
    by_cases ht : tabBad x.tab
    · rw [if_pos ht]
    · rw [if_neg ht]
      have hf : x.tab.file < 1 := by
        rcases hb with a | a
        · exfalso; apply ht
          unfold badTab at a
          simp only [Bool.or_eq_true, decide_eq_true_eq] at a
          unfold tabBad
          rcases a with ((a | a) | a) | a
          · exact .inl a
          · exact .inr (.inl a)
          · exact .inr (.inr (.inl a))
          · exact .inr (.inr (.inr a))
        · exact a
      rw [if_pos hf, if_neg (by omega)]
  · rw [if_neg hb]
    have ht : ¬ tabBad x.tab := fun e => hb (.inl (by
      unfold tabBad at e
      unfold badTab
      simp only [Bool.or_eq_true, decide_eq_true_eq]
      rcases e with a | a | a | a
      · exact .inl (.inl (.inl a))
      · exact .inl (.inl (.inr a))
      · exact .inl (.inr a)
      · exact .inr a))
    have hf : ¬ x.tab.file < 1 := fun e => hb (.inr e)
    rw [if_neg ht, if_neg hf]
    show _ = if (if x.file ∈ s.files then (10 : Int) else 0) = 0 then _ else _
    by_cases hm : x.file ∈ s.files
    · rw [if_pos hm, if_pos hm, if_neg (by omega)]
      show (10 : Int) = if x.file ∈ s.files then 10 else 0
      rw [if_pos hm]
    · rw [if_neg hm, if_neg hm, if_pos rfl]
      rfl
theorem oneE3 {s : St} {x : Ed} (h : x.kind = 3) : oneE s x = stoE s x.sto := by
  unfold oneE stoE mayE
  rw [if_neg (by omega), if_neg (by omega), if_pos h]
  show _ = if x.lev = 0 ∨ x.lev = 1 then (if x.file < 1 then _ else if x.file ∈ s.files then _ else _) else _
  by_cases a : x.lev = 0 ∨ x.lev = 1
  · rw [if_pos a]
    by_cases b : x.file < 1
    · rw [if_pos (.inl b), if_pos b]
    · rw [if_neg (by simp [b, a]), if_neg b]
  · rw [if_neg a, if_pos (.inr a)]
/-- A state that is small. -/
def St.small (s : St) (N : Nat) : Prop := s.tabs.length + s.stos.length + s.logs.length ≤ N
theorem files_len (s : St) : s.files.length = s.tabs.length + s.stos.length + s.logs.length := by unfold St.files; simp; omega
def Ed.fit (x : Ed) : Prop := -9223372036854775808 ≤ x.file ∧ x.file ≤ 9223372036854775807

set_option maxHeartbeats 4000000 in
theorem draft_do (h : Hid (Dr B w db s tv sv lv mb)) (hok : Hid s.Ok) (x : Ed) (hf : x.fit) (hs : Hid (s.small 1000000000)) :
    Calls Tryz.prog 82 #[.pointer (some ⟨db, 0, none⟩), .agg #[.int .i64 x.kind, .int .i64 x.file, .int .i64 x.lev, .int .i64 x.cnt, .string (bs x.low), .string (bs x.high)]] w (DoPost B db w (oneE s x) (oneS s x)) := by
  have HB := Lib.hid (show B ≤ w.heap.size by have := h.out.lo; have := h.out.lt; omega)
  have hsm := hs.out
  unfold St.small at hsm
  have hfl := files_len s
  obtain ⟨w1, hw1⟩ : ∃ w1, w.alloc (.cells #[.int .i64 x.kind, .int .i64 x.file, .int .i64 x.lev, .int .i64 x.cnt, .string (bs x.low), .string (bs x.high)] 44) = w1 := ⟨_, rfl⟩
  obtain ⟨xb, hxb⟩ : ∃ xb, xb = w.heap.size := ⟨_, rfl⟩
  have HXB := Lib.hid hxb
  have K1 := Lib.hid (show Below w.heap.size w w1 by rw [← hw1]; exact (Below.refl _ _).alloc (Nat.le_refl _) _)
  have D1 := Lib.hid (h.out.below K1.out)
  have X1 := Lib.hid (show w1.heap[xb]? = some (.cells #[.int .i64 x.kind, .int .i64 x.file, .int .i64 x.lev, .int .i64 x.cnt, .string (bs x.low), .string (bs x.high)] 44 (0, 0)) by rw [← hw1, hxb]; exact heap_new w _)
  have HW1 := Lib.hid hw1
  have hk1 : Below B w w1 := K1.out.mono HB.out
  have post : ∀ {z : Int} {s' : St} {e : Ending} {w' : World}, DoPost B db w1 z s' e w' → DoPost B db w z s' e w' := fun hp => ⟨hp.1, hk1.trans hp.2.1, hp.2.2⟩
  have POST := Lib.hid (fun (z : Int) (s' : St) (e : Ending) (w' : World) (hp : DoPost B db w1 z s' e w') => post hp)
  have x0 : w1.cell? ⟨xb, 0, none⟩ = some (.int .i64 x.kind) := by simp [World.cell?, X1.out]
  have x1 : w1.cell? ⟨xb, 1, none⟩ = some (.int .i64 x.file) := by simp [World.cell?, X1.out]
  have x2 : w1.cell? ⟨xb, 2, none⟩ = some (.int .i64 x.lev) := by simp [World.cell?, X1.out]
  have x3 : w1.cell? ⟨xb, 3, none⟩ = some (.int .i64 x.cnt) := by simp [World.cell?, X1.out]
  have x4 : w1.cell? ⟨xb, 4, none⟩ = some (.string (bs x.low)) := by simp [World.cell?, X1.out]
  have x5 : w1.cell? ⟨xb, 5, none⟩ = some (.string (bs x.high)) := by simp [World.cell?, X1.out]
  have hwf : Hid ((Lit.int .i64 x.file).wf = true) := Lib.hid (wf_i64 hf.1 hf.2)
  clear hw1 hxb post hk1
  obtain ⟨k, hk⟩ : ∃ k, k = x.kind := ⟨_, rfl⟩
  rw [← hk] at x0 HW1
  by_cases k1 : k = 1
  · have HP := Lib.hid (add_table D1 hok x.tab hf.2 (Lib.hid ⟨by omega, by omega⟩))
    have HE := Lib.hid (show oneE s x = tabE s x.tab ∧ oneS s x = { s with tabs := insT x.tab s.tabs } from ⟨oneE1 (by omega), by unfold oneS; rw [if_pos (by omega)]⟩)
    obtain ⟨zz, hzz⟩ : ∃ zz : Int, zz = tabE s x.tab := ⟨_, rfl⟩
    obtain ⟨ss, hss⟩ : ∃ ss : St, ss = { s with tabs := insT x.tab s.tabs } := ⟨_, rfl⟩
    rw [HE.out.1, HE.out.2, ← hzz, ← hss]
    rw [← hzz, ← hss] at HP
    clear hzz hss
    have HKK := Lib.hid hk
    clear hfl hsm hk
    subst k1
    show Calls Tryz.prog 82 #[.pointer (some ⟨db, 0, none⟩), .agg #[.int .i64 x.kind, .int .i64 x.file, .int .i64 x.lev, .int .i64 x.cnt, .string (bs x.low), .string (bs x.high)]] w _
    go_enter Tryz.func82, Tryz.ntmps82
    go_upto_region 1 with (fail)
    rw [← HKK.out, HW1.out, ← HXB.out]
    go_wp2_with fail
    refine HP.out.mono ?_
    rintro e w2 hp
    obtain ⟨rfl, hp2⟩ := id hp
    have HPP := Lib.hid (POST.out _ _ _ _ hp)
    clear hp hp2
    go_wp2
    go_ret
    exact HPP.out
  by_cases k2 : k = 2
  · have HP := Lib.hid (draft_dropT D1 x.file hwf (Lib.hid hok.out.nod) (by omega))
    have HE := Lib.hid (show oneE s x = (if x.file ∈ s.tabs.map (·.file) then 0 else 9) ∧ oneS s x = { s with tabs := s.tabs.filter fun t => decide (t.file ≠ x.file) } from ⟨by unfold oneE; rw [if_neg (by omega), if_pos (by omega)], by unfold oneS; rw [if_neg (by omega), if_pos (by omega)]⟩)
    obtain ⟨zz, hzz⟩ : ∃ zz : Int, zz = (if x.file ∈ s.tabs.map (·.file) then 0 else 9) := ⟨_, rfl⟩
    obtain ⟨ss, hss⟩ : ∃ ss : St, ss = { s with tabs := s.tabs.filter fun t => decide (t.file ≠ x.file) } := ⟨_, rfl⟩
    rw [HE.out.1, HE.out.2, ← hzz, ← hss]
    rw [← hzz, ← hss] at HP
    clear hzz hss
    have HKK := Lib.hid hk
    clear hfl hsm hk
    subst k2
    show Calls Tryz.prog 82 #[.pointer (some ⟨db, 0, none⟩), .agg #[.int .i64 x.kind, .int .i64 x.file, .int .i64 x.lev, .int .i64 x.cnt, .string (bs x.low), .string (bs x.high)]] w _
    go_enter Tryz.func82, Tryz.ntmps82
    go_upto_region 1 with (fail)
    rw [← HKK.out, HW1.out, ← HXB.out]
    go_wp2_with fail
    refine HP.out.mono ?_
    rintro e w2 hp
    obtain ⟨rfl, hp2⟩ := id hp
    have HPP := Lib.hid (POST.out _ _ _ _ hp)
    clear hp hp2
    go_wp2
    go_ret
    exact HPP.out
  by_cases k3 : k = 3
  · have HP := Lib.hid (add_store D1 hok x.sto hf.2 (Lib.hid ⟨by omega, by omega⟩))
    have HE := Lib.hid (show oneE s x = stoE s x.sto ∧ oneS s x = { s with stos := insS x.sto s.stos } from ⟨oneE3 (by omega), by unfold oneS; rw [if_neg (by omega), if_neg (by omega), if_pos (by omega)]⟩)
    obtain ⟨zz, hzz⟩ : ∃ zz : Int, zz = stoE s x.sto := ⟨_, rfl⟩
    obtain ⟨ss, hss⟩ : ∃ ss : St, ss = { s with stos := insS x.sto s.stos } := ⟨_, rfl⟩
    rw [HE.out.1, HE.out.2, ← hzz, ← hss]
    rw [← hzz, ← hss] at HP
    clear hzz hss
    have HKK := Lib.hid hk
    clear hfl hsm hk
    subst k3
    show Calls Tryz.prog 82 #[.pointer (some ⟨db, 0, none⟩), .agg #[.int .i64 x.kind, .int .i64 x.file, .int .i64 x.lev, .int .i64 x.cnt, .string (bs x.low), .string (bs x.high)]] w _
    go_enter Tryz.func82, Tryz.ntmps82
    go_upto_region 1 with (fail)
    rw [← HKK.out, HW1.out, ← HXB.out]
    go_wp2_with fail
    refine HP.out.mono ?_
    rintro e w2 hp
    obtain ⟨rfl, hp2⟩ := id hp
    have HPP := Lib.hid (POST.out _ _ _ _ hp)
    clear hp hp2
    go_wp2
    go_ret
    exact HPP.out
  by_cases k4 : k = 4
  · have HP := Lib.hid (draft_dropS D1 x.file hwf (Lib.hid hok.out.nod) (by omega))
    have HE := Lib.hid (show oneE s x = (if x.file ∈ s.stos.map (·.file) then 0 else 9) ∧ oneS s x = { s with stos := s.stos.filter fun t => decide (t.file ≠ x.file) } from ⟨by unfold oneE; rw [if_neg (by omega), if_neg (by omega), if_neg (by omega), if_pos (by omega)], by unfold oneS; rw [if_neg (by omega), if_neg (by omega), if_neg (by omega), if_pos (by omega)]⟩)
    obtain ⟨zz, hzz⟩ : ∃ zz : Int, zz = (if x.file ∈ s.stos.map (·.file) then 0 else 9) := ⟨_, rfl⟩
    obtain ⟨ss, hss⟩ : ∃ ss : St, ss = { s with stos := s.stos.filter fun t => decide (t.file ≠ x.file) } := ⟨_, rfl⟩
    rw [HE.out.1, HE.out.2, ← hzz, ← hss]
    rw [← hzz, ← hss] at HP
    clear hzz hss
    have HKK := Lib.hid hk
    clear hfl hsm hk
    subst k4
    show Calls Tryz.prog 82 #[.pointer (some ⟨db, 0, none⟩), .agg #[.int .i64 x.kind, .int .i64 x.file, .int .i64 x.lev, .int .i64 x.cnt, .string (bs x.low), .string (bs x.high)]] w _
    go_enter Tryz.func82, Tryz.ntmps82
    go_upto_region 1 with (fail)
    rw [← HKK.out, HW1.out, ← HXB.out]
    go_wp2_with fail
    refine HP.out.mono ?_
    rintro e w2 hp
    obtain ⟨rfl, hp2⟩ := id hp
    have HPP := Lib.hid (POST.out _ _ _ _ hp)
    clear hp hp2
    go_wp2
    go_ret
    exact HPP.out
  by_cases k5 : k = 5
  · have HP := Lib.hid (add_log D1 x.file hf.2 (Lib.hid ⟨by omega, by omega⟩))
    have HE := Lib.hid (show oneE s x = mayE s x.file ∧ oneS s x = { s with logs := s.logs ++ [x.file] } from ⟨by unfold oneE mayE; rw [if_neg (by omega), if_neg (by omega), if_neg (by omega), if_neg (by omega), if_pos (by omega)], by unfold oneS; rw [if_neg (by omega), if_neg (by omega), if_neg (by omega), if_neg (by omega), if_pos (by omega)]⟩)
    obtain ⟨zz, hzz⟩ : ∃ zz : Int, zz = mayE s x.file := ⟨_, rfl⟩
    obtain ⟨ss, hss⟩ : ∃ ss : St, ss = { s with logs := s.logs ++ [x.file] } := ⟨_, rfl⟩
    rw [HE.out.1, HE.out.2, ← hzz, ← hss]
    rw [← hzz, ← hss] at HP
    clear hzz hss
    have HKK := Lib.hid hk
    clear hfl hsm hk
    subst k5
    show Calls Tryz.prog 82 #[.pointer (some ⟨db, 0, none⟩), .agg #[.int .i64 x.kind, .int .i64 x.file, .int .i64 x.lev, .int .i64 x.cnt, .string (bs x.low), .string (bs x.high)]] w _
    go_enter Tryz.func82, Tryz.ntmps82
    go_upto_region 1 with (fail)
    rw [← HKK.out, HW1.out, ← HXB.out]
    go_wp2_with fail
    refine HP.out.mono ?_
    rintro e w2 hp
    obtain ⟨rfl, hp2⟩ := id hp
    have HPP := Lib.hid (POST.out _ _ _ _ hp)
    clear hp hp2
    go_wp2
    go_ret
    exact HPP.out
  by_cases k6 : k = 6
  · have HP := Lib.hid (draft_dropI D1 x.file hwf (Lib.hid hok.out.nod) (by omega))
    have HE := Lib.hid (show oneE s x = (if x.file ∈ s.logs then 0 else 9) ∧ oneS s x = { s with logs := s.logs.filter fun t => decide (t ≠ x.file) } from ⟨by unfold oneE; rw [if_neg (by omega), if_neg (by omega), if_neg (by omega), if_neg (by omega), if_neg (by omega), if_pos (by omega)], by unfold oneS; rw [if_neg (by omega), if_neg (by omega), if_neg (by omega), if_neg (by omega), if_neg (by omega), if_pos (by omega)]⟩)
    obtain ⟨zz, hzz⟩ : ∃ zz : Int, zz = (if x.file ∈ s.logs then 0 else 9) := ⟨_, rfl⟩
    obtain ⟨ss, hss⟩ : ∃ ss : St, ss = { s with logs := s.logs.filter fun t => decide (t ≠ x.file) } := ⟨_, rfl⟩
    rw [HE.out.1, HE.out.2, ← hzz, ← hss]
    rw [← hzz, ← hss] at HP
    clear hzz hss
    have HKK := Lib.hid hk
    clear hfl hsm hk
    subst k6
    show Calls Tryz.prog 82 #[.pointer (some ⟨db, 0, none⟩), .agg #[.int .i64 x.kind, .int .i64 x.file, .int .i64 x.lev, .int .i64 x.cnt, .string (bs x.low), .string (bs x.high)]] w _
    go_enter Tryz.func82, Tryz.ntmps82
    go_upto_region 1 with (fail)
    rw [← HKK.out, HW1.out, ← HXB.out]
    go_wp2_with fail
    refine HP.out.mono ?_
    rintro e w2 hp
    obtain ⟨rfl, hp2⟩ := id hp
    have HPP := Lib.hid (POST.out _ _ _ _ hp)
    clear hp hp2
    go_wp2
    go_ret
    exact HPP.out
  by_cases k7 : k = 7
  · have HP := Lib.hid (set_next D1 x.file)
    have HE := Lib.hid (show oneE s x = nextE s x.file ∧ oneS s x = { s with next := x.file } from ⟨by unfold oneE nextE; rw [if_neg (by omega), if_neg (by omega), if_neg (by omega), if_neg (by omega), if_neg (by omega), if_neg (by omega), if_pos (by omega)], by unfold oneS; rw [if_neg (by omega), if_neg (by omega), if_neg (by omega), if_neg (by omega), if_neg (by omega), if_neg (by omega)]⟩)
    obtain ⟨zz, hzz⟩ : ∃ zz : Int, zz = nextE s x.file := ⟨_, rfl⟩
    obtain ⟨ss, hss⟩ : ∃ ss : St, ss = { s with next := x.file } := ⟨_, rfl⟩
    rw [HE.out.1, HE.out.2, ← hzz, ← hss]
    rw [← hzz, ← hss] at HP
    clear hzz hss
    have HKK := Lib.hid hk
    clear hfl hsm hk
    subst k7
    show Calls Tryz.prog 82 #[.pointer (some ⟨db, 0, none⟩), .agg #[.int .i64 x.kind, .int .i64 x.file, .int .i64 x.lev, .int .i64 x.cnt, .string (bs x.low), .string (bs x.high)]] w _
    go_enter Tryz.func82, Tryz.ntmps82
    go_upto_region 1 with (fail)
    rw [← HKK.out, HW1.out, ← HXB.out]
    go_wp2_with fail
    refine HP.out.mono ?_
    rintro e w2 hp
    obtain ⟨rfl, hp2⟩ := id hp
    have HPP := Lib.hid (POST.out _ _ _ _ hp)
    clear hp hp2
    go_wp2
    go_ret
    exact HPP.out
  have hv := Lib.hid (show oneE s x = 1 by unfold oneE; rw [if_neg (by omega), if_neg (by omega), if_neg (by omega), if_neg (by omega), if_neg (by omega), if_neg (by omega), if_neg (by omega)])
  rw [hv.out]
  have HKK := Lib.hid hk
  clear hfl hsm hk
  go_enter Tryz.func82, Tryz.ntmps82
  go_upto_region 1 with (fail)
  rw [← HKK.out, HW1.out, ← HXB.out]
  go_wp2
  go_ret
  exact do_bad (K1.out.mono HB.out) (by omega)
end Go.Proofs.YtljjielekgilpaaGreat
/- Arrays by value, whole loads and stores, regions that draw their order: what all layers share. -/
set_option linter.unusedVariables false
set_option maxRecDepth 100000
namespace Go.Proofs.YtljjielekgilpaaGreat
open Go.RowKit

theorem Below.frozen {B : Nat} {w w' : World} (k : Below B w w') {b : Nat} (hb : b < B) (j : Nat) : w'.frozen? ⟨b, j, none⟩ = w.frozen? ⟨b, j, none⟩ := by
  unfold World.frozen?
  rw [k.block b hb]
theorem below_setCells {B b : Nat} {a : World} (hB : B ≤ b) : ∀ (vs : List Value) (o : Nat) {w : World}, Below B a w → Below B a (w.setCells b o vs)
  | [], _, _, h => h
  | v :: vs, o, _, h => below_setCells hB vs (o + 1) (h.setCell (p := ⟨b, o, none⟩) hB v)
theorem results_cell1 {fn : Func} {p : Tmp} {ty : TypeId} (h : fn.results = #[.cell p ty]) (tmps : Array Value) (P : Program) (w : World) (b o : Nat) (cs : List Value) (d : TypeDesc) (hp : tmps.getD p undef = .pointer (some ⟨b, o, none⟩)) (hc : w.rangeAt b o cs)
    (hu : P.underlying ty = some d) (hd : d.isRow = true) (hi : (P.info? ty).map (·.size) = some cs.length) :
    (results fn tmps).run P w = .ok (.agg cs.toArray) w := by
  have hl := run_loadVar_mid w b o ty cs d hc hu hd hi
  have hp' : tmps[p]?.getD undef = .pointer (some ⟨b, o, none⟩) := by simpa using hp
  simp only [results, h]
  simp [Sem.run_bind, Result.andThen, hp', asAddr, hl]
/-- An array by value, at a place within it. -/
theorem run_index_arr (t e : TypeId) (n : Nat) (cs : Array Value) (i : Nat) (v : Value) (hu : Tryz.prog.underlying t = some (.array n e)) (ha : ∀ w, (isAgg e).run Tryz.prog w = .ok false w) (hs : ∀ w, (Go.sizeOf e).run Tryz.prog w = .ok 1 w) (hi : i < n) (hc : cs[i]? = some v) (w : World) :
    (Instr.index t (.agg cs) (.int .i64 (i : Int))).run Tryz.prog w = .ok v w := by
  have h1 : (0 : Int) ≤ (i : Int) ∧ (i : Int) < (n : Int) := by omega
  simp [Instr.index, run_underlying hu, asIntOf, h1, part, ha, hs, hc, go_sem]
  omega
theorem rangeAt_below {b o B : Nat} {cs : List Value} {w w' : World} (h : w.rangeAt b o cs) (k : Below B w w') (hb : b < B) : w'.rangeAt b o cs := by
  intro j v hj
  rw [k.cell hb]
  exact h j v hj

theorem results_arr {fn : Func} {p : Tmp} {ty : TypeId} (h : fn.results = #[.cell p ty]) (tmps : Array Value) (P : Program) (w : World) (b : Nat) (cs : Array Value) (d : TypeDesc) (hp : tmps.getD p undef = .pointer (some ⟨b, 0, none⟩)) (hc : w.there b 0 cs.size)
    (hu : P.underlying ty = some d) (hd : d.isRow = true) (hi : (P.info? ty).map (·.size) = some cs.toList.length) :
    (results fn tmps).run P (w.setCells b 0 cs.toList) = .ok (.agg cs) (w.setCells b 0 cs.toList) := by
  have := results_cell1 h tmps P (w.setCells b 0 cs.toList) b 0 cs.toList d hp (World.rangeAt_setCells_same w b 0 _ (by simpa using hc)) hu hd hi
  simpa using this

theorem seen_of {P : Program} {F : FuncId} {args : Array Value} {r : Value} (h : ∀ w, Calls P F args w fun e w' => e = .returned r ∧ Below w.heap.size w w') (W : World) (n : Seen W) : Calls P F args n.val fun e w'' => e = .returned r ∧ ∃ m : Seen W, w'' = m.val :=
  (h n.val).mono fun _ w'' ⟨h1, h2⟩ => ⟨h1, ⟨⟨w'', n.below.trans (h2.mono n.below.size)⟩, rfl⟩⟩
theorem held_of {P : Program} {F : FuncId} {args : Array Value} {r : Value} (h : ∀ w, Calls P F args w fun e w' => e = .returned r ∧ Below w.heap.size w w') (W w : World) (k : Below W.heap.size W w) : Calls P F args w fun e w'' => e = .returned r ∧ Below W.heap.size W w'' :=
  (h w).mono fun _ w'' ⟨h1, h2⟩ => ⟨h1, k.trans (h2.mono k.size)⟩
/-- A whole array that is loaded in a region that writes nothing that was there. -/
theorem quiet_load_mid {P : Program} {o : Oper} {a : Act} {C : World → Prop} {K : Act → Prop} (ty : TypeId) (x : Operand) (ho : o.op = .load ty x) (b off : Nat) (hx : a.eval x = .pointer (some ⟨b, off, none⟩)) (cs : List Value) (d : TypeDesc) (hS : ∀ w, C w → w.rangeAt b off cs)
    (hu : P.underlying ty = some d) (hd : d.isRow = true) (hi : (P.info? ty).map (·.size) = some cs.length) (hk : K (a.put o.dst (.agg cs.toArray))) : o.quiet P a C K :=
  ⟨_, fun w hw => by
    unfold Oper.quietAt execOp
    simp only [ho, hx, Instr.loadAt, Instr.sureAddr, Sem.run_bind, Sem.run_pure, Result.andThen_ok, run_loadVar_mid w b off ty cs d (hS w hw) hu hd hi]
    exact ⟨rfl, rfl⟩, hk⟩
theorem quiet_load_arr {P : Program} {o : Oper} {a : Act} {C : World → Prop} {K : Act → Prop} (ty : TypeId) (x : Operand) (ho : o.op = .load ty x) (b off : Nat) (hx : a.eval x = .pointer (some ⟨b, off, none⟩)) (cs : Array Value) (d : TypeDesc) (hS : ∀ w, C w → w.rangeAt b off cs.toList)
    (hu : P.underlying ty = some d) (hd : d.isRow = true) (hi : (P.info? ty).map (·.size) = some cs.toList.length) (hk : K (a.put o.dst (.agg cs))) : o.quiet P a C K :=
  quiet_load_mid ty x ho b off hx cs.toList d hS hu hd hi (by simpa using hk)
theorem seen_range {W W' : World} {b : Nat} {cs : List Value} (h : ∀ m, Below W.heap.size W m → m.rangeAt b 0 cs) (k : Below W.heap.size W W') : ∀ w, (∃ n : Seen W', w = n.val) → w.rangeAt b 0 cs := by
  rintro _ ⟨n, rfl⟩
  exact h n.val (k.trans (n.below.mono k.size))
/-- A whole array that is loaded behind a guard. -/
theorem wpList_load_arr {P : Program} {ops : Array Oper} {rest : List Oper} {op : Oper} {a : Act} {w : World} {Q : Exit → Act → World → Prop} (hw : Region.wanted op (yielded ops a.tmps) = true) (ty : TypeId) (x : Operand) (ho : op.op = .load ty x)
    (b o : Nat) (hx : a.eval x = .pointer (some ⟨b, o, none⟩)) (cs : Array Value) (d : TypeDesc) (hc : w.rangeAt b o cs.toList)
    (hu : P.underlying ty = some d) (hd : d.isRow = true) (hi : (P.info? ty).map (·.size) = some cs.toList.length)
    (h : wpList P ops Q rest (a.put op.dst (.agg cs)) w) : wpList P ops Q (op :: rest) a w :=
  wpList_step fun _ hK => by
    rw [if_pos hw]
    exact wp_load_mid ty x ho b o hx cs.toList d hc hu hd hi (hK _ _ (by simpa using h))
/-- A region that draws its order, gone through by hand: an operation that may come first, its slot named. -/
theorem held_take {P : Program} {md : Region.Mode} {ops : Array Oper} {Q : Exit → Act → World → Prop} {S : World → Prop} {fuel : Nat} {listed : Array Bool} {a : Act} {w : World} (i d : Nat) {oi : Oper} {v : Value} (hi : ops[i]? = some oi) (hd : oi.dst = some d)
    (hs : Region.noSelect ops = true) (hf : Region.free md ops listed i = true) (hr : (Region.ready md ops listed).contains i = true)
    (hQ : ∀ c a w, Q (.panic c) (a.put oi.dst v) w → Q (.panic c) a w) (hy : YieldsIf P ops S oi v a) (hS : S w)
    (h : wpAnyH P md ops Q S fuel (listed.setIfInBounds i true) (a.put (some d) v) w) : wpAnyH P md ops Q S (fuel + 1) listed a w :=
  wpAnyH_take hi hs hf hr hQ hy hS (by rw [hd]; exact h)
theorem seen_at {W : World} {b : Nat} {cs : List Value} (h : W.rangeAt b 0 cs) (hb : b < W.heap.size) : ∀ w, (∃ n : Seen W, w = n.val) → w.rangeAt b 0 cs := by
  rintro _ ⟨n, rfl⟩
  exact rangeAt_below h n.below hb
end Go.Proofs.YtljjielekgilpaaGreat
/- Lists sorted. -/
set_option linter.unusedVariables false
set_option maxRecDepth 100000
namespace Go.Proofs.YtljjielekgilpaaGreat
open Go.RowKit
open Go.Sort (grow SWO PermIn SortedIn HoldsK Holds putRow putRowK flatK)

/-- A list that rises strictly is what sorting any permutation of it gives. -/
theorem sorted_same {α : Type} {lt : α → α → Bool} {L M : List α} (hp : M.Perm L) (hL : L.Pairwise fun a b => lt a b = true) (hM : M.Pairwise fun a b => lt b a = false) (hasym : ∀ a b, lt a b = true → lt b a = false) : M = L := by
  refine List.Perm.eq_of_pairwise (le := fun a b => lt b a = false) ?_ hM ?_ hp
  · intro a b ha hb h1 h2
    have ha' := hp.mem_iff.1 ha
    obtain ⟨i, hi, e1⟩ := List.mem_iff_getElem.1 ha'
    obtain ⟨j, hj, e2⟩ := List.mem_iff_getElem.1 hb
    rcases Nat.lt_trichotomy i j with h | h | h
    · have := List.pairwise_iff_getElem.1 hL i j hi hj h
      rw [e1, e2] at this
      rw [this] at h2; cases h2
    · subst h; rw [← e1, ← e2]
    · have := List.pairwise_iff_getElem.1 hL j i hj hi h
      rw [e1, e2] at this
      rw [this] at h1; cases h1
  · exact hL.imp fun h => hasym _ _ h
theorem flatK_flat {α : Type} [Inhabited α] {enc : α → List Value} {k : Nat} (hk : ∀ x, (enc x).length = k) (h0 : 0 < k) {L : List α} {j : Nat} (hj : j < L.length * k) : (flat enc L)[j]? = some ((flatK enc k L.toArray)[j]!) := by
  have hq : j / k < L.length := (Nat.div_lt_iff_lt_mul h0).2 hj
  have hm : j % k < k := Nat.mod_lt _ h0
  have e := flat_at (enc := enc) hk (List.getElem?_eq_getElem hq) hm
  rw [show j / k * k + j % k = j by rw [Nat.mul_comm]; exact Nat.div_add_mod j k] at e
  rw [e, Go.Sort.get_flatK enc k L.toArray j (by simpa using hj)]
  have hl : j % k < (enc L[j / k]).length := by rw [hk]; exact hm
  rw [List.getElem?_eq_getElem hl]
  simp [hq, getElem!_pos, hl]
theorem sort_world {α : Type} [Inhabited α] {enc : α → List Value} {k g off n : Nat} {w : World} {d : Array α} {os : Array Obj} (h : HoldsK enc k w g off d) : Go.Proofs.sortWorldK enc k w g off n d os = grow (Sort.ahead w n) os := by
  unfold Go.Proofs.sortWorldK putRowK
  rw [Go.Sort.putRow_self _ _ _ _ _ (show Holds id (Sort.ahead w n) g off (flatK enc k d) from h)]
/-- Numbers sorted. -/
def sortI (L : List Int) : List Int := L.mergeSort fun x y => decide (x ≤ y)
set_option maxHeartbeats 1000000 in
theorem sort_I {B : Nat} {v : Value} {L : List Int} {w : World} (h : OwnI w B v L) (hn : L.length ≤ 1000000000) :
    Calls Tryz.prog 41 #[v] w fun e w' => e = .returned (.tuple #[]) ∧ w.grownBy w' v.ownBlock ∧ RdL (fun b => B ≤ b) w' v L.length (flat icell (sortI L)) := by
  have hperm : (sortI L).length = L.length := List.length_mergeSort L
  have hmx := OffRow.cap_le h
  rcases h.2 with ⟨rfl, h0⟩ | ⟨g, off, cap, cur, rfl, hB, hg, h1, h2, h3, h4⟩
  · obtain rfl : L = [] := List.eq_nil_of_length_eq_zero h0
    refine (AnyM.slices_Sort_int_none Tryz.sortI none 0 w).mono ?_
    rintro e w' ⟨rfl, rfl⟩
    exact ⟨rfl, ⟨rfl, rfl, rfl, Nat.le_refl _, fun _ _ _ => rfl⟩, by simpa [sortI, flat] using RdL.none' w' _⟩
  · have hH : Holds (Value.int .i64) w g off L.toArray := by
      intro j hj
      have hj' : j < L.length := by simpa using hj
      refine ⟨?_, by simp [World.frozen?, hg]⟩
      have := h4 j (by omega)
      rw [show j = j * 1 + 0 by omega, flat_at icell_len (List.getElem?_eq_getElem hj') (by omega)] at this
      simp [icell] at this
      simp [World.cell?, hg, this, hj']
    refine (AnyM.slices_Sort_int Tryz.sortI g off cap L w hH (heap_lt hg) (by omega)).mono ?_
    rintro e w' ⟨rfl, n, os, rfl⟩
    have hH2 : Holds (Value.int .i64) (grow (putRow (Value.int .i64) (Sort.ahead w n) g off (sortI L).toArray) os) g off (sortI L).toArray :=
      Go.Sort.holds_grow _ _ os g off _ (by simpa [Sort.ahead] using heap_lt hg) (Go.Sort.holds_putRow _ (Sort.ahead w n) g off L.toArray _ hH (by simp [hperm]))
    refine ⟨rfl, ⟨rfl, rfl, rfl, by simp [Sort.ahead, grow], fun k hk hne => ?_⟩, ⟨_, cap, rfl, hmx, .inr ⟨g, off, rfl, hB, ?_, fun j u hj => ?_⟩⟩⟩
    · have hgk : g ≠ k := fun e => hne (by rw [← e]; rfl)
      show ((putRow (Value.int .i64) (Sort.ahead w n) g off _).heap ++ os)[k]? = _
      rw [Array.getElem?_append_left (by simpa [Sort.ahead] using hk)]
      simp [putRow, Go.Sort.mapBlock, Sort.ahead, Array.getElem?_modify, hgk]
    · simp [grow, Sort.ahead]
      have := heap_lt hg
      omega
    · have hj' : j < (sortI L).length := by
        have := (List.getElem?_eq_some_iff.1 hj).1
        rw [flat_len icell_len] at this
        omega
      have e := (hH2 j (by simpa using hj')).1
      rw [show j = j * 1 + 0 by omega, flat_at icell_len (List.getElem?_eq_getElem hj') (by omega)] at hj
      simp [icell] at hj
      rw [← hj]
      have hj2 : j < (sortI L).toArray.size := by simpa using hj'
      rw [getElem!_pos (sortI L).toArray j hj2] at e
      simpa [sortI] using e
end Go.Proofs.YtljjielekgilpaaGreat
