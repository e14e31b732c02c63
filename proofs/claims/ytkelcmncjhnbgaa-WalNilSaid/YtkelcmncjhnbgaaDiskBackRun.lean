/- The power goes, and comes back: the call. -/
import Derived.Test.YtkelcmncjhnbgaaDiskBack
set_option linter.unusedVariables false
set_option maxRecDepth 100000
namespace Go.Proofs.Ytkelcmncjhnbgaa
open Go.RowKit Go.Maps

theorem disk_Back_nil (v : Value) (w : World) : Calls Try.prog 43 #[.pointer none, v] w fun e w' => e = .returned (.tuple #[]) ∧ w = w' := by
  go_enter Try.func43, Try.ntmps43
  go_wp2
  refine bodyPost_ret (results_none rfl _ _ _) rfl ?_
  exact ⟨rfl, rfl⟩
theorem cB_start {S : Nat → Prop} {w : World} {d mb : Nat} {es : List DE} {s : DS} {ks : List (Int × Int)} {left : Lit → Bool} (h : Lay S w d mb es s.dc) (hd : doneL ks left s.fs = []) :
    Lay S (w.setCells d 2 [.int .i64 0, .int .i64 0]) d mb es (cB s ks left) :=
  (h.setD 2 (.int .i64 0) { s.dc with u0 := 0 } rfl).setD 3 (.int .i64 0) (cB s ks left) (by unfold cB; rw [hd]; rfl)

theorem Lay.there2 {S : Nat → Prop} {w : World} {d mb : Nat} {es : List DE} {c : DC} (h : Lay S w d mb es c) : w.there d 2 (#[Value.int .i64 0, Value.int .i64 0] : Array Value).size := by
  intro j hj
  refine ⟨?_, h.free _⟩
  rw [h.cell]
  have hj' : j < 2 := hj
  match j, hj' with
  | 0, _ => rfl
  | 1, _ => rfl
theorem info54 : (Try.prog.info? 78).map (·.size) = some (#[Value.int .i64 0, Value.int .i64 0] : Array Value).size := by kernel_rfl
theorem one54 : (#[Value.int .i64 0, Value.int .i64 0] : Array Value).all (·.oneCell') = true := by kernel_rfl
theorem back_start {S : Nat → Prop} {w w1 w2 w3 : World} {d mb : Nat} {s : DS} {ks : List (Int × Int)} {es : List DE} {kb nk : Nat} {KD : DataW Unit} {l : List (Lit × DataW Unit)} (hl1 : Lay S w1 d mb es s.dc) (he : es.map (·.f) = s.fs) (hS : ∀ k, S k → k < w.heap.size)
    (hkb : w.heap.size ≤ kb) (hk : w1.ownsMap Try.prog 3 (plainElem Try.prog 3) kb nk KD) (hb : Below w.heap.size w w1) (hw2 : w1.setCells d 2 [.int .i64 0, .int .i64 0] = w2) (hp : l.Perm (es.map ent))
    (hrg : w3.ranges Try.prog 3 ptrR mb w2.heap.size es.length (.map l) (Maps.has (.map l)) (Maps.size (.map l))) (hg : w2.grownBy w3 none) :
    BackAt S w d mb s ks kb w2.heap.size es.length w3 (Maps.has (.map l)) (Maps.size (.map l)) l es KD nk ∧ kb < w2.heap.size := by
  have hall : ∀ f ∈ s.fs, Maps.has (DataW.map l) (.int .i64 f.n) = true := fun f hf => by
    rw [← he] at hf
    obtain ⟨e, hem, rfl⟩ := List.mem_map.1 hf
    exact has_files hp hem
  obtain ⟨g1, g2⟩ := curL_start (ks := ks) hall
  have h2 := cB_start (ks := ks) hl1 g2
  have hdk : d < w.heap.size := hS d hl1.sd
  have o12 : Only (fun k => k = d) w1 w2 := by rw [← hw2]; exact (only_setD (d := d) (i := 2) _).trans (only_setD (d := d) (i := 3) _)
  have hk2 : w2.ownsMap Try.prog 3 (plainElem Try.prog 3) kb nk KD := hk.kept (grown_of_only o12) (fun x => by injection x with x; omega)
  rw [hw2] at h2
  refine ⟨⟨hrg, hp, h2.kept fun k hk _ => hg.block k hk (by simp), by rw [he, g1], hk2.kept hg (by simp), ?_⟩, hk2.lt⟩
  have oa : Only S w w1 := (Only.of_below (S := fun _ => False) hb fun j hj hB => absurd hj (by omega)).mono fun _ _ x => x.elim
  exact (oa.andThen o12 fun k _ hk => by rw [hk]; exact hl1.sd).grown hg fun j hj => by cases hj
theorem lt_left {w w' : World} {mb r n cnt cnt' : Nat} {D D' : DataW Unit} {left left' : Lit → Bool} (h : w.ranges Try.prog 3 ptrR mb r n D left cnt) (h' : w'.ranges Try.prog 3 ptrR mb r n D' left' cnt') (hlt : cnt < cnt') : w.rangeLeft mb r < w'.rangeLeft mb r := by
  rw [h.left_eq, h'.left_eq]
  exact hlt
theorem lost_facts {S : Nat → Prop} {w : World} {d mb : Nat} {s : DS} {ks : List (Int × Int)} {left : Lit → Bool} {es : List DE} {e : DE} {k : Int} {v' : Value} (h : Lay S w d mb (updE e.f.n ⟨loseF k e.f, e.fb, v'⟩ es) (cB s ks left)) (hfe : findE e.f.n es = some e) :
    ∃ a cap, v' = .slice a (loseF k e.f).data.length cap ∧ w.cell? ⟨e.fb, 0, none⟩ = some (.int .i64 e.f.t) ∧ w.cell? ⟨e.fb, 1, none⟩ = some (.slice a (loseF k e.f).data.length cap) ∧
      w.cell? ⟨d, 2, none⟩ = some (.int .i64 (usedL 0 (doneL ks left s.fs))) ∧ w.cell? ⟨d, 3, none⟩ = some (.int .i64 (usedL 1 (doneL ks left s.fs))) ∧ w.frozen? ⟨d, 2, none⟩ = false ∧ w.frozen? ⟨d, 3, none⟩ = false := by
  have hm : (⟨loseF k e.f, e.fb, v'⟩ : DE) ∈ updE e.f.n ⟨loseF k e.f, e.fb, v'⟩ es := (findE_mem (findE_upd (e' := ⟨loseF k e.f, e.fb, v'⟩) rfl hfe)).1
  obtain ⟨a, cap, hv, hc⟩ := row_slice (h.file _ hm).2
  refine ⟨a, cap, hv, h.fcell hm 0, ?_, h.cell 2, h.cell 3, h.free 2, h.free 3⟩
  have := h.fcell hm 1
  simp only at hv
  rw [hv] at this
  exact this
theorem back_end {S S0 : Nat → Prop} {w wr : World} {d mb : Nat} {s : DS} {ks : List (Int × Int)} {es : List DE} {kb nk r n cnt : Nat} {KD : DataW Unit} {l : List (Lit × DataW Unit)} {left : Lit → Bool} (h : BackAt S w d mb s ks kb r n wr left cnt l es KD nk) (hl : ∀ kl, left kl = false) (hF : s.Fit)
    (hS0 : ∀ k, S k → S0 k) : Disk (New S0 w) ((wr.setCell ⟨d, 7, none⟩ (.int .i64 (-1))).setCell ⟨d, 8, none⟩ (.bool false)) d (s.back ks) ∧ Only S0 w ((wr.setCell ⟨d, 7, none⟩ (.int .i64 (-1))).setCell ⟨d, 8, none⟩ (.bool false)) := by
  obtain ⟨g1, g2⟩ := curL_end (ks := ks) (fs := s.fs) hl
  refine ⟨⟨hF.back ks, mb, es, ?_, by rw [h.fs, g1]; rfl⟩, ?_⟩
  · refine ((h.lay.setD 7 (.int .i64 (-1)) { cB s ks left with left := -1 } rfl).setD 8 (.bool false) (DS.dc (s.back ks)) ?_).mono fun k _ hk => .inl (hS0 k hk)
    unfold cB
    rw [g2]
    rfl
  · exact (h.only.andThen ((only_setD (d := d) (i := 7) _).trans (only_setD (d := d) (i := 8) _)) fun k _ hk => by rw [hk]; exact h.lay.sd).mono fun k _ hk => hS0 k hk
set_option maxHeartbeats 1600000 in
set_option maxRecDepth 100000 in
theorem disk_Back {S0 : Nat → Prop} {w : World} {d : Nat} {s : DS} (h0 : Disk S0 w d s) (a : Option Addr) (len cap : Nat) (ks : List (Int × Int)) (hks : IsKeeps w a len ks) :
    Calls Try.prog 43 #[.pointer (some ⟨d, 0, none⟩), .slice a len cap] w fun e w' => e = .returned (.tuple #[]) ∧ Disk (New S0 w) w' d (s.back ks) ∧ Only S0 w w' := by
  obtain ⟨hF, mb, es, h, he⟩ := h0.tight
  obtain ⟨S, hSd⟩ : ∃ S : Nat → Prop, S = fun k => S0 k ∧ k < w.heap.size := ⟨_, rfl⟩
  rw [← hSd] at h
  have hS : ∀ k, S k → k < w.heap.size := fun k hk => by rw [hSd] at hk; exact hk.2
  have hS0 : ∀ k, S k → S0 k := fun k hk => by rw [hSd] at hk; exact hk.1
  clear hSd h0
  have HF := Lib.hid hF
  have HS := Lib.hid hS
  have HE := Lib.hid he
  have HL := Lib.hid h
  have hmb : mb < w.heap.size := hS mb h.sm
  have hFK := disk_firstKeeps a len cap ks w hks
  clear hF hS he h hks
  go_enter Try.func43, Try.ntmps43
  go_wp2_with (first
    | (go_at_call 65; refine hFK.mono ?_; rintro e w1 ⟨kb, nk, KD, rfl, hkb, hkept, hkd, hbl⟩; have H1 := Lib.hid (HL.out.kept (w' := w1) fun k hk _ => hbl.block k hk); have HK := Lib.hid hkept; have HKD := Lib.hid hkd; have HB := Lib.hid hbl; clear hkept hkd hbl)
    | (refine wpList_store_mid rfl 78 (.tmp 16) (.tmp 14) rfl d 2 #[.int .i64 0, .int .i64 0] rfl rfl H1.out.there2 info54 one54 ?_; generalize hw2 : World.setCells w1 _ _ _ = w2; have HW2 := Lib.hid hw2; clear hw2; have c4 : w2.cell? ⟨d, 4, none⟩ = some (.map (some mb)) := by { rw [← HW2.out]; exact (cB_start (ks := ks) (left := fun _ => true) H1.out (by unfold doneL; simp)).cell 4 }; obtain ⟨l, hown, hperm⟩ := (show FileMap w2 mb es by { rw [← HW2.out]; exact (cB_start (ks := ks) (left := fun _ => true) H1.out (by unfold doneL; simp)).map }); have HP := Lib.hid hperm; clear hperm; go_frame)
    | (at_range; refine wpList_range_own _ rfl _ 79 rfl 3 89 law3 Try.underlying79 ptrR mb es.length (.map l) rfl hown ?_; intro w3 hrg0 hg0 hs0)
    | go_in)
  obtain ⟨hB0, hkr⟩ := back_start (ks := ks) H1.out HE.out HS.out hkb HK.out HB.out HW2.out HP.out hrg0 hg0
  have hr2 : w.heap.size ≤ w2.heap.size := by omega
  have HB0 := Lib.hid hB0
  clear hB0 hrg0 hg0 hs0 hown c4 hFK
  go_loopw [5] (fun _ wr => ∃ left cnt l' es', BackAt S w d mb s ks kb w2.heap.size es.length wr left cnt l' es' KD nk) (fun _ wr => wr.rangeLeft mb w2.heap.size)
  case atStart => exact ⟨_, _, _, _, HB0.out⟩
  case round =>
    obtain ⟨left, cnt, l', es', hB⟩ := hrel
    have c7 := hB.lay.cell 7
    have c8 := hB.lay.cell 8
    simp only [DC.cells] at c7 c8
    have f7 := hB.lay.free 7
    have f8 := hB.lay.free 8
    have HBB := Lib.hid hB
    clear hB
    go_wp2_with (first
      | (at_next; refine wpList_next_files rfl _ rfl mb w2.heap.size es.length l' es' left cnt rfl HBB.out.rng HBB.out.perm HBB.out.lay.nod ?_ ?_)
      | go_in)
    · intro _ hl0
      have HL0 := Lib.hid hl0
      clear hl0
      go_wp2
      go_end0
      exact ⟨rfl, back_end HBB.out HL0.out HF.out hS0⟩
    · intro e w4 cnt4 hem hfe hlf hwf hrg4 hlt hg4 hs4 hen
      obtain ⟨hl1, hk1, ho1⟩ := HBB.out.next hr2 HS.out (show kb ≠ w2.heap.size by omega) hg4
      have hef : e.f ∈ s.fs := curL_mem (ks := ks) (left := left) (by rw [← HBB.out.fs]; exact List.mem_map.2 ⟨e, hem, rfl⟩) hlf
      have hkey := key_i64 hwf
      obtain ⟨ft, fsb, fsu, fn⟩ := HF.out.file e.f hef
      have g2 : w4.cell? ⟨e.fb, 2, none⟩ = some (.bool e.f.sure) := hl1.fcell hem 2
      have d4 : w4.cell? ⟨d, 4, none⟩ = some (.map (some mb)) := hl1.cell 4
      have hh := (HKD.out e.f.n).1
      have HLF := Lib.hid hlf
      have HFE := Lib.hid hfe
      have HL1 := Lib.hid hl1
      have HK1 := Lib.hid hk1
      have HO1 := Lib.hid ho1
      have HRG := Lib.hid hrg4
      have HG4 := Lib.hid hg4
      clear hlf hfe hl1 hk1 ho1 hg4 hs4 c7 c8 f7 f8
      by_cases hgone : keepOf ks e.f.n = none ∧ e.f.sure = false
      · rw [hgone.1] at hh
        rw [hgone.2] at g2
        have hno : ∀ f ∈ s.fs, f.n = e.f.n → backF ks f = none := fun f hf hn => by
          have h1 := findL_of HF.out.nod hf hn
          rw [findL_of HF.out.nod hef rfl] at h1
          injection h1 with h1
          rw [← h1]
          unfold backF
          rw [if_pos hgone]
        have HNO := Lib.hid hno
        clear hgone hno
        change Maps.has KD (.int .i64 e.f.n) = false at hh
        go_wp2_with (first
          | (at_lookup; refine wpList_lookup_own_ok_int _ rfl _ _ 113 rfl 3 3 .i64 law3 Try.underlying113 Try.underlying3 (zero3 _) _ nk KD rfl HK1.out _ _ rfl hkey ?_; intro cc hat hwc)
          | (at_delete; refine wpList_delete_ranges _ rfl _ _ 79 3 rfl 89 law3 Try.underlying79 ptrR mb w2.heap.size es.length _ _ _ rfl HRG.out _ _ rfl hkey ?_; intro w5 cnt5 hrg5 hle5 hturn5; go_frame)
          | go_in)
        go_roundw
        case rel =>
          obtain ⟨l5, es5, hB5⟩ := BackAt.gone HBB.out.perm HBB.out.fs HS.out (show kb ≠ mb by omega) HL1.out HK1.out HO1.out hem HLF.out HNO.out (by unfold strike at hrg5 ⊢; rw [Maps.strike_twice] at hrg5; exact hrg5) hturn5
          exact ⟨_, _, _, _, hB5⟩
        case measure => rw [hrg5.left_eq, HBB.out.rng.left_eq]; omega
      · have hbk : backF ks e.f = some (loseF (most ks e.f.n) e.f) := by unfold backF; rw [if_neg hgone]
        have HBK := Lib.hid hbk
        obtain ⟨lb1, lb2⟩ := len_bound HF.out (findL_of HF.out.nod hef rfl)
        have hbl := fun W => disk_blocks (loseF (most ks e.f.n) e.f).data.length (by have := (backF_n hbk).2.2; omega) W
        have hbb := blk_mono (backF_n hbk).2.2
        have ub0 := used_done 0 ks left s.fs
        have ub1 := used_done 1 ks left s.fs
        have ub2 := HF.out.u0
        have ub3 := HF.out.u1
        have ub4 := HF.out.r0
        have ub5 := HF.out.r1
        have z0 : IntKind.i64.wrap ((usedL 0 (doneL ks left s.fs) : Int) + (blk (loseF (most ks e.f.n) e.f).data.length : Int)) = (usedL 0 (doneL ks left s.fs) : Int) + (blk (loseF (most ks e.f.n) e.f).data.length : Int) := IntWalk.i64_in _ (by omega)
        have z1 : IntKind.i64.wrap ((usedL 1 (doneL ks left s.fs) : Int) + (blk (loseF (most ks e.f.n) e.f).data.length : Int)) = (usedL 1 (doneL ks left s.fs) : Int) + (blk (loseF (most ks e.f.n) e.f).data.length : Int) := IntWalk.i64_in _ (by omega)
        clear hbk
        cases hko : keepOf ks e.f.n with
        | some vv =>
          rw [hko] at hh
          change Maps.has KD (.int .i64 e.f.n) = true at hh
          clear hgone hko
          rcases ft with ht | ht
          · have HT := Lib.hid ht
            have ft : e.f.t = 0 ∨ e.f.t = 1 := .inl ht
            clear ht
            go_wp2_with (first
              | (at_lookup; refine wpList_lookup_own_ok_int _ rfl _ _ 113 rfl 3 3 .i64 law3 Try.underlying113 Try.underlying3 (zero3 _) _ nk KD rfl HK1.out _ _ rfl hkey ?_; intro cc hat hwc; obtain rfl : cc = most ks e.f.n := kept_most HKD.out hat)
              | (go_at_call 66; refine (lay_lose HL1.out e e.f.n HFE.out (most ks e.f.n) fsb (by omega)).mono ?_; rintro en w5 ⟨rfl, ⟨v', h2⟩, o2⟩; obtain ⟨a5, cap5, hv5, k0, k1, k2, k3, k4, k5⟩ := lost_facts h2 HFE.out; rw [HT.out] at k0; have H2 := Lib.hid h2; have O2 := Lib.hid o2; clear h2 o2 hv5)
              | go_in)
            refine wp_region_still_tail 19 (by kernel_rfl) (by kernel_rfl) ?_
            simp only [List.take_succ_cons, List.take_zero, List.drop_succ_cons, List.drop_zero]
            repeat still_step
            still_call ((hbl _).mono fun _ _ ⟨a, b⟩ => ⟨a, b.symm⟩)
            repeat still_step
            refine wpStill_nil ?_
            change wpList _ _ _ _ _ (World.drew _)
            go_wp2
            have hH := H2.out.drew
            have hU := (hH.setU ((usedL 0 (doneL ks left s.fs) : Int) + (blk (loseF (most ks e.f.n) e.f).data.length : Int))).1
            obtain ⟨es5, hB5⟩ := BackAt.lost HBB.out.perm HBB.out.fs HF.out HBB.out.lay.nod HL1.out HK1.out HO1.out HFE.out HLF.out HBK.out HRG.out H2.out O2.out ((Only.refl _ _).drew.trans (only_setD (d := d) (i := 2) _)) (by rw [HT.out]; exact hU) ft
            go_roundw
            case rel => exact ⟨_, _, _, _, hB5⟩
            case measure => exact lt_left hB5.rng HBB.out.rng hlt
          · have HT := Lib.hid ht
            have ft : e.f.t = 0 ∨ e.f.t = 1 := .inr ht
            clear ht
            go_wp2_with (first
              | (at_lookup; refine wpList_lookup_own_ok_int _ rfl _ _ 113 rfl 3 3 .i64 law3 Try.underlying113 Try.underlying3 (zero3 _) _ nk KD rfl HK1.out _ _ rfl hkey ?_; intro cc hat hwc; obtain rfl : cc = most ks e.f.n := kept_most HKD.out hat)
              | (go_at_call 66; refine (lay_lose HL1.out e e.f.n HFE.out (most ks e.f.n) fsb (by omega)).mono ?_; rintro en w5 ⟨rfl, ⟨v', h2⟩, o2⟩; obtain ⟨a5, cap5, hv5, k0, k1, k2, k3, k4, k5⟩ := lost_facts h2 HFE.out; rw [HT.out] at k0; have H2 := Lib.hid h2; have O2 := Lib.hid o2; clear h2 o2 hv5)
              | go_in)
            refine wp_region_still_tail 19 (by kernel_rfl) (by kernel_rfl) ?_
            simp only [List.take_succ_cons, List.take_zero, List.drop_succ_cons, List.drop_zero]
            repeat still_step
            still_call ((hbl _).mono fun _ _ ⟨a, b⟩ => ⟨a, b.symm⟩)
            repeat still_step
            refine wpStill_nil ?_
            change wpList _ _ _ _ _ (World.drew _)
            go_wp2
            have hH := H2.out.drew
            have hU := (hH.setU ((usedL 1 (doneL ks left s.fs) : Int) + (blk (loseF (most ks e.f.n) e.f).data.length : Int))).2
            obtain ⟨es5, hB5⟩ := BackAt.lost HBB.out.perm HBB.out.fs HF.out HBB.out.lay.nod HL1.out HK1.out HO1.out HFE.out HLF.out HBK.out HRG.out H2.out O2.out ((Only.refl _ _).drew.trans (only_setD (d := d) (i := 3) _)) (by rw [HT.out]; exact hU) ft
            go_roundw
            case rel => exact ⟨_, _, _, _, hB5⟩
            case measure => exact lt_left hB5.rng HBB.out.rng hlt
        | none =>
          rw [hko] at hh
          change Maps.has KD (.int .i64 e.f.n) = false at hh
          have hsu : e.f.sure = true := by
            cases hs : e.f.sure
            · exact absurd ⟨hko, hs⟩ hgone
            · rfl
          rw [hsu] at g2
          clear hgone hko hsu
          rcases ft with ht | ht
          · have HT := Lib.hid ht
            have ft : e.f.t = 0 ∨ e.f.t = 1 := .inl ht
            clear ht
            go_wp2_with (first
              | (at_lookup; refine wpList_lookup_own_ok_int _ rfl _ _ 113 rfl 3 3 .i64 law3 Try.underlying113 Try.underlying3 (zero3 _) _ nk KD rfl HK1.out _ _ rfl hkey ?_; intro cc hat hwc; obtain rfl : cc = most ks e.f.n := kept_most HKD.out hat)
              | (go_at_call 66; refine (lay_lose HL1.out e e.f.n HFE.out (most ks e.f.n) fsb (by omega)).mono ?_; rintro en w5 ⟨rfl, ⟨v', h2⟩, o2⟩; obtain ⟨a5, cap5, hv5, k0, k1, k2, k3, k4, k5⟩ := lost_facts h2 HFE.out; rw [HT.out] at k0; have H2 := Lib.hid h2; have O2 := Lib.hid o2; clear h2 o2 hv5)
              | go_in)
            refine wp_region_still_tail 19 (by kernel_rfl) (by kernel_rfl) ?_
            simp only [List.take_succ_cons, List.take_zero, List.drop_succ_cons, List.drop_zero]
            repeat still_step
            still_call ((hbl _).mono fun _ _ ⟨a, b⟩ => ⟨a, b.symm⟩)
            repeat still_step
            refine wpStill_nil ?_
            change wpList _ _ _ _ _ (World.drew _)
            go_wp2
            have hH := H2.out.drew
            have hU := (hH.setU ((usedL 0 (doneL ks left s.fs) : Int) + (blk (loseF (most ks e.f.n) e.f).data.length : Int))).1
            obtain ⟨es5, hB5⟩ := BackAt.lost HBB.out.perm HBB.out.fs HF.out HBB.out.lay.nod HL1.out HK1.out HO1.out HFE.out HLF.out HBK.out HRG.out H2.out O2.out ((Only.refl _ _).drew.trans (only_setD (d := d) (i := 2) _)) (by rw [HT.out]; exact hU) ft
            go_roundw
            case rel => exact ⟨_, _, _, _, hB5⟩
            case measure => exact lt_left hB5.rng HBB.out.rng hlt
          · have HT := Lib.hid ht
            have ft : e.f.t = 0 ∨ e.f.t = 1 := .inr ht
            clear ht
            go_wp2_with (first
              | (at_lookup; refine wpList_lookup_own_ok_int _ rfl _ _ 113 rfl 3 3 .i64 law3 Try.underlying113 Try.underlying3 (zero3 _) _ nk KD rfl HK1.out _ _ rfl hkey ?_; intro cc hat hwc; obtain rfl : cc = most ks e.f.n := kept_most HKD.out hat)
              | (go_at_call 66; refine (lay_lose HL1.out e e.f.n HFE.out (most ks e.f.n) fsb (by omega)).mono ?_; rintro en w5 ⟨rfl, ⟨v', h2⟩, o2⟩; obtain ⟨a5, cap5, hv5, k0, k1, k2, k3, k4, k5⟩ := lost_facts h2 HFE.out; rw [HT.out] at k0; have H2 := Lib.hid h2; have O2 := Lib.hid o2; clear h2 o2 hv5)
              | go_in)
            refine wp_region_still_tail 19 (by kernel_rfl) (by kernel_rfl) ?_
            simp only [List.take_succ_cons, List.take_zero, List.drop_succ_cons, List.drop_zero]
            repeat still_step
            still_call ((hbl _).mono fun _ _ ⟨a, b⟩ => ⟨a, b.symm⟩)
            repeat still_step
            refine wpStill_nil ?_
            change wpList _ _ _ _ _ (World.drew _)
            go_wp2
            have hH := H2.out.drew
            have hU := (hH.setU ((usedL 1 (doneL ks left s.fs) : Int) + (blk (loseF (most ks e.f.n) e.f).data.length : Int))).2
            obtain ⟨es5, hB5⟩ := BackAt.lost HBB.out.perm HBB.out.fs HF.out HBB.out.lay.nod HL1.out HK1.out HO1.out HFE.out HLF.out HBK.out HRG.out H2.out O2.out ((Only.refl _ _).drew.trans (only_setD (d := d) (i := 3) _)) (by rw [HT.out]; exact hU) ft
            go_roundw
            case rel => exact ⟨_, _, _, _, hB5⟩
            case measure => exact lt_left hB5.rng HBB.out.rng hlt
end Go.Proofs.Ytkelcmncjhnbgaa
