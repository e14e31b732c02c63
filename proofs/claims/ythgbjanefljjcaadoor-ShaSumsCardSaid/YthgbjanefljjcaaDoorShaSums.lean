/- ShaSums: the digest of any texts is the document's, whatever they are cut into. For every input; no condition beside the round numbers that the program lays (tied). -/
import Derived.Test.YthgbjanefljjcaaDoorShaLaid
import Derived.ChangeOld
import Derived.SliceStrings
import Derived.Deep.RegionHeld3
set_option linter.unusedVariables false
namespace Go.Proofs.YthgbjanefljjcaaDoor.shaSums
open Go.ChangeShapes Go.WideShapes Go.ChangeAt Go.RowKit

theorem held_awake (W : World) (hg : Hid (Glob W)) (w : World) (h : Below W.heap.size W w) : Calls Tryd.prog 7 #[] w fun e w' => e = .returned (.bool true) ∧ Below W.heap.size W w' :=
  (law_awake w (Lib.hid (hg.out.keep h hg.out.1))).mono fun _ w'' ⟨h1, h2⟩ => ⟨h1, h.trans (h2.mono h.size)⟩
theorem held_Sum (a : Option Addr) (b off len cap : Nat) (T : List ByteArray) (W : World) (hlen : Hid (len = T.length)) (hl : len ≤ 9223372036854775807) (hz : Hid (RowS b off T W)) (hs : Hid ((joined T).length ≤ 900000)) (hab : Hid (len = 0 ∨ a = some ⟨b, off, none⟩)) (hg : Hid (Glob W)) (kc : List Value) (hD : Hid (kc.toArray = keyA (digest (joined T)))) (w : World) (h : Below W.heap.size W w) :
    Calls Tryd.prog 9 #[.slice a len cap] w fun e w'' => e = .returned (.agg kc.toArray) ∧ Below W.heap.size W w'' := by
  rw [hD.out]
  exact (sha_Sum a b off len cap T w hlen hl (Lib.hid (RowS.below hz.out h)) hs hab (Lib.hid (hg.out.keep h hg.out.1))).mono fun _ w'' ⟨h1, h2⟩ => ⟨h1, h.trans (h2.mono h.size)⟩
theorem held_Sum1 (s : ByteArray) (W : World) (hs : Hid (s.size ≤ 900000)) (hg : Hid (Glob W)) (kc : List Value) (hD : Hid (kc.toArray = keyA (digest s.data.toList))) (w : World) (h : Below W.heap.size W w) :
    Calls Tryd.prog 9 #[.slice (some ⟨w.heap.size, 0, none⟩) 1 1] (w.alloc (.cells #[.string s] 9)) fun e w'' => e = .returned (.agg kc.toArray) ∧ Below W.heap.size W w'' := by
  have hj : joined [s] = s.data.toList := by simp [joined]
  rw [hD.out, ← hj]
  have k := h.alloc h.size (.cells #[.string s] 9)
  exact (sha_Sum (some ⟨w.heap.size, 0, none⟩) w.heap.size 0 1 1 [s] (w.alloc (.cells #[.string s] 9)) (Lib.hid rfl) (by omega) (Lib.hid (row_new w [s] 9)) (Lib.hid (by rw [hj, ← Lib.size_eq]; exact hs.out)) (Lib.hid (.inr rfl)) (Lib.hid (hg.out.keep k hg.out.1))).mono fun _ w'' ⟨h1, h2⟩ => ⟨h1, k.trans (h2.mono k.size)⟩

set_option maxHeartbeats 2000000 in
set_option maxRecDepth 100000 in
theorem core (a : Option Addr) (b off len cap : Nat) (T : List ByteArray) (w : World) (hlen : Hid (len = T.length)) (hl : len ≤ 9223372036854775807) (hz : Hid (RowS b off T w)) (hab : Hid (len = 0 ∨ a = some ⟨b, off, none⟩)) (hg : Hid (Glob w)) :
    Calls Tryd.prog 3 #[.slice a len cap] w fun e w' => e = .returned (.bool true) ∧ Below w.heap.size w w' := by
  go_enter Tryd.func3, Tryd.ntmps3
  go_wp2_with fail
  go_loopw [3, 4] (fun x i wr => ∃ k : Nat, k ≤ len ∧ i = .int .i64 k ∧ x = .string (bs (joined (T.take k))) ∧ Hid ((joined (T.take k)).length ≤ 40000) ∧ wr = w) (fun x i wr => len - (intOf i).toNat)
  case atStart => exact ⟨0, by omega, rfl, rfl, Lib.hid (by simp [joined]), rfl⟩
  case round =>
    obtain ⟨k, hk, rfl, rfl, hjl, rfl⟩ := hrel
    by_cases hlt : k < len
    · have hkT : k < T.length := by rw [← hlen.out]; exact hlt
      obtain ⟨hb, c1⟩ := hz.out k hkT
      have ha : a = some ⟨b, off, none⟩ := by rcases hab.out with h | h; (omega); (exact h)
      have hnext := Lib.hid (joined_next T k hkT)
      clear hb
      generalize T.getD k ByteArray.empty = s at *
      obtain ⟨J, hJ⟩ : ∃ J, J = joined (T.take k) := ⟨_, rfl⟩
      rw [← hJ] at hjl hnext ⊢
      have HJ := Lib.hid hJ
      clear hJ
      subst ha
      by_cases hgo : s.size ≤ 20000 ∧ J.length ≤ 20000
      · obtain ⟨g1, g2⟩ := hgo
        have gj : (bs J).size ≤ 20000 := by rw [bs_size]; exact g2
        have hcat : bs J ++ s = bs (J ++ s.data.toList) := bs_eq (by rw [cat_list, bs_list])
        have hsum : ((bs J).size : Int) + (s.size : Int) ≤ 9223372036854775807 := by omega
        have hnl : (J ++ s.data.toList).length ≤ 40000 := by rw [List.length_append, ← Lib.size_eq]; omega
        have HNL := Lib.hid hnl
        clear hnl
        go_wp2_with fail
        go_roundw
        case rel => exact ⟨k + 1, by omega, by go_num, by rw [hnext.out], Lib.hid (by rw [hnext.out]; exact HNL.out), trivial⟩
        case measure => simp [intOf]; omega
      · by_cases g1 : 20000 < s.size
        · go_wp2_with fail
          refine (law_awake wr hg).mono ?_
          rintro e w1 ⟨rfl, k1⟩
          go_wp2
          go_ret
          exact ⟨rfl, k1⟩
        · have g2 : (20000 : Int) < ((bs J).size : Int) := by rw [bs_size]; omega
          go_wp2_with fail
          refine (law_awake wr hg).mono ?_
          rintro e w1 ⟨rfl, k1⟩
          go_wp2
          go_ret
          exact ⟨rfl, k1⟩
    · obtain rfl : k = len := by omega
      have hall : T.take k = T := by rw [hlen.out, List.take_length]
      rw [hall] at hjl ⊢
      have hone : joined [bs (joined T)] = joined T := by simp [joined, bs_list]
      have HONE := Lib.hid hone
      clear hone hall
      go_wp2_with fail
      refine (ref_Sum (bs (joined T)) wr (by rw [bs_size]; exact Nat.le_trans hjl.out (by omega))).mono ?_
      rintro e w1 ⟨rfl, k1⟩
      rw [bs_list]
      rw [show keyV (digest (joined T)) = .agg (keyA (digest (joined T))) from rfl]
      have hdl := digest_len (joined T)
      have HDL := Lib.hid hdl
      obtain ⟨D, hD⟩ : ∃ D, D = digest (joined T) := ⟨_, rfl⟩
      rw [← hD] at hdl HDL
      rw [← hD]
      have HD := Lib.hid hD
      have K1 := Lib.hid k1
      have HT0 := Lib.hid (show (w1.alloc (.cells (Array.replicate 32 (.int .u8 0)) 25)).there w1.heap.size 0 (keyA D).size by rw [keyA_size, hdl]; exact key_there (key8_new w1 25))
      obtain ⟨W3, hW3⟩ : ∃ W3, W3 = (w1.alloc (.cells (Array.replicate 32 (.int .u8 0)) 25)).setCells w1.heap.size 0 (keyA D).toList := ⟨_, rfl⟩
      have hk3 : Below w1.heap.size w1 W3 := by rw [hW3]; exact below_setCells (Nat.le_refl _) _ 0 ((Below.refl _ _).alloc (Nat.le_refl _) _)
      have HK3 := Lib.hid (K1.out.trans (hk3.mono K1.out.size))
      have hrg : W3.rangeAt w1.heap.size 0 (keyA D).toList := by rw [hW3]; exact World.rangeAt_setCells_same _ _ 0 _ (by simpa using HT0.out)
      have hlt3 : w1.heap.size < W3.heap.size := by
        have h1 := (below_setCells (Nat.le_refl _) (keyA D).toList 0 (Below.refl w1.heap.size (w1.alloc (.cells (Array.replicate 32 (.int .u8 0)) 25)))).size
        have h2 : w1.heap.size < (w1.alloc (.cells (Array.replicate 32 (.int .u8 0)) 25)).heap.size := by simp
        rw [hW3]
        exact Nat.lt_of_lt_of_le h2 h1
      clear hD k1 hdl
      go_upto_region 9 with (first | (refine wpList_store_mid rfl 25 (.tmp 5) (.tmp 31) rfl w1.heap.size 0 (keyA D) rfl rfl HT0.out (info25s D HDL.out) (keyA_one D) ?_))
      change Code.wp _ _ _ _ ((w1.alloc (.cells (Array.replicate 32 (.int .u8 0)) 25)).setCells w1.heap.size 0 (keyA D).toList)
      rw [← hW3]
      try go_frame
      have heq0 := eq_keys D D HDL.out HDL.out
      rw [beq_self_eq_true] at heq0
      have HR3 := Lib.hid (hz.out.below HK3.out)
      have HG3 := Lib.hid (hg.out.keep HK3.out hg.out.1)
      have HSZ := Lib.hid (show (joined T).length ≤ 900000 from Nat.le_trans hjl.out (by omega))
      have HS1 := Lib.hid (show (bs (joined T)).size ≤ 900000 by rw [bs_size]; exact HSZ.out)
      obtain ⟨kc, hkc⟩ : ∃ kc, kc = (keyA D).toList := ⟨_, rfl⟩
      have hka : keyA D = kc.toArray := by rw [hkc]
      have HIN := Lib.hid (show (Tryd.prog.info? 25).map (·.size) = some kc.length by rw [hkc]; exact info25 D HDL.out)
      rw [← hkc] at hrg
      rw [hka] at heq0
      have heq : ∀ w', (Op.equalIn 10000 25 (.agg kc.toArray) (.agg kc.toArray)).run Tryd.prog w' = .ok true w' := heq0
      have HD1 := Lib.hid (show kc.toArray = keyA (digest (bs (joined T)).data.toList) by rw [bs_list, ← hka, HD.out])
      have HD2 := Lib.hid (show kc.toArray = keyA (digest (joined T)) by rw [← hka, HD.out])
      rw [hka]
      have HRG := Lib.hid hrg
      have HLT := Lib.hid hlt3
      clear hW3 hlt3 hk3 HT0 hg hz K1 heq0 hkc hka
      generalize w1.heap.size = Kb at *
      generalize bs (joined T) = sj at *
      have hS0 : Below W3.heap.size W3 W3 := Below.refl _ _
      refine wp_region_held_drew (S := fun w' => Below W3.heap.size W3 w') (by kernel_rfl) (Below.refl _ _).drew (fun hS => ?_)
      refine wpAnyH_ready (rs := [0]) (by kernel_rfl) (by simp) (AllReadyH.cons rfl (fun K hK => ?_) AllReadyH.nil)
      go_simp
      refine (held_awake W3 HG3 _ hS).mono ?_
      rintro e w' ⟨rfl, hS2⟩
      refine hK.out _ _ hS2 (fun _ => ?_)
      clear hK K hS
      have hS := hS2
      clear hS2
      try go_frame
      refine held_take 1 33 (v := .bool true) rfl rfl (by kernel_rfl) (by kernel_rfl) (by kernel_rfl) (fun _ _ _ h => h) (Or.inl ⟨by rfl, ?_⟩) hS ?_
      · intro w' hSw; go_simp
      try go_frame
      refine held_take 2 34 (v := .slice a k cap) rfl rfl (by kernel_rfl) (by kernel_rfl) (by kernel_rfl) (fun _ _ _ h => h) (Or.inl ⟨by rfl, ?_⟩) hS ?_
      · intro w' hSw; go_simp
      try go_frame
      refine held_take 4 36 rfl rfl (by kernel_rfl) (by kernel_rfl) (by kernel_rfl) (fun _ _ _ h => h) (yieldsIf_load_mid (by rfl) _ _ rfl Kb 0 rfl kc _ (fun w' h => rangeAt_below HRG.out h HLT.out) Tryd.underlying25 rfl HIN.out) hS ?_
      try go_frame
      refine wpAnyH_ready (rs := [3]) (by kernel_rfl) (by simp) (AllReadyH.cons rfl (fun K hK => ?_) AllReadyH.nil)
      go_simp
      refine (held_Sum a b off k cap T W3 hlen hl HR3 HSZ hab HG3 kc HD2 _ hS).mono ?_
      rintro e w' ⟨rfl, hS2⟩
      refine hK.out _ _ hS2 (fun _ => ?_)
      clear hK K hS
      have hS := hS2
      clear hS2
      try go_frame
      refine held_take 5 37 (v := .bool true) rfl rfl (by kernel_rfl) (by kernel_rfl) (by kernel_rfl) (fun _ _ _ h => h) (Or.inl ⟨by rfl, ?_⟩) hS ?_
      · intro w' hSw; go_simp
      try go_frame
      refine held_take 6 38 (v := .bool true) rfl rfl (by kernel_rfl) (by kernel_rfl) (by kernel_rfl) (fun _ _ _ h => h) (Or.inl ⟨by rfl, ?_⟩) hS ?_
      · intro w' hSw; go_simp
      try go_frame
      refine held_take 7 39 (v := .bool true) rfl rfl (by kernel_rfl) (by kernel_rfl) (by kernel_rfl) (fun _ _ _ h => h) (Or.inl ⟨by rfl, ?_⟩) hS ?_
      · intro w' hSw; go_simp
      try go_frame
      refine held_take 8 40 (v := .string sj) rfl rfl (by kernel_rfl) (by kernel_rfl) (by kernel_rfl) (fun _ _ _ h => h) (Or.inl ⟨by rfl, ?_⟩) hS ?_
      · intro w' hSw; go_simp
      try go_frame
      refine held_take 11 43 rfl rfl (by kernel_rfl) (by kernel_rfl) (by kernel_rfl) (fun _ _ _ h => h) (yieldsIf_load_mid (by rfl) _ _ rfl Kb 0 rfl kc _ (fun w' h => rangeAt_below HRG.out h HLT.out) Tryd.underlying25 rfl HIN.out) hS ?_
      try go_frame
      refine wpAnyH_ready (rs := [9]) (by kernel_rfl) (by simp) (AllReadyH.cons rfl (fun K hK => ?_) AllReadyH.nil)
      go_simp
      refine hK.out _ _ (hS.alloc hS.size _) (fun hS1 => ?_)
      clear hK K
      try go_frame
      refine wpAnyH_ready (rs := [10]) (by kernel_rfl) (by simp) (AllReadyH.cons rfl (fun K hK => ?_) AllReadyH.nil)
      go_simp
      refine (held_Sum1 sj W3 HS1 HG3 kc HD1 _ hS).mono ?_
      rintro e w' ⟨rfl, hS2⟩
      refine hK.out _ _ hS2 (fun _ => ?_)
      clear hK K hS hS1
      have hS := hS2
      clear hS2
      try go_frame
      refine held_take 12 44 (v := .bool true) rfl rfl (by kernel_rfl) (by kernel_rfl) (by kernel_rfl) (fun _ _ _ h => h) (Or.inl ⟨by rfl, ?_⟩) hS ?_
      · intro w' hSw; go_simp
      try go_frame
      refine held_take 13 45 (v := .bool true) rfl rfl (by kernel_rfl) (by kernel_rfl) (by kernel_rfl) (fun _ _ _ h => h) (Or.inl ⟨by rfl, ?_⟩) hS ?_
      · intro w' hSw; go_simp
      try go_frame
      refine held_take 14 2 (v := .bool true) rfl rfl (by kernel_rfl) (by kernel_rfl) (by kernel_rfl) (fun _ _ _ h => h) (Or.inl ⟨by rfl, ?_⟩) hS ?_
      · intro w' hSw; go_simp
      try go_frame
      refine wpAnyH_done (by kernel_rfl) ?_ _
      go_wp2
      go_ret
      exact ⟨rfl, HK3.out.trans (hS.mono HK3.out.size)⟩

theorem laidOut : laidOutB Tryd.prog = true := by kernel_rfl
theorem walk (a : Option Addr) (len cap : Nat) (T : List ByteArray) (w : World) (h : IsTexts w a len T) (hl : len ≤ 9223372036854775807) (hg : Hid (Glob w)) :
    Calls Tryd.prog 3 #[.slice a len cap] w fun e w' => e = .returned (.bool true) ∧ Below w.heap.size w w' := by
  obtain ⟨e1, b1, off1, hab, hz⟩ := h
  exact core a b1 off1 len cap T w (Lib.hid e1) hl (Lib.hid hz) (Lib.hid hab) hg

theorem contract (H : Type) (enc : TypeId × Value → H) (W : World) (base : Nat) (args : Array Value) (ds gs : List (DataW H)) (before : List MemPlace)
    (hval : ∀ (j : Nat) t v, Tryd.f3.params[j]? = some t → args[j]? = some v → Value.okWide Tryd.prog W .any base t v)
    (hW : DataW.Whole enc Tryd.prog Tryd.f3.params.toList Rows.shaSumsSpec.vars false W args.toList ds gs before) (hL : laidMetH Tryd.prog Rows.shaSumsRow.laid W) :
    Calls Tryd.prog 3 args W fun e W' => ∃ v, e = .returned v ∧ Rows.shaSumsSpec.post enc Tryd.prog Tryd.f3 false true false false W args v W' := by
  have hW' := hW
  obtain ⟨p, q, hA0, hV, rfl, hfz, hnd⟩ := hW
  have hA : DataW.TrodAll enc Tryd.prog W 0 (fun _ => true) true Tryd.f3.params.toList args.toList ds p := hA0
  rw [Tryd.params3] at hA hval
  obtain ⟨v0, vs0, d0, ds0, p0, q0, hargs, rfl, rfl, h0, r0⟩ := trodAll_cons hA
  obtain ⟨rfl, rfl, rfl⟩ := trodAll_nil r0
  obtain rfl : args = #[v0] := by cases args; simp_all
  obtain ⟨rfl, rfl⟩ := trodVars_none hV
  obtain ⟨a0, len0, cap0, rfl⟩ := okWide_slice Tryd.underlying22 (hval 0 22 v0 rfl rfl)
  have k0 := h0
  have lt0 : ∀ x ∈ p0, x.block < W.heap.size := by obtain ⟨m, hm⟩ := k0; exact DataW.trod_lt m _ _ _ hm
  obtain ⟨T, i0, hl0⟩ : ∃ T, IsTexts W a0 len0 T ∧ len0 ≤ 9223372036854775807 := by
    obtain ⟨fuel, hf⟩ := h0
    rcases open_strings Tryd.underlying22 Tryd.underlying9 (by kernel_rfl) hf with ⟨hcs, _⟩ | ⟨x, l, c, ss, hcs, _, hl, hm, hz, hx, hcell, hws⟩
    · simp [Value.cells] at hcs
      obtain ⟨rfl, rfl, rfl⟩ := hcs
      exact ⟨[], ⟨rfl, 0, 0, .inl rfl, fun k hk => absurd hk (by simp)⟩, by omega⟩
    · simp [Value.cells] at hcs
      obtain ⟨rfl, rfl, rfl⟩ := hcs
      have hz' : ss.length = cap0 := by simpa using hz
      have hm' : cap0 ≤ 9223372036854775807 := hm
      exact ⟨ss.take len0, texts_is hl hz' hcell, by omega⟩
  clear hA0
  simp only [List.append_nil] at hW'
  refine (walk a0 len0 cap0 T W i0 hl0 (Lib.hid (glob_of hL))).mono fun e W' ⟨he, bel⟩ => ?_
  subst he
  exact ⟨_, rfl, _, _, _, [], _, [], hW', trodAll_mk1 (shut_bool Tryd.underlying4 _), (trodAll_cons_mk (Below.trod laidOut (by kernel_rfl) (of_decide_eq_true (by kernel_rfl)) k0 bel lt0) trodAll_mk0), rfl, bel.frame _, fun h => by cases h⟩

theorem laid_met (os : Os) : laidMet Tryd.prog Rows.shaSumsRow.laid ((laidWorld os).forCall (fun _ _ => 0) ⟨#[], #[.slice none 0 0], []⟩).memory :=
  laidMet_of_run' 8 (by kernel_rfl) (by kernel_rfl)
theorem reads (os : Os) {H : Type} (enc : TypeId × Value → H) : ∃ places, DataW.whole enc Tryd.prog ((laidWorld os).forCall (fun _ _ => 0) ⟨#[], #[.slice none 0 0], []⟩).memory Tryd.f3.params.toList Rows.shaSumsSpec.vars false #[Value.slice none 0 0].toList 8 = some ([.nil], [], places) :=
  ⟨[], by kernel_rfl⟩

set_option maxRecDepth 100000 in
theorem lifted (os : Os) (started : os.Started) (H : Type) (enc : TypeId × Value → H) (F : Stop.Interp) :
    ReturnsInHanded {} Tryd.checked os 3 .any ((OpenSpec.ofChange Rows.shaSumsSpec).preRow enc Tryd.prog Tryd.f3 Rows.shaSumsRow.domain false Rows.shaSumsRow.laid) (((OpenSpec.ofChange Rows.shaSumsSpec).at F).post enc Tryd.prog Tryd.f3 false true false false) := by
  obtain ⟨places, hx⟩ := reads os enc
  refine returnsInHanded_of_row (C := Tryd.checked) (s := OpenSpec.ofChange Rows.shaSumsSpec) own started (by kernel_rfl) Tryd.func3
    (witness_row_at (enc := enc) (C := Tryd.checked) false (laidWorld os) #[.slice none 0 0] rfl (by kernel_rfl) (by kernel_rfl) (by kernel_rfl)
      (OpenSpec.preRow_of_cond 8 hx (by kernel_rfl) (fun k hk => by cases hk) (by kernel_rfl) (laid_met os))) ?_
  intro W base args ds gs before hval hW _ _ _ hL _ _
  exact contract H enc W base args ds gs before hval hW hL

theorem said : Rows.ShaSumsSaid :=
  OpenClaim.holds_of_cond 3 Tryd.f3 rfl rfl rfl rfl rfl rfl rfl ⟨rfl, rfl, rfl, rfl, rfl⟩ rfl rfl rfl rfl rfl (by kernel_rfl) Tryd.func3 (by kernel_rfl)
    (of_decide_eq_true (by kernel_rfl)) (by unfold Func.isWrapper; first | (rw [if_pos (by decide +kernel)]; kernel_rfl) | (rw [if_neg (by decide +kernel)]; exact ⟨rfl, rfl⟩))
    (fun os started H enc _ F => by rw [OpenClaim.pre_eq_preRow]; exact lifted os started H enc F)

/-- No parameter wants a stand-in; the program's own looks are off. -/
theorem plain (f : FuncId) (fn : Func) (hf : Tryd.pinned.checked.prog.funcNamed "silo/silolaw03.ShaSums" = some f) (hfn : Tryd.pinned.checked.prog.funcs[f]? = some fn) :
    false = Tryd.pinned.checked.prog.looks [] ∧ ∀ (j : Nat) t, fn.params[j]? = some t → Tryd.pinned.checked.prog.wantsStandIn t = false := by
  obtain rfl : f = 3 := Option.some.inj ((show Tryd.prog.funcNamed "silo/silolaw03.ShaSums" = some 3 by kernel_rfl).symm.trans hf) |>.symm
  obtain rfl : fn = Tryd.f3 := (Option.some.inj (Tryd.func3.symm.trans hfn)).symm
  refine ⟨by kernel_rfl, fun j t ht => ?_⟩
  rw [Tryd.params3] at ht
  have hm : t ∈ [22] := by simpa using Array.mem_of_getElem? ht
  have hall : ([22].all fun u => !Tryd.prog.wantsStandIn u) = true := by kernel_rfl
  exact (show Tryd.prog.wantsStandIn t = false by simpa using List.all_eq_true.1 hall t hm)

/-- ████ THE CARD ████ -/
theorem proved : Rows.ShaSumsCardSaid :=
  Claim7.holds_tied_plain_at .later [] _ _ _ _ said (fun _ h => by cases h) (by kernel_rfl) (fun _ h => by cases h) shaSums_row_tie rfl ⟨rfl, rfl⟩ (by kernel_rfl) rfl plain (by kernel_rfl)
#print axioms proved
end Go.Proofs.YthgbjanefljjcaaDoor.shaSums
