/- ShaDigits: keys are told by their digits, and any text is a key's digits or none, as the document says. For every input; no condition beside the round numbers that the program lays (tied). -/
import Derived.Test.YthgbjanefljjcaaDoorShaLaid
import Derived.ChangeOld
set_option linter.unusedVariables false
namespace Go.Proofs.YthgbjanefljjcaaDoor.shaDigits
open Go.ChangeShapes Go.WideShapes Go.ChangeAt Go.RowKit
open Go.ChangeMaps (open_string)

/-- What both Parse answer. -/
theorem both_parse (s : ByteArray) : ∃ (A : List UInt8) (n : Nat) (ok : Bool), A.length = 32 ∧ ((ok = true ∧ n = 0 ∧ bs (hexL A) = s) ∨ (ok = false ∧ n = 3)) ∧
    (∀ w, s.size ≤ 9223372036854775807 → Calls Tryd.prog 10 #[.string s] w fun e w' => e = .returned (.tuple #[.agg (keyA A), .int .i64 (n : Int)]) ∧ Below w.heap.size w w') ∧
    (∀ w, s.size ≤ 9223372036854775807 → Calls Tryd.prog 11 #[.string s] w fun e w' => e = .returned (.tuple #[.agg (keyA A), .bool ok]) ∧ Below w.heap.size w w') := by
  by_cases hf : fine s.data.toList
  · refine ⟨parseK s.data.toList, 0, true, parseK_len _, .inl ⟨rfl, rfl, ?_⟩, fun w hs => (sha_Parse s w hs).mono ?_, fun w hs => (ref_Parse s w hs).mono ?_⟩
    · rw [parse_back hf]
      exact (bs_eq rfl).symm
    · rintro e w' ⟨l, n, rfl, h1, h2, k⟩
      obtain ⟨rfl, rfl⟩ := h1 hf
      exact ⟨rfl, k⟩
    · rintro e w' ⟨l, ok, rfl, h1, h2, h3, k⟩
      have hok : ok = true := h1.2 hf
      subst hok
      rw [h2 rfl]
      exact ⟨rfl, k⟩
  · refine ⟨zeroL, 3, false, rfl, .inr ⟨rfl, rfl⟩, fun w hs => (sha_Parse s w hs).mono ?_, fun w hs => (ref_Parse s w hs).mono ?_⟩
    · rintro e w' ⟨l, n, rfl, h1, h2, k⟩
      obtain ⟨rfl, rfl⟩ := h2 hf
      exact ⟨rfl, k⟩
    · rintro e w' ⟨l, ok, rfl, h1, h2, h3, k⟩
      have hok : ok = false := by
        cases ok with
        | false => rfl
        | true => exact absurd (h1.1 rfl) hf
      subst hok
      rw [h3 rfl]
      exact ⟨rfl, k⟩
/-- The digits of a key are that key. -/
theorem hex_parse (l : List UInt8) (hl : l.length = 32) (w : World) : Calls Tryd.prog 10 #[.string (bs (hexL l))] w fun e w' => e = .returned (.tuple #[.agg (keyA l), .int .i64 0]) ∧ Below w.heap.size w w' := by
  obtain ⟨hf, hb⟩ := hex_fine hl
  refine (sha_Parse (bs (hexL l)) w (by rw [bs_size, hexL_len]; omega)).mono ?_
  rintro e w' ⟨m, n, rfl, h1, h2, k⟩
  rw [bs_list] at h1
  obtain ⟨rfl, rfl⟩ := h1 hf
  rw [hb]
  exact ⟨rfl, k⟩

/-- A key that is laid into a block of its own. -/
theorem lay_there (w : World) (ka : Array Value) (h : ka.size = 32) : (w.alloc (.cells (Array.replicate 32 (.int .u8 0)) 25)).there w.heap.size 0 ka.size := by rw [h]; exact key_there (key8_new w 25)
theorem lay_below (w : World) (ka : Array Value) : Below w.heap.size w ((w.alloc (.cells (Array.replicate 32 (.int .u8 0)) 25)).setCells w.heap.size 0 ka.toList) := below_setCells (Nat.le_refl _) _ 0 ((Below.refl _ _).alloc (Nat.le_refl _) _)
theorem lay_range (w : World) (ka : Array Value) (h : ka.size = 32) : ((w.alloc (.cells (Array.replicate 32 (.int .u8 0)) 25)).setCells w.heap.size 0 ka.toList).rangeAt w.heap.size 0 ka.toList := World.rangeAt_setCells_same _ _ 0 _ (by simpa using lay_there w ka h)
theorem lay_lt (w : World) (ka : Array Value) : w.heap.size < ((w.alloc (.cells (Array.replicate 32 (.int .u8 0)) 25)).setCells w.heap.size 0 ka.toList).heap.size := by
  have h1 := (below_setCells (Nat.le_refl _) ka.toList 0 (Below.refl w.heap.size (w.alloc (.cells (Array.replicate 32 (.int .u8 0)) 25)))).size
  have h2 : w.heap.size < (w.alloc (.cells (Array.replicate 32 (.int .u8 0)) 25)).heap.size := by simp
  exact Nat.lt_of_lt_of_le h2 h1

theorem seen_at {W : World} {b : Nat} {cs : List Value} (h : W.rangeAt b 0 cs) (hb : b < W.heap.size) : ∀ w, (∃ n : Seen W, w = n.val) → w.rangeAt b 0 cs := by
  rintro _ ⟨n, rfl⟩
  exact rangeAt_below h n.below hb

set_option maxHeartbeats 4000000 in
set_option maxRecDepth 100000 in
theorem core (k : List UInt8) (s : ByteArray) (w : World) (hk : Hid (k.length = 32)) (hs : s.size ≤ 9223372036854775807) (hg : Hid (Glob w)) :
    Calls Tryd.prog 4 #[.agg (keyA k), .string s] w fun e w' => e = .returned (.bool true) ∧ Below w.heap.size w w' := by
  obtain ⟨A, n, ok, hA, hok, hp1, hp2⟩ := both_parse s
  have HP1 := Lib.hid (fun w => hp1 w hs)
  have HP2 := Lib.hid (fun w => hp2 w hs)
  have HP3 := Lib.hid (fun w => hex_parse k hk.out w)
  have HX1 := Lib.hid (fun w => sha_Hex k w hk)
  have HX2 := Lib.hid (fun w => ref_Hex k w hk)
  have HX3 := Lib.hid (fun w => sha_Hex A w (Lib.hid hA))
  have HIK := Lib.hid (info25 k hk.out)
  have HIA := Lib.hid (info25 A hA)
  have HSK := Lib.hid (info25s k hk.out)
  have HSA := Lib.hid (info25s A hA)
  have HNK := Lib.hid (show (keyA k).size = 32 by rw [keyA_size, hk.out])
  have HNA := Lib.hid (show (keyA A).size = 32 by rw [keyA_size, hA])
  have HOK := Lib.hid (keyA_one k)
  have HOA := Lib.hid (keyA_one A)
  have heK := eq_keys k k hk.out hk.out
  have heA := eq_keys A A hA hA
  rw [beq_self_eq_true] at heK heA
  have HEK := Lib.hid heK
  have HEA := Lib.hid heA
  have HRK := Lib.hid (keyA_range w k 25)
  have HOKK := Lib.hid hok
  clear hp1 hp2 heK heA hok
  obtain ⟨ka, hka⟩ : ∃ x, x = keyA k := ⟨_, rfl⟩
  obtain ⟨kA, hkA⟩ : ∃ x, x = keyA A := ⟨_, rfl⟩
  rw [← hka] at HP3 HX1 HX2 HIK HSK HNK HOK HEK HRK
  rw [← hkA] at HP1 HP2 HX3 HIA HSA HNA HOA HEA
  rw [← hka]
  clear hka hkA
  obtain ⟨hx, hhx⟩ : ∃ x, x = bs (hexL k) := ⟨_, rfl⟩
  rw [← hhx] at HP3 HX1 HX2
  obtain ⟨sA, hsA⟩ : ∃ x, x = bs (hexL A) := ⟨_, rfl⟩
  rw [← hsA] at HX3 HOKK
  clear hhx hsA
  obtain ⟨W1, hW1⟩ : ∃ W1, W1 = w.alloc (.cells ka 25) := ⟨_, rfl⟩
  obtain ⟨H, hH⟩ : ∃ H, H = w.heap.size := ⟨_, rfl⟩
  have HB1 := Lib.hid (show Below w.heap.size w W1 by rw [hW1]; exact (Below.refl _ _).alloc (Nat.le_refl _) _)
  rw [← hW1, ← hH] at HRK
  have HH1 := Lib.hid (show H < W1.heap.size by rw [hW1, hH]; simp)
  have HW1 := Lib.hid hW1
  have HH := Lib.hid hH
  clear hW1 hH hA
  go_enter Tryd.func4, Tryd.ntmps4
  go_upto_region 1 with (fail)
  change Code.wp _ _ _ _ (w.alloc (.cells ka 25))
  rw [← HW1.out, ← HH.out]
  go_wp2_with fail
  refine (HP1.out W1).mono ?_
  rintro e w2 ⟨rfl, k2⟩
  have HT2 := Lib.hid (lay_there w2 kA HNA.out)
  have HR2 := Lib.hid (lay_range w2 kA HNA.out)
  have HL2 := Lib.hid (lay_lt w2 kA)
  have HB2 := Lib.hid ((HB1.out.trans (k2.mono HB1.out.size)).trans ((lay_below w2 kA).mono (HB1.out.trans (k2.mono HB1.out.size)).size))
  have HK2 := Lib.hid (rangeAt_below (rangeAt_below HRK.out k2 HH1.out) (lay_below w2 kA) (Nat.lt_of_lt_of_le HH1.out k2.size))
  have HZ2 := Lib.hid k2.size
  clear k2
  go_upto_region 2 with (first | (refine wpList_store_mid rfl 25 (.tmp 5) (.tmp 14) rfl w2.heap.size 0 kA rfl rfl HT2.out HSA.out HOA.out ?_))
  change Code.wp _ _ _ _ ((w2.alloc (.cells (Array.replicate 32 (.int .u8 0)) 25)).setCells w2.heap.size 0 kA.toList)
  try go_frame
  generalize (w2.alloc (.cells (Array.replicate 32 (.int .u8 0)) 25)).setCells w2.heap.size 0 kA.toList = V2 at *
  generalize w2.heap.size = B2 at *
  have HH2 := Lib.hid (show H < V2.heap.size by have := HH1.out; have := HZ2.out; have := HL2.out; omega)
  go_wp2_with fail
  refine (HP2.out V2).mono ?_
  rintro e w3 ⟨rfl, k3⟩
  have HT3 := Lib.hid (lay_there w3 kA HNA.out)
  have HR3 := Lib.hid (lay_range w3 kA HNA.out)
  have HL3 := Lib.hid (lay_lt w3 kA)
  have hb3 := k3.trans ((lay_below w3 kA).mono k3.size)
  have HB3 := Lib.hid (HB2.out.trans (hb3.mono HB2.out.size))
  have HK3 := Lib.hid (rangeAt_below HK2.out hb3 HH2.out)
  have HR23 := Lib.hid (rangeAt_below HR2.out hb3 HL2.out)
  have HZ3 := Lib.hid hb3.size
  clear k3 hb3
  go_upto_region 3 with (first | (refine wpList_store_mid rfl 25 (.tmp 7) (.tmp 19) rfl w3.heap.size 0 kA rfl rfl HT3.out HSA.out HOA.out ?_))
  change Code.wp _ _ _ _ ((w3.alloc (.cells (Array.replicate 32 (.int .u8 0)) 25)).setCells w3.heap.size 0 kA.toList)
  try go_frame
  generalize (w3.alloc (.cells (Array.replicate 32 (.int .u8 0)) 25)).setCells w3.heap.size 0 kA.toList = V3 at *
  generalize w3.heap.size = B3 at *
  have HH3 := Lib.hid (show H < V3.heap.size by have := HH2.out; have := HZ3.out; omega)
  have HL23 := Lib.hid (show B2 < V3.heap.size by have := HL2.out; have := HZ3.out; omega)
  go_wp2_with (first | (refine wpList_load_arr (by rfl) 25 (.tmp 2) rfl H 0 rfl ka _ HK3.out Tryd.underlying25 rfl HIK.out ?_))
  refine (HX1.out V3).mono ?_
  rintro e w4 ⟨rfl, k4⟩
  go_wp2_with fail
  refine (HP3.out w4).mono ?_
  rintro e w5 ⟨rfl, k5⟩
  have HT4 := Lib.hid (lay_there w5 ka HNK.out)
  have HR4 := Lib.hid (lay_range w5 ka HNK.out)
  have HL4 := Lib.hid (lay_lt w5 ka)
  have h45 := k4.trans (k5.mono k4.size)
  have hb4 := h45.trans ((lay_below w5 ka).mono h45.size)
  have HB4 := Lib.hid (HB3.out.trans (hb4.mono HB3.out.size))
  have HK4 := Lib.hid (rangeAt_below HK3.out hb4 HH3.out)
  have HR24 := Lib.hid (rangeAt_below HR23.out hb4 HL23.out)
  have HR34 := Lib.hid (rangeAt_below HR3.out hb4 HL3.out)
  have HZ4 := Lib.hid hb4.size
  clear k4 k5 h45 hb4
  go_upto_region 4 with (first | (refine wpList_store_mid rfl 25 (.tmp 9) (.tmp 25) rfl w5.heap.size 0 ka rfl rfl HT4.out HSK.out HOK.out ?_))
  change Code.wp _ _ _ _ ((w5.alloc (.cells (Array.replicate 32 (.int .u8 0)) 25)).setCells w5.heap.size 0 ka.toList)
  try go_frame
  generalize (w5.alloc (.cells (Array.replicate 32 (.int .u8 0)) 25)).setCells w5.heap.size 0 ka.toList = V4 at *
  generalize w5.heap.size = B4 at *
  have HH4 := Lib.hid (show H < V4.heap.size by have := HH3.out; have := HZ4.out; omega)
  have HL24 := Lib.hid (show B2 < V4.heap.size by have := HL23.out; have := HZ4.out; omega)
  have HL34 := Lib.hid (show B3 < V4.heap.size by have := HL3.out; have := HZ4.out; omega)
  have HG4 := Lib.hid (hg.out.keep HB4.out hg.out.1)
  have heK := HEK.out
  have heA := HEA.out
  rcases HOKK.out with ⟨rfl, rfl, hback⟩ | ⟨rfl, rfl⟩
  · subst hback
    refine region_seen (by kernel_rfl) (by kernel_rfl) ?_
    repeat (first | (go_big_quiet_want; refine quiet_load_arr 25 (.tmp 2) rfl H 0 rfl ka _ (seen_at HK4.out HH4.out) Tryd.underlying25 rfl HIK.out ?_; go_big_quiet_on; try go_frame) | (go_big_quiet_want; refine quiet_load_arr 25 (.tmp 5) rfl B2 0 rfl kA _ (seen_at HR24.out HL24.out) Tryd.underlying25 rfl HIA.out ?_; go_big_quiet_on; try go_frame) | (go_big_quiet_want; refine quiet_load_arr 25 (.tmp 7) rfl B3 0 rfl kA _ (seen_at HR34.out HL34.out) Tryd.underlying25 rfl HIA.out ?_; go_big_quiet_on; try go_frame) | (go_big_quiet_want; refine quiet_load_arr 25 (.tmp 9) rfl B4 0 rfl ka _ (seen_at HR4.out HL4.out) Tryd.underlying25 rfl HIK.out ?_; go_big_quiet_on; try go_frame) | go_big_quiet_step (first | (go_at_call 7; with_reducible exact seen_awake _ HG4 _) | (go_at_call 12; with_reducible exact seen_of HX1.out _ _) | (go_at_call 13; with_reducible exact seen_of HX2.out _ _) | (go_at_call 12; with_reducible exact seen_of HX3.out _ _)))
    refine wpQuiet_nil ?_
    rintro _ ⟨m2, rfl⟩
    go_wp2
    go_ret
    exact ⟨rfl, HB4.out.trans (m2.below.mono HB4.out.size)⟩
  · refine region_seen (by kernel_rfl) (by kernel_rfl) ?_
    repeat (first | (go_big_quiet_want; refine quiet_load_arr 25 (.tmp 2) rfl H 0 rfl ka _ (seen_at HK4.out HH4.out) Tryd.underlying25 rfl HIK.out ?_; go_big_quiet_on; try go_frame) | (go_big_quiet_want; refine quiet_load_arr 25 (.tmp 5) rfl B2 0 rfl kA _ (seen_at HR24.out HL24.out) Tryd.underlying25 rfl HIA.out ?_; go_big_quiet_on; try go_frame) | (go_big_quiet_want; refine quiet_load_arr 25 (.tmp 7) rfl B3 0 rfl kA _ (seen_at HR34.out HL34.out) Tryd.underlying25 rfl HIA.out ?_; go_big_quiet_on; try go_frame) | (go_big_quiet_want; refine quiet_load_arr 25 (.tmp 9) rfl B4 0 rfl ka _ (seen_at HR4.out HL4.out) Tryd.underlying25 rfl HIK.out ?_; go_big_quiet_on; try go_frame) | go_big_quiet_step (first | (go_at_call 7; with_reducible exact seen_awake _ HG4 _) | (go_at_call 12; with_reducible exact seen_of HX1.out _ _) | (go_at_call 13; with_reducible exact seen_of HX2.out _ _) | (go_at_call 12; with_reducible exact seen_of HX3.out _ _)))
    refine wpQuiet_nil ?_
    rintro _ ⟨m2, rfl⟩
    go_wp2
    go_ret
    exact ⟨rfl, HB4.out.trans (m2.below.mono HB4.out.size)⟩

theorem laidOut : laidOutB Tryd.prog = true := by kernel_rfl
theorem contract (H : Type) (enc : TypeId × Value → H) (W : World) (base : Nat) (args : Array Value) (ds gs : List (DataW H)) (before : List MemPlace)
    (hval : ∀ (j : Nat) t v, Tryd.f4.params[j]? = some t → args[j]? = some v → Value.okWide Tryd.prog W .any base t v)
    (hW : DataW.Whole enc Tryd.prog Tryd.f4.params.toList Rows.shaDigitsSpec.vars false W args.toList ds gs before) (hL : laidMetH Tryd.prog Rows.shaDigitsRow.laid W) :
    Calls Tryd.prog 4 args W fun e W' => ∃ v, e = .returned v ∧ Rows.shaDigitsSpec.post enc Tryd.prog Tryd.f4 false true false false W args v W' := by
  have hW' := hW
  obtain ⟨p, q, hA0, hV, rfl, hfz, hnd⟩ := hW
  have hA : DataW.TrodAll enc Tryd.prog W 0 (fun _ => true) true Tryd.f4.params.toList args.toList ds p := hA0
  rw [Tryd.params4] at hA hval
  obtain ⟨v0, vs0, d0, ds0, p0, q0, hargs0, rfl, rfl, h0, r0⟩ := trodAll_cons hA
  obtain ⟨v1, vs1, d1, ds1, p1, q1, rfl, rfl, rfl, h1, r1⟩ := trodAll_cons r0
  obtain ⟨rfl, rfl, rfl⟩ := trodAll_nil r1
  obtain rfl : args = #[v0, v1] := by cases args; simp_all
  obtain ⟨rfl, rfl⟩ := trodVars_none hV
  obtain ⟨l0, hl0, rfl⟩ := open_key (hval 0 25 v0 rfl rfl) h0
  have k1s := h1
  obtain ⟨s1, rfl, ed1, ep1, ws1⟩ := open_string Tryd.underlying9 (hval 1 9 v1 rfl rfl) k1s
  have lt0 : ∀ x ∈ p0, x.block < W.heap.size := by obtain ⟨m, hm⟩ := h0; exact DataW.trod_lt m _ _ _ hm
  have lt1 : ∀ x ∈ p1, x.block < W.heap.size := by obtain ⟨m, hm⟩ := h1; exact DataW.trod_lt m _ _ _ hm
  clear hA0
  simp only [List.append_nil] at hW'
  refine (core l0 s1 W (Lib.hid hl0) ws1 (Lib.hid (glob_of hL))).mono fun e W' ⟨he, bel⟩ => ?_
  subst he
  exact ⟨_, rfl, _, _, _, [], _, [], hW', trodAll_mk1 (shut_bool Tryd.underlying4 _), (trodAll_cons_mk (Below.trod laidOut (by kernel_rfl) (of_decide_eq_true (by kernel_rfl)) h0 bel lt0) (trodAll_cons_mk (Below.trod laidOut (by kernel_rfl) (of_decide_eq_true (by kernel_rfl)) h1 bel lt1) trodAll_mk0)), rfl, bel.frame _, fun h => by cases h⟩

theorem laid_met (os : Os) : laidMet Tryd.prog Rows.shaDigitsRow.laid ((laidWorld os).forCall (fun _ _ => 0) ⟨#[], #[.agg (Array.replicate 32 (.int .u8 0)), .string ⟨#[]⟩], []⟩).memory :=
  laidMet_of_run' 8 (by kernel_rfl) (by kernel_rfl)
theorem reads (os : Os) {H : Type} (enc : TypeId × Value → H) : ∃ places, DataW.whole enc Tryd.prog ((laidWorld os).forCall (fun _ _ => 0) ⟨#[], #[.agg (Array.replicate 32 (.int .u8 0)), .string ⟨#[]⟩], []⟩).memory Tryd.f4.params.toList Rows.shaDigitsSpec.vars false #[Value.agg (Array.replicate 32 (Value.int .u8 0)), Value.string ⟨#[]⟩].toList 8 = some ([.agg (List.replicate 32 (.lit (.int .u8 0))), .lit (.string [])], [], places) :=
  ⟨[], by kernel_rfl⟩

set_option maxRecDepth 100000 in
theorem lifted (os : Os) (started : os.Started) (H : Type) (enc : TypeId × Value → H) (F : Stop.Interp) :
    ReturnsInHanded {} Tryd.checked os 4 .any ((OpenSpec.ofChange Rows.shaDigitsSpec).preRow enc Tryd.prog Tryd.f4 Rows.shaDigitsRow.domain false Rows.shaDigitsRow.laid) (((OpenSpec.ofChange Rows.shaDigitsSpec).at F).post enc Tryd.prog Tryd.f4 false true false false) := by
  obtain ⟨places, hx⟩ := reads os enc
  refine returnsInHanded_of_row (C := Tryd.checked) (s := OpenSpec.ofChange Rows.shaDigitsSpec) own started (by kernel_rfl) Tryd.func4
    (witness_row_at (enc := enc) (C := Tryd.checked) false (laidWorld os) #[.agg (Array.replicate 32 (.int .u8 0)), .string ⟨#[]⟩] rfl (by kernel_rfl) (by kernel_rfl) (by kernel_rfl)
      (OpenSpec.preRow_of_cond 8 hx (by kernel_rfl) (fun k hk => by cases hk) (by kernel_rfl) (laid_met os))) ?_
  intro W base args ds gs before hval hW _ _ _ hL _ _
  exact contract H enc W base args ds gs before hval hW hL

theorem said : Rows.ShaDigitsSaid :=
  OpenClaim.holds_of_cond 4 Tryd.f4 rfl rfl rfl rfl rfl rfl rfl ⟨rfl, rfl, rfl, rfl, rfl⟩ rfl rfl rfl rfl rfl (by kernel_rfl) Tryd.func4 (by kernel_rfl)
    (of_decide_eq_true (by kernel_rfl)) (by unfold Func.isWrapper; first | (rw [if_pos (by decide +kernel)]; kernel_rfl) | (rw [if_neg (by decide +kernel)]; exact ⟨rfl, rfl⟩))
    (fun os started H enc _ F => by rw [OpenClaim.pre_eq_preRow]; exact lifted os started H enc F)

/-- No parameter wants a stand-in; the program's own looks are off. -/
theorem plain (f : FuncId) (fn : Func) (hf : Tryd.pinned.checked.prog.funcNamed "silo/silolaw03.ShaDigits" = some f) (hfn : Tryd.pinned.checked.prog.funcs[f]? = some fn) :
    false = Tryd.pinned.checked.prog.looks [] ∧ ∀ (j : Nat) t, fn.params[j]? = some t → Tryd.pinned.checked.prog.wantsStandIn t = false := by
  obtain rfl : f = 4 := Option.some.inj ((show Tryd.prog.funcNamed "silo/silolaw03.ShaDigits" = some 4 by kernel_rfl).symm.trans hf) |>.symm
  obtain rfl : fn = Tryd.f4 := (Option.some.inj (Tryd.func4.symm.trans hfn)).symm
  refine ⟨by kernel_rfl, fun j t ht => ?_⟩
  rw [Tryd.params4] at ht
  have hm : t ∈ [25, 9] := by simpa using Array.mem_of_getElem? ht
  have hall : ([25, 9].all fun u => !Tryd.prog.wantsStandIn u) = true := by kernel_rfl
  exact (show Tryd.prog.wantsStandIn t = false by simpa using List.all_eq_true.1 hall t hm)

/-- ████ THE CARD ████ -/
theorem proved : Rows.ShaDigitsCardSaid :=
  Claim7.holds_tied_plain_at .later [] _ _ _ _ said (fun _ h => by cases h) (by kernel_rfl) (fun _ h => by cases h) shaDigits_row_tie rfl ⟨rfl, rfl⟩ (by kernel_rfl) rfl plain (by kernel_rfl)
#print axioms proved
end Go.Proofs.YthgbjanefljjcaaDoor.shaDigits
