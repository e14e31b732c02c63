/- DiskSure: what was made sure is there behind any loss of power, and what else is there then is the beginning of what there was. For every input; no condition. -/
import Derived.Test.YtgmfcjmbapmagaaRows
import Derived.Test.YtgmfcjmbapmagaaDiskSurePlain
import Derived.Below
import Derived.WalkKit
import Derived.ProofKit
import Derived.OpenShut
import Derived.ShutString
namespace Go.Proofs.Ytgmfcjmbapmagaa.diskSure
open Go.ChangeShapes Go.WideShapes Go.ChangeAt Go.RowKit
open Go.ChangeMaps (open_string shut_string)
set_option linter.unusedVariables false

theorem own : ownKnob Try.prog.godebug = none := by kernel_rfl
theorem laidOut : laidOutB Try.prog = true := by kernel_rfl
theorem bs_join (l m : List UInt8) : bs l ++ bs m = bs (l ++ m) := by rw [cat_bs, bs_list]
theorem bs_nil (l : List UInt8) : bs l ++ (⟨#[]⟩ : ByteArray) = bs l := by rw [show (⟨#[]⟩ : ByteArray) = bs [] from rfl, bs_join, List.append_nil]

set_option maxHeartbeats 4000000 in
set_option maxRecDepth 100000 in
theorem walk (a : Option Addr) (len cap : Nat) (os : List OP) (file : Int) (S M : List UInt8) (ka : Option Addr) (kl kc : Nat) (ks : List (Int × Int)) (w : World) (h : IsOps w a len os) (hfw : (Lit.int .i64 file).wf = true) (hS : S.length ≤ 9223372036854775807) (hM : M.length ≤ 9223372036854775807) (hks : IsKeeps w ka kl ks) :
    Calls Try.prog 3 #[.slice a len cap, .int .i64 file, .string (bs S), .string (bs M), .slice ka kl kc] w fun e w' => e = .returned (.bool true) ∧ Below w.heap.size w w' := by
  have hA := law_awake w
  have HI := Lib.hid h
  have HKS := Lib.hid hks
  have hsS : (bs S).size = S.length := bs_size S
  have hsM : (bs M).size = M.length := bs_size M
  have HSS := Lib.hid hsS
  have HSM := Lib.hid hsM
  have s1 : (bs S).size ≤ 9223372036854775807 := by omega
  have m1 : (bs M).size ≤ 9223372036854775807 := by omega
  clear h hks hsS hsM hS hM
  go_enter Try.func3, Try.ntmps3
  go_wp2_with fail
  refine hA.mono ?_
  rintro e w1 ⟨rfl, b1⟩
  have B1 := Lib.hid b1
  have I1 := Lib.hid (HI.out.below b1)
  clear b1 hA
  go_wp2_with fail
  refine (law_few a len cap os w1 I1.out).mono ?_
  rintro e w2 ⟨fb, rfl, hfew, rfl⟩
  cases fb with
  | false =>
    clear hfew
    have hA := law_awake w1
    go_wp2_with fail
    refine hA.mono ?_
    rintro e w2 ⟨rfl, b2⟩
    have B2 := Lib.hid (B1.out.trans (b2.mono B1.out.size))
    clear b2 hA
    go_wp2
    go_ret
    exact ⟨rfl, B2.out⟩
  | true =>
    have FEW := Lib.hid (hfew rfl)
    clear hfew
    by_cases c1 : 1000 < ((bs S).size : Int)
    · have c1' := c1
      have hA := law_awake w1
      go_wp2_with fail
      refine hA.mono ?_
      rintro e w2 ⟨rfl, b2⟩
      have B2 := Lib.hid (B1.out.trans (b2.mono B1.out.size))
      clear b2 hA
      go_wp2
      go_ret
      exact ⟨rfl, B2.out⟩
    have c1' : ((bs S).size : Int) ≤ 1000 := by omega
    by_cases c2 : 1000 < ((bs M).size : Int)
    · have c2' := c2
      have hA := law_awake w1
      go_wp2_with fail
      refine hA.mono ?_
      rintro e w2 ⟨rfl, b2⟩
      have B2 := Lib.hid (B1.out.trans (b2.mono B1.out.size))
      clear b2 hA
      go_wp2
      go_ret
      exact ⟨rfl, B2.out⟩
    have c2' : ((bs M).size : Int) ≤ 1000 := by omega
    by_cases c3 : file < 1
    · have c3' := c3
      have hA := law_awake w1
      go_wp2_with fail
      refine hA.mono ?_
      rintro e w2 ⟨rfl, b2⟩
      have B2 := Lib.hid (B1.out.trans (b2.mono B1.out.size))
      clear b2 hA
      go_wp2
      go_ret
      exact ⟨rfl, B2.out⟩
    have c3' : 1 ≤ file := by omega
    clear c1 c2 c3
    have hN := at_New 5000 5000 w1 (by omega) (by omega)
    go_wp2_with fail
    refine hN.mono ?_
    rintro e w2 ⟨d, rfl, at2, b2⟩
    have A2 := Lib.hid at2
    have B2 := Lib.hid b2
    clear b2 at2 hN
    go_wp2_with fail
    go_loopw [13] (fun i wr => ∃ k : Nat, k ≤ len ∧ i = .int .i64 k ∧ ∃ s, At w1.heap.size wr d s ∧ Calm s ∧ s.steps ≤ k ∧ Below w1.heap.size w1 wr) (fun i _ => len - (RowKit.intOf i).toNat)
    case atStart => exact ⟨0, Nat.zero_le _, rfl, _, A2.out, calm_new _ _, Nat.le_refl _, B2.out⟩
    case round =>
      obtain ⟨k, hk, rfl, s, hat, hcalm, hst, hbr⟩ := hrel
      have hlen200 := FEW.out.len
      have hmax := HI.out.2.1
      by_cases hlt : k < len
      · obtain ⟨hlen, _, b, off, ha, hrow⟩ := I1.out
        have hlt0 : k < os.length := by omega
        obtain ⟨r1, r2, r3⟩ := hrow k hlt0
        obtain rfl : a = some ⟨b, off, none⟩ := by rcases ha with x | x; (omega); (exact x)
        obtain ⟨t1, t2⟩ := FEW.out.text os[k] (List.getElem_mem hlt0)
        obtain ⟨o, ho⟩ : ∃ o, o = os[k] := ⟨_, rfl⟩
        rw [← ho] at r2 r3 t1 t2
        obtain ⟨kd, tr, fl, ap, sz, tx, xa, xl, xc, xs⟩ := o
        have hin : ∀ j, j < 7 → wr.cell? ⟨b, off + k * 7 + j, none⟩ = (OP.vals ⟨kd, tr, fl, ap, sz, tx, xa, xl, xc, xs⟩)[j]? := fun j hj => by rw [hbr.cell r1]; exact r2 j hj
        have d0 : wr.cell? ⟨b, off + k * 7, none⟩ = some (.int .i64 kd) := hin 0 (by omega)
        have d1 : wr.cell? ⟨b, off + k * 7 + 1, none⟩ = some (.int .i64 tr) := hin 1 (by omega)
        have d2 : wr.cell? ⟨b, off + k * 7 + 2, none⟩ = some (.int .i64 fl) := hin 2 (by omega)
        have d3 : wr.cell? ⟨b, off + k * 7 + 3, none⟩ = some (.int .i64 ap) := hin 3 (by omega)
        have d4 : wr.cell? ⟨b, off + k * 7 + 4, none⟩ = some (.int .i64 sz) := hin 4 (by omega)
        have d5 : wr.cell? ⟨b, off + k * 7 + 5, none⟩ = some (.string (bs tx)) := hin 5 (by omega)
        have d6 : wr.cell? ⟨b, off + k * 7 + 6, none⟩ = some (.slice xa xl xc) := hin 6 (by omega)
        have hdo := at_do hat ⟨kd, tr, fl, ap, sz, tx, xa, xl, xc, xs⟩ (r3.below hbr) (by omega) (by show tx.length ≤ _; have : tx.length ≤ 100000 := t1; omega)
        obtain ⟨q1, q2, _⟩ := do_calm hcalm ⟨kd, tr, fl, ap, sz, tx, xa, xl, xc, xs⟩
        obtain ⟨s2, e2, hse⟩ : ∃ s2 e2, doS s ⟨kd, tr, fl, ap, sz, tx, xa, xl, xc, xs⟩ = (s2, e2) := ⟨_, _, rfl⟩
        rw [hse] at hdo q1 q2
        simp only [OP.vals] at hdo
        simp only at q1 q2 hdo
        have HC := Lib.hid q1
        have HST := Lib.hid (Nat.le_trans q2 (Nat.succ_le_succ hst))
        have hlt' : (k : Int) < len := by omega
        have HBR := Lib.hid hbr
        clear hse q1 q2 hat hcalm hst hbr r1 r2 r3 ho hlen ha hrow hin t1 t2 hlt0
        go_wp2_with (go_at_call 11; refine hdo.mono ?_; rintro e w3 ⟨rfl, at3, b3⟩; have HX := Lib.hid at3; have HB := Lib.hid (HBR.out.trans b3); clear at3 b3)
        go_roundw
        case rel => exact ⟨k + 1, by omega, by go_num, s2, HX.out, HC.out, by have := HST.out; omega, HB.out⟩
        case measure => simp [RowKit.intOf]; omega
      · have hk200 : k ≤ 200 := by have := I1.out.1; omega
        have HB3 := Lib.hid hbr
        have hback := at_Back hat none 0 0 [] (IsKeeps.nil wr)
        have HST := Lib.hid hst
        have hcb := calm_back s []
        have hstb : (s.back []).steps ≤ 200 := by show s.steps ≤ 200; omega
        obtain ⟨s3, hs3⟩ : ∃ s3, s3 = s.back [] := ⟨_, rfl⟩
        rw [← hs3] at hback hcb hstb
        clear hs3 hat hcalm hst hbr
        have hmake := make_then hcb c3'
        have HCB := Lib.hid hcb
        clear hcb hlen200 hmax
        rcases hmake with e7 | ⟨s4, c, f, e4, hc0, hc4, hst4, hf4⟩
        · have hmk : ∀ W, At w1.heap.size W d s3 → Calls Try.prog 13 #[.pointer (some ⟨d, 0, none⟩), .int .i64 0, .int .i64 file] W fun e w' => e = .returned (.int .i64 7) ∧ At w1.heap.size w' d s3 ∧ Below w1.heap.size W w' := fun W hW => by
            have := at_Make hW 0 file hfw (by omega)
            rw [e7] at this
            exact this
          clear e7
          go_wp2_with (first
            | (go_at_call 12; refine hback.mono ?_; rintro e w3 ⟨rfl, at3, b3⟩; have A3 := Lib.hid at3; have B3 := Lib.hid (HB3.out.trans b3); clear at3 b3 hback)
            | (go_at_call 13; refine (hmk _ A3.out).mono ?_; rintro e w4 ⟨rfl, at4, b4⟩; have B4 := Lib.hid (B3.out.trans b4); clear at4 b4))
          go_ret
          exact ⟨rfl, B1.out.trans (B4.out.mono B1.out.size)⟩
        · have hmk : ∀ W, At w1.heap.size W d s3 → Calls Try.prog 13 #[.pointer (some ⟨d, 0, none⟩), .int .i64 0, .int .i64 file] W fun e w' => e = .returned (.int .i64 c) ∧ At w1.heap.size w' d s4 ∧ Below w1.heap.size W w' := fun W hW => by
            have := at_Make hW 0 file hfw (by omega)
            rw [e4] at this
            exact this
          have hc7 : (c == 7) = false := by simp; omega
          have hsz : ∀ W, At w1.heap.size W d s4 → Calls Try.prog 14 #[.pointer (some ⟨d, 0, none⟩), .int .i64 file] W fun e w' => e = .returned (.tuple #[.int .i64 (f.data.length : Int), .int .i64 f.t, .int .i64 0]) ∧ ∃ m, w' = W.drewN m := fun W hW => by
            have := disk_Size hW.1 file hfw
            rw [size_there hc4 hf4] at this
            exact this
          have hrd : ∀ W, At w1.heap.size W d s4 → Calls Try.prog 15 #[.pointer (some ⟨d, 0, none⟩), .int .i64 file, .int .i64 0, .int .i64 (f.data.length : Int)] W fun e w' => e = .returned (.tuple #[.string (bs f.data), .int .i64 0]) ∧ W = w' := fun W hW => by
            have := disk_Read hW.1 file 0 (f.data.length : Int) hfw (by omega)
            rw [read_at hc4 hf4 _ (Nat.le_refl _), List.take_length] at this
            exact this
          have hSb : S.length ≤ 2305843009213693952 := by have := HSS.out; omega
          have hMb : M.length ≤ 2305843009213693952 := by have := HSM.out; omega
          rcases add_then hc4 hf4 S with e5 | ⟨s5, e5, hc5, hst5, hf5⟩
          · have hadd : ∀ W, At w1.heap.size W d s4 → Calls Try.prog 16 #[.pointer (some ⟨d, 0, none⟩), .int .i64 file, .string (bs S)] W fun e w' => e = .returned (.int .i64 7) ∧ At w1.heap.size w' d s4 ∧ Below w1.heap.size W w' := fun W hW => by
              have := at_Add hW file S hfw (by omega) hSb
              rw [e5] at this
              exact this
            clear e5 e4 hf4
            go_wp2_with (first
              | (go_at_call 12; refine hback.mono ?_; rintro e w3 ⟨rfl, at3, b3⟩; have A3 := Lib.hid at3; have B3 := Lib.hid (HB3.out.trans b3); clear at3 b3 hback)
              | (go_at_call 13; refine (hmk _ A3.out).mono ?_; rintro e w4 ⟨rfl, at4, b4⟩; have A4 := Lib.hid at4; have B4 := Lib.hid (B3.out.trans b4); clear at4 b4)
              | (go_at_call 14; refine (hsz _ A4.out).mono ?_; rintro e w' ⟨rfl, m, rfl⟩; have A4' := Lib.hid (A4.out.drewN m))
              | (go_at_call 15; refine (hrd _ A4'.out).mono ?_; rintro e w' ⟨rfl, rfl⟩)
              | (go_at_call 16; refine (hadd _ A5.out).mono ?_; rintro e w6 ⟨rfl, at6, b6⟩; have B6 := Lib.hid (B5.out.trans b6); clear at6 b6)
              | (go_at_call 16; refine (hadd _ A4'.out).mono ?_; rintro e w5 ⟨rfl, at5, b5⟩; have A5 := Lib.hid at5; have B5 := Lib.hid (B4.out.trans (show Below w1.heap.size w4 w5 from ⟨b5.os, b5.tape, b5.output, b5.size, b5.block⟩)); clear at5 b5))
            go_ret
            exact ⟨rfl, B1.out.trans (B6.out.mono B1.out.size)⟩
          · have hadd : ∀ W, At w1.heap.size W d s4 → Calls Try.prog 16 #[.pointer (some ⟨d, 0, none⟩), .int .i64 file, .string (bs S)] W fun e w' => e = .returned (.int .i64 0) ∧ At w1.heap.size w' d s5 ∧ Below w1.heap.size W w' := fun W hW => by
              have := at_Add hW file S hfw (by omega) hSb
              rw [e5] at this
              exact this
            obtain ⟨s6, e6, hc6, hst6, hf6⟩ := sync_then hc5 hf5
            have hsync : ∀ W, At w1.heap.size W d s5 → Calls Try.prog 17 #[.pointer (some ⟨d, 0, none⟩), .int .i64 file] W fun e w' => e = .returned (.int .i64 0) ∧ At w1.heap.size w' d s6 ∧ Below w1.heap.size W w' := fun W hW => by
              have := at_Sync hW file hfw (by omega)
              rw [e6] at this
              exact this
            obtain ⟨f6, hf6e⟩ : ∃ f6, f6 = syncF (addF S f) := ⟨_, rfl⟩
            have g6d : f6.data = f.data ++ S := by rw [hf6e]; rfl
            have g6s : f6.sure = true := by rw [hf6e]; rfl
            have g6b : f6.sb = f.data.length + S.length := by rw [hf6e]; exact List.length_append
            rw [← hf6e] at hf6
            clear hf6e
            rcases add_then hc6 hf6 M with e7 | ⟨s7, e7, hc7', hst7, hf7⟩
            · have hadd2 : ∀ W, At w1.heap.size W d s6 → Calls Try.prog 16 #[.pointer (some ⟨d, 0, none⟩), .int .i64 file, .string (bs M)] W fun e w' => e = .returned (.int .i64 7) ∧ At w1.heap.size w' d s6 ∧ Below w1.heap.size W w' := fun W hW => by
                have := at_Add hW file M hfw (by omega) hMb
                rw [e7] at this
                exact this
              obtain ⟨f7, hf7e⟩ : ∃ f7, f7 = f6 := ⟨_, rfl⟩
              have g7d : f7.data = f.data ++ S := by rw [hf7e]; exact g6d
              have g7s : f7.sure = true := by rw [hf7e]; exact g6s
              have g7b : f7.sb = f.data.length + S.length := by rw [hf7e]; exact g6b
              have hf7' : findL file s6.fs = some f7 := by rw [hf7e]; exact hf6
              have hcal : ∀ W, At w1.heap.size W d s6 → Below w1.heap.size w1 W → ∃ f8 s8, Calls Try.prog 12 #[.pointer (some ⟨d, 0, none⟩), .slice ka kl kc] W (fun e w' => e = .returned (.tuple #[]) ∧ At w1.heap.size w' d s8 ∧ Below w1.heap.size W w') ∧ Calm s8 ∧ findL file s8.fs = some f8 ∧ f8.data = (f.data ++ S).take f8.data.length ∧ f.data.length + S.length ≤ f8.data.length ∧ f8.data.length ≤ (f.data ++ S).length ∧ (f.data ++ S).length ≤ 67108864 := fun W hW hbW => by
                obtain ⟨f8, x1, x2, x3, x4⟩ := back_then hW.1.1 hf7' g7s ks
                have hl := fit_len hW.1.1 hf7'
                rw [g7d] at x2 x4 hl
                rw [g7b] at x3
                exact ⟨f8, s6.back ks, at_Back hW ka kl kc ks (HKS.out.below (B1.out.trans (hbW.mono B1.out.size))), calm_back _ _, x1, x2, x3, x4, hl⟩
              clear hf7e g7d g7s g7b hf7' hf6 hf5 hf4 e7 e6 e5 e4 g6d g6s g6b
              go_wp2_with (first
                | (go_at_call 12; refine hback.mono ?_; rintro e w3 ⟨rfl, at3, b3⟩; have A3 := Lib.hid at3; have B3 := Lib.hid (HB3.out.trans b3); clear at3 b3 hback)
                | (go_at_call 13; refine (hmk _ A3.out).mono ?_; rintro e w4 ⟨rfl, at4, b4⟩; have A4 := Lib.hid at4; have B4 := Lib.hid (B3.out.trans b4); clear at4 b4)
                | (go_at_call 14; refine (hsz _ A4.out).mono ?_; rintro e w' ⟨rfl, m, rfl⟩; have A4' := Lib.hid (A4.out.drewN m))
                | (go_at_call 15; refine (hrd _ A4'.out).mono ?_; rintro e w' ⟨rfl, rfl⟩)
                | (go_at_call 16; refine (hadd2 _ A6.out).mono ?_; rintro e w7 ⟨rfl, at7, b7⟩; have B7 := Lib.hid (B6.out.trans b7); obtain ⟨f8, s8, hbk, hc8, hf8, hd8, hl8, hu8, hv8⟩ := hcal w7 at7 B7.out; clear at7 b7)
                | (go_at_call 16; refine (hadd _ A4'.out).mono ?_; rintro e w5 ⟨rfl, at5, b5⟩; have A5 := Lib.hid at5; have B5 := Lib.hid (B4.out.trans (show Below w1.heap.size w4 w5 from ⟨b5.os, b5.tape, b5.output, b5.size, b5.block⟩)); clear at5 b5)
                | (go_at_call 17; refine (hsync _ A5.out).mono ?_; rintro e w6 ⟨rfl, at6, b6⟩; have A6 := Lib.hid at6; have B6 := Lib.hid (B5.out.trans b6); clear at6 b6))
              refine hbk.mono ?_
              rintro e w8 ⟨rfl, at8, b8⟩
              have A8 := Lib.hid at8
              have B8 := Lib.hid (B7.out.trans b8)
              have hsz8 := disk_Size at8.1 file hfw
              rw [size_there hc8 hf8] at hsz8
              have hrd8 := fun m => disk_Read (at8.drewN m).1 file 0 (f8.data.length : Int) hfw (by omega)
              rw [read_at hc8 hf8 _ (Nat.le_refl _), List.take_length] at hrd8
              have hdn8 := fun m => disk_Down (at8.drewN m).1
              rw [hc8.down] at hdn8
              clear at8 b8 hbk hc8 hf8
              obtain ⟨K, hK⟩ : ∃ K, K = f8.data.length := ⟨_, rfl⟩
              rw [← hK] at hsz8 hrd8 hd8 hl8 hu8
              have zD : (bs f.data).size = f.data.length := bs_size _
              have zS : (bs S).size = S.length := HSS.out
              have zA : (bs (f.data ++ S)).size = (f.data ++ S).length := bs_size _
              have zDS : (bs (f.data ++ S)).size = f.data.length + S.length := by rw [bs_size, List.length_append]
              have hex : (bs (f.data ++ S)).extract 0 K = bs f8.data := by rw [(take_split (by omega)).1, bs_list, ← hd8]
              have HCATS := Lib.hid (bs_join f.data S)
              have hcat1 : bs f.data ++ bs S = bs (f.data ++ S) := bs_join _ _
              have hcat2 : bs (f.data ++ S) ++ (⟨#[]⟩ : ByteArray) = bs (f.data ++ S) := bs_nil _
              have y1 : ((bs f.data).size : Int) + ((bs S).size : Int) ≤ 9223372036854775807 := by omega
              have zN : (⟨#[]⟩ : ByteArray).size = 0 := rfl
              have y2 : ((bs (f.data ++ S)).size : Int) + (((⟨#[]⟩ : ByteArray) : ByteArray).size : Int) ≤ 9223372036854775807 := by omega
              have hge : ((bs f.data).size : Int) + ((bs S).size : Int) ≤ (K : Int) := by omega
              have hle : (K : Int) ≤ ((bs (f.data ++ S)).size : Int) := by omega
              have HKK := Lib.hid hK
              clear zD zS zA zDS zN hK hd8
              go_wp2_with (first
                | (go_at_call 14; refine hsz8.mono ?_; rintro e w' ⟨rfl, m8, rfl⟩)
                | (go_at_call 15; refine (hrd8 _).mono ?_; rintro e w' ⟨rfl, rfl⟩)
                | (go_at_call 18; refine (hdn8 _).mono ?_; rintro e w' ⟨rfl, rfl⟩))
              go_ret
              have HE := B1.out.trans (B8.out.mono B1.out.size)
              exact ⟨rfl, ⟨HE.os, HE.tape, HE.output, HE.size, HE.block⟩⟩
            · have hadd2 : ∀ W, At w1.heap.size W d s6 → Calls Try.prog 16 #[.pointer (some ⟨d, 0, none⟩), .int .i64 file, .string (bs M)] W fun e w' => e = .returned (.int .i64 0) ∧ At w1.heap.size w' d s7 ∧ Below w1.heap.size W w' := fun W hW => by
                have := at_Add hW file M hfw (by omega) hMb
                rw [e7] at this
                exact this
              obtain ⟨f7, hf7e⟩ : ∃ f7, f7 = addF M f6 := ⟨_, rfl⟩
              have g7d : f7.data = f.data ++ (S ++ M) := by rw [hf7e]; show f6.data ++ M = _; rw [g6d, List.append_assoc]
              have g7s : f7.sure = true := by rw [hf7e]; exact g6s
              have g7b : f7.sb = f.data.length + S.length := by rw [hf7e]; exact g6b
              have hf7' : findL file s7.fs = some f7 := by rw [hf7e]; exact hf7
              have hcal : ∀ W, At w1.heap.size W d s7 → Below w1.heap.size w1 W → ∃ f8 s8, Calls Try.prog 12 #[.pointer (some ⟨d, 0, none⟩), .slice ka kl kc] W (fun e w' => e = .returned (.tuple #[]) ∧ At w1.heap.size w' d s8 ∧ Below w1.heap.size W w') ∧ Calm s8 ∧ findL file s8.fs = some f8 ∧ f8.data = (f.data ++ (S ++ M)).take f8.data.length ∧ f.data.length + S.length ≤ f8.data.length ∧ f8.data.length ≤ (f.data ++ (S ++ M)).length ∧ (f.data ++ (S ++ M)).length ≤ 67108864 := fun W hW hbW => by
                obtain ⟨f8, x1, x2, x3, x4⟩ := back_then hW.1.1 hf7' g7s ks
                have hl := fit_len hW.1.1 hf7'
                rw [g7d] at x2 x4 hl
                rw [g7b] at x3
                exact ⟨f8, s7.back ks, at_Back hW ka kl kc ks (HKS.out.below (B1.out.trans (hbW.mono B1.out.size))), calm_back _ _, x1, x2, x3, x4, hl⟩
              clear hf7e g7d g7s g7b hf7' hf6 hf5 hf4 e7 e6 e5 e4 g6d g6s g6b
              go_wp2_with (first
                | (go_at_call 12; refine hback.mono ?_; rintro e w3 ⟨rfl, at3, b3⟩; have A3 := Lib.hid at3; have B3 := Lib.hid (HB3.out.trans b3); clear at3 b3 hback)
                | (go_at_call 13; refine (hmk _ A3.out).mono ?_; rintro e w4 ⟨rfl, at4, b4⟩; have A4 := Lib.hid at4; have B4 := Lib.hid (B3.out.trans b4); clear at4 b4)
                | (go_at_call 14; refine (hsz _ A4.out).mono ?_; rintro e w' ⟨rfl, m, rfl⟩; have A4' := Lib.hid (A4.out.drewN m))
                | (go_at_call 15; refine (hrd _ A4'.out).mono ?_; rintro e w' ⟨rfl, rfl⟩)
                | (go_at_call 16; refine (hadd2 _ A6.out).mono ?_; rintro e w7 ⟨rfl, at7, b7⟩; have B7 := Lib.hid (B6.out.trans b7); obtain ⟨f8, s8, hbk, hc8, hf8, hd8, hl8, hu8, hv8⟩ := hcal w7 at7 B7.out; clear at7 b7)
                | (go_at_call 16; refine (hadd _ A4'.out).mono ?_; rintro e w5 ⟨rfl, at5, b5⟩; have A5 := Lib.hid at5; have B5 := Lib.hid (B4.out.trans (show Below w1.heap.size w4 w5 from ⟨b5.os, b5.tape, b5.output, b5.size, b5.block⟩)); clear at5 b5)
                | (go_at_call 17; refine (hsync _ A5.out).mono ?_; rintro e w6 ⟨rfl, at6, b6⟩; have A6 := Lib.hid at6; have B6 := Lib.hid (B5.out.trans b6); clear at6 b6))
              refine hbk.mono ?_
              rintro e w8 ⟨rfl, at8, b8⟩
              have A8 := Lib.hid at8
              have B8 := Lib.hid (B7.out.trans b8)
              have hsz8 := disk_Size at8.1 file hfw
              rw [size_there hc8 hf8] at hsz8
              have hrd8 := fun m => disk_Read (at8.drewN m).1 file 0 (f8.data.length : Int) hfw (by omega)
              rw [read_at hc8 hf8 _ (Nat.le_refl _), List.take_length] at hrd8
              have hdn8 := fun m => disk_Down (at8.drewN m).1
              rw [hc8.down] at hdn8
              clear at8 b8 hbk hc8 hf8
              obtain ⟨K, hK⟩ : ∃ K, K = f8.data.length := ⟨_, rfl⟩
              rw [← hK] at hsz8 hrd8 hd8 hl8 hu8
              have zD : (bs f.data).size = f.data.length := bs_size _
              have zS : (bs S).size = S.length := HSS.out
              have zA : (bs (f.data ++ (S ++ M))).size = (f.data ++ (S ++ M)).length := bs_size _
              have zDS : (bs (f.data ++ S)).size = f.data.length + S.length := by rw [bs_size, List.length_append]
              have hex : (bs (f.data ++ (S ++ M))).extract 0 K = bs f8.data := by rw [(take_split (by omega)).1, bs_list, ← hd8]
              have HCATS := Lib.hid (bs_join f.data S)
              have hcat1 : bs f.data ++ bs S = bs (f.data ++ S) := bs_join _ _
              have hcat2 : bs (f.data ++ S) ++ bs M = bs (f.data ++ (S ++ M)) := by rw [bs_join, List.append_assoc]
              have y1 : ((bs f.data).size : Int) + ((bs S).size : Int) ≤ 9223372036854775807 := by omega
              have zN : (⟨#[]⟩ : ByteArray).size = 0 := rfl
              have y2 : ((bs (f.data ++ S)).size : Int) + ((bs M : ByteArray).size : Int) ≤ 9223372036854775807 := by omega
              have hge : ((bs f.data).size : Int) + ((bs S).size : Int) ≤ (K : Int) := by omega
              have hle : (K : Int) ≤ ((bs (f.data ++ (S ++ M))).size : Int) := by omega
              have HKK := Lib.hid hK
              clear zD zS zA zDS zN hK hd8
              go_wp2_with (first
                | (go_at_call 14; refine hsz8.mono ?_; rintro e w' ⟨rfl, m8, rfl⟩)
                | (go_at_call 15; refine (hrd8 _).mono ?_; rintro e w' ⟨rfl, rfl⟩)
                | (go_at_call 18; refine (hdn8 _).mono ?_; rintro e w' ⟨rfl, rfl⟩))
              go_ret
              have HE := B1.out.trans (B8.out.mono B1.out.size)
              exact ⟨rfl, ⟨HE.os, HE.tape, HE.output, HE.size, HE.block⟩⟩

theorem contract (H : Type) (enc : TypeId × Value → H) (W : World) (base : Nat) (args : Array Value) (ds gs : List (DataW H)) (before : List MemPlace)
    (hval : ∀ (j : Nat) t v, Try.f3.params[j]? = some t → args[j]? = some v → Value.okWide Try.prog W .any base t v)
    (hW : DataW.Whole enc Try.prog Try.f3.params.toList Rows.diskSureSpec.vars false W args.toList ds gs before) :
    Calls Try.prog 3 args W fun e W' => ∃ v, e = .returned v ∧ Rows.diskSureSpec.post enc Try.prog Try.f3 false true false false W args v W' := by
  have hW' := hW
  obtain ⟨p, q, hA0, hV, rfl, hfz, hnd⟩ := hW
  have hA : DataW.TrodAll enc Try.prog W 0 (fun _ => true) true Try.f3.params.toList args.toList ds p := hA0
  rw [Try.params3] at hA hval
  obtain ⟨v0, vs0, d0, ds0, p0, q0, hargs, rfl, rfl, h0, r0⟩ := trodAll_cons hA
  obtain ⟨v1, vs1, d1, ds1, p1, q1, rfl, rfl, rfl, h1, r1⟩ := trodAll_cons r0
  obtain ⟨v2, vs2, d2, ds2, p2, q2, rfl, rfl, rfl, h2, r2⟩ := trodAll_cons r1
  obtain ⟨v3, vs3, d3, ds3, p3, q3, rfl, rfl, rfl, h3, r3⟩ := trodAll_cons r2
  obtain ⟨v4, vs4, d4, ds4, p4, q4, rfl, rfl, rfl, h4, r4⟩ := trodAll_cons r3
  obtain ⟨rfl, rfl, rfl⟩ := trodAll_nil r4
  obtain rfl : args = #[v0, v1, v2, v3, v4] := by cases args; simp_all
  obtain ⟨rfl, rfl⟩ := trodVars_none hV
  obtain ⟨a0, len0, cap0, rfl⟩ := okWide_slice Try.underlying22 (hval 0 22 v0 rfl rfl)
  obtain ⟨a4, len4, cap4, rfl⟩ := okWide_slice Try.underlying23 (hval 4 23 v4 rfl rfl)
  have k0 := h0
  have lt0 : ∀ x ∈ p0, x.block < W.heap.size := by obtain ⟨m, hm⟩ := k0; exact DataW.trod_lt m _ _ _ hm
  have k4 := h4
  have lt4 : ∀ x ∈ p4, x.block < W.heap.size := by obtain ⟨m, hm⟩ := k4; exact DataW.trod_lt m _ _ _ hm
  obtain ⟨os, i0⟩ : ∃ os, IsOps W a0 len0 os := by
    obtain ⟨fuel, hf⟩ := h0
    obtain ⟨a, len, cap, os, hcs, hi⟩ := ops_read hf
    simp [Value.cells] at hcs
    obtain ⟨rfl, rfl, rfl⟩ := hcs
    exact ⟨os, hi⟩
  obtain ⟨ks, i4⟩ : ∃ ks, IsKeeps W a4 len4 ks := by
    obtain ⟨fuel, hf⟩ := h4
    obtain ⟨a, len, cap, ks, hcs, hi⟩ := keeps_read hf
    simp [Value.cells] at hcs
    obtain ⟨rfl, rfl, rfl⟩ := hcs
    exact ⟨ks, hi⟩
  obtain ⟨x1, rfl, rfl, rfl, w1⟩ := open_int Try.underlying3 (hval 1 3 v1 rfl rfl) h1
  obtain ⟨x2, rfl, rfl, rfl, w2⟩ := open_string Try.underlying9 (hval 2 9 v2 rfl rfl) h2
  obtain ⟨x3, rfl, rfl, rfl, w3⟩ := open_string Try.underlying9 (hval 3 9 v3 rfl rfl) h3
  clear hA0
  simp only [List.append_nil] at hW'
  have e2 : bs x2.data.toList = x2 := (bs_eq rfl).symm
  have e3 : bs x3.data.toList = x3 := (bs_eq rfl).symm
  have l2 : x2.data.toList.length ≤ 9223372036854775807 := by have : x2.data.toList.length = x2.size := by rw [← Lib.size_eq]
                                                              unfold maxLen at w2; omega
  have l3 : x3.data.toList.length ≤ 9223372036854775807 := by have : x3.data.toList.length = x3.size := by rw [← Lib.size_eq]
                                                              unfold maxLen at w3; omega
  have hw := walk a0 len0 cap0 os x1 x2.data.toList x3.data.toList a4 len4 cap4 ks W i0 w1 l2 l3 i4
  rw [e2, e3] at hw
  refine hw.mono fun e W' ⟨he, bel⟩ => ?_
  subst he
  exact ⟨_, rfl, _, _, _, [], _, [], hW', trodAll_mk1 (shut_bool Try.underlying4 _), (trodAll_cons_mk (Below.trod laidOut (by kernel_rfl) (of_decide_eq_true (by kernel_rfl)) k0 bel lt0) (trodAll_cons_mk (shut_int Try.underlying3 w1) (trodAll_cons_mk (shut_string Try.underlying9 w2) (trodAll_cons_mk (shut_string Try.underlying9 w3) (trodAll_cons_mk (Below.trod laidOut (by kernel_rfl) (of_decide_eq_true (by kernel_rfl)) k4 bel lt4) trodAll_mk0))))), rfl, bel.frame _, fun h => by cases h⟩

set_option maxRecDepth 100000 in
theorem lifted (os : Os) (started : os.Started) (H : Type) (enc : TypeId × Value → H) :
    ReturnsInHanded {} Try.checked os 3 .any (Rows.diskSureSpec.pre6 enc Try.prog Try.f3 Rows.diskSureRow.domain false) (Rows.diskSureSpec.post enc Try.prog Try.f3 false true false false) := by
  refine returnsInHanded_of_change (C := Try.checked) own started (by kernel_rfl) Try.func3
    (ChangeSpec.witness6 (enc := enc) (C := Try.checked) false ⟨#[], #[.slice none 0 0, .int .i64 0, .string ByteArray.empty, .string ByteArray.empty, .slice none 0 0], []⟩ 8 (by kernel_rfl) (by kernel_rfl) (by kernel_rfl) (by kernel_rfl)) ?_
  intro W base args ds gs before hval hW _ _
  exact contract H enc W base args ds gs before hval hW

theorem over : Rows.diskSureRow.holds Try.pinned (OpenSpec.ofChange Rows.diskSureSpec) :=
  OpenClaim.holds_of_wide 3 Try.f3 rfl rfl rfl rfl rfl rfl rfl ⟨rfl, rfl, rfl, rfl, rfl⟩ rfl rfl rfl rfl rfl (by kernel_rfl) Try.func3 (by kernel_rfl)
    (of_decide_eq_true (by kernel_rfl)) (by unfold Func.isWrapper; first | (rw [if_pos (by decide +kernel)]; kernel_rfl) | (rw [if_neg (by decide +kernel)]; exact ⟨rfl, rfl⟩))
    (fun os started H enc _ => lifted os started H enc)

/-- ████ THE STATEMENT ████ -/
theorem proved : Rows.DiskSureSaid :=
  over
#print axioms proved
end Go.Proofs.Ytgmfcjmbapmagaa.diskSure
