/- DiskArmed: the power goes behind just so many changes: they are done, and nothing behind them; when it is back, changes are done again. For every input; no condition. -/
import Derived.Test.YtgmfcjmbapmagaaRows
import Derived.Test.YtgmfcjmbapmagaaDiskArmedPlain
import Derived.Below
import Derived.WalkKit
import Derived.ProofKit
import Derived.OpenShut
import Derived.ShutString
namespace Go.Proofs.Ytgmfcjmbapmagaa.diskArmed
open Go.ChangeShapes Go.WideShapes Go.ChangeAt Go.RowKit
set_option linter.unusedVariables false

theorem own : ownKnob Try.prog.godebug = none := by kernel_rfl
theorem laidOut : laidOutB Try.prog = true := by kernel_rfl

theorem cell_of {w : World} {b : Nat} {x : Value} {c : List Value} {t : TypeId} (h : w.heap[b]? = some (.cells (x :: c).toArray t (0, 0))) : w.cell? ⟨b, 0, none⟩ = some x := by
  simp [World.cell?, h]
theorem doS_out {s : DS} {o : OP} (h : ¬ (1 ≤ o.kind ∧ o.kind ≤ 5)) (h8 : o.kind ≠ 8) : doS s o = (s, 0) := by
  unfold doS
  rw [if_neg (by omega), if_neg (by omega), if_neg (by omega), if_neg (by omega), if_neg (by omega), if_neg h8]
/-- A call of a script, handed over out of a variable of the caller's: the variable stays. -/
theorem at_do_box {B : Nat} {w : World} {d : Nat} {s : DS} (h : At B w d s) (o : OP) (ho : o.Ok w) (hs : s.steps < 4611686018427387904) (ht : o.text.length ≤ 2305843009213693952) :
    Calls Try.prog 11 #[.pointer (some ⟨d, 0, none⟩), .agg o.vals] (w.alloc (.cells o.vals 32)) fun e w' => e = .returned (.int .i64 (doS s o).2) ∧ At B w' d (doS s o).1 ∧ Below B w w' ∧ w'.heap[w.heap.size]? = some (.cells o.vals 32 (0, 0)) := by
  have hb : Below w.heap.size w (w.alloc (.cells o.vals 32)) := (Below.refl _ _).alloc (Nat.le_refl _) _
  have hd := h.1.tight.below hb
  have hsz : w.heap.size ≤ (w.alloc (.cells o.vals 32)).heap.size := hb.size
  refine (law_do hd o (ho.below hb) hs ht).mono fun e w' ⟨h1, h2, h3⟩ => ⟨h1, ⟨h2.mono fun k _ hk => ?_, Nat.le_trans h.2 (Nat.le_trans hsz h3.size)⟩, ?_, ?_⟩
  · rcases hk with x | x
    · exact x.1
    · exact Nat.le_trans h.2 (Nat.le_trans hsz x)
  · exact (hb.mono h.2).trans (h3.below (fun k _ x => x.1) (Nat.le_trans h.2 hsz))
  · rw [h3.block _ (heap_lt (heap_new w _)) fun x => Nat.lt_irrefl _ x.2]
    exact heap_new w _

set_option maxHeartbeats 8000000 in
set_option maxRecDepth 100000 in
theorem walk (a : Option Addr) (len cap : Nat) (os : List OP) (n : Int) (w : World) (h : IsOps w a len os) (hnw : (Lit.int .i64 n).wf = true) :
    Calls Try.prog 4 #[.slice a len cap, .int .i64 n] w fun e w' => e = .returned (.bool true) ∧ Below w.heap.size w w' := by
  have hA := law_awake w
  have HI := Lib.hid h
  obtain ⟨hn1, hn2⟩ := wf_hi hnw
  clear h
  go_enter Try.func4, Try.ntmps4
  go_wp2_with fail
  refine hA.mono ?_
  rintro e w1 ⟨rfl, b1⟩
  have B1 := Lib.hid b1
  have I1 := Lib.hid (HI.out.below b1)
  clear b1 hA
  go_wp2_with fail
  refine (law_few a len cap os w1 I1.out).mono ?_
  rintro e w2 ⟨fb, rfl, hfew, rfl⟩
  cases fb with
  | false =>
    clear hfew
    have hA := law_awake w1
    go_wp2_with fail
    refine hA.mono ?_
    rintro e w2 ⟨rfl, b2⟩
    have B2 := Lib.hid (B1.out.trans (b2.mono B1.out.size))
    clear b2 hA
    go_wp2
    go_ret
    exact ⟨rfl, B2.out⟩
  | true =>
    have FEW := Lib.hid (hfew rfl)
    clear hfew
    have hN := at_New 5000 5000 w1 (by omega) (by omega)
    go_wp2_with fail
    refine hN.mono ?_
    rintro e w2 ⟨d, rfl, at2, b2⟩
    have hArm := at_Arm at2 n hn2
    have B2 := Lib.hid b2
    clear b2 at2 hN
    go_wp2_with fail
    refine hArm.mono ?_
    rintro e w3 ⟨rfl, at3, b3⟩
    have A2 := Lib.hid at3
    have B2 := Lib.hid (B2.out.trans b3)
    clear b3 at3 hArm
    go_wp2_with fail
    go_loopw [7] (fun i wr => ∃ k : Nat, k ≤ len ∧ i = .int .i64 k ∧ ∃ s, At w1.heap.size wr d s ∧ Armed n s ∧ bulkS s ≤ 64 * k + sumT (os.take k) ∧ s.fs.length ≤ k ∧ s.steps ≤ k ∧ s.r1 = 5000 ∧ Below w1.heap.size w1 wr) (fun i _ => len - (RowKit.intOf i).toNat)
    case atStart => exact ⟨0, Nat.zero_le _, rfl, _, A2.out, armed_arm n hn2, Nat.zero_le _, Nat.le_refl _, Nat.le_refl _, rfl, B2.out⟩
    case round =>
      obtain ⟨k, hk, rfl, s, hat, harm, hbk, hln, hst, hr1, hbr⟩ := hrel
      have hlen200 := FEW.out.len
      have hmax := HI.out.2.1
      by_cases hlt : k < len
      · obtain ⟨hlen, _, b, off, ha, hrow⟩ := I1.out
        have hlt0 : k < os.length := by omega
        obtain ⟨r1, r2, r3⟩ := hrow k hlt0
        obtain rfl : a = some ⟨b, off, none⟩ := by rcases ha with x | x; (omega); (exact x)
        obtain ⟨t1, t2⟩ := FEW.out.text os[k] (List.getElem_mem hlt0)
        have htk : os.take (k + 1) = os.take k ++ [os[k]] := take_snoc' os k hlt0
        obtain ⟨o, ho⟩ : ∃ o, o = os[k] := ⟨_, rfl⟩
        rw [← ho] at r2 r3 t1 t2 htk
        have hsum : sumT (os.take (k + 1)) = sumT (os.take k) + o.text.length := by rw [htk, sumT_snoc]
        obtain ⟨kd, tr, fl, ap, sz, tx, xa, xl, xc, xs⟩ := o
        have hsum' : sumT (os.take (k + 1)) = sumT (os.take k) + tx.length := hsum
        have hin : ∀ j, j < 7 → wr.cell? ⟨b, off + k * 7 + j, none⟩ = (OP.vals ⟨kd, tr, fl, ap, sz, tx, xa, xl, xc, xs⟩)[j]? := fun j hj => by rw [hbr.cell r1]; exact r2 j hj
        have d0 : wr.cell? ⟨b, off + k * 7, none⟩ = some (.int .i64 kd) := hin 0 (by omega)
        have d1 : wr.cell? ⟨b, off + k * 7 + 1, none⟩ = some (.int .i64 tr) := hin 1 (by omega)
        have d2 : wr.cell? ⟨b, off + k * 7 + 2, none⟩ = some (.int .i64 fl) := hin 2 (by omega)
        have d3 : wr.cell? ⟨b, off + k * 7 + 3, none⟩ = some (.int .i64 ap) := hin 3 (by omega)
        have d4 : wr.cell? ⟨b, off + k * 7 + 4, none⟩ = some (.int .i64 sz) := hin 4 (by omega)
        have d5 : wr.cell? ⟨b, off + k * 7 + 5, none⟩ = some (.string (bs tx)) := hin 5 (by omega)
        have d6 : wr.cell? ⟨b, off + k * 7 + 6, none⟩ = some (.slice xa xl xc) := hin 6 (by omega)
        have hlt' : (k : Int) < len := by omega
        have hk200 : k < 200 := by omega
        have HBR := Lib.hid hbr
        by_cases h8 : kd = 8
        · subst h8
          have HREL := Lib.hid (show ∃ s', At w1.heap.size (wr.alloc (.cells #[.int .i64 8, .int .i64 tr, .int .i64 fl, .int .i64 ap, .int .i64 sz, .string (bs tx), .slice xa xl xc] 32)) d s' ∧ Armed n s' ∧ bulkS s' ≤ 64 * (k + 1) + sumT (os.take (k + 1)) ∧ s'.fs.length ≤ k + 1 ∧ s'.steps ≤ k + 1 ∧ s'.r1 = 5000 ∧ Below w1.heap.size w1 (wr.alloc (.cells #[.int .i64 8, .int .i64 tr, .int .i64 fl, .int .i64 ap, .int .i64 sz, .string (bs tx), .slice xa xl xc] 32)) from
            ⟨s, hat.below ((Below.refl _ _).alloc (Nat.le_refl _) _), harm, by rw [hsum']; omega, by omega, by omega, hr1, hbr.alloc hat.2 _⟩)
          clear hat harm hbk hln hst hr1 hbr r1 r2 r3 ho hlen ha hrow hin t1 t2 hlt0 htk hsum hsum'
          go_wp2
          go_roundw
          case rel => exact ⟨k + 1, by omega, by go_num, HREL.out⟩
          case measure => simp [RowKit.intOf]; omega
        · have b8 : (kd == 8) = false := by simpa using h8
          have hdo := at_do_box hat ⟨kd, tr, fl, ap, sz, tx, xa, xl, xc, xs⟩ (r3.below hbr) (by omega) (by show tx.length ≤ _; have : tx.length ≤ 100000 := t1; omega)
          have hst1 := disk_Steps (hat.below (w' := wr.alloc (.cells #[.int .i64 kd, .int .i64 tr, .int .i64 fl, .int .i64 ap, .int .i64 sz, .string (bs tx), .slice xa xl xc] 32)) ((Below.refl _ _).alloc (Nat.le_refl _) _)).1
          have TT := armed_do harm hat.1.1 ⟨kd, tr, fl, ap, sz, tx, xa, xl, xc, xs⟩ h8
          have hout : ¬ (1 ≤ kd ∧ kd ≤ 5) → doS s ⟨kd, tr, fl, ap, sz, tx, xa, xl, xc, xs⟩ = (s, 0) := fun x => doS_out x h8
          obtain ⟨s2, e2, hse⟩ : ∃ s2 e2, doS s ⟨kd, tr, fl, ap, sz, tx, xa, xl, xc, xs⟩ = (s2, e2) := ⟨_, _, rfl⟩
          rw [hse] at hdo TT hout
          simp only [OP.vals] at hdo
          try simp only at hdo
          obtain ⟨q1, q2, q3, q4, q5, q6, q7⟩ := TT
          try simp only at q1 q2 q3 q4 q5 q6 q7
          obtain ⟨p1, p2⟩ := armed_steps q1
          have hstp : s2.steps ≤ s.steps + 1 := by
            by_cases h0 : e2 = 0
            · by_cases hr : 1 ≤ kd ∧ kd ≤ 5
              · rw [q4 h0 hr]; exact Nat.le_refl _
              · have := hout hr
                injection this with x1 x2
                rw [x1]
                exact Nat.le_succ _
            · rw [q5 h0]; exact Nat.le_succ _
          have HARM := Lib.hid q1
          have HBK := Lib.hid (show bulkS s2 ≤ 64 * (k + 1) + sumT (os.take (k + 1)) by rw [hsum']; omega)
          have HLN := Lib.hid (show s2.fs.length ≤ k + 1 by omega)
          have HSTP := Lib.hid (show s2.steps ≤ k + 1 by omega)
          have HR1 := Lib.hid (show s2.r1 = 5000 by rw [q7, hr1])
          have hss : (s.steps : Int) ≤ 200 := by omega
          clear hat harm hbk hln hst hr1 hbr r1 r2 r3 ho hlen ha hrow hin t1 t2 hlt0 htk hsum hsum' q1 q2 q3 q7 hse h8 hstp
          by_cases hK1 : 1 ≤ kd
          · by_cases hK2 : kd ≤ 5
            · clear hout
              by_cases h0 : e2 = 0
              · subst h0
                have hs2 := q4 rfl ⟨hK1, hK2⟩
                have hdn2 : s2.down = false := by cases hx : s2.down with | true => exact absurd (q6.2 ⟨hx, hK1, hK2⟩) (by omega) | false => rfl
                rw [hs2] at p1
                have HST2 := Lib.hid (show (s2.steps : Int) = (s.steps : Int) + 1 by rw [hs2]; omega)
                have HDN2 := Lib.hid hdn2
                clear q4 q5 q6 p2 hs2 hdn2
                by_cases hneg : n < 0
                · clear p1
                  have hst3 : ∀ W, At w1.heap.size W d s2 → Calls Try.prog 20 #[.pointer (some ⟨d, 0, none⟩)] W fun e w' => e = .returned (.int .i64 ((s.steps : Int) + 1)) ∧ W = w' := fun W hW => by
                    have := disk_Steps hW.1
                    rw [HST2.out] at this
                    exact this
                  have hdn3 : ∀ W, At w1.heap.size W d s2 → Calls Try.prog 18 #[.pointer (some ⟨d, 0, none⟩)] W fun e w' => e = .returned (.bool false) ∧ W = w' := fun W hW => by
                    have := disk_Down hW.1
                    rw [HDN2.out] at this
                    exact this
                  go_wp2_with (first
                    | (go_at_call 20; refine (hst3 _ A3.out).mono ?_; rintro e w' ⟨rfl, rfl⟩)
                    | (go_at_call 20; refine hst1.mono ?_; rintro e w' ⟨rfl, rfl⟩)
                    | (go_at_call 11; refine hdo.mono ?_; rintro e w3 ⟨rfl, at3, b3, x3⟩; have A3 := Lib.hid at3; have B3 := Lib.hid (HBR.out.trans b3); have c0' : w3.cell? ⟨wr.heap.size, 0, none⟩ = some (.int .i64 kd) := cell_of x3; clear at3 b3 x3)
                    | (go_at_call 18; refine (hdn3 _ A3.out).mono ?_; rintro e w' ⟨rfl, rfl⟩))
                  go_roundw
                  case rel => exact ⟨k + 1, by omega, by go_num, s2, A3.out, HARM.out, HBK.out, HLN.out, by have := HSTP.out; omega, HR1.out, B3.out⟩
                  case measure => simp [RowKit.intOf]; omega
                · have hpos : 0 ≤ n := by omega
                  have hle : (s.steps : Int) + 1 ≤ n := by have := p1 hpos; omega
                  clear p1 hneg
                  have hst3 : ∀ W, At w1.heap.size W d s2 → Calls Try.prog 20 #[.pointer (some ⟨d, 0, none⟩)] W fun e w' => e = .returned (.int .i64 ((s.steps : Int) + 1)) ∧ W = w' := fun W hW => by
                    have := disk_Steps hW.1
                    rw [HST2.out] at this
                    exact this
                  have hdn3 : ∀ W, At w1.heap.size W d s2 → Calls Try.prog 18 #[.pointer (some ⟨d, 0, none⟩)] W fun e w' => e = .returned (.bool false) ∧ W = w' := fun W hW => by
                    have := disk_Down hW.1
                    rw [HDN2.out] at this
                    exact this
                  go_wp2_with (first
                    | (go_at_call 20; refine (hst3 _ A3.out).mono ?_; rintro e w' ⟨rfl, rfl⟩)
                    | (go_at_call 20; refine hst1.mono ?_; rintro e w' ⟨rfl, rfl⟩)
                    | (go_at_call 11; refine hdo.mono ?_; rintro e w3 ⟨rfl, at3, b3, x3⟩; have A3 := Lib.hid at3; have B3 := Lib.hid (HBR.out.trans b3); have c0' : w3.cell? ⟨wr.heap.size, 0, none⟩ = some (.int .i64 kd) := cell_of x3; clear at3 b3 x3)
                    | (go_at_call 18; refine (hdn3 _ A3.out).mono ?_; rintro e w' ⟨rfl, rfl⟩))
                  go_roundw
                  case rel => exact ⟨k + 1, by omega, by go_num, s2, A3.out, HARM.out, HBK.out, HLN.out, by have := HSTP.out; omega, HR1.out, B3.out⟩
                  case measure => simp [RowKit.intOf]; omega
              · have hs2 := q5 h0
                rw [hs2] at p1 p2
                have HST2 := Lib.hid (show (s2.steps : Int) = (s.steps : Int) by rw [hs2])
                have e0 : (e2 == 0) = false := by simpa using h0
                have e0' : (e2 != 0) = true := by simp [bne, e0]
                by_cases h8e : e2 = 8
                · obtain ⟨hdn2, _⟩ := q6.1 h8e
                  obtain ⟨hpos, heq⟩ := p2 hdn2
                  have HDN2 := Lib.hid hdn2
                  have HST2' := Lib.hid (show (s2.steps : Int) = n by rw [hs2]; exact heq)
                  subst h8e
                  have hwas : ((s.steps : Int)) = n := heq
                  clear HST2 e0 e0'
                  have HST2 := HST2'
                  rw [hwas] at hst1
                  clear q4 q5 q6 p1 p2 hs2 hdn2 h0 heq hwas HST2'
                  have hst3 : ∀ W, At w1.heap.size W d s2 → Calls Try.prog 20 #[.pointer (some ⟨d, 0, none⟩)] W fun e w' => e = .returned (.int .i64 (n)) ∧ W = w' := fun W hW => by
                    have := disk_Steps hW.1
                    rw [HST2.out] at this
                    exact this
                  have hdn3 : ∀ W, At w1.heap.size W d s2 → Calls Try.prog 18 #[.pointer (some ⟨d, 0, none⟩)] W fun e w' => e = .returned (.bool true) ∧ W = w' := fun W hW => by
                    have := disk_Down hW.1
                    rw [HDN2.out] at this
                    exact this
                  go_wp2_with (first
                    | (go_at_call 20; refine (hst3 _ A3.out).mono ?_; rintro e w' ⟨rfl, rfl⟩)
                    | (go_at_call 20; refine hst1.mono ?_; rintro e w' ⟨rfl, rfl⟩)
                    | (go_at_call 11; refine hdo.mono ?_; rintro e w3 ⟨rfl, at3, b3, x3⟩; have A3 := Lib.hid at3; have B3 := Lib.hid (HBR.out.trans b3); have c0' : w3.cell? ⟨wr.heap.size, 0, none⟩ = some (.int .i64 kd) := cell_of x3; clear at3 b3 x3)
                    | (go_at_call 18; refine (hdn3 _ A3.out).mono ?_; rintro e w' ⟨rfl, rfl⟩))
                  go_roundw
                  case rel => exact ⟨k + 1, by omega, by go_num, s2, A3.out, HARM.out, HBK.out, HLN.out, by have := HSTP.out; omega, HR1.out, B3.out⟩
                  case measure => simp [RowKit.intOf]; omega
                · have e8 : (e2 == 8) = false := by simpa using h8e
                  have hdn2 : s2.down = false := by cases hx : s2.down with | true => exact absurd (q6.2 ⟨hx, hK1, hK2⟩) h8e | false => rfl
                  have HDN2 := Lib.hid hdn2
                  clear q4 q5 q6 p2 hs2 hdn2 h0 h8e
                  by_cases hneg : n < 0
                  · clear p1
                    have hst3 : ∀ W, At w1.heap.size W d s2 → Calls Try.prog 20 #[.pointer (some ⟨d, 0, none⟩)] W fun e w' => e = .returned (.int .i64 ((s.steps : Int))) ∧ W = w' := fun W hW => by
                      have := disk_Steps hW.1
                      rw [HST2.out] at this
                      exact this
                    have hdn3 : ∀ W, At w1.heap.size W d s2 → Calls Try.prog 18 #[.pointer (some ⟨d, 0, none⟩)] W fun e w' => e = .returned (.bool false) ∧ W = w' := fun W hW => by
                      have := disk_Down hW.1
                      rw [HDN2.out] at this
                      exact this
                    go_wp2_with (first
                      | (go_at_call 20; refine (hst3 _ A3.out).mono ?_; rintro e w' ⟨rfl, rfl⟩)
                      | (go_at_call 20; refine hst1.mono ?_; rintro e w' ⟨rfl, rfl⟩)
                      | (go_at_call 11; refine hdo.mono ?_; rintro e w3 ⟨rfl, at3, b3, x3⟩; have A3 := Lib.hid at3; have B3 := Lib.hid (HBR.out.trans b3); have c0' : w3.cell? ⟨wr.heap.size, 0, none⟩ = some (.int .i64 kd) := cell_of x3; clear at3 b3 x3)
                      | (go_at_call 18; refine (hdn3 _ A3.out).mono ?_; rintro e w' ⟨rfl, rfl⟩))
                    go_roundw
                    case rel => exact ⟨k + 1, by omega, by go_num, s2, A3.out, HARM.out, HBK.out, HLN.out, by have := HSTP.out; omega, HR1.out, B3.out⟩
                    case measure => simp [RowKit.intOf]; omega
                  · have hpos : 0 ≤ n := by omega
                    have hle : (s.steps : Int) ≤ n := p1 hpos
                    clear p1 hneg
                    have hst3 : ∀ W, At w1.heap.size W d s2 → Calls Try.prog 20 #[.pointer (some ⟨d, 0, none⟩)] W fun e w' => e = .returned (.int .i64 ((s.steps : Int))) ∧ W = w' := fun W hW => by
                      have := disk_Steps hW.1
                      rw [HST2.out] at this
                      exact this
                    have hdn3 : ∀ W, At w1.heap.size W d s2 → Calls Try.prog 18 #[.pointer (some ⟨d, 0, none⟩)] W fun e w' => e = .returned (.bool false) ∧ W = w' := fun W hW => by
                      have := disk_Down hW.1
                      rw [HDN2.out] at this
                      exact this
                    go_wp2_with (first
                      | (go_at_call 20; refine (hst3 _ A3.out).mono ?_; rintro e w' ⟨rfl, rfl⟩)
                      | (go_at_call 20; refine hst1.mono ?_; rintro e w' ⟨rfl, rfl⟩)
                      | (go_at_call 11; refine hdo.mono ?_; rintro e w3 ⟨rfl, at3, b3, x3⟩; have A3 := Lib.hid at3; have B3 := Lib.hid (HBR.out.trans b3); have c0' : w3.cell? ⟨wr.heap.size, 0, none⟩ = some (.int .i64 kd) := cell_of x3; clear at3 b3 x3)
                      | (go_at_call 18; refine (hdn3 _ A3.out).mono ?_; rintro e w' ⟨rfl, rfl⟩))
                    go_roundw
                    case rel => exact ⟨k + 1, by omega, by go_num, s2, A3.out, HARM.out, HBK.out, HLN.out, by have := HSTP.out; omega, HR1.out, B3.out⟩
                    case measure => simp [RowKit.intOf]; omega
            · have hoo := hout (by omega)
              have hK2' : 5 < kd := by omega
              injection hoo with x1 x2
              subst x1
              subst x2
              clear hout q4 q5 q6 hK2
              cases hdn2 : s2.down with
              | true =>
                obtain ⟨hpos, heq⟩ := p2 hdn2
                have HDN2 := Lib.hid hdn2
                have HST2 := Lib.hid heq
                rw [heq] at hst1
                clear p1 p2 hdn2 heq
                have hst3 : ∀ W, At w1.heap.size W d s2 → Calls Try.prog 20 #[.pointer (some ⟨d, 0, none⟩)] W fun e w' => e = .returned (.int .i64 (n)) ∧ W = w' := fun W hW => by
                  have := disk_Steps hW.1
                  rw [HST2.out] at this
                  exact this
                have hdn3 : ∀ W, At w1.heap.size W d s2 → Calls Try.prog 18 #[.pointer (some ⟨d, 0, none⟩)] W fun e w' => e = .returned (.bool true) ∧ W = w' := fun W hW => by
                  have := disk_Down hW.1
                  rw [HDN2.out] at this
                  exact this
                go_wp2_with (first
                  | (go_at_call 20; refine (hst3 _ A3.out).mono ?_; rintro e w' ⟨rfl, rfl⟩)
                  | (go_at_call 20; refine hst1.mono ?_; rintro e w' ⟨rfl, rfl⟩)
                  | (go_at_call 11; refine hdo.mono ?_; rintro e w3 ⟨rfl, at3, b3, x3⟩; have A3 := Lib.hid at3; have B3 := Lib.hid (HBR.out.trans b3); have c0' : w3.cell? ⟨wr.heap.size, 0, none⟩ = some (.int .i64 kd) := cell_of x3; clear at3 b3 x3)
                  | (go_at_call 18; refine (hdn3 _ A3.out).mono ?_; rintro e w' ⟨rfl, rfl⟩))
                go_roundw
                case rel => exact ⟨k + 1, by omega, by go_num, s2, A3.out, HARM.out, HBK.out, HLN.out, by have := HSTP.out; omega, HR1.out, B3.out⟩
                case measure => simp [RowKit.intOf]; omega
              | false =>
                have HDN2 := Lib.hid hdn2
                have HST2 := Lib.hid (show (s2.steps : Int) = (s2.steps : Int) from rfl)
                clear p2 hdn2
                by_cases hneg : n < 0
                · clear p1
                  have hst3 : ∀ W, At w1.heap.size W d s2 → Calls Try.prog 20 #[.pointer (some ⟨d, 0, none⟩)] W fun e w' => e = .returned (.int .i64 ((s2.steps : Int))) ∧ W = w' := fun W hW => by
                    have := disk_Steps hW.1
                    rw [HST2.out] at this
                    exact this
                  have hdn3 : ∀ W, At w1.heap.size W d s2 → Calls Try.prog 18 #[.pointer (some ⟨d, 0, none⟩)] W fun e w' => e = .returned (.bool false) ∧ W = w' := fun W hW => by
                    have := disk_Down hW.1
                    rw [HDN2.out] at this
                    exact this
                  go_wp2_with (first
                    | (go_at_call 20; refine (hst3 _ A3.out).mono ?_; rintro e w' ⟨rfl, rfl⟩)
                    | (go_at_call 20; refine hst1.mono ?_; rintro e w' ⟨rfl, rfl⟩)
                    | (go_at_call 11; refine hdo.mono ?_; rintro e w3 ⟨rfl, at3, b3, x3⟩; have A3 := Lib.hid at3; have B3 := Lib.hid (HBR.out.trans b3); have c0' : w3.cell? ⟨wr.heap.size, 0, none⟩ = some (.int .i64 kd) := cell_of x3; clear at3 b3 x3)
                    | (go_at_call 18; refine (hdn3 _ A3.out).mono ?_; rintro e w' ⟨rfl, rfl⟩))
                  go_roundw
                  case rel => exact ⟨k + 1, by omega, by go_num, s2, A3.out, HARM.out, HBK.out, HLN.out, by have := HSTP.out; omega, HR1.out, B3.out⟩
                  case measure => simp [RowKit.intOf]; omega
                · have hpos : 0 ≤ n := by omega
                  have hle : (s2.steps : Int) ≤ n := p1 hpos
                  clear p1 hneg
                  have hst3 : ∀ W, At w1.heap.size W d s2 → Calls Try.prog 20 #[.pointer (some ⟨d, 0, none⟩)] W fun e w' => e = .returned (.int .i64 ((s2.steps : Int))) ∧ W = w' := fun W hW => by
                    have := disk_Steps hW.1
                    rw [HST2.out] at this
                    exact this
                  have hdn3 : ∀ W, At w1.heap.size W d s2 → Calls Try.prog 18 #[.pointer (some ⟨d, 0, none⟩)] W fun e w' => e = .returned (.bool false) ∧ W = w' := fun W hW => by
                    have := disk_Down hW.1
                    rw [HDN2.out] at this
                    exact this
                  go_wp2_with (first
                    | (go_at_call 20; refine (hst3 _ A3.out).mono ?_; rintro e w' ⟨rfl, rfl⟩)
                    | (go_at_call 20; refine hst1.mono ?_; rintro e w' ⟨rfl, rfl⟩)
                    | (go_at_call 11; refine hdo.mono ?_; rintro e w3 ⟨rfl, at3, b3, x3⟩; have A3 := Lib.hid at3; have B3 := Lib.hid (HBR.out.trans b3); have c0' : w3.cell? ⟨wr.heap.size, 0, none⟩ = some (.int .i64 kd) := cell_of x3; clear at3 b3 x3)
                    | (go_at_call 18; refine (hdn3 _ A3.out).mono ?_; rintro e w' ⟨rfl, rfl⟩))
                  go_roundw
                  case rel => exact ⟨k + 1, by omega, by go_num, s2, A3.out, HARM.out, HBK.out, HLN.out, by have := HSTP.out; omega, HR1.out, B3.out⟩
                  case measure => simp [RowKit.intOf]; omega
          · have hoo := hout (by omega)
            have hK1' : kd < 1 := by omega
            injection hoo with x1 x2
            subst x1
            subst x2
            clear hout q4 q5 q6 hK1
            cases hdn2 : s2.down with
            | true =>
              obtain ⟨hpos, heq⟩ := p2 hdn2
              have HDN2 := Lib.hid hdn2
              have HST2 := Lib.hid heq
              rw [heq] at hst1
              clear p1 p2 hdn2 heq
              have hst3 : ∀ W, At w1.heap.size W d s2 → Calls Try.prog 20 #[.pointer (some ⟨d, 0, none⟩)] W fun e w' => e = .returned (.int .i64 (n)) ∧ W = w' := fun W hW => by
                have := disk_Steps hW.1
                rw [HST2.out] at this
                exact this
              have hdn3 : ∀ W, At w1.heap.size W d s2 → Calls Try.prog 18 #[.pointer (some ⟨d, 0, none⟩)] W fun e w' => e = .returned (.bool true) ∧ W = w' := fun W hW => by
                have := disk_Down hW.1
                rw [HDN2.out] at this
                exact this
              go_wp2_with (first
                | (go_at_call 20; refine (hst3 _ A3.out).mono ?_; rintro e w' ⟨rfl, rfl⟩)
                | (go_at_call 20; refine hst1.mono ?_; rintro e w' ⟨rfl, rfl⟩)
                | (go_at_call 11; refine hdo.mono ?_; rintro e w3 ⟨rfl, at3, b3, x3⟩; have A3 := Lib.hid at3; have B3 := Lib.hid (HBR.out.trans b3); have c0' : w3.cell? ⟨wr.heap.size, 0, none⟩ = some (.int .i64 kd) := cell_of x3; clear at3 b3 x3)
                | (go_at_call 18; refine (hdn3 _ A3.out).mono ?_; rintro e w' ⟨rfl, rfl⟩))
              go_roundw
              case rel => exact ⟨k + 1, by omega, by go_num, s2, A3.out, HARM.out, HBK.out, HLN.out, by have := HSTP.out; omega, HR1.out, B3.out⟩
              case measure => simp [RowKit.intOf]; omega
            | false =>
              have HDN2 := Lib.hid hdn2
              have HST2 := Lib.hid (show (s2.steps : Int) = (s2.steps : Int) from rfl)
              clear p2 hdn2
              by_cases hneg : n < 0
              · clear p1
                have hst3 : ∀ W, At w1.heap.size W d s2 → Calls Try.prog 20 #[.pointer (some ⟨d, 0, none⟩)] W fun e w' => e = .returned (.int .i64 ((s2.steps : Int))) ∧ W = w' := fun W hW => by
                  have := disk_Steps hW.1
                  rw [HST2.out] at this
                  exact this
                have hdn3 : ∀ W, At w1.heap.size W d s2 → Calls Try.prog 18 #[.pointer (some ⟨d, 0, none⟩)] W fun e w' => e = .returned (.bool false) ∧ W = w' := fun W hW => by
                  have := disk_Down hW.1
                  rw [HDN2.out] at this
                  exact this
                go_wp2_with (first
                  | (go_at_call 20; refine (hst3 _ A3.out).mono ?_; rintro e w' ⟨rfl, rfl⟩)
                  | (go_at_call 20; refine hst1.mono ?_; rintro e w' ⟨rfl, rfl⟩)
                  | (go_at_call 11; refine hdo.mono ?_; rintro e w3 ⟨rfl, at3, b3, x3⟩; have A3 := Lib.hid at3; have B3 := Lib.hid (HBR.out.trans b3); have c0' : w3.cell? ⟨wr.heap.size, 0, none⟩ = some (.int .i64 kd) := cell_of x3; clear at3 b3 x3)
                  | (go_at_call 18; refine (hdn3 _ A3.out).mono ?_; rintro e w' ⟨rfl, rfl⟩))
                go_roundw
                case rel => exact ⟨k + 1, by omega, by go_num, s2, A3.out, HARM.out, HBK.out, HLN.out, by have := HSTP.out; omega, HR1.out, B3.out⟩
                case measure => simp [RowKit.intOf]; omega
              · have hpos : 0 ≤ n := by omega
                have hle : (s2.steps : Int) ≤ n := p1 hpos
                clear p1 hneg
                have hst3 : ∀ W, At w1.heap.size W d s2 → Calls Try.prog 20 #[.pointer (some ⟨d, 0, none⟩)] W fun e w' => e = .returned (.int .i64 ((s2.steps : Int))) ∧ W = w' := fun W hW => by
                  have := disk_Steps hW.1
                  rw [HST2.out] at this
                  exact this
                have hdn3 : ∀ W, At w1.heap.size W d s2 → Calls Try.prog 18 #[.pointer (some ⟨d, 0, none⟩)] W fun e w' => e = .returned (.bool false) ∧ W = w' := fun W hW => by
                  have := disk_Down hW.1
                  rw [HDN2.out] at this
                  exact this
                go_wp2_with (first
                  | (go_at_call 20; refine (hst3 _ A3.out).mono ?_; rintro e w' ⟨rfl, rfl⟩)
                  | (go_at_call 20; refine hst1.mono ?_; rintro e w' ⟨rfl, rfl⟩)
                  | (go_at_call 11; refine hdo.mono ?_; rintro e w3 ⟨rfl, at3, b3, x3⟩; have A3 := Lib.hid at3; have B3 := Lib.hid (HBR.out.trans b3); have c0' : w3.cell? ⟨wr.heap.size, 0, none⟩ = some (.int .i64 kd) := cell_of x3; clear at3 b3 x3)
                  | (go_at_call 18; refine (hdn3 _ A3.out).mono ?_; rintro e w' ⟨rfl, rfl⟩))
                go_roundw
                case rel => exact ⟨k + 1, by omega, by go_num, s2, A3.out, HARM.out, HBK.out, HLN.out, by have := HSTP.out; omega, HR1.out, B3.out⟩
                case measure => simp [RowKit.intOf]; omega
      · have hkl : k = len := by omega
        have hko : k = os.length := by rw [hkl]; exact I1.out.1
        have hsumk : sumT (os.take k) = sumT os := by rw [List.take_of_length_le (by omega)]
        have hs200 := FEW.out.sum
        have hback := at_Back hat none 0 0 [] (IsKeeps.nil wr)
        have hcb := calm_back s []
        obtain ⟨g1, g2⟩ := back_bulk s []
        have gr1 : (s.back []).r1 = 5000 := hr1
        have gst : (s.back []).steps ≤ 200 := by show s.steps ≤ 200; omega
        have HBR := Lib.hid hbr
        obtain ⟨s9, hs9⟩ : ∃ s9, s9 = s.back [] := ⟨_, rfl⟩
        rw [← hs9] at hback hcb g1 g2 gr1 gst
        have gb : bulkS s9 ≤ 212800 := by omega
        have gl : s9.fs.length ≤ len := by omega
        have HCB := Lib.hid hcb
        have HGB := Lib.hid gb
        have HGR := Lib.hid gr1
        have hlen2 : len ≤ 200 := by omega
        clear hs9 hat harm hbk hln hst hr1 hbr hcb hsumk hko g1 g2 gb gr1 hs200
        go_wp2_with (go_at_call 12; refine hback.mono ?_; rintro e w4 ⟨rfl, at4, b4⟩; have A4 := Lib.hid at4; have B4 := Lib.hid (HBR.out.trans b4); clear at4 b4 hback)
        go_loopw [11, 12] (fun fr i wr => ∃ j q : Nat, j ≤ len + 1 ∧ i = .int .i64 j ∧ q ≤ j ∧ fr = .int .i64 (1099511627776 + (q : Int)) ∧ (∀ x : Nat, x < q → ∃ f ∈ s9.fs, f.n = 1099511627776 + (x : Int)) ∧ (q = j ∨ findL (1099511627776 + (q : Int)) s9.fs = none) ∧ At w1.heap.size wr d s9 ∧ Below w1.heap.size w1 wr) (fun _ i _ => len + 1 - (RowKit.intOf i).toNat)
        case atStart => exact ⟨0, 0, Nat.zero_le _, rfl, Nat.le_refl _, by simp, fun x hx => absurd hx (Nat.not_lt_zero _), .inl rfl, A4.out, B4.out⟩
        case round =>
          obtain ⟨j, q, hj, rfl, hqj, rfl, hpig, hor, hat5, hb5⟩ := hrel
          have HPIG := Lib.hid hpig
          have HB5 := Lib.hid hb5
          have hwf5 : (Lit.int .i64 (1099511627776 + (q : Int))).wf = true := WalkArith.wf_i64 (by omega)
          clear hpig hb5
          by_cases hjl : j ≤ len
          · have hjl' : (j : Int) ≤ len := by omega
            cases hfq : findL (1099511627776 + (q : Int)) s9.fs with
            | none =>
              have hsz5 := disk_Size hat5.1 (1099511627776 + (q : Int)) hwf5
              rw [show s9.size (1099511627776 + (q : Int)) = (0, 0, 9) by unfold DS.size; rw [if_neg (by rw [HCB.out.down]; simp), hfq]] at hsz5
              have HFQ := Lib.hid hfq
              have HA5 := Lib.hid hat5
              clear hfq hor hat5 hwf5
              go_wp2_with (go_at_call 14; refine hsz5.mono ?_; rintro e w' ⟨rfl, m5, rfl⟩)
              go_roundw
              case rel => exact ⟨j + 1, q, by omega, by go_num, by omega, rfl, HPIG.out, .inr HFQ.out, HA5.out.drewN _, ⟨HB5.out.os, HB5.out.tape, HB5.out.output, HB5.out.size, HB5.out.block⟩⟩
              case measure => simp [RowKit.intOf]; omega
            | some f5 =>
              have hsz5 := disk_Size hat5.1 (1099511627776 + (q : Int)) hwf5
              rw [size_there HCB.out hfq] at hsz5
              have hqj2 : q = j := by
                rcases hor with x | x
                · exact x
                · rw [hfq] at x; cases x
              have HQJ := Lib.hid hqj2
              have HFQ := Lib.hid hfq
              have HA5 := Lib.hid hat5
              clear hfq hor hat5 hwf5 hqj2
              go_wp2_with (go_at_call 14; refine hsz5.mono ?_; rintro e w' ⟨rfl, m5, rfl⟩)
              go_roundw
              case rel =>
                refine ⟨j + 1, q + 1, by omega, by go_num, by omega, congrArg (Value.int .i64) (by omega), fun x hx => ?_, .inl (by rw [HQJ.out]), HA5.out.drewN _, ⟨HB5.out.os, HB5.out.tape, HB5.out.output, HB5.out.size, HB5.out.block⟩⟩
                rcases Nat.lt_succ_iff_lt_or_eq.1 hx with hx | hx
                · exact HPIG.out x hx
                · obtain ⟨m1, m2⟩ := findL_mem HFQ.out
                  exact ⟨f5, m1, by rw [hx]; exact m2⟩
              case measure => simp [RowKit.intOf]; omega
          · have hje : j = len + 1 := by omega
            have hpq := pigeons 1099511627776 q s9.fs HPIG.out
            have hfq : findL (1099511627776 + (q : Int)) s9.fs = none := by
              rcases hor with x | x
              · omega
              · exact x
            have hmk := at_Make hat5 1 (1099511627776 + (q : Int)) hwf5 (by omega)
            have hok : (s9.make 1 (1099511627776 + (q : Int))).2 = 0 := by
              unfold DS.make
              have hroom : ¬ s9.room 1 ≤ s9.used 1 := by
                have h1 := HGB.out
                have h2 := HGR.out
                unfold DS.room DS.used
                unfold bulkS at h1
                simp only [if_neg (show ¬ ((1 : Int) = 0) by decide)]
                omega
              rw [if_neg (by rw [HCB.out.down]; simp), if_neg (by omega), if_neg (by rw [hfq]; simp), if_neg hroom, if_neg (by rw [HCB.out.left]; omega)]
            rw [hok] at hmk
            have hdn := disk_Down hat5.1
            rw [HCB.out.down] at hdn
            have hjl' : (len : Int) < (j : Int) := by omega
            clear hok hfq hpq hor hat5 hwf5 hje
            go_wp2_with (first
              | (go_at_call 18; refine hdn.mono ?_; rintro e w' ⟨rfl, rfl⟩)
              | (go_at_call 13; refine hmk.mono ?_; rintro e w6 ⟨rfl, at6, b6⟩; have B6 := Lib.hid (HB5.out.trans b6); clear at6 b6))
            go_ret
            exact ⟨rfl, B1.out.trans (B6.out.mono B1.out.size)⟩

theorem contract (H : Type) (enc : TypeId × Value → H) (W : World) (base : Nat) (args : Array Value) (ds gs : List (DataW H)) (before : List MemPlace)
    (hval : ∀ (j : Nat) t v, Try.f4.params[j]? = some t → args[j]? = some v → Value.okWide Try.prog W .any base t v)
    (hW : DataW.Whole enc Try.prog Try.f4.params.toList Rows.diskArmedSpec.vars false W args.toList ds gs before) :
    Calls Try.prog 4 args W fun e W' => ∃ v, e = .returned v ∧ Rows.diskArmedSpec.post enc Try.prog Try.f4 false true false false W args v W' := by
  have hW' := hW
  obtain ⟨p, q, hA0, hV, rfl, hfz, hnd⟩ := hW
  have hA : DataW.TrodAll enc Try.prog W 0 (fun _ => true) true Try.f4.params.toList args.toList ds p := hA0
  rw [Try.params4] at hA hval
  obtain ⟨v0, vs0, d0, ds0, p0, q0, hargs, rfl, rfl, h0, r0⟩ := trodAll_cons hA
  obtain ⟨v1, vs1, d1, ds1, p1, q1, rfl, rfl, rfl, h1, r1⟩ := trodAll_cons r0
  obtain ⟨rfl, rfl, rfl⟩ := trodAll_nil r1
  obtain rfl : args = #[v0, v1] := by cases args; simp_all
  obtain ⟨rfl, rfl⟩ := trodVars_none hV
  obtain ⟨a0, len0, cap0, rfl⟩ := okWide_slice Try.underlying22 (hval 0 22 v0 rfl rfl)
  have k0 := h0
  have lt0 : ∀ x ∈ p0, x.block < W.heap.size := by obtain ⟨m, hm⟩ := k0; exact DataW.trod_lt m _ _ _ hm
  obtain ⟨os, i0⟩ : ∃ os, IsOps W a0 len0 os := by
    obtain ⟨fuel, hf⟩ := h0
    obtain ⟨a, len, cap, os, hcs, hi⟩ := ops_read hf
    simp [Value.cells] at hcs
    obtain ⟨rfl, rfl, rfl⟩ := hcs
    exact ⟨os, hi⟩
  obtain ⟨x1, rfl, rfl, rfl, w1⟩ := open_int Try.underlying3 (hval 1 3 v1 rfl rfl) h1
  clear hA0
  simp only [List.append_nil] at hW'
  refine (walk a0 len0 cap0 os x1 W i0 w1).mono fun e W' ⟨he, bel⟩ => ?_
  subst he
  exact ⟨_, rfl, _, _, _, [], _, [], hW', trodAll_mk1 (shut_bool Try.underlying4 _), (trodAll_cons_mk (Below.trod laidOut (by kernel_rfl) (of_decide_eq_true (by kernel_rfl)) k0 bel lt0) (trodAll_cons_mk (shut_int Try.underlying3 w1) trodAll_mk0)), rfl, bel.frame _, fun h => by cases h⟩

set_option maxRecDepth 100000 in
theorem lifted (os : Os) (started : os.Started) (H : Type) (enc : TypeId × Value → H) :
    ReturnsInHanded {} Try.checked os 4 .any (Rows.diskArmedSpec.pre6 enc Try.prog Try.f4 Rows.diskArmedRow.domain false) (Rows.diskArmedSpec.post enc Try.prog Try.f4 false true false false) := by
  refine returnsInHanded_of_change (C := Try.checked) own started (by kernel_rfl) Try.func4
    (ChangeSpec.witness6 (enc := enc) (C := Try.checked) false ⟨#[], #[.slice none 0 0, .int .i64 0], []⟩ 8 (by kernel_rfl) (by kernel_rfl) (by kernel_rfl) (by kernel_rfl)) ?_
  intro W base args ds gs before hval hW _ _
  exact contract H enc W base args ds gs before hval hW

theorem over : Rows.diskArmedRow.holds Try.pinned (OpenSpec.ofChange Rows.diskArmedSpec) :=
  OpenClaim.holds_of_wide 4 Try.f4 rfl rfl rfl rfl rfl rfl rfl ⟨rfl, rfl, rfl, rfl, rfl⟩ rfl rfl rfl rfl rfl (by kernel_rfl) Try.func4 (by kernel_rfl)
    (of_decide_eq_true (by kernel_rfl)) (by unfold Func.isWrapper; first | (rw [if_pos (by decide +kernel)]; kernel_rfl) | (rw [if_neg (by decide +kernel)]; exact ⟨rfl, rfl⟩))
    (fun os started H enc _ => lifted os started H enc)

/-- ████ THE STATEMENT ████ -/
theorem proved : Rows.DiskArmedSaid :=
  over
#print axioms proved
end Go.Proofs.Ytgmfcjmbapmagaa.diskArmed
