/- DiskRoom: a tier never has more blocks taken than it has; a refused call changes nothing; a file that is dropped leaves its blocks. For every input; no condition. -/
import Derived.Test.YtgmfcjmbapmagaaRows
import Derived.Test.YtgmfcjmbapmagaaDiskRoomPlain
import Derived.Below
import Derived.WalkKit
import Derived.ProofKit
import Derived.OpenShut
import Derived.ShutString
import Derived.Deep.RegionHeld3
namespace Go.Proofs.Ytgmfcjmbapmagaa.diskRoom
open Go.ChangeShapes Go.WideShapes Go.ChangeAt Go.RowKit
set_option linter.unusedVariables false

theorem own : ownKnob Try.prog.godebug = none := by kernel_rfl
theorem laidOut : laidOutB Try.prog = true := by kernel_rfl

theorem drew_left {B : Nat} {a b : World} (h : Below B a.drew b) : Below B a b := ⟨h.os, h.tape, h.output, h.size, h.block⟩
/-- Blocks from B on, but for the row of numbers. -/
def SX (B : Nat) (a : Option Addr) (k : Nat) : Prop := B ≤ k ∧ ∀ g, a = some ⟨g, 0, none⟩ → k ≠ g
def HasRoot (d : Nat) (R : Int) (W : World) : Prop := ∃ (S' : Nat → Prop) (s' : DS), Disk S' W d s' ∧ s'.root = R
structure Dropped (B : Nat) (a : Option Addr) (d : Nat) (s2 : DS) (ns : List Int) (w1 w : World) : Prop where
  disk : Disk (SX B a) w d s2
  size : B ≤ w.heap.size
  row : RowN w a ns
  below : Below B w1 w

set_option maxHeartbeats 8000000 in
set_option maxRecDepth 100000 in
theorem walk (hc cc : Nat) (a : Option Addr) (len cap : Nat) (os : List OP) (w : World) (h : IsOps w a len os) (hhc : hc ≤ 255) (hcc : cc ≤ 255) :
    Calls Try.prog 5 #[.int .u8 (hc : Int), .int .u8 (cc : Int), .slice a len cap] w fun e w' => e = .returned (.bool true) ∧ Below w.heap.size w w' := by
  have hA := law_awake w
  have HI := Lib.hid h
  clear h
  go_enter Try.func5, Try.ntmps5
  go_wp2_with fail
  refine hA.mono ?_
  rintro e w1 ⟨rfl, b1⟩
  have B1 := Lib.hid b1
  have I1 := Lib.hid (HI.out.below b1)
  clear b1 hA
  go_wp2_with fail
  refine (law_few a len cap os w1 I1.out).mono ?_
  rintro e w2 ⟨fb, rfl, hfew, rfl⟩
  cases fb with
  | false =>
    clear hfew
    have hA := law_awake w1
    go_wp2_with fail
    refine hA.mono ?_
    rintro e w2 ⟨rfl, b2⟩
    have B2 := Lib.hid (B1.out.trans (b2.mono B1.out.size))
    clear b2 hA
    go_wp2
    go_ret
    exact ⟨rfl, B2.out⟩
  | true =>
    have FEW := Lib.hid (hfew rfl)
    clear hfew
    have hN := at_New hc cc w1 (by omega) (by omega)
    go_wp2_with (go_at_call 10; refine hN.mono ?_; rintro e w2 ⟨d, rfl, at2, b2⟩; have A2 := Lib.hid at2; have B2 := Lib.hid b2; clear b2 at2 hN)
    go_loopw [9] (fun i wr => ∃ k : Nat, k ≤ len ∧ i = .int .i64 k ∧ ∃ s, At w1.heap.size wr d s ∧ Calm s ∧ s.r0 = hc ∧ s.r1 = cc ∧ s.steps ≤ k ∧ Below w1.heap.size w1 wr) (fun i _ => len - (RowKit.intOf i).toNat)
    case atStart => exact ⟨0, Nat.zero_le _, rfl, _, A2.out, calm_new _ _, rfl, rfl, Nat.le_refl _, B2.out⟩
    case round =>
      obtain ⟨k, hk, rfl, s, hat, hcalm, hr0, hr1, hst, hbr⟩ := hrel
      have hlen200 := FEW.out.len
      have hmax := HI.out.2.1
      by_cases hlt : k < len
      · obtain ⟨hlen, _, b, off, ha, hrow⟩ := I1.out
        have hlt0 : k < os.length := by omega
        obtain ⟨r1, r2, r3⟩ := hrow k hlt0
        obtain rfl : a = some ⟨b, off, none⟩ := by rcases ha with x | x; (omega); (exact x)
        obtain ⟨t1, t2⟩ := FEW.out.text os[k] (List.getElem_mem hlt0)
        obtain ⟨o, ho⟩ : ∃ o, o = os[k] := ⟨_, rfl⟩
        rw [← ho] at r2 r3 t1 t2
        obtain ⟨kd, tr, fl, ap, sz, tx, xa, xl, xc, xs⟩ := o
        have hin : ∀ W, Below w1.heap.size w1 W → ∀ j, j < 7 → W.cell? ⟨b, off + k * 7 + j, none⟩ = (OP.vals ⟨kd, tr, fl, ap, sz, tx, xa, xl, xc, xs⟩)[j]? := fun W hW j hj => by rw [hW.cell r1]; exact r2 j hj
        have HIN := Lib.hid hin
        have hlt' : (k : Int) < len := by omega
        have hk200 : k < 200 := by omega
        have HBR := Lib.hid hbr
        have hu0 := disk_Used hat.1 0 (.inl rfl)
        have hu1 := disk_Used hat.1 1 (.inr rfl)
        have hfl := disk_Files hat.1
        have hflen : s.fs.length ≤ 4611686018427387904 := by
          have h1 := length_le_used s.fs (fun f hf => (hat.1.1.file f hf).1)
          have := hat.1.1.u0; have := hat.1.1.u1; have := hat.1.1.r0; have := hat.1.1.r1
          omega
        have hdo := fun W (hW : At w1.heap.size W d s) (hb : Below w1.heap.size w1 W) => at_do hW ⟨kd, tr, fl, ap, sz, tx, xa, xl, xc, xs⟩ (r3.below hb) (by omega) (by show tx.length ≤ _; have : tx.length ≤ 100000 := t1; omega)
        obtain ⟨q1, q2, q3, q4, q5, _⟩ := do_calm hcalm ⟨kd, tr, fl, ap, sz, tx, xa, xl, xc, xs⟩
        obtain ⟨s2, e2, hse⟩ : ∃ s2 e2, doS s ⟨kd, tr, fl, ap, sz, tx, xa, xl, xc, xs⟩ = (s2, e2) := ⟨_, _, rfl⟩
        rw [hse] at hdo q1 q2 q3 q4 q5
        simp only [OP.vals] at hdo
        try simp only at q1 q2 q3 q4 q5
        have HC := Lib.hid q1
        have HR0 := Lib.hid (show s2.r0 = hc by rw [q3, hr0])
        have HR1 := Lib.hid (show s2.r1 = cc by rw [q4, hr1])
        have HST := Lib.hid (Nat.le_trans q2 (Nat.succ_le_succ hst))
        have HAT := Lib.hid hat
        have HQ5 := Lib.hid q5
        clear hse q1 q2 q3 q4 q5 hat hcalm hst hbr r1 r2 r3 ho hlen ha hrow hin t1 t2 hlt0 hr0 hr1
        go_wp2_with (first
          | (go_at_call 21; (with_reducible refine hu0.mono ?_); rintro e w' ⟨rfl, rfl⟩)
          | (go_at_call 21; (with_reducible refine hu1.mono ?_); rintro e w' ⟨rfl, rfl⟩)
          | (go_at_call 22; refine hfl.mono ?_; rintro e w4 ⟨v4, ns4, rfl, hp4, hr4, b4⟩; obtain ⟨a4, cap4, rfl, _, _⟩ := rowN_of hr4; have hl4 : ns4.length = s.fs.length := (by rw [hp4.length_eq, List.length_map]); have A4 := Lib.hid (HAT.out.below b4); have B4 := Lib.hid (HBR.out.trans (b4.mono HAT.out.2)); rw [hl4]; clear hp4 hr4 b4 hl4))
        refine (disk_Root A4.out.1).mono ?_
        rintro e w' ⟨rfl, rfl⟩
        have c0 : w4.cell? ⟨b, off + k * 7, none⟩ = some (.int .i64 kd) := HIN.out w4 B4.out 0 (by omega)
        have c1 : w4.cell? ⟨b, off + k * 7 + 1, none⟩ = some (.int .i64 tr) := HIN.out w4 B4.out 1 (by omega)
        have c2 : w4.cell? ⟨b, off + k * 7 + 2, none⟩ = some (.int .i64 fl) := HIN.out w4 B4.out 2 (by omega)
        have c3 : w4.cell? ⟨b, off + k * 7 + 3, none⟩ = some (.int .i64 ap) := HIN.out w4 B4.out 3 (by omega)
        have c4 : w4.cell? ⟨b, off + k * 7 + 4, none⟩ = some (.int .i64 sz) := HIN.out w4 B4.out 4 (by omega)
        have c5 : w4.cell? ⟨b, off + k * 7 + 5, none⟩ = some (.string (bs tx)) := HIN.out w4 B4.out 5 (by omega)
        have c6 : w4.cell? ⟨b, off + k * 7 + 6, none⟩ = some (.slice xa xl xc) := HIN.out w4 B4.out 6 (by omega)
        clear hu0 hu1 hfl
        go_wp2_with fail
        refine (hdo w4 A4.out B4.out).mono ?_
        rintro e w5 ⟨rfl, at5, b5⟩
        have A5 := Lib.hid at5
        have B5 := Lib.hid (B4.out.trans b5)
        have hu0 := disk_Used at5.1 0 (.inl rfl)
        have hu1 := disk_Used at5.1 1 (.inr rfl)
        have hle0 : (s2.used 0 : Int) ≤ (hc : Int) := by have := at5.1.1.u0; have := HR0.out; unfold DS.used; omega
        have hle1 : (s2.used 1 : Int) ≤ (cc : Int) := by have := at5.1.1.u1; have := HR1.out; unfold DS.used; omega
        clear at5 b5 c0 c1 c2 c3 c4 c5 c6
        by_cases he0 : e2 = 0
        · subst he0
          go_wp2_with (first
            | (go_at_call 21; (with_reducible refine hu0.mono ?_); rintro e w' ⟨rfl, rfl⟩)
            | (go_at_call 21; (with_reducible refine hu1.mono ?_); rintro e w' ⟨rfl, rfl⟩))
          go_roundw
          case rel => exact ⟨k + 1, by omega, by go_num, s2, A5.out, HC.out, HR0.out, HR1.out, HST.out, B5.out⟩
          case measure => simp [RowKit.intOf]; omega
        · have e0 : (e2 == 0) = false := by simpa using he0
          have e0' : (e2 != 0) = true := by simp [bne, e0]
          obtain rfl : s2 = s := HQ5.out he0
          have hfl := disk_Files A5.out.1
          clear he0
          go_wp2_with (first
            | (go_at_call 21; (with_reducible refine hu0.mono ?_); rintro e w' ⟨rfl, rfl⟩)
            | (go_at_call 21; (with_reducible refine hu1.mono ?_); rintro e w' ⟨rfl, rfl⟩)
            | (go_at_call 22; refine hfl.mono ?_; rintro e w6 ⟨v4, ns4, rfl, hp4, hr4, b4⟩; obtain ⟨a4, cap4, rfl, _, _⟩ := rowN_of hr4; have hl4 : ns4.length = s2.fs.length := (by rw [hp4.length_eq, List.length_map]); have A6 := Lib.hid (A5.out.below b4); have B6 := Lib.hid (B5.out.trans (b4.mono A5.out.2)); rw [hl4]; clear hp4 hr4 b4 hl4))
          refine (disk_Root A6.out.1).mono ?_
          rintro e w' ⟨rfl, rfl⟩
          go_wp2
          go_roundw
          case rel => exact ⟨k + 1, by omega, by go_num, s2, A6.out, HC.out, HR0.out, HR1.out, HST.out, B6.out⟩
          case measure => simp [RowKit.intOf]; omega
      · have hback := at_Back hat none 0 0 [] (IsKeeps.nil wr)
        have hcb := calm_back s []
        have gst : (s.back []).steps ≤ 9223372036 := by show s.steps ≤ _; have := I1.out.1; omega
        have HBR := Lib.hid hbr
        obtain ⟨s9, hs9⟩ : ∃ s9, s9 = s.back [] := ⟨_, rfl⟩
        rw [← hs9] at hback hcb gst
        have HCB := Lib.hid hcb
        clear hs9 hat hcalm hst hbr hcb hr0 hr1
        go_wp2_with (go_at_call 12; refine hback.mono ?_; rintro e w4 ⟨rfl, at4, b4⟩; have A4 := Lib.hid at4; have B4 := Lib.hid (HBR.out.trans b4); clear at4 b4 hback)
        refine (disk_Files A4.out.1).mono ?_
        rintro e w6 ⟨v6, ns, rfl, hp6, hr6, b6⟩
        obtain ⟨a6, cap6, rfl, hrn, hbg⟩ := rowN_of hr6
        have hD6 : Disk (SX w1.heap.size a6) w6 d s9 := (A4.out.1.tight.below b6).mono fun k _ hk => ⟨hk.1, fun g hg => by have := hbg g hg; have := hk.2; omega⟩
        have hnd : ns.Nodup := hp6.nodup_iff.2 A4.out.1.1.nod
        have hG0 := gone_start HCB.out A4.out.1.1 hp6
        have hnl : ns.length ≤ 4194304 := by
          have h1 := length_le_used s9.fs (fun f hf => (A4.out.1.1.file f hf).1)
          have := A4.out.1.1.u0; have := A4.out.1.1.u1; have := A4.out.1.1.r0; have := A4.out.1.1.r1
          rw [hp6.length_eq, List.length_map]
          omega
        have B6 := Lib.hid (B4.out.trans (b6.mono A4.out.2))
        have HD6 := Lib.hid hD6
        have HRN := Lib.hid hrn
        have HND := Lib.hid hnd
        have HG0 := Lib.hid hG0
        clear hp6 hr6 b6 hrn hbg hD6 hnd hG0
        go_wp2_with fail
        go_loopw [16] (fun i wr => ∃ j : Nat, j ≤ ns.length ∧ i = .int .i64 j ∧ ∃ s, Disk (SX w1.heap.size a6) wr d s ∧ w1.heap.size ≤ wr.heap.size ∧ Gone ns j s9.root s9.steps s ∧ RowN wr a6 ns ∧ Below w1.heap.size w1 wr) (fun i _ => ns.length - (RowKit.intOf i).toNat)
        case atStart => exact ⟨0, Nat.zero_le _, rfl, s9, HD6.out, B6.out.size, HG0.out, HRN.out, B6.out⟩
        case round =>
          obtain ⟨j, hj, rfl, s, hD, hsz, hG, hrow, hb⟩ := hrel
          by_cases hjl : j < ns.length
          · have hjl' : (j : Int) < ns.length := by omega
            obtain ⟨g, hga, hgl, hgc⟩ : ∃ g, a6 = some ⟨g, 0, none⟩ ∧ g < wr.heap.size ∧ ∀ i (h : i < ns.length), wr.cell? ⟨g, i, none⟩ = some (.int .i64 ns[i]) := by
              rcases hrow with x | x
              · rw [x] at hjl; exact absurd hjl (by simp)
              · exact x
            obtain ⟨c, hc, hG2, hrt2, hc11, hc0⟩ := gone_next hG hjl HND.out
            obtain ⟨s2, hs2⟩ : ∃ s2, s2 = (s.drop ns[j]).1 := ⟨_, rfl⟩
            rw [← hs2] at hc hG2 hrt2
            have hcell := hgc j hjl
            obtain ⟨m, hm⟩ : ∃ m, m = ns[j] := ⟨_, rfl⟩
            rw [← hm] at hc hc11 hc0 hcell
            have hmf : (Lit.int .i64 m).wf = true := by
              obtain ⟨f, hf⟩ := hG.there ns[j] (by rw [List.drop_eq_getElem_cons hjl]; exact List.mem_cons_self ..)
              obtain ⟨h1, h2⟩ := findL_mem hf
              have := (hD.1.file f h1).2.2.2
              exact WalkArith.wf_i64 (by omega)
            have hgS : ¬ SX w1.heap.size a6 g := fun x => x.2 g hga rfl
            obtain ⟨R, hR⟩ : ∃ R, R = s9.root := ⟨_, rfl⟩
            have hrs : s.root = R := by rw [hR]; exact hG.rt
            have hrs2 : s2.root = R := by rw [hrt2, hrs]
            rw [← hR] at hc11 hc0
            have hroot : ∀ W, HasRoot d R W → Calls Try.prog 23 #[.pointer (some ⟨d, 0, none⟩)] W fun e w' => e = .returned (.int .i64 R) ∧ W = w' := fun W ⟨S', s', hd', hr'⟩ => by
              have := disk_Root hd'
              rw [hr'] at this
              exact this
            have hdrew : Disk (SX w1.heap.size a6) wr.drew d s := hD.drewN 1
            have hdrop := disk_Drop hdrew m hmf (by have := hG.steps; omega)
            rw [hc] at hdrop
            have hdrop' : Calls Try.prog 24 #[.pointer (some ⟨d, 0, none⟩), .int .i64 m] wr.drew fun e w' => e = .returned (.int .i64 c) ∧ w'.cell? ⟨g, j, none⟩ = some (.int .i64 m) ∧ HasRoot d R w' ∧ Dropped w1.heap.size a6 d s2 ns w1 w' := hdrop.mono fun e w' ⟨h1, h2, h3⟩ => by
              have hcl : ∀ i (h : i < ns.length), w'.cell? ⟨g, i, none⟩ = some (.int .i64 ns[i]) := fun i hi => by
                unfold World.cell?
                rw [h3.block g hgl hgS]
                exact hgc i hi
              refine ⟨h1, by rw [hm]; exact hcl j hjl, ⟨_, s2, h2, hrs2⟩, ⟨h2.mono fun k _ hk => ?_, Nat.le_trans hsz h3.size, .inr ⟨g, hga, Nat.lt_of_lt_of_le hgl h3.size, hcl⟩, hb.trans (drew_left (h3.below (fun k _ x => x.1) hsz))⟩⟩
              rcases hk with x | x
              · exact x
              · exact ⟨Nat.le_trans hsz x, fun g' hg' => by rw [hga] at hg'; injection hg' with hg'; injection hg' with hg'; have : g < wr.drew.heap.size := hgl; omega⟩
            have hc1 : wr.drew.cell? ⟨g, j, none⟩ = some (.int .i64 m) := hcell
            have hh1 : HasRoot d R wr.drew := ⟨_, s, hdrew, hrs⟩
            have HG2 := Lib.hid hG2
            have HH1 := Lib.hid hh1
            subst hga
            clear hc hG2 hrt2 hs2 hgc hrs hrs2 hdrew hdrop hgS hgl hb hsz hD hG hrow hm hmf hR
            by_cases hmr : m = R
            · obtain rfl : c = 11 := hc11 hmr
              have hmr' : (m == R) = true := by simpa using hmr
              clear hc11 hc0 hmr
              go_wp2_with fail
              go_region_held3 (fun w' => w'.cell? ⟨g, j, none⟩ = some (.int .i64 m) ∧ HasRoot d R w') (first | exact ⟨hc1, hh1⟩ | exact ⟨hc2, hh2⟩) (first | (go_at_call 24; refine hdrop'.mono ?_; rintro e w5 ⟨rfl, hc2, hh2, hd2⟩) | (go_at_call 23; refine (hroot _ hh1).mono ?_; rintro e w' ⟨rfl, rfl⟩) | (go_at_call 23; refine (hroot _ hh2).mono ?_; rintro e w' ⟨rfl, rfl⟩))
              go_wp2
              go_roundw
              case rel => exact ⟨j + 1, by omega, by go_num, s2, hd2.disk, hd2.size, HG2.out, hd2.row, hd2.below⟩
              case measure => simp [RowKit.intOf]; omega
            · obtain rfl : c = 0 := hc0 hmr
              have hmr' : (m == R) = false := by simpa using hmr
              clear hc11 hc0 hmr
              go_wp2_with fail
              go_region_held3 (fun w' => w'.cell? ⟨g, j, none⟩ = some (.int .i64 m) ∧ HasRoot d R w') (first | exact ⟨hc1, hh1⟩ | exact ⟨hc2, hh2⟩) (first | (go_at_call 24; refine hdrop'.mono ?_; rintro e w5 ⟨rfl, hc2, hh2, hd2⟩) | (go_at_call 23; refine (hroot _ hh1).mono ?_; rintro e w' ⟨rfl, rfl⟩) | (go_at_call 23; refine (hroot _ hh2).mono ?_; rintro e w' ⟨rfl, rfl⟩))
              go_wp2
              go_roundw
              case rel => exact ⟨j + 1, by omega, by go_num, s2, hd2.disk, hd2.size, HG2.out, hd2.row, hd2.below⟩
              case measure => simp [RowKit.intOf]; omega
          · have hje : j = ns.length := by omega
            subst hje
            have hfin := gone_end hG hD.1
            have hu0 := disk_Used hD 0 (.inl rfl)
            have hu1 := disk_Used hD 1 (.inr rfl)
            have hrt := disk_Root hD
            rw [hG.rt] at hrt
            have hb0 : s.used 0 ≤ 1048576 := Nat.le_trans hD.1.u0 hD.1.r0
            have hb1 : s.used 1 ≤ 1048576 := Nat.le_trans hD.1.u1 hD.1.r1
            have HB := Lib.hid hb
            have hcalm := hG.calm
            have hwr := root_wf hD.1
            rw [hG.rt] at hwr
            rcases hfin with ⟨hR0, hsum⟩ | ⟨hR1, f, hf, hsum⟩
            · rw [hR0] at hrt
              have z0 : s.used 0 = 0 := by omega
              have z1 : s.used 1 = 0 := by omega
              rw [z0] at hu0
              rw [z1] at hu1
              clear hR0 hsum z0 z1 hD hG hrow hb hcalm hwr
              go_wp2_with (first
                | (go_at_call 23; refine hrt.mono ?_; rintro e w' ⟨rfl, rfl⟩)
                | (go_at_call 21; (with_reducible refine hu0.mono ?_); rintro e w' ⟨rfl, rfl⟩)
                | (go_at_call 21; (with_reducible refine hu1.mono ?_); rintro e w' ⟨rfl, rfl⟩))
              go_ret
              exact ⟨rfl, B1.out.trans (HB.out.mono B1.out.size)⟩
            · have hsz9 := disk_Size hD s9.root hwr
              rw [size_there hcalm hf] at hsz9
              have hfl := fit_len hD.1 hf
              have hbk := fun W => ref_Blocks f.data.length (by omega) W
              have hu0' := fun m => disk_Used (hD.drewN m) 0 (.inl rfl)
              have hu1' := fun m => disk_Used (hD.drewN m) 1 (.inr rfl)
              obtain ⟨R, hR⟩ : ∃ R, R = s9.root := ⟨_, rfl⟩
              rw [← hR] at hrt hsz9 hR1
              have hR1' : 0 < R := by omega
              have heq : (((s.used 0 : Int) + (s.used 1 : Int)) == (blk f.data.length : Int)) = true := by simp; omega
              clear hR hsum hD hG hrow hb hcalm hwr hf hu0 hu1
              go_wp2_with (first
                | (go_at_call 23; refine hrt.mono ?_; rintro e w' ⟨rfl, rfl⟩)
                | (go_at_call 14; refine hsz9.mono ?_; rintro e w' ⟨rfl, m9, rfl⟩)
                | (go_at_call 25; refine (hbk _).mono ?_; rintro e w' ⟨rfl, rfl⟩)
                | (go_at_call 21; (with_reducible refine (hu0' _).mono ?_); rintro e w' ⟨rfl, rfl⟩)
                | (go_at_call 21; (with_reducible refine (hu1' _).mono ?_); rintro e w' ⟨rfl, rfl⟩))
              go_ret
              have HE := B1.out.trans (HB.out.mono B1.out.size)
              exact ⟨rfl, ⟨HE.os, HE.tape, HE.output, HE.size, HE.block⟩⟩

theorem contract (H : Type) (enc : TypeId × Value → H) (W : World) (base : Nat) (args : Array Value) (ds gs : List (DataW H)) (before : List MemPlace)
    (hval : ∀ (j : Nat) t v, Try.f5.params[j]? = some t → args[j]? = some v → Value.okWide Try.prog W .any base t v)
    (hW : DataW.Whole enc Try.prog Try.f5.params.toList Rows.diskRoomSpec.vars false W args.toList ds gs before) :
    Calls Try.prog 5 args W fun e W' => ∃ v, e = .returned v ∧ Rows.diskRoomSpec.post enc Try.prog Try.f5 false true false false W args v W' := by
  have hW' := hW
  obtain ⟨p, q, hA0, hV, rfl, hfz, hnd⟩ := hW
  have hA : DataW.TrodAll enc Try.prog W 0 (fun _ => true) true Try.f5.params.toList args.toList ds p := hA0
  rw [Try.params5] at hA hval
  obtain ⟨v0, vs0, d0, ds0, p0, q0, hargs, rfl, rfl, h0, r0⟩ := trodAll_cons hA
  obtain ⟨v1, vs1, d1, ds1, p1, q1, rfl, rfl, rfl, h1, r1⟩ := trodAll_cons r0
  obtain ⟨v2, vs2, d2, ds2, p2, q2, rfl, rfl, rfl, h2, r2⟩ := trodAll_cons r1
  obtain ⟨rfl, rfl, rfl⟩ := trodAll_nil r2
  obtain rfl : args = #[v0, v1, v2] := by cases args; simp_all
  obtain ⟨rfl, rfl⟩ := trodVars_none hV
  obtain ⟨x0, rfl, rfl, rfl, w0⟩ := open_int Try.underlying5 (hval 0 5 v0 rfl rfl) h0
  obtain ⟨x1, rfl, rfl, rfl, w1⟩ := open_int Try.underlying5 (hval 1 5 v1 rfl rfl) h1
  obtain ⟨a2, len2, cap2, rfl⟩ := okWide_slice Try.underlying22 (hval 2 22 v2 rfl rfl)
  have k2 := h2
  have lt2 : ∀ x ∈ p2, x.block < W.heap.size := by obtain ⟨m, hm⟩ := k2; exact DataW.trod_lt m _ _ _ hm
  obtain ⟨os, i2⟩ : ∃ os, IsOps W a2 len2 os := by
    obtain ⟨fuel, hf⟩ := h2
    obtain ⟨a, len, cap, os, hcs, hi⟩ := ops_read hf
    simp [Value.cells] at hcs
    obtain ⟨rfl, rfl, rfl⟩ := hcs
    exact ⟨os, hi⟩
  clear hA0
  simp only [List.append_nil] at hW'
  have b0 : 0 ≤ x0 ∧ x0 ≤ 255 := by simp [Lit.wf, IntKind.min, IntKind.max, IntKind.signed, IntKind.bits] at w0; omega
  have b1 : 0 ≤ x1 ∧ x1 ≤ 255 := by simp [Lit.wf, IntKind.min, IntKind.max, IntKind.signed, IntKind.bits] at w1; omega
  have hw := walk x0.toNat x1.toNat a2 len2 cap2 os W i2 (by omega) (by omega)
  rw [Int.toNat_of_nonneg b0.1, Int.toNat_of_nonneg b1.1] at hw
  refine hw.mono fun e W' ⟨he, bel⟩ => ?_
  subst he
  exact ⟨_, rfl, _, _, _, [], _, [], hW', trodAll_mk1 (shut_bool Try.underlying4 _), (trodAll_cons_mk (shut_int Try.underlying5 w0) (trodAll_cons_mk (shut_int Try.underlying5 w1) (trodAll_cons_mk (Below.trod laidOut (by kernel_rfl) (of_decide_eq_true (by kernel_rfl)) k2 bel lt2) trodAll_mk0))), rfl, bel.frame _, fun h => by cases h⟩

set_option maxRecDepth 100000 in
theorem lifted (os : Os) (started : os.Started) (H : Type) (enc : TypeId × Value → H) :
    ReturnsInHanded {} Try.checked os 5 .any (Rows.diskRoomSpec.pre6 enc Try.prog Try.f5 Rows.diskRoomRow.domain false) (Rows.diskRoomSpec.post enc Try.prog Try.f5 false true false false) := by
  refine returnsInHanded_of_change (C := Try.checked) own started (by kernel_rfl) Try.func5
    (ChangeSpec.witness6 (enc := enc) (C := Try.checked) false ⟨#[], #[.int .u8 0, .int .u8 0, .slice none 0 0], []⟩ 8 (by kernel_rfl) (by kernel_rfl) (by kernel_rfl) (by kernel_rfl)) ?_
  intro W base args ds gs before hval hW _ _
  exact contract H enc W base args ds gs before hval hW

theorem over : Rows.diskRoomRow.holds Try.pinned (OpenSpec.ofChange Rows.diskRoomSpec) :=
  OpenClaim.holds_of_wide 5 Try.f5 rfl rfl rfl rfl rfl rfl rfl ⟨rfl, rfl, rfl, rfl, rfl⟩ rfl rfl rfl rfl rfl (by kernel_rfl) Try.func5 (by kernel_rfl)
    (of_decide_eq_true (by kernel_rfl)) (by unfold Func.isWrapper; first | (rw [if_pos (by decide +kernel)]; kernel_rfl) | (rw [if_neg (by decide +kernel)]; exact ⟨rfl, rfl⟩))
    (fun os started H enc _ => lifted os started H enc)

/-- ████ THE STATEMENT ████ -/
theorem proved : Rows.DiskRoomSaid :=
  over
#print axioms proved
end Go.Proofs.Ytgmfcjmbapmagaa.diskRoom
