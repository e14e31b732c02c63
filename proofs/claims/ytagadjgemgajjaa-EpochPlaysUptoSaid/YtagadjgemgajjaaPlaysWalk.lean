/- EpochPlays: the walk. -/
import Derived.Test.YtagadjgemgajjaaEpOpen
import Derived.Deep.RegionWith
import Derived.Deep.RegionHeld3
set_option linter.unusedVariables false
namespace Go.Proofs.Ytagadjgemgajjaa
open Go.RowKit

/-- Where both are, behind i calls. -/
def Sat (B : Nat) (w0 w : World) (b m : Nat) (i : Nat) : Prop :=
  ∃ q r s, q.b = b ∧ r.m = m ∧ Mid B w0 w q r s s ∧ s.Ok ∧ (∀ p ∈ s.wait, ∃ t, p.1 = Value.string t) ∧ s.now ≤ i + 1 ∧ s.wait.length ≤ 1048576 * i
theorem enter_wait (s : EB) (i t : Int) : (s.enter i t).1.wait = s.wait ∧ (s.enter i t).1.now = s.now := by
  unfold EB.enter
  split
  · split <;> exact ⟨rfl, rfl⟩
  · exact ⟨rfl, rfl⟩
theorem leave_wait (s : EB) (i : Int) : (s.leave i).1.wait = s.wait ∧ (s.leave i).1.now = s.now := by
  unfold EB.leave
  split
  · split <;> exact ⟨rfl, rfl⟩
  · exact ⟨rfl, rfl⟩
theorem mid_start {w w1 w2 : World} {n : Nat} {k : Nat} (hk : k = w1.heap.size + 1) (k1 : Bk 58 62 w.heap.size w1 ⟨w.heap.size + 1, w.heap.size, .slice none 0 0⟩ (newB n)) (b1 : Below w.heap.size w w1) (h2 : w2.heap[k]? = some (.cells ((newB n).came.map intV).toArray 3 (0, 0))) (b2 : Below w1.heap.size w1 w2) :
    Mid w.heap.size w (w2.alloc (.cells #[.int .i64 1, .slice (some ⟨k, 0, none⟩) n n, .slice none 0 0, .slice none 0 0] 30)) ⟨w.heap.size + 1, w.heap.size, .slice none 0 0⟩ ⟨w2.heap.size, k, .slice none 0 0, .slice none 0 0⟩ (newB n) (newB n) := by
  have hs := b2.size
  have hs1 := b1.size
  refine ⟨(k1.below b2).alloc _, ⟨?_, (Below.heap_alloc w2 _ _ (heap_lt h2)).trans h2, OffRow.nil _ _ _ _, OffRow.nil _ _ _ _, by simp [Value.ownBlock], by simp only; omega, by simp only; omega⟩, fun j hj hr => ?_, (b1.trans (b2.mono hs1)).alloc (by omega) _, by simp; omega⟩
  · have := heap_new w2 (.cells #[.int .i64 1, .slice (some ⟨k, 0, none⟩) n n, .slice none 0 0, .slice none 0 0] 30)
    simpa [newB, EB.rb] using this
  · have h1 : j < w1.heap.size := (k1.low j hj).2
    rcases hr with hr | hr | hr | hr
    · have : j = w2.heap.size := hr
      omega
    · have : j = k := hr
      omega
    · simp [Value.ownBlock] at hr
    · simp [Value.ownBlock] at hr
theorem Sat.drewN {B : Nat} {w0 w : World} {b m i : Nat} (h : Sat B w0 w b m i) (n : Nat) : Sat B w0 (w.drewN n) b m i := by
  obtain ⟨q, r, s, h1, h2, h3, h4⟩ := h
  exact ⟨q, r, s, h1, h2, h3.kept (below_drewN (Below.refl _ _) n), h4⟩
set_option maxHeartbeats 4000000 in
set_option maxRecDepth 100000 in
theorem plays_walk (n : Int) (a : Option Addr) (len cap : Nat) (os : List OPE) (w : World) (h : IsOps w a len os) :
    Calls Try.prog 3 #[.int .i64 n, .slice a len cap] w fun e w' => e = .returned (.bool true) ∧ Below w.heap.size w w' := by
  have HI := Lib.hid h
  clear h
  by_cases hn : n < 1 ∨ 16 < n
  · have hN := book_New_not n hn w
    have hR := ref_New_not n hn w
    clear hn
    go_enter Try.func3, Try.ntmps3
    go_wp2_with fail
    refine hN.mono ?_
    rintro e w1 ⟨rfl, rfl⟩
    go_wp2_with fail
    refine hR.mono ?_
    rintro e w2 ⟨rfl, b2⟩
    have B2 := Lib.hid (b2.alloc b2.size (.cells #[.int .i64 0, .slice none 0 0, .slice none 0 0, .slice none 0 0] 30))
    clear b2 hN hR
    have hA := law_awake (w2.alloc (.cells #[.int .i64 0, .slice none 0 0, .slice none 0 0, .slice none 0 0] 30))
    go_wp2_with fail
    refine hA.mono ?_
    rintro e w3 ⟨rfl, b3⟩
    have B3 := Lib.hid (B2.out.trans (b3.mono B2.out.size))
    clear b3 hA
    go_wp2_with fail
    go_ret
    exact ⟨rfl, B3.out⟩
  · obtain ⟨k, rfl⟩ : ∃ k : Nat, n = k := ⟨n.toNat, by omega⟩
    have hk1 : 1 ≤ k := by omega
    have hk2 : k ≤ 16 := by omega
    have hN := book_New k hk1 hk2 w
    clear hn
    go_enter Try.func3, Try.ntmps3
    go_wp2_with fail
    refine hN.mono ?_
    rintro e w1 ⟨rfl, k1, b1⟩
    have K1 := Lib.hid k1
    have B1 := Lib.hid b1
    have hR := ref_New k hk1 hk2 w1
    clear k1 b1 hN
    go_wp2_with fail
    refine hR.mono ?_
    rintro e w2 ⟨rfl, h2, b2⟩
    have hM := mid_start rfl K1.out B1.out h2 b2
    obtain ⟨bb, hbb⟩ : ∃ bb, bb = w.heap.size + 1 := ⟨_, rfl⟩
    obtain ⟨mm, hmm⟩ : ∃ mm, mm = w2.heap.size := ⟨_, rfl⟩
    obtain ⟨cc, hcc⟩ : ∃ cc, cc = w1.heap.size + 1 := ⟨_, rfl⟩
    rw [← hcc, ← hmm, ← hbb] at hM
    rw [← hcc, ← hbb]
    have HM := Lib.hid hM
    have HMM := Lib.hid hmm
    clear h2 b2 hR K1 B1 hM hbb hcc hmm
    have hA := law_awake (w2.alloc (.cells #[.int .i64 1, .slice (some ⟨cc, 0, none⟩) k k, .slice none 0 0, .slice none 0 0] 30))
    go_wp2_with fail
    refine hA.mono ?_
    rintro e w3 ⟨rfl, b3⟩
    rw [← HMM.out]
    have HS := Lib.hid (show Sat w.heap.size w w3 bb mm 0 from ⟨_, _, _, rfl, rfl, HM.out.kept b3, newB_ok hk1 hk2, fun p hp => by simp [newB] at hp, by simp [newB], by simp [newB]⟩)
    clear b3 hA HM HMM hk1 hk2
    go_wp2_with fail
    go_loopw [9] (fun is wr => ∃ i : Nat, i ≤ len ∧ i ≤ 400 ∧ is = .int .i64 (i : Int) ∧ Hid (Sat w.heap.size w wr bb mm i)) (fun is wr => 400 - (intOf is).toNat)
    case atStart => exact ⟨0, Nat.zero_le _, by omega, rfl, HS⟩
    case round =>
      obtain ⟨i, hi1, hi2, rfl, hSat⟩ := hrel
      have hlen := HI.out.2.1
      by_cases hlt : i < len ∧ i < 400
      · obtain ⟨hlt1, hlt2⟩ := hlt
        have hlt1' : (i : Int) < (len : Int) := by omega
        have hlt2' : (i : Int) < 400 := by omega
        obtain ⟨q, r, s, eb, em, hM, hOk, hStr, hNow, hFew⟩ := hSat.out
        obtain ⟨hl, _, b, off, ha, hrow⟩ := HI.out
        obtain rfl : a = some ⟨b, off, none⟩ := ha.resolve_left (by omega)
        have hio : i < os.length := by omega
        obtain ⟨r1, r2, r3⟩ := hrow i hio
        obtain ⟨o, ho⟩ : ∃ o, o = os[i] := ⟨_, rfl⟩
        rw [← ho] at r2 r3
        have hin : ∀ j, j < 4 → wr.cell? ⟨b, off + i * 4 + j, none⟩ = o.vals[j]? := fun j hj => by rw [hM.bel.cell r1]; exact r2 j hj
        have hT : IsVals wr o.a o.len (o.T.map Value.string) := r3.things.below hM.bel
        have hfew := r3.few
        have hT0 : ∀ bb' off', 0 < o.len → o.a = some ⟨bb', off', none⟩ → bb' < w.heap.size := fun bb' off' h0 e => by
          obtain ⟨h1, b', o', h2, h3⟩ := r3.things
          have h4 := h2.resolve_left (by omega)
          rw [e] at h4
          injection h4 with h4
          injection h4 with h4
          rw [h4]
          have : ∃ v, (o.T.map Value.string)[0]? = some v := ⟨_, List.getElem?_eq_getElem (by omega)⟩
          obtain ⟨v, hv⟩ := this
          exact (h3 0 v hv).1
        obtain ⟨kd, sl, at_, ta, tl, tc, T⟩ := o
        have d0 : wr.cell? ⟨b, off + i * 4, none⟩ = some (.int .i64 kd) := hin 0 (by omega)
        have d1 : wr.cell? ⟨b, off + i * 4 + 1, none⟩ = some (.int .i64 sl) := hin 1 (by omega)
        have d2 : wr.cell? ⟨b, off + i * 4 + 2, none⟩ = some (.int .i64 at_) := hin 2 (by omega)
        have d3 : wr.cell? ⟨b, off + i * 4 + 3, none⟩ = some (.slice ta tl tc) := hin 3 (by omega)
        simp only at hT hT0 hfew
        have HTW := Lib.hid r3.things
        simp only at HTW
        have HT := Lib.hid hT
        have HT0 := Lib.hid hT0
        have HM := Lib.hid hM
        have HOK := Lib.hid hOk
        have HSTR := Lib.hid hStr
        have HEB := Lib.hid eb
        have HEM := Lib.hid em
        have HNOW := Lib.hid hNow
        have HFEW := Lib.hid hFew
        have HLT1 := Lib.hid hlt1
        have HLT2 := Lib.hid hlt2
        have HTL := Lib.hid hfew
        have hi0 : (0 : Int) ≤ (i : Int) := by omega
        clear hSat hl ha hrow r1 r2 r3 ho hin hT hT0 hfew hM hOk hStr hNow hFew hlt1 hlt2 hi1 hi2 hio hlen eb em
        have hsl : s.wait.length ≤ 419430400 := by have := HFEW.out; have := HLT2.out; omega
        have HSL := Lib.hid hsl
        clear hsl
        go_upto_block 2 with fail
        obtain ⟨wA, hwA⟩ : ∃ wA, wA = wr.alloc (.cells #[.int .i64 kd, .int .i64 sl, .int .i64 at_, .slice ta tl tc] 35) := ⟨_, rfl⟩
        have HBA := Lib.hid (show Below wr.heap.size wr wA from by rw [hwA]; exact (Below.refl _ _).alloc (Nat.le_refl _) _)
        have hob : wA.heap[wr.heap.size]? = some (.cells #[.int .i64 kd, .int .i64 sl, .int .i64 at_, .slice ta tl tc] 35 (0, 0)) := by rw [hwA]; exact heap_new wr _
        rw [← hwA]
        have HMA := Lib.hid (HM.out.kept HBA.out)
        have HOL := Lib.hid (show ∀ j, q.S j ∨ r.S j → j < wr.heap.size from fun j hj => by
          rcases hj with x | x
          · exact (HM.out.bk.low j x).2
          · exact (HM.out.rk.low j x).2)
        obtain ⟨ob, hob'⟩ : ∃ ob, ob = wr.heap.size := ⟨_, rfl⟩
        rw [← hob'] at hob HOL HBA ⊢
        have HOB := Lib.hid hob
        have e1 : wA.cell? ⟨ob, 1, none⟩ = some (.int .i64 sl) := by simp [World.cell?, hob]
        have e2 : wA.cell? ⟨ob, 2, none⟩ = some (.int .i64 at_) := by simp [World.cell?, hob]
        have e3 : wA.cell? ⟨ob, 3, none⟩ = some (.slice ta tl tc) := by simp [World.cell?, hob]
        clear hwA hob hob' d0 d1 d2 d3 HS
        go_cut [11, 12] from 39 to 118 (fun s11 s12 wx => ∃ z : Int, s11 = .int .i64 z ∧ s12 = .int .i64 z ∧ Hid (Sat w.heap.size w wx bb mm (i + 1)))
        case first =>
          by_cases k1 : kd = 1
          · subst k1
            have hE := book_Enter (HMA.out.bk.drewN 1) sl at_ HOK.out.l2
            rw [HEB.out] at hE
            obtain ⟨z, hz⟩ : ∃ z, z = (s.enter sl at_).2 := ⟨_, rfl⟩
            obtain ⟨sE, hsE⟩ : ∃ sE, sE = (s.enter sl at_).1 := ⟨_, rfl⟩
            rw [← hz, ← hsE] at hE
            have HZ := Lib.hid hz
            have HSE := Lib.hid hsE
            clear hz hsE
            go_upto_region 14 with fail
            go_region_held3 (fun w' => w'.cell? ⟨ob, 1, none⟩ = some (.int .i64 sl) ∧ w'.cell? ⟨ob, 2, none⟩ = some (.int .i64 at_)) (first | exact ⟨e1, e2⟩ | exact ⟨f1, f2⟩ | exact ⟨g1, g2⟩) (first
              | (go_at_call 10; refine hE.mono ?_; rintro e w5 ⟨rfl, t5⟩; have M5 := Lib.hid ((show Mid w.heap.size w (wA.drewN 1) q r s s from HMA.out.kept (below_drewN (Below.refl _ _) 1)).go t5); have hR := ref_Enter M5.out.rk sl at_ HOK.out.l2 (fun x hx => (HOK.out.cm x hx).1); rw [HEM.out, ← HZ.out, ← HSE.out] at hR; have o5 := (t5.only.block ob (heap_lt HOB.out) (fun x => by have := HOL.out ob (.inl x); omega)).trans HOB.out; have f1 : w5.cell? ⟨ob, 1, none⟩ = some (.int .i64 sl) := (by simp [World.cell?, o5]); have f2 : w5.cell? ⟨ob, 2, none⟩ = some (.int .i64 at_) := (by simp [World.cell?, o5]); have HO5 := Lib.hid (And.intro t5.only.size o5); clear t5 o5)
              | (go_at_call 11; refine hR.mono ?_; rintro e w6 ⟨rfl, t6⟩; have o6 := (t6.only.block ob (Nat.lt_of_lt_of_le (heap_lt HOB.out) HO5.out.1) (fun x => by have := HOL.out ob (.inr x); omega)).trans HO5.out.2; have g1 : w6.cell? ⟨ob, 1, none⟩ = some (.int .i64 sl) := (by simp [World.cell?, o6]); have g2 : w6.cell? ⟨ob, 2, none⟩ = some (.int .i64 at_) := (by simp [World.cell?, o6]); have M6 := Lib.hid (M5.out.ref t6); clear t6 hR o6))
            have HE := Lib.hid (show Sat w.heap.size w w6 bb mm (i + 1) from by
              obtain ⟨h1, h2⟩ := enter_wait s sl at_
              refine ⟨_, _, sE, HEB.out, HEM.out, M6.out, by rw [HSE.out]; exact HOK.out.enter sl at_, fun p hp => HSTR.out p (by rw [HSE.out, h1] at hp; exact hp), by rw [HSE.out, h2]; have := HNOW.out; omega, by rw [HSE.out, h1]; have := HFEW.out; omega⟩)
            clear M5 M6 hE
            go_wp2_with fail
            go_meet
            exact ⟨z, rfl, rfl, HE⟩
          have k1' : (kd == 1) = false := by simpa using k1
          by_cases k2 : kd = 2
          · subst k2
            have hE := book_Leave (HMA.out.bk.drewN 1) sl HOK.out.l2
            rw [HEB.out] at hE
            obtain ⟨z, hz⟩ : ∃ z, z = (s.leave sl).2 := ⟨_, rfl⟩
            obtain ⟨sE, hsE⟩ : ∃ sE, sE = (s.leave sl).1 := ⟨_, rfl⟩
            rw [← hz, ← hsE] at hE
            have HZ := Lib.hid hz
            have HSE := Lib.hid hsE
            clear hz hsE k1 k1'
            go_upto_region 16 with fail
            go_region_held3 (fun w' => w'.cell? ⟨ob, 1, none⟩ = some (.int .i64 sl)) (first | exact e1 | exact f1 | exact g1) (first
              | (go_at_call 12; refine hE.mono ?_; rintro e w5 ⟨rfl, t5⟩; have M5 := Lib.hid ((show Mid w.heap.size w (wA.drewN 1) q r s s from HMA.out.kept (below_drewN (Below.refl _ _) 1)).go t5); have hR := ref_Leave M5.out.rk sl HOK.out.l2; rw [HEM.out, ← HZ.out, ← HSE.out] at hR; have o5 := (t5.only.block ob (heap_lt HOB.out) (fun x => by have := HOL.out ob (.inl x); omega)).trans HOB.out; have f1 : w5.cell? ⟨ob, 1, none⟩ = some (.int .i64 sl) := (by simp [World.cell?, o5]); have HO5 := Lib.hid (And.intro t5.only.size o5); clear t5 o5)
              | (go_at_call 13; refine hR.mono ?_; rintro e w6 ⟨rfl, t6⟩; have o6 := (t6.only.block ob (Nat.lt_of_lt_of_le (heap_lt HOB.out) HO5.out.1) (fun x => by have := HOL.out ob (.inr x); omega)).trans HO5.out.2; have g1 : w6.cell? ⟨ob, 1, none⟩ = some (.int .i64 sl) := (by simp [World.cell?, o6]); have M6 := Lib.hid (M5.out.ref t6); clear t6 hR o6))
            have HE := Lib.hid (show Sat w.heap.size w w6 bb mm (i + 1) from by
              obtain ⟨h1, h2⟩ := leave_wait s sl
              refine ⟨_, _, sE, HEB.out, HEM.out, M6.out, by rw [HSE.out]; exact HOK.out.leave sl, fun p hp => HSTR.out p (by rw [HSE.out, h1] at hp; exact hp), by rw [HSE.out, h2]; have := HNOW.out; omega, by rw [HSE.out, h1]; have := HFEW.out; omega⟩)
            clear M5 M6 hE
            go_wp2_with fail
            go_meet
            exact ⟨z, rfl, rfl, HE⟩
          have k2' : (kd == 2) = false := by simpa using k2
          by_cases k3 : kd = 3
          · subst k3
            obtain ⟨i0, hi, hz0, hz1, hz2⟩ := info_parts info9
            have hle : w.heap.size ≤ wA.heap.size := HMA.out.bz
            have htl : tl ≤ 1048576 := HTL.out
            have HTA := Lib.hid (HTW.out.below (w' := wA) HMA.out.bel)
            have e3a : (wA.alloc (.cells #[] 9)).cell? ⟨ob, 3, none⟩ = some (.slice ta tl tc) := by
              rw [((Below.refl _ wA).alloc (Nat.le_refl _) (.cells #[] 9)).cell (p := ⟨ob, 3, none⟩) (heap_lt HOB.out)]; exact e3
            clear k1 k1' k2 k2'
            go_wp2_with (at_builtin; refine wpList_append_off rfl (.tmp 80) (.tmp 82) 28 rfl wA.heap.size 9 i0 _ 1 16 Try.underlying28 hi hz0 hz1 hz2 rfl (.slice (some ⟨wA.heap.size, 0, none⟩) 0 0) 0 [] rfl (off_empty wA (Nat.le_refl _) 9 1) _ rfl tl (T.map Value.string) (src_vals Try.underlying28 tc (HTA.out.below ((Below.refl _ wA).alloc (Nat.le_refl _) _)) (fun v hv => by obtain ⟨t, _, rfl⟩ := List.mem_map.1 hv; rfl)) ?c3 ?c4 ?c5 ?_)
            case c3 => unfold maxLen; omega
            case c4 => omega
            case c5 => simp
            intro v5 w5 hown hg hat
            obtain ⟨a5, c5, rfl⟩ := hown.slice
            try simp only [Nat.zero_add, List.nil_append] at hown
            have hb5 : Below wA.heap.size wA w5 := ⟨hg.os, hg.tape, hg.output, by have := hg.size; simp at this; omega, fun j hj => (hg.block j (by simp; omega) (by simp [Value.ownBlock]; omega)).trans (Below.heap_alloc wA _ j hj)⟩
            have M5 := Lib.hid (HMA.out.kept hb5)
            have hv5 : IsVals w5 a5 tl (T.map Value.string) := hown.vals rfl
            have hst : ∀ v ∈ T.map Value.string, ∃ t, v = Value.string t := fun v hv => by obtain ⟨t, _, rfl⟩ := List.mem_map.1 hv; exact ⟨t, rfl⟩
            have hTlen : (T.map Value.string).length = tl := HTW.out.1.symm
            have hRe := book_Retire M5.out.bk HOK.out.n1 (by have := HNOW.out; have := HLT2.out; omega) c5 hv5 hst (fun b' off' h0 e => fun hS => by
              have h1 := (hown.lt b' (by simp [Value.ownBlock, e])).1
              have h2 := (HMA.out.bk.low b' hS).2
              omega) (by rw [hTlen]; have := HSL.out; omega) (Nat.le_trans hle hb5.size)
            rw [HEB.out] at hRe
            have HB5 := Lib.hid hb5
            have HTL5 := Lib.hid hTlen
            have HST := Lib.hid hst
            have q3 : w5.cell? ⟨ob, 3, none⟩ = some (.slice ta tl tc) := by
              rw [← e3]; exact hb5.cell (p := ⟨ob, 3, none⟩) (heap_lt HOB.out)
            clear hown hg hat hb5 hv5 hst hTlen e1 e2 e3 e3a
            go_wp2_with fail
            refine hRe.mono ?_
            rintro e w6 ⟨rfl, q6, t6⟩
            have M6 := Lib.hid (M5.out.go t6)
            have g3 : w6.cell? ⟨ob, 3, none⟩ = some (.slice ta tl tc) := by
              rw [← q3]
              exact World.cell?_of_block (a := ⟨ob, 3, none⟩) (t6.only.block ob (Nat.lt_of_lt_of_le (heap_lt HOB.out) HB5.out.size) (fun x => by have := HOL.out ob (.inl x); omega))
            have eb6 : q6.b = bb := t6.b.trans HEB.out
            have HEB6 := Lib.hid eb6
            have hRr := ref_Retire M6.out.rk HOK.out.n1 (by have := HNOW.out; have := HLT2.out; omega) tc (HTW.out.below M6.out.bel) HST.out (fun b' off' h0 e => fun hS => by
              have h1 := HT0.out b' off' h0 e
              have h2 := (M6.out.rk.low b' hS).1
              omega) (by rw [HTL5.out]; have := HSL.out; omega) M6.out.bz
            rw [HEM.out] at hRr
            clear t6 eb6 hRe q3
            go_wp2_with fail
            refine hRr.mono ?_
            rintro e w7 ⟨rfl, r7, t7⟩
            have HE := Lib.hid (show Sat w.heap.size w w7 bb mm (i + 1) from
              ⟨_, _, s.retire (T.map Value.string), HEB6.out, t7.m.trans HEM.out, M6.out.ref t7, HOK.out.retire (fun v hv => by obtain ⟨t, rfl⟩ := HST.out v hv; rfl) (by rw [HTL5.out]; have := HSL.out; omega) (by have := HNOW.out; have := HLT2.out; omega), fun p hp => by
                rcases List.mem_append.1 hp with hp | hp
                · exact HSTR.out p hp
                · obtain ⟨v, hv, rfl⟩ := List.mem_map.1 hp
                  exact HST.out v hv, by show s.now + 1 ≤ _; have := HNOW.out; omega, by
                show (s.wait ++ EB.stamp (T.map Value.string) s.now).length ≤ _
                rw [List.length_append, EB.stamp_len, HTL5.out]
                have := HFEW.out
                omega⟩)
            clear t7 hRr g3
            go_wp2_with fail
            go_meet
            exact ⟨0, rfl, rfl, HE⟩
          have k3' : (kd == 3) = false := by simpa using k3
          by_cases k4 : kd = 4
          · subst k4
            have hF := book_Free HMA.out.bk HOK.out.l2 HSTR.out HOK.out.few HMA.out.bz
            rw [HEB.out] at hF
            clear k1 k1' k2 k2' k3 k3' e1 e2 e3
            go_wp2_with fail
            refine hF.mono ?_
            rintro e w5 ⟨⟨a5, c5, rfl, l5⟩, q5, t5, _⟩
            have M5 := Lib.hid (HMA.out.go t5)
            have eb5 : q5.b = bb := t5.b.trans HEB.out
            have HEB5 := Lib.hid eb5
            have hR := ref_Free M5.out.rk HOK.out HSTR.out M5.out.bz
            rw [HEM.out] at hR
            have L5 := Lib.hid l5
            have hsz5 := Lib.hid t5.only.size
            clear t5 l5 eb5 hF
            go_wp2_with fail
            refine hR.mono ?_
            rintro e w6 ⟨⟨a6, c6, rfl, l6⟩, r6, t6⟩
            have M6 := Lib.hid (M5.out.ref t6)
            have v5 : IsVals w6 a5 s.free.2.length s.free.2 := (L5.out.kept fun j hj => t6.only.block j (L5.out.lt j hj).2 fun hS => by have := (L5.out.lt j hj).1; have := (HMA.out.rk.low j hS).2; omega).vals rfl
            have v6 : IsVals w6 a6 s.free.2.length s.free.2 := l6.vals rfl
            have hS := law_Same c5 c6 v5 v6 (by have := HOK.out.few; simp only [EB.free, List.length_map, List.length_take]; omega) (fun v hv => by
              obtain ⟨p, hp, rfl⟩ := List.mem_map.1 hv
              exact HSTR.out p (List.mem_of_mem_take hp))
            have HEM6 := Lib.hid (t6.m.trans HEM.out)
            clear t6 l6 hR v5 v6
            generalize s.free.2.length = nn at *
            go_wp2_with fail
            refine hS.mono ?_
            rintro e w7 ⟨rfl, m7, rfl⟩
            have HE := Lib.hid (show Sat w.heap.size w (w6.drewN m7) bb mm (i + 1) from
              ⟨_, _, s.free.1, HEB5.out, HEM6.out, M6.out.kept (below_drewN (Below.refl _ _) _), HOK.out.free, fun p hp => HSTR.out p (List.mem_of_mem_drop hp), by show s.now ≤ _; have := HNOW.out; omega, by
                show (s.wait.drop _).length ≤ _
                rw [List.length_drop]
                have := HFEW.out
                omega⟩)
            clear hS
            go_wp2_with fail
            go_meet
            exact ⟨0, rfl, rfl, HE⟩
          have k4' : (kd == 4) = false := by simpa using k4
          have HE := Lib.hid (show Sat w.heap.size w wA bb mm (i + 1) from ⟨_, _, s, HEB.out, HEM.out, HMA.out, HOK.out, HSTR.out, by have := HNOW.out; omega, by have := HFEW.out; omega⟩)
          clear k1 k2 k3 k4 e1 e2 e3
          go_wp2_with fail
          go_meet
          exact ⟨0, rfl, rfl, HE⟩
        case rest =>
        obtain ⟨z, rfl, rfl, hS⟩ := hcut
        obtain ⟨w8, hw8⟩ : ∃ w8, w8 = wc := ⟨_, rfl⟩
        subst hw8
        obtain ⟨q8, r8, s8, eb8, em8, hM8, hOk8, _, _, _⟩ := hS.out
        have m0 : w8.cell? ⟨mm, 0, none⟩ = some (.int .i64 s8.now) := by rw [← em8]; exact hM8.rk.c0
        obtain ⟨ao, co, hvo⟩ := hM8.rk.old.slice
        have m2 : w8.cell? ⟨mm, 2, none⟩ = some (.slice ao s8.wait.length co) := by
          have := hM8.rk.c2
          rw [hvo, em8] at this
          simpa [EB.rb] using this
        have cNow : ∀ n, Calls Try.prog 19 #[.pointer (some ⟨bb, 0, none⟩)] (w8.drewN n) fun e w' => e = .returned (.int .i64 s8.now) ∧ w' = w8.drewN n := fun n => by
          have := book_Now (hM8.bk.drewN n)
          rw [eb8] at this
          exact this.mono fun _ _ ⟨a, b⟩ => ⟨a, b.symm⟩
        have cHeld : ∀ n, Calls Try.prog 20 #[.pointer (some ⟨bb, 0, none⟩)] (w8.drewN n) fun e w' => e = .returned (.int .i64 (s8.wait.length : Int)) ∧ w' = w8.drewN n := fun n => by
          have := book_Held (hM8.bk.drewN n)
          rw [eb8] at this
          exact this.mono fun _ _ ⟨a, b⟩ => ⟨a, b.symm⟩
        have cRead : ∀ n, Calls Try.prog 21 #[.pointer (some ⟨bb, 0, none⟩)] (w8.drewN n) fun e w' => e = .returned (.int .i64 (EB.cnt s8.came : Int)) ∧ w' = w8.drewN n := fun n => by
          have := book_Readers (hM8.bk.drewN n) hOk8.l2
          rw [eb8] at this
          exact this.mono fun _ _ ⟨a, b⟩ => ⟨a, b.symm⟩
        have cRefR : ∀ n, Calls Try.prog 22 #[.pointer (some ⟨mm, 0, none⟩)] (w8.drewN n) fun e w' => e = .returned (.int .i64 (EB.cnt s8.came : Int)) ∧ w' = w8.drewN n := fun n => by
          have := ref_Readers (hM8.rk.below (below_drewN (Below.refl _ _) n)) hOk8.l2 (fun x hx => (hOk8.cm x hx).1)
          rw [em8] at this
          exact this.mono fun _ _ ⟨a, b⟩ => ⟨a, b.symm⟩
        clear hM8 hOk8 eb8 em8 hvo HT HT0 HM HOK HSTR HEB HEM HNOW HFEW HTL HTW HSL HBA HMA HOL HOB e1 e2 e3
        generalize s8.now = nw at *
        generalize s8.wait.length = nl at *
        generalize EB.cnt s8.came = nr at *
        have HC1 := Lib.hid cNow
        have HC2 := Lib.hid cHeld
        have HC3 := Lib.hid cRead
        have HC4 := Lib.hid cRefR
        clear cNow cHeld cRead cRefR
        go_upto_region 23 with fail
        go_quiet (first | (go_at_call 19; exact Calls.quiet_of_same (HC1.out _)) | (go_at_call 20; exact Calls.quiet_of_same (HC2.out _)) | (go_at_call 21; exact Calls.quiet_of_same (HC3.out _)) | (go_at_call 22; exact Calls.quiet_of_same (HC4.out _)))
        have HSS := Lib.hid (fun n => hS.out.drewN n)
        go_wp2_with fail
        go_roundw
        case rel => exact ⟨i + 1, HLT1.out, by have := HLT2.out; omega, by go_num, Lib.hid (HSS.out _)⟩
        case measure => simp [intOf]; omega
      · obtain ⟨q, r, s, _, _, hM, _⟩ := hSat.out
        have HB := Lib.hid hM.bel
        by_cases hl : i < len
        · have h400 : ¬ (i : Int) < 400 := by omega
          have hl' : (i : Int) < (len : Int) := by omega
          clear hM hlt
          go_wp2_with fail
          go_ret
          exact ⟨rfl, HB.out⟩
        · have hl' : ¬ (i : Int) < (len : Int) := by omega
          clear hM hlt
          go_wp2_with fail
          go_ret
          exact ⟨rfl, HB.out⟩
end Go.Proofs.Ytagadjgemgajjaa
