/- EpochNumbers: the walk. -/
import Derived.Test.YtagadjgemgajjaaEpInt
import Derived.Test.YtagadjgemgajjaaEpOpen
import Derived.ChangeSlices
set_option linter.unusedVariables false
namespace Go.Proofs.Ytagadjgemgajjaa
open Go.RowKit

/-- A slice of numbers that came in. -/
def IsNums (k : IntKind) (w : World) (a : Option Addr) (n : Nat) (zs : List Int) : Prop :=
  n = zs.length ∧ ∃ b off, (n = 0 ∨ a = some ⟨b, off, none⟩) ∧ ∀ i z, zs[i]? = some z → b < w.heap.size ∧ w.cell? ⟨b, off + i, none⟩ = some (.int k z) ∧ (Lit.int k z).wf = true
theorem nums_of {w : World} {k : IntKind} {x : Addr} {len cap : Nat} {zs : List Int} (hl : len ≤ cap) (hz : zs.length = cap) (hcell : ∀ i, i < zs.length → w.cell? (x.add i) = some (.int k (zs.getD i 0))) (hw : ∀ n ∈ zs, (Lit.int k n).wf = true) : IsNums k w (some x) len (zs.take len) := by
  refine ⟨by rw [List.length_take]; omega, ?_⟩
  by_cases h0 : len = 0
  · subst h0
    exact ⟨0, 0, .inl rfl, fun k z hk => by simp at hk⟩
  · obtain ⟨b, off, spot⟩ := x
    have hspot : spot = none := by simpa [Addr.add] using World.cell?_spot (hcell 0 (by omega))
    subst hspot
    refine ⟨b, off, .inr rfl, fun k z hk => ?_⟩
    have hk' : k < len := by have := (List.getElem?_eq_some_iff.1 hk).1; rw [List.length_take] at this; omega
    rw [List.getElem?_take, if_pos hk'] at hk
    have h1 := hcell k (by omega)
    rw [addr_add, List.getD_eq_getElem?_getD, hk] at h1
    exact ⟨cell_block h1, h1, hw z (List.mem_of_getElem? hk)⟩
/-- The book of numbers, behind i rounds: the first j things wait. -/
def Numb (B : Nat) (w0 w : World) (b : Nat) (zs : List Int) (j : Nat) (t : Int) : Prop :=
  ∃ q s, q.b = b ∧ Bk 65 67 B w q s ∧ s.Ok ∧ s.came = [0] ∧ s.now = t ∧ s.wait.map (·.1) = (zs.take j).map intV ∧ Below B w0 w ∧ B ≤ w.heap.size
theorem gone_all {L : Int} : ∀ l : List (Value × Int), (∀ p ∈ l, p.2 < L) → EB.gone L l = l.length
  | [], _ => rfl
  | p :: r, h => by
    unfold EB.gone
    rw [if_pos (h p (by simp)), gone_all r fun q hq => h q (by simp [hq])]
    simp
theorem free_all {s : EB} (h : s.Ok) (hc : s.came = [0]) : s.free = ({ s with wait := [] }, s.wait.map (·.1)) := by
  have hl : s.limit = s.now := by unfold EB.limit; rw [hc]; simp [EB.lim]
  unfold EB.free
  rw [hl, gone_all s.wait fun p hp => (h.ats p hp).2]
  simp
/-- The slice expression 's[l:h]'. -/
theorem slice_mid {t e : TypeId} {i : TypeInfo} (ht : Try.prog.underlying t = some (.slice e)) (hi : Try.prog.info? e = some i) (hs : i.size = 1) {g off n cap l h : Nat} (h1 : l ≤ h) (h2 : h ≤ cap) (hc : ¬ cap = l) (W : World) :
    (Instr.slice t (.slice (some ⟨g, off, none⟩) n cap) (some (.int .i64 (l : Int))) (some (.int .i64 (h : Int))) none).run Try.prog W = .ok (.slice (some ⟨g, off + l, none⟩) (h - l) (cap - l)) W := by
  have e1 : (l : Int) ≤ (h : Int) := by omega
  have e2 : (h : Int) ≤ (cap : Int) := by omega
  simp [Instr.slice, run_underlying ht, Instr.sliceBounds, run_sliceBound, sizeOf, typeInfo, hi, h1, h2, hc, addr_add, hs]
theorem Numb.next {B : Nat} {w0 w w' : World} {b : Nat} {zs : List Int} {j d : Nat} {t : Int} {q : AtB} {s : EB} (eb : q.b = b) (hbk : Bk 65 67 B w q s) (hOk : s.Ok) (hc : s.came = [0]) (hn : s.now = t) (hw : s.wait.map (·.1) = (zs.take j).map intV) (hbel : Below B w0 w) (hbz : B ≤ w.heap.size)
    (ht : t < 4611686018427387904) (hj : j + d ≤ zs.length) (hl : zs.length ≤ 1048576) (k : Turns 65 67 B w q (s.retire (((zs.drop j).take d).map intV)) w') : Numb B w0 w' b zs (j + d) (t + 1) := by
  obtain ⟨q', k⟩ := k
  have hlen : s.wait.length = j := by
    have := congrArg List.length hw
    simp at this
    omega
  have hl2 : (((zs.drop j).take d).map intV).length = d := by simp; omega
  refine ⟨q', _, k.b.trans eb, k.bk, hOk.retire (fun v hv => by obtain ⟨z, _, rfl⟩ := List.mem_map.1 hv; rfl) (by rw [hlen, hl2]; omega) (by omega), hc, by show s.now + 1 = _; omega, ?_, hbel.trans (k.bel hbk hbz), Nat.le_trans hbz k.only.size⟩
  show (s.wait ++ EB.stamp _ s.now).map (·.1) = _
  rw [List.map_append, hw, List.take_add, List.map_append]
  congr 1
  simp [EB.stamp, Function.comp_def]
theorem nums_vals {w : World} {b off : Nat} {zs : List Int} {j d : Nat} (hrow : ∀ i z, zs[i]? = some z → b < w.heap.size ∧ w.cell? ⟨b, off + i, none⟩ = some (.int .i64 z) ∧ (Lit.int .i64 z).wf = true) (hj : j + d ≤ zs.length) : IsVals w (some ⟨b, off + j, none⟩) d (((zs.drop j).take d).map intV) := by
  refine ⟨by simp; omega, b, off + j, .inr rfl, fun k v hv => ?_⟩
  have hk : k < d := by have := (List.getElem?_eq_some_iff.1 hv).1; simp at this; omega
  rw [List.getElem?_map, List.getElem?_take, if_pos hk, List.getElem?_drop] at hv
  cases hz : zs[j + k]? with
  | none => rw [hz] at hv; cases hv
  | some z =>
    rw [hz] at hv
    injection hv with hv
    obtain ⟨h1, h2, _⟩ := hrow (j + k) z hz
    exact ⟨h1, by rw [← hv, Nat.add_assoc]; exact h2⟩
set_option maxHeartbeats 4000000 in
set_option maxRecDepth 100000 in
theorem nums_walk (a : Option Addr) (len cap : Nat) (zs : List Int) (a2 : Option Addr) (len2 cap2 : Nat) (cs : List Int) (w : World) (h : IsNums .i64 w a len zs) (hlen : len ≤ 1048576) (hcap : 0 < len → len ≤ cap) (hcm : cap ≤ 9223372036854775807) (h2 : IsNums .u8 w a2 len2 cs) (hlen2 : len2 ≤ 140737488355328) :
    Calls Try.prog 5 #[.slice a len cap, .slice a2 len2 cap2] w fun e w' => e = .returned (.bool true) ∧ Below w.heap.size w w' := by
  have HI := Lib.hid h
  have HC := Lib.hid h2
  have HCAP := Lib.hid hcap
  obtain ⟨j0, hj, hy0, hy1, hy2⟩ := info_parts info3
  clear h h2 hcap
  have hN := ibook_New 1 (by omega) (by omega) w
  go_enter Try.func5, Try.ntmps5
  go_wp2_with fail
  refine hN.mono ?_
  rintro e w1 ⟨rfl, k1, b1⟩
  have K1 := Lib.hid k1
  have B1 := Lib.hid b1
  obtain ⟨bb, hbb⟩ : ∃ bb, bb = w.heap.size + 1 := ⟨_, rfl⟩
  rw [← hbb]
  have HBB := Lib.hid hbb
  clear k1 b1 hN hbb
  have hA := law_awake w1
  go_wp2_with fail
  refine hA.mono ?_
  rintro e w2 ⟨rfl, b2⟩
  have HS := Lib.hid (show Numb w.heap.size w w2 bb zs 0 1 from ⟨_, _, HBB.out.symm, K1.out.below b2, newB_ok (by omega) (by omega), rfl, rfl, by simp [newB], B1.out.trans (b2.mono B1.out.size), Nat.le_trans B1.out.size b2.size⟩)
  clear b2 hA K1 B1 HBB
  go_wp2_with fail
  go_loopw [7, 8, 9] (fun at_ t is wr => ∃ i j : Nat, i ≤ len2 ∧ j ≤ len ∧ is = .int .i64 (i : Int) ∧ at_ = .int .i64 (j : Int) ∧ t = .int .i64 (i + 1 : Int) ∧ Hid (Numb w.heap.size w wr bb zs j (i + 1))) (fun _ _ is wr => len2 - (intOf is).toNat)
  case atStart => exact ⟨0, 0, Nat.zero_le _, Nat.zero_le _, rfl, rfl, rfl, HS⟩
  case round =>
    obtain ⟨i, j, hi1, hj1, rfl, rfl, rfl, hNb⟩ := hrel
    by_cases hlt : i < len2 ∧ j < len
    · obtain ⟨hlt1, hlt2⟩ := hlt
      have hlt1' : (i : Int) < (len2 : Int) := by omega
      have hlt2' : (j : Int) < (len : Int) := by omega
      obtain ⟨q, s, eb, hbk, hOk, hcm1, hnow, hw, hbel, hbz⟩ := hNb.out
      obtain ⟨hl2, b2, off2, ha2, hrow2⟩ := HC.out
      obtain ⟨hl1, b1, off1, ha1, hrow1⟩ := HI.out
      obtain rfl : a2 = some ⟨b2, off2, none⟩ := ha2.resolve_left (by omega)
      obtain rfl : a = some ⟨b1, off1, none⟩ := ha1.resolve_left (by omega)
      obtain ⟨c, hc⟩ : ∃ c, cs[i]? = some c := ⟨_, List.getElem?_eq_getElem (by omega)⟩
      obtain ⟨r1, r2, r3⟩ := hrow2 i c hc
      have hc0 : 0 ≤ c ∧ c ≤ 255 := by
        have := r3
        simp [Lit.wf, IntKind.min, IntKind.max, IntKind.signed, IntKind.bits] at this
        omega
      obtain ⟨hc1, hc2⟩ := hc0
      have dc : wr.cell? ⟨b2, off2 + i, none⟩ = some (.int .u8 c) := by rw [hbel.cell r1]; exact r2
      have hcap1 := HCAP.out (by omega)
      obtain ⟨d, hd⟩ : ∃ d : Nat, c % 7 = (d : Int) := ⟨(c % 7).toNat, by omega⟩
      have hd6 : d ≤ 6 := by omega
      have HLT1 := Lib.hid hlt1
      have HLT2 := Lib.hid hlt2
      obtain ⟨e, he⟩ : ∃ e : Nat, (len : Int) - (j : Int) = (e : Int) := ⟨len - j, by omega⟩
      have hzl : zs.length ≤ 1048576 := by omega
      have hnxt := fun (d : Nat) (hdj : j + d ≤ len) (w' : World) (k : Turns 65 67 w.heap.size wr q (s.retire (((zs.drop j).take d).map intV)) w') => Numb.next eb hbk hOk hcm1 hnow hw hbel hbz (by omega) (by omega) hzl k
      have hret := fun (d : Nat) (hdj : j + d ≤ len) (c' : Nat) => ibook_Retire (a := some ⟨b1, off1 + j, none⟩) (n := d) (l := ((zs.drop j).take d).map intV) hbk hOk.n1 (by omega) c' (nums_vals (fun i z hz => by obtain ⟨x1, x2, x3⟩ := hrow1 i z hz; exact ⟨Nat.lt_of_lt_of_le x1 hbel.size, by rw [hbel.cell x1]; exact x2, x3⟩) (by omega)) (fun v hv => by obtain ⟨z, _, rfl⟩ := List.mem_map.1 hv; exact ⟨z, rfl⟩) (fun b' off' h0 e hS => by
        injection e with e
        injection e with e1 _ _
        subst e1
        obtain ⟨z, hz⟩ : ∃ z, zs[j]? = some z := ⟨_, List.getElem?_eq_getElem (by omega)⟩
        have := (hrow1 j z hz).1
        have := (hbk.low _ hS).1
        omega) (by
        have h1 := congrArg List.length hw
        simp at h1
        simp
        omega) hbz
      rw [eb] at hret
      have HNX := Lib.hid hnxt
      have HRT := Lib.hid hret
      have hle : j ≤ len := by omega
      clear hl1 hl2 ha1 ha2 hrow1 hrow2 hc r1 r2 r3 hlt1 hlt2 hbk hOk hcm1 hnow hw hbel hbz eb hnxt hret hNb
      by_cases hm : d < e
      · have hm' : (d : Int) < (e : Int) := by omega
        have hjd : j + d ≤ len := by omega
        go_wp2_with fail
        refine (HRT.out d hjd _).mono ?_
        rintro e w5 ⟨rfl, k5⟩
        have HE := Lib.hid (HNX.out d hjd w5 k5)
        clear k5
        go_wp2_with fail
        go_roundw
        case rel => exact ⟨i + 1, j + d, HLT1.out, hjd, by go_num, by go_num, by go_num, Lib.hid (by rw [Int.natCast_add]; exact HE.out)⟩
        case measure => have := HLT1.out; simp [intOf]; omega
      · have hm' : (e : Int) ≤ (d : Int) := by omega
        have hjd : j + e ≤ len := by omega
        go_wp2_with fail
        refine (HRT.out e hjd _).mono ?_
        rintro e' w5 ⟨rfl, k5⟩
        have HE := Lib.hid (HNX.out e hjd w5 k5)
        clear k5
        go_wp2_with fail
        go_roundw
        case rel => exact ⟨i + 1, j + e, HLT1.out, hjd, by go_num, by go_num, by go_num, Lib.hid (by rw [Int.natCast_add]; exact HE.out)⟩
        case measure => have := HLT1.out; simp [intOf]; omega
    · obtain ⟨q, s, eb, hbk, hOk, hcm1, hnow, hw, hbel, hbz⟩ := hNb.out
      have hfr := free_all hOk hcm1
      have hlj : (s.wait.map (·.1)).length = j := by
        rw [hw]
        have := HI.out.1
        simp
        omega
      have hF := ibook_Free hbk hOk.l2 (fun p hp => by
        have : p.1 ∈ (zs.take j).map intV := by rw [← hw]; exact List.mem_map.2 ⟨p, hp, rfl⟩
        obtain ⟨z, _, hz⟩ := List.mem_map.1 this
        exact ⟨z, hz.symm⟩) hOk.few hbz
      rw [eb] at hF
      have hin : (i : Int) < (len2 : Int) ∧ (j : Int) = (len : Int) ∨ (i : Int) = (len2 : Int) := by omega
      have HJ := Lib.hid hj1
      have HX := Lib.hid (And.intro hbk (And.intro hOk (And.intro hcm1 (And.intro hnow (And.intro hw (And.intro hbel (And.intro hbz (And.intro hfr (And.intro hlj eb)))))))))
      have hj20 : j ≤ 1048576 := by omega
      clear hbk hOk hcm1 hnow hw hbel hbz hfr hlj hNb eb
      have hcut : ∀ w5, Freed 65 67 3 w.heap.size wr q s (.returned (.slice none 0 0)) w5 → True := fun _ _ => trivial
      clear hcut hj1
      have hdec : (decide ((i : Int) < (len2 : Int)) && decide ((j : Int) < (len : Int))) = false := by
        rcases hin with ⟨_, h⟩ | h
        · simp; omega
        · simp; omega
      rcases hin with ⟨hx1, hx2⟩ | hx
      all_goals
        have hlt' : ¬ ((i : Int) < (len2 : Int) ∧ (j : Int) < (len : Int)) := by omega
        try (have hx3 : ¬ ((j : Int) < (len : Int)) := by omega)
        try (have hx4 : ¬ ((i : Int) < (len2 : Int)) := by omega)
        clear hdec hlt hlt'
        try clear hx2
        try clear hx
        go_wp2_with fail
        refine hF.mono ?_
        rintro e w5 ⟨⟨a5, c5, rfl, l5⟩, q5, t5, _⟩
        obtain ⟨hbk, hOk, hcm1, hnow, hw, hbel, hbz, hfr, hlj, eb⟩ := HX.out
        rw [hfr] at l5 t5 ⊢
        simp only at l5 t5 ⊢
        rw [hlj, hw] at l5
        rw [hlj]
        have B5 := Lib.hid (hbel.trans (t5.bel hbk hbz))
        have hNow := ibook_Now t5.bk
        have hHe := ibook_Held t5.bk
        have e5 := t5.b.trans eb
        rw [e5] at hNow hHe
        simp only at hNow hHe
        rw [hnow] at hNow
        have HV := Lib.hid (l5.vals rfl)
        have HHE := Lib.hid (show ∀ n, Calls Try.prog 27 #[.pointer (some ⟨bb, 0, none⟩)] (w5.drewN n) fun e w' => e = .returned (.int .i64 0) ∧ w5.drewN n = w' from fun n => by
          have := ibook_Held (t5.bk.drewN n)
          rw [e5] at this
          exact this)
        clear hbk hOk hcm1 hnow hw hbel hbz hfr hlj eb l5 t5 e5 hF hHe
        go_wp2_with (go_at_call 26; refine hNow.mono ?_; rintro e w' ⟨rfl, rfl⟩)
        go_loopw [12] (fun is wr => ∃ k : Nat, k ≤ j ∧ is = .int .i64 (k : Int) ∧ Hid (∃ m, wr = w5.drewN m)) (fun is _ => j - (intOf is).toNat)
        case atStart => exact ⟨0, Nat.zero_le _, rfl, Lib.hid ⟨0, rfl⟩⟩
        case round =>
          obtain ⟨k, hk, rfl, hw⟩ := hrel
          by_cases hlt : k < j
          · have hlt' : (k : Int) < (j : Int) := by omega
            have hk0 : (0 : Int) ≤ (k : Int) := by omega
            have hkl : (k : Int) < (len : Int) := by have := HJ.out; omega
            obtain ⟨h1, b1, o1, x1, y1⟩ := HI.out
            obtain ⟨h2, b2, o2, x2, y2⟩ := HV.out
            obtain ⟨z, hz⟩ : ∃ z, zs[k]? = some z := ⟨_, List.getElem?_eq_getElem (by have := HJ.out; omega)⟩
            obtain ⟨q1, q2, _⟩ := y1 k z hz
            have hz2 : ((zs.take j).map intV)[k]? = some (.int .i64 z) := by
              rw [List.getElem?_map, List.getElem?_take, if_pos hlt, hz]; rfl
            have z1 : ∀ m, (wr.drewN m).cell? ⟨b1, o1 + k, none⟩ = some (.int .i64 z) := by
              obtain ⟨m, rfl⟩ := hw.out
              intro _
              exact (B5.out.cell (p := ⟨b1, o1 + k, none⟩) q1).trans q2
            have z2 : ∀ m, (wr.drewN m).cell? ⟨b2, o2 + k, none⟩ = some (.int .i64 z) := by obtain ⟨m, rfl⟩ := hw.out; intro _; exact (y2 k _ hz2).2
            have e1 := x1.resolve_left (by have := HJ.out; omega)
            have e2 := x2.resolve_left (by omega)
            subst e1 e2
            clear h1 h2 x1 x2 y1 y2 hz hz2 q1 q2
            go_wp2_with fail
            go_quiet (fail)
            go_wp2_with fail
            go_roundw
            case rel => exact ⟨k + 1, by omega, by go_num, Lib.hid (by obtain ⟨m, hm⟩ := hw.out; exact ⟨_, by rw [hm, World.drewN_drewN]⟩)⟩
            case measure => simp [intOf]; omega
          · obtain ⟨m, hm⟩ := hw.out
            subst hm
            have hh := HHE.out m
            clear hw
            go_wp2_with (go_at_call 27; refine hh.mono ?_; rintro e w' ⟨rfl, rfl⟩)
            go_ret
            exact ⟨rfl, below_drewN B5.out m⟩
end Go.Proofs.Ytagadjgemgajjaa
