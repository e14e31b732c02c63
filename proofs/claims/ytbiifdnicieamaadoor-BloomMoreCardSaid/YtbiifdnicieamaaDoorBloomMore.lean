/- BloomMore: the order of the keys changes nothing, and a key fewer gives no more bits and no greater filter, for every input; no condition beside the round numbers that the program lays (tied). -/
import Derived.Test.YtbiifdnicieamaaDoorBloomOpen
import Derived.Test.YtbiifdnicieamaaDoorBloomRow
set_option linter.unusedVariables false
set_option maxRecDepth 100000
namespace Go.Proofs.YtbiifdnicieamaaDoor.bloomMore
open Go.ChangeShapes Go.WideShapes Go.ChangeAt Go.RowKit
open Go.ChangeMaps (open_string shut_string)

theorem open_txc {H : Type} {enc : TypeId × Value → H} {W : World} {d : DataW H} {p : List MemPlace} {a : Option Addr} {len cap : Nat} (h : DataW.Trod enc Tryd.prog W 0 (fun _ => true) true 22 (.slice a len cap) d p) : ∃ T, Tx W a len T ∧ len ≤ cap ∧ cap ≤ 9223372036854775807 := by
  obtain ⟨T, hT⟩ := open_tx h
  refine ⟨T, hT, ?_⟩
  obtain ⟨fuel, hf⟩ := h
  rcases open_strings Tryd.underlying22 Tryd.underlying9 (by kernel_rfl) hf with ⟨hcs, _⟩ | ⟨x, l, c, ss, hcs, _, hl, hm, hz, hx, hcell, hws⟩
  · simp [Value.cells] at hcs
    omega
  · simp [Value.cells] at hcs
    unfold maxLen at hm
    omega
/-- The texts from the j-th on, backwards. -/
def back (T : List ByteArray) (j : Nat) : List ByteArray := (T.drop j).reverse
theorem back_len (T : List ByteArray) {j : Nat} (h : j ≤ T.length) : (back T j).length = T.length - j := by simp [back]
theorem back_succ (T : List ByteArray) {j : Nat} (h : j < T.length) : back T j = back T (j + 1) ++ [T.getD j ByteArray.empty] := by
  unfold back
  rw [List.drop_eq_getElem_cons h, List.reverse_cons, List.getD_eq_getElem?_getD, List.getElem?_eq_getElem h]
  rfl
theorem back_all (T : List ByteArray) : back T T.length = [] := by simp [back]
theorem back_zero (T : List ByteArray) : back T 0 = T.reverse := by simp [back]
theorem made_back (h N : Nat) (T : List ByteArray) : made h N (T.reverse.map (·.data.toList)) = made h N (T.map (·.data.toList)) := by
  rw [List.map_reverse, made_reverse]
theorem slice_one {a : Option Addr} {len cap kb koff : Nat} {T : List ByteArray} {w : World} (hn : len = T.length) (h0 : 0 < len) (hc : len ≤ cap) (hab : len = 0 ∨ a = some ⟨kb, koff, none⟩) (hz : RowS kb koff T w) :
    ∃ a' koff', (∀ W, (Instr.slice 22 (.slice a len cap) (some (.int .i64 1)) none none).run Tryd.prog W = .ok (.slice a' (len - 1) (cap - 1)) W) ∧ (len - 1 = 0 ∨ a' = some ⟨kb, koff', none⟩) ∧ RowS kb koff' (T.drop 1) w := by
  obtain ⟨i, hi, h1, h2, h3⟩ := info_parts info9
  obtain rfl : a = some ⟨kb, koff, none⟩ := hab.resolve_left (by omega)
  have h4 : (1 : Int) ≤ (len : Int) := by omega
  by_cases hcap : cap = 1
  · refine ⟨some ⟨kb, koff, none⟩, koff, fun W => ?_, .inl (by omega), fun k hk => by simp at hk; omega⟩
    subst hcap
    obtain rfl : len = 1 := by omega
    simp [Instr.slice, run_underlying Tryd.underlying22, Instr.sliceBounds, run_sliceBound, sizeOf, typeInfo, hi]
  · refine ⟨some ⟨kb, koff + 1, none⟩, koff + 1, fun W => ?_, .inr rfl, fun k hk => ?_⟩
    · have := slice_from (P := Tryd.prog) Tryd.underlying22 hi h2 (g := kb) (off := koff) (n := len) (cap := cap) (k := 1) (by omega) hcap W
      simpa using this
    · have hk' : k + 1 < T.length := by simp at hk; omega
      have := hz (k + 1) hk'
      rw [show koff + 1 + k = koff + (k + 1) by omega]
      rw [List.getD_eq_getElem?_getD, List.getElem?_drop, show 1 + k = k + 1 by omega, ← List.getD_eq_getElem?_getD]
      exact this

set_option maxHeartbeats 4000000 in
theorem core (per : Int) (a : Option Addr) (len cap : Nat) (T : List ByteArray) (w : World) (lo : 0 ≤ per) (hi' : per ≤ 255) (hxc : Tx w a len T ∧ len ≤ cap ∧ cap ≤ 9223372036854775807) (hg : Hid (Glob w)) :
    Calls Tryd.prog 6 #[.int .u8 per, .slice a len cap] w fun e w' => e = .returned (.bool true) ∧ Below w.heap.size w w' := by
  obtain ⟨hx, hcap, hcm⟩ := hxc
  obtain ⟨⟨hlen, kb, koff, hab, hz⟩, hl, hts⟩ := hx
  have HZ := Lib.hid hz
  have HAB := Lib.hid hab
  have HLEN := Lib.hid hlen
  have HTS := Lib.hid hts
  clear hz hab hlen hts
  go_enter Tryd.func6, Tryd.ntmps6
  go_wp2_with fail
  refine (law_awake w hg).mono ?_
  rintro e w1 ⟨rfl, k1⟩
  have K1 := Lib.hid k1
  have G1 := Lib.hid (hg.out.keep k1 hg.out.1)
  have HZ1 := Lib.hid (HZ.out.below k1)
  clear k1
  go_wp2_with fail
  refine (law_few a kb koff len cap T w1 HLEN hl HZ1 HAB HTS).mono ?_
  rintro e _ ⟨rfl, rfl⟩
  obtain ⟨r, hr⟩ : ∃ r, r = fewB T := ⟨_, rfl⟩
  rw [← hr]
  have HR := Lib.hid hr
  clear hr
  cases r with
  | false =>
    go_wp2_with fail
    refine (law_awake w1 G1).mono ?_
    rintro e w2 ⟨rfl, k2⟩
    have K2 := Lib.hid k2
    clear k2
    go_wp2_with fail
    go_ret
    exact ⟨rfl, K1.out.trans (K2.out.mono K1.out.size)⟩
  | true =>
    have hfew := Lib.hid (few_of HR.out.symm)
    have hl20 : len ≤ 2000 := by rw [HLEN.out]; exact hfew.out.1
    clear HR
    by_cases hl0 : len = 0
    · subst hl0
      go_wp2_with fail
      refine (law_awake w1 G1).mono ?_
      rintro e w2 ⟨rfl, k2⟩
      have K2 := Lib.hid k2
      clear k2
      go_wp2_with fail
      go_ret
      exact ⟨rfl, K1.out.trans (K2.out.mono K1.out.size)⟩
    · obtain ⟨p, hp⟩ : ∃ p : Nat, p = (per % 32).toNat + 1 := ⟨_, rfl⟩
      have hp1 : 1 ≤ p := by omega
      have hp2 : p ≤ 32 := by omega
      have hl1 : 0 < len := by omega
      have hln : ¬ ((len : Int) = 0) := by omega
      go_wp2_with fail
      have hpm : 1 + per % 32 = (p : Int) := by omega
      rw [hpm]
      obtain ⟨q, hq⟩ : ∃ q, q = per % 32 := ⟨_, rfl⟩
      rw [← hq]
      clear hpm hq hp
      have MAKE := Lib.hid (fun (a : Option Addr) (len cap kb koff : Nat) (T' : List ByteArray) (W : World) (h0 : len ≤ 2000) (h1 : len = T'.length) (h2 : RowS kb koff T' W) (h3 : len = 0 ∨ a = some ⟨kb, koff, none⟩) (h4 : ∀ t ∈ T', t ∈ T) (h5 : Glob W) =>
        flt_Make p a len cap kb koff T' W hp1 hp2 (Lib.hid h1) (by omega) (Lib.hid h2) (Lib.hid h3) (Lib.hid fun t ht => Nat.le_trans (hfew.out.2 t (h4 t ht)) (by omega)) (Lib.hid h5))
      obtain ⟨h, hh⟩ : ∃ h, h = hashesOf p := ⟨_, rfl⟩
      have h18 := hashesOf_le p
      rw [← hh] at h18 MAKE
      obtain ⟨h1, h8⟩ := h18
      refine (MAKE.out a len cap kb koff T w1 hl20 HLEN.out HZ1.out HAB.out (fun t h => h) G1.out).mono ?_
      rintro e w2 ⟨rfl, hF, k2⟩
      have K2 := Lib.hid (K1.out.trans (k2.mono K1.out.size))
      have G2 := Lib.hid (G1.out.keep k2 G1.out.1)
      have HZ2 := Lib.hid (HZ1.out.below k2)
      have HF := Lib.hid hF
      obtain ⟨c, hc⟩ : ∃ c, c = w1.heap.size + 1 := ⟨_, rfl⟩
      obtain ⟨c', hc'⟩ : ∃ c', c' = w1.heap.size := ⟨_, rfl⟩
      rw [← hc, ← hc'] at HF
      rw [← hc]
      clear k2 hF hh hc hc'
      obtain ⟨i0, hi, hz0, hz1, hz2⟩ := info_parts info9
      have H2 := Lib.hid (Below.refl w2.heap.size w2)
      go_wp2_with fail
      go_loopw [8, 9] (fun v vi wr => ∃ (j : Nat) (x : Int), j ≤ len ∧ vi = .int .i64 x ∧ x = (j : Int) - 1 ∧ wr.ownsRow w2.heap.size 9 1 v (len - j) ((back T j).map Value.string) ∧ Below w2.heap.size w2 wr) (fun v vi wr => (intOf vi + 1).toNat)
      case atStart => exact ⟨len, _, by omega, rfl, by go_num, by rw [Nat.sub_self, HLEN.out, back_all]; exact World.ownsRow_nil _ _ _ _, Below.refl _ _⟩
      case round =>
        obtain ⟨j, x, hj, rfl, hxj, hO, hB⟩ := hrel
        have HO := Lib.hid hO
        have HB := Lib.hid hB
        clear hO hB
        rcases Nat.eq_zero_or_pos j with hj0 | hj0
        · subst hj0
          obtain rfl : x = -1 := by omega
          clear hxj
          have hO' := HO.out
          rw [back_zero, Nat.sub_zero] at hO'
          obtain ⟨a8, c8, rfl, hl8, kb8, koff8, hab8, hz8⟩ := (OffRow.of_own hO').texts
          have HZ8 := Lib.hid hz8
          have HAB8 := Lib.hid hab8
          have GR := Lib.hid (G2.out.keep HB.out G2.out.1)
          have HZr := Lib.hid (HZ2.out.below HB.out)
          have KR := Lib.hid (K2.out.trans (HB.out.mono K2.out.size))
          obtain ⟨a9, koff9, hsl, hab9, hz9⟩ := slice_one HLEN.out hl1 hcap HAB.out HZr.out
          have HAB9 := Lib.hid hab9
          have HZ9 := Lib.hid hz9
          have hF := HF.out.below HB.out
          obtain ⟨n1, hn1⟩ : ∃ n1, n1 = len - 1 := ⟨_, rfl⟩
          obtain ⟨m, hm⟩ : ∃ m, m = wordsOf p len * 8 := ⟨_, rfl⟩
          obtain ⟨N, hN⟩ : ∃ N, N = m * 8 := ⟨_, rfl⟩
          obtain ⟨f, hf⟩ : ∃ f, f = made h N (T.map (·.data.toList)) := ⟨_, rfl⟩
          obtain ⟨L, hL⟩ : ∃ L, L = bytesOf f m := ⟨_, rfl⟩
          obtain ⟨m1, hm1⟩ : ∃ m1, m1 = wordsOf p n1 * 8 := ⟨_, rfl⟩
          obtain ⟨N1, hN1⟩ : ∃ N1, N1 = m1 * 8 := ⟨_, rfl⟩
          obtain ⟨f1, hf1⟩ : ∃ f1, f1 = made h N1 ((T.drop 1).map (·.data.toList)) := ⟨_, rfl⟩
          obtain ⟨L1, hL1⟩ : ∃ L1, L1 = bytesOf f1 m1 := ⟨_, rfl⟩
          have hmb : m ≤ 300000 := by
            have h2 : p * len ≤ 32 * 65536 := Nat.mul_le_mul hp2 (by omega)
            rw [hm]
            unfold wordsOf
            omega
          have hmm : m1 ≤ m := by
            have := wordsOf_mono (per := p) (c := n1) (d := len) (by omega)
            omega
          have hLm := Lib.hid (show m = L.length by rw [hL, bytesOf_len])
          have hLm1 := Lib.hid (show m1 = L1.length by rw [hL1, bytesOf_len])
          obtain ⟨u, hu⟩ : ∃ u, u = ones (bitAt L) (8 * m) := ⟨_, rfl⟩
          obtain ⟨u1, hu1⟩ : ∃ u1, u1 = ones (bitAt L1) (8 * m1) := ⟨_, rfl⟩
          have hones : m1 = m → u1 ≤ u := by
            rintro rfl
            obtain rfl : N1 = N := by omega
            have e1 : u = ones f N1 := by rw [hu, show 8 * m1 = N1 by omega]; exact ones_congr fun x hx => by rw [hL]; exact bitAt_bytesOf f m1 x (by omega)
            have e2 : u1 = ones f1 N1 := by rw [hu1, show 8 * m1 = N1 by omega]; exact ones_congr fun x hx => by rw [hL1]; exact bitAt_bytesOf f1 m1 x (by omega)
            rw [e1, e2]
            refine ones_mono (fun x hx => ?_) _
            rw [hf1] at hx
            rw [hf]
            have hT := HLEN.out
            cases T with
            | nil => simp at hT; omega
            | cons y R => exact made_more hx
          have HU := Lib.hid hu
          have HU1 := Lib.hid hu1
          rw [← hm, ← hN, ← hf, ← hL] at hF
          have HFr := Lib.hid hF
          have HDEF := Lib.hid (And.intro hm (And.intro hN (And.intro hf hL)))
          have HDEF1 := Lib.hid (And.intro hm1 (And.intro hN1 (And.intro hf1 hL1)))
          have hn1l : n1 ≤ 2000 := by omega
          have HN1 := Lib.hid (show n1 = (T.drop 1).length by rw [List.length_drop, hn1, HLEN.out])
          rw [← hn1] at hsl HAB9
          clear hO' hz8 hab8 hl8 hab9 hz9 hF hn1 hm hN hf hL hm1 hN1 hf1 hL1 hu hu1 HO HF
          go_wp2_with fail
          refine (MAKE.out a8 len c8 kb8 koff8 T.reverse wr hl20 (by rw [List.length_reverse]; exact HLEN.out) HZ8.out HAB8.out (fun t h => List.mem_reverse.1 h) GR.out).mono ?_
          rintro e w3 ⟨rfl, hF3, k3⟩
          rw [made_back, ← HDEF.out.1, ← HDEF.out.2.1, ← HDEF.out.2.2.1, ← HDEF.out.2.2.2] at hF3
          have K3 := Lib.hid (KR.out.trans (k3.mono KR.out.size))
          have G3 := Lib.hid (GR.out.keep k3 GR.out.1)
          have HZ93 := Lib.hid (HZ9.out.below k3)
          have HFr3 := Lib.hid (HFr.out.below k3)
          have HF3 := Lib.hid hF3
          obtain ⟨d, hd⟩ : ∃ d, d = wr.heap.size + 1 := ⟨_, rfl⟩
          obtain ⟨d', hd'⟩ : ∃ d', d' = wr.heap.size := ⟨_, rfl⟩
          rw [← hd, ← hd'] at HF3
          rw [← hd]
          clear k3 hF3 hd hd'
          go_wp2_with fail
          refine (MAKE.out a9 n1 (cap - 1) kb koff9 (T.drop 1) w3 hn1l HN1.out HZ93.out HAB9.out (fun t h => List.mem_of_mem_drop h) G3.out).mono ?_
          rintro e w4 ⟨rfl, hF4, k4⟩
          rw [← HDEF1.out.1, ← HDEF1.out.2.1, ← HDEF1.out.2.2.1, ← HDEF1.out.2.2.2] at hF4
          have K4 := Lib.hid (K3.out.trans (k4.mono K3.out.size))
          have HFr4 := Lib.hid (HFr3.out.below k4)
          have HF34 := Lib.hid (HF3.out.below k4)
          have HF4 := Lib.hid hF4
          obtain ⟨g, hg⟩ : ∃ g, g = w3.heap.size + 1 := ⟨_, rfl⟩
          obtain ⟨g', hg'⟩ : ∃ g', g' = w3.heap.size := ⟨_, rfl⟩
          rw [← hg, ← hg'] at HF4
          rw [← hg]
          clear k4 hF4 hg hg' hsl
          go_wp2_with fail
          refine (flt_pack c c' h m L w4 HFr4 hLm (by omega) h8).mono ?_
          rintro e w5 ⟨rfl, k5⟩
          obtain ⟨P, hP⟩ : ∃ P, P = packF h L := ⟨_, rfl⟩
          rw [← hP]
          have HP := Lib.hid hP
          have K5 := Lib.hid (K4.out.trans (k5.mono K4.out.size))
          have HFr5 := Lib.hid (HFr4.out.below k5)
          have HF35 := Lib.hid (HF34.out.below k5)
          have HF5 := Lib.hid (HF4.out.below k5)
          clear k5 hP
          go_wp2_with fail
          refine (flt_pack d d' h m L w5 HF35 hLm (by omega) h8).mono ?_
          rintro e w6 ⟨rfl, k6⟩
          rw [← HP.out]
          have K6 := Lib.hid (K5.out.trans (k6.mono K5.out.size))
          have HFr6 := Lib.hid (HFr5.out.below k6)
          have HF6 := Lib.hid (HF5.out.below k6)
          clear k6
          go_wp2_with fail
          refine (flt_shape c c' h m L w6 HFr6 hLm (by omega)).mono ?_
          rintro e w7 ⟨rfl, k7⟩
          rw [← HU.out]
          have K7 := Lib.hid (K6.out.trans (k7.mono K6.out.size))
          have HF7 := Lib.hid (HF6.out.below k7)
          clear k7
          go_wp2_with fail
          refine (flt_shape g g' h m1 L1 w7 HF7 hLm1 (by omega)).mono ?_
          rintro e w8 ⟨rfl, k8⟩
          rw [← HU1.out]
          have K8 := Lib.hid (K7.out.trans (k8.mono K7.out.size))
          clear k8
          by_cases hme : m1 = m
          · subst hme
            have ho := hones rfl
            have ho2 : ((u1 : Nat) : Int) ≤ (u : Int) := by omega
            clear hones ho
            go_wp2_with fail
            go_ret
            exact ⟨by first | rfl | simp, K8.out⟩
          · have hlt : m1 < m := by omega
            have hlt2 : (m1 : Int) * 8 ≤ (m : Int) * 8 := by omega
            have hlt3 : ¬ ((m : Int) * 8 = (m1 : Int) * 8) := by omega
            clear hones hme hlt
            go_wp2_with fail
            go_ret
            exact ⟨by first | rfl | simp, K8.out⟩
        · obtain ⟨j', rfl⟩ : ∃ j', j = j' + 1 := ⟨j - 1, by omega⟩
          obtain rfl : x = (j' : Int) := by omega
          have hkT : j' < T.length := by rw [← HLEN.out]; omega
          have ha : a = some ⟨kb, koff, none⟩ := HAB.out.resolve_left (by omega)
          obtain ⟨t, ht⟩ : ∃ t, t = T.getD j' ByteArray.empty := ⟨_, rfl⟩
          have e0 : wr.cell? ⟨kb, koff + j', none⟩ = some (.string t) := by rw [ht]; exact ((HZ2.out.below HB.out) j' hkT).2
          have HBK := Lib.hid (show back T j' = back T (j' + 1) ++ [t] by rw [ht]; exact back_succ T hkT)
          have hge : w2.heap.size ≤ wr.heap.size := HB.out.size
          subst ha
          clear ht hkT hxj hj0
          go_wp2_with (first | (refine wpList_append_own _ rfl (.tmp 50) (.tmp 55) 22 rfl w2.heap.size 9 i0 _ 1 16 Tryd.underlying22 hi hz0 hz1 hz2 rfl (by decide) u8 (len - (j' + 1)) ((back T (j' + 1)).map Value.string) (by simp [Act.eval, Act.put]) (World.ownsRow.alloc HO.out _) ⟨wr.heap.size, 0, none⟩ 1 1 [.string t] (by simp [Act.eval, Act.put]) rfl (fun j u hj => cell_one_new _ _ _ j u hj) (by simp [Value.oneCell']) (by unfold maxLen; omega) (by omega) (by simp; omega) ?_; intro v3 w3 hown3 hg3 _))
          exact ⟨⟨j', _, by omega, rfl, rfl, by rw [HBK.out, List.map_append, show len - j' = len - (j' + 1) + 1 by omega]; exact hown3, HB.out.trans ((((Below.refl _ wr).mono hge).alloc hge _).grown hg3 (by simp <;> omega) (fun j hj => (World.ownsRow.lt HO.out j hj).1))⟩, by simp [intOf] <;> omega⟩

theorem laidOut : laidOutB Tryd.prog = true := by kernel_rfl
theorem contract (H : Type) (enc : TypeId × Value → H) (W : World) (base : Nat) (args : Array Value) (ds gs : List (DataW H)) (before : List MemPlace)
    (hval : ∀ (j : Nat) t v, Tryd.f6.params[j]? = some t → args[j]? = some v → Value.okWide Tryd.prog W .any base t v)
    (hW : DataW.Whole enc Tryd.prog Tryd.f6.params.toList Rows.bloomMoreSpec.vars false W args.toList ds gs before) (hL : laidMetH Tryd.prog Rows.bloomMoreRow.laid W) :
    Calls Tryd.prog 6 args W fun e W' => ∃ v, e = .returned v ∧ Rows.bloomMoreSpec.post enc Tryd.prog Tryd.f6 false true false false W args v W' := by
  have hW' := hW
  obtain ⟨p, q, hA0, hV, rfl, hfz, hnd⟩ := hW
  have hA : DataW.TrodAll enc Tryd.prog W 0 (fun _ => true) true Tryd.f6.params.toList args.toList ds p := hA0
  rw [Tryd.params6] at hA hval
  obtain ⟨v0, vs0, d0, ds0, p0, q0, hargs0, rfl, rfl, h0, r0⟩ := trodAll_cons hA
  obtain ⟨v1, vs1, d1, ds1, p1, q1, rfl, rfl, rfl, h1, r1⟩ := trodAll_cons r0
  obtain ⟨rfl, rfl, rfl⟩ := trodAll_nil r1
  obtain rfl : args = #[v0, v1] := by cases args; simp_all
  obtain ⟨rfl, rfl⟩ := trodVars_none hV
  have k0s := h0
  obtain ⟨n0, rfl, ed0, ep0, wf0⟩ := open_int Tryd.underlying5 (hval 0 5 v0 rfl rfl) k0s
  obtain ⟨lo0, hi0⟩ : 0 ≤ n0 ∧ n0 ≤ 255 := by simp [Lit.wf, IntKind.min, IntKind.max, IntKind.signed, IntKind.bits] at wf0; omega
  obtain ⟨a1, len1, cap1, rfl⟩ := okWide_slice Tryd.underlying22 (hval 1 22 v1 rfl rfl)
  obtain ⟨T1, i1⟩ := open_txc h1
  have lt0 : ∀ x ∈ p0, x.block < W.heap.size := by obtain ⟨m, hm⟩ := h0; exact DataW.trod_lt m _ _ _ hm
  have lt1 : ∀ x ∈ p1, x.block < W.heap.size := by obtain ⟨m, hm⟩ := h1; exact DataW.trod_lt m _ _ _ hm
  clear hA0
  simp only [List.append_nil] at hW'
  refine (core n0 a1 len1 cap1 T1 W lo0 hi0 i1 (Lib.hid (glob_of hL))).mono fun e W' ⟨he, bel⟩ => ?_
  subst he
  exact ⟨_, rfl, _, _, _, [], _, [], hW', trodAll_mk1 (shut_bool Tryd.underlying4 _), (trodAll_cons_mk (Below.trod laidOut (by kernel_rfl) (of_decide_eq_true (by kernel_rfl)) h0 bel lt0) (trodAll_cons_mk (Below.trod laidOut (by kernel_rfl) (of_decide_eq_true (by kernel_rfl)) h1 bel lt1) trodAll_mk0)), rfl, bel.frame _, fun h => by cases h⟩

theorem laid_met (os : Os) : laidMet Tryd.prog Rows.bloomMoreRow.laid ((laidWorld os).forCall (fun _ _ => 0) ⟨#[], #[.int .u8 0, .slice none 0 0], []⟩).memory :=
  laidMet_of_run' 8 (by kernel_rfl) (by kernel_rfl)
theorem reads (os : Os) {H : Type} (enc : TypeId × Value → H) : ∃ places, DataW.whole enc Tryd.prog ((laidWorld os).forCall (fun _ _ => 0) ⟨#[], #[.int .u8 0, .slice none 0 0], []⟩).memory Tryd.f6.params.toList Rows.bloomMoreSpec.vars false #[Value.int .u8 0, Value.slice none 0 0].toList 8 = some ([.lit (.int .u8 0), .nil], [], places) :=
  ⟨[], by kernel_rfl⟩

set_option maxRecDepth 100000 in
theorem lifted (os : Os) (started : os.Started) (H : Type) (enc : TypeId × Value → H) (F : Stop.Interp) :
    ReturnsInHanded {} Tryd.checked os 6 .any ((OpenSpec.ofChange Rows.bloomMoreSpec).preRow enc Tryd.prog Tryd.f6 Rows.bloomMoreRow.domain false Rows.bloomMoreRow.laid) (((OpenSpec.ofChange Rows.bloomMoreSpec).at F).post enc Tryd.prog Tryd.f6 false true false false) := by
  obtain ⟨places, hx⟩ := reads os enc
  refine returnsInHanded_of_row (C := Tryd.checked) (s := OpenSpec.ofChange Rows.bloomMoreSpec) own started (by kernel_rfl) Tryd.func6
    (witness_row_at (enc := enc) (C := Tryd.checked) false (laidWorld os) #[.int .u8 0, .slice none 0 0] rfl (by kernel_rfl) (by kernel_rfl) (by kernel_rfl)
      (OpenSpec.preRow_of_cond 8 hx (by kernel_rfl) (fun k hk => by cases hk) (by kernel_rfl) (laid_met os))) ?_
  intro W base args ds gs before hval hW _ _ _ hL _ _
  exact contract H enc W base args ds gs before hval hW hL

theorem said : Rows.BloomMoreSaid :=
  OpenClaim.holds_of_cond 6 Tryd.f6 rfl rfl rfl rfl rfl rfl rfl ⟨rfl, rfl, rfl, rfl, rfl⟩ rfl rfl rfl rfl rfl (by kernel_rfl) Tryd.func6 (by kernel_rfl)
    (of_decide_eq_true (by kernel_rfl)) (by unfold Func.isWrapper; first | (rw [if_pos (by decide +kernel)]; kernel_rfl) | (rw [if_neg (by decide +kernel)]; exact ⟨rfl, rfl⟩))
    (fun os started H enc _ F => by rw [OpenClaim.pre_eq_preRow]; exact lifted os started H enc F)

/-- No parameter wants a stand-in; the program's own looks are off. -/
theorem plain (f : FuncId) (fn : Func) (hf : Tryd.pinned.checked.prog.funcNamed "silo/silolaw07.BloomMore" = some f) (hfn : Tryd.pinned.checked.prog.funcs[f]? = some fn) :
    false = Tryd.pinned.checked.prog.looks [] ∧ ∀ (j : Nat) t, fn.params[j]? = some t → Tryd.pinned.checked.prog.wantsStandIn t = false := by
  obtain rfl : f = 6 := Option.some.inj ((show Tryd.prog.funcNamed "silo/silolaw07.BloomMore" = some 6 by kernel_rfl).symm.trans hf) |>.symm
  obtain rfl : fn = Tryd.f6 := (Option.some.inj (Tryd.func6.symm.trans hfn)).symm
  refine ⟨by kernel_rfl, fun j t ht => ?_⟩
  rw [Tryd.params6] at ht
  have hm : t ∈ [5, 22] := by simpa using Array.mem_of_getElem? ht
  have hall : ([5, 22].all fun u => !Tryd.prog.wantsStandIn u) = true := by kernel_rfl
  exact (show Tryd.prog.wantsStandIn t = false by simpa using List.all_eq_true.1 hall t hm)

/-- ████ THE CARD ████ -/
theorem proved : Rows.BloomMoreCardSaid :=
  Claim7.holds_tied_plain_at .later [] _ _ _ _ said (fun _ h => by cases h) (by kernel_rfl) (fun _ h => by cases h) bloomMore_row_tie rfl ⟨rfl, rfl⟩ (by kernel_rfl) rfl plain (by kernel_rfl)
#print axioms proved
end Go.Proofs.YtbiifdnicieamaaDoor.bloomMore
