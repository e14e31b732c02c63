/- SchedAdds: the walk. -/
import Derived.Test.YtccliallljcjgaaAddsPut
set_option linter.unusedVariables false
namespace Go.Proofs.Ytccliallljcjgaa
open Go.RowKit

set_option maxHeartbeats 4000000 in
set_option maxRecDepth 100000 in
theorem sumG_le (v : Int) : ∀ ts : List AT, sumG v ts ≤ 3 * ts.length
  | [] => by simp [sumG]
  | x :: r => by
    have := gA_le v x
    have := sumG_le v r
    simp only [sumG, List.length_cons]
    omega
theorem nums_of {w : World} {k : IntKind} {x : Addr} {len cap : Nat} {zs : List Int} (hl : len ≤ cap) (hz : zs.length = cap) (hcell : ∀ i, i < zs.length → w.cell? (x.add i) = some (.int k (zs.getD i 0))) (hw : ∀ n ∈ zs, (Lit.int k n).wf = true) : IsNums k w (some x) len (zs.take len) := by
  refine ⟨by rw [List.length_take]; omega, ?_⟩
  by_cases h0 : len = 0
  · subst h0
    exact ⟨0, 0, .inl rfl, fun k z hk => by simp at hk⟩
  · obtain ⟨b, off, spot⟩ := x
    have hspot : spot = none := by simpa [Addr.add] using World.cell?_spot (hcell 0 (by omega))
    subst hspot
    refine ⟨b, off, .inr rfl, fun k z hk => ?_⟩
    have hk' : k < len := by have := (List.getElem?_eq_some_iff.1 hk).1; rw [List.length_take] at this; omega
    rw [List.getElem?_take, if_pos hk'] at hk
    have h1 := hcell k (by omega)
    rw [addr_add, List.getD_eq_getElem?_getD, hk] at h1
    exact ⟨cell_block h1, h1, hw z (List.mem_of_getElem? hk)⟩
theorem adds_walk (a0 : Option Addr) (n cap0 : Nat) (zs : List Int) (sw : Bool) (a2 : Option Addr) (pn cap2 : Nat) (ps : List Int) (w : World) (h0 : IsNums .u8 w a0 n zs) (h2 : IsNums .i64 w a2 pn ps) (hpn : pn ≤ 9223372036854775807) :
    Calls Try.prog 5 #[.slice a0 n cap0, .bool sw, .slice a2 pn cap2] w fun e w' => e = .returned (.bool true) ∧ Below w.heap.size w w' := by
  have H0 := Lib.hid h0
  have H2 := Lib.hid h2
  clear h0 h2
  have hA := law_awake (w.alloc (.cells #[.bool sw] 4))
  go_enter Try.func5, Try.ntmps5
  go_wp2_with fail
  refine hA.mono ?_
  rintro e w1 ⟨rfl, b1⟩
  have B1 := Lib.hid (((Below.refl w.heap.size w).alloc (Nat.le_refl _) (.cells #[.bool sw] 4)).trans (b1.mono (by simp)))
  have HBS := Lib.hid ((b1.block _ (heap_lt (heap_new w (.cells #[.bool sw] 4)))).trans (heap_new w (.cells #[.bool sw] 4)))
  clear b1 hA
  by_cases hn : n = 0 ∨ 8 < n
  · have hA := law_awake w1
    rcases hn with rfl | hn
    all_goals
      try (have hn' : ¬ (n : Int) = 0 := by omega)
      try (have hn2 : ((n : Int) == 0) = false := by simp; omega)
      try (have hn3 : (8 : Int) < (n : Int) := by omega)
      go_wp2_with fail
      refine hA.mono ?_
      rintro e w2 ⟨rfl, b2⟩
      have B2 := Lib.hid (B1.out.trans (b2.mono B1.out.size))
      clear b2 hA
      go_wp2_with fail
      go_ret
      exact ⟨rfl, B2.out⟩
  · have hn1 : 1 ≤ n := by omega
    have hn8 : n ≤ 8 := by omega
    have hn2 : ((n : Int) == 0) = false := by simp; omega
    have hn3 : ¬ (8 : Int) < (n : Int) := by omega
    have hN := sched_New n hn1 (by omega) w1
    clear hn
    go_wp2_with fail
    refine hN.mono ?_
    rintro e w2 ⟨rfl, hS, b2⟩
    have HS := Lib.hid hS
    have B2 := Lib.hid b2
    have hs1 := hS.lt (.inl rfl)
    obtain ⟨s, hs⟩ : ∃ s, s = w1.heap.size + 1 := ⟨_, rfl⟩
    rw [← hs]
    have HSS := Lib.hid hs
    clear hS b2 hN hs hs1
    go_wp2_with (first | (go_at_call 22; refine (cell_New 0 _).mono ?_; rintro e w' ⟨rfl, rfl⟩) | (go_at_call 23; refine (mutex_New _).mono ?_; rintro e w' ⟨rfl, rfl⟩))
    obtain ⟨c, hc⟩ : ∃ c, c = w2.heap.size := ⟨_, rfl⟩
    obtain ⟨m, hm⟩ : ∃ m, m = w2.heap.size + 1 := ⟨_, rfl⟩
    obtain ⟨cb, hcb⟩ : ∃ cb, cb = w2.heap.size + 1 + 1 := ⟨_, rfl⟩
    obtain ⟨mb, hmb⟩ : ∃ mb, mb = w2.heap.size + 1 + 1 + 1 := ⟨_, rfl⟩
    obtain ⟨w3, hw3⟩ : ∃ w3, w3 = (((w2.alloc (.cells #[.int .i64 0, .int .i64 0] 86)).alloc (.cells #[.int .i64 (-1)] 83)).alloc (.cells #[.pointer (some ⟨w2.heap.size, 0, none⟩)] 54)).alloc (.cells #[.pointer (some ⟨w2.heap.size + 1, 0, none⟩)] 56) := ⟨_, rfl⟩
    obtain ⟨t0, ht0⟩ : ∃ t0, t0 = w1.heap.size := ⟨_, rfl⟩
    have HAP := Lib.hid (show ∃ g ts tsS, g.bs = w.heap.size ∧ g.cb = cb ∧ g.mb = mb ∧ g.c = c ∧ g.m = m ∧ AP w.heap.size w w3 g s t0 sw ((0 : Nat) : Int) ts tsS n 0 from by
      have hB : Below w2.heap.size w2 w3 := by rw [hw3]; exact ((((Below.refl _ w2).alloc (Nat.le_refl _) _).alloc (by simp) _).alloc (by simp; omega) _).alloc (by simp; omega) _
      have z1 := B1.out.size
      have z2 := B2.out.size
      have zS := HSS.out
      have x1 : w3.heap[c]? = some (.cells #[.int .i64 0, .int .i64 0] 86 (0, 0)) := by
        rw [hw3, Below.heap_alloc _ _ _ (by simp; omega), Below.heap_alloc _ _ _ (by simp; omega), Below.heap_alloc _ _ _ (by simp; omega), hc]
        exact heap_new w2 _
      have x2 : w3.heap[m]? = some (.cells #[.int .i64 (-1)] 83 (0, 0)) := by
        rw [hw3, Below.heap_alloc _ _ _ (by simp; omega), Below.heap_alloc _ _ _ (by simp; omega), hm]
        have := heap_new (w2.alloc (.cells #[.int .i64 0, .int .i64 0] 86)) (.cells #[.int .i64 (-1)] 83)
        simpa using this
      have x3 : w3.heap[cb]? = some (.cells #[.pointer (some ⟨c, 0, none⟩)] 54 (0, 0)) := by
        rw [hw3, Below.heap_alloc _ _ _ (by simp; omega), hcb, hc]
        have := heap_new ((w2.alloc (.cells #[.int .i64 0, .int .i64 0] 86)).alloc (.cells #[.int .i64 (-1)] 83)) (.cells #[.pointer (some ⟨w2.heap.size, 0, none⟩)] 54)
        simpa using this
      have x4 : w3.heap[mb]? = some (.cells #[.pointer (some ⟨m, 0, none⟩)] 56 (0, 0)) := by
        rw [hw3, hmb, hm]
        have := heap_new (((w2.alloc (.cells #[.int .i64 0, .int .i64 0] 86)).alloc (.cells #[.int .i64 (-1)] 83)).alloc (.cells #[.pointer (some ⟨w2.heap.size, 0, none⟩)] 54)) (.cells #[.pointer (some ⟨w2.heap.size + 1, 0, none⟩)] 56)
        simpa using this
      have hb1 := heap_lt HBS.out
      have x5 : w3.heap[w.heap.size]? = some (.cells #[.bool sw] 4 (0, 0)) := by
        rw [hB.block _ (by omega), B2.out.block _ hb1]
        exact HBS.out
      refine ⟨⟨w.heap.size, cb, mb, c, m, fun _ => 0, fun _ => 0, fun _ => 0, fun _ => 0⟩, [], List.replicate n none, rfl, rfl, rfl, rfl, rfl, ⟨by simp [sumL], by simp, by simp, by simp, fun x hx => by simp at hx, fun x hx => by simp at hx, fun x hx => by simp at hx, ?_⟩, ⟨x5, x3, x4, x1, x2, fun i x hx => by simp at hx, fun i x hx => by simp at hx, fun i hi => by simp at hi, fun i hi => by simp at hi, fun i j hi => by simp at hi⟩, by rw [ht0, zS]; exact HS.out.below hB, rfl, by simp, fun i x y hx => by simp at hx, fun i h1 h2 => by simp [h2], ⟨by simp only; omega, by simp only; omega, fun i hi => by simp at hi, by omega, by omega⟩, fun i y hy => ?_, by simp, (B1.out.trans (B2.out.mono z1)).trans (hB.mono (by omega)), by have := hB.size; omega⟩
      · cases sw with
        | true => exact .inl ⟨rfl, rfl⟩
        | false => exact .inr ⟨rfl, .inl ⟨rfl, fun x hx => by simp at hx⟩⟩
      · rw [List.getElem?_replicate] at hy
        split at hy <;> simp at hy)
    rw [← hw3, ← hmb, ← hcb]
    have HK := Lib.hid (And.intro hc (And.intro hm (And.intro hcb (And.intro hmb ht0))))
    clear hc hm hcb hmb hw3 ht0 HS HSS B1 B2 HBS
    go_loopw [11, 12] (fun wt is wr => ∃ j wn : Nat, j ≤ n ∧ is = .int .i64 (j : Int) ∧ wt = .int .i64 (wn : Int) ∧ Hid (∃ g ts tsS, g.bs = w.heap.size ∧ g.cb = cb ∧ g.mb = mb ∧ g.c = c ∧ g.m = m ∧ AP w.heap.size w wr g s t0 sw (wn : Int) ts tsS n j)) (fun _ is _ => n - (intOf is).toNat)
    case atStart => exact ⟨0, 0, Nat.zero_le _, rfl, rfl, HAP⟩
    case round =>
      obtain ⟨j, wn, hj, rfl, rfl, hX⟩ := hrel
      obtain ⟨wo, hwo⟩ : ∃ wo, wo = wr := ⟨_, rfl⟩
      subst hwo
      obtain ⟨g, ts, tsS, g1, g2, g3, g4, g5, A⟩ := hX.out
      have HA := Lib.hid A
      have HG := Lib.hid (And.intro g1 (And.intro g2 (And.intro g3 (And.intro g4 g5))))
      by_cases hlt : j < n
      · have hlt' : (j : Int) < (n : Int) := by omega
        have hj0 : (0 : Int) ≤ (j : Int) := by omega
        obtain ⟨hl0, b, off, ha, hrow⟩ := H0.out
        obtain rfl : a0 = some ⟨b, off, none⟩ := ha.resolve_left (by omega)
        obtain ⟨c0, hc0⟩ : ∃ c0, zs[j]? = some c0 := ⟨_, List.getElem?_eq_getElem (by omega)⟩
        obtain ⟨r1, r2, r3⟩ := hrow j c0 hc0
        have hcb : 0 ≤ c0 ∧ c0 ≤ 255 := by
          have := r3
          simp [Lit.wf, IntKind.min, IntKind.max, IntKind.signed, IntKind.bits] at this
          omega
        obtain ⟨hc1, hc2⟩ := hcb
        have dc : wo.cell? ⟨b, off + j, none⟩ = some (.int .u8 c0) := by rw [A.bel.cell r1]; exact r2
        obtain ⟨d, hd⟩ : ∃ d : Nat, c0 % 20 = (d : Int) := ⟨(c0 % 20).toNat, by omega⟩
        have hd19 : d ≤ 19 := by omega
        have wnb : wn ≤ 160 := by have := A.few; omega
        have bsc : wo.cell? ⟨w.heap.size, 0, none⟩ = some (.bool sw) := by rw [← g1]; simp [World.cell?, A.mem.bs]
        have mbc : wo.cell? ⟨mb, 0, none⟩ = some (.pointer (some ⟨m, 0, none⟩)) := by rw [← g3, ← g5]; simp [World.cell?, A.mem.mb]
        have lbs : w.heap.size < wo.heap.size := by rw [← g1]; exact heap_lt A.mem.bs
        have lmb : mb < wo.heap.size := by rw [← g3]; exact heap_lt A.mem.mb
        clear hl0 ha hrow hc0 r1 r2 r3 A g1 g2 g3 g4 g5 hX HAP
        obtain ⟨L, hL⟩ : ∃ L, L = Value.func (.func 24) #[] #[.pointer (some ⟨cb, 0, none⟩), .pointer (some ⟨wo.heap.size + 1, 0, none⟩), .pointer (some ⟨wo.heap.size + 1 + 1 + 1, 0, none⟩)] := ⟨_, rfl⟩
        obtain ⟨T, hT⟩ : ∃ T, T = Value.func (.func 26) #[] #[.pointer (some ⟨w.heap.size, 0, none⟩), .pointer (some ⟨cb, 0, none⟩), .pointer (some ⟨wo.heap.size + 1, 0, none⟩), .pointer (some ⟨mb, 0, none⟩), .pointer (some ⟨wo.heap.size + 1 + 1 + 1, 0, none⟩), .pointer (some ⟨wo.heap.size, 0, none⟩), .pointer (some ⟨wo.heap.size + 1 + 1, 0, none⟩)] := ⟨_, rfl⟩
        have HLT := Lib.hid (And.intro hL hT)
        obtain ⟨wB, hwB⟩ : ∃ wB, wB = ((((wo.alloc (.cells #[.int .i64 (1 + (d : Int))] 3)).alloc (.cells #[.int .i64 0] 3)).alloc (.cells #[L] 58)).alloc (.cells #[T] 58)).alloc (.cells #[L, .pointer none] 60) := ⟨_, rfl⟩
        obtain ⟨z, hz⟩ : ∃ z, z = wo.heap.size := ⟨_, rfl⟩
        have hB : Below wo.heap.size wo wB := by rw [hwB]; exact (((((Below.refl _ wo).alloc (Nat.le_refl _) _).alloc (by simp) _).alloc (by simp; omega) _).alloc (by simp; omega) _).alloc (by simp; omega) _
        have y5 : wB.heap[z + 4]? = some (.cells #[L, .pointer none] 60 (0, 0)) := by
          rw [hwB, hz]
          have := heap_new ((((wo.alloc (.cells #[.int .i64 (1 + (d : Int))] 3)).alloc (.cells #[.int .i64 0] 3)).alloc (.cells #[L] 58)).alloc (.cells #[T] 58)) (.cells #[L, .pointer none] 60)
          simpa using this
        have y4 : wB.heap[z + 3]? = some (.cells #[T] 58 (0, 0)) := by
          rw [hwB, Below.heap_alloc _ _ _ (by simp; omega), hz]
          have := heap_new (((wo.alloc (.cells #[.int .i64 (1 + (d : Int))] 3)).alloc (.cells #[.int .i64 0] 3)).alloc (.cells #[L] 58)) (.cells #[T] 58)
          simpa using this
        have y3 : wB.heap[z + 2]? = some (.cells #[L] 58 (0, 0)) := by
          rw [hwB, Below.heap_alloc _ _ _ (by simp; omega), Below.heap_alloc _ _ _ (by simp; omega), hz]
          have := heap_new ((wo.alloc (.cells #[.int .i64 (1 + (d : Int))] 3)).alloc (.cells #[.int .i64 0] 3)) (.cells #[L] 58)
          simpa using this
        have y2 : wB.heap[z + 1]? = some (.cells #[.int .i64 0] 3 (0, 0)) := by
          rw [hwB, Below.heap_alloc _ _ _ (by simp; omega), Below.heap_alloc _ _ _ (by simp; omega), Below.heap_alloc _ _ _ (by simp; omega), hz]
          have := heap_new (wo.alloc (.cells #[.int .i64 (1 + (d : Int))] 3)) (.cells #[.int .i64 0] 3)
          simpa using this
        have y1 : wB.heap[z]? = some (.cells #[.int .i64 (1 + (d : Int))] 3 (0, 0)) := by
          rw [hwB, Below.heap_alloc _ _ _ (by simp; omega), Below.heap_alloc _ _ _ (by simp; omega), Below.heap_alloc _ _ _ (by simp; omega), Below.heap_alloc _ _ _ (by simp; omega), hz]
          exact heap_new wo _
        have bsB : wB.cell? ⟨w.heap.size, 0, none⟩ = some (.bool sw) := by rw [hB.cell lbs]; exact bsc
        have mbB : wB.cell? ⟨mb, 0, none⟩ = some (.pointer (some ⟨m, 0, none⟩)) := by rw [hB.cell lmb]; exact mbc
        have fc0 : wB.cell? ⟨z + 4, 0, none⟩ = some L := by simp [World.cell?, y5]
        have fc1 : wB.cell? ⟨z + 4, 1, none⟩ = some (.pointer none) := by simp [World.cell?, y5]
        have ff1 : wB.frozen? ⟨z + 4, 1, none⟩ = false := by simp [World.frozen?, y5]
        have HY := Lib.hid (And.intro y1 (And.intro y2 (And.intro y3 (And.intro y4 (And.intro y5 hB)))))
        have HW := Lib.hid hwB
        have HZ := Lib.hid hz
        have hLf : IsFn L := ⟨_, _, hL⟩
        have HLF := Lib.hid hLf
        clear hL hT hwB hz y1 y2 y3 y4 y5 hB lbs lmb hLf
        go_upto_region 17 with fail
        rw [← HLT.out.1, ← HLT.out.2, ← HW.out]
        have hz4 : wo.heap.size + 1 + 1 + 1 + 1 = z + 4 := by rw [HZ.out]
        rw [hz4]
        clear hz4 bsc mbc
        have hnext : ∀ (mo : Option Addr), mo = (if sw then none else some ⟨m, 0, none⟩) → ∀ (wC w6 w7 : World) (k : Nat), Below wo.heap.size wo wC → wC.heap[z]? = some (.cells #[.int .i64 (1 + (d : Int))] 3 (0, 0)) → wC.heap[z + 1]? = some (.cells #[.int .i64 0] 3 (0, 0)) → wC.heap[z + 2]? = some (.cells #[L] 58 (0, 0)) → wC.heap[z + 3]? = some (.cells #[T] 58 (0, 0)) →
            wo.heap.size ≤ k → Only (fun p => p = t0) wC w6 → Sch w6 s t0 (tsS.set j (some ⟨k, L, mo⟩)) 0 → Below w6.heap.size w6 w7 → ∃ g ts tsS, g.bs = w.heap.size ∧ g.cb = cb ∧ g.mb = mb ∧ g.c = c ∧ g.m = m ∧ AP w.heap.size w w7 g s t0 sw ((wn + (1 + d) : Nat) : Int) ts tsS n (j + 1) := by
          intro mo hmo wC w6 w7 k hB y1 y2 y3 y4 hk hO hS h7
          obtain ⟨g1, g2, g3, g4, g5⟩ := HG.out
          have eL : L = .func (.func 24) #[] (ldC (g.put j wo.heap.size) j) := by rw [HLT.out.1]; simp [ldC, AG.put, g2]
          have eT : T = .func (.func 26) #[] (stC (g.put j wo.heap.size) j) := by rw [HLT.out.2]; simp [stC, AG.put, g1, g2, g3]
          rw [HZ.out] at y1 y2 y3 y4
          rw [eL] at y3 hS
          rw [eT] at y4
          rw [hmo, ← g5] at hS
          have hA := HA.out.next hlt hn8 hd19 hB y1 y2 y3 y4 hk hO hS h7
          rw [show (wn : Int) + (1 + (d : Int)) = ((wn + (1 + d) : Nat) : Int) by omega] at hA
          exact ⟨g.put j wo.heap.size, _, _, g1, g2, g3, g4, g5, hA⟩
        have HNX := Lib.hid hnext
        have ht0 : t0 < wo.heap.size := HA.out.sch.lt (.inr (.inl rfl))
        have hnone := HA.out.none_ j (Nat.le_refl _) hlt
        clear hnext
        cases sw with
        | true =>
          have hput := sched_Put (w := wB) (HA.out.sch.below HY.out.2.2.2.2.2) hnone none HLF.out
          go_wp2_with fail
          refine hput.mono ?_
          rintro e w6 ⟨rfl, hS6, hO6, _⟩
          have hb6 : w6.heap[z + 4]? = some (.cells #[L, .pointer none] 60 (0, 0)) := (hO6.block _ (heap_lt HY.out.2.2.2.2.1) (by have := HZ.out; omega)).trans HY.out.2.2.2.2.1
          have fd0 : w6.cell? ⟨z + 4, 0, none⟩ = some L := by simp [World.cell?, hb6]
          have fd1 : w6.cell? ⟨z + 4, 1, none⟩ = some (.pointer none) := by simp [World.cell?, hb6]
          have hjj : (tsS.set j (some (⟨wB.heap.size, L, none⟩ : TS)))[j]? = some (some ⟨wB.heap.size, L, none⟩) := by rw [List.getElem?_set, if_pos rfl, if_pos (by rw [HA.out.lenS]; exact hlt)]
          have htk := put_taken hS6 hjj (m := .pointer none) HLF.out
          have HS6 := Lib.hid hS6
          have HO6 := Lib.hid hO6
          clear hput hS6 hO6 hb6 hjj fc0 fc1 ff1 bsB mbB
          go_wp2_with fail
          refine htk.mono ?_
          rintro e w7 ⟨rfl, h7⟩
          have HE := Lib.hid (HNX.out none rfl wB w6 w7 _ HY.out.2.2.2.2.2 HY.out.1 HY.out.2.1 HY.out.2.2.1 HY.out.2.2.2.1 HY.out.2.2.2.2.2.size HO6.out HS6.out h7)
          clear h7 htk fd0 fd1
          go_wp2_with fail
          go_roundw
          case rel => exact ⟨j + 1, wn + (1 + d), by omega, by go_num, by go_num, HE⟩
          case measure => simp [intOf]; omega
        | false =>
          obtain ⟨wC, hwC⟩ : ∃ wC, wC = wB.setCell ⟨z + 4, 1, none⟩ (.pointer (some ⟨m, 0, none⟩)) := ⟨_, rfl⟩
          have hBC : Below wo.heap.size wo wC := by rw [hwC]; exact HY.out.2.2.2.2.2.setCell (p := ⟨z + 4, 1, none⟩) (by show wo.heap.size ≤ z + 4; have := HZ.out; omega) _
          have hb5 : wC.heap[z + 4]? = some (.cells #[L, .pointer (some ⟨m, 0, none⟩)] 60 (0, 0)) := by rw [hwC, heap_set HY.out.2.2.2.2.1]; rfl
          have oth : ∀ q, q ≠ z + 4 → wC.heap[q]? = wB.heap[q]? := fun q hq => by rw [hwC]; exact heap_set_other hq _
          have fe0 : wC.cell? ⟨z + 4, 0, none⟩ = some L := by simp [World.cell?, hb5]
          have fe1 : wC.cell? ⟨z + 4, 1, none⟩ = some (.pointer (some ⟨m, 0, none⟩)) := by simp [World.cell?, hb5]
          have HC := Lib.hid (And.intro hBC (And.intro hb5 (And.intro ((oth z (by omega)).trans HY.out.1) (And.intro ((oth (z + 1) (by omega)).trans HY.out.2.1) (And.intro ((oth (z + 2) (by omega)).trans HY.out.2.2.1) ((oth (z + 3) (by omega)).trans HY.out.2.2.2.1))))))
          have hput := sched_Put (w := wC) (HA.out.sch.below hBC) hnone (some ⟨m, 0, none⟩) HLF.out
          have HWC := Lib.hid hwC
          clear hBC hb5 oth hwC
          go_upto_region 19 with fail
          rw [← HWC.out]
          clear fc0 fc1 ff1 bsB mbB
          go_wp2_with fail
          refine hput.mono ?_
          rintro e w6 ⟨rfl, hS6, hO6, _⟩
          have hb6 : w6.heap[z + 4]? = some (.cells #[L, .pointer (some ⟨m, 0, none⟩)] 60 (0, 0)) := (hO6.block _ (heap_lt HC.out.2.1) (by have := HZ.out; omega)).trans HC.out.2.1
          have fd0 : w6.cell? ⟨z + 4, 0, none⟩ = some L := by simp [World.cell?, hb6]
          have fd1 : w6.cell? ⟨z + 4, 1, none⟩ = some (.pointer (some ⟨m, 0, none⟩)) := by simp [World.cell?, hb6]
          have hjj : (tsS.set j (some (⟨wC.heap.size, L, some ⟨m, 0, none⟩⟩ : TS)))[j]? = some (some ⟨wC.heap.size, L, some ⟨m, 0, none⟩⟩) := by rw [List.getElem?_set, if_pos rfl, if_pos (by rw [HA.out.lenS]; exact hlt)]
          have htk := put_taken hS6 hjj (m := .pointer (some ⟨m, 0, none⟩)) HLF.out
          have HS6 := Lib.hid hS6
          have HO6 := Lib.hid hO6
          clear hput hS6 hO6 hb6 hjj fe0 fe1
          go_wp2_with fail
          refine htk.mono ?_
          rintro e w7 ⟨rfl, h7⟩
          have HE := Lib.hid (HNX.out (some ⟨m, 0, none⟩) rfl wC w6 w7 _ HC.out.1 HC.out.2.2.1 HC.out.2.2.2.1 HC.out.2.2.2.2.1 HC.out.2.2.2.2.2 HC.out.1.size HO6.out HS6.out h7)
          clear h7 htk fd0 fd1
          go_wp2_with fail
          go_roundw
          case rel => exact ⟨j + 1, wn + (1 + d), by omega, by go_num, by go_num, HE⟩
          case measure => simp [intOf]; omega
      · have hjn : j = n := by omega
        have hnlt : ¬ ((j : Int) < (n : Int)) := by omega
        have hA2 : AW w.heap.size wo g s t0 sw (wn : Int) 0 (-1) ts tsS 0 := ⟨A.inv, A.mem, A.sch, by rw [A.lenS, A.len, hjn], A.slot, A.lo, A.lk⟩
        have hsum := A.inv.sum
        have hfew := A.few
        have hG := sumG_le 0 ts
        have hln := A.len
        have hcnt : 0 + cntA 0 ts ≤ 3224 := by unfold cntA; omega
        have HP := Lib.hid (show ∃ v h ts tsS steps, AW w.heap.size wo g s t0 sw (wn : Int) v h ts tsS steps ∧ ts.length = n ∧ 0 + cntA v ts ≤ 3224 ∧ Below w.heap.size w wo ∧ w.heap.size ≤ wo.heap.size from ⟨0, -1, ts, tsS, 0, hA2, hln.trans hjn, hcnt, A.bel, A.bz⟩)
        clear hA2 hsum hfew hG hln hcnt A HA hX HAP g1 g2 g3 g4 g5
        go_wp2_with fail
        go_loopw [18] (fun is wr => ∃ i : Nat, i ≤ 20000 ∧ is = .int .i64 (i : Int) ∧ Hid (∃ v h ts tsS steps, AW w.heap.size wr g s t0 sw (wn : Int) v h ts tsS steps ∧ ts.length = n ∧ i + cntA v ts ≤ 3224 ∧ Below w.heap.size w wr ∧ w.heap.size ≤ wr.heap.size)) (fun is _ => 20000 - (intOf is).toNat)
        case atStart => exact ⟨0, by omega, rfl, HP⟩
        case round =>
          obtain ⟨i, hi, rfl, hY⟩ := hrel
          obtain ⟨wq, hwq⟩ : ∃ wq, wq = wr := ⟨_, rfl⟩
          subst hwq
          obtain ⟨v, h, us, usS, steps, W, hul, hct, hbl, hbz⟩ := hY.out
          have hi2 : i ≤ 3224 := by omega
          have hi3 : (i : Int) < 20000 := by omega
          have hi0 : (0 : Int) ≤ (i : Int) := by omega
          have HWW := Lib.hid (And.intro W (And.intro hul (And.intro hct (And.intro hbl hbz))))
          obtain ⟨h2a, b2, off2, h2b, h2c⟩ := H2.out
          have hways : ((i : Int) < (pn : Int) ∧ (i : Int) < 600 ∧ a2 = some ⟨b2, off2, none⟩ ∧ ∃ z, wq.cell? ⟨b2, off2 + i, none⟩ = some (.int .i64 z)) ∨ ((i : Int) < (pn : Int) ∧ ¬ (i : Int) < 600) ∨ ¬ (i : Int) < (pn : Int) := by
            by_cases q1 : i < pn
            · by_cases q2 : i < 600
              · obtain ⟨z, hz⟩ : ∃ z, ps[i]? = some z := ⟨_, List.getElem?_eq_getElem (by omega)⟩
                obtain ⟨u1, u2, _⟩ := h2c i z hz
                exact .inl ⟨by omega, by omega, h2b.resolve_left (by omega), z, by rw [hbl.cell u1]; exact u2⟩
              · exact .inr (.inl ⟨by omega, by omega⟩)
            · exact .inr (.inr (by omega))
          clear h2a h2b h2c W hul hct hbl hbz hY HP
          by_cases hl : readyL (rA sw h us) us.length = []
          · have hpk := fun num => (aw_pick_none HWW.out.1 num hl).1
            have hvh := (aw_pick_none HWW.out.1 0 hl).2
            clear hl
            rcases hways with ⟨q1, q2, rfl, z, q3⟩ | ⟨q1, q2⟩ | q1
            all_goals
              go_wp2_with fail
              refine (hpk _).mono ?_
              rintro e w6 ⟨rfl, h6⟩
              obtain ⟨e1, e2⟩ := hvh
              subst e1 e2
              have W6 := HWW.out.1.below h6
              obtain ⟨g1, g2, g3, g4, g5⟩ := HG.out
              have fcb : w6.cell? ⟨cb, 0, none⟩ = some (.pointer (some ⟨c, 0, none⟩)) := by rw [← g2, ← g4]; simp [World.cell?, W6.mem.cb]
              have fmb : w6.cell? ⟨mb, 0, none⟩ = some (.pointer (some ⟨m, 0, none⟩)) := by rw [← g3, ← g5]; simp [World.cell?, W6.mem.mb]
              have hcl := cell_Load (w := w6) (c := c) (v := (wn : Int)) (by rw [← g4]; simp [World.cell?, W6.mem.c])
              have hcs := cell_Sets (w := w6) (c := c) (v := (wn : Int)) (by rw [← g4]; simp [World.cell?, W6.mem.c])
              have hmh := mutex_Holder (w := w6) (m := ⟨m, 0, none⟩) (v := -1) (by rw [← g5]; simp [World.cell?, W6.mem.m])
              have hB6 : Below w.heap.size w w6 := HWW.out.2.2.2.1.trans (h6.mono HWW.out.2.2.2.2)
              clear W6 h6 g1 g2 g3 g4 g5
              go_wp2_with fail
              refine hcl.mono ?_
              rintro e w7 ⟨rfl, rfl⟩
              go_wp2_with fail
              refine hcs.mono ?_
              rintro e w7 ⟨rfl, rfl⟩
              go_wp2_with fail
              refine hmh.mono ?_
              rintro e w7 ⟨rfl, rfl⟩
              go_wp2_with fail
              go_ret
              exact ⟨rfl, hB6⟩
          · have hpk : ∀ num : Int, Calls Try.prog 12 #[.pointer (some ⟨s, 0, none⟩), .int .i64 num] wq fun e w' => ∃ k : Nat, e = .returned (.tuple #[.int .i64 (k : Int), .bool true]) ∧ ∃ w1, Below wq.heap.size wq w1 ∧ Picked w.heap.size g s t0 sw (wn : Int) us.length (cntA v us) w1 w' := fun num => by
              obtain ⟨k, hk⟩ := aw_pick_some HWW.out.1 HWW.out.2.2.2.2 num hl
              exact hk.mono fun e w' hh => ⟨k, hh⟩
            clear hl
            rcases hways with ⟨q1, q2, rfl, z, q3⟩ | ⟨q1, q2⟩ | q1
            all_goals
              go_wp2_with fail
              refine (hpk _).mono ?_
              rintro e w6 ⟨k, rfl, w1, hb1, v', h', ts', tsS', steps', W', hl', hc', hb'⟩
              have hE : Hid (∃ v h ts tsS steps, AW w.heap.size w6 g s t0 sw (wn : Int) v h ts tsS steps ∧ ts.length = n ∧ (i + 1) + cntA v ts ≤ 3224 ∧ Below w.heap.size w w6 ∧ w.heap.size ≤ w6.heap.size) := Lib.hid ⟨v', h', ts', tsS', steps', W', hl'.trans HWW.out.2.1, by have := HWW.out.2.2.1; omega, (HWW.out.2.2.2.1.trans (hb1.mono HWW.out.2.2.2.2)).trans hb', Nat.le_trans HWW.out.2.2.2.2 (Nat.le_trans hb1.size hb'.size)⟩
              clear W' hl' hc' hb' hb1 hpk
              go_wp2_with fail
              go_roundw
              case rel => exact ⟨i + 1, by omega, by go_num, hE⟩
              case measure => simp [intOf]; omega
end Go.Proofs.Ytccliallljcjgaa
