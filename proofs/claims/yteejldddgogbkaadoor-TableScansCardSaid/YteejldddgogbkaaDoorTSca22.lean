/- Texts for layer 9, put together: TableScansWalk -/
import Derived.Test.YteejldddgogbkaaDoorTSca17
import Derived.Laws.EntriesVeiled
import Derived.Test.YteejldddgogbkaaDoorTSca21
import Derived.Test.YteejldddgogbkaaDoorTSca12
import Derived.Test.YteejldddgogbkaaDoorTSca13
/- The law that a Scan goes through what Walk tells, ends where it is left, and tells an error last: the walk. -/
set_option linter.unusedVariables false
set_option maxRecDepth 100000
namespace Go.Proofs.YteejldddgogbkaaDoor
open Go.RowKit
attribute [local go_sem] Oper.semAt_some

/-- Rising entries may be packed. -/
theorem rising_chk {T : List Ent} (h : ∀ x ∈ T, x.key.length ≤ 60000 ∧ x.val.length ≤ 60000) (hl : T.length ≤ 3001) : chkE (rising T) = 0 := by
  refine (chkE_ok _).2 ⟨okEs_of_rises true [] (rising_rises T) (fun y hy => ?_) (fun h => by cases h), by have := rising_len T; omega⟩
  obtain ⟨x, hx, rfl⟩ := rising_mem hy
  have := h x hx
  unfold norm
  split
  · exact ⟨by simp only; omega, by simp, fun _ => rfl⟩
  · rename_i hg
    exact ⟨by omega, by omega, fun g => absurd g hg⟩
theorem keepsFrom_of_only {B : Nat} {Q : Nat → Prop} {W W' : World} (h : Only (fun k => k < B ∧ Q k) W W') : KeepsFrom B W W' :=
  ⟨h.size, fun k o hB hk _ => (h.block k (heap_lt hk) fun hh => by omega).trans hk⟩
/-- The frame at a round's body. -/
def scanAct (a4 a11 a : Option Addr) (n c4 len cap c11 lw m en B db p zw zn z : Nat) (P key : List UInt8) (leave : Int) (broken : Bool) (x : Ent × Int) : Act :=
  { tmps := #[Value.slice a4 n c4, Value.int IntKind.u8 (en : Int), Value.string (bs key), Value.int IntKind.i64 leave,
          Value.bool broken, undef, undef, undef, Value.pointer (some { block := B, off := 0 }), undef,
          Value.pointer (some { block := B + 1, off := 0 }), Value.string (bs P), Value.int IntKind.i64 0,
          Value.pointer (some { block := db, off := 0 }), Value.pointer (some { block := db + 2, off := 0 }),
          Value.pointer (some { block := p, off := 0 }), Value.int IntKind.i64 0,
          Value.pointer (some { block := zw, off := 0 }), Value.int IntKind.i64 0,
          Value.pointer (some { block := zn, off := 0 }), Value.pointer (some { block := zn + 1, off := 0 }), Value.pointer (some { block := z, off := 0 }),
          Value.int IntKind.i64 x.2, Value.bool true, Value.bool false, Value.bool false, Value.slice a len cap, Value.bool true,
          Value.bool false, Value.bool false, undef, Value.slice a len cap, Value.slice a4 n c4,
          Value.tuple #[Value.string (bs P), Value.int IntKind.i64 0], Value.slice a4 n c4, Value.int IntKind.u8 (en : Int),
          Value.int IntKind.i64 (en : Int), Value.int IntKind.i64 (1 + (en : Int)),
          Value.tuple #[Value.string (bs P), Value.int IntKind.i64 0], Value.string (bs P), Value.int IntKind.i64 0,
          Value.string (bs P), Value.func (Fn.func 35) #[] #[Value.pointer (some { block := db + 1, off := 0 })],
          Value.tuple #[Value.pointer (some { block := p, off := 0 }), Value.int IntKind.i64 0], Value.string (bs P),
          Value.int IntKind.i64 (m : Int),
          Value.func (Fn.func 18) #[]
            #[Value.pointer (some { block := db, off := 0 }), Value.pointer (some { block := db + 2, off := 0 })],
          Value.tuple #[Value.pointer (some { block := p, off := 0 }), Value.int IntKind.i64 0],
          Value.pointer (some { block := p, off := 0 }), Value.int IntKind.i64 0, Value.int IntKind.i64 0,
          Value.bool false, Value.bool false, Value.int IntKind.i64 0, Value.bool false, Value.bool false,
          Value.tuple #[Value.slice a11 lw c11, Value.int IntKind.i64 0],
          Value.pointer (some { block := p, off := 0 }), Value.string (bs key),
          Value.tuple #[Value.slice a11 lw c11, Value.int IntKind.i64 0], Value.slice a11 lw c11,
          Value.int IntKind.i64 0, Value.bool broken, Value.pointer (some { block := p, off := 0 }),
          Value.string (bs key),
          Value.func (Fn.func 41) #[]
            #[Value.pointer (some { block := zn + 2, off := 0 }),
              Value.pointer (some { block := zn + 2 + 1, off := 0 })],
          Value.agg #[.string (bs x.1.key), .string (bs x.1.val), .bool x.1.gone], Value.int IntKind.i64 x.2, undef, undef, undef, undef, undef, undef, undef, undef, undef, undef, undef, undef, undef,
          undef, undef, undef, undef, undef, undef, undef, undef, undef, undef, undef, undef, undef, undef, undef,
          undef, undef, undef, undef, undef, undef, undef, undef, undef, undef, undef, undef, undef, undef, undef,
          undef, undef, undef, undef, undef, undef, undef, undef, undef, undef, undef, undef, undef], defers := [] }
/-- What stands while the law's loop goes on. -/
structure ScI (w : World) (a11 : Option Addr) (c11 B zw zn : Nat) (L : List Ent) (leave : Int) (q last : Int) (W : World) : Prop where
  s : Vr zw (.slice a11 L.length c11) 22 W
  l : IsE W a11 L.length L
  n : Vr zn (.int .i64 q) 3 W
  la : Vr (zn + 1) (.int .i64 last) 27 W
  z : Vr (B + 1) (.bool false) 4 W
  lv : Vr B (.int .i64 leave) 3 W
  bel : Below B w W
theorem ScI.only {w : World} {a11 : Option Addr} {c11 B zw zn : Nat} {L : List Ent} {leave q last : Int} {W W' : World} {S : Nat → Prop} (h : ScI w a11 c11 B zw zn L leave q last W) (o : Only S W W') (h1 : ¬ S zw) (h2 : NotIn a11 L.length S) (h3 : ¬ S zn) (h4 : ¬ S (zn + 1)) (hS : ∀ j, S j → B + 2 ≤ j) : ScI w a11 c11 B zw zn L leave q last W' :=
  ⟨h.s.only o h1, h.l.only o h2, h.n.only o h3, h.la.only o h4, h.z.only o (fun hh => by have := hS _ hh; omega), h.lv.only o (fun hh => by have := hS _ hh; omega), h.bel.trans (o.below (fun j _ hj => by have := hS _ hj; omega) (by have := heap_lt h.z; omega))⟩
/-- The source of the law's table. -/
def scF : Nat := 18
def scC (db sb : Nat) : Array Value := #[.pointer (some ⟨db, 0, none⟩), .pointer (some ⟨sb, 0, none⟩)]
set_option maxHeartbeats 8000000 in
theorem scans_walk (a : Option Addr) (len cap : Nat) (T : List Ent) (ea : Int) (key : List UInt8) (leave : Int) (broken : Bool) (w : World) (h : InE w a len cap T) (he1 : 0 ≤ ea) (he2 : ea ≤ 255) (hlv : -9223372036854775808 ≤ leave ∧ leave ≤ 9223372036854775807) (hg : Hid (Glob w)) :
    Calls Tryd.prog 5 #[.slice a len cap, .int .u8 ea, .string (bs key), .int .i64 leave, .bool broken] w fun e w' => e = .returned (.bool true) ∧ Below w.heap.size w w' := by
  obtain ⟨his, hbig, hroom, hfit⟩ := h
  have HFIT := Lib.hid hfit
  obtain ⟨B, hB⟩ : ∃ B, B = w.heap.size := ⟨_, rfl⟩
  obtain ⟨w1, hw1⟩ : ∃ w1, w1 = w.alloc (.cells #[.int .i64 leave] 3) := ⟨_, rfl⟩
  obtain ⟨w2, hw2⟩ : ∃ w2, w2 = w1.alloc (.cells #[.bool false] 4) := ⟨_, rfl⟩
  have s1 : w1.heap.size = B + 1 := by rw [hw1, hB]; simp
  have s2 : w2.heap.size = B + 2 := by rw [hw2]; simp [s1]
  have k1 : Below w.heap.size w w1 := by rw [hw1]; exact (Below.refl _ _).alloc (Nat.le_refl _) _
  have k2 : Below w1.heap.size w1 w2 := by rw [hw2]; exact (Below.refl _ _).alloc (Nat.le_refl _) _
  have KB := Lib.hid (show Below B w w2 by rw [hB]; exact k1.trans (k2.mono k1.size))
  have L2 := Lib.hid (show Vr B (.int .i64 leave) 3 w2 from (show Vr B (.int .i64 leave) 3 w1 by rw [hw1, hB]; exact heap_new w _).below k2)
  have Z2 := Lib.hid (show Vr (B + 1) (.bool false) 4 w2 by rw [hw2, ← s1]; exact heap_new w1 _)
  have HIS := Lib.hid (his.below (hB ▸ KB.out))
  have G2 := Lib.hid (hg.out.keep (hB ▸ KB.out) hg.out.1)
  have S2 := Lib.hid s2
  have HW := Lib.hid (show w2 = (w.alloc (.cells #[.int .i64 leave] 3)).alloc (.cells #[.bool false] 4) by rw [hw2, hw1])
  have HB := Lib.hid hB
  have HAW1 := Lib.hid (law_awake09 w2 G2)
  rw [← hB]
  clear his hfit hB hw1 hw2 s1 s2 k1 k2
  refine (callsIn_wide (n := 5)).1 ?_
  refine callsIn_of_wp_marks Tryd.func5 rfl trivial ?_ rfl
  simp only [Tryd.ntmps5, List.size_toArray, List.length_cons, List.length_nil, Nat.reduceAdd, Nat.reduceSub, Array.replicate_succ, Array.replicate_zero, List.push_toArray, List.append_toArray, List.nil_append, List.cons_append]
  refine (wpIn_wide (n := 5)).2 ?_
  go_upto_region 1 with (fail)
  rw [← HW.out, ← HB.out]
  go_wp2_with fail
  refine HAW1.out.mono ?_
  rintro en w3 ⟨rfl, k3⟩
  have K3 := Lib.hid k3
  have HFW := Lib.hid (law_few a len cap T w3 (Lib.hid (HIS.out.below K3.out)) hbig HFIT)
  clear k3
  go_wp2_with fail
  refine HFW.out.mono ?_
  rintro e w4 ⟨rfl, k4⟩
  have K4 := Lib.hid (K3.out.trans (k4.mono K3.out.size))
  clear k4
  obtain ⟨r, hr⟩ : ∃ r, r = fewB T := ⟨_, rfl⟩
  rw [← hr]
  have HR := Lib.hid hr
  clear hr
  cases r with
  | false =>
    have HAW := Lib.hid (law_awake09 w4 (Lib.hid (G2.out.keep K4.out G2.out.1)))
    go_wp2_with fail
    refine HAW.out.mono ?_
    rintro en w5 ⟨rfl, k5⟩
    have K5 := Lib.hid (K4.out.trans (k5.mono K4.out.size))
    have Z5 := Lib.hid (Z2.out.below K5.out)
    have z0 := Z5.out.cell
    have zf := Z5.out.free
    clear k5
    go_wp2_with fail
    have hz := (Z5.out.put (.bool true)).cell
    refine ⟨.bool true, ?_, rfl, (KB.out.trans (K5.out.mono (by have := S2.out; omega))).setCell (p := ⟨B + 1, 0, none⟩) (by simp) _⟩
    simp [results, Tryd.f5, go_sem, hz]
  | true =>
    have hfew := Lib.hid (few_of HR.out.symm)
    have hlen : len ≤ 3001 := by rw [HIS.out.1]; exact hfew.out.1
    have HRS0 := Lib.hid (law_rising_cap a len cap T w4 (Lib.hid (HIS.out.below K4.out)) hlen (Lib.hid hfew.out.2))
    go_wp2_with fail
    refine HRS0.out.mono ?_
    rintro e w5 ⟨⟨a4, c4, rfl, hE4, hc4⟩, k5⟩
    have HE4 := Lib.hid hE4
    have K5 := Lib.hid (K4.out.trans (k5.mono K4.out.size))
    have HCHK := Lib.hid (rising_chk hfew.out.2 hfew.out.1)
    have hRl : (rising T).length ≤ 3001 := Nat.le_trans (rising_len T) hfew.out.1
    clear hE4 k5
    generalize rising T = R at *
    obtain ⟨n, hn⟩ : ∃ n, n = R.length := ⟨_, rfl⟩
    rw [← hn] at hRl HE4 hc4 ⊢
    have HN := Lib.hid hn
    clear hn
    obtain ⟨en, hen⟩ : ∃ en : Nat, ea = (en : Int) := ⟨ea.toNat, by omega⟩
    subst hen
    have hen2 : en ≤ 255 := by omega
    have G5 := Lib.hid (G2.out.keep K5.out G2.out.1)
    have hb0 : buildE' (1 + (en : Int)) 10 R = 0 := by unfold buildE'; rw [if_neg (by omega)]; exact HCHK.out
    have HBD := Lib.hid (table_Build a4 n c4 R (1 + (en : Int)) 10 w5 HE4 hRl hc4 (Lib.hid (smallE_of ((chkE_ok R).1 HCHK.out).1)) G5)
    rw [hb0, if_pos rfl] at HBD
    obtain ⟨P, hP⟩ : ∃ P, P = tabB (1 + (en : Int)).toNat (10 : Int).toNat R := ⟨_, rfl⟩
    have hto : (1 + (en : Int)).toNat = 1 + en := by omega
    rw [← hP] at HBD
    have hP2 : P = tabB (1 + en) 10 R := by rw [hP, hto]; rfl
    obtain ⟨t, ht⟩ := built_tab (each := 1 + en) (per := 10) (T := R) (by omega) (by omega) (by omega) (by omega) (by rw [← HN.out]; exact hRl) HCHK.out
    rw [← hP2] at ht
    have HT := Lib.hid ht
    obtain ⟨m, hm⟩ : ∃ m, m = P.length := ⟨_, rfl⟩
    have hzP : (bs P).size = m := by rw [bs_size, hm]
    have HM := Lib.hid hm
    clear hm hP hP2 hto ht hb0
    go_wp2_with fail
    refine HBD.out.mono ?_
    rintro e w6 ⟨rfl, k6⟩
    have K6 := Lib.hid (K5.out.trans (k6.mono K5.out.size))
    have E6 := Lib.hid (HE4.out.below k6)
    obtain ⟨db, hdb⟩ : ∃ db, db = w6.heap.size := ⟨_, rfl⟩
    obtain ⟨w7, hw7⟩ : ∃ w7, w7 = w6.alloc (.cells #[.bool false] 4) := ⟨_, rfl⟩
    have b7 : Below w6.heap.size w6 w7 := by rw [hw7]; exact (Below.refl _ _).alloc (Nat.le_refl _) _
    have D7 := Lib.hid (show Vr db (.bool false) 4 w7 by rw [hw7, hdb]; exact heap_new w6 _)
    have s7 : w7.heap.size = db + 1 := by rw [hw7, hdb]; simp
    have HOV := Lib.hid (law_over (bs P) w7)
    rw [s7] at HOV
    have HW7 := Lib.hid hw7
    have HDB := Lib.hid hdb
    have K7 := Lib.hid (K6.out.trans (b7.mono K6.out.size))
    have S7 := Lib.hid s7
    clear k6 HBD hw7 hdb b7 s7
    go_upto_region 6 with (fail)
    rw [← HW7.out, ← HDB.out]
    go_wp2_with fail
    refine HOV.out.mono ?_
    rintro e w8 ⟨rfl, hw8⟩
    have b8 : Below w7.heap.size w7 w8 := by rw [hw8]; exact (Below.refl _ _).alloc (Nat.le_refl _) _
    have s8 : w8.heap.size = db + 2 := by rw [hw8]; simp [S7.out]
    obtain ⟨w9, hw9⟩ : ∃ w9, w9 = w8.alloc (.cells #[overV (db + 1)] 34) := ⟨_, rfl⟩
    have b9 : Below w8.heap.size w8 w9 := by rw [hw9]; exact (Below.refl _ _).alloc (Nat.le_refl _) _
    have s9 : w9.heap.size = db + 3 := by rw [hw9]; simp [s8]
    have b79 : Below w7.heap.size w7 w9 := b8.trans (b9.mono b8.size)
    have K9 := Lib.hid (K7.out.trans (b79.mono K7.out.size))
    have Q9 := Lib.hid (show Keep (scanK db (db + 2) (db + 1) false P) w9 from fun q hq => by
      simp only [scanK, List.mem_cons, List.not_mem_nil, or_false] at hq
      rcases hq with rfl | rfl | rfl
      · exact (b79.block _ (heap_lt D7.out)).trans D7.out
      · rw [hw9, ← s8]; exact heap_new w8 _
      · exact (b9.block _ (by rw [s8]; exact Nat.lt_succ_self _)).trans (by rw [hw8, ← S7.out]; exact heap_new w7 _))
    have E9 := Lib.hid ((E6.out.below (by rw [HW7.out]; exact (Below.refl _ _).alloc (Nat.le_refl _) _)).below b79)
    have S9 := Lib.hid s9
    have S8 := Lib.hid s8
    have HW9 := Lib.hid hw9
    have HSrc := Lib.hid (show Go.Proofs.YteejldddgogbkaaDoor.Src scF (scC db (db + 2)) (scanK db (db + 2) (db + 1) false P) 0 P from scan_src db (db + 2) (db + 1) false P (by have := HT.out.len; omega))
    have HOp := Lib.hid (open_built HT.out _ _ _ w9 HSrc Q9)
    rw [← HM.out] at HOp
    unfold srcV scF scC at HOp
    unfold overV at HW9 ⊢
    clear hw8 hw9 b8 b9 b79 s8 s9
    go_upto_region 7 with (fail)
    rw [← HW9.out, S8.out]
    go_wp2_with fail
    refine HOp.out.mono ?_
    rintro e w10 ⟨p, hp, rfl, hT10, k10⟩
    have K10 := Lib.hid (K9.out.trans (k10.mono K9.out.size))
    have T10 := Lib.hid (show TabM p (srcV scF (scC db (db + 2))) 0 t w10 from hT10)
    have Q10 := Lib.hid (Q9.out.below k10)
    have HP := Lib.hid (show db + 3 ≤ p by rw [← S9.out]; exact hp)
    have HKp := Lib.hid (show ∀ q ∈ scanK db (db + 2) (db + 1) false P, q.1 ≠ p ∧ q.1 < db + 3 from fun q hq => by
      simp only [scanK, List.mem_cons, List.not_mem_nil, or_false] at hq
      have := HP.out
      rcases hq with rfl | rfl | rfl <;> exact ⟨by simp only; omega, by simp only; omega⟩)
    have hSt := Lib.hid (show Go.Proofs.YteejldddgogbkaaDoor.Src scF (scC db (db + 2)) (scanK db (db + 2) (db + 1) false P) 0 t.bytes by rw [HT.out.bytes]; exact HSrc.out)
    obtain ⟨L, hL⟩ : ∃ L, L = fromE key R := ⟨_, rfl⟩
    have hLl : L.length ≤ 3001 := by
      have h1 := List.length_filter_le (fun x : Ent => !ltB x.key key) R
      have h2 : L.length = (R.filter fun x => !ltB x.key key).length := by rw [hL]; rfl
      have := HN.out
      omega
    have hsc : scanU t 0 key = (0, L) := by rw [scanU_zero, HT.out.scan, hL]
    have HAll := Lib.hid (all_tab p _ _ _ t 0 0 key w10 T10 (Lib.hid HT.out.fine) hSt Q10 (Lib.hid fun q hq => (HKp.out q hq).1) (by omega) (by omega) (by have := HT.out.len; rw [HT.out.bytes]; omega) (by rw [hsc]; show L.length < 100000; omega))
    rw [hsc] at HAll
    have HL := Lib.hid hL
    clear hp k10 hT10 HOp hsc hL
    go_wp2_with fail
    refine HAll.out.mono ?_
    rintro e w11 ⟨⟨a11, c11, rfl, hE11⟩, hTS, hO11⟩
    obtain ⟨nn, g1, g2, hT11⟩ := hTS.ex
    have hfb := firstB_le t key
    have hfw := HT.out.fine.few
    unfold readLo at g1
    unfold readHi at g2
    rw [if_pos rfl] at g1 g2
    have hn1 : -10000000000000000 ≤ nn := by omega
    have hn2 : nn ≤ 10000000000000000 := by omega
    have Q11 := Lib.hid hTS.keep
    have hp11 := hT11.lt
    have K11 := Lib.hid (K10.out.trans (hO11.below (fun k _ e => by have e2 : k = p := e; have := HP.out; have := S9.out; have := K9.out.size; omega) K10.out.size))
    obtain ⟨zw, hzw⟩ : ∃ zw, zw = w11.heap.size := ⟨_, rfl⟩
    obtain ⟨w12, hw12⟩ : ∃ w12, w12 = w11.alloc (.cells #[.slice a11 L.length c11] 22) := ⟨_, rfl⟩
    have b12 : Below w11.heap.size w11 w12 := by rw [hw12]; exact (Below.refl _ _).alloc (Nat.le_refl _) _
    have s12 : w12.heap.size = zw + 1 := by rw [hw12, hzw]; simp
    have V12 := Lib.hid (show Vr zw (.slice a11 L.length c11) 22 w12 by rw [hw12, hzw]; exact heap_new w11 _)
    have E12 := Lib.hid (hE11.below b12)
    have NP := Lib.hid (show NotIn a11 L.length fun j => j = p ∨ zw ≤ j from by
      obtain ⟨q1, q2, q3, q4, q5, -⟩ := hT11.ex
      obtain ⟨h1, b, off, h2, h3⟩ := hE11
      rcases Nat.eq_zero_or_pos L.length with h0 | h0
      · exact .inl h0
      · refine .inr fun b' off' ha hb => ?_
        have ha' := h2.resolve_left (by omega)
        rw [ha] at ha'
        injection ha' with ha'
        injection ha' with e1 e2
        subst e1
        have hc := h3 0 (by omega)
        rcases hb with hb | hb
        · have h4 := hc.c0
          rw [hb] at h4
          simp only [World.cell?, q5] at h4
          have h5 : (#[srcV scF (scC db (db + 2)), Value.slice q1 t.index.length q2, Value.pointer (some ⟨q3, 0, none⟩), Value.int .i64 (t.count : Int), Value.int .i64 nn])[off + 0 * 3]? = some (.string (bs L[0].key)) := by simpa using h4
          have h6 := Array.mem_of_getElem? h5
          simp [srcV] at h6
        · have := hc.lt
          omega)
    have T12 := Lib.hid (hT11.below b12)
    have Q12 := Lib.hid (Q11.out.below b12)
    have K12 := Lib.hid (K11.out.trans (b12.mono K11.out.size))
    have D12 := Lib.hid (show Vr db (.bool false) 4 w12 from Q12.out (db, _) (by simp [scanK]))
    have d0 := D12.out.cell
    have df := D12.out.free
    have HP2 := Lib.hid (show p < zw by omega)
    have S12 := Lib.hid s12
    have HW12 := Lib.hid hw12
    obtain ⟨zn, hzn⟩ : ∃ zn, zn = w12.heap.size := ⟨_, rfl⟩
    obtain ⟨w13, hw13⟩ : ∃ w13, w13 = w12.setCell ⟨db, 0, none⟩ (.bool broken) := ⟨_, rfl⟩
    obtain ⟨w14, hw14⟩ : ∃ w14, w14 = w13.alloc (.cells #[.int .i64 0] 3) := ⟨_, rfl⟩
    obtain ⟨w15, hw15⟩ : ∃ w15, w15 = w14.alloc (.cells #[.int .i64 0] 27) := ⟨_, rfl⟩
    obtain ⟨w16, hw16⟩ : ∃ w16, w16 = (w15.alloc (.cells #[.pointer (some ⟨p, 0, none⟩)] 30)).alloc (.cells #[.string (bs key)] 9) := ⟨_, rfl⟩
    have s13 : w13.heap.size = zn := by rw [hw13, hzn]; simp
    have s14 : w14.heap.size = zn + 1 := by rw [hw14]; simp [s13]
    have s15 : w15.heap.size = zn + 2 := by rw [hw15]; simp [s14]
    have s16 : w16.heap.size = zn + 4 := by rw [hw16]; simp [s15]
    have hzz : zn = zw + 1 := by rw [hzn, s12]
    have HSC := Lib.hid (scan_run p key w15)
    have HW16 := Lib.hid hw16
    have HW15 := Lib.hid (show w15 = ((w12.setCell ⟨db, 0, none⟩ (.bool broken)).alloc (.cells #[.int .i64 0] 3)).alloc (.cells #[.int .i64 0] 27) by rw [hw15, hw14, hw13])
    have HZW := Lib.hid hzw
    have HZN := Lib.hid hzn
    have HZZ := Lib.hid hzz
    have S15 := Lib.hid s15
    have S16 := Lib.hid s16
    -- what stands at w16
    have b14 : Below w13.heap.size w13 w14 := by rw [hw14]; exact (Below.refl _ _).alloc (Nat.le_refl _) _
    have b15 : Below w14.heap.size w14 w15 := by rw [hw15]; exact (Below.refl _ _).alloc (Nat.le_refl _) _
    have b16 : Below w15.heap.size w15 w16 := by rw [hw16]; exact ((Below.refl _ _).alloc (Nat.le_refl _) _).alloc (by simp) _
    have b136 : Below w13.heap.size w13 w16 := b14.trans ((b15.trans (b16.mono b15.size)).mono b14.size)
    have o13 : Only (fun j => j = db) w12 w13 := by rw [hw13]; exact (Only.refl (fun j => j = db) w12).setCell (p := ⟨db, 0, none⟩) (.inl rfl) _
    have o16 := Lib.hid (o13.trans (Only.of_below' b136 rfl))
    have D16 := Lib.hid ((show Vr db (.bool broken) 4 w13 by rw [hw13]; exact D12.out.put _).below b136)
    have N16 := Lib.hid (show Vr zn (.int .i64 0) 3 w16 from ((show Vr zn (.int .i64 0) 3 w14 by rw [hw14, ← s13]; exact heap_new w13 _).below b15).below b16)
    have M16 := Lib.hid (show Vr (zn + 1) (.int .i64 0) 27 w16 from (show Vr (zn + 1) (.int .i64 0) 27 w15 by rw [hw15, ← s14]; exact heap_new w14 _).below b16)
    have T16 := Lib.hid (show TabM p (srcV scF (scC db (db + 2))) nn t w16 from (T12.out.flag (by simp [srcV]) D12.out fun j hj => by rw [hw13]; exact heap_set_other hj _).below b136)
    have B16 := Lib.hid (show BxP (zn + 2) p w16 by
      rw [hw16, ← s15]
      exact (Below.heap_alloc _ _ _ (by simp)).trans (heap_new w15 _))
    have C16 := Lib.hid (show Bx (zn + 3) key w16 by
      have h := heap_new (w15.alloc (.cells #[.pointer (some ⟨p, 0, none⟩)] 30)) (.cells #[.string (bs key)] 9)
      rw [show (w15.alloc (.cells #[.pointer (some ⟨p, 0, none⟩)] 30)).heap.size = zn + 3 by simp [s15]] at h
      rw [hw16]; exact h)
    have hd3 := HP.out
    have V16 := Lib.hid (V12.out.only o16.out fun h => by omega)
    have E16 := Lib.hid (E12.out.beside D12.out (by simp) fun j hj hne => o16.out.block j hj hne)
    have hdB := Lib.hid (show B + 2 ≤ db by rw [HDB.out, ← S2.out]; exact K6.out.size)
    have L16 := Lib.hid ((L2.out.below K12.out).only o16.out fun h => by have := hdB.out; omega)
    have Z16 := Lib.hid ((Z2.out.below K12.out).only o16.out fun h => by have := hdB.out; omega)
    have Q16 := Lib.hid (show Keep (scanK db (db + 2) (db + 1) broken P) w16 from fun q hq => by
      simp only [scanK, List.mem_cons, List.not_mem_nil, or_false] at hq
      rcases hq with rfl | rfl | rfl
      · exact D16.out
      · have h := Q12.out (db + 2, .cells #[overV (db + 1)] 34 (0, 0)) (by simp [scanK])
        exact (o16.out.block _ (heap_lt h) (by simp)).trans h
      · have h := Q12.out (db + 1, .cells #[.string (bs P)] 9 (0, 0)) (by simp [scanK])
        exact (o16.out.block _ (heap_lt h) (by simp)).trans h)
    have K16 := Lib.hid (show Below B w w16 from (KB.out.trans (K12.out.mono (by have := S2.out; omega))).trans (o16.out.below (fun j _ hj => by have := hdB.out; omega) (by have := K12.out.size; have := S2.out; omega)))
    clear hzw hw12 hzn hw13 hw14 hw15 hw16 s12 s13 s14 s15 s16 hzz b12 b14 b15 b16 b136 o13 hE11 hTS hO11 g1 g2 hfb hfw hT11
    go_upto_region 11 with (fail)
    rw [← HW12.out, ← HZW.out]
    go_upto_region 14 with (fail)
    rw [← HW15.out, ← HZN.out]
    go_wp2_with fail
    refine HSC.out.mono ?_
    rintro en wz ⟨rfl, hwz⟩
    rw [← HW16.out] at hwz
    obtain rfl : w16 = wz := hwz.symm
    rw [S15.out]
    go_wp2_with fail
    obtain ⟨e, l, hel⟩ : ∃ e l, scanU t (if broken then 8 else 0) key = (e, l) := ⟨_, _, rfl⟩
    have HU := Lib.hid hel
    have HSD := Lib.hid (scan_down HT.out (by omega) key broken hel)
    rw [← HL.out] at HSD
    have hlL : l.length ≤ L.length := by
      rcases HSD.out with ⟨-, h, -⟩ | ⟨-, h, -⟩
      · rw [h]; exact Nat.le_refl _
      · rw [h]; exact Nat.zero_le _
    have hlx := Lib.hid (show ∀ (k : Nat) (x : Ent), l[k]? = some x → L[k]? = some x from fun k x hx => by
      rcases HSD.out with ⟨-, h, -⟩ | ⟨-, h, -⟩
      · rw [h] at hx; exact hx
      · rw [h] at hx; simp at hx)
    obtain ⟨nl, hnl⟩ : ∃ nl, nl = l.length := ⟨_, rfl⟩
    have HNL := Lib.hid hnl
    have HLL := Lib.hid (show nl ≤ 3001 ∧ nl ≤ L.length ∧ L.length ≤ 3001 by omega)
    clear hel hlL hnl
    have HON := Lib.hid (show ∀ (q last : Int) (A C : World) (S : Nat → Prop), ScI w a11 c11 B zw zn L leave q last A → Only S A C → (∀ j, S j → j = p ∨ zn + 4 ≤ j) → ScI w a11 c11 B zw zn L leave q last C from fun q last A C S hA hAC hS => by
      have h1 := HP2.out
      have h2 := HZZ.out
      have h3 := HP.out
      have h4 := hdB.out
      refine hA.only hAC (fun h => ?_) ?_ (fun h => ?_) (fun h => ?_) (fun j hj => ?_)
      · have := hS _ h; omega
      · rcases NP.out with h | h
        · exact .inl h
        · refine .inr fun b off hb hh => h b off hb ?_
          have := hS _ hh
          show b = p ∨ zw ≤ b
          omega
      · have := hS _ h; omega
      · have := hS _ h; omega
      · have := hS _ hj; omega)
    have HSTP := Lib.hid (scan_stops (5 - 1) p scF (scC db (db + 2)) (scanK db (db + 2) (db + 1) broken P) t (if broken then 8 else 0) nn key (zn + 2) (zn + 3) w16.heap.size (fun j => j = zn ∨ j = zn + 1) l e HU (Lib.hid HT.out.fine)
      (Lib.hid (show Go.Proofs.YteejldddgogbkaaDoor.Src scF (scC db (db + 2)) (scanK db (db + 2) (db + 1) broken P) (if broken then 8 else 0) t.bytes by rw [HT.out.bytes]; exact scan_src db (db + 2) (db + 1) broken P (by have := HT.out.len; omega)))
      (Lib.hid fun q hq => by
        simp only [scanK, List.mem_cons, List.not_mem_nil, or_false] at hq
        have h1 := HP.out
        have h2 := HP2.out
        have h3 := HZZ.out
        have h4 := S16.out
        rcases hq with rfl | rfl | rfl <;> exact ⟨by simp only; omega, by simp only; omega⟩)
      (Lib.hid fun j hj => by
        have h2 := HP2.out
        have h3 := HZZ.out
        have h4 := S16.out
        refine ⟨by omega, by omega, fun q hq => ?_⟩
        simp only [scanK, List.mem_cons, List.not_mem_nil, or_false] at hq
        have h1 := HP.out
        rcases hq with rfl | rfl | rfl <;> (simp only; omega))
      (by have := HP2.out; have := HZZ.out; have := S16.out; omega) hn1 hn2 (by have := HT.out.len; rw [HT.out.bytes]; omega))
    have FIN := Lib.hid (show ∀ (D : Nat) (W : World), w16.heap.size ≤ D → Vr (B + 1) (.bool false) 4 W → Below B w W → W.heap[D]? = some (.deferred (some [])) → ∀ (t : Act), t.defers = [{ target := .collected D, args := #[] }] → t.tmps[10]? = some (.pointer (some ⟨B + 1, 0, none⟩)) →
        bodyPostM Fence.wide 5 Tryd.prog Tryd.f5 (fun en w' => en = .returned (.bool true) ∧ Below B w w') .ret t (W.setCell ⟨B + 1, 0, none⟩ (.bool true)) from fun D W hD hz hb hK t ht ht4 => by
      obtain ⟨tm, td⟩ := t
      subst ht
      simp only at ht4
      have hDB : B + 1 < D := by have := S16.out; have := HZZ.out; have := HP2.out; have := HP.out; have := hdB.out; omega
      have hK' : (W.setCell ⟨B + 1, 0, none⟩ (.bool true)).heap[D]? = some (.deferred (some [])) := (heap_set_other (by omega) _).trans hK
      have hc5 := cell_kept (hz.put (.bool true)).cell (grownBy_putObj' _ D (.deferred none)) (fun r e => by cases e; exact ⟨_, hK', rfl⟩)
      refine ⟨by simp, .inl ⟨_, _, rfl, run_takeDeferred hK', ?_⟩⟩
      refine ⟨.bool true, ?_, rfl, (hb.setCell (p := ⟨B + 1, 0, none⟩) (by simp) _).grown (grownBy_putObj' _ D (.deferred none)) (by have := hb.size; have := HB.out; simp; omega) (fun k e => by cases e; omega)⟩
      simp [results, Tryd.f5, go_sem, ht4, hc5])
    refine (wpIn_wide (n := 5)).1 ?_
    refine wpIn_rangeFunc_sc (α := Ent × Int) (n := 5) (by omega) (gf := 41) (lb := #[.pointer (some ⟨zn + 2, 0, none⟩), .pointer (some ⟨zn + 2 + 1, 0, none⟩)]) rfl (enters_of Tryd.func41 (by kernel_rfl) rfl)
      HSTP.out (fun k hk => by have h1 := HP2.out; have h2 := HZZ.out; have h3 := S16.out; show k < w16.heap.size; omega) (fun k hk => by have h3 := S16.out; omega)
      (fun A C hA hAC j hj => by obtain ⟨u, ty, hu⟩ := hA j hj; exact ⟨u, ty, (hAC.block j (heap_lt hu) (fun h => h hj)).trans hu⟩)
      (fun A C hA hAC => by
        have h1 := HP2.out
        have h2 := HZZ.out
        have h3 := S16.out
        have h5 := HP.out
        obtain ⟨qa, qc, fb', fg, q1, q2, q3, q4, q5⟩ := hA.tab.ex
        refine ⟨⟨qa, qc, fb', fg, (hAC.block p (heap_lt q1) (by omega)).trans q1, q2.keep fun j hj hj2 => hAC.block j hj2 (by omega), q3.blocks (hAC.block fb' q3.lt (by omega)) (hAC.block fg q3.row.1 (by omega)), q4, q5⟩, hA.keep.only hAC fun q hq => ?_, (hAC.block _ (heap_lt hA.tb) (by omega)).trans hA.tb, (hAC.block _ (heap_lt hA.kb) (by omega)).trans hA.kb⟩
        simp only [scanK, List.mem_cons, List.not_mem_nil, or_false] at hq
        rcases hq with rfl | rfl | rfl <;> (simp only; omega)) (fun _ => rfl)
      (fun pre W => ∃ k, pre = (yields l e).take k ∧ k ≤ (yields l e).length ∧ ScI w a11 c11 B zw zn L leave (if k ≤ nl then (k : Int) else -1) (if k ≤ nl then 0 else e) W ∧ ¬ (1 ≤ leave ∧ leave ≤ (min k nl : Nat)))
      (fun cd pre W => cd = .exit 0 ∧ ∃ k : Nat, leave = (k : Int) ∧ 1 ≤ k ∧ k ≤ nl ∧ ScI w a11 c11 B zw zn L leave k 0 W)
      (fun pre A C ⟨k, h1, h2, h3, h4⟩ hAC => ⟨k, h1, h2, HON.out _ _ _ _ _ h3 hAC fun j hj => hj.imp id fun h => by rw [S16.out] at h; exact h, h4⟩)
      (fun cd pre A C ⟨h0, k, h1, h2, h3, h4⟩ hAC => ⟨h0, k, h1, h2, h3, HON.out _ _ _ _ _ h4 hAC fun j hj => .inr (by rw [S16.out] at hj; exact hj)⟩)
      ⟨0, rfl, Nat.zero_le _, by rw [if_pos (Nat.zero_le _), if_pos (Nat.zero_le _)]; exact ⟨V16.out, E16.out, N16.out, M16.out, Z16.out, L16.out, K16.out⟩, by rw [Nat.zero_min]; omega⟩
      (fun j hj => by rcases hj with rfl | rfl; exact ⟨_, _, N16.out⟩; exact ⟨_, _, M16.out⟩) ⟨T16.out, Q16.out, B16.out, C16.out⟩
      (fun x a' W => ∃ z, a' = scanAct a4 a11 a n c4 len cap c11 L.length m en B db p zw zn z P key leave broken x ∧ C3 z 38 (.string (bs x.1.key)) (.string (bs x.1.val)) (.bool x.1.gone) W)
      (fun x a' A C ⟨z, h1, h2⟩ hk => ⟨z, h1, hk _ _ h2 rfl⟩) ?assign ?body ?done ?stop
    case assign =>
      intro lp x W K hK
      simp only [encY]
      gi_wp2
      refine hK _ _ ⟨W.heap.size, rfl, ?_⟩ ?_ ?_
      · exact heap_new W _
      · exact (Only.refl _ W).alloc _
      · exact (KeepsOthers.alloc W _).from _
    case body =>
      rintro lp pre x a' W ⟨k, rfl, hk, hI, hlv⟩ hC hx ⟨z, rfl, hX⟩
      have hlen : ((yields l e).take k).length = k := by rw [List.length_take]; omega
      rw [hlen] at hx
      have hkt : (yields l e).take k ++ [x] = (yields l e).take (k + 1) := by rw [List.take_add_one, hx]; rfl
      have hk1 : k + 1 ≤ (yields l e).length := (List.getElem?_eq_some_iff.1 hx).1
      have hyl : (yields l e).length = nl + (if e = 0 then 0 else 1) := by unfold yields; rw [HNL.out]; split <;> simp
      rw [hkt]
      have HKT := Lib.hid hkt
      have HK1 := Lib.hid hk1
      have HX := Lib.hid hX
      have HLV := Lib.hid hlv
      have HORD := Lib.hid (show B + 2 ≤ db ∧ db + 3 ≤ p ∧ p < zw ∧ zn = zw + 1 ∧ w16.heap.size = zn + 4 from ⟨hdB.out, HP.out, HP2.out, HZZ.out, S16.out⟩)
      have hzd1 : z ≠ zn := fun hh => by
        have h1 := hX
        have h2 := hI.n
        unfold C3 at h1
        unfold Vr at h2
        rw [hh, h2] at h1
        cases h1
      have hzd2 : z ≠ zn + 1 := fun hh => by
        have h1 := hX
        have h2 := hI.la
        unfold C3 at h1
        unfold Vr at h2
        rw [hh, h2] at h1
        cases h1
      have HZD := Lib.hid (And.intro hzd1 hzd2)
      clear hzd1 hzd2
      have HON2 := Lib.hid (show ∀ j, (fun j => j = zn ∨ j = zn + 1) j → j < w16.heap.size ∧ (fun j => j = zn ∨ j = zn + 1) j from fun j hj => ⟨by have := HORD.out; rcases hj with h | h <;> omega, hj⟩)
      have HSK := Lib.hid (show ∀ (W W' : World) (q last : Int) (q' last' : Int), ScI w a11 c11 B zw zn L leave q last W → Only (fun j => j = zn ∨ j = zn + 1) W W' → Vr zn (.int .i64 q') 3 W' → Vr (zn + 1) (.int .i64 last') 27 W' → ScI w a11 c11 B zw zn L leave q' last' W' from fun W W' q last q' last' h o hn hl => by
        have hh := HORD.out
        refine ⟨h.s.only o fun g => by omega, h.l.only o ?_, hn, hl, h.z.only o fun g => by omega, h.lv.only o fun g => by omega, h.bel.trans (o.below (fun j _ hj => by omega) (by have := heap_lt h.z; omega))⟩
        rcases NP.out with h | h
        · exact .inl h
        · exact .inr fun b off hb g => h b off hb (show b = p ∨ zw ≤ b by omega))
      unfold scanAct
      clear hlen hkt hk hC hX hlv
      rcases Nat.lt_or_ge k nl with hkm | hkm
      · obtain ⟨y, hy⟩ : ∃ y, l[k]? = some y := ⟨_, List.getElem?_eq_getElem (by rw [← HNL.out]; exact hkm)⟩
        obtain rfl : x = (y, 0) := by rw [yields_at hy] at hx; injection hx with hx; exact hx.symm
        rw [if_pos (Nat.le_of_lt hkm), if_pos (Nat.le_of_lt hkm)] at hI
        obtain ⟨W1, hW1⟩ : ∃ W1, W1 = W.setCell ⟨zn + 1, 0, none⟩ (.int .i64 0) := ⟨_, rfl⟩
        have o1 : Only (fun j => j = zn ∨ j = zn + 1) W W1 := by rw [hW1]; exact (Only.refl (fun j => j = zn ∨ j = zn + 1) W).setCell (p := ⟨zn + 1, 0, none⟩) (.inl (.inr rfl)) _
        have la0 := hI.la.cell
        have laf := hI.la.free
        have N1 := Lib.hid (show Vr zn (.int .i64 k) 3 W1 by rw [hW1]; exact (heap_set_other (by omega) _).trans hI.n)
        have A1 := Lib.hid (show Vr (zn + 1) (.int .i64 0) 27 W1 by rw [hW1]; exact hI.la.put _)
        have I1 := Lib.hid (HSK.out _ _ _ _ _ _ hI o1 N1.out A1.out)
        have X1 := Lib.hid (HX.out.only9 o1 fun h => by have := HZD.out; omega)
        have O1 := Lib.hid o1
        have HW1 := Lib.hid hW1
        have hkL : k < L.length := by have := HLL.out; omega
        obtain ⟨g, off, y', ha7, hy', -, hc⟩ := I1.out.l.at hkL
        rw [hlx.out k y hy] at hy'
        injection hy' with hy'
        subst hy'
        have hsame := ent_same (bs y.key) (bs y.val) y.gone
        clear hI o1 hW1 hx hy
        simp only at X1
        gi_wp2
        rw [← HW1.out]
        have nN : ∀ n : Seen W1, n.val.cell? ⟨zn, 0, none⟩ = some (.int .i64 k) := fun n => by rw [n.below.cell (cell_block N1.out.cell)]; exact N1.out.cell
        have nP : ∀ n : Seen W1, n.val.cell? ⟨zw, 0, none⟩ = some (.slice (some ⟨g, off, none⟩) L.length c11) := fun n => by rw [n.below.cell (cell_block I1.out.s.cell), I1.out.s.cell, ha7]
        have nX0 : ∀ n : Seen W1, n.val.cell? ⟨z, 0, none⟩ = some (.string (bs y.key)) := fun n => by rw [n.below.cell (cell_block X1.out.c0)]; exact X1.out.c0
        have nX1 : ∀ n : Seen W1, n.val.cell? ⟨z, 1, none⟩ = some (.string (bs y.val)) := fun n => by rw [n.below.cell (cell_block X1.out.c1)]; exact X1.out.c1
        have nX2 : ∀ n : Seen W1, n.val.cell? ⟨z, 2, none⟩ = some (.bool y.gone) := fun n => by rw [n.below.cell (cell_block X1.out.c2)]; exact X1.out.c2
        have nE0 : ∀ n : Seen W1, n.val.cell? ⟨g, off + k * 3, none⟩ = some (.string (bs y.key)) := fun n => by rw [n.below.cell (cell_block hc.c0)]; exact hc.c0
        have nE1 : ∀ n : Seen W1, n.val.cell? ⟨g, off + k * 3 + 1, none⟩ = some (.string (bs y.val)) := fun n => by rw [n.below.cell (cell_block hc.c1)]; exact hc.c1
        have nE2 : ∀ n : Seen W1, n.val.cell? ⟨g, off + k * 3 + 2, none⟩ = some (.bool y.gone) := fun n => by rw [n.below.cell (cell_block hc.c2)]; exact hc.c2
        have hkmI : ((L.length : Int) ≤ (k : Int)) = False := by simp; omega
        have hk0I : ((k : Int) < 0) = False := by simp
        refine wpIn_round_seen_tail 15 (by kernel_rfl) (by kernel_rfl) (by kernel_rfl) ?_
        simp only [List.take_succ_cons, List.take_zero, List.drop_succ_cons, List.drop_zero]
        repeat go_big_quiet_step (fail)
        refine wpQuiet_nil ?_
        rintro _ ⟨m1, rfl⟩
        have b1 := Lib.hid m1.below
        have o1 : Only (fun j => j = zn ∨ j = zn + 1) W1 m1.val := Only.of_below' b1.out rfl
        obtain ⟨W2, hW2⟩ : ∃ W2, W2 = m1.val.setCell ⟨zn, 0, none⟩ (.int .i64 (k + 1)) := ⟨_, rfl⟩
        have n0 := nN m1
        have nf : m1.val.frozen? ⟨zn, 0, none⟩ = false := by rw [Below.frozen b1.out (cell_block N1.out.cell)]; exact N1.out.free
        have o2 : Only (fun j => j = zn ∨ j = zn + 1) W1 W2 := by rw [hW2]; exact o1.setCell (p := ⟨zn, 0, none⟩) (.inl (.inl rfl)) _
        have v1 : m1.val.cell? ⟨B, 0, none⟩ = some (.int .i64 leave) := by rw [b1.out.cell (cell_block I1.out.lv.cell)]; exact I1.out.lv.cell
        have v2 : (m1.val.setCell ⟨zn, 0, none⟩ (.int .i64 ((k : Int) + 1))).cell? ⟨B, 0, none⟩ = some (.int .i64 leave) := (World.cell?_setCell_other _ _ _ _ (by intro h; injection h with h; have := HORD.out; omega)).trans v1
        have hOW := Lib.hid (O1.out.trans o2)
        have hkf := Lib.hid (show KeepsFrom w16.heap.size W W2 from keepsFrom_of_only (hOW.out.mono fun j _ hj => HON2.out j hj))
        have N2 := Lib.hid (show Vr zn (.int .i64 ((k : Int) + 1)) 3 W2 by rw [hW2]; exact (show Vr zn (.int .i64 k) 3 m1.val from (b1.out.block zn (heap_lt N1.out)).trans N1.out).put _)
        have A2 := Lib.hid (show Vr (zn + 1) (.int .i64 0) 27 W2 by rw [hW2]; exact (heap_set_other (by omega) _).trans ((b1.out.block (zn + 1) (heap_lt A1.out)).trans A1.out))
        have hRI := Lib.hid (HSK.out _ _ _ _ _ _ I1.out o2 N2.out A2.out)
        have hIN := Lib.hid (show IntsAt (fun j => j = zn ∨ j = zn + 1) W2 from fun j hj => by rcases hj with rfl | rfl; exact ⟨_, _, N2.out⟩; exact ⟨_, _, A2.out⟩)
        by_cases hle : leave = ((k + 1 : Nat) : Int)
        · have hle3 : ((k : Int) + 1 == leave) = true := by simp; omega
          gi_wp2
          rw [← hW2]
          exact ⟨hkf.out, rfl, k + 1, hle, by omega, hkm, hRI.out⟩
        · have hle3 : ((k : Int) + 1 == leave) = false := by simp; omega
          gi_wp2
          rw [← hW2]
          refine ⟨hkf.out, hOW.out, hIN.out, k + 1, rfl, HK1.out, ?_, ?_⟩
          · rw [if_pos (show k + 1 ≤ nl from hkm), if_pos (show k + 1 ≤ nl from hkm)]; exact hRI.out
          · have := HLV.out
            rw [Nat.min_eq_left (Nat.le_of_lt hkm)] at this
            rw [Nat.min_eq_left (show k + 1 ≤ nl from hkm)]
            omega
      · have he0 : e ≠ 0 := fun h => by
          have := HK1.out
          rw [hyl, if_pos h] at this
          omega
        obtain rfl : k = nl := by
          have := HK1.out
          rw [hyl, if_neg he0] at this
          omega
        obtain rfl : x = (noEn, e) := by
          have h1 := yields_end (l := l) he0
          rw [← HNL.out, hx] at h1
          injection h1
        rw [if_pos (Nat.le_refl _), if_pos (Nat.le_refl _)] at hI
        obtain ⟨W1, hW1⟩ : ∃ W1, W1 = W.setCell ⟨zn + 1, 0, none⟩ (.int .i64 e) := ⟨_, rfl⟩
        obtain ⟨W2, hW2⟩ : ∃ W2, W2 = W1.setCell ⟨zn, 0, none⟩ (.int .i64 (-1)) := ⟨_, rfl⟩
        have o1 : Only (fun j => j = zn ∨ j = zn + 1) W W1 := by rw [hW1]; exact (Only.refl (fun j => j = zn ∨ j = zn + 1) W).setCell (p := ⟨zn + 1, 0, none⟩) (.inl (.inr rfl)) _
        have o2 : Only (fun j => j = zn ∨ j = zn + 1) W W2 := by rw [hW2]; exact o1.setCell (p := ⟨zn, 0, none⟩) (.inl (.inl rfl)) _
        have la0 := hI.la.cell
        have laf := hI.la.free
        have h1e : (e == 0) = false := by simpa using he0
        have h2e : (e != 0) = true := by simpa using he0
        have X1 := Lib.hid (HX.out.only9 o1 fun h => by have := HZD.out; omega)
        have N1 := Lib.hid (show Vr zn (.int .i64 k) 3 W1 by rw [hW1]; exact (heap_set_other (by omega) _).trans hI.n)
        have N2 := Lib.hid (show Vr zn (.int .i64 (-1)) 3 W2 by rw [hW2]; exact N1.out.put _)
        have A2 := Lib.hid (show Vr (zn + 1) (.int .i64 e) 27 W2 by rw [hW2, hW1]; exact (heap_set_other (by omega) _).trans (hI.la.put _))
        have hRI := Lib.hid (HSK.out _ _ _ _ _ _ hI o2 N2.out A2.out)
        have hIN := Lib.hid (show IntsAt (fun j => j = zn ∨ j = zn + 1) W2 from fun j hj => by rcases hj with rfl | rfl; exact ⟨_, _, N2.out⟩; exact ⟨_, _, A2.out⟩)
        have hkf := Lib.hid (show KeepsFrom w16.heap.size W W2 from keepsFrom_of_only (o2.mono fun j _ hj => HON2.out j hj))
        have HO2 := Lib.hid o2
        have x0 : W1.cell? ⟨z, 0, none⟩ = some (.string ⟨#[]⟩) := X1.out.c0
        have x1 : W1.cell? ⟨z, 1, none⟩ = some (.string ⟨#[]⟩) := X1.out.c1
        have x2 : W1.cell? ⟨z, 2, none⟩ = some (.bool false) := X1.out.c2
        have n0 := N1.out.cell
        have nf := N1.out.free
        rw [hW1] at x0 x1 x2 n0 nf
        have hsame := ent_same ⟨#[]⟩ ⟨#[]⟩ false
        have HWW := Lib.hid (show W2 = (W.setCell ⟨zn + 1, 0, none⟩ (.int .i64 e)).setCell ⟨zn, 0, none⟩ (.int .i64 (-1)) by rw [hW2, hW1])
        clear hI hx o1 o2 hW1 hW2
        simp only at X1
        gi_wp2
        rw [← HWW.out]
        refine ⟨hkf.out, HO2.out, hIN.out, k + 1, rfl, Nat.le_refl _, ?_, fun h => ?_⟩
        · rw [if_neg (by omega), if_neg (by omega)]; exact hRI.out
        · have h2 := HLV.out
          rw [Nat.min_self] at h2
          rw [Nat.min_eq_right (Nat.le_succ k)]
          omega
    case done =>
      rintro D W hD ⟨k, hpre, hk, hI, hlv⟩ hK
      have hyl : (yields l e).length = nl + (if e = 0 then 0 else 1) := by unfold yields; rw [HNL.out]; split <;> simp
      obtain rfl : k = (yields l e).length := by
        have h1 := congrArg List.length hpre
        rw [List.length_take] at h1
        omega
      have v0 := hI.lv.cell
      have p0 := hI.s.cell
      have z0 := hI.z.cell
      have zf := hI.z.free
      rcases HSD.out with ⟨he0, hl0, hbr⟩ | ⟨he8, hl0, hbr, hRn⟩
      · have hnL : nl = L.length := by rw [HNL.out, hl0]
        rw [hyl, if_pos he0, Nat.add_zero, if_pos (Nat.le_refl _), if_pos (Nat.le_refl _)] at hI
        have n0 := hI.n.cell
        have l0 := hI.la.cell
        have HI := Lib.hid hI
        rw [hnL] at n0
        have hn0 : broken = true → n = 0 := fun h => by rw [HN.out, hbr h]; rfl
        clear hI hpre hk hlv hyl hbr
        cases broken with
        | false =>
          by_cases hml : ((L.length : Int) == leave) = true
          · gi_wp2
            go_wp2_with fail
            exact FIN.out D W hD HI.out.z HI.out.bel hK _ rfl rfl
          · have hml2 : ((L.length : Int) == leave) = false := Bool.eq_false_iff.2 hml
            gi_wp2
            go_wp2_with fail
            exact FIN.out D W hD HI.out.z HI.out.bel hK _ rfl rfl
        | true =>
          have hn00 := hn0 rfl
          have hn3 : ((n : Int) > 0) = False := by simp; omega
          by_cases hml : ((L.length : Int) == leave) = true
          · gi_wp2
            go_wp2_with fail
            exact FIN.out D W hD HI.out.z HI.out.bel hK _ rfl rfl
          · have hml2 : ((L.length : Int) == leave) = false := Bool.eq_false_iff.2 hml
            gi_wp2
            go_wp2_with fail
            exact FIN.out D W hD HI.out.z HI.out.bel hK _ rfl rfl
      · have hn0 : nl = 0 := by rw [HNL.out, hl0]; rfl
        have hyl2 : (yields l e).length = 1 := by rw [hyl, if_neg (by rw [he8]; decide), hn0]
        rw [hyl2, hn0, if_neg (by decide), if_neg (by decide), he8] at hI
        have n0 := hI.n.cell
        have l0 := hI.la.cell
        have HI := Lib.hid hI
        have hnp : 0 < n := by rw [HN.out]; exact List.length_pos_iff.2 hRn
        have hn3 : ((n : Int) > 0) = True := by simp; omega
        clear hI hpre hk hlv hyl
        subst hbr
        gi_wp2
        go_wp2_with fail
        exact FIN.out D W hD HI.out.z HI.out.bel hK _ rfl rfl
    case stop =>
      rintro D cd pre W hD ⟨rfl, k, rfl, hk1, hkm, hI⟩ hK
      obtain ⟨hl0, hbr⟩ : l = L ∧ broken = false := by
        rcases HSD.out with ⟨he0, hl0, hbr⟩ | ⟨he8, hl0, hbr, hRn⟩
        · refine ⟨hl0, ?_⟩
          cases hb : broken with
          | false => rfl
          | true =>
            have h1 := hbr hb
            have h2 := HL.out
            rw [h1] at h2
            have h3 : L = [] := h2
            rw [hl0, h3] at HNL
            have := HNL.out
            simp only [List.length_nil] at this
            omega
        · have := HNL.out
          rw [hl0] at this
          simp only [List.length_nil] at this
          omega
      have n0 := hI.n.cell
      have l0 := hI.la.cell
      have v0 := hI.lv.cell
      have p0 := hI.s.cell
      have z0 := hI.z.cell
      have zf := hI.z.free
      have HI := Lib.hid hI
      clear hI
      subst hbr
      gi_wp2
      go_wp2_with fail
      exact FIN.out D W hD HI.out.z HI.out.bel hK _ rfl rfl
end Go.Proofs.YteejldddgogbkaaDoor
