/- Texts put together: ManTake, ManUnpack -/
import Derived.Test.YtgljjdldhnajdaaGreatMPac06
import Derived.Test.YtgljjdldhnajdaaGreatMPac17
import Derived.Test.YtgljjdldhnajdaaGreatMPac01
/- An edit gone over: the program's take. -/
set_option linter.unusedVariables false
set_option maxRecDepth 100000
namespace Go.Proofs.YtgljjdldhnajdaaGreat
open Go.RowKit

theorem EdAt.cc {eb : Nat} {x : Ed} {w : World} (h : EdAt eb x w) : w.cell? ⟨eb, 0, none⟩ = some (.int .i64 x.kind) ∧ w.cell? ⟨eb, 1, none⟩ = some (.int .i64 x.file) ∧ w.cell? ⟨eb, 2, none⟩ = some (.int .i64 x.lev) ∧ w.cell? ⟨eb, 3, none⟩ = some (.int .i64 x.cnt) ∧ w.cell? ⟨eb, 4, none⟩ = some (.string (bs x.low)) ∧ w.cell? ⟨eb, 5, none⟩ = some (.string (bs x.high)) := by
  unfold EdAt at h
  simp [World.cell?, h]
theorem EdAt.free {eb : Nat} {x : Ed} {w : World} (h : EdAt eb x w) (j : Nat) : w.frozen? ⟨eb, j, none⟩ = false := by unfold EdAt at h; simp [World.frozen?, h]
theorem EdAt.only {eb : Nat} {x : Ed} {w w' : World} {S : Nat → Prop} (h : EdAt eb x w) (k : Only S w w') (hS : ¬ S eb) : EdAt eb x w' := (k.block eb (heap_lt h) hS).trans h
theorem EdAt.range {eb : Nat} {x : Ed} {w : World} (h : EdAt eb x w) : w.rangeAt eb 0 (ecell x) := fun j v hj => by
  obtain ⟨e0, e1, e2, e3, e4, e5⟩ := h.cc
  match j, hj with
  | 0, hj => cases hj; exact e0
  | 1, hj => cases hj; exact e1
  | 2, hj => cases hj; exact e2
  | 3, hj => cases hj; exact e3
  | 4, hj => cases hj; exact e4
  | 5, hj => cases hj; exact e5
  | n + 6, hj => cases hj
theorem sizeEd : (Tryz.prog.info? 31).map (·.size) = some 6 := by kernel_rfl
theorem results_ed2 {fn : Func} {p u : Tmp} (h : fn.results = #[.cell p 31, .tmp u]) (tmps : Array Value) (w : World) (b : Nat) (x : Ed) (z : Value) (hp : tmps.getD p undef = .pointer (some ⟨b, 0, none⟩)) (hx : tmps.getD u undef = z) (hc : EdAt b x w) :
    (results fn tmps).run Tryz.prog w = .ok (.tuple #[.agg #[.int .i64 x.kind, .int .i64 x.file, .int .i64 x.lev, .int .i64 x.cnt, .string (bs x.low), .string (bs x.high)], z]) w :=
  results_cell_bool h tmps Tryz.prog w b 0 (ecell x) _ z hp hx hc.range Tryz.underlying31 rfl sizeEd
/-- All of an edit's variable written. -/
theorem EdAt.put {b : Nat} {y : Ed} {w : World} (h : EdAt b y w) (x : Ed) : EdAt b x ((((((w.setCell ⟨b, 0, none⟩ (.int .i64 x.kind)).setCell ⟨b, 1, none⟩ (.int .i64 x.file)).setCell ⟨b, 2, none⟩ (.int .i64 x.lev)).setCell ⟨b, 3, none⟩ (.int .i64 x.cnt)).setCell ⟨b, 4, none⟩ (.string (bs x.low))).setCell ⟨b, 5, none⟩ (.string (bs x.high))) := by
  have h0 := heap_set (o := 0) h (.int .i64 x.kind)
  have h1 := heap_set (o := 1) h0 (.int .i64 x.file)
  have h2 := heap_set (o := 2) h1 (.int .i64 x.lev)
  have h3 := heap_set (o := 3) h2 (.int .i64 x.cnt)
  have h4 := heap_set (o := 4) h3 (.string (bs x.low))
  have h5 := heap_set (o := 5) h4 (.string (bs x.high))
  exact h5
theorem only_put6 {S : Nat → Prop} {a w : World} {b : Nat} (h : Only S a w) (hb : S b ∨ a.heap.size ≤ b) (u0 u1 u2 u3 u4 u5 : Value) : Only S a ((((((w.setCell ⟨b, 0, none⟩ u0).setCell ⟨b, 1, none⟩ u1).setCell ⟨b, 2, none⟩ u2).setCell ⟨b, 3, none⟩ u3).setCell ⟨b, 4, none⟩ u4).setCell ⟨b, 5, none⟩ u5) :=
  (((((h.setCell (p := ⟨b, 0, none⟩) hb u0).setCell (p := ⟨b, 1, none⟩) hb u1).setCell (p := ⟨b, 2, none⟩) hb u2).setCell (p := ⟨b, 3, none⟩) hb u3).setCell (p := ⟨b, 4, none⟩) hb u4).setCell (p := ⟨b, 5, none⟩) hb u5
def noEd : Ed := ⟨0, 0, 0, 0, [], []⟩
/-- What take leaves. -/
def TakePost (r : Nat) (R : Int ⊕ (Ed × List UInt8)) (w : World) (e : Ending) (w' : World) : Prop :=
  (∃ x z, e = .returned (.tuple #[.agg #[.int .i64 x.kind, .int .i64 x.file, .int .i64 x.lev, .int .i64 x.cnt, .string (bs x.low), .string (bs x.high)], .int .i64 z]) ∧ ((R = .inl z ∧ z ≠ 0 ∧ ∃ l', Rt r (bs l') w') ∨ ∃ l', R = .inr (x, l') ∧ z = 0 ∧ Rt r (bs l') w')) ∧ Only (fun k => k = r) w w'
theorem rest_bs' (l : List UInt8) (k : Nat) : (bs l).extract k (bs l).size = bs (l.drop k) := bs_eq (extract_rest (bs l) k)
theorem read_Whole (r : Nat) (l : List UInt8) (w : World) (h : Rt r (bs l) w) (hl : l.length ≤ 1000000000000) : Calls Tryz.prog 79 #[.pointer (some ⟨r, 0, none⟩)] w fun e w' => e = .returned (.tuple #[.int .i64 (rn l), .int .i64 (re l)]) ∧ Rt r (bs (l.drop (rk l))) w' ∧ Only (fun k => k = r) w w' := by
  have := six_ReadWhole r (bs l) w h (by rw [bs_size]; unfold maxLen; omega)
  rw [bs_list, rest_bs'] at this
  exact this
theorem read_Text (r : Nat) (l : List UInt8) (w : World) (h : Rt r (bs l) w) (hl : l.length ≤ 1000000000000) : Calls Tryz.prog 80 #[.pointer (some ⟨r, 0, none⟩)] w fun e w' => e = .returned (.tuple #[.string (bs (ts l)), .int .i64 (te l)]) ∧ Rt r (bs (l.drop (tk l))) w' ∧ Only (fun k => k = r) w w' := by
  have := six_ReadText r (bs l) w h (by rw [bs_size]; unfold maxLen; omega)
  rw [bs_list, rest_bs'] at this
  exact this
theorem offs_get {k : Int} {vs : List Int} {us : List (List UInt8)} : (offsOf (mkEd k vs us)).length = numsN k ∧ ∀ j, j < numsN k → (offsOf (mkEd k vs us))[j]? = some (j + 1) := by
  unfold offsOf numsN mkEd
  simp only
  split
  · exact ⟨rfl, fun j hj => by match j, hj with | 0, _ => rfl | 1, _ => rfl | 2, _ => rfl⟩
  · split
    · exact ⟨rfl, fun j hj => by match j, hj with | 0, _ => rfl | 1, _ => rfl⟩
    · exact ⟨rfl, fun j hj => by match j, hj with | 0, _ => rfl⟩
theorem toffs_get {k : Int} {vs : List Int} {us : List (List UInt8)} : (toffsOf (mkEd k vs us)).length = textsN k ∧ ∀ j, j < textsN k → (toffsOf (mkEd k vs us))[j]? = some (j + 4) := by
  unfold toffsOf textsN mkEd
  simp only
  split
  · exact ⟨rfl, fun j hj => by match j, hj with | 0, _ => rfl | 1, _ => rfl⟩
  · exact ⟨rfl, fun j hj => by omega⟩
theorem numsN_le (k : Int) : numsN k ≤ 3 ∧ textsN k ≤ 2 := by unfold numsN textsN; constructor <;> (repeat' split) <;> omega
/-- One number more in an edit's variable. -/
theorem EdAt.num {b : Nat} {k : Int} {vs : List Int} {w : World} (h : EdAt b (mkEd k vs []) w) (hv : vs.length < 3) (v : Int) : EdAt b (mkEd k (vs ++ [v]) []) (w.setCell ⟨b, vs.length + 1, none⟩ (.int .i64 v)) := by
  have := heap_set (o := vs.length + 1) h (.int .i64 v)
  match vs, hv with
  | [], _ => exact this
  | [a], _ => exact this
  | [a, c], _ => exact this
theorem EdAt.txt {b : Nat} {k : Int} {vs : List Int} {us : List (List UInt8)} {w : World} (h : EdAt b (mkEd k vs us) w) (hu : us.length < 2) (u : List UInt8) : EdAt b (mkEd k vs (us ++ [u])) (w.setCell ⟨b, us.length + 4, none⟩ (.string (bs u))) := by
  have := heap_set (o := us.length + 4) h (.string (bs u))
  match us, hu with
  | [], _ => exact this
  | [a], _ => exact this
set_option maxHeartbeats 8000000 in
theorem man_take (r : Nat) (l : List UInt8) (w : World) (h : Rt r (bs l) w) (hl : l.length ≤ 1000000000000) : Calls Tryz.prog 39 #[.pointer (some ⟨r, 0, none⟩)] w (TakePost r (rdEd l) w) := by
  obtain ⟨B, hB⟩ : ∃ B, B = w.heap.size := ⟨_, rfl⟩
  have HB := Lib.hid hB
  obtain ⟨w1, hw1⟩ : ∃ w1, w.alloc (.cells #[.int .i64 0, .int .i64 0, .int .i64 0, .int .i64 0, .string ⟨#[]⟩, .string ⟨#[]⟩] 31) = w1 := ⟨_, rfl⟩
  have k1 : Below w.heap.size w w1 := by rw [← hw1]; exact (Below.refl _ _).alloc (Nat.le_refl _) _
  have O1 := Lib.hid (show Only (fun k => k = r) w w1 by rw [← hw1]; exact (Only.refl _ _).alloc _)
  have R1 := Lib.hid (show EdAt B noEd w1 by rw [← hw1, hB]; exact heap_new w _)
  have H1 := Lib.hid (show Rt r (bs l) w1 from (k1.block r h.lt).trans h)
  have HR := Lib.hid (show r < B by rw [hB]; exact h.lt)
  have HW1 := Lib.hid hw1
  clear k1 hw1 hB
  obtain ⟨R, hR⟩ : ∃ R, R = rdEd l := ⟨_, rfl⟩
  rw [← hR]
  have HRR := Lib.hid hR
  clear hR
  go_enter Tryz.func39, Tryz.ntmps39
  go_upto_region 1 with (fail)
  rw [HW1.out, ← HB.out]
  clear HW1
  go_wp2_with fail
  refine (read_Whole r l w1 H1.out hl).mono ?_
  rintro e w2 ⟨rfl, h2, o2⟩
  have H2 := Lib.hid h2
  have O2 := Lib.hid (O1.out.trans o2)
  have R2 := Lib.hid (R1.out.only o2 (by have := HR.out; omega))
  have HRE := Lib.hid (rd_cases l)
  obtain ⟨z, hz⟩ : ∃ z, z = re l := ⟨_, rfl⟩
  obtain ⟨k, hk⟩ : ∃ k, k = rn l := ⟨_, rfl⟩
  obtain ⟨l1, hl1⟩ : ∃ l1, l1 = l.drop (rk l) := ⟨_, rfl⟩
  rw [← hz, ← hk]
  rw [← hl1] at H2
  have HZ := Lib.hid (And.intro hz (And.intro hk hl1))
  have hll1 : l1.length ≤ 1000000000000 := by rw [hl1, List.length_drop]; omega
  clear h2 o2 hz hk hl1
  by_cases hz0 : z = 0
  case neg =>
    have q : (z == 0) = false := by simpa using hz0
    have q2 : (z != 0) = true := by simpa using hz0
    obtain ⟨r0, r1, r2, r3, r4, r5⟩ := R2.out.cc
    have rf := R2.out.free
    go_wp2
    refine bodyPost_ret (results_ed2 rfl _ _ B noEd _ rfl rfl (R2.out.put noEd)) rfl ?_
    refine ⟨⟨noEd, z, rfl, .inl ⟨?_, hz0, l1, ?_⟩⟩, ?_⟩
    · rw [HRR.out]
      unfold rdEd
      rw [if_neg (by rw [← HZ.out.1]; exact hz0), ← HZ.out.1]
    · have hrb : r ≠ B := by have := HR.out; omega
      exact ((only_put6 (Only.refl (fun j => j = B) w2) (.inl rfl) _ _ _ _ _ _).block r H2.out.lt hrb).trans H2.out
    · exact only_put6 O2.out (.inr (by rw [← HB.out]; exact Nat.le_refl _)) _ _ _ _ _ _
  case pos =>
    subst hz0
    obtain ⟨n, hn⟩ : ∃ n, n = numsN k := ⟨_, rfl⟩
    obtain ⟨m, hm⟩ : ∃ m, m = textsN k := ⟨_, rfl⟩
    have hn3 : n ≤ 3 := by have := (numsN_le k).1; omega
    have hm2 : m ≤ 2 := by have := (numsN_le k).2; omega
    have HNM := Lib.hid (And.intro hn hm)
    have HRD := Lib.hid (show R = rdEdN k (rdNums n l1) by
      rw [HRR.out]
      unfold rdEd
      rw [if_pos HZ.out.1.symm, ← HZ.out.2.1, ← HZ.out.2.2, hn])
    clear hn hm HRE
    go_upto_region 5 with (fail)
    obtain ⟨w3, hw3⟩ : ∃ w3, w2.alloc (.cells #[.int .i64 k, .int .i64 0, .int .i64 0, .int .i64 0, .string ⟨#[]⟩, .string ⟨#[]⟩] 31) = w3 := ⟨_, rfl⟩
    obtain ⟨eb, heb⟩ : ∃ eb, eb = w2.heap.size := ⟨_, rfl⟩
    have k3 : Below w2.heap.size w2 w3 := by rw [← hw3]; exact (Below.refl _ _).alloc (Nat.le_refl _) _
    have E3 := Lib.hid (show EdAt eb (mkEd k [] []) w3 by rw [← hw3, heb]; exact heap_new w2 _)
    have H3 := Lib.hid (show Rt r (bs l1) w3 from (k3.block r H2.out.lt).trans H2.out)
    have R3 := Lib.hid (show EdAt B noEd w3 from (k3.block B (heap_lt R2.out)).trans R2.out)
    have O3 := Lib.hid (show Only (fun j => j = r) w w3 by rw [← hw3]; exact O2.out.alloc _)
    have HEB := Lib.hid (show eb ≠ r ∧ eb ≠ B ∧ w.heap.size ≤ eb from ⟨by have := H2.out.lt; omega, by have := heap_lt R2.out; omega, by rw [heb]; exact O2.out.size⟩)
    have HW3 := Lib.hid hw3
    have HEBE := Lib.hid heb
    clear hw3 heb k3
    rw [HW3.out, ← HEBE.out]
    clear HW3 HEBE
    go_wp2_with fail
    refine (numbers_all eb _ w3 E3.out).mono ?_
    rintro e w4 ⟨nb, rfl, hnb, hrow, k4⟩
    rw [offs_get.1, ← HNM.out.1]
    have E4 := Lib.hid (show EdAt eb (mkEd k [] []) w4 from (k4.block eb (heap_lt E3.out)).trans E3.out)
    have H4 := Lib.hid (show Rt r (bs l1) w4 from (k4.block r H3.out.lt).trans H3.out)
    have R4 := Lib.hid (show EdAt B noEd w4 from (k4.block B (heap_lt R3.out)).trans R3.out)
    have O4 := Lib.hid (show Only (fun j => j = r) w w4 from O3.out.trans (Only.of_below (B := w3.heap.size) k4 (fun j hj hb => by omega)))
    have P4 := Lib.hid hrow
    have HNB := Lib.hid (show nb ≠ r ∧ nb ≠ eb from ⟨by have := H3.out.lt; omega, by have := heap_lt E3.out; omega⟩)
    clear hnb hrow k4
    go_wp2_with fail
    go_loopw [24] (fun iv wr => ∃ (j : Nat) (vs : List Int) (l' : List UInt8), j ≤ n ∧ iv = .int .i64 (j : Int) ∧ vs.length = j ∧ Hid (rdNums n l1 = appR vs (rdNums (n - j) l')) ∧ Hid (l'.length ≤ 1000000000000) ∧ Hid (Rt r (bs l') wr) ∧ Hid (EdAt eb (mkEd k vs []) wr) ∧ Hid (EdAt B noEd wr) ∧ Hid (wr.heap[nb]? = some (.cells ((offsOf (mkEd k [] [])).map fun o => Value.pointer (some ⟨eb, o, none⟩)).toArray 141 (0, 0))) ∧ Hid (Only (fun j => j = r) w wr)) (fun iv wr => n - (intOf iv).toNat)
    case atStart => exact ⟨0, [], l1, Nat.zero_le _, rfl, rfl, Lib.hid (by rw [appR_nil]; rfl), Lib.hid hll1, H4, E4, R4, P4, O4⟩
    case round =>
      obtain ⟨j, vs, l', hj, rfl, hvl, hA, hll, hH, hE, hRB, hP, hO⟩ := hrel
      by_cases hlt : j < n
      · have hlt' : (j : Int) < (n : Int) := by omega
        have y0 : wr.cell? ⟨nb, j, none⟩ = some (.pointer (some ⟨eb, j + 1, none⟩)) := by
          have := (offs_get (k := k) (vs := []) (us := [])).2 j (by rw [← HNM.out.1]; exact hlt)
          simp [World.cell?, hP.out, this]
        go_wp2_with fail
        refine (read_Whole r l' wr hH.out hll.out).mono ?_
        rintro e w5 ⟨rfl, h5, o5⟩
        have H5 := Lib.hid h5
        have E5 := Lib.hid (hE.out.only o5 (by exact HEB.out.1))
        have R5 := Lib.hid (hRB.out.only o5 (by have := HR.out; omega))
        have P5 := Lib.hid ((o5.block nb (heap_lt hP.out) HNB.out.1).trans hP.out)
        have O5 := Lib.hid (hO.out.trans o5)
        obtain ⟨v, hv⟩ : ∃ v, v = rn l' := ⟨_, rfl⟩
        obtain ⟨z', hz'⟩ : ∃ z', z' = re l' := ⟨_, rfl⟩
        rw [← hv, ← hz']
        have HV := Lib.hid (And.intro hv hz')
        have hcx : ∃ u, w5.cell? ⟨eb, j + 1, none⟩ = some u := by
          have := E5.out.cc
          have hj3 : j < 3 := by omega
          match j, hj3 with
          | 0, _ => exact ⟨_, this.2.1⟩
          | 1, _ => exact ⟨_, this.2.2.1⟩
          | 2, _ => exact ⟨_, this.2.2.2.1⟩
        obtain ⟨u, hu⟩ := hcx
        have hfx := E5.out.free (j + 1)
        clear h5 o5 hv hz' y0
        obtain ⟨w6, hw6⟩ : ∃ w6, w6 = w5.setCell ⟨eb, j + 1, none⟩ (.int .i64 v) := ⟨_, rfl⟩
        have E6 := Lib.hid (show EdAt eb (mkEd k (vs ++ [v]) []) w6 by
          have := E5.out.num (by omega) v
          rw [hvl] at this
          rw [hw6]
          exact this)
        have R6 := Lib.hid (show EdAt B noEd w6 by rw [hw6]; exact (heap_set_other (Ne.symm HEB.out.2.1) _).trans R5.out)
        have H6 := Lib.hid (show Rt r (bs (l'.drop (rk l'))) w6 by rw [hw6]; exact (heap_set_other (Ne.symm HEB.out.1) _).trans H5.out)
        have P6 := Lib.hid (show w6.heap[nb]? = some (.cells ((offsOf (mkEd k [] [])).map fun o => Value.pointer (some ⟨eb, o, none⟩)).toArray 141 (0, 0)) from by rw [hw6]; exact (heap_set_other HNB.out.2 _).trans P5.out)
        have O6 := Lib.hid (show Only (fun j => j = r) w w6 by rw [hw6]; exact O5.out.setCell (p := ⟨eb, j + 1, none⟩) (.inr HEB.out.2.2) _)
        have HW6 := Lib.hid hw6
        clear hw6
        go_upto_region 9 with (fail)
        rw [← HW6.out]
        clear hu hfx HW6 E5 R5 H5 P5 O5
        by_cases hz1 : z' = 0
        · subst hz1
          have HNX := Lib.hid (show rdNums n l1 = appR (vs ++ [v]) (rdNums (n - (j + 1)) (l'.drop (rk l'))) by
            rw [hA.out, show n - j = n - (j + 1) + 1 by omega, rdNums, if_pos HV.out.2.symm, ← HV.out.1, appR_app])
          have HLL := Lib.hid (show (l'.drop (rk l')).length ≤ 1000000000000 by rw [List.length_drop]; have := hll.out; omega)
          go_wp2_with fail
          go_roundw
          case rel => exact ⟨j + 1, vs ++ [v], _, hlt, by go_num, by simp [hvl], HNX, HLL, H6, E6, R6, P6, O6⟩
          case measure => simp [intOf]; omega
        · have q : (z' == 0) = false := by simpa using hz1
          have q2 : (z' != 0) = true := by simpa using hz1
          have HBAD := Lib.hid (show R = .inl z' by
            rw [HRD.out, hA.out, show n - j = n - (j + 1) + 1 by omega, rdNums, if_neg (by rw [← HV.out.2]; exact hz1), ← HV.out.2]
            rfl)
          obtain ⟨r0, r1, r2, r3, r4, r5⟩ := R6.out.cc
          have rf := R6.out.free
          go_wp2
          refine bodyPost_ret (results_ed2 rfl _ _ B noEd _ rfl rfl (R6.out.put noEd)) rfl ?_
          refine ⟨⟨noEd, z', rfl, .inl ⟨HBAD.out, hz1, l'.drop (rk l'), ?_⟩⟩, ?_⟩
          · have hrb : r ≠ B := by have := HR.out; omega
            exact ((only_put6 (Only.refl (fun j => j = B) w6) (.inl rfl) _ _ _ _ _ _).block r H6.out.lt hrb).trans H6.out
          · exact only_put6 O6.out (.inr (by rw [← HB.out]; exact Nat.le_refl _)) _ _ _ _ _ _
      · obtain rfl : j = n := by omega
        have HNUM := Lib.hid (show R = rdEdT k vs (rdTexts m l') by
          rw [HRD.out, hA.out, Nat.sub_self]
          show rdEdN k (.inr (vs ++ [], l')) = _
          rw [List.append_nil, HNM.out.2]
          rfl)
        obtain ⟨wo, hwo⟩ : ∃ wo, wo = wr := ⟨_, rfl⟩
        rw [← hwo] at hH hE hRB hO ⊢
        clear hwo hA hP
        go_wp2_with fail
        refine (texts_all eb _ wo hE.out).mono ?_
        rintro e w6 ⟨ta, rfl, hrow, k6⟩
        rw [toffs_get.1, ← HNM.out.2]
        have E6 := Lib.hid (show EdAt eb (mkEd k vs []) w6 from (k6.block eb (heap_lt hE.out)).trans hE.out)
        have H6 := Lib.hid (show Rt r (bs l') w6 from (k6.block r hH.out.lt).trans hH.out)
        have R6 := Lib.hid (show EdAt B noEd w6 from (k6.block B (heap_lt hRB.out)).trans hRB.out)
        have O6 := Lib.hid (show Only (fun j => j = r) w w6 from hO.out.trans (Only.of_below (B := wo.heap.size) k6 (fun j hj hb => by omega)))
        have P6 := Lib.hid (show m = 0 ∨ ∃ tb, ta = some ⟨tb, 0, none⟩ ∧ tb ≠ r ∧ tb ≠ eb ∧ w6.heap[tb]? = some (.cells ((toffsOf (mkEd k vs [])).map fun o => Value.pointer (some ⟨eb, o, none⟩)).toArray 144 (0, 0)) from by
          rw [toffs_get.1, ← HNM.out.2] at hrow
          rcases hrow with h0 | ⟨tb, h1, h2, h3⟩
          · exact .inl h0
          · exact .inr ⟨tb, h1, by have := hH.out.lt; omega, by have := heap_lt hE.out; omega, h3⟩)
        clear hrow k6 hH hE hRB hO
        go_wp2_with fail
        go_loopw [42] (fun iv wq => ∃ (i : Nat) (us : List (List UInt8)) (l2 : List UInt8), i ≤ m ∧ iv = .int .i64 (i : Int) ∧ us.length = i ∧ Hid (rdTexts m l' = appR us (rdTexts (m - i) l2)) ∧ Hid (l2.length ≤ 1000000000000) ∧ Hid (Rt r (bs l2) wq) ∧ Hid (EdAt eb (mkEd k vs us) wq) ∧ Hid (EdAt B noEd wq) ∧ Hid (m = 0 ∨ ∃ tb, ta = some ⟨tb, 0, none⟩ ∧ tb ≠ r ∧ tb ≠ eb ∧ wq.heap[tb]? = some (.cells ((toffsOf (mkEd k vs [])).map fun o => Value.pointer (some ⟨eb, o, none⟩)).toArray 144 (0, 0))) ∧ Hid (Only (fun j => j = r) w wq)) (fun iv wq => m - (intOf iv).toNat)
        case atStart => exact ⟨0, [], l', Nat.zero_le _, rfl, rfl, Lib.hid (by rw [appR_nil]; rfl), hll, H6, E6, R6, P6, O6⟩
        case round =>
          obtain ⟨i, us, l2, hi, rfl, hul, hA, hll2, hH, hE, hRB, hP, hO⟩ := hrel
          by_cases hlt2 : i < m
          · have hlt2' : (i : Int) < (m : Int) := by omega
            obtain ⟨tb, rfl, htr, hte, hrow⟩ := hP.out.resolve_left (by omega)
            have y0 : wr.cell? ⟨tb, i, none⟩ = some (.pointer (some ⟨eb, i + 4, none⟩)) := by
              have := (toffs_get (k := k) (vs := vs) (us := [])).2 i (by rw [← HNM.out.2]; exact hlt2)
              simp [World.cell?, hrow, this]
            have HTB := Lib.hid (And.intro htr (And.intro hte hrow))
            clear htr hte hrow hP
            go_wp2_with fail
            refine (read_Text r l2 wr hH.out hll2.out).mono ?_
            rintro e w7 ⟨rfl, h5, o5⟩
            have H7 := Lib.hid h5
            have E7 := Lib.hid (hE.out.only o5 (by exact HEB.out.1))
            have R7 := Lib.hid (hRB.out.only o5 (by have := HR.out; omega))
            have P7 := Lib.hid ((o5.block tb (heap_lt HTB.out.2.2) HTB.out.1).trans HTB.out.2.2)
            have O7 := Lib.hid (hO.out.trans o5)
            obtain ⟨v, hv⟩ : ∃ v, v = ts l2 := ⟨_, rfl⟩
            obtain ⟨z', hz'⟩ : ∃ z', z' = te l2 := ⟨_, rfl⟩
            rw [← hv, ← hz']
            have HV := Lib.hid (And.intro hv hz')
            have hcx : ∃ u, w7.cell? ⟨eb, i + 4, none⟩ = some u := by
              have := E7.out.cc
              have hj3 : i < 2 := by omega
              match i, hj3 with
              | 0, _ => exact ⟨_, this.2.2.2.2.1⟩
              | 1, _ => exact ⟨_, this.2.2.2.2.2⟩
            obtain ⟨u, hu⟩ := hcx
            have hfx := E7.out.free (i + 4)
            clear h5 o5 hv hz' y0
            obtain ⟨w8, hw8⟩ : ∃ w8, w8 = w7.setCell ⟨eb, i + 4, none⟩ (.string (bs v)) := ⟨_, rfl⟩
            have E8 := Lib.hid (show EdAt eb (mkEd k vs (us ++ [v])) w8 by
              have := E7.out.txt (by omega) v
              rw [hul] at this
              rw [hw8]
              exact this)
            have R8 := Lib.hid (show EdAt B noEd w8 by rw [hw8]; exact (heap_set_other (Ne.symm HEB.out.2.1) _).trans R7.out)
            have H8 := Lib.hid (show Rt r (bs (l2.drop (tk l2))) w8 by rw [hw8]; exact (heap_set_other (Ne.symm HEB.out.1) _).trans H7.out)
            have P8 := Lib.hid (show w8.heap[tb]? = some (.cells ((toffsOf (mkEd k vs [])).map fun o => Value.pointer (some ⟨eb, o, none⟩)).toArray 144 (0, 0)) from by rw [hw8]; exact (heap_set_other HTB.out.2.1 _).trans P7.out)
            have O8 := Lib.hid (show Only (fun j => j = r) w w8 by rw [hw8]; exact O7.out.setCell (p := ⟨eb, i + 4, none⟩) (.inr HEB.out.2.2) _)
            have HW8 := Lib.hid hw8
            clear hw8
            go_upto_region 16 with (fail)
            rw [← HW8.out]
            clear hu hfx HW8 E7 R7 H7 P7 O7
            by_cases hz1 : z' = 0
            · subst hz1
              have HNX := Lib.hid (show rdTexts m l' = appR (us ++ [v]) (rdTexts (m - (i + 1)) (l2.drop (tk l2))) by
                rw [hA.out, show m - i = m - (i + 1) + 1 by omega, rdTexts, if_pos HV.out.2.symm, ← HV.out.1, appR_app])
              have HLL := Lib.hid (show (l2.drop (tk l2)).length ≤ 1000000000000 by rw [List.length_drop]; have := hll2.out; omega)
              go_wp2_with fail
              go_roundw
              case rel => exact ⟨i + 1, us ++ [v], _, hlt2, by go_num, by simp [hul], HNX, HLL, H8, E8, R8, Lib.hid (.inr ⟨tb, rfl, HTB.out.1, HTB.out.2.1, P8.out⟩), O8⟩
              case measure => simp [intOf]; omega
            · have q : (z' == 0) = false := by simpa using hz1
              have q2 : (z' != 0) = true := by simpa using hz1
              have HBAD := Lib.hid (show R = .inl z' by
                rw [HNUM.out, hA.out, show m - i = m - (i + 1) + 1 by omega, rdTexts, if_neg (by rw [← HV.out.2]; exact hz1), ← HV.out.2]
                rfl)
              obtain ⟨r0, r1, r2, r3, r4, r5⟩ := R8.out.cc
              have rf := R8.out.free
              go_wp2
              refine bodyPost_ret (results_ed2 rfl _ _ B noEd _ rfl rfl (R8.out.put noEd)) rfl ?_
              refine ⟨⟨noEd, z', rfl, .inl ⟨HBAD.out, hz1, l2.drop (tk l2), ?_⟩⟩, ?_⟩
              · have hrb : r ≠ B := by have := HR.out; omega
                exact ((only_put6 (Only.refl (fun j => j = B) w8) (.inl rfl) _ _ _ _ _ _).block r H8.out.lt hrb).trans H8.out
              · exact only_put6 O8.out (.inr (by rw [← HB.out]; exact Nat.le_refl _)) _ _ _ _ _ _
          · obtain rfl : i = m := by omega
            have HEND := Lib.hid (show R = .inr (mkEd k vs us, l2) by
              rw [HNUM.out, hA.out, Nat.sub_self]
              show rdEdT k vs (.inr (us ++ [], l2)) = _
              rw [List.append_nil]
              rfl)
            obtain ⟨x, hx⟩ : ∃ x, x = mkEd k vs us := ⟨_, rfl⟩
            rw [← hx] at HEND hE
            clear hx
            obtain ⟨r0, r1, r2, r3, r4, r5⟩ := hRB.out.cc
            have rf := hRB.out.free
            obtain ⟨e0, e1, e2, e3, e4, e5⟩ := hE.out.cc
            clear hP hA
            go_wp2
            refine bodyPost_ret (results_ed2 rfl _ _ B x _ rfl rfl (hRB.out.put x)) rfl ?_
            refine ⟨⟨x, 0, rfl, .inr ⟨l2, HEND.out, rfl, ?_⟩⟩, ?_⟩
            · have hrb : r ≠ B := by have := HR.out; omega
              exact ((only_put6 (Only.refl (fun j => j = B) wr) (.inl rfl) _ _ _ _ _ _).block r hH.out.lt hrb).trans hH.out
            · exact only_put6 hO.out (.inr (by rw [← HB.out]; exact Nat.le_refl _)) _ _ _ _ _ _
end Go.Proofs.YtgljjdldhnajdaaGreat
/- Edits gone over: the program's Unpack. -/
set_option linter.unusedVariables false
set_option maxRecDepth 100000
namespace Go.Proofs.YtgljjdldhnajdaaGreat
open Go.RowKit

theorem rdEd_nil : rdEd [] = .inl 2 := by
  have h : re ([] : List UInt8) = 2 := rfl
  unfold rdEd
  rw [if_neg (by rw [h]; decide), h]
theorem edB_pos (x : Ed) (hx : x.Fits) : 1 ≤ (edB x).length := by
  have := (whole_len hx.1.1 hx.1.2).2
  unfold edB
  simp only [List.length_append]
  omega
set_option maxHeartbeats 4000000 in
theorem take_one (r : Nat) (l : List UInt8) (w : World) (h : Rt r (bs l) w) (hl : l.length ≤ 1000000000) : Calls Tryz.prog 78 #[.pointer (some ⟨r, 0, none⟩), .func (.func 39) #[] #[]] w (TakePost r (rdEd l) w) := by
  obtain ⟨B, hB⟩ : ∃ B, B = w.heap.size := ⟨_, rfl⟩
  have HB := Lib.hid hB
  obtain ⟨w1, hw1⟩ : ∃ w1, w.alloc (.cells #[.int .i64 0, .int .i64 0, .int .i64 0, .int .i64 0, .string ⟨#[]⟩, .string ⟨#[]⟩] 31) = w1 := ⟨_, rfl⟩
  have k1 : Below w.heap.size w w1 := by rw [← hw1]; exact (Below.refl _ _).alloc (Nat.le_refl _) _
  have O1 := Lib.hid (show Only (fun k => k = r) w w1 by rw [← hw1]; exact (Only.refl _ _).alloc _)
  have R1 := Lib.hid (show EdAt B noEd w1 by rw [← hw1, hB]; exact heap_new w _)
  have H1 := Lib.hid (show Rt r (bs l) w1 from (k1.block r h.lt).trans h)
  have HR := Lib.hid (show r < B by rw [hB]; exact h.lt)
  have HW1 := Lib.hid hw1
  clear k1 hw1 hB
  have cr := H1.out.cell
  go_enter Tryz.func78, Tryz.ntmps78
  go_upto_region 1 with (fail)
  rw [HW1.out, ← HB.out]
  clear HW1
  cases l with
  | nil =>
    have hz : bs [] = ⟨#[]⟩ := rfl
    rw [hz] at cr
    obtain ⟨w2, hw2⟩ : ∃ w2, w1.alloc (.cells #[.int .i64 0, .int .i64 0, .int .i64 0, .int .i64 0, .string ⟨#[]⟩, .string ⟨#[]⟩] 31) = w2 := ⟨_, rfl⟩
    obtain ⟨nb, hnb⟩ : ∃ nb, nb = w1.heap.size := ⟨_, rfl⟩
    have k2 : Below w1.heap.size w1 w2 := by rw [← hw2]; exact (Below.refl _ _).alloc (Nat.le_refl _) _
    have N2 := Lib.hid (show EdAt nb noEd w2 by rw [← hw2, hnb]; exact heap_new w1 _)
    have R2 := Lib.hid (show EdAt B noEd w2 from (k2.block B (heap_lt R1.out)).trans R1.out)
    have H2 := Lib.hid (show Rt r (bs []) w2 from (k2.block r H1.out.lt).trans H1.out)
    have O2 := Lib.hid (show Only (fun k => k = r) w w2 by rw [← hw2]; exact O1.out.alloc _)
    have HW2 := Lib.hid hw2
    have HNB := Lib.hid hnb
    clear hw2 hnb k2
    go_upto_region 3 with (fail)
    rw [HW2.out, ← HNB.out]
    clear HW2 HNB cr
    obtain ⟨r0, r1, r2, r3, r4, r5⟩ := R2.out.cc
    have rf := R2.out.free
    obtain ⟨n0, n1, n2, n3, n4, n5⟩ := N2.out.cc
    go_wp2
    refine bodyPost_ret (results_ed2 rfl _ _ B noEd _ rfl rfl (R2.out.put noEd)) rfl ?_
    refine ⟨⟨noEd, 2, rfl, .inl ⟨rdEd_nil, by decide, [], ?_⟩⟩, ?_⟩
    · have hrb : r ≠ B := by have := HR.out; omega
      exact ((only_put6 (Only.refl (fun j => j = B) w2) (.inl rfl) _ _ _ _ _ _).block r H2.out.lt hrb).trans H2.out
    · exact only_put6 O2.out (.inr (by rw [← HB.out]; exact Nat.le_refl _)) _ _ _ _ _ _
  | cons c t =>
    obtain ⟨s, hs⟩ : ∃ s, s = bs (c :: t) := ⟨_, rfl⟩
    rw [← hs] at cr
    have e0 : ¬ s.toList = [] := by rw [hs, Lib.toList_data, bs_list]; simp
    have e1 : s.toList.isEmpty = false := by rw [hs, Lib.toList_data, bs_list]; rfl
    have HT := Lib.hid (man_take r (c :: t) w1 H1.out (by omega))
    obtain ⟨R, hR⟩ : ∃ R, R = rdEd (c :: t) := ⟨_, rfl⟩
    rw [← hR] at HT
    have HRR := Lib.hid hR
    clear hs hR
    go_wp2_with fail
    refine HT.out.mono ?_
    rintro e w2 ⟨⟨x, z, rfl, hx⟩, o2⟩
    have HX := Lib.hid hx
    have O2 := Lib.hid (O1.out.trans o2)
    have R2 := Lib.hid (R1.out.only o2 (by have := HR.out; omega))
    clear hx o2 cr e0 e1
    obtain ⟨r0, r1, r2, r3, r4, r5⟩ := R2.out.cc
    have rf := R2.out.free
    go_wp2
    refine bodyPost_ret (results_ed2 rfl _ _ B x _ rfl rfl (R2.out.put x)) rfl ?_
    have hrb : r ≠ B := by have := HR.out; omega
    have ob := only_put6 (Only.refl (fun j => j = B) w2) (.inl rfl) (.int .i64 x.kind) (.int .i64 x.file) (.int .i64 x.lev) (.int .i64 x.cnt) (.string (bs x.low)) (.string (bs x.high))
    refine ⟨⟨x, z, rfl, ?_⟩, ?_⟩
    · rcases HX.out with ⟨a1, a2, l', a3⟩ | ⟨l', a1, a2, a3⟩
      · exact .inl ⟨HRR.out.symm.trans a1, a2, l', (ob.block r a3.lt hrb).trans a3⟩
      · exact .inr ⟨l', HRR.out.symm.trans a1, a2, (ob.block r a3.lt hrb).trans a3⟩
    · exact only_put6 O2.out (.inr (by rw [← HB.out]; exact Nat.le_refl _)) _ _ _ _ _ _
/-- A list of edits as it is read: the count, then the edits. -/
def rdL (l : List UInt8) : Int ⊕ (List Ed × List UInt8) := if ce l = 0 then rdEds (cn l).toNat (l.drop (ck l)) else .inl (ce l)
def ListPost (r B : Nat) (R : Int ⊕ (List Ed × List UInt8)) (w : World) (e : Ending) (w' : World) : Prop :=
  (∃ v z, e = .returned (.tuple #[v, .int .i64 z]) ∧ ((R = .inl z ∧ z ≠ 0) ∨ ∃ L l', R = .inr (L, l') ∧ z = 0 ∧ OffRow w' B 31 6 v L.length (flat ecell L) ∧ Rt r (bs l') w')) ∧ Only (fun k => k = r) w w'
theorem read_Count (r : Nat) (l : List UInt8) (w : World) (h : Rt r (bs l) w) (hl : l.length ≤ 1000000000000) : Calls Tryz.prog 77 #[.pointer (some ⟨r, 0, none⟩)] w fun e w' => e = .returned (.tuple #[.int .i64 (cn l), .int .i64 (ce l)]) ∧ Rt r (bs (l.drop (ck l))) w' ∧ Only (fun k => k = r) w w' := by
  have := six_ReadCount r (bs l) w h (by rw [bs_size]; unfold maxLen; omega)
  rw [bs_list, rest_bs'] at this
  exact this
set_option maxHeartbeats 8000000 in
theorem take_list (r : Nat) (l : List UInt8) (w : World) (h : Rt r (bs l) w) (hl : l.length ≤ 1000000000) : Calls Tryz.prog 38 #[.pointer (some ⟨r, 0, none⟩), .func (.func 39) #[] #[]] w (ListPost r w.heap.size (rdL l) w) := by
  have hf : ∀ w : World, (binOp .eql 84 (.func (.func 39) #[] #[]) .nilFunc).run Tryz.prog w = .ok (.bool false) w := fun _ => by kernel_rfl
  obtain ⟨iE, hi0, hz0, hz1, hz2⟩ := info_parts infoEd
  have HIE := Lib.hid (And.intro hi0 (And.intro hz0 (And.intro hz1 hz2)))
  clear hi0 hz0 hz1 hz2
  obtain ⟨B, hB⟩ : ∃ B, B = w.heap.size := ⟨_, rfl⟩
  rw [← hB]
  have HB := Lib.hid hB
  have cr := h.cell
  obtain ⟨s0, hs0⟩ : ∃ s, s = bs l := ⟨_, rfl⟩
  rw [← hs0] at cr
  have HC := Lib.hid (read_Count r l w h (by omega))
  have H0 := Lib.hid h
  obtain ⟨R, hR⟩ : ∃ R, R = rdL l := ⟨_, rfl⟩
  rw [← hR]
  have HRR := Lib.hid hR
  have HCD := Lib.hid (cd_cases l)
  obtain ⟨z, hz⟩ : ∃ z, z = ce l := ⟨_, rfl⟩
  obtain ⟨nn, hnn⟩ : ∃ nn, nn = cn l := ⟨_, rfl⟩
  obtain ⟨l1, hl1⟩ : ∃ l1, l1 = l.drop (ck l) := ⟨_, rfl⟩
  rw [← hz, ← hnn, ← hl1] at HC
  have HZ := Lib.hid (And.intro hz (And.intro hnn hl1))
  have hll1 : l1.length ≤ 1000000000 := by rw [hl1, List.length_drop]; omega
  clear hB hs0 hR hz hnn hl1 h
  go_enter Tryz.func38, Tryz.ntmps38
  go_wp2_with fail
  refine HC.out.mono ?_
  rintro e w2 ⟨rfl, h2, o2⟩
  have H2 := Lib.hid h2
  have O2 := Lib.hid o2
  clear h2 o2 HC
  by_cases hz0 : z = 0
  · subst hz0
    obtain ⟨n, rfl⟩ : ∃ n : Nat, nn = n := ⟨nn.toNat, by have := HCD.out; have := HZ.out.1; have := HZ.out.2.1; omega⟩
    have hn64 : n ≤ 9223372036854775807 := by have := HCD.out; have := HZ.out.2.1; omega
    have HRD := Lib.hid (show R = rdEds n l1 by
      rw [HRR.out]
      unfold rdL
      rw [if_pos HZ.out.1.symm, ← HZ.out.2.1, ← HZ.out.2.2, Int.toNat_natCast])
    clear HCD cr
    go_wp2_with fail
    go_loopw [9, 31] (fun v iv wr => ∃ (j : Nat) (M : List Ed) (l' : List UInt8), j ≤ n ∧ iv = .int .i64 (j : Int) ∧ Hid (M.length = j ∧ j + l'.length ≤ l1.length) ∧ Hid (rdEds n l1 = appR M (rdEds (n - j) l')) ∧ Hid (OffRow wr B 31 6 v j (flat ecell M)) ∧ Hid (Rt r (bs l') wr) ∧ Hid (Only (fun k => k = r) w wr)) (fun v iv wr => n - (intOf iv).toNat)
    case atStart => exact ⟨0, [], l1, Nat.zero_le _, rfl, Lib.hid ⟨rfl, by omega⟩, Lib.hid (by rw [appR_nil]; rfl), Lib.hid (OffRow.nil _ _ _ _), H2, O2⟩
    case round =>
      obtain ⟨j, M, l', hj, rfl, hM, hA, hO, hH, hK⟩ := hrel
      obtain ⟨a3, c3, rfl⟩ := OffRow.slice hO.out
      have hj9 : j ≤ 1000000000 := by have := hM.out.2; omega
      by_cases hlt : j < n
      · have hlt' : (j : Int) < (n : Int) := by omega
        have HT := Lib.hid (take_one r l' wr hH.out (by have := hM.out.2; omega))
        obtain ⟨Q, hQ⟩ : ∃ Q, Q = rdEd l' := ⟨_, rfl⟩
        rw [← hQ] at HT
        have HQ := Lib.hid hQ
        have HBR := Lib.hid (show r < B by rw [HB.out]; exact H0.out.lt)
        have HBW := Lib.hid (show B ≤ wr.heap.size by rw [HB.out]; exact hK.out.size)
        clear hQ
        go_wp2_with fail
        refine HT.out.mono ?_
        rintro e w5 ⟨⟨x, z', rfl, hx⟩, o5⟩
        have O5 := Lib.hid (hK.out.trans o5)
        have W5 := Lib.hid (OffRow.kept hO.out (w' := w5) fun k hk => o5.block k (OffRow.lt hO.out k hk).2 (by have := (OffRow.lt hO.out k hk).1; have := HBR.out; omega))
        have HX := Lib.hid hx
        have HB5 := Lib.hid (show B ≤ w5.heap.size from Nat.le_trans HBW.out o5.size)
        clear hx o5
        obtain ⟨w6, hw6⟩ : ∃ w6, w5.alloc (.cells #[.int .i64 x.kind, .int .i64 x.file, .int .i64 x.lev, .int .i64 x.cnt, .string (bs x.low), .string (bs x.high)] 31) = w6 := ⟨_, rfl⟩
        obtain ⟨xb, hxb⟩ : ∃ xb, xb = w5.heap.size := ⟨_, rfl⟩
        have k6 : Below w5.heap.size w5 w6 := by rw [← hw6]; exact (Below.refl _ _).alloc (Nat.le_refl _) _
        have X6 := Lib.hid (show EdAt xb x w6 by rw [← hw6, hxb]; exact heap_new w5 _)
        have W6 := Lib.hid (OffRow.kept W5.out (w' := w6) fun k hk => k6.block k (OffRow.lt W5.out k hk).2)
        have O6 := Lib.hid (show Only (fun k => k = r) w w6 by rw [← hw6]; exact O5.out.alloc _)
        have K6 := Lib.hid k6
        have HB6 := Lib.hid (show B ≤ w6.heap.size from Nat.le_trans HB5.out k6.size)
        have HW6 := Lib.hid hw6
        have HXB := Lib.hid hxb
        clear hw6 hxb k6
        go_upto_region 11 with (fail)
        rw [HW6.out, ← HXB.out]
        clear HW6 HXB
        by_cases hz1 : z' = 0
        · subst hz1
          obtain ⟨l2, hq, _, hrt⟩ := HX.out.resolve_left (fun a => a.2.1 rfl)
          have HQ2 := Lib.hid (show rdEd l' = .inr (x, l2) by rw [← HQ.out]; exact hq)
          have H6 := Lib.hid (show Rt r (bs l2) w6 from (K6.out.block r hrt.lt).trans hrt)
          have HNX := Lib.hid (show rdEds n l1 = appR (M ++ [x]) (rdEds (n - (j + 1)) l2) by
            rw [hA.out, show n - j = n - (j + 1) + 1 by omega, rdEds, HQ2.out]
            exact appR_app _ _ _)
          have HLN := Lib.hid (show (M ++ [x]).length = j + 1 ∧ j + 1 + l2.length ≤ l1.length by
            obtain ⟨b1, b2, _⟩ := rdEd_of HQ2.out
            have := edB_pos x b2
            have e := congrArg List.length b1
            rw [List.length_append] at e
            refine ⟨by rw [List.length_append, hM.out.1]; rfl, ?_⟩
            have := hM.out.2
            omega)
          obtain ⟨x0, x1, x2, x3, x4, x5⟩ := X6.out.cc
          clear hq hrt
          obtain ⟨w7, hw7⟩ : ∃ w7, w7 = w6.alloc (.cells #[.int .i64 x.kind, .int .i64 x.file, .int .i64 x.lev, .int .i64 x.cnt, .string (bs x.low), .string (bs x.high)] 31) := ⟨_, rfl⟩
          have k7 : Below w6.heap.size w6 w7 := by rw [hw7]; exact (Below.refl _ _).alloc (Nat.le_refl _) _
          have W7 := Lib.hid (OffRow.kept W6.out (w' := w7) fun k hk => k7.block k (OffRow.lt W6.out k hk).2)
          have HSR := Lib.hid (show Src Tryz.prog 6 22 (.slice (some ⟨w6.heap.size, 0, none⟩) 1 1) 1 (ecell x) w7 by
            have hb : w7.heap[w6.heap.size]? = some (.cells #[.int .i64 x.kind, .int .i64 x.file, .int .i64 x.lev, .int .i64 x.cnt, .string (bs x.low), .string (bs x.high)] 31 (0, 0)) := by
              rw [hw7]
              exact heap_new w6 _
            exact src_block (size := 6) (cs := #[.int .i64 x.kind, .int .i64 x.file, .int .i64 x.lev, .int .i64 x.cnt, .string (bs x.low), .string (bs x.high)]) Tryz.underlying22 hb 1 1 rfl (ecell_one x))
          have HB7 := Lib.hid (show B ≤ w7.heap.size from Nat.le_trans HB6.out k7.size)
          have O7 := Lib.hid (show Only (fun k => k = r) w w7 by rw [hw7]; exact O6.out.alloc _)
          have H7 := Lib.hid (show Rt r (bs l2) w7 from (k7.block r H6.out.lt).trans H6.out)
          rw [hw7] at W7 HSR HB7
          have HW7 := Lib.hid hw7
          clear hw7 k7
          go_wp2_with (at_builtin; refine wpList_append_off rfl (.tmp 46) (.tmp 48) 22 rfl B 31 iE _ 6 64 Tryz.underlying22 HIE.out.1 HIE.out.2.1 HIE.out.2.2.1 HIE.out.2.2.2 rfl (.slice a3 j c3) j _ rfl W7.out (.slice (some ⟨w6.heap.size, 0, none⟩) 1 1) rfl 1 _ HSR.out ?q3 ?q4 HB7.out ?_)
          case q3 => unfold maxLen; omega
          case q4 => omega
          intro v8 w8 hr8 hg8 hat8
          rw [← HW7.out] at hg8
          have W8 := Lib.hid (show OffRow w8 B 31 6 v8 (j + 1) (flat ecell (M ++ [x])) by
            rw [flat_append, flat_one]
            exact hr8)
          have HRW := Lib.hid (show ∀ k, (Value.slice a3 j c3).ownBlock = some k → B ≤ k from fun k hk => (OffRow.lt W6.out k hk).1)
          have H8 := Lib.hid (show Rt r (bs l2) w8 from (hg8.block r H7.out.lt (fun e => by have := HRW.out r e.symm; have := HBR.out; omega)).trans H7.out)
          have O8 := Lib.hid (show Only (fun k => k = r) w w8 from ⟨hg8.os.trans O7.out.os, hg8.tape.trans O7.out.tape, hg8.output.trans O7.out.output, Nat.le_trans O7.out.size hg8.size, fun k hk hne => (hg8.block k (Nat.lt_of_lt_of_le hk O7.out.size) (fun e => by have := HRW.out k e.symm; have := HB.out; omega)).trans (O7.out.block k hk hne)⟩)
          clear hr8 hg8 hat8 HSR x0 x1 x2 x3 x4 x5
          go_wp2_with fail
          go_roundw
          case rel => exact ⟨j + 1, M ++ [x], l2, hlt, by go_num, HLN, HNX, W8, H8, O8⟩
          case measure => simp [intOf]; omega
        · have q : (z' == 0) = false := by simpa using hz1
          have q2 : (z' != 0) = true := by simpa using hz1
          obtain ⟨hq, _, l2, hrt⟩ : Q = .inl z' ∧ z' ≠ 0 ∧ ∃ l', Rt r (bs l') w5 := HX.out.resolve_right (fun ⟨_, _, a, _⟩ => hz1 a)
          have HBAD := Lib.hid (show R = .inl z' by
            rw [HRD.out, hA.out, show n - j = n - (j + 1) + 1 by omega, rdEds, ← HQ.out, hq]
            rfl)
          have H6 := Lib.hid (show Rt r (bs l2) w6 from (K6.out.block r hrt.lt).trans hrt)
          have cr6 := H6.out.cell
          have fr6 := H6.out.free
          clear hq hrt
          go_wp2
          go_ret2
          refine ⟨⟨_, z', rfl, .inl ⟨HBAD.out, hz1⟩⟩, ?_⟩
          exact O6.out.setCell (p := ⟨r, 0, none⟩) (.inl rfl) _
      · obtain rfl : j = n := by omega
        have HEND := Lib.hid (show R = .inr (M, l') by
          rw [HRD.out, hA.out, Nat.sub_self]
          show Sum.inr (M ++ [], l') = _
          rw [List.append_nil])
        go_wp2
        go_ret2
        exact ⟨⟨_, 0, rfl, .inr ⟨M, l', HEND.out, rfl, by rw [hM.out.1]; exact hO.out, hH.out⟩⟩, hK.out⟩
  · have q : (z == 0) = false := by simpa using hz0
    have q2 : (z != 0) = true := by simpa using hz0
    clear cr
    go_wp2
    go_ret2
    refine ⟨⟨_, z, rfl, .inl ⟨?_, hz0⟩⟩, O2.out⟩
    rw [HRR.out]
    unfold rdL
    rw [if_neg (by rw [← HZ.out.1]; exact hz0), ← HZ.out.1]
theorem unp_rdL (l : List UInt8) : unp l = unpT (rdL l) := by
  unfold unp rdL
  split
  · rfl
  · rfl
theorem rdL_err {l : List UInt8} {e : Int} (h : rdL l = .inl e) : e ≠ 0 := by
  unfold rdL at h
  split at h
  · have := rdEds_err h; omega
  · rename_i hz; cases h; exact hz
set_option maxHeartbeats 4000000 in
theorem man_Unpack (l : List UInt8) (w : World) (hl : l.length ≤ 1000000000) : Calls Tryz.prog 10 #[.string (bs l)] w fun e w' => ∃ v, e = .returned (.tuple #[v, .int .i64 (unp l).1]) ∧ OffRow w' w.heap.size 31 6 v (unp l).2.length (flat ecell (unp l).2) ∧ Below w.heap.size w w' := by
  obtain ⟨B, hB⟩ : ∃ B, B = w.heap.size := ⟨_, rfl⟩
  rw [← hB]
  have HB := Lib.hid hB
  obtain ⟨Z, hZ⟩ : ∃ Z, Z = unp l := ⟨_, rfl⟩
  rw [← hZ]
  have HZ := Lib.hid (hZ.trans (unp_rdL l))
  obtain ⟨s, hs⟩ : ∃ s, s = bs l := ⟨_, rfl⟩
  rw [← hs]
  have HSS := Lib.hid hs
  clear hB hZ hs
  go_enter Tryz.func10, Tryz.ntmps10
  go_wp2_with fail
  refine (six_Over s w).mono ?_
  rintro e w1 ⟨rfl, h1⟩
  rw [← HB.out]
  have H1 := Lib.hid (show Rt B (bs l) w1 by rw [← h1, HB.out, HSS.out]; exact heap_new w _)
  have K1 := Lib.hid (show Below B w w1 by rw [← h1, HB.out]; exact (Below.refl _ _).alloc (Nat.le_refl _) _)
  clear h1
  have HT := Lib.hid (take_list B l w1 H1.out hl)
  obtain ⟨R, hR⟩ : ∃ R, R = rdL l := ⟨_, rfl⟩
  rw [← hR] at HT HZ
  have HRR := Lib.hid hR
  clear hR
  go_wp2_with fail
  refine HT.out.mono ?_
  rintro e w2 ⟨⟨v, z, rfl, hx⟩, o2⟩
  have K2 := Lib.hid (show Below B w w2 from K1.out.trans (o2.below (B := B) (fun k _ e => by omega) (by have := H1.out.lt; omega)))
  have HX := Lib.hid hx
  have HB1 := Lib.hid (show B ≤ w1.heap.size by have := H1.out.lt; omega)
  clear hx o2 HT
  by_cases hz0 : z = 0
  · subst hz0
    obtain ⟨L, l', hq, _, ho, hrt⟩ := HX.out.resolve_left (fun a => a.2 rfl)
    have HO := Lib.hid (own_mono ho HB1.out)
    have HRT := Lib.hid hrt
    have HZ2 := Lib.hid (show Z = if l' = [] then (0, L) else (5, []) by rw [HZ.out, hq]; rfl)
    obtain ⟨va, vc, rfl⟩ := OffRow.slice ho
    clear hq ho hrt HX
    go_wp2_with fail
    refine (six_End B (bs l') w2 HRT.out).mono ?_
    rintro e w3 ⟨rfl, rfl⟩
    rw [bs_list]
    by_cases hl' : l' = []
    · have he : endE l' = 0 := by unfold endE; rw [if_pos hl']
      have HZ3 := Lib.hid (show Z = (0, L) by rw [HZ2.out, if_pos hl'])
      rw [he]
      clear hl' he
      go_wp2
      go_ret2
      rw [HZ3.out]
      exact ⟨_, rfl, HO.out, K2.out⟩
    · have he : endE l' = 5 := by unfold endE; rw [if_neg hl']
      have HZ3 := Lib.hid (show Z = (5, []) by rw [HZ2.out, if_neg hl'])
      rw [he]
      clear hl' he
      go_wp2
      go_ret2
      rw [HZ3.out]
      exact ⟨_, rfl, OffRow.nil _ _ _ _, K2.out⟩
  · have hq : R = .inl z := by
      rcases HX.out with a | ⟨_, _, _, a, _⟩
      · exact a.1
      · exact absurd a hz0
    have HZ2 := Lib.hid (show Z = (z, []) by rw [HZ.out, hq]; rfl)
    have q : (z == 0) = false := by simpa using hz0
    have q2 : (z != 0) = true := by simpa using hz0
    clear hq HX
    go_wp2
    go_ret2
    rw [HZ2.out]
    exact ⟨_, rfl, OffRow.nil _ _ _ _, K2.out⟩
end Go.Proofs.YtgljjdldhnajdaaGreat
