/- Texts put together: ManAddT, Shelf, ManDelT, ManOutT, ManWithT -/
import Derived.Test.YtfbaenhajlckjaaGreatMWho10
import Derived.Test.YtfbaenhajlckjaaGreatMWho12
import Derived.Shelf.SlSortCmp.WholeK
import Derived.Shelf.SlSortCmp.NoneTotal
import Derived.Shelf.SortM.Plain
import Derived.Shelf.SortM.SortNone
import Derived.Shelf.SlicesE.Clone
import Derived.Shelf.SlicesE.IndexFunc
import Derived.Shelf.SlicesE.Delete
import Derived.Shelf.SlicesQ.IndexFunc
import Derived.Shelf.SlicesG.Cmp
import Derived.Ground.SlsfProg
import Derived.Ground.SlgmProg
import Derived.Ground.SlgnProg
import Derived.Ground.SlgfProg
import Derived.Ground.SlgcProg
import Derived.Shelf.SlGeneric
import Derived.Test.YtfbaenhajlckjaaGreatProg
import Derived.Test.YtfbaenhajlckjaaGreatMWho11
import Derived.Test.YtfbaenhajlckjaaGreatMWho04
import Derived.Shelf.RegionOpenPlain
/- A table more. -/
set_option linter.unusedVariables false
set_option maxRecDepth 100000
namespace Go.Proofs.YtfbaenhajlckjaaGreat
open Go.RowKit Go.Maps Go.WideShapes Go.ChangeMaps
variable {B db mb : Nat} {w : World} {s : St} {tv sv lv : Value}

def tabBad (x : Tb) : Prop := x.lev < 0 ∨ 5 < x.lev ∨ x.cnt < 1 ∨ ltB x.high x.low = true
instance (x : Tb) : Decidable (tabBad x) := by unfold tabBad; infer_instance
def tabE (s : St) (x : Tb) : Int :=
  if tabBad x then 1 else if mayE s x.file = 0 then (if 0 < x.lev ∧ s.tabs.any (meets x) = true then 11 else 0) else mayE s x.file
def tcells (x : Tb) : Array Value := #[.int .i64 x.file, .int .i64 x.lev, .int .i64 x.cnt, .string (bs x.low), .string (bs x.high)]
theorem may_zero {s : St} {f : Int} (h : mayE s f = 0) : 1 ≤ f ∧ ¬ f ∈ s.files := by
  unfold mayE at h
  split at h
  · cases h
  · split at h
    · cases h
    · rename_i a b; exact ⟨by omega, b⟩
set_option maxHeartbeats 1000000 in
theorem add_table_bad (h : Hid (Dr B w db s tv sv lv mb)) (x : Tb) (hb : tabBad x) :
    Calls Tryz.prog 138 #[.pointer (some ⟨db, 0, none⟩), .agg #[.int .i64 x.file, .int .i64 x.lev, .int .i64 x.cnt, .string (bs x.low), .string (bs x.high)]] w fun e w' => e = .returned (.int .i64 1) ∧ Below w.heap.size w w' := by
  have K1 := Lib.hid (show Below w.heap.size w (w.alloc (.cells #[.int .i64 x.file, .int .i64 x.lev, .int .i64 x.cnt, .string (bs x.low), .string (bs x.high)] 42)) from (Below.refl _ _).alloc (Nat.le_refl _) _)
  obtain ⟨p, q, h1, h2, h3⟩ := leq_texts x.low x.high
  by_cases b1 : x.lev < 0
  · clear hb h3
    go_enter Tryz.func138, Tryz.ntmps138
    go_wp2
    go_ret
    exact ⟨rfl, K1.out⟩
  by_cases b2 : 5 < x.lev
  · have b2' : (6 : Int) ≤ x.lev := by omega
    clear hb h3
    go_enter Tryz.func138, Tryz.ntmps138
    go_wp2
    go_ret
    exact ⟨rfl, K1.out⟩
  have b2' : ¬ (6 : Int) ≤ x.lev := by omega
  by_cases b3 : x.cnt < 1
  · clear hb h3
    go_enter Tryz.func138, Tryz.ntmps138
    go_wp2
    go_ret
    exact ⟨rfl, K1.out⟩
  have b4 : ltB x.high x.low = true := by
    rcases hb with a | a | a | a
    · exact absurd a b1
    · exact absurd a b2
    · exact absurd a b3
    · exact a
  rw [b4] at h3
  have hp : p = false := by cases p <;> simp at h3 ⊢
  have hq : q = false := by cases q <;> simp at h3 ⊢
  subst hp hq
  clear hb h3 b4
  go_enter Tryz.func138, Tryz.ntmps138
  go_wp2
  go_ret
  exact ⟨rfl, K1.out⟩
set_option maxHeartbeats 4000000 in
theorem add_table_ok (h : Hid (Dr B w db s tv sv lv mb)) (hok : Hid s.Ok) (x : Tb) (hb : Hid (¬ tabBad x)) (hf : x.file ≤ 9223372036854775807) (hn : Hid (s.tabs.length ≤ 1000000000 ∧ s.files.length ≤ 1000000000)) :
    Calls Tryz.prog 138 #[.pointer (some ⟨db, 0, none⟩), .agg #[.int .i64 x.file, .int .i64 x.lev, .int .i64 x.cnt, .string (bs x.low), .string (bs x.high)]] w (DoPost B db w (tabE s x) { s with tabs := insT x s.tabs }) := by
  obtain ⟨z, hz⟩ : ∃ z, z = tabE s x := ⟨_, rfl⟩
  rw [← hz]
  have HZ := Lib.hid (show z = if mayE s x.file = 0 then (if 0 < x.lev ∧ s.tabs.any (meets x) = true then 11 else 0) else mayE s x.file by rw [hz]; unfold tabE; rw [if_neg hb.out])
  clear hz
  have HB := Lib.hid (show B ≤ w.heap.size by have := h.out.lo; have := h.out.lt; omega)
  obtain ⟨w1, hw1⟩ : ∃ w1, w.alloc (.cells #[.int .i64 x.file, .int .i64 x.lev, .int .i64 x.cnt, .string (bs x.low), .string (bs x.high)] 42) = w1 := ⟨_, rfl⟩
  obtain ⟨xb, hxb⟩ : ∃ xb, xb = w.heap.size := ⟨_, rfl⟩
  have HXB := Lib.hid hxb
  have K1 := Lib.hid (show Below w.heap.size w w1 by rw [← hw1]; exact (Below.refl _ _).alloc (Nat.le_refl _) _)
  have D1 := Lib.hid (h.out.below K1.out)
  have X1 := Lib.hid (show w1.heap[xb]? = some (.cells #[.int .i64 x.file, .int .i64 x.lev, .int .i64 x.cnt, .string (bs x.low), .string (bs x.high)] 42 (0, 0)) by rw [← hw1, hxb]; exact heap_new w _)
  have HW1 := Lib.hid hw1
  have x0 : w1.cell? ⟨xb, 0, none⟩ = some (.int .i64 x.file) := by simp [World.cell?, X1.out]
  have x1 : w1.cell? ⟨xb, 1, none⟩ = some (.int .i64 x.lev) := by simp [World.cell?, X1.out]
  have x2 : w1.cell? ⟨xb, 2, none⟩ = some (.int .i64 x.cnt) := by simp [World.cell?, X1.out]
  have x3 : w1.cell? ⟨xb, 3, none⟩ = some (.string (bs x.low)) := by simp [World.cell?, X1.out]
  have x4 : w1.cell? ⟨xb, 4, none⟩ = some (.string (bs x.high)) := by simp [World.cell?, X1.out]
  have HM := Lib.hid (may_add D1 x.file hf)
  have HXD := Lib.hid (show xb ≠ db by have := h.out.lt; omega)
  obtain ⟨p, q, h1, h2, h3⟩ := leq_texts x.low x.high
  have n1 : ¬ x.lev < 0 := fun e => hb.out (.inl e)
  have n2 : ¬ (6 : Int) ≤ x.lev := fun e => hb.out (.inr (.inl (by omega)))
  have n3 : ¬ x.cnt < 1 := fun e => hb.out (.inr (.inr (.inl e)))
  have hhl : ltB x.high x.low = false := by
    cases e : ltB x.high x.low with
    | false => rfl
    | true => exact absurd (.inr (.inr (.inr e))) hb.out
  rw [hhl] at h3
  have hpq : (!p && !q) = false := by cases p <;> cases q <;> simp at h3 ⊢
  have hpq' : ¬ (p = false ∧ q = false) := by cases p <;> cases q <;> simp at h3 ⊢
  have HHL := Lib.hid hhl
  clear hw1 hxb h3 hhl
  obtain ⟨z2, hz2⟩ : ∃ z2, z2 = mayE s x.file := ⟨_, rfl⟩
  rw [← hz2] at HM HZ
  have HZ3 := Lib.hid hz2
  clear hz2
  by_cases hz0 : z2 = 0
  · subst hz0
    obtain ⟨hf1, hno⟩ := may_zero HZ3.out.symm
    have HNO := Lib.hid hno
    have HZ4 := Lib.hid (show z = if 0 < x.lev ∧ s.tabs.any (meets x) = true then 11 else 0 by rw [HZ.out]; simp)
    have hw : (Lit.int .i64 x.file).wf = true := wf_i64 (by omega) hf
    have HK := Lib.hid (show keyOf Tryz.prog 3 (.int .i64 x.file) = some (.int .i64 x.file) from keyOf_int_mk Tryz.underlying3 hw)
    obtain ⟨k, hk⟩ : ∃ k, k = lbT x s.tabs := ⟨_, rfl⟩
    have hkl : k ≤ s.tabs.length := by rw [hk]; exact lbT_le _ _
    have HA := Lib.hid (show ∀ i u, i < k → s.tabs[i]? = some u → cfT u x < 0 from fun i u hi hu => by
      have h4 := (lb_at x hok.out.rise hu).1 (hk ▸ hi)
      have h5 := cfT_neg u x
      rw [h4] at h5
      simpa using h5)
    have HBb := Lib.hid (show ∀ i u, k ≤ i → s.tabs[i]? = some u → 0 ≤ cfT u x from fun i u hi hu => by
      have h4 : tlt u x = false := by
        have := mt (lb_at x hok.out.rise hu).2 (by omega)
        simpa using this
      have h5 := cfT_neg u x
      rw [h4] at h5
      simpa using h5)
    have HKK := Lib.hid hk
    clear hno hw hk HZ3 HZ
    obtain ⟨sa, sc, hsv⟩ := OffRow.slice D1.out.tabs
    obtain ⟨n, hnl⟩ : ∃ n, n = s.tabs.length := ⟨_, rfl⟩
    rw [← hnl] at hsv hkl
    subst hsv
    have HN := Lib.hid hnl
    have hn9 : n ≤ 1000000000 := by have := hn.out.1; omega
    clear hnl
    go_enter Tryz.func138, Tryz.ntmps138
    go_upto_region 1 with (fail)
    rw [HW1.out, ← HXB.out]
    go_wp2_with fail
    refine HM.out.mono ?_
    rintro e w2 ⟨rfl, k2⟩
    have D2 := Lib.hid (D1.out.below k2)
    have K2 := Lib.hid ((K1.out.mono HB.out).trans (k2.mono (Nat.le_trans HB.out K1.out.size)))
    have X2 := Lib.hid ((k2.block xb (heap_lt X1.out)).trans X1.out)
    clear k2 h1 h2 hpq hpq' n1 n2 n3 x0 x1 x2 x3 x4
    have OS2 := Lib.hid (show OffRow w2 B 42 5 (.slice sa n sc) n (flat tcell s.tabs) by have := D2.out.tabs; unfold OwnTb at this; rw [← HN.out] at this; exact this)
    have q1 : w2.cell? ⟨db, 0, none⟩ = some (.slice sa n sc) := D2.out.cell 0
    have x0 : w2.cell? ⟨xb, 0, none⟩ = some (.int .i64 x.file) := by simp [World.cell?, X2.out]
    have x1 : w2.cell? ⟨xb, 1, none⟩ = some (.int .i64 x.lev) := by simp [World.cell?, X2.out]
    have x2 : w2.cell? ⟨xb, 2, none⟩ = some (.int .i64 x.cnt) := by simp [World.cell?, X2.out]
    have x3 : w2.cell? ⟨xb, 3, none⟩ = some (.string (bs x.low)) := by simp [World.cell?, X2.out]
    have x4 : w2.cell? ⟨xb, 4, none⟩ = some (.string (bs x.high)) := by simp [World.cell?, X2.out]
    have HFI := Lib.hid (find_T (Lib.hid OS2.out.rdL) HN hn9 x k hkl HA HBb)
    go_wp2_with fail
    refine HFI.out.mono ?_
    rintro e w3 ⟨rfl, k3⟩
    have D3 := Lib.hid (D2.out.below k3)
    have K3 := Lib.hid (K2.out.trans (k3.mono (Nat.le_trans HB.out K2.out.size)))
    have X3 := Lib.hid ((k3.block xb (heap_lt X2.out)).trans X2.out)
    have OS3 := Lib.hid (OffRow.kept OS2.out (w' := w3) fun j hj => k3.block j (OffRow.lt OS2.out j hj).2)
    clear k3 q1 x0 x1 x2 x3 x4 HFI HM D2 K2 X2 OS2
    obtain ⟨i0, hi0, hz0, hz1, hz2⟩ := info_parts infoTb
    obtain ⟨hi', hhi⟩ : ∃ hi', hi' = min (k + 1) n := ⟨_, rfl⟩
    obtain ⟨lo, hlo⟩ : ∃ lo, lo = k - 1 := ⟨_, rfl⟩
    obtain ⟨a3, hsl, ho3⟩ := slice_mid Tryz.underlying25 hi0 hz1 OS3.out (lo := lo) (hi' := hi') (by omega) (by omega)
    obtain ⟨m3, hm3⟩ : ∃ m3, m3 = hi' - lo := ⟨_, rfl⟩
    obtain ⟨c3, hc3⟩ : ∃ c3, c3 = sc - lo := ⟨_, rfl⟩
    rw [← hm3, ← hc3] at hsl ho3
    have HBS := Lib.hid (show OffRow w3 B 42 5 (.slice a3 m3 c3) m3 (flat tcell (besides s.tabs k)) ∧ m3 = (besides s.tabs k).length from by
      have e1 : (flat tcell s.tabs).take (hi' * 5) = flat tcell (s.tabs.take hi') := (flat_split tcell_len s.tabs hi' (by have := HN.out; omega)).1
      have e2 : (flat tcell (s.tabs.take hi')).drop (lo * 5) = flat tcell ((s.tabs.take hi').drop lo) := (flat_split tcell_len (s.tabs.take hi') lo (by rw [List.length_take]; have := HN.out; omega)).2
      rw [e1, e2] at ho3
      have e3 : besides s.tabs k = (s.tabs.take hi').drop lo := by unfold besides; rw [hhi, hlo, HN.out]
      rw [e3]
      exact ⟨ho3, by rw [List.length_drop, List.length_take, hm3]; have := HN.out; omega⟩)
    have hmx1 : max ((k : Int) - 1) 0 = (lo : Int) := by omega
    have hmn1 : min ((k : Int) + 1) (n : Int) = (hi' : Int) := by omega
    have HSL := Lib.hid (And.intro hhi (And.intro hlo (And.intro hm3 hc3)))
    have hm9 : m3 ≤ 1000000000 := by omega
    have HCO := Lib.hid (contains_P (t := x) (xb := xb) (Lib.hid HBS.out.1.rdL) (Lib.hid HBS.out.2) hm9 X3)
    have HMB := Lib.hid (show 0 < x.lev → s.tabs.any (meets x) = (besides s.tabs k).any (meets x) from fun hl => by
      rw [HKK.out]
      exact meets_beside hok.out.rise hok.out.apart (fun u hu => (hok.out.tab u hu).2.2.2) HHL.out hl)
    have y0 : w3.cell? ⟨xb, 0, none⟩ = some (.int .i64 x.file) := by simp [World.cell?, X3.out]
    have y1 : w3.cell? ⟨xb, 1, none⟩ = some (.int .i64 x.lev) := by simp [World.cell?, X3.out]
    have y2 : w3.cell? ⟨xb, 2, none⟩ = some (.int .i64 x.cnt) := by simp [World.cell?, X3.out]
    have y3 : w3.cell? ⟨xb, 3, none⟩ = some (.string (bs x.low)) := by simp [World.cell?, X3.out]
    have y4 : w3.cell? ⟨xb, 4, none⟩ = some (.string (bs x.high)) := by simp [World.cell?, X3.out]
    obtain ⟨r, hr⟩ : ∃ r, r = (besides s.tabs k).any (meets x) := ⟨_, rfl⟩
    rw [← hr] at HCO HMB
    clear hhi hlo hm3 hc3 ho3 hi0 hz0 hz1 hz2 hr HBS
    have HC3 : (0 < x.lev ∧ r = true) ∨ (0 < x.lev ∧ r = false) ∨ ¬ 0 < x.lev := by
      by_cases a : 0 < x.lev
      · cases r
        · exact .inr (.inl ⟨a, rfl⟩)
        · exact .inl ⟨a, rfl⟩
      · exact .inr (.inr a)
    rcases HC3 with ⟨hl, rfl⟩ | ⟨hl, rfl⟩ | hl
    · have hz11 := Lib.hid (show z = 11 by rw [HZ4.out, if_pos ⟨hl, HMB.out hl⟩])
      clear HZ4
      go_wp2_with fail
      refine HCO.out.mono ?_
      rintro e w4 ⟨rfl, k4⟩
      have K4 := Lib.hid (K3.out.trans (k4.mono (Nat.le_trans HB.out K3.out.size)))
      clear k4
      go_wp2
      go_ret
      rw [hz11.out]
      exact do_bad K4.out (by omega)
    case' inr.inl =>
      have hz11 := Lib.hid (show z = 0 ∧ ¬ (0 < x.lev ∧ s.tabs.any (meets x) = true) by
        have : ¬ (0 < x.lev ∧ s.tabs.any (meets x) = true) := fun e => by rw [HMB.out hl] at e; cases e.2
        exact ⟨by rw [HZ4.out, if_neg this], this⟩)
      clear HZ4
      go_wp2_with fail
      refine HCO.out.mono ?_
      rintro e w4 ⟨rfl, k4⟩
    case' inr.inr =>
      have hz11 := Lib.hid (show z = 0 ∧ ¬ (0 < x.lev ∧ s.tabs.any (meets x) = true) by
        have : ¬ (0 < x.lev ∧ s.tabs.any (meets x) = true) := fun e => hl e.1
        exact ⟨by rw [HZ4.out, if_neg this], this⟩)
      have hl2 : decide (0 < x.lev) = false := decide_eq_false hl
      clear HZ4
      go_upto_region 11 with (fail)
      obtain ⟨w4, hw4⟩ : ∃ w4, w4 = w3 := ⟨_, rfl⟩
      have k4 : Below w3.heap.size w3 w4 := by rw [hw4]; exact Below.refl _ _
      subst hw4
    all_goals
      have D4 := Lib.hid (D3.out.below k4)
      have K4 := Lib.hid (K3.out.trans (k4.mono (Nat.le_trans HB.out K3.out.size)))
      have X4 := Lib.hid ((k4.block xb (heap_lt X3.out)).trans X3.out)
      have OS4 := Lib.hid (OffRow.kept OS3.out (w' := w4) fun j hj => k4.block j (OffRow.lt OS3.out j hj).2)
      clear k4 HCO HMB hmx1 hmn1 hsl HSL hm9 D3 K3 X3 OS3 y0 y1 y2 y3 y4
      obtain ⟨w5, hw5⟩ : ∃ w5, w5 = w4.alloc (.cells #[.int .i64 x.file, .int .i64 x.lev, .int .i64 x.cnt, .string (bs x.low), .string (bs x.high)] 42) := ⟨_, rfl⟩
      have A4 := Lib.hid (show Below w4.heap.size w4 w5 by rw [hw5]; exact (Below.refl _ _).alloc (Nat.le_refl _) _)
      have V5 := Lib.hid (show w5.heap[w4.heap.size]? = some (.cells (tcell x).toArray 42 (0, 0)) by rw [hw5]; exact heap_new w4 _)
      have D5 := Lib.hid (D4.out.below A4.out)
      have HI := Lib.hid (insert_T (vb := w4.heap.size) (x := x) (i := k) (Lib.hid (OffRow.kept OS4.out (w' := w5) fun j hj => A4.out.block j (OffRow.lt OS4.out j hj).2)) HN hn9 hkl V5 (Lib.hid fun g hg e => by have := (OffRow.lt OS4.out g hg).2; omega) (Nat.le_trans HB.out (Nat.le_trans K4.out.size A4.out.size)))
      have z0 : w4.cell? ⟨xb, 0, none⟩ = some (.int .i64 x.file) := by simp [World.cell?, X4.out]
      have z1 : w4.cell? ⟨xb, 1, none⟩ = some (.int .i64 x.lev) := by simp [World.cell?, X4.out]
      have z2 : w4.cell? ⟨xb, 2, none⟩ = some (.int .i64 x.cnt) := by simp [World.cell?, X4.out]
      have z3 : w4.cell? ⟨xb, 3, none⟩ = some (.string (bs x.low)) := by simp [World.cell?, X4.out]
      have z4 : w4.cell? ⟨xb, 4, none⟩ = some (.string (bs x.high)) := by simp [World.cell?, X4.out]
      rw [hw5] at HI
      have HW5 := Lib.hid hw5
      clear hw5
      go_wp2_with fail
      refine HI.out.mono ?_
      rintro e w7 ⟨v7, rfl, hr7, hg7, hv7⟩
      rw [← HW5.out] at hg7 hv7
      obtain ⟨a7, c7, rfl⟩ := OffRow.slice hr7
      have k5 : ∀ j, j < w5.heap.size → (Value.slice sa n sc).ownBlock ≠ some j → w7.heap[j]? = w5.heap[j]? := fun j hj hne => hg7.block j hj (fun e => hne e.symm)
      have hnd : ∀ g, (Value.slice a7 (n + 1) c7).ownBlock = some g → g ≠ db := fun g hg2 => by
        rcases hv7 with e | e
        · exact (D5.out.nt (e ▸ hg2)).1
        · rw [e] at hg2
          have := D5.out.lt
          injection hg2 with hg2
          omega
      have e5 : w7.heap[db]? = _ := (k5 db D5.out.lt (fun e => (D5.out.nt e).1 rfl)).trans D5.out.obj
      have P := Lib.hid (D5.out.putT (show OwnTb w7 B (.slice a7 (n + 1) c7) (s.tabs.take k ++ x :: s.tabs.drop k) by
        unfold OwnTb
        rw [show (s.tabs.take k ++ x :: s.tabs.drop k).length = n + 1 by rw [List.length_append, List.length_take, List.length_cons, List.length_drop]; have := HN.out; omega]
        exact hr7) k5 hnd)
      have hins : insT x s.tabs = s.tabs.take k ++ x :: s.tabs.drop k := by
        rw [HKK.out]
        exact insT_lb x s.tabs (no_tie (x := ⟨1, x.file, x.lev, x.cnt, x.low, x.high⟩) HHL.out HNO.out hz11.out.2 (by have := hb.out; unfold tabBad at this; show 0 ≤ x.lev; omega) (fun t ht => (hok.out.tab t ht).2.2.2))
      have D7 := Lib.hid (show Dr0 B (w7.setCell ⟨db, 0, none⟩ (.slice a7 (n + 1) c7)) db { s with tabs := insT x s.tabs } s.files (.slice a7 (n + 1) c7) sv lv mb from ⟨P.out.1, D5.out.lo, by rw [hins]; exact P.out.2.1, P.out.2.2.1, P.out.2.2.2.1, P.out.2.2.2.2, D5.out.mlo⟩)
      have d7 : w7.cell? ⟨db, 0, none⟩ = some (.slice sa n sc) := by simp [World.cell?, e5]
      have f7 : w7.frozen? ⟨db, 0, none⟩ = false := by simp [World.frozen?, e5]
      have K7 := Lib.hid ((K4.out.trans (A4.out.mono (Nat.le_trans HB.out K4.out.size))).grown hg7 (Nat.le_trans HB.out (Nat.le_trans K4.out.size A4.out.size)) (fun j hj => (OffRow.lt OS4.out j hj).1))
      have K8 := Lib.hid (K7.out.setCell (p := ⟨db, 0, none⟩) D5.out.lo (.slice a7 (n + 1) c7))
      have X7 : w7.heap[xb]? = some (.cells #[.int .i64 x.file, .int .i64 x.lev, .int .i64 x.cnt, .string (bs x.low), .string (bs x.high)] 42 (0, 0)) := (k5 xb (Nat.lt_of_lt_of_le (heap_lt X4.out) A4.out.size) (fun e => by
        have := (OffRow.lt h.out.tabs xb (by exact e)).2
        have := HXB.out
        omega)).trans ((A4.out.block xb (heap_lt X4.out)).trans X4.out)
      obtain ⟨w8, hw8⟩ : ∃ w8, w8 = w7.setCell ⟨db, 0, none⟩ (.slice a7 (n + 1) c7) := ⟨_, rfl⟩
      have X8 : w8.heap[xb]? = some (.cells #[.int .i64 x.file, .int .i64 x.lev, .int .i64 x.cnt, .string (bs x.low), .string (bs x.high)] 42 (0, 0)) := by rw [hw8, heap_set_other HXD.out]; exact X7
      rw [← hw8] at D7 K8
      obtain ⟨l, hl9, hp9⟩ := D7.out.set
      have HL := Lib.hid (And.intro hl9 hp9)
      have u4 : ∀ q : Seen w8, q.val.cell? ⟨db, 4, none⟩ = some (.map (some mb)) := fun q => by rw [q.below.cell (p := ⟨db, 4, none⟩) (heap_lt D7.out.obj)]; simp [World.cell?, D7.out.obj]
      have u0 : ∀ q : Seen w8, q.val.cell? ⟨xb, 0, none⟩ = some (.int .i64 x.file) := fun q => by rw [q.below.cell (p := ⟨xb, 0, none⟩) (heap_lt X8)]; simp [World.cell?, X8]
      have hmx : s.files.length < maxLen := by have := hn.out.2; unfold maxLen; omega
      have HW8 := Lib.hid hw8
      clear hr7 hg7 hv7 k5 hnd e5 hins hl9 hp9 X7 X8 z0 z1 z2 z3 z4 V5 A4 HI P hw8
      go_wp2_with fail
      rw [← HW8.out]
      refine wp_region_seen_tail 7 (by kernel_rfl) (by kernel_rfl) ?_
      simp only [List.take_succ_cons, List.take_zero, List.drop_succ_cons, List.drop_zero]
      repeat go_big_quiet_step (fail)
      refine wpQuiet_nil ?_
      rintro _ ⟨m9, rfl⟩
      have HOW := Lib.hid (show m9.val.ownsMap Tryz.prog 3 (unitElem (H := Unit)) mb s.files.length (.map l) by
        obtain ⟨x', c, hb, r⟩ := HL.out.1
        exact ⟨x', c, (m9.below.block mb (heap_lt hb)).trans hb, r⟩)
      have D9 := Lib.hid (D7.out.turn (D7.out.set.kept (m9.below.block mb (by obtain ⟨x', c, e⟩ := D7.out.set.obj; exact heap_lt e))) fun j hj _ => m9.below.block j hj)
      have K9 := Lib.hid (K8.out.trans (m9.below.mono (Nat.le_trans HB.out K8.out.size)))
      clear u4 u0
      go_wp2_with (at_mapUpdate; refine wpList_mapUpdate_own _ rfl _ _ _ 102 rfl 3 164 keyedI Tryz.underlying102 _ mb _ _ rfl HOW.out hmx _ _ _ rfl rfl HK.out _ [] unitElem_mk ?_)
      intro w10 hown hgrow
      have S10 := Lib.hid (set_put HL.out.2 HNO.out hown)
      have G10 := Lib.hid hgrow
      clear hown hgrow
      go_wp2
      go_ret
      refine ⟨by rw [hz11.out.1]; rfl, K9.out.grown G10.out (Nat.le_trans HB.out K9.out.size) (fun j hj => by injection hj with hj; rw [← hj]; exact D9.out.mlo), fun _ => ?_⟩
      have d10 := D9.out.turn S10.out fun j hj hne => G10.out.block j hj (fun e => hne (by injection e))
      exact ⟨_, _, _, mb, Dr.of0 d10 (files_insT s x).symm⟩
  · have HZ5 := Lib.hid (show z = z2 by rw [HZ.out, if_neg hz0])
    clear HZ3 HZ
    go_enter Tryz.func138, Tryz.ntmps138
    go_upto_region 1 with (fail)
    rw [HW1.out, ← HXB.out]
    go_wp2_with fail
    refine HM.out.mono ?_
    rintro e w2 ⟨rfl, k2⟩
    have K2 := Lib.hid ((K1.out.mono HB.out).trans (k2.mono (Nat.le_trans HB.out K1.out.size)))
    clear k2
    go_wp2
    go_ret
    rw [HZ5.out]
    exact do_bad K2.out hz0
/-- A table more. -/
theorem add_table (h : Hid (Dr B w db s tv sv lv mb)) (hok : Hid s.Ok) (x : Tb) (hf : x.file ≤ 9223372036854775807) (hn : Hid (s.tabs.length ≤ 1000000000 ∧ s.files.length ≤ 1000000000)) :
    Calls Tryz.prog 138 #[.pointer (some ⟨db, 0, none⟩), .agg #[.int .i64 x.file, .int .i64 x.lev, .int .i64 x.cnt, .string (bs x.low), .string (bs x.high)]] w (DoPost B db w (tabE s x) { s with tabs := insT x s.tabs }) := by
  by_cases hb : tabBad x
  · refine (add_table_bad h x hb).mono ?_
    rintro e w' ⟨rfl, k⟩
    rw [show tabE s x = 1 by unfold tabE; rw [if_pos hb]]
    exact do_bad (k.mono (by have := h.out.lo; have := h.out.lt; omega)) (by omega)
  · exact add_table_ok h hok x (Lib.hid hb) hf hn
end Go.Proofs.YtfbaenhajlckjaaGreat
/-
  DERIVED: THE SHELF's CONTRACTS AT THIS DUMP, IN PLAIN WORDS (tools/lay-plain.mjs out of 'YtfbaenhajlckjaaGreatShelfTry.lean', which tools/lay-shelf.mjs wrote): THE SAME DECLARATIONS UNDER THE SAME NAMES: 'import', 'namespace', 'open', 'def', 'theorem' AND NOTHING ELSE: no command of the shelf's: FOR A HAND-IN. Each laying: the table of numbers ('.._ren') and one theorem, a field a fact of the dump's own or the kernel's comparison; each contract: ONE APPLICATION.
-/
namespace Go.Proofs
open Go.Shelf
def Tryz.sortT_ren : Go.Shelf.Ren := ⟨fun | 6 => 99 | 15 => 107 | 14 => 134 | 28 => 152 | 29 => 153 | 20 => 161 | 21 => 162 | 22 => 163 | 23 => 164 | 24 => 165 | 25 => 166 | 26 => 167 | 27 => 168 | 46 => 202 | 47 => 193 | 48 => 194 | 49 => 203 | 50 => 204 | 57 => 220 | n => n, fun | 22 => 25 | 24 => 42 | 25 => 166 | 3 => 3 | 39 => 174 | 0 => 0 | 53 => 226 | 55 => 196 | 4 => 4 | 46 => 219 | 45 => 218 | 50 => 96 | 5 => 5 | 9 => 9 | 66 => 257 | 70 => 183 | 76 => 283 | 77 => 284 | n => n, fun | n => n⟩
theorem Tryz.sortT : Go.Proofs.SlLaysF0.n6 Tryz.prog Tryz.sortT_ren := {
  mixed := by kernel_rfl
  f6 := ⟨Tryz.f99.name, by decide, Tryz.func99.trans (congrArg some (by kernel_rfl))⟩
  f14 := ⟨Tryz.f134.name, by decide, Tryz.func134.trans (congrArg some (by kernel_rfl))⟩
  f15 := Tryz.func107.trans (congrArg some (by kernel_rfl))
  f20 := ⟨Tryz.f161.name, by decide, Tryz.func161.trans (congrArg some (by kernel_rfl))⟩
  f21 := ⟨Tryz.f162.name, by decide, Tryz.func162.trans (congrArg some (by kernel_rfl))⟩
  f22 := ⟨Tryz.f163.name, by decide, Tryz.func163.trans (congrArg some (by kernel_rfl))⟩
  f23 := ⟨Tryz.f164.name, by decide, Tryz.func164.trans (congrArg some (by kernel_rfl))⟩
  f24 := ⟨Tryz.f165.name, by decide, Tryz.func165.trans (congrArg some (by kernel_rfl))⟩
  f25 := ⟨Tryz.f166.name, by decide, Tryz.func166.trans (congrArg some (by kernel_rfl))⟩
  f26 := ⟨Tryz.f167.name, by decide, Tryz.func167.trans (congrArg some (by kernel_rfl))⟩
  f27 := ⟨Tryz.f168.name, by decide, Tryz.func168.trans (congrArg some (by kernel_rfl))⟩
  f28 := Tryz.func152.trans (congrArg some (by kernel_rfl))
  f29 := Tryz.func153.trans (congrArg some (by kernel_rfl))
  f46 := ⟨Tryz.f202.name, by decide, Tryz.func202.trans (congrArg some (by kernel_rfl))⟩
  f47 := Tryz.func193.trans (congrArg some (by kernel_rfl))
  f48 := Tryz.func194.trans (congrArg some (by kernel_rfl))
  f49 := ⟨Tryz.f203.name, by decide, Tryz.func203.trans (congrArg some (by kernel_rfl))⟩
  f50 := ⟨Tryz.f204.name, by decide, Tryz.func204.trans (congrArg some (by kernel_rfl))⟩
  f57 := ⟨Tryz.f220.name, by decide, Tryz.func220.trans (congrArg some (by kernel_rfl))⟩
  t0 := Tryz.underlying0
  a0 := Tryz.isAgg0
  z0 := Tryz.sizeOf0
  v0 := Tryz.zeroValue0
  t3 := Tryz.underlying3
  a3 := Tryz.isAgg3
  z3 := Tryz.sizeOf3
  v3 := Tryz.zeroValue3
  t4 := Tryz.underlying4
  a4 := Tryz.isAgg4
  z4 := Tryz.sizeOf4
  v4 := Tryz.zeroValue4
  t5 := Tryz.underlying5
  a5 := Tryz.isAgg5
  z5 := Tryz.sizeOf5
  v5 := Tryz.zeroValue5
  t9 := Tryz.underlying9
  a9 := Tryz.isAgg9
  z9 := Tryz.sizeOf9
  v9 := Tryz.zeroValue9
  t22 := Tryz.underlying25
  a22 := Tryz.isAgg25
  z22 := Tryz.sizeOf25
  v22 := Tryz.zeroValue25
  t25 := Tryz.underlying166
  a25 := Tryz.isAgg166
  z25 := Tryz.sizeOf166
  v25 := Tryz.zeroValue166
  t39 := Tryz.underlying174
  a39 := Tryz.isAgg174
  z39 := Tryz.sizeOf174
  v39 := Tryz.zeroValue174
  t45 := Tryz.underlying218
  a45 := Tryz.isAgg218
  z45 := Tryz.sizeOf218
  v45 := Tryz.zeroValue218
  t46 := Tryz.underlying219
  a46 := Tryz.isAgg219
  z46 := Tryz.sizeOf219
  v46 := Tryz.zeroValue219
  t50 := Tryz.underlying96
  a50 := Tryz.isAgg96
  z50 := Tryz.sizeOf96
  v50 := Tryz.zeroValue96
  t53 := Tryz.underlying226
  a53 := Tryz.isAgg226
  z53 := Tryz.sizeOf226
  v53 := Tryz.zeroValue226
  t55 := Tryz.underlying196
  a55 := Tryz.isAgg196
  z55 := Tryz.sizeOf196
  v55 := Tryz.zeroValue196
  t66 := Tryz.underlying257
  a66 := Tryz.isAgg257
  z66 := Tryz.sizeOf257
  v66 := Tryz.zeroValue257
  t70 := Tryz.underlying183
  a70 := Tryz.isAgg183
  z70 := Tryz.sizeOf183
  v70 := Tryz.zeroValue183
  t76 := Tryz.underlying283
  a76 := Tryz.isAgg283
  z76 := Tryz.sizeOf283
  v76 := Tryz.zeroValue283
  t77 := Tryz.underlying284
  a77 := Tryz.isAgg284
  z77 := Tryz.sizeOf284
  v77 := Tryz.zeroValue284 }
def Tryz.sortS_ren : Go.Shelf.Ren := ⟨fun | 6 => 101 | 15 => 107 | 14 => 137 | 28 => 152 | 29 => 153 | 20 => 171 | 21 => 172 | 22 => 173 | 23 => 174 | 24 => 175 | 25 => 176 | 26 => 177 | 27 => 178 | 46 => 205 | 47 => 193 | 48 => 194 | 49 => 206 | 50 => 207 | 57 => 221 | n => n, fun | 22 => 26 | 24 => 107 | 25 => 168 | 3 => 3 | 39 => 174 | 0 => 0 | 53 => 226 | 55 => 196 | 4 => 4 | 46 => 219 | 45 => 218 | 50 => 96 | 5 => 5 | 9 => 9 | 66 => 257 | 70 => 183 | 76 => 283 | 77 => 284 | n => n, fun | n => n⟩
theorem Tryz.sortS : Go.Proofs.SlLaysF0.n6 Tryz.prog Tryz.sortS_ren := {
  mixed := by kernel_rfl
  f6 := ⟨Tryz.f101.name, by decide, Tryz.func101.trans (congrArg some (by kernel_rfl))⟩
  f14 := ⟨Tryz.f137.name, by decide, Tryz.func137.trans (congrArg some (by kernel_rfl))⟩
  f15 := Tryz.func107.trans (congrArg some (by kernel_rfl))
  f20 := ⟨Tryz.f171.name, by decide, Tryz.func171.trans (congrArg some (by kernel_rfl))⟩
  f21 := ⟨Tryz.f172.name, by decide, Tryz.func172.trans (congrArg some (by kernel_rfl))⟩
  f22 := ⟨Tryz.f173.name, by decide, Tryz.func173.trans (congrArg some (by kernel_rfl))⟩
  f23 := ⟨Tryz.f174.name, by decide, Tryz.func174.trans (congrArg some (by kernel_rfl))⟩
  f24 := ⟨Tryz.f175.name, by decide, Tryz.func175.trans (congrArg some (by kernel_rfl))⟩
  f25 := ⟨Tryz.f176.name, by decide, Tryz.func176.trans (congrArg some (by kernel_rfl))⟩
  f26 := ⟨Tryz.f177.name, by decide, Tryz.func177.trans (congrArg some (by kernel_rfl))⟩
  f27 := ⟨Tryz.f178.name, by decide, Tryz.func178.trans (congrArg some (by kernel_rfl))⟩
  f28 := Tryz.func152.trans (congrArg some (by kernel_rfl))
  f29 := Tryz.func153.trans (congrArg some (by kernel_rfl))
  f46 := ⟨Tryz.f205.name, by decide, Tryz.func205.trans (congrArg some (by kernel_rfl))⟩
  f47 := Tryz.func193.trans (congrArg some (by kernel_rfl))
  f48 := Tryz.func194.trans (congrArg some (by kernel_rfl))
  f49 := ⟨Tryz.f206.name, by decide, Tryz.func206.trans (congrArg some (by kernel_rfl))⟩
  f50 := ⟨Tryz.f207.name, by decide, Tryz.func207.trans (congrArg some (by kernel_rfl))⟩
  f57 := ⟨Tryz.f221.name, by decide, Tryz.func221.trans (congrArg some (by kernel_rfl))⟩
  t0 := Tryz.underlying0
  a0 := Tryz.isAgg0
  z0 := Tryz.sizeOf0
  v0 := Tryz.zeroValue0
  t3 := Tryz.underlying3
  a3 := Tryz.isAgg3
  z3 := Tryz.sizeOf3
  v3 := Tryz.zeroValue3
  t4 := Tryz.underlying4
  a4 := Tryz.isAgg4
  z4 := Tryz.sizeOf4
  v4 := Tryz.zeroValue4
  t5 := Tryz.underlying5
  a5 := Tryz.isAgg5
  z5 := Tryz.sizeOf5
  v5 := Tryz.zeroValue5
  t9 := Tryz.underlying9
  a9 := Tryz.isAgg9
  z9 := Tryz.sizeOf9
  v9 := Tryz.zeroValue9
  t22 := Tryz.underlying26
  a22 := Tryz.isAgg26
  z22 := Tryz.sizeOf26
  v22 := Tryz.zeroValue26
  t25 := Tryz.underlying168
  a25 := Tryz.isAgg168
  z25 := Tryz.sizeOf168
  v25 := Tryz.zeroValue168
  t39 := Tryz.underlying174
  a39 := Tryz.isAgg174
  z39 := Tryz.sizeOf174
  v39 := Tryz.zeroValue174
  t45 := Tryz.underlying218
  a45 := Tryz.isAgg218
  z45 := Tryz.sizeOf218
  v45 := Tryz.zeroValue218
  t46 := Tryz.underlying219
  a46 := Tryz.isAgg219
  z46 := Tryz.sizeOf219
  v46 := Tryz.zeroValue219
  t50 := Tryz.underlying96
  a50 := Tryz.isAgg96
  z50 := Tryz.sizeOf96
  v50 := Tryz.zeroValue96
  t53 := Tryz.underlying226
  a53 := Tryz.isAgg226
  z53 := Tryz.sizeOf226
  v53 := Tryz.zeroValue226
  t55 := Tryz.underlying196
  a55 := Tryz.isAgg196
  z55 := Tryz.sizeOf196
  v55 := Tryz.zeroValue196
  t66 := Tryz.underlying257
  a66 := Tryz.isAgg257
  z66 := Tryz.sizeOf257
  v66 := Tryz.zeroValue257
  t70 := Tryz.underlying183
  a70 := Tryz.isAgg183
  z70 := Tryz.sizeOf183
  v70 := Tryz.zeroValue183
  t76 := Tryz.underlying283
  a76 := Tryz.isAgg283
  z76 := Tryz.sizeOf283
  v76 := Tryz.zeroValue283
  t77 := Tryz.underlying284
  a77 := Tryz.isAgg284
  z77 := Tryz.sizeOf284
  v77 := Tryz.zeroValue284 }
def Tryz.sortI_ren : Go.Shelf.Ren := ⟨fun | 5 => 54 | 8 => 107 | 7 => 106 | 19 => 152 | 20 => 153 | 10 => 143 | 11 => 144 | 12 => 145 | 13 => 146 | 14 => 147 | 15 => 148 | 16 => 149 | 17 => 150 | 18 => 151 | 30 => 192 | 31 => 193 | 32 => 194 | 33 => 195 | 34 => 196 | 35 => 169 | 40 => 217 | n => n, fun | 23 => 27 | 25 => 3 | 3 => 3 | 32 => 174 | 22 => 27 | 0 => 0 | 44 => 226 | 46 => 196 | 4 => 4 | 36 => 219 | 35 => 218 | 41 => 96 | 5 => 5 | 9 => 9 | 53 => 257 | 57 => 183 | 63 => 283 | 64 => 284 | n => n, fun | n => n⟩
theorem Tryz.sortI : Go.Proofs.SlLaysM.n5 Tryz.prog Tryz.sortI_ren := {
  mixed := by kernel_rfl
  f5 := ⟨Tryz.f54.name, by decide, Tryz.func54.trans (congrArg some (by kernel_rfl))⟩
  f7 := ⟨Tryz.f106.name, by decide, Tryz.func106.trans (congrArg some (by kernel_rfl))⟩
  f8 := Tryz.func107.trans (congrArg some (by kernel_rfl))
  f10 := ⟨Tryz.f143.name, by decide, Tryz.func143.trans (congrArg some (by kernel_rfl))⟩
  f11 := ⟨Tryz.f144.name, by decide, Tryz.func144.trans (congrArg some (by kernel_rfl))⟩
  f12 := ⟨Tryz.f145.name, by decide, Tryz.func145.trans (congrArg some (by kernel_rfl))⟩
  f13 := ⟨Tryz.f146.name, by decide, Tryz.func146.trans (congrArg some (by kernel_rfl))⟩
  f14 := ⟨Tryz.f147.name, by decide, Tryz.func147.trans (congrArg some (by kernel_rfl))⟩
  f15 := ⟨Tryz.f148.name, by decide, Tryz.func148.trans (congrArg some (by kernel_rfl))⟩
  f16 := ⟨Tryz.f149.name, by decide, Tryz.func149.trans (congrArg some (by kernel_rfl))⟩
  f17 := ⟨Tryz.f150.name, by decide, Tryz.func150.trans (congrArg some (by kernel_rfl))⟩
  f18 := ⟨Tryz.f151.name, by decide, Tryz.func151.trans (congrArg some (by kernel_rfl))⟩
  f19 := Tryz.func152.trans (congrArg some (by kernel_rfl))
  f20 := Tryz.func153.trans (congrArg some (by kernel_rfl))
  f30 := ⟨Tryz.f192.name, by decide, Tryz.func192.trans (congrArg some (by kernel_rfl))⟩
  f31 := Tryz.func193.trans (congrArg some (by kernel_rfl))
  f32 := Tryz.func194.trans (congrArg some (by kernel_rfl))
  f33 := ⟨Tryz.f195.name, by decide, Tryz.func195.trans (congrArg some (by kernel_rfl))⟩
  f34 := ⟨Tryz.f196.name, by decide, Tryz.func196.trans (congrArg some (by kernel_rfl))⟩
  f35 := ⟨Tryz.f169.name, by decide, Tryz.func169.trans (congrArg some (by kernel_rfl))⟩
  f40 := ⟨Tryz.f217.name, by decide, Tryz.func217.trans (congrArg some (by kernel_rfl))⟩
  t0 := Tryz.underlying0
  a0 := Tryz.isAgg0
  z0 := Tryz.sizeOf0
  v0 := Tryz.zeroValue0
  t3 := Tryz.underlying3
  a3 := Tryz.isAgg3
  z3 := Tryz.sizeOf3
  v3 := Tryz.zeroValue3
  t4 := Tryz.underlying4
  a4 := Tryz.isAgg4
  z4 := Tryz.sizeOf4
  v4 := Tryz.zeroValue4
  t5 := Tryz.underlying5
  a5 := Tryz.isAgg5
  z5 := Tryz.sizeOf5
  v5 := Tryz.zeroValue5
  t9 := Tryz.underlying9
  a9 := Tryz.isAgg9
  z9 := Tryz.sizeOf9
  v9 := Tryz.zeroValue9
  t22 := Tryz.underlying27
  a22 := Tryz.isAgg27
  z22 := Tryz.sizeOf27
  v22 := Tryz.zeroValue27
  t23 := Tryz.underlying27
  a23 := Tryz.isAgg27
  z23 := Tryz.sizeOf27
  v23 := Tryz.zeroValue27
  t25 := Tryz.underlying3
  a25 := Tryz.isAgg3
  z25 := Tryz.sizeOf3
  v25 := Tryz.zeroValue3
  t32 := Tryz.underlying174
  a32 := Tryz.isAgg174
  z32 := Tryz.sizeOf174
  v32 := Tryz.zeroValue174
  t35 := Tryz.underlying218
  a35 := Tryz.isAgg218
  z35 := Tryz.sizeOf218
  v35 := Tryz.zeroValue218
  t36 := Tryz.underlying219
  a36 := Tryz.isAgg219
  z36 := Tryz.sizeOf219
  v36 := Tryz.zeroValue219
  t41 := Tryz.underlying96
  a41 := Tryz.isAgg96
  z41 := Tryz.sizeOf96
  v41 := Tryz.zeroValue96
  t44 := Tryz.underlying226
  a44 := Tryz.isAgg226
  z44 := Tryz.sizeOf226
  v44 := Tryz.zeroValue226
  t46 := Tryz.underlying196
  a46 := Tryz.isAgg196
  z46 := Tryz.sizeOf196
  v46 := Tryz.zeroValue196
  t53 := Tryz.underlying257
  a53 := Tryz.isAgg257
  z53 := Tryz.sizeOf257
  v53 := Tryz.zeroValue257
  t57 := Tryz.underlying183
  a57 := Tryz.isAgg183
  z57 := Tryz.sizeOf183
  v57 := Tryz.zeroValue183
  t63 := Tryz.underlying283
  a63 := Tryz.isAgg283
  z63 := Tryz.sizeOf283
  v63 := Tryz.zeroValue283
  t64 := Tryz.underlying284
  a64 := Tryz.isAgg284
  z64 := Tryz.sizeOf284
  v64 := Tryz.zeroValue284 }
def Tryz.cloneT_ren : Go.Shelf.Ren := ⟨fun | 41 => 127 | n => n, fun | 22 => 25 | 23 => 42 | 4 => 4 | n => n, fun | n => n⟩
theorem Tryz.cloneT : Go.Proofs.SlLaysE0.n41 Tryz.prog Tryz.cloneT_ren := {
  mixed := by kernel_rfl
  f41 := ⟨Tryz.f127.name, by decide, Tryz.func127.trans (congrArg some (by kernel_rfl))⟩
  t4 := Tryz.underlying4
  a4 := Tryz.isAgg4
  z4 := Tryz.sizeOf4
  v4 := Tryz.zeroValue4
  t22 := Tryz.underlying25
  a22 := Tryz.isAgg25
  z22 := Tryz.sizeOf25
  v22 := Tryz.zeroValue25 }
def Tryz.cloneS_ren : Go.Shelf.Ren := ⟨fun | 41 => 128 | n => n, fun | 22 => 26 | 23 => 107 | 4 => 4 | n => n, fun | n => n⟩
theorem Tryz.cloneS : Go.Proofs.SlLaysE0.n41 Tryz.prog Tryz.cloneS_ren := {
  mixed := by kernel_rfl
  f41 := ⟨Tryz.f128.name, by decide, Tryz.func128.trans (congrArg some (by kernel_rfl))⟩
  t4 := Tryz.underlying4
  a4 := Tryz.isAgg4
  z4 := Tryz.sizeOf4
  v4 := Tryz.zeroValue4
  t22 := Tryz.underlying26
  a22 := Tryz.isAgg26
  z22 := Tryz.sizeOf26
  v22 := Tryz.zeroValue26 }
def Tryz.cloneI_ren : Go.Shelf.Ren := ⟨fun | 41 => 53 | n => n, fun | 22 => 27 | 23 => 3 | 4 => 4 | n => n, fun | n => n⟩
theorem Tryz.cloneI : Go.Proofs.SlLaysE0.n41 Tryz.prog Tryz.cloneI_ren := {
  mixed := by kernel_rfl
  f41 := ⟨Tryz.f53.name, by decide, Tryz.func53.trans (congrArg some (by kernel_rfl))⟩
  t4 := Tryz.underlying4
  a4 := Tryz.isAgg4
  z4 := Tryz.sizeOf4
  v4 := Tryz.zeroValue4
  t22 := Tryz.underlying27
  a22 := Tryz.isAgg27
  z22 := Tryz.sizeOf27
  v22 := Tryz.zeroValue27 }
def Tryz.idxT_ren : Go.Shelf.Ren := ⟨fun | 6 => 133 | n => n, fun | 22 => 25 | 23 => 42 | 25 => 160 | 3 => 3 | 0 => 0 | 4 => 4 | n => n, fun | n => n⟩
theorem Tryz.idxT : Go.Proofs.SlLaysH0.n6 Tryz.prog Tryz.idxT_ren := {
  mixed := by kernel_rfl
  f6 := ⟨Tryz.f133.name, by decide, Tryz.func133.trans (congrArg some (by kernel_rfl))⟩
  t0 := Tryz.underlying0
  a0 := Tryz.isAgg0
  z0 := Tryz.sizeOf0
  v0 := Tryz.zeroValue0
  t3 := Tryz.underlying3
  a3 := Tryz.isAgg3
  z3 := Tryz.sizeOf3
  v3 := Tryz.zeroValue3
  t4 := Tryz.underlying4
  a4 := Tryz.isAgg4
  z4 := Tryz.sizeOf4
  v4 := Tryz.zeroValue4
  t22 := Tryz.underlying25
  a22 := Tryz.isAgg25
  z22 := Tryz.sizeOf25
  v22 := Tryz.zeroValue25
  t25 := Tryz.underlying160
  a25 := Tryz.isAgg160
  z25 := Tryz.sizeOf160
  v25 := Tryz.zeroValue160 }
def Tryz.idxS_ren : Go.Shelf.Ren := ⟨fun | 6 => 213 | n => n, fun | 22 => 26 | 23 => 107 | 25 => 254 | 3 => 3 | 0 => 0 | 4 => 4 | n => n, fun | n => n⟩
theorem Tryz.idxS : Go.Proofs.SlLaysH0.n6 Tryz.prog Tryz.idxS_ren := {
  mixed := by kernel_rfl
  f6 := ⟨Tryz.f213.name, by decide, Tryz.func213.trans (congrArg some (by kernel_rfl))⟩
  t0 := Tryz.underlying0
  a0 := Tryz.isAgg0
  z0 := Tryz.sizeOf0
  v0 := Tryz.zeroValue0
  t3 := Tryz.underlying3
  a3 := Tryz.isAgg3
  z3 := Tryz.sizeOf3
  v3 := Tryz.zeroValue3
  t4 := Tryz.underlying4
  a4 := Tryz.isAgg4
  z4 := Tryz.sizeOf4
  v4 := Tryz.zeroValue4
  t22 := Tryz.underlying26
  a22 := Tryz.isAgg26
  z22 := Tryz.sizeOf26
  v22 := Tryz.zeroValue26
  t25 := Tryz.underlying254
  a25 := Tryz.isAgg254
  z25 := Tryz.sizeOf254
  v25 := Tryz.zeroValue254 }
def Tryz.idxI_ren : Go.Shelf.Ren := ⟨fun | 6 => 215 | n => n, fun | 22 => 27 | 23 => 3 | 25 => 74 | 3 => 3 | 0 => 0 | 4 => 4 | n => n, fun | n => n⟩
theorem Tryz.idxI : Go.Proofs.SlLaysH0.n6 Tryz.prog Tryz.idxI_ren := {
  mixed := by kernel_rfl
  f6 := ⟨Tryz.f215.name, by decide, Tryz.func215.trans (congrArg some (by kernel_rfl))⟩
  t0 := Tryz.underlying0
  a0 := Tryz.isAgg0
  z0 := Tryz.sizeOf0
  v0 := Tryz.zeroValue0
  t3 := Tryz.underlying3
  a3 := Tryz.isAgg3
  z3 := Tryz.sizeOf3
  v3 := Tryz.zeroValue3
  t4 := Tryz.underlying4
  a4 := Tryz.isAgg4
  z4 := Tryz.sizeOf4
  v4 := Tryz.zeroValue4
  t22 := Tryz.underlying27
  a22 := Tryz.isAgg27
  z22 := Tryz.sizeOf27
  v22 := Tryz.zeroValue27
  t25 := Tryz.underlying74
  a25 := Tryz.isAgg74
  z25 := Tryz.sizeOf74
  v25 := Tryz.zeroValue74 }
def Tryz.hasT_ren : Go.Shelf.Ren := ⟨fun | 8 => 96 | 6 => 133 | n => n, fun | 22 => 25 | 23 => 42 | 25 => 160 | 4 => 4 | 3 => 3 | 0 => 0 | n => n, fun | n => n⟩
theorem Tryz.hasT : Go.Proofs.SlLaysH0.n8 Tryz.prog Tryz.hasT_ren := {
  mixed := by kernel_rfl
  f6 := ⟨Tryz.f133.name, by decide, Tryz.func133.trans (congrArg some (by kernel_rfl))⟩
  f8 := ⟨Tryz.f96.name, by decide, Tryz.func96.trans (congrArg some (by kernel_rfl))⟩
  t0 := Tryz.underlying0
  a0 := Tryz.isAgg0
  z0 := Tryz.sizeOf0
  v0 := Tryz.zeroValue0
  t3 := Tryz.underlying3
  a3 := Tryz.isAgg3
  z3 := Tryz.sizeOf3
  v3 := Tryz.zeroValue3
  t4 := Tryz.underlying4
  a4 := Tryz.isAgg4
  z4 := Tryz.sizeOf4
  v4 := Tryz.zeroValue4
  t22 := Tryz.underlying25
  a22 := Tryz.isAgg25
  z22 := Tryz.sizeOf25
  v22 := Tryz.zeroValue25
  t25 := Tryz.underlying160
  a25 := Tryz.isAgg160
  z25 := Tryz.sizeOf160
  v25 := Tryz.zeroValue160 }
def Tryz.delI_ren : Go.Shelf.Ren := ⟨fun | 45 => 216 | n => n, fun | 22 => 27 | 23 => 3 | 3 => 3 | 4 => 4 | 0 => 0 | n => n, fun | n => n⟩
theorem Tryz.delI : Go.Proofs.SlLaysE.n45 Tryz.prog Tryz.delI_ren := {
  mixed := by kernel_rfl
  f45 := ⟨Tryz.f216.name, by decide, Tryz.func216.trans (congrArg some (by kernel_rfl))⟩
  t0 := Tryz.underlying0
  a0 := Tryz.isAgg0
  z0 := Tryz.sizeOf0
  v0 := Tryz.zeroValue0
  t3 := Tryz.underlying3
  a3 := Tryz.isAgg3
  z3 := Tryz.sizeOf3
  v3 := Tryz.zeroValue3
  t4 := Tryz.underlying4
  a4 := Tryz.isAgg4
  z4 := Tryz.sizeOf4
  v4 := Tryz.zeroValue4
  t22 := Tryz.underlying27
  a22 := Tryz.isAgg27
  z22 := Tryz.sizeOf27
  v22 := Tryz.zeroValue27
  a23 := Tryz.isAgg3
  z23 := Tryz.sizeOf3 }
def Tryz.cmpI_ren : Go.Shelf.Ren := ⟨fun | 5 => 135 | 7 => 169 | n => n, fun | 22 => 3 | 3 => 3 | 4 => 4 | n => n, fun | n => n⟩
theorem Tryz.cmpI : Go.Proofs.SlLaysC2.n5 Tryz.prog Tryz.cmpI_ren := {
  mixed := by kernel_rfl
  f5 := ⟨Tryz.f135.name, by decide, Tryz.func135.trans (congrArg some (by kernel_rfl))⟩
  f7 := ⟨Tryz.f169.name, by decide, Tryz.func169.trans (congrArg some (by kernel_rfl))⟩
  t3 := Tryz.underlying3
  a3 := Tryz.isAgg3
  z3 := Tryz.sizeOf3
  v3 := Tryz.zeroValue3
  t4 := Tryz.underlying4
  a4 := Tryz.isAgg4
  z4 := Tryz.sizeOf4
  v4 := Tryz.zeroValue4
  t22 := Tryz.underlying3
  a22 := Tryz.isAgg3
  z22 := Tryz.sizeOf3
  v22 := Tryz.zeroValue3 }
end Go.Proofs
/- An element taken out of a row: the library's Delete, of one element; the place of the first that is sought. -/
set_option linter.unusedVariables false
set_option maxRecDepth 100000
namespace Go.Proofs.YtfbaenhajlckjaaGreat
open Go.RowKit

def DelPostT (B g off n cap i : Nat) (L : List Tb) (w : World) (e : Ending) (w' : World) : Prop :=
  ∃ v', e = .returned v' ∧ OffRow w' B 42 5 v' (n - 1) (flat tcell (L.eraseIdx i)) ∧ w.grownBy w' (some g) ∧ v'.ownBlock = some g
theorem flat_eraseT {L : List Tb} {i : Nat} (hi : i < L.length) : flat tcell (L.eraseIdx i) = (flat tcell L).take (i * 5) ++ (flat tcell L).drop ((i + 1) * 5) := by
  rw [List.eraseIdx_eq_take_drop_succ, flat_append, (flat_split tcell_len L i (by omega)).1, (flat_split tcell_len L (i + 1) (by omega)).2]

set_option maxHeartbeats 4000000 in
theorem delete_T {B n cap i g off : Nat} {L : List Tb} {w : World} (h : Hid (AtRow w 42 5 g off n cap (flat tcell L))) (hBg : B ≤ g) (hL : Hid (n = L.length)) (hn : n ≤ 1000000000) (hi : i < n) :
    Calls Tryz.prog 212 #[.slice (some ⟨g, off, none⟩) n cap, .int .i64 (i : Int), .int .i64 ((i : Int) + 1)] w (DelPostT B g off n cap i L w) := by
  have mixed : Tryz.prog.follows .mixedOrders = true := by kernel_rfl
  have HE := Lib.hid (flat_eraseT (L := L) (i := i) (by have := hL.out; omega))
  obtain ⟨i0, hi0, hz0, hz1, hz2⟩ := info_parts infoTb
  obtain ⟨m, rfl⟩ : ∃ m, n = m + 1 := ⟨n - 1, by omega⟩
  have him : i ≤ m := by omega
  have hxs : (flat tcell L).length = (m + 1) * 5 := h.out.len
  obtain ⟨cur, hg, hcs, hcc⟩ := h.out.obj
  have hcn : m + 1 ≤ cap := h.out.room
  have hmx : cap ≤ maxLen := h.out.max
  have hdl : ((flat tcell L).drop ((i + 1) * 5)).length = (m - i) * 5 := by rw [List.length_drop, hxs]; omega
  have hsrc : ∀ a2 c2, (i + 1 < cap → a2 = ⟨g, off + (i + 1) * 5, none⟩) → Src Tryz.prog 5 25 (.slice (some a2) (m - i) c2) (m - i) ((flat tcell L).drop ((i + 1) * 5)) w.drew := fun a2 c2 ha => by
    refine Src.ofSlice w.drew Tryz.underlying25 a2 (m - i) c2 _ hdl (fun j u hj => ?_) (fun v hv => flat_one' tcell_one L v (List.mem_of_mem_drop hv))
    have hlt : j < (m - i) * 5 := by rw [← hdl]; exact (List.getElem?_eq_some_iff.1 hj).1
    rw [ha (by omega), addr_add, Nat.add_assoc]
    rw [List.getElem?_drop] at hj
    exact h.out.cell hj
  have hap : ∀ ty a2 c2, (i + 1 < cap → a2 = ⟨g, off + (i + 1) * 5, none⟩) → (Builtin.append_ #[25, 25] ty #[.slice (some ⟨g, off, none⟩) i cap, .slice (some a2) (m - i) c2]).run Tryz.prog w.drew = .ok (.slice (some ⟨g, off, none⟩) m cap) (w.drew.setCells g (off + i * 5) ((flat tcell L).drop ((i + 1) * 5))) := fun ty a2 c2 ha => by
    have := run_append_room_src (P := Tryz.prog) w.drew 25 25 ty 42 i0 Tryz.underlying25 hi0 g off i cap _ (m - i) ((flat tcell L).drop ((i + 1) * 5)) (by rw [hz1]; exact hsrc a2 c2 ha) (by omega)
      (fun j hj => by rw [hz1, Nat.add_assoc]; exact h.out.some (by rw [hdl] at hj; omega)) (fun j hj => h.out.free _)
    rw [hz1, show i + (m - i) = m by omega] at this
    exact this
  obtain ⟨W1, hW1⟩ : ∃ W1, W1 = w.drew.setCells g (off + i * 5) ((flat tcell L).drop ((i + 1) * 5)) := ⟨_, rfl⟩
  obtain ⟨c1, a1, a2, _, _⟩ := setCells_heap ((flat tcell L).drop ((i + 1) * 5)) g (off + i * 5) w.drew cur 42 hg
  rw [← hW1] at a1
  have hcl : ∀ ty c, (Builtin.clear_ #[25] ty #[.slice (some ⟨g, off + m * 5, none⟩) 1 c]).run Tryz.prog W1 = .ok (.tuple #[]) (W1.setCells g (off + m * 5) (Value.agg #[.int .i64 0, .int .i64 0, .int .i64 0, .string ⟨#[]⟩, .string ⟨#[]⟩]).cells.toList) := fun ty c => by
    refine run_clear_one (P := Tryz.prog) W1 25 ty 42 i0 (Value.agg #[.int .i64 0, .int .i64 0, .int .i64 0, .string ⟨#[]⟩, .string ⟨#[]⟩]) 5 g (off + m * 5) c Tryz.underlying25 hi0 hz0 rfl (fun u hu => ?_) (fun j hj => by simp [World.cell?, a1]; omega) (fun j hj => by simp [World.frozen?, a1])
    simp [Value.cells] at hu
    rcases hu with rfl | rfl | rfl | rfl | rfl <;> rfl
  have HF := Lib.hid (show OffRow (W1.setCells g (off + m * 5) (Value.agg #[.int .i64 0, .int .i64 0, .int .i64 0, .string ⟨#[]⟩, .string ⟨#[]⟩]).cells.toList) B 42 5 (.slice (some ⟨g, off, none⟩) m cap) (m + 1 - 1) (flat tcell (L.eraseIdx i)) by
    rw [HE.out, hW1, Nat.add_sub_cancel]
    exact AtRow.off (AtRow.delete (w := w.drew) (h.out.kept (w' := w.drew) rfl) hi rfl rfl) hBg)
  have HG := Lib.hid (show w.grownBy (W1.setCells g (off + m * 5) (Value.agg #[.int .i64 0, .int .i64 0, .int .i64 0, .string ⟨#[]⟩, .string ⟨#[]⟩]).cells.toList) (some g) by
    rw [hW1]
    obtain ⟨p1, p2, p3, p4⟩ := setCells_meta ((flat tcell L).drop ((i + 1) * 5)) g (off + i * 5) w.drew
    obtain ⟨q1, q2, q3, q4⟩ := setCells_meta (Value.agg #[.int .i64 0, .int .i64 0, .int .i64 0, .string ⟨#[]⟩, .string ⟨#[]⟩]).cells.toList g (off + m * 5) (w.drew.setCells g (off + i * 5) ((flat tcell L).drop ((i + 1) * 5)))
    exact ⟨q1.trans p1, q2.trans p2, q3.trans p3, by rw [q4, p4]; exact Nat.le_refl _, fun k _ hk => (setCells_other _ _ _ _ _ (fun e => hk (by rw [e]))).trans (setCells_other _ _ _ _ _ (fun e => hk (by rw [e])))⟩)
  rw [← hW1] at hap
  have hb0 : (i : Int) ≤ (i : Int) + 1 := by omega
  have hb1 : (i : Int) + 1 ≤ ((m : Int) + 1) := by omega
  have hb2 : ((m : Int) + 1) ≤ (cap : Int) := by omega
  have hb3 : i ≤ cap := by omega
  have hb4 : (0 : Int) ≤ (i : Int) + 1 := by omega
  have htn : ((i : Int) + 1).toNat = i + 1 := by omega
  have hne : ¬ (i : Int) = (i : Int) + 1 := by omega
  have hmn : (m : Int) ≤ ((m : Int) + 1) := by omega
  have hmc : ¬ cap = m := by omega
  have hnm : m + 1 - m = 1 := by omega
  have hcap63 : (cap : Int) ≤ 9223372036854775807 := by unfold maxLen at hmx; omega
  have hib : (i : Int) ≤ (cap : Int) := by omega
  have hi1 : i + 1 ≤ cap := by omega
  have HX := Lib.hid (And.intro a1 (And.intro a2 (And.intro hcc (And.intro hcs (And.intro hxs hdl)))))
  clear a1 a2 hcc hcs hxs hdl hg hi0 hz0 hz1 hz2 hsrc hW1 hmx
  have hcs := Nat.lt_or_ge (i + 1) cap
  rcases hcs with hlt | hge
  · have hnc : ¬ cap = i + 1 := by omega
    have HAP := fun ty c2 => hap ty ⟨g, off + (i + 1) * 5, none⟩ c2 (fun _ => rfl)
    clear hap
    go_enter Tryz.func212, Tryz.ntmps212
    go_wp2_with fail
    go_region_law_o (refine step_append_runI rfl _ _ 25 25 rfl (.slice (some ⟨g, off, none⟩) i cap) (.slice (some ⟨g, off + (i + 1) * 5, none⟩) (m - i) (cap - (i + 1))) (by simp [Act.eval, Act.put]) (by simp [Act.eval, Act.put]) (HAP _ _) ?_)
    go_wp2_with (at_builtin; refine wpList_clear_runI rfl _ 25 rfl _ rfl (hcl _ _) ?_)
    go_ret
    exact ⟨_, rfl, HF.out, HG.out, rfl⟩
  · have hnc : (cap = i + 1) ↔ True := by constructor <;> (intro; first | trivial | omega)
    have HAP := fun ty c2 => hap ty ⟨g, off, none⟩ c2 (fun h => absurd h (by omega))
    clear hap hge
    go_enter Tryz.func212, Tryz.ntmps212
    go_wp2_with fail
    go_region_law_o (refine step_append_runI rfl _ _ 25 25 rfl (.slice (some ⟨g, off, none⟩) i cap) (.slice (some ⟨g, off, none⟩) (m - i) (cap - (i + 1))) (by simp [Act.eval, Act.put]) (by simp [Act.eval, Act.put]) (HAP _ _) ?_)
    go_wp2_with (at_builtin; refine wpList_clear_runI rfl _ 25 rfl _ rfl (hcl _ _) ?_)
    go_ret
    exact ⟨_, rfl, HF.out, HG.out, rfl⟩
end Go.Proofs.YtfbaenhajlckjaaGreat
/- The element with a file taken out of a list, where there is one. -/
set_option linter.unusedVariables false
set_option maxRecDepth 100000
namespace Go.Proofs.YtfbaenhajlckjaaGreat
open Go.RowKit

set_option maxHeartbeats 1000000 in
theorem sought_T (x : Tb) (f : Int) (fb : Nat) (w : World) (h : w.cell? ⟨fb, 0, none⟩ = some (.int .i64 f)) :
    Calls Tryz.prog 187 #[.agg #[.int .i64 x.file, .int .i64 x.lev, .int .i64 x.cnt, .string (bs x.low), .string (bs x.high)], .pointer (some ⟨fb, 0, none⟩)] w fun e w' => e = .returned (.bool (x.file == f)) ∧ Below w.heap.size w w' := by
  have hfb : fb < w.heap.size := cell_block h
  have hne : ¬ fb = w.heap.size := by omega
  obtain ⟨r, hr⟩ : ∃ r, (x.file == f) = r := ⟨_, rfl⟩
  rw [hr]
  cases r
  all_goals
    go_enter Tryz.func187, Tryz.ntmps187
    go_wp2
    go_ret
    exact ⟨rfl, (Below.refl _ _).alloc (Nat.le_refl _) _⟩
/-- Where the file stands, or nowhere. -/
def SeatT (L : List Tb) (f : Int) (e : Ending) : Prop :=
  (∃ (i : Nat) (x : Tb), L[i]? = some x ∧ x.file = f ∧ e = .returned (.int .i64 (i : Int))) ∨ ((∀ x ∈ L, x.file ≠ f) ∧ e = .returned (.int .i64 (-1)))
set_option maxHeartbeats 2000000 in
theorem index_T {T : Nat → Prop} {a : Option Addr} {n cap fb : Nat} {L : List Tb} {f : Int} {w : World} (h : Hid (RdL T w (.slice a n cap) n (flat tcell L))) (hL : Hid (n = L.length)) (hn : n ≤ 1000000000) (hf : Hid (w.cell? ⟨fb, 0, none⟩ = some (.int .i64 f))) :
    Calls Tryz.prog 133 #[.slice a n cap, .func (.func 187) #[] #[.pointer (some ⟨fb, 0, none⟩)]] w fun e w' => SeatT L f e ∧ Below w.heap.size w w' := by
  have eg : ∀ args w, (callFunc 187 args).run Tryz.prog w = .ok (.enter 187 args) w := enters_of Tryz.func187 (by kernel_rfl) rfl
  go_enter Tryz.func133, Tryz.ntmps133
  go_wp2_with fail
  go_loopw [8] (fun iv wr => ∃ i : Nat, i ≤ n ∧ iv = .int .i64 i ∧ Hid (∀ j y, j < i → L[j]? = some y → y.file ≠ f) ∧ Hid (Below w.heap.size w wr)) (fun iv wr => n - (intOf iv).toNat)
  case atStart => exact ⟨0, by omega, rfl, Lib.hid (fun j y hj => by omega), Lib.hid (Below.refl _ _)⟩
  case round =>
    obtain ⟨i, hi, rfl, hno, hB⟩ := hrel
    by_cases hlt : i < n
    · have hlt' : (i : Int) < (n : Int) := by omega
      obtain ⟨y, hy⟩ : ∃ y, L[i]? = some y := ⟨_, List.getElem?_eq_getElem (by have := hL.out; omega)⟩
      obtain ⟨b, off, rfl, ht, hb2, hc⟩ := RdL.atT h.out hy hlt
      have hcr : ∀ i' u, (tcell y)[i']? = some u → wr.cell? ⟨b, off + i * 5 + i', none⟩ = some u := fun i' u hu => by
        rw [← hc i' u hu]
        simp only [World.cell?, hB.out.block b hb2]
      have y0 : wr.cell? ⟨b, off + i * 5, none⟩ = _ := hcr 0 _ rfl
      have y1 := hcr 1 _ rfl
      have y2 := hcr 2 _ rfl
      have y3 := hcr 3 _ rfl
      have y4 := hcr 4 _ rfl
      have hfr : wr.cell? ⟨fb, 0, none⟩ = some (.int .i64 f) := by rw [hB.out.cell (p := ⟨fb, 0, none⟩) (cell_block hf.out)]; exact hf.out
      have HS := Lib.hid (sought_T y f fb wr hfr)
      have HY := Lib.hid hy
      clear hfr hy hc hcr
      obtain ⟨r, hr⟩ : ∃ r, (y.file == f) = r := ⟨_, rfl⟩
      rw [hr] at HS
      have HR := Lib.hid hr
      clear hr
      cases r with
      | true =>
        go_wp2_with fail
        refine HS.out.mono ?_
        rintro e w2 ⟨rfl, k2⟩
        have K2 := Lib.hid (hB.out.trans (k2.mono hB.out.size))
        clear k2
        go_wp2
        go_ret
        exact ⟨.inl ⟨i, y, HY.out, by simpa using HR.out, rfl⟩, K2.out⟩
      | false =>
        go_wp2_with fail
        refine HS.out.mono ?_
        rintro e w2 ⟨rfl, k2⟩
        have K2 := Lib.hid (hB.out.trans (k2.mono hB.out.size))
        clear k2
        go_wp2_with fail
        go_roundw
        case rel => exact ⟨i + 1, hlt, by go_num, Lib.hid (fun j z hj hz => by
          rcases Nat.lt_or_ge j i with e | e
          · exact hno.out j z e hz
          · obtain rfl : j = i := by omega
            rw [HY.out] at hz
            injection hz with hz
            subst hz
            simpa using HR.out), K2⟩
        case measure => simp [intOf]; omega
    · obtain rfl : i = n := by omega
      go_wp2
      go_ret
      refine ⟨.inr ⟨fun x hx => ?_, rfl⟩, hB.out⟩
      obtain ⟨j, hj, e⟩ := List.mem_iff_getElem.1 hx
      exact hno.out j x (by have := hL.out; omega) (by rw [← e]; exact List.getElem?_eq_getElem hj)
end Go.Proofs.YtfbaenhajlckjaaGreat
/- A list without the element of a file. -/
set_option linter.unusedVariables false
set_option maxRecDepth 100000
namespace Go.Proofs.YtfbaenhajlckjaaGreat
open Go.RowKit

def WithPostT (B : Nat) (a : Option Addr) (n cap : Nat) (L : List Tb) (f : Int) (w : World) (e : Ending) (w' : World) : Prop :=
  ∃ v' z L', e = .returned (.tuple #[v', .int .i64 z]) ∧ OffRow w' B 42 5 v' L'.length (flat tcell L') ∧ Only (fun k => (Value.slice a n cap).ownBlock = some k) w w' ∧ v'.ownBlock = (Value.slice a n cap).ownBlock ∧
    ((∃ i x, L[i]? = some x ∧ x.file = f ∧ z = 0 ∧ L' = L.eraseIdx i) ∨ ((∀ x ∈ L, x.file ≠ f) ∧ z = 9 ∧ L' = L))
set_option maxHeartbeats 2000000 in
theorem without_T {B n cap fb : Nat} {a : Option Addr} {L : List Tb} {f : Int} {w : World} (h : Hid (OffRow w B 42 5 (.slice a n cap) n (flat tcell L))) (hL : Hid (n = L.length)) (hn : n ≤ 1000000000) (hf : Hid (w.cell? ⟨fb, 0, none⟩ = some (.int .i64 f))) (hB : B ≤ w.heap.size) :
    Calls Tryz.prog 186 #[.slice a n cap, .func (.func 187) #[] #[.pointer (some ⟨fb, 0, none⟩)]] w (WithPostT B a n cap L f w) := by
  have HI := Lib.hid (index_T (Lib.hid h.out.rdL) hL hn hf)
  go_enter Tryz.func186, Tryz.ntmps186
  go_wp2_with fail
  refine HI.out.mono ?_
  rintro e w1 ⟨hs, k1⟩
  have K1 := Lib.hid k1
  have O1 := Lib.hid (OffRow.kept h.out (w' := w1) fun j hj => K1.out.block j (OffRow.lt h.out j hj).2)
  have HO1 := Lib.hid (show Only (fun k => (Value.slice a n cap).ownBlock = some k) w w1 from Only.of_below k1 (fun k hk hk2 => absurd hk (by omega)))
  clear k1
  rcases hs with ⟨i, x, hx, hxf, rfl⟩ | ⟨hno, rfl⟩
  · have hin : i < n := by have := (List.getElem?_eq_some_iff.1 hx).1; have := hL.out; omega
    have hcn := OffRow.cap_ge h.out
    obtain ⟨g, off, rfl, hBg, hr⟩ := OffRow.at' O1.out (by omega)
    have HD := Lib.hid (delete_T (Lib.hid hr) hBg hL hn hin)
    have HX := Lib.hid (And.intro hx hxf)
    have hi0 : ¬ (i : Int) < 0 := by omega
    clear hx hxf hr
    go_wp2_with fail
    refine HD.out.mono ?_
    rintro e w2 ⟨v', rfl, o2, g2, hv⟩
    have O2 := Lib.hid (And.intro o2 (And.intro g2 hv))
    clear o2 g2 hv
    go_wp2
    go_ret2
    refine ⟨v', 0, L.eraseIdx i, rfl, ?_, ?_, O2.out.2.2, .inl ⟨i, x, HX.out.1, HX.out.2, rfl, rfl⟩⟩
    · have := O2.out.1
      rw [List.length_eraseIdx_of_lt (by have := hL.out; omega), ← hL.out]
      exact this
    · exact HO1.out.grown O2.out.2.1 fun j hj => .inl (by rw [← hj]; rfl)
  · have HN := Lib.hid hno
    clear hno
    go_wp2
    go_ret2
    exact ⟨_, 9, L, rfl, by rw [← hL.out]; exact O1.out, HO1.out, rfl, .inr ⟨HN.out, rfl, rfl⟩⟩
end Go.Proofs.YtfbaenhajlckjaaGreat
