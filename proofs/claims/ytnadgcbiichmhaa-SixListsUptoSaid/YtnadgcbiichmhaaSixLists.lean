/- SixLists: lists of texts are put and taken text by text; any bytes are a list as the document says, or none. Condition: the arguments hold together at most 1048576 values and letters. -/
import Derived.Test.YtnadgcbiichmhaaRows
import Derived.Test.YtnadgcbiichmhaaRefLists
import Derived.Test.YtnadgcbiichmhaaBulk
import Derived.WalkKit
import Derived.ProofKit
import Derived.OpenShut
import Derived.ShutString
import Derived.ChangeOld
import Derived.Below
import Derived.JoinedCond
import Derived.SliceStrings
import Derived.Deep.QuietTactic
import Derived.BigQuiet
set_option linter.unusedVariables false
namespace Go.Proofs.Ytnadgcbiichmhaa.sixLists
open Go.ChangeShapes Go.WideShapes Go.ChangeAt Go.RowKit
open Go.ChangeMaps (open_string shut_string)

theorem own : ownKnob Try.prog.godebug = none := by kernel_rfl
theorem laidOut : laidOutB Try.prog = true := by kernel_rfl

def RowS (b off : Nat) (T : List ByteArray) (w : World) : Prop := ∀ k, k < T.length → b < w.heap.size ∧ w.cell? ⟨b, off + k, none⟩ = some (.string (T.getD k ByteArray.empty))

/-- The worlds that a call may come to that writes nothing that was there. -/
structure Seen (W : World) where
  val : World
  below : Below W.heap.size W val

instance seen_any (W : World) : Nonempty (Seen W) := ⟨⟨W, Below.refl _ _⟩⟩

/-- A region that draws its order and whose operations write nothing that was there: one walk in the order of the text. -/
theorem region_seen {P : Program} {id : Nat} {Q : Exit → Act → World → Prop} {a : Act} {w : World} {l : List Oper} (hm : P.follows .mixedOrders = true) (hB : Region.lexB .any l.toArray = true)
    (h : wpQuiet P l.toArray (fun w' => ∃ n : Seen w, w' = n.val) (fun a' => ∀ w', (∃ n : Seen w, w' = n.val) → Q .normal a' w') l a) : (Code.region id l.toArray true).wp P Q a w :=
  wp_region_quiet (C := fun w' => ∃ n : Seen w, w' = n.val) hm hB ⟨⟨w.drew, (Below.refl _ _).drew⟩, rfl⟩ (by simpa using h)

theorem seen_awake (W : World) (n : Seen W) : Calls Try.prog 13 #[] n.val fun e w'' => e = .returned (.bool true) ∧ ∃ m : Seen W, w'' = m.val :=
  (law_awake n.val).mono fun _ w'' ⟨h1, h2⟩ => ⟨h1, ⟨⟨w'', n.below.trans (h2.mono n.below.size)⟩, rfl⟩⟩
theorem seen_same (W : World) (va vb : Value) (T : List ByteArray) (ha : Hs W va T) (hb : Hs W vb T) (hl : T.length ≤ 50000000) (n : Seen W) : Calls Try.prog 28 #[va, vb] n.val fun e w'' => e = .returned (.bool true) ∧ ∃ m : Seen W, w'' = m.val :=
  (ref_Same va vb T n.val (ha.below n.below) (hb.below n.below) hl).mono fun _ w'' ⟨h1, h2⟩ => ⟨h1, ⟨⟨w'', n.below.trans (h2.mono n.below.size)⟩, rfl⟩⟩
theorem seen_rest (W : World) (q : Nat) (s : ByteArray) (h : Rt q s W) (n : Seen W) : Calls Try.prog 19 #[.pointer (some ⟨q, 0, none⟩)] n.val fun e w'' => e = .returned (.string s) ∧ ∃ m : Seen W, w'' = m.val :=
  (six_Rest q s n.val (h.below n.below h.lt)).mono fun _ _ ⟨h1, h2⟩ => ⟨h1, ⟨n, h2.symm⟩⟩

set_option maxHeartbeats 4000000 in
set_option maxRecDepth 100000 in
theorem core (a : Option Addr) (b1 off1 cap len : Nat) (T : List ByteArray) (s : ByteArray) (w : World) (hlen : Hid (len = T.length)) (hl : len ≤ 1048576) (hm : s.size ≤ 1048576)
    (hT : Hid (total T ≤ 1048576)) (hz : Hid (RowS b1 off1 T w)) (hab : Hid (len = 0 ∨ a = some ⟨b1, off1, none⟩)) (hHs : Hid (Hs w (.slice a len cap) T)) :
    Calls Try.prog 7 #[.slice a len cap, .string s] w fun e w' => e = .returned (.bool true) ∧ Below w.heap.size w w' := by
  obtain ⟨X, hX⟩ : ∃ X, X = whole (len : Int) ++ tt T := ⟨_, rfl⟩
  have HX := Lib.hid hX
  have hXl := Lib.hid (show X.length ≤ 40000000 by
    have h0 := (whole_len (n := (len : Int)) (by omega) (by omega)).1
    have h1 := tt_len T hT.out
    have h2 := hT.out
    have h3 := hlen.out
    rw [hX, List.length_append]
    omega)
  clear hX
  go_enter Try.func7, Try.ntmps7
  go_wp2_with fail
  refine (six_New w).mono ?_
  rintro e w1 ⟨rfl, hw1⟩
  have h1 := wt_new w
  rw [hw1] at h1
  have k1 : Below w.heap.size w w1 := by rw [← hw1]; exact (Below.refl _ _).alloc (Nat.le_refl _) _
  obtain ⟨B, hB⟩ : ∃ B, B = w.heap.size := ⟨_, rfl⟩
  rw [← hB] at h1
  have H1 := Lib.hid h1
  have K1 := Lib.hid k1
  have HB := Lib.hid hB
  rw [← hB]
  clear h1 k1 hw1 hB
  go_wp2_with fail
  refine (six_PutList B B T a b1 off1 len cap w1 H1.out hlen hl hT hab (Lib.hid fun k hk => ⟨by rw [HB.out]; exact (hz.out k hk).1, by rw [K1.out.cell (hz.out k hk).1]; exact (hz.out k hk).2⟩)).mono ?_
  rintro e w2 ⟨rfl, h2, k2⟩
  rw [← HX.out] at h2
  have H2 := Lib.hid h2
  have K2 := Lib.hid (K1.out.trans (k2.mono (Nat.le_of_eq HB.out.symm)))
  clear h2 k2
  go_wp2_with fail
  refine (ref_Whole (len : Int) w2 (by omega) (by omega)).mono ?_
  rintro e w3 ⟨rfl, k3⟩
  have H3 := Lib.hid (H2.out.keep k3)
  have K3 := Lib.hid (K2.out.trans (k3.mono K2.out.size))
  clear k3
  go_wp2_with fail
  go_loopw [7, 8] (fun t i wr => ∃ k : Nat, k ≤ len ∧ i = .int .i64 k ∧ t = .string (bs (whole (len : Int) ++ tt (T.take k))) ∧ Wt B B X wr ∧ Below w.heap.size w wr) (fun t i wr => len - (intOf i).toNat)
  case atStart => exact ⟨0, Nat.zero_le _, rfl, by simp [tt], H3.out, K3.out⟩
  case round =>
    obtain ⟨k, hk, rfl, rfl, hwt, hbw⟩ := hrel
    have HW := Lib.hid hwt
    have HK := Lib.hid hbw
    clear hwt hbw
    by_cases hlt : k < len
    · have hkT := Lib.hid (show k < T.length by rw [← hlen.out]; exact hlt)
      obtain ⟨hb, hc⟩ := hz.out k hkT.out
      have c1 : wr.cell? ⟨b1, off1 + k, none⟩ = some (.string (T.getD k ByteArray.empty)) := by rw [HK.out.cell hb]; exact hc
      have ha : a = some ⟨b1, off1, none⟩ := by rcases hab.out with h | h; (omega); (exact h)
      have hnext := Lib.hid (tt_next T k hkT.out)
      have hlw := Lib.hid (show (whole (len : Int) ++ tt (T.take k)).length ≤ 40000000 by
        have h0 := (whole_len (n := (len : Int)) (by omega) (by omega)).1
        have h1 := tt_len (T.take k) (by have := total_take T k; have := hT.out; omega)
        have h2 := total_take T k
        have h3 := hT.out
        rw [List.length_take] at h1
        rw [List.length_append]
        omega)
      have hus := Lib.hid (show (T.getD k ByteArray.empty).size ≤ 1048576 by have := total_get T k; have := hT.out; omega)
      clear hc hb
      generalize T.getD k ByteArray.empty = u at *
      have htl : (text u.data.toList).length ≤ 1048587 := by
        unfold text
        rw [List.length_append, ← Lib.size_eq]
        have := (whole_len (n := (u.size : Int)) (by omega) (by have := hus.out; omega)).1
        have := hus.out
        omega
      have hcat : bs (whole (len : Int) ++ tt (T.take k)) ++ bs (text u.data.toList) = bs (whole (len : Int) ++ (tt (T.take k) ++ text u.data.toList)) := by rw [bs_cat, bs_list, List.append_assoc]
      have hsum : ((bs (whole (len : Int) ++ tt (T.take k))).size : Int) + ((bs (text u.data.toList)).size : Int) ≤ 9223372036854775807 := by
        rw [bs_size, bs_size]
        have := hlw.out
        omega
      clear htl
      subst ha
      go_wp2_with fail
      refine (ref_Text u wr (by have := hus.out; omega)).mono ?_
      rintro e w4 ⟨rfl, k4⟩
      have HW4 := Lib.hid (HW.out.keep k4)
      have HK4 := Lib.hid (HK.out.trans (k4.mono HK.out.size))
      clear k4
      go_wp2
      go_roundw
      case rel => exact ⟨k + 1, by omega, by go_num, by rw [hnext.out], HW4.out, HK4.out⟩
      case measure => simp [intOf]; omega
    · have hwant : whole (len : Int) ++ tt (T.take k) = X := by rw [HX.out, List.take_of_length_le (by rw [← hlen.out]; omega)]
      rw [hwant]
      clear hwant
      go_wp2_with fail
      refine (six_Bytes B B X wr HW.out).mono ?_
      rintro e w4 ⟨rfl, h4, k4, _⟩
      have HK4 := Lib.hid (HK.out.trans (k4.mono (Nat.le_of_eq HB.out.symm)))
      clear h4 k4
      have hcat : bs X ++ s = bs (X ++ s.data.toList) := bs_cat X s
      have hsum : ((bs X).size : Int) + (s.size : Int) ≤ 9223372036854775807 := by rw [bs_size]; have := hXl.out; omega
      go_wp2_with fail
      refine (six_Over _ w4).mono ?_
      rintro e w5 ⟨rfl, hw5⟩
      have h5 := Rt.new (bs (X ++ s.data.toList)) w4
      rw [hw5] at h5
      have k5 : Below w.heap.size w w5 := by rw [← hw5]; exact HK4.out.alloc HK4.out.size _
      obtain ⟨r, hr⟩ : ∃ r, r = w4.heap.size := ⟨_, rfl⟩
      rw [← hr] at h5
      have hrw : w.heap.size ≤ r := by rw [hr]; exact HK4.out.size
      have HR := Lib.hid hrw
      have H5 := Lib.hid h5
      have HK5 := Lib.hid k5
      rw [← hr]
      clear h5 k5 hw5 hr hrw hcat hsum
      have hfl := Lib.hid (show FL (X ++ s.data.toList) = (T, X.length, 0) by
        have h := fl_tt T s.data.toList hT.out (by rw [← hlen.out]; exact hl)
        rw [← hlen.out, ← List.append_assoc, ← HX.out] at h
        exact h)
      go_wp2_with fail
      refine (six_TakeList r _ w5 H5.out (by rw [List.length_append, ← Lib.size_eq]; have := hXl.out; omega)).mono ?_
      rintro e w6 ⟨v, rfl, hv6, hr6, ho6⟩
      have q1 : fT (X ++ s.data.toList) = T := by unfold fT; rw [hfl.out]
      have q2 : fk (X ++ s.data.toList) = X.length := by unfold fk; rw [hfl.out]
      have q3 : fe (X ++ s.data.toList) = 0 := by unfold fe; rw [hfl.out]
      rw [q1] at hv6
      rw [q2, List.drop_left, ← bs_eq (s := s) rfl] at hr6
      rw [q3]
      have HV6 := Lib.hid hv6
      have HR6 := Lib.hid hr6
      have HK6 := Lib.hid (HK5.out.trans (ho6.below (fun j _ e => by have := HR.out; omega) HK5.out.size))
      clear hv6 hr6 ho6 q1 q2 q3
      go_wp2_with fail
      refine (ref_Same v (.slice a len cap) T w6 HV6.out (hHs.out.below HK6.out) (by rw [← hlen.out]; omega)).mono ?_
      rintro e w7 ⟨rfl, k7⟩
      have HR7 := Lib.hid (HR6.out.below k7 HR6.out.lt)
      have HK7 := Lib.hid (HK6.out.trans (k7.mono HK6.out.size))
      clear k7
      go_wp2_with fail
      refine (six_Rest r s w7 HR7.out).mono ?_
      rintro e w8 ⟨rfl, rfl⟩
      go_wp2_with fail
      refine (six_Over s w7).mono ?_
      rintro e w8 ⟨rfl, hw8⟩
      have h8 := Rt.new s w7
      rw [hw8] at h8
      have k8 : Below w.heap.size w w8 := by rw [← hw8]; exact HK7.out.alloc HK7.out.size _
      obtain ⟨q, hq⟩ : ∃ q, q = w7.heap.size := ⟨_, rfl⟩
      rw [← hq] at h8
      have hqw : w.heap.size ≤ q := by rw [hq]; exact HK7.out.size
      have HQ := Lib.hid hqw
      have H8 := Lib.hid (show Rt q (bs s.data.toList) w8 by rw [← bs_eq (s := s) rfl]; exact h8)
      have HK8 := Lib.hid k8
      rw [← hq]
      clear h8 k8 hw8 hq hqw
      go_wp2_with fail
      refine (six_TakeList q s.data.toList w8 H8.out (by rw [← Lib.size_eq]; omega)).mono ?_
      rintro e w9 ⟨vm, rfl, hv9, hr9, ho9⟩
      have HV9 := Lib.hid hv9
      have HR9 := Lib.hid hr9
      have HK9 := Lib.hid (HK8.out.trans (ho9.below (fun j _ e => by have := HQ.out; omega) HK8.out.size))
      clear hv9 hr9 ho9
      go_wp2_with fail
      refine (ref_ReadTexts s w9 (by omega)).mono ?_
      rintro e w10 ⟨vt, rfl, hv10, k10⟩
      have HVM := Lib.hid (HV9.out.below k10)
      have HVT := Lib.hid hv10
      have HRQ := Lib.hid (HR9.out.below k10 HR9.out.lt)
      have HK10 := Lib.hid (HK9.out.trans (k10.mono HK9.out.size))
      clear hv10 k10
      obtain ⟨hf1, hf2⟩ := fl_fine s.data.toList
      rw [← Lib.size_eq] at hf1
      have hfT := Lib.hid (show (fT s.data.toList).length ≤ 50000000 by have := ft_len s.data.toList; rw [← Lib.size_eq] at this; omega)
      have HREST := Lib.hid (show bs (s.data.toList.drop (fk s.data.toList)) = s.extract (fk s.data.toList) s.size from (bs_eq (extract_rest s _)).symm)
      rw [HREST.out] at HRQ
      generalize fT s.data.toList = TT at *
      generalize fk s.data.toList = kk at *
      generalize fe s.data.toList = ee at *
      have he5 : 0 ≤ ee ∧ ee ≤ 5 := by omega
      obtain ⟨he0, he1⟩ := he5
      clear hf2
      clear HX hXl hT hz hab hHs H1 K1 H2 K2 H3 K3 HW HK HK4 HR H5 HK5 hfl HV6 HR6 HK6 HR7 HK7 HQ H8 HK8 HV9 HR9 HK9 HREST hlen hlt
      go_wp2_with fail
      refine region_seen (by kernel_rfl) (by kernel_rfl) ?_
      repeat (go_big_quiet_step (first | (go_at_call 13; exact seen_awake _ _) | (go_at_call 28; exact seen_same _ vm vt TT HVM.out HVT.out hfT.out _) | (go_at_call 19; exact seen_rest _ q _ HRQ.out _)))
      refine wpQuiet_nil ?_
      rintro _ ⟨m, rfl⟩
      go_wp2
      go_ret
      exact ⟨rfl, HK10.out.trans (m.below.mono HK10.out.size)⟩

/-- WHAT IS KNOWN OF A SLICE OF TEXTS THAT CAME IN. -/
def IsTexts (w : World) (a : Option Addr) (len : Nat) (T : List ByteArray) : Prop :=
  len = T.length ∧ ∃ b off, (len = 0 ∨ a = some ⟨b, off, none⟩) ∧ RowS b off T w

theorem take_get {α : Type} (l : List α) (d : α) (n k : Nat) (h : k < n) : (l.take n).getD k d = l.getD k d := by
  simp [List.getD_eq_getElem?_getD, List.getElem?_take, h]

theorem texts_is {w : World} {x : Addr} {len cap : Nat} {ss : List ByteArray} (hl : len ≤ cap) (hz : ss.length = cap) (hcell : ∀ i, i < ss.length → w.cell? (x.add i) = some (.string (ss.getD i ByteArray.empty))) :
    IsTexts w (some x) len (ss.take len) := by
  refine ⟨by rw [List.length_take]; omega, ?_⟩
  by_cases h0 : len = 0
  · subst h0
    exact ⟨0, 0, .inl rfl, fun k hk => absurd hk (by simp)⟩
  · obtain ⟨b, off, spot⟩ := x
    have hspot : spot = none := by simpa [Addr.add] using World.cell?_spot (hcell 0 (by omega))
    subst hspot
    refine ⟨b, off, .inr rfl, fun k hk => ?_⟩
    have hk' : k < len := by rw [List.length_take] at hk; omega
    have h1 := hcell k (by omega)
    rw [add_plain] at h1
    rw [take_get ss ByteArray.empty len k hk']
    exact ⟨cell_block h1, h1⟩

theorem walk (a : Option Addr) (len cap : Nat) (T : List ByteArray) (s : ByteArray) (w : World) (h : IsTexts w a len T) (hl : len ≤ 1048576) (hm : s.size ≤ 1048576) (hT : total T ≤ 1048576) :
    Calls Try.prog 7 #[.slice a len cap, .string s] w fun e w' => e = .returned (.bool true) ∧ Below w.heap.size w w' := by
  obtain ⟨e1, b1, off1, hab, hz⟩ := h
  refine core a b1 off1 cap len T s w (Lib.hid e1) hl hm (Lib.hid hT) (Lib.hid hz) (Lib.hid hab) (Lib.hid ⟨a, cap, by rw [e1], ?_⟩)
  rcases hab with h0 | ha
  · exact .inl (List.length_eq_zero_iff.1 (by omega))
  · exact .inr ⟨b1, off1, ha, fun k hk => hz k hk⟩

theorem contract (H : Type) (enc : TypeId × Value → H) (W : World) (base : Nat) (args : Array Value) (ds gs : List (DataW H)) (before : List MemPlace)
    (hval : ∀ (j : Nat) t v, Try.f7.params[j]? = some t → args[j]? = some v → Value.okWide Try.prog W .any base t v)
    (hW : DataW.Whole enc Try.prog Try.f7.params.toList Rows.sixListsSpec.vars false W args.toList ds gs before) (hk : Rows.uptoSmall H (ds ++ gs) = true) :
    Calls Try.prog 7 args W fun e W' => ∃ v, e = .returned v ∧ Rows.sixListsSpec.post enc Try.prog Try.f7 false true false false W args v W' := by
  have hW' := hW
  obtain ⟨p, q, hA0, hV, rfl, hfz, hnd⟩ := hW
  have hA : DataW.TrodAll enc Try.prog W 0 (fun _ => true) true Try.f7.params.toList args.toList ds p := hA0
  rw [Try.params7] at hA hval
  obtain ⟨v0, vs0, d0, ds0, p0, q0, hargs, rfl, rfl, h0, r0⟩ := trodAll_cons hA
  obtain ⟨v1, vs1, d1, ds1, p1, q1, rfl, rfl, rfl, h1, r1⟩ := trodAll_cons r0
  obtain ⟨rfl, rfl, rfl⟩ := trodAll_nil r1
  obtain rfl : args = #[v0, v1] := by cases args; simp_all
  obtain ⟨rfl, rfl⟩ := trodVars_none hV
  obtain ⟨a0, len0, cap0, rfl⟩ := okWide_slice Try.underlying39 (hval 0 39 v0 rfl rfl)
  have k0 := h0
  have lt0 : ∀ x ∈ p0, x.block < W.heap.size := by obtain ⟨m, hm⟩ := k0; exact DataW.trod_lt m _ _ _ hm
  obtain ⟨T, i0, hl0⟩ : ∃ T, IsTexts W a0 len0 T ∧ total T + len0 ≤ Rows.uptoBulk d0 := by
    obtain ⟨fuel, hf⟩ := h0
    rcases open_strings Try.underlying39 Try.underlying9 (by kernel_rfl) hf with ⟨hcs, _⟩ | ⟨x, l, c, ss, hcs, _, hl, hm, hz, hx, hcell, hws⟩
    · simp [Value.cells] at hcs
      obtain ⟨rfl, rfl, rfl⟩ := hcs
      exact ⟨[], ⟨rfl, 0, 0, .inl rfl, fun k hk => absurd hk (by simp)⟩, by simp [total]⟩
    · simp [Value.cells] at hcs
      obtain ⟨rfl, rfl, rfl⟩ := hcs
      have hz' : ss.length = cap0 := by simpa using hz
      refine ⟨ss.take len0, texts_is hl hz' hcell, ?_⟩
      simp only [Prod.mk.injEq] at hx
      rw [hx.1]
      have h2 := bulk_slice (strs (H := H) (ss.take len0)) (strs (ss.drop len0))
      have h3 := bulk_strs (H := H) (ss.take len0)
      rw [List.length_take] at h3
      have h4 : min len0 ss.length = len0 := by omega
      rw [h4] at h3
      exact Nat.le_trans h3 h2
  obtain ⟨s, rfl, rfl, rfl, w1⟩ := open_string Try.underlying9 (hval 1 9 v1 rfl rfl) h1
  clear hA0
  simp only [List.append_nil] at hW' hk
  have hb := bulk_two hk
  have hb1 := bulk_string (H := H) s.data.toList
  rw [← Lib.size_eq] at hb1
  refine (walk a0 len0 cap0 T s W i0 (by omega) (by omega) (by omega)).mono fun e W' ⟨he, bel⟩ => ?_
  subst he
  exact ⟨_, rfl, _, _, _, [], _, [], hW', trodAll_mk1 (shut_bool Try.underlying4 _), (trodAll_cons_mk (Below.trod laidOut (by kernel_rfl) (of_decide_eq_true (by kernel_rfl)) k0 bel lt0) (trodAll_cons_mk (shut_string Try.underlying9 w1) trodAll_mk0)), rfl, bel.frame _, fun h => by cases h⟩

set_option maxRecDepth 100000 in
theorem lifted (os : Os) (started : os.Started) (H : Type) (enc : TypeId × Value → H) (F : Stop.Interp) :
    ReturnsInHanded {} Try.checked os 7 .any ((Rows.OpenSpec.upto Rows.sixListsSpec).pre6 enc Try.prog Try.f7 Rows.sixListsUptoRow.domain false) (((Rows.OpenSpec.upto Rows.sixListsSpec).at F).post enc Try.prog Try.f7 false true false false) := by
  refine returnsInHanded_of_cond (C := Try.checked) (s := Rows.OpenSpec.upto Rows.sixListsSpec) (k := Rows.uptoSmall) rfl own started (by kernel_rfl) Try.func7
    (OpenSpec.witness (enc := enc) (C := Try.checked) (s := Rows.OpenSpec.upto Rows.sixListsSpec) (k := Rows.uptoSmall) rfl false ⟨#[], #[.slice none 0 0, .string ByteArray.empty], []⟩ 8 (by kernel_rfl) (by kernel_rfl) (by kernel_rfl)
      (x := ([.nil, .lit (.string [])], [], [])) (by kernel_rfl) rfl (by kernel_rfl)) ?_
  intro W base args ds gs before hval hW _ hk _
  exact contract H enc W base args ds gs before hval hW hk

theorem proved : Rows.SixListsUptoSaid :=
  OpenClaim.holds_of_cond 7 Try.f7 rfl rfl rfl rfl rfl rfl rfl ⟨rfl, rfl, rfl, rfl, rfl⟩ rfl rfl rfl rfl rfl (by kernel_rfl) Try.func7 (by kernel_rfl)
    (of_decide_eq_true (by kernel_rfl)) (by unfold Func.isWrapper; first | (rw [if_pos (by decide +kernel)]; kernel_rfl) | (rw [if_neg (by decide +kernel)]; exact ⟨rfl, rfl⟩))
    (fun os started H enc _ F => lifted os started H enc F)
#print axioms proved
end Go.Proofs.Ytnadgcbiichmhaa.sixLists
