/- BoxSplits -/
import Derived.Test.YtlpknhiagdhkcaaRows
import Derived.Test.YtlpknhiagdhkcaaBSp12
import Derived.Test.YtlpknhiagdhkcaaBSp06
import Derived.Test.YtlpknhiagdhkcaaBSp05
import Derived.SliceStrings
import Derived.ChangeOld
import Derived.ShutString
import Derived.ProofKit
import Derived.OpenShut
import Derived.WalkKit
import Derived.Below
/- BoxSplits: of any bytes the records are told that they begin with, and where each stands. -/
set_option linter.unusedVariables false
set_option maxRecDepth 100000
namespace Go.Proofs.Ytlpknhiagdhkcaa.LBoxSplits
open Go.ChangeShapes Go.WideShapes Go.ChangeAt Go.RowKit
open Go.ChangeMaps (open_string shut_string)


theorem quiet_neq_agg {P : Program} {o : Oper} {a : Act} {C : World → Prop} {K : Act → Prop} (t ty : TypeId) (x y : Operand) (ho : o.op = .binOp .neq t x y ty) (xs ys : Array Value) (hx : a.eval x = .agg xs) (hy : a.eval y = .agg ys) (b : Bool)
    (hm : P.eqGuardType P.depth t = false) (hS : ∀ w, C w → (binOp .neq t (.agg xs) (.agg ys)).run P w = .ok (.bool b) w) (hk : K (a.put o.dst (.bool b))) : o.quiet P a C K :=
  ⟨_, fun w hw => by
    unfold Oper.quietAt execOp
    simp only [ho, hx, hy, Sem.run_bind, run_eqGuard_agg _ _ _ _ _ _ _ hm, Result.andThen_ok, hS w hw]
    exact ⟨rfl, rfl⟩, hk⟩
theorem guard_rec : Try.prog.eqGuardType Try.prog.depth 30 = false := by kernel_rfl
def catP : List RecB → List UInt8
  | [] => []
  | r :: L => packT r ++ catP L
theorem catP_snoc : ∀ (L : List RecB) (r : RecB), catP (L ++ [r]) = catP L ++ packT r
  | [], r => by show packT r ++ [] = [] ++ packT r; simp
  | x :: L, r => by show packT x ++ catP (L ++ [r]) = packT x ++ catP L ++ packT r; rw [catP_snoc L r, List.append_assoc]
theorem packT_le {r : RecB} (h : r.Ok) (hb : r.body.length ≤ 9223372036854775807) : (packT r).length ≤ r.body.length + 80 := by
  unfold packT
  split
  · rw [packL_len]; have := partsR_le h hb; omega
  · simp
theorem catP_le : ∀ (L : List RecB), (∀ r ∈ L, r.Ok ∧ r.body.length ≤ 9223372036854775807) → (catP L).length ≤ sumB L
  | [], _ => Nat.le_refl _
  | r :: L, h => by
    have h1 := packT_le (h r (List.mem_cons_self ..)).1 (h r (List.mem_cons_self ..)).2
    have h2 := catP_le L (fun x hx => h x (List.mem_cons_of_mem _ hx))
    show (packT r ++ catP L).length ≤ r.body.length + 80 + sumB L
    rw [List.length_append]; omega
theorem take_succ_get {α : Type} {L : List α} {i : Nat} {x : α} (h : L[i]? = some x) : L.take (i + 1) = L.take i ++ [x] := by rw [List.take_add_one, h]; rfl
theorem sumB_take (L : List RecB) (i : Nat) : sumB (L.take i) ≤ sumB L := by
  induction L generalizing i with
  | nil => simp
  | cons r L ih =>
    cases i with
    | zero => exact Nat.zero_le _
    | succ i => have := ih i; show r.body.length + 80 + sumB (L.take i) ≤ r.body.length + 80 + sumB L; omega
theorem splitR_sum (n : Nat) : ∀ l : List UInt8, l.length ≤ n → sumK (splitR l).1 = (splitR l).2 ∧ (splitR l).2 ≤ l.length := by
  induction n with
  | zero =>
    intro l hl
    have h0 : fstR l = none := by
      rcases hf : fstR l with _ | ⟨r, k⟩
      · rfl
      · have := fst_lt hf; omega
    rw [splitR_none h0]; exact ⟨rfl, Nat.zero_le _⟩
  | succ n ih =>
    intro l hl
    rcases hf : fstR l with _ | ⟨r, k⟩
    · rw [splitR_none hf]; exact ⟨rfl, Nat.zero_le _⟩
    · have hlt := fst_lt hf
      obtain ⟨i1, i2⟩ := ih (l.drop k) (by rw [List.length_drop]; omega)
      rw [List.length_drop] at i2
      rw [splitR_some hf]
      refine ⟨?_, ?_⟩
      · show k + sumK (splitR (l.drop k)).1 = k + (splitR (l.drop k)).2
        rw [i1]
      · show k + (splitR (l.drop k)).2 ≤ l.length
        omega
theorem sumK_take (L : List (RecB × Nat)) (i : Nat) : sumK (L.take i) ≤ sumK L := by
  induction L generalizing i with
  | nil => simp
  | cons r L ih =>
    cases i with
    | zero => exact Nat.zero_le _
    | succ i => have := ih i; show r.2 + sumK (L.take i) ≤ r.2 + sumK L; omega
theorem items_get : ∀ (L : List (RecB × Nat)) (a i : Nat) (r : RecB) (k : Nat), L[i]? = some (r, k) → (itemsL L a)[i]? = some (a + sumK (L.take i), k, r) ∧ (endsL L a)[i]? = some (a + sumK (L.take i) + k) ∧ (fsts L)[i]? = some r
  | [], a, i, r, k, h => by simp at h
  | x :: L, a, 0, r, k, h => by simp at h; subst h; exact ⟨rfl, rfl, rfl⟩
  | x :: L, a, i + 1, r, k, h => by
    obtain ⟨h1, h2, h3⟩ := items_get L (a + x.2) i r k (by simpa using h)
    refine ⟨?_, ?_, h3⟩
    · show (itemsL L (a + x.2))[i]? = some (a + (x.2 + sumK (L.take i)), k, r)
      rw [h1]; congr 2; omega
    · show (endsL L (a + x.2))[i]? = some (a + (x.2 + sumK (L.take i)) + k)
      rw [h2]; congr 1; omega
theorem flat_get {α : Type} (f : α → List Value) (size : Nat) : ∀ (L : List α), (∀ x ∈ L, (f x).length = size) → ∀ (i : Nat) (x : α), L[i]? = some x → ∀ j, j < size → (L.flatMap f)[i * size + j]? = (f x)[j]?
  | [], _, i, x, h, j, _ => by simp at h
  | y :: L, hs, 0, x, h, j, hj => by
    simp at h; subst h
    rw [Nat.zero_mul, Nat.zero_add, List.flatMap_cons, List.getElem?_append_left (by rw [hs y (List.mem_cons_self ..)]; exact hj)]
  | y :: L, hs, i + 1, x, h, j, hj => by
    have := flat_get f size L (fun z hz => hs z (List.mem_cons_of_mem _ hz)) i x (by simpa using h) j hj
    rw [List.flatMap_cons, List.getElem?_append_right (by rw [hs y (List.mem_cons_self ..), Nat.succ_mul]; omega), hs y (List.mem_cons_self ..)]
    rw [show (i + 1) * size + j - size = i * size + j by rw [Nat.succ_mul]; omega]
    exact this
theorem flat_one {α : Type} (f : α → Value) : ∀ L : List α, L.flatMap (fun x => [f x]) = L.map f
  | [] => rfl
  | x :: L => by rw [List.flatMap_cons, flat_one f L]; rfl
theorem row_range {α : Type} {f : α → List Value} {size : Nat} {L : List α} (hs : ∀ x ∈ L, (f x).length = size) {w : World} {B : Nat} {e : TypeId} {v : Value} (h : OffRow w B e size v L.length (L.flatMap f)) {i : Nat} {x : α} (hx : L[i]? = some x) :
    ∃ g off cap, v = .slice (some ⟨g, off, none⟩) L.length cap ∧ g < w.heap.size ∧ w.rangeAt g (off + i * size) (f x) := by
  have hi : i < L.length := (List.getElem?_eq_some_iff.1 hx).1
  obtain ⟨g, off, cap, cur, rfl, hB, hg, hc⟩ := OffRow.form h (by omega)
  have hl := hs x (List.mem_of_getElem? hx)
  refine ⟨g, off, cap, rfl, heap_lt hg, fun j u hj => ?_⟩
  have hjl : j < size := by rw [← hl]; exact (List.getElem?_eq_some_iff.1 hj).1
  have h1 : i * size + j < L.length * size := by
    have : (i + 1) * size ≤ L.length * size := Nat.mul_le_mul_right _ hi
    rw [Nat.succ_mul] at this; omega
  rw [Nat.add_assoc, hc _ h1, flat_get f size L hs i x hx j hjl, hj]

set_option maxHeartbeats 16000000 in
theorem core (a : Option Addr) (len cap : Nat) (T : List RecB) (s : ByteArray) (w : World) (h : InR w a len cap T) (hs0 : s.size ≤ maxLen) : Calls Try.prog 5 #[.slice a len cap, .string s] w fun e w' => e = .returned (.bool true) ∧ Below w.heap.size w w' := by
  have HI := Lib.hid h
  have hbig := h.big
  have HSL := Lib.hid (show s.data.toList.length = s.size by rw [← Lib.size_eq])
  clear h
  go_enter Try.func5, Try.ntmps5
  go_wp2_with fail
  refine (law_awake17 w).mono ?_
  rintro e w1 ⟨rfl, k1⟩
  have K1 := Lib.hid k1
  clear k1
  go_wp2_with fail
  refine (law_few17 a len cap T w1 (HI.out.below K1.out)).mono ?_
  rintro e _ ⟨rfl, rfl⟩
  obtain ⟨fb, hfb⟩ : ∃ x, x = fewB T := ⟨_, rfl⟩
  rw [← hfb]
  have HFB := Lib.hid hfb
  clear hfb
  have hno : (fb = false ∨ (fb = true ∧ 30000 < s.size)) ∨ (fb = true ∧ ¬ 30000 < s.size) := by
    cases fb
    · exact .inl (.inl rfl)
    · by_cases h : 30000 < s.size
      · exact .inl (.inr ⟨rfl, h⟩)
      · exact .inr ⟨rfl, h⟩
  rcases hno with (rfl | ⟨rfl, h2⟩) | ⟨rfl, h2⟩
  · go_wp2_with fail
    refine (law_awake17 w1).mono ?_
    rintro e w3 ⟨rfl, k3⟩
    have K3 := Lib.hid (K1.out.trans (k3.mono K1.out.size))
    clear k3
    go_wp2
    go_ret
    exact ⟨rfl, K3.out⟩
  · have h2' : (30000 : Int) < (s.size : Int) := by omega
    clear h2
    go_wp2_with fail
    refine (law_awake17 w1).mono ?_
    rintro e w3 ⟨rfl, k3⟩
    have K3 := Lib.hid (K1.out.trans (k3.mono K1.out.size))
    clear k3
    go_wp2
    go_ret
    exact ⟨rfl, K3.out⟩
  · have h2' : ¬ (30000 : Int) < (s.size : Int) := by omega
    obtain ⟨f1, f2⟩ := few_of HFB.out.symm
    have F1 := Lib.hid f1
    have F2 := Lib.hid f2
    have hss : s.size ≤ 30000 := by omega
    have hll : len ≤ 200 := by rw [HI.out.lenT]; exact f1
    clear f1 f2 h2 hbig HFB
    go_upto_region 4 with (fail)
    clear h2'
    go_wp2_with fail
    go_loopw [5, 6] (fun va vi wr => ∃ (i : Nat) (A : List UInt8), i ≤ len ∧ vi = .int .i64 (i : Int) ∧ va = .string (bs A) ∧ Hid (A = catP (T.take i)) ∧ Hid (Below w.heap.size w wr)) (fun va vi wr => len - (intOf vi).toNat)
    case atStart => exact ⟨0, [], Nat.zero_le _, rfl, rfl, Lib.hid rfl, K1⟩
    case round =>
      obtain ⟨i, A, hi, rfl, rfl, HA, HK⟩ := hrel
      have HAL := Lib.hid (show A.length ≤ 60000 by
        rw [HA.out]
        exact Nat.le_trans (catP_le _ (fun r hr => HI.out.fit r (List.mem_of_mem_take hr))) (Nat.le_trans (sumB_take T i) F2.out))
      by_cases hil : i < len
      · obtain ⟨b, off, r, rfl, hTi, hbw, hrg, hok, hbl⟩ := (HI.out.below HK.out).at hil
        have RG := Lib.hid (show wr.rangeAt b (off + i * 66) (recA r).toList by rw [show (recA r).toList = recC r by simp [recA]]; exact hrg)
        have IL := Lib.hid (show (Try.prog.info? 25).map (·.size) = some (recA r).toList.length by simpa using info_refA hok)
        have HTI := Lib.hid hTi
        have HOK := Lib.hid hok
        have HBD := Lib.hid (show r.body.length ≤ 60000 by
          have h1 := sumB_take T (i + 1)
          have h2 : sumB (T.take (i + 1)) = sumB (T.take i ++ [r]) := by rw [take_succ_get hTi]
          have h3 : ∀ (L : List RecB) (r : RecB), sumB (L ++ [r]) = sumB L + (r.body.length + 80) := fun L => by
            induction L with
            | nil => intro r; simp [sumB]
            | cons x L ih => intro r; show x.body.length + 80 + sumB (L ++ [r]) = x.body.length + 80 + sumB L + (r.body.length + 80); rw [ih]; omega
          have h4 := F2.out
          rw [h2, h3] at h1
          omega)
        clear hTi hbw hrg hok hbl
        go_wp2_with (first | (with_reducible refine wpList_load_mid rfl 25 (.tmp 38) rfl b (off + i * 66) rfl (recA r).toList _ RG.out Try.underlying25 rfl IL.out ?_; rw [Array.toArray_toList]) | fail)
        refine (ref_Pack r wr HOK.out (by have := HBD.out; omega)).mono ?_
        rintro e w4 ⟨rfl, k4⟩
        have HK4 := Lib.hid (HK.out.trans (k4.mono HK.out.size))
        clear k4 RG
        obtain ⟨P, hP⟩ : ∃ P, P = packT r := ⟨_, rfl⟩
        obtain ⟨A2, hA2⟩ : ∃ A2, A2 = A ++ P := ⟨_, rfl⟩
        have hcat := bs_cat A (bs P)
        rw [bs_list, ← hA2] at hcat
        have HPL := Lib.hid (show P.length ≤ 70000 by rw [hP]; have := packT_le HOK.out (by have := HBD.out; omega); have := HBD.out; omega)
        have hsum : ((bs A).size : Int) + ((bs P).size : Int) ≤ 9223372036854775807 := by rw [bs_size, bs_size]; have := HAL.out; have := HPL.out; omega
        have HA3 := Lib.hid (show A2 = catP (T.take (i + 1)) by rw [hA2, hP, take_succ_get HTI.out, catP_snoc, ← HA.out])
        rw [← hP]
        clear hP hA2
        go_wp2_with fail
        go_roundw
        case rel => exact ⟨i + 1, A2, by omega, by go_num, rfl, HA3, HK4⟩
        case measure => simp [intOf]; omega
      · obtain rfl : i = len := by omega
        have HAT := Lib.hid (show A = catP T by rw [HA.out, HI.out.lenT, List.take_length])
        obtain ⟨U, hU⟩ : ∃ U, U = A ++ s.data.toList := ⟨_, rfl⟩
        have hcat := bs_cat A s
        rw [← hU] at hcat
        have hsum : ((bs A).size : Int) + (s.size : Int) ≤ 9223372036854775807 := by rw [bs_size]; have := HAL.out; omega
        have HUL := Lib.hid (show (bs U).size ≤ 100000 by rw [bs_size, hU, List.length_append, HSL.out]; have := HAL.out; omega)
        clear hU
        go_upto_region 10 with (fail)
        clear hcat hsum hil
        go_wp2_with fail
        refine (box_Split (bs U) wr (by have := HUL.out; omega)).mono ?_
        rintro e w5 ⟨v, rfl, hv, hvo, k5⟩
        rw [bs_list] at hv hvo ⊢
        have HV := Lib.hid hv
        have HVO := Lib.hid hvo
        have HK5 := Lib.hid (HK.out.trans (k5.mono HK.out.size))
        clear hv hvo k5
        go_wp2_with fail
        refine (ref_Split (bs U) w5 (by have := HUL.out; omega)).mono ?_
        rintro e w6 ⟨v2, u2, rfl, hv2, hu2, k6⟩
        rw [bs_list] at hv2 hu2 ⊢
        have HV2 := Lib.hid hv2
        have HU2 := Lib.hid hu2
        have HV6 := Lib.hid (show OwnIt w6 wr.heap.size v (itemsL (splitR U).1 0) from OffRow.kept HV.out (fun j hj => k6.block j (OffRow.lt HV.out j hj).2))
        have HK6 := Lib.hid (HK5.out.trans (k6.mono HK5.out.size))
        clear hv2 hu2 k6 HV
        generalize wr.heap.size = B1 at *
        generalize w5.heap.size = B2 at *
        obtain ⟨L, hL⟩ : ∃ L, L = (splitR U).1 := ⟨_, rfl⟩
        rw [← hL] at HV6 HV2 HU2 HVO
        have HSUM := Lib.hid (show sumK L ≤ 100000 by rw [hL]; obtain ⟨x1, x2⟩ := splitR_sum U.length U (Nat.le_refl _); have := HUL.out; rw [bs_size] at this; omega)
        generalize (splitR U).2 = tot at *
        clear hL
        obtain ⟨va, vc, rfl⟩ := OffRow.slice HV6.out
        obtain ⟨ra, rc, rfl⟩ := OffRow.slice HV2.out
        obtain ⟨ua, uc, rfl⟩ := OffRow.slice HU2.out
        obtain ⟨N, hN⟩ : ∃ N, N = L.length := ⟨_, rfl⟩
        have e1 : (itemsL L 0).length = N := by rw [itemsL_len, hN]
        have e2 : (fsts L).length = N := by rw [fsts_len, hN]
        have e3 : (endsL L 0).length = N := by rw [endsL_len, hN]
        rw [e1, e2, e3]
        have HROW := Lib.hid (show ∀ (i : Nat) (r : RecB) (k : Nat), L[i]? = some (r, k) → ∃ g1 o1 g2 o2 g3 o3, va = some ⟨g1, o1, none⟩ ∧ ra = some ⟨g2, o2, none⟩ ∧ ua = some ⟨g3, o3, none⟩ ∧ g1 < w6.heap.size ∧ g2 < w6.heap.size ∧ g3 < w6.heap.size ∧ w6.rangeAt g1 (o1 + i * 68) (itmC (0 + sumK (L.take i)) k r) ∧ w6.rangeAt g2 (o2 + i * 66) (recC r) ∧ w6.rangeAt g3 (o3 + i * 1) [Value.int .i64 ((0 + sumK (L.take i) + k : Nat) : Int)] from fun i r k hx => by
          obtain ⟨x1, x2, x3⟩ := items_get L 0 i r k hx
          obtain ⟨g1, o1, c1, h1, l1, r1⟩ := row_range (f := fun x : Nat × Nat × RecB => itmC x.1 x.2.1 x.2.2) (size := 68) (fun x hx => by
            obtain ⟨j, hj⟩ := List.getElem?_of_mem hx
            have hjl : j < L.length := by rw [← itemsL_len L 0]; exact (List.getElem?_eq_some_iff.1 hj).1
            have hq := (items_get L 0 j L[j].1 L[j].2 (by rw [List.getElem?_eq_getElem hjl])).1
            rw [hj] at hq; injection hq with hq; subst hq
            exact itmC_len (HVO.out _ (List.getElem_mem hjl))) HV6.out x1
          obtain ⟨g2, o2, c2, h2, l2, r2⟩ := row_range (f := recC) (size := 66) (fun x hx => by
            obtain ⟨y, hy, rfl⟩ := List.mem_map.1 hx
            exact recC_len (HVO.out _ hy)) HV2.out x3
          obtain ⟨g3, o3, c3, h3, l3, r3⟩ := row_range (f := fun n : Nat => [Value.int .i64 (n : Int)]) (size := 1) (fun x hx => rfl) (L := endsL L 0) (by
            have := HU2.out
            unfold OwnNs intsV at this
            rw [flat_one (fun n : Nat => Value.int .i64 (n : Int))]
            exact this) x2
          injection h1 with h1 _ _
          injection h2 with h2 _ _
          injection h3 with h3 _ _
          exact ⟨g1, o1, g2, o2, g3, o3, h1, h2, h3, l1, l2, l3, r1, r2, r3⟩)
        have HN := Lib.hid hN
        have hNb : N ≤ 9223372036854775807 := by
          have := OffRow.cap_le HV6.out
          rw [e1] at this; unfold maxLen at this; exact this
        have HSB := Lib.hid (show ∀ i, sumK (L.take i) ≤ 100000 from fun i => Nat.le_trans (sumK_take L i) HSUM.out)
        clear hN e1 e2 e3
        go_upto_region 15 with (fail)
        go_wp2_with fail
        go_loopw [14, 15] (fun va' vi wr => ∃ j : Nat, j ≤ N ∧ vi = .int .i64 (j : Int) ∧ va' = .int .i64 (sumK (L.take j) : Int) ∧ Hid (Below w6.heap.size w6 wr)) (fun va' vi wr => N - (intOf vi).toNat)
        case atStart => exact ⟨0, Nat.zero_le _, rfl, rfl, Lib.hid (Below.refl _ _)⟩
        case round =>
          obtain ⟨j, hj, rfl, rfl, HK7⟩ := hrel
          by_cases hjn : j < N
          · have hjl : j < L.length := by rw [← HN.out]; exact hjn
            obtain ⟨⟨r, k⟩, hx⟩ : ∃ x, L[j]? = some x := ⟨_, List.getElem?_eq_getElem hjl⟩
            obtain ⟨g1, o1, g2, o2, g3, o3, rfl, rfl, rfl, l1, l2, l3, r1, r2, r3⟩ := HROW.out j r k hx
            have HRO := Lib.hid (show r.Ok from HVO.out (r, k) (List.mem_of_getElem? hx))
            have HNX := Lib.hid (show sumK (L.take (j + 1)) = sumK (L.take j) + k by rw [take_succ_get hx, sumK_append]; rfl)
            have hsb := HSB.out (j + 1)
            rw [HNX.out] at hsb
            rw [Nat.zero_add] at r1 r3
            obtain ⟨p, hp⟩ : ∃ p, p = sumK (L.take j) := ⟨_, rfl⟩
            rw [← hp] at HNX hsb r1 r3 ⊢
            obtain ⟨p2, hp2⟩ : ∃ p2, p2 = p + k := ⟨_, rfl⟩
            rw [← hp2] at HNX hsb r3
            have hsum : (p : Int) + (k : Int) = (p2 : Int) := by omega
            have hpl : p ≤ 100000 := by omega
            have L1 := Lib.hid l1
            have L2 := Lib.hid l2
            have L3 := Lib.hid l3
            have n0 : ∀ n : Seen wr, n.val.cell? ⟨g1, o1 + j * 68, none⟩ = some (.int .i64 (p : Int)) := fun n => by
              have := rangeAt_below r1 (HK7.out.trans (n.below.mono HK7.out.size)) L1.out 0 (.int .i64 (p : Int)) rfl
              simpa using this
            have n1 : ∀ n : Seen wr, n.val.cell? ⟨g1, o1 + j * 68 + 1, none⟩ = some (.int .i64 (k : Int)) := fun n =>
              rangeAt_below r1 (HK7.out.trans (n.below.mono HK7.out.size)) L1.out 1 (.int .i64 (k : Int)) rfl
            have n2 : ∀ n : Seen wr, n.val.cell? ⟨g3, o3 + j, none⟩ = some (.int .i64 (p2 : Int)) := fun n => by
              have := rangeAt_below r3 (HK7.out.trans (n.below.mono HK7.out.size)) L3.out 0 (.int .i64 (p2 : Int)) rfl
              simpa using this
            have R1 := Lib.hid (fun n : Seen wr => show n.val.rangeAt g1 (o1 + j * 68 + 2) (recC r) from fun i v hv => by
              have := rangeAt_below r1 (HK7.out.trans (n.below.mono HK7.out.size)) L1.out (2 + i) v (by rw [Nat.add_comm 2 i]; exact hv)
              rw [Nat.add_assoc (o1 + j * 68) 2 i]; exact this)
            have R2 := Lib.hid (fun n : Seen wr => show n.val.rangeAt g2 (o2 + j * 66) (recC r) from rangeAt_below r2 (HK7.out.trans (n.below.mono HK7.out.size)) L2.out)
            have G0 := Lib.hid (seen_of (fun W => law_theirs r W HRO.out) wr)
            have hn : ∀ n : Seen wr, (binOp .neq 30 (.agg (recA r)) (.agg (recA r))).run Try.prog n.val = .ok (.bool false) n.val := fun n => by rw [neq_recs r r HRO.out HRO.out]; simp
            have IL3 := Lib.hid (info_recL HRO.out)
            have IL5 := Lib.hid (info_refL HRO.out)
            have hzz : ((p : Int) != (p : Int)) = false := by simp
            have hz2 : ((p2 : Int) != (p2 : Int)) = false := by simp
            clear hp hp2 l1 l2 l3 r1 r2 r3 hx hjl
            go_upto_region 18 with (fail)
            refine region_seen (by kernel_rfl) (by kernel_rfl) ?_
            repeat go_big_quiet_step (fail)
            (go_big_quiet_want; refine quiet_load_mid 30 (.tmp 79) rfl g1 (o1 + j * 68 + 2) rfl (recC r) _ (by rintro _ ⟨n, rfl⟩; exact R1.out n) Try.underlying30 rfl IL3.out ?_; rw [show (recC r).toArray = recA r from rfl]; go_big_quiet_on; try go_frame)
            repeat go_big_quiet_step (fail)
            (go_big_quiet_want; refine quiet_load_mid 25 (.tmp 83) rfl g2 (o2 + j * 66) rfl (recC r) _ (by rintro _ ⟨n, rfl⟩; exact R2.out n) Try.underlying25 rfl IL5.out ?_; rw [show (recC r).toArray = recA r from rfl]; go_big_quiet_on; try go_frame)
            repeat go_big_quiet_step (first | (go_at_call 11; with_reducible exact G0.out _))
            (go_big_quiet_want; refine quiet_neq_agg 30 _ (.tmp 80) (.tmp 85) rfl (recA r) (recA r) rfl rfl false guard_rec (by rintro _ ⟨n, rfl⟩; exact hn n) ?_; go_big_quiet_on; try go_frame)
            repeat go_big_quiet_step (fail)
            refine wpQuiet_nil ?_
            rintro _ ⟨m1, rfl⟩
            have HK8 := Lib.hid (HK7.out.trans (m1.below.mono HK7.out.size))
            have x2 := n2 m1
            clear n0 n1 n2 R1 R2 G0 hn hzz hz2 hsum
            generalize m1.val = w8 at *
            go_wp2_with fail
            go_roundw
            case rel => exact ⟨j + 1, by omega, by go_num, by rw [HNX.out], HK8⟩
            case measure => simp [intOf]; omega
          · obtain rfl : j = N := by omega
            go_wp2
            go_ret
            exact ⟨rfl, HK6.out.trans (HK7.out.mono HK6.out.size)⟩

theorem own : ownKnob Try.prog.godebug = none := by kernel_rfl
theorem laidOut : laidOutB Try.prog = true := by kernel_rfl
theorem contract (H : Type) (enc : TypeId × Value → H) (W : World) (base : Nat) (args : Array Value) (ds gs : List (DataW H)) (before : List MemPlace)
    (hval : ∀ (j : Nat) t v, Try.f5.params[j]? = some t → args[j]? = some v → Value.okWide Try.prog W .any base t v)
    (hW : DataW.Whole enc Try.prog Try.f5.params.toList Rows.boxSplitsSpec.vars false W args.toList ds gs before) :
    Calls Try.prog 5 args W fun e W' => ∃ v, e = .returned v ∧ Rows.boxSplitsSpec.post enc Try.prog Try.f5 false true false false W args v W' := by
  have hW' := hW
  obtain ⟨p, q, hA0, hV, rfl, hfz, hnd⟩ := hW
  have hA : DataW.TrodAll enc Try.prog W 0 (fun _ => true) true Try.f5.params.toList args.toList ds p := hA0
  rw [Try.params5] at hA hval
  obtain ⟨v0, vs0, d0, ds0, p0, q0, hargs0, rfl, rfl, h0, r0⟩ := trodAll_cons hA
  obtain ⟨v1, vs1, d1, ds1, p1, q1, rfl, rfl, rfl, h1, r1⟩ := trodAll_cons r0
  obtain ⟨rfl, rfl, rfl⟩ := trodAll_nil r1
  obtain rfl : args = #[v0, v1] := by cases args; simp_all
  obtain ⟨rfl, rfl⟩ := trodVars_none hV
  obtain ⟨a0, len0, cap0, rfl⟩ := okWide_slice Try.underlying41 (hval 0 41 v0 rfl rfl)
  have k0 := h0
  have lt0 : ∀ x ∈ p0, x.block < W.heap.size := by obtain ⟨m, hm⟩ := k0; exact DataW.trod_lt m _ _ _ hm
  obtain ⟨T0, i0⟩ := open_recs h0
  obtain ⟨x1, rfl, rfl, rfl, w1⟩ := open_string Try.underlying9 (hval 1 9 v1 rfl rfl) h1
  clear hA0
  simp only [List.append_nil] at hW'
  refine (core a0 len0 cap0 T0 x1 W i0 w1).mono fun e W' ⟨he, bel⟩ => ?_
  subst he
  exact ⟨_, rfl, _, _, _, [], _, [], hW', trodAll_mk1 (shut_bool Try.underlying4 _), (trodAll_cons_mk (Below.trod laidOut (by kernel_rfl) (of_decide_eq_true (by kernel_rfl)) k0 bel lt0) (trodAll_cons_mk (shut_string Try.underlying9 w1) trodAll_mk0)), rfl, bel.frame _, fun h => by cases h⟩

set_option maxRecDepth 100000 in
theorem lifted (os : Os) (started : os.Started) (H : Type) (enc : TypeId × Value → H) :
    ReturnsInHanded {} Try.checked os 5 .any (Rows.boxSplitsSpec.pre6 enc Try.prog Try.f5 Rows.boxSplitsRow.domain false) (Rows.boxSplitsSpec.post enc Try.prog Try.f5 false true false false) := by
  refine returnsInHanded_of_change (C := Try.checked) own started (by kernel_rfl) Try.func5
    (ChangeSpec.witness6 (enc := enc) (C := Try.checked) false ⟨#[], #[.slice none 0 0, .string ByteArray.empty], []⟩ 8 (by kernel_rfl) (by kernel_rfl) (by kernel_rfl) (by kernel_rfl)) ?_
  intro W base args ds gs before hval hW _ _
  exact contract H enc W base args ds gs before hval hW

theorem over : Rows.boxSplitsRow.holds Try.pinned (OpenSpec.ofChange Rows.boxSplitsSpec) :=
  OpenClaim.holds_of_wide 5 Try.f5 rfl rfl rfl rfl rfl rfl rfl ⟨rfl, rfl, rfl, rfl, rfl⟩ rfl rfl rfl rfl rfl (by kernel_rfl) Try.func5 (by kernel_rfl)
    (of_decide_eq_true (by kernel_rfl)) (by unfold Func.isWrapper; first | (rw [if_pos (by decide +kernel)]; kernel_rfl) | (rw [if_neg (by decide +kernel)]; exact ⟨rfl, rfl⟩))
    (fun os started H enc _ => lifted os started H enc)

/-- ████ THE STATEMENT ████ -/
theorem proved : Rows.BoxSplitsSaid :=
  over
#print axioms proved
end Go.Proofs.Ytlpknhiagdhkcaa.LBoxSplits
