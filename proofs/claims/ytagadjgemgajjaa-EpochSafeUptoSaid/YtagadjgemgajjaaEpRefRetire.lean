/- The document's book: Retire. -/
import Derived.Test.YtagadjgemgajjaaEpRefs
set_option linter.unusedVariables false
namespace Go.Proofs.Ytagadjgemgajjaa
open Go.RowKit

def EB.part (s : EB) (l : List Value) : RB := ⟨s.now, s.came, s.wait.map (·.1) ++ l, s.wait.map (·.2) ++ l.map fun _ => s.now⟩
theorem EB.part_nil (s : EB) : s.part [] = s.rb := by simp [EB.part, EB.rb]
theorem EB.part_all (s : EB) (l : List Value) : ({ s.part l with now := s.now + 1 } : RB) = (s.retire l).rb := by
  simp [EB.part, EB.rb, EB.retire, EB.stamp, Function.comp_def]
theorem src_one {t e' : TypeId} (hk : Try.prog.underlying t = some (.slice e')) (w : World) (v : Value) (ty : TypeId) (h1 : v.oneCell' = true) : Src Try.prog 1 t (.slice (some ⟨w.heap.size, 0, none⟩) 1 1) 1 [v] (w.alloc (.cells #[v] ty)).drew :=
  src_block (w := (w.alloc (.cells #[v] ty)).drew) hk (heap_new w _) 1 1 rfl (fun u hu => by simp at hu; rw [hu]; exact h1)
set_option maxHeartbeats 4000000 in
set_option maxRecDepth 100000 in
theorem ref_Retire {B : Nat} {w : World} {r : AtR} {s : EB} (h : Rk B w r s.rb) (h1 : 1 ≤ s.now) (h2 : s.now < 4611686018427387904) {a : Option Addr} {n : Nat} (cap : Nat) {l : List Value} (hl : IsVals w a n l) (hone : ∀ v ∈ l, ∃ t, v = Value.string t) (hsep : ∀ b off, 0 < n → a = some ⟨b, off, none⟩ → ¬ r.S b)
    (hfew : s.wait.length + l.length ≤ 1099511627776) (hBw : B ≤ w.heap.size) :
    Calls Try.prog 15 #[.pointer (some ⟨r.m, 0, none⟩), .slice a n cap] w fun e w' => e = .returned (.tuple #[]) ∧ RTurns B w r (s.retire l).rb w' := by
  obtain ⟨i0, hi, hz0, hz1, hz2⟩ := info_parts info9
  obtain ⟨j0, hj, hy0, hy1, hy2⟩ := info_parts info3
  have HL := Lib.hid hl
  have HSEP := Lib.hid hsep
  have HONE := Lib.hid hone
  have hn : n ≤ 1099511627776 := by have := hl.1; omega
  have HT0 := Lib.hid (show RTurned B w r (s.part (l.take 0)) w r from by rw [List.take_zero, EB.part_nil]; exact RTurned.same h)
  clear hl hsep hone h
  go_enter Try.func15, Try.ntmps15
  go_wp2_with fail
  go_loopw [4] (fun i wr => ∃ k : Nat, k ≤ n ∧ i = .int .i64 (k : Int) ∧ RTurns B w r (s.part (l.take k)) wr) (fun i _ => n - (intOf i).toNat)
  case atStart => exact ⟨0, Nat.zero_le _, rfl, r, HT0.out⟩
  case round =>
    obtain ⟨k, hk, rfl, r1, hT⟩ := hrel
    obtain ⟨wo, hwo⟩ : ∃ wo, wo = wr := ⟨_, rfl⟩
    subst hwo
    have hb1 := hT.m
    have HT := Lib.hid hT
    by_cases hlt : k < n
    · have hll := HL.out.1
      obtain ⟨v, hv⟩ : ∃ v, l[k]? = some v := ⟨_, List.getElem?_eq_getElem (by omega)⟩
      obtain ⟨-, b, off, ha, hrow⟩ := HL.out
      obtain rfl : a = some ⟨b, off, none⟩ := ha.resolve_left (by omega)
      obtain ⟨q1, q2⟩ := hrow k v hv
      have rv : wo.cell? ⟨b, off + k, none⟩ = some v := by
        rw [← q2]
        simp [World.cell?, hT.only.block b q1 (HSEP.out b off (by omega) rfl)]
      have hbo : b < wo.heap.size := Nat.lt_of_lt_of_le q1 hT.only.size
      have c2 : wo.cell? ⟨r.m, 2, none⟩ = some r1.vo := by rw [← hb1]; exact hT.rk.c2
      obtain ⟨tx, rfl⟩ := HONE.out v (List.mem_of_getElem? hv)
      have HSRC := Lib.hid (src_one Try.underlying28 wo (.string tx) 9 rfl)
      obtain ⟨N, hN⟩ : ∃ N, (s.part (l.take k)).olds.length = N := ⟨_, rfl⟩
      obtain ⟨M, hM⟩ : ∃ M, (s.part (l.take k)).ats.length = M := ⟨_, rfl⟩
      have hrow0 := hT.rk.old
      rw [hN] at hrow0
      have HO := Lib.hid (hrow0.alloc (.cells #[.string tx] 9))
      have HLEN := Lib.hid (show N + 1 ≤ 1099511627776 ∧ M + 1 ≤ 1099511627776 by rw [← hN, ← hM]; simp [EB.part]; omega)
      have HA := Lib.hid (show Below wo.heap.size wo (wo.alloc (.cells #[.string tx] 9)).drew from ((Below.refl _ wo).alloc (Nat.le_refl _) (.cells #[.string tx] 9)).drew)
      have hBs := Lib.hid (show B ≤ wo.heap.size from Nat.le_trans hBw hT.only.size)
      have hqb : r.m < wo.heap.size := by rw [← hb1]; exact (hT.rk.low _ (.inl rfl)).2
      have c2a := (((Below.refl _ wo).alloc (Nat.le_refl _) (.cells #[.string tx] 9)).cell (p := ⟨r.m, 2, none⟩) hqb).trans c2
      have rva := (((Below.refl _ wo).alloc (Nat.le_refl _) (.cells #[.string tx] 9)).cell (p := ⟨b, off + k, none⟩) hbo).trans rv
      have HPUSH := Lib.hid (fun (w3 : World) (v3 : Value) (hr : OffRow w3 B 9 1 v3 (N + 1) ((s.part (l.take k)).olds ++ [.string tx])) => hT.rk.pushOld (W := (wo.alloc (.cells #[.string tx] 9)).drew) HA.out (w3 := w3) (v3 := v3) (v := .string tx) (by rw [hN]; exact hr))
      have HV := Lib.hid hv
      have HM := Lib.hid hM
      have hlt' : (k : Int) < (n : Int) := by omega
      have hk0 : (0 : Int) ≤ (k : Int) := by omega
      clear hT hll hrow ha q1 q2 hv hqb hbo hN hM hrow0
      go_upto_region 3 with fail
      go_cut [] from 5 to 36 (fun wx => Hid (RTurns B w r { s.part (l.take k) with olds := (s.part (l.take k)).olds ++ [.string tx] } wx))
      case first =>
        go_region_law (refine step_append_off rfl (.tmp 15) (.tmp 20) 28 rfl B 9 i0 _ 1 16 Try.underlying28 hi hz0 hz1 hz2 rfl r1.vo N _ (by simp [Act.eval, Act.put]) HO.out (.slice (some ⟨wo.heap.size, 0, none⟩) 1 1) (by simp [Act.eval, Act.put]) 1 [.string tx] HSRC.out (by unfold maxLen; have := HLEN.out.1; omega) (by have := HLEN.out.1; omega) (by have := hBs.out; simp; omega) ?_; intro v3 w3 hown3 hg3 hat3; obtain ⟨a3, cap3, rfl⟩ := hown3.slice; obtain ⟨p1, p2, p3⟩ := HPUSH.out w3 _ hown3 hg3 hat3; rw [hb1] at p1 p2 p3; clear hown3 hg3 hat3)
        all_goals
          have HE3 := Lib.hid (HT.out.trans p3)
          clear p3
          go_wp2_with fail
          go_meet
          exact Lib.hid ⟨_, HE3.out⟩
      case rest =>
      obtain ⟨r2, hT2⟩ := hcut.out
      clear hcut c2 c2a rv rva HO HSRC HA HPUSH HT hb1
      obtain ⟨w1, hw1⟩ : ∃ w1, w1 = wc := ⟨_, rfl⟩
      subst hw1
      have hb2 := hT2.m
      have HT2 := Lib.hid hT2
      have c3 : w1.cell? ⟨r.m, 3, none⟩ = some r2.va := by rw [← hb2]; exact hT2.rk.c3
      have c0 : w1.cell? ⟨r.m, 0, none⟩ = some (.int .i64 s.now) := by rw [← hb2]; exact hT2.rk.c0
      have hqb : r.m < w1.heap.size := by rw [← hb2]; exact (hT2.rk.low _ (.inl rfl)).2
      have HSRC := Lib.hid (src_one Try.underlying27 w1 (.int .i64 s.now) 3 rfl)
      have hrow0 : OffRow w1 B 3 1 r2.va (s.part (l.take k)).ats.length ((s.part (l.take k)).ats.map intV) := hT2.rk.at_
      rw [HM.out] at hrow0
      have HO := Lib.hid (hrow0.alloc (.cells #[.int .i64 s.now] 3))
      have HA := Lib.hid (show Below w1.heap.size w1 (w1.alloc (.cells #[.int .i64 s.now] 3)).drew from ((Below.refl _ w1).alloc (Nat.le_refl _) (.cells #[.int .i64 s.now] 3)).drew)
      have c3a := (((Below.refl _ w1).alloc (Nat.le_refl _) (.cells #[.int .i64 s.now] 3)).cell (p := ⟨r.m, 3, none⟩) hqb).trans c3
      have c0a := (((Below.refl _ w1).alloc (Nat.le_refl _) (.cells #[.int .i64 s.now] 3)).cell (p := ⟨r.m, 0, none⟩) hqb).trans c0
      have hBs1 := Lib.hid (show B ≤ w1.heap.size from Nat.le_trans hBw hT2.only.size)
      have HPUSH := Lib.hid (fun (w3 : World) (v3 : Value) (hr : OffRow w3 B 3 1 v3 (M + 1) ((s.part (l.take k)).ats.map intV ++ [.int .i64 s.now])) => hT2.rk.pushAt (W := (w1.alloc (.cells #[.int .i64 s.now] 3)).drew) HA.out (w3 := w3) (v3 := v3) (t := s.now) (by rw [HM.out]; exact hr))
      clear hT2 hrow0 hqb
      go_upto_region 4 with fail
      go_region_law (refine step_append_off rfl (.tmp 28) (.tmp 33) 27 rfl B 3 j0 _ 1 8 Try.underlying27 hj hy0 hy1 hy2 rfl r2.va M _ (by simp [Act.eval, Act.put]) HO.out (.slice (some ⟨w1.heap.size, 0, none⟩) 1 1) (by simp [Act.eval, Act.put]) 1 [.int .i64 s.now] HSRC.out (by unfold maxLen; have := HLEN.out.2; omega) (by have := HLEN.out.2; omega) (by have := hBs1.out; simp; omega) ?_; intro v3 w3 hown3 hg3 hat3; obtain ⟨a3, cap3, rfl⟩ := hown3.slice; obtain ⟨p1, p2, p3⟩ := HPUSH.out w3 _ hown3 hg3 hat3; rw [hb2] at p1 p2 p3; clear hown3 hg3 hat3)
      all_goals
        have HE3 := Lib.hid (HT2.out.trans p3)
        clear p3 c3 c0 c3a c0a HO HSRC HA HPUSH
        go_wp2_with fail
        go_roundw
        case rel => exact ⟨k + 1, by omega, by go_num, _, by
          have e : s.part (l.take (k + 1)) = { s.part (l.take k) with olds := (s.part (l.take k)).olds ++ [.string tx], ats := (s.part (l.take k)).ats ++ [s.now] } := by rw [take_next HV.out]; simp [EB.part]
          rw [e]; exact HE3.out⟩
        case measure => simp [intOf]; omega
    · have hkl : l.take k = l := List.take_of_length_le (by have := HL.out.1; omega)
      rw [hkl] at hT
      have c0 : wo.cell? ⟨r.m, 0, none⟩ = some (.int .i64 s.now) := by rw [← hb1]; exact hT.rk.c0
      have fm : wo.frozen? ⟨r.m, 0, none⟩ = false := by rw [← hb1]; exact hT.rk.fm 0
      have HE := Lib.hid (show RTurned B w r (s.retire l).rb (wo.setCell ⟨r.m, 0, none⟩ (.int .i64 (s.now + 1))) r1 from hT.trans (by
        rw [← hb1, ← EB.part_all]
        exact ⟨rfl, hT.rk.setNow (s.now + 1), (Only.refl _ _).setCell (p := ⟨r1.m, 0, none⟩) (.inl (.inl rfl)) _, fun _ hj => .inl hj⟩))
      clear hT HT
      go_wp2_with fail
      go_end0
      exact ⟨rfl, r1, HE.out⟩
end Go.Proofs.Ytagadjgemgajjaa
