/- Make: a filter of keys. -/
import Derived.Test.YtbiifdnicieamaaDoorBloomHas
import Derived.Deep.OwnRows
set_option linter.unusedVariables false
set_option maxRecDepth 100000
namespace Go.Proofs.YtbiifdnicieamaaDoor
open Go.RowKit Go.Shelf
attribute [local go_sem] Oper.semAt_some

theorem madeCells_one (z : Value) (n : Nat) : madeCells #[z] n = Array.replicate n z := by
  apply Array.ext
  · simp [madeCells]
  · intro i h1 h2
    simp [madeCells, Nat.mod_one]

theorem flt_empty (per c : Nat) (w : World) (hp1 : 1 ≤ per) (hp2 : per ≤ 32) (hc : c ≤ 65536) :
    Calls Tryd.prog 18 #[.int .i64 (per : Int), .int .i64 (c : Int)] w fun e w' => e = .returned (.pointer (some ⟨w.heap.size + 1, 0, none⟩)) ∧ w' = (w.alloc (.cells (Array.replicate (wordsOf per c * 8) (.int .u8 0)) 5)).alloc (.cells #[.int .i64 (hashesOf per : Int), .slice (some ⟨w.heap.size, 0, none⟩) (wordsOf per c * 8) (wordsOf per c * 8)] 50) := by
  obtain ⟨p, hp⟩ : ∃ p, p = per * c := ⟨_, rfl⟩
  have hpb : p ≤ 2097152 := by rw [hp]; exact Nat.mul_le_mul hp2 hc
  have hpi : (per : Int) * (c : Int) = (p : Int) := by rw [hp, Int.natCast_mul]
  obtain ⟨v, hv⟩ : ∃ v, v = (p + 63) / 64 := ⟨_, rfl⟩
  have hdv : ((p : Int) + 64 - 1) / 64 = (v : Int) := by rw [hv]; omega
  obtain ⟨k, hk⟩ : ∃ k, k = wordsOf per c * 8 := ⟨_, rfl⟩
  obtain ⟨h, hh⟩ : ∃ h, h = hashesOf per := ⟨_, rfl⟩
  have hkv : k = max v 1 * 8 := by rw [hk, hv, hp]; rfl
  have HM := Lib.hid (fun w => run_make_row' (P := Tryd.prog) 48 5 (.int .u8 0) 1 Tryd.underlying48 info5 rfl .i64 .i64 k (by omega) (by omega) w)
  obtain ⟨d, hd⟩ : ∃ d, d = per * 7 / 10 := ⟨_, rfl⟩
  have hd7 : ((per : Int) * 7) / 10 = (d : Int) := by rw [hd]; omega
  have hd22 : d ≤ 22 := by omega
  have hv0 : v ≤ 32768 := by omega
  have hhd : h = min (max d 1) 8 := by rw [hh, hd]; rfl
  rw [← hk, ← hh]
  have Hhd := Lib.hid hhd
  have Hkv := Lib.hid hkv
  clear hp hv hk hh hd hhd hkv
  go_enter Tryd.func18, Tryd.ntmps18
  have hmk : max (v : Int) 1 * 8 = (k : Int) := by have := Hkv.out; omega
  have hmh : min (max (d : Int) 1) 8 = (h : Int) := by have := Hhd.out; omega
  have hM := HM.out
  go_wp2_with fail
  go_ret
  exact ⟨rfl, by rw [← madeCells_one]⟩
end Go.Proofs.YtbiifdnicieamaaDoor
