/- A filter in memory, and what only reads it: its size, its ones, its shape; a nil filter. -/
import Derived.Test.YtbiifdnicieamaaDoorRange
import Derived.Test.YtbiifdnicieamaaDoorShaKeys
import Derived.Test.YtbiifdnicieamaaDoorBloomPlain
import Derived.Test.YtbiifdnicieamaaDoorSixAwake
import Derived.Test.YtbiifdnicieamaaDoorSixRefWrites
set_option linter.unusedVariables false
set_option maxRecDepth 100000
namespace Go.Proofs.YtbiifdnicieamaaDoor
open Go.RowKit

/-- In block b there is a filter with h hashes, whose bytes L are in block g. -/
structure Flt (b g h : Nat) (L : List UInt8) (w : World) : Prop where
  c0 : w.cell? ⟨b, 0, none⟩ = some (.int .i64 (h : Int))
  c1 : ∃ cap, w.cell? ⟨b, 1, none⟩ = some (.slice (some ⟨g, 0, none⟩) L.length cap)
  row : Row8 g L w
  lt : b < w.heap.size
theorem Flt.keep {b g h B : Nat} {L : List UInt8} {w w' : World} (f : Flt b g h L w) (k : Below B w w') (hb : b < B) (hg : g < B) : Flt b g h L w' :=
  ⟨by rw [k.cell hb]; exact f.c0, by obtain ⟨cap, c⟩ := f.c1; exact ⟨cap, by rw [k.cell hb]; exact c⟩, f.row.keep k hg, Nat.lt_of_lt_of_le f.lt k.size⟩
theorem Flt.below {b g h : Nat} {L : List UInt8} {w w' : World} (f : Flt b g h L w) (k : Below w.heap.size w w') : Flt b g h L w' := f.keep k f.lt f.row.1
theorem Flt.seen {b g h : Nat} {L : List UInt8} {W : World} (f : Flt b g h L W) (n : Seen W) : Flt b g h L n.val := f.below n.below

theorem flt_size (b g m cap : Nat) (w : World) (c1 : w.cell? ⟨b, 1, none⟩ = some (.slice (some ⟨g, 0, none⟩) m cap)) (hl : m ≤ 100000000) :
    Calls Tryd.prog 32 #[.pointer (some ⟨b, 0, none⟩)] w fun e w' => e = .returned (.int .i64 ((m : Int) * 8)) ∧ w = w' := by
  go_enter Tryd.func32, Tryd.ntmps32
  go_wp2_with fail
  go_ret
  exact ⟨rfl, rfl⟩

def popTab : ByteArray := ⟨#[0, 1, 1, 2, 1, 2, 2, 3, 1, 2, 2, 3, 2, 3, 3, 4, 1, 2, 2, 3, 2, 3, 3, 4, 2, 3, 3, 4, 3, 4, 4, 5, 1, 2, 2, 3, 2, 3, 3, 4, 2, 3, 3, 4, 3, 4, 4, 5, 2, 3, 3, 4, 3, 4, 4, 5, 3, 4, 4, 5, 4, 5, 5, 6, 1, 2, 2, 3, 2, 3, 3, 4, 2, 3, 3, 4, 3, 4, 4, 5, 2, 3, 3, 4, 3, 4, 4, 5, 3, 4, 4, 5, 4, 5, 5, 6, 2, 3, 3, 4, 3, 4, 4, 5, 3, 4, 4, 5, 4, 5, 5, 6, 3, 4, 4, 5, 4, 5, 5, 6, 4, 5, 5, 6, 5, 6, 6, 7, 1, 2, 2, 3, 2, 3, 3, 4, 2, 3, 3, 4, 3, 4, 4, 5, 2, 3, 3, 4, 3, 4, 4, 5, 3, 4, 4, 5, 4, 5, 5, 6, 2, 3, 3, 4, 3, 4, 4, 5, 3, 4, 4, 5, 4, 5, 5, 6, 3, 4, 4, 5, 4, 5, 5, 6, 4, 5, 5, 6, 5, 6, 6, 7, 2, 3, 3, 4, 3, 4, 4, 5, 3, 4, 4, 5, 4, 5, 5, 6, 3, 4, 4, 5, 4, 5, 5, 6, 4, 5, 5, 6, 5, 6, 6, 7, 3, 4, 4, 5, 4, 5, 5, 6, 4, 5, 5, 6, 5, 6, 6, 7, 4, 5, 5, 6, 5, 6, 6, 7, 5, 6, 6, 7, 6, 7, 7, 8]⟩
theorem popTab_at : ∀ (x : Nat) (h : x < 256), (popTab[x]'(by exact h)).toNat = pop8 x := by decide +kernel
theorem popTab_ret (x : Nat) (h : x < 256) : ((pop8 x : Nat) : Int) = wrap64 ((popTab[x]'(by exact h)).toNat : Int) := by
  rw [popTab_at x h]
  have : pop8 x ≤ 8 := by unfold pop8; omega
  unfold wrap64
  omega

theorem bytes_on (x : Nat) (h : x < 256) (w : World) : Calls Tryd.prog 48 #[.int .u8 (x : Int)] w fun e w' => e = .returned (.int .i64 ((pop8 x : Nat) : Int)) ∧ w = w' := by
  go_enter Tryd.func48, Tryd.ntmps48
  go_wp2_with fail
  go_ret
  exact ⟨ret1 (popTab_ret x h), rfl⟩

theorem flt_ones (b g h m : Nat) (L : List UInt8) (w : World) (f : Hid (Flt b g h L w)) (hm : Hid (m = L.length)) (hl : m ≤ 100000000) :
    Calls Tryd.prog 33 #[.pointer (some ⟨b, 0, none⟩)] w fun e w' => e = .returned (.int .i64 ((ones (bitAt L) (8 * m) : Nat) : Int)) ∧ w = w' := by
  obtain ⟨cap, c1⟩ := f.out.c1
  rw [← hm.out] at c1
  go_enter Tryd.func33, Tryd.ntmps33
  go_wp2_with fail
  go_loop [3, 11] (fun s i => ∃ k : Nat, k ≤ m ∧ i = .int .i64 k ∧ s = .int .i64 ((ones (bitAt L) (8 * k) : Nat) : Int)) (fun s i => m - (intOf i).toNat)
  case atStart => exact ⟨0, by omega, rfl, rfl⟩
  case round =>
    obtain ⟨k, hk, rfl, rfl⟩ := hrel
    rcases Nat.lt_or_ge k m with hkm | hkm
    · obtain ⟨x, hx⟩ : ∃ x, x = byteAt L k := ⟨_, rfl⟩
      obtain ⟨o, ho⟩ : ∃ o, o = ones (bitAt L) (8 * k) := ⟨_, rfl⟩
      have ck := (f.out.row.2 k (by rw [← hm.out]; exact hkm)).1
      have hx256 : x < 256 := by rw [hx]; exact byteAt_lt _ _
      have HN := Lib.hid (show ones (bitAt L) (8 * (k + 1)) = o + pop8 x by rw [ones_byte, byteOf_bitAt, hx, ho])
      have ho8 : o ≤ 800000000 := by rw [ho]; exact Nat.le_trans (ones_le _ _) (by omega)
      have hp8 : pop8 x ≤ 8 := by unfold pop8; omega
      rw [← hx] at ck
      rw [← ho]
      clear hx ho
      go_wp2_with fail
      refine (bytes_on x hx256 _).mono ?_
      rintro e w1 ⟨rfl, rfl⟩
      go_wp2_with fail
      go_roundw
      case rel => exact ⟨k + 1, by omega, by go_num, by rw [HN.out]; go_num⟩
      case measure => simp [intOf]; omega
    · obtain rfl : k = m := by omega
      go_wp2_with fail
      go_ret
      exact ⟨rfl, rfl⟩

theorem flt_shape (b g h m : Nat) (L : List UInt8) (w : World) (f : Hid (Flt b g h L w)) (hm : Hid (m = L.length)) (hl : m ≤ 100000000) :
    Calls Tryd.prog 16 #[.pointer (some ⟨b, 0, none⟩)] w fun e w' => e = .returned (.tuple #[.int .i64 ((m : Int) * 8), .int .i64 ((ones (bitAt L) (8 * m) : Nat) : Int), .int .i64 (h : Int)]) ∧ Below w.heap.size w w' := by
  obtain ⟨cap, c1⟩ := f.out.c1
  rw [← hm.out] at c1
  have HS := Lib.hid (fun (n : Seen w) => (flt_size b g m cap n.val (by rw [n.below.cell f.out.lt]; exact c1) hl).mono (R' := fun e w'' => e = .returned (.int .i64 ((m : Int) * 8)) ∧ ∃ m : Seen w, w'' = m.val) fun _ w'' ⟨h1, h2⟩ => ⟨h1, ⟨n, h2.symm⟩⟩)
  have HO := Lib.hid (fun (n : Seen w) => (flt_ones b g h m L n.val (Lib.hid (f.out.seen n)) hm hl).mono (R' := fun e w'' => e = .returned (.int .i64 ((ones (bitAt L) (8 * m) : Nat) : Int)) ∧ ∃ m : Seen w, w'' = m.val) fun _ w'' ⟨h1, h2⟩ => ⟨h1, ⟨n, h2.symm⟩⟩)
  have hc0 : ∀ n : Seen w, n.val.cell? ⟨b, 0, none⟩ = some (.int .i64 (h : Int)) := fun n => (f.out.seen n).c0
  generalize ones (bitAt L) (8 * m) = o at *
  go_enter Tryd.func16, Tryd.ntmps16
  go_wp2_with fail
  refine region_seen (by kernel_rfl) (by kernel_rfl) ?_
  repeat go_big_quiet_step (first | (go_at_call 32; with_reducible exact HS.out _) | (go_at_call 33; with_reducible exact HO.out _))
  refine wpQuiet_nil ?_
  rintro _ ⟨m1, rfl⟩
  go_wp2_with fail
  go_ret3
  exact ⟨rfl, m1.below⟩

theorem flt_shape_nil (w : World) : Calls Tryd.prog 16 #[.pointer none] w fun e w' => e = .returned (.tuple #[.int .i64 0, .int .i64 0, .int .i64 0]) ∧ w = w' := by
  go_enter Tryd.func16, Tryd.ntmps16
  go_wp2_with fail
  go_ret3
  exact ⟨rfl, rfl⟩
theorem flt_pack_nil (w : World) : Calls Tryd.prog 14 #[.pointer none] w fun e w' => e = .returned (.string (bs [])) ∧ w = w' := by
  go_enter Tryd.func14, Tryd.ntmps14
  go_wp2_with fail
  go_ret
  exact ⟨rfl, rfl⟩
end Go.Proofs.YtbiifdnicieamaaDoor
