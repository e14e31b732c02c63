/- The way down a tree (of int values), put behind what is left. -/
import Derived.Test.YtbmihajbdobgbaaMemMapI
import Derived.Test.YtbmihajbdobgbaaMemPath
set_option linter.unusedVariables false
set_option maxRecDepth 100000
namespace Go.Proofs.Ytbmihajbdobgbaa.MI
open Go.RowKit

theorem infoP : (Try.prog.info? 25).map (fun i => (i.zero, i.size, i.bytes)) = some (some (.pointer none), 1, 8) := by kernel_rfl
/-- Nodes in a row of the call's own. -/
def Stk (w : World) (B : Nat) (v : Value) (S : List (Tr Int)) : Prop := OffRow w B 25 1 v S.length (S.map Tr.ptr)
theorem In.kn {B : Nat} {w w' : World} {t : Tr Int} (h : In B w t) (k : Kn 64 w w') : In w'.heap.size w' t := InT.kn h k
/-- What a call leaves that goes on with a row. -/
structure Went (S : List (Tr Int)) (v : Value) (B : Nat) (w : World) (v' : Value) (w' : World) : Prop where
  row : Stk w' B v' S
  only : Only (fun j => v.ownBlock = some j) w w'
  own : ∀ j, v'.ownBlock = some j → v.ownBlock = some j ∨ w.heap.size ≤ j
  kn : Kn 64 w w'
theorem Went.refl {S : List (Tr Int)} {v : Value} {B : Nat} {w : World} (h : Stk w B v S) : Went S v B w v w := ⟨h, Only.refl _ _, fun _ h => .inl h, Kn.refl _ _⟩
theorem Went.snoc {S : List (Tr Int)} {v v1 v2 : Value} {B : Nat} {w w1 w2 : World} {s : Tr Int} {o : Obj} (h : Went S v B w v1 w1) (hB : B ≤ w.heap.size)
    (hr : OffRow w2 B 25 1 v2 (S.length + 1) (S.map Tr.ptr ++ [s.ptr])) (hg : (w1.alloc o).grownBy w2 v1.ownBlock) (hat : v2.ownBlock = v1.ownBlock ∨ v2.ownBlock = some (w1.heap.size + 1)) : Went (S ++ [s]) v B w v2 w2 := by
  refine ⟨?_, ?_, ?_, ?_⟩
  · show OffRow w2 B _ 1 v2 (S ++ [s]).length ((S ++ [s]).map Tr.ptr)
    simpa using hr
  · exact (h.only.alloc o).grown hg fun j hj => h.own j hj
  · intro j hj
    rcases hat with e | e
    · exact h.own j (e ▸ hj)
    · rw [e] at hj
      injection hj with hj
      have := h.only.size
      exact .inr (by omega)
  · refine (h.kn.alloc o).grown hg fun j hj => .inl ?_
    obtain ⟨cur, hc⟩ := (h.row.allocd o).tag hj
    exact ⟨cur, _, hc, by decide⟩
def FromPost (k : List UInt8) (t : Tr Int) (S : List (Tr Int)) (v : Value) (B : Nat) (w : World) (e : Ending) (w' : World) : Prop :=
  ∃ v', e = .returned v' ∧ Went (S ++ path k t) v B w v' w'
set_option maxHeartbeats 2000000 in
theorem from_ {k : List UInt8} {t : Tr Int} {pt : Option Addr} {S : List (Tr Int)} {v : Value} {B : Nat} {w : World} (h : Hid (In w.heap.size w t)) (hp : t.ptr = .pointer pt) (hv : Hid (Stk w B v S)) (hB : B ≤ w.heap.size) (hl : S.length + t.ht ≤ 1000000) :
    Calls Try.prog 36 #[.pointer pt, .string (bs k), v] w fun e w' => FromPost k t S v B w e w' := by
  obtain ⟨i0, hi, hz0, hz1, hz2⟩ := info_parts infoP
  have HI := Lib.hid (And.intro hi (And.intro hz0 (And.intro hz1 hz2)))
  have HP := Lib.hid hp
  have HBw := Lib.hid hB
  have HLn := Lib.hid hl
  clear hi hz0 hz1 hz2 hp hB hl
  go_enter Try.func36, Try.ntmps36
  go_wp2_with fail
  go_loopw [0, 2] (fun nv lv wr => ∃ pn, nv = .pointer pn ∧ (∃ s S1, Hid (s.ptr = .pointer pn) ∧ Hid (In wr.heap.size wr s) ∧ Hid (Went S1 v B w lv wr) ∧ Hid (S ++ path k t = S1 ++ path k s) ∧ Hid (S1.length + s.ht ≤ 1000000))) (fun nv lv wr => szAt nv wr)
  case atStart => exact ⟨pt, rfl, t, S, HP, h, Lib.hid (Went.refl hv.out), Lib.hid rfl, HLn⟩
  case round =>
    obtain ⟨pn, rfl, s, S1, hs, hI, hW, hpath, hlen⟩ := hrel
    obtain ⟨a1, cap1, rfl⟩ := hW.out.row.slice
    cases s with
    | nil =>
      have e1 := hs.out
      simp only [Tr.ptr, Value.pointer.injEq] at e1
      subst e1
      go_wp2_with fail
      go_ret
      exact ⟨_, rfl, by rw [hpath.out, path, List.append_nil]; exact hW.out⟩
    | node b k0 x0 l r =>
      have e1 := hs.out
      simp only [Tr.ptr, Value.pointer.injEq] at e1
      subst e1
      have c0 := hI.out.c0
      have hlt : Op.bytesLess (bs k0).toList (bs k).toList = ltB k0 k := by rw [Lib.toList_data, Lib.toList_data, bs_list, bs_list, ltB_less]
      have z0 := Lib.hid (show szAt (.pointer (some ⟨b, 0, none⟩)) wr = (Tr.node b k0 x0 l r).sz from szAt_is hI.out)
      obtain ⟨pl, hpl⟩ := l.ptr_is
      obtain ⟨pr, hpr⟩ := r.ptr_is
      have HPL := Lib.hid hpl
      have HPR := Lib.hid hpr
      have HPT := Lib.hid (show path k (Tr.node b k0 x0 l r) = if ltB k0 k then path k r else .node b k0 x0 l r :: path k l from rfl)
      cases hk : ltB k0 k with
      | true =>
        rw [hk] at hlt
        rw [hk, if_pos rfl] at HPT
        have c3 := hI.out.c3
        rw [hpr] at c3
        clear hpl hpr hk
        go_wp2_with fail
        go_roundw
        case rel => exact ⟨pr, rfl, r, S1, HPR, Lib.hid hI.out.right, hW, Lib.hid (by rw [hpath.out, HPT.out]), Lib.hid (by have := hlen.out; simp only [Tr.ht] at this; omega)⟩
        case measure => rw [z0.out, ← HPR.out, szAt_is hI.out.right]; simp only [Tr.sz]; omega
      | false =>
        rw [hk] at hlt
        rw [hk, if_neg (by decide)] at HPT
        clear hpl hpr hk
        obtain ⟨hi, hz0, hz1, hz2⟩ := HI.out
        go_wp2_with (at_builtin; refine wpList_append_off rfl (.tmp 19) (.tmp 21) 77 rfl B 25 i0 _ 1 8 Try.underlying77 hi hz0 hz1 hz2 rfl (.slice a1 S1.length cap1) S1.length (S1.map Tr.ptr) rfl ?c1 (.slice (some ⟨wr.heap.size, 0, none⟩) 1 1) rfl 1 [.pointer (some ⟨b, 0, none⟩)] ?c2 ?c3 ?c4 ?c5 ?_)
        case c1 => exact hW.out.row.allocd _
        case c2 => exact src_block (size := 1) (cs := #[.pointer (some ⟨b, 0, none⟩)]) Try.underlying77 (heap_new _ _) 1 1 rfl (by intro u hu; simp at hu; subst hu; rfl)
        case c3 => have := hlen.out; unfold maxLen; omega
        case c4 => have := hlen.out; omega
        case c5 => have := hW.out.only.size; have := HBw.out; simp; omega
        intro v7 w7 hr7 hg7 hat7
        have W7 := Lib.hid (hW.out.snoc (s := .node b k0 x0 l r) HBw.out hr7 hg7 hat7)
        have I7 := Lib.hid (hI.out.kn ((Kn.refl _ wr).alloc _ |>.grown hg7 fun j hj => .inl (by obtain ⟨cur, hc⟩ := (hW.out.row.allocd _).tag hj; exact ⟨cur, _, hc, by decide⟩)))
        have c2 := I7.out.c2
        rw [HPL.out] at c2
        clear hr7 hg7 hat7 hi hz0 hz1 hz2
        go_wp2_with fail
        go_roundw
        case rel => exact ⟨pl, rfl, l, S1 ++ [.node b k0 x0 l r], HPL, Lib.hid I7.out.left, W7, Lib.hid (by rw [hpath.out, HPT.out]; simp), Lib.hid (by have := hlen.out; simp only [Tr.ht] at this; simp; omega)⟩
        case measure => rw [z0.out, ← HPL.out, szAt_is I7.out.left]; simp only [Tr.sz]; omega
end Go.Proofs.Ytbmihajbdobgbaa.MI
