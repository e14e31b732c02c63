/- Texts put together: ManRefThere, ManOneV -/
import Derived.Test.YtljjielekgilpaaGreatMApp13
import Derived.Test.YtljjielekgilpaaGreatMApp10
import Derived.Test.YtljjielekgilpaaGreatMApp04
/- The document's side: whether a file is one of a state's. -/
set_option linter.unusedVariables false
set_option maxRecDepth 100000
namespace Go.Proofs.YtljjielekgilpaaGreat
open Go.RowKit

theorem mem_filesOf {s : St} {f : Int} : f ∈ filesOf s ↔ f ∈ s.files := by
  have hp : (filesOf s).Perm (s.logs ++ s.tabs.map (·.file) ++ s.stos.map (·.file)) := List.mergeSort_perm _ _
  rw [hp.mem_iff]
  unfold St.files
  simp only [List.mem_append]
  constructor
  · rintro ((h | h) | h)
    · exact .inr h
    · exact .inl (.inl h)
    · exact .inl (.inr h)
  · rintro ((h | h) | h)
    · exact .inl (.inr h)
    · exact .inr h
    · exact .inl (.inl h)
set_option maxHeartbeats 4000000 in
theorem ref_there {T : Nat → Prop} {w : World} {tv sv lv : Value} {s : St} {f : Int} (h : Hid (StV T w tv sv lv s)) (hs : Hid (s.tabs.length + s.stos.length + s.logs.length ≤ 1000000000)) :
    Calls Tryz.prog 83 #[.agg #[tv, sv, lv, .int .i64 s.next], .int .i64 f] w fun e w' => e = .returned (.bool (decide (f ∈ s.files))) ∧ Below w.heap.size w w' := by
  obtain ⟨xa, xc, rfl⟩ := RdL.slice h.out.tabs
  obtain ⟨ya, yc, rfl⟩ := RdL.slice h.out.stos
  obtain ⟨za, zc, rfl⟩ := RdL.slice h.out.logs
  obtain ⟨B, hB⟩ : ∃ B, B = w.heap.size := ⟨_, rfl⟩
  rw [← hB]
  have HB := Lib.hid hB
  obtain ⟨r, hr⟩ : ∃ r, r = decide (f ∈ s.files) := ⟨_, rfl⟩
  rw [← hr]
  have HR := Lib.hid hr
  obtain ⟨w1, hw1⟩ : ∃ w1, w.alloc (.cells #[.slice xa s.tabs.length xc, .slice ya s.stos.length yc, .slice za s.logs.length zc, .int .i64 s.next] 29) = w1 := ⟨_, rfl⟩
  have K1 := Lib.hid (show Below B w w1 by rw [← hw1, hB]; exact (Below.refl _ _).alloc (Nat.le_refl _) _)
  have X1 := Lib.hid (show C4 B (.slice xa s.tabs.length xc) (.slice ya s.stos.length yc) (.slice za s.logs.length zc) (.int .i64 s.next) w1 by rw [← hw1, hB]; exact heap_new w _)
  have HW1 := Lib.hid hw1
  have S1 := Lib.hid (h.out.below (HB.out ▸ K1.out))
  have HF := Lib.hid (ref_Files S1 hs)
  obtain ⟨L, hL⟩ : ∃ L, L = filesOf s := ⟨_, rfl⟩
  rw [← hL] at HF
  have HL := Lib.hid (show L = filesOf s ∧ L.length ≤ 1000000000 from ⟨hL, by
    have hp : (filesOf s).Perm (s.logs ++ s.tabs.map (·.file) ++ s.stos.map (·.file)) := List.mergeSort_perm _ _
    rw [hL, hp.length_eq]
    simp only [List.length_append, List.length_map]
    have := hs.out
    omega⟩)
  have hB1 : B ≤ w1.heap.size := Nat.le_of_lt (heap_lt X1.out)
  obtain ⟨x0, x1, x2, x3⟩ := X1.out.c0
  clear hw1 hB hr hL
  go_enter Tryz.func83, Tryz.ntmps83
  go_upto_region 1 with (fail)
  rw [HW1.out, ← HB.out]
  go_wp2_with fail
  refine HF.out.mono ?_
  rintro e w2 ⟨v, rfl, o2, k2⟩
  have K2 := Lib.hid (K1.out.trans (k2.mono hB1))
  obtain ⟨n, hn⟩ : ∃ n, n = L.length := ⟨_, rfl⟩
  have O2 := Lib.hid (show OffRow w2 w1.heap.size 3 1 v n (flat icell L) by rw [hn]; exact o2)
  have HN := Lib.hid hn
  have hn9 : n ≤ 1000000000 := by rw [hn]; exact HL.out.2
  obtain ⟨va, vc, rfl⟩ := OffRow.slice O2.out
  clear o2 k2 x0 x1 x2 x3 HF hn
  go_wp2_with fail
  go_loopw [6] (fun iv wr => ∃ i : Nat, i ≤ n ∧ iv = .int .i64 (i : Int) ∧ Hid (f ∉ L.take i) ∧ Hid (Below w2.heap.size w2 wr)) (fun iv wr => n - (intOf iv).toNat)
  case atStart => exact ⟨0, Nat.zero_le _, rfl, Lib.hid (by simp), Lib.hid (Below.refl _ _)⟩
  case round =>
    obtain ⟨i, hi, rfl, hno, hK⟩ := hrel
    by_cases hlt : i < n
    · have hlt' : (i : Int) < (n : Int) := by omega
      obtain ⟨y, hy⟩ : ∃ y, L[i]? = some y := ⟨_, List.getElem?_eq_getElem (by have := HN.out; omega)⟩
      obtain ⟨b, off, rfl, _, hb, hc⟩ := ((OffRow.rdL O2.out).below hK.out).atI hy hlt
      have y0 := hc 0 _ rfl
      simp only [Nat.mul_one, Nat.add_zero] at y0
      have HY := Lib.hid hy
      clear hc hy hb
      by_cases hyf : y = f
      · have q : (y == f) = true := by simpa using hyf
        have HT := Lib.hid (show r = true by
          rw [HR.out, decide_eq_true_eq, ← mem_filesOf, ← HL.out.1, ← hyf]
          exact List.mem_of_getElem? HY.out)
        clear hyf
        go_wp2
        go_ret
        exact ⟨by rw [HT.out]; rfl, K2.out.trans (hK.out.mono (by have := K2.out.size; have := HB.out; omega))⟩
      · have q : (y == f) = false := by simpa using hyf
        have HNX := Lib.hid (show f ∉ L.take (i + 1) by
          rw [List.take_add_one, HY.out]
          intro hm
          rcases List.mem_append.1 hm with hm | hm
          · exact hno.out hm
          · have : f = y := by simpa using hm
            exact hyf this.symm)
        clear hyf
        go_wp2_with fail
        go_roundw
        case rel => exact ⟨i + 1, hlt, by go_num, HNX, hK⟩
        case measure => simp [intOf]; omega
    · obtain rfl : i = n := by omega
      have HT := Lib.hid (show r = false by
        rw [HR.out, decide_eq_false_iff_not, ← mem_filesOf, ← HL.out.1]
        have := hno.out
        rwa [List.take_of_length_le (by have := HN.out; omega)] at this)
      go_wp2
      go_ret
      exact ⟨by rw [HT.out]; rfl, K2.out.trans (hK.out.mono (by have := K2.out.size; have := HB.out; omega))⟩
end Go.Proofs.YtljjielekgilpaaGreat
/- The document's side: what the walk of one edit keeps. -/
set_option linter.unusedVariables false
set_option maxRecDepth 100000
namespace Go.Proofs.YtljjielekgilpaaGreat
open Go.RowKit

theorem EdAt.c {eb : Nat} {x : Ed} {w : World} (h : EdAt eb x w) : w.cell? ⟨eb, 0, none⟩ = some (.int .i64 x.kind) ∧ w.cell? ⟨eb, 1, none⟩ = some (.int .i64 x.file) ∧ w.cell? ⟨eb, 2, none⟩ = some (.int .i64 x.lev) ∧ w.cell? ⟨eb, 3, none⟩ = some (.int .i64 x.cnt) ∧ w.cell? ⟨eb, 4, none⟩ = some (.string (bs x.low)) ∧ w.cell? ⟨eb, 5, none⟩ = some (.string (bs x.high)) := by
  unfold EdAt at h
  simp [World.cell?, h]
/-- A table's variable. -/
def TbAt (b : Nat) (x : Ed) (w : World) : Prop := w.heap[b]? = some (.cells #[.int .i64 x.file, .int .i64 x.lev, .int .i64 x.cnt, .string (bs x.low), .string (bs x.high)] 86 (0, 0))
theorem TbAt.c {b : Nat} {x : Ed} {w : World} (h : TbAt b x w) : w.cell? ⟨b, 0, none⟩ = some (.int .i64 x.file) ∧ w.cell? ⟨b, 1, none⟩ = some (.int .i64 x.lev) ∧ w.cell? ⟨b, 2, none⟩ = some (.int .i64 x.cnt) ∧ w.cell? ⟨b, 3, none⟩ = some (.string (bs x.low)) ∧ w.cell? ⟨b, 4, none⟩ = some (.string (bs x.high)) := by
  unfold TbAt at h
  simp [World.cell?, h]
structure OneV (B tb : Nat) (w0 : World) (tv sv lv : Value) (nx : Int) (x : Ed) (o0 o1 o2 : Value) (w : World) : Prop where
  st : C4 B tv sv lv (.int .i64 nx) w
  ed : EdAt (B + 1) x w
  rs : C4 (B + 2) (.slice none 0 0) (.slice none 0 0) (.slice none 0 0) (.int .i64 0) w
  out : C4 (B + 3) o0 o1 o2 (.int .i64 nx) w
  tt : TbAt tb x w
  kp : Below B w0 w
  lo : B + 3 < tb
namespace OneV
variable {B tb : Nat} {w0 w w' : World} {tv sv lv o0 o1 o2 : Value} {nx : Int} {x : Ed}
theorem lt (h : OneV B tb w0 tv sv lv nx x o0 o1 o2 w) : tb < w.heap.size := heap_lt h.tt
theorem keep (h : OneV B tb w0 tv sv lv nx x o0 o1 o2 w) (k : ∀ j, j ≤ tb → w'.heap[j]? = w.heap[j]?) (kb : Below B w0 w') : OneV B tb w0 tv sv lv nx x o0 o1 o2 w' := by
  have hl := h.lo
  exact ⟨(k B (by omega)).trans h.st, (k (B + 1) (by omega)).trans h.ed, (k (B + 2) (by omega)).trans h.rs, (k (B + 3) (by omega)).trans h.out, (k tb (Nat.le_refl _)).trans h.tt, kb, hl⟩
theorem below (h : OneV B tb w0 tv sv lv nx x o0 o1 o2 w) (k : Below w.heap.size w w') : OneV B tb w0 tv sv lv nx x o0 o1 o2 w' :=
  h.keep (fun j hj => k.block j (by have := h.lt; omega)) (h.kp.trans (k.mono (by have := h.lt; have := h.lo; omega)))
/-- Behind an append to a row beyond the variables. -/
theorem grown {wa : World} {row : Option Nat} (h : OneV B tb w0 tv sv lv nx x o0 o1 o2 w) (k : Below w.heap.size w wa) (hg : wa.grownBy w' row) (hr : ∀ j, row = some j → tb < j) : OneV B tb w0 tv sv lv nx x o0 o1 o2 w' := by
  have ha := h.below k
  refine ha.keep (fun j hj => hg.block j (by have := ha.lt; omega) (fun e => by have := hr j e.symm; omega)) ?_
  exact ha.kp.grown hg (by have := ha.lt; have := ha.lo; omega) (fun j hj => by have := hr j hj; have := ha.lo; omega)
theorem set0 (h : OneV B tb w0 tv sv lv nx x o0 o1 o2 w) (v : Value) : OneV B tb w0 tv sv lv nx x v o1 o2 (w.setCell ⟨B + 3, 0, none⟩ v) := by
  have hl := h.lo
  exact ⟨(heap_set_other (by omega) _).trans h.st, (heap_set_other (by omega) _).trans h.ed, (heap_set_other (by omega) _).trans h.rs, heap_set (o := 0) h.out v, (heap_set_other (by omega) _).trans h.tt, h.kp.setCell (p := ⟨B + 3, 0, none⟩) (by show B ≤ B + 3; omega) v, hl⟩
theorem set1 (h : OneV B tb w0 tv sv lv nx x o0 o1 o2 w) (v : Value) : OneV B tb w0 tv sv lv nx x o0 v o2 (w.setCell ⟨B + 3, 1, none⟩ v) := by
  have hl := h.lo
  exact ⟨(heap_set_other (by omega) _).trans h.st, (heap_set_other (by omega) _).trans h.ed, (heap_set_other (by omega) _).trans h.rs, heap_set (o := 1) h.out v, (heap_set_other (by omega) _).trans h.tt, h.kp.setCell (p := ⟨B + 3, 1, none⟩) (by show B ≤ B + 3; omega) v, hl⟩
theorem set2 (h : OneV B tb w0 tv sv lv nx x o0 o1 o2 w) (v : Value) : OneV B tb w0 tv sv lv nx x o0 o1 v (w.setCell ⟨B + 3, 2, none⟩ v) := by
  have hl := h.lo
  exact ⟨(heap_set_other (by omega) _).trans h.st, (heap_set_other (by omega) _).trans h.ed, (heap_set_other (by omega) _).trans h.rs, heap_set (o := 2) h.out v, (heap_set_other (by omega) _).trans h.tt, h.kp.setCell (p := ⟨B + 3, 2, none⟩) (by show B ≤ B + 3; omega) v, hl⟩
end OneV
/-- A row beyond a block, behind a store to a block that isn't beyond it. -/
theorem off_set {w : World} {tb b i n size : Nat} {e : TypeId} {v u : Value} {xs : List Value} (h : OffRow w (tb + 1) e size v n xs) (hb : b ≤ tb) : OffRow (w.setCell ⟨b, i, none⟩ u) (tb + 1) e size v n xs :=
  OffRow.kept h fun j hj => heap_set_other (by have := (OffRow.lt h j hj).1; omega) _
/-- A row, behind an append to a row of another type. -/
theorem off_other {w wa w' : World} {B n m size size' : Nat} {e e' : TypeId} {v v' : Value} {xs ys : List Value} (h : OffRow w B e size v n xs) (h' : OffRow w B e' size' v' m ys) (he : e ≠ e') (k : Below w.heap.size w wa) (hg : wa.grownBy w' v'.ownBlock) : OffRow w' B e size v n xs := by
  refine OffRow.kept h fun j hj => ?_
  have hl := (OffRow.lt h j hj).2
  rw [hg.block j (Nat.lt_of_lt_of_le hl k.size) (fun e1 => ?_), k.block j hl]
  obtain ⟨c1, h1⟩ := OffRow.tag h hj
  obtain ⟨c2, h2⟩ := OffRow.tag h' e1.symm
  rw [h1] at h2
  injection h2 with h2
  injection h2 with _ h2 _
  exact he h2
theorem off_below {w w' : World} {B n size : Nat} {e : TypeId} {v : Value} {xs : List Value} (h : OffRow w B e size v n xs) (k : Below w.heap.size w w') : OffRow w' B e size v n xs :=
  OffRow.kept h fun j hj => k.block j (OffRow.lt h j hj).2
def delT (f : Int) (L : List Tb) : List Tb := L.filter fun t => decide (t.file ≠ f)
def delS (f : Int) (L : List So) : List So := L.filter fun t => decide (t.file ≠ f)
/-- What the document's step answers. -/
def OnePost (s : St) (x : Ed) (w : World) (e : Ending) (w' : World) : Prop :=
  ∃ xa xn xc ya yn yc za zn zc nx, e = .returned (.tuple #[.agg #[.slice xa xn xc, .slice ya yn yc, .slice za zn zc, .int .i64 nx], .int .i64 (oneE s x)]) ∧ (oneE s x = 0 → nx = (oneS s x).next ∧ OwnSt w' w.heap.size (.slice xa xn xc) (.slice ya yn yc) (.slice za zn zc) (oneS s x)) ∧ Below w.heap.size w w'
end Go.Proofs.YtljjielekgilpaaGreat
