/- Texts put together: ManDelT, ManOutT, ManWithT, ManDropT, ManDelS, ManOutS, ManWithS, ManDropS, ManDelI, ManAtI, ManOutI, ManWithI -/
import Derived.Test.YtgljjdldhnajdaaGreatMPac12
import Derived.Test.YtgljjdldhnajdaaGreatMPac02
import Derived.Test.YtgljjdldhnajdaaGreatMPac14
import Derived.Shelf.RegionOpenPlain
import Derived.Test.YtgljjdldhnajdaaGreatMPac13
import Derived.Test.YtgljjdldhnajdaaGreatMPac11
import Derived.Test.YtgljjdldhnajdaaGreatMPac05
/- An element taken out of a row: the library's Delete, of one element; the place of the first that is sought. -/
set_option linter.unusedVariables false
set_option maxRecDepth 100000
namespace Go.Proofs.YtgljjdldhnajdaaGreat
open Go.RowKit

def DelPostT (B g off n cap i : Nat) (L : List Tb) (w : World) (e : Ending) (w' : World) : Prop :=
  ∃ v', e = .returned v' ∧ OffRow w' B 119 5 v' (n - 1) (flat tcell (L.eraseIdx i)) ∧ w.grownBy w' (some g) ∧ v'.ownBlock = some g
theorem flat_eraseT {L : List Tb} {i : Nat} (hi : i < L.length) : flat tcell (L.eraseIdx i) = (flat tcell L).take (i * 5) ++ (flat tcell L).drop ((i + 1) * 5) := by
  rw [List.eraseIdx_eq_take_drop_succ, flat_append, (flat_split tcell_len L i (by omega)).1, (flat_split tcell_len L (i + 1) (by omega)).2]

set_option maxHeartbeats 4000000 in
theorem delete_T {B n cap i g off : Nat} {L : List Tb} {w : World} (h : Hid (AtRow w 119 5 g off n cap (flat tcell L))) (hBg : B ≤ g) (hL : Hid (n = L.length)) (hn : n ≤ 1000000000) (hi : i < n) :
    Calls Tryz.prog 191 #[.slice (some ⟨g, off, none⟩) n cap, .int .i64 (i : Int), .int .i64 ((i : Int) + 1)] w (DelPostT B g off n cap i L w) := by
  have mixed : Tryz.prog.follows .mixedOrders = true := by kernel_rfl
  have HE := Lib.hid (flat_eraseT (L := L) (i := i) (by have := hL.out; omega))
  obtain ⟨i0, hi0, hz0, hz1, hz2⟩ := info_parts infoTb
  obtain ⟨m, rfl⟩ : ∃ m, n = m + 1 := ⟨n - 1, by omega⟩
  have him : i ≤ m := by omega
  have hxs : (flat tcell L).length = (m + 1) * 5 := h.out.len
  obtain ⟨cur, hg, hcs, hcc⟩ := h.out.obj
  have hcn : m + 1 ≤ cap := h.out.room
  have hmx : cap ≤ maxLen := h.out.max
  have hdl : ((flat tcell L).drop ((i + 1) * 5)).length = (m - i) * 5 := by rw [List.length_drop, hxs]; omega
  have hsrc : ∀ a2 c2, (i + 1 < cap → a2 = ⟨g, off + (i + 1) * 5, none⟩) → Src Tryz.prog 5 42 (.slice (some a2) (m - i) c2) (m - i) ((flat tcell L).drop ((i + 1) * 5)) w.drew := fun a2 c2 ha => by
    refine Src.ofSlice w.drew Tryz.underlying42 a2 (m - i) c2 _ hdl (fun j u hj => ?_) (fun v hv => flat_one' tcell_one L v (List.mem_of_mem_drop hv))
    have hlt : j < (m - i) * 5 := by rw [← hdl]; exact (List.getElem?_eq_some_iff.1 hj).1
    rw [ha (by omega), addr_add, Nat.add_assoc]
    rw [List.getElem?_drop] at hj
    exact h.out.cell hj
  have hap : ∀ ty a2 c2, (i + 1 < cap → a2 = ⟨g, off + (i + 1) * 5, none⟩) → (Builtin.append_ #[42, 42] ty #[.slice (some ⟨g, off, none⟩) i cap, .slice (some a2) (m - i) c2]).run Tryz.prog w.drew = .ok (.slice (some ⟨g, off, none⟩) m cap) (w.drew.setCells g (off + i * 5) ((flat tcell L).drop ((i + 1) * 5))) := fun ty a2 c2 ha => by
    have := run_append_room_src (P := Tryz.prog) w.drew 42 42 ty 119 i0 Tryz.underlying42 hi0 g off i cap _ (m - i) ((flat tcell L).drop ((i + 1) * 5)) (by rw [hz1]; exact hsrc a2 c2 ha) (by omega)
      (fun j hj => by rw [hz1, Nat.add_assoc]; exact h.out.some (by rw [hdl] at hj; omega)) (fun j hj => h.out.free _)
    rw [hz1, show i + (m - i) = m by omega] at this
    exact this
  obtain ⟨W1, hW1⟩ : ∃ W1, W1 = w.drew.setCells g (off + i * 5) ((flat tcell L).drop ((i + 1) * 5)) := ⟨_, rfl⟩
  obtain ⟨c1, a1, a2, _, _⟩ := setCells_heap ((flat tcell L).drop ((i + 1) * 5)) g (off + i * 5) w.drew cur 119 hg
  rw [← hW1] at a1
  have hcl : ∀ ty c, (Builtin.clear_ #[42] ty #[.slice (some ⟨g, off + m * 5, none⟩) 1 c]).run Tryz.prog W1 = .ok (.tuple #[]) (W1.setCells g (off + m * 5) (Value.agg #[.int .i64 0, .int .i64 0, .int .i64 0, .string ⟨#[]⟩, .string ⟨#[]⟩]).cells.toList) := fun ty c => by
    refine run_clear_one (P := Tryz.prog) W1 42 ty 119 i0 (Value.agg #[.int .i64 0, .int .i64 0, .int .i64 0, .string ⟨#[]⟩, .string ⟨#[]⟩]) 5 g (off + m * 5) c Tryz.underlying42 hi0 hz0 rfl (fun u hu => ?_) (fun j hj => by simp [World.cell?, a1]; omega) (fun j hj => by simp [World.frozen?, a1])
    simp [Value.cells] at hu
    rcases hu with rfl | rfl | rfl | rfl | rfl <;> rfl
  have HF := Lib.hid (show OffRow (W1.setCells g (off + m * 5) (Value.agg #[.int .i64 0, .int .i64 0, .int .i64 0, .string ⟨#[]⟩, .string ⟨#[]⟩]).cells.toList) B 119 5 (.slice (some ⟨g, off, none⟩) m cap) (m + 1 - 1) (flat tcell (L.eraseIdx i)) by
    rw [HE.out, hW1, Nat.add_sub_cancel]
    exact AtRow.off (AtRow.delete (w := w.drew) (h.out.kept (w' := w.drew) rfl) hi rfl rfl) hBg)
  have HG := Lib.hid (show w.grownBy (W1.setCells g (off + m * 5) (Value.agg #[.int .i64 0, .int .i64 0, .int .i64 0, .string ⟨#[]⟩, .string ⟨#[]⟩]).cells.toList) (some g) by
    rw [hW1]
    obtain ⟨p1, p2, p3, p4⟩ := setCells_meta ((flat tcell L).drop ((i + 1) * 5)) g (off + i * 5) w.drew
    obtain ⟨q1, q2, q3, q4⟩ := setCells_meta (Value.agg #[.int .i64 0, .int .i64 0, .int .i64 0, .string ⟨#[]⟩, .string ⟨#[]⟩]).cells.toList g (off + m * 5) (w.drew.setCells g (off + i * 5) ((flat tcell L).drop ((i + 1) * 5)))
    exact ⟨q1.trans p1, q2.trans p2, q3.trans p3, by rw [q4, p4]; exact Nat.le_refl _, fun k _ hk => (setCells_other _ _ _ _ _ (fun e => hk (by rw [e]))).trans (setCells_other _ _ _ _ _ (fun e => hk (by rw [e])))⟩)
  rw [← hW1] at hap
  have hb0 : (i : Int) ≤ (i : Int) + 1 := by omega
  have hb1 : (i : Int) + 1 ≤ ((m : Int) + 1) := by omega
  have hb2 : ((m : Int) + 1) ≤ (cap : Int) := by omega
  have hb3 : i ≤ cap := by omega
  have hb4 : (0 : Int) ≤ (i : Int) + 1 := by omega
  have htn : ((i : Int) + 1).toNat = i + 1 := by omega
  have hne : ¬ (i : Int) = (i : Int) + 1 := by omega
  have hmn : (m : Int) ≤ ((m : Int) + 1) := by omega
  have hmc : ¬ cap = m := by omega
  have hnm : m + 1 - m = 1 := by omega
  have hcap63 : (cap : Int) ≤ 9223372036854775807 := by unfold maxLen at hmx; omega
  have hib : (i : Int) ≤ (cap : Int) := by omega
  have hi1 : i + 1 ≤ cap := by omega
  have HX := Lib.hid (And.intro a1 (And.intro a2 (And.intro hcc (And.intro hcs (And.intro hxs hdl)))))
  clear a1 a2 hcc hcs hxs hdl hg hi0 hz0 hz1 hz2 hsrc hW1 hmx
  have hcs := Nat.lt_or_ge (i + 1) cap
  rcases hcs with hlt | hge
  · have hnc : ¬ cap = i + 1 := by omega
    have HAP := fun ty c2 => hap ty ⟨g, off + (i + 1) * 5, none⟩ c2 (fun _ => rfl)
    clear hap
    go_enter Tryz.func191, Tryz.ntmps191
    go_wp2_with fail
    go_region_law_o (refine step_append_runI rfl _ _ 42 42 rfl (.slice (some ⟨g, off, none⟩) i cap) (.slice (some ⟨g, off + (i + 1) * 5, none⟩) (m - i) (cap - (i + 1))) (by simp [Act.eval, Act.put]) (by simp [Act.eval, Act.put]) (HAP _ _) ?_)
    go_wp2_with (at_builtin; refine wpList_clear_runI rfl _ 42 rfl _ rfl (hcl _ _) ?_)
    go_ret
    exact ⟨_, rfl, HF.out, HG.out, rfl⟩
  · have hnc : (cap = i + 1) ↔ True := by constructor <;> (intro; first | trivial | omega)
    have HAP := fun ty c2 => hap ty ⟨g, off, none⟩ c2 (fun h => absurd h (by omega))
    clear hap hge
    go_enter Tryz.func191, Tryz.ntmps191
    go_wp2_with fail
    go_region_law_o (refine step_append_runI rfl _ _ 42 42 rfl (.slice (some ⟨g, off, none⟩) i cap) (.slice (some ⟨g, off, none⟩) (m - i) (cap - (i + 1))) (by simp [Act.eval, Act.put]) (by simp [Act.eval, Act.put]) (HAP _ _) ?_)
    go_wp2_with (at_builtin; refine wpList_clear_runI rfl _ 42 rfl _ rfl (hcl _ _) ?_)
    go_ret
    exact ⟨_, rfl, HF.out, HG.out, rfl⟩
end Go.Proofs.YtgljjdldhnajdaaGreat
/- The element with a file taken out of a list, where there is one. -/
set_option linter.unusedVariables false
set_option maxRecDepth 100000
namespace Go.Proofs.YtgljjdldhnajdaaGreat
open Go.RowKit

set_option maxHeartbeats 1000000 in
theorem sought_T (x : Tb) (f : Int) (fb : Nat) (w : World) (h : w.cell? ⟨fb, 0, none⟩ = some (.int .i64 f)) :
    Calls Tryz.prog 161 #[.agg #[.int .i64 x.file, .int .i64 x.lev, .int .i64 x.cnt, .string (bs x.low), .string (bs x.high)], .pointer (some ⟨fb, 0, none⟩)] w fun e w' => e = .returned (.bool (x.file == f)) ∧ Below w.heap.size w w' := by
  have hfb : fb < w.heap.size := cell_block h
  have hne : ¬ fb = w.heap.size := by omega
  obtain ⟨r, hr⟩ : ∃ r, (x.file == f) = r := ⟨_, rfl⟩
  rw [hr]
  cases r
  all_goals
    go_enter Tryz.func161, Tryz.ntmps161
    go_wp2
    go_ret
    exact ⟨rfl, (Below.refl _ _).alloc (Nat.le_refl _) _⟩
/-- Where the file stands, or nowhere. -/
def SeatT (L : List Tb) (f : Int) (e : Ending) : Prop :=
  (∃ (i : Nat) (x : Tb), L[i]? = some x ∧ x.file = f ∧ e = .returned (.int .i64 (i : Int))) ∨ ((∀ x ∈ L, x.file ≠ f) ∧ e = .returned (.int .i64 (-1)))
set_option maxHeartbeats 2000000 in
theorem index_T {T : Nat → Prop} {a : Option Addr} {n cap fb : Nat} {L : List Tb} {f : Int} {w : World} (h : Hid (RdL T w (.slice a n cap) n (flat tcell L))) (hL : Hid (n = L.length)) (hn : n ≤ 1000000000) (hf : Hid (w.cell? ⟨fb, 0, none⟩ = some (.int .i64 f))) :
    Calls Tryz.prog 186 #[.slice a n cap, .func (.func 161) #[] #[.pointer (some ⟨fb, 0, none⟩)]] w fun e w' => SeatT L f e ∧ Below w.heap.size w w' := by
  have eg : ∀ args w, (callFunc 161 args).run Tryz.prog w = .ok (.enter 161 args) w := enters_of Tryz.func161 (by kernel_rfl) rfl
  go_enter Tryz.func186, Tryz.ntmps186
  go_wp2_with fail
  go_loopw [8] (fun iv wr => ∃ i : Nat, i ≤ n ∧ iv = .int .i64 i ∧ Hid (∀ j y, j < i → L[j]? = some y → y.file ≠ f) ∧ Hid (Below w.heap.size w wr)) (fun iv wr => n - (intOf iv).toNat)
  case atStart => exact ⟨0, by omega, rfl, Lib.hid (fun j y hj => by omega), Lib.hid (Below.refl _ _)⟩
  case round =>
    obtain ⟨i, hi, rfl, hno, hB⟩ := hrel
    by_cases hlt : i < n
    · have hlt' : (i : Int) < (n : Int) := by omega
      obtain ⟨y, hy⟩ : ∃ y, L[i]? = some y := ⟨_, List.getElem?_eq_getElem (by have := hL.out; omega)⟩
      obtain ⟨b, off, rfl, ht, hb2, hc⟩ := RdL.atT h.out hy hlt
      have hcr : ∀ i' u, (tcell y)[i']? = some u → wr.cell? ⟨b, off + i * 5 + i', none⟩ = some u := fun i' u hu => by
        rw [← hc i' u hu]
        simp only [World.cell?, hB.out.block b hb2]
      have y0 : wr.cell? ⟨b, off + i * 5, none⟩ = _ := hcr 0 _ rfl
      have y1 := hcr 1 _ rfl
      have y2 := hcr 2 _ rfl
      have y3 := hcr 3 _ rfl
      have y4 := hcr 4 _ rfl
      have hfr : wr.cell? ⟨fb, 0, none⟩ = some (.int .i64 f) := by rw [hB.out.cell (p := ⟨fb, 0, none⟩) (cell_block hf.out)]; exact hf.out
      have HS := Lib.hid (sought_T y f fb wr hfr)
      have HY := Lib.hid hy
      clear hfr hy hc hcr
      obtain ⟨r, hr⟩ : ∃ r, (y.file == f) = r := ⟨_, rfl⟩
      rw [hr] at HS
      have HR := Lib.hid hr
      clear hr
      cases r with
      | true =>
        go_wp2_with fail
        refine HS.out.mono ?_
        rintro e w2 ⟨rfl, k2⟩
        have K2 := Lib.hid (hB.out.trans (k2.mono hB.out.size))
        clear k2
        go_wp2
        go_ret
        exact ⟨.inl ⟨i, y, HY.out, by simpa using HR.out, rfl⟩, K2.out⟩
      | false =>
        go_wp2_with fail
        refine HS.out.mono ?_
        rintro e w2 ⟨rfl, k2⟩
        have K2 := Lib.hid (hB.out.trans (k2.mono hB.out.size))
        clear k2
        go_wp2_with fail
        go_roundw
        case rel => exact ⟨i + 1, hlt, by go_num, Lib.hid (fun j z hj hz => by
          rcases Nat.lt_or_ge j i with e | e
          · exact hno.out j z e hz
          · obtain rfl : j = i := by omega
            rw [HY.out] at hz
            injection hz with hz
            subst hz
            simpa using HR.out), K2⟩
        case measure => simp [intOf]; omega
    · obtain rfl : i = n := by omega
      go_wp2
      go_ret
      refine ⟨.inr ⟨fun x hx => ?_, rfl⟩, hB.out⟩
      obtain ⟨j, hj, e⟩ := List.mem_iff_getElem.1 hx
      exact hno.out j x (by have := hL.out; omega) (by rw [← e]; exact List.getElem?_eq_getElem hj)
end Go.Proofs.YtgljjdldhnajdaaGreat
/- A list without the element of a file. -/
set_option linter.unusedVariables false
set_option maxRecDepth 100000
namespace Go.Proofs.YtgljjdldhnajdaaGreat
open Go.RowKit

def WithPostT (B : Nat) (a : Option Addr) (n cap : Nat) (L : List Tb) (f : Int) (w : World) (e : Ending) (w' : World) : Prop :=
  ∃ v' z L', e = .returned (.tuple #[v', .int .i64 z]) ∧ OffRow w' B 119 5 v' L'.length (flat tcell L') ∧ Only (fun k => (Value.slice a n cap).ownBlock = some k) w w' ∧ v'.ownBlock = (Value.slice a n cap).ownBlock ∧
    ((∃ i x, L[i]? = some x ∧ x.file = f ∧ z = 0 ∧ L' = L.eraseIdx i) ∨ ((∀ x ∈ L, x.file ≠ f) ∧ z = 9 ∧ L' = L))
set_option maxHeartbeats 2000000 in
theorem without_T {B n cap fb : Nat} {a : Option Addr} {L : List Tb} {f : Int} {w : World} (h : Hid (OffRow w B 119 5 (.slice a n cap) n (flat tcell L))) (hL : Hid (n = L.length)) (hn : n ≤ 1000000000) (hf : Hid (w.cell? ⟨fb, 0, none⟩ = some (.int .i64 f))) (hB : B ≤ w.heap.size) :
    Calls Tryz.prog 160 #[.slice a n cap, .func (.func 161) #[] #[.pointer (some ⟨fb, 0, none⟩)]] w (WithPostT B a n cap L f w) := by
  have HI := Lib.hid (index_T (Lib.hid h.out.rdL) hL hn hf)
  go_enter Tryz.func160, Tryz.ntmps160
  go_wp2_with fail
  refine HI.out.mono ?_
  rintro e w1 ⟨hs, k1⟩
  have K1 := Lib.hid k1
  have O1 := Lib.hid (OffRow.kept h.out (w' := w1) fun j hj => K1.out.block j (OffRow.lt h.out j hj).2)
  have HO1 := Lib.hid (show Only (fun k => (Value.slice a n cap).ownBlock = some k) w w1 from Only.of_below k1 (fun k hk hk2 => absurd hk (by omega)))
  clear k1
  rcases hs with ⟨i, x, hx, hxf, rfl⟩ | ⟨hno, rfl⟩
  · have hin : i < n := by have := (List.getElem?_eq_some_iff.1 hx).1; have := hL.out; omega
    have hcn := OffRow.cap_ge h.out
    obtain ⟨g, off, rfl, hBg, hr⟩ := OffRow.at' O1.out (by omega)
    have HD := Lib.hid (delete_T (Lib.hid hr) hBg hL hn hin)
    have HX := Lib.hid (And.intro hx hxf)
    have hi0 : ¬ (i : Int) < 0 := by omega
    clear hx hxf hr
    go_wp2_with fail
    refine HD.out.mono ?_
    rintro e w2 ⟨v', rfl, o2, g2, hv⟩
    have O2 := Lib.hid (And.intro o2 (And.intro g2 hv))
    clear o2 g2 hv
    go_wp2
    go_ret2
    refine ⟨v', 0, L.eraseIdx i, rfl, ?_, ?_, O2.out.2.2, .inl ⟨i, x, HX.out.1, HX.out.2, rfl, rfl⟩⟩
    · have := O2.out.1
      rw [List.length_eraseIdx_of_lt (by have := hL.out; omega), ← hL.out]
      exact this
    · exact HO1.out.grown O2.out.2.1 fun j hj => .inl (by rw [← hj]; rfl)
  · have HN := Lib.hid hno
    clear hno
    go_wp2
    go_ret2
    exact ⟨_, 9, L, rfl, by rw [← hL.out]; exact O1.out, HO1.out, rfl, .inr ⟨HN.out, rfl, rfl⟩⟩
end Go.Proofs.YtgljjdldhnajdaaGreat
/- A draft without a thing. -/
set_option linter.unusedVariables false
set_option maxRecDepth 100000
namespace Go.Proofs.YtgljjdldhnajdaaGreat
open Go.RowKit Go.Maps Go.WideShapes Go.ChangeMaps
variable {B db mb : Nat} {w : World} {s : St} {tv sv lv : Value}

set_option maxHeartbeats 4000000 in
theorem draft_dropT (h : Hid (Dr B w db s tv sv lv mb)) (f : Int) (hw : Hid ((Lit.int .i64 f).wf = true)) (hnod : Hid s.files.Nodup) (hn : s.tabs.length ≤ 1000000000) :
    Calls Tryz.prog 122 #[.pointer (some ⟨db, 0, none⟩), .int .i64 2, .int .i64 f] w
      (DoPost B db w (if f ∈ s.tabs.map (·.file) then 0 else 9) { s with tabs := s.tabs.filter fun t => decide (t.file ≠ f) }) := by
  have HB := Lib.hid (show B ≤ w.heap.size by have := h.out.lo; have := h.out.lt; omega)
  obtain ⟨a1, c1, hv1⟩ := OffRow.slice h.out.tabs
  obtain ⟨n1, hn1⟩ : ∃ n1, n1 = s.tabs.length := ⟨_, rfl⟩
  have HN1 := Lib.hid hn1
  rw [← hn1] at hv1
  subst hv1
  obtain ⟨w1, hw1⟩ : ∃ w1, w.alloc (.cells #[.int .i64 f] 3) = w1 := ⟨_, rfl⟩
  obtain ⟨fb, hfb⟩ : ∃ fb, fb = w.heap.size := ⟨_, rfl⟩
  have HFB := Lib.hid hfb
  have K1 := Lib.hid (show Below w.heap.size w w1 by rw [← hw1]; exact (Below.refl _ _).alloc (Nat.le_refl _) _)
  have D1 := Lib.hid (h.out.below K1.out)
  have F1 := Lib.hid (show w1.heap[fb]? = some (.cells #[.int .i64 f] 3 (0, 0)) by rw [← hw1, hfb]; exact heap_new w _)
  have HW1 := Lib.hid hw1
  have c0 : w1.cell? ⟨db, 0, none⟩ = some (.slice a1 n1 c1) := D1.out.cell 0
  have O1 := Lib.hid (show OffRow w1 B 119 5 (.slice a1 n1 c1) n1 (flat tcell s.tabs) by have := D1.out.tabs; unfold OwnTb at this; rw [← hn1] at this; exact this)
  have HWI := Lib.hid (without_T (fb := fb) (f := f) O1 HN1 (by omega) (Lib.hid (by simp [World.cell?, F1.out])) (Nat.le_trans HB.out K1.out.size))
  have hne : fb ≠ db := by have := h.out.lt; omega
  obtain ⟨zz, hzz⟩ : ∃ zz : Int, zz = if f ∈ s.tabs.map (·.file) then 0 else 9 := ⟨_, rfl⟩
  rw [← hzz]
  have HZZ := Lib.hid hzz
  clear hw1 hfb hn1 hzz
  go_enter Tryz.func122, Tryz.ntmps122
  go_upto_region 1 with (fail)
  rw [HW1.out, ← HFB.out]
  go_wp2_with fail
  refine HWI.out.mono ?_
  rintro e w2 ⟨v', z, L', rfl, o2, k2, hv2, hcase⟩
  obtain ⟨a2, c2, rfl⟩ := OffRow.slice o2
  obtain ⟨n2, hn2⟩ : ∃ n2, n2 = L'.length := ⟨_, rfl⟩
  rw [← hn2] at hv2 o2
  rw [← hn2]
  have HN2 := Lib.hid hn2
  have HC := Lib.hid hcase
  have hk2 : ∀ j, j < w1.heap.size → (Value.slice a1 n1 c1).ownBlock ≠ some j → w2.heap[j]? = w1.heap[j]? := fun j hj hne => k2.block j hj hne
  have hnd : ∀ g, (Value.slice a2 n2 c2).ownBlock = some g → g ≠ db := fun g hg => (D1.out.nt (hv2 ▸ hg)).1
  have P := Lib.hid (D1.out.putT (show OwnTb w2 B (.slice a2 n2 c2) L' by unfold OwnTb; rw [← hn2]; exact o2) hk2 hnd)
  have e2 : w2.heap[db]? = _ := (hk2 db D1.out.lt (fun e => (D1.out.nt e).1 rfl)).trans D1.out.obj
  have d2 : w2.cell? ⟨db, 0, none⟩ = some (.slice a1 n1 c1) := by simp [World.cell?, e2]
  have f2 : w2.frozen? ⟨db, 0, none⟩ = false := by simp [World.frozen?, e2]
  have K2 := Lib.hid (show Below B w w2 from (K1.out.mono HB.out).trans (k2.below (fun k _ hk => ((OffRow.lt O1.out k hk).1)) (Nat.le_trans HB.out K1.out.size)))
  have K3 := Lib.hid (K2.out.setCell (p := ⟨db, 0, none⟩) D1.out.lo (.slice a2 n2 c2))
  have F2 : w2.heap[fb]? = some (.cells #[.int .i64 f] 3 (0, 0)) := (hk2 fb (heap_lt F1.out) (fun e => by obtain ⟨cur, hc⟩ := OffRow.tag O1.out e; have := OffRow.lt h.out.tabs fb e; have := HFB.out; omega)).trans F1.out
  obtain ⟨w3, hw3⟩ : ∃ w3, w3 = w2.setCell ⟨db, 0, none⟩ (.slice a2 n2 c2) := ⟨_, rfl⟩
  have HW3 := Lib.hid hw3
  rw [← hw3] at P K3
  have F3 : w3.heap[fb]? = some (.cells #[.int .i64 f] 3 (0, 0)) := by rw [hw3, heap_set_other hne]; exact F2
  have x4 : w3.cell? ⟨db, 4, none⟩ = some (.map (some mb)) := by simp [World.cell?, P.out.1]
  have xf : w3.cell? ⟨fb, 0, none⟩ = some (.int .i64 f) := by simp [World.cell?, F3]
  clear o2 k2 hv2 hcase hn2 hk2 hnd e2 F2 F3 hw3 c0
  rcases HC.out with ⟨i, x, hx, hxf, rfl, rfl⟩ | ⟨hno, rfl, rfl⟩
  · have hmem : x.file ∈ s.tabs.map (·.file) := List.mem_map.2 ⟨x, List.mem_of_getElem? hx, rfl⟩
    have hz0 := Lib.hid (show zz = 0 by rw [HZZ.out, ← hxf, if_pos hmem])
    have HD := Lib.hid (drop_T hnod.out hx)
    have HX := Lib.hid hxf
    obtain ⟨l, hl, hp⟩ := P.out.2.2.2.2
    have HL := Lib.hid (And.intro hl hp)
    have HK := Lib.hid (show keyOf Tryz.prog 3 (.int .i64 f) = some (.int .i64 f) from keyOf_int_mk Tryz.underlying3 hw.out)
    have x4' : ∀ q : Seen w3, q.val.cell? ⟨db, 4, none⟩ = some (.map (some mb)) := fun q => by rw [q.below.cell (cell_block x4)]; exact x4
    have xf' : ∀ q : Seen w3, q.val.cell? ⟨fb, 0, none⟩ = some (.int .i64 f) := fun q => by rw [q.below.cell (cell_block xf)]; exact xf
    clear hmem hx hxf hl hp x4 xf HZZ HC
    go_wp2_with fail
    rw [← HW3.out]
    refine wp_region_seen_tail 5 (by kernel_rfl) (by kernel_rfl) ?_
    simp only [List.take_succ_cons, List.take_zero, List.drop_succ_cons, List.drop_zero]
    repeat go_big_quiet_step (fail)
    refine wpQuiet_nil ?_
    rintro _ ⟨m1, rfl⟩
    have hown : m1.val.ownsMap Tryz.prog 3 (unitElem (H := Unit)) mb s.files.length (.map l) := by
      obtain ⟨x, c, hb, r⟩ := HL.out.1
      exact ⟨x, c, (m1.below.block mb (heap_lt hb)).trans hb, r⟩
    have HOW := Lib.hid hown
    clear hown x4' xf'
    go_wp2_with (at_delete; refine wpList_delete_own _ rfl _ _ 103 3 rfl 159 keyedI Tryz.underlying103 _ mb _ _ rfl HOW.out _ _ rfl HK.out ?_)
    intro w4 hown4 hturn4
    have S4 := Lib.hid (set_del HL.out.2 hown4)
    have T4 := Lib.hid hturn4
    clear hown4 hturn4
    go_wp2
    go_ret
    refine ⟨by rw [hz0.out]; rfl, (K3.out.trans (m1.below.mono (Nat.le_trans HB.out K3.out.size))).grown (turned_meta T4.out) (Nat.le_trans (Nat.le_trans HB.out K3.out.size) m1.below.size) (fun j hj => by injection hj with hj; rw [← hj]; exact D1.out.mlo), fun _ => ?_⟩
    have d0 : Dr0 B w3 db { s with tabs := s.tabs.eraseIdx i } s.files (.slice a2 n2 c2) sv lv mb := ⟨P.out.1, D1.out.lo, P.out.2.1, P.out.2.2.1, P.out.2.2.2.1, P.out.2.2.2.2, D1.out.mlo⟩
    have d1 : Dr0 B m1.val db { s with tabs := s.tabs.eraseIdx i } s.files (.slice a2 n2 c2) sv lv mb := by
      refine d0.turn (d0.set.kept (m1.below.block mb ?_)) fun j hj _ => m1.below.block j hj
      obtain ⟨x, c, e⟩ := d0.set.obj
      exact heap_lt e
    have d2 := d1.turn S4.out fun j hj hne => turned_other' T4.out j hne
    rw [show s.tabs.filter (fun t => decide (t.file ≠ f)) = s.tabs.eraseIdx i by rw [← HX.out]; exact HD.out.1]
    exact ⟨_, _, _, mb, Dr.of0 d2 (by rw [← HX.out, HD.out.2])⟩
  · have hmem : ¬ f ∈ s.tabs.map (·.file) := fun hm => by obtain ⟨t, ht, e⟩ := List.mem_map.1 hm; exact hno t ht e
    have hz9 := Lib.hid (show zz = 9 by rw [HZZ.out, if_neg hmem])
    have HX := Lib.hid hno
    clear hno hmem HC x4 xf HZZ
    go_wp2
    go_ret
    rw [hz9.out]
    exact do_bad (by rw [← HW3.out]; exact K3.out) (by omega)
end Go.Proofs.YtgljjdldhnajdaaGreat
/- An element taken out of a row: the library's Delete, of one element; the place of the first that is sought. -/
set_option linter.unusedVariables false
set_option maxRecDepth 100000
namespace Go.Proofs.YtgljjdldhnajdaaGreat
open Go.RowKit

def DelPostS (B g off n cap i : Nat) (L : List So) (w : World) (e : Ending) (w' : World) : Prop :=
  ∃ v', e = .returned v' ∧ OffRow w' B 121 2 v' (n - 1) (flat socell (L.eraseIdx i)) ∧ w.grownBy w' (some g) ∧ v'.ownBlock = some g
theorem flat_eraseS {L : List So} {i : Nat} (hi : i < L.length) : flat socell (L.eraseIdx i) = (flat socell L).take (i * 2) ++ (flat socell L).drop ((i + 1) * 2) := by
  rw [List.eraseIdx_eq_take_drop_succ, flat_append, (flat_split socell_len L i (by omega)).1, (flat_split socell_len L (i + 1) (by omega)).2]

set_option maxHeartbeats 4000000 in
theorem delete_S {B n cap i g off : Nat} {L : List So} {w : World} (h : Hid (AtRow w 121 2 g off n cap (flat socell L))) (hBg : B ≤ g) (hL : Hid (n = L.length)) (hn : n ≤ 1000000000) (hi : i < n) :
    Calls Tryz.prog 193 #[.slice (some ⟨g, off, none⟩) n cap, .int .i64 (i : Int), .int .i64 ((i : Int) + 1)] w (DelPostS B g off n cap i L w) := by
  have mixed : Tryz.prog.follows .mixedOrders = true := by kernel_rfl
  have HE := Lib.hid (flat_eraseS (L := L) (i := i) (by have := hL.out; omega))
  obtain ⟨i0, hi0, hz0, hz1, hz2⟩ := info_parts infoSo
  obtain ⟨m, rfl⟩ : ∃ m, n = m + 1 := ⟨n - 1, by omega⟩
  have him : i ≤ m := by omega
  have hxs : (flat socell L).length = (m + 1) * 2 := h.out.len
  obtain ⟨cur, hg, hcs, hcc⟩ := h.out.obj
  have hcn : m + 1 ≤ cap := h.out.room
  have hmx : cap ≤ maxLen := h.out.max
  have hdl : ((flat socell L).drop ((i + 1) * 2)).length = (m - i) * 2 := by rw [List.length_drop, hxs]; omega
  have hsrc : ∀ a2 c2, (i + 1 < cap → a2 = ⟨g, off + (i + 1) * 2, none⟩) → Src Tryz.prog 2 43 (.slice (some a2) (m - i) c2) (m - i) ((flat socell L).drop ((i + 1) * 2)) w.drew := fun a2 c2 ha => by
    refine Src.ofSlice w.drew Tryz.underlying43 a2 (m - i) c2 _ hdl (fun j u hj => ?_) (fun v hv => flat_one' socell_one L v (List.mem_of_mem_drop hv))
    have hlt : j < (m - i) * 2 := by rw [← hdl]; exact (List.getElem?_eq_some_iff.1 hj).1
    rw [ha (by omega), addr_add, Nat.add_assoc]
    rw [List.getElem?_drop] at hj
    exact h.out.cell hj
  have hap : ∀ ty a2 c2, (i + 1 < cap → a2 = ⟨g, off + (i + 1) * 2, none⟩) → (Builtin.append_ #[43, 43] ty #[.slice (some ⟨g, off, none⟩) i cap, .slice (some a2) (m - i) c2]).run Tryz.prog w.drew = .ok (.slice (some ⟨g, off, none⟩) m cap) (w.drew.setCells g (off + i * 2) ((flat socell L).drop ((i + 1) * 2))) := fun ty a2 c2 ha => by
    have := run_append_room_src (P := Tryz.prog) w.drew 43 43 ty 121 i0 Tryz.underlying43 hi0 g off i cap _ (m - i) ((flat socell L).drop ((i + 1) * 2)) (by rw [hz1]; exact hsrc a2 c2 ha) (by omega)
      (fun j hj => by rw [hz1, Nat.add_assoc]; exact h.out.some (by rw [hdl] at hj; omega)) (fun j hj => h.out.free _)
    rw [hz1, show i + (m - i) = m by omega] at this
    exact this
  obtain ⟨W1, hW1⟩ : ∃ W1, W1 = w.drew.setCells g (off + i * 2) ((flat socell L).drop ((i + 1) * 2)) := ⟨_, rfl⟩
  obtain ⟨c1, a1, a2, _, _⟩ := setCells_heap ((flat socell L).drop ((i + 1) * 2)) g (off + i * 2) w.drew cur 121 hg
  rw [← hW1] at a1
  have hcl : ∀ ty c, (Builtin.clear_ #[43] ty #[.slice (some ⟨g, off + m * 2, none⟩) 1 c]).run Tryz.prog W1 = .ok (.tuple #[]) (W1.setCells g (off + m * 2) (Value.agg #[.int .i64 0, .int .i64 0]).cells.toList) := fun ty c => by
    refine run_clear_one (P := Tryz.prog) W1 43 ty 121 i0 (Value.agg #[.int .i64 0, .int .i64 0]) 2 g (off + m * 2) c Tryz.underlying43 hi0 hz0 rfl (fun u hu => ?_) (fun j hj => by simp [World.cell?, a1]; omega) (fun j hj => by simp [World.frozen?, a1])
    simp [Value.cells] at hu
    rcases hu with rfl | rfl <;> rfl
  have HF := Lib.hid (show OffRow (W1.setCells g (off + m * 2) (Value.agg #[.int .i64 0, .int .i64 0]).cells.toList) B 121 2 (.slice (some ⟨g, off, none⟩) m cap) (m + 1 - 1) (flat socell (L.eraseIdx i)) by
    rw [HE.out, hW1, Nat.add_sub_cancel]
    exact AtRow.off (AtRow.delete (w := w.drew) (h.out.kept (w' := w.drew) rfl) hi rfl rfl) hBg)
  have HG := Lib.hid (show w.grownBy (W1.setCells g (off + m * 2) (Value.agg #[.int .i64 0, .int .i64 0]).cells.toList) (some g) by
    rw [hW1]
    obtain ⟨p1, p2, p3, p4⟩ := setCells_meta ((flat socell L).drop ((i + 1) * 2)) g (off + i * 2) w.drew
    obtain ⟨q1, q2, q3, q4⟩ := setCells_meta (Value.agg #[.int .i64 0, .int .i64 0]).cells.toList g (off + m * 2) (w.drew.setCells g (off + i * 2) ((flat socell L).drop ((i + 1) * 2)))
    exact ⟨q1.trans p1, q2.trans p2, q3.trans p3, by rw [q4, p4]; exact Nat.le_refl _, fun k _ hk => (setCells_other _ _ _ _ _ (fun e => hk (by rw [e]))).trans (setCells_other _ _ _ _ _ (fun e => hk (by rw [e])))⟩)
  rw [← hW1] at hap
  have hb0 : (i : Int) ≤ (i : Int) + 1 := by omega
  have hb1 : (i : Int) + 1 ≤ ((m : Int) + 1) := by omega
  have hb2 : ((m : Int) + 1) ≤ (cap : Int) := by omega
  have hb3 : i ≤ cap := by omega
  have hb4 : (0 : Int) ≤ (i : Int) + 1 := by omega
  have htn : ((i : Int) + 1).toNat = i + 1 := by omega
  have hne : ¬ (i : Int) = (i : Int) + 1 := by omega
  have hmn : (m : Int) ≤ ((m : Int) + 1) := by omega
  have hmc : ¬ cap = m := by omega
  have hnm : m + 1 - m = 1 := by omega
  have hcap63 : (cap : Int) ≤ 9223372036854775807 := by unfold maxLen at hmx; omega
  have hib : (i : Int) ≤ (cap : Int) := by omega
  have hi1 : i + 1 ≤ cap := by omega
  have HX := Lib.hid (And.intro a1 (And.intro a2 (And.intro hcc (And.intro hcs (And.intro hxs hdl)))))
  clear a1 a2 hcc hcs hxs hdl hg hi0 hz0 hz1 hz2 hsrc hW1 hmx
  have hcs := Nat.lt_or_ge (i + 1) cap
  rcases hcs with hlt | hge
  · have hnc : ¬ cap = i + 1 := by omega
    have HAP := fun ty c2 => hap ty ⟨g, off + (i + 1) * 2, none⟩ c2 (fun _ => rfl)
    clear hap
    go_enter Tryz.func193, Tryz.ntmps193
    go_wp2_with fail
    go_region_law_o (refine step_append_runI rfl _ _ 43 43 rfl (.slice (some ⟨g, off, none⟩) i cap) (.slice (some ⟨g, off + (i + 1) * 2, none⟩) (m - i) (cap - (i + 1))) (by simp [Act.eval, Act.put]) (by simp [Act.eval, Act.put]) (HAP _ _) ?_)
    go_wp2_with (at_builtin; refine wpList_clear_runI rfl _ 43 rfl _ rfl (hcl _ _) ?_)
    go_ret
    exact ⟨_, rfl, HF.out, HG.out, rfl⟩
  · have hnc : (cap = i + 1) ↔ True := by constructor <;> (intro; first | trivial | omega)
    have HAP := fun ty c2 => hap ty ⟨g, off, none⟩ c2 (fun h => absurd h (by omega))
    clear hap hge
    go_enter Tryz.func193, Tryz.ntmps193
    go_wp2_with fail
    go_region_law_o (refine step_append_runI rfl _ _ 43 43 rfl (.slice (some ⟨g, off, none⟩) i cap) (.slice (some ⟨g, off, none⟩) (m - i) (cap - (i + 1))) (by simp [Act.eval, Act.put]) (by simp [Act.eval, Act.put]) (HAP _ _) ?_)
    go_wp2_with (at_builtin; refine wpList_clear_runI rfl _ 43 rfl _ rfl (hcl _ _) ?_)
    go_ret
    exact ⟨_, rfl, HF.out, HG.out, rfl⟩
end Go.Proofs.YtgljjdldhnajdaaGreat
/- The element with a file taken out of a list, where there is one. -/
set_option linter.unusedVariables false
set_option maxRecDepth 100000
namespace Go.Proofs.YtgljjdldhnajdaaGreat
open Go.RowKit

set_option maxHeartbeats 1000000 in
theorem sought_S (x : So) (f : Int) (fb : Nat) (w : World) (h : w.cell? ⟨fb, 0, none⟩ = some (.int .i64 f)) :
    Calls Tryz.prog 163 #[.agg #[.int .i64 x.file, .int .i64 x.tier], .pointer (some ⟨fb, 0, none⟩)] w fun e w' => e = .returned (.bool (x.file == f)) ∧ Below w.heap.size w w' := by
  have hfb : fb < w.heap.size := cell_block h
  have hne : ¬ fb = w.heap.size := by omega
  obtain ⟨r, hr⟩ : ∃ r, (x.file == f) = r := ⟨_, rfl⟩
  rw [hr]
  cases r
  all_goals
    go_enter Tryz.func163, Tryz.ntmps163
    go_wp2
    go_ret
    exact ⟨rfl, (Below.refl _ _).alloc (Nat.le_refl _) _⟩
/-- Where the file stands, or nowhere. -/
def SeatS (L : List So) (f : Int) (e : Ending) : Prop :=
  (∃ (i : Nat) (x : So), L[i]? = some x ∧ x.file = f ∧ e = .returned (.int .i64 (i : Int))) ∨ ((∀ x ∈ L, x.file ≠ f) ∧ e = .returned (.int .i64 (-1)))
set_option maxHeartbeats 2000000 in
theorem index_S {T : Nat → Prop} {a : Option Addr} {n cap fb : Nat} {L : List So} {f : Int} {w : World} (h : Hid (RdL T w (.slice a n cap) n (flat socell L))) (hL : Hid (n = L.length)) (hn : n ≤ 1000000000) (hf : Hid (w.cell? ⟨fb, 0, none⟩ = some (.int .i64 f))) :
    Calls Tryz.prog 192 #[.slice a n cap, .func (.func 163) #[] #[.pointer (some ⟨fb, 0, none⟩)]] w fun e w' => SeatS L f e ∧ Below w.heap.size w w' := by
  have eg : ∀ args w, (callFunc 163 args).run Tryz.prog w = .ok (.enter 163 args) w := enters_of Tryz.func163 (by kernel_rfl) rfl
  go_enter Tryz.func192, Tryz.ntmps192
  go_wp2_with fail
  go_loopw [8] (fun iv wr => ∃ i : Nat, i ≤ n ∧ iv = .int .i64 i ∧ Hid (∀ j y, j < i → L[j]? = some y → y.file ≠ f) ∧ Hid (Below w.heap.size w wr)) (fun iv wr => n - (intOf iv).toNat)
  case atStart => exact ⟨0, by omega, rfl, Lib.hid (fun j y hj => by omega), Lib.hid (Below.refl _ _)⟩
  case round =>
    obtain ⟨i, hi, rfl, hno, hB⟩ := hrel
    by_cases hlt : i < n
    · have hlt' : (i : Int) < (n : Int) := by omega
      obtain ⟨y, hy⟩ : ∃ y, L[i]? = some y := ⟨_, List.getElem?_eq_getElem (by have := hL.out; omega)⟩
      obtain ⟨b, off, rfl, ht, hb2, hc⟩ := RdL.atS h.out hy hlt
      have hcr : ∀ i' u, (socell y)[i']? = some u → wr.cell? ⟨b, off + i * 2 + i', none⟩ = some u := fun i' u hu => by
        rw [← hc i' u hu]
        simp only [World.cell?, hB.out.block b hb2]
      have y0 : wr.cell? ⟨b, off + i * 2, none⟩ = _ := hcr 0 _ rfl
      have y1 := hcr 1 _ rfl
      have hfr : wr.cell? ⟨fb, 0, none⟩ = some (.int .i64 f) := by rw [hB.out.cell (p := ⟨fb, 0, none⟩) (cell_block hf.out)]; exact hf.out
      have HS := Lib.hid (sought_S y f fb wr hfr)
      have HY := Lib.hid hy
      clear hfr hy hc hcr
      obtain ⟨r, hr⟩ : ∃ r, (y.file == f) = r := ⟨_, rfl⟩
      rw [hr] at HS
      have HR := Lib.hid hr
      clear hr
      cases r with
      | true =>
        go_wp2_with fail
        refine HS.out.mono ?_
        rintro e w2 ⟨rfl, k2⟩
        have K2 := Lib.hid (hB.out.trans (k2.mono hB.out.size))
        clear k2
        go_wp2
        go_ret
        exact ⟨.inl ⟨i, y, HY.out, by simpa using HR.out, rfl⟩, K2.out⟩
      | false =>
        go_wp2_with fail
        refine HS.out.mono ?_
        rintro e w2 ⟨rfl, k2⟩
        have K2 := Lib.hid (hB.out.trans (k2.mono hB.out.size))
        clear k2
        go_wp2_with fail
        go_roundw
        case rel => exact ⟨i + 1, hlt, by go_num, Lib.hid (fun j z hj hz => by
          rcases Nat.lt_or_ge j i with e | e
          · exact hno.out j z e hz
          · obtain rfl : j = i := by omega
            rw [HY.out] at hz
            injection hz with hz
            subst hz
            simpa using HR.out), K2⟩
        case measure => simp [intOf]; omega
    · obtain rfl : i = n := by omega
      go_wp2
      go_ret
      refine ⟨.inr ⟨fun x hx => ?_, rfl⟩, hB.out⟩
      obtain ⟨j, hj, e⟩ := List.mem_iff_getElem.1 hx
      exact hno.out j x (by have := hL.out; omega) (by rw [← e]; exact List.getElem?_eq_getElem hj)
end Go.Proofs.YtgljjdldhnajdaaGreat
/- A list without the element of a file. -/
set_option linter.unusedVariables false
set_option maxRecDepth 100000
namespace Go.Proofs.YtgljjdldhnajdaaGreat
open Go.RowKit

def WithPostS (B : Nat) (a : Option Addr) (n cap : Nat) (L : List So) (f : Int) (w : World) (e : Ending) (w' : World) : Prop :=
  ∃ v' z L', e = .returned (.tuple #[v', .int .i64 z]) ∧ OffRow w' B 121 2 v' L'.length (flat socell L') ∧ Only (fun k => (Value.slice a n cap).ownBlock = some k) w w' ∧ v'.ownBlock = (Value.slice a n cap).ownBlock ∧
    ((∃ i x, L[i]? = some x ∧ x.file = f ∧ z = 0 ∧ L' = L.eraseIdx i) ∨ ((∀ x ∈ L, x.file ≠ f) ∧ z = 9 ∧ L' = L))
set_option maxHeartbeats 2000000 in
theorem without_S {B n cap fb : Nat} {a : Option Addr} {L : List So} {f : Int} {w : World} (h : Hid (OffRow w B 121 2 (.slice a n cap) n (flat socell L))) (hL : Hid (n = L.length)) (hn : n ≤ 1000000000) (hf : Hid (w.cell? ⟨fb, 0, none⟩ = some (.int .i64 f))) (hB : B ≤ w.heap.size) :
    Calls Tryz.prog 162 #[.slice a n cap, .func (.func 163) #[] #[.pointer (some ⟨fb, 0, none⟩)]] w (WithPostS B a n cap L f w) := by
  have HI := Lib.hid (index_S (Lib.hid h.out.rdL) hL hn hf)
  go_enter Tryz.func162, Tryz.ntmps162
  go_wp2_with fail
  refine HI.out.mono ?_
  rintro e w1 ⟨hs, k1⟩
  have K1 := Lib.hid k1
  have O1 := Lib.hid (OffRow.kept h.out (w' := w1) fun j hj => K1.out.block j (OffRow.lt h.out j hj).2)
  have HO1 := Lib.hid (show Only (fun k => (Value.slice a n cap).ownBlock = some k) w w1 from Only.of_below k1 (fun k hk hk2 => absurd hk (by omega)))
  clear k1
  rcases hs with ⟨i, x, hx, hxf, rfl⟩ | ⟨hno, rfl⟩
  · have hin : i < n := by have := (List.getElem?_eq_some_iff.1 hx).1; have := hL.out; omega
    have hcn := OffRow.cap_ge h.out
    obtain ⟨g, off, rfl, hBg, hr⟩ := OffRow.at' O1.out (by omega)
    have HD := Lib.hid (delete_S (Lib.hid hr) hBg hL hn hin)
    have HX := Lib.hid (And.intro hx hxf)
    have hi0 : ¬ (i : Int) < 0 := by omega
    clear hx hxf hr
    go_wp2_with fail
    refine HD.out.mono ?_
    rintro e w2 ⟨v', rfl, o2, g2, hv⟩
    have O2 := Lib.hid (And.intro o2 (And.intro g2 hv))
    clear o2 g2 hv
    go_wp2
    go_ret2
    refine ⟨v', 0, L.eraseIdx i, rfl, ?_, ?_, O2.out.2.2, .inl ⟨i, x, HX.out.1, HX.out.2, rfl, rfl⟩⟩
    · have := O2.out.1
      rw [List.length_eraseIdx_of_lt (by have := hL.out; omega), ← hL.out]
      exact this
    · exact HO1.out.grown O2.out.2.1 fun j hj => .inl (by rw [← hj]; rfl)
  · have HN := Lib.hid hno
    clear hno
    go_wp2
    go_ret2
    exact ⟨_, 9, L, rfl, by rw [← hL.out]; exact O1.out, HO1.out, rfl, .inr ⟨HN.out, rfl, rfl⟩⟩
end Go.Proofs.YtgljjdldhnajdaaGreat
/- A draft without a thing. -/
set_option linter.unusedVariables false
set_option maxRecDepth 100000
namespace Go.Proofs.YtgljjdldhnajdaaGreat
open Go.RowKit Go.Maps Go.WideShapes Go.ChangeMaps
variable {B db mb : Nat} {w : World} {s : St} {tv sv lv : Value}

set_option maxHeartbeats 4000000 in
theorem draft_dropS (h : Hid (Dr B w db s tv sv lv mb)) (f : Int) (hw : Hid ((Lit.int .i64 f).wf = true)) (hnod : Hid s.files.Nodup) (hn : s.stos.length ≤ 1000000000) :
    Calls Tryz.prog 122 #[.pointer (some ⟨db, 0, none⟩), .int .i64 4, .int .i64 f] w
      (DoPost B db w (if f ∈ s.stos.map (·.file) then 0 else 9) { s with stos := s.stos.filter fun t => decide (t.file ≠ f) }) := by
  have HB := Lib.hid (show B ≤ w.heap.size by have := h.out.lo; have := h.out.lt; omega)
  obtain ⟨a1, c1, hv1⟩ := OffRow.slice h.out.stos
  obtain ⟨n1, hn1⟩ : ∃ n1, n1 = s.stos.length := ⟨_, rfl⟩
  have HN1 := Lib.hid hn1
  rw [← hn1] at hv1
  subst hv1
  obtain ⟨w1, hw1⟩ : ∃ w1, w.alloc (.cells #[.int .i64 f] 3) = w1 := ⟨_, rfl⟩
  obtain ⟨fb, hfb⟩ : ∃ fb, fb = w.heap.size := ⟨_, rfl⟩
  have HFB := Lib.hid hfb
  have K1 := Lib.hid (show Below w.heap.size w w1 by rw [← hw1]; exact (Below.refl _ _).alloc (Nat.le_refl _) _)
  have D1 := Lib.hid (h.out.below K1.out)
  have F1 := Lib.hid (show w1.heap[fb]? = some (.cells #[.int .i64 f] 3 (0, 0)) by rw [← hw1, hfb]; exact heap_new w _)
  have HW1 := Lib.hid hw1
  have c0 : w1.cell? ⟨db, 1, none⟩ = some (.slice a1 n1 c1) := D1.out.cell 1
  have O1 := Lib.hid (show OffRow w1 B 121 2 (.slice a1 n1 c1) n1 (flat socell s.stos) by have := D1.out.stos; unfold OwnSo at this; rw [← hn1] at this; exact this)
  have HWI := Lib.hid (without_S (fb := fb) (f := f) O1 HN1 (by omega) (Lib.hid (by simp [World.cell?, F1.out])) (Nat.le_trans HB.out K1.out.size))
  have hne : fb ≠ db := by have := h.out.lt; omega
  obtain ⟨zz, hzz⟩ : ∃ zz : Int, zz = if f ∈ s.stos.map (·.file) then 0 else 9 := ⟨_, rfl⟩
  rw [← hzz]
  have HZZ := Lib.hid hzz
  clear hw1 hfb hn1 hzz
  go_enter Tryz.func122, Tryz.ntmps122
  go_upto_region 1 with (fail)
  rw [HW1.out, ← HFB.out]
  go_wp2_with fail
  refine HWI.out.mono ?_
  rintro e w2 ⟨v', z, L', rfl, o2, k2, hv2, hcase⟩
  obtain ⟨a2, c2, rfl⟩ := OffRow.slice o2
  obtain ⟨n2, hn2⟩ : ∃ n2, n2 = L'.length := ⟨_, rfl⟩
  rw [← hn2] at hv2 o2
  rw [← hn2]
  have HN2 := Lib.hid hn2
  have HC := Lib.hid hcase
  have hk2 : ∀ j, j < w1.heap.size → (Value.slice a1 n1 c1).ownBlock ≠ some j → w2.heap[j]? = w1.heap[j]? := fun j hj hne => k2.block j hj hne
  have hnd : ∀ g, (Value.slice a2 n2 c2).ownBlock = some g → g ≠ db := fun g hg => (D1.out.ns (hv2 ▸ hg)).1
  have P := Lib.hid (D1.out.putS (show OwnSo w2 B (.slice a2 n2 c2) L' by unfold OwnSo; rw [← hn2]; exact o2) hk2 hnd)
  have e2 : w2.heap[db]? = _ := (hk2 db D1.out.lt (fun e => (D1.out.ns e).1 rfl)).trans D1.out.obj
  have d2 : w2.cell? ⟨db, 1, none⟩ = some (.slice a1 n1 c1) := by simp [World.cell?, e2]
  have f2 : w2.frozen? ⟨db, 1, none⟩ = false := by simp [World.frozen?, e2]
  have K2 := Lib.hid (show Below B w w2 from (K1.out.mono HB.out).trans (k2.below (fun k _ hk => ((OffRow.lt O1.out k hk).1)) (Nat.le_trans HB.out K1.out.size)))
  have K3 := Lib.hid (K2.out.setCell (p := ⟨db, 1, none⟩) D1.out.lo (.slice a2 n2 c2))
  have F2 : w2.heap[fb]? = some (.cells #[.int .i64 f] 3 (0, 0)) := (hk2 fb (heap_lt F1.out) (fun e => by obtain ⟨cur, hc⟩ := OffRow.tag O1.out e; have := OffRow.lt h.out.stos fb e; have := HFB.out; omega)).trans F1.out
  obtain ⟨w3, hw3⟩ : ∃ w3, w3 = w2.setCell ⟨db, 1, none⟩ (.slice a2 n2 c2) := ⟨_, rfl⟩
  have HW3 := Lib.hid hw3
  rw [← hw3] at P K3
  have F3 : w3.heap[fb]? = some (.cells #[.int .i64 f] 3 (0, 0)) := by rw [hw3, heap_set_other hne]; exact F2
  have x4 : w3.cell? ⟨db, 4, none⟩ = some (.map (some mb)) := by simp [World.cell?, P.out.1]
  have xf : w3.cell? ⟨fb, 0, none⟩ = some (.int .i64 f) := by simp [World.cell?, F3]
  clear o2 k2 hv2 hcase hn2 hk2 hnd e2 F2 F3 hw3 c0
  rcases HC.out with ⟨i, x, hx, hxf, rfl, rfl⟩ | ⟨hno, rfl, rfl⟩
  · have hmem : x.file ∈ s.stos.map (·.file) := List.mem_map.2 ⟨x, List.mem_of_getElem? hx, rfl⟩
    have hz0 := Lib.hid (show zz = 0 by rw [HZZ.out, ← hxf, if_pos hmem])
    have HD := Lib.hid (drop_S hnod.out hx)
    have HX := Lib.hid hxf
    obtain ⟨l, hl, hp⟩ := P.out.2.2.2.2
    have HL := Lib.hid (And.intro hl hp)
    have HK := Lib.hid (show keyOf Tryz.prog 3 (.int .i64 f) = some (.int .i64 f) from keyOf_int_mk Tryz.underlying3 hw.out)
    have x4' : ∀ q : Seen w3, q.val.cell? ⟨db, 4, none⟩ = some (.map (some mb)) := fun q => by rw [q.below.cell (cell_block x4)]; exact x4
    have xf' : ∀ q : Seen w3, q.val.cell? ⟨fb, 0, none⟩ = some (.int .i64 f) := fun q => by rw [q.below.cell (cell_block xf)]; exact xf
    clear hmem hx hxf hl hp x4 xf HZZ HC
    go_wp2_with fail
    rw [← HW3.out]
    refine wp_region_seen_tail 5 (by kernel_rfl) (by kernel_rfl) ?_
    simp only [List.take_succ_cons, List.take_zero, List.drop_succ_cons, List.drop_zero]
    repeat go_big_quiet_step (fail)
    refine wpQuiet_nil ?_
    rintro _ ⟨m1, rfl⟩
    have hown : m1.val.ownsMap Tryz.prog 3 (unitElem (H := Unit)) mb s.files.length (.map l) := by
      obtain ⟨x, c, hb, r⟩ := HL.out.1
      exact ⟨x, c, (m1.below.block mb (heap_lt hb)).trans hb, r⟩
    have HOW := Lib.hid hown
    clear hown x4' xf'
    go_wp2_with (at_delete; refine wpList_delete_own _ rfl _ _ 103 3 rfl 159 keyedI Tryz.underlying103 _ mb _ _ rfl HOW.out _ _ rfl HK.out ?_)
    intro w4 hown4 hturn4
    have S4 := Lib.hid (set_del HL.out.2 hown4)
    have T4 := Lib.hid hturn4
    clear hown4 hturn4
    go_wp2
    go_ret
    refine ⟨by rw [hz0.out]; rfl, (K3.out.trans (m1.below.mono (Nat.le_trans HB.out K3.out.size))).grown (turned_meta T4.out) (Nat.le_trans (Nat.le_trans HB.out K3.out.size) m1.below.size) (fun j hj => by injection hj with hj; rw [← hj]; exact D1.out.mlo), fun _ => ?_⟩
    have d0 : Dr0 B w3 db { s with stos := s.stos.eraseIdx i } s.files tv (.slice a2 n2 c2) lv mb := ⟨P.out.1, D1.out.lo, P.out.2.1, P.out.2.2.1, P.out.2.2.2.1, P.out.2.2.2.2, D1.out.mlo⟩
    have d1 : Dr0 B m1.val db { s with stos := s.stos.eraseIdx i } s.files tv (.slice a2 n2 c2) lv mb := by
      refine d0.turn (d0.set.kept (m1.below.block mb ?_)) fun j hj _ => m1.below.block j hj
      obtain ⟨x, c, e⟩ := d0.set.obj
      exact heap_lt e
    have d2 := d1.turn S4.out fun j hj hne => turned_other' T4.out j hne
    rw [show s.stos.filter (fun t => decide (t.file ≠ f)) = s.stos.eraseIdx i by rw [← HX.out]; exact HD.out.1]
    exact ⟨_, _, _, mb, Dr.of0 d2 (by rw [← HX.out, HD.out.2])⟩
  · have hmem : ¬ f ∈ s.stos.map (·.file) := fun hm => by obtain ⟨t, ht, e⟩ := List.mem_map.1 hm; exact hno t ht e
    have hz9 := Lib.hid (show zz = 9 by rw [HZZ.out, if_neg hmem])
    have HX := Lib.hid hno
    clear hno hmem HC x4 xf HZZ
    go_wp2
    go_ret
    rw [hz9.out]
    exact do_bad (by rw [← HW3.out]; exact K3.out) (by omega)
end Go.Proofs.YtgljjdldhnajdaaGreat
/- An element taken out of a row: the library's Delete, of one element; the place of the first that is sought. -/
set_option linter.unusedVariables false
set_option maxRecDepth 100000
namespace Go.Proofs.YtgljjdldhnajdaaGreat
open Go.RowKit

def DelPostI (B g off n cap i : Nat) (L : List Int) (w : World) (e : Ending) (w' : World) : Prop :=
  ∃ v', e = .returned v' ∧ OffRow w' B 3 1 v' (n - 1) (flat icell (L.eraseIdx i)) ∧ w.grownBy w' (some g) ∧ v'.ownBlock = some g
theorem flat_eraseI {L : List Int} {i : Nat} (hi : i < L.length) : flat icell (L.eraseIdx i) = (flat icell L).take (i * 1) ++ (flat icell L).drop ((i + 1) * 1) := by
  rw [List.eraseIdx_eq_take_drop_succ, flat_append, (flat_split icell_len L i (by omega)).1, (flat_split icell_len L (i + 1) (by omega)).2]

set_option maxHeartbeats 4000000 in
theorem delete_I {B n cap i g off : Nat} {L : List Int} {w : World} (h : Hid (AtRow w 3 1 g off n cap (flat icell L))) (hBg : B ≤ g) (hL : Hid (n = L.length)) (hn : n ≤ 1000000000) (hi : i < n) :
    Calls Tryz.prog 195 #[.slice (some ⟨g, off, none⟩) n cap, .int .i64 (i : Int), .int .i64 ((i : Int) + 1)] w (DelPostI B g off n cap i L w) := by
  have mixed : Tryz.prog.follows .mixedOrders = true := by kernel_rfl
  have HE := Lib.hid (flat_eraseI (L := L) (i := i) (by have := hL.out; omega))
  obtain ⟨i0, hi0, hz0, hz1, hz2⟩ := info_parts infoInt
  obtain ⟨m, rfl⟩ : ∃ m, n = m + 1 := ⟨n - 1, by omega⟩
  have him : i ≤ m := by omega
  have hxs : (flat icell L).length = (m + 1) * 1 := h.out.len
  obtain ⟨cur, hg, hcs, hcc⟩ := h.out.obj
  have hcn : m + 1 ≤ cap := h.out.room
  have hmx : cap ≤ maxLen := h.out.max
  have hdl : ((flat icell L).drop ((i + 1) * 1)).length = (m - i) * 1 := by rw [List.length_drop, hxs]; omega
  have hsrc : ∀ a2 c2, (i + 1 < cap → a2 = ⟨g, off + (i + 1) * 1, none⟩) → Src Tryz.prog 1 44 (.slice (some a2) (m - i) c2) (m - i) ((flat icell L).drop ((i + 1) * 1)) w.drew := fun a2 c2 ha => by
    refine Src.ofSlice w.drew Tryz.underlying44 a2 (m - i) c2 _ hdl (fun j u hj => ?_) (fun v hv => flat_one' icell_one L v (List.mem_of_mem_drop hv))
    have hlt : j < (m - i) * 1 := by rw [← hdl]; exact (List.getElem?_eq_some_iff.1 hj).1
    rw [ha (by omega), addr_add, Nat.add_assoc]
    rw [List.getElem?_drop] at hj
    exact h.out.cell hj
  have hap : ∀ ty a2 c2, (i + 1 < cap → a2 = ⟨g, off + (i + 1) * 1, none⟩) → (Builtin.append_ #[44, 44] ty #[.slice (some ⟨g, off, none⟩) i cap, .slice (some a2) (m - i) c2]).run Tryz.prog w.drew = .ok (.slice (some ⟨g, off, none⟩) m cap) (w.drew.setCells g (off + i * 1) ((flat icell L).drop ((i + 1) * 1))) := fun ty a2 c2 ha => by
    have := run_append_room_src (P := Tryz.prog) w.drew 44 44 ty 3 i0 Tryz.underlying44 hi0 g off i cap _ (m - i) ((flat icell L).drop ((i + 1) * 1)) (by rw [hz1]; exact hsrc a2 c2 ha) (by omega)
      (fun j hj => by rw [hz1, Nat.add_assoc]; exact h.out.some (by rw [hdl] at hj; omega)) (fun j hj => h.out.free _)
    rw [hz1, show i + (m - i) = m by omega] at this
    exact this
  obtain ⟨W1, hW1⟩ : ∃ W1, W1 = w.drew.setCells g (off + i * 1) ((flat icell L).drop ((i + 1) * 1)) := ⟨_, rfl⟩
  obtain ⟨c1, a1, a2, _, _⟩ := setCells_heap ((flat icell L).drop ((i + 1) * 1)) g (off + i * 1) w.drew cur 3 hg
  rw [← hW1] at a1
  have hcl : ∀ ty c, (Builtin.clear_ #[44] ty #[.slice (some ⟨g, off + m * 1, none⟩) 1 c]).run Tryz.prog W1 = .ok (.tuple #[]) (W1.setCells g (off + m * 1) (Value.int .i64 0).cells.toList) := fun ty c => by
    refine run_clear_one (P := Tryz.prog) W1 44 ty 3 i0 (Value.int .i64 0) 1 g (off + m * 1) c Tryz.underlying44 hi0 hz0 rfl (fun u hu => ?_) (fun j hj => by simp [World.cell?, a1]; omega) (fun j hj => by simp [World.frozen?, a1])
    simp [Value.cells] at hu
    subst hu; rfl
  have HF := Lib.hid (show OffRow (W1.setCells g (off + m * 1) (Value.int .i64 0).cells.toList) B 3 1 (.slice (some ⟨g, off, none⟩) m cap) (m + 1 - 1) (flat icell (L.eraseIdx i)) by
    rw [HE.out, hW1, Nat.add_sub_cancel]
    exact AtRow.off (AtRow.delete (w := w.drew) (h.out.kept (w' := w.drew) rfl) hi rfl rfl) hBg)
  have HG := Lib.hid (show w.grownBy (W1.setCells g (off + m * 1) (Value.int .i64 0).cells.toList) (some g) by
    rw [hW1]
    obtain ⟨p1, p2, p3, p4⟩ := setCells_meta ((flat icell L).drop ((i + 1) * 1)) g (off + i * 1) w.drew
    obtain ⟨q1, q2, q3, q4⟩ := setCells_meta (Value.int .i64 0).cells.toList g (off + m * 1) (w.drew.setCells g (off + i * 1) ((flat icell L).drop ((i + 1) * 1)))
    exact ⟨q1.trans p1, q2.trans p2, q3.trans p3, by rw [q4, p4]; exact Nat.le_refl _, fun k _ hk => (setCells_other _ _ _ _ _ (fun e => hk (by rw [e]))).trans (setCells_other _ _ _ _ _ (fun e => hk (by rw [e])))⟩)
  rw [← hW1] at hap
  have hb0 : (i : Int) ≤ (i : Int) + 1 := by omega
  have hb1 : (i : Int) + 1 ≤ ((m : Int) + 1) := by omega
  have hb2 : ((m : Int) + 1) ≤ (cap : Int) := by omega
  have hb3 : i ≤ cap := by omega
  have hb4 : (0 : Int) ≤ (i : Int) + 1 := by omega
  have htn : ((i : Int) + 1).toNat = i + 1 := by omega
  have hne : ¬ (i : Int) = (i : Int) + 1 := by omega
  have hmn : (m : Int) ≤ ((m : Int) + 1) := by omega
  have hmc : ¬ cap = m := by omega
  have hnm : m + 1 - m = 1 := by omega
  have hcap63 : (cap : Int) ≤ 9223372036854775807 := by unfold maxLen at hmx; omega
  have hib : (i : Int) ≤ (cap : Int) := by omega
  have hi1 : i + 1 ≤ cap := by omega
  have HX := Lib.hid (And.intro a1 (And.intro a2 (And.intro hcc (And.intro hcs (And.intro hxs hdl)))))
  clear a1 a2 hcc hcs hxs hdl hg hi0 hz0 hz1 hz2 hsrc hW1 hmx
  have hcs := Nat.lt_or_ge (i + 1) cap
  rcases hcs with hlt | hge
  · have hnc : ¬ cap = i + 1 := by omega
    have HAP := fun ty c2 => hap ty ⟨g, off + (i + 1) * 1, none⟩ c2 (fun _ => rfl)
    clear hap
    simp only [Nat.mul_one] at HAP hcl HF HG
    go_enter Tryz.func195, Tryz.ntmps195
    go_wp2_with fail
    go_region_law_o (refine step_append_runI rfl _ _ 44 44 rfl (.slice (some ⟨g, off, none⟩) i cap) (.slice (some ⟨g, off + (i + 1), none⟩) (m - i) (cap - (i + 1))) (by simp [Act.eval, Act.put]) (by simp [Act.eval, Act.put]) (HAP _ _) ?_)
    go_wp2_with (at_builtin; refine wpList_clear_runI rfl _ 44 rfl _ rfl (hcl _ _) ?_)
    go_ret
    exact ⟨_, rfl, HF.out, HG.out, rfl⟩
  · have hnc : (cap = i + 1) ↔ True := by constructor <;> (intro; first | trivial | omega)
    have HAP := fun ty c2 => hap ty ⟨g, off, none⟩ c2 (fun h => absurd h (by omega))
    clear hap hge
    simp only [Nat.mul_one] at HAP hcl HF HG
    go_enter Tryz.func195, Tryz.ntmps195
    go_wp2_with fail
    go_region_law_o (refine step_append_runI rfl _ _ 44 44 rfl (.slice (some ⟨g, off, none⟩) i cap) (.slice (some ⟨g, off, none⟩) (m - i) (cap - (i + 1))) (by simp [Act.eval, Act.put]) (by simp [Act.eval, Act.put]) (HAP _ _) ?_)
    go_wp2_with (at_builtin; refine wpList_clear_runI rfl _ 44 rfl _ rfl (hcl _ _) ?_)
    go_ret
    exact ⟨_, rfl, HF.out, HG.out, rfl⟩
end Go.Proofs.YtgljjdldhnajdaaGreat
/- An element of a list that reads. -/
set_option linter.unusedVariables false
set_option maxRecDepth 100000
namespace Go.Proofs.YtgljjdldhnajdaaGreat
open Go.RowKit

theorem RdL.atI {T : Nat → Prop} {w : World} {a : Option Addr} {n cap : Nat} {L : List Int} (h : RdL T w (.slice a n cap) n (flat icell L)) {m : Nat} {x : Int} (hx : L[m]? = some x) (hm : m < n) :
    ∃ b off, a = some ⟨b, off, none⟩ ∧ T b ∧ b < w.heap.size ∧ ∀ i u, (icell x)[i]? = some u → w.cell? ⟨b, off + m * 1 + i, none⟩ = some u := by
  obtain ⟨a', cap', e, _, h⟩ := h
  injection e with e1 e2 e3
  subst e1
  rcases h with ⟨_, h0, _⟩ | ⟨b, off, rfl, ht, hb, hc⟩
  · omega
  · refine ⟨b, off, rfl, ht, hb, fun i u hi => ?_⟩
    have hik : i < 1 := by rw [← icell_len x]; exact (List.getElem?_eq_some_iff.1 hi).1
    have := flat_at icell_len hx hik
    rw [hi] at this
    rw [Nat.add_assoc]
    exact hc _ _ this

end Go.Proofs.YtgljjdldhnajdaaGreat
/- The element with a file taken out of a list, where there is one. -/
set_option linter.unusedVariables false
set_option maxRecDepth 100000
namespace Go.Proofs.YtgljjdldhnajdaaGreat
open Go.RowKit

set_option maxHeartbeats 1000000 in
theorem sought_I (x : Int) (f : Int) (fb : Nat) (w : World) (h : w.cell? ⟨fb, 0, none⟩ = some (.int .i64 f)) :
    Calls Tryz.prog 165 #[(Value.int .i64 x), .pointer (some ⟨fb, 0, none⟩)] w fun e w' => e = .returned (.bool (x == f)) ∧ Below w.heap.size w w' := by
  have hfb : fb < w.heap.size := cell_block h
  have hne : ¬ fb = w.heap.size := by omega
  obtain ⟨r, hr⟩ : ∃ r, (x == f) = r := ⟨_, rfl⟩
  rw [hr]
  cases r
  all_goals
    go_enter Tryz.func165, Tryz.ntmps165
    go_wp2
    go_ret
    exact ⟨rfl, Below.refl _ _⟩
/-- Where the file stands, or nowhere. -/
def SeatI (L : List Int) (f : Int) (e : Ending) : Prop :=
  (∃ (i : Nat) (x : Int), L[i]? = some x ∧ x = f ∧ e = .returned (.int .i64 (i : Int))) ∨ ((∀ x ∈ L, x ≠ f) ∧ e = .returned (.int .i64 (-1)))
set_option maxHeartbeats 2000000 in
theorem index_I {T : Nat → Prop} {a : Option Addr} {n cap fb : Nat} {L : List Int} {f : Int} {w : World} (h : Hid (RdL T w (.slice a n cap) n (flat icell L))) (hL : Hid (n = L.length)) (hn : n ≤ 1000000000) (hf : Hid (w.cell? ⟨fb, 0, none⟩ = some (.int .i64 f))) :
    Calls Tryz.prog 194 #[.slice a n cap, .func (.func 165) #[] #[.pointer (some ⟨fb, 0, none⟩)]] w fun e w' => SeatI L f e ∧ Below w.heap.size w w' := by
  have eg : ∀ args w, (callFunc 165 args).run Tryz.prog w = .ok (.enter 165 args) w := enters_of Tryz.func165 (by kernel_rfl) rfl
  go_enter Tryz.func194, Tryz.ntmps194
  go_wp2_with fail
  go_loopw [8] (fun iv wr => ∃ i : Nat, i ≤ n ∧ iv = .int .i64 i ∧ Hid (∀ j y, j < i → L[j]? = some y → y ≠ f) ∧ Hid (Below w.heap.size w wr)) (fun iv wr => n - (intOf iv).toNat)
  case atStart => exact ⟨0, by omega, rfl, Lib.hid (fun j y hj => by omega), Lib.hid (Below.refl _ _)⟩
  case round =>
    obtain ⟨i, hi, rfl, hno, hB⟩ := hrel
    by_cases hlt : i < n
    · have hlt' : (i : Int) < (n : Int) := by omega
      obtain ⟨y, hy⟩ : ∃ y, L[i]? = some y := ⟨_, List.getElem?_eq_getElem (by have := hL.out; omega)⟩
      obtain ⟨b, off, rfl, ht, hb2, hc⟩ := RdL.atI h.out hy hlt
      have hcr : ∀ i' u, (icell y)[i']? = some u → wr.cell? ⟨b, off + i * 1 + i', none⟩ = some u := fun i' u hu => by
        rw [← hc i' u hu]
        simp only [World.cell?, hB.out.block b hb2]
      have y0 : wr.cell? ⟨b, off + i * 1, none⟩ = _ := hcr 0 _ rfl
      simp only [Nat.mul_one] at y0
      have hfr : wr.cell? ⟨fb, 0, none⟩ = some (.int .i64 f) := by rw [hB.out.cell (p := ⟨fb, 0, none⟩) (cell_block hf.out)]; exact hf.out
      have HS := Lib.hid (sought_I y f fb wr hfr)
      have HY := Lib.hid hy
      clear hfr hy hc hcr
      obtain ⟨r, hr⟩ : ∃ r, (y == f) = r := ⟨_, rfl⟩
      rw [hr] at HS
      have HR := Lib.hid hr
      clear hr
      cases r with
      | true =>
        go_wp2_with fail
        refine HS.out.mono ?_
        rintro e w2 ⟨rfl, k2⟩
        have K2 := Lib.hid (hB.out.trans (k2.mono hB.out.size))
        clear k2
        go_wp2
        go_ret
        exact ⟨.inl ⟨i, y, HY.out, by simpa using HR.out, rfl⟩, K2.out⟩
      | false =>
        go_wp2_with fail
        refine HS.out.mono ?_
        rintro e w2 ⟨rfl, k2⟩
        have K2 := Lib.hid (hB.out.trans (k2.mono hB.out.size))
        clear k2
        go_wp2_with fail
        go_roundw
        case rel => exact ⟨i + 1, hlt, by go_num, Lib.hid (fun j z hj hz => by
          rcases Nat.lt_or_ge j i with e | e
          · exact hno.out j z e hz
          · obtain rfl : j = i := by omega
            rw [HY.out] at hz
            injection hz with hz
            subst hz
            simpa using HR.out), K2⟩
        case measure => simp [intOf]; omega
    · obtain rfl : i = n := by omega
      go_wp2
      go_ret
      refine ⟨.inr ⟨fun x hx => ?_, rfl⟩, hB.out⟩
      obtain ⟨j, hj, e⟩ := List.mem_iff_getElem.1 hx
      exact hno.out j x (by have := hL.out; omega) (by rw [← e]; exact List.getElem?_eq_getElem hj)
end Go.Proofs.YtgljjdldhnajdaaGreat
/- A list without the element of a file. -/
set_option linter.unusedVariables false
set_option maxRecDepth 100000
namespace Go.Proofs.YtgljjdldhnajdaaGreat
open Go.RowKit

def WithPostI (B : Nat) (a : Option Addr) (n cap : Nat) (L : List Int) (f : Int) (w : World) (e : Ending) (w' : World) : Prop :=
  ∃ v' z L', e = .returned (.tuple #[v', .int .i64 z]) ∧ OffRow w' B 3 1 v' L'.length (flat icell L') ∧ Only (fun k => (Value.slice a n cap).ownBlock = some k) w w' ∧ v'.ownBlock = (Value.slice a n cap).ownBlock ∧
    ((∃ i x, L[i]? = some x ∧ x = f ∧ z = 0 ∧ L' = L.eraseIdx i) ∨ ((∀ x ∈ L, x ≠ f) ∧ z = 9 ∧ L' = L))
set_option maxHeartbeats 2000000 in
theorem without_I {B n cap fb : Nat} {a : Option Addr} {L : List Int} {f : Int} {w : World} (h : Hid (OffRow w B 3 1 (.slice a n cap) n (flat icell L))) (hL : Hid (n = L.length)) (hn : n ≤ 1000000000) (hf : Hid (w.cell? ⟨fb, 0, none⟩ = some (.int .i64 f))) (hB : B ≤ w.heap.size) :
    Calls Tryz.prog 164 #[.slice a n cap, .func (.func 165) #[] #[.pointer (some ⟨fb, 0, none⟩)]] w (WithPostI B a n cap L f w) := by
  have HI := Lib.hid (index_I (Lib.hid h.out.rdL) hL hn hf)
  go_enter Tryz.func164, Tryz.ntmps164
  go_wp2_with fail
  refine HI.out.mono ?_
  rintro e w1 ⟨hs, k1⟩
  have K1 := Lib.hid k1
  have O1 := Lib.hid (OffRow.kept h.out (w' := w1) fun j hj => K1.out.block j (OffRow.lt h.out j hj).2)
  have HO1 := Lib.hid (show Only (fun k => (Value.slice a n cap).ownBlock = some k) w w1 from Only.of_below k1 (fun k hk hk2 => absurd hk (by omega)))
  clear k1
  rcases hs with ⟨i, x, hx, hxf, rfl⟩ | ⟨hno, rfl⟩
  · have hin : i < n := by have := (List.getElem?_eq_some_iff.1 hx).1; have := hL.out; omega
    have hcn := OffRow.cap_ge h.out
    obtain ⟨g, off, rfl, hBg, hr⟩ := OffRow.at' O1.out (by omega)
    have HD := Lib.hid (delete_I (Lib.hid hr) hBg hL hn hin)
    have HX := Lib.hid (And.intro hx hxf)
    have hi0 : ¬ (i : Int) < 0 := by omega
    clear hx hxf hr
    go_wp2_with fail
    refine HD.out.mono ?_
    rintro e w2 ⟨v', rfl, o2, g2, hv⟩
    have O2 := Lib.hid (And.intro o2 (And.intro g2 hv))
    clear o2 g2 hv
    go_wp2
    go_ret2
    refine ⟨v', 0, L.eraseIdx i, rfl, ?_, ?_, O2.out.2.2, .inl ⟨i, x, HX.out.1, HX.out.2, rfl, rfl⟩⟩
    · have := O2.out.1
      rw [List.length_eraseIdx_of_lt (by have := hL.out; omega), ← hL.out]
      exact this
    · exact HO1.out.grown O2.out.2.1 fun j hj => .inl (by rw [← hj]; rfl)
  · have HN := Lib.hid hno
    clear hno
    go_wp2
    go_ret2
    exact ⟨_, 9, L, rfl, by rw [← hL.out]; exact O1.out, HO1.out, rfl, .inr ⟨HN.out, rfl, rfl⟩⟩
end Go.Proofs.YtgljjdldhnajdaaGreat
