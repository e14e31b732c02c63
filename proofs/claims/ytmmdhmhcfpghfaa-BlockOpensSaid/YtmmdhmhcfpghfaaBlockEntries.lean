/- The entries that are told. -/
import Derived.Test.YtmmdhmhcfpghfaaBlockList
set_option linter.unusedVariables false
set_option maxRecDepth 100000
namespace Go.Proofs.Ytmmdhmhcfpghfaa
open Go.RowKit

theorem flat_at {α : Type} (f : α → List Value) (hf : ∀ y, (f y).length = 4) : ∀ (L : List α) (i q : Nat) (y : α), q < 4 → L[i]? = some y → (L.flatMap f)[i * 4 + q]? = (f y)[q]?
  | [], i, q, y, _, h => by cases h
  | z :: L, 0, q, y, hq, h => by
    injection h with h
    subst h
    rw [List.flatMap_cons, List.getElem?_append_left (by rw [hf]; omega)]
    simp
  | z :: L, i + 1, q, y, hq, h => by
    have := flat_at f hf L i q y hq h
    rw [List.flatMap_cons, List.getElem?_append_right (by rw [hf]; omega), hf]
    rw [← this]
    congr 1
    omega
theorem tlds_at : ∀ (T : List Ent) (last : List UInt8) (i : Nat) (x : Ent), T[i]? = some x → (tldsOf last T)[i]? = some (tldOf (lastK last (T.take i)) x)
  | [], _, i, x, h => by cases h
  | y :: T, last, 0, x, h => by
    injection h with h
    subst h
    rfl
  | y :: T, last, i + 1, x, h => tlds_at T y.key i x h
theorem tcells_at {T : List Ent} {i : Nat} {x : Ent} (h : T[i]? = some x) (q : Nat) (hq : q < 4) : (tcells T)[i * 4 + q]? = (tldOf (lastK [] (T.take i)) x).vals[q]? :=
  flat_at Tld.vals (fun _ => rfl) _ i q _ hq (tlds_at T [] i x h)
/-- A row of entries that is being filled. -/
def Fill (G n : Nat) (T : List Ent) (i : Nat) (w : World) : Prop :=
  ∃ cur, w.heap[G]? = some (.cells cur 44 (0, 0)) ∧ cur.size = n * 3 ∧ ∀ j x, j < i → T[j]? = some x → cur[j * 3]? = some (.string (bs x.key)) ∧ cur[j * 3 + 1]? = some (.string (bs x.val)) ∧ cur[j * 3 + 2]? = some (.bool x.gone)
theorem Fill.cells {G n i : Nat} {T : List Ent} {w : World} (h : Fill G n T i w) {k : Nat} (hk : k < n * 3) : (∃ v, w.cell? ⟨G, k, none⟩ = some v) ∧ w.frozen? ⟨G, k, none⟩ = false := by
  obtain ⟨cur, h1, h2, _⟩ := h
  refine ⟨⟨cur[k]'(by omega), ?_⟩, by simp [World.frozen?, h1]⟩
  simp only [World.cell?, h1]
  exact Array.getElem?_eq_getElem _
theorem Fill.put {G n i : Nat} {T : List Ent} {w : World} {x : Ent} (h : Fill G n T i w) (hi : i < n) (hx : T[i]? = some x) : Fill G n T (i + 1) (((w.setCell ⟨G, i * 3, none⟩ (.string (bs x.key))).setCell ⟨G, i * 3 + 1, none⟩ (.string (bs x.val))).setCell ⟨G, i * 3 + 2, none⟩ (.bool x.gone)) := by
  obtain ⟨cur, h1, h2, h3⟩ := h
  have s1 := heap_set (o := i * 3) h1 (.string (bs x.key))
  have s2 := heap_set (o := i * 3 + 1) s1 (.string (bs x.val))
  have s3 := heap_set (o := i * 3 + 2) s2 (.bool x.gone)
  refine ⟨_, s3, by simp [h2], fun j y hj hy => ?_⟩
  simp only [Array.getElem?_setIfInBounds, Array.size_setIfInBounds, h2]
  by_cases hji : j = i
  · subst hji
    rw [hx] at hy
    injection hy with hy
    subst hy
    refine ⟨?_, ?_, ?_⟩
    · rw [if_neg (by omega), if_neg (by omega), if_pos rfl, if_pos (by omega)]
    · rw [if_neg (by omega), if_pos rfl, if_pos (by omega)]
    · rw [if_pos rfl, if_pos (by omega)]
  · obtain ⟨a, b, c⟩ := h3 j y (by omega) hy
    refine ⟨?_, ?_, ?_⟩
    · rw [if_neg (by omega), if_neg (by omega), if_neg (by omega)]; exact a
    · rw [if_neg (by omega), if_neg (by omega), if_neg (by omega)]; exact b
    · rw [if_neg (by omega), if_neg (by omega), if_neg (by omega)]; exact c
theorem Fill.keep {G n i : Nat} {T : List Ent} {w w' : World} (h : Fill G n T i w) (k : Below w.heap.size w w') : Fill G n T i w' := by
  obtain ⟨cur, h1, h2⟩ := h
  exact ⟨cur, (k.block G (heap_lt h1)).trans h1, h2⟩
theorem Fill.full {G : Nat} {T : List Ent} {w : World} (h : Fill G T.length T T.length w) : IsE w (some ⟨G, 0, none⟩) T.length T := by
  obtain ⟨cur, h1, h2, h3⟩ := h
  refine ⟨rfl, G, 0, .inr rfl, fun k hk => ?_⟩
  obtain ⟨a, b, c⟩ := h3 k _ hk (List.getElem?_eq_getElem hk)
  rw [Nat.zero_add]
  exact ⟨heap_lt h1, by simp only [World.cell?, h1]; exact a, by simp only [World.cell?, h1]; exact b, by simp only [World.cell?, h1]; exact c⟩
theorem infoE : (Try.prog.info? 44).map (fun i => (i.zero, i.size, i.bytes)) = some (some (.agg #[.string ByteArray.empty, .string ByteArray.empty, .bool false]), 3, 40) := by kernel_rfl

set_option maxHeartbeats 2000000 in
theorem block_entries (B : Nat) (v : Value) (T : List Ent) (w : World) (hO : OffRow w B 64 4 v T.length (tcells T)) (hl : T.length ≤ 100000000000) (hs : Hid (smallE T)) :
    Calls Try.prog 34 #[v] w fun e w' => (∃ a c, e = .returned (.slice a T.length c) ∧ IsE w' a T.length T) ∧ Below w.heap.size w w' := by
  obtain ⟨i0, hi, hz0, hz1, hz2⟩ := info_parts infoE
  obtain ⟨a, cap, rfl⟩ := hO.slice
  obtain ⟨n, hn⟩ : ∃ n, n = T.length := ⟨_, rfl⟩
  have HO := Lib.hid hO
  rw [← hn] at HO hl ⊢
  have HN := Lib.hid hn
  clear hO hn
  go_enter Try.func34, Try.ntmps34
  go_wp2_with (at_make; refine wpList_make_full w rfl _ _ 22 rfl w.heap.size 44 i0 _ 3 Try.underlying22 hi hz0 hz1 _ _ _ _ n rfl rfl rfl rfl ?b1 ?b2 ?b3 ?_)
  case b1 => rw [hz2]; omega
  case b2 => unfold maxLen; omega
  case b3 => exact Nat.le_refl _
  intro wm hown hgr
  have F0 := Lib.hid (show Fill w.heap.size n T 0 wm by
    rcases hown.2 with ⟨h, _⟩ | ⟨g, c, cur, h, _, hg, _, _, hsz, _⟩
    · cases h
    · injection h with h hn hc
      injection h with h
      injection h with h
      subst h
      exact ⟨cur, hg, by omega, fun j x hj => absurd hj (by omega)⟩)
  have B0 := Lib.hid (show Below w.heap.size w wm from (Below.refl _ _).grown hgr (Nat.le_refl _) (fun k hk => by cases hk))
  clear hown hgr hi hz0 hz1 hz2
  obtain ⟨G, hG⟩ : ∃ G, G = w.heap.size := ⟨_, rfl⟩
  rw [← hG] at F0 ⊢
  have HG := Lib.hid hG
  clear hG
  go_wp2_with fail
  go_loopw [4, 12] (fun sv iv wr => ∃ i : Nat, i ≤ n ∧ iv = .int .i64 i ∧ sv = .string (bs (lastK [] (T.take i))) ∧ Hid (Fill G n T i wr) ∧ Hid (Below w.heap.size w wr)) (fun sv iv wr => n - (intOf iv).toNat)
  case atStart => exact ⟨0, Nat.zero_le _, rfl, rfl, F0, B0⟩
  case round =>
    obtain ⟨i, hi, rfl, rfl, hF, hB⟩ := hrel
    rcases Nat.lt_or_ge i n with hlt | hge
    · obtain ⟨x, hx⟩ : ∃ x, T[i]? = some x := ⟨_, List.getElem?_eq_getElem (by rw [← HN.out]; exact hlt)⟩
      obtain ⟨g, off, cp, cur, e1, hBg, hg, hcell⟩ := HO.out.form (by omega)
      injection e1 with e1 e2 e3
      subst e1 e3
      have hq := fun q (hq : q < 4) => (hcell (i * 4 + q) (by omega)).trans (tcells_at hx q hq)
      have hgw := heap_lt hg
      obtain ⟨last, hlast⟩ : ∃ last, last = lastK [] (T.take i) := ⟨_, rfl⟩
      have hnx := Lib.hid (show lastK [] (T.take (i + 1)) = x.key by rw [take_ent hx, lastK_snoc])
      rw [← hlast] at hq ⊢
      obtain ⟨sh, hsh⟩ : ∃ sh, sh = sharedL last x.key := ⟨_, rfl⟩
      obtain ⟨rest, hrest⟩ : ∃ rest, rest = x.key.drop sh := ⟨_, rfl⟩
      have hv : (tldOf last x).vals = [.int .i64 (sh : Int), .string (bs rest), .string (bs x.val), .bool x.gone] := by rw [hrest, hsh]; rfl
      have c0 : wr.cell? ⟨g, off + i * 4, none⟩ = some (.int .i64 (sh : Int)) := by rw [hB.out.cell (p := ⟨g, off + i * 4, none⟩) hgw]; have := hq 0 (by omega); rw [hv] at this; exact this
      have c1 : wr.cell? ⟨g, off + i * 4 + 1, none⟩ = some (.string (bs rest)) := by rw [hB.out.cell (p := ⟨g, off + i * 4 + 1, none⟩) hgw]; have := hq 1 (by omega); rw [hv] at this; exact this
      have c2 : wr.cell? ⟨g, off + i * 4 + 2, none⟩ = some (.string (bs x.val)) := by rw [hB.out.cell (p := ⟨g, off + i * 4 + 2, none⟩) hgw]; have := hq 2 (by omega); rw [hv] at this; exact this
      have c3 : wr.cell? ⟨g, off + i * 4 + 3, none⟩ = some (.bool x.gone) := by rw [hB.out.cell (p := ⟨g, off + i * 4 + 3, none⟩) hgw]; have := hq 3 (by omega); rw [hv] at this; exact this
      have hsm := hs.out x (List.mem_of_getElem? hx)
      have hsl := shared_le last x.key
      rw [← hsh] at hsl
      have hll : last.length ≤ 65536 := by rw [hlast]; exact lastK_le _ _ (by simp) (hs.out.take i)
      have zl : (bs last).size = last.length := bs_size _
      have x1 : (bs last).extract 0 sh = bs (last.take sh) := (take_split (s := bs last) (n := sh) (by omega)).1
      have x2 : bs (last.take sh) ++ bs rest = bs x.key := by rw [bs_cat, bs_list, hrest, hsh, shared_back]
      have x3 : ((bs (last.take sh)).size : Int) + ((bs rest).size : Int) ≤ 9223372036854775807 := by rw [bs_size, bs_size, List.length_take, hrest, List.length_drop]; omega
      have x4 : sh ≤ last.length := hsl.1
      have HX := Lib.hid hx
      clear hq hv hcell hgw hlast hsh hrest hsl hg hBg hx
      obtain ⟨wb, hwb⟩ : ∃ wb, wr.alloc (.cells #[.int .i64 (sh : Int), .string (bs rest), .string (bs x.val), .bool x.gone] 64) = wb := ⟨_, rfl⟩
      have BB := Lib.hid (show Below wr.heap.size wr wb by rw [← hwb]; exact (Below.refl _ _).alloc (Nat.le_refl _) _)
      have TB := Lib.hid (show BxT wr.heap.size ⟨sh, rest, x.val, x.gone⟩ wb by rw [← hwb]; exact heap_new wr _)
      have HWB := Lib.hid hwb
      clear hwb
      go_upto_region 6 with (fail)
      rw [HWB.out]
      clear HWB c0 c1 c2 c3
      have g0 := TB.out.c0
      have g1 := TB.out.c1
      have g2 := TB.out.c2
      have g3 := TB.out.c3
      go_quiet (fail)
      obtain ⟨wq, hwq⟩ : ∃ wq, wq = wb.drewN nq := ⟨_, rfl⟩
      have FQ := Lib.hid (show Fill G n T i wq by rw [hwq]; exact hF.out.keep (below_drewN BB.out nq))
      have BQ := Lib.hid (show Below w.heap.size w wq by rw [hwq]; exact below_drewN (hB.out.trans (BB.out.mono hB.out.size)) nq)
      have TQ : BxT wr.heap.size ⟨sh, rest, x.val, x.gone⟩ wq := by rw [hwq]; exact TB.out
      rw [← hwq]
      clear g0 g1 g2 g3 hwq
      have g0 := TQ.c0
      have g1 := TQ.c1
      have g2 := TQ.c2
      have g3 := TQ.c3
      obtain ⟨⟨v0, f0⟩, z0⟩ := FQ.out.cells (k := i * 3) (by omega)
      obtain ⟨⟨v1, f1⟩, z1⟩ := FQ.out.cells (k := i * 3 + 1) (by omega)
      obtain ⟨⟨v2, f2⟩, z2⟩ := FQ.out.cells (k := i * 3 + 2) (by omega)
      clear TQ
      go_wp2_with fail
      go_roundw
      case rel => exact ⟨i + 1, by omega, by go_num, by rw [hnx.out], Lib.hid (FQ.out.put hlt HX.out), Lib.hid (((BQ.out.setCell (p := ⟨G, i * 3, none⟩) (by rw [HG.out]; exact Nat.le_refl _) _).setCell (p := ⟨G, i * 3 + 1, none⟩) (by rw [HG.out]; exact Nat.le_refl _) _).setCell (p := ⟨G, i * 3 + 2, none⟩) (by rw [HG.out]; exact Nat.le_refl _) _)⟩
      case measure => simp [intOf]; omega
    · obtain rfl : i = n := by omega
      have hfull := Lib.hid (show IsE wr (some ⟨G, 0, none⟩) i T by
        have h1 := hF.out
        rw [HN.out] at h1 ⊢
        exact h1.full)
      go_wp2_with fail
      go_ret
      exact ⟨⟨_, _, rfl, hfull.out⟩, hB.out⟩
end Go.Proofs.Ytmmdhmhcfpghfaa
