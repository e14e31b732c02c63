/- What stands while the law on From's range goes on. -/
import Derived.Test.YtbmihajbdobgbaaMemFromRuns
import Derived.Test.YtbmihajbdobgbaaMemAwake
set_option linter.unusedVariables false
set_option maxRecDepth 100000
namespace Go.Proofs.Ytbmihajbdobgbaa.MS
open Go.RowKit

/-- A variable of any type. -/
def Vr (b : Nat) (v : Value) (t : TypeId) (W : World) : Prop := W.heap[b]? = some (.cells #[v] t (0, 0))
namespace Vr
variable {b : Nat} {v : Value} {t : TypeId} {W W' : World}
theorem cell (h : Vr b v t W) : W.cell? ⟨b, 0, none⟩ = some v := by unfold Vr at h; simp [World.cell?, h]
theorem free (h : Vr b v t W) : W.frozen? ⟨b, 0, none⟩ = false := by unfold Vr at h; simp [World.frozen?, h]
theorem lt (h : Vr b v t W) : b < W.heap.size := heap_lt h
theorem below (h : Vr b v t W) (k : Below W.heap.size W W') : Vr b v t W' := (k.block b h.lt).trans h
theorem only {S : Nat → Prop} (h : Vr b v t W) (o : Only S W W') (hS : ¬ S b) : Vr b v t W' := (o.block b h.lt hS).trans h
theorem put (h : Vr b v t W) (u : Value) : Vr b u t (W.setCell ⟨b, 0, none⟩ u) := heap_set h u
theorem set (h : Vr b v t W) {c o : Nat} (hc : c ≠ b) (u : Value) : Vr b v t (W.setCell ⟨c, o, none⟩ u) := (heap_set_other (Ne.symm hc) u).trans h
end Vr
/-- What is put at a key. -/
def bang (k : List UInt8) : ByteArray := bs k ++ ⟨#[33]⟩
theorem texts_at {w : World} {a : Option Addr} {len : Nat} {T : List ByteArray} (h : IsTexts w a len T) {i : Nat} (hi : i < len) : ∃ b off s, a = some ⟨b, off, none⟩ ∧ b < w.heap.size ∧ T[i]? = some (bs s) ∧ w.cell? ⟨b, off + i, none⟩ = some (.string (bs s)) := by
  obtain ⟨h1, b, off, h2, h3⟩ := h
  have hl : i < T.length := by omega
  obtain ⟨h4, h5⟩ := h3 i hl
  refine ⟨b, off, T[i].data.toList, by rcases h2 with e | e; (omega); (exact e), h4, ?_, ?_⟩
  · rw [List.getElem?_eq_getElem hl, ← bs_eq (s := T[i]) rfl]
  · rw [h5, List.getD_eq_getElem?_getD, List.getElem?_eq_getElem hl, ← bs_eq (s := T[i]) rfl]
    rfl
theorem texts_below {w w' : World} {a : Option Addr} {len : Nat} {T : List ByteArray} (h : IsTexts w a len T) (k : Below w.heap.size w w') : IsTexts w' a len T := by
  obtain ⟨h1, b, off, h2, h3⟩ := h
  exact ⟨h1, b, off, h2, h3.below k⟩
/-- While the map is made. -/
structure RgL (w : World) (fr : List UInt8) (leave : Int) (B bm : Nat) (t : Tr ByteArray) (u : Option Addr) (i : Nat) (W : World) : Prop where
  f : Vr B (.string (bs fr)) 9 W
  l : Vr (B + 1) (.int .i64 leave) 3 W
  r : Vr (B + 2) (.bool false) 4 W
  m : Vr bm (.pointer u) 49 W
  map : IsM W t
  ptr : t.ptr = .pointer u
  bel : Below B w W
  few : t.prs.length ≤ i
  bang : ∀ y ∈ t.prs, y.2 = bang y.1
  small : ∀ y ∈ t.prs, y.1.length ≤ 10000
  lo : B + 3 ≤ bm
theorem RgL.below {w : World} {fr : List UInt8} {leave : Int} {B bm : Nat} {t : Tr ByteArray} {u : Option Addr} {i : Nat} {W W' : World} (h : RgL w fr leave B bm t u i W) (k : Below W.heap.size W W') : RgL w fr leave B bm t u i W' :=
  ⟨h.f.below k, h.l.below k, h.r.below k, h.m.below k, h.map.seen k, h.ptr, h.bel.trans (k.mono (by have := h.f.lt; omega)), h.few, h.bang, h.small, h.lo⟩
/-- A key is put. -/
theorem RgL.put {w : World} {fr : List UInt8} {leave : Int} {B bm : Nat} {t t' : Tr ByteArray} {u u' : Option Addr} {i : Nat} {W W' : World} {k : List UInt8} (h : RgL w fr leave B bm t u i W) (kk : Below W.heap.size W W') (hu : t'.ptr = .pointer u') (hm : IsM W' t') (hL : t'.prs = putP k (MS.bang k) t.prs) (hk : k.length ≤ 10000) :
    RgL w fr leave B bm t' u' (i + 1) (W'.setCell ⟨bm, 0, none⟩ (.pointer u')) := by
  have h2 := h.below kk
  have hlo := h.lo
  refine ⟨h2.f.set (by omega) _, h2.l.set (by omega) _, h2.r.set (by omega) _, h2.m.put _, hm.kn ((Kn.refl _ _).set h2.m (by decide) _), hu, h2.bel.setCell (p := ⟨bm, 0, none⟩) (by simp only; omega) _, ?_, fun y hy => ?_, fun y hy => ?_, h.lo⟩
  · rw [hL]
    have := (putP_len k (MS.bang k) t.prs).1
    have := h.few
    omega
  · rw [hL] at hy
    rcases putP_mem hy with rfl | hy
    · rfl
    · exact h.bang y hy
  · rw [hL] at hy
    rcases putP_mem hy with rfl | hy
    · exact hk
    · exact h.small y hy
/-- The key told last. -/
def lastK (L : List PS) (k : Nat) : List UInt8 := if k = 0 then [] else ((L[k - 1]?).map (·.1)).getD []
/-- The law's variables while it is ranged over. -/
structure RgV (w : World) (fr : List UInt8) (leave : Int) (B bm zx zn c : Nat) (u : Option Addr) (nv : Int) (la : List UInt8) (W : World) : Prop where
  f : Vr B (.string (bs fr)) 9 W
  l : Vr (B + 1) (.int .i64 leave) 3 W
  r : Vr (B + 2) (.bool false) 4 W
  m : Vr bm (.pointer u) 49 W
  x : Vr zx (.func (.func 32) #[] #[.pointer (some ⟨c, 0, none⟩)]) 51 W
  n : Vr zn (.int .i64 nv) 3 W
  la : Vr (zn + 1) (.string (bs la)) 9 W
  bel : Below B w W
  le : B + 3 ≤ bm ∧ bm < zx ∧ zx < zn
theorem RgV.only {w : World} {fr : List UInt8} {leave : Int} {B bm zx zn c : Nat} {u : Option Addr} {nv : Int} {la : List UInt8} {S : Nat → Prop} {W W' : World} (h : RgV w fr leave B bm zx zn c u nv la W) (o : Only S W W') (h0 : ∀ j, S j → B ≤ j) (h1 : ¬ S B ∧ ¬ S (B + 1) ∧ ¬ S (B + 2) ∧ ¬ S bm ∧ ¬ S zx ∧ ¬ S zn ∧ ¬ S (zn + 1)) : RgV w fr leave B bm zx zn c u nv la W' :=
  ⟨h.f.only o h1.1, h.l.only o h1.2.1, h.r.only o h1.2.2.1, h.m.only o h1.2.2.2.1, h.x.only o h1.2.2.2.2.1, h.n.only o h1.2.2.2.2.2.1, h.la.only o h1.2.2.2.2.2.2, h.bel.trans (o.below (fun j _ hj => h0 j hj) (by have := h.f.lt; omega)), h.le⟩
theorem RgV.sets {w : World} {fr : List UInt8} {leave : Int} {B bm zx zn c : Nat} {u : Option Addr} {nv : Int} {la : List UInt8} {W : World} (h : RgV w fr leave B bm zx zn c u nv la W) (nv' : Int) (la' : List UInt8) : RgV w fr leave B bm zx zn c u nv' la' ((W.setCell ⟨zn + 1, 0, none⟩ (.string (bs la'))).setCell ⟨zn, 0, none⟩ (.int .i64 nv')) := by
  have hl := h.le
  exact ⟨(h.f.set (by omega) _).set (by omega) _, (h.l.set (by omega) _).set (by omega) _, (h.r.set (by omega) _).set (by omega) _, (h.m.set (by omega) _).set (by omega) _, (h.x.set (by omega) _).set (by omega) _, (h.n.set (by omega) _).put _, (h.la.put _).set (by omega) _, (h.bel.setCell (p := ⟨zn + 1, 0, none⟩) (by simp only; omega) _).setCell (p := ⟨zn, 0, none⟩) (by simp only; omega) _, h.le⟩
/-- What a round may write. -/
def RgS (B zn c : Nat) (v : Value) (j : Nat) : Prop := j = B + 2 ∨ j = zn ∨ j = zn + 1 ∨ j = c ∨ v.ownBlock = some j
/-- While it is ranged over: k pairs have come. -/
def RgI (w : World) (fr : List UInt8) (leave : Int) (B bm zx zn c Bw : Nat) (u : Option Addr) (L : List PS) (k : Nat) (S : Nat → Prop) (W : World) : Prop :=
  RgV w fr leave B bm zx zn c u (k : Int) (lastK L k) W ∧ ∃ v, Wk W Bw c v (L.drop k) ∧ S = RgS B zn c v
theorem apart {w : World} {b Bw c : Nat} {v vw : Value} {ty : TypeId} {L : List PS} (h : Vr b v ty w) (hw : Wk w Bw c vw L) (h1 : ty ≠ 71) (h2 : ty ≠ 47) : b ≠ c ∧ vw.ownBlock ≠ some b := by
  refine ⟨?_, fun e => ?_⟩
  · rintro rfl
    have := hw.box
    unfold Vr at h
    rw [h] at this
    injection this with this
    injection this with _ this
    exact h1 this
  · obtain ⟨S, hS, _, _⟩ := hw.ex
    obtain ⟨cur, hc⟩ := OffRow.tag hS e
    unfold Vr at h
    rw [h] at hc
    injection hc with hc
    injection hc with _ hc
    exact h2 hc
theorem RgI.only {w : World} {fr : List UInt8} {leave : Int} {B bm zx zn c Bw Z : Nat} {u : Option Addr} {L : List PS} {k : Nat} {S Sx : Nat → Prop} {W W' : World} (h : RgI w fr leave B bm zx zn c Bw u L k S W) (o : Only Sx W W') (hk : Kn 74 W W') (hS : ∀ j, Sx j → Z ≤ j ∧ ¬ S j) (hZ : zx < Z) : RgI w fr leave B bm zx zn c Bw u L k S W' := by
  obtain ⟨hv, v, hw, rfl⟩ := h
  have hl := hv.le
  have q : ∀ j, RgS B zn c v j → ¬ Sx j := fun j hj g => (hS j g).2 hj
  refine ⟨hv.only o (fun j hj => by have := hS j hj; omega) ⟨fun g => by have := hS _ g; omega, fun g => by have := hS _ g; omega, q _ (.inl rfl), fun g => by have := hS _ g; omega, fun g => by have := hS _ g; omega, q _ (.inr (.inl rfl)), q _ (.inr (.inr (.inl rfl)))⟩, v, ?_, rfl⟩
  exact hw.keep (o.block c (heap_lt hw.box) (q _ (.inr (.inr (.inr (.inl rfl)))))) (fun j hj => o.block j (hw.own hj).2.1 (q _ (.inr (.inr (.inr (.inr hj)))))) hk
/-- The walk has gone on. -/
theorem RgV.next {w : World} {fr : List UInt8} {leave : Int} {B bm zx zn c Bw : Nat} {u : Option Addr} {nv : Int} {la : List UInt8} {W W' : World} {v : Value} {M : List PS} (h : RgV w fr leave B bm zx zn c u nv la W) (hw : Wk W Bw c v M) (hB : B ≤ Bw) (o : Only (fun j => j = c ∨ v.ownBlock = some j) W W') : RgV w fr leave B bm zx zn c u nv la W' := by
  have q : ∀ {b : Nat} {x : Value} {ty : TypeId}, Vr b x ty W → ty ≠ 71 → ty ≠ 47 → ¬ (b = c ∨ v.ownBlock = some b) := fun hb h1 h2 g => by
    have := apart hb hw h1 h2
    rcases g with g | g
    · exact this.1 g
    · exact this.2 g
  refine h.only o (fun j hj => ?_) ⟨q h.f (by decide) (by decide), q h.l (by decide) (by decide), q h.r (by decide) (by decide), q h.m (by decide) (by decide), q h.x (by decide) (by decide), q h.n (by decide) (by decide), q h.la (by decide) (by decide)⟩
  rcases hj with rfl | hj
  · have := hw.lo; omega
  · have := (hw.own hj).1; omega
/-- Two boxes are written: the walk stays. -/
theorem wk_set {w : World} {b o Bw c : Nat} {v vw u : Value} {ty : TypeId} {L : List PS} (hw : Wk w Bw c vw L) (h : Vr b v ty w) (h1 : ty ≠ 71) (h2 : ty ≠ 47) (h3 : ty ≠ 74) : Wk (w.setCell ⟨b, o, none⟩ u) Bw c vw L := by
  have := apart h hw h1 h2
  exact hw.keep (heap_set_other (Ne.symm this.1) _) (fun j hj => heap_set_other (fun e => this.2 (by rw [← e]; exact hj)) _) ((Kn.refl _ _).set h h3 _)
theorem tell_facts {t : Tr ByteArray} {fr : List UInt8} {L : List PS} {k : Nat} {x : PS} (hL : L = fromP fr t.prs) (hr : ris t.prs) (hb : ∀ y ∈ t.prs, y.2 = bang y.1) (hx : L[k]? = some x) : x.2 = bang x.1 ∧ ltB x.1 fr = false ∧ (k = 0 ∨ ltB (lastK L k) x.1 = true) := by
  have hm : x ∈ fromP fr t.prs := by rw [← hL]; exact List.mem_of_getElem? hx
  obtain ⟨h1, h2⟩ := List.mem_filter.1 hm
  refine ⟨hb x h1, by simpa using h2, ?_⟩
  rcases Nat.eq_zero_or_pos k with h0 | h0
  · exact .inl h0
  · have hp : ris L := by rw [hL]; exact List.Pairwise.filter _ hr
    obtain ⟨hk, he⟩ := List.getElem?_eq_some_iff.1 hx
    have := (List.pairwise_iff_getElem.1 hp) (k - 1) k (by omega) hk (by omega)
    refine .inr ?_
    unfold lastK
    rw [if_neg (by omega), List.getElem?_eq_getElem (show k - 1 < L.length by omega)]
    rw [he] at this
    exact this
theorem lastK_succ {L : List PS} {k : Nat} {x : PS} (hx : L[k]? = some x) : lastK L (k + 1) = x.1 := by
  unfold lastK
  rw [if_neg (by omega), Nat.add_sub_cancel, hx]
  rfl
end Go.Proofs.Ytbmihajbdobgbaa.MS
