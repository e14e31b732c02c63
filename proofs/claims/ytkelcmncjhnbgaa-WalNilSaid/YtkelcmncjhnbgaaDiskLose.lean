/- What a file loses when the power goes. -/
import Derived.Test.YtkelcmncjhnbgaaDiskKeep
set_option linter.unusedVariables false
set_option maxRecDepth 100000
namespace Go.Proofs.Ytkelcmncjhnbgaa
open Go.RowKit Go.Maps

/-- The head of a row. -/
theorem row_take {w : World} {a : Option Addr} {n cap m : Nat} {xs : List Value} (h : w.ownsRow 0 5 1 (.slice a n cap) n xs) (hm : m ≤ n) : w.ownsRow 0 5 1 (.slice a m cap) m (xs.take m) := by
  have hl : xs.length = n := by have := h.1; omega
  refine ⟨by rw [List.length_take]; omega, ?_⟩
  rcases h.2 with ⟨hv, h0⟩ | ⟨g, cap', cur, hv, hb, hg, hle, hmx, hsz, htk⟩
  · injection hv with h1 h2 h3
    subst h1 h2 h3
    exact .inl ⟨by rw [show m = 0 by omega], by omega⟩
  · injection hv with h1 h2 h3
    subst h1 h3
    refine .inr ⟨g, cap, cur, rfl, hb, hg, by omega, hmx, hsz, ?_⟩
    rw [← htk, List.take_take]
    congr 1
    omega
def keptLen (k : Int) (f : DF) : Nat := f.sb + min k.toNat (f.data.length - f.sb)
theorem keptLen_le {k : Int} {f : DF} (h : f.sb ≤ f.data.length) : keptLen k f ≤ f.data.length ∧ f.sb ≤ keptLen k f := by unfold keptLen; omega
theorem loseF_eq (k : Int) (f : DF) : loseF k f = { f with data := f.data.take (keptLen k f), sure := true, sb := keptLen k f } := rfl

theorem own_slice (a : Option Addr) (n m cap : Nat) : Value.ownBlock (.slice a n cap) = Value.ownBlock (.slice a m cap) := by cases a <;> rfl
theorem findE_upd {n : Int} {e' : DE} (hn : e'.f.n = n) : ∀ {es : List DE} {e : DE}, findE n es = some e → findE n (updE n e' es) = some e'
  | [], e, h => by cases h
  | x :: r, e, h => by
    unfold findE at h
    show findE n ((if x.f.n = n then e' else x) :: updE n e' r) = some e'
    by_cases hx : x.f.n = n
    · rw [if_pos hx]
      unfold findE
      rw [if_pos hn]
    · rw [if_neg hx] at h
      rw [if_neg hx]
      unfold findE
      rw [if_neg hx]
      exact findE_upd hn h
theorem updE_upd {n : Int} {e' e'' : DE} (hn : e'.f.n = n) (es : List DE) : updE n e'' (updE n e' es) = updE n e'' es := by
  unfold updE
  rw [List.map_map]
  apply List.map_congr_left
  intro x _
  simp only [Function.comp]
  by_cases hx : x.f.n = n
  · rw [if_pos hx, if_pos hn, if_pos hx]
  · rw [if_neg hx, if_neg hx]
set_option maxRecDepth 100000 in
theorem lay_lose {S : Nat → Prop} {w : World} {d mb : Nat} {es : List DE} {c : DC} (h : Lay S w d mb es c) (e0 : DE) (n : Int) (hf : findE n es = some e0) (k : Int) (hsb : e0.f.sb ≤ e0.f.data.length) (hlen : e0.f.data.length ≤ 4611686018427387904) :
    Calls Try.prog 66 #[.pointer (some ⟨e0.fb, 0, none⟩), .int .i64 k] w fun e w' => e = .returned (.tuple #[]) ∧ (∃ v', Lay S w' d mb (updE n ⟨loseF k e0.f, e0.fb, v'⟩ es) c) ∧ Only (fun j => j = e0.fb) w w' := by
  obtain ⟨hm, hn⟩ := findE_mem hf
  obtain ⟨a, cap, hv, hc⟩ := row_slice (h.file e0 hm).2
  obtain ⟨kl1, kl2⟩ := keptLen_le (k := k) hsb
  have hrow : w.ownsRow 0 5 1 (.slice a e0.f.data.length cap) e0.f.data.length (e0.f.data.map byteV) := by have := (h.file e0 hm).2; rw [hv] at this; exact this
  have g1 : w.cell? ⟨e0.fb, 1, none⟩ = some (.slice a e0.f.data.length cap) := by rw [h.fcell hm 1, ← hv]; rfl
  have g3 : w.cell? ⟨e0.fb, 3, none⟩ = some (.int .i64 (e0.f.sb : Int)) := h.fcell hm 3
  have f1 := h.ffree hm 1
  obtain ⟨q, hq⟩ : ∃ q : Nat, q = keptLen k e0.f := ⟨_, rfl⟩
  have z1 : IntKind.i64.wrap ((e0.f.data.length : Int) - (e0.f.sb : Int)) = (e0.f.data.length : Int) - (e0.f.sb : Int) := IntWalk.i64_in _ (by omega)
  have hqv : (e0.f.sb : Int) + min (max k 0) ((e0.f.data.length : Int) - (e0.f.sb : Int)) = (q : Int) := by rw [hq]; unfold keptLen; omega
  have z2 : IntKind.i64.wrap ((e0.f.sb : Int) + min (max k 0) ((e0.f.data.length : Int) - (e0.f.sb : Int))) = (q : Int) := by rw [hqv]; exact IntWalk.i64_in _ (by omega)
  have q0 : q ≤ e0.f.data.length := by omega
  have q1 : q ≤ cap := by omega
  have hcap : cap ≤ 9223372036854775807 := by
    rcases hrow.2 with ⟨hv', h0⟩ | ⟨g, cap', cur, hv', _, _, _, hmx, _⟩
    · injection hv' with h1 h2 h3
      omega
    · injection hv' with h1 h2 h3
      unfold maxLen at hmx
      omega
  clear hqv
  -- what the reslicing leaves
  have step : ∀ w1 : World, (∀ j, j < w.heap.size → w1.heap[j]? = w.heap[j]?) → Lay S (w1.setCell ⟨e0.fb, 1, none⟩ (.slice a q cap)) d mb (updE n ⟨{ e0.f with data := e0.f.data.take q }, e0.fb, .slice a q cap⟩ es) c := by
    intro w1 hw1
    have hfb := hw1 _ (heap_lt (h.file e0 hm).1)
    refine h.turn hf hn rfl (fun j hj h1 _ => ?_) ⟨?_, ?_⟩ (fun g hg => .inl (by rw [← hg, hv]; exact own_slice _ _ _ _)) (fun _ x => x) (fun g hg => h.sr e0 hm g (by rw [← hg, hv]; exact own_slice _ _ _ _))
    · rw [heap_set_other h1]
      exact hw1 j hj
    · exact heap_set (o := 1) (hfb.trans (h.file e0 hm).1) _
    · have h5 := row_take hrow q0
      have h6 : (e0.f.data.take q).length = q := by rw [List.length_take]; omega
      show World.ownsRow _ 0 5 1 (.slice a q cap) (e0.f.data.take q).length ((e0.f.data.take q).map byteV)
      rw [h6, List.map_take]
      refine ownsRow_same h5 fun g hg => ?_
      have hg' : e0.v.ownBlock = some g := by rw [hv, ← hg]; exact own_slice _ _ _ _
      rw [heap_set_other ((h.ne_row hm hg').2.2 e0 hm)]
      obtain ⟨cur, hcur⟩ := ownsRow_row (h.file e0 hm).2 hg'
      exact hw1 g (heap_lt hcur)
  have hfin : findE n (updE n ⟨{ e0.f with data := e0.f.data.take q }, e0.fb, .slice a q cap⟩ es) = some ⟨{ e0.f with data := e0.f.data.take q }, e0.fb, .slice a q cap⟩ := findE_upd (e' := ⟨{ e0.f with data := e0.f.data.take q }, e0.fb, .slice a q cap⟩) hn hf
  have hset : ∀ w2, Lay S w2 d mb (updE n ⟨{ e0.f with data := e0.f.data.take q }, e0.fb, .slice a q cap⟩ es) c → Calls Try.prog 68 #[.pointer (some ⟨e0.fb, 0, none⟩)] w2 fun e w' => e = .returned (.tuple #[]) ∧ (∃ v', Lay S w' d mb (updE n ⟨loseF k e0.f, e0.fb, v'⟩ es) c) ∧ Only (fun j => j = e0.fb) w2 w' := by
    intro w2 h2
    refine (lay_settle h2 _ n hfin).mono fun e w' ⟨he, hl, ho⟩ => ⟨he, ⟨.slice a q cap, ?_⟩, ho⟩
    rw [updE_upd (e' := ⟨{ e0.f with data := e0.f.data.take q }, e0.fb, .slice a q cap⟩) hn] at hl
    have : loseF k e0.f = syncF { e0.f with data := e0.f.data.take q } := by
      rw [loseF_eq]
      unfold syncF
      simp only
      rw [← hq, List.length_take, Nat.min_eq_left q0]
    rw [this]
    exact hl
  have STEP := Lib.hid step
  have HSET := Lib.hid hset
  clear h hf hm hn hv hrow step hset hfin hq
  go_enter Try.func66, Try.ntmps66
  go_wp2
  go_quiet (fail)
  go_wp2
  generalize hW : World.drewN w _ = w1
  have g1' : w1.cell? ⟨e0.fb, 1, none⟩ = some (.slice a e0.f.data.length cap) := by rw [← hW]; exact g1
  have g3' : w1.cell? ⟨e0.fb, 3, none⟩ = some (.int .i64 (e0.f.sb : Int)) := by rw [← hW]; exact g3
  have f1' : w1.frozen? ⟨e0.fb, 1, none⟩ = false := by rw [← hW]; exact f1
  have ST := Lib.hid (STEP.out w1.drew (fun _ _ => by rw [← hW]; rfl))
  have OO : Only (fun j => j = e0.fb) w w1.drew := by rw [← hW]; exact ((Only.refl _ w).drewN _).drew
  have OH := Lib.hid OO
  clear hW OO g1 g3 f1
  refine wp_region_still_tail 17 (by kernel_rfl) (by kernel_rfl) ?_
  simp only [List.take_succ_cons, List.take_zero, List.drop_succ_cons, List.drop_zero]
  repeat still_step
  refine wpStill_nil ?_
  change wpList _ _ _ _ _ (World.drew _)
  go_wp2_with (go_at_call 68; refine (HSET.out _ ST.out).mono ?_; rintro e w2 ⟨rfl, h2, o2⟩)
  go_end0
  exact ⟨rfl, h2, (Only.setCell (S := fun j => j = e0.fb) OH.out (p := ⟨e0.fb, 1, none⟩) (.inl rfl) _).trans o2⟩
end Go.Proofs.Ytkelcmncjhnbgaa
