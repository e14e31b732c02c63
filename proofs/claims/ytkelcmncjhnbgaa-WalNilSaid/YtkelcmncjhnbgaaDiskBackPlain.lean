/- A loss of power, file by file, in whatever order the files come. -/
import Derived.Test.YtkelcmncjhnbgaaDiskLose
set_option linter.unusedVariables false
set_option maxRecDepth 100000
namespace Go.Proofs.Ytkelcmncjhnbgaa
open Go.RowKit Go.Maps

/-- The files, where those of which 'left' says so are still to come. -/
def curL (ks : List (Int × Int)) (left : Lit → Bool) (fs : List DF) : List DF := fs.filterMap fun f => if left (.int .i64 f.n) = true then some f else backF ks f
/-- Those that have come, as they are then. -/
def doneL (ks : List (Int × Int)) (left : Lit → Bool) (fs : List DF) : List DF := fs.filterMap fun f => if left (.int .i64 f.n) = true then none else backF ks f
def strike (left : Lit → Bool) (n : Int) : Lit → Bool := fun z => left z && !z.sameKey (.int .i64 n)
theorem strike_i64 (left : Lit → Bool) (n m : Int) : strike left n (.int .i64 m) = (left (.int .i64 m) && !decide (m = n)) := by unfold strike; rw [sameKey_i64]
theorem backF_n {ks : List (Int × Int)} {f g : DF} (h : backF ks f = some g) : g.n = f.n ∧ g.t = f.t ∧ g.data.length ≤ f.data.length := by
  unfold backF at h
  split at h
  · cases h
  · injection h with h
    subst h
    exact ⟨rfl, rfl, by simp only [loseF, List.length_take]; omega⟩
theorem curL_start {ks : List (Int × Int)} {left : Lit → Bool} {fs : List DF} (h : ∀ f ∈ fs, left (.int .i64 f.n) = true) : curL ks left fs = fs ∧ doneL ks left fs = [] := by
  induction fs with
  | nil => exact ⟨rfl, rfl⟩
  | cons f r ih =>
    obtain ⟨h1, h2⟩ := ih fun x hx => h x (by simp [hx])
    have hf := h f (by simp)
    unfold curL at h1
    unfold doneL at h2
    unfold curL doneL
    simp [hf, h1, h2]
theorem curL_end {ks : List (Int × Int)} {left : Lit → Bool} {fs : List DF} (h : ∀ z, left z = false) : curL ks left fs = fs.filterMap (backF ks) ∧ doneL ks left fs = fs.filterMap (backF ks) := by
  unfold curL doneL
  simp [h]
theorem curL_mem {ks : List (Int × Int)} {left : Lit → Bool} {fs : List DF} {f : DF} (h : f ∈ curL ks left fs) (hl : left (.int .i64 f.n) = true) : f ∈ fs := by
  unfold curL at h
  obtain ⟨g, hg, hx⟩ := List.mem_filterMap.1 h
  by_cases hgl : left (.int .i64 g.n) = true
  · rw [if_pos hgl] at hx
    injection hx with hx
    exact hx ▸ hg
  · rw [if_neg hgl] at hx
    rw [(backF_n hx).1] at hl
    exact absurd hl hgl
/-- One more has come: it is gone. -/
theorem curL_gone {ks : List (Int × Int)} {left : Lit → Bool} {n : Int} (hl : left (.int .i64 n) = true) : ∀ {fs : List DF}, (∀ f ∈ fs, f.n = n → backF ks f = none) → curL ks (strike left n) fs = delL n (curL ks left fs) ∧ doneL ks (strike left n) fs = doneL ks left fs
  | [], _ => ⟨rfl, rfl⟩
  | f :: r, h => by
    obtain ⟨h1, h2⟩ := curL_gone hl (fs := r) fun x hx => h x (by simp [hx])
    unfold curL delL at h1
    unfold doneL at h2
    unfold curL doneL delL
    simp only [List.filterMap_cons]
    by_cases hn : f.n = n
    · have hb := h f (by simp) hn
      rw [strike_i64, hn]
      simp [hl, hb, h1, h2, hn]
    · rw [strike_i64]
      simp only [hn, decide_false, Bool.not_false, Bool.and_true]
      by_cases hf : left (.int .i64 f.n) = true
      · simp [hf, h1, h2, hn]
      · simp only [hf, if_false]
        cases hb : backF ks f with
        | none => simp [h1, h2]
        | some g =>
          have := (backF_n hb).1
          simp [h1, h2, this, hn]
/-- One more has come: it has lost something. -/
theorem curL_lost {ks : List (Int × Int)} {left : Lit → Bool} {n : Int} (g : DF → DF) (hl : left (.int .i64 n) = true) : ∀ {fs : List DF}, (∀ f ∈ fs, f.n = n → backF ks f = some (g f)) → curL ks (strike left n) fs = updL n g (curL ks left fs)
  | [], _ => rfl
  | f :: r, h => by
    have h1 := curL_lost g hl (fs := r) fun x hx => h x (by simp [hx])
    unfold curL updL at h1 ⊢
    simp only [List.filterMap_cons]
    by_cases hn : f.n = n
    · have hb := h f (by simp) hn
      rw [strike_i64, hn]
      simp [hl, hb, h1, hn]
    · rw [strike_i64]
      simp only [hn, decide_false, Bool.not_false, Bool.and_true]
      by_cases hf : left (.int .i64 f.n) = true
      · simp [hf, h1, hn]
      · simp only [hf, if_false]
        cases hb : backF ks f with
        | none => simpa using h1
        | some g' =>
          have := (backF_n hb).1
          simp [h1, this, hn]
theorem done_other {ks : List (Int × Int)} {left : Lit → Bool} {n : Int} : ∀ {fs : List DF}, (∀ f ∈ fs, f.n ≠ n) → doneL ks (strike left n) fs = doneL ks left fs
  | [], _ => rfl
  | f :: r, h => by
    have h1 := done_other (ks := ks) (left := left) (fs := r) fun x hx => h x (by simp [hx])
    unfold doneL at h1 ⊢
    simp only [List.filterMap_cons]
    rw [strike_i64]
    simp only [h f (by simp), decide_false, Bool.not_false, Bool.and_true]
    rw [h1]
theorem doneL_left {ks : List (Int × Int)} {left : Lit → Bool} {a : DF} {r : List DF} (h : left (.int .i64 a.n) = true) : doneL ks left (a :: r) = doneL ks left r := by
  unfold doneL
  rw [List.filterMap_cons, if_pos h]
theorem doneL_none {ks : List (Int × Int)} {left : Lit → Bool} {a : DF} {r : List DF} (h : ¬ left (.int .i64 a.n) = true) (hb : backF ks a = none) : doneL ks left (a :: r) = doneL ks left r := by
  unfold doneL
  rw [List.filterMap_cons, if_neg h, hb]
theorem doneL_some {ks : List (Int × Int)} {left : Lit → Bool} {a x : DF} {r : List DF} (h : ¬ left (.int .i64 a.n) = true) (hb : backF ks a = some x) : doneL ks left (a :: r) = x :: doneL ks left r := by
  unfold doneL
  rw [List.filterMap_cons, if_neg h, hb]
theorem done_lost {ks : List (Int × Int)} {left : Lit → Bool} {n : Int} (hl : left (.int .i64 n) = true) (t : Int) {f g : DF} (hn : f.n = n) (hb : backF ks f = some g) : ∀ {fs : List DF}, (fs.map (·.n)).Nodup → f ∈ fs →
    usedL t (doneL ks (strike left n) fs) = usedL t (doneL ks left fs) + (if f.t = t then blk g.data.length else 0)
  | [], _, h => by cases h
  | a :: r, hnd, h => by
    simp only [List.map_cons, List.nodup_cons] at hnd
    rcases List.mem_cons.1 h with rfl | hr
    · have h1 := done_other (ks := ks) (left := left) (n := n) (fs := r) fun x hx e => hnd.1 (List.mem_map.2 ⟨x, hx, by rw [e, hn]⟩)
      unfold doneL at h1 ⊢
      simp only [List.filterMap_cons]
      rw [strike_i64, hn, hb, h1]
      simp only [hl, decide_true, Bool.not_true, Bool.and_false, Bool.false_eq_true, if_false, if_true, usedL]
      rw [(backF_n hb).2.1]
      omega
    · have h1 := done_lost hl t hn hb hnd.2 hr
      have hna : a.n ≠ n := fun e => hnd.1 (List.mem_map.2 ⟨f, hr, by rw [hn, e]⟩)
      have hst : strike left n (.int .i64 a.n) = left (.int .i64 a.n) := by rw [strike_i64]; simp [hna]
      by_cases hf : left (.int .i64 a.n) = true
      · rw [doneL_left (by rw [hst]; exact hf), doneL_left hf]
        exact h1
      · cases hb' : backF ks a with
        | none =>
          rw [doneL_none (by rw [hst]; exact hf) hb', doneL_none hf hb']
          exact h1
        | some x =>
          rw [doneL_some (by rw [hst]; exact hf) hb', doneL_some hf hb']
          simp only [usedL]
          omega
theorem used_filterMap (t : Int) (p : DF → Option DF) (hp : ∀ f g, p f = some g → g.t = f.t ∧ g.data.length ≤ f.data.length) : ∀ fs : List DF, usedL t (fs.filterMap p) ≤ usedL t fs
  | [] => Nat.le_refl _
  | f :: r => by
    have ih := used_filterMap t p hp r
    rw [List.filterMap_cons]
    cases hf : p f with
    | none => simp only [usedL]; omega
    | some g =>
      obtain ⟨h1, h2⟩ := hp f g hf
      have := blk_mono h2
      simp only [usedL, h1]
      split <;> omega
theorem used_done (t : Int) (ks : List (Int × Int)) (left : Lit → Bool) (fs : List DF) : usedL t (doneL ks left fs) ≤ usedL t fs := by
  refine used_filterMap t _ (fun f g h => ?_) fs
  split at h
  · cases h
  · exact (backF_n h).2
theorem used_back (t : Int) (ks : List (Int × Int)) (fs : List DF) : usedL t (fs.filterMap (backF ks)) ≤ usedL t fs := used_filterMap t _ (fun f g h => (backF_n h).2) fs
theorem back_find {ks : List (Int × Int)} {n : Int} : ∀ {fs : List DF}, (fs.map (·.n)).Nodup → findL n (fs.filterMap (backF ks)) = (findL n fs).bind (backF ks)
  | [], _ => rfl
  | f :: r, hnd => by
    simp only [List.map_cons, List.nodup_cons] at hnd
    have ih := back_find (ks := ks) (n := n) hnd.2
    rw [List.filterMap_cons]
    by_cases hn : f.n = n
    · have hr : findL n r = none := by
        cases hx : findL n r with
        | none => rfl
        | some g => exact absurd (List.mem_map.2 ⟨g, (findL_mem hx).1, by rw [(findL_mem hx).2, hn]⟩) hnd.1
      rw [hr] at ih
      simp only [findL, hn, if_true]
      cases hb : backF ks f with
      | none => simpa [hb] using ih
      | some g => simp [findL, (backF_n hb).1, hn, hb]
    · simp only [findL, hn, if_false]
      cases hb : backF ks f with
      | none => exact ih
      | some g => simp only [findL, (backF_n hb).1, hn, if_false]; exact ih
theorem DS.Fit.back {s : DS} (h : s.Fit) (ks : List (Int × Int)) : (s.back ks).Fit := by
  refine ⟨h.r0, h.r1, Nat.le_trans (used_back 0 ks s.fs) h.u0, Nat.le_trans (used_back 1 ks s.fs) h.u1, ?_, ?_, ?_, by simp [DS.back], by simp [DS.back]⟩
  · have : ∀ {fs : List DF}, (fs.map (·.n)).Nodup → ((fs.filterMap (backF ks)).map (·.n)).Nodup := by
      intro fs
      induction fs with
      | nil => intro h; exact h
      | cons f r ih =>
        intro hn
        simp only [List.map_cons, List.nodup_cons] at hn
        rw [List.filterMap_cons]
        cases hb : backF ks f with
        | none => exact ih hn.2
        | some g =>
          simp only [List.map_cons, List.nodup_cons]
          refine ⟨fun hm => ?_, ih hn.2⟩
          obtain ⟨x, hx, hxn⟩ := List.mem_map.1 hm
          obtain ⟨y, hy, hyx⟩ := List.mem_filterMap.1 hx
          exact hn.1 (List.mem_map.2 ⟨y, hy, by rw [← (backF_n hyx).1, hxn, (backF_n hb).1]⟩)
    exact this h.nod
  · intro x hx
    obtain ⟨y, hy, hyx⟩ := List.mem_filterMap.1 hx
    obtain ⟨a, b, c, d⟩ := h.file y hy
    unfold backF at hyx
    split at hyx
    · cases hyx
    · injection hyx with hyx
      subst hyx
      refine ⟨a, ?_, fun e => absurd e (by simp [loseF]), d⟩
      simp only [loseF, List.length_take]
      omega
  · rcases h.root with e | ⟨y, hy, hyn, hys⟩
    · exact .inl e
    · refine .inr ⟨loseF (most ks y.n) y, List.mem_filterMap.2 ⟨y, hy, ?_⟩, hyn, rfl⟩
      unfold backF
      rw [if_neg (by rw [hys]; simp)]
end Go.Proofs.Ytkelcmncjhnbgaa
