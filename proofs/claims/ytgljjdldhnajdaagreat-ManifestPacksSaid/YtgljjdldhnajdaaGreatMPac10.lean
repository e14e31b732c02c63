/- Texts put together: DiskCalm, DiskArm, QFirst, WalRow, WalLog, WalLog2 -/
import Derived.Test.YtgljjdldhnajdaaGreatMPac09
import Derived.Test.YtgljjdldhnajdaaGreatMPac02
import Derived.Test.YtgljjdldhnajdaaGreatMPac04
/- Plain laws of the disk: what calls leave as it was. -/
set_option linter.unusedVariables false
set_option maxRecDepth 100000
namespace Go.Proofs.YtgljjdldhnajdaaGreat
open Go.RowKit Go.Maps

/-- A disk on which nothing was armed. -/
structure Calm (s : DS) : Prop where
  left : s.left = -1
  down : s.down = false
theorem calm_new (a b : Nat) : Calm (DS.new a b) := ⟨rfl, rfl⟩
theorem calm_back (s : DS) (ks : List (Int × Int)) : Calm (s.back ks) := ⟨rfl, rfl⟩
theorem calm_tick {s : DS} (h : Calm s) : s.tick.left = -1 := by
  unfold DS.tick
  simp only [h.left]
  rfl
/-- What each call does to a calm disk. -/
theorem make_calm {s : DS} (h : Calm s) (t n : Int) : s.make t n = (s, 1) ∧ ((¬ (t = 0 ∨ t = 1)) ∨ n < 1) ∨ s.make t n = (s, 10) ∧ (findL n s.fs).isSome = true ∨ s.make t n = (s, 7) ∨
    s.make t n = ({ s.tick with fs := s.fs ++ [⟨n, t, [], false, 0⟩] }, 0) ∧ findL n s.fs = none ∧ (t = 0 ∨ t = 1) ∧ 1 ≤ n := by
  unfold DS.make
  rw [if_neg (by rw [h.down]; simp)]
  by_cases h1 : ¬ (t = 0 ∨ t = 1) ∨ n < 1
  · rw [if_pos h1]; exact .inl ⟨rfl, h1⟩
  · rw [if_neg h1]
    by_cases h2 : (findL n s.fs).isSome = true
    · rw [if_pos h2]; exact .inr (.inl ⟨rfl, h2⟩)
    · rw [if_neg h2]
      by_cases h3 : s.room t ≤ s.used t
      · rw [if_pos h3]; exact .inr (.inr (.inl rfl))
      · rw [if_neg h3, if_neg (by rw [h.left]; omega)]
        refine .inr (.inr (.inr ⟨rfl, ?_, ?_⟩))
        · cases hx : findL n s.fs with
          | none => rfl
          | some f => rw [hx] at h2; exact absurd rfl h2
        · constructor
          · exact Classical.byContradiction fun x => h1 (.inl x)
          · omega
theorem add_calm {s : DS} (h : Calm s) (n : Int) (b : List UInt8) : s.add n b = (s, 9) ∧ findL n s.fs = none ∨ (∃ f, findL n s.fs = some f ∧ (s.add n b = (s, 7) ∨ s.add n b = ({ s.tick with fs := updL n (addF b) s.fs }, 0))) := by
  unfold DS.add
  rw [if_neg (by rw [h.down]; simp)]
  cases hx : findL n s.fs with
  | none => exact .inl ⟨rfl, rfl⟩
  | some f =>
    refine .inr ⟨f, rfl, ?_⟩
    simp only
    split
    · exact .inl rfl
    · rw [if_neg (by rw [h.left]; omega)]
      exact .inr rfl
theorem sync_calm {s : DS} (h : Calm s) (n : Int) : s.sync n = (s, 9) ∧ findL n s.fs = none ∨ (∃ f, findL n s.fs = some f ∧ s.sync n = ({ s.tick with fs := updL n syncF s.fs }, 0)) := by
  unfold DS.sync
  rw [if_neg (by rw [h.down]; simp)]
  cases hx : findL n s.fs with
  | none => exact .inl ⟨rfl, rfl⟩
  | some f =>
    refine .inr ⟨f, rfl, ?_⟩
    simp only
    rw [if_neg (by rw [h.left]; omega)]
theorem drop_calm {s : DS} (h : Calm s) (n : Int) : s.drop n = (s, 9) ∧ findL n s.fs = none ∨ (∃ f, findL n s.fs = some f ∧ (s.drop n = (s, 11) ∧ n = s.root ∨ s.drop n = ({ s.tick with fs := delL n s.fs }, 0) ∧ n ≠ s.root)) := by
  unfold DS.drop
  rw [if_neg (by rw [h.down]; simp)]
  cases hx : findL n s.fs with
  | none => exact .inl ⟨rfl, rfl⟩
  | some f =>
    refine .inr ⟨f, rfl, ?_⟩
    simp only
    by_cases hr : n = s.root
    · rw [if_pos hr]; exact .inl ⟨rfl, hr⟩
    · rw [if_neg hr, if_neg (by rw [h.left]; omega)]
      exact .inr ⟨rfl, hr⟩
theorem point_calm {s : DS} (h : Calm s) (n : Int) : s.point n = (s, 9) ∧ findL n s.fs = none ∨ (∃ f, findL n s.fs = some f ∧ (s.point n = (s, 11) ∨ s.point n = ({ s.tick with root := n }, 0))) := by
  unfold DS.point
  rw [if_neg (by rw [h.down]; simp)]
  cases hx : findL n s.fs with
  | none => exact .inl ⟨rfl, rfl⟩
  | some f =>
    refine .inr ⟨f, rfl, ?_⟩
    simp only
    split
    · exact .inl rfl
    · rw [if_neg (by rw [h.left]; omega)]
      exact .inr rfl
/-- The root is there. -/
theorem root_there {s : DS} (hF : s.Fit) (hr : s.root ≠ 0) : ∃ f, findL s.root s.fs = some f := by
  rcases hF.root with e | ⟨f, hf, hn, _⟩
  · exact absurd e hr
  · exact ⟨f, findL_of hF.nod hf hn⟩
theorem file_pos {s : DS} (hF : s.Fit) {n : Int} {f : DF} (h : findL n s.fs = some f) : 1 ≤ n := by
  obtain ⟨h1, h2⟩ := findL_mem h
  have := (hF.file f h1).2.2.2.1
  omega
theorem root_wf {s : DS} (hF : s.Fit) : (Lit.int .i64 s.root).wf = true := by
  rcases hF.root with e | ⟨f, hf, hn, _⟩
  · rw [e]; decide
  · have := (hF.file f hf).2.2.2
    exact WalkArith.wf_i64 (by omega)
theorem size_there {s : DS} (h : Calm s) {n : Int} {f : DF} (hf : findL n s.fs = some f) : s.size n = ((f.data.length : Int), f.t, 0) := by
  unfold DS.size
  rw [if_neg (by rw [h.down]; simp), hf]
theorem drop_root {s : DS} (h : Calm s) (hF : s.Fit) (hr : s.root ≠ 0) : s.drop s.root = (s, 11) := by
  obtain ⟨f, hf⟩ := root_there hF hr
  rcases drop_calm h s.root with ⟨e, h0⟩ | ⟨g, _, ⟨e, _⟩ | ⟨_, hn⟩⟩
  · rw [hf] at h0; cases h0
  · exact e
  · exact absurd rfl hn
theorem find_upd {n : Int} {g : DF → DF} (hg : ∀ x, (g x).n = x.n) : ∀ {l : List DF} {f : DF}, findL n l = some f → findL n (updL n g l) = some (g f)
  | [], f, h => by cases h
  | a :: r, f, h => by
    unfold findL at h
    show findL n ((if a.n = n then g a else a) :: updL n g r) = some (g f)
    by_cases ha : a.n = n
    · rw [if_pos ha] at h
      rw [if_pos ha]
      unfold findL
      rw [if_pos (by rw [hg]; exact ha)]
      cases h
      rfl
    · rw [if_neg ha] at h
      rw [if_neg ha]
      unfold findL
      rw [if_neg ha]
      exact find_upd hg h
theorem find_new {n : Int} {x : DF} (hx : x.n = n) : ∀ {l : List DF}, findL n l = none → findL n (l ++ [x]) = some x
  | [], _ => by unfold findL; simp [hx]
  | a :: r, h => by
    unfold findL at h
    show findL n (a :: (r ++ [x])) = some x
    by_cases ha : a.n = n
    · rw [if_pos ha] at h; cases h
    · rw [if_neg ha] at h
      unfold findL
      rw [if_neg ha]
      exact find_new hx h
theorem read_at {s : DS} (h : Calm s) {n : Int} {f : DF} (hf : findL n s.fs = some f) (k : Nat) (hk : k ≤ f.data.length) : s.read n 0 (k : Int) = (f.data.take k, 0) := by
  unfold DS.read
  rw [if_neg (by rw [h.down]; simp), hf]
  simp only
  rw [if_neg (by omega)]
  simp
/-- A file begun, or there already. -/
theorem make_then {s : DS} (h : Calm s) {n : Int} (hn : 1 ≤ n) : s.make 0 n = (s, 7) ∨ ∃ s2 c f, s.make 0 n = (s2, c) ∧ (c = 0 ∨ c = 10) ∧ Calm s2 ∧ s2.steps ≤ s.steps + 1 ∧ findL n s2.fs = some f := by
  rcases make_calm h 0 n with ⟨_, x⟩ | ⟨e, x⟩ | e | ⟨e, x, _⟩
  · omega
  · cases hf : findL n s.fs with
    | none => rw [hf] at x; cases x
    | some f => exact .inr ⟨s, 10, f, e, .inr rfl, h, Nat.le_succ _, hf⟩
  · exact .inl e
  · exact .inr ⟨_, 0, ⟨n, 0, [], false, 0⟩, e, .inl rfl, ⟨calm_tick h, h.down⟩, Nat.le_refl _, find_new (x := ⟨n, 0, [], false, 0⟩) rfl x⟩
theorem add_then {s : DS} (h : Calm s) {n : Int} {f : DF} (hf : findL n s.fs = some f) (b : List UInt8) : s.add n b = (s, 7) ∨ ∃ s2, s.add n b = (s2, 0) ∧ Calm s2 ∧ s2.steps ≤ s.steps + 1 ∧ findL n s2.fs = some (addF b f) := by
  rcases add_calm h n b with ⟨_, x⟩ | ⟨g, _, e | e⟩
  · rw [hf] at x; cases x
  · exact .inl e
  · exact .inr ⟨_, e, ⟨calm_tick h, h.down⟩, Nat.le_refl _, find_upd (g := addF b) (fun _ => rfl) hf⟩
theorem sync_then {s : DS} (h : Calm s) {n : Int} {f : DF} (hf : findL n s.fs = some f) : ∃ s2, s.sync n = (s2, 0) ∧ Calm s2 ∧ s2.steps ≤ s.steps + 1 ∧ findL n s2.fs = some (syncF f) := by
  rcases sync_calm h n with ⟨_, x⟩ | ⟨g, _, e⟩
  · rw [hf] at x; cases x
  · exact ⟨_, e, ⟨calm_tick h, h.down⟩, Nat.le_refl _, find_upd (g := syncF) (fun _ => rfl) hf⟩
/-- Behind a loss of power: the sure bytes, and a beginning of the others. -/
theorem back_then {s : DS} (hF : s.Fit) {n : Int} {f : DF} (hf : findL n s.fs = some f) (hs : f.sure = true) (ks : List (Int × Int)) : ∃ f', findL n (s.back ks).fs = some f' ∧ f'.data = f.data.take f'.data.length ∧ f.sb ≤ f'.data.length ∧ f'.data.length ≤ f.data.length := by
  have h1 : findL n (s.back ks).fs = some (loseF (most ks f.n) f) := by
    show findL n (s.fs.filterMap (backF ks)) = _
    rw [back_find hF.nod, hf]
    show backF ks f = _
    unfold backF
    rw [if_neg (by rw [hs]; simp)]
  have hsb := (hF.file f (findL_mem hf).1).2.1
  obtain ⟨k1, k2⟩ := keptLen_le (k := most ks f.n) hsb
  refine ⟨_, h1, ?_, ?_, ?_⟩
  · rw [loseF_eq]
    simp only [List.length_take, Nat.min_eq_left k1]
  · rw [loseF_eq]
    simp only [List.length_take, Nat.min_eq_left k1]
    exact k2
  · rw [loseF_eq]
    simp only [List.length_take, Nat.min_eq_left k1]
    exact k1
theorem fit_len {s : DS} (hF : s.Fit) {n : Int} {f : DF} (hf : findL n s.fs = some f) : f.data.length ≤ 67108864 := (len_bound hF hf).1
end Go.Proofs.YtgljjdldhnajdaaGreat
/- Plain laws of an armed disk. -/
set_option linter.unusedVariables false
set_option maxRecDepth 100000
namespace Go.Proofs.YtgljjdldhnajdaaGreat
open Go.RowKit Go.Maps

/-- A disk on which n was armed. -/
def Armed (n : Int) (s : DS) : Prop := (n < 0 ∧ s.left = -1 ∧ s.down = false) ∨ (0 ≤ n ∧ s.down = false ∧ s.left = n - s.steps ∧ 0 ≤ s.left) ∨ (0 ≤ n ∧ s.down = true ∧ (s.steps : Int) = n)
def bulkS (s : DS) : Nat := 64 * (usedL 0 s.fs + usedL 1 s.fs)
theorem used_both_upd {s : DS} (hF : s.Fit) {n : Int} {f : DF} {g : DF → DF} (hf : findL n s.fs = some f) (hg : ∀ x, (g x).t = x.t) :
    usedL 0 (updL n g s.fs) + usedL 1 (updL n g s.fs) + blk f.data.length = usedL 0 s.fs + usedL 1 s.fs + blk (g f).data.length := by
  have h0 := used_upd 0 n g hg hF.nod hf
  have h1 := used_upd 1 n g hg hF.nod hf
  rcases tier_cases hF hf with e | e <;> simp [e] at h0 h1 <;> omega
theorem armed_off {n : Int} {s s2 : DS} (h : Armed n s) (hd : s.down = false) (hl : s.left = 0) (h2 : s2.down = true) (hs : s2.steps = s.steps) : Armed n s2 := by
  rcases h with ⟨_, x, _⟩ | ⟨a, _, b, _⟩ | ⟨_, x, _⟩
  · omega
  · exact .inr (.inr ⟨a, h2, by rw [hs]; omega⟩)
  · rw [hd] at x; cases x
theorem armed_tick {n : Int} {s s2 : DS} (h : Armed n s) (hd : s.down = false) (hl : s.left ≠ 0) (h2 : s2.down = false) (hs : s2.steps = s.steps + 1) (hl2 : s2.left = s.tick.left) : Armed n s2 := by
  unfold DS.tick at hl2
  simp only at hl2
  rcases h with ⟨a, x, _⟩ | ⟨a, _, b, c⟩ | ⟨_, x, _⟩
  · refine .inl ⟨a, ?_, h2⟩
    rw [hl2, x]
    rfl
  · refine .inr (.inl ⟨a, h2, ?_, ?_⟩)
    · rw [hl2, hs]; split <;> omega
    · rw [hl2]; split <;> omega
  · rw [hd] at x; cases x
theorem bulk_same {s s2 : DS} (h : s2.fs = s.fs) : bulkS s2 = bulkS s := by unfold bulkS; rw [h]
/-- What holds of an armed disk. -/
theorem armed_steps {n : Int} {s : DS} (h : Armed n s) : (0 ≤ n → (s.steps : Int) ≤ n) ∧ (s.down = true → 0 ≤ n ∧ (s.steps : Int) = n) := by
  rcases h with ⟨a, _, b⟩ | ⟨a, b, c, d⟩ | ⟨a, b, c⟩
  · exact ⟨fun x => (by omega), fun x => (by rw [b] at x; cases x)⟩
  · exact ⟨fun _ => (by omega), fun x => (by rw [b] at x; cases x)⟩
  · exact ⟨fun _ => (by omega), fun _ => ⟨a, c⟩⟩
/-- So many numbers in a row want so many files. -/
theorem pigeons (c : Int) : ∀ (q : Nat) (fs : List DF), (∀ x : Nat, x < q → ∃ f ∈ fs, f.n = c + x) → q ≤ fs.length
  | 0, _, _ => Nat.zero_le _
  | q + 1, fs, h => by
    obtain ⟨f, hf, hn⟩ := h q (Nat.lt_succ_self q)
    have h1 := pigeons c q (delL (c + q) fs) fun x hx => by
      obtain ⟨g, hg, hgn⟩ := h x (Nat.lt_succ_of_lt hx)
      exact ⟨g, List.mem_filter.2 ⟨hg, by simp; omega⟩, hgn⟩
    have h2 : (delL (c + q) fs).length < fs.length := List.length_filter_lt_length_iff_exists.2 ⟨f, hf, by simp [hn]⟩
    omega
theorem back_bulk (s : DS) (ks : List (Int × Int)) : bulkS (s.back ks) ≤ bulkS s ∧ (s.back ks).fs.length ≤ s.fs.length := by
  have h0 := used_back 0 ks s.fs
  have h1 := used_back 1 ks s.fs
  refine ⟨?_, List.length_filterMap_le _ _⟩
  unfold bulkS
  show 64 * (usedL 0 (s.fs.filterMap (backF ks)) + usedL 1 (s.fs.filterMap (backF ks))) ≤ _
  omega
end Go.Proofs.YtgljjdldhnajdaaGreat
/- A region that draws its order, whose first operation may come at any time (the slice that is appended to, looked at first), then quiet ones, then a chain. -/
set_option linter.unusedVariables false
set_option maxRecDepth 100000
namespace Go.Proofs.YtgljjdldhnajdaaGreat
open Go.RowKit

section
variable {F : Fence} {n : Nat} {P : Program} {ops : Array Oper} {md : Region.Mode} {C : World → Prop}

/-! ### Where the first operation is awaited by the last ones alone ('l = append(l, f(x))': the slice is looked at first) -/
def HeadInv1 (md : Region.Mode) (ops : Array Oper) (m : Nat) (listed : Array Bool) : Prop := HeadInv md ops m listed ∧ listed.getD 0 false = true
theorem HeadInv1.set {m i : Nat} {listed : Array Bool} (inv : HeadInv1 md ops m listed) (hi : i ∈ Region.ready md ops listed) (him : i < m) : HeadInv1 md ops m (listed.setIfInBounds i true) :=
  ⟨inv.1.set hi him, getD_set_true inv.2⟩
def sink1B (md : Region.Mode) (ops : Array Oper) (m : Nat) : Bool :=
  (List.range m).all fun i => decide (i = 0) || (List.range (m + 1)).any fun j => decide (i < j) && Region.waitsFor md ops j i
theorem ready_waits {listed : Array Bool} {t i : Nat} (hr : t ∈ Region.ready md ops listed) (hw : Region.waitsFor md ops t i = true) : listed.getD i false = true := by
  obtain ⟨_, ot, hot, hall⟩ := mem_ready.1 hr
  obtain ⟨o, ho, e, he, hb, rfl⟩ := Region.waitsFor_spec hw
  obtain rfl := Option.some.inj (ho.symm.trans hot)
  exact hall e he hb
theorem tail_waits1 {m : Nat} {listed : Array Bool} (hs : sink1B md ops m = true) (hc : Region.chainB md ops m = true) (hn : m < ops.size) (inv : HeadInv1 md ops m listed) :
    ∀ (d i : Nat), m - i = d → i < m → listed.getD i true = false → ∀ t, m ≤ t → t ∉ Region.ready md ops listed := by
  intro d i _ hi hun t ht hr
  have htlt : t < ops.size := by obtain ⟨_, _, hot, _⟩ := mem_ready.1 hr; exact (Array.getElem?_eq_some_iff.1 hot).1
  rcases Nat.lt_or_ge m t with hmt | hmt
  · have h1 := List.all_eq_true.1 hc t (List.mem_range.2 htlt)
    simp only [Bool.or_eq_true, decide_eq_true_eq] at h1
    have h2 := ready_waits hr (h1.resolve_left (by omega))
    rw [getD_both (inv.1.tail (t - 1) (by omega) (by omega))] at h2
    cases h2
  · obtain rfl : t = m := by omega
    -- whoever waits for one that hasn't come hasn't come: up to t, which has all that it waits for
    have up : ∀ k i, t - i ≤ k → i < t → listed.getD i true = false → False := by
      intro k
      induction k with
      | zero => intro i h1 h2; omega
      | succ k ih =>
        intro i hk hi hun
        have h1 := List.all_eq_true.1 hs i (List.mem_range.2 hi)
        simp only [Bool.or_eq_true, decide_eq_true_eq, List.any_eq_true, Bool.and_eq_true, List.mem_range] at h1
        rcases h1 with rfl | ⟨j, hj, hij, hw⟩
        · have := inv.2; rw [getD_both hun] at this; cases this
        · by_cases hjt : j = t
          · subst hjt
            have := ready_waits hr hw
            rw [getD_both hun] at this
            cases this
          · cases hl : listed.getD j false with
            | true =>
              obtain ⟨o, ho, e, he, hb, hon⟩ := Region.waitsFor_spec hw
              have := inv.1.closed j o ho hl e he hb
              rw [hon, getD_both hun] at this
              cases this
            | false => exact ih j (by omega) (by omega) (getD_in (by rw [inv.1.size]; omega) hl)
    exact up (t - i) i (Nat.le_refl _) hi hun
theorem wpAnyLP1_first {m i : Nat} {oi : Oper} {v : Value} {L : Array Bool → Act → Prop} (hi : ops[i]? = some oi) (hsel : ∀ (j : Nat) (o : Oper) cs b, ops[j]? = some o → o.op ≠ .select cs b)
    (hs : sink1B md ops m = true) (hc : Region.chainB md ops m = true) (hn : m < ops.size) (hin : i < m)
    (hdone : ∀ listed a, L listed a → ∀ j ∈ Region.ready md ops listed, m ≤ j) :
    ∀ (f : Nat) (listed : Array Bool) (a : Act), HeadInv1 md ops m listed →
      (∀ j oj, ops[j]? = some oj → j ≠ i → listed.getD j true = false → (∀ e ∈ oj.after, Region.binds md e = true → e.on ≠ i) → oi.apart ops oj = true) →
      i ∈ Region.ready md ops listed → YieldsIn P ops C oi v a →
      wpAnyLP P md ops C m L f (listed.setIfInBounds i true) (a.put oi.dst v) → wpAnyLP P md ops C m L (f + 1) listed a := by
  intro f
  induction f with
  | zero =>
    intro listed a inv _ hr hy H
    have hun := (mem_ready.1 hr).1
    refine ⟨fun h => (by rw [h] at hr; cases hr), fun j hj => ?_⟩
    have hjn : j < m := by
      rcases Nat.lt_or_ge j m with h | h
      · exact h
      · exact absurd hj (tail_waits1 hs hc hn inv _ i rfl hin hun j h)
    refine ⟨hjn, ?_⟩
    by_cases hji : j = i
    · subst hji; exact hy.qOp hi H
    · have := hdone _ _ H j (ready_mono hj hji)
      omega
  | succ f ih =>
    intro listed a inv hfree hr hy H
    have hun := (mem_ready.1 hr).1
    refine ⟨fun h => (by rw [h] at hr; cases hr), fun j hj => ?_⟩
    have hjn : j < m := by
      rcases Nat.lt_or_ge j m with h | h
      · exact h
      · exact absurd hj (tail_waits1 hs hc hn inv _ i rfl hin hun j h)
    refine ⟨hjn, ?_⟩
    by_cases hji : j = i
    · subst hji; exact hy.qOp hi H
    · have h1 := (H.2 j (ready_mono hj hji)).2
      obtain ⟨hjun, oj, hoj, hall⟩ := mem_ready.1 hj
      have hnot : ∀ e ∈ oj.after, Region.binds md e = true → e.on ≠ i := fun e he hb heq => by
        have h1 := hall e he hb
        rw [heq, getD_both hun] at h1
        cases h1
      have h2 := qOp_put hoj (hfree j oj hoj hji hjun hnot) (fun cs b => hsel i oi cs b hi) (fun cs b => hsel j oj cs b hoj) hy h1
      have hfree' : ∀ k ok, ops[k]? = some ok → k ≠ i → (listed.setIfInBounds j true).getD k true = false →
          (∀ e ∈ ok.after, Region.binds md e = true → e.on ≠ i) → oi.apart ops ok = true := fun k ok hk hki hun hno => by
        refine hfree k ok hk hki ?_ hno
        by_cases hjk : j = k
        · subst hjk; exact hjun
        · rw [getD_set_ne true hjk] at hun; exact hun
      refine qOp_mono (fun a' h3 => ih (listed.setIfInBounds j true) a' (inv.set hj hjn) hfree' (ready_mono hr (Ne.symm hji)) h3.1 ?_) h2
      rw [Array.setIfInBounds_comm _ _ hji]
      exact h3.2

theorem wpAnyLP1_lex {m g : Nat} {Lq : Act → Prop} (hsel : Region.noSelect ops = true) (hs : sink1B md ops m = true) (hc : Region.chainB md ops m = true) (hn : m < ops.size) :
    ∀ (l : List Oper) (k : Nat) (listed : Array Bool) (a : Act), (∀ j, j < l.length → l[j]? = ops[k + j]?) → k + l.length = m → HeadInv1 md ops m listed →
    Region.lexHead md ops g l.length k listed = true → wpQuiet P ops C Lq l a →
    wpAnyLP P md ops C m (fun listed' a' => Region.seqB md ops g m listed' = true ∧ Lq a') l.length listed a
  | [], k, listed, a, _, hk, _, hB, h => by
    have : k = m := by simpa using hk
    subst this
    exact ⟨by simpa [Region.lexHead] using hB, h⟩
  | o :: l, k, listed, a, hl, hk, inv, hB, h => by
    have h0 : ops[k]? = some o := by simpa using (hl 0 (by simp)).symm
    simp only [List.length_cons, Region.lexHead, Bool.and_eq_true] at hB
    obtain ⟨⟨hr, hf⟩, hB'⟩ := hB
    have hkn : k < m := by simp only [List.length_cons] at hk; omega
    have hr' : k ∈ Region.ready md ops listed := by simpa using hr
    have hst : qOp P ops C k (wpQuiet P ops C Lq l) a := by unfold qOp; simp only [h0]; exact h
    obtain ⟨v, hy, hK⟩ := yieldsIn_of_qOp h0 hst
    exact wpAnyLP1_first h0 (Region.noSelect_spec hsel) hs hc hn hkn (fun listed' a' hL => seqB_ready hL.1) l.length listed a inv (Region.free_spec h0 hf) hr' hy
      (wpAnyLP1_lex hsel hs hc hn l (k + 1) _ _ (fun j hj => by have := hl (j + 1) (by simp; omega); simpa [Nat.add_assoc, Nat.add_comm 1 j] using this) (by simp only [List.length_cons] at hk; omega) (inv.set hr' hkn) hB' hK)


def first1B (md : Region.Mode) (ops : Array Oper) (m : Nat) : Bool :=
  Region.noSelect ops && decide (0 < m) && decide (m < ops.size) && Region.free md ops (Array.replicate ops.size false) 0 && (Region.ready md ops (Array.replicate ops.size false)).contains 0 && sink1B md ops m && Region.chainB md ops m &&
    Region.lexHead md ops (ops.size - m) (m - 1) 1 ((Array.replicate ops.size false).setIfInBounds 0 true) && (match ops[0]? with | some o => o.after.isEmpty | none => false)
/-- ONE OPERATION THAT MAY COME AT ANY TIME, THEN QUIET ONES, THEN A CHAIN. -/
theorem wp_region_first_tail {id : Nat} {Q : Exit → Act → World → Prop} {a : Act} {w : World} {o : Oper} {l : List Oper} (m : Nat) (v : Value) (hm : P.follows .mixedOrders = true) (hB : first1B .any (o :: l).toArray m = true)
    (hy : Yields P (o :: l).toArray o v a) (hQ : ∀ c a w, Q (.panic c) (a.put o.dst v) w → Q (.panic c) a w)
    (h : wpQuiet P (o :: l).toArray (fun w' => ∃ n : Seen w, w' = n.val) (fun a' => ∀ w', (∃ n : Seen w, w' = n.val) → wpList P (o :: l).toArray Q (l.drop (m - 1)) a' w') (l.take (m - 1)) (a.put o.dst v)) : (Code.region id (o :: l).toArray true).wp P Q a w := by
  simp only [first1B, Bool.and_eq_true, decide_eq_true_eq] at hB
  obtain ⟨⟨⟨⟨⟨⟨⟨⟨hsel, hm0⟩, hn⟩, hfr⟩, hrd⟩, hs⟩, hc⟩, hlex⟩, haft⟩ := hB
  have hsz : (o :: l).toArray.size = l.length + 1 := by simp
  have hlm : (l.take (m - 1)).length = m - 1 := by simp; simp at hn; omega
  have hdl : (l.drop (m - 1)).length = (o :: l).toArray.size - m := by simp; omega
  have h0 : (o :: l).toArray[0]? = some o := by simp
  have hrd' : 0 ∈ Region.ready .any (o :: l).toArray (Array.replicate (o :: l).toArray.size false) := by simpa using hrd
  have inv0 : HeadInv .any (o :: l).toArray m (Array.replicate (o :: l).toArray.size false) :=
    ⟨by simp, fun j oj _ hl => (by rw [getD_replicate_false] at hl; cases hl), fun t _ ht => getD_in (by simpa using ht) (getD_replicate_false _ _)⟩
  have inv1 : HeadInv1 .any (o :: l).toArray m ((Array.replicate (o :: l).toArray.size false).setIfInBounds 0 true) := ⟨inv0.set hrd' hm0, by simp⟩
  have H := wpAnyLP1_lex (md := .any) (g := (o :: l).toArray.size - m) hsel hs hc hn (l.take (m - 1)) 1 _ (a.put o.dst v) (fun j hj => by
    have hj' : j < m - 1 := by rw [hlm] at hj; exact hj
    simp [hj', Nat.add_comm 1 j]) (by rw [hlm]; omega) inv1 (by rw [hlm]; exact hlex) h
  refine wp_region_any hm ?_
  rw [show (o :: l).toArray.size = l.length + 1 from hsz]
  refine wpAny_take h0 hsel (by rw [← hsz]; exact hfr) (by rw [← hsz]; exact hrd) hQ hy ?_
  have := wpAny_of_headQ (C := fun w' => ∃ n : Seen w, w' = n.val) (Q' := Q) (g := (o :: l).toArray.size - m) (fun listed a' w' hC' hL => by
    have := wpAny_of_seq (md := .any) (Q' := Q) (l.drop (m - 1)) m listed a' w' (fun j => by
      simp only [List.getElem?_drop, List.getElem?_toArray]
      rw [show m + j = (m - 1 + j) + 1 by omega, List.getElem?_cons_succ]) (by rw [hdl]; exact hL.1) (hL.2 w' hC')
    rw [hdl] at this
    exact this) _ _ _ { w with drawn := w.drawn + 1 } ⟨⟨w.drew, (Below.refl _ _).drew⟩, rfl⟩ H
  rw [hlm, show m - 1 + ((o :: l).toArray.size - m) = l.length by rw [hsz] at hn ⊢; omega] at this
  rw [← hsz]
  exact this
end
end Go.Proofs.YtgljjdldhnajdaaGreat
/- Rows of bytes of the call's own: a text appended, and the whole as a string; a log in memory. -/
set_option linter.unusedVariables false
set_option maxRecDepth 100000
set_option maxRecDepth 100000
namespace Go.Proofs.YtgljjdldhnajdaaGreat
open Go.RowKit

/-- Elements more. -/
theorem run_append_offS {P : Program} {w : World} {B : Nat} (t tx ty e : TypeId) (i : TypeInfo) (z : Value) (size bytes : Nat) (ht : P.underlying t = some (.slice e)) (hi : P.info? e = some i) (hz : i.zero = some z)
    (hsize : i.size = size) (hby : i.bytes = bytes) (hzs : z.cells.size = size)
    {v : Value} {n : Nat} {xs : List Value} (h : OffRow w B e size v n xs) (x : Value) (m : Nat) (news : List Value) (hs : Src P size tx x m news w)
    (h63 : n + m ≤ maxLen) (hbytes : (n + m) * bytes ≤ 140737488355328) (hB : B ≤ w.heap.size) :
    ∃ v' w', (Builtin.append_ #[t, tx] ty #[v, x]).run P w = .ok v' w' ∧ OffRow w' B e size v' (n + m) (xs ++ news) ∧ w.grownBy w' v.ownBlock ∧ (v'.ownBlock = v.ownBlock ∨ v'.ownBlock = some w.heap.size) := by
  subst hsize hby
  have hlen : (xs ++ news).length = (n + m) * i.size := by rw [List.length_append, h.1, hs.newsLen, Nat.add_mul]
  have hsmall : ((n + m : Nat) : Int) ≤ 9223372036854775807 := by unfold maxLen at h63; omega
  have grown : ∀ old, old < n + m → OffRow (w.drew.alloc (.cells ((xs ++ news).toArray ++ Builtin.zeroCells z.cells (grownCap w (n + m) old e - (n + m))) e)) B e i.size (.slice (some ⟨w.heap.size, 0, none⟩) (n + m) (grownCap w (n + m) old e)) (n + m) (xs ++ news) := by
    intro old ho
    refine ⟨hlen, .inr ⟨w.heap.size, 0, _, _, rfl, hB, heap_new w.drew _, grownCap_ge w (n + m) old e, grownCap_le_maxLen w (n + m) old e h63, ?_, fun j hj => ?_⟩⟩
    · have := grownCap_ge w (n + m) old e
      rw [Array.size_append, size_zeroCells, hzs, List.size_toArray, hlen, ← Nat.add_mul]
      exact Nat.le_of_eq (by rw [Nat.zero_add]; congr 1; omega)
    · rw [Nat.zero_add, Array.getElem?_append_left (by simpa [hlen] using hj)]
      simp
  rcases h.2 with ⟨rfl, rfl⟩ | ⟨g, off, cap, cur, rfl, hBg, hg, h1, h2, h3, h4⟩
  · obtain rfl : xs = [] := List.eq_nil_of_length_eq_zero (by simpa using h.1)
    by_cases hm : m = 0
    · subst hm
      obtain rfl : news = [] := List.eq_nil_of_length_eq_zero (by simpa using hs.newsLen)
      refine ⟨.slice none 0 0, w, ?_, OffRow.nil w B e i.size, ⟨rfl, rfl, rfl, Nat.le_refl _, fun _ _ _ => rfl⟩, .inl rfl⟩
      rcases hs.kind with ⟨e', hk⟩ | hk <;> simp [Builtin.append_, run_underlying ht, run_underlying hk, sizeOf, typeInfo, hi, hs.len, hs.cells]
    · have hold : (Builtin.firstCells i.size 0 (.slice none 0 0)).run P w.drew = .ok (#[] : Array Value) w.drew := rfl
      have hr := run_append_grow_src (P := P) w t tx ty e i z ht hi hz none 0 0 [] (by simpa using hold) x m news hs (by omega) (by simpa using hsmall) (growslice_fits (by omega) (by simpa using hbytes))
      simp only [Nat.zero_add, List.nil_append] at hr
      have hgr := grown 0 (by omega)
      simp only [Nat.zero_add, List.nil_append] at hgr ⊢
      exact ⟨_, _, hr, hgr, ⟨rfl, rfl, rfl, by simp, fun k hk _ => Below.heap_alloc w.drew _ k hk⟩, .inr rfl⟩
  · by_cases hroom : n + m ≤ cap
    · have hbd : ∀ j, j < news.length → off + n * i.size + j < cur.size := by
        intro j hj
        rw [hs.newsLen] at hj
        have : (n + m) * i.size ≤ cap * i.size := Nat.mul_le_mul_right _ hroom
        rw [Nat.add_mul] at this
        omega
      have hr := run_append_room_src (P := P) w t tx ty e i ht hi g off n cap x m news hs hroom (fun j hj => by simp [World.cell?, hg, hbd j hj]) (fun j hj => by simp [World.frozen?, hg])
      obtain ⟨cur', a1, a2, a3, a4⟩ := setCells_heap news g (off + n * i.size) w cur e hg
      obtain ⟨b1, b2, b3, b4⟩ := setCells_meta news g (off + n * i.size) w
      refine ⟨_, _, hr, ⟨hlen, .inr ⟨g, off, cap, cur', rfl, hBg, a1, hroom, h2, by omega, fun j hj => ?_⟩⟩, ⟨b1, b2, b3, by omega, fun k _ hk => setCells_other _ _ _ _ _ (fun e => hk (by simp [Value.ownBlock, e]))⟩, .inl rfl⟩
      by_cases hjo : j < n * i.size
      · rw [a4 _ (.inl (by omega)), h4 j hjo, List.getElem?_append_left (by rw [h.1]; exact hjo)]
      · have hjn : j - n * i.size < news.length := by rw [hs.newsLen]; rw [Nat.add_mul] at hj; omega
        rw [List.getElem?_append_right (by rw [h.1]; omega), h.1, ← a3 (j - n * i.size) hjn (hbd _ hjn)]
        congr 1
        omega
    · have hold : (Builtin.firstCells i.size n (.slice (some ⟨g, off, none⟩) n cap)).run P w.drew = .ok xs.toArray w.drew :=
        run_firstCells_some w.drew i.size n ⟨g, off, none⟩ n cap xs h.1 (fun j u hj => by
          have hjl : j < n * i.size := by rw [← h.1]; exact (List.getElem?_eq_some_iff.1 hj).1
          rw [addr_add]
          show w.cell? _ = _
          rw [← hj, ← h4 j hjl]
          simp [World.cell?, hg])
      have hr := run_append_grow_src (P := P) w t tx ty e i z ht hi hz (some ⟨g, off, none⟩) n cap xs hold x m news hs (by omega) hsmall (growslice_fits (by omega) hbytes)
      exact ⟨_, _, hr, grown cap (by omega), ⟨rfl, rfl, rfl, by simp, fun k hk _ => Below.heap_alloc w.drew _ k hk⟩, .inr rfl⟩
theorem wp_append_offS {P : Program} {w : World} {o : Oper} {a : Act} {K : Act → World → Prop} {Q : Exit → Act → World → Prop} (s x : Operand) (t tx : TypeId)
    (ho : o.op = .call { callee := .builtin .append, args := #[s, x], argTypes := #[t, tx] })
    (B : Nat) (e : TypeId) (i : TypeInfo) (z : Value) (size bytes : Nat) (ht : P.underlying t = some (.slice e)) (hi : P.info? e = some i) (hz : i.zero = some z)
    (hsize : i.size = size) (hby : i.bytes = bytes) (hzs : z.cells.size = size)
    (v : Value) (n : Nat) (xs : List Value) (hs : a.eval s = v) (hown : OffRow w B e size v n xs) (xv : Value) (hx : a.eval x = xv) (m : Nat) (news : List Value) (hsrc : Src P size tx xv m news w)
    (h63 : n + m ≤ maxLen) (hbytes : (n + m) * bytes ≤ 140737488355328) (hB : B ≤ w.heap.size)
    (h : ∀ v' w', OffRow w' B e size v' (n + m) (xs ++ news) → w.grownBy w' v.ownBlock → (v'.ownBlock = v.ownBlock ∨ v'.ownBlock = some w.heap.size) → K (a.put o.dst v') w') : o.wp P a w K Q := by
  obtain ⟨v', w', hr, h2, h3, h4⟩ := run_append_offS (P := P) t tx o.type e i z size bytes ht hi hz hsize hby hzs hown xv m news hsrc h63 hbytes hB
  unfold Oper.wp execOp
  simp only [ho, resolve, invoke, builtin, Sem.run_bind, Sem.run_pure, Result.andThen_ok, List.map_toArray, List.map_cons, List.map_nil, hs, hx, hr]
  exact h v' w' h2 h3 h4
/-- At a plain region's list. -/
theorem wpList_append_offS {P : Program} {w : World} {ops : Array Oper} {rest : List Oper} {o : Oper} {a : Act} {Q : Exit → Act → World → Prop} (hgd : o.guard = none) (s x : Operand) (t tx : TypeId)
    (ho : o.op = .call { callee := .builtin .append, args := #[s, x], argTypes := #[t, tx] })
    (B : Nat) (e : TypeId) (i : TypeInfo) (z : Value) (size bytes : Nat) (ht : P.underlying t = some (.slice e)) (hi : P.info? e = some i) (hz : i.zero = some z)
    (hsize : i.size = size) (hby : i.bytes = bytes) (hzs : z.cells.size = size)
    (v : Value) (n : Nat) (xs : List Value) (hs : a.eval s = v) (hown : OffRow w B e size v n xs) (xv : Value) (hx : a.eval x = xv) (m : Nat) (news : List Value) (hsrc : Src P size tx xv m news w)
    (h63 : n + m ≤ maxLen) (hbytes : (n + m) * bytes ≤ 140737488355328) (hB : B ≤ w.heap.size)
    (h : ∀ v' w', OffRow w' B e size v' (n + m) (xs ++ news) → w.grownBy w' v.ownBlock → (v'.ownBlock = v.ownBlock ∨ v'.ownBlock = some w.heap.size) → wpList P ops Q rest (a.put o.dst v') w') : wpList P ops Q (o :: rest) a w :=
  wpList_plain hgd fun _ hK => wp_append_offS s x t tx ho B e i z size bytes ht hi hz hsize hby hzs v n xs hs hown xv hx m news hsrc h63 hbytes hB fun v' w' h2 h3 h4 => hK _ _ (h v' w' h2 h3 h4)


theorem infoByte : (Tryz.prog.info? 5).map (fun i => (i.zero, i.size, i.bytes)) = some (some (.int .u8 0), 1, 1) := by kernel_rfl
/-- A row of bytes of the call's own. -/
def OwnB (w : World) (B : Nat) (v : Value) (F : List UInt8) : Prop := OffRow w B 5 1 v F.length (F.map byteV)
/-- Such a row as a string. -/
theorem conv_own {w : World} {B : Nat} {v : Value} {F : List UInt8} (h : OwnB w B v F) (hF : 0 < F.length) : (convert 110 9 v).run Tryz.prog w = .ok (.string (bs F)) w := by
  obtain ⟨g, off, cap, cur, rfl, hB, hg, hc⟩ := OffRow.form h hF
  refine run_convert_bytes_back (P := Tryz.prog) _ 110 9 5 ⟨g, off, none⟩ cap F Tryz.underlying110 Tryz.underlying5 Tryz.underlying9 ?_
  intro j hj
  rw [addr_add, hc j (by omega), List.getElem?_map, List.getElem?_eq_getElem hj]
  rfl

/-- A log in memory: the disk that it writes to and all that is its own lies in the blocks O; its file, the frames that wait, and how many records wait, were written, are sure. -/
def Lg (O : Nat → Prop) (w : World) (lb d : Nat) (s : DS) (file : Int) (F : List UInt8) (wt wr su : Nat) : Prop :=
  ∃ S fv, Disk S w d s ∧ (∀ k, S k → O k) ∧ O lb ∧ ¬ S lb ∧ OwnB w 0 fv F ∧ (∀ g, fv.ownBlock = some g → O g ∧ ¬ S g) ∧
    w.heap[lb]? = some (.cells #[.pointer (some ⟨d, 0, none⟩), .int .i64 file, fv, .int .i64 (wt : Int), .int .i64 (wr : Int), .int .i64 (su : Int)] 177 (0, 0))
namespace Lg
variable {O T : Nat → Prop} {w w' : World} {lb d wt wr su : Nat} {s : DS} {file : Int} {F : List UInt8}
theorem lt (h : Lg O w lb d s file F wt wr su) : lb < w.heap.size ∧ d < w.heap.size := by
  obtain ⟨S, fv, h1, h2, h3, h4, h5, h6, h7⟩ := h
  exact ⟨heap_lt h7, h1.lt.1⟩
theorem only (h : Lg O w lb d s file F wt wr su) (k : Only T w w') (hT : ∀ j, j < w.heap.size → O j → ¬ T j) : Lg O w' lb d s file F wt wr su := by
  obtain ⟨S, fv, h1, h2, h3, h4, h5, h6, h7⟩ := h
  exact ⟨S, fv, h1.only k (fun j hj hs => hT j hj (h2 j hs)), h2, h3, h4, OffRow.kept h5 (fun j hj => k.block j (OffRow.lt h5 j hj).2 (hT j (OffRow.lt h5 j hj).2 (h6 j hj).1)), h6, (k.block lb (heap_lt h7) (hT lb (heap_lt h7) h3)).trans h7⟩
theorem below (h : Lg O w lb d s file F wt wr su) (k : Below w.heap.size w w') : Lg O w' lb d s file F wt wr su :=
  h.only (T := fun _ => False) ⟨k.os, k.tape, k.output, k.size, fun j hj _ => k.block j hj⟩ (fun _ _ _ x => x)
theorem mono {O' : Nat → Prop} (h : Lg O w lb d s file F wt wr su) (hO : ∀ k, k < w.heap.size → O k → O' k) : Lg O' w lb d s file F wt wr su := by
  obtain ⟨S, fv, h1, h2, h3, h4, h5, h6, h7⟩ := h
  exact ⟨fun k => S k ∧ k < w.heap.size, fv, h1.tight, fun k hk => hO k hk.2 (h2 k hk.1), hO lb (heap_lt h7) h3, fun x => h4 x.1, h5, fun g hg => ⟨hO g (OffRow.lt h5 g hg).2 (h6 g hg).1, fun x => (h6 g hg).2 x.1⟩, h7⟩
theorem tight (h : Lg O w lb d s file F wt wr su) : Lg (fun k => O k ∧ k < w.heap.size) w lb d s file F wt wr su := h.mono fun k hk ho => ⟨ho, hk⟩
end Lg
end Go.Proofs.YtgljjdldhnajdaaGreat
/- The log's calls: what each answers and leaves. -/
set_option linter.unusedVariables false
set_option maxRecDepth 100000
set_option maxRecDepth 100000
namespace Go.Proofs.YtgljjdldhnajdaaGreat
open Go.RowKit

variable {O : Nat → Prop} {w : World} {lb d wt wr su : Nat} {s : DS} {file : Int} {F : List UInt8}

theorem log_File (h : Hid (Lg O w lb d s file F wt wr su)) : Calls Tryz.prog 100 #[.pointer (some ⟨lb, 0, none⟩)] w fun e w' => e = .returned (.int .i64 file) ∧ w = w' := by
  obtain ⟨S, fv, h1, h2, h3, h4, h5, h6, h7⟩ := h.out
  have c1 : w.cell? ⟨lb, 1, none⟩ = some (.int .i64 file) := by simp [World.cell?, h7]
  clear h1 h2 h3 h4 h5 h6 h7
  go_enter Tryz.func100, Tryz.ntmps100
  go_wp2_with fail
  go_ret
  exact ⟨rfl, rfl⟩
theorem log_Counts (h : Hid (Lg O w lb d s file F wt wr su)) : Calls Tryz.prog 98 #[.pointer (some ⟨lb, 0, none⟩)] w fun e w' => e = .returned (.tuple #[.int .i64 (wt : Int), .int .i64 (wr : Int), .int .i64 (su : Int)]) ∧ ∃ m, w' = w.drewN m := by
  obtain ⟨S, fv, h1, h2, h3, h4, h5, h6, h7⟩ := h.out
  have c3 : w.cell? ⟨lb, 3, none⟩ = some (.int .i64 (wt : Int)) := by simp [World.cell?, h7]
  have c4 : w.cell? ⟨lb, 4, none⟩ = some (.int .i64 (wr : Int)) := by simp [World.cell?, h7]
  have c5 : w.cell? ⟨lb, 5, none⟩ = some (.int .i64 (su : Int)) := by simp [World.cell?, h7]
  clear h1 h2 h3 h4 h5 h6 h7
  go_enter Tryz.func98, Tryz.ntmps98
  go_wp2_with fail
  go_quiet (fail)
  go_wp2
  go_ret3
  exact ⟨rfl, _, rfl⟩
theorem log_Clear (h : Hid (Lg O w lb d s file F wt wr su)) : Calls Tryz.prog 70 #[.pointer (some ⟨lb, 0, none⟩)] w fun e w' => e = .returned (.tuple #[]) ∧ Lg O w' lb d s file [] 0 wr su ∧ Only O w w' := by
  obtain ⟨S, fv, h1, h2, h3, h4, h5, h6, h7⟩ := h.out
  have c2 : w.cell? ⟨lb, 2, none⟩ = some fv := by simp [World.cell?, h7]
  have f2 : w.frozen? ⟨lb, 2, none⟩ = false := by simp [World.frozen?, h7]
  have g1 := heap_set (o := 2) h7 (.slice none 0 0)
  have c3 : (w.setCell ⟨lb, 2, none⟩ (.slice none 0 0)).cell? ⟨lb, 3, none⟩ = some (.int .i64 (wt : Int)) := by simp [World.cell?, g1]
  have f3 : (w.setCell ⟨lb, 2, none⟩ (.slice none 0 0)).frozen? ⟨lb, 3, none⟩ = false := by simp [World.frozen?, g1]
  have g2 := heap_set (o := 3) g1 (.int .i64 0)
  have K := Lib.hid (((Only.refl (fun k => k = lb) w).setCell (p := ⟨lb, 2, none⟩) (.inl rfl) (.slice none 0 0)).setCell (p := ⟨lb, 3, none⟩) (.inl rfl) (.int .i64 0))
  have R := Lib.hid (show Lg O ((w.setCell ⟨lb, 2, none⟩ (.slice none 0 0)).setCell ⟨lb, 3, none⟩ (.int .i64 0)) lb d s file [] 0 wr su from
    ⟨S, .slice none 0 0, h1.only K.out (fun j hj hs e => h4 (e ▸ hs)), h2, h3, h4, OffRow.nil _ _ _ _, fun g hg => by simp [Value.ownBlock] at hg, g2⟩)
  have K2 := Lib.hid (show Only O w _ from K.out.mono fun k hk e => e ▸ h3)
  obtain ⟨w2, hw2⟩ : ∃ w2, w2 = (w.setCell ⟨lb, 2, none⟩ (.slice none 0 0)).setCell ⟨lb, 3, none⟩ (.int .i64 0) := ⟨_, rfl⟩
  clear h1 h2 h3 h4 h5 h6 h7 g1 g2 K hw2
  go_enter Tryz.func70, Tryz.ntmps70
  go_wp2_with fail
  go_end0
  exact ⟨rfl, R.out, K2.out⟩

/-- A log's cells when its frames are another slice. -/
theorem Lg.framed {fv fv' : Value} {G : List UInt8} {w1 w2 : World} {S : Nat → Prop} {k : Nat} (h1 : Disk S w d s) (hS : ∀ k, S k → k < w.heap.size) (h2 : ∀ k, S k → O k) (h3 : O lb) (h4 : ¬ S lb) (h5 : OwnB w 0 fv F) (h6 : ∀ g, fv.ownBlock = some g → O g ∧ ¬ S g)
    (h7 : w.heap[lb]? = some (.cells #[.pointer (some ⟨d, 0, none⟩), .int .i64 file, fv, .int .i64 (wt : Int), .int .i64 (wr : Int), .int .i64 (su : Int)] 177 (0, 0)))
    (k1 : Below w.heap.size w w1) (hr : OwnB w2 0 fv' G) (hg : w1.grownBy w2 fv.ownBlock) (hat : fv'.ownBlock = fv.ownBlock ∨ fv'.ownBlock = some w1.heap.size) :
    Lg (New O w) ((w2.setCell ⟨lb, 2, none⟩ fv').setCell ⟨lb, 3, none⟩ (.int .i64 ((wt + 1 : Nat) : Int))) lb d s file G (wt + 1) wr su ∧ Only O w ((w2.setCell ⟨lb, 2, none⟩ fv').setCell ⟨lb, 3, none⟩ (.int .i64 ((wt + 1 : Nat) : Int))) ∧ w2.heap[lb]? = w.heap[lb]? := by
  have k2 : Only O w w2 := (Only.of_below (S := O) k1 (fun k hk hB => absurd hk (by omega))).grown hg fun j hj => .inl (h6 j hj).1
  have hlb : w2.heap[lb]? = w.heap[lb]? := by
    have hne : fv.ownBlock ≠ some lb := fun e => by
      obtain ⟨cur, hc⟩ := OffRow.tag h5 e
      rw [h7] at hc
      injection hc with hc
      injection hc with _ hc
      revert hc
      decide
    rw [← k1.block lb (heap_lt h7)]
    exact hg.block lb (Nat.lt_of_lt_of_le (heap_lt h7) k1.size) (fun e => hne e.symm)
  have g0 := hlb.trans h7
  have g1 := heap_set (o := 2) g0 fv'
  have g2 := heap_set (o := 3) g1 (.int .i64 ((wt + 1 : Nat) : Int))
  have hK : Only O w ((w2.setCell ⟨lb, 2, none⟩ fv').setCell ⟨lb, 3, none⟩ (.int .i64 ((wt + 1 : Nat) : Int))) := (k2.setCell (p := ⟨lb, 2, none⟩) (.inl h3) _).setCell (p := ⟨lb, 3, none⟩) (.inl h3) _
  -- the disk is kept: neither the log's block nor its row is of it
  have k3 : Only (fun k => ¬ S k) w ((w2.setCell ⟨lb, 2, none⟩ fv').setCell ⟨lb, 3, none⟩ (.int .i64 ((wt + 1 : Nat) : Int))) :=
    (((Only.of_below (S := fun k => ¬ S k) k1 (fun k hk hB => absurd hk (by omega))).grown hg fun j hj => .inl (h6 j hj).2).setCell (p := ⟨lb, 2, none⟩) (.inl h4) _).setCell (p := ⟨lb, 3, none⟩) (.inl h4) _
  have hgne : ∀ g, fv'.ownBlock = some g → g ≠ lb := fun g hg' e => by
    subst e
    obtain ⟨cur, hc⟩ := OffRow.tag hr hg'
    rw [g0] at hc
    injection hc with hc
    injection hc with _ hc
    revert hc
    decide
  refine ⟨⟨S, fv', h1.only k3 (fun j _ hs x => x hs), fun k hk => .inl (h2 k hk), .inl h3, h4, ?_, ?_, g2⟩, hK, hlb⟩
  · exact OffRow.kept hr fun j hj => (heap_set_other (hgne j hj) _).trans (heap_set_other (hgne j hj) _)
  · intro g hg'
    rcases hat with e | e
    · rw [e] at hg'; exact ⟨.inl (h6 g hg').1, (h6 g hg').2⟩
    · rw [e] at hg'
      injection hg' with hg'
      subst hg'
      exact ⟨.inr k1.size, fun x => by have := hS _ x; have := k1.size; omega⟩

/-- What Add leaves. -/
def AddPost (O : Nat → Prop) (w : World) (lb d : Nat) (s : DS) (file : Int) (F t : List UInt8) (wt wr su : Nat) (e : Ending) (w' : World) : Prop :=
  e = .returned (.int .i64 0) ∧ Lg (New O w) w' lb d s file (F ++ frameL t) (wt + 1) wr su ∧ Only O w w'
set_option maxHeartbeats 1000000 in
theorem log_Add {t : List UInt8} (h : Hid (Lg O w lb d s file F wt wr su)) (ht : t.length ≤ 1048576) (hF : F.length ≤ 1000000000) (hwt : wt ≤ 1000000000) : Calls Tryz.prog 69 #[.pointer (some ⟨lb, 0, none⟩), .string (bs t)] w fun e w' => AddPost O w lb d s file F t wt wr su e w' := by
  obtain ⟨S, fv, h1, h2, h3, h4, h5, h6, h7⟩ := h.out.tight
  have HO : ∀ k, O k ∧ k < w.heap.size → O k := fun _ x => x.1
  obtain ⟨q, hq⟩ : ∃ q, q = t.length := ⟨_, rfl⟩
  have hqz : (bs t).size = q := by rw [bs_size, hq]
  have hq2 : (q : Int) ≤ 1048576 := by omega
  have HA := Lib.hid (show ∀ (w1 w2 : World) fv', Below w.heap.size w w1 → OwnB w2 0 fv' (F ++ frameL t) → w1.grownBy w2 fv.ownBlock → (fv'.ownBlock = fv.ownBlock ∨ fv'.ownBlock = some w1.heap.size) → _ from
    fun w1 w2 fv' => Lg.framed (O := O) (lb := lb) (file := file) (wt := wt) (wr := wr) (su := su) (F := F) (G := F ++ frameL t) (k := 0) h1 (fun k hk => (h2 k hk).2) (fun k hk => (h2 k hk).1) h3.1 h4 h5 (fun g hg => ⟨(h6 g hg).1.1, (h6 g hg).2⟩) h7)
  have H5 := Lib.hid h5
  have H7 := Lib.hid h7
  have n2 : ∀ n : Seen w, n.val.cell? ⟨lb, 2, none⟩ = some fv := fun n => by rw [n.below.cell (p := ⟨lb, 2, none⟩) (heap_lt H7.out)]; simp [World.cell?, H7.out]
  have HFR := fun n : Seen w => Lib.hid (show Calls Tryz.prog 103 #[.string (bs t)] n.val fun e w' => e = .returned (.string (bs (frameL t))) ∧ ∃ m : Seen w, w' = m.val from (wal_Frame t n.val (by omega)).mono fun e w' ⟨h1, h2⟩ => ⟨h1, ⟨⟨w', n.below.trans (h2.mono n.below.size)⟩, rfl⟩⟩)
  obtain ⟨i0, hi, hz0, hz1, hz2⟩ := info_parts infoByte
  have HI := Lib.hid (And.intro hi (And.intro hz0 (And.intro hz1 hz2)))
  clear h1 h2 h3 h4 h5 h6 h7 hi hz0 hz1 hz2 hq
  go_enter Tryz.func69, Tryz.ntmps69
  go_wp2_with fail
  refine wp_region_first_tail 7 (.pointer (some ⟨lb, 0, none⟩)) (by kernel_rfl) (by kernel_rfl) (.inl ⟨rfl, fun w => rfl⟩) (fun _ _ _ h => h) ?_
  simp only [List.take_succ_cons, List.take_zero, List.drop_succ_cons, List.drop_zero, Nat.reduceSub]
  go_frame
  repeat go_big_quiet_step (first | (go_at_call 103; with_reducible exact (HFR _).out))
  refine wpQuiet_nil ?_
  rintro _ ⟨m1, rfl⟩
  have K1 := Lib.hid m1.below
  have O1 := Lib.hid (show OffRow m1.val 0 5 1 fv F.length (F.map byteV) from OffRow.kept H5.out fun j hj => m1.below.block j (OffRow.lt H5.out j hj).2)
  generalize m1.val = w1 at *
  clear n2 HFR
  obtain ⟨p, hp⟩ : ∃ p, p = (frameL t).length := ⟨_, rfl⟩
  have hp2 : p ≤ 2000000 := by have := frameL_le (r := t) (by omega); omega
  have HP := Lib.hid hp
  clear hp
  obtain ⟨hi, hz0, hz1, hz2⟩ := HI.out
  go_wp2_with (at_builtin; refine wpList_append_offS rfl (.tmp 14) (.tmp 16) 110 9 rfl 0 5 i0 _ 1 1 Tryz.underlying110 hi hz0 hz1 hz2 rfl fv F.length (F.map byteV) rfl O1.out (.string (bs (frameL t))) rfl (bs (frameL t)).size _ (Src.ofString _ Tryz.underlying9 (bs (frameL t))) ?c3 ?c4 (Nat.zero_le _) ?_)
  case c3 => rw [bs_size, ← HP.out]; unfold maxLen; omega
  case c4 => rw [bs_size, ← HP.out]; omega
  intro v7 w7 hr7 hg7 hat7
  obtain ⟨a7, cap7, hv7⟩ := OffRow.slice hr7
  have O7 : OwnB w7 0 v7 (F ++ frameL t) := by
    unfold OwnB
    rw [List.length_append, List.map_append, ← bs_size (frameL t)]
    exact hr7
  obtain ⟨R1, R2, R3⟩ := HA.out w1 w7 v7 K1.out O7 hg7 hat7
  have g0 := R3.trans H7.out
  have c2 : w7.cell? ⟨lb, 2, none⟩ = some fv := by simp [World.cell?, g0]
  have f2 : w7.frozen? ⟨lb, 2, none⟩ = false := by simp [World.frozen?, g0]
  have g1 := heap_set (o := 2) g0 v7
  have c3 : (w7.setCell ⟨lb, 2, none⟩ v7).cell? ⟨lb, 3, none⟩ = some (.int .i64 (wt : Int)) := by simp [World.cell?, g1]
  have f3 : (w7.setCell ⟨lb, 2, none⟩ v7).frozen? ⟨lb, 3, none⟩ = false := by simp [World.frozen?, g1]
  have R1 := Lib.hid R1
  have R2 := Lib.hid R2
  subst hv7
  clear hr7 hg7 hat7 hi hz0 hz1 hz2 O7 R3 g0 g1 HA
  go_wp2_with fail
  go_ret
  exact ⟨rfl, R1.out, R2.out⟩
end Go.Proofs.YtgljjdldhnajdaaGreat
/- The log's calls that change the disk; a log begun; what is read of a file. -/
set_option linter.unusedVariables false
set_option maxRecDepth 100000
set_option maxRecDepth 100000
namespace Go.Proofs.YtgljjdldhnajdaaGreat
open Go.RowKit

variable {O : Nat → Prop} {w : World} {lb d wt wr su : Nat} {s : DS} {file : Int} {F : List UInt8}

theorem log_Add_long {t : List UInt8} (h : Hid (Lg O w lb d s file F wt wr su)) (ht : 1048576 < t.length) (hm : t.length ≤ 9223372036854775807) : Calls Tryz.prog 69 #[.pointer (some ⟨lb, 0, none⟩), .string (bs t)] w fun e w' => e = .returned (.int .i64 6) ∧ w = w' := by
  obtain ⟨q, hq⟩ : ∃ q, q = t.length := ⟨_, rfl⟩
  have hqz : (bs t).size = q := by rw [bs_size, hq]
  have hq2 : 1048576 < (q : Int) := by omega
  have hq3 : (q : Int) ≤ 9223372036854775807 := by omega
  clear hq ht hm
  go_enter Tryz.func69, Tryz.ntmps69
  go_wp2_with fail
  go_ret
  exact ⟨rfl, rfl⟩
theorem log_Write_none (h : Hid (Lg O w lb d s file F 0 wr su)) : Calls Tryz.prog 97 #[.pointer (some ⟨lb, 0, none⟩)] w fun e w' => e = .returned (.int .i64 0) ∧ w = w' := by
  obtain ⟨S, fv, h1, h2, h3, h4, h5, h6, h7⟩ := h.out
  have c3 : w.cell? ⟨lb, 3, none⟩ = some (.int .i64 0) := by simp [World.cell?, h7]
  clear h1 h2 h3 h4 h5 h6 h7
  go_enter Tryz.func97, Tryz.ntmps97
  go_wp2_with fail
  go_ret
  exact ⟨rfl, rfl⟩
/-- Behind a call of its disk a log is as it was. -/
theorem Lg.did {w1 w2 : World} {s2 : DS} {S : Nat → Prop} {fv : Value} (h2 : ∀ k, S k → O k) (h3 : O lb) (h4 : ¬ S lb) (h5 : OwnB w 0 fv F) (h6 : ∀ g, fv.ownBlock = some g → O g ∧ ¬ S g)
    (h7 : w.heap[lb]? = some (.cells #[.pointer (some ⟨d, 0, none⟩), .int .i64 file, fv, .int .i64 (wt : Int), .int .i64 (wr : Int), .int .i64 (su : Int)] 177 (0, 0)))
    (k1 : Below w.heap.size w w1) (hd : Disk (New S w1) w2 d s2) (ho : Only S w1 w2) : Lg (New O w) w2 lb d s2 file F wt wr su ∧ Only O w w2 := by
  have k2 : Only S w w2 := (Only.of_below (S := S) k1 (fun k hk hB => absurd hk (by omega))).andThen ho fun k _ hk => hk
  refine ⟨⟨New S w1, fv, hd, fun k hk => ?_, .inl h3, fun x => ?_, OffRow.kept h5 (fun j hj => k2.block j (OffRow.lt h5 j hj).2 (h6 j hj).2), fun g hg => ⟨.inl (h6 g hg).1, fun x => ?_⟩, (k2.block lb (heap_lt h7) h4).trans h7⟩, k2.mono fun k _ hk => h2 k hk⟩
  · rcases hk with hk | hk
    · exact .inl (h2 k hk)
    · exact .inr (Nat.le_trans k1.size hk)
  · rcases x with x | x
    · exact h4 x
    · have := heap_lt h7; have := k1.size; omega
  · rcases x with x | x
    · exact (h6 g hg).2 x
    · have := (OffRow.lt h5 g hg).2; have := k1.size; omega

/-- What Write leaves. -/
def WritePost (O : Nat → Prop) (w : World) (lb d : Nat) (s2 : DS) (z : Int) (file : Int) (F : List UInt8) (wt wr su : Nat) (e : Ending) (w' : World) : Prop :=
  e = .returned (.int .i64 z) ∧ (z ≠ 0 → Lg (New O w) w' lb d s2 file F wt wr su) ∧ (z = 0 → Lg (New O w) w' lb d s2 file [] 0 (wr + wt) su) ∧ Only O w w'
set_option maxHeartbeats 2000000 in
theorem log_Write (h : Hid (Lg O w lb d s file F wt wr su)) (hw : (Lit.int .i64 file).wf = true) (hst : s.steps < 4611686018427387904) (hwt : 0 < wt ∧ wt ≤ 1000000000) (hwr : wr ≤ 1000000000) (hF : 0 < F.length ∧ F.length ≤ 1000000000) {s2 : DS} {z : Int} (hz : Hid (s.add file F = (s2, z))) :
    Calls Tryz.prog 97 #[.pointer (some ⟨lb, 0, none⟩)] w fun e w' => WritePost O w lb d s2 z file F wt wr su e w' := by
  obtain ⟨S, fv, h1, h2, h3, h4, h5, h6, h7⟩ := h.out
  have hlt := heap_lt h7
  obtain ⟨af, cf, hfv⟩ := OffRow.slice h5
  subst hfv
  have HDID := Lib.hid (show ∀ (w1 w2 : World) (s2 : DS), Below w.heap.size w w1 → Disk (New S w1) w2 d s2 → Only S w1 w2 → Lg (New O w) w2 lb d s2 file F wt wr su ∧ Only O w w2 from fun w1 w2 s2 => Lg.did h2 h3 h4 h5 h6 h7)
  have n0 : ∀ n : Seen w, n.val.cell? ⟨lb, 0, none⟩ = some (.pointer (some ⟨d, 0, none⟩)) := fun n => by rw [n.below.cell (p := ⟨lb, 0, none⟩) hlt]; simp [World.cell?, h7]
  have n1 : ∀ n : Seen w, n.val.cell? ⟨lb, 1, none⟩ = some (.int .i64 file) := fun n => by rw [n.below.cell (p := ⟨lb, 1, none⟩) hlt]; simp [World.cell?, h7]
  have n2 : ∀ n : Seen w, n.val.cell? ⟨lb, 2, none⟩ = some (.slice af F.length cf) := fun n => by rw [n.below.cell (p := ⟨lb, 2, none⟩) hlt]; simp [World.cell?, h7]
  have n3 : ∀ n : Seen w, (convert 110 9 (.slice af F.length cf)).run Tryz.prog n.val = .ok (.string (bs F)) n.val := fun n => conv_own (B := 0) (v := .slice af F.length cf) (OffRow.kept h5 fun j hj => n.below.block j (OffRow.lt h5 j hj).2) hF.1
  have c3 : w.cell? ⟨lb, 3, none⟩ = some (.int .i64 (wt : Int)) := by simp [World.cell?, h7]
  have hwt0 : ((wt : Int) == 0) = false := beq_eq_false_iff_ne.2 (by omega)
  have H1 := Lib.hid h1
  clear h1 h2 h3 h4 h5 h6 h7
  go_enter Tryz.func97, Tryz.ntmps97
  go_wp2_with fail
  refine wp_region_seen_tail 13 (by kernel_rfl) (by kernel_rfl) ?_
  simp only [List.take_succ_cons, List.take_zero, List.drop_succ_cons, List.drop_zero]
  repeat go_big_quiet_step (fail)
  refine wpQuiet_nil ?_
  rintro _ ⟨m1, rfl⟩
  have K1 := Lib.hid m1.below
  have D1 := Lib.hid (H1.out.below K1.out)
  generalize m1.val = w1 at *
  clear n0 n1 n2 n3 c3 H1
  go_wp2_with fail
  refine (disk_Add D1.out file F hw hst (by omega)).mono ?_
  rintro e w2 ⟨rfl, hd2, ho2⟩
  rw [hz.out] at hd2 ⊢
  obtain ⟨l2, o2⟩ := HDID.out w1 w2 s2 K1.out hd2 ho2
  have L2 := Lib.hid l2
  have O2 := Lib.hid o2
  clear hd2 ho2 l2 o2 HDID D1
  simp only
  by_cases hz0 : z = 0
  · subst hz0
    obtain ⟨S', fv', g1, g2, g3, g4, g5, g6, g7⟩ := L2.out
    have p3 : ∀ n : Seen w2, n.val.cell? ⟨lb, 3, none⟩ = some (.int .i64 (wt : Int)) := fun n => by rw [n.below.cell (p := ⟨lb, 3, none⟩) (heap_lt g7)]; simp [World.cell?, g7]
    have p4 : ∀ n : Seen w2, n.val.cell? ⟨lb, 4, none⟩ = some (.int .i64 (wr : Int)) := fun n => by rw [n.below.cell (p := ⟨lb, 4, none⟩) (heap_lt g7)]; simp [World.cell?, g7]
    obtain ⟨wx, hwx⟩ : ∃ wx, wx = wr + wt := ⟨_, rfl⟩
    have HL3 := Lib.hid (show ∀ w3, Below w2.heap.size w2 w3 → Lg (New O w) (w3.setCell ⟨lb, 4, none⟩ (.int .i64 (wx : Int))) lb d s2 file F wt wx su ∧ Only (New O w) w2 (w3.setCell ⟨lb, 4, none⟩ (.int .i64 (wx : Int))) ∧ w3.cell? ⟨lb, 4, none⟩ = some (.int .i64 (wr : Int)) ∧ w3.frozen? ⟨lb, 4, none⟩ = false from fun w3 k => by
      have q7 := (k.block lb (heap_lt g7)).trans g7
      have o1 : Only (fun k => k = lb) w2 (w3.setCell ⟨lb, 4, none⟩ (.int .i64 (wx : Int))) := (Only.of_below (S := fun k => k = lb) k (fun k hk hB => absurd hk (by omega))).setCell (p := ⟨lb, 4, none⟩) (.inl rfl) _
      refine ⟨⟨S', fv', g1.only o1 (fun j _ hs e => g4 (e ▸ hs)), g2, g3, g4, OffRow.kept g5 (fun j hj => o1.block j (OffRow.lt g5 j hj).2 fun e => ?_), g6, heap_set q7 _⟩, o1.mono fun k hk e => e ▸ g3, by simp [World.cell?, q7], by simp [World.frozen?, q7]⟩
      subst e
      obtain ⟨cur, hc⟩ := OffRow.tag g5 hj
      rw [g7] at hc
      injection hc with hc
      injection hc with _ hc
      revert hc
      decide)
    clear g1 g2 g3 g4 g5 g6 g7 L2
    have hsum : ((wr : Int) + (wt : Int)) = (wx : Int) := by omega
    have hwx2 : wx ≤ 2000000000 := by omega
    have HWX := Lib.hid hwx
    clear hwx
    go_wp2_with fail
    refine wp_region_seen_tail 11 (by kernel_rfl) (by kernel_rfl) ?_
    simp only [List.take_succ_cons, List.take_zero, List.drop_succ_cons, List.drop_zero]
    repeat go_big_quiet_step (fail)
    refine wpQuiet_nil ?_
    rintro _ ⟨m3, rfl⟩
    obtain ⟨L3, O3, c4, f4⟩ := HL3.out m3.val m3.below
    generalize m3.val = w3 at *
    have L3 := Lib.hid L3
    have O4 := Lib.hid (O2.out.andThen O3 (S' := New O w) fun j hj x => by rcases x with x | x; (exact x); (exact absurd hj (by omega)))
    clear p3 p4 HL3 O3
    go_wp2_with fail
    refine (log_Clear L3).mono ?_
    rintro e w4 ⟨rfl, l4, o4⟩
    have L4 := Lib.hid l4
    have O5 := Lib.hid (O4.out.andThen o4 (S' := New O w) fun j hj x => by rcases x with x | x; (exact x); (exact absurd hj (by omega)))
    clear l4 o4
    go_wp2_with fail
    go_ret
    exact ⟨rfl, fun h => absurd rfl h, fun _ => by rw [← HWX.out]; exact L4.out, O5.out⟩
  · have hz1 : (z == 0) = false := beq_eq_false_iff_ne.2 hz0
    go_wp2_with fail
    go_ret
    exact ⟨rfl, fun _ => L2.out, fun h => absurd h hz0, O2.out⟩
end Go.Proofs.YtgljjdldhnajdaaGreat
