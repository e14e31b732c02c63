/- The disk as the document tells it, in plain words: files, blocks, changes, a loss of power. -/
set_option linter.unusedVariables false
set_option maxRecDepth 100000
namespace Go.Proofs.Ytkelcmncjhnbgaa

/-- A file: its number, tier, bytes; whether it is sure, and how many of its bytes are. -/
structure DF where
  n : Int
  t : Int
  data : List UInt8
  sure : Bool
  sb : Nat
/-- A disk: blocks in the tiers, files, root, changes done, changes till the power goes, whether it is gone. -/
structure DS where
  r0 : Nat
  r1 : Nat
  fs : List DF
  root : Int
  steps : Nat
  left : Int
  down : Bool

/-- Blocks of so many bytes. -/
def blk (n : Nat) : Nat := 1 + (n + 63) / 64
def usedL (t : Int) : List DF → Nat
  | [] => 0
  | f :: r => (if f.t = t then blk f.data.length else 0) + usedL t r
def findL (n : Int) : List DF → Option DF
  | [] => none
  | f :: r => if f.n = n then some f else findL n r
def updL (n : Int) (g : DF → DF) (l : List DF) : List DF := l.map fun f => if f.n = n then g f else f
def delL (n : Int) (l : List DF) : List DF := l.filter fun f => decide (f.n ≠ n)
def DS.room (s : DS) (t : Int) : Nat := if t = 0 then s.r0 else s.r1
def DS.used (s : DS) (t : Int) : Nat := usedL t s.fs

/-- What holds of every disk. -/
structure DS.Fit (s : DS) : Prop where
  r0 : s.r0 ≤ 1048576
  r1 : s.r1 ≤ 1048576
  u0 : usedL 0 s.fs ≤ s.r0
  u1 : usedL 1 s.fs ≤ s.r1
  nod : (s.fs.map (·.n)).Nodup
  file : ∀ f ∈ s.fs, (f.t = 0 ∨ f.t = 1) ∧ f.sb ≤ f.data.length ∧ (f.sure = false → f.sb = 0) ∧ 1 ≤ f.n ∧ f.n ≤ 9223372036854775807
  root : s.root = 0 ∨ ∃ f ∈ s.fs, f.n = s.root ∧ f.sure = true
  l0 : -1 ≤ s.left
  l1 : s.left ≤ 9223372036854775807

/-! ### lists of files -/
theorem usedL_append (t : Int) : ∀ (a b : List DF), usedL t (a ++ b) = usedL t a + usedL t b
  | [], b => by simp [usedL]
  | f :: r, b => by simp [usedL, usedL_append t r b]; omega
theorem usedL_perm (t : Int) {a b : List DF} (h : a.Perm b) : usedL t a = usedL t b := by
  induction h with
  | nil => rfl
  | cons x _ ih => simp [usedL, ih]
  | swap x y l => simp [usedL]; omega
  | trans _ _ h1 h2 => exact h1.trans h2
theorem blk_pos (n : Nat) : 1 ≤ blk n := by unfold blk; omega
theorem blk_zero : blk 0 = 1 := rfl
theorem blk_mono {a b : Nat} (h : a ≤ b) : blk a ≤ blk b := by unfold blk; omega
theorem blk_le (n : Nat) : n ≤ 64 * blk n := by unfold blk; omega
theorem length_le_used : ∀ (l : List DF), (∀ f ∈ l, f.t = 0 ∨ f.t = 1) → l.length ≤ usedL 0 l + usedL 1 l
  | [], _ => by simp
  | f :: r, h => by
    have ih := length_le_used r (fun x hx => h x (by simp [hx]))
    have hb := blk_pos f.data.length
    rcases h f (by simp) with e | e <;> simp [usedL, e] <;> omega
theorem findL_mem {n : Int} {f : DF} : ∀ {l : List DF}, findL n l = some f → f ∈ l ∧ f.n = n
  | [], h => by cases h
  | g :: r, h => by
    unfold findL at h
    split at h
    · cases h; exact ⟨by simp, by assumption⟩
    · obtain ⟨h1, h2⟩ := findL_mem h
      exact ⟨by simp [h1], h2⟩
theorem findL_none {n : Int} : ∀ {l : List DF}, findL n l = none → ∀ f ∈ l, f.n ≠ n
  | [], _, f, hf => by cases hf
  | g :: r, h, f, hf => by
    unfold findL at h
    split at h
    · cases h
    · rcases List.mem_cons.1 hf with rfl | hf
      · assumption
      · exact findL_none h f hf
theorem findL_of {n : Int} {f : DF} {l : List DF} (hn : (l.map (·.n)).Nodup) (hm : f ∈ l) (hf : f.n = n) : findL n l = some f := by
  cases h : findL n l with
  | none => exact absurd hf (findL_none h f hm)
  | some g =>
    obtain ⟨h1, h2⟩ := findL_mem h
    have : ∀ {l : List DF}, (l.map (·.n)).Nodup → f ∈ l → g ∈ l → f = g := by
      intro l
      induction l with
      | nil => intro _ h; cases h
      | cons a r ih =>
        intro hn ha hb
        simp only [List.map_cons, List.nodup_cons] at hn
        rcases List.mem_cons.1 ha with rfl | ha'
        · rcases List.mem_cons.1 hb with rfl | hb'
          · rfl
          · exact absurd (List.mem_map.2 ⟨g, hb', by rw [h2, hf]⟩) hn.1
        · rcases List.mem_cons.1 hb with rfl | hb'
          · exact absurd (List.mem_map.2 ⟨f, ha', by rw [h2, hf]⟩) hn.1
          · exact ih hn.2 ha' hb'
    rw [this hn hm h1]
theorem upd_map_n (n : Int) (g : DF → DF) (hg : ∀ f, (g f).n = f.n) (l : List DF) : (updL n g l).map (·.n) = l.map (·.n) := by
  unfold updL
  rw [List.map_map]
  apply List.map_congr_left
  intro f _
  simp only [Function.comp]
  split
  · exact hg f
  · rfl
theorem upd_none {n : Int} (g : DF → DF) {l : List DF} (h : ∀ f ∈ l, f.n ≠ n) : updL n g l = l := by
  unfold updL
  conv => rhs; rw [← List.map_id l]
  apply List.map_congr_left
  intro f hf
  rw [if_neg (h f hf)]
  rfl
theorem del_none {n : Int} {l : List DF} (h : ∀ f ∈ l, f.n ≠ n) : delL n l = l := List.filter_eq_self.2 fun f hf => by simpa using h f hf
/-- What a file that is changed does to the blocks taken. -/
theorem used_upd (t n : Int) (g : DF → DF) (hg : ∀ f, (g f).t = f.t) : ∀ {l : List DF} {f : DF}, (l.map (·.n)).Nodup → findL n l = some f →
    usedL t (updL n g l) + (if f.t = t then blk f.data.length else 0) = usedL t l + (if f.t = t then blk (g f).data.length else 0)
  | [], f, _, h => by cases h
  | a :: r, f, hn, h => by
    simp only [List.map_cons, List.nodup_cons] at hn
    unfold findL at h
    by_cases ha : a.n = n
    · rw [if_pos ha] at h
      cases h
      have hr : updL n g r = r := upd_none g fun x hx e => hn.1 (List.mem_map.2 ⟨x, hx, by rw [e, ha]⟩)
      have : updL n g (a :: r) = g a :: r := by
        show (if a.n = n then g a else a) :: updL n g r = _
        rw [if_pos ha, hr]
      rw [this]
      simp only [usedL, hg]
      omega
    · rw [if_neg ha] at h
      have ih := used_upd t n g hg hn.2 h
      have : updL n g (a :: r) = a :: updL n g r := by
        show (if a.n = n then g a else a) :: updL n g r = _
        rw [if_neg ha]
      rw [this]
      simp only [usedL]
      omega
theorem used_del (t n : Int) : ∀ {l : List DF} {f : DF}, (l.map (·.n)).Nodup → findL n l = some f → usedL t (delL n l) + (if f.t = t then blk f.data.length else 0) = usedL t l
  | [], f, _, h => by cases h
  | a :: r, f, hn, h => by
    simp only [List.map_cons, List.nodup_cons] at hn
    unfold findL at h
    by_cases ha : a.n = n
    · rw [if_pos ha] at h
      cases h
      have hr : delL n r = r := del_none fun x hx e => hn.1 (List.mem_map.2 ⟨x, hx, by rw [e, ha]⟩)
      have : delL n (a :: r) = r := by
        unfold delL at hr ⊢
        rw [List.filter_cons, if_neg (by simp [ha]), hr]
      rw [this]
      simp only [usedL]
      omega
    · rw [if_neg ha] at h
      have ih := used_del t n hn.2 h
      have : delL n (a :: r) = a :: delL n r := by
        unfold delL
        rw [List.filter_cons, if_pos (by simp [ha])]
      rw [this]
      simp only [usedL]
      omega
theorem upd_mem {n : Int} {g : DF → DF} {l : List DF} {x : DF} (h : x ∈ updL n g l) : (∃ f ∈ l, f.n = n ∧ x = g f) ∨ (x ∈ l ∧ x.n ≠ n) := by
  unfold updL at h
  obtain ⟨f, hf, rfl⟩ := List.mem_map.1 h
  by_cases e : f.n = n
  · rw [if_pos e]; exact .inl ⟨f, hf, e, rfl⟩
  · rw [if_neg e]; exact .inr ⟨hf, e⟩
theorem mem_upd {n : Int} {g : DF → DF} {l : List DF} {f : DF} (h : f ∈ l) : (if f.n = n then g f else f) ∈ updL n g l := List.mem_map.2 ⟨f, h, rfl⟩
theorem used_ge {t : Int} {l : List DF} {f : DF} (h : f ∈ l) (ht : f.t = t) : blk f.data.length ≤ usedL t l := by
  induction l with
  | nil => cases h
  | cons a r ih =>
    rcases List.mem_cons.1 h with rfl | h
    · simp [usedL, ht]
    · have := ih h; simp only [usedL]; omega

/-! ### what the calls do -/
/-- A change that isn't refused. -/
def DS.tick (s : DS) : DS := { s with left := if s.left < 0 then s.left else s.left - 1, steps := s.steps + 1 }
def DS.off (s : DS) : DS := { s with down := true }
/-- A file's answer to a call that asks for a file. -/
def DS.make (s : DS) (t n : Int) : DS × Int :=
  if s.down = true then (s, 8) else if ¬ (t = 0 ∨ t = 1) ∨ n < 1 then (s, 1) else if (findL n s.fs).isSome then (s, 10) else if s.room t ≤ s.used t then (s, 7)
  else if s.left = 0 then (s.off, 8) else ({ s.tick with fs := s.fs ++ [⟨n, t, [], false, 0⟩] }, 0)
def addF (b : List UInt8) (f : DF) : DF := { f with data := f.data ++ b }
def DS.add (s : DS) (n : Int) (b : List UInt8) : DS × Int :=
  if s.down = true then (s, 8) else match findL n s.fs with
  | none => (s, 9)
  | some f => if s.room f.t < s.used f.t + (blk (f.data.length + b.length) - blk f.data.length) then (s, 7)
    else if s.left = 0 then ({ s.off with fs := updL n (addF b) s.fs }, 8) else ({ s.tick with fs := updL n (addF b) s.fs }, 0)
def syncF (f : DF) : DF := { f with sure := true, sb := f.data.length }
def DS.sync (s : DS) (n : Int) : DS × Int :=
  if s.down = true then (s, 8) else match findL n s.fs with
  | none => (s, 9)
  | some _ => if s.left = 0 then (s.off, 8) else ({ s.tick with fs := updL n syncF s.fs }, 0)
def DS.drop (s : DS) (n : Int) : DS × Int :=
  if s.down = true then (s, 8) else match findL n s.fs with
  | none => (s, 9)
  | some _ => if n = s.root then (s, 11) else if s.left = 0 then (s.off, 8) else ({ s.tick with fs := delL n s.fs }, 0)
def DS.point (s : DS) (n : Int) : DS × Int :=
  if s.down = true then (s, 8) else match findL n s.fs with
  | none => (s, 9)
  | some f => if f.sure = false ∨ f.sb < f.data.length then (s, 11) else if s.left = 0 then (s.off, 8) else ({ s.tick with root := n }, 0)
def DS.arm (s : DS) (n : Int) : DS := { s with left := max n (-1) }
/-- What the first Keep says that names a file. -/
def keepOf (ks : List (Int × Int)) (n : Int) : Option Int := (ks.find? fun k => decide (k.1 = n)).map (·.2)
def most (ks : List (Int × Int)) (n : Int) : Int := (keepOf ks n).getD 0
def loseF (k : Int) (f : DF) : DF :=
  let m := f.sb + min k.toNat (f.data.length - f.sb)
  { f with data := f.data.take m, sure := true, sb := m }
def backF (ks : List (Int × Int)) (f : DF) : Option DF := if keepOf ks f.n = none ∧ f.sure = false then none else some (loseF (most ks f.n) f)
def DS.back (s : DS) (ks : List (Int × Int)) : DS := { s with fs := s.fs.filterMap (backF ks), left := -1, down := false }
def DS.size (s : DS) (n : Int) : Int × Int × Int :=
  if s.down = true then (0, 0, 8) else match findL n s.fs with
  | none => (0, 0, 9)
  | some f => (f.data.length, f.t, 0)
def DS.read (s : DS) (n at_ size : Int) : List UInt8 × Int :=
  if s.down = true then ([], 8) else match findL n s.fs with
  | none => ([], 9)
  | some f => if at_ < 0 ∨ size < 0 ∨ (f.data.length : Int) - at_ < size then ([], 1) else ((f.data.drop at_.toNat).take size.toNat, 0)
def DS.new (hot cold : Nat) : DS := ⟨hot, cold, [], 0, 0, -1, false⟩

end Go.Proofs.Ytkelcmncjhnbgaa
