/- Texts put together: BlockPlain, BlockOrder, BlockRow, BlockShared, BlockCheck -/
import Derived.Test.YteejldddgogbkaaGreatDoorTOp00
import Derived.RegionTactic
/- Entries in plain words: their bytes, and what is read of any bytes. -/
set_option linter.unusedVariables false
set_option maxRecDepth 100000
set_option maxRecDepth 100000
namespace Go.Proofs.YteejldddgogbkaaGreatDoor

structure Ent where
  key : List UInt8
  val : List UInt8
  gone : Bool
/-- How many bytes two texts begin with alike. -/
def sharedL : List UInt8 → List UInt8 → Nat
  | x :: a, y :: b => if x = y then sharedL a b + 1 else 0
  | _, _ => 0
theorem shared_le : ∀ a b : List UInt8, sharedL a b ≤ a.length ∧ sharedL a b ≤ b.length
  | [], b => by simp [sharedL]
  | x :: a, [] => by simp [sharedL]
  | x :: a, y :: b => by
    have := shared_le a b
    simp only [sharedL]
    split
    · simp; omega
    · simp
theorem shared_take : ∀ a b : List UInt8, a.take (sharedL a b) = b.take (sharedL a b)
  | [], b => by simp [sharedL]
  | x :: a, [] => by simp [sharedL]
  | x :: a, y :: b => by
    simp only [sharedL]
    split
    · rename_i h
      simp [h, shared_take a b]
    · simp
/-- The key is made again of the one ahead and the rest. -/
theorem shared_back (a b : List UInt8) : a.take (sharedL a b) ++ b.drop (sharedL a b) = b := by rw [shared_take, List.take_append_drop]

/-- One entry's bytes behind a key. -/
def entB (last : List UInt8) (x : Ent) : List UInt8 :=
  whole (sharedL last x.key) ++ text (x.key.drop (sharedL last x.key)) ++ (if x.gone then whole 0 else whole (x.val.length + 1 : Nat) ++ x.val)
def entsB : List UInt8 → List Ent → List UInt8
  | _, [] => []
  | last, x :: T => entB last x ++ entsB x.key T
/-- The list's bytes, without the sum. -/
def listB (T : List Ent) : List UInt8 := whole T.length ++ entsB [] T

/-- The order of texts. -/
def ltB : List UInt8 → List UInt8 → Bool
  | [], [] => false
  | [], _ :: _ => true
  | _ :: _, [] => false
  | x :: a, y :: b => if x = y then ltB a b else decide (x.toNat < y.toNat)

/-- An entry read: the error, the entry, how many bytes. ('first': there is none ahead.) -/
def rdE (first : Bool) (last l : List UInt8) : Int × Ent × Nat :=
  let l1 := l.drop (ck l)
  let k := (cn l).toNat
  let key := last.take k ++ ts l1
  let l2 := l1.drop (tk l1)
  let v := (cn l2).toNat
  let l3 := l2.drop (ck l2)
  let bad (e : Int) : Int × Ent × Nat := (e, ⟨[], [], false⟩, 0)
  if ce l ≠ 0 then bad (ce l)
  else if te l1 ≠ 0 then bad (te l1)
  else if last.length < k ∨ sharedL last key ≠ k then bad 3
  else if 65536 < k + (ts l1).length then bad 6
  else if ce l2 ≠ 0 then bad (ce l2)
  else if 65537 < v then bad 6
  else if l3.length + 1 < v then bad 2
  else if first = false ∧ ltB last key = false then bad 3
  else (0, ⟨key, l3.take (v - 1), v == 0⟩, ck l + tk l1 + ck l2 + (v - 1))

theorem cn_of' {l : List UInt8} (h : ce l = 0) : re l = 0 ∧ cn l = rn l ∧ ck l = rk l ∧ 0 ≤ rn l := by
  rcases cd_cases l with ⟨_, _, _, h1, _, h2, h3, h4⟩ | ⟨h1, _⟩
  · exact ⟨h2, h3, h4, by omega⟩
  · omega
/-- A count, and what is behind it. -/
theorem cd_whole {n : Nat} (h : n ≤ 9223372036854775807) (t : List UInt8) : ce (whole (n : Int) ++ t) = 0 ∧ cn (whole (n : Int) ++ t) = n ∧ ck (whole (n : Int) ++ t) = (whole (n : Int)).length := by
  have r := rd_whole (n := (n : Int)) (by omega) (by omega) t
  simp only [ce, cn, ck, r.1, r.2.1, r.2.2]
  simp
  constructor <;> intro <;> omega
/-- A text, and what is behind it. -/
theorem td_text {s : List UInt8} (h : s.length ≤ 9223372036854775807) (t : List UInt8) : te (text s ++ t) = 0 ∧ ts (text s ++ t) = s ∧ tk (text s ++ t) = (text s).length := by
  have c := cd_whole (n := s.length) h (s ++ t)
  have e : text s ++ t = whole (s.length : Int) ++ (s ++ t) := by unfold text; rw [List.append_assoc]
  have hd : (text s ++ t).drop (whole (s.length : Int)).length = s ++ t := by rw [e, List.drop_left]
  rw [← e] at c
  have hws : ws (s ++ t) (s.length : Int) = s ∧ wk (s ++ t) (s.length : Int) = s.length ∧ we (s ++ t) (s.length : Int) = 0 := by
    unfold ws wk we
    rw [if_neg (by simp; omega), if_neg (by simp; omega), if_neg (by omega), if_neg (by simp; omega)]
    simp
  have hte : te (text s ++ t) = 0 := by unfold te; rw [if_neg (by omega), c.2.2, c.2.1, hd]; exact hws.2.2
  refine ⟨hte, by unfold ts; rw [if_neg (by omega), c.2.2, c.2.1, hd]; exact hws.1, ?_⟩
  unfold tk
  rw [if_neg (by omega), c.2.2, c.2.1, hd, hws.2.1, text, List.length_append]
/-- A text that is read, back. -/
theorem td_back {l : List UInt8} (h : te l = 0) : text (ts l) ++ l.drop (tk l) = l ∧ tk l = (text (ts l)).length := by
  rcases td_cases l with ⟨_, b1, b2, b3, b4, b5, b6⟩ | ⟨b1, _⟩
  · have hd := cn_of' b1
    obtain ⟨c1, c2⟩ := rd_back hd.1
    have hlen : (ts l).length = (cn l).toNat := by rw [b6, List.length_take, List.length_drop]; omega
    have hw : whole ((ts l).length : Int) = whole (rn l) := by rw [hlen, show (((cn l).toNat : Nat) : Int) = rn l by omega]
    have hk : tk l = (text (ts l)).length := by rw [text, List.length_append, hw, hlen, b5, hd.2.2.1, c2]
    refine ⟨?_, hk⟩
    rw [text, hw, List.append_assoc]
    have : ts l ++ l.drop (tk l) = l.drop (rk l) := by
      rw [b6, b5, ← List.drop_drop, hd.2.2.1]
      exact List.take_append_drop ..
    rw [this, c1]
  · omega

/-- An entry that may be packed behind such a key. -/
def okE (first : Bool) (last : List UInt8) (x : Ent) : Prop := x.key.length ≤ 65536 ∧ x.val.length ≤ 65536 ∧ (x.gone = true → x.val = []) ∧ (first = false → ltB last x.key = true)
def okEs : Bool → List UInt8 → List Ent → Prop
  | _, _, [] => True
  | first, last, x :: T => okE first last x ∧ okEs false x.key T

theorem rdE_entB {first : Bool} {last : List UInt8} {x : Ent} (h : okE first last x) (t : List UInt8) : rdE first last (entB last x ++ t) = (0, x, (entB last x).length) := by
  obtain ⟨h1, h2, h3, h4⟩ := h
  obtain ⟨k, hk⟩ : ∃ k, k = sharedL last x.key := ⟨_, rfl⟩
  obtain ⟨V, hV⟩ : ∃ V, V = (if x.gone then whole 0 else whole (x.val.length + 1 : Nat) ++ x.val) := ⟨_, rfl⟩
  have hkl := shared_le last x.key
  rw [← hk] at hkl
  have e0 : entB last x ++ t = whole (k : Int) ++ (text (x.key.drop k) ++ (V ++ t)) := by unfold entB; rw [← hk, ← hV]; simp [List.append_assoc]
  have c := cd_whole (n := k) (by omega) (text (x.key.drop k) ++ (V ++ t))
  have d := td_text (s := x.key.drop k) (by rw [List.length_drop]; omega) (V ++ t)
  have hkey : last.take k ++ x.key.drop k = x.key := by rw [hk]; exact shared_back _ _
  have hlen : (entB last x).length = (whole (k : Int)).length + (text (x.key.drop k)).length + V.length := by unfold entB; rw [← hk, ← hV]; simp; omega
  obtain ⟨v, hv, hce, hcn, hck, hgone, hv1, hVl⟩ : ∃ v : Nat, v ≤ 65537 ∧ ce (V ++ t) = 0 ∧ cn (V ++ t) = v ∧ (V ++ t).drop (ck (V ++ t)) = x.val ++ t ∧ x.gone = (v == 0) ∧ v - 1 = x.val.length ∧ V.length = ck (V ++ t) + (v - 1) := by
    cases hg : x.gone with
    | true =>
      have hx := h3 hg
      have hV' : V = whole ((0 : Nat) : Int) := by rw [hV, hg]; rfl
      have c := cd_whole (n := 0) (by omega) t
      rw [← hV'] at c
      exact ⟨0, by omega, c.1, c.2.1, by rw [c.2.2, List.drop_left, hx]; rfl, rfl, by rw [hx]; rfl, by rw [c.2.2]; rfl⟩
    | false =>
      have hV' : V = whole ((x.val.length + 1 : Nat) : Int) ++ x.val := by rw [hV, hg]; rfl
      have c := cd_whole (n := x.val.length + 1) (by omega) (x.val ++ t)
      rw [← List.append_assoc, ← hV'] at c
      refine ⟨x.val.length + 1, by omega, c.1, c.2.1, ?_, by simp, by omega, by rw [c.2.2, hV', List.length_append]; omega⟩
      rw [c.2.2, hV', List.append_assoc, List.drop_left]
  have hl1 : (entB last x ++ t).drop (ck (entB last x ++ t)) = text (x.key.drop k) ++ (V ++ t) := by rw [e0, c.2.2, List.drop_left]
  have hl2 : (text (x.key.drop k) ++ (V ++ t)).drop (tk (text (x.key.drop k) ++ (V ++ t))) = V ++ t := by rw [d.2.2, List.drop_left]
  have hcn0 : (cn (entB last x ++ t)).toNat = k := by rw [e0, c.2.1]; rfl
  have hce0 : ce (entB last x ++ t) = 0 := by rw [e0]; exact c.1
  have hck0 : ck (entB last x ++ t) = (whole (k : Int)).length := by rw [e0]; exact c.2.2
  have hcnv : (cn (V ++ t)).toNat = v := by rw [hcn]; rfl
  unfold rdE
  simp only [hl1, hl2, hcn0, hcnv, d.2.1, hkey, hck]
  rw [if_neg (by omega), if_neg (by omega), if_neg (by rw [← hk]; omega), if_neg (by rw [List.length_drop]; omega), if_neg (by omega), if_neg (by omega), if_neg (by rw [List.length_append]; omega), if_neg (by rintro ⟨a, b⟩; rw [h4 a] at b; cases b)]
  rw [hv1, List.take_left, hck0, d.2.2, hlen, hVl, ← hgone]
  refine congrArg (fun n => ((0 : Int), x, n)) ?_
  omega

/-- What is read as an entry is one that may be packed, and these are its bytes. -/
theorem rdE_back {first : Bool} {last l : List UInt8} {x : Ent} {n : Nat} (h : rdE first last l = (0, x, n)) : okE first last x ∧ entB last x ++ l.drop n = l ∧ n = (entB last x).length ∧ 0 < n := by
  unfold rdE at h
  obtain ⟨l1, hl1⟩ : ∃ l1, l1 = l.drop (ck l) := ⟨_, rfl⟩
  obtain ⟨l2, hl2⟩ : ∃ l2, l2 = l1.drop (tk l1) := ⟨_, rfl⟩
  obtain ⟨l3, hl3⟩ : ∃ l3, l3 = l2.drop (ck l2) := ⟨_, rfl⟩
  obtain ⟨k, hk⟩ : ∃ k, k = (cn l).toNat := ⟨_, rfl⟩
  obtain ⟨v, hv⟩ : ∃ v, v = (cn l2).toNat := ⟨_, rfl⟩
  simp only [← hl1] at h
  simp only [← hl2, ← hk] at h
  simp only [← hl3, ← hv] at h
  split at h
  · rename_i g; injection h with h; exact absurd h g
  rename_i g1
  split at h
  · rename_i g; injection h with h; exact absurd h g
  rename_i g2
  split at h
  · injection h with h; cases h
  rename_i g3
  split at h
  · injection h with h; cases h
  rename_i g4
  split at h
  · rename_i g; injection h with h; exact absurd h g
  rename_i g5
  split at h
  · injection h with h; cases h
  rename_i g6
  split at h
  · injection h with h; cases h
  rename_i g7
  split at h
  · injection h with h; cases h
  rename_i g8
  injection h with _ h
  injection h with hx hn
  have a := cn_of' (show ce l = 0 by omega)
  obtain ⟨a1, a2⟩ := rd_back a.1
  obtain ⟨b1, b2⟩ := td_back (show te l1 = 0 by omega)
  have c := cn_of' (show ce l2 = 0 by omega)
  obtain ⟨c1, c2⟩ := rd_back c.1
  have hw1 : whole (rn l) = whole ((k : Nat) : Int) := by rw [hk, ← a.2.1]; congr 1; omega
  have hw2 : whole (rn l2) = whole ((v : Nat) : Int) := by rw [hv, ← c.2.1]; congr 1; omega
  rw [← a.2.2.1, ← hl1, hw1] at a1
  rw [← c.2.2.1, ← hl3, hw2] at c1
  rw [← hl2] at b1
  rw [hw1, ← a.2.2.1] at a2
  rw [hw2, ← c.2.2.1] at c2
  have hsh : sharedL last (last.take k ++ ts l1) = k := Decidable.of_not_not fun e => g3 (.inr e)
  have hkl : k ≤ last.length := by omega
  have htk : (last.take k).length = k := by rw [List.length_take]; omega
  have hdrop : (last.take k ++ ts l1).drop k = ts l1 := by
    have := List.drop_left (l₁ := last.take k) (l₂ := ts l1)
    rw [htk] at this
    exact this
  have hwl := whole_len (n := (k : Int)) (by omega) (by have := cd_cases l; omega)
  have hV : (if x.gone then whole 0 else whole (x.val.length + 1 : Nat) ++ x.val) ++ l3.drop (v - 1) = l2 ∧ (if x.gone then whole 0 else whole (x.val.length + 1 : Nat) ++ x.val).length = ck l2 + (v - 1) := by
    rw [← hx]
    cases v with
    | zero =>
      simp only [Nat.zero_sub, List.drop_zero, BEq.rfl, if_true, Nat.add_zero]
      exact ⟨c1, c2.symm⟩
    | succ u =>
      have hb : (u + 1 == 0) = false := rfl
      have hul : (l3.take u).length = u := by rw [List.length_take]; omega
      simp only [hb, Nat.add_sub_cancel, hul]
      refine ⟨?_, ?_⟩
      · show (whole ((u + 1 : Nat) : Int) ++ l3.take u) ++ l3.drop u = l2
        rw [List.append_assoc, List.take_append_drop, c1]
      · show (whole ((u + 1 : Nat) : Int) ++ l3.take u).length = _
        rw [List.length_append, hul, ← c2]
  have hxk : x.key = last.take k ++ ts l1 := by rw [← hx]
  have hlenE : n = (entB last x).length := by
    unfold entB
    rw [hxk, hsh, hdrop, List.length_append, List.length_append, hV.2, ← hn, ← b2, ← a2]
    omega
  refine ⟨⟨?_, ?_, ?_, ?_⟩, ?_, hlenE, ?_⟩
  · rw [hxk, List.length_append, htk]; omega
  · rw [← hx]; simp only [List.length_take]; omega
  · rw [← hx]
    intro hg
    have : v = 0 := by simpa using hg
    simp [this]
  · intro hf
    rw [hxk]
    cases hb : ltB last (last.take k ++ ts l1) with
    | true => rfl
    | false => exact absurd ⟨hf, hb⟩ g8
  · have hd : l.drop n = l3.drop (v - 1) := by
      rw [← hn, hl3, hl2, hl1, List.drop_drop, List.drop_drop, List.drop_drop]
      congr 1
      omega
    rw [hd]
    unfold entB
    rw [hxk, hsh, hdrop, List.append_assoc, hV.1, List.append_assoc, b1, a1]
  · rw [← hn]; have := hwl.2; rw [← a2] at this; omega

/-- So many entries read: the error, the entries, how many bytes. -/
def rdEs : Nat → Bool → List UInt8 → List UInt8 → Int × List Ent × Nat
  | 0, _, _, _ => (0, [], 0)
  | n + 1, first, last, l =>
    let a := rdE first last l
    if a.1 ≠ 0 then (a.1, [], 0) else
      let b := rdEs n false a.2.1.key (l.drop a.2.2)
      if b.1 ≠ 0 then (b.1, [], 0) else (0, a.2.1 :: b.2.1, a.2.2 + b.2.2)
theorem rdEs_entsB : ∀ (T : List Ent) (first : Bool) (last t : List UInt8), okEs first last T → rdEs T.length first last (entsB last T ++ t) = (0, T, (entsB last T).length)
  | [], _, _, t, _ => rfl
  | x :: T, first, last, t, ⟨h1, h2⟩ => by
    have e : entsB last (x :: T) ++ t = entB last x ++ (entsB x.key T ++ t) := by simp [entsB]
    have r := rdE_entB h1 (entsB x.key T ++ t)
    have r2 := rdEs_entsB T false x.key t h2
    show rdEs (T.length + 1) first last _ = _
    rw [e]
    simp only [rdEs, r, List.drop_left, r2]
    simp [entsB]
theorem rdEs_back : ∀ (n : Nat) (first : Bool) (last l : List UInt8) (T : List Ent) (m : Nat), rdEs n first last l = (0, T, m) → T.length = n ∧ okEs first last T ∧ entsB last T ++ l.drop m = l ∧ m = (entsB last T).length
  | 0, first, last, l, T, m, h => by
    injection h with _ h
    injection h with h1 h2
    subst h1 h2
    exact ⟨rfl, trivial, rfl, rfl⟩
  | n + 1, first, last, l, T, m, h => by
    simp only [rdEs] at h
    split at h
    · rename_i g; injection h with h; exact absurd h g
    rename_i g1
    split at h
    · rename_i g; injection h with h; exact absurd h g
    rename_i g2
    injection h with _ h
    injection h with h1 h2
    subst h1 h2
    obtain ⟨x, k, hr⟩ : ∃ x k, rdE first last l = (0, x, k) := ⟨(rdE first last l).2.1, (rdE first last l).2.2, by rw [← show (rdE first last l).1 = 0 by omega]⟩
    simp only [hr] at g1 g2 ⊢
    obtain ⟨a1, a2, a3, _⟩ := rdE_back hr
    obtain ⟨b1, b2, b3, b4⟩ := rdEs_back n false x.key (l.drop k) _ _ (show rdEs n false x.key (l.drop k) = (0, (rdEs n false x.key (l.drop k)).2.1, (rdEs n false x.key (l.drop k)).2.2) by rw [← show (rdEs n false x.key (l.drop k)).1 = 0 by omega])
    refine ⟨by simp [b1], ⟨a1, b2⟩, ?_, ?_⟩
    · rw [← List.drop_drop]
      show entB last x ++ entsB x.key _ ++ _ = l
      rw [List.append_assoc, b3, a2]
    · show _ = (entB last x ++ entsB x.key _).length
      rw [List.length_append, ← a3, ← b4]
/-- What stands ahead of the sum, read: the error, the entries. -/
def opn (l : List UInt8) : Int × List Ent :=
  let b := rdEs (cn l).toNat true [] (l.drop (ck l))
  if ce l ≠ 0 then (ce l, []) else if b.1 ≠ 0 then (b.1, []) else if 65536 < b.2.1.length then (6, []) else if ck l + b.2.2 ≠ l.length then (5, []) else (0, b.2.1)
theorem opn_list {T : List Ent} (h : okEs true [] T) (hl : T.length ≤ 65536) : opn (listB T) = (0, T) := by
  have c := cd_whole (n := T.length) (by omega) (entsB [] T)
  have hd : (listB T).drop (ck (listB T)) = entsB [] T := by unfold listB; rw [c.2.2, List.drop_left]
  have r := rdEs_entsB T true [] [] h
  rw [List.append_nil] at r
  have hn : (cn (listB T)).toNat = T.length := by unfold listB; rw [c.2.1]; rfl
  unfold opn
  simp only [hd, hn, r]
  rw [if_neg (by unfold listB; rw [c.1]; decide), if_neg (by decide), if_neg (by omega), if_neg (by unfold listB; rw [c.2.2, List.length_append]; omega)]
theorem opn_back {l : List UInt8} {T : List Ent} (h : opn l = (0, T)) : listB T = l ∧ okEs true [] T ∧ T.length ≤ 65536 := by
  unfold opn at h
  obtain ⟨e, T', m, hr⟩ : ∃ e T' m, rdEs (cn l).toNat true [] (l.drop (ck l)) = (e, T', m) := ⟨_, _, _, rfl⟩
  simp only [hr] at h
  split at h
  · rename_i g; injection h with h; exact absurd h g
  rename_i g1
  split at h
  · rename_i g; injection h with h; exact absurd h g
  rename_i g2
  split at h
  · injection h with h; cases h
  rename_i g3
  split at h
  · injection h with h; cases h
  rename_i g4
  injection h with _ h
  subst h
  have a := cn_of' (show ce l = 0 by omega)
  obtain ⟨a1, a2⟩ := rd_back a.1
  obtain ⟨b1, b2, b3, b4⟩ := rdEs_back _ _ _ _ _ _ (show rdEs (cn l).toNat true [] (l.drop (ck l)) = (0, T', m) by rw [hr]; congr 1; omega)
  have hm : (l.drop (ck l)).drop m = [] := List.drop_eq_nil_of_le (by rw [List.length_drop]; omega)
  rw [hm, List.append_nil] at b3
  refine ⟨?_, b2, by omega⟩
  unfold listB
  rw [b3, b1, show (((cn l).toNat : Nat) : Int) = rn l by omega, a.2.2.1]
  exact a1
end Go.Proofs.YteejldddgogbkaaGreatDoor
/- The order of texts; entries put into it. -/
set_option linter.unusedVariables false
set_option maxRecDepth 100000
set_option maxRecDepth 100000
namespace Go.Proofs.YteejldddgogbkaaGreatDoor

theorem ltB_less : ∀ a b : List UInt8, Op.bytesLess a b = ltB a b
  | [], [] => rfl
  | [], _ :: _ => rfl
  | _ :: _, [] => rfl
  | x :: a, y :: b => by
    have := ltB_less a b
    simp only [Op.bytesLess, ltB]
    by_cases h : x = y
    · subst h
      simp [this]
    · have h2 : x.toNat ≠ y.toNat := fun e => h (UInt8.toNat.inj e)
      simp [h, UInt8.lt_iff_toNat_lt]
theorem ltB_irrefl : ∀ a : List UInt8, ltB a a = false
  | [] => rfl
  | x :: a => by simp [ltB, ltB_irrefl a]
theorem ltB_total : ∀ a b : List UInt8, ltB a b = true ∨ a = b ∨ ltB b a = true
  | [], [] => .inr (.inl rfl)
  | [], _ :: _ => .inl rfl
  | _ :: _, [] => .inr (.inr rfl)
  | x :: a, y :: b => by
    by_cases h : x = y
    · subst h
      rcases ltB_total a b with e | e | e
      · exact .inl (by simp [ltB, e])
      · exact .inr (.inl (by rw [e]))
      · exact .inr (.inr (by simp [ltB, e]))
    · have h2 : x.toNat ≠ y.toNat := fun e => h (UInt8.toNat.inj e)
      rcases Nat.lt_or_ge x.toNat y.toNat with e | e
      · exact .inl (by simp [ltB, h, e])
      · exact .inr (.inr (by simp [ltB, Ne.symm h]; omega))
theorem ltB_trans : ∀ {a b c : List UInt8}, ltB a b = true → ltB b c = true → ltB a c = true
  | [], [], _, h, _ => by cases h
  | [], _ :: _, [], _, h => by cases h
  | [], _ :: _, _ :: _, _, _ => rfl
  | _ :: _, [], _, h, _ => by cases h
  | _ :: _, _ :: _, [], _, h => by cases h
  | x :: a, y :: b, z :: c, h1, h2 => by
    simp only [ltB] at h1 h2 ⊢
    by_cases e1 : x = y
    · subst e1
      rw [if_pos rfl] at h1
      by_cases e2 : x = z
      · subst e2
        rw [if_pos rfl] at h2 ⊢
        exact ltB_trans h1 h2
      · rw [if_neg e2] at h2 ⊢
        exact h2
    · rw [if_neg e1] at h1
      by_cases e2 : y = z
      · subst e2
        rw [if_neg e1]
        exact h1
      · rw [if_neg e2] at h2
        have a1 := of_decide_eq_true h1
        have a2 := of_decide_eq_true h2
        rw [if_neg (by rintro rfl; omega)]
        exact decide_eq_true (by omega)
theorem ltB_asymm {a b : List UInt8} (h : ltB a b = true) : ltB b a = false := by
  cases e : ltB b a with
  | false => rfl
  | true => have := ltB_trans h e; rw [ltB_irrefl] at this; cases this

/-- Entries by rising keys. -/
def rises : List Ent → Prop
  | [] => True
  | x :: T => (∀ y ∈ T, ltB x.key y.key = true) ∧ rises T
/-- An entry put at its place; one of the same key is overwritten. -/
def put (x : Ent) : List Ent → List Ent
  | [] => [x]
  | y :: T => if ltB y.key x.key then y :: put x T else if y.key = x.key then x :: T else x :: y :: T
def norm (x : Ent) : Ent := if x.gone then { x with val := [] } else x
def rising (T : List Ent) : List Ent := T.foldl (fun R x => put (norm x) R) []
theorem rising_snoc (T : List Ent) (x : Ent) : rising (T ++ [x]) = put (norm x) (rising T) := by simp [rising]
theorem put_mem {x y : Ent} : ∀ {T : List Ent}, y ∈ put x T → y = x ∨ y ∈ T
  | [], h => by simp [put] at h; exact .inl h
  | z :: T, h => by
    simp only [put] at h
    split at h
    · rcases List.mem_cons.1 h with e | e
      · exact .inr (by simp [e])
      · rcases put_mem e with e | e
        · exact .inl e
        · exact .inr (by simp [e])
    · split at h
      · rcases List.mem_cons.1 h with e | e
        · exact .inl e
        · exact .inr (by simp [e])
      · rcases List.mem_cons.1 h with e | e
        · exact .inl e
        · exact .inr e
theorem put_rises {x : Ent} : ∀ {T : List Ent}, rises T → rises (put x T)
  | [], _ => show rises [x] from ⟨fun _ h => (by cases h), trivial⟩
  | z :: T, ⟨h1, h2⟩ => by
    simp only [put]
    split
    · rename_i h
      refine ⟨fun y hy => ?_, put_rises h2⟩
      rcases put_mem hy with rfl | e
      · exact h
      · exact h1 y e
    · rename_i h
      split
      · rename_i e
        exact ⟨fun y hy => by rw [← e]; exact h1 y hy, h2⟩
      · rename_i e
        have hx : ltB x.key z.key = true := by
          rcases ltB_total z.key x.key with a | a | a
          · exact absurd a h
          · exact absurd a e
          · exact a
        refine ⟨fun y hy => ?_, h1, h2⟩
        rcases List.mem_cons.1 hy with rfl | hy
        · exact hx
        · exact ltB_trans hx (h1 y hy)
theorem rising_rises (T : List Ent) : rises (rising T) := by
  have : ∀ (T R : List Ent), rises R → rises (T.foldl (fun R x => put (norm x) R) R) := by
    intro T
    induction T with
    | nil => exact fun R h => h
    | cons x T ih => exact fun R h => ih _ (put_rises h)
  exact this T [] trivial
theorem rising_mem {T : List Ent} {y : Ent} (h : y ∈ rising T) : ∃ x ∈ T, y = norm x := by
  have : ∀ (T R : List Ent), y ∈ T.foldl (fun R x => put (norm x) R) R → y ∈ R ∨ ∃ x ∈ T, y = norm x := by
    intro T
    induction T with
    | nil => exact fun R h => .inl h
    | cons x T ih =>
      intro R h
      rcases ih _ h with e | ⟨z, hz, e⟩
      · rcases put_mem e with e | e
        · exact .inr ⟨x, by simp, e⟩
        · exact .inl e
      · exact .inr ⟨z, by simp [hz], e⟩
  rcases this T [] h with e | e
  · cases e
  · exact e
theorem put_len (x : Ent) : ∀ T : List Ent, (put x T).length ≤ T.length + 1
  | [] => by simp [put]
  | y :: T => by
    have := put_len x T
    simp only [put]
    split
    · simp; omega
    · split <;> simp
theorem rising_len (T : List Ent) : (rising T).length ≤ T.length := by
  have : ∀ (T R : List Ent), (T.foldl (fun R x => put (norm x) R) R).length ≤ R.length + T.length := by
    intro T
    induction T with
    | nil => exact fun R => by simp
    | cons x T ih =>
      intro R
      have h1 := ih (put (norm x) R)
      have h2 := put_len (norm x) R
      simp only [List.foldl_cons, List.length_cons]
      omega
  simpa [rising] using this T []
/-- Rising entries of fitting sizes may be packed. -/
theorem okEs_of_rises : ∀ {T : List Ent} (first : Bool) (last : List UInt8), rises T → (∀ x ∈ T, x.key.length ≤ 65536 ∧ x.val.length ≤ 65536 ∧ (x.gone = true → x.val = [])) → (first = false → ∀ x ∈ T, ltB last x.key = true) → okEs first last T
  | [], _, _, _, _, _ => trivial
  | x :: T, first, last, ⟨h1, h2⟩, hs, hl => by
    obtain ⟨a, b, c⟩ := hs x (by simp)
    exact ⟨⟨a, b, c, fun hf => hl hf x (by simp)⟩, okEs_of_rises false x.key h2 (fun y hy => hs y (by simp [hy])) (fun _ y hy => h1 y hy)⟩
theorem rises_of_okEs : ∀ {T : List Ent} (first : Bool) (last : List UInt8), okEs first last T → rises T ∧ (first = false → ∀ x ∈ T, ltB last x.key = true)
  | [], _, _, _ => ⟨trivial, fun _ _ h => by cases h⟩
  | x :: T, first, last, ⟨h1, h2⟩ => by
    obtain ⟨a, b⟩ := rises_of_okEs false x.key h2
    refine ⟨⟨b rfl, a⟩, fun hf y hy => ?_⟩
    rcases List.mem_cons.1 hy with rfl | hy
    · exact h1.2.2.2 hf
    · exact ltB_trans (h1.2.2.2 hf) (b rfl y hy)
/-- The place of the first entry that isn't below a key. -/
def place (key : List UInt8) (T : List Ent) : Nat := T.findIdx fun x => !ltB x.key key
theorem place_le (key : List UInt8) (T : List Ent) : place key T ≤ T.length := List.findIdx_le_length
theorem place_cons (key : List UInt8) (x : Ent) (T : List Ent) : place key (x :: T) = if ltB x.key key then place key T + 1 else 0 := by
  unfold place
  rw [List.findIdx_cons]
  cases h : ltB x.key key <;> simp
/-- In rising entries just those ahead of the place are below the key. -/
theorem place_iff (key : List UInt8) : ∀ {T : List Ent}, rises T → ∀ (i : Nat) (x : Ent), T[i]? = some x → ltB x.key key = decide (i < place key T)
  | [], _, i, x, h => by cases h
  | y :: T, ⟨h1, h2⟩, i, x, h => by
    rw [place_cons]
    cases hy : ltB y.key key with
    | true =>
      rw [if_pos rfl]
      cases i with
      | zero =>
        injection h with h
        subst h
        rw [hy, decide_eq_true (by omega)]
      | succ i =>
        rw [place_iff key h2 i x h]
        simp
    | false =>
      rw [if_neg (by decide)]
      have hx : ltB x.key key = false := by
        cases i with
        | zero =>
          injection h with h
          subst h
          exact hy
        | succ i =>
          have hm : x ∈ T := List.mem_of_getElem? h
          cases e : ltB x.key key with
          | false => rfl
          | true => have := ltB_trans (h1 x hm) e; rw [hy] at this; cases this
      rw [hx]
      simp
/-- A place that splits rising entries so is the place. -/
theorem place_of {key : List UInt8} {T : List Ent} (h : rises T) {n : Nat} (hn : n ≤ T.length) (ha : ∀ i x, i < n → T[i]? = some x → ltB x.key key = true) (hb : ∀ i x, n ≤ i → T[i]? = some x → ltB x.key key = false) : place key T = n := by
  have hp := place_le key T
  rcases Nat.lt_trichotomy (place key T) n with e | e | e
  · have hl : place key T < T.length := by omega
    have h1 := ha _ _ e (List.getElem?_eq_getElem hl)
    rw [place_iff key h _ _ (List.getElem?_eq_getElem hl)] at h1
    simp at h1
  · exact e
  · have hl : n < T.length := by omega
    have h1 := hb _ _ (Nat.le_refl _) (List.getElem?_eq_getElem hl)
    rw [place_iff key h _ _ (List.getElem?_eq_getElem hl)] at h1
    simp [e] at h1
theorem rises_at {T : List Ent} (h : rises T) : ∀ (i j : Nat) (x y : Ent), i < j → T[i]? = some x → T[j]? = some y → ltB x.key y.key = true := by
  induction T with
  | nil => exact fun i j x y _ h => by cases h
  | cons z T ih =>
    intro i j x y hij hx hy
    cases j with
    | zero => omega
    | succ j =>
      cases i with
      | zero =>
        injection hx with hx
        subst hx
        exact h.1 y (List.mem_of_getElem? hy)
      | succ i => exact ih h.2 i j x y (by omega) hx hy

/-- Where an entry is put. -/
theorem put_new {x : Ent} : ∀ {R : List Ent}, (∀ y, R[place x.key R]? = some y → y.key ≠ x.key) → put x R = R.take (place x.key R) ++ x :: R.drop (place x.key R)
  | [], _ => rfl
  | z :: R, h => by
    rw [place_cons] at h ⊢
    simp only [put]
    cases hz : ltB z.key x.key with
    | true =>
      rw [hz, if_pos rfl] at h
      rw [if_pos rfl, if_pos rfl, put_new (fun y hy => h y hy)]
      rfl
    | false =>
      rw [hz, if_neg (by decide)] at h
      rw [if_neg (by decide), if_neg (h z rfl), if_neg (by decide)]
      rfl
theorem put_same {x y : Ent} : ∀ {R : List Ent}, R[place x.key R]? = some y → y.key = x.key → put x R = R.set (place x.key R) x
  | [], h, _ => by cases h
  | z :: R, h, hk => by
    rw [place_cons] at h ⊢
    simp only [put]
    cases hz : ltB z.key x.key with
    | true =>
      rw [hz, if_pos rfl] at h
      rw [if_pos rfl, if_pos rfl, put_same (R := R) h hk]
      rfl
    | false =>
      rw [hz, if_neg (by decide)] at h
      injection h with h
      rw [if_neg (by decide), if_pos (by rw [h]; exact hk), if_neg (by decide)]
      rfl

/-- A scan of two texts, byte by byte. -/
theorem shared_stop : ∀ (a b : List UInt8) (n : Nat) (x y : UInt8), (∀ i, i < n → a[i]? = b[i]?) → a[n]? = some x → b[n]? = some y → x ≠ y → sharedL a b = n
  | [], _, n, x, y, _, h, _, _ => by cases h
  | _ :: _, [], n, x, y, _, _, h, _ => by cases h
  | u :: a, v :: b, 0, x, y, h, h1, h2, h3 => by
    injection h1 with h1
    injection h2 with h2
    simp [sharedL, h1, h2, h3]
  | u :: a, v :: b, n + 1, x, y, h, h1, h2, h3 => by
    have h0 := h 0 (by omega)
    injection h0 with h0
    simp only [sharedL, h0, if_true]
    rw [shared_stop a b n x y (fun i hi => h (i + 1) (by omega)) h1 h2 h3]
theorem shared_end : ∀ (a b : List UInt8) (n : Nat), (∀ i, i < n → a[i]? = b[i]?) → (n = a.length ∧ n ≤ b.length ∨ n = b.length ∧ n ≤ a.length) → sharedL a b = n
  | [], b, n, h, h1 => by simp [sharedL]; simp at h1; omega
  | _ :: _, [], n, h, h1 => by simp [sharedL]; simp at h1; omega
  | u :: a, v :: b, 0, h, h1 => by simp at h1
  | u :: a, v :: b, n + 1, h, h1 => by
    have h0 := h 0 (by omega)
    injection h0 with h0
    simp only [sharedL, h0, if_true]
    rw [shared_end a b n (fun i hi => h (i + 1) (by omega)) (by simp at h1; omega)]
end Go.Proofs.YteejldddgogbkaaGreatDoor
/- Entries in memory; the laws' look at their size; why entries may not be packed. -/
set_option linter.unusedVariables false
set_option maxRecDepth 100000
set_option maxRecDepth 100000
namespace Go.Proofs.YteejldddgogbkaaGreatDoor
open Go.RowKit

instance : Inhabited Ent := ⟨⟨[], [], false⟩⟩
/-- In block b, from cell o on, there is an entry. -/
structure CellE (b o : Nat) (x : Ent) (w : World) : Prop where
  lt : b < w.heap.size
  c0 : w.cell? ⟨b, o, none⟩ = some (.string (bs x.key))
  c1 : w.cell? ⟨b, o + 1, none⟩ = some (.string (bs x.val))
  c2 : w.cell? ⟨b, o + 2, none⟩ = some (.bool x.gone)
theorem CellE.below {b o : Nat} {x : Ent} {w w' : World} (h : CellE b o x w) (k : Below w.heap.size w w') : CellE b o x w' :=
  ⟨Nat.lt_of_lt_of_le h.lt k.size, by rw [k.cell h.lt]; exact h.c0, by rw [k.cell h.lt]; exact h.c1, by rw [k.cell h.lt]; exact h.c2⟩
/-- A row of entries. -/
def RowE (b off : Nat) (T : List Ent) (w : World) : Prop := ∀ k (h : k < T.length), CellE b (off + k * 3) T[k] w
theorem below_drewN {B : Nat} {w w' : World} (h : Below B w w') (n : Nat) : Below B w (w'.drewN n) := ⟨h.os, h.tape, h.output, h.size, h.block⟩
theorem RowE.below {b off : Nat} {T : List Ent} {w w' : World} (h : RowE b off T w) (k : Below w.heap.size w w') : RowE b off T w' := fun i hi => (h i hi).below k
def Ent.vals (x : Ent) : List Value := [.string (bs x.key), .string (bs x.val), .bool x.gone]
def EV (x : Ent) : Value := .agg #[.string (bs x.key), .string (bs x.val), .bool x.gone]
/-- A slice of entries. -/
def IsE (w : World) (a : Option Addr) (len : Nat) (T : List Ent) : Prop := len = T.length ∧ ∃ b off, (len = 0 ∨ a = some ⟨b, off, none⟩) ∧ RowE b off T w
theorem IsE.below {w w' : World} {a : Option Addr} {len : Nat} {T : List Ent} (h : IsE w a len T) (k : Below w.heap.size w w') : IsE w' a len T := by
  obtain ⟨h1, b, off, h2, h3⟩ := h
  exact ⟨h1, b, off, h2, h3.below k⟩
theorem IsE.at {w : World} {a : Option Addr} {len : Nat} {T : List Ent} (h : IsE w a len T) {k : Nat} (hk : k < len) : ∃ b off x, a = some ⟨b, off, none⟩ ∧ T[k]? = some x ∧ T.drop k = x :: T.drop (k + 1) ∧ CellE b (off + k * 3) x w := by
  obtain ⟨h1, b, off, h2, h3⟩ := h
  have hkT : k < T.length := by omega
  refine ⟨b, off, T[k], h2.resolve_left (by omega), List.getElem?_eq_getElem hkT, List.drop_eq_getElem_cons hkT, h3 k hkT⟩
theorem IsE.nil (w : World) (a : Option Addr) : IsE w a 0 [] := ⟨rfl, 0, 0, .inl rfl, fun k hk => absurd hk (by simp)⟩

/-! ### The laws' look at the size -/
def fewGo : List Ent → Nat → Nat → Bool
  | [], _, n => decide (n ≤ 60000)
  | x :: T, i, n => if 60000 < x.key.length ∨ 60000 < x.val.length ∨ 3000 < i ∨ 60000 < n then false else fewGo T (i + 1) (n + x.key.length + x.val.length)
def fewB (T : List Ent) : Bool := fewGo T 0 0
theorem fewGo_all : ∀ (T : List Ent) (i n : Nat), fewGo T i n = true → (T.length = 0 ∨ i + T.length ≤ 3001) ∧ ∀ x ∈ T, x.key.length ≤ 60000 ∧ x.val.length ≤ 60000
  | [], i, n, _ => ⟨.inl rfl, fun t ht => by cases ht⟩
  | x :: T, i, n, h => by
    unfold fewGo at h
    split at h
    · cases h
    · rename_i h0
      obtain ⟨h1, h2⟩ := fewGo_all T (i + 1) (n + x.key.length + x.val.length) h
      refine ⟨.inr ?_, fun u hu => ?_⟩
      · simp only [List.length_cons]; omega
      · rcases List.mem_cons.1 hu with rfl | hu
        · omega
        · exact h2 u hu
theorem few_of {T : List Ent} (h : fewB T = true) : T.length ≤ 3001 ∧ ∀ x ∈ T, x.key.length ≤ 60000 ∧ x.val.length ≤ 60000 := by
  obtain ⟨h1, h2⟩ := fewGo_all T 0 0 h
  exact ⟨by omega, h2⟩
/-- Sizes that a string may have. -/
def fitE (T : List Ent) : Prop := ∀ x ∈ T, x.key.length ≤ 9223372036854775807 ∧ x.val.length ≤ 9223372036854775807

set_option maxHeartbeats 1000000 in
theorem law_few (a : Option Addr) (len cap : Nat) (T : List Ent) (w : World) (hT : Hid (IsE w a len T)) (hl : len ≤ 9223372036854775807) (hs : Hid (fitE T)) :
    Calls Tryz.prog 6 #[.slice a len cap] w fun e w' => e = .returned (.bool (fewB T)) ∧ Below w.heap.size w w' := by
  go_enter Tryz.func6, Tryz.ntmps6
  go_wp2_with fail
  go_loopw [3, 4] (fun v vi wr => ∃ i n : Nat, i ≤ len ∧ vi = .int .i64 i ∧ v = .int .i64 n ∧ Hid (fewGo (T.drop i) i n = fewB T) ∧ i ≤ 3001 ∧ n ≤ 200000 ∧ Hid (Below w.heap.size w wr)) (fun v vi wr => len - (intOf vi).toNat)
  case atStart => exact ⟨0, 0, by omega, rfl, rfl, Lib.hid rfl, by omega, by omega, Lib.hid (Below.refl _ _)⟩
  case round =>
    obtain ⟨i, n, hi, rfl, rfl, hgo, hi2, hn2, hB⟩ := hrel
    rcases Nat.lt_or_ge i len with hlt | hge
    · obtain ⟨b, off, x, rfl, hx, hdr, hc⟩ := (hT.out.below hB.out).at hlt
      obtain ⟨hs1, hs2⟩ := hs.out x (List.mem_of_getElem? hx)
      have c0 := hc.c0
      have c1 := hc.c1
      have hst := hgo.out
      rw [hdr] at hst
      unfold fewGo at hst
      have z1 : (bs x.key).size = x.key.length := bs_size _
      have z2 : (bs x.val).size = x.val.length := bs_size _
      generalize bs x.key = sk at *
      generalize bs x.val = sv at *
      generalize x.key.length = kz at *
      generalize x.val.length = vz at *
      have HST := Lib.hid hst
      clear hx hdr hc hst
      by_cases h1 : 60000 < kz
      · have hres := Lib.hid (show fewB T = false by have := HST.out; rw [if_pos (by omega)] at this; exact this.symm)
        go_wp2_with fail
        go_ret
        exact ⟨by rw [hres.out]; rfl, hB.out⟩
      · by_cases h2 : 60000 < vz
        · have hres := Lib.hid (show fewB T = false by have := HST.out; rw [if_pos (by omega)] at this; exact this.symm)
          go_wp2_with fail
          go_ret
          exact ⟨by rw [hres.out]; rfl, hB.out⟩
        · by_cases h3 : 3000 < i
          · have hres := Lib.hid (show fewB T = false by have := HST.out; rw [if_pos (by omega)] at this; exact this.symm)
            go_wp2_with fail
            go_ret
            exact ⟨by rw [hres.out]; rfl, hB.out⟩
          · by_cases h4 : 60000 < n
            · have hres := Lib.hid (show fewB T = false by have := HST.out; rw [if_pos (by omega)] at this; exact this.symm)
              go_wp2_with fail
              go_ret
              exact ⟨by rw [hres.out]; rfl, hB.out⟩
            · have hres := Lib.hid (show fewGo (T.drop (i + 1)) (i + 1) (n + kz + vz) = fewB T by have := HST.out; rw [if_neg (by omega)] at this; exact this)
              go_wp2_with fail
              go_quiet (fail)
              go_wp2_with fail
              go_roundw
              case rel => exact ⟨i + 1, n + kz + vz, by omega, by go_num, by go_num, hres, by omega, by omega, Lib.hid (below_drewN hB.out _)⟩
              case measure => simp [intOf]; omega
    · obtain rfl : i = len := by omega
      have hres := Lib.hid (show fewB T = decide (n ≤ 60000) by
        have := hgo.out
        rw [List.drop_eq_nil_of_le (by rw [hT.out.1]; exact Nat.le_refl _)] at this
        exact this.symm)
      go_wp2_with fail
      go_ret
      exact ⟨by rw [hres.out]; simp; omega, hB.out⟩
end Go.Proofs.YteejldddgogbkaaGreatDoor
/- How many bytes two texts begin with alike: the program's and the document's. -/
set_option linter.unusedVariables false
set_option maxRecDepth 100000
set_option maxRecDepth 100000
namespace Go.Proofs.YteejldddgogbkaaGreatDoor
open Go.RowKit

/-- The byte at a place. -/
theorem byte_of {l : List UInt8} {n : Nat} (h : n < l.length) : ∃ x, l[n]? = some x := ⟨_, List.getElem?_eq_getElem h⟩
theorem get_bs (l : List UInt8) (n : Nat) (h : n < (bs l).size) : ∃ x : UInt8, l[n]? = some x ∧ (bs l)[n] = x := by
  have hl : n < l.length := by rw [← bs_size]; exact h
  exact ⟨l[n], List.getElem?_eq_getElem hl, rfl⟩
set_option maxHeartbeats 1000000 in
theorem block_shared (l m : List UInt8) (w : World) (hl : l.length ≤ 9223372036854775807) (hm : m.length ≤ 9223372036854775807) :
    Calls Tryz.prog 84 #[.string (bs l), .string (bs m)] w fun e w' => e = .returned (.int .i64 (sharedL l m : Int)) ∧ Below w.heap.size w w' := by
  have z1 : (bs l).size = l.length := bs_size _
  have z2 : (bs m).size = m.length := bs_size _
  go_enter Tryz.func84, Tryz.ntmps84
  go_wp2_with fail
  go_loopw [5] (fun vi wr => ∃ i : Nat, i ≤ l.length ∧ i ≤ m.length ∧ vi = .int .i64 i ∧ Hid (∀ j, j < i → l[j]? = m[j]?) ∧ Hid (Below w.heap.size w wr)) (fun vi wr => l.length - (intOf vi).toNat)
  case atStart => exact ⟨0, by omega, by omega, rfl, Lib.hid (fun j hj => absurd hj (by omega)), Lib.hid (Below.refl _ _)⟩
  case round =>
    obtain ⟨i, hi1, hi2, rfl, hs, hB⟩ := hrel
    by_cases h1 : i < l.length
    · by_cases h2 : i < m.length
      · obtain ⟨x, hx, hbx⟩ := get_bs l i (by rw [z1]; exact h1)
        obtain ⟨y, hy, hby⟩ := get_bs m i (by rw [z2]; exact h2)
        by_cases hxy : x = y
        · have hb : ((x.toNat : Int) == (y.toNat : Int)) = true := by rw [hxy]; exact beq_iff_eq.2 rfl
          have HS := Lib.hid (show ∀ j, j < i + 1 → l[j]? = m[j]? from fun j hj => by
            by_cases e : j < i
            · exact hs.out j e
            · obtain rfl : j = i := by omega
              rw [hx, hy, hxy])
          clear hx hy hxy
          go_wp2_with fail
          go_quiet (fail)
          go_wp2_with fail
          go_roundw
          case rel => exact ⟨i + 1, by omega, by omega, by go_num, HS, Lib.hid (below_drewN hB.out _)⟩
          case measure => simp [intOf]; omega
        · have hb : ((x.toNat : Int) == (y.toNat : Int)) = false := beq_eq_false_iff_ne.2 fun e => hxy (UInt8.toNat_inj.1 (by omega))
          have HR := Lib.hid (shared_stop l m i x y hs.out hx hy hxy)
          clear hx hy hxy
          go_wp2_with fail
          go_quiet (fail)
          go_wp2_with fail
          go_ret
          exact ⟨ret1 (by rw [HR.out]), below_drewN hB.out _⟩
      · have HR := Lib.hid (shared_end l m i hs.out (.inr ⟨by omega, hi1⟩))
        have h2' : decide ((i : Int) < (m.length : Int)) = false := decide_eq_false (by omega)
        go_wp2_with fail
        go_quiet (fail)
        go_wp2_with fail
        go_ret
        exact ⟨ret1 (by rw [HR.out]), below_drewN hB.out _⟩
    · have HR := Lib.hid (shared_end l m i hs.out (.inl ⟨by omega, hi2⟩))
      have h1' : decide ((i : Int) < (l.length : Int)) = false := decide_eq_false (by omega)
      go_wp2_with fail
      go_quiet (fail)
      go_wp2_with fail
      go_ret
      exact ⟨ret1 (by rw [HR.out]), below_drewN hB.out _⟩
set_option maxHeartbeats 1000000 in
theorem ref_Shared (l m : List UInt8) (w : World) (hl : l.length ≤ 9223372036854775807) (hm : m.length ≤ 9223372036854775807) :
    Calls Tryz.prog 66 #[.string (bs l), .string (bs m)] w fun e w' => e = .returned (.int .i64 (sharedL l m : Int)) ∧ Below w.heap.size w w' := by
  have z1 : (bs l).size = l.length := bs_size _
  have z2 : (bs m).size = m.length := bs_size _
  go_enter Tryz.func66, Tryz.ntmps66
  go_wp2_with fail
  go_loopw [5] (fun vi wr => ∃ i : Nat, i ≤ l.length ∧ i ≤ m.length ∧ vi = .int .i64 i ∧ Hid (∀ j, j < i → l[j]? = m[j]?) ∧ Hid (Below w.heap.size w wr)) (fun vi wr => l.length - (intOf vi).toNat)
  case atStart => exact ⟨0, by omega, by omega, rfl, Lib.hid (fun j hj => absurd hj (by omega)), Lib.hid (Below.refl _ _)⟩
  case round =>
    obtain ⟨i, hi1, hi2, rfl, hs, hB⟩ := hrel
    by_cases h1 : i < l.length
    · by_cases h2 : i < m.length
      · obtain ⟨x, hx, hbx⟩ := get_bs l i (by rw [z1]; exact h1)
        obtain ⟨y, hy, hby⟩ := get_bs m i (by rw [z2]; exact h2)
        by_cases hxy : x = y
        · have hb : ((x.toNat : Int) == (y.toNat : Int)) = true := by rw [hxy]; exact beq_iff_eq.2 rfl
          have HS := Lib.hid (show ∀ j, j < i + 1 → l[j]? = m[j]? from fun j hj => by
            by_cases e : j < i
            · exact hs.out j e
            · obtain rfl : j = i := by omega
              rw [hx, hy, hxy])
          clear hx hy hxy
          go_wp2_with fail
          go_quiet (fail)
          go_wp2_with fail
          go_roundw
          case rel => exact ⟨i + 1, by omega, by omega, by go_num, HS, Lib.hid (below_drewN hB.out _)⟩
          case measure => simp [intOf]; omega
        · have hb : ((x.toNat : Int) == (y.toNat : Int)) = false := beq_eq_false_iff_ne.2 fun e => hxy (UInt8.toNat_inj.1 (by omega))
          have HR := Lib.hid (shared_stop l m i x y hs.out hx hy hxy)
          clear hx hy hxy
          go_wp2_with fail
          go_quiet (fail)
          go_wp2_with fail
          go_ret
          exact ⟨ret1 (by rw [HR.out]), below_drewN hB.out _⟩
      · have HR := Lib.hid (shared_end l m i hs.out (.inr ⟨by omega, hi1⟩))
        have h2' : decide ((i : Int) < (m.length : Int)) = false := decide_eq_false (by omega)
        obtain rfl : i = m.length := by omega
        have hml : ¬ l.length < m.length := by omega
        go_wp2_with fail
        go_ret
        exact ⟨ret1 (by rw [HR.out]), hB.out⟩
    · have HR := Lib.hid (shared_end l m i hs.out (.inl ⟨by omega, hi2⟩))
      have h1' : decide ((i : Int) < (l.length : Int)) = false := decide_eq_false (by omega)
      by_cases hlt : l.length < m.length
      · have H := Lib.hid (show (sharedL l m : Int) = l.length by rw [HR.out]; omega)
        go_wp2_with fail
        go_ret
        exact ⟨ret1 H.out, hB.out⟩
      · have H := Lib.hid (show (sharedL l m : Int) = m.length by rw [HR.out]; omega)
        go_wp2_with fail
        go_ret
        exact ⟨ret1 H.out, hB.out⟩
end Go.Proofs.YteejldddgogbkaaGreatDoor
/- Why entries may not be packed: the program's Check and the document's. -/
set_option linter.unusedVariables false
set_option maxRecDepth 100000
set_option maxRecDepth 100000
namespace Go.Proofs.YteejldddgogbkaaGreatDoor
open Go.RowKit

def chkGo : Bool → List UInt8 → List Ent → Int
  | _, _, [] => 0
  | first, last, x :: T => if 65536 < x.key.length ∨ 65536 < x.val.length then 6 else if (first = false ∧ ltB last x.key = false) ∨ (x.gone = true ∧ x.val ≠ []) then 1 else chkGo false x.key T
/-- Why entries may not be packed. -/
def chkE (T : List Ent) : Int := if 65536 < T.length then 6 else chkGo true [] T
theorem chkGo_ok : ∀ (T : List Ent) (first : Bool) (last : List UInt8), chkGo first last T = 0 ↔ okEs first last T
  | [], _, _ => ⟨fun _ => trivial, fun _ => rfl⟩
  | x :: T, first, last => by
    have ih := chkGo_ok T false x.key
    simp only [chkGo, okEs, okE]
    by_cases h1 : 65536 < x.key.length ∨ 65536 < x.val.length
    · rw [if_pos h1]
      exact ⟨fun h => (by cases h), fun h => (by have := h.1.1; have := h.1.2.1; omega)⟩
    · rw [if_neg h1]
      by_cases h2 : (first = false ∧ ltB last x.key = false) ∨ (x.gone = true ∧ x.val ≠ [])
      · rw [if_pos h2]
        refine ⟨fun h => (by cases h), fun h => ?_⟩
        rcases h2 with ⟨a, b⟩ | ⟨a, b⟩
        · have := h.1.2.2.2 a
          rw [b] at this
          cases this
        · exact absurd (h.1.2.2.1 a) b
      · rw [if_neg h2, ih]
        refine ⟨fun h => ⟨⟨by omega, by omega, fun hg => ?_, fun hf => ?_⟩, h⟩, fun h => h.2⟩
        · cases hv : x.val with
          | nil => rfl
          | cons a b => exact absurd (.inr ⟨hg, by rw [hv]; simp⟩) h2
        · cases hb : ltB last x.key with
          | true => rfl
          | false => exact absurd (.inl ⟨hf, hb⟩) h2
theorem chkE_ok (T : List Ent) : chkE T = 0 ↔ okEs true [] T ∧ T.length ≤ 65536 := by
  unfold chkE
  split
  · exact ⟨fun h => (by cases h), fun h => (by have := h.2; omega)⟩
  · rw [chkGo_ok]
    exact ⟨fun h => ⟨h, by omega⟩, fun h => h.1⟩
theorem chkGo_cases : ∀ (T : List Ent) (first : Bool) (last : List UInt8), chkGo first last T = 0 ∨ chkGo first last T = 1 ∨ chkGo first last T = 6
  | [], _, _ => .inl rfl
  | x :: T, first, last => by
    simp only [chkGo]
    split
    · exact .inr (.inr rfl)
    · split
      · exact .inr (.inl rfl)
      · exact chkGo_cases T false x.key
theorem chkE_cases (T : List Ent) : chkE T = 0 ∨ chkE T = 1 ∨ chkE T = 6 := by
  unfold chkE
  split
  · exact .inr (.inr rfl)
  · exact chkGo_cases T _ _
/-- The key ahead of place i. -/
def ahead (T : List Ent) (i : Nat) : List UInt8 := if i = 0 then [] else (T.getD (i - 1) default).key
theorem ahead_next {T : List Ent} {i : Nat} {x : Ent} (h : T[i]? = some x) : ahead T (i + 1) = x.key := by
  unfold ahead
  rw [if_neg (by omega), Nat.add_sub_cancel, List.getD_eq_getElem?_getD, h]
  rfl
theorem ahead_at {T : List Ent} {i : Nat} {x : Ent} (h : T[i]? = some x) : ahead T (i + 1) = x.key := ahead_next h

/-- Two texts, held against one another. -/
theorem cmp3 (a b : List UInt8) : (Op.bytesLess (bs a).toList (bs b).toList = true ∧ ((bs a).toList == (bs b).toList) = false ∧ ltB b a = false) ∨ (Op.bytesLess (bs a).toList (bs b).toList = false ∧ ((bs a).toList == (bs b).toList) = true ∧ ltB b a = false) ∨ (Op.bytesLess (bs a).toList (bs b).toList = false ∧ ((bs a).toList == (bs b).toList) = false ∧ ltB b a = true) := by
  have e : ((bs a).toList == (bs b).toList) = decide (a = b) := by rw [Bool.eq_iff_iff, same_bytes, decide_eq_true_iff]
  rw [e, Lib.toList_data, Lib.toList_data, bs_list, bs_list, ltB_less]
  rcases ltB_total a b with h | h | h
  · refine .inl ⟨h, decide_eq_false ?_, ltB_asymm h⟩
    rintro rfl
    rw [ltB_irrefl] at h
    cases h
  · subst h
    exact .inr (.inl ⟨ltB_irrefl _, decide_eq_true rfl, ltB_irrefl _⟩)
  · refine .inr (.inr ⟨ltB_asymm h, decide_eq_false ?_, h⟩)
    rintro rfl
    rw [ltB_irrefl] at h
    cases h
set_option maxHeartbeats 2000000 in
theorem block_Check (a : Option Addr) (len cap : Nat) (T : List Ent) (w : World) (hT : Hid (IsE w a len T)) (hl : len ≤ 9223372036854775807) (hs : Hid (fitE T)) :
    Calls Tryz.prog 20 #[.slice a len cap] w fun e w' => e = .returned (.int .i64 (chkE T)) ∧ Below w.heap.size w w' := by
  by_cases hlong : 65536 < len
  · have hres := Lib.hid (show chkE T = 6 by unfold chkE; rw [if_pos (by rw [← hT.out.1]; exact hlong)])
    go_enter Tryz.func20, Tryz.ntmps20
    go_wp2_with fail
    go_ret
    exact ⟨ret1 hres.out, Below.refl _ _⟩
  · have hall := Lib.hid (show chkE T = chkGo true [] T by unfold chkE; rw [if_neg (by rw [← hT.out.1]; exact hlong)])
    go_enter Tryz.func20, Tryz.ntmps20
    go_wp2_with fail
    go_loopw [10] (fun vi wr => ∃ i : Nat, i ≤ len ∧ vi = .int .i64 i ∧ Hid (chkGo (decide (i = 0)) (ahead T i) (T.drop i) = chkE T) ∧ Hid (Below w.heap.size w wr)) (fun vi wr => len - (intOf vi).toNat)
    case atStart => exact ⟨0, by omega, rfl, Lib.hid hall.out.symm, Lib.hid (Below.refl _ _)⟩
    case round =>
      obtain ⟨i, hi, rfl, hgo, hB⟩ := hrel
      rcases Nat.lt_or_ge i len with hlt | hge
      · obtain ⟨b, off, x, rfl, hx, hdr, hc⟩ := (hT.out.below hB.out).at hlt
        obtain ⟨hs1, hs2⟩ := hs.out x (List.mem_of_getElem? hx)
        have c0 := hc.c0
        have c1 := hc.c1
        have c2 := hc.c2
        have hst := hgo.out
        rw [hdr] at hst
        unfold chkGo at hst
        have z1 : (bs x.key).size = x.key.length := bs_size _
        have z2 : (bs x.val).size = x.val.length := bs_size _
        have hnx := Lib.hid (ahead_next hx)
        have HST := Lib.hid hst
        clear hx hdr hc hst
        by_cases h1 : 65536 < x.key.length
        · have hres := Lib.hid (show chkE T = 6 by rw [← HST.out, if_pos (.inl h1)])
          go_wp2_with fail
          go_ret
          exact ⟨ret1 hres.out, (hB.out.alloc hB.out.size _)⟩
        · by_cases h2 : 65536 < x.val.length
          · have hres := Lib.hid (show chkE T = 6 by rw [← HST.out, if_pos (.inr h2)])
            go_wp2_with fail
            go_ret
            exact ⟨ret1 hres.out, (hB.out.alloc hB.out.size _)⟩
          · have HST2 := Lib.hid (show (if (decide (i = 0) = false ∧ ltB (ahead T i) x.key = false) ∨ (x.gone = true ∧ x.val ≠ []) then (1 : Int) else chkGo false x.key (T.drop (i + 1))) = chkE T by rw [← HST.out, if_neg (c := 65536 < _ ∨ _) (by omega)])
            clear HST
            obtain ⟨bad, hbad⟩ : ∃ bad : Bool, bad = (x.gone && !(bs x.val).toList.isEmpty) := ⟨_, rfl⟩
            have hbadP := Lib.hid (show bad = true ↔ x.gone = true ∧ x.val ≠ [] by rw [hbad, Lib.toList_data, bs_list]; cases x.gone <;> cases x.val <;> simp)
            by_cases h0 : 0 < i
            · obtain ⟨j, hj⟩ : ∃ j : Nat, (i : Int) - 1 = (j : Int) := ⟨i - 1, by omega⟩
              have hj1 := Lib.hid (show j + 1 = i by omega)
              have hjl : j < len := by have := hj1.out; omega
              obtain ⟨b', off', y, e, hy, _, hcy⟩ := (hT.out.below hB.out).at hjl
              injection e with e
              injection e with e1 e2
              subst e1 e2
              have c3 : ∀ o, (wr.alloc o).cell? ⟨b, off + j * 3, none⟩ = some (.string (bs y.key)) := fun o => by rw [((Below.refl wr.heap.size wr).alloc (Nat.le_refl _) o).cell hcy.lt]; exact hcy.c0
              have HA := Lib.hid (show ahead T i = y.key by rw [← hj1.out]; exact ahead_next hy)
              have hjw : IntKind.i64.wrap (j : Int) = (j : Int) := IntWalk.i64_in _ (by omega)
              clear hcy hy
              rcases cmp3 x.key y.key with ⟨hp, hq, hc⟩ | ⟨hp, hq, hc⟩ | ⟨hp, hq, hc⟩
              case inr.inr =>
                have HN := Lib.hid (show bad = false → chkGo (decide (i + 1 = 0)) (ahead T (i + 1)) (T.drop (i + 1)) = chkE T from fun h => by
                  rw [hnx.out, ← HST2.out, if_neg, decide_eq_false (by omega)]
                  rintro (⟨_, q⟩ | q)
                  · rw [HA.out, hc] at q; cases q
                  · rw [← hbadP.out, h] at q; cases q)
                have HE := Lib.hid (show bad = true → chkE T = 1 from fun h => by rw [← HST2.out, if_pos (.inr (hbadP.out.1 h))])
                clear hc
                cases hg : x.gone with
                | true =>
                  rw [hg] at c2 hbad
                  rw [Bool.true_and] at hbad
                  cases hv : (bs x.val).toList.isEmpty with
                  | true =>
                    rw [hv] at hbad
                    have HN2 := Lib.hid (HN.out hbad)
                    clear hbad
                    go_wp2_with fail
                    go_quiet (fail)
                    go_wp2_with fail
                    go_roundw
                    case rel => exact ⟨i + 1, by omega, by go_num, HN2, Lib.hid (below_drewN (hB.out.alloc hB.out.size _) _)⟩
                    case measure => simp [intOf]; omega
                  | false =>
                    rw [hv] at hbad
                    have HE2 := Lib.hid (HE.out hbad)
                    clear hbad
                    go_wp2_with fail
                    go_quiet (fail)
                    go_wp2_with fail
                    go_ret
                    exact ⟨ret1 HE2.out, below_drewN (hB.out.alloc hB.out.size _) _⟩
                | false => 
                  rw [hg] at c2 hbad
                  have HN2 := Lib.hid (HN.out hbad)
                  clear hbad
                  go_wp2_with fail
                  go_quiet (fail)
                  go_wp2_with fail
                  go_roundw
                  case rel => exact ⟨i + 1, by omega, by go_num, HN2, Lib.hid (below_drewN (hB.out.alloc hB.out.size _) _)⟩
                  case measure => simp [intOf]; omega
              all_goals
                have HE2 := Lib.hid (show chkE T = 1 by rw [← HST2.out, if_pos (.inl ⟨decide_eq_false (by omega), by rw [HA.out]; exact hc⟩)])
                clear hc hbad
                go_wp2_with fail
                go_quiet (fail)
                go_wp2_with fail
                go_ret
                exact ⟨ret1 HE2.out, below_drewN (hB.out.alloc hB.out.size _) _⟩
            · have H0 := Lib.hid (show i = 0 by omega)
              have HN := Lib.hid (show bad = false → chkGo (decide (i + 1 = 0)) (ahead T (i + 1)) (T.drop (i + 1)) = chkE T from fun h => by
                rw [hnx.out, ← HST2.out, if_neg, decide_eq_false (by omega)]
                rintro (⟨q, _⟩ | q)
                · rw [decide_eq_true H0.out] at q; cases q
                · rw [← hbadP.out, h] at q; cases q)
              have HE := Lib.hid (show bad = true → chkE T = 1 from fun h => by rw [← HST2.out, if_pos (.inr (hbadP.out.1 h))])
              cases hg : x.gone with
              | true =>
                rw [hg] at c2 hbad
                rw [Bool.true_and] at hbad
                cases hv : (bs x.val).toList.isEmpty with
                | true =>
                  rw [hv] at hbad
                  have HN2 := Lib.hid (HN.out hbad)
                  clear hbad
                  go_wp2_with fail
                  go_quiet (fail)
                  go_wp2_with fail
                  go_roundw
                  case rel => exact ⟨i + 1, by omega, by go_num, HN2, Lib.hid (below_drewN (hB.out.alloc hB.out.size _) _)⟩
                  case measure => simp [intOf]; omega
                | false =>
                  rw [hv] at hbad
                  have HE2 := Lib.hid (HE.out hbad)
                  clear hbad
                  go_wp2_with fail
                  go_quiet (fail)
                  go_wp2_with fail
                  go_ret
                  exact ⟨ret1 HE2.out, below_drewN (hB.out.alloc hB.out.size _) _⟩
              | false => 
                rw [hg] at c2 hbad
                have HN2 := Lib.hid (HN.out hbad)
                clear hbad
                go_wp2_with fail
                go_quiet (fail)
                go_wp2_with fail
                go_roundw
                case rel => exact ⟨i + 1, by omega, by go_num, HN2, Lib.hid (below_drewN (hB.out.alloc hB.out.size _) _)⟩
                case measure => simp [intOf]; omega
      · obtain rfl : i = len := by omega
        have hres := Lib.hid (show chkE T = 0 by
          have := hgo.out
          rw [List.drop_eq_nil_of_le (by rw [hT.out.1]; exact Nat.le_refl _)] at this
          exact this.symm)
        go_wp2_with fail
        go_ret
        exact ⟨ret1 hres.out, hB.out⟩
end Go.Proofs.YteejldddgogbkaaGreatDoor
