/- Entries in plain words: their bytes, and what is read of any bytes. -/
import Derived.Test.YtbmihajbdobgbaaSixPlain
set_option linter.unusedVariables false
set_option maxRecDepth 100000
set_option maxRecDepth 100000
namespace Go.Proofs.Ytbmihajbdobgbaa

structure Ent where
  key : List UInt8
  val : List UInt8
  gone : Bool
/-- How many bytes two texts begin with alike. -/
def sharedL : List UInt8 → List UInt8 → Nat
  | x :: a, y :: b => if x = y then sharedL a b + 1 else 0
  | _, _ => 0
theorem shared_le : ∀ a b : List UInt8, sharedL a b ≤ a.length ∧ sharedL a b ≤ b.length
  | [], b => by simp [sharedL]
  | x :: a, [] => by simp [sharedL]
  | x :: a, y :: b => by
    have := shared_le a b
    simp only [sharedL]
    split
    · simp; omega
    · simp
theorem shared_take : ∀ a b : List UInt8, a.take (sharedL a b) = b.take (sharedL a b)
  | [], b => by simp [sharedL]
  | x :: a, [] => by simp [sharedL]
  | x :: a, y :: b => by
    simp only [sharedL]
    split
    · rename_i h
      simp [h, shared_take a b]
    · simp
/-- The key is made again of the one ahead and the rest. -/
theorem shared_back (a b : List UInt8) : a.take (sharedL a b) ++ b.drop (sharedL a b) = b := by rw [shared_take, List.take_append_drop]

/-- One entry's bytes behind a key. -/
def entB (last : List UInt8) (x : Ent) : List UInt8 :=
  whole (sharedL last x.key) ++ text (x.key.drop (sharedL last x.key)) ++ (if x.gone then whole 0 else whole (x.val.length + 1 : Nat) ++ x.val)
def entsB : List UInt8 → List Ent → List UInt8
  | _, [] => []
  | last, x :: T => entB last x ++ entsB x.key T
/-- The list's bytes, without the sum. -/
def listB (T : List Ent) : List UInt8 := whole T.length ++ entsB [] T

/-- The order of texts. -/
def ltB : List UInt8 → List UInt8 → Bool
  | [], [] => false
  | [], _ :: _ => true
  | _ :: _, [] => false
  | x :: a, y :: b => if x = y then ltB a b else decide (x.toNat < y.toNat)

/-- An entry read: the error, the entry, how many bytes. ('first': there is none ahead.) -/
def rdE (first : Bool) (last l : List UInt8) : Int × Ent × Nat :=
  let l1 := l.drop (ck l)
  let k := (cn l).toNat
  let key := last.take k ++ ts l1
  let l2 := l1.drop (tk l1)
  let v := (cn l2).toNat
  let l3 := l2.drop (ck l2)
  let bad (e : Int) : Int × Ent × Nat := (e, ⟨[], [], false⟩, 0)
  if ce l ≠ 0 then bad (ce l)
  else if te l1 ≠ 0 then bad (te l1)
  else if last.length < k ∨ sharedL last key ≠ k then bad 3
  else if 65536 < k + (ts l1).length then bad 6
  else if ce l2 ≠ 0 then bad (ce l2)
  else if 65537 < v then bad 6
  else if l3.length + 1 < v then bad 2
  else if first = false ∧ ltB last key = false then bad 3
  else (0, ⟨key, l3.take (v - 1), v == 0⟩, ck l + tk l1 + ck l2 + (v - 1))

theorem cn_of' {l : List UInt8} (h : ce l = 0) : re l = 0 ∧ cn l = rn l ∧ ck l = rk l ∧ 0 ≤ rn l := by
  rcases cd_cases l with ⟨_, _, _, h1, _, h2, h3, h4⟩ | ⟨h1, _⟩
  · exact ⟨h2, h3, h4, by omega⟩
  · omega
/-- A count, and what is behind it. -/
theorem cd_whole {n : Nat} (h : n ≤ 9223372036854775807) (t : List UInt8) : ce (whole (n : Int) ++ t) = 0 ∧ cn (whole (n : Int) ++ t) = n ∧ ck (whole (n : Int) ++ t) = (whole (n : Int)).length := by
  have r := rd_whole (n := (n : Int)) (by omega) (by omega) t
  simp only [ce, cn, ck, r.1, r.2.1, r.2.2]
  simp
  constructor <;> intro <;> omega
/-- A text, and what is behind it. -/
theorem td_text {s : List UInt8} (h : s.length ≤ 9223372036854775807) (t : List UInt8) : te (text s ++ t) = 0 ∧ ts (text s ++ t) = s ∧ tk (text s ++ t) = (text s).length := by
  have c := cd_whole (n := s.length) h (s ++ t)
  have e : text s ++ t = whole (s.length : Int) ++ (s ++ t) := by unfold text; rw [List.append_assoc]
  have hd : (text s ++ t).drop (whole (s.length : Int)).length = s ++ t := by rw [e, List.drop_left]
  rw [← e] at c
  have hws : ws (s ++ t) (s.length : Int) = s ∧ wk (s ++ t) (s.length : Int) = s.length ∧ we (s ++ t) (s.length : Int) = 0 := by
    unfold ws wk we
    rw [if_neg (by simp; omega), if_neg (by simp; omega), if_neg (by omega), if_neg (by simp; omega)]
    simp
  have hte : te (text s ++ t) = 0 := by unfold te; rw [if_neg (by omega), c.2.2, c.2.1, hd]; exact hws.2.2
  refine ⟨hte, by unfold ts; rw [if_neg (by omega), c.2.2, c.2.1, hd]; exact hws.1, ?_⟩
  unfold tk
  rw [if_neg (by omega), c.2.2, c.2.1, hd, hws.2.1, text, List.length_append]
/-- A text that is read, back. -/
theorem td_back {l : List UInt8} (h : te l = 0) : text (ts l) ++ l.drop (tk l) = l ∧ tk l = (text (ts l)).length := by
  rcases td_cases l with ⟨_, b1, b2, b3, b4, b5, b6⟩ | ⟨b1, _⟩
  · have hd := cn_of' b1
    obtain ⟨c1, c2⟩ := rd_back hd.1
    have hlen : (ts l).length = (cn l).toNat := by rw [b6, List.length_take, List.length_drop]; omega
    have hw : whole ((ts l).length : Int) = whole (rn l) := by rw [hlen, show (((cn l).toNat : Nat) : Int) = rn l by omega]
    have hk : tk l = (text (ts l)).length := by rw [text, List.length_append, hw, hlen, b5, hd.2.2.1, c2]
    refine ⟨?_, hk⟩
    rw [text, hw, List.append_assoc]
    have : ts l ++ l.drop (tk l) = l.drop (rk l) := by
      rw [b6, b5, ← List.drop_drop, hd.2.2.1]
      exact List.take_append_drop ..
    rw [this, c1]
  · omega

/-- An entry that may be packed behind such a key. -/
def okE (first : Bool) (last : List UInt8) (x : Ent) : Prop := x.key.length ≤ 65536 ∧ x.val.length ≤ 65536 ∧ (x.gone = true → x.val = []) ∧ (first = false → ltB last x.key = true)
def okEs : Bool → List UInt8 → List Ent → Prop
  | _, _, [] => True
  | first, last, x :: T => okE first last x ∧ okEs false x.key T

theorem rdE_entB {first : Bool} {last : List UInt8} {x : Ent} (h : okE first last x) (t : List UInt8) : rdE first last (entB last x ++ t) = (0, x, (entB last x).length) := by
  obtain ⟨h1, h2, h3, h4⟩ := h
  obtain ⟨k, hk⟩ : ∃ k, k = sharedL last x.key := ⟨_, rfl⟩
  obtain ⟨V, hV⟩ : ∃ V, V = (if x.gone then whole 0 else whole (x.val.length + 1 : Nat) ++ x.val) := ⟨_, rfl⟩
  have hkl := shared_le last x.key
  rw [← hk] at hkl
  have e0 : entB last x ++ t = whole (k : Int) ++ (text (x.key.drop k) ++ (V ++ t)) := by unfold entB; rw [← hk, ← hV]; simp [List.append_assoc]
  have c := cd_whole (n := k) (by omega) (text (x.key.drop k) ++ (V ++ t))
  have d := td_text (s := x.key.drop k) (by rw [List.length_drop]; omega) (V ++ t)
  have hkey : last.take k ++ x.key.drop k = x.key := by rw [hk]; exact shared_back _ _
  have hlen : (entB last x).length = (whole (k : Int)).length + (text (x.key.drop k)).length + V.length := by unfold entB; rw [← hk, ← hV]; simp; omega
  obtain ⟨v, hv, hce, hcn, hck, hgone, hv1, hVl⟩ : ∃ v : Nat, v ≤ 65537 ∧ ce (V ++ t) = 0 ∧ cn (V ++ t) = v ∧ (V ++ t).drop (ck (V ++ t)) = x.val ++ t ∧ x.gone = (v == 0) ∧ v - 1 = x.val.length ∧ V.length = ck (V ++ t) + (v - 1) := by
    cases hg : x.gone with
    | true =>
      have hx := h3 hg
      have hV' : V = whole ((0 : Nat) : Int) := by rw [hV, hg]; rfl
      have c := cd_whole (n := 0) (by omega) t
      rw [← hV'] at c
      exact ⟨0, by omega, c.1, c.2.1, by rw [c.2.2, List.drop_left, hx]; rfl, rfl, by rw [hx]; rfl, by rw [c.2.2]; rfl⟩
    | false =>
      have hV' : V = whole ((x.val.length + 1 : Nat) : Int) ++ x.val := by rw [hV, hg]; rfl
      have c := cd_whole (n := x.val.length + 1) (by omega) (x.val ++ t)
      rw [← List.append_assoc, ← hV'] at c
      refine ⟨x.val.length + 1, by omega, c.1, c.2.1, ?_, by simp, by omega, by rw [c.2.2, hV', List.length_append]; omega⟩
      rw [c.2.2, hV', List.append_assoc, List.drop_left]
  have hl1 : (entB last x ++ t).drop (ck (entB last x ++ t)) = text (x.key.drop k) ++ (V ++ t) := by rw [e0, c.2.2, List.drop_left]
  have hl2 : (text (x.key.drop k) ++ (V ++ t)).drop (tk (text (x.key.drop k) ++ (V ++ t))) = V ++ t := by rw [d.2.2, List.drop_left]
  have hcn0 : (cn (entB last x ++ t)).toNat = k := by rw [e0, c.2.1]; rfl
  have hce0 : ce (entB last x ++ t) = 0 := by rw [e0]; exact c.1
  have hck0 : ck (entB last x ++ t) = (whole (k : Int)).length := by rw [e0]; exact c.2.2
  have hcnv : (cn (V ++ t)).toNat = v := by rw [hcn]; rfl
  unfold rdE
  simp only [hl1, hl2, hcn0, hcnv, d.2.1, hkey, hck]
  rw [if_neg (by omega), if_neg (by omega), if_neg (by rw [← hk]; omega), if_neg (by rw [List.length_drop]; omega), if_neg (by omega), if_neg (by omega), if_neg (by rw [List.length_append]; omega), if_neg (by rintro ⟨a, b⟩; rw [h4 a] at b; cases b)]
  rw [hv1, List.take_left, hck0, d.2.2, hlen, hVl, ← hgone]
  refine congrArg (fun n => ((0 : Int), x, n)) ?_
  omega

/-- What is read as an entry is one that may be packed, and these are its bytes. -/
theorem rdE_back {first : Bool} {last l : List UInt8} {x : Ent} {n : Nat} (h : rdE first last l = (0, x, n)) : okE first last x ∧ entB last x ++ l.drop n = l ∧ n = (entB last x).length ∧ 0 < n := by
  unfold rdE at h
  obtain ⟨l1, hl1⟩ : ∃ l1, l1 = l.drop (ck l) := ⟨_, rfl⟩
  obtain ⟨l2, hl2⟩ : ∃ l2, l2 = l1.drop (tk l1) := ⟨_, rfl⟩
  obtain ⟨l3, hl3⟩ : ∃ l3, l3 = l2.drop (ck l2) := ⟨_, rfl⟩
  obtain ⟨k, hk⟩ : ∃ k, k = (cn l).toNat := ⟨_, rfl⟩
  obtain ⟨v, hv⟩ : ∃ v, v = (cn l2).toNat := ⟨_, rfl⟩
  simp only [← hl1] at h
  simp only [← hl2, ← hk] at h
  simp only [← hl3, ← hv] at h
  split at h
  · rename_i g; injection h with h; exact absurd h g
  rename_i g1
  split at h
  · rename_i g; injection h with h; exact absurd h g
  rename_i g2
  split at h
  · injection h with h; cases h
  rename_i g3
  split at h
  · injection h with h; cases h
  rename_i g4
  split at h
  · rename_i g; injection h with h; exact absurd h g
  rename_i g5
  split at h
  · injection h with h; cases h
  rename_i g6
  split at h
  · injection h with h; cases h
  rename_i g7
  split at h
  · injection h with h; cases h
  rename_i g8
  injection h with _ h
  injection h with hx hn
  have a := cn_of' (show ce l = 0 by omega)
  obtain ⟨a1, a2⟩ := rd_back a.1
  obtain ⟨b1, b2⟩ := td_back (show te l1 = 0 by omega)
  have c := cn_of' (show ce l2 = 0 by omega)
  obtain ⟨c1, c2⟩ := rd_back c.1
  have hw1 : whole (rn l) = whole ((k : Nat) : Int) := by rw [hk, ← a.2.1]; congr 1; omega
  have hw2 : whole (rn l2) = whole ((v : Nat) : Int) := by rw [hv, ← c.2.1]; congr 1; omega
  rw [← a.2.2.1, ← hl1, hw1] at a1
  rw [← c.2.2.1, ← hl3, hw2] at c1
  rw [← hl2] at b1
  rw [hw1, ← a.2.2.1] at a2
  rw [hw2, ← c.2.2.1] at c2
  have hsh : sharedL last (last.take k ++ ts l1) = k := Decidable.of_not_not fun e => g3 (.inr e)
  have hkl : k ≤ last.length := by omega
  have htk : (last.take k).length = k := by rw [List.length_take]; omega
  have hdrop : (last.take k ++ ts l1).drop k = ts l1 := by
    have := List.drop_left (l₁ := last.take k) (l₂ := ts l1)
    rw [htk] at this
    exact this
  have hwl := whole_len (n := (k : Int)) (by omega) (by have := cd_cases l; omega)
  have hV : (if x.gone then whole 0 else whole (x.val.length + 1 : Nat) ++ x.val) ++ l3.drop (v - 1) = l2 ∧ (if x.gone then whole 0 else whole (x.val.length + 1 : Nat) ++ x.val).length = ck l2 + (v - 1) := by
    rw [← hx]
    cases v with
    | zero =>
      simp only [Nat.zero_sub, List.drop_zero, BEq.rfl, if_true, Nat.add_zero]
      exact ⟨c1, c2.symm⟩
    | succ u =>
      have hb : (u + 1 == 0) = false := rfl
      have hul : (l3.take u).length = u := by rw [List.length_take]; omega
      simp only [hb, Nat.add_sub_cancel, hul]
      refine ⟨?_, ?_⟩
      · show (whole ((u + 1 : Nat) : Int) ++ l3.take u) ++ l3.drop u = l2
        rw [List.append_assoc, List.take_append_drop, c1]
      · show (whole ((u + 1 : Nat) : Int) ++ l3.take u).length = _
        rw [List.length_append, hul, ← c2]
  have hxk : x.key = last.take k ++ ts l1 := by rw [← hx]
  have hlenE : n = (entB last x).length := by
    unfold entB
    rw [hxk, hsh, hdrop, List.length_append, List.length_append, hV.2, ← hn, ← b2, ← a2]
    omega
  refine ⟨⟨?_, ?_, ?_, ?_⟩, ?_, hlenE, ?_⟩
  · rw [hxk, List.length_append, htk]; omega
  · rw [← hx]; simp only [List.length_take]; omega
  · rw [← hx]
    intro hg
    have : v = 0 := by simpa using hg
    simp [this]
  · intro hf
    rw [hxk]
    cases hb : ltB last (last.take k ++ ts l1) with
    | true => rfl
    | false => exact absurd ⟨hf, hb⟩ g8
  · have hd : l.drop n = l3.drop (v - 1) := by
      rw [← hn, hl3, hl2, hl1, List.drop_drop, List.drop_drop, List.drop_drop]
      congr 1
      omega
    rw [hd]
    unfold entB
    rw [hxk, hsh, hdrop, List.append_assoc, hV.1, List.append_assoc, b1, a1]
  · rw [← hn]; have := hwl.2; rw [← a2] at this; omega

/-- So many entries read: the error, the entries, how many bytes. -/
def rdEs : Nat → Bool → List UInt8 → List UInt8 → Int × List Ent × Nat
  | 0, _, _, _ => (0, [], 0)
  | n + 1, first, last, l =>
    let a := rdE first last l
    if a.1 ≠ 0 then (a.1, [], 0) else
      let b := rdEs n false a.2.1.key (l.drop a.2.2)
      if b.1 ≠ 0 then (b.1, [], 0) else (0, a.2.1 :: b.2.1, a.2.2 + b.2.2)
theorem rdEs_entsB : ∀ (T : List Ent) (first : Bool) (last t : List UInt8), okEs first last T → rdEs T.length first last (entsB last T ++ t) = (0, T, (entsB last T).length)
  | [], _, _, t, _ => rfl
  | x :: T, first, last, t, ⟨h1, h2⟩ => by
    have e : entsB last (x :: T) ++ t = entB last x ++ (entsB x.key T ++ t) := by simp [entsB]
    have r := rdE_entB h1 (entsB x.key T ++ t)
    have r2 := rdEs_entsB T false x.key t h2
    show rdEs (T.length + 1) first last _ = _
    rw [e]
    simp only [rdEs, r, List.drop_left, r2]
    simp [entsB]
theorem rdEs_back : ∀ (n : Nat) (first : Bool) (last l : List UInt8) (T : List Ent) (m : Nat), rdEs n first last l = (0, T, m) → T.length = n ∧ okEs first last T ∧ entsB last T ++ l.drop m = l ∧ m = (entsB last T).length
  | 0, first, last, l, T, m, h => by
    injection h with _ h
    injection h with h1 h2
    subst h1 h2
    exact ⟨rfl, trivial, rfl, rfl⟩
  | n + 1, first, last, l, T, m, h => by
    simp only [rdEs] at h
    split at h
    · rename_i g; injection h with h; exact absurd h g
    rename_i g1
    split at h
    · rename_i g; injection h with h; exact absurd h g
    rename_i g2
    injection h with _ h
    injection h with h1 h2
    subst h1 h2
    obtain ⟨x, k, hr⟩ : ∃ x k, rdE first last l = (0, x, k) := ⟨(rdE first last l).2.1, (rdE first last l).2.2, by rw [← show (rdE first last l).1 = 0 by omega]⟩
    simp only [hr] at g1 g2 ⊢
    obtain ⟨a1, a2, a3, _⟩ := rdE_back hr
    obtain ⟨b1, b2, b3, b4⟩ := rdEs_back n false x.key (l.drop k) _ _ (show rdEs n false x.key (l.drop k) = (0, (rdEs n false x.key (l.drop k)).2.1, (rdEs n false x.key (l.drop k)).2.2) by rw [← show (rdEs n false x.key (l.drop k)).1 = 0 by omega])
    refine ⟨by simp [b1], ⟨a1, b2⟩, ?_, ?_⟩
    · rw [← List.drop_drop]
      show entB last x ++ entsB x.key _ ++ _ = l
      rw [List.append_assoc, b3, a2]
    · show _ = (entB last x ++ entsB x.key _).length
      rw [List.length_append, ← a3, ← b4]
/-- What stands ahead of the sum, read: the error, the entries. -/
def opn (l : List UInt8) : Int × List Ent :=
  let b := rdEs (cn l).toNat true [] (l.drop (ck l))
  if ce l ≠ 0 then (ce l, []) else if b.1 ≠ 0 then (b.1, []) else if 65536 < b.2.1.length then (6, []) else if ck l + b.2.2 ≠ l.length then (5, []) else (0, b.2.1)
theorem opn_list {T : List Ent} (h : okEs true [] T) (hl : T.length ≤ 65536) : opn (listB T) = (0, T) := by
  have c := cd_whole (n := T.length) (by omega) (entsB [] T)
  have hd : (listB T).drop (ck (listB T)) = entsB [] T := by unfold listB; rw [c.2.2, List.drop_left]
  have r := rdEs_entsB T true [] [] h
  rw [List.append_nil] at r
  have hn : (cn (listB T)).toNat = T.length := by unfold listB; rw [c.2.1]; rfl
  unfold opn
  simp only [hd, hn, r]
  rw [if_neg (by unfold listB; rw [c.1]; decide), if_neg (by decide), if_neg (by omega), if_neg (by unfold listB; rw [c.2.2, List.length_append]; omega)]
theorem opn_back {l : List UInt8} {T : List Ent} (h : opn l = (0, T)) : listB T = l ∧ okEs true [] T ∧ T.length ≤ 65536 := by
  unfold opn at h
  obtain ⟨e, T', m, hr⟩ : ∃ e T' m, rdEs (cn l).toNat true [] (l.drop (ck l)) = (e, T', m) := ⟨_, _, _, rfl⟩
  simp only [hr] at h
  split at h
  · rename_i g; injection h with h; exact absurd h g
  rename_i g1
  split at h
  · rename_i g; injection h with h; exact absurd h g
  rename_i g2
  split at h
  · injection h with h; cases h
  rename_i g3
  split at h
  · injection h with h; cases h
  rename_i g4
  injection h with _ h
  subst h
  have a := cn_of' (show ce l = 0 by omega)
  obtain ⟨a1, a2⟩ := rd_back a.1
  obtain ⟨b1, b2, b3, b4⟩ := rdEs_back _ _ _ _ _ _ (show rdEs (cn l).toNat true [] (l.drop (ck l)) = (0, T', m) by rw [hr]; congr 1; omega)
  have hm : (l.drop (ck l)).drop m = [] := List.drop_eq_nil_of_le (by rw [List.length_drop]; omega)
  rw [hm, List.append_nil] at b3
  refine ⟨?_, b2, by omega⟩
  unfold listB
  rw [b3, b1, show (((cn l).toNat : Nat) : Int) = rn l by omega, a.2.2.1]
  exact a1
end Go.Proofs.Ytbmihajbdobgbaa
