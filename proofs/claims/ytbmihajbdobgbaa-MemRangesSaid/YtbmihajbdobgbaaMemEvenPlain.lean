/- A tree made even: what is too high is hung further up. -/
import Derived.Test.YtbmihajbdobgbaaMemPlain
set_option linter.unusedVariables false
namespace Go.Proofs.Ytbmihajbdobgbaa
section
variable {α : Type}
/-- The tree t of a key over two sides, of which one may be higher by two. -/
structure Ev (k : List UInt8) (x : α) (l r t : Tr α) : Prop where
  prs : t.prs = l.prs ++ (k, x) :: r.prs
  avl : t.avl
  lo : max l.ht r.ht ≤ t.ht
  hi : t.ht ≤ max l.ht r.ht + 1
  eq : l.ht ≤ r.ht + 1 → r.ht ≤ l.ht + 1 → t.ht = max l.ht r.ht + 1
theorem ev_none {k : List UInt8} {x : α} {l r : Tr α} (hl : l.avl) (hr : r.avl) (h1 : l.ht ≤ r.ht + 1) (h2 : r.ht ≤ l.ht + 1) (c : Nat) : Ev k x l r (.node c k x l r) :=
  ⟨rfl, ⟨⟨h1, h2⟩, hl, hr⟩, by simp only [Tr.ht]; omega, by simp only [Tr.ht]; omega, fun _ _ => by simp only [Tr.ht]; omega⟩
theorem ev_ll {k lk : List UInt8} {x lx : α} {b : Nat} {ll lr r : Tr α} (hl : (Tr.node b lk lx ll lr).avl) (hr : r.avl) (h1 : r.ht + 1 < (Tr.node b lk lx ll lr).ht) (h2 : (Tr.node b lk lx ll lr).ht ≤ r.ht + 2) (h3 : lr.ht ≤ ll.ht) (a c : Nat) :
    Ev k x (.node b lk lx ll lr) r (.node c lk lx ll (.node a k x lr r)) := by
  obtain ⟨⟨a1, a2⟩, a3, a4⟩ := hl
  simp only [Tr.ht] at h1 h2
  refine ⟨by simp [Tr.prs], ⟨⟨?_, ?_⟩, a3, ⟨?_, ?_⟩, a4, hr⟩, ?_, ?_, fun _ _ => ?_⟩
  all_goals try simp only [Tr.ht] at *
  all_goals omega
theorem ev_lr {k lk mk : List UInt8} {x lx mx : α} {b m : Nat} {ll ml mr r : Tr α} (hl : (Tr.node b lk lx ll (.node m mk mx ml mr)).avl) (hr : r.avl) (h1 : r.ht + 1 < (Tr.node b lk lx ll (.node m mk mx ml mr)).ht) (h2 : (Tr.node b lk lx ll (.node m mk mx ml mr)).ht ≤ r.ht + 2) (h3 : ll.ht < (Tr.node m mk mx ml mr).ht) (a c d : Nat) :
    Ev k x (.node b lk lx ll (.node m mk mx ml mr)) r (.node c mk mx (.node a lk lx ll ml) (.node d k x mr r)) := by
  obtain ⟨⟨a1, a2⟩, a3, ⟨a4, a5⟩, a6, a7⟩ := hl
  simp only [Tr.ht] at h1 h2 h3 a1 a2
  refine ⟨by simp [Tr.prs], ⟨⟨?_, ?_⟩, ⟨⟨?_, ?_⟩, a3, a6⟩, ⟨?_, ?_⟩, a7, hr⟩, ?_, ?_, fun _ _ => ?_⟩
  all_goals try simp only [Tr.ht] at *
  all_goals omega
theorem ev_rr {k rk : List UInt8} {x rx : α} {b : Nat} {l rl rr : Tr α} (hl : l.avl) (hr : (Tr.node b rk rx rl rr).avl) (h1 : l.ht + 1 < (Tr.node b rk rx rl rr).ht) (h2 : (Tr.node b rk rx rl rr).ht ≤ l.ht + 2) (h3 : rl.ht ≤ rr.ht) (a c : Nat) :
    Ev k x l (.node b rk rx rl rr) (.node c rk rx (.node a k x l rl) rr) := by
  obtain ⟨⟨a1, a2⟩, a3, a4⟩ := hr
  simp only [Tr.ht] at h1 h2
  refine ⟨by simp [Tr.prs], ⟨⟨?_, ?_⟩, ⟨⟨?_, ?_⟩, hl, a3⟩, a4⟩, ?_, ?_, fun _ _ => ?_⟩
  all_goals try simp only [Tr.ht] at *
  all_goals omega
theorem ev_rl {k rk mk : List UInt8} {x rx mx : α} {b m : Nat} {l ml mr rr : Tr α} (hl : l.avl) (hr : (Tr.node b rk rx (.node m mk mx ml mr) rr).avl) (h1 : l.ht + 1 < (Tr.node b rk rx (.node m mk mx ml mr) rr).ht) (h2 : (Tr.node b rk rx (.node m mk mx ml mr) rr).ht ≤ l.ht + 2) (h3 : rr.ht < (Tr.node m mk mx ml mr).ht) (a c d : Nat) :
    Ev k x l (.node b rk rx (.node m mk mx ml mr) rr) (.node c mk mx (.node a k x l ml) (.node d rk rx mr rr)) := by
  obtain ⟨⟨a1, a2⟩, ⟨⟨a4, a5⟩, a6, a7⟩, a8⟩ := hr
  simp only [Tr.ht] at h1 h2 h3 a1 a2
  refine ⟨by simp [Tr.prs], ⟨⟨?_, ?_⟩, ⟨⟨?_, ?_⟩, hl, a6⟩, ⟨?_, ?_⟩, a7, a8⟩, ?_, ?_, fun _ _ => ?_⟩
  all_goals try simp only [Tr.ht] at *
  all_goals omega
/-- What a key put in leaves: no lower, and higher by one at most. -/
theorem up_left {k : List UInt8} {x : α} {l l' r t : Tr α} (hb : l.ht ≤ r.ht + 1 ∧ r.ht ≤ l.ht + 1) (h1 : l.ht ≤ l'.ht) (h2 : l'.ht ≤ l.ht + 1) (e : Ev k x l' r t) : 1 + max l.ht r.ht ≤ t.ht ∧ t.ht ≤ 1 + max l.ht r.ht + 1 := by
  obtain ⟨_, _, lo, hi, eq⟩ := e
  by_cases h : l'.ht ≤ r.ht + 1
  · have := eq h (by omega)
    omega
  · omega
theorem up_right {k : List UInt8} {x : α} {l r r' t : Tr α} (hb : l.ht ≤ r.ht + 1 ∧ r.ht ≤ l.ht + 1) (h1 : r.ht ≤ r'.ht) (h2 : r'.ht ≤ r.ht + 1) (e : Ev k x l r' t) : 1 + max l.ht r.ht ≤ t.ht ∧ t.ht ≤ 1 + max l.ht r.ht + 1 := by
  obtain ⟨_, _, lo, hi, eq⟩ := e
  by_cases h : r'.ht ≤ l.ht + 1
  · have := eq (by omega) h
    omega
  · omega
/-- What a key taken away leaves: no higher, and lower by one at most. -/
theorem dn_left {k : List UInt8} {x : α} {l l' r t : Tr α} (hb : l.ht ≤ r.ht + 1 ∧ r.ht ≤ l.ht + 1) (h1 : l'.ht ≤ l.ht) (h2 : l.ht ≤ l'.ht + 1) (e : Ev k x l' r t) : t.ht ≤ 1 + max l.ht r.ht ∧ 1 + max l.ht r.ht ≤ t.ht + 1 := by
  obtain ⟨_, _, lo, hi, eq⟩ := e
  by_cases h : r.ht ≤ l'.ht + 1
  · have := eq (by omega) h
    omega
  · omega
theorem dn_right {k : List UInt8} {x : α} {l r r' t : Tr α} (hb : l.ht ≤ r.ht + 1 ∧ r.ht ≤ l.ht + 1) (h1 : r'.ht ≤ r.ht) (h2 : r.ht ≤ r'.ht + 1) (e : Ev k x l r' t) : t.ht ≤ 1 + max l.ht r.ht ∧ 1 + max l.ht r.ht ≤ t.ht + 1 := by
  obtain ⟨_, _, lo, hi, eq⟩ := e
  by_cases h : l.ht ≤ r'.ht + 1
  · have := eq h (by omega)
    omega
  · omega
end
end Go.Proofs.Ytbmihajbdobgbaa
