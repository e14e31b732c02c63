/- Texts put together: WalFullWalk, WalAppend, ManDraft, ManOps1, ManCall, ManPlain2, ManCmp, ManAtS -/
import Derived.Test.YtfbaenhajlckjaaGreatMWho09
import Derived.Test.YtfbaenhajlckjaaGreatMWho05
import Derived.Maps.OwnSet
import Derived.Test.YtfbaenhajlckjaaGreatMWho04
import Derived.RegionTactic
import Derived.Shelf.Abstract
import Derived.Sort.Grow
import Derived.Sort.Statements
import Derived.Shelf.SlSortCmp.QuietGrown
/- WalFull, walked: a group for which there is no room is not written, waits, and is written where there is room. -/
set_option linter.unusedVariables false
set_option maxRecDepth 100000
set_option maxRecDepth 100000
namespace Go.Proofs.YtfbaenhajlckjaaGreat
open Go.RowKit

theorem Lg.low {B lb d wt wr su : Nat} {w w' : World} {s : DS} {file : Int} {F : List UInt8} (h : Lg (New (fun k => B ≤ k) w) w' lb d s file F wt wr su) (hB : B ≤ w.heap.size) : Lg (fun k => B ≤ k) w' lb d s file F wt wr su :=
  h.mono fun k _ hk => by rcases hk with hk | hk; (exact hk); (exact Nat.le_trans hB hk)
theorem Lg.disk {O : Nat → Prop} {w : World} {lb d wt wr su : Nat} {s : DS} {file : Int} {F : List UInt8} (h : Lg O w lb d s file F wt wr su) : ∃ S, Disk S w d s := by
  obtain ⟨S, fv, h1, _⟩ := h
  exact ⟨S, h1⟩
theorem file1_sync (r : Nat) (b : List UInt8) (st : Nat) : ∃ s2, (file1 r b st).sync 1 = (s2, 0) := by
  unfold DS.sync
  rw [if_neg (by simp [file1]), file1_find]
  simp only
  rw [if_neg (by simp [file1])]
  exact ⟨_, rfl⟩
theorem file1_size (r : Nat) (b : List UInt8) (st : Nat) : (file1 r b st).size 1 = ((b.length : Int), 0, 0) := by
  unfold DS.size
  rw [if_neg (by simp [file1]), file1_find]
theorem file1_read (r : Nat) (b : List UInt8) (st : Nat) : (file1 r b st).read 1 0 (b.length : Int) = (b, 0) := by
  unfold DS.read
  rw [if_neg (by simp [file1]), file1_find]
  simp only
  rw [if_neg (by omega)]
  simp

end Go.Proofs.YtfbaenhajlckjaaGreat
/- A row that is appended to: the elder slice of it reads as it did; where the new one lies. -/
set_option linter.unusedVariables false
set_option maxRecDepth 100000
set_option maxRecDepth 100000
namespace Go.Proofs.YtfbaenhajlckjaaGreat
open Go.RowKit

/-- Elements more. -/
theorem run_append_offK {P : Program} {w : World} {B : Nat} (t ty e : TypeId) (i : TypeInfo) (z : Value) (size bytes : Nat) (ht : P.underlying t = some (.slice e)) (hi : P.info? e = some i) (hz : i.zero = some z)
    (hsize : i.size = size) (hby : i.bytes = bytes) (hzs : z.cells.size = size)
    {v : Value} {n : Nat} {xs : List Value} (h : OffRow w B e size v n xs) (x : Value) (m : Nat) (news : List Value) (hs : Src P size t x m news w)
    (h63 : n + m ≤ maxLen) (hbytes : (n + m) * bytes ≤ 140737488355328) (hB : B ≤ w.heap.size) :
    ∃ v' w', (Builtin.append_ #[t, t] ty #[v, x]).run P w = .ok v' w' ∧ OffRow w' B e size v' (n + m) (xs ++ news) ∧ w.grownBy w' v.ownBlock ∧ OffRow w' B e size v n xs ∧ ((∃ a cap, v = .slice a n cap ∧ v' = .slice a (n + m) cap) ∨ v'.ownBlock = some w.heap.size) := by
  subst hsize hby
  have hlen : (xs ++ news).length = (n + m) * i.size := by rw [List.length_append, h.1, hs.newsLen, Nat.add_mul]
  have hsmall : ((n + m : Nat) : Int) ≤ 9223372036854775807 := by unfold maxLen at h63; omega
  have grown : ∀ old, old < n + m → OffRow (w.drew.alloc (.cells ((xs ++ news).toArray ++ Builtin.zeroCells z.cells (grownCap w (n + m) old e - (n + m))) e)) B e i.size (.slice (some ⟨w.heap.size, 0, none⟩) (n + m) (grownCap w (n + m) old e)) (n + m) (xs ++ news) := by
    intro old ho
    refine ⟨hlen, .inr ⟨w.heap.size, 0, _, _, rfl, hB, heap_new w.drew _, grownCap_ge w (n + m) old e, grownCap_le_maxLen w (n + m) old e h63, ?_, fun j hj => ?_⟩⟩
    · have := grownCap_ge w (n + m) old e
      rw [Array.size_append, size_zeroCells, hzs, List.size_toArray, hlen, ← Nat.add_mul]
      exact Nat.le_of_eq (by rw [Nat.zero_add]; congr 1; omega)
    · rw [Nat.zero_add, Array.getElem?_append_left (by simpa [hlen] using hj)]
      simp
  rcases h.2 with ⟨rfl, rfl⟩ | ⟨g, off, cap, cur, rfl, hBg, hg, h1, h2, h3, h4⟩
  · obtain rfl : xs = [] := List.eq_nil_of_length_eq_zero (by simpa using h.1)
    by_cases hm : m = 0
    · subst hm
      obtain rfl : news = [] := List.eq_nil_of_length_eq_zero (by simpa using hs.newsLen)
      refine ⟨.slice none 0 0, w, ?_, OffRow.nil w B e i.size, ⟨rfl, rfl, rfl, Nat.le_refl _, fun _ _ _ => rfl⟩, OffRow.nil w B e i.size, .inl ⟨none, 0, rfl, rfl⟩⟩
      have hk := hs.kind
      simp [Builtin.append_, run_underlying ht, sizeOf, typeInfo, hi, hs.len, hs.cells]
    · have hold : (Builtin.firstCells i.size 0 (.slice none 0 0)).run P w.drew = .ok (#[] : Array Value) w.drew := rfl
      have hr := run_append_grow_src (P := P) w t t ty e i z ht hi hz none 0 0 [] (by simpa using hold) x m news hs (by omega) (by simpa using hsmall) (growslice_fits (by omega) (by simpa using hbytes))
      simp only [Nat.zero_add, List.nil_append] at hr
      have hgr := grown 0 (by omega)
      simp only [Nat.zero_add, List.nil_append] at hgr ⊢
      exact ⟨_, _, hr, hgr, ⟨rfl, rfl, rfl, by simp, fun k hk _ => Below.heap_alloc w.drew _ k hk⟩, OffRow.nil _ B e i.size, .inr rfl⟩
  · by_cases hroom : n + m ≤ cap
    · have hbd : ∀ j, j < news.length → off + n * i.size + j < cur.size := by
        intro j hj
        rw [hs.newsLen] at hj
        have : (n + m) * i.size ≤ cap * i.size := Nat.mul_le_mul_right _ hroom
        rw [Nat.add_mul] at this
        omega
      have hr := run_append_room_src (P := P) w t t ty e i ht hi g off n cap x m news hs hroom (fun j hj => by simp [World.cell?, hg, hbd j hj]) (fun j hj => by simp [World.frozen?, hg])
      obtain ⟨cur', a1, a2, a3, a4⟩ := setCells_heap news g (off + n * i.size) w cur e hg
      obtain ⟨b1, b2, b3, b4⟩ := setCells_meta news g (off + n * i.size) w
      refine ⟨_, _, hr, ⟨hlen, .inr ⟨g, off, cap, cur', rfl, hBg, a1, hroom, h2, by omega, fun j hj => ?_⟩⟩, ⟨b1, b2, b3, by omega, fun k _ hk => setCells_other _ _ _ _ _ (fun e => hk (by simp [Value.ownBlock, e]))⟩, ⟨h.1, .inr ⟨g, off, cap, cur', rfl, hBg, a1, h1, h2, by omega, fun j hj => by rw [a4 _ (.inl (by omega)), h4 j hj]⟩⟩, .inl ⟨_, _, rfl, rfl⟩⟩
      by_cases hjo : j < n * i.size
      · rw [a4 _ (.inl (by omega)), h4 j hjo, List.getElem?_append_left (by rw [h.1]; exact hjo)]
      · have hjn : j - n * i.size < news.length := by rw [hs.newsLen]; rw [Nat.add_mul] at hj; omega
        rw [List.getElem?_append_right (by rw [h.1]; omega), h.1, ← a3 (j - n * i.size) hjn (hbd _ hjn)]
        congr 1
        omega
    · have hold : (Builtin.firstCells i.size n (.slice (some ⟨g, off, none⟩) n cap)).run P w.drew = .ok xs.toArray w.drew :=
        run_firstCells_some w.drew i.size n ⟨g, off, none⟩ n cap xs h.1 (fun j u hj => by
          have hjl : j < n * i.size := by rw [← h.1]; exact (List.getElem?_eq_some_iff.1 hj).1
          rw [addr_add]
          show w.cell? _ = _
          rw [← hj, ← h4 j hjl]
          simp [World.cell?, hg])
      have hr := run_append_grow_src (P := P) w t t ty e i z ht hi hz (some ⟨g, off, none⟩) n cap xs hold x m news hs (by omega) hsmall (growslice_fits (by omega) hbytes)
      exact ⟨_, _, hr, grown cap (by omega), ⟨rfl, rfl, rfl, by simp, fun k hk _ => Below.heap_alloc w.drew _ k hk⟩, OffRow.kept h (fun j hj => by obtain ⟨_, hlt⟩ := h.lt j hj; exact Below.heap_alloc w.drew _ j hlt), .inr rfl⟩
theorem wp_append_offK {P : Program} {w : World} {o : Oper} {a : Act} {K : Act → World → Prop} {Q : Exit → Act → World → Prop} (s x : Operand) (t : TypeId)
    (ho : o.op = .call { callee := .builtin .append, args := #[s, x], argTypes := #[t, t] })
    (B : Nat) (e : TypeId) (i : TypeInfo) (z : Value) (size bytes : Nat) (ht : P.underlying t = some (.slice e)) (hi : P.info? e = some i) (hz : i.zero = some z)
    (hsize : i.size = size) (hby : i.bytes = bytes) (hzs : z.cells.size = size)
    (v : Value) (n : Nat) (xs : List Value) (hs : a.eval s = v) (hown : OffRow w B e size v n xs) (xv : Value) (hx : a.eval x = xv) (m : Nat) (news : List Value) (hsrc : Src P size t xv m news w)
    (h63 : n + m ≤ maxLen) (hbytes : (n + m) * bytes ≤ 140737488355328) (hB : B ≤ w.heap.size)
    (h : ∀ v' w', OffRow w' B e size v' (n + m) (xs ++ news) → w.grownBy w' v.ownBlock → OffRow w' B e size v n xs ∧ ((∃ a cap, v = .slice a n cap ∧ v' = .slice a (n + m) cap) ∨ v'.ownBlock = some w.heap.size) → K (a.put o.dst v') w') : o.wp P a w K Q := by
  obtain ⟨v', w', hr, h2, h3, h4⟩ := run_append_offK (P := P) t o.type e i z size bytes ht hi hz hsize hby hzs hown xv m news hsrc h63 hbytes hB
  unfold Oper.wp execOp
  simp only [ho, resolve, invoke, builtin, Sem.run_bind, Sem.run_pure, Result.andThen_ok, List.map_toArray, List.map_cons, List.map_nil, hs, hx, hr]
  exact h v' w' h2 h3 h4
/-- At a plain region's list. -/
theorem wpList_append_offK {P : Program} {w : World} {ops : Array Oper} {rest : List Oper} {o : Oper} {a : Act} {Q : Exit → Act → World → Prop} (hgd : o.guard = none) (s x : Operand) (t : TypeId)
    (ho : o.op = .call { callee := .builtin .append, args := #[s, x], argTypes := #[t, t] })
    (B : Nat) (e : TypeId) (i : TypeInfo) (z : Value) (size bytes : Nat) (ht : P.underlying t = some (.slice e)) (hi : P.info? e = some i) (hz : i.zero = some z)
    (hsize : i.size = size) (hby : i.bytes = bytes) (hzs : z.cells.size = size)
    (v : Value) (n : Nat) (xs : List Value) (hs : a.eval s = v) (hown : OffRow w B e size v n xs) (xv : Value) (hx : a.eval x = xv) (m : Nat) (news : List Value) (hsrc : Src P size t xv m news w)
    (h63 : n + m ≤ maxLen) (hbytes : (n + m) * bytes ≤ 140737488355328) (hB : B ≤ w.heap.size)
    (h : ∀ v' w', OffRow w' B e size v' (n + m) (xs ++ news) → w.grownBy w' v.ownBlock → OffRow w' B e size v n xs ∧ ((∃ a cap, v = .slice a n cap ∧ v' = .slice a (n + m) cap) ∨ v'.ownBlock = some w.heap.size) → wpList P ops Q rest (a.put o.dst v') w') : wpList P ops Q (o :: rest) a w :=
  wpList_plain hgd fun _ hK => wp_append_offK s x t ho B e i z size bytes ht hi hz hsize hby hzs v n xs hs hown xv hx m news hsrc h63 hbytes hB fun v' w' h2 h3 h4 => hK _ _ (h v' w' h2 h3 h4)
/-- At a step of a region that draws. -/
theorem step_append_offK {P : Program} {w : World} {ops : Array Oper} {o : Oper} {a : Act} {K : Act → World → Prop} {Q : Exit → Act → World → Prop} {E : Prop} (hgd : o.guard = none) (s x : Operand) (t : TypeId)
    (ho : o.op = .call { callee := .builtin .append, args := #[s, x], argTypes := #[t, t] })
    (B : Nat) (e : TypeId) (i : TypeInfo) (z : Value) (size bytes : Nat) (ht : P.underlying t = some (.slice e)) (hi : P.info? e = some i) (hz : i.zero = some z)
    (hsize : i.size = size) (hby : i.bytes = bytes) (hzs : z.cells.size = size)
    (v : Value) (n : Nat) (xs : List Value) (hs : a.eval s = v) (hown : OffRow w B e size v n xs) (xv : Value) (hx : a.eval x = xv) (m : Nat) (news : List Value) (hsrc : Src P size t xv m news w)
    (h63 : n + m ≤ maxLen) (hbytes : (n + m) * bytes ≤ 140737488355328) (hB : B ≤ w.heap.size)
    (h : ∀ v' w', OffRow w' B e size v' (n + m) (xs ++ news) → w.grownBy w' v.ownBlock → OffRow w' B e size v n xs ∧ ((∃ a cap, v = .slice a n cap ∧ v' = .slice a (n + m) cap) ∨ v'.ownBlock = some w.heap.size) → K (a.put o.dst v') w') :
    if Region.wanted o (yielded ops a.tmps) = true then Oper.wp P o a w K Q else E := by
  have hw : Region.wanted o (yielded ops a.tmps) = true := by simp [Region.wanted, hgd]
  rw [if_pos hw]
  exact wp_append_offK s x t ho B e i z size bytes ht hi hz hsize hby hzs v n xs hs hown xv hx m news hsrc h63 hbytes hB h
end Go.Proofs.YtfbaenhajlckjaaGreat
/- A draft in memory: its lists, and the set of its files. -/
set_option linter.unusedVariables false
set_option maxRecDepth 100000
namespace Go.Proofs.YtfbaenhajlckjaaGreat
open Go.RowKit Go.Maps Go.WideShapes Go.ChangeMaps

def fent (f : Int) : Lit × DataW Unit := (.int .i64 f, .agg [])
theorem keyedI : Keyed Tryz.prog 3 := int_keyed Tryz.underlying3
theorem zeroU (w : World) : (zeroValue 164).run Tryz.prog w = .ok (.agg #[]) w := by kernel_rfl
theorem wf_i64 {f : Int} (h1 : -9223372036854775808 ≤ f) (h2 : f ≤ 9223372036854775807) : (Lit.int .i64 f).wf = true := by
  have a : IntKind.i64.min = -9223372036854775808 := rfl
  have b : IntKind.i64.max = 9223372036854775807 := rfl
  simp [Lit.wf, a, b, h1, h2]
def SetM (w : World) (mb : Nat) (F : List Int) : Prop := ∃ l, w.ownsMap Tryz.prog 3 (unitElem (H := Unit)) mb F.length (.map l) ∧ l.Perm (F.map fent)
theorem SetM.obj {w : World} {mb : Nat} {F : List Int} (h : SetM w mb F) : ∃ x c, w.heap[mb]? = some (.map x c) := by
  obtain ⟨l, ⟨x, c, hb, _⟩, _⟩ := h
  exact ⟨x, c, hb⟩
theorem SetM.kept {w w' : World} {mb : Nat} {F : List Int} (h : SetM w mb F) (hk : w'.heap[mb]? = w.heap[mb]?) : SetM w' mb F := by
  obtain ⟨l, ⟨x, c, hb, r⟩, hp⟩ := h
  exact ⟨l, ⟨x, c, hk.trans hb, r⟩, hp⟩
theorem SetM.perm {w : World} {mb : Nat} {F F' : List Int} (h : SetM w mb F) (hp : F.Perm F') : SetM w mb F' := by
  obtain ⟨l, hl, hq⟩ := h
  exact ⟨l, by rw [← hp.length_eq]; exact hl, hq.trans (hp.map _)⟩
theorem key_same (a b : Int) : (Lit.int .i64 a).sameKey (.int .i64 b) = decide (a = b) := by
  by_cases h : a = b
  · subst h
    rw [WideAt.sameKey_self (by simp [WideAt.IsKeyLit]), decide_eq_true rfl]
  · rw [decide_eq_false h]
    exact sameKey_ne fun e => h (by injection e)
theorem set_has {l : List (Lit × DataW Unit)} {F : List Int} (hp : l.Perm (F.map fent)) (f : Int) : Maps.has (DataW.map l) (.int .i64 f) = decide (f ∈ F) := by
  rw [Bool.eq_iff_iff]
  simp only [Maps.has, List.any_eq_true, decide_eq_true_eq]
  constructor
  · rintro ⟨p, hpl, hs⟩
    obtain ⟨g, hg, rfl⟩ := List.mem_map.1 (hp.mem_iff.1 hpl)
    rw [show (fent g).1 = Lit.int .i64 g from rfl, key_same] at hs
    have : g = f := by simpa using hs
    rw [← this]; exact hg
  · intro hf
    exact ⟨fent f, hp.mem_iff.2 (List.mem_map.2 ⟨f, hf, rfl⟩), by rw [show (fent f).1 = Lit.int .i64 f from rfl, key_same]; simp⟩
theorem set_put {w : World} {mb : Nat} {F : List Int} {f : Int} {l : List (Lit × DataW Unit)} (hp : l.Perm (F.map fent)) (hno : ¬ f ∈ F)
    (h : w.ownsMap Tryz.prog 3 (unitElem (H := Unit)) mb (F.length + 1) ((DataW.map l).put (.int .i64 f) (.agg []))) : SetM w mb (f :: F) := by
  refine ⟨DataW.insert (.int .i64 f, .agg []) (l.filter fun p => !p.1.sameKey (.int .i64 f)), h, ?_⟩
  have hfl : (l.filter fun p => !p.1.sameKey (.int .i64 f)) = l := List.filter_eq_self.2 fun p hpl => by
    obtain ⟨x, hx, rfl⟩ := List.mem_map.1 (hp.mem_iff.1 hpl)
    have : x ≠ f := fun e => hno (e ▸ hx)
    rw [show (fent x).1 = Lit.int .i64 x from rfl, key_same, decide_eq_false this]
    rfl
  rw [hfl]
  refine (insert_perm _ _).trans ?_
  rw [List.map_cons]
  exact List.Perm.cons _ hp
theorem set_tight {w : World} {mb n : Nat} {l : List (Lit × DataW Unit)} (h : w.ownsMap Tryz.prog 3 (unitElem (H := Unit)) mb n (.map l)) : w.ownsMap Tryz.prog 3 (unitElem (H := Unit)) mb l.length (.map l) := by
  obtain ⟨es, clock, hb, F, hs, hD⟩ := h
  injection hD with hD
  refine ⟨es, clock, hb, F, ?_, by rw [hD]⟩
  rw [hD, length_sorted]
  simp
theorem set_del {w : World} {mb m : Nat} {F : List Int} {f : Int} {l : List (Lit × DataW Unit)} (hp : l.Perm (F.map fent))
    (h : w.ownsMap Tryz.prog 3 (unitElem (H := Unit)) mb m ((DataW.map l).del (.int .i64 f))) : SetM w mb (F.filter fun g => decide (g ≠ f)) := by
  have h' : w.ownsMap Tryz.prog 3 (unitElem (H := Unit)) mb m (.map (l.filter fun p => !p.1.sameKey (.int .i64 f))) := h
  have hpp : (l.filter fun p => !p.1.sameKey (.int .i64 f)).Perm ((F.filter fun g => decide (g ≠ f)).map fent) := by
    refine (hp.filter _).trans ?_
    rw [List.filter_map]
    have : ((fun p : Lit × DataW Unit => !p.1.sameKey (.int .i64 f)) ∘ fent) = fun g => decide (g ≠ f) := by
      funext g
      show (!(Lit.int .i64 g).sameKey (.int .i64 f)) = _
      rw [key_same]
      simp
    rw [this]
  have := set_tight h'
  rw [hpp.length_eq, List.length_map] at this
  exact ⟨_, this, hpp⟩
theorem turned_other' {w w' : World} {b : Nat} (h : w.mapTurned w' b) (k : Nat) (hk : k ≠ b) : w'.heap[k]? = w.heap[k]? := by
  obtain ⟨es, clock, es', clock', hb, rfl⟩ := h
  exact heap_setBlock_other hb _ hk
theorem turned_meta {w w' : World} {b : Nat} (h : w.mapTurned w' b) : w.grownBy w' (some b) := by
  obtain ⟨es, clock, es', clock', hb, rfl⟩ := h
  exact ⟨rfl, rfl, rfl, by simp [setBlock], fun k _ hk => heap_setBlock_other hb _ (fun e => hk (by rw [e]))⟩

/-- A draft in memory, all of it from block B on. -/
structure Dr (B : Nat) (w : World) (db : Nat) (s : St) (tv sv lv : Value) (mb : Nat) : Prop where
  obj : w.heap[db]? = some (.cells #[tv, sv, lv, .int .i64 s.next, .map (some mb)] 104 (0, 0))
  lo : B ≤ db
  tabs : OwnTb w B tv s.tabs
  stos : OwnSo w B sv s.stos
  logs : OwnI w B lv s.logs
  set : SetM w mb s.files
  mlo : B ≤ mb
namespace Dr
variable {B db mb : Nat} {w w' : World} {s : St} {tv sv lv : Value}
theorem lt (h : Dr B w db s tv sv lv mb) : db < w.heap.size := heap_lt h.obj
theorem ltm (h : Dr B w db s tv sv lv mb) : mb < w.heap.size := by obtain ⟨x, c, e⟩ := h.set.obj; exact heap_lt e
theorem nmb (h : Dr B w db s tv sv lv mb) : mb ≠ db := by
  rintro rfl
  obtain ⟨x, c, e⟩ := h.set.obj
  rw [h.obj] at e; cases e
theorem nt (h : Dr B w db s tv sv lv mb) {g : Nat} (hg : tv.ownBlock = some g) : g ≠ db ∧ g ≠ mb ∧ sv.ownBlock ≠ some g ∧ lv.ownBlock ≠ some g := by
  obtain ⟨cur, hc⟩ := OffRow.tag h.tabs hg
  refine ⟨?_, ?_, fun e => ?_, fun e => ?_⟩
  · rintro rfl; rw [h.obj] at hc; simp at hc
  · rintro rfl; obtain ⟨x, c, e⟩ := h.set.obj; rw [hc] at e; cases e
  · obtain ⟨c2, h2⟩ := OffRow.tag h.stos e; rw [hc] at h2; simp at h2
  · obtain ⟨c2, h2⟩ := OffRow.tag h.logs e; rw [hc] at h2; simp at h2
theorem ns (h : Dr B w db s tv sv lv mb) {g : Nat} (hg : sv.ownBlock = some g) : g ≠ db ∧ g ≠ mb ∧ tv.ownBlock ≠ some g ∧ lv.ownBlock ≠ some g := by
  obtain ⟨cur, hc⟩ := OffRow.tag h.stos hg
  refine ⟨?_, ?_, fun e => ?_, fun e => ?_⟩
  · rintro rfl; rw [h.obj] at hc; simp at hc
  · rintro rfl; obtain ⟨x, c, e⟩ := h.set.obj; rw [hc] at e; cases e
  · obtain ⟨c2, h2⟩ := OffRow.tag h.tabs e; rw [hc] at h2; simp at h2
  · obtain ⟨c2, h2⟩ := OffRow.tag h.logs e; rw [hc] at h2; simp at h2
theorem nl (h : Dr B w db s tv sv lv mb) {g : Nat} (hg : lv.ownBlock = some g) : g ≠ db ∧ g ≠ mb ∧ tv.ownBlock ≠ some g ∧ sv.ownBlock ≠ some g := by
  obtain ⟨cur, hc⟩ := OffRow.tag h.logs hg
  refine ⟨?_, ?_, fun e => ?_, fun e => ?_⟩
  · rintro rfl; rw [h.obj] at hc; simp at hc
  · rintro rfl; obtain ⟨x, c, e⟩ := h.set.obj; rw [hc] at e; cases e
  · obtain ⟨c2, h2⟩ := OffRow.tag h.tabs e; rw [hc] at h2; simp at h2
  · obtain ⟨c2, h2⟩ := OffRow.tag h.stos e; rw [hc] at h2; simp at h2
/-- A draft stays while other blocks are written. -/
theorem kept (h : Dr B w db s tv sv lv mb) (k : ∀ j, j < w.heap.size → w'.heap[j]? = w.heap[j]?) : Dr B w' db s tv sv lv mb :=
  ⟨(k _ h.lt).trans h.obj, h.lo, OffRow.kept h.tabs fun j hj => k j (OffRow.lt h.tabs j hj).2, OffRow.kept h.stos fun j hj => k j (OffRow.lt h.stos j hj).2, OffRow.kept h.logs fun j hj => k j (OffRow.lt h.logs j hj).2, h.set.kept (k _ h.ltm), h.mlo⟩
theorem below (h : Dr B w db s tv sv lv mb) (k : Below w.heap.size w w') : Dr B w' db s tv sv lv mb := h.kept fun j hj => k.block j hj
theorem cell (h : Dr B w db s tv sv lv mb) (i : Nat) : w.cell? ⟨db, i, none⟩ = #[tv, sv, lv, .int .i64 s.next, Value.map (some mb)][i]? := by simp [World.cell?, h.obj]
theorem free (h : Dr B w db s tv sv lv mb) (i : Nat) : w.frozen? ⟨db, i, none⟩ = false := by simp [World.frozen?, h.obj]
/-- New tables. -/
theorem putT (h : Dr B w db s tv sv lv mb) {tv' : Value} {T' : List Tb} (ho : OwnTb w' B tv' T') (k : ∀ j, j < w.heap.size → tv.ownBlock ≠ some j → w'.heap[j]? = w.heap[j]?) (hn : ∀ g, tv'.ownBlock = some g → g ≠ db) :
    (w'.setCell ⟨db, 0, none⟩ tv').heap[db]? = some (.cells #[tv', sv, lv, .int .i64 s.next, .map (some mb)] 104 (0, 0)) ∧ OwnTb (w'.setCell ⟨db, 0, none⟩ tv') B tv' T' ∧ OwnSo (w'.setCell ⟨db, 0, none⟩ tv') B sv s.stos ∧ OwnI (w'.setCell ⟨db, 0, none⟩ tv') B lv s.logs ∧ SetM (w'.setCell ⟨db, 0, none⟩ tv') mb s.files := by
  have e1 : w'.heap[db]? = _ := (k db h.lt (fun e => (h.nt e).1 rfl)).trans h.obj
  refine ⟨by rw [heap_set e1]; simp, OffRow.kept ho fun j hj => heap_set_other (hn j hj) _, ?_, ?_, ?_⟩
  · exact OffRow.kept h.stos fun j hj => (heap_set_other (h.ns hj).1 _).trans (k j (OffRow.lt h.stos j hj).2 (h.ns hj).2.2.1)
  · exact OffRow.kept h.logs fun j hj => (heap_set_other (h.nl hj).1 _).trans (k j (OffRow.lt h.logs j hj).2 (h.nl hj).2.2.1)
  · exact h.set.kept ((heap_set_other h.nmb _).trans (k mb h.ltm (fun e => (h.nt e).2.1 rfl)))
theorem putS (h : Dr B w db s tv sv lv mb) {sv' : Value} {S' : List So} (ho : OwnSo w' B sv' S') (k : ∀ j, j < w.heap.size → sv.ownBlock ≠ some j → w'.heap[j]? = w.heap[j]?) (hn : ∀ g, sv'.ownBlock = some g → g ≠ db) :
    (w'.setCell ⟨db, 1, none⟩ sv').heap[db]? = some (.cells #[tv, sv', lv, .int .i64 s.next, .map (some mb)] 104 (0, 0)) ∧ OwnTb (w'.setCell ⟨db, 1, none⟩ sv') B tv s.tabs ∧ OwnSo (w'.setCell ⟨db, 1, none⟩ sv') B sv' S' ∧ OwnI (w'.setCell ⟨db, 1, none⟩ sv') B lv s.logs ∧ SetM (w'.setCell ⟨db, 1, none⟩ sv') mb s.files := by
  have e1 : w'.heap[db]? = _ := (k db h.lt (fun e => (h.ns e).1 rfl)).trans h.obj
  refine ⟨by rw [heap_set e1]; simp, ?_, OffRow.kept ho fun j hj => heap_set_other (hn j hj) _, ?_, ?_⟩
  · exact OffRow.kept h.tabs fun j hj => (heap_set_other (h.nt hj).1 _).trans (k j (OffRow.lt h.tabs j hj).2 (h.nt hj).2.2.1)
  · exact OffRow.kept h.logs fun j hj => (heap_set_other (h.nl hj).1 _).trans (k j (OffRow.lt h.logs j hj).2 (h.nl hj).2.2.2)
  · exact h.set.kept ((heap_set_other h.nmb _).trans (k mb h.ltm (fun e => (h.ns e).2.1 rfl)))
theorem putL (h : Dr B w db s tv sv lv mb) {lv' : Value} {L' : List Int} (ho : OwnI w' B lv' L') (k : ∀ j, j < w.heap.size → lv.ownBlock ≠ some j → w'.heap[j]? = w.heap[j]?) (hn : ∀ g, lv'.ownBlock = some g → g ≠ db) :
    (w'.setCell ⟨db, 2, none⟩ lv').heap[db]? = some (.cells #[tv, sv, lv', .int .i64 s.next, .map (some mb)] 104 (0, 0)) ∧ OwnTb (w'.setCell ⟨db, 2, none⟩ lv') B tv s.tabs ∧ OwnSo (w'.setCell ⟨db, 2, none⟩ lv') B sv s.stos ∧ OwnI (w'.setCell ⟨db, 2, none⟩ lv') B lv' L' ∧ SetM (w'.setCell ⟨db, 2, none⟩ lv') mb s.files := by
  have e1 : w'.heap[db]? = _ := (k db h.lt (fun e => (h.nl e).1 rfl)).trans h.obj
  refine ⟨by rw [heap_set e1]; simp, ?_, ?_, OffRow.kept ho fun j hj => heap_set_other (hn j hj) _, ?_⟩
  · exact OffRow.kept h.tabs fun j hj => (heap_set_other (h.nt hj).1 _).trans (k j (OffRow.lt h.tabs j hj).2 (h.nt hj).2.2.2)
  · exact OffRow.kept h.stos fun j hj => (heap_set_other (h.ns hj).1 _).trans (k j (OffRow.lt h.stos j hj).2 (h.ns hj).2.2.2)
  · exact h.set.kept ((heap_set_other h.nmb _).trans (k mb h.ltm (fun e => (h.nl e).2.1 rfl)))
end Dr
/-- Lists and a set that stand beside a draft's block: all that a draft is but the set's own files. -/
structure Dr0 (B : Nat) (w : World) (db : Nat) (s : St) (F : List Int) (tv sv lv : Value) (mb : Nat) : Prop where
  obj : w.heap[db]? = some (.cells #[tv, sv, lv, .int .i64 s.next, .map (some mb)] 104 (0, 0))
  lo : B ≤ db
  tabs : OwnTb w B tv s.tabs
  stos : OwnSo w B sv s.stos
  logs : OwnI w B lv s.logs
  set : SetM w mb F
  mlo : B ≤ mb
/-- The set turned. -/
theorem Dr0.turn {B db mb : Nat} {w w' : World} {s : St} {F F' : List Int} {tv sv lv : Value} (h : Dr0 B w db s F tv sv lv mb) (hs : SetM w' mb F') (k : ∀ j, j < w.heap.size → j ≠ mb → w'.heap[j]? = w.heap[j]?) : Dr0 B w' db s F' tv sv lv mb := by
  obtain ⟨x, c, hx⟩ := h.set.obj
  have n1 : db ≠ mb := by rintro rfl; rw [h.obj] at hx; cases hx
  have nt : ∀ g, tv.ownBlock = some g → g ≠ mb := fun g hg e => by obtain ⟨c, hc⟩ := OffRow.tag h.tabs hg; rw [e, hx] at hc; cases hc
  have ns : ∀ g, sv.ownBlock = some g → g ≠ mb := fun g hg e => by obtain ⟨c, hc⟩ := OffRow.tag h.stos hg; rw [e, hx] at hc; cases hc
  have nl : ∀ g, lv.ownBlock = some g → g ≠ mb := fun g hg e => by obtain ⟨c, hc⟩ := OffRow.tag h.logs hg; rw [e, hx] at hc; cases hc
  exact ⟨(k db (heap_lt h.obj) n1).trans h.obj, h.lo, OffRow.kept h.tabs fun j hj => k j (OffRow.lt h.tabs j hj).2 (nt j hj), OffRow.kept h.stos fun j hj => k j (OffRow.lt h.stos j hj).2 (ns j hj), OffRow.kept h.logs fun j hj => k j (OffRow.lt h.logs j hj).2 (nl j hj), hs, h.mlo⟩
theorem Dr.of0 {B db mb : Nat} {w : World} {s : St} {F : List Int} {tv sv lv : Value} (h : Dr0 B w db s F tv sv lv mb) (hp : F.Perm s.files) : Dr B w db s tv sv lv mb := ⟨h.obj, h.lo, h.tabs, h.stos, h.logs, h.set.perm hp, h.mlo⟩
theorem Dr.to0 {B db mb : Nat} {w : World} {s : St} {tv sv lv : Value} (h : Dr B w db s tv sv lv mb) : Dr0 B w db s s.files tv sv lv mb := ⟨h.obj, h.lo, h.tabs, h.stos, h.logs, h.set, h.mlo⟩
end Go.Proofs.YtfbaenhajlckjaaGreat
/- What a draft does: whether a file may be added, a log more, the number of the next file. -/
set_option linter.unusedVariables false
set_option maxRecDepth 100000
namespace Go.Proofs.YtfbaenhajlckjaaGreat
open Go.RowKit Go.Maps Go.WideShapes Go.ChangeMaps
variable {B db mb : Nat} {w : World} {s : St} {tv sv lv : Value}

def mayE (s : St) (f : Int) : Int := if f < 1 then 1 else if f ∈ s.files then 10 else 0
set_option maxHeartbeats 2000000 in
theorem may_add (h : Hid (Dr B w db s tv sv lv mb)) (f : Int) (hf : f ≤ 9223372036854775807) :
    Calls Tryz.prog 179 #[.pointer (some ⟨db, 0, none⟩), .int .i64 f] w fun e w' => e = .returned (.int .i64 (mayE s f)) ∧ Below w.heap.size w w' := by
  have HM := Lib.hid (show mayE s f = _ from rfl)
  obtain ⟨z, hz⟩ : ∃ z, z = mayE s f := ⟨_, rfl⟩
  rw [← hz]
  have HZ := Lib.hid hz
  clear HM hz
  have c4 : w.cell? ⟨db, 4, none⟩ = some (.map (some mb)) := h.out.cell 4
  by_cases h1 : f < 1
  · have hv := Lib.hid (show z = 1 by rw [HZ.out]; unfold mayE; rw [if_pos h1])
    clear HZ
    go_enter Tryz.func179, Tryz.ntmps179
    go_wp2
    go_ret
    exact ⟨by rw [hv.out]; rfl, Below.refl _ _⟩
  · obtain ⟨l, hl, hp⟩ := h.out.set
    have hw : (Lit.int .i64 f).wf = true := wf_i64 (by omega) hf
    have hkey : keyOf Tryz.prog 3 (.int .i64 f) = some (.int .i64 f) := keyOf_int_mk Tryz.underlying3 hw
    have hhas := set_has hp f
    have HH := Lib.hid (And.intro hl hkey)
    obtain ⟨b, hb⟩ : ∃ b, b = decide (f ∈ s.files) := ⟨_, rfl⟩
    rw [← hb] at hhas
    have hv := Lib.hid (show z = if b then 10 else 0 by rw [HZ.out, hb]; unfold mayE; rw [if_neg h1]; simp)
    clear HZ hl hkey hp hw hb
    cases b
    all_goals
      go_enter Tryz.func179, Tryz.ntmps179
      go_wp2_with (at_lookup; refine wpList_lookup_own_unit _ rfl _ _ 102 rfl 3 164 keyedI Tryz.underlying102 (zeroU _) mb _ _ rfl HH.out.1 _ _ rfl HH.out.2 ?_)
      go_ret
      exact ⟨by rw [hv.out]; rfl, (Below.refl _ _).alloc (Nat.le_refl _) _⟩

/-- What a call of a draft leaves: its error; where there is none, the draft of the state behind it. -/
def DoPost (B db : Nat) (w : World) (z : Int) (s' : St) (e : Ending) (w' : World) : Prop := e = .returned (.int .i64 z) ∧ Below B w w' ∧ (z = 0 → ∃ tv sv lv mb, Dr B w' db s' tv sv lv mb)
theorem do_bad {w' : World} {z : Int} {s' : St} (h : Below B w w') (hz : ¬ z = 0) : DoPost B db w z s' (.returned (.int .i64 z)) w' := ⟨rfl, h, fun e => absurd e hz⟩

set_option maxHeartbeats 4000000 in
theorem add_log (h : Hid (Dr B w db s tv sv lv mb)) (f : Int) (hf : f ≤ 9223372036854775807) (hn : Hid (s.logs.length ≤ 1000000000 ∧ s.files.length ≤ 1000000000)) :
    Calls Tryz.prog 140 #[.pointer (some ⟨db, 0, none⟩), .int .i64 f] w (DoPost B db w (mayE s f) { s with logs := s.logs ++ [f] }) := by
  have HM := Lib.hid (may_add h f hf)
  obtain ⟨z, hz⟩ : ∃ z, z = mayE s f := ⟨_, rfl⟩
  rw [← hz] at HM ⊢
  have HZ := Lib.hid hz
  clear hz
  have HB := Lib.hid (show B ≤ w.heap.size by have := h.out.lo; have := h.out.lt; omega)
  by_cases hz0 : z = 0
  · subst hz0
    obtain ⟨hf1, hno⟩ : 1 ≤ f ∧ ¬ f ∈ s.files := by
      have := HZ.out
      unfold mayE at this
      split at this
      · cases this
      · split at this
        · cases this
        · rename_i a b; exact ⟨by omega, b⟩
    have HNO := Lib.hid hno
    have hw : (Lit.int .i64 f).wf = true := wf_i64 (by omega) hf
    have HK := Lib.hid (show keyOf Tryz.prog 3 (.int .i64 f) = some (.int .i64 f) from keyOf_int_mk Tryz.underlying3 hw)
    obtain ⟨i0, hi0, hz0, hz1, hz2⟩ := info_parts infoInt
    have HI := Lib.hid (And.intro hi0 (And.intro hz0 (And.intro hz1 hz2)))
    clear hno hw hi0 hz0 hz1 hz2 HZ
    go_enter Tryz.func140, Tryz.ntmps140
    go_wp2_with fail
    refine HM.out.mono ?_
    rintro e w1 ⟨rfl, k1⟩
    have D1 := Lib.hid (h.out.below k1)
    have K1 := Lib.hid (k1.mono HB.out)
    clear k1
    have c0 : w1.cell? ⟨db, 2, none⟩ = some lv := D1.out.cell 2
    obtain ⟨la, lc, rfl⟩ := OffRow.slice D1.out.logs
    obtain ⟨n, hnl⟩ : ∃ n, n = s.logs.length := ⟨_, rfl⟩
    rw [← hnl] at c0
    have OL := Lib.hid (show OffRow w1 B 3 1 (.slice la n lc) n (flat icell s.logs) by rw [hnl]; exact D1.out.logs)
    rw [← hnl] at D1 h
    have HN := Lib.hid hnl
    clear hnl
    go_wp2_with (at_builtin; refine wpList_append_off rfl (.tmp 17) (.tmp 19) 27 rfl B 3 i0 _ 1 8 Tryz.underlying27 HI.out.1 HI.out.2.1 HI.out.2.2.1 HI.out.2.2.2 rfl (.slice la n lc) n (flat icell s.logs) rfl (OL.out.allocd _) (.slice (some ⟨w1.heap.size, 0, none⟩) 1 1) rfl 1 [.int .i64 f] ?c2 ?c3 ?c4 ?c5 ?_)
    case c2 => exact src_block (size := 1) (cs := #[.int .i64 f]) Tryz.underlying27 (heap_new _ _) 1 1 rfl (by intro u hu; simp at hu; subst hu; rfl)
    case c3 => have := hn.out.1; have := HN.out; unfold maxLen; omega
    case c4 => have := hn.out.1; have := HN.out; omega
    case c5 => have := D1.out.lo; have := D1.out.lt; simp; omega
    intro VV w2 hr2 hg2 hat2
    obtain ⟨a2, c2', rfl⟩ := OffRow.slice hr2
    have O2 := Lib.hid (show OwnI w2 B (.slice a2 (n + 1) c2') (s.logs ++ [f]) by unfold OwnI; rw [List.length_append, flat_append, flat_one, ← HN.out]; exact hr2)
    have K2 := Lib.hid ((K1.out.alloc (by have := K1.out.size; have := HB.out; omega) (.cells #[.int .i64 f] 3)).grown hg2 (by have := K1.out.size; have := HB.out; simp; omega) (fun j hj => ((OL.out.allocd (.cells #[.int .i64 f] 3)).lt j hj).1))
    have k2 : ∀ j, j < w1.heap.size → (Value.slice la n lc).ownBlock ≠ some j → w2.heap[j]? = w1.heap[j]? := fun j hj hne => (hg2.block j (by simp; omega) (fun e => hne e.symm)).trans (Below.heap_alloc w1 _ j hj)
    have hv2 : ∀ g, (Value.slice a2 (n + 1) c2').ownBlock = some g → g ≠ db := fun g hg => by
      rcases hat2 with e | e
      · rw [e] at hg; exact (D1.out.nl hg).1
      · rw [e] at hg
        have := D1.out.lt
        simp at hg
        omega
    obtain ⟨p1, p2, p3, p4, p5⟩ := D1.out.putL O2.out k2 hv2
    have P := Lib.hid (And.intro p1 (And.intro p2 (And.intro p3 (And.intro p4 p5))))
    have e2 : w2.heap[db]? = _ := (k2 db D1.out.lt (fun e => (D1.out.nl e).1 rfl)).trans D1.out.obj
    have d2 : w2.cell? ⟨db, 2, none⟩ = some (.slice la n lc) := by simp [World.cell?, e2]
    have f2 : w2.frozen? ⟨db, 2, none⟩ = false := by simp [World.frozen?, e2]
    have d4 : (w2.setCell ⟨db, 2, none⟩ (.slice a2 (n + 1) c2')).cell? ⟨db, 4, none⟩ = some (.map (some mb)) := by simp [World.cell?, p1]
    have K3 := Lib.hid (K2.out.setCell (p := ⟨db, 2, none⟩) D1.out.lo (.slice a2 (n + 1) c2'))
    obtain ⟨l, hl, hp⟩ := p5
    have HL := Lib.hid (And.intro hl hp)
    have hmx : s.files.length < maxLen := by have := hn.out.2; unfold maxLen; omega
    clear hr2 hg2 hat2 k2 hv2 p1 p2 p3 p4 e2 hl hp c0
    go_wp2_with (at_mapUpdate; refine wpList_mapUpdate_own _ rfl _ _ _ 102 rfl 3 164 keyedI Tryz.underlying102 _ mb _ _ rfl HL.out.1 hmx _ _ _ rfl rfl HK.out _ [] unitElem_mk ?_)
    intro w4 hown4 hgrow4
    have S4 := Lib.hid (set_put HL.out.2 HNO.out hown4)
    have G4 := Lib.hid hgrow4
    clear hown4 hgrow4
    go_wp2
    go_ret
    refine ⟨rfl, K3.out.grown G4.out (by have := K3.out.size; have := HB.out; omega) (fun j hj => by injection hj with hj; rw [← hj]; exact D1.out.mlo), fun _ => ?_⟩
    have d0 : Dr0 B (w2.setCell ⟨db, 2, none⟩ (.slice a2 (n + 1) c2')) db { s with logs := s.logs ++ [f] } s.files tv sv (.slice a2 (n + 1) c2') mb := ⟨P.out.1, D1.out.lo, P.out.2.1, P.out.2.2.1, P.out.2.2.2.1, P.out.2.2.2.2, D1.out.mlo⟩
    refine ⟨tv, sv, (.slice a2 (n + 1) c2'), mb, Dr.of0 (d0.turn S4.out fun j hj hne => G4.out.block j hj (fun e => hne (by injection e))) ?_⟩
    show (f :: s.files).Perm (s.tabs.map (·.file) ++ s.stos.map (·.file) ++ (s.logs ++ [f]))
    rw [← List.append_assoc]
    exact (List.perm_append_singleton f s.files).symm
  · clear HZ
    go_enter Tryz.func140, Tryz.ntmps140
    go_wp2_with fail
    refine HM.out.mono ?_
    rintro e w1 ⟨rfl, k1⟩
    have K1 := Lib.hid (k1.mono HB.out)
    clear k1
    go_wp2
    go_ret
    exact do_bad K1.out hz0
end Go.Proofs.YtfbaenhajlckjaaGreat
/- A call by contract as one step of a region that draws. -/
set_option linter.unusedVariables false
set_option maxRecDepth 100000
namespace Go.Proofs.YtfbaenhajlckjaaGreat
open Go.RowKit
theorem step_callR {P : Program} {ops : Array Oper} {o : Oper} {a : Act} {w : World} {K : Act → World → Prop} {Q : Exit → Act → World → Prop} {E : Prop}
    (hg : o.guard = none) (f : FuncId) (xs : Array Operand) (ts : Array TypeId) (hop : o.op = Op.call { callee := Callee.value (Operand.func f), args := xs, argTypes := ts }) (hent : Enters P f)
    (args : Array Value) (hargs : xs.map a.eval = args) (R : Value → World → Prop) (hc : Calls P f args w fun e w' => ∃ v, e = .returned v ∧ R v w') (hK : ∀ v w1, R v w1 → K (a.put o.dst v) w1) :
    if Region.wanted o (yielded ops a.tmps) = true then Oper.wp P o a w K Q else E := by
  have hw : Region.wanted o (yielded ops a.tmps) = true := by simp [Region.wanted, hg]
  rw [if_pos hw]
  unfold Oper.wp
  unfold Enters at hent
  subst hargs
  simp [execOp, hop, resolve, invoke, hent, Result.andThen, Act.eval, Deferred.ofValue]
  refine hc.mono ?_
  rintro e w' ⟨v, rfl, hR⟩
  exact hK v w' hR
end Go.Proofs.YtfbaenhajlckjaaGreat
/- What is taken out of a state; what is beside a table's place. -/
set_option linter.unusedVariables false
set_option maxRecDepth 100000
namespace Go.Proofs.YtfbaenhajlckjaaGreat

theorem filter_erase {α : Type} (g : α → Int) : ∀ {L : List α} {i : Nat} {x : α}, (L.map g).Nodup → L[i]? = some x → L.filter (fun t => decide (g t ≠ g x)) = L.eraseIdx i
  | y :: L, 0, x, hn, hx => by
    obtain rfl : y = x := by simpa using hx
    rw [List.map_cons, List.nodup_cons] at hn
    rw [List.filter_cons, if_neg (by simp), List.eraseIdx_cons_zero]
    refine List.filter_eq_self.2 fun t ht => ?_
    have : g t ≠ g y := fun e => hn.1 (List.mem_map.2 ⟨t, ht, e⟩)
    simpa using this
  | y :: L, i + 1, x, hn, hx => by
    have hx' : L[i]? = some x := by simpa using hx
    rw [List.map_cons, List.nodup_cons] at hn
    have hne : g y ≠ g x := fun e => hn.1 (List.mem_map.2 ⟨x, List.mem_of_getElem? hx', e.symm⟩)
    rw [List.filter_cons, if_pos (by simpa using hne), List.eraseIdx_cons_succ, filter_erase g hn.2 hx']
theorem filter_none {f : Int} {L : List Int} (h : ¬ f ∈ L) : L.filter (fun g => decide (g ≠ f)) = L := List.filter_eq_self.2 fun g hg => by
  have : g ≠ f := fun e => h (e ▸ hg)
  simpa using this
theorem map_filter_file {α : Type} (g : α → Int) (f : Int) (L : List α) : (L.map g).filter (fun x => decide (x ≠ f)) = (L.filter fun t => decide (g t ≠ f)).map g := by rw [List.filter_map]; rfl
theorem nodup3 {A B C : List Int} (h : (A ++ B ++ C).Nodup) {f : Int} : (f ∈ A → ¬ f ∈ B ∧ ¬ f ∈ C) ∧ (f ∈ B → ¬ f ∈ A ∧ ¬ f ∈ C) ∧ (f ∈ C → ¬ f ∈ A ∧ ¬ f ∈ B) := by
  obtain ⟨h1, h2, h3⟩ := List.nodup_append.1 h
  obtain ⟨h4, h5, h6⟩ := List.nodup_append.1 h1
  refine ⟨fun ha => ⟨fun hb => h6 f ha f hb rfl, fun hc => h3 f (List.mem_append_left _ ha) f hc rfl⟩, fun hb => ⟨fun ha => h6 f ha f hb rfl, fun hc => h3 f (List.mem_append_right _ hb) f hc rfl⟩, fun hc => ⟨fun ha => h3 f (List.mem_append_left _ ha) f hc rfl, fun hb => h3 f (List.mem_append_right _ hb) f hc rfl⟩⟩
theorem drop_T {s : St} (h : s.files.Nodup) {i : Nat} {x : Tb} (hx : s.tabs[i]? = some x) : s.tabs.filter (fun t => decide (t.file ≠ x.file)) = s.tabs.eraseIdx i ∧ s.files.filter (fun g => decide (g ≠ x.file)) = ({ s with tabs := s.tabs.eraseIdx i } : St).files := by
  have h' : (s.tabs.map (·.file) ++ s.stos.map (·.file) ++ s.logs).Nodup := h
  have e := filter_erase Tb.file (List.nodup_append.1 (List.nodup_append.1 h').1).1 hx
  have hm : x.file ∈ s.tabs.map (·.file) := List.mem_map.2 ⟨x, List.mem_of_getElem? hx, rfl⟩
  have hq := (nodup3 h' (f := x.file)).1 hm
  refine ⟨e, ?_⟩
  show (s.tabs.map (·.file) ++ s.stos.map (·.file) ++ s.logs).filter _ = (s.tabs.eraseIdx i).map (·.file) ++ s.stos.map (·.file) ++ s.logs
  rw [List.filter_append, List.filter_append, filter_none hq.1, filter_none hq.2, map_filter_file, e]
theorem drop_S {s : St} (h : s.files.Nodup) {i : Nat} {x : So} (hx : s.stos[i]? = some x) : s.stos.filter (fun t => decide (t.file ≠ x.file)) = s.stos.eraseIdx i ∧ s.files.filter (fun g => decide (g ≠ x.file)) = ({ s with stos := s.stos.eraseIdx i } : St).files := by
  have h' : (s.tabs.map (·.file) ++ s.stos.map (·.file) ++ s.logs).Nodup := h
  have e := filter_erase So.file (List.nodup_append.1 (List.nodup_append.1 h').1).2.1 hx
  have hm : x.file ∈ s.stos.map (·.file) := List.mem_map.2 ⟨x, List.mem_of_getElem? hx, rfl⟩
  have hq := (nodup3 h' (f := x.file)).2.1 hm
  refine ⟨e, ?_⟩
  show (s.tabs.map (·.file) ++ s.stos.map (·.file) ++ s.logs).filter _ = s.tabs.map (·.file) ++ (s.stos.eraseIdx i).map (·.file) ++ s.logs
  rw [List.filter_append, List.filter_append, filter_none hq.1, filter_none hq.2, map_filter_file, e]
theorem drop_I {s : St} (h : s.files.Nodup) {i : Nat} {x : Int} (hx : s.logs[i]? = some x) : s.logs.filter (fun t => decide (t ≠ x)) = s.logs.eraseIdx i ∧ s.files.filter (fun g => decide (g ≠ x)) = ({ s with logs := s.logs.eraseIdx i } : St).files := by
  have h' : (s.tabs.map (·.file) ++ s.stos.map (·.file) ++ s.logs).Nodup := h
  have e := filter_erase id (by simpa using (List.nodup_append.1 h').2.1) hx
  have hm : x ∈ s.logs := List.mem_of_getElem? hx
  have hq := (nodup3 h' (f := x)).2.2 hm
  have e' : s.logs.filter (fun t => decide (t ≠ x)) = s.logs.eraseIdx i := e
  refine ⟨e', ?_⟩
  show (s.tabs.map (·.file) ++ s.stos.map (·.file) ++ s.logs).filter _ = s.tabs.map (·.file) ++ s.stos.map (·.file) ++ s.logs.eraseIdx i
  rw [List.filter_append, List.filter_append, filter_none hq.1, filter_none hq.2, e']

/-- The tables beside a place. -/
def besides (L : List Tb) (k : Nat) : List Tb := (L.take (min (k + 1) L.length)).drop (k - 1)
theorem mem_besides {L : List Tb} {k i : Nat} {u : Tb} (hi : L[i]? = some u) (h1 : i = k ∨ i + 1 = k) : u ∈ besides L k := by
  have hlt := (List.getElem?_eq_some_iff.1 hi).1
  unfold besides
  refine List.mem_iff_getElem?.2 ⟨i - (k - 1), ?_⟩
  rw [List.getElem?_drop, List.getElem?_take, if_pos (by omega), show k - 1 + (i - (k - 1)) = i by omega]
  exact hi
theorem besides_sub {L : List Tb} {k : Nat} {u : Tb} (h : u ∈ besides L k) : u ∈ L := (List.take_subset _ _) (List.drop_subset _ _ h)
theorem lb_at (t : Tb) : ∀ {L : List Tb}, (L.Pairwise fun a b => tlt a b = true) → ∀ {i : Nat} {u : Tb}, L[i]? = some u → (i < lbT t L ↔ tlt u t = true)
  | v :: L, h, i, u, hi => by
    rw [List.pairwise_cons] at h
    rw [lbT_cons]
    cases hv : tlt v t with
    | true =>
      rw [if_pos rfl]
      cases i with
      | zero =>
        obtain rfl : v = u := by simpa using hi
        exact ⟨fun _ => hv, fun _ => by omega⟩
      | succ i =>
        have hi' : L[i]? = some u := by simpa using hi
        rw [Nat.succ_lt_succ_iff]
        exact lb_at t h.2 hi'
    | false =>
      rw [if_neg (by simp)]
      refine ⟨fun x => by omega, fun x => ?_⟩
      exfalso
      cases i with
      | zero =>
        obtain rfl : v = u := by simpa using hi
        rw [hv] at x; cases x
      | succ i =>
        have hi' : L[i]? = some u := by simpa using hi
        have := tlt_trans (h.1 u (List.mem_of_getElem? hi')) x
        rw [hv] at this; cases this
theorem lb_atS (t : So) : ∀ {L : List So}, (L.Pairwise fun a b => a.file < b.file) → ∀ {i : Nat} {u : So}, L[i]? = some u → (i < lbS t L ↔ u.file < t.file)
  | v :: L, h, i, u, hi => by
    rw [List.pairwise_cons] at h
    rw [lbS_cons]
    by_cases hv : v.file < t.file
    · rw [if_pos hv]
      cases i with
      | zero =>
        obtain rfl : v = u := by simpa using hi
        exact ⟨fun _ => hv, fun _ => by omega⟩
      | succ i =>
        have hi' : L[i]? = some u := by simpa using hi
        rw [Nat.succ_lt_succ_iff]
        exact lb_atS t h.2 hi'
    · rw [if_neg hv]
      refine ⟨fun x => by omega, fun x => ?_⟩
      exfalso
      cases i with
      | zero =>
        obtain rfl : v = u := by simpa using hi
        exact hv x
      | succ i =>
        have hi' : L[i]? = some u := by simpa using hi
        have := h.1 u (List.mem_of_getElem? hi')
        omega
theorem files_insS (s : St) (x : So) : (s.tabs.map (·.file) ++ (insS x s.stos).map (·.file) ++ s.logs).Perm (x.file :: s.files) := by
  have h1 : ((insS x s.stos).map (·.file)).Perm (x.file :: s.stos.map (·.file)) := (insS_perm x s.stos).map So.file
  have h2 := ((h1.append_left (s.tabs.map (·.file))).append_right s.logs)
  refine h2.trans ?_
  show (s.tabs.map (·.file) ++ x.file :: s.stos.map (·.file) ++ s.logs).Perm (x.file :: (s.tabs.map (·.file) ++ s.stos.map (·.file) ++ s.logs))
  rw [List.append_assoc, List.append_assoc]
  exact List.perm_middle
theorem files_insT (s : St) (x : Tb) : ((insT x s.tabs).map (·.file) ++ s.stos.map (·.file) ++ s.logs).Perm (x.file :: s.files) := by
  have h1 : ((insT x s.tabs).map (·.file)).Perm (x.file :: s.tabs.map (·.file)) := (insT_perm x s.tabs).map Tb.file
  exact (h1.append_right (s.stos.map (·.file))).append_right s.logs
/-- Some table meets the new one just if one beside its place does. -/
theorem meets_beside {L : List Tb} {t : Tb} (hr : L.Pairwise fun a b => tlt a b = true) (ha : L.Pairwise fun a b => a.lev = b.lev → 0 < a.lev → ltB a.high b.low = true) (hw : ∀ u ∈ L, ltB u.high u.low = false) (ht : ltB t.high t.low = false) (hl : 0 < t.lev) :
    L.any (meets t) = (besides L (lbT t L)).any (meets t) := by
  rw [Bool.eq_iff_iff]
  constructor
  · intro h
    obtain ⟨u, hu, hm⟩ := List.any_eq_true.1 h
    obtain ⟨i, hi⟩ := List.mem_iff_getElem?.1 hu
    have hlt := (List.getElem?_eq_some_iff.1 hi).1
    unfold meets at hm
    simp only [Bool.and_eq_true, decide_eq_true_eq, Bool.not_eq_true'] at hm
    obtain ⟨⟨hlev, m1⟩, m2⟩ := hm
    have pr : ∀ {a b : Nat} {x y : Tb}, a < b → L[a]? = some x → L[b]? = some y → tlt x y = true ∧ (x.lev = y.lev → 0 < x.lev → ltB x.high y.low = true) := fun {a b x y} hab hx hy => by
      obtain ⟨h1, e1⟩ := List.getElem?_eq_some_iff.1 hx
      obtain ⟨h2, e2⟩ := List.getElem?_eq_some_iff.1 hy
      rw [← e1, ← e2]
      exact ⟨List.pairwise_iff_getElem.1 hr a b h1 h2 hab, List.pairwise_iff_getElem.1 ha a b h1 h2 hab⟩
    have hkl := lbT_le t L
    rcases Nat.lt_or_ge i (lbT t L) with hk | hk
    · by_cases hk1 : i + 1 = lbT t L
      · exact List.any_eq_true.2 ⟨u, mem_besides hi (.inr hk1), by unfold meets; simp [hlev, m1, m2]⟩
      · exfalso
        obtain ⟨v, hv⟩ : ∃ v, L[lbT t L - 1]? = some v := ⟨_, List.getElem?_eq_getElem (by omega)⟩
        have hvt := (lb_at t hr hv).1 (by omega)
        obtain ⟨q1, q2⟩ := pr (by omega : i < lbT t L - 1) hi hv
        have l1 := tlt_lev q1; have l2 := tlt_lev hvt
        have q3 := q2 (by omega) (by omega)
        have q4 : ltB v.low t.low = true := by
          unfold tlt at hvt
          rw [if_pos (by omega), if_neg (by omega)] at hvt
          exact hvt
        rw [ltB_trans q3 q4] at m1; cases m1
    · by_cases hk1 : i = lbT t L
      · exact List.any_eq_true.2 ⟨u, mem_besides hi (.inl hk1), by unfold meets; simp [hlev, m1, m2]⟩
      · obtain ⟨v, hv⟩ : ∃ v, L[lbT t L]? = some v := ⟨_, List.getElem?_eq_getElem (by omega)⟩
        have hvt : tlt v t = false := by
          have := mt (lb_at t hr hv).2 (by omega)
          simpa using this
        obtain ⟨q1, q2⟩ := pr (by omega : lbT t L < i) hv hi
        have l1 := tlt_lev q1
        have l2 : t.lev ≤ v.lev := by
          unfold tlt at hvt
          split at hvt
          · omega
          · simp at hvt; omega
        have q3 := q2 (by omega) (by omega)
        have q4 : ltB v.low t.low = false := by
          unfold tlt at hvt
          rw [if_pos (by omega), if_neg (by omega)] at hvt
          exact hvt
        refine List.any_eq_true.2 ⟨v, mem_besides hv (.inl rfl), ?_⟩
        have r1 : ltB v.high t.low = false := by
          cases e : ltB v.high t.low with
          | false => rfl
          | true =>
            have := ltB_lt_le e q4
            rw [hw v (List.mem_of_getElem? hv)] at this; cases this
        have r2 : ltB t.high v.low = false := by
          cases e : ltB t.high v.low with
          | false => rfl
          | true =>
            have x1 := ltB_lt_le e (hw v (List.mem_of_getElem? hv))
            have x2 := ltB_trans x1 q3
            rw [m2] at x2; cases x2
        unfold meets
        simp [r1, r2]
        omega
  · intro h
    obtain ⟨u, hu, hm⟩ := List.any_eq_true.1 h
    exact List.any_eq_true.2 ⟨u, besides_sub hu, hm⟩
end Go.Proofs.YtfbaenhajlckjaaGreat
/- How tables and stores are compared. -/
set_option linter.unusedVariables false
set_option maxRecDepth 100000
namespace Go.Proofs.YtfbaenhajlckjaaGreat
open Go.RowKit Go.Sort

def cmpI (a b : Int) : Int := if a < b then -1 else if b < a then 1 else 0
def cmpL (a b : List UInt8) : Int := if ltB a b then -1 else if ltB b a then 1 else 0
theorem cmpL_lt {a b : List UInt8} (h : ltB a b = true) : cmpL a b = -1 := by simp [cmpL, h]
theorem cmpL_gt {a b : List UInt8} (h : ltB b a = true) : cmpL a b = 1 := by simp [cmpL, h, ltB_asymm h]
theorem cmpL_eq {a b : List UInt8} (h : a = b) : cmpL a b = 0 := by subst h; simp [cmpL, ltB_irrefl]
def cfT (a b : Tb) : Int := if a.lev = b.lev then (if a.lev = 0 then cmpI b.file a.file else cmpL a.low b.low) else cmpI a.lev b.lev
def cfS (a b : So) : Int := cmpI a.file b.file
theorem cmpI_neg (a b : Int) : decide (cmpI a b < 0) = decide (a < b) := by
  unfold cmpI
  by_cases h : a < b
  · simp [h]
  · by_cases h2 : b < a <;> simp [h, h2]
theorem cmpL_neg (a b : List UInt8) : decide (cmpL a b < 0) = ltB a b := by
  unfold cmpL
  cases h : ltB a b with
  | true => simp
  | false => cases h2 : ltB b a <;> simp
theorem cfT_neg (a b : Tb) : decide (cfT a b < 0) = tlt a b := by
  unfold cfT tlt
  split
  · split
    · exact cmpI_neg _ _
    · exact cmpL_neg _ _
  · exact cmpI_neg _ _
theorem cfS_neg (a b : So) : decide (cfS a b < 0) = decide (a.file < b.file) := cmpI_neg _ _
theorem cmpI_range (a b : Int) : -1 ≤ cmpI a b ∧ cmpI a b ≤ 1 := by unfold cmpI; split <;> (try split) <;> omega

set_option maxHeartbeats 1000000 in
theorem cmp_int (a b : Int) (w : World) : Calls Tryz.prog 135 #[.int .i64 a, .int .i64 b] w fun e w' => e = .returned (.int .i64 (cmpI a b)) ∧ w' = w := by
  have ha : (a == a) = true := by simp
  have hb : (b == b) = true := by simp
  rcases Int.lt_trichotomy a b with h | h | h
  · have h1 : decide (a < b) = true := decide_eq_true h
    have hv := Lib.hid (show cmpI a b = -1 by unfold cmpI; rw [if_pos h])
    clear h
    rw [hv.out]
    go_enter Tryz.func135, Tryz.ntmps135
    go_wp2
    go_ret
    exact ⟨rfl, rfl⟩
  · subst h
    have h1 : decide (a < a) = false := by simp
    have hv := Lib.hid (show cmpI a a = 0 by unfold cmpI; simp)
    rw [hv.out]
    go_enter Tryz.func135, Tryz.ntmps135
    go_wp2
    go_ret
    exact ⟨rfl, rfl⟩
  · have h1 : decide (b < a) = true := decide_eq_true h
    have h2 : decide (a < b) = false := decide_eq_false (by omega)
    have h3 : ¬ a < b := by omega
    have hv := Lib.hid (show cmpI a b = 1 by unfold cmpI; rw [if_neg h3, if_pos h])
    rw [hv.out]
    go_enter Tryz.func135, Tryz.ntmps135
    go_wp2
    go_ret
    exact ⟨rfl, rfl⟩
set_option maxHeartbeats 1000000 in
theorem cmp_isNaN (a : ByteArray) (w : World) : Calls Tryz.prog 170 #[.string a] w fun e w' => e = .returned (.bool false) ∧ w' = w := by
  go_enter Tryz.func170, Tryz.ntmps170
  go_wp2
  go_ret
  simp
set_option maxHeartbeats 1000000 in
theorem cmp_Compare (a b : List UInt8) (w : World) : Calls Tryz.prog 136 #[.string (bs a), .string (bs b)] w fun e w' => e = .returned (.int .i64 (cmpL a b)) ∧ w' = w := by
  have hab : Op.bytesLess (bs a).toList (bs b).toList = ltB a b := by rw [Lib.toList_data, Lib.toList_data, bs_list, bs_list, ltB_less]
  have hba : Op.bytesLess (bs b).toList (bs a).toList = ltB b a := by rw [Lib.toList_data, Lib.toList_data, bs_list, bs_list, ltB_less]
  have heq : ((bs a).toList == (bs b).toList) = (a == b) := by rw [Lib.toList_data, Lib.toList_data, bs_list, bs_list]
  obtain ⟨c, hc⟩ : ∃ c, c = cmpL a b := ⟨_, rfl⟩
  rw [← hc]
  have HC := Lib.hid hc
  clear hc
  have HN := fun x w => Lib.hid (cmp_isNaN x w)
  go_enter Tryz.func136, Tryz.ntmps136
  rcases ltB_total a b with h | h | h
  · rw [h] at hab
    have HC1 := Lib.hid (HC.out.trans (cmpL_lt h))
    clear h HC hba heq
    go_wp2_with (go_at_call 170; with_reducible refine (HN _ _).out.mono ?_; rintro e w1 ⟨rfl, rfl⟩)
    all_goals go_ret
    all_goals exact ⟨by rw [HC1.out]; rfl, rfl⟩
  · have h1 : ltB a b = false := by rw [h, ltB_irrefl]
    have h2 : (a == b) = true := by simpa using h
    rw [h1] at hab
    rw [h2] at heq
    have HC1 := Lib.hid (HC.out.trans (cmpL_eq h))
    clear h h1 h2 HC hba
    go_wp2_with (go_at_call 170; with_reducible refine (HN _ _).out.mono ?_; rintro e w1 ⟨rfl, rfl⟩)
    all_goals go_ret
    all_goals exact ⟨by rw [HC1.out]; rfl, rfl⟩
  · have h2 : (a == b) = false := by simpa using (ltB_ne h).symm
    rw [ltB_asymm h] at hab
    rw [h2] at heq
    have HC1 := Lib.hid (HC.out.trans (cmpL_gt h))
    clear h h2 HC hba
    go_wp2_with (go_at_call 170; with_reducible refine (HN _ _).out.mono ?_; rintro e w1 ⟨rfl, rfl⟩)
    all_goals go_ret
    all_goals exact ⟨by rw [HC1.out]; rfl, rfl⟩

theorem grown2 (w : World) (a b : Obj) : ∃ q os', (w.alloc a).alloc b = grow (w.drewN q) os' := ⟨0, _, by rw [alloc_eq_grow, alloc_eq_grow, grow_grow]; rfl⟩
set_option maxHeartbeats 1000000 in
theorem table_order (a b : Tb) (w : World) : Calls Tryz.prog 100 #[.agg (tcell a).toArray, .agg (tcell b).toArray] w fun e w' => e = .returned (.int .i64 (cfT a b)) ∧ ∃ q os', w' = grow (w.drewN q) os' := by
  have hI := fun x y W => Lib.hid (cmp_int x y W)
  have hS := fun x y W => Lib.hid (cmp_Compare x y W)
  show Calls Tryz.prog 100 #[.agg #[.int .i64 a.file, .int .i64 a.lev, .int .i64 a.cnt, .string (bs a.low), .string (bs a.high)], .agg #[.int .i64 b.file, .int .i64 b.lev, .int .i64 b.cnt, .string (bs b.low), .string (bs b.high)]] w _
  have HV := Lib.hid (show cfT a b = _ from rfl)
  obtain ⟨r, hr⟩ : ∃ r, r = cfT a b := ⟨_, rfl⟩
  rw [← hr]
  have HR := Lib.hid hr
  clear hr
  cases a with | mk af al ac alo ahi =>
  cases b with | mk bf bl bc blo bhi =>
  by_cases h : al = bl
  · subst h
    by_cases h0 : al = 0
    · have hv := Lib.hid (show r = cmpI bf af by rw [HR.out]; unfold cfT; rw [if_pos rfl, if_pos h0])
      clear HV HR
      subst h0
      go_enter Tryz.func100, Tryz.ntmps100
      go_wp2_with (go_at_call 135; with_reducible refine (hI _ _ _).out.mono ?_; rintro e w1 ⟨rfl, rfl⟩)
      go_ret
      exact ⟨by rw [hv.out]; rfl, grown2 _ _ _⟩
    · have hv := Lib.hid (show r = cmpL alo blo by rw [HR.out]; unfold cfT; rw [if_pos rfl, if_neg h0])
      clear HV HR
      have h0' : (al == 0) = false := by simpa using h0
      go_enter Tryz.func100, Tryz.ntmps100
      go_wp2_with (go_at_call 136; with_reducible refine (hS _ _ _).out.mono ?_; rintro e w1 ⟨rfl, rfl⟩)
      go_ret
      exact ⟨by rw [hv.out]; rfl, grown2 _ _ _⟩
  · have hv := Lib.hid (show r = cmpI al bl by rw [HR.out]; unfold cfT; rw [if_neg h])
    clear HV HR
    have h0' : (al == bl) = false := by simpa using h
    go_enter Tryz.func100, Tryz.ntmps100
    go_wp2_with (go_at_call 135; with_reducible refine (hI _ _ _).out.mono ?_; rintro e w1 ⟨rfl, rfl⟩)
    go_ret
    exact ⟨by rw [hv.out]; rfl, grown2 _ _ _⟩
set_option maxHeartbeats 1000000 in
theorem store_order (a b : So) (w : World) : Calls Tryz.prog 102 #[.agg (socell a).toArray, .agg (socell b).toArray] w fun e w' => e = .returned (.int .i64 (cfS a b)) ∧ ∃ q os', w' = grow (w.drewN q) os' := by
  have hI := fun x y W => Lib.hid (cmp_int x y W)
  show Calls Tryz.prog 102 #[.agg #[.int .i64 a.file, .int .i64 a.tier], .agg #[.int .i64 b.file, .int .i64 b.tier]] w _
  go_enter Tryz.func102, Tryz.ntmps102
  go_wp2_with (go_at_call 135; with_reducible refine (hI _ _ _).out.mono ?_; rintro e w1 ⟨rfl, rfl⟩)
  go_ret
  exact ⟨rfl, grown2 _ _ _⟩
theorem swoT : SWO (fun a b => decide (cfT a b < 0)) where
  irrefl x := by rw [cfT_neg]; exact tlt_irrefl x
  trans x y z h1 h2 := by rw [cfT_neg] at *; exact tlt_trans h1 h2
  ntrans x y z h1 h2 := by rw [cfT_neg] at *; exact tlt_ntrans h1 h2
theorem swoS : SWO (fun a b => decide (cfS a b < 0)) where
  irrefl x := by rw [cfS_neg]; simp
  trans x y z h1 h2 := by rw [cfS_neg] at *; simp at *; omega
  ntrans x y z h1 h2 := by rw [cfS_neg] at *; simp at *; omega
theorem below_grow {B : Nat} {w w' : World} (h : Below B w w') (hB : B ≤ w.heap.size) (q : Nat) (os : Array Obj) : Below B w (grow (w'.drewN q) os) := by
  refine ⟨h.os, h.tape, h.output, ?_, fun k hk => ?_⟩
  · show w.heap.size ≤ (w'.heap ++ os).size
    rw [Array.size_append]
    have := h.size
    omega
  · show (w'.heap ++ os)[k]? = _
    rw [Array.getElem?_append_left (by have := h.size; omega)]
    exact h.block k hk
end Go.Proofs.YtfbaenhajlckjaaGreat
/- An element of a list that reads. -/
set_option linter.unusedVariables false
set_option maxRecDepth 100000
namespace Go.Proofs.YtfbaenhajlckjaaGreat
open Go.RowKit

theorem RdL.atS {T : Nat → Prop} {w : World} {a : Option Addr} {n cap : Nat} {L : List So} (h : RdL T w (.slice a n cap) n (flat socell L)) {m : Nat} {x : So} (hx : L[m]? = some x) (hm : m < n) :
    ∃ b off, a = some ⟨b, off, none⟩ ∧ T b ∧ b < w.heap.size ∧ ∀ i u, (socell x)[i]? = some u → w.cell? ⟨b, off + m * 2 + i, none⟩ = some u := by
  obtain ⟨a', cap', e, _, h⟩ := h
  injection e with e1 e2 e3
  subst e1
  rcases h with ⟨_, h0, _⟩ | ⟨b, off, rfl, ht, hb, hc⟩
  · omega
  · refine ⟨b, off, rfl, ht, hb, fun i u hi => ?_⟩
    have hik : i < 2 := by rw [← socell_len x]; exact (List.getElem?_eq_some_iff.1 hi).1
    have := flat_at socell_len hx hik
    rw [hi] at this
    rw [Nat.add_assoc]
    exact hc _ _ this

end Go.Proofs.YtfbaenhajlckjaaGreat
