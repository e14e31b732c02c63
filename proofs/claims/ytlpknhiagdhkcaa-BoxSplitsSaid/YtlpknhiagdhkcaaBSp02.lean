/- Texts put together: BoxRec, SixReader, SixBuilder -/
import Derived.Test.YtlpknhiagdhkcaaBSp01
import Derived.Test.YtlpknhiagdhkcaaBSp00
import Derived.Laws.Tables
import Derived.Laws.Slices
import Derived.Laws.StructEq
import Derived.Stop.BytesEq
import Derived.Deep.MidRow
import Derived.Laws.BitsAllLaws
import Derived.Lib.FrozenHead2
import Derived.Lib.OthersKept
import Derived.Lib.Slices
import Derived.Lib.UnsafeStr
import Derived.Lib.Walk
import Derived.Laws.Externs
import Derived.RegionTactic
/- Records in memory: two keys, whether it is a patch, the body: 66 cells. -/
set_option linter.unusedVariables false
set_option maxRecDepth 100000
namespace Go.Proofs.Ytlpknhiagdhkcaa
open Go.RowKit

def kcs (l : List UInt8) : List Value := l.map fun b => Value.int .u8 (b.toNat : Int)
theorem kcs_len (l : List UInt8) : (kcs l).length = l.length := by simp [kcs]
theorem kcs_one (l : List UInt8) : ∀ v ∈ kcs l, v.oneCell' = true := by
  intro v hv
  simp only [kcs, List.mem_map] at hv
  obtain ⟨b, -, rfl⟩ := hv
  rfl
def recC (r : RecB) : List Value := kcs r.key ++ (kcs r.base ++ [.bool r.patch, .string (bs r.body)])
def recA (r : RecB) : Array Value := (recC r).toArray
theorem recC_len {r : RecB} (h : r.Ok) : (recC r).length = 66 := by
  unfold recC; simp only [List.length_append, kcs_len, h.key, h.base]; rfl
theorem recA_size {r : RecB} (h : r.Ok) : (recA r).size = 66 := by unfold recA; simp [recC_len h]
theorem recC_one (r : RecB) : ∀ v ∈ recC r, v.oneCell' = true := by
  intro v hv
  unfold recC at hv
  simp only [List.mem_append, List.mem_cons, List.not_mem_nil, or_false] at hv
  rcases hv with hv | hv | rfl | rfl
  · exact kcs_one _ _ hv
  · exact kcs_one _ _ hv
  · rfl
  · rfl
theorem recA_one (r : RecB) : (recA r).all (·.oneCell') = true := all_oneCell_toArray (recC_one r)
theorem kcs_arr_one (l : List UInt8) : (kcs l).toArray.all (·.oneCell') = true := all_oneCell_toArray (kcs_one l)

theorem info_rec : (Try.prog.info? 30).map (·.size) = some 66 := by kernel_rfl
theorem info_ref : (Try.prog.info? 25).map (·.size) = some 66 := by kernel_rfl
theorem info_key : (Try.prog.info? 23).map (·.size) = some 32 := by kernel_rfl
theorem info_recA {r : RecB} (h : r.Ok) : (Try.prog.info? 30).map (·.size) = some (recA r).size := by rw [recA_size h]; exact info_rec
theorem info_refA {r : RecB} (h : r.Ok) : (Try.prog.info? 25).map (·.size) = some (recA r).size := by rw [recA_size h]; exact info_ref
theorem info_keyA {l : List UInt8} (h : l.length = 32) : (Try.prog.info? 23).map (·.size) = some (kcs l).toArray.size := by
  rw [show (kcs l).toArray.size = 32 by simp [kcs_len, h]]; exact info_key
theorem info_keyL {l : List UInt8} (h : l.length = 32) : (Try.prog.info? 23).map (·.size) = some (kcs l).length := by
  rw [kcs_len, h]; exact info_key

/-! ### The parts of its cells -/
theorem rec_key {r : RecB} (h : r.Ok) : (recC r).take 32 = kcs r.key := by
  unfold recC; rw [List.take_left' (by rw [kcs_len, h.key])]
theorem rec_rest {r : RecB} (h : r.Ok) : (recC r).drop 32 = kcs r.base ++ [.bool r.patch, .string (bs r.body)] := by
  unfold recC; rw [List.drop_left' (by rw [kcs_len, h.key])]
theorem rec_base {r : RecB} (h : r.Ok) : ((recC r).drop 32).take 32 = kcs r.base := by
  rw [rec_rest h, List.take_left' (by rw [kcs_len, h.base])]
theorem rec_tail {r : RecB} (h : r.Ok) : (recC r).drop 64 = [.bool r.patch, .string (bs r.body)] := by
  rw [show (64 : Nat) = 32 + 32 from rfl, ← List.drop_drop, rec_rest h, List.drop_left' (by rw [kcs_len, h.base])]
theorem rec_64 {r : RecB} (h : r.Ok) : (recC r)[64]? = some (.bool r.patch) := by
  have := congrArg (·[0]?) (rec_tail h)
  simpa [List.getElem?_drop] using this
theorem rec_65 {r : RecB} (h : r.Ok) : (recC r)[65]? = some (.string (bs r.body)) := by
  have := congrArg (·[1]?) (rec_tail h)
  simpa [List.getElem?_drop] using this

/-! ### In a block -/
def RecIn (b t : Nat) (r : RecB) (w : World) : Prop := w.heap[b]? = some (.cells (recA r) t (0, 0))
theorem setCells_mid {b : Nat} {t : TypeId} : ∀ (vs : List Value) (o : Nat) (C : List Value) (w : World), w.heap[b]? = some (.cells C.toArray t (0, 0)) → o + vs.length ≤ C.length →
    (w.setCells b o vs).heap[b]? = some (.cells (C.take o ++ (vs ++ C.drop (o + vs.length))).toArray t (0, 0))
  | [], o, C, w, h, _ => by simpa [World.setCells] using h
  | v :: r, o, C, w, h, hl => by
    have h1 := heap_set (o := o) h v
    rw [show C.toArray.setIfInBounds o v = (C.set o v).toArray by simp] at h1
    have hl' : o + 1 + r.length ≤ C.length := by simp at hl; omega
    have := setCells_mid r (o + 1) (C.set o v) _ h1 (by simpa using hl')
    have e1 : (C.set o v).take (o + 1) = C.take o ++ [v] := by
      rw [List.take_set, List.take_add_one, List.set_append_right _ _ (by simp; omega)]
      have ho : C[o]? = some C[o] := List.getElem?_eq_getElem (by omega)
      rw [ho]
      simp [Nat.min_eq_left (show o ≤ C.length by omega)]
    have e2 : (C.set o v).drop (o + 1 + r.length) = C.drop (o + (v :: r).length) := by
      rw [List.drop_set, if_pos (by omega)]
      congr 1; simp; omega
    rw [e1, e2, List.append_assoc] at this
    exact this
theorem only_setCells {S : Nat → Prop} {b : Nat} {w0 : World} (hb : S b ∨ w0.heap.size ≤ b) : ∀ (vs : List Value) (o : Nat) (w : World), Only S w0 w → Only S w0 (w.setCells b o vs)
  | [], _, w, h => h
  | v :: r, o, w, h => only_setCells hb r (o + 1) _ (h.setCell (p := ⟨b, o, none⟩) hb v)

namespace RecIn
variable {b t : Nat} {r : RecB} {w w' : World}
theorem new (w : World) (t : Nat) (r : RecB) : RecIn w.heap.size t r (w.alloc (.cells (recA r) t)) := heap_new _ _
theorem lt (h : RecIn b t r w) : b < w.heap.size := heap_lt h
theorem kept {S : Nat → Prop} (h : RecIn b t r w) (k : Only S w w') (hS : ¬ S b) : RecIn b t r w' := by
  have hl := h.lt
  unfold RecIn at h ⊢
  rw [k.block b hl hS, h]
theorem below {B : Nat} (h : RecIn b t r w) (k : Below B w w') (hb : b < B) : RecIn b t r w' := by unfold RecIn at h ⊢; rw [k.block b hb, h]
theorem cell (h : RecIn b t r w) {o : Nat} {v : Value} (hv : (recC r)[o]? = some v) : w.cell? ⟨b, o, none⟩ = some v := by
  unfold RecIn at h; simp only [World.cell?, h]; simpa [recA] using hv
theorem free (h : RecIn b t r w) (o : Nat) : w.frozen? ⟨b, o, none⟩ = false := by unfold RecIn at h; simp [World.frozen?, h]
theorem patch (h : RecIn b t r w) (hr : r.Ok) : w.cell? ⟨b, 64, none⟩ = some (.bool r.patch) := h.cell (rec_64 hr)
theorem body (h : RecIn b t r w) (hr : r.Ok) : w.cell? ⟨b, 65, none⟩ = some (.string (bs r.body)) := h.cell (rec_65 hr)
theorem range (h : RecIn b t r w) : w.rangeAt b 0 (recA r).toList := fun j v hj => by
  rw [Nat.zero_add]; exact h.cell (by simpa [recA] using hj)
theorem rkey (h : RecIn b t r w) (hr : r.Ok) : w.rangeAt b 0 (kcs r.key) := fun j v hj => by
  rw [Nat.zero_add]
  refine h.cell ?_
  rw [← rec_key hr] at hj
  rw [List.getElem?_take] at hj
  split at hj
  · exact hj
  · cases hj
theorem rbase (h : RecIn b t r w) (hr : r.Ok) : w.rangeAt b 32 (kcs r.base) := fun j v hj => by
  refine h.cell ?_
  rw [← rec_base hr, List.getElem?_take] at hj
  split at hj
  · rw [List.getElem?_drop] at hj; exact hj
  · cases hj
theorem there (h : RecIn b t r w) (hr : r.Ok) (o n : Nat) (hn : o + n ≤ 66) : w.there b o n := fun j hj => by
  refine ⟨?_, h.free _⟩
  rw [h.cell (List.getElem?_eq_getElem (by rw [recC_len hr]; omega))]
  rfl
theorem list (h : RecIn b t r w) : w.heap[b]? = some (.cells (recC r).toArray t (0, 0)) := h
theorem setKey (h : RecIn b t r w) (hr : r.Ok) {k : List UInt8} (hk : k.length = 32) : RecIn b t { r with key := k } (w.setCells b 0 (kcs k)) := by
  have := setCells_mid (kcs k) 0 (recC r) w h (by rw [kcs_len, hk, recC_len hr]; omega)
  rw [kcs_len, hk, List.take_zero, List.nil_append, Nat.zero_add, rec_rest hr] at this
  exact this
theorem setBase (h : RecIn b t r w) (hr : r.Ok) {k : List UInt8} (hk : k.length = 32) : RecIn b t { r with base := k } (w.setCells b 32 (kcs k)) := by
  have := setCells_mid (kcs k) 32 (recC r) w h (by rw [kcs_len, hk, recC_len hr]; omega)
  rw [kcs_len, hk, rec_key hr, show 32 + 32 = 64 from rfl, rec_tail hr] at this
  exact this
theorem setPatch (h : RecIn b t r w) (hr : r.Ok) (p : Bool) : RecIn b t { r with patch := p } (w.setCell ⟨b, 64, none⟩ (.bool p)) := by
  have := setCells_mid [.bool p] 64 (recC r) w h (by rw [recC_len hr]; simp)
  rw [show (recC r).take 64 = kcs r.key ++ kcs r.base by unfold recC; rw [← List.append_assoc, List.take_left' (by rw [List.length_append, kcs_len, kcs_len, hr.key, hr.base])], List.length_singleton, show 64 + 1 = 64 + 1 from rfl, ← List.drop_drop, rec_tail hr] at this
  unfold RecIn recA recC
  rw [show (w.setCell ⟨b, 64, none⟩ (.bool p)) = w.setCells b 64 [.bool p] from rfl, this]
  simp
theorem setBody (h : RecIn b t r w) (hr : r.Ok) (s : List UInt8) : RecIn b t { r with body := s } (w.setCell ⟨b, 65, none⟩ (.string (bs s))) := by
  have := setCells_mid [.string (bs s)] 65 (recC r) w h (by rw [recC_len hr]; simp)
  have e : (recC r).take 65 = kcs r.key ++ (kcs r.base ++ [.bool r.patch]) := by
    have h66 : recC r = (kcs r.key ++ (kcs r.base ++ [.bool r.patch])) ++ [.string (bs r.body)] := by unfold recC; simp
    rw [h66, List.take_left' (by simp [kcs_len, hr.key, hr.base])]
  rw [e, List.drop_of_length_le (by rw [recC_len hr]; simp)] at this
  unfold RecIn recA recC
  rw [show (w.setCell ⟨b, 65, none⟩ (.string (bs s))) = w.setCells b 65 [.string (bs s)] from rfl, this]
  simp
theorem setAll (h : RecIn b t r w) (hr : r.Ok) {q : RecB} (hq : q.Ok) : RecIn b t q (w.setCells b 0 (recA q).toList) := by
  have := setCells_mid (recC q) 0 (recC r) w h (by rw [recC_len hr, recC_len hq]; omega)
  rw [List.take_zero, List.nil_append, recC_len hq, List.drop_of_length_le (by rw [recC_len hr]; omega), List.append_nil] at this
  have e : (recA q).toList = recC q := by simp [recA]
  rw [e]; exact this
end RecIn

/-! ### Equality -/
theorem arr_key : Try.prog.underlying 23 = some (.array 32 5) := by kernel_rfl
theorem size_u8 (w : World) : (sizeOf 5).run Try.prog w = .ok 1 w := by kernel_rfl
theorem eq_keys (l m : List UInt8) (hl : l.length = 32) (hm : m.length = 32) (d : Nat) (w : World) : (Op.equalIn (d + 2) 23 (.agg (kcs l).toArray) (.agg (kcs m).toArray)).run Try.prog w = .ok (l == m) w :=
  run_equalIn_bytes w d 23 5 32 arr_key Try.underlying5 size_u8 l m hl hm
theorem neq_keys (l m : List UInt8) (hl : l.length = 32) (hm : m.length = 32) (w : World) : (binOp .neq 23 (.agg (kcs l).toArray) (.agg (kcs m).toArray)).run Try.prog w = .ok (.bool (!(l == m))) w := by
  rw [run_neq_struct, eq_keys l m hl hm 9998]; rfl
theorem fields_rec : Try.prog.fieldsOf 30 = Try.prog.fieldsOf 25 := by kernel_rfl
theorem part_key (w : World) (cs : Array Value) (o : Nat) : (part 23 cs o).run Try.prog w = .ok (.agg (cs.extract o (o + 32))) w := by
  unfold part
  simp only [Sem.run_bind]
  rw [show (isAgg 23).run Try.prog w = .ok true w by kernel_rfl]
  simp only [Result.andThen_ok, if_true, Sem.run_bind]
  rw [show (sizeOf 23).run Try.prog w = .ok 32 w by kernel_rfl]
  rfl
theorem part_bool (w : World) (cs : Array Value) (o : Nat) (v : Value) (h : cs[o]? = some v) : (part 4 cs o).run Try.prog w = .ok v w := by
  unfold part
  simp only [Sem.run_bind]
  rw [show (isAgg 4).run Try.prog w = .ok false w by kernel_rfl]
  simp [h]
theorem part_string (w : World) (cs : Array Value) (o : Nat) (v : Value) (h : cs[o]? = some v) : (part 9 cs o).run Try.prog w = .ok v w := by
  unfold part
  simp only [Sem.run_bind]
  rw [show (isAgg 9).run Try.prog w = .ok false w by kernel_rfl]
  simp [h]
theorem ext_key {C : List Value} (pre post : List Value) (l : List UInt8) (h : C = pre ++ (kcs l ++ post)) (hl : l.length = 32) (o : Nat) (ho : pre.length = o) : C.toArray.extract o (o + 32) = (kcs l).toArray := by
  subst h
  rw [List.extract_toArray]
  congr 1
  rw [List.extract_eq_take_drop, Nat.add_sub_cancel_left, List.drop_left' ho, List.take_left' (by rw [kcs_len, hl])]
/-- The fields of a record, from a place on. -/
theorem eq_fields (d : Nat) (a b : RecB) (ha : a.Ok) (hb : b.Ok) (pa pb ca cb : List Value) (o : Nat) (hpa : pa.length = o) (hpb : pb.length = o) (w : World) :
    (Op.equalIn (d + 2) 23 (.agg ((pa ++ (recC a ++ ca)).toArray.extract o (o + 32))) (.agg ((pb ++ (recC b ++ cb)).toArray.extract o (o + 32)))).run Try.prog w = .ok (a.key == b.key) w := by
  rw [ext_key pa (kcs a.base ++ [.bool a.patch, .string (bs a.body)] ++ ca) a.key (by unfold recC; simp) ha.key o hpa, ext_key pb (kcs b.base ++ [.bool b.patch, .string (bs b.body)] ++ cb) b.key (by unfold recC; simp) hb.key o hpb]
  exact eq_keys _ _ ha.key hb.key d w
instance : DecidableEq RecB := fun a b => decidable_of_iff (a.key = b.key ∧ a.base = b.base ∧ a.patch = b.patch ∧ a.body = b.body) (by cases a; cases b; simp)
theorem rec_fields : ∃ f0 f1 f2 f3 : Field, (Try.prog.fieldsOf 30).toList = [f0, f1, f2, f3] ∧ (f0.name ≠ "_" ∧ f0.type = 23 ∧ f0.offset = 0) ∧ (f1.name ≠ "_" ∧ f1.type = 23 ∧ f1.offset = 32) ∧ (f2.name ≠ "_" ∧ f2.type = 4 ∧ f2.offset = 64) ∧ (f3.name ≠ "_" ∧ f3.type = 9 ∧ f3.offset = 65) := by
  refine ⟨_, _, _, _, rfl, ?_, ?_, ?_, ?_⟩ <;> exact ⟨by decide, rfl, rfl⟩
theorem und_rec : Try.prog.underlying 30 = some (.struct (Try.prog.fieldsOf 30)) := by kernel_rfl
theorem stood_rec : Try.prog.stoodInHeld 30 = false := by kernel_rfl
theorem eq_recs (d : Nat) (a b : RecB) (ha : a.Ok) (hb : b.Ok) (w : World) : (Op.equalIn (d + 3) 30 (.agg (recA a)) (.agg (recA b))).run Try.prog w = .ok (decide (a = b)) w := by
  obtain ⟨f0, f1, f2, f3, hf, ⟨n0, t0, o0⟩, ⟨n1, t1, o1⟩, ⟨n2, t2, o2⟩, ⟨n3, t3, o3⟩⟩ := rec_fields
  rw [run_equalIn_struct w (d + 2) 30 _ _ und_rec stood_rec, hf]
  have ek : ∀ r : RecB, r.Ok → (recA r).extract 0 (0 + 32) = (kcs r.key).toArray := fun r hr => by
    unfold recA
    exact ext_key [] _ r.key (by unfold recC; rw [List.nil_append]) hr.key 0 rfl
  have eb : ∀ r : RecB, r.Ok → (recA r).extract 32 (32 + 32) = (kcs r.base).toArray := fun r hr => by
    unfold recA
    exact ext_key (kcs r.key) _ r.base rfl hr.base 32 (by rw [kcs_len, hr.key])
  have e64 : ∀ r : RecB, r.Ok → (recA r)[64]? = some (.bool r.patch) := fun r hr => by have := rec_64 hr; simpa [recA] using this
  have e65 : ∀ r : RecB, r.Ok → (recA r)[65]? = some (.string (bs r.body)) := fun r hr => by have := rec_65 hr; simpa [recA] using this
  simp only [Op.eqFields, n0, n1, n2, n3, ne_eq, not_false_eq_true, if_true, t0, t1, t2, t3, o0, o1, o2, o3, Sem.run_bind, part_key, Result.andThen_ok, ek a ha, ek b hb, eb a ha, eb b hb, eq_keys _ _ ha.key hb.key d, eq_keys _ _ ha.base hb.base d]
  by_cases h1 : a.key = b.key
  · rw [show (a.key == b.key) = true by simpa using h1]
    simp only [Bool.not_true, Bool.false_eq_true, if_false, Sem.run_bind, part_key, Result.andThen_ok, eb a ha, eb b hb, eq_keys _ _ ha.base hb.base d]
    by_cases h2 : a.base = b.base
    · rw [show (a.base == b.base) = true by simpa using h2]
      simp only [Bool.not_true, Bool.false_eq_true, if_false, Sem.run_bind, part_bool w _ 64 _ (e64 a ha), part_bool w _ 64 _ (e64 b hb), Result.andThen_ok, run_equalIn_bool' w (d + 1) 4 _ _ Try.underlying4]
      by_cases h3 : a.patch = b.patch
      · rw [show (a.patch == b.patch) = true by simpa using h3]
        simp only [Bool.not_true, Bool.false_eq_true, if_false, Sem.run_bind, part_string w _ 65 _ (e65 a ha), part_string w _ 65 _ (e65 b hb), Result.andThen_ok, run_equalIn_string w (d + 1) 9 _ _ Try.underlying9]
        by_cases h4 : a.body = b.body
        · rw [show ((bs a.body).toList == (bs b.body).toList) = true from (same_bytes _ _).2 h4, decide_eq_true (show a = b by cases a; cases b; simp_all)]
          simp
        · rw [show ((bs a.body).toList == (bs b.body).toList) = false from Bool.eq_false_iff.2 fun x => h4 ((same_bytes _ _).1 x), decide_eq_false (show a ≠ b from fun x => h4 (by rw [x]))]
          simp
      · rw [show (a.patch == b.patch) = false by simpa using h3, decide_eq_false (show a ≠ b from fun x => h3 (by rw [x]))]
        simp
    · rw [show (a.base == b.base) = false by simpa using h2, decide_eq_false (show a ≠ b from fun x => h2 (by rw [x]))]
      simp
  · rw [show (a.key == b.key) = false by simpa using h1, decide_eq_false (show a ≠ b from fun x => h1 (by rw [x]))]
    simp
theorem neq_recs (a b : RecB) (ha : a.Ok) (hb : b.Ok) (w : World) : (binOp .neq 30 (.agg (recA a)) (.agg (recA b))).run Try.prog w = .ok (.bool (!decide (a = b))) w := by
  rw [run_neq_struct, eq_recs 9997 a b ha hb]; rfl
theorem eql_recs (a b : RecB) (ha : a.Ok) (hb : b.Ok) (w : World) : (binOp .eql 30 (.agg (recA a)) (.agg (recA b))).run Try.prog w = .ok (.bool (decide (a = b))) w := by
  rw [run_eql_struct, eq_recs 9997 a b ha hb]; rfl
end Go.Proofs.Ytlpknhiagdhkcaa
/- The reader of package six: what each of its methods hands back, and where it stands behind the call. -/
set_option linter.unusedVariables false
set_option maxRecDepth 100000
namespace Go.Proofs.Ytlpknhiagdhkcaa
open Go.RowKit

namespace Only
variable {S S' : Nat → Prop} {a b c w : World}
end Only

/-- In block r there is a reader that stands ahead of the bytes s. -/
def Rt (r : Nat) (s : ByteArray) (w : World) : Prop := w.heap[r]? = some (.cells #[.string s] 130 (0, 0))

theorem Rt.cell {r : Nat} {s : ByteArray} {w : World} (h : Rt r s w) : w.cell? ⟨r, 0, none⟩ = some (.string s) := by unfold Rt at h; simp [World.cell?, h]
theorem Rt.free {r : Nat} {s : ByteArray} {w : World} (h : Rt r s w) : w.frozen? ⟨r, 0, none⟩ = false := by unfold Rt at h; simp [World.frozen?, h]
theorem Rt.lt {r : Nat} {s : ByteArray} {w : World} (h : Rt r s w) : r < w.heap.size := by
  rcases Nat.lt_or_ge r w.heap.size with h' | h'
  · exact h'
  · unfold Rt at h; simp [Array.getElem?_eq_none h'] at h
theorem Rt.put {r : Nat} {s : ByteArray} {w : World} (h : Rt r s w) (t : ByteArray) : Rt r t (w.setCell ⟨r, 0, none⟩ (.string t)) := by
  unfold Rt at h ⊢
  simp [World.setCell, Array.getElem?_modify, h]
theorem Rt.kept {r : Nat} {s : ByteArray} {w w' : World} {S : Nat → Prop} (h : Rt r s w) (k : Only S w w') (hS : ¬ S r) : Rt r s w' := by
  have := k.block r h.lt hS
  unfold Rt at h ⊢
  rw [this, h]

theorem six_Over (s : ByteArray) (w : World) : Calls Try.prog 42 #[.string s] w fun e w' => e = .returned (.pointer (some ⟨w.heap.size, 0, none⟩)) ∧ w.alloc (.cells #[.string s] 130) = w' := by
  go_enter Try.func42, Try.ntmps42
  go_wp2
  go_ret
  exact ⟨rfl, rfl⟩

theorem six_Rest (r : Nat) (s : ByteArray) (w : World) (h : Rt r s w) : Calls Try.prog 69 #[.pointer (some ⟨r, 0, none⟩)] w fun e w' => e = .returned (.string s) ∧ w = w' := by
  have c0 := h.cell
  go_enter Try.func69, Try.ntmps69
  go_wp2
  go_ret
  exact ⟨rfl, rfl⟩
theorem six_Rest_nil (w : World) : Calls Try.prog 69 #[.pointer none] w fun e w' => e = .returned (.string ⟨#[]⟩) ∧ w = w' := by
  go_enter Try.func69, Try.ntmps69
  go_wp2
  go_ret
  exact ⟨rfl, rfl⟩
theorem six_End_nil (w : World) : Calls Try.prog 44 #[.pointer none] w fun e w' => e = .returned (.int .i64 1) ∧ w = w' := by
  go_enter Try.func44, Try.ntmps44
  go_wp2
  go_ret
  exact ⟨rfl, rfl⟩
/-- Whether bytes are left. -/
def endE (l : List UInt8) : Int := if l = [] then 0 else 5
theorem ret1 {k : IntKind} {a a' : Int} (h1 : a' = a) : Ending.returned (.int k a) = Ending.returned (.int k a') := by rw [h1]
theorem ret2 {k m : IntKind} {a b a' b' : Int} (h1 : a' = a) (h2 : b' = b) : Ending.returned (.tuple #[.int k a, .int m b]) = Ending.returned (.tuple #[.int k a', .int m b']) := by rw [h1, h2]
theorem six_End (r : Nat) (s : ByteArray) (w : World) (h : Rt r s w) : Calls Try.prog 44 #[.pointer (some ⟨r, 0, none⟩)] w fun e w' => e = .returned (.int .i64 (endE s.data.toList)) ∧ w = w' := by
  have c0 := h.cell
  by_cases hs : s.data.toList = []
  · have H := Lib.hid hs
    have h1 : s.toList = [] := by rw [Lib.toList_data, hs]
    have h2 : s.toList.isEmpty = true := by rw [Lib.toList_data, hs]; rfl
    clear hs
    go_enter Try.func44, Try.ntmps44
    go_wp2
    go_ret
    exact ⟨ret1 (by unfold endE; rw [if_pos H.out]), rfl⟩
  · have H := Lib.hid hs
    have h1 : ¬ s.toList = [] := by rw [Lib.toList_data]; exact hs
    have h2 : s.toList.isEmpty = false := by rw [Lib.toList_data]; simpa using hs
    clear hs
    go_enter Try.func44, Try.ntmps44
    go_wp2
    go_ret
    exact ⟨ret1 (by unfold endE; rw [if_neg H.out]), rfl⟩

theorem six_ReadWhole_nil (w : World) : Calls Try.prog 80 #[.pointer none] w fun e w' => e = .returned (.tuple #[.int .i64 0, .int .i64 1]) ∧ w = w' := by
  go_enter Try.func80, Try.ntmps80
  go_wp2
  go_ret2
  exact ⟨rfl, rfl⟩

/-- What a call of a reader leaves: an answer, the place, and all else as it was. -/
def Rd (r : Nat) (s : ByteArray) (a b : Value) (w : World) (e : Ending) (w' : World) : Prop := e = .returned (.tuple #[a, b]) ∧ Rt r s w' ∧ Only (fun k => k = r) w w'

theorem rest0 (s : ByteArray) : s.extract 0 s.size = s := by
  have h := extract_rest s 0
  rw [List.drop_zero] at h
  obtain ⟨⟨x⟩⟩ := s
  exact bs_eq h

theorem or_join (y c : Nat) (hy : y ≤ 144115188075855871) (hc : c < 64) : bits .or .i64 ((y : Int) * 64) (c : Int) = ((64 * y + c : Nat) : Int) := by
  have hj : y * 64 ||| c = y * 64 + c := nat_join 6 (y * 64) c (by omega) (by omega)
  rw [show ((y : Int) * 64) = ((y * 64 : Nat) : Int) by omega]
  show IntKind.i64.wrap ((BitVec.ofInt 64 ((y * 64 : Nat) : Int) ||| BitVec.ofInt 64 (c : Int)).toNat : Int) = _
  rw [BitVec.toNat_or, ofInt_u64 _ (by omega), ofInt_u64 _ (by omega), hj]
  rw [IntWalk.i64_in _ (by omega)]
  omega
theorem and128_lo (c : Nat) (hc : c < 128) : bits .and .u8 (c : Int) 128 = 0 := by
  have h := u8_and_nat c 128 (by omega) (by omega)
  rw [show (128 : Nat) = 2 ^ 7 from rfl, nat_bit 7 c, show c / 2 ^ 7 = 0 by omega] at h
  simpa using h
theorem and128_hi (c : Nat) (h1 : 128 ≤ c) (h2 : c < 256) : bits .and .u8 (c : Int) 128 = 128 := by
  have h := u8_and_nat c 128 (by omega) (by omega)
  rw [show (128 : Nat) = 2 ^ 7 from rfl, nat_bit 7 c, show c / 2 ^ 7 = 1 by omega] at h
  simpa using h

theorem rd_none {r : Nat} {s : ByteArray} {w : World} {a b : Int} (h : Rt r s w) (e1 : rn s.data.toList = a) (e2 : rk s.data.toList = 0) (e3 : re s.data.toList = b) :
    Rd r (s.extract (rk s.data.toList) s.size) (.int .i64 (rn s.data.toList)) (.int .i64 (re s.data.toList)) w (.returned (.tuple #[.int .i64 a, .int .i64 b])) w :=
  ⟨ret2 e1 e3, by rw [e2, rest0]; exact h, Only.refl _ _⟩

theorem rd_some {r : Nat} {s : ByteArray} {w : World} {a : Int} {k : Nat} (h : Rt r s w) (e1 : rn s.data.toList = a) (e2 : rk s.data.toList = k) (e3 : re s.data.toList = 0) :
    Rd r (s.extract (rk s.data.toList) s.size) (.int .i64 (rn s.data.toList)) (.int .i64 (re s.data.toList)) w (.returned (.tuple #[.int .i64 a, .int .i64 0])) (w.setCell ⟨r, 0, none⟩ (.string (s.extract k s.size))) :=
  ⟨ret2 e1 e3, by rw [e2]; exact h.put _, (Only.refl (fun k => k = r) w).setCell (p := ⟨r, 0, none⟩) (.inl rfl) _⟩

set_option maxHeartbeats 400000 in
theorem six_ReadWhole (r : Nat) (s : ByteArray) (w : World) (h : Rt r s w) (hs : s.size ≤ maxLen) :
    Calls Try.prog 80 #[.pointer (some ⟨r, 0, none⟩)] w (Rd r (s.extract (rk s.data.toList) s.size) (.int .i64 (rn s.data.toList)) (.int .i64 (re s.data.toList)) w) := by
  unfold maxLen at hs
  have c0 := h.cell
  have f0 := h.free
  have HH := Lib.hid h
  clear h
  go_enter Try.func80, Try.ntmps80
  go_wp2_with fail
  go_loop [4, 14] (fun x i => ∃ k y : Nat, k ≤ s.size ∧ y ≤ 9223372036854775807 ∧ i = .int .i64 k ∧ x = .int .i64 y ∧ At s.data.toList k y) (fun _ i => s.size - (intOf i).toNat)
  case atStart => exact ⟨0, 0, Nat.zero_le _, by omega, rfl, rfl, at_zero _⟩
  case round =>
    obtain ⟨k, y, hk, hy, rfl, rfl, HR⟩ := hrel
    by_cases hlt : k < s.size
    · have HD := Lib.hid (drop_at s k hlt)
      obtain ⟨hc0, hc1⟩ := byte_le s k hlt
      go_upto_region 8 with (fail)
      generalize s[k] = b at *
      by_cases h1 : 191 < ((b.toNat : Nat) : Int)
      · go_wp2
        go_ret2
        obtain ⟨e1, e2, e3⟩ := at_bad HR HD.out (by omega)
        exact rd_none HH.out e1 e2 e3
      · by_cases h0 : b = 0
        · subst h0
          clear hc0 hc1 h1
          by_cases hk0 : k = 0
          · have hkb : (((k : Nat) : Int) == 0) = true := beq_iff_eq.2 (by omega)
            have HK := Lib.hid hk0
            clear hk0
            go_wp2
            go_ret2
            obtain ⟨e1, e2, e3⟩ := at_bad HR HD.out (.inr (.inl ⟨rfl, HK.out⟩))
            exact rd_none HH.out e1 e2 e3
          · have hkb : (((k : Nat) : Int) == 0) = false := beq_eq_false_iff_ne.2 (by omega)
            have HK := Lib.hid hk0
            clear hk0
            by_cases h2 : 144115188075855871 < (y : Int)
            · go_wp2
              go_ret2
              obtain ⟨e1, e2, e3⟩ := at_bad HR HD.out (by omega)
              exact rd_none HH.out e1 e2 e3
            · have hor : bits .or .i64 ((y : Int) * 64) 0 = ((64 * y : Nat) : Int) := by
                have := or_join y 0 (by omega) (by omega)
                simpa using this
              obtain ⟨z, hz⟩ : ∃ z : Nat, z = 64 * y := ⟨_, rfl⟩
              have hz1 : z ≤ 9223372036854775807 := by omega
              rw [← hz] at hor
              have HZ := Lib.hid hz
              clear hz
              go_wp2
              go_round
              case rel => exact ⟨k + 1, z, by omega, by omega, by go_num, rfl, by rw [HZ.out]; exact at_next HR HD.out (by have := HK.out; have : (0 : UInt8).toNat = 0 := rfl; omega) (by decide)⟩
              case measure => simp [intOf]; omega
        · have h0' : b.toNat ≠ 0 := fun h => h0 (UInt8.toNat_inj.1 (by simpa using h))
          have hb : (((b.toNat : Nat) : Int) == 0) = false := beq_eq_false_iff_ne.2 (by omega)
          have H0 := Lib.hid h0'
          clear h0 h0'
          by_cases h2 : 144115188075855871 < (y : Int)
          · rcases Bool.eq_false_or_eq_true ((k : Int) == 0) with hkb | hkb
            all_goals go_wp2
            all_goals go_ret2
            all_goals obtain ⟨e1, e2, e3⟩ := at_bad HR HD.out (by omega)
            all_goals exact rd_none HH.out e1 e2 e3
          · have hN : ¬ (192 ≤ b.toNat ∨ (b.toNat = 0 ∧ k = 0) ∨ 144115188075855871 < y) := by have := H0.out; omega
            have HN := Lib.hid hN
            clear hN
            obtain ⟨z, hz⟩ : ∃ z : Nat, z = 64 * y + b.toNat % 64 := ⟨_, rfl⟩
            have hor : bits .or .i64 ((y : Int) * 64) ((b.toNat : Int) % 64) = (z : Int) := by
              rw [hz, show ((b.toNat : Int) % 64) = ((b.toNat % 64 : Nat) : Int) by omega]
              exact or_join y _ (by omega) (by omega)
            have hz1 : z ≤ 9223372036854775807 := by omega
            have HZ := Lib.hid hz
            clear hz
            by_cases h3 : ((b.toNat : Nat) : Int) ≤ 63
            · rcases Bool.eq_false_or_eq_true ((k : Int) == 0) with hkb | hkb
              all_goals go_wp2
              all_goals go_round
              all_goals first | (case rel => exact ⟨k + 1, z, by omega, by omega, by go_num, rfl, by rw [HZ.out]; exact at_next HR HD.out HN.out (by omega)⟩) | skip
              all_goals (simp [intOf]; omega)
            · by_cases h4 : 128 ≤ ((b.toNat : Nat) : Int)
              · have hand : bits .and .u8 (b.toNat : Int) 128 = 128 := and128_hi _ (by omega) b.toNat_lt
                rcases Bool.eq_false_or_eq_true ((k : Int) == 0) with hkb | hkb
                all_goals go_wp2
                all_goals go_ret2
                all_goals obtain ⟨e1, e2, e3⟩ := at_low HR HD.out HN.out (by omega)
                all_goals exact rd_some HH.out (by rw [e1, HZ.out]) e2 e3
              · have hand : bits .and .u8 (b.toNat : Int) 128 = 0 := and128_lo _ (by omega)
                rcases Bool.eq_false_or_eq_true ((k : Int) == 0) with hkb | hkb
                all_goals go_wp2
                all_goals go_ret2
                all_goals obtain ⟨e1, e2, e3⟩ := at_high HR HD.out HN.out (by omega) (by omega)
                all_goals exact rd_some HH.out (by rw [e1, HZ.out]) e2 e3
    · go_wp2
      go_ret2
      obtain ⟨e1, e2, e3⟩ := at_end HR (by simp; omega)
      exact rd_none HH.out e1 e2 e3

theorem six_ReadCount_nil (w : World) : Calls Try.prog 74 #[.pointer none] w fun e w' => e = .returned (.tuple #[.int .i64 0, .int .i64 1]) ∧ w = w' := by
  go_enter Try.func74, Try.ntmps74
  go_wp2
  go_ret2
  exact ⟨rfl, rfl⟩

set_option maxHeartbeats 400000 in
theorem six_ReadCount (r : Nat) (s : ByteArray) (w : World) (h : Rt r s w) (hs : s.size ≤ maxLen) :
    Calls Try.prog 74 #[.pointer (some ⟨r, 0, none⟩)] w (Rd r (s.extract (ck s.data.toList) s.size) (.int .i64 (cn s.data.toList)) (.int .i64 (ce s.data.toList)) w) := by
  have c0 := h.cell
  have HH := Lib.hid h
  have HS := Lib.hid hs
  clear h hs
  have HC := Lib.hid (rd_cases s.data.toList)
  by_cases h0 : re s.data.toList = 0
  · have hb : (re s.data.toList == 0) = true := beq_iff_eq.2 h0
    have H0 := Lib.hid h0
    clear h0
    by_cases h1 : rn s.data.toList < 0
    · go_enter Try.func74, Try.ntmps74
      go_wp2_with fail
      refine (six_ReadWhole r s w HH.out HS.out).mono ?_
      rintro e w1 ⟨rfl, h2, k2⟩
      have c1 := h2.cell
      have f1 := h2.free
      have H2 := Lib.hid h2
      have K2 := Lib.hid k2
      clear h2 k2
      go_wp2
      go_ret2
      have h2 : re s.data.toList = 0 ∧ rn s.data.toList < 0 := ⟨H0.out, h1⟩
      refine ⟨ret2 (by unfold cn; rw [if_pos h2]) (by unfold ce; rw [if_pos h2]), ?_, (K2.out).setCell (p := ⟨r, 0, none⟩) (.inl rfl) _⟩
      unfold ck; rw [if_pos h2, rest0]
      exact H2.out.put s
    · go_enter Try.func74, Try.ntmps74
      go_wp2_with fail
      refine (six_ReadWhole r s w HH.out HS.out).mono ?_
      rintro e w1 ⟨rfl, h2, k2⟩
      have H2 := Lib.hid h2
      have K2 := Lib.hid k2
      clear h2 k2
      go_wp2
      go_ret2
      have h2 : ¬ (re s.data.toList = 0 ∧ rn s.data.toList < 0) := by omega
      refine ⟨ret2 (by unfold cn; rw [if_neg h2]) (by unfold ce; rw [if_neg h2, H0.out]), ?_, K2.out⟩
      unfold ck; rw [if_neg h2]
      exact H2.out
  · have hb : (re s.data.toList == 0) = false := beq_eq_false_iff_ne.2 h0
    have H0 := Lib.hid h0
    clear h0
    go_enter Try.func74, Try.ntmps74
    go_wp2_with fail
    refine (six_ReadWhole r s w HH.out HS.out).mono ?_
    rintro e w1 ⟨rfl, h2, k2⟩
    have H2 := Lib.hid h2
    have K2 := Lib.hid k2
    clear h2 k2
    go_wp2
    go_ret2
    have h2 : ¬ (re s.data.toList = 0 ∧ rn s.data.toList < 0) := fun h => H0.out h.1
    have hz : rn s.data.toList = 0 := by rcases HC.out with h | h; (exact absurd h.1 H0.out); (exact h.2.1)
    refine ⟨ret2 (by unfold cn; rw [if_neg h2, hz]) (by unfold ce; rw [if_neg h2]), ?_, K2.out⟩
    unfold ck; rw [if_neg h2]
    exact H2.out

theorem six_ReadRaw_nil (n : Int) (w : World) : Calls Try.prog 68 #[.pointer none, .int .i64 n] w fun e w' => e = .returned (.tuple #[.string ⟨#[]⟩, .int .i64 1]) ∧ w = w' := by
  go_enter Try.func68, Try.ntmps68
  go_wp2
  go_ret2
  exact ⟨rfl, rfl⟩

set_option maxHeartbeats 400000 in
theorem six_ReadRaw (r : Nat) (s : ByteArray) (n : Int) (w : World) (h : Rt r s w) (hs : s.size ≤ maxLen) (hn1 : -9223372036854775808 ≤ n) (hn2 : n ≤ 9223372036854775807) :
    Calls Try.prog 68 #[.pointer (some ⟨r, 0, none⟩), .int .i64 n] w (Rd r (s.extract (wk s.data.toList n) s.size) (.string (bs (ws s.data.toList n))) (.int .i64 (we s.data.toList n)) w) := by
  unfold maxLen at hs
  have HL := Lib.hid (show s.data.toList.length = s.size by rw [← Lib.size_eq])
  have c0 := h.cell
  have f0 := h.free
  have HH := Lib.hid h
  clear h
  by_cases h0 : n < 0
  · go_enter Try.func68, Try.ntmps68
    go_wp2
    go_ret2
    refine ⟨ret2s (by unfold ws; rw [if_pos (.inl h0)]; rfl) (by unfold we; rw [if_pos h0]), ?_, Only.refl _ _⟩
    unfold wk; rw [if_pos (.inl h0), rest0]; exact HH.out
  · obtain ⟨m, rfl⟩ : ∃ m : Nat, n = m := ⟨n.toNat, by omega⟩
    by_cases h1 : s.size < m
    · go_enter Try.func68, Try.ntmps68
      go_wp2
      go_ret2
      have h2 : (m : Int) < 0 ∨ (s.data.toList.length : Int) < m := .inr (by have := HL.out; omega)
      refine ⟨ret2s (by unfold ws; rw [if_pos h2]; rfl) (by unfold we; rw [if_neg (by omega), if_pos (by have := HL.out; omega)]), ?_, Only.refl _ _⟩
      unfold wk; rw [if_pos h2, rest0]; exact HH.out
    · go_enter Try.func68, Try.ntmps68
      go_wp2
      go_ret2
      have h2 : ¬ ((m : Int) < 0 ∨ (s.data.toList.length : Int) < m) := by have := HL.out; omega
      refine ⟨ret2s ?_ (by unfold we; rw [if_neg (by omega), if_neg (by have := HL.out; omega)]), ?_, (Only.refl (fun k => k = r) w).setCell (p := ⟨r, 0, none⟩) (.inl rfl) _⟩
      · unfold ws; rw [if_neg h2]
        exact (bs_eq (by rw [Lib.extract_data]; simp)).symm
      · unfold wk; rw [if_neg h2]
        exact HH.out.put _

end Go.Proofs.Ytlpknhiagdhkcaa
/- strings.Builder as the one field of package six's Writer: what copyCheck, WriteByte, WriteString and String do in its block. -/
set_option linter.unusedVariables false
set_option maxRecDepth 100000
namespace Go.Proofs.Ytlpknhiagdhkcaa
open Go.RowKit

theorem u61 : Try.prog.underlying 116 = some (.pointer 118) := by kernel_rfl
theorem u86 : Try.prog.underlying 149 = some .unsafePointer := by kernel_rfl
theorem size63 : (Try.prog.info? 118).map (·.size) = some 2 := by kernel_rfl
theorem lies65 : liesAt Try.prog Try.prog.depth 120 (2 / Try.prog.cellsOf 120) 0 118 1 = true := by kernel_rfl
theorem cells5 : Try.prog.cellsOf 5 = 1 := by kernel_rfl

set_option maxHeartbeats 1000000 in
theorem copyCheck_used (b : Nat) (w : World) (h0 : w.cell? ⟨b, 0, none⟩ = some (.pointer (some ⟨b, 0, none⟩))) :
    Calls Try.prog 71 #[.pointer (some ⟨b, 0, none⟩)] w fun e w' => e = .returned (.tuple #[]) ∧ w = w' := by
  obtain ⟨j, hj, hjs⟩ := Option.map_eq_some_iff.1 size63
  go_enter Try.func71, Try.ntmps71
  go_wp2
  first | rw [Lib.run_neq_ptr_same w _ u61 hj] | skip
  go_wp2
  go_end0
  exact ⟨rfl, rfl⟩

set_option maxHeartbeats 1000000 in
theorem copyCheck_fresh (b : Nat) (w : World) (h0 : w.cell? ⟨b, 0, none⟩ = some (.pointer none)) (hsh : w.shape? b = some (120, 2)) (hfz : w.frozen? ⟨b, 0, none⟩ = false) :
    Calls Try.prog 71 #[.pointer (some ⟨b, 0, none⟩)] w fun e w' => e = .returned (.tuple #[]) ∧ w.setCell ⟨b, 0, none⟩ (.pointer (some ⟨b, 0, none⟩)) = w' := by
  obtain ⟨j, hj, hjs⟩ := Option.map_eq_some_iff.1 size63
  go_enter Try.func71, Try.ntmps71
  go_wp2
  rw [Lib.run_to_unsafe w ⟨b, 0, none⟩ u61 u86 hj (by rw [hjs]; decide) hsh (Nat.zero_lt_succ 1)]
  simp only [Result.andThen]
  rw [Oper.upon_value]
  go_wp2
  rw [run_callFunc_extern Try.func78 (by kernel_rfl) (by kernel_rfl) (by kernel_rfl) (e := Extern.AbiNoEscape.same) (by kernel_rfl)]
  rw [Lib.run_noEscape]
  simp only [Result.andThen]
  rw [Oper.upon_value]
  go_wp2
  rw [Lib.run_from_unsafe w ⟨b, 0, none⟩ u86 u61 hj hsh lies65]
  simp only [Result.andThen]
  rw [Oper.upon_value]
  go_wp2
  go_end0
  exact ⟨rfl, rfl⟩

/-- In block b there is a writer that holds the bytes l; what it has laid lies in blocks from B on. -/
def Wt (B b : Nat) (l : List UInt8) (w : World) : Prop := Lib.IsBuilderF 120 5 B b (Lib.byteCells l) w

theorem Wt.lt {B b : Nat} {l : List UInt8} {w : World} (h : Wt B b l w) : b < w.heap.size := by
  rcases h with h | h
  · exact h.lt
  · exact h.lt
theorem Wt.le {B b : Nat} {l : List UInt8} {w : World} (h : Wt B b l w) : B ≤ b := by
  rcases h with h | h
  · exact h.1
  · exact h.1

theorem copyCheck_any (B b : Nat) (bs : List Value) (w : World) (h : Lib.IsBuilderF 120 5 B b bs w) :
    Calls Try.prog 71 #[.pointer (some ⟨b, 0, none⟩)] w fun e w' => e = .returned (.tuple #[]) ∧ (Lib.BuilderAtF 120 5 B b (.pointer (some ⟨b, 0, none⟩)) bs w' ∧ Below B w w') := by
  rcases h with h | h
  · refine (copyCheck_fresh b w h.cell0 h.shape h.frozen0).mono ?_
    rintro e w' ⟨rfl, rfl⟩
    exact ⟨rfl, h.used _, (Below.refl B w).setCell (p := ⟨b, 0, none⟩) h.1 _⟩
  · refine (copyCheck_used b w h.cell0).mono ?_
    rintro e w' ⟨rfl, rfl⟩
    exact ⟨rfl, h, Below.refl B _⟩

theorem byteCells_snoc (l : List UInt8) (c : UInt8) : Lib.byteCells (l ++ [c]) = Lib.byteCells l ++ [.int .u8 c.toNat] := by simp [Lib.byteCells]
theorem byteCells_append (l : List UInt8) (s : ByteArray) : Lib.byteCells (l ++ s.data.toList) = Lib.byteCells l ++ Lib.strCells s := by simp [Lib.byteCells, Lib.strCells]

set_option maxHeartbeats 2000000 in
set_option maxRecDepth 100000 in
theorem builder_WriteByte (B b : Nat) (l : List UInt8) (c : UInt8) (w : World) (h : Wt B b l w) (hlen : l.length + 1 ≤ 140737488355328) :
    Calls Try.prog 72 #[.pointer (some ⟨b, 0, none⟩), .int .u8 c.toNat] w fun e w' => e = .returned .nilIface ∧ Wt B b (l ++ [c]) w' ∧ Below B w w' := by
  have hBw : B ≤ w.heap.size := by have := h.lt; have := h.le; omega
  obtain ⟨i0, hi, hz0, hz1, hz2⟩ := info_parts info5
  have HL := Lib.hid (Lib.byteCells_length l)
  have HW := Lib.hid h
  clear h
  go_enter Try.func72, Try.ntmps72
  go_wp2_with (go_at_call 71; refine (copyCheck_any B b _ _ HW.out).mono ?_)
  rintro e w1 ⟨rfl, h1, hb1⟩
  obtain ⟨hB, v, hbk, hown, hne⟩ := h1
  have c0 : w1.cell? ⟨b, 0, none⟩ = some (.pointer (some ⟨b, 0, none⟩)) := by rw [Lib.cell_of_heap hbk]; rfl
  have c1 : w1.cell? ⟨b, 1, none⟩ = some v := by rw [Lib.cell_of_heap hbk]; rfl
  go_wp2_with (at_builtin; refine wpList_append_ownF _ rfl _ _ 76 rfl B 5 i0 (.int .u8 0) 1 1 Try.underlying76 hi hz0 hz1 hz2 rfl (by decide) _ _ _ rfl (hown.alloc _) ⟨w1.heap.size, 0, none⟩ 1 1 [.int .u8 (c.toNat : Int)] rfl rfl ?c1 ?c2 ?c3 ?c4 ?c5 ?_)
  case c1 =>
    intro j u hj
    match j, hj with
    | 0, hj => simp at hj; subst hj; simp [Addr.add]
  case c2 => intro u hu; simp at hu; subst hu; rfl
  case c3 => unfold maxLen; have := HL.out; omega
  case c4 => have := HL.out; omega
  case c5 => have := hb1.size; simp; omega
  intro v' w2 hown' hgrow _
  have hlt : b < w1.heap.size := by
    rcases Nat.lt_or_ge b w1.heap.size with h' | h'
    · exact h'
    · simp [Array.getElem?_eq_none h'] at hbk
  have hb2 : w2.heap[b]? = some (.cells #[.pointer (some ⟨b, 0, none⟩), v] 120 (0, 0)) := by
    rw [hgrow.block b (by simp; omega) (fun e => hne e.symm)]
    exact (Lib.alloc_old w1 _ b hlt).trans hbk
  have d0 : w2.cell? ⟨b, 0, none⟩ = some (.pointer (some ⟨b, 0, none⟩)) := by rw [Lib.cell_of_heap hb2]; rfl
  have d1 : w2.cell? ⟨b, 1, none⟩ = some v := by rw [Lib.cell_of_heap hb2]; rfl
  have f1 : w2.frozen? ⟨b, 1, none⟩ = false := Lib.frozen_of_heap hb2 1
  obtain ⟨ao, n', cap, rfl⟩ : ∃ ao n' cap, v' = .slice ao n' cap := by
    rcases hown'.2 with ⟨hv, _⟩ | ⟨g, cap, cur, fz, hv, _⟩
    · exact ⟨_, _, _, hv⟩
    · exact ⟨_, _, _, hv⟩
  go_wp2
  go_ret
  refine ⟨rfl, ?_, ?_⟩
  · refine .inr ?_
    rw [byteCells_snoc]
    exact Lib.BuilderAtF.put (T := 120) (e := 5) hB hb2 (bs' := Lib.byteCells l ++ [.int .u8 (c.toNat : Int)]) (by simpa using hown') (by decide)
  · exact ((hb1.alloc (by have := hb1.size; omega) _).grown hgrow (by have := hb1.size; simp; omega) (fun k hk => (hown.lt k hk).1)).setCell (p := ⟨b, 1, none⟩) hB _

set_option maxHeartbeats 2000000 in
set_option maxRecDepth 100000 in
theorem builder_WriteString (B b : Nat) (l : List UInt8) (s : ByteArray) (w : World) (h : Wt B b l w) (hlen : l.length + s.size ≤ 140737488355328) :
    Calls Try.prog 57 #[.pointer (some ⟨b, 0, none⟩), .string s] w fun e w' => e = .returned (.tuple #[.int .i64 s.size, .nilIface]) ∧ Wt B b (l ++ s.data.toList) w' ∧ Below B w w' := by
  have hBw : B ≤ w.heap.size := by have := h.lt; have := h.le; omega
  obtain ⟨i0, hi, hz0, hz1, hz2⟩ := info_parts info5
  have HL := Lib.hid (Lib.byteCells_length l)
  have HW := Lib.hid h
  clear h
  go_enter Try.func57, Try.ntmps57
  go_wp2_with (go_at_call 71; refine (copyCheck_any B b _ _ HW.out).mono ?_)
  rintro e w1 ⟨rfl, h1, hb1⟩
  obtain ⟨hB, v, hbk, hown, hne⟩ := h1
  have c0 : w1.cell? ⟨b, 0, none⟩ = some (.pointer (some ⟨b, 0, none⟩)) := by rw [Lib.cell_of_heap hbk]; rfl
  have c1 : w1.cell? ⟨b, 1, none⟩ = some v := by rw [Lib.cell_of_heap hbk]; rfl
  go_wp2_with (at_builtin; refine Lib.wpList_append_own_stringF _ rfl _ _ 76 9 rfl B 5 i0 Try.underlying76 Try.underlying9 hi hz0 hz1 hz2 _ _ _ rfl hown s rfl ?c3 ?c4 ?c5 ?_)
  case c3 => unfold maxLen; have := HL.out; omega
  case c4 => have := HL.out; omega
  case c5 => have := hb1.size; omega
  intro v' w2 hown' hgrow _
  have hlt : b < w1.heap.size := by
    rcases Nat.lt_or_ge b w1.heap.size with h' | h'
    · exact h'
    · simp [Array.getElem?_eq_none h'] at hbk
  have hb2 : w2.heap[b]? = some (.cells #[.pointer (some ⟨b, 0, none⟩), v] 120 (0, 0)) := by
    rw [hgrow.block b hlt (fun e => hne e.symm)]
    exact hbk
  have d0 : w2.cell? ⟨b, 0, none⟩ = some (.pointer (some ⟨b, 0, none⟩)) := by rw [Lib.cell_of_heap hb2]; rfl
  have d1 : w2.cell? ⟨b, 1, none⟩ = some v := by rw [Lib.cell_of_heap hb2]; rfl
  have f1 : w2.frozen? ⟨b, 1, none⟩ = false := Lib.frozen_of_heap hb2 1
  obtain ⟨ao, n', cap, rfl⟩ : ∃ ao n' cap, v' = .slice ao n' cap := by
    rcases hown'.2 with ⟨hv, _⟩ | ⟨g, cap, cur, fz, hv, _⟩
    · exact ⟨_, _, _, hv⟩
    · exact ⟨_, _, _, hv⟩
  go_wp2
  go_ret2
  refine ⟨rfl, ?_, ?_⟩
  · refine .inr ?_
    rw [byteCells_append]
    exact Lib.BuilderAtF.put (T := 120) (e := 5) hB hb2 (bs' := Lib.byteCells l ++ Lib.strCells s) (by simpa [Lib.strCells_length] using hown') (by decide)
  · exact (hb1.grown hgrow (by have := hb1.size; omega) (fun k hk => (hown.lt k hk).1)).setCell (p := ⟨b, 1, none⟩) hB _

theorem u85 : Try.prog.underlying 144 = some (.pointer 5) := by kernel_rfl

set_option maxHeartbeats 1000000 in
set_option maxRecDepth 100000 in
theorem builder_String_some (B b : Nat) (l : List UInt8) (w : World) (h : Wt B b l w) (h0 : l ≠ []) :
    Calls Try.prog 60 #[.pointer (some ⟨b, 0, none⟩)] w fun e w' => e = .returned (.string (bs l)) ∧ Wt B b l w' ∧ Below B w w' ∧ Lib.OthersKept 5 (some b) w w' := by
  obtain ⟨p, hp, hAt⟩ : ∃ p, (p = .pointer none ∨ p = .pointer (some ⟨b, 0, none⟩)) ∧ Lib.BuilderAtF 120 5 B b p (Lib.byteCells l) w := by
    rcases h with h | h
    · exact ⟨_, .inl rfl, h⟩
    · exact ⟨_, .inr rfl, h⟩
  obtain ⟨hB, v, hbk, hown, hne⟩ := hAt
  have hl0 : l.length ≠ 0 := by simpa using h0
  rw [Lib.byteCells_length] at hown
  obtain ⟨g, cap, cur, fz, rfl, hbg, hg, hfz, hnc, hcm, hcs, htake⟩ : ∃ g cap cur fz, v = .slice (some ⟨g, 0, none⟩) l.length cap ∧ B ≤ g ∧ w.heap[g]? = some (.cells cur 5 fz) ∧ fz.2 ≤ l.length * 1 ∧ l.length ≤ cap ∧ cap ≤ maxLen ∧ cur.size = cap * 1 ∧ cur.toList.take (l.length * 1) = Lib.byteCells l := by
    rcases hown.2 with ⟨_, hz⟩ | ⟨g, cap, cur, fz, hv, r⟩
    · exact absurd hz hl0
    · exact ⟨g, cap, cur, fz, hv, r⟩
  have c1 : w.drew.cell? ⟨b, 1, none⟩ = some (.slice (some ⟨g, 0, none⟩) l.length cap) := by
    have : w.drew.heap[b]? = some (.cells #[p, .slice (some ⟨g, 0, none⟩) l.length cap] 120 (0, 0)) := hbk
    rw [Lib.cell_of_heap this]; rfl
  have hSD : (Builtin.unsafeSliceData_ #[76] 144 #[.slice (some ⟨g, 0, none⟩) l.length cap]).run Try.prog w.drew = .ok (.pointer (some ⟨g, 0, none⟩)) w.drew :=
    Lib.run_unsafeSliceData_row _ _ _ _ _ _ (by omega)
  have hUS : (Builtin.unsafeString_ #[144, 3] 9 #[.pointer (some ⟨g, 0, none⟩), .int .i64 l.length]).run Try.prog w.drew = .ok (.string ⟨l.toArray⟩) (w.drew.freeze ⟨g, 0, none⟩ l.length) := by
    refine Lib.run_unsafeString_row w.drew 144 3 9 5 u85 cells5 g cur.size (by have hg' : w.drew.heap[g]? = some (.cells cur 5 fz) := hg; simp [World.shape?, hg']) l h0 (by omega) (by unfold maxLen at hcm; omega) ?_
    intro j x hx
    have := hown.cells (g := g) rfl j (.int .u8 x.toNat) (by simp [Lib.byteCells, hx])
    exact this
  have hkeep : Lib.IsBuilderF 120 5 B b (Lib.byteCells l) (w.drew.freeze ⟨g, 0, none⟩ l.length) := by
    have hA : Lib.BuilderAtF 120 5 B b p (Lib.byteCells l) w.drew := ⟨hB, _, hbk, by rw [Lib.byteCells_length]; exact hown, hne⟩
    have hF := hA.froze (g := g) (cap := cap) (by rw [Lib.byteCells_length]; exact c1)
    rw [Lib.byteCells_length] at hF
    rcases hp with rfl | rfl
    · exact .inl hF
    · exact .inr hF
  have HO := Lib.hid (show ∃ c fz, w.drew.heap[g]? = some (.cells c 5 fz) from ⟨_, _, hg⟩)
  go_enter Try.func60, Try.ntmps60
  go_wp2
  go_region
  all_goals (go_wp2; go_ret; exact ⟨rfl, hkeep, Lib.below_freeze (Below.drew (Below.refl B w)) (p := ⟨g, 0, none⟩) hbg _, (Lib.OthersKept.drew (Lib.OthersKept.refl 5 (some b) w)).freeze ⟨g, 0, none⟩ _ HO.out⟩)

theorem unsafeString_none (W : World) (q : Option Addr) : (Builtin.unsafeString_ #[144, 3] 9 #[.pointer q, .int .i64 0]).run Try.prog W = .ok (.string .empty) W := Lib.run_unsafeString_none W _ _ _ q

set_option maxHeartbeats 1000000 in
set_option maxRecDepth 100000 in
theorem builder_String_nil (B b : Nat) (p : Value) (w : World) (hbk : w.heap[b]? = some (.cells #[p, .slice none 0 0] 120 (0, 0))) (hA : Hid (Lib.BuilderAtF 120 5 B b p [] w)) :
    Calls Try.prog 60 #[.pointer (some ⟨b, 0, none⟩)] w fun e w' => e = .returned (.string ⟨#[]⟩) ∧ (Lib.BuilderAtF 120 5 B b p [] w' ∧ Below B w w' ∧ Lib.OthersKept 5 (some b) w w') := by
  have hUS := unsafeString_none
  have c1 : w.drew.cell? ⟨b, 1, none⟩ = some (.slice none 0 0) := by
    have : w.drew.heap[b]? = some (.cells #[p, .slice none 0 0] 120 (0, 0)) := hbk
    rw [Lib.cell_of_heap this]; rfl
  have hSD : (Builtin.unsafeSliceData_ #[76] 144 #[.slice none 0 0]).run Try.prog w.drew = .ok (.pointer none) w.drew := rfl
  go_enter Try.func60, Try.ntmps60
  go_wp2
  go_region
  all_goals (go_wp2; go_ret; exact ⟨rfl, hA.out.drew, Below.drew (Below.refl B w), Lib.OthersKept.drew (Lib.OthersKept.refl 5 (some b) w)⟩)

set_option maxHeartbeats 1000000 in
set_option maxRecDepth 100000 in
theorem builder_String_noroom (B b g : Nat) (p : Value) (cur : Array Value) (w : World) (hBw : B ≤ w.heap.size) (hbk : w.heap[b]? = some (.cells #[p, .slice (some ⟨g, 0, none⟩) 0 0] 120 (0, 0))) (fz : Nat × Nat) (hg : w.heap[g]? = some (.cells cur 5 fz)) (hA : Hid (Lib.BuilderAtF 120 5 B b p [] w)) :
    Calls Try.prog 60 #[.pointer (some ⟨b, 0, none⟩)] w fun e w' => e = .returned (.string ⟨#[]⟩) ∧ (Lib.BuilderAtF 120 5 B b p [] w' ∧ Below B w w' ∧ Lib.OthersKept 5 (some b) w w') := by
  have hUS := unsafeString_none
  have hlt : b < w.heap.size := by
    rcases Nat.lt_or_ge b w.heap.size with h' | h'
    · exact h'
    · simp [Array.getElem?_eq_none h'] at hbk
  have c1 : w.drew.cell? ⟨b, 1, none⟩ = some (.slice (some ⟨g, 0, none⟩) 0 0) := by
    have : w.drew.heap[b]? = some (.cells #[p, .slice (some ⟨g, 0, none⟩) 0 0] 120 (0, 0)) := hbk
    rw [Lib.cell_of_heap this]; rfl
  have hSD : (Builtin.unsafeSliceData_ #[76] 144 #[.slice (some ⟨g, 0, none⟩) 0 0]).run Try.prog w.drew = .ok (.pointer (some ⟨w.drew.heap.size, 0, none⟩)) (w.drew.alloc (.view ⟨g, 0, none⟩ 5)) :=
    Lib.run_unsafeSliceData_zero w.drew _ _ 5 u85 ⟨g, 0, none⟩ 0 (5, cur.size) (by have hg' : w.drew.heap[g]? = some (.cells cur 5 fz) := hg; simp [World.shape?, hg'])
  have c2 : (w.drew.alloc (.view ⟨g, 0, none⟩ 5)).cell? ⟨b, 1, none⟩ = some (.slice (some ⟨g, 0, none⟩) 0 0) := by
    have : (w.drew.alloc (.view ⟨g, 0, none⟩ 5)).heap[b]? = _ := (Lib.alloc_old w.drew _ b hlt).trans hbk
    rw [Lib.cell_of_heap this]; rfl
  have c3 : (w.alloc (.view ⟨g, 0, none⟩ 5)).drew.cell? ⟨b, 1, none⟩ = some (.slice (some ⟨g, 0, none⟩) 0 0) := c2
  have c0 : w.cell? ⟨b, 1, none⟩ = some (.slice (some ⟨g, 0, none⟩) 0 0) := c1
  go_enter Try.func60, Try.ntmps60
  go_wp2
  go_region
  all_goals (go_wp2; go_ret; exact ⟨rfl, hA.out.drew.alloc _, (Below.drew (Below.refl B w)).alloc hBw _, (Lib.OthersKept.drew (Lib.OthersKept.refl 5 (some b) w)).alloc _⟩)

set_option maxHeartbeats 1000000 in
set_option maxRecDepth 100000 in
theorem builder_String_room (B b g cap : Nat) (p : Value) (w : World) (hc0 : cap ≠ 0) (hbk : w.heap[b]? = some (.cells #[p, .slice (some ⟨g, 0, none⟩) 0 cap] 120 (0, 0))) (hA : Hid (Lib.BuilderAtF 120 5 B b p [] w)) :
    Calls Try.prog 60 #[.pointer (some ⟨b, 0, none⟩)] w fun e w' => e = .returned (.string ⟨#[]⟩) ∧ (Lib.BuilderAtF 120 5 B b p [] w' ∧ Below B w w' ∧ Lib.OthersKept 5 (some b) w w') := by
  have hUS := unsafeString_none
  have c1 : w.drew.cell? ⟨b, 1, none⟩ = some (.slice (some ⟨g, 0, none⟩) 0 cap) := by
    have : w.drew.heap[b]? = some (.cells #[p, .slice (some ⟨g, 0, none⟩) 0 cap] 120 (0, 0)) := hbk
    rw [Lib.cell_of_heap this]; rfl
  have hSD : (Builtin.unsafeSliceData_ #[76] 144 #[.slice (some ⟨g, 0, none⟩) 0 cap]).run Try.prog w.drew = .ok (.pointer (some ⟨g, 0, none⟩)) w.drew :=
    Lib.run_unsafeSliceData_row _ _ _ _ _ _ hc0
  clear hc0
  go_enter Try.func60, Try.ntmps60
  go_wp2
  go_region
  all_goals (go_wp2; go_ret; exact ⟨rfl, hA.out.drew, Below.drew (Below.refl B w), Lib.OthersKept.drew (Lib.OthersKept.refl 5 (some b) w)⟩)

theorem builder_String (B b : Nat) (l : List UInt8) (w : World) (h : Wt B b l w) :
    Calls Try.prog 60 #[.pointer (some ⟨b, 0, none⟩)] w fun e w' => e = .returned (.string (bs l)) ∧ Wt B b l w' ∧ Below B w w' ∧ Lib.OthersKept 5 (some b) w w' := by
  have hBw : B ≤ w.heap.size := by have := h.lt; have := h.le; omega
  cases l with
  | cons x r => exact builder_String_some B b (x :: r) w h (by simp)
  | nil =>
    obtain ⟨p, hp, hA⟩ : ∃ p, (p = .pointer none ∨ p = .pointer (some ⟨b, 0, none⟩)) ∧ Lib.BuilderAtF 120 5 B b p [] w := by
      rcases h with h | h
      · exact ⟨_, .inl rfl, h⟩
      · exact ⟨_, .inr rfl, h⟩
    have fin : ∀ (e : Ending) (w' : World), (e = .returned (.string ⟨#[]⟩) ∧ (Lib.BuilderAtF 120 5 B b p [] w' ∧ Below B w w' ∧ Lib.OthersKept 5 (some b) w w')) → e = .returned (.string (bs [])) ∧ Wt B b [] w' ∧ Below B w w' ∧ Lib.OthersKept 5 (some b) w w' := by
      rintro e w' ⟨he, hk, hb⟩
      rcases hp with rfl | rfl
      · exact ⟨he, .inl hk, hb⟩
      · exact ⟨he, .inr hk, hb⟩
    have hA' := hA
    obtain ⟨hB, v, hbk, hown, hne⟩ := hA
    rcases hown.2 with ⟨rfl, _⟩ | ⟨g, cap, cur, fz, rfl, hbg, hg, _, _, _, _, _⟩
    · exact (builder_String_nil B b p w hbk (Lib.hid hA')).mono fin
    · by_cases hc0 : cap = 0
      · subst hc0
        exact (builder_String_noroom B b g p cur w hBw hbk fz hg (Lib.hid hA')).mono fin
      · exact (builder_String_room B b g cap p w hc0 hbk (Lib.hid hA')).mono fin

/-! ### The writer's own -/

theorem six_New (w : World) : Calls Try.prog 31 #[] w fun e w' => e = .returned (.pointer (some ⟨w.heap.size, 0, none⟩)) ∧ w.alloc (.cells #[.pointer none, .slice none 0 0] 120) = w' := by
  go_enter Try.func31, Try.ntmps31
  go_wp2
  go_ret
  exact ⟨rfl, rfl⟩

theorem wt_new (w : World) : Wt w.heap.size w.heap.size [] (w.alloc (.cells #[.pointer none, .slice none 0 0] 120)) := by
  refine .inl ⟨Nat.le_refl _, .slice none 0 0, ?_, World.ownsRowF_nil _ _ _ _, by simp [Value.ownBlock]⟩
  show (w.heap.push _)[w.heap.size]? = _
  simp

theorem six_Bytes (B b : Nat) (l : List UInt8) (w : World) (h : Wt B b l w) :
    Calls Try.prog 36 #[.pointer (some ⟨b, 0, none⟩)] w fun e w' => e = .returned (.string (bs l)) ∧ Wt B b l w' ∧ Below B w w' ∧ Lib.OthersKept 5 (some b) w w' := by
  have HW := Lib.hid h
  clear h
  go_enter Try.func36, Try.ntmps36
  go_wp2_with fail
  refine (builder_String B b l _ HW.out).mono ?_
  rintro e w1 ⟨rfl, h2, k2⟩
  have H2 := Lib.hid h2
  have K2 := Lib.hid k2
  clear h2 k2
  go_wp2
  go_ret
  exact ⟨rfl, H2.out, K2.out⟩
theorem six_Bytes_nil (w : World) : Calls Try.prog 36 #[.pointer none] w fun e w' => e = .returned (.string ⟨#[]⟩) ∧ w = w' := by
  go_enter Try.func36, Try.ntmps36
  go_wp2
  go_ret
  exact ⟨rfl, rfl⟩

end Go.Proofs.Ytlpknhiagdhkcaa
