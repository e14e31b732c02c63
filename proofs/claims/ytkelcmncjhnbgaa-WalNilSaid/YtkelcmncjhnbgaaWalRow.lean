/- Rows of bytes of the call's own: a text appended, and the whole as a string; a log in memory. -/
import Derived.Test.YtkelcmncjhnbgaaWalLaw
import Derived.Test.YtkelcmncjhnbgaaDiskArm
import Derived.Test.YtkelcmncjhnbgaaQFirst
set_option linter.unusedVariables false
set_option maxRecDepth 100000
namespace Go.Proofs.Ytkelcmncjhnbgaa
open Go.RowKit

/-- Elements more. -/
theorem run_append_offS {P : Program} {w : World} {B : Nat} (t tx ty e : TypeId) (i : TypeInfo) (z : Value) (size bytes : Nat) (ht : P.underlying t = some (.slice e)) (hi : P.info? e = some i) (hz : i.zero = some z)
    (hsize : i.size = size) (hby : i.bytes = bytes) (hzs : z.cells.size = size)
    {v : Value} {n : Nat} {xs : List Value} (h : OffRow w B e size v n xs) (x : Value) (m : Nat) (news : List Value) (hs : Src P size tx x m news w)
    (h63 : n + m ≤ maxLen) (hbytes : (n + m) * bytes ≤ 140737488355328) (hB : B ≤ w.heap.size) :
    ∃ v' w', (Builtin.append_ #[t, tx] ty #[v, x]).run P w = .ok v' w' ∧ OffRow w' B e size v' (n + m) (xs ++ news) ∧ w.grownBy w' v.ownBlock ∧ (v'.ownBlock = v.ownBlock ∨ v'.ownBlock = some w.heap.size) := by
  subst hsize hby
  have hlen : (xs ++ news).length = (n + m) * i.size := by rw [List.length_append, h.1, hs.newsLen, Nat.add_mul]
  have hsmall : ((n + m : Nat) : Int) ≤ 9223372036854775807 := by unfold maxLen at h63; omega
  have grown : ∀ old, old < n + m → OffRow (w.drew.alloc (.cells ((xs ++ news).toArray ++ Builtin.zeroCells z.cells (grownCap w (n + m) old e - (n + m))) e)) B e i.size (.slice (some ⟨w.heap.size, 0, none⟩) (n + m) (grownCap w (n + m) old e)) (n + m) (xs ++ news) := by
    intro old ho
    refine ⟨hlen, .inr ⟨w.heap.size, 0, _, _, rfl, hB, heap_new w.drew _, grownCap_ge w (n + m) old e, grownCap_le_maxLen w (n + m) old e h63, ?_, fun j hj => ?_⟩⟩
    · have := grownCap_ge w (n + m) old e
      rw [Array.size_append, size_zeroCells, hzs, List.size_toArray, hlen, ← Nat.add_mul]
      exact Nat.le_of_eq (by rw [Nat.zero_add]; congr 1; omega)
    · rw [Nat.zero_add, Array.getElem?_append_left (by simpa [hlen] using hj)]
      simp
  rcases h.2 with ⟨rfl, rfl⟩ | ⟨g, off, cap, cur, rfl, hBg, hg, h1, h2, h3, h4⟩
  · obtain rfl : xs = [] := List.eq_nil_of_length_eq_zero (by simpa using h.1)
    by_cases hm : m = 0
    · subst hm
      obtain rfl : news = [] := List.eq_nil_of_length_eq_zero (by simpa using hs.newsLen)
      refine ⟨.slice none 0 0, w, ?_, OffRow.nil w B e i.size, ⟨rfl, rfl, rfl, Nat.le_refl _, fun _ _ _ => rfl⟩, .inl rfl⟩
      rcases hs.kind with ⟨e', hk⟩ | hk <;> simp [Builtin.append_, run_underlying ht, run_underlying hk, sizeOf, typeInfo, hi, hs.len, hs.cells]
    · have hold : (Builtin.firstCells i.size 0 (.slice none 0 0)).run P w.drew = .ok (#[] : Array Value) w.drew := rfl
      have hr := run_append_grow_src (P := P) w t tx ty e i z ht hi hz none 0 0 [] (by simpa using hold) x m news hs (by omega) (by simpa using hsmall) (growslice_fits (by omega) (by simpa using hbytes))
      simp only [Nat.zero_add, List.nil_append] at hr
      have hgr := grown 0 (by omega)
      simp only [Nat.zero_add, List.nil_append] at hgr ⊢
      exact ⟨_, _, hr, hgr, ⟨rfl, rfl, rfl, by simp, fun k hk _ => Below.heap_alloc w.drew _ k hk⟩, .inr rfl⟩
  · by_cases hroom : n + m ≤ cap
    · have hbd : ∀ j, j < news.length → off + n * i.size + j < cur.size := by
        intro j hj
        rw [hs.newsLen] at hj
        have : (n + m) * i.size ≤ cap * i.size := Nat.mul_le_mul_right _ hroom
        rw [Nat.add_mul] at this
        omega
      have hr := run_append_room_src (P := P) w t tx ty e i ht hi g off n cap x m news hs hroom (fun j hj => by simp [World.cell?, hg, hbd j hj]) (fun j hj => by simp [World.frozen?, hg])
      obtain ⟨cur', a1, a2, a3, a4⟩ := setCells_heap news g (off + n * i.size) w cur e hg
      obtain ⟨b1, b2, b3, b4⟩ := setCells_meta news g (off + n * i.size) w
      refine ⟨_, _, hr, ⟨hlen, .inr ⟨g, off, cap, cur', rfl, hBg, a1, hroom, h2, by omega, fun j hj => ?_⟩⟩, ⟨b1, b2, b3, by omega, fun k _ hk => setCells_other _ _ _ _ _ (fun e => hk (by simp [Value.ownBlock, e]))⟩, .inl rfl⟩
      by_cases hjo : j < n * i.size
      · rw [a4 _ (.inl (by omega)), h4 j hjo, List.getElem?_append_left (by rw [h.1]; exact hjo)]
      · have hjn : j - n * i.size < news.length := by rw [hs.newsLen]; rw [Nat.add_mul] at hj; omega
        rw [List.getElem?_append_right (by rw [h.1]; omega), h.1, ← a3 (j - n * i.size) hjn (hbd _ hjn)]
        congr 1
        omega
    · have hold : (Builtin.firstCells i.size n (.slice (some ⟨g, off, none⟩) n cap)).run P w.drew = .ok xs.toArray w.drew :=
        run_firstCells_some w.drew i.size n ⟨g, off, none⟩ n cap xs h.1 (fun j u hj => by
          have hjl : j < n * i.size := by rw [← h.1]; exact (List.getElem?_eq_some_iff.1 hj).1
          rw [addr_add]
          show w.cell? _ = _
          rw [← hj, ← h4 j hjl]
          simp [World.cell?, hg])
      have hr := run_append_grow_src (P := P) w t tx ty e i z ht hi hz (some ⟨g, off, none⟩) n cap xs hold x m news hs (by omega) hsmall (growslice_fits (by omega) hbytes)
      exact ⟨_, _, hr, grown cap (by omega), ⟨rfl, rfl, rfl, by simp, fun k hk _ => Below.heap_alloc w.drew _ k hk⟩, .inr rfl⟩
theorem wp_append_offS {P : Program} {w : World} {o : Oper} {a : Act} {K : Act → World → Prop} {Q : Exit → Act → World → Prop} (s x : Operand) (t tx : TypeId)
    (ho : o.op = .call { callee := .builtin .append, args := #[s, x], argTypes := #[t, tx] })
    (B : Nat) (e : TypeId) (i : TypeInfo) (z : Value) (size bytes : Nat) (ht : P.underlying t = some (.slice e)) (hi : P.info? e = some i) (hz : i.zero = some z)
    (hsize : i.size = size) (hby : i.bytes = bytes) (hzs : z.cells.size = size)
    (v : Value) (n : Nat) (xs : List Value) (hs : a.eval s = v) (hown : OffRow w B e size v n xs) (xv : Value) (hx : a.eval x = xv) (m : Nat) (news : List Value) (hsrc : Src P size tx xv m news w)
    (h63 : n + m ≤ maxLen) (hbytes : (n + m) * bytes ≤ 140737488355328) (hB : B ≤ w.heap.size)
    (h : ∀ v' w', OffRow w' B e size v' (n + m) (xs ++ news) → w.grownBy w' v.ownBlock → (v'.ownBlock = v.ownBlock ∨ v'.ownBlock = some w.heap.size) → K (a.put o.dst v') w') : o.wp P a w K Q := by
  obtain ⟨v', w', hr, h2, h3, h4⟩ := run_append_offS (P := P) t tx o.type e i z size bytes ht hi hz hsize hby hzs hown xv m news hsrc h63 hbytes hB
  unfold Oper.wp execOp
  simp only [ho, resolve, invoke, builtin, Sem.run_bind, Sem.run_pure, Result.andThen_ok, List.map_toArray, List.map_cons, List.map_nil, hs, hx, hr]
  exact h v' w' h2 h3 h4
/-- At a plain region's list. -/
theorem wpList_append_offS {P : Program} {w : World} {ops : Array Oper} {rest : List Oper} {o : Oper} {a : Act} {Q : Exit → Act → World → Prop} (hgd : o.guard = none) (s x : Operand) (t tx : TypeId)
    (ho : o.op = .call { callee := .builtin .append, args := #[s, x], argTypes := #[t, tx] })
    (B : Nat) (e : TypeId) (i : TypeInfo) (z : Value) (size bytes : Nat) (ht : P.underlying t = some (.slice e)) (hi : P.info? e = some i) (hz : i.zero = some z)
    (hsize : i.size = size) (hby : i.bytes = bytes) (hzs : z.cells.size = size)
    (v : Value) (n : Nat) (xs : List Value) (hs : a.eval s = v) (hown : OffRow w B e size v n xs) (xv : Value) (hx : a.eval x = xv) (m : Nat) (news : List Value) (hsrc : Src P size tx xv m news w)
    (h63 : n + m ≤ maxLen) (hbytes : (n + m) * bytes ≤ 140737488355328) (hB : B ≤ w.heap.size)
    (h : ∀ v' w', OffRow w' B e size v' (n + m) (xs ++ news) → w.grownBy w' v.ownBlock → (v'.ownBlock = v.ownBlock ∨ v'.ownBlock = some w.heap.size) → wpList P ops Q rest (a.put o.dst v') w') : wpList P ops Q (o :: rest) a w :=
  wpList_plain hgd fun _ hK => wp_append_offS s x t tx ho B e i z size bytes ht hi hz hsize hby hzs v n xs hs hown xv hx m news hsrc h63 hbytes hB fun v' w' h2 h3 h4 => hK _ _ (h v' w' h2 h3 h4)


theorem infoByte : (Try.prog.info? 5).map (fun i => (i.zero, i.size, i.bytes)) = some (some (.int .u8 0), 1, 1) := by kernel_rfl
/-- A row of bytes of the call's own. -/
def OwnB (w : World) (B : Nat) (v : Value) (F : List UInt8) : Prop := OffRow w B 5 1 v F.length (F.map byteV)
/-- Such a row as a string. -/
theorem conv_own {w : World} {B : Nat} {v : Value} {F : List UInt8} (h : OwnB w B v F) (hF : 0 < F.length) : (convert 34 9 v).run Try.prog w = .ok (.string (bs F)) w := by
  obtain ⟨g, off, cap, cur, rfl, hB, hg, hc⟩ := OffRow.form h hF
  refine run_convert_bytes_back (P := Try.prog) _ 34 9 5 ⟨g, off, none⟩ cap F Try.underlying34 Try.underlying5 Try.underlying9 ?_
  intro j hj
  rw [addr_add, hc j (by omega), List.getElem?_map, List.getElem?_eq_getElem hj]
  rfl

/-- A log in memory: the disk that it writes to and all that is its own lies in the blocks O; its file, the frames that wait, and how many records wait, were written, are sure. -/
def Lg (O : Nat → Prop) (w : World) (lb d : Nat) (s : DS) (file : Int) (F : List UInt8) (wt wr su : Nat) : Prop :=
  ∃ S fv, Disk S w d s ∧ (∀ k, S k → O k) ∧ O lb ∧ ¬ S lb ∧ OwnB w 0 fv F ∧ (∀ g, fv.ownBlock = some g → O g ∧ ¬ S g) ∧
    w.heap[lb]? = some (.cells #[.pointer (some ⟨d, 0, none⟩), .int .i64 file, fv, .int .i64 (wt : Int), .int .i64 (wr : Int), .int .i64 (su : Int)] 83 (0, 0))
namespace Lg
variable {O T : Nat → Prop} {w w' : World} {lb d wt wr su : Nat} {s : DS} {file : Int} {F : List UInt8}
theorem lt (h : Lg O w lb d s file F wt wr su) : lb < w.heap.size ∧ d < w.heap.size := by
  obtain ⟨S, fv, h1, h2, h3, h4, h5, h6, h7⟩ := h
  exact ⟨heap_lt h7, h1.lt.1⟩
theorem only (h : Lg O w lb d s file F wt wr su) (k : Only T w w') (hT : ∀ j, j < w.heap.size → O j → ¬ T j) : Lg O w' lb d s file F wt wr su := by
  obtain ⟨S, fv, h1, h2, h3, h4, h5, h6, h7⟩ := h
  exact ⟨S, fv, h1.only k (fun j hj hs => hT j hj (h2 j hs)), h2, h3, h4, OffRow.kept h5 (fun j hj => k.block j (OffRow.lt h5 j hj).2 (hT j (OffRow.lt h5 j hj).2 (h6 j hj).1)), h6, (k.block lb (heap_lt h7) (hT lb (heap_lt h7) h3)).trans h7⟩
theorem below (h : Lg O w lb d s file F wt wr su) (k : Below w.heap.size w w') : Lg O w' lb d s file F wt wr su :=
  h.only (T := fun _ => False) ⟨k.os, k.tape, k.output, k.size, fun j hj _ => k.block j hj⟩ (fun _ _ _ x => x)
theorem mono {O' : Nat → Prop} (h : Lg O w lb d s file F wt wr su) (hO : ∀ k, k < w.heap.size → O k → O' k) : Lg O' w lb d s file F wt wr su := by
  obtain ⟨S, fv, h1, h2, h3, h4, h5, h6, h7⟩ := h
  exact ⟨fun k => S k ∧ k < w.heap.size, fv, h1.tight, fun k hk => hO k hk.2 (h2 k hk.1), hO lb (heap_lt h7) h3, fun x => h4 x.1, h5, fun g hg => ⟨hO g (OffRow.lt h5 g hg).2 (h6 g hg).1, fun x => (h6 g hg).2 x.1⟩, h7⟩
theorem tight (h : Lg O w lb d s file F wt wr su) : Lg (fun k => O k ∧ k < w.heap.size) w lb d s file F wt wr su := h.mono fun k hk ho => ⟨ho, hk⟩
end Lg
end Go.Proofs.Ytkelcmncjhnbgaa
