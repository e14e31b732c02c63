/- Texts put together: ChunkEnds, QTakeIn, ChunkRefSum, ChunkRefCut -/
import Derived.Test.YtcjpemkafncihaaCLea02
import Derived.Test.YtcjpemkafncihaaCLea01
/- The places at which chunks end, as a range over a function. -/
set_option linter.unusedVariables false
set_option maxRecDepth 100000
namespace Go.Proofs.Ytcjpemkafncihaa
open Go.RowKit

/-- What the closure of ends finds: its boxes, the bytes; none of that is the caller's own. -/
structure EndB (Fs : Nat → Prop) (kb db bb : Nat) (dv : Value) (D : List UInt8) (w : World) : Prop where
  hdb : w.heap[db]? = some (.cells #[dv] 24 (0, 0))
  hbb : w.heap[bb]? = some (.cells #[.pointer (some ⟨kb, 0, none⟩)] 36 (0, 0))
  data : BsV (fun b => Fs b ∧ b ≠ kb) w dv D
  fk : Fs kb
  fd : Fs db
  fb : Fs bb
  lt : ∀ k, Fs k → k < w.heap.size
theorem EndB.keep {Fs S : Nat → Prop} {kb db bb : Nat} {dv : Value} {D : List UInt8} {w w' : World} (h : EndB Fs kb db bb dv D w) (k : Only S w w') (hS : ∀ j, S j → Fs j → j = kb) (h1 : db ≠ kb) (h2 : bb ≠ kb) : EndB Fs kb db bb dv D w' :=
  ⟨(k.block db (h.lt _ h.fd) fun hs => h1 (hS _ hs h.fd)).trans h.hdb, (k.block bb (h.lt _ h.fb) fun hs => h2 (hS _ hs h.fb)).trans h.hbb, h.data.kept (fun b hb hlt => k.block b hlt fun hs => hb.2 (hS _ hs hb.1)) k.size, h.fk, h.fd, h.fb, fun j hj => Nat.lt_of_lt_of_le (h.lt j hj) k.size⟩
/-- Behind j of the places. -/
def EndS (Fs : Nat → Prop) (kb db bb l m M : Nat) (dv : Value) (pre D : List UInt8) (n : Nat) (j : Nat) (w : World) : Prop :=
  EndB Fs kb db bb dv D w ∧ (j = 0 → ∃ lv, CutB kb l m M pre n lv w) ∧ ∀ i e, j = i + 1 → (enA ⟨l, m, M⟩ pre D n D.length)[i]? = some e → ∃ lv, CutB kb l m M (pre ++ D.take e) 0 lv w
/-- At the end. -/
def EndE (Fs : Nat → Prop) (kb db bb l m M : Nat) (dv : Value) (pre D : List UInt8) (n : Nat) (w : World) : Prop :=
  EndB Fs kb db bb dv D w ∧ ∃ lv, CutB kb l m M (pre ++ D) (szA ⟨l, m, M⟩ pre D n D.length) lv w
/-- What is left of the last chunk stays. -/
def KpL (kb : Nat) (A B : World) : Prop := ∀ v, A.cell? ⟨kb, 22, none⟩ = some v → B.cell? ⟨kb, 22, none⟩ = some v
theorem EndB.apart {Fs : Nat → Prop} {kb db bb l m M n : Nat} {pre : List UInt8} {dv lv : Value} {D : List UInt8} {w : World} (h : EndB Fs kb db bb dv D w) (k : CutB kb l m M pre n lv w) : db ≠ kb ∧ bb ≠ kb := by
  refine ⟨fun e => ?_, fun e => ?_⟩
  · have := h.hdb; rw [e, show w.heap[kb]? = _ from k] at this; injection this with this; injection this with _ this _; exact absurd this (by decide)
  · have := h.hbb; rw [e, show w.heap[kb]? = _ from k] at this; injection this with this; injection this with _ this _; exact absurd this (by decide)
theorem CutB.kpl {kb l m M n l' m' M' n' : Nat} {pre pre' : List UInt8} {lv : Value} {w w' : World} (h : CutB kb l m M pre n lv w) (h' : CutB kb l' m' M' pre' n' lv w') : KpL kb w w' := fun v hv => by
  obtain ⟨-, -, -, -, -, -, c, -, -⟩ := cutC_cells h
  obtain ⟨-, -, -, -, -, -, c', -, -⟩ := cutC_cells h'
  rw [c] at hv
  rw [c', hv]
/-- One place. -/
def encI (i : Nat) (args : Array Value) (_ : World) : Prop := args = #[.int .i64 (i : Int)]
set_option maxHeartbeats 8000000 in
theorem ends_in (n kb db bb l m M : Nat) (dv : Value) (pre D : List UInt8) (n0 : Nat) (Fs : Nat → Prop) (lp : Nat) (J : List Nat → (Nat → Prop) → World → Prop) (Jx : List Nat → World → Prop) (W : World) (S0 : Nat → Prop)
    (m1 : 1 ≤ m) (m2 : m ≤ 65536) (hl : l ≤ 4096) (hM : M ≤ 4096) (hn : n0 ≤ 10000000) (hD : D.length ≤ 10000000) (Y : List Nat) (hYY : Hid (Y = enA ⟨l, m, M⟩ pre D n0 D.length))
    (hJ : Hid (∀ pr S A B Sx, J pr S A → Only Sx A B → KpL kb A B → (∀ k, Sx k → (Fs k ∨ W.heap.size ≤ k) ∧ ¬ S k) → J pr S B))
    (hY : Hid (∀ pr S x args W1, J pr S W1 → EndS Fs kb db bb l m M dv pre D n0 (pr.length + 1) W1 → Y[pr.length]? = some x → encI x args W1 → YieldAt Fence.wide (n - 1) Try.prog lp args W1 fun e W' =>
      (e = .returned (.bool true) ∧ Only (fun k => S k ∨ k < W.heap.size) W1 W' ∧ EndS Fs kb db bb l m M dv pre D n0 (pr.length + 1) W' ∧ ∃ S', (∀ k, S' k → (S k ∨ W1.heap.size ≤ k) ∧ k < W'.heap.size) ∧ J (pr ++ [x]) S' W') ∨ (e = .returned (.bool false) ∧ Only (fun k => S k ∨ k < W.heap.size) W1 W' ∧ EndS Fs kb db bb l m M dv pre D n0 (pr.length + 1) W' ∧ Jx (pr ++ [x]) W')))
    (h0 : Hid (J [] S0 W)) (hS0 : Hid (∀ k, S0 k → k < W.heap.size ∧ ¬ Fs k)) (hC : Hid (EndS Fs kb db bb l m M dv pre D n0 0 W)) :
    Calls Try.prog 25 #[.func (.yield lp) #[] #[], .pointer (some ⟨db, 0, none⟩), .pointer (some ⟨bb, 0, none⟩)] W fun en W' => (∃ v, en = .returned v) ∧ ((∃ S', J Y S' W' ∧ EndE Fs kb db bb l m M dv pre D n0 W') ∨ (∃ pr, Jx pr W')) := by
  obtain ⟨lv0, hcut0⟩ := hC.out.2.1 rfl
  have HAP := Lib.hid (hC.out.1.apart hcut0)
  have x0 : W.cell? ⟨db, 0, none⟩ = some dv := by simp [World.cell?, hC.out.1.hdb]
  obtain ⟨len, hlen⟩ : ∃ len, len = D.length := ⟨_, rfl⟩
  have HL := Lib.hid hlen
  rw [← hlen] at hD
  obtain ⟨da, dc, hdv⟩ := hC.out.1.data.slice
  rw [← hlen] at hdv
  have HDV := Lib.hid hdv
  rw [hdv] at x0
  have HC0 := Lib.hid hcut0
  clear hcut0 hlen hdv
  go_enter Try.func25, Try.ntmps25
  go_wp2_with fail
  go_loopw [8] (fun iv wr => ∃ (i : Nat) (S : Nat → Prop) (lv : Value), i ≤ len ∧ iv = .int .i64 (i : Int) ∧ Hid (J (enA ⟨l, m, M⟩ pre D n0 i) S wr) ∧ Hid (∀ k, S k → k < wr.heap.size ∧ ¬ Fs k) ∧ Hid (EndB Fs kb db bb dv D wr) ∧ Hid (CutB kb l m M (pre ++ D.take i) (szA ⟨l, m, M⟩ pre D n0 i) lv wr) ∧ Hid (W.heap.size ≤ wr.heap.size)) (fun iv wr => len - (intOf iv).toNat)
  case atStart => exact ⟨0, S0, lv0, Nat.zero_le _, rfl, h0, hS0, Lib.hid hC.out.1, Lib.hid (by rw [List.take_zero, List.append_nil]; exact HC0.out), Lib.hid (Nat.le_refl _)⟩
  case round =>
    obtain ⟨i, S, lv, hi, rfl, hJ1, hS1, hE, hCu, hsz⟩ := hrel
    clear x0
    by_cases hlt : i < len
    · have hlt2 : (i : Int) < (len : Int) := by omega
      obtain ⟨b, hb⟩ : ∃ b, D[i]? = some b := ⟨_, List.getElem?_eq_getElem (by have := HL.out; omega)⟩
      obtain ⟨gb, off, cap, e1, hq, hgl, hgc⟩ := hE.out.data.at_ hb
      have e2 : Value.slice da len dc = .slice (some ⟨gb, off, none⟩) D.length cap := by rw [← HDV.out]; exact e1
      injection e2 with e3 e4 e5
      subst e3
      clear e4 e5
      have hgc' : wr.cell? ⟨gb, off + i, none⟩ = some (.int .u8 (b.toNat : Int)) := hgc
      have y2 : wr.cell? ⟨bb, 0, none⟩ = some (.pointer (some ⟨kb, 0, none⟩)) := by simp [World.cell?, hE.out.hbb]
      have HTK := Lib.hid (show D.take (i + 1) = D.take i ++ [b] by rw [List.take_add_one, hb]; rfl)
      obtain ⟨z, hz⟩ : ∃ z, z = szA ⟨l, m, M⟩ pre D n0 i := ⟨_, rfl⟩
      have hzb : z ≤ 20000000 := by rw [hz]; have := szA_le (c := ⟨l, m, M⟩) (pre := pre) (D := D) (n := n0) i; omega
      have HP := Lib.hid (cut_pass (b := b) hCu m1 m2 hl hM (by rw [← hz]; omega))
      rw [List.append_assoc, ← HTK.out] at HP
      obtain ⟨en, hen⟩ : ∃ en, en = eA ⟨l, m, M⟩ pre D n0 i := ⟨_, rfl⟩
      rw [show endB ⟨l, m, M⟩ (szA ⟨l, m, M⟩ pre D n0 i + 1) (sumW (pre ++ D.take (i + 1))) = en from hen.symm] at HP
      have HEN := Lib.hid hen
      have HZ := Lib.hid hz
      clear hen hz hb e1 hq hgl hgc
      go_upto_region 3 with (fail)
      refine (wpIn_wide (n := n)).1 ?_
      gi_wp2
      refine ⟨trivial, fun h => by simp [Fence.wide] at h, (callsIn_wide.2 HP.out).mono ?_⟩
      rintro e w3 ⟨rfl, hc3, ho3⟩
      have HE3 := Lib.hid (hE.out.keep ho3 (fun j hj _ => hj) HAP.out.1 HAP.out.2)
      have HJ3 := Lib.hid (hJ.out _ _ _ _ _ hJ1.out ho3 (hCu.out.kpl hc3) (fun k hk => ⟨.inl (by rw [hk]; exact hE.out.fk), fun hs => (hS1.out k hs).2 (by rw [hk]; exact hE.out.fk)⟩))
      have HS3 := Lib.hid (show ∀ k, S k → k < w3.heap.size ∧ ¬ Fs k from fun k hk => ⟨Nat.lt_of_lt_of_le (hS1.out k hk).1 ho3.size, (hS1.out k hk).2⟩)
      have HZ3 := Lib.hid (Nat.le_trans hsz.out ho3.size)
      have HC3 := Lib.hid hc3
      clear hc3 ho3 hgc' y2 HP
      cases en with
      | false =>
        have HC4 := Lib.hid (show CutB kb l m M (pre ++ D.take (i + 1)) (szA ⟨l, m, M⟩ pre D n0 (i + 1)) lv w3 from by
          have h := HC3.out
          rw [if_neg (by simp)] at h
          rw [szA, if_neg (show ¬ endB ⟨l, m, M⟩ (szA ⟨l, m, M⟩ pre D n0 i + 1) (sumW (pre ++ D.take (i + 1))) = true from by
            rw [show endB ⟨l, m, M⟩ (szA ⟨l, m, M⟩ pre D n0 i + 1) (sumW (pre ++ D.take (i + 1))) = false from HEN.out.symm]; simp)]
          exact h)
        have HJ4 := Lib.hid (show J (enA ⟨l, m, M⟩ pre D n0 (i + 1)) S w3 from by
          rw [enA, if_neg (by rw [← HEN.out]; simp), List.append_nil]; exact HJ3.out)
        gi_wp2
        refine ⟨fun f h => (by cases h), ?_⟩
        gi_wp2
        go_wp2_with fail
        go_roundw
        case rel => exact ⟨i + 1, S, lv, by omega, by go_num, HJ4, HS3, HE3, HC4, HZ3⟩
        case measure => simp [intOf]; omega
      | true =>
        have HC4 := Lib.hid (show CutB kb l m M (pre ++ D.take (i + 1)) 0 lv w3 from by
          have h := HC3.out
          rw [if_pos rfl] at h
          exact h)
        have HZ4 := Lib.hid (show szA ⟨l, m, M⟩ pre D n0 (i + 1) = 0 from by
          rw [szA, if_pos (show endB ⟨l, m, M⟩ (szA ⟨l, m, M⟩ pre D n0 i + 1) (sumW (pre ++ D.take (i + 1))) = true from HEN.out.symm)])
        have HY4 := Lib.hid (show Y[(enA ⟨l, m, M⟩ pre D n0 i).length]? = some (i + 1) from by rw [hYY.out, ← HL.out]; exact enA_at hlt HEN.out.symm)
        have HES := Lib.hid (show EndS Fs kb db bb l m M dv pre D n0 ((enA ⟨l, m, M⟩ pre D n0 i).length + 1) w3 from ⟨HE3.out, fun h => by omega, fun j e h1 h2 => by
          obtain rfl : j = (enA ⟨l, m, M⟩ pre D n0 i).length := by omega
          have h3 := HY4.out
          rw [hYY.out, h2] at h3
          injection h3 with h3
          exact ⟨lv, by rw [h3]; exact HC4.out⟩⟩)
        obtain ⟨fn, tm, asg, bdy, hyi, hRd⟩ := hY.out (enA ⟨l, m, M⟩ pre D n0 i) S (i + 1) #[.int .i64 ((i : Int) + 1)] w3 HJ3.out HES.out HY4.out (by unfold encI; simp)
        gi_wp2
        refine ⟨fun h => by simp [Fence.wide] at h, hRd.mono ?_⟩
        rintro en W5 (⟨rfl, ho5, hs5, S', hS', hJ5⟩ | ⟨rfl, -, -, hx5⟩)
        · obtain ⟨lv5, hc5⟩ := hs5.2.2 _ _ rfl (by have h := HY4.out; rw [hYY.out] at h; exact h)
          have HC5 := Lib.hid (show CutB kb l m M (pre ++ D.take (i + 1)) (szA ⟨l, m, M⟩ pre D n0 (i + 1)) lv5 W5 from by rw [HZ4.out]; exact hc5)
          have HE5 := Lib.hid hs5.1
          have HJ5 := Lib.hid (show J (enA ⟨l, m, M⟩ pre D n0 (i + 1)) S' W5 from by rw [enA, if_pos HEN.out.symm]; exact hJ5)
          have HS5 := Lib.hid (show ∀ k, S' k → k < W5.heap.size ∧ ¬ Fs k from fun k hk => ⟨(hS' k hk).2, fun hf => by
            rcases (hS' k hk).1 with h | h
            · exact (HS3.out k h).2 hf
            · have := hC.out.1.lt k hf; have := HZ3.out; omega⟩)
          have HZ5 := Lib.hid (Nat.le_trans HZ3.out ho5.size)
          clear ho5 hs5 hS' hJ5 hc5
          gi_wp2
          go_wp2_with fail
          go_roundw
          case rel => exact ⟨i + 1, S', lv5, by omega, by go_num, HJ5, HS5, HE5, HC5, HZ5⟩
          case measure => simp [intOf]; omega
        · have HX5 := Lib.hid hx5
          clear hx5
          gi_wp2
          go_wp2_with fail
          refine bodyPost_ret (results_none rfl _ _ _) rfl ?_
          exact ⟨⟨_, rfl⟩, .inr ⟨_, HX5.out⟩⟩
    · obtain rfl : i = len := by omega
      go_wp2_with fail
      go_end0
      refine ⟨⟨_, rfl⟩, .inl ⟨S, ?_, hE.out, lv, ?_⟩⟩
      · rw [hYY.out, ← HL.out]; exact hJ1.out
      · have h := hCu.out
        rw [← HL.out]
        rw [List.take_of_length_le (by have := HL.out; omega)] at h
        exact h
/-- The same, as a range over a function. -/
theorem ends_stops (n kb db bb l m M : Nat) (dv : Value) (pre D : List UInt8) (n0 : Nat) (Fs : Nat → Prop) (m1 : 1 ≤ m) (m2 : m ≤ 65536) (hl : l ≤ 4096) (hM : M ≤ 4096) (hn : n0 ≤ 10000000) (hD : D.length ≤ 10000000) :
    ShStops Fs (KpL kb) (EndS Fs kb db bb l m M dv pre D n0) (EndE Fs kb db bb l m M dv pre D n0) n Try.prog 25 #[.pointer (some ⟨db, 0, none⟩), .pointer (some ⟨bb, 0, none⟩)] encI (enA ⟨l, m, M⟩ pre D n0 D.length) :=
  fun lp J Jx W S0 hJ hY _ h0 hS0 hC => callsIn_wide.2 (ends_in n kb db bb l m M dv pre D n0 Fs lp J Jx W S0 m1 m2 hl hM hn hD _ (Lib.hid rfl) (Lib.hid hJ) (Lib.hid hY) (Lib.hid h0) (Lib.hid hS0) (Lib.hid hC))
theorem kpl_trans {kb : Nat} (A B C : World) (h : KpL kb A B) (k : KpL kb B C) : KpL kb A C := fun v hv => k v (h v hv)
theorem kpl_putObj {kb : Nat} (A : World) (l : Nat) (r r' : Loop) (h : A.heap[l]? = some (.loop r)) : KpL kb A (A.putObj l (.loop r')) := fun v hv => by
  by_cases e : kb = l
  · subst e; simp [World.cell?, h] at hv
  · rw [← hv]
    unfold World.cell?
    rw [World.putObj_heap_other (fun h => e h)]
theorem kpl_alloc {kb : Nat} (A : World) (o : Obj) : KpL kb A (A.alloc o) := fun v hv => cell_on o hv
set_option maxHeartbeats 2000000 in
/-- The closure of ends: two new boxes. -/
theorem cut_ends (kb : Nat) (da : Option Addr) (dn dc : Nat) (w : World) : Calls Try.prog 21 #[.pointer (some ⟨kb, 0, none⟩), .slice da dn dc] w fun e w' => e = .returned (.func (.func 25) #[] #[.pointer (some ⟨w.heap.size + 1, 0, none⟩), .pointer (some ⟨w.heap.size, 0, none⟩)]) ∧ w' = (w.alloc (.cells #[.pointer (some ⟨kb, 0, none⟩)] 36)).alloc (.cells #[.slice da dn dc] 24) := by
  go_enter Try.func21, Try.ntmps21
  go_wp2_with fail
  go_ret
  exact ⟨by simp, rfl⟩
theorem nil_slice_b (w : World) (n c : Nat) : (binOp .eql 24 (.slice none n c) (.slice none 0 0)).run Try.prog w = .ok (.bool true) w := by kernel_rfl
theorem some_slice_b (w : World) (x : Addr) (n c : Nat) : (binOp .eql 24 (.slice (some x) n c) (.slice none 0 0)).run Try.prog w = .ok (.bool false) w := by kernel_rfl
theorem off_empty (w : World) {B : Nat} (hB : B ≤ w.heap.size) (e : TypeId) (size : Nat) : OffRow (w.alloc (.cells #[] e)) B e size (.slice (some ⟨w.heap.size, 0, none⟩) 0 0) 0 [] :=
  ⟨by simp, .inr ⟨w.heap.size, 0, 0, #[], rfl, hB, heap_new w _, Nat.le_refl _, by unfold maxLen; omega, by simp, fun j hj => by simp at hj⟩⟩
set_option maxHeartbeats 2000000 in
/-- A copy of bytes. -/
theorem clone_bytes {Q : Nat → Prop} {v : Value} {L : List UInt8} {w : World} (h : Hid (BsV Q w v L)) (hl : L.length ≤ 10000000) : Calls Try.prog 23 #[v] w fun e w' => ∃ v', e = .returned v' ∧ OffRow w' w.heap.size 5 1 v' L.length (L.map byteV) ∧ Below w.heap.size w w' := by
  obtain ⟨i0, hi0, hz0, hz1, hz2⟩ := info_parts infoByte
  rcases h.out with ⟨rfl, rfl⟩ | ⟨a, cap, hv, h2, h3⟩
  · have hnl := nil_slice_b
    go_enter Try.func23, Try.ntmps23
    go_wp2_with fail
    go_ret
    exact ⟨_, rfl, OffRow.nil _ _ _ _, Below.refl _ _⟩
  · have hnl := some_slice_b
    obtain ⟨n, hn⟩ : ∃ n, n = L.length := ⟨_, rfl⟩
    rw [← hn] at hv hl ⊢
    subst hv
    have HN := Lib.hid hn
    clear hn h2 h3
    go_enter Try.func23, Try.ntmps23
    go_wp2_with (at_builtin; refine wpList_append_off rfl (.tmp 5) (.tmp 6) 24 rfl w.heap.size 5 i0 _ 1 1 Try.underlying24 hi0 hz0 hz1 hz2 rfl (.slice (some ⟨w.heap.size, 0, none⟩) 0 0) 0 [] rfl (off_empty w (Nat.le_refl _) _ _) (.slice (some a) n cap) rfl n (L.map byteV) ?c2 ?c3 ?c4 ?c5 ?_)
    case c2 => have := (h.out.below ((Below.refl _ _).alloc (Nat.le_refl _) (.cells #[] 5))).src; rw [← HN.out] at this; exact this
    case c3 => unfold maxLen; omega
    case c4 => omega
    case c5 => simp
    intro v3 w3 hr3 hg3 _
    have O3 := Lib.hid (show OffRow w3 w.heap.size 5 1 v3 n (L.map byteV) by simpa using hr3)
    have K3 := Lib.hid (show Below w.heap.size w w3 from ((Below.refl _ _).alloc (Nat.le_refl _) _).grown hg3 (by simp) (fun k hk => by simp [Value.ownBlock] at hk; omega))
    clear hr3 hg3
    go_wp2_with fail
    go_ret
    exact ⟨_, rfl, O3.out, K3.out⟩
end Go.Proofs.Ytcjpemkafncihaa
/- A region that draws its order, within a fence or a round: reads taken first, where what they read stays behind every operation. -/
set_option linter.unusedVariables false
namespace Go.Proofs.Ytcjpemkafncihaa
open Go.RowKit

section
variable {F : Fence} {n : Nat} {P : Program} {ops : Array Oper} {Q : Exit → Act → World → Prop} {md : Region.Mode} {S : World → Prop}
/-- Whatever order is picked from here on, and S holds behind every operation. -/
def wpAnyK (F : Fence) (n : Nat) (P : Program) (md : Region.Mode) (ops : Array Oper) (Q : Exit → Act → World → Prop) (S : World → Prop) : Nat → Array Bool → Act → World → Prop
  | 0, listed, a, w => Region.ready md ops listed = [] ∧ Q .normal a w
  | fuel + 1, listed, a, w =>
    (Region.ready md ops listed = [] → Q .normal a w) ∧
    ∀ i ∈ Region.ready md ops listed, wpOpIn F n P ops Q i (fun a' w' => S w' ∧ wpAnyK F n P md ops Q S fuel (listed.setIfInBounds i true) a' w') a w
theorem wpAnyIn_of_K : ∀ (fuel : Nat) (listed : Array Bool) (a : Act) (w : World), wpAnyK F n P md ops Q S fuel listed a w → wpAnyIn F n P md ops Q fuel listed a w
  | 0, _, _, _, h => h
  | fuel + 1, _, _, _, h => ⟨h.1, fun i hi => wpOpIn_mono (fun a' w' h' => wpAnyIn_of_K fuel _ a' w' h'.2) (h.2 i hi)⟩
/-- What is asked of a fence. -/
structure FenceOk (F : Fence) (ops : Array Oper) : Prop where
  fn : ∀ f, F.fn f
  sem : ∀ (i : Nat) (o : Oper), ops[i]? = some o → ∀ ρ, Oper.semAt F.round ρ o = execOp ρ o
theorem yieldsIf_wpOpIn (hF : FenceOk F ops) {i : Nat} {o : Oper} {v : Value} {a : Act} (hi : ops[i]? = some o) (hy : YieldsIf P ops S o v a) {K : Act → World → Prop} {w : World} (hS : S w) (h : K (a.put o.dst v) w) : wpOpIn F n P ops Q i K a w := by
  unfold Go.wpOpIn
  simp only [hi]
  rcases hy with ⟨hw, hv⟩ | ⟨hw, rfl⟩
  · simp only [hw, if_true, Oper.wpIn, hF.sem i o hi, hv w hS, Oper.uponIn]; exact ⟨fun f _ => hF.fn f, h⟩
  · simp only [hw, Bool.false_eq_true, if_false]; exact ⟨fun f _ => hF.fn f, h⟩
theorem wpOpIn_putIf (hF : FenceOk F ops) {j : Nat} {oi oj : Oper} {v : Value} (hj : ops[j]? = some oj) (hap : oi.apart ops oj = true)
    (hsi : ∀ cs b, oi.op ≠ .select cs b) (hsj : ∀ cs b, oj.op ≠ .select cs b)
    (hQ : ∀ c a w, Q (.panic c) (a.put oi.dst v) w → Q (.panic c) a w) {K : Act → World → Prop} {a : Act} {w : World}
    (hy : YieldsIf P ops S oi v a) (h : wpOpIn F n P ops Q j K (a.put oi.dst v) w) :
    wpOpIn F n P ops Q j (fun a' w' => YieldsIf P ops S oi v a' ∧ K (a'.put oi.dst v) w') a w := by
  obtain ⟨h1, h2, h3⟩ := Oper.apart_spec hap
  have keep : ∀ (a : Act), YieldsIf P ops S oi v a → ∀ u, YieldsIf P ops S oi v (a.put oj.dst u) := fun a hy u =>
    hy.of_same (execOp_put oi hsi a oj.dst u h3) (wanted_put oi a oj.dst u h3)
  have keepD : ∀ d, YieldsIf P ops S oi v { a with defers := d :: a.defers } := fun d => hy.of_same rfl rfl
  have hsem := hF.sem j oj hj
  unfold wpOpIn at *
  simp only [hj] at *
  rw [wanted_put oj a oi.dst v h1] at h
  split
  · rename_i hw
    simp only [hw, if_true] at h
    unfold Oper.wpIn at *
    refine ⟨fun f _ => hF.fn f, ?_⟩
    have h := h.2
    rw [hsem, execOp_put oj hsj a oi.dst v h1] at h
    rw [hsem]
    generalize (execOp a.eval oj).run P w = r at *
    cases r with
    | ok x w' =>
      cases x <;> simp only [Oper.uponIn] at h ⊢
      case value u => exact ⟨keep a hy u, by rw [← Act.put_comm a v u h2]; exact h⟩
      case skip => exact ⟨keep a hy _, by rw [← Act.put_comm a v undef h2]; exact h⟩
      case defer d =>
        refine ⟨keep _ (keepD d) _, ?_⟩
        rw [← Act.put_comm _ v undef h2, ← Act.put_defers]
        exact h
      case enter f args =>
        refine ⟨h.1, CallsIn.mono h.2 fun e w'' he => ?_⟩
        cases e with
        | returned u => exact ⟨keep a hy u, by rw [← Act.put_comm a v u h2]; exact he⟩
        | panicked c => exact hQ _ _ _ he
        | outgrown => exact he
      case row row args => exact ⟨h.1, RowsIn.mono h.2 fun u w'' he => ⟨keep a hy u, by rw [← Act.put_comm a v u h2]; exact he⟩⟩
      case round l f tmps assign body =>
        refine ⟨h.1, RoundIn.mono h.2 fun e w'' he => ?_⟩
        cases e with
        | returned u => exact ⟨keep a hy u, by rw [← Act.put_comm a v u h2]; exact he⟩
        | panicked c => exact hQ _ _ _ he
        | outgrown => exact he
    | halt x w' =>
      cases x <;> simp only [Oper.uponIn] at h ⊢
      case panic u => exact hQ _ _ _ h
  · rename_i hw
    simp only [hw] at h
    exact ⟨fun f _ => hF.fn f, keep a hy _, by rw [← Act.put_comm a v undef h2]; exact h.2⟩
theorem keptIn_first (hF : FenceOk F ops) {i : Nat} {oi : Oper} {v : Value} (hi : ops[i]? = some oi) (hsel : ∀ (j : Nat) (o : Oper) cs b, ops[j]? = some o → o.op ≠ .select cs b)
    (hQ : ∀ c a w, Q (.panic c) (a.put oi.dst v) w → Q (.panic c) a w) :
    ∀ (fuel : Nat) (listed : Array Bool) (a : Act) (w : World),
      (∀ j oj, ops[j]? = some oj → j ≠ i → listed.getD j true = false → (∀ e ∈ oj.after, Region.binds md e = true → e.on ≠ i) → oi.apart ops oj = true) →
      i ∈ Region.ready md ops listed → YieldsIf P ops S oi v a → S w →
      wpAnyK F n P md ops Q S fuel (listed.setIfInBounds i true) (a.put oi.dst v) w → wpAnyK F n P md ops Q S (fuel + 1) listed a w := by
  intro fuel
  induction fuel with
  | zero =>
    intro listed a w _ hr hy hS H
    refine ⟨fun h => (by rw [h] at hr; cases hr), fun j hj => ?_⟩
    by_cases hji : j = i
    · subst hji; exact yieldsIf_wpOpIn hF hi hy hS ⟨hS, H⟩
    · have := ready_mono hj hji
      rw [H.1] at this
      cases this
  | succ fuel ih =>
    intro listed a w hfree hr hy hS H
    refine ⟨fun h => (by rw [h] at hr; cases hr), fun j hj => ?_⟩
    by_cases hji : j = i
    · subst hji; exact yieldsIf_wpOpIn hF hi hy hS ⟨hS, H⟩
    · have h1 := H.2 j (ready_mono hj hji)
      obtain ⟨hjun, oj, hoj, hall⟩ := mem_ready.1 hj
      have hnot : ∀ e ∈ oj.after, Region.binds md e = true → e.on ≠ i := fun e he hb heq => by
        have h1 := hall e he hb
        have h0 := (mem_ready.1 hr).1
        rw [heq] at h1
        rcases Nat.lt_or_ge i listed.size with h' | h'
        · simp [h'] at h0 h1; rw [h0] at h1; cases h1
        · simp [Array.getElem?_eq_none h'] at h1
      have h2 := wpOpIn_putIf hF hoj (hfree j oj hoj hji hjun hnot) (fun cs b => hsel i oi cs b hi) (fun cs b => hsel j oj cs b hoj) hQ hy h1
      have hfree' : ∀ k ok, ops[k]? = some ok → k ≠ i → (listed.setIfInBounds j true).getD k true = false →
          (∀ e ∈ ok.after, Region.binds md e = true → e.on ≠ i) → oi.apart ops ok = true := fun k ok hk hki hun hno => by
        refine hfree k ok hk hki ?_ hno
        by_cases hjk : j = k
        · subst hjk; exact hjun
        · rw [getD_set_ne true hjk] at hun; exact hun
      refine wpOpIn_mono (fun a' w' h3 => ⟨h3.2.1, ih (listed.setIfInBounds j true) a' w' hfree' (ready_mono hr (Ne.symm hji)) h3.1 h3.2.1 ?_⟩) h2
      rw [Array.setIfInBounds_comm _ _ hji]
      exact h3.2.2
/-- A read is taken first. -/
theorem keptIn_take (hF : FenceOk F ops) {i d : Nat} {oi : Oper} {v : Value} {fuel : Nat} {listed : Array Bool} {a : Act} {w : World} (hi : ops[i]? = some oi) (hd : oi.dst = some d)
    (hs : Region.noSelect ops = true) (hf : Region.free md ops listed i = true) (hr : (Region.ready md ops listed).contains i = true)
    (hQ : ∀ c a w, Q (.panic c) (a.put oi.dst v) w → Q (.panic c) a w) (hy : YieldsIf P ops S oi v a) (hS : S w)
    (h : wpAnyK F n P md ops Q S fuel (listed.setIfInBounds i true) (a.put (some d) v) w) : wpAnyK F n P md ops Q S (fuel + 1) listed a w :=
  keptIn_first hF hi (Region.noSelect_spec hs) hQ fuel listed a w (Region.free_spec hi hf) (by simpa using hr) hy hS (by rw [hd]; exact h)
/-- The one operation that may come up is carried out. -/
theorem keptIn_one {i : Nat} {o : Oper} {fuel : Nat} {listed : Array Bool} {a : Act} {w : World} (ho : ops[i]? = some o) (hr : Region.ready md ops listed = [i])
    (hw : Region.wanted o (yielded ops a.tmps) = true) (h : o.wpIn F n P a w (fun a' w' => S w' ∧ wpAnyK F n P md ops Q S fuel (listed.setIfInBounds i true) a' w') Q) : wpAnyK F n P md ops Q S (fuel + 1) listed a w :=
  ⟨fun e => (by rw [hr] at e; cases e), fun j hj => by
    rw [hr] at hj
    obtain rfl := List.mem_singleton.1 hj
    unfold wpOpIn
    simp only [ho, hw, if_true]
    exact h⟩
theorem keptIn_done {listed : Array Bool} {a : Act} {w : World} (hr : Region.ready md ops listed = []) (h : Q .normal a w) : ∀ fuel, wpAnyK F n P md ops Q S fuel listed a w
  | 0 => ⟨hr, h⟩
  | fuel + 1 => ⟨fun _ => h, fun i hi => by rw [hr] at hi; cases hi⟩
/-- A region by hand. -/
theorem wpIn_region_kept {id : Nat} {a : Act} {w : World} {l : List Oper} (S : World → Prop) (hm : P.follows .mixedOrders = true)
    (h : wpAnyK F n P .any l.toArray Q S l.toArray.size (Array.replicate l.toArray.size false) a w.drew) : (Code.region id l.toArray true).wpIn F n P Q a w :=
  wpIn_region_any hm (wpAnyIn_of_K _ _ _ _ h)
theorem fenceOk_round {r : Nat} {l : List Oper} (hd : noDefer l = true) : FenceOk (Fence.wide.inRound r) l.toArray := ⟨fun _ => trivial, noDefer_sem hd _⟩
theorem fenceOk_wide {ops : Array Oper} : FenceOk Fence.wide ops := ⟨fun _ => trivial, fun _ _ _ _ => Oper.semAt_none ..⟩
/-- A call by contract as one step within a fence. -/
theorem callIn_step (hF : FenceOk F ops) (hW : Wide F) {i : Nat} {o : Oper} (hi : ops[i]? = some o) {a : Act} {w : World} {K : Act → World → Prop}
    (f : FuncId) (xs : Array Operand) (ts : Array TypeId) (hop : o.op = Op.call { callee := Callee.value (Operand.func f), args := xs, argTypes := ts }) (hent : Enters P f)
    (args : Array Value) (hargs : xs.map a.eval = args) (R : Value → World → Prop) (hc : Calls P f args w fun e w' => ∃ v, e = .returned v ∧ R v w') (hK : ∀ v w1, R v w1 → K (a.put o.dst v) w1) :
    o.wpIn F n P a w K Q := by
  unfold Oper.wpIn
  refine ⟨fun f _ => hF.fn f, ?_⟩
  rw [hF.sem i o hi]
  unfold Enters at hent
  subst hargs
  simp [execOp, hop, resolve, invoke, hent, Result.andThen, Act.eval, Deferred.ofValue, Oper.uponIn]
  refine ⟨fun h => (hW.depth h).elim, (hW.calls hc).mono ?_⟩
  rintro e w' ⟨v, rfl, hR⟩
  exact hK v w' hR
theorem roundIn_any {r n m : Nat} {P : Program} {l : Nat} {f : FuncId} {tmps : Array Value} {assign body : Code} {w : World} {R : Ending → World → Prop} (h : RoundIn Fence.wide m P l f tmps assign body w R) : RoundIn (Fence.wide.inRound r) n P l f tmps assign body w R :=
  ⟨trivial, fun c cs _ => h.2 c cs (by simp [Fence.wide, Fence.room])⟩
theorem roundIn_wide {n m : Nat} {P : Program} {l : Nat} {f : FuncId} {tmps : Array Value} {assign body : Code} {w : World} {R : Ending → World → Prop} (h : RoundIn Fence.wide m P l f tmps assign body w R) : RoundIn Fence.wide n P l f tmps assign body w R :=
  ⟨trivial, fun c cs _ => h.2 c cs (by simp [Fence.wide, Fence.room])⟩
/-- What is yielded to a round of another loop, from within a round. -/
theorem yieldIn_step {r m : Nat} (hF : FenceOk (Fence.wide.inRound r) ops) {i : Nat} {o : Oper} (hi : ops[i]? = some o) {a : Act} {w : World} {K : Act → World → Prop}
    (x : Operand) (xs : Array Operand) (ts : Array TypeId) (hop : o.op = Op.call { callee := Callee.value x, args := xs, argTypes := ts }) {lp : Nat} (hx : a.eval x = .func (.yield lp) #[] #[])
    (args : Array Value) (hargs : xs.map a.eval = args) (R : Ending → World → Prop) (hy : YieldAt Fence.wide m P lp args w R) (hK : ∀ e w1, R e w1 → ∃ v, e = .returned v ∧ K (a.put o.dst v) w1) :
    o.wpIn (Fence.wide.inRound r) n P a w K Q := by
  obtain ⟨fn, tm, asg, bdy, h1, h2⟩ := hy
  unfold Oper.wpIn
  refine ⟨fun f _ => hF.fn f, ?_⟩
  rw [hF.sem i o hi]
  subst hargs
  simp [execOp, hop, resolve, invoke, hx, h1, Result.andThen, Deferred.ofValue, Oper.uponIn]
  refine ⟨fun h => by simp [Fence.wide, Fence.inRound] at h, (roundIn_any h2).mono ?_⟩
  rintro e w' hR
  obtain ⟨v, rfl, hk⟩ := hK e w' hR
  exact hk
/-- The one operation that may come up is a call by contract. -/
theorem keptIn_call (hF : FenceOk F ops) (hW : Wide F) {i d : Nat} {o : Oper} {fuel : Nat} {listed : Array Bool} {a : Act} {w : World} (ho : ops[i]? = some o) (hd : o.dst = some d) (hr : Region.ready md ops listed = [i])
    (hw : Region.wanted o (yielded ops a.tmps) = true) (f : FuncId) (xs : Array Operand) (ts : Array TypeId) (hop : o.op = Op.call { callee := Callee.value (Operand.func f), args := xs, argTypes := ts }) (hent : Enters P f)
    (args : Array Value) (hargs : xs.map a.eval = args) (R : Value → World → Prop) (hc : Calls P f args w fun e w' => ∃ v, e = .returned v ∧ R v w') (hK : ∀ v w1, R v w1 → S w1 ∧ wpAnyK F n P md ops Q S fuel (listed.setIfInBounds i true) (a.put (some d) v) w1) :
    wpAnyK F n P md ops Q S (fuel + 1) listed a w :=
  keptIn_one ho hr hw (callIn_step hF hW ho f xs ts hop hent args hargs R hc (by rw [hd]; exact hK))
theorem keptIn_yield {r m : Nat} (hF : FenceOk (Fence.wide.inRound r) ops) {i d : Nat} {o : Oper} {fuel : Nat} {listed : Array Bool} {a : Act} {w : World} (ho : ops[i]? = some o) (hd : o.dst = some d) (hr : Region.ready md ops listed = [i])
    (hw : Region.wanted o (yielded ops a.tmps) = true) (x : Operand) (xs : Array Operand) (ts : Array TypeId) (hop : o.op = Op.call { callee := Callee.value x, args := xs, argTypes := ts }) {lp : Nat} (hx : a.eval x = .func (.yield lp) #[] #[])
    (args : Array Value) (hargs : xs.map a.eval = args) (R : Ending → World → Prop) (hy : YieldAt Fence.wide m P lp args w R) (hK : ∀ e w1, R e w1 → ∃ v, e = .returned v ∧ S w1 ∧ wpAnyK (Fence.wide.inRound r) n P md ops Q S fuel (listed.setIfInBounds i true) (a.put (some d) v) w1) :
    wpAnyK (Fence.wide.inRound r) n P md ops Q S (fuel + 1) listed a w :=
  keptIn_one ho hr hw (yieldIn_step hF ho x xs ts hop hx args hargs R hy (by rw [hd]; exact hK))
/-- What is yielded to a round, outside of rounds. -/
theorem keptIn_yieldW {m : Nat} {i d : Nat} {o : Oper} {fuel : Nat} {listed : Array Bool} {a : Act} {w : World} (ho : ops[i]? = some o) (hd : o.dst = d) (hr : Region.ready md ops listed = [i])
    (hw : Region.wanted o (yielded ops a.tmps) = true) (x : Operand) (xs : Array Operand) (ts : Array TypeId) (hop : o.op = Op.call { callee := Callee.value x, args := xs, argTypes := ts }) {lp : Nat} (hx : a.eval x = .func (.yield lp) #[] #[])
    (args : Array Value) (hargs : xs.map a.eval = args) (R : Ending → World → Prop) (hy : YieldAt Fence.wide m P lp args w R) (hK : ∀ e w1, R e w1 → ∃ v, e = .returned v ∧ S w1 ∧ wpAnyK Fence.wide n P md ops Q S fuel (listed.setIfInBounds i true) (a.put (some d) v) w1) :
    wpAnyK Fence.wide n P md ops Q S (fuel + 1) listed a w := by
  refine keptIn_one ho hr hw ?_
  obtain ⟨fn, tm, asg, bdy, h1, h2⟩ := hy
  unfold Oper.wpIn
  refine ⟨fun f _ => trivial, ?_⟩
  rw [(fenceOk_wide (ops := ops)).sem i o ho]
  subst hargs
  simp [execOp, hop, resolve, invoke, hx, h1, Result.andThen, Deferred.ofValue, Oper.uponIn]
  refine ⟨fun h => by simp [Fence.wide] at h, (roundIn_wide h2).mono ?_⟩
  rintro e w' hR
  obtain ⟨v, rfl, hk⟩ := hK e w' hR
  rw [hd]
  exact hk
/-- A piece of code that only goes on. -/
def onlyN (K : Act → World → Prop) : Exit → Act → World → Prop
  | .normal, a, w => K a w
  | _, _, _ => False
theorem wpIn_onlyN {c : Code} {a : Act} {w : World} (h : c.wpIn F n P (onlyN (Q .normal)) a w) : c.wpIn F n P Q a w :=
  wpIn_mono h (by intro e a w h; cases e <;> first | exact h | exact h.elim)
end
end Go.Proofs.Ytcjpemkafncihaa
/- The document's Sum. -/
set_option linter.unusedVariables false
set_option maxRecDepth 100000
namespace Go.Proofs.Ytcjpemkafncihaa
open Go.RowKit

/-- What the document's Sum has behind the bytes from d to j. -/
def part16 (L : List UInt8) (d j : Nat) : Nat := poly 0 (((L.take j).drop d).map up) % 4294967296
theorem part_lt (L : List UInt8) (d j : Nat) : part16 L d j < 4294967296 := Nat.mod_lt _ (by decide)
theorem part_nil (L : List UInt8) (d : Nat) : part16 L d d = 0 := by simp [part16, poly]
theorem part_next (L : List UInt8) {d j : Nat} {b : UInt8} (h : L[j]? = some b) (hd : d ≤ j) : part16 L d (j + 1) = (part16 L d j * 31 + b.toNat + 1) % 4294967296 := by
  have hj := (List.getElem?_eq_some_iff.1 h).1
  unfold part16
  rw [List.take_add_one, h, List.drop_append_of_le_length (by rw [List.length_take]; omega), List.map_append, poly_cat]
  simp only [Option.toList, List.map_cons, List.map_nil, poly, up]
  omega
theorem part_sum (L : List UInt8) {n : Nat} (h : n < L.length) : part16 L (n - 15) (n + 1) = sumW (L.take (n + 1)) := by
  unfold part16 sumW
  rw [List.length_take, Nat.min_eq_left (by omega), show n + 1 - 16 = n - 15 by omega]

set_option maxHeartbeats 4000000 in
theorem ref_Sum (L : List UInt8) (n : Nat) (w : World) (hn : n < L.length) (hl : L.length ≤ 1000000) : Calls Try.prog 20 #[.string (bs L), .int .i64 (n : Int)] w fun e w' => e = .returned (.int .i64 (sumW (L.take (n + 1)) : Int)) ∧ w' = w := by
  have hsz : (bs L).size = L.length := bs_size L
  have HN := Lib.hid hn
  obtain ⟨d, hd⟩ : ∃ d, d = n - 15 := ⟨_, rfl⟩
  have HD := Lib.hid hd
  clear hd
  go_enter Try.func20, Try.ntmps20
  go_wp2_with fail
  go_loopw [5, 6] (fun xv iv wr => ∃ (i : Int) (x : Nat), (n : Int) - 15 ≤ i ∧ i ≤ (n : Int) + 1 ∧ iv = .int .i64 i ∧ xv = .int .i64 (x : Int) ∧ x < 4294967296 ∧ Hid (i ≤ 0 ∧ x = 0 ∨ 0 < i ∧ x = part16 L d i.toNat) ∧ Hid (wr = w)) (fun xv iv wr => ((n : Int) + 1 - intOf iv).toNat)
  case atStart => exact ⟨(n : Int) - 15, 0, by omega, by omega, by go_num, rfl, by omega, Lib.hid (by
    by_cases h : n ≤ 15
    · exact .inl ⟨by omega, rfl⟩
    · right
      refine ⟨by omega, ?_⟩
      rw [show ((n : Int) - 15).toNat = d by have := HD.out; omega, part_nil]), Lib.hid rfl⟩
  case round =>
    obtain ⟨i, x, h1, h2, rfl, rfl, hx, hP, hW⟩ := hrel
    by_cases hlt : i ≤ (n : Int)
    · by_cases h0 : 0 ≤ i
      · obtain ⟨j, rfl⟩ : ∃ j : Nat, i = (j : Int) := ⟨i.toNat, by omega⟩
        have hj : j < L.length := by omega
        obtain ⟨b, hb⟩ : ∃ b, L[j]? = some b := ⟨_, List.getElem?_eq_getElem hj⟩
        have hjs : j < (bs L).size := by rw [hsz]; exact hj
        have HB := Lib.hid (show (bs L)[j] = b by
          have : (bs L)[j] = L[j] := rfl
          rw [this]
          exact (List.getElem?_eq_some_iff.1 hb).2)
        have hbl := b.toNat_lt
        have HX := Lib.hid (show (x * 31 + b.toNat + 1) % 4294967296 = part16 L d (j + 1) by
          rcases hP.out with ⟨a1, a2⟩ | ⟨a1, a2⟩
          · obtain rfl : j = 0 := by omega
            subst a2
            have hd0 : d = 0 := by have := HD.out; omega
            subst hd0
            rw [part_next L hb (Nat.le_refl _), part_nil]
          · rw [show ((j : Int)).toNat = j from rfl] at a2
            rw [a2, ← part_next L hb (by have := HD.out; omega)])
        go_wp2_with fail
        go_roundw
        case rel =>
          refine ⟨(j : Int) + 1, (x * 31 + b.toNat + 1) % 4294967296, by omega, by omega, by go_num, ?_, Nat.mod_lt _ (by decide), Lib.hid (.inr ⟨by omega, by rw [show ((j : Int) + 1).toNat = j + 1 by omega]; exact HX.out⟩), hW⟩
          rw [HB.out, IntWalk.wrap64_in (b.toNat : Int) (by omega), IntWalk.wrap64_in ((x : Int) * 31 + (b.toNat : Int)) (by omega), IntWalk.wrap64_in ((x : Int) * 31 + (b.toNat : Int) + 1) (by omega), Int.tmod_eq_emod_of_nonneg (by omega)]
          go_num
        case measure => simp [intOf]; omega
      · go_wp2_with fail
        go_roundw
        case rel => exact ⟨i + 1, x, by omega, by omega, by go_num, rfl, hx, Lib.hid (by
          rcases hP.out with ⟨a1, a2⟩ | ⟨a1, a2⟩
          · exact .inl ⟨by omega, a2⟩
          · omega), hW⟩
        case measure => simp [intOf]; omega
    · have HX := Lib.hid (show x = sumW (L.take (n + 1)) by
        rcases hP.out with ⟨a1, a2⟩ | ⟨a1, a2⟩
        · omega
        · rw [a2, show i.toNat = n + 1 by omega, HD.out, part_sum L HN.out])
      obtain rfl := hW.out
      go_wp2_with fail
      go_ret
      exact ⟨by rw [← HX.out]; rfl, rfl⟩
end Go.Proofs.Ytcjpemkafncihaa
/- The document's Cut. -/
set_option linter.unusedVariables false
set_option maxRecDepth 100000
namespace Go.Proofs.Ytcjpemkafncihaa
open Go.RowKit

/-- A conf that may be, by its three numbers. -/
structure Conf.Nat3 (c : Conf) (l m M : Nat) : Prop where
  e8 : c.f 8 = (l : Int)
  e9 : c.f 9 = (m : Int)
  e10 : c.f 10 = (M : Int)
  l1 : 1 ≤ l
  m1 : 1 ≤ m
  m2 : m ≤ 65536
  M1 : l ≤ M
  M2 : M ≤ 4096
theorem Conf.nat3 {c : Conf} (h : c.ok = true) : ∃ l m M, c.Nat3 l m M := by
  simp only [Conf.ok, okC, Bool.and_eq_true, decide_eq_true_eq] at h
  exact ⟨(c.f 8).toNat, (c.f 9).toNat, (c.f 10).toNat, by omega, by omega, by omega, by omega, by omega, by omega, by omega, by omega⟩
theorem quietly {P : Program} {f : FuncId} {args : Array Value} {w : World} {n : Nat} {v : Value} (h : ∀ W, Calls P f args W fun e w' => e = .returned v ∧ w' = W) : Calls P f args (w.drewN n) fun e w'' => e = .returned v ∧ ∃ m, w'' = w.drewN m :=
  (h _).mono fun _ _ ⟨he, hm⟩ => ⟨he, n, hm⟩
theorem cutF_nil (c : Cf) (pre : List UInt8) (n : Nat) : cutF c pre n [] = if 0 < n then [n] else [] := rfl
theorem cutF_next (c : Cf) {L : List UInt8} {i n : Nat} {b : UInt8} (h : L[i]? = some b) : cutF c (L.take i) n (L.drop i) = if endB c (n + 1) (sumW (L.take (i + 1))) = true then (n + 1) :: cutF c (L.take (i + 1)) 0 (L.drop (i + 1)) else cutF c (L.take (i + 1)) (n + 1) (L.drop (i + 1)) := by
  have hi := (List.getElem?_eq_some_iff.1 h).1
  rw [List.drop_eq_getElem_cons hi, (List.getElem?_eq_some_iff.1 h).2, cutF, List.take_add_one, h]
  rfl
theorem cutF_len (c : Cf) : ∀ (r pre : List UInt8) (n : Nat), (cutF c pre n r).length ≤ n + r.length
  | [], pre, n => by rw [cutF]; split <;> simp <;> omega
  | b :: r, pre, n => by
    rw [cutF]
    split
    · have := cutF_len c r (pre ++ [b]) 0
      simp only [List.length_cons]; omega
    · have := cutF_len c r (pre ++ [b]) (n + 1)
      simp only [List.length_cons]; omega

set_option maxHeartbeats 8000000 in
theorem ref_Cut {c : Conf} {l m M : Nat} (h3 : c.Nat3 l m M) {L : List UInt8} (w : World) (hl : L.length ≤ 1000000) : Calls Try.prog 13 #[.agg c.cells, .string (bs L)] w fun e w' => ∃ v, e = .returned v ∧ OwnN w' w.heap.size v (cutF ⟨l, m, M⟩ [] 0 L) ∧ Below w.heap.size w w' := by
  obtain ⟨f, hf⟩ := c
  obtain ⟨e8, e9, e10, l1, m1, m2, M1, M2⟩ := h3
  simp only [Conf.cells] at e8 e9 e10 ⊢
  rw [e8, e9, e10]
  generalize f 0 = c0
  generalize f 1 = c1
  generalize f 2 = c2
  generalize f 3 = c3
  generalize f 4 = c4
  generalize f 5 = c5
  generalize f 6 = c6
  generalize f 7 = c7
  generalize f 11 = c11
  clear e8 e9 e10 hf f
  obtain ⟨cf, hcf⟩ : ∃ cf : Cf, cf = ⟨l, m, M⟩ := ⟨_, rfl⟩
  rw [← hcf]
  have HC := Lib.hid hcf
  clear hcf
  obtain ⟨len, hlen⟩ : ∃ len, len = L.length := ⟨_, rfl⟩
  have hsz : (bs L).size = len := by rw [hlen, bs_size L]
  have HL := Lib.hid hlen
  rw [← hlen] at hl
  clear hlen
  obtain ⟨i0, hi0, hz0, hz1, hz2⟩ := info_parts infoInt
  have HI := Lib.hid (And.intro hi0 (And.intro hz0 (And.intro hz1 hz2)))
  clear hi0 hz0 hz1 hz2
  obtain ⟨B, hB⟩ : ∃ B, B = w.heap.size := ⟨_, rfl⟩
  rw [← hB]
  have HB := Lib.hid hB
  obtain ⟨cs, hcs⟩ : ∃ cs : Array Value, cs = #[.int .i64 c0, .int .i64 c1, .int .i64 c2, .int .i64 c3, .int .i64 c4, .int .i64 c5, .int .i64 c6, .int .i64 c7, .int .i64 (l : Int), .int .i64 (m : Int), .int .i64 (M : Int), .int .i64 c11] := ⟨_, rfl⟩
  obtain ⟨w1, hw1⟩ : ∃ w1, w.alloc (.cells #[.int .i64 c0, .int .i64 c1, .int .i64 c2, .int .i64 c3, .int .i64 c4, .int .i64 c5, .int .i64 c6, .int .i64 c7, .int .i64 (l : Int), .int .i64 (m : Int), .int .i64 (M : Int), .int .i64 c11] 23) = w1 := ⟨_, rfl⟩
  have K1 := Lib.hid (show Below B w w1 by rw [← hw1, hB]; exact (Below.refl _ _).alloc (Nat.le_refl _) _)
  have X1 := Lib.hid (show w1.heap[B]? = some (.cells cs 23 (0, 0)) by rw [← hw1, hB, hcs]; exact heap_new w _)
  have HW1 := Lib.hid hw1
  have HB1 := Lib.hid (show w1.heap.size = B + 1 by rw [← hw1, hB]; simp)
  have HCS := Lib.hid hcs
  clear hw1 hB hcs
  go_enter Try.func13, Try.ntmps13
  go_upto_region 3 with (fail)
  rw [HW1.out, ← HB.out]
  go_wp2_with fail
  go_loopw [5, 6, 7] (fun ov nv iv wr => ∃ (i n : Nat) (D : List Nat), i ≤ len ∧ n ≤ i ∧ iv = .int .i64 (i : Int) ∧ nv = .int .i64 (n : Int) ∧ Hid (OwnN wr (B + 1) ov D) ∧ Hid (D ++ cutF cf (L.take i) n (L.drop i) = cutF cf [] 0 L) ∧ Hid (Below (B + 1) w1 wr) ∧ D.length ≤ i) (fun ov nv iv wr => len - (intOf iv).toNat)
  case atStart => exact ⟨0, 0, [], Nat.zero_le _, Nat.le_refl _, rfl, rfl, Lib.hid (OffRow.nil _ _ _ _), Lib.hid (by simp), Lib.hid (Below.refl _ _), Nat.le_refl _⟩
  case round =>
    obtain ⟨i, n, D, h1, h2, rfl, rfl, hO, hE, hK, hD⟩ := hrel
    have XR := Lib.hid (show wr.heap[B]? = some (.cells cs 23 (0, 0)) from (hK.out.block B (by omega)).trans X1.out)
    obtain ⟨a1, cap1, rfl⟩ := OffRow.slice hO.out
    obtain ⟨dl, hdl⟩ : ∃ dl, dl = D.length := ⟨_, rfl⟩
    rw [← hdl] at hO hD ⊢
    have HDL := Lib.hid hdl
    clear hdl
    have q8 : wr.cell? ⟨B, 8, none⟩ = some (.int .i64 (l : Int)) := by simp [World.cell?, XR.out, HCS.out]
    have q9 : wr.cell? ⟨B, 9, none⟩ = some (.int .i64 (m : Int)) := by simp [World.cell?, XR.out, HCS.out]
    have q10 : wr.cell? ⟨B, 10, none⟩ = some (.int .i64 (M : Int)) := by simp [World.cell?, XR.out, HCS.out]
    by_cases hlt : i < len
    · have hlt2 : (i : Int) < (len : Int) := by omega
      obtain ⟨b, hb⟩ : ∃ b, L[i]? = some b := ⟨_, List.getElem?_eq_getElem (by have := HL.out; omega)⟩
      have hS := ref_Sum L i
      obtain ⟨s, hs⟩ : ∃ s, s = sumW (L.take (i + 1)) := ⟨_, rfl⟩
      rw [← hs] at hS
      have HN := Lib.hid (cutF_next cf (n := n) hb)
      rw [← hs] at HN
      have HS := Lib.hid (fun W => hS W (by have := HL.out; omega) (by have := HL.out; omega))
      have hs4 : s < 4294967296 := by rw [hs]; exact sumW_lt _
      clear hb hS hs
      by_cases hA : n + 1 = M
      · have qA : ((n : Int) + 1 == (M : Int)) = true := by rw [beq_iff_eq]; omega
        have HEB := Lib.hid (show endB cf (n + 1) s = true by rw [HC.out]; simp [endB, hA])
        clear hA
        go_wp2_with fail
        go_quiet (fail)
        have OQ := Lib.hid (show OffRow (wr.drewN nq) (B + 1) 3 1 (.slice a1 dl cap1) dl (ncells D) from OffRow.kept (by have := hO.out; unfold OwnN at this; rw [← HDL.out] at this; exact this) (fun j hj => (below_drewN (Below.refl wr.heap.size wr) nq).block j (OffRow.lt hO.out j hj).2))
        have KQ := Lib.hid (show Below (B + 1) w1 (wr.drewN nq) from below_drewN hK.out nq)
        obtain ⟨wq, hwq⟩ : ∃ wq, wq = wr.drewN nq := ⟨_, rfl⟩
        rw [← hwq] at OQ KQ ⊢
        clear hwq q8 q9 q10
        obtain ⟨q, hq⟩ : ∃ q, q = n + 1 := ⟨_, rfl⟩
        have hx1 : ((n : Int) + 1) = (q : Int) := by omega
        have HQ := Lib.hid hq
        rw [hx1]
        clear hx1 hq
        obtain ⟨hi0, hz0, hz1, hz2⟩ := HI.out
        go_wp2_with (at_builtin; refine wpList_append_off rfl (.tmp 38) (.tmp 40) 26 rfl (B + 1) 3 i0 _ 1 8 Try.underlying26 hi0 hz0 hz1 hz2 rfl (.slice a1 dl cap1) dl (ncells D) rfl ?c1 (.slice (some ⟨wq.heap.size, 0, none⟩) 1 1) rfl 1 [.int .i64 ((q : Nat) : Int)] ?c2 ?c3 ?c4 ?c5 ?_)
        case c1 => exact OQ.out.allocd _
        case c2 => exact src_block (size := 1) (cs := #[.int .i64 ((q : Nat) : Int)]) Try.underlying26 (heap_new _ _) 1 1 rfl (by intro u hu; simp at hu; subst hu; rfl)
        case c3 => unfold maxLen; omega
        case c4 => omega
        case c5 => have := KQ.out.size; have := HB1.out; simp; omega
        intro v7 w7 hr7 hg7 hat7
        have O7 := Lib.hid (show OwnN w7 (B + 1) v7 (D ++ [q]) from by unfold OwnN; rw [List.length_append, List.length_singleton, ncells_snoc, ← HDL.out]; exact hr7)
        have K7 := Lib.hid (show Below (B + 1) w1 w7 from ((KQ.out.alloc (by have := KQ.out.size; have := HB1.out; omega) _).grown hg7 (by have := KQ.out.size; have := HB1.out; simp; omega) (fun j hj => ((OQ.out.allocd (.cells #[.int .i64 ((q : Nat) : Int)] 3)).lt j hj).1)))
        clear hr7 hg7 hat7 hi0 hz0 hz1 hz2
        go_wp2_with fail
        go_roundw
        case rel =>
          refine ⟨i + 1, 0, D ++ [n + 1], by omega, by omega, by go_num, rfl, by rw [← HQ.out]; exact O7, Lib.hid ?_, K7, by rw [List.length_append, ← HDL.out, List.length_singleton]; omega⟩
          have h5 := hE.out
          rw [HN.out, if_pos HEB.out] at h5
          rw [List.append_assoc]
          exact h5
        case measure => simp [intOf]; omega
      · have qA : ((n : Int) + 1 == (M : Int)) = false := by rw [beq_eq_false_iff_ne]; omega
        by_cases hBB : l ≤ n + 1
        · have qB : decide ((l : Int) ≤ (n : Int) + 1) = true := by rw [decide_eq_true_eq]; omega
          have hm0 : ((m : Int) == 0) = false := by rw [beq_eq_false_iff_ne]; omega
          obtain ⟨sm, hsm⟩ : ∃ sm, sm = s % m := ⟨_, rfl⟩
          have hrem : (s : Int).tmod (m : Int) = (sm : Int) := by rw [Int.tmod_eq_emod_of_nonneg (by omega), hsm]; rfl
          have HSM := Lib.hid hsm
          have hsmb : sm ≤ 4294967296 := by rw [hsm]; exact Nat.le_trans (Nat.mod_le _ _) (by omega)
          clear hsm
          by_cases hCC : sm = m - 1
          · have qC : ((sm : Int) == (m : Int) - 1) = true := by rw [beq_iff_eq]; omega
            have HEB := Lib.hid (show endB cf (n + 1) s = true by rw [HC.out]; simp only [endB]; rw [← HSM.out, hCC]; simp [hBB])
            clear hA hBB hCC
            go_wp2_with fail
            go_quiet ((go_at_call 20; exact quietly HS.out))
            have OQ := Lib.hid (show OffRow (wr.drewN nq) (B + 1) 3 1 (.slice a1 dl cap1) dl (ncells D) from OffRow.kept (by have := hO.out; unfold OwnN at this; rw [← HDL.out] at this; exact this) (fun j hj => (below_drewN (Below.refl wr.heap.size wr) nq).block j (OffRow.lt hO.out j hj).2))
            have KQ := Lib.hid (show Below (B + 1) w1 (wr.drewN nq) from below_drewN hK.out nq)
            obtain ⟨wq, hwq⟩ : ∃ wq, wq = wr.drewN nq := ⟨_, rfl⟩
            rw [← hwq] at OQ KQ ⊢
            clear hwq q8 q9 q10
            obtain ⟨q, hq⟩ : ∃ q, q = n + 1 := ⟨_, rfl⟩
            have hx1 : ((n : Int) + 1) = (q : Int) := by omega
            have HQ := Lib.hid hq
            rw [hx1]
            clear hx1 hq
            obtain ⟨hi0, hz0, hz1, hz2⟩ := HI.out
            go_wp2_with (at_builtin; refine wpList_append_off rfl (.tmp 38) (.tmp 40) 26 rfl (B + 1) 3 i0 _ 1 8 Try.underlying26 hi0 hz0 hz1 hz2 rfl (.slice a1 dl cap1) dl (ncells D) rfl ?c1 (.slice (some ⟨wq.heap.size, 0, none⟩) 1 1) rfl 1 [.int .i64 ((q : Nat) : Int)] ?c2 ?c3 ?c4 ?c5 ?_)
            case c1 => exact OQ.out.allocd _
            case c2 => exact src_block (size := 1) (cs := #[.int .i64 ((q : Nat) : Int)]) Try.underlying26 (heap_new _ _) 1 1 rfl (by intro u hu; simp at hu; subst hu; rfl)
            case c3 => unfold maxLen; omega
            case c4 => omega
            case c5 => have := KQ.out.size; have := HB1.out; simp; omega
            intro v7 w7 hr7 hg7 hat7
            have O7 := Lib.hid (show OwnN w7 (B + 1) v7 (D ++ [q]) from by unfold OwnN; rw [List.length_append, List.length_singleton, ncells_snoc, ← HDL.out]; exact hr7)
            have K7 := Lib.hid (show Below (B + 1) w1 w7 from ((KQ.out.alloc (by have := KQ.out.size; have := HB1.out; omega) _).grown hg7 (by have := KQ.out.size; have := HB1.out; simp; omega) (fun j hj => ((OQ.out.allocd (.cells #[.int .i64 ((q : Nat) : Int)] 3)).lt j hj).1)))
            clear hr7 hg7 hat7 hi0 hz0 hz1 hz2
            go_wp2_with fail
            go_roundw
            case rel =>
              refine ⟨i + 1, 0, D ++ [n + 1], by omega, by omega, by go_num, rfl, by rw [← HQ.out]; exact O7, Lib.hid ?_, K7, by rw [List.length_append, ← HDL.out, List.length_singleton]; omega⟩
              have h5 := hE.out
              rw [HN.out, if_pos HEB.out] at h5
              rw [List.append_assoc]
              exact h5
            case measure => simp [intOf]; omega
          · have qC : ((sm : Int) == (m : Int) - 1) = false := by rw [beq_eq_false_iff_ne]; omega
            have HEB := Lib.hid (show endB cf (n + 1) s = false by rw [HC.out]; simp only [endB]; rw [← HSM.out]; simp [hBB, hA, hCC])
            clear hA hBB hCC
            go_wp2_with fail
            go_quiet ((go_at_call 20; exact quietly HS.out))
            have OQ := Lib.hid (show OwnN (wr.drewN nq) (B + 1) (.slice a1 dl cap1) D from OffRow.kept hO.out (fun j hj => (below_drewN (Below.refl wr.heap.size wr) nq).block j (OffRow.lt hO.out j hj).2))
            have KQ := Lib.hid (show Below (B + 1) w1 (wr.drewN nq) from below_drewN hK.out nq)
            obtain ⟨wq, hwq⟩ : ∃ wq, wq = wr.drewN nq := ⟨_, rfl⟩
            rw [← hwq] at OQ KQ ⊢
            clear hwq q8 q9 q10
            go_wp2_with fail
            go_roundw
            case rel =>
              refine ⟨i + 1, n + 1, D, by omega, by omega, by go_num, by go_num, OQ, Lib.hid ?_, KQ, by rw [← HDL.out]; omega⟩
              have h5 := hE.out
              rw [HN.out, if_neg (by rw [HEB.out]; simp)] at h5
              exact h5
            case measure => simp [intOf]; omega
        · have qB : decide ((l : Int) ≤ (n : Int) + 1) = false := by rw [decide_eq_false_iff_not]; omega
          have HEB := Lib.hid (show endB cf (n + 1) s = false by rw [HC.out]; simp [endB, hBB, hA])
          clear hA hBB
          go_wp2_with fail
          go_quiet (fail)
          have OQ := Lib.hid (show OwnN (wr.drewN nq) (B + 1) (.slice a1 dl cap1) D from OffRow.kept hO.out (fun j hj => (below_drewN (Below.refl wr.heap.size wr) nq).block j (OffRow.lt hO.out j hj).2))
          have KQ := Lib.hid (show Below (B + 1) w1 (wr.drewN nq) from below_drewN hK.out nq)
          obtain ⟨wq, hwq⟩ : ∃ wq, wq = wr.drewN nq := ⟨_, rfl⟩
          rw [← hwq] at OQ KQ ⊢
          clear hwq q8 q9 q10
          go_wp2_with fail
          go_roundw
          case rel =>
            refine ⟨i + 1, n + 1, D, by omega, by omega, by go_num, by go_num, OQ, Lib.hid ?_, KQ, by rw [← HDL.out]; omega⟩
            have h5 := hE.out
            rw [HN.out, if_neg (by rw [HEB.out]; simp)] at h5
            exact h5
          case measure => simp [intOf]; omega
    · obtain rfl : i = len := by omega
      have hE2 := Lib.hid (show D ++ (if 0 < n then [n] else []) = cutF cf [] 0 L by
        have := hE.out
        rw [List.drop_eq_nil_of_le (by have := HL.out; omega), cutF_nil] at this
        exact this)
      clear q8 q9 q10
      by_cases hn : 0 < n
      · have qN : decide (0 < (n : Int)) = true := by rw [decide_eq_true_eq]; omega
        have OQ := Lib.hid (show OffRow wr (B + 1) 3 1 (.slice a1 dl cap1) dl (ncells D) from (by have := hO.out; unfold OwnN at this; rw [← HDL.out] at this; exact this))
        have KQ := hK
        obtain ⟨hi0, hz0, hz1, hz2⟩ := HI.out
        go_wp2_with (at_builtin; refine wpList_append_off rfl (.tmp 44) (.tmp 46) 26 rfl (B + 1) 3 i0 _ 1 8 Try.underlying26 hi0 hz0 hz1 hz2 rfl (.slice a1 dl cap1) dl (ncells D) rfl ?c1 (.slice (some ⟨wr.heap.size, 0, none⟩) 1 1) rfl 1 [.int .i64 ((n : Nat) : Int)] ?c2 ?c3 ?c4 ?c5 ?_)
        case c1 => exact OQ.out.allocd _
        case c2 => exact src_block (size := 1) (cs := #[.int .i64 ((n : Nat) : Int)]) Try.underlying26 (heap_new _ _) 1 1 rfl (by intro u hu; simp at hu; subst hu; rfl)
        case c3 => unfold maxLen; omega
        case c4 => omega
        case c5 => have := KQ.out.size; have := HB1.out; simp; omega
        intro v7 w7 hr7 hg7 hat7
        have O7 := Lib.hid (show OwnN w7 (B + 1) v7 (D ++ [n]) from by unfold OwnN; rw [List.length_append, List.length_singleton, ncells_snoc, ← HDL.out]; exact hr7)
        have K7 := Lib.hid (show Below (B + 1) w1 w7 from ((KQ.out.alloc (by have := KQ.out.size; have := HB1.out; omega) _).grown hg7 (by have := KQ.out.size; have := HB1.out; simp; omega) (fun j hj => ((OQ.out.allocd (.cells #[.int .i64 ((n : Nat) : Int)] 3)).lt j hj).1)))
        clear hr7 hg7 hat7 hi0 hz0 hz1 hz2
        go_wp2_with fail
        go_ret
        refine ⟨_, rfl, ?_, ?_⟩
        · have h5 := hE2.out
          rw [if_pos hn] at h5
          rw [← h5]
          exact OffRow.weak O7.out (by omega)
        · exact K1.out.trans (K7.out.mono (by omega))
      · have qN : decide (0 < (n : Int)) = false := by rw [decide_eq_false_iff_not]; omega
        go_wp2_with fail
        go_ret
        refine ⟨_, rfl, ?_, ?_⟩
        · have h5 := hE2.out
          rw [if_neg hn, List.append_nil] at h5
          rw [← h5]
          exact OffRow.weak hO.out (by omega)
        · exact K1.out.trans (hK.out.mono (by omega))
end Go.Proofs.Ytcjpemkafncihaa
