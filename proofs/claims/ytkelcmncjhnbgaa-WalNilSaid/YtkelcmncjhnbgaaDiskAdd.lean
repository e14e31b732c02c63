/- Bytes added to a file. -/
import Derived.Test.YtkelcmncjhnbgaaDiskMake
set_option linter.unusedVariables false
set_option maxRecDepth 100000
namespace Go.Proofs.Ytkelcmncjhnbgaa
open Go.RowKit Go.Maps

theorem strCells_bs (b : List UInt8) : Lib.strCells (bs b) = b.map byteV := rfl
/-- Bytes laid behind a row: where the row then lies. -/
theorem append_at (w : World) (ty : TypeId) (v : Value) (n : Nat) (xs : List Value) (hown : w.ownsRow 0 5 1 v n xs) (s : ByteArray) (hb : n + s.size ≤ 140737488355328) :
    ∃ v' w', (Builtin.append_ #[34, 9] ty #[v, .string s]).run Try.prog w = .ok v' w' ∧ w'.ownsRow 0 5 1 v' (n + s.size) (xs ++ Lib.strCells s) ∧ w.grownBy w' v.ownBlock ∧ (v'.ownBlock = v.ownBlock ∨ v'.ownBlock = some w.heap.size) := by
  obtain ⟨i, hi, hz0, hz1, hz2⟩ := info_parts info5
  obtain ⟨v', w', hr, h1, h2, h3⟩ := Lib.run_append_own_string (P := Try.prog) w 0 34 9 ty 5 i Try.underlying34 Try.underlying9 hi hz0 hz1 hz2 v n xs hown s (by unfold maxLen; omega) hb (Nat.zero_le _)
  refine ⟨v', w', hr, h1, h2, ?_⟩
  rcases hown.2 with ⟨rfl, rfl⟩ | ⟨g, cap, cur, rfl, _, hg, hle, hmx, hsz, htk⟩
  · by_cases h0 : s.size = 0
    · exact .inl (by rw [h3.2 ⟨rfl, h0⟩])
    · have := run_append_nil_string (P := Try.prog) w 34 9 ty 5 i (.int .u8 0) Try.underlying34 Try.underlying9 hi hz0 s (by omega) (by omega) (by rw [hz2]; omega)
      rw [this] at hr
      injection hr with e1 e2
      exact .inr (by rw [← e1]; rfl)
  · by_cases hroom : n + s.size ≤ cap
    · have := Lib.run_append_room_string (P := Try.prog) w 34 9 ty 5 i Try.underlying34 Try.underlying9 hi hz1 g n cap cur hg s hroom (by omega)
      rw [this] at hr
      injection hr with e1 e2
      exact .inl (by rw [← e1]; rfl)
    · have holds : ∀ j u, xs[j]? = some u → w.cell? ((⟨g, 0, none⟩ : Addr).add j) = some u := hown.cells (g := g) rfl
      have := Lib.run_append_grow_string (P := Try.prog) w 34 9 ty 5 i (.int .u8 0) Try.underlying34 Try.underlying9 hi hz0 ⟨g, 0, none⟩ n cap xs (by rw [hz1]; exact hown.1) holds s (by omega) (by omega) (by rw [hz2]; exact growslice_fits (by omega) (by omega))
      rw [this] at hr
      injection hr with e1 e2
      exact .inr (by rw [← e1]; rfl)
theorem wpList_append_at {ops : Array Oper} {rest : List Oper} {o : Oper} {a : Act} {w : World} {Q : Exit → Act → World → Prop} (hgd : o.guard = none) (sl x : Operand)
    (ho : o.op = .call { callee := .builtin .append, args := #[sl, x], argTypes := #[34, 9] })
    (v : Value) (n : Nat) (xs : List Value) (hs : a.eval sl = v) (hown : w.ownsRow 0 5 1 v n xs) (s : ByteArray) (hx : a.eval x = .string s) (hb : n + s.size ≤ 140737488355328)
    (h : ∀ v' w', w'.ownsRow 0 5 1 v' (n + s.size) (xs ++ Lib.strCells s) → w.grownBy w' v.ownBlock → (v'.ownBlock = v.ownBlock ∨ v'.ownBlock = some w.heap.size) → wpList Try.prog ops Q rest (a.put o.dst v') w') : wpList Try.prog ops Q (o :: rest) a w := by
  refine wpList_plain hgd fun K hK => ?_
  obtain ⟨v', w', hr, h2, h3, h4⟩ := append_at w o.type v n xs hown s hb
  unfold Oper.wp execOp
  simp only [ho, resolve, invoke, builtin, Sem.run_bind, Sem.run_pure, Result.andThen_ok, List.map_toArray, List.map_cons, List.map_nil, hs, hx, hr]
  exact hK _ _ (h v' w' h2 h3 h4)
theorem disk_Add_nil (n : Int) (b : ByteArray) (w : World) : Calls Try.prog 22 #[.pointer none, .int .i64 n, .string b] w fun e w' => e = .returned (.int .i64 8) ∧ w = w' := by
  have hF := disk_find_nil n w
  go_enter Try.func22, Try.ntmps22
  go_wp2_with (go_at_call 48; refine hF.mono ?_; rintro e w' ⟨rfl, rfl⟩)
  go_ret
  exact ⟨rfl, rfl⟩
/-- The bytes laid: the row turned, the file's slice and the tier's count written. -/
theorem Lay.laid {S : Nat → Prop} {w w1 : World} {d mb : Nat} {es : List DE} {c : DC} (h : Lay S w d mb es c) {n : Int} {e0 : DE} (hfe : findE n es = some e0) (b : List UInt8) (v' : Value) (ho : w1.ownsRow 0 5 1 v' (e0.f.data.length + (bs b).size) (e0.f.data.map byteV ++ Lib.strCells (bs b)))
    (hg : w.grownBy w1 e0.v.ownBlock) (hat : v'.ownBlock = e0.v.ownBlock ∨ v'.ownBlock = some w.heap.size) : Lay (New S w) (w1.setCell ⟨e0.fb, 1, none⟩ v') d mb (updE n ⟨addF b e0.f, e0.fb, v'⟩ es) c ∧ Only S w (w1.setCell ⟨e0.fb, 1, none⟩ v') := by
  obtain ⟨hm, hn⟩ := findE_mem hfe
  have hfb : e0.fb < w.heap.size := heap_lt (h.file e0 hm).1
  have hne : e0.v.ownBlock ≠ some e0.fb := fun y => (h.ne_row hm y).2.2 e0 hm rfl
  have h1 : w1.heap[e0.fb]? = w.heap[e0.fb]? := hg.block _ hfb (Ne.symm hne)
  have hnew : ∀ g, v'.ownBlock = some g → e0.v.ownBlock = some g ∨ w.heap.size ≤ g := fun g hg' => by
    rcases hat with e | e
    · exact .inl (e ▸ hg')
    · rw [e] at hg'
      injection hg' with hg'
      exact .inr (by omega)
  have hvfb : ∀ g, v'.ownBlock = some g → g ≠ e0.fb := fun g hg' y => by
    obtain ⟨cur, hc⟩ := ownsRow_row ho hg'
    rw [y, h1, (h.file e0 hm).1] at hc
    simp at hc
  refine ⟨?_, ?_⟩
  · refine h.turn (S' := New S w) hfe hn rfl (fun k hk hk1 hk2 => ?_) ⟨?_, ?_⟩ hnew (fun k hk => .inl hk) fun g hg' => ?_
    · rw [heap_set_other hk1]
      exact hg.block k hk (Ne.symm hk2)
    · have := heap_set (o := 1) (h1.trans (h.file e0 hm).1) v'
      exact this
    · have hd : (addF b e0.f).data = e0.f.data ++ b := rfl
      have := ownsRow_same (w' := w1.setCell ⟨e0.fb, 1, none⟩ v') ho fun g hg' => heap_set_other (hvfb g hg') v'
      simp only [hd, List.length_append, List.map_append]
      rw [bs_size, strCells_bs] at this
      exact this
    · rcases hnew g hg' with x | x
      · exact .inl (h.sr e0 hm g x)
      · exact .inr x
  · exact ((Only.refl S w).grown hg fun j hj => .inl (h.sr e0 hm j hj)).setCell (p := ⟨e0.fb, 1, none⟩) (.inl (h.sf e0 hm)) v'
theorem quiet_l {P : Program} {f : FuncId} {args : Array Value} {w : World} {n : Nat} {v : Value} (h : ∀ W, Calls P f args W fun e w' => e = .returned v ∧ W = w') : Calls P f args (w.drewN n) fun e w'' => e = .returned v ∧ ∃ m, w'' = w.drewN m :=
  (h _).mono fun _ _ ⟨he, hm⟩ => ⟨he, n, hm.symm⟩
theorem DS.Fit.addF {s : DS} (h : s.Fit) {n : Int} {f : DF} (b : List UInt8) (hf : findL n s.fs = some f) (hr : ¬ s.room f.t < s.used f.t + (blk (f.data.length + b.length) - blk f.data.length)) : ({ s with fs := updL n (addF b) s.fs } : DS).Fit := by
  have hm := blk_mono (show f.data.length ≤ f.data.length + b.length by omega)
  refine h.upd (_root_.Go.Proofs.Ytkelcmncjhnbgaa.addF b) hf (fun _ => rfl) (fun _ => rfl) (fun x hx _ => ⟨?_, (h.file x hx).2.2.1⟩) (fun _ hx => hx) ?_
  · have := (h.file x hx).2.1
    show x.sb ≤ (x.data ++ b).length
    rw [List.length_append]
    omega
  · show s.used f.t + blk (f.data ++ b).length ≤ _
    rw [List.length_append]
    omega
set_option maxRecDepth 100000 in
theorem disk_Add {S : Nat → Prop} {w : World} {d : Nat} {s : DS} (h : Disk S w d s) (n : Int) (b : List UInt8) (hw : (Lit.int .i64 n).wf = true) (hs : s.steps < 4611686018427387904) (hbs : b.length ≤ 2305843009213693952) :
    Calls Try.prog 22 #[.pointer (some ⟨d, 0, none⟩), .int .i64 n, .string (bs b)] w (Did S d (s.add n b) w) := by
  obtain ⟨hF, mb, es, h, he⟩ := h
  cases hd : s.down with
  | true =>
    have hr : s.add n b = (s, 8) := by unfold DS.add; rw [if_pos hd]
    have hf := lay_find_down h n hd
    have HR := Lib.hid (show Did S d (s.add n b) w (.returned (.int .i64 8)) w by rw [hr]; exact ⟨rfl, ⟨hF, mb, es, h.new, he⟩, Only.refl _ _⟩)
    clear hr h he hd hF
    go_enter Try.func22, Try.ntmps22
    go_wp2_with (go_at_call 48; refine hf.mono ?_; rintro e w' ⟨rfl, rfl⟩)
    go_ret
    exact HR.out
  | false =>
    cases hx : findL n s.fs with
    | none =>
      have hr : s.add n b = (s, 9) := by unfold DS.add; rw [if_neg (by rw [hd]; simp), hx]
      have hf := lay_find_none h n hw hd (find_none he hx)
      have HR := Lib.hid (show Did S d (s.add n b) w (.returned (.int .i64 9)) w by rw [hr]; exact ⟨rfl, ⟨hF, mb, es, h.new, he⟩, Only.refl _ _⟩)
      clear hr h he hd hx hF
      go_enter Try.func22, Try.ntmps22
      go_wp2_with (go_at_call 48; refine hf.mono ?_; rintro e w' ⟨rfl, rfl⟩)
      go_ret
      exact HR.out
    | some f =>
      obtain ⟨e0, hfe, hef⟩ := find_some he hx
      have hf := lay_find_some h n hw hd e0 hfe
      obtain ⟨hm, hn⟩ := findE_mem hfe
      obtain ⟨lb1, lb2⟩ := len_bound hF hx
      have ht := tier_cases hF hx
      have hu0 := hF.u0
      have hu1 := hF.u1
      have hr0 := hF.r0
      have hr1 := hF.r1
      obtain ⟨a, cap, hv, hcap⟩ := row_slice (h.file e0 hm).2
      have g0 : w.cell? ⟨e0.fb, 0, none⟩ = some (.int .i64 f.t) := by rw [h.fcell hm 0, ← hef]; rfl
      have g1 : w.cell? ⟨e0.fb, 1, none⟩ = some (.slice a f.data.length cap) := by rw [h.fcell hm 1, ← hef, ← hv]; rfl
      have hbsz : (bs b).size = b.length := bs_size b
      have hlb : f.data.length + (bs b).size ≤ 4611686018427387904 := by omega
      have hfr := fun m => lay_free (h.drewN m) f.t ht ⟨by simp [DS.dc], by simp [DS.dc]; omega, by simp [DS.dc], by simp [DS.dc]; omega⟩ ⟨by simp [DS.dc], by simp [DS.dc]; omega, by simp [DS.dc], by simp [DS.dc]; omega⟩
      have hval : tierI f.t (s.dc.r0 - s.dc.u0) (s.dc.r1 - s.dc.u1) = (s.room f.t : Int) - (s.used f.t : Int) := by
        unfold tierI DS.room DS.used DS.dc
        rcases ht with e | e <;> simp [e]
      rw [hval] at hfr
      have hmono := blk_mono (show f.data.length ≤ f.data.length + (bs b).size by omega)
      have hbk := blk_le (f.data.length + (bs b).size)
      have hbk2 : blk (f.data.length + (bs b).size) ≤ 4611686018427387904 := by unfold blk; omega
      obtain ⟨mo, hmo⟩ : ∃ mo : Nat, mo = blk (f.data.length + (bs b).size) - blk f.data.length := ⟨_, rfl⟩
      have z1 : IntKind.i64.wrap ((f.data.length : Int) + ((bs b).size : Int)) = ((f.data.length + (bs b).size : Nat) : Int) := by rw [IntWalk.i64_in _ (by omega)]; omega
      have z2 : IntKind.i64.wrap ((blk (f.data.length + (bs b).size) : Int) - (blk f.data.length : Int)) = (mo : Int) := by rw [IntWalk.i64_in _ (by omega)]; omega
      have hroomu : s.used f.t ≤ s.room f.t ∧ s.room f.t ≤ 1048576 := by
        unfold DS.used DS.room
        rcases ht with e | e <;> rw [e]
        · exact ⟨hu0, hr0⟩
        · exact ⟨hu1, hr1⟩
      by_cases hfull : s.room f.t < s.used f.t + mo
      · have hr : s.add n b = (s, 7) := by unfold DS.add; rw [if_neg (by rw [hd]; simp), hx]; simp only; rw [if_pos (by rw [← hbsz, ← hmo]; exact hfull)]
        have HR := Lib.hid (show ∀ m, Did S d (s.add n b) w (.returned (.int .i64 7)) (w.drewN m) from fun m => by rw [hr]; exact ⟨rfl, ⟨hF, mb, es, (h.drewN m).new, he⟩, (Only.refl _ _).drewN m⟩)
        have hgt : (s.room f.t : Int) - (s.used f.t : Int) < (mo : Int) := by omega
        clear hr h he hd hF ht hx hfe hval hfull hef hm hn hv hbsz hmo hw
        go_enter Try.func22, Try.ntmps22
        go_wp2_with (go_at_call 48; refine hf.mono ?_; rintro e w' ⟨rfl, rfl⟩)
        go_quiet ((go_at_call 46; exact quiet_l (fun W => disk_blocks _ (by omega) W)))
        go_wp2_with (go_at_call 45; refine (hfr _).mono ?_; rintro e w' ⟨rfl, m, rfl⟩)
        go_ret
        exact HR.out _
      · have hgt : (mo : Int) ≤ (s.room f.t : Int) - (s.used f.t : Int) := by omega
        have hno : ¬ s.room f.t < s.used f.t + (blk (f.data.length + b.length) - blk f.data.length) := by rw [← hbsz, ← hmo]; exact hfull
        have hFit := hF.addF b hx hno
        have hlb2 : f.data.length + (bs b).size ≤ 140737488355328 := by
          have := blk_le (f.data.length + (bs b).size)
          omega
        have hrow : w.ownsRow 0 5 1 (.slice a f.data.length cap) f.data.length (f.data.map byteV) := by
          have := (h.file e0 hm).2
          rw [hv, hef] at this
          exact this
        have huse := fun t => used_upd t n (addF b) (fun _ => rfl) hF.nod hx
        -- the change, wherever it comes
        have ch : ∀ (v' : Value) w3, Lay (New S w) w3 d mb (updE n ⟨addF b e0.f, e0.fb, v'⟩ es) (DS.dc { s with fs := updL n (addF b) s.fs }) → Only S w w3 → Calls Try.prog 47 #[.pointer (some ⟨d, 0, none⟩)] w3 (Did S d (s.add n b) w) := by
          intro v' w3 h3 o3
          have hfs : (updE n ⟨addF b e0.f, e0.fb, v'⟩ es).map (·.f) = updL n (addF b) s.fs := by rw [updE_f (g := addF b) h.nod hfe rfl, he]
          by_cases hl : s.left = 0
          · have hr : s.add n b = ({ s.off with fs := updL n (addF b) s.fs }, 8) := by unfold DS.add; rw [if_neg (by rw [hd]; simp), hx]; simp only; rw [if_neg hno, if_pos hl]
            refine (lay_change_off h3 hl).mono fun e w4 ⟨he4, h4, o4⟩ => ?_
            rw [hr]
            exact ⟨he4, ⟨hFit.off, mb, _, h4, hfs⟩, o3.andThen o4 fun k _ hk => by rw [hk]; exact h.sd⟩
          · have hr : s.add n b = ({ s.tick with fs := updL n (addF b) s.fs }, 0) := by unfold DS.add; rw [if_neg (by rw [hd]; simp), hx]; simp only; rw [if_neg hno, if_neg hl]
            refine (lay_change_on h3 hl hF.l0 hF.l1 (show (0 : Int) ≤ (s.steps : Int) by omega) (show (s.steps : Int) < 4611686018427387904 by omega)).mono fun e w4 ⟨he4, h4, o4⟩ => ?_
            rw [hr]
            refine ⟨he4, ⟨hFit.tick hl, mb, _, ?_, hfs⟩, o3.andThen o4 fun k _ hk => by rw [hk]; exact h.sd⟩
            have : DS.dc { s.tick with fs := updL n (addF b) s.fs } = (DS.dc { s with fs := updL n (addF b) s.fs }).tick := by
              unfold DS.dc DC.tick DS.tick
              simp
            rw [this]
            exact h4
        have HCH := Lib.hid ch
        have step : ∀ m v' w1, w1.ownsRow 0 5 1 v' (f.data.length + (bs b).size) (f.data.map byteV ++ Lib.strCells (bs b)) → (w.drewN m).grownBy w1 (Value.ownBlock (.slice a f.data.length cap)) → (v'.ownBlock = Value.ownBlock (.slice a f.data.length cap) ∨ v'.ownBlock = some w.heap.size) →
            w1.cell? ⟨e0.fb, 1, none⟩ = some (.slice a f.data.length cap) ∧ w1.frozen? ⟨e0.fb, 1, none⟩ = false ∧
            (w1.setCell ⟨e0.fb, 1, none⟩ v').cell? ⟨e0.fb, 0, none⟩ = some (.int .i64 f.t) ∧ (w1.setCell ⟨e0.fb, 1, none⟩ v').cell? ⟨d, 2, none⟩ = some (.int .i64 (usedL 0 s.fs)) ∧ (w1.setCell ⟨e0.fb, 1, none⟩ v').cell? ⟨d, 3, none⟩ = some (.int .i64 (usedL 1 s.fs)) ∧
            (w1.setCell ⟨e0.fb, 1, none⟩ v').frozen? ⟨d, 2, none⟩ = false ∧ (w1.setCell ⟨e0.fb, 1, none⟩ v').frozen? ⟨d, 3, none⟩ = false ∧
            (f.t = 0 → Lay (New S w) ((w1.setCell ⟨e0.fb, 1, none⟩ v').drew.setCell ⟨d, 2, none⟩ (.int .i64 ((usedL 0 s.fs : Int) + mo))) d mb (updE n ⟨addF b e0.f, e0.fb, v'⟩ es) (DS.dc { s with fs := updL n (addF b) s.fs }) ∧ Only S w ((w1.setCell ⟨e0.fb, 1, none⟩ v').drew.setCell ⟨d, 2, none⟩ (.int .i64 ((usedL 0 s.fs : Int) + mo)))) ∧
            (f.t = 1 → Lay (New S w) ((w1.setCell ⟨e0.fb, 1, none⟩ v').drew.setCell ⟨d, 3, none⟩ (.int .i64 ((usedL 1 s.fs : Int) + mo))) d mb (updE n ⟨addF b e0.f, e0.fb, v'⟩ es) (DS.dc { s with fs := updL n (addF b) s.fs }) ∧ Only S w ((w1.setCell ⟨e0.fb, 1, none⟩ v').drew.setCell ⟨d, 3, none⟩ (.int .i64 ((usedL 1 s.fs : Int) + mo)))) := by
          intro m v' w1 ho hg hat
          have hg' : w.grownBy w1 e0.v.ownBlock := by rw [hv, hef]; exact ⟨hg.os, hg.tape, hg.output, hg.size, hg.block⟩
          have hfb : w1.heap[e0.fb]? = w.heap[e0.fb]? := hg'.block _ (heap_lt (h.file e0 hm).1) fun y => (h.ne_row hm y.symm).2.2 e0 hm rfl
          obtain ⟨h2, o2⟩ := h.laid hfe b v' (by rw [hef]; exact ho) hg' (by rw [hv, hef]; exact hat)
          have hin : (⟨addF b e0.f, e0.fb, v'⟩ : DE) ∈ updE n ⟨addF b e0.f, e0.fb, v'⟩ es := by
            unfold updE
            exact List.mem_map.2 ⟨e0, hm, by rw [if_pos hn]⟩
          have hlen : (addF b f).data.length = f.data.length + (bs b).size := by rw [hbsz]; exact List.length_append
          have hu0' := huse 0
          have hu1' := huse 1
          rw [hlen] at hu0' hu1'
          refine ⟨?_, ?_, ?_, h2.cell 2, h2.cell 3, h2.free 2, h2.free 3, fun e => ⟨?_, ?_⟩, fun e => ⟨?_, ?_⟩⟩
          · simp only [World.cell?, hfb]
            exact g1
          · simp only [World.frozen?, hfb]
            exact h.ffree hm 1
          · rw [h2.fcell hin 0, ← hef]
            rfl
          · have hcc : DS.dc { s with fs := updL n (addF b) s.fs } = s.dc.use 0 ((usedL 0 s.fs : Int) + mo) := by
              rw [e] at hu0' hu1'
              simp at hu0' hu1'
              unfold DS.dc DC.use
              simp
              omega
            rw [hcc]
            exact (h2.drew.setU _).1
          · exact o2.drew.andThen (only_setD _) fun k _ hk => by rw [hk]; exact h.sd
          · have hcc : DS.dc { s with fs := updL n (addF b) s.fs } = s.dc.use 1 ((usedL 1 s.fs : Int) + mo) := by
              rw [e] at hu0' hu1'
              simp at hu0' hu1'
              unfold DS.dc DC.use
              simp
              omega
            rw [hcc]
            exact (h2.drew.setU _).2
          · exact o2.drew.andThen (only_setD _) fun k _ hk => by rw [hk]; exact h.sd
        have hrowm : ∀ m, (w.drewN m).ownsRow 0 5 1 (.slice a f.data.length cap) f.data.length (f.data.map byteV) := fun m => hrow
        have STEP := Lib.hid step
        have z3 : IntKind.i64.wrap ((usedL 0 s.fs : Int) + (mo : Int)) = (usedL 0 s.fs : Int) + (mo : Int) := IntWalk.i64_in _ (by omega)
        have z4 : IntKind.i64.wrap ((usedL 1 s.fs : Int) + (mo : Int)) = (usedL 1 s.fs : Int) + (mo : Int) := IntWalk.i64_in _ (by omega)
        clear h he hd hF hx hfe hval hfull hef hm hn hv hbsz hmo hw step ch hno hrow hFit huse
        rcases ht with ht0 | ht1
        · have HT := Lib.hid ht0
          clear ht0
          go_enter Try.func22, Try.ntmps22
          go_wp2_with (go_at_call 48; refine hf.mono ?_; rintro e w' ⟨rfl, rfl⟩)
          go_quiet ((go_at_call 46; exact quiet_l (fun W => disk_blocks _ (by omega) W)))
          go_wp2_with (first | (go_at_call 45; refine (hfr _).mono ?_; rintro e w' ⟨rfl, m, rfl⟩) | (at_builtin; refine wpList_append_at rfl _ _ rfl _ _ _ rfl (hrowm _) (bs b) rfl hlb2 ?_; intro v' w1 ho hg hat; obtain ⟨a', cap', rfl, hcap'⟩ := row_slice ho; obtain ⟨q0, q1, q2, q3, q4, q5, q6, q7, q8⟩ := STEP.out _ _ w1 ho hg hat; have Q8 := Lib.hid (q7 HT.out); clear q7 q8 ho hg hat))
          rw [HT.out] at q2
          generalize World.setCell w1 _ _ = w2 at *
          refine wp_region_still_tail 14 (by kernel_rfl) (by kernel_rfl) ?_
          simp only [List.take_succ_cons, List.take_zero, List.drop_succ_cons, List.drop_zero]
          repeat still_step
          refine wpStill_nil ?_
          change wpList _ _ _ _ _ (World.drew _)
          go_wp2_with (go_at_call 47; refine (HCH.out _ _ Q8.out.1 Q8.out.2).mono ?_; rintro e w4 ⟨rfl, hD4, hO4⟩)
          go_ret
          exact ⟨rfl, hD4, hO4⟩
        · have HT := Lib.hid ht1
          clear ht1
          go_enter Try.func22, Try.ntmps22
          go_wp2_with (go_at_call 48; refine hf.mono ?_; rintro e w' ⟨rfl, rfl⟩)
          go_quiet ((go_at_call 46; exact quiet_l (fun W => disk_blocks _ (by omega) W)))
          go_wp2_with (first | (go_at_call 45; refine (hfr _).mono ?_; rintro e w' ⟨rfl, m, rfl⟩) | (at_builtin; refine wpList_append_at rfl _ _ rfl _ _ _ rfl (hrowm _) (bs b) rfl hlb2 ?_; intro v' w1 ho hg hat; obtain ⟨a', cap', rfl, hcap'⟩ := row_slice ho; obtain ⟨q0, q1, q2, q3, q4, q5, q6, q7, q8⟩ := STEP.out _ _ w1 ho hg hat; have Q8 := Lib.hid (q8 HT.out); clear q7 q8 ho hg hat))
          rw [HT.out] at q2
          generalize World.setCell w1 _ _ = w2 at *
          refine wp_region_still_tail 14 (by kernel_rfl) (by kernel_rfl) ?_
          simp only [List.take_succ_cons, List.take_zero, List.drop_succ_cons, List.drop_zero]
          repeat still_step
          refine wpStill_nil ?_
          change wpList _ _ _ _ _ (World.drew _)
          go_wp2_with (go_at_call 47; refine (HCH.out _ _ Q8.out.1 Q8.out.2).mono ?_; rintro e w4 ⟨rfl, hD4, hO4⟩)
          go_ret
          exact ⟨rfl, hD4, hO4⟩
end Go.Proofs.Ytkelcmncjhnbgaa
