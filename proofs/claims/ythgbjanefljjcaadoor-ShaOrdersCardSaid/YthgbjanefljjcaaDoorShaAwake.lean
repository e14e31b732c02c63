/- The laws' own first look; keys held against each other; regions of the laws. -/
import Derived.Test.YthgbjanefljjcaaDoorShaParse
import Derived.Stop.BytesEq
import Derived.Deep.RegionHeld3
set_option linter.unusedVariables false
namespace Go.Proofs.YthgbjanefljjcaaDoor
open Go.RowKit

theorem eq_keys (l m : List UInt8) (hl : l.length = 32) (hm : m.length = 32) (w : World) : (Op.equalIn 10000 25 (.agg (keyA l)) (.agg (keyA m))).run Tryd.prog w = .ok (l == m) w :=
  run_equalIn_bytes w 9998 25 5 32 arr25 Tryd.underlying5 size5 l m hl hm

theorem awake_same : (bs [98, 97, 55, 56, 49, 54, 98, 102, 56, 102, 48, 49, 99, 102, 101, 97, 52, 49, 52, 49, 52, 48, 100, 101, 53, 100, 97, 101, 50, 50, 50, 51, 98, 48, 48, 51, 54, 49, 97, 51, 57, 54, 49, 55, 55, 97, 57, 99, 98, 52, 49, 48, 102, 102, 54, 49, 102, 50, 48, 48, 49, 53, 97, 100]).toList = [98, 97, 55, 56, 49, 54, 98, 102, 56, 102, 48, 49, 99, 102, 101, 97, 52, 49, 52, 49, 52, 48, 100, 101, 53, 100, 97, 101, 50, 50, 50, 51, 98, 48, 48, 51, 54, 49, 97, 51, 57, 54, 49, 55, 55, 97, 57, 99, 98, 52, 49, 48, 102, 102, 54, 49, 102, 50, 48, 48, 49, 53, 97, 100] := by rw [Lib.toList_data, bs_list]
theorem digest_len (l : List UInt8) : (digest l).length = 32 := keyOf_len _
theorem awake_joined : joined [bs [97], bs [], bs [98, 99]] = [97, 98, 99] := by simp [joined, bs_list]

set_option maxHeartbeats 1000000 in
theorem law_awake (w : World) (hg : Hid (Glob w)) : Calls Tryd.prog 7 #[] w fun e w' => e = .returned (.bool true) ∧ Below w.heap.size w w' := by
  have hrow := Lib.hid (row_new w [bs [97], bs [], bs [98, 99]] 9)
  have hg1 := Lib.hid (hg.out.keep ((Below.refl w.heap.size w).alloc (Nat.le_refl _) (.cells ([bs [97], bs [], bs [98, 99]].map Value.string).toArray 9)) hg.out.1)
  have hk1 := Lib.hid ((Below.refl w.heap.size w).alloc (Nat.le_refl _) (.cells ([bs [97], bs [], bs [98, 99]].map Value.string).toArray 9))
  go_enter Tryd.func7, Tryd.ntmps7
  go_wp2_with fail
  refine (sha_Sum (some ⟨w.heap.size, 0, none⟩) w.heap.size 0 3 3 [bs [97], bs [], bs [98, 99]] _ (Lib.hid rfl) (by omega) hrow (Lib.hid (by rw [awake_joined]; decide)) (Lib.hid (.inr rfl)) hg1).mono ?_
  rintro e w1 ⟨rfl, k1⟩
  rw [awake_joined]
  have K1 := Lib.hid (hk1.out.trans (k1.mono hk1.out.size))
  clear k1
  go_wp2_with fail
  refine (sha_Hex (digest [97, 98, 99]) w1 (Lib.hid (digest_len _))).mono ?_
  rintro e w2 ⟨rfl, k2⟩
  have K2 := Lib.hid (K1.out.trans (k2.mono K1.out.size))
  clear k2
  rw [awake_hex]
  have hs := awake_same
  go_wp2_with fail
  go_ret
  exact ⟨rfl, K2.out⟩

theorem Glob.seen {W : World} (h : Glob W) (n : Seen W) : Glob n.val := h.keep n.below h.1
theorem seen_awake (W : World) (hg : Hid (Glob W)) (n : Seen W) : Calls Tryd.prog 7 #[] n.val fun e w'' => e = .returned (.bool true) ∧ ∃ m : Seen W, w'' = m.val :=
  (law_awake n.val (Lib.hid (hg.out.seen n))).mono fun _ w'' ⟨h1, h2⟩ => ⟨h1, ⟨⟨w'', n.below.trans (h2.mono n.below.size)⟩, rfl⟩⟩
theorem seen_Sum (a : Option Addr) (b off len cap : Nat) (T : List ByteArray) (W : World) (hlen : Hid (len = T.length)) (hl : len ≤ 9223372036854775807) (hz : Hid (RowS b off T W)) (hs : Hid ((joined T).length ≤ 900000)) (hab : Hid (len = 0 ∨ a = some ⟨b, off, none⟩)) (hg : Hid (Glob W)) (n : Seen W) :
    Calls Tryd.prog 9 #[.slice a len cap] n.val fun e w'' => e = .returned (.agg (keyA (digest (joined T)))) ∧ ∃ m : Seen W, w'' = m.val :=
  (sha_Sum a b off len cap T n.val hlen hl (Lib.hid (RowS.below hz.out n.below)) hs hab (Lib.hid (hg.out.seen n))).mono fun _ w'' ⟨h1, h2⟩ => ⟨h1, ⟨⟨w'', n.below.trans (h2.mono n.below.size)⟩, rfl⟩⟩
theorem seen_Hex (l : List UInt8) (hl : Hid (l.length = 32)) (W : World) (n : Seen W) : Calls Tryd.prog 12 #[.agg (keyA l)] n.val fun e w'' => e = .returned (.string (bs (hexL l))) ∧ ∃ m : Seen W, w'' = m.val :=
  (sha_Hex l n.val hl).mono fun _ w'' ⟨h1, h2⟩ => ⟨h1, ⟨⟨w'', n.below.trans (h2.mono n.below.size)⟩, rfl⟩⟩
theorem seen_refHex (l : List UInt8) (hl : Hid (l.length = 32)) (W : World) (n : Seen W) : Calls Tryd.prog 13 #[.agg (keyA l)] n.val fun e w'' => e = .returned (.string (bs (hexL l))) ∧ ∃ m : Seen W, w'' = m.val :=
  (ref_Hex l n.val hl).mono fun _ w'' ⟨h1, h2⟩ => ⟨h1, ⟨⟨w'', n.below.trans (h2.mono n.below.size)⟩, rfl⟩⟩
theorem seen_Less (l m : List UInt8) (hl : Hid (l.length = 32)) (hm : Hid (m.length = 32)) (W : World) (n : Seen W) : Calls Tryd.prog 14 #[.agg (keyA l), .agg (keyA m)] n.val fun e w'' => e = .returned (.bool (lessL l m)) ∧ ∃ m : Seen W, w'' = m.val :=
  (sha_Less l m n.val hl hm).mono fun _ w'' ⟨h1, h2⟩ => ⟨h1, ⟨⟨w'', n.below.trans (h2.mono n.below.size)⟩, rfl⟩⟩
theorem seen_refLess (l m : List UInt8) (hl : Hid (l.length = 32)) (hm : Hid (m.length = 32)) (W : World) (n : Seen W) : Calls Tryd.prog 15 #[.agg (keyA l), .agg (keyA m)] n.val fun e w'' => e = .returned (.bool (lessL l m)) ∧ ∃ m : Seen W, w'' = m.val :=
  (ref_Less l m n.val hl hm).mono fun _ w'' ⟨h1, h2⟩ => ⟨h1, ⟨⟨w'', n.below.trans (h2.mono n.below.size)⟩, rfl⟩⟩
theorem seen_Word (l : List UInt8) (k : Int) (hl : Hid (l.length = 32)) (W : World) (n : Seen W) : Calls Tryd.prog 16 #[.agg (keyA l), .int .i64 k] n.val fun e w'' => e = .returned (.int .u32 (wordAt l (4 * (k % 8).toNat))) ∧ ∃ m : Seen W, w'' = m.val :=
  (sha_Word l k n.val hl).mono fun _ w'' ⟨h1, h2⟩ => ⟨h1, ⟨⟨w'', n.below.trans (h2.mono n.below.size)⟩, rfl⟩⟩
theorem seen_refWord (l : List UInt8) (k : Int) (hl : Hid (l.length = 32)) (h1 : -9223372036854775808 ≤ k) (h2 : k ≤ 9223372036854775807) (W : World) (n : Seen W) : Calls Tryd.prog 17 #[.agg (keyA l), .int .i64 k] n.val fun e w'' => e = .returned (.int .u32 (wordAt l (4 * (k % 8).toNat))) ∧ ∃ m : Seen W, w'' = m.val :=
  (ref_Word l k n.val hl h1 h2).mono fun _ w'' ⟨h1, h2⟩ => ⟨h1, ⟨⟨w'', n.below.trans (h2.mono n.below.size)⟩, rfl⟩⟩
/-- A key in a block of old, loaded whole. -/
theorem seen_load {W : World} {b : Nat} {l : List UInt8} (h : W.rangeAt b 0 (keyA l).toList) (hb : b < W.heap.size) (hl : l.length = 32) : ∀ n : Seen W, (Instr.loadAt 25 (.pointer (some ⟨b, 0, none⟩))).run Tryd.prog n.val = .ok (.agg (keyA l)) n.val := fun n =>
  run_loadAt_mid n.val b 0 25 (keyA l).toList _ (rangeAt_below h n.below hb) Tryd.underlying25 rfl (info25 l hl)

theorem seen_of {P : Program} {F : FuncId} {args : Array Value} {r : Value} (h : ∀ w, Calls P F args w fun e w' => e = .returned r ∧ Below w.heap.size w w') (W : World) (n : Seen W) : Calls P F args n.val fun e w'' => e = .returned r ∧ ∃ m : Seen W, w'' = m.val :=
  (h n.val).mono fun _ w'' ⟨h1, h2⟩ => ⟨h1, ⟨⟨w'', n.below.trans (h2.mono n.below.size)⟩, rfl⟩⟩
theorem held_of {P : Program} {F : FuncId} {args : Array Value} {r : Value} (h : ∀ w, Calls P F args w fun e w' => e = .returned r ∧ Below w.heap.size w w') (W w : World) (k : Below W.heap.size W w) : Calls P F args w fun e w'' => e = .returned r ∧ Below W.heap.size W w'' :=
  (h w).mono fun _ w'' ⟨h1, h2⟩ => ⟨h1, k.trans (h2.mono k.size)⟩
/-- A whole array that is loaded in a region that writes nothing that was there. -/
theorem quiet_load_mid {P : Program} {o : Oper} {a : Act} {C : World → Prop} {K : Act → Prop} (ty : TypeId) (x : Operand) (ho : o.op = .load ty x) (b off : Nat) (hx : a.eval x = .pointer (some ⟨b, off, none⟩)) (cs : List Value) (d : TypeDesc) (hS : ∀ w, C w → w.rangeAt b off cs)
    (hu : P.underlying ty = some d) (hd : d.isRow = true) (hi : (P.info? ty).map (·.size) = some cs.length) (hk : K (a.put o.dst (.agg cs.toArray))) : o.quiet P a C K :=
  ⟨_, fun w hw => by
    unfold Oper.quietAt execOp
    simp only [ho, hx, Instr.loadAt, Instr.sureAddr, Sem.run_bind, Sem.run_pure, Result.andThen_ok, run_loadVar_mid w b off ty cs d (hS w hw) hu hd hi]
    exact ⟨rfl, rfl⟩, hk⟩
theorem quiet_load_arr {P : Program} {o : Oper} {a : Act} {C : World → Prop} {K : Act → Prop} (ty : TypeId) (x : Operand) (ho : o.op = .load ty x) (b off : Nat) (hx : a.eval x = .pointer (some ⟨b, off, none⟩)) (cs : Array Value) (d : TypeDesc) (hS : ∀ w, C w → w.rangeAt b off cs.toList)
    (hu : P.underlying ty = some d) (hd : d.isRow = true) (hi : (P.info? ty).map (·.size) = some cs.toList.length) (hk : K (a.put o.dst (.agg cs))) : o.quiet P a C K :=
  quiet_load_mid ty x ho b off hx cs.toList d hS hu hd hi (by simpa using hk)
theorem seen_range {W W' : World} {b : Nat} {cs : List Value} (h : ∀ m, Below W.heap.size W m → m.rangeAt b 0 cs) (k : Below W.heap.size W W') : ∀ w, (∃ n : Seen W', w = n.val) → w.rangeAt b 0 cs := by
  rintro _ ⟨n, rfl⟩
  exact h n.val (k.trans (n.below.mono k.size))
/-- A whole array that is loaded behind a guard. -/
theorem wpList_load_arr {P : Program} {ops : Array Oper} {rest : List Oper} {op : Oper} {a : Act} {w : World} {Q : Exit → Act → World → Prop} (hw : Region.wanted op (yielded ops a.tmps) = true) (ty : TypeId) (x : Operand) (ho : op.op = .load ty x)
    (b o : Nat) (hx : a.eval x = .pointer (some ⟨b, o, none⟩)) (cs : Array Value) (d : TypeDesc) (hc : w.rangeAt b o cs.toList)
    (hu : P.underlying ty = some d) (hd : d.isRow = true) (hi : (P.info? ty).map (·.size) = some cs.toList.length)
    (h : wpList P ops Q rest (a.put op.dst (.agg cs)) w) : wpList P ops Q (op :: rest) a w :=
  wpList_step fun _ hK => by
    rw [if_pos hw]
    exact wp_load_mid ty x ho b o hx cs.toList d hc hu hd hi (hK _ _ (by simpa using h))
/-- A region that draws its order, gone through by hand: an operation that may come first, its slot named. -/
theorem held_take {P : Program} {md : Region.Mode} {ops : Array Oper} {Q : Exit → Act → World → Prop} {S : World → Prop} {fuel : Nat} {listed : Array Bool} {a : Act} {w : World} (i d : Nat) {oi : Oper} {v : Value} (hi : ops[i]? = some oi) (hd : oi.dst = some d)
    (hs : Region.noSelect ops = true) (hf : Region.free md ops listed i = true) (hr : (Region.ready md ops listed).contains i = true)
    (hQ : ∀ c a w, Q (.panic c) (a.put oi.dst v) w → Q (.panic c) a w) (hy : YieldsIf P ops S oi v a) (hS : S w)
    (h : wpAnyH P md ops Q S fuel (listed.setIfInBounds i true) (a.put (some d) v) w) : wpAnyH P md ops Q S (fuel + 1) listed a w :=
  wpAnyH_take hi hs hf hr hQ hy hS (by rw [hd]; exact h)
end Go.Proofs.YthgbjanefljjcaaDoor
