/- Texts for layer 9, put together: SixRefWrites, BloomFilter, BlockFind, BloomBits, BloomHas, BloomMake -/
import Derived.Test.YteejldddgogbkaaGreatDoorBu00
import Derived.Laws.IdiomStrings
import Derived.Test.YteejldddgogbkaaGreatDoorBu07
import Derived.Test.YteejldddgogbkaaGreatDoorBu11
import Derived.Test.YteejldddgogbkaaGreatDoorBu04
import Derived.Test.YteejldddgogbkaaGreatDoorBu01
import Derived.Deep.OwnRows
/- The document's own answers: how siloref01 writes numbers and texts. -/
set_option linter.unusedVariables false
set_option maxRecDepth 100000
namespace Go.Proofs.YteejldddgogbkaaGreatDoor
open Go.RowKit

theorem conv_one (W : World) (c : Nat) (hc : c ≤ 255) : (convert 62 9 (.slice (some ⟨W.heap.size, 0, none⟩) 1 1)).run Tryz.prog (W.alloc (.cells #[.int .u8 (c : Int)] 5)) = .ok (.string (bs [UInt8.ofNat c])) (W.alloc (.cells #[.int .u8 (c : Int)] 5)) := by
  refine run_convert_bytes_back (P := Tryz.prog) _ 62 9 5 ⟨W.heap.size, 0, none⟩ 1 [UInt8.ofNat c] Tryz.underlying62 Tryz.underlying5 Tryz.underlying9 ?_
  intro j hj
  have hj0 : j = 0 := by simpa using hj
  subst hj0
  have hn : (UInt8.ofNat c).toNat = c := toNat_ofNat (by omega)
  simp only [List.getElem_cons_zero, hn]
  exact cell_one_new W (.int .u8 (c : Int)) 5 0 _ rfl

theorem rets {a a' : ByteArray} (h : a' = a) : Ending.returned (.string a) = Ending.returned (.string a') := by rw [h]

theorem lead_tail_len {q : Nat} {t g : List UInt8} (h : lead q ++ t = g) (hg : g.length ≤ 11) : t.length ≤ 11 := by
  rw [← h, List.length_append] at hg
  omega

set_option maxHeartbeats 400000 in
theorem ref_groups (x mark : Nat) (w : World) (hx : x ≤ 9223372036854775807) (hm : mark = 64 ∨ mark = 128) :
    Calls Tryz.prog 68 #[.int .u64 x, .int .i64 mark] w fun e w' => e = .returned (.string (bs (grp x mark))) ∧ Below w.heap.size w w' := by
  have HM := Lib.hid hm
  have hm1 : (mark : Int) ≤ 128 := by omega
  have hm2 : (0 : Int) ≤ mark := by omega
  obtain ⟨c, hc⟩ : ∃ c, c = mark + x % 64 := ⟨_, rfl⟩
  have hcv : ((mark : Int) + (x : Int) % 64) = (c : Int) := by omega
  have hc1 : c ≤ 255 := by omega
  have hconv := fun W : World => conv_one W c hc1
  have HC := Lib.hid hc
  clear hm hc
  have hlen := (grp_len (n := x) (mark := mark) (by omega)).1
  obtain ⟨g, hg⟩ : ∃ g, g = grp x mark := ⟨_, rfl⟩
  rw [← hg] at hlen ⊢
  have HL := Lib.hid hlen
  have h0 : lead (x / 64) ++ [UInt8.ofNat c] = g := by rw [hg, HC.out]; rfl
  have H0 := Lib.hid h0
  clear hlen hg h0
  go_enter Tryz.func68, Tryz.ntmps68
  go_wp2_with fail
  go_loopw [0, 5] (fun y s wr => ∃ (q : Nat) (t : List UInt8), q ≤ 9223372036854775807 ∧ y = .int .u64 q ∧ s = .string (bs t) ∧ Hid (lead q ++ t = g) ∧ Below w.heap.size w wr) (fun y s wr => (intOf y).toNat)
  case atStart => exact ⟨x / 64, [UInt8.ofNat c], by omega, by go_num, rfl, H0, (Below.refl _ _).alloc (Nat.le_refl _) _⟩
  case round =>
    obtain ⟨q, t, hq, rfl, rfl, ht, hbw⟩ := hrel
    have HB := Lib.hid hbw
    clear hbw hconv hcv hc1
    by_cases hq0 : 0 < (q : Int)
    · obtain ⟨d, hd⟩ : ∃ d, d = q % 64 := ⟨_, rfl⟩
      have hdv : ((q : Int) % 64) = (d : Int) := by omega
      have hd1 : d ≤ 255 := by omega
      have hconv := fun W : World => conv_one W d hd1
      have hcat : bs [UInt8.ofNat d] ++ bs t = bs (UInt8.ofNat d :: t) := bs_eq (by simp [bs])
      have hsum : ((bs [UInt8.ofNat d]).size : Int) + ((bs t).size : Int) ≤ 9223372036854775807 := by
        rw [bs_size, bs_size]
        have := lead_tail_len ht.out HL.out
        simp
        omega
      have HD := Lib.hid hd
      clear hd
      go_wp2
      go_roundw
      case rel =>
        refine ⟨q / 64, UInt8.ofNat d :: t, by omega, by go_num, rfl, ?_, HB.out.alloc HB.out.size _⟩
        have := ht.out
        rw [lead_pos (by omega), ← HD.out] at this
        show lead (q / 64) ++ (UInt8.ofNat d :: t) = g
        rw [← this]
        simp
      case measure => simp [intOf]; omega
    · go_wp2
      go_ret
      have hq1 : q = 0 := by omega
      have := ht.out
      rw [hq1, lead_zero, List.nil_append] at this
      exact ⟨rets (by rw [this]), HB.out⟩

set_option maxHeartbeats 400000 in
theorem ref_Whole (n : Int) (w : World) (hn1 : -9223372036854775808 ≤ n) (hn2 : n ≤ 9223372036854775807) :
    Calls Tryz.prog 33 #[.int .i64 n] w fun e w' => e = .returned (.string (bs (whole n))) ∧ Below w.heap.size w w' := by
  by_cases h0 : n < 0
  · obtain ⟨m, hm⟩ : ∃ m : Nat, -1 - n = m := ⟨(-1 - n).toNat, by omega⟩
    have hg := Lib.hid (show whole n = grp m 128 by unfold whole; rw [if_pos h0, hm]; rfl)
    have hm1 : m ≤ 9223372036854775807 := by omega
    have hv : -(n + 1) = (m : Int) := by omega
    have hv2 : IntKind.i64.wrap (n + 1) = n + 1 := IntWalk.i64_in _ (by omega)
    clear hm
    go_enter Tryz.func33, Tryz.ntmps33
    go_wp2_with fail
    refine (ref_groups m 128 w hm1 (.inr rfl)).mono ?_
    rintro e w2 ⟨rfl, k2⟩
    have K2 := Lib.hid k2
    clear k2
    go_wp2
    go_ret
    exact ⟨rets (by rw [hg.out]), K2.out⟩
  · obtain ⟨m, rfl⟩ : ∃ m : Nat, n = m := ⟨n.toNat, by omega⟩
    have hg := Lib.hid (show whole m = grp m 64 by unfold whole; rw [if_neg (by omega)]; rfl)
    go_enter Tryz.func33, Tryz.ntmps33
    go_wp2_with fail
    refine (ref_groups m 64 w (by omega) (.inl rfl)).mono ?_
    rintro e w2 ⟨rfl, k2⟩
    have K2 := Lib.hid k2
    clear k2
    go_wp2
    go_ret
    exact ⟨rets (by rw [hg.out]), K2.out⟩

set_option maxHeartbeats 400000 in
theorem ref_Text (s : ByteArray) (w : World) (hs : s.size ≤ 140737488355328) :
    Calls Tryz.prog 67 #[.string s] w fun e w' => e = .returned (.string (bs (text s.data.toList))) ∧ Below w.heap.size w w' := by
  have hl := (whole_len (n := (s.size : Int)) (by omega) (by omega)).1
  have hcat : bs (whole (s.size : Int)) ++ s = bs (text s.data.toList) := bs_eq (by unfold text; rw [← Lib.size_eq]; obtain ⟨⟨x⟩⟩ := s; simp [bs])
  have hsum : ((bs (whole (s.size : Int))).size : Int) + (s.size : Int) ≤ 9223372036854775807 := by rw [bs_size]; omega
  clear hl
  go_enter Tryz.func67, Tryz.ntmps67
  go_wp2_with fail
  refine (ref_Whole (s.size : Int) w (by omega) (by omega)).mono ?_
  rintro e w2 ⟨rfl, k2⟩
  have K2 := Lib.hid k2
  clear k2
  go_wp2
  go_ret
  exact ⟨rfl, K2.out⟩

end Go.Proofs.YteejldddgogbkaaGreatDoor
/- A filter in memory, and what only reads it: its size, its ones, its shape; a nil filter. -/
set_option linter.unusedVariables false
set_option maxRecDepth 100000
set_option maxRecDepth 100000
namespace Go.Proofs.YteejldddgogbkaaGreatDoor
open Go.RowKit

/-- In block b there is a filter with h hashes, whose bytes L are in block g. -/
structure Flt (b g h : Nat) (L : List UInt8) (w : World) : Prop where
  c0 : w.cell? ⟨b, 0, none⟩ = some (.int .i64 (h : Int))
  c1 : ∃ cap, w.cell? ⟨b, 1, none⟩ = some (.slice (some ⟨g, 0, none⟩) L.length cap)
  row : Row8 g L w
  lt : b < w.heap.size
theorem Flt.keep {b g h B : Nat} {L : List UInt8} {w w' : World} (f : Flt b g h L w) (k : Below B w w') (hb : b < B) (hg : g < B) : Flt b g h L w' :=
  ⟨by rw [k.cell hb]; exact f.c0, by obtain ⟨cap, c⟩ := f.c1; exact ⟨cap, by rw [k.cell hb]; exact c⟩, f.row.keep k hg, Nat.lt_of_lt_of_le f.lt k.size⟩
theorem Flt.below {b g h : Nat} {L : List UInt8} {w w' : World} (f : Flt b g h L w) (k : Below w.heap.size w w') : Flt b g h L w' := f.keep k f.lt f.row.1
theorem Flt.seen {b g h : Nat} {L : List UInt8} {W : World} (f : Flt b g h L W) (n : Seen W) : Flt b g h L n.val := f.below n.below

theorem flt_size (b g m cap : Nat) (w : World) (c1 : w.cell? ⟨b, 1, none⟩ = some (.slice (some ⟨g, 0, none⟩) m cap)) (hl : m ≤ 100000000) :
    Calls Tryz.prog 90 #[.pointer (some ⟨b, 0, none⟩)] w fun e w' => e = .returned (.int .i64 ((m : Int) * 8)) ∧ w = w' := by
  go_enter Tryz.func90, Tryz.ntmps90
  go_wp2_with fail
  go_ret
  exact ⟨rfl, rfl⟩

def popTab : ByteArray := ⟨#[0, 1, 1, 2, 1, 2, 2, 3, 1, 2, 2, 3, 2, 3, 3, 4, 1, 2, 2, 3, 2, 3, 3, 4, 2, 3, 3, 4, 3, 4, 4, 5, 1, 2, 2, 3, 2, 3, 3, 4, 2, 3, 3, 4, 3, 4, 4, 5, 2, 3, 3, 4, 3, 4, 4, 5, 3, 4, 4, 5, 4, 5, 5, 6, 1, 2, 2, 3, 2, 3, 3, 4, 2, 3, 3, 4, 3, 4, 4, 5, 2, 3, 3, 4, 3, 4, 4, 5, 3, 4, 4, 5, 4, 5, 5, 6, 2, 3, 3, 4, 3, 4, 4, 5, 3, 4, 4, 5, 4, 5, 5, 6, 3, 4, 4, 5, 4, 5, 5, 6, 4, 5, 5, 6, 5, 6, 6, 7, 1, 2, 2, 3, 2, 3, 3, 4, 2, 3, 3, 4, 3, 4, 4, 5, 2, 3, 3, 4, 3, 4, 4, 5, 3, 4, 4, 5, 4, 5, 5, 6, 2, 3, 3, 4, 3, 4, 4, 5, 3, 4, 4, 5, 4, 5, 5, 6, 3, 4, 4, 5, 4, 5, 5, 6, 4, 5, 5, 6, 5, 6, 6, 7, 2, 3, 3, 4, 3, 4, 4, 5, 3, 4, 4, 5, 4, 5, 5, 6, 3, 4, 4, 5, 4, 5, 5, 6, 4, 5, 5, 6, 5, 6, 6, 7, 3, 4, 4, 5, 4, 5, 5, 6, 4, 5, 5, 6, 5, 6, 6, 7, 4, 5, 5, 6, 5, 6, 6, 7, 5, 6, 6, 7, 6, 7, 7, 8]⟩
theorem popTab_at : ∀ (x : Nat) (h : x < 256), (popTab[x]'(by exact h)).toNat = pop8 x := by decide +kernel
theorem popTab_ret (x : Nat) (h : x < 256) : ((pop8 x : Nat) : Int) = wrap64 ((popTab[x]'(by exact h)).toNat : Int) := by
  rw [popTab_at x h]
  have : pop8 x ≤ 8 := by unfold pop8; omega
  unfold wrap64
  omega

theorem flt_pack_nil (w : World) : Calls Tryz.prog 28 #[.pointer none] w fun e w' => e = .returned (.string (bs [])) ∧ w = w' := by
  go_enter Tryz.func28, Tryz.ntmps28
  go_wp2_with fail
  go_ret
  exact ⟨rfl, rfl⟩
end Go.Proofs.YteejldddgogbkaaGreatDoor
/- The program's Find. -/
set_option linter.unusedVariables false
set_option maxRecDepth 100000
set_option maxRecDepth 100000
namespace Go.Proofs.YteejldddgogbkaaGreatDoor
open Go.RowKit

/-- A variable that holds a slice. -/
def BxS (c : Nat) (v : Value) (w : World) : Prop := w.heap[c]? = some (.cells #[v] 22 (0, 0))
set_option maxHeartbeats 1000000 in
theorem find_look (b1 b2 : Nat) (a : Option Addr) (len cap : Nat) (T : List Ent) (key : List UInt8) (i : Nat) (x : Ent) (w : World) (h1 : BxS b1 (.slice a len cap) w) (h2 : Bx b2 key w) (hT : Hid (IsE w a len T)) (hi : i < len) (hx : Hid (T[i]? = some x)) :
    Calls Tryz.prog 79 #[.int .i64 (i : Int), .pointer (some ⟨b1, 0, none⟩), .pointer (some ⟨b2, 0, none⟩)] w fun e w' => e = .returned (.bool (!ltB x.key key)) ∧ Below w.heap.size w w' := by
  obtain ⟨b, off, y, rfl, hy, _, hc⟩ := hT.out.at hi
  have hxy : x = y := by have := hx.out; rw [hy] at this; injection this with this; exact this.symm
  have c0 := hc.c0
  have k1 : w.cell? ⟨b1, 0, none⟩ = some (.slice (some ⟨b, off, none⟩) len cap) := by unfold BxS at h1; simp [World.cell?, h1]
  have k2 := h2.cell
  have hlt : Op.bytesLess (bs y.key).toList (bs key).toList = ltB y.key key := by rw [Lib.toList_data, Lib.toList_data, bs_list, bs_list, ltB_less]
  rw [hxy]
  clear hxy hx hy h1 h2 hc
  obtain ⟨z, hz⟩ : ∃ z, z = ltB y.key key := ⟨_, rfl⟩
  rw [← hz] at hlt ⊢
  clear hz
  go_enter Tryz.func79, Tryz.ntmps79
  go_wp2_with fail
  go_quiet (fail)
  go_wp2_with fail
  go_ret
  exact ⟨rfl, below_drewN (Below.refl _ _) _⟩
/-- What Find answers. -/
structure FindPost (T : List Ent) (key : List UInt8) (w : World) (e : Ending) (w' : World) : Prop where
  out : ∃ r, e = .returned (.int .i64 ((r : Nat) : Int)) ∧ r ≤ T.length ∧ (∀ x, 0 < r → T[r - 1]? = some x → ltB x.key key = true) ∧ (∀ x, T[r]? = some x → ltB x.key key = false)
  bel : Below w.heap.size w w'
set_option maxHeartbeats 2000000 in
theorem find_search (b1 b2 : Nat) (a : Option Addr) (len cap : Nat) (T : List Ent) (key : List UInt8) (w : World) (h1 : BxS b1 (.slice a len cap) w) (h2 : Bx b2 key w) (hT : Hid (IsE w a len T)) (hl : len ≤ 100000) :
    Calls Tryz.prog 77 #[.int .i64 (len : Int), .func (.func 79) #[] #[.pointer (some ⟨b1, 0, none⟩), .pointer (some ⟨b2, 0, none⟩)]] w (FindPost T key w) := by
  have H1 := Lib.hid h1
  have H2 := Lib.hid h2
  clear h1 h2
  go_enter Tryz.func77, Tryz.ntmps77
  go_wp2_with fail
  go_loopw [5, 6] (fun iv jv wr => ∃ i j : Nat, i ≤ j ∧ j ≤ len ∧ iv = .int .i64 i ∧ jv = .int .i64 j ∧ Hid (∀ x, 0 < i → T[i - 1]? = some x → ltB x.key key = true) ∧ Hid (∀ x, T[j]? = some x → ltB x.key key = false) ∧ Hid (Below w.heap.size w wr)) (fun iv jv wr => (intOf jv).toNat - (intOf iv).toNat)
  case atStart => exact ⟨0, len, by omega, by omega, rfl, rfl, Lib.hid (fun x h => absurd h (by omega)), Lib.hid (fun x h => by have := (List.getElem?_eq_some_iff.1 h).1; have := hT.out.1; omega), Lib.hid (Below.refl _ _)⟩
  case round =>
    obtain ⟨i, j, hij, hj, rfl, rfl, hA, hZ, hB⟩ := hrel
    by_cases hlt : i < j
    · obtain ⟨m, hm⟩ : ∃ m, m = (i + j) / 2 := ⟨_, rfl⟩
      obtain ⟨s, hs⟩ : ∃ s : Int, s = (i : Int) + (j : Int) := ⟨_, rfl⟩
      have hs1 : IntKind.i64.wrap ((i : Int) + (j : Int)) = s := by rw [IntWalk.i64_in _ (by omega), hs]
      have hm1 : s / 2 = (m : Int) := by omega
      have hmi : i ≤ m := by omega
      have hmj : m < j := by omega
      have hml : m < len := by omega
      have hs0 : 0 ≤ s := by omega
      have hs2 : s ≤ 200000 := by omega
      have hs3 : (i : Int) + (j : Int) = s := hs.symm
      obtain ⟨x, hx⟩ : ∃ x, T[m]? = some x := ⟨_, List.getElem?_eq_getElem (by have := hT.out.1; omega)⟩
      have HL := Lib.hid (find_look b1 b2 a len cap T key m x wr ((hB.out.block b1 (heap_lt H1.out)).trans H1.out) ((hB.out.block b2 (heap_lt H2.out)).trans H2.out) (Lib.hid (hT.out.below hB.out)) hml (Lib.hid hx))
      have HX := Lib.hid hx
      have HM := Lib.hid (And.intro hmi hmj)
      clear hs hm hx
      cases hc : ltB x.key key with
      | true =>
        rw [hc, Bool.not_true] at HL
        have HC := Lib.hid hc
        clear hc
        go_wp2_with fail
        refine HL.out.mono ?_
        rintro e w2 ⟨rfl, k2⟩
        have HB2 := Lib.hid (hB.out.trans (k2.mono hB.out.size))
        clear k2
        go_wp2_with fail
        go_roundw
        case rel => exact ⟨m + 1, j, by omega, hj, by go_num, rfl, Lib.hid (fun y _ hy => by rw [Nat.add_sub_cancel, HX.out] at hy; injection hy with hy; rw [← hy]; exact HC.out), hZ, HB2⟩
        case measure => simp [intOf]; omega
      | false =>
        rw [hc, Bool.not_false] at HL
        have HC := Lib.hid hc
        clear hc
        go_wp2_with fail
        refine HL.out.mono ?_
        rintro e w2 ⟨rfl, k2⟩
        have HB2 := Lib.hid (hB.out.trans (k2.mono hB.out.size))
        clear k2
        go_wp2_with fail
        go_roundw
        case rel => exact ⟨i, m, hmi, by omega, rfl, rfl, hA, Lib.hid (fun y hy => by rw [HX.out] at hy; injection hy with hy; rw [← hy]; exact HC.out), HB2⟩
        case measure => simp [intOf]; omega
    · obtain rfl : i = j := by omega
      go_wp2_with fail
      go_ret
      exact ⟨⟨i, rfl, by have := hT.out.1; omega, hA.out, hZ.out⟩, hB.out⟩
theorem block_Find (a : Option Addr) (len cap : Nat) (T : List Ent) (key : List UInt8) (w : World) (hT : Hid (IsE w a len T)) (hl : len ≤ 100000) :
    Calls Tryz.prog 50 #[.slice a len cap, .string (bs key)] w (FindPost T key w) := by
  obtain ⟨w0, hw0⟩ : ∃ w0, (w.alloc (.cells #[.slice a len cap] 22)).alloc (.cells #[.string (bs key)] 9) = w0 := ⟨_, rfl⟩
  have K0 := Lib.hid (show Below w.heap.size w w0 by rw [← hw0]; exact ((Below.refl _ _).alloc (Nat.le_refl _) _).alloc (by simp) _)
  have S0 := Lib.hid (show BxS w.heap.size (.slice a len cap) w0 by rw [← hw0]; exact (Below.heap_alloc _ _ _ (by simp)).trans (heap_new w _))
  have S1 := Lib.hid (show Bx (w.heap.size + 1) key w0 by
    have h := heap_new (w.alloc (.cells #[.slice a len cap] 22)) (.cells #[.string (bs key)] 9)
    rw [show (w.alloc (.cells #[.slice a len cap] 22)).heap.size = w.heap.size + 1 by simp] at h
    rw [← hw0]; exact h)
  have HS := Lib.hid (find_search w.heap.size (w.heap.size + 1) a len cap T key w0 S0.out S1.out (Lib.hid (hT.out.below K0.out)) hl)
  have c0 : w0.cell? ⟨w.heap.size, 0, none⟩ = some (.slice a len cap) := by have := S0.out; unfold BxS at this; simp [World.cell?, this]
  have HW0 := Lib.hid hw0
  clear hw0
  go_enter Tryz.func50, Tryz.ntmps50
  go_upto_region 1 with (fail)
  rw [HW0.out]
  go_wp2_with fail
  refine HS.out.mono ?_
  rintro e w1 ⟨⟨r, rfl, hr⟩, k1⟩
  go_wp2_with fail
  go_ret
  exact ⟨⟨r, rfl, hr⟩, K0.out.trans (k1.mono K0.out.size)⟩
/-- In rising entries it is the place. -/
theorem find_place {T : List Ent} {key : List UInt8} (hT : rises T) {r : Nat} (h1 : r ≤ T.length) (h2 : ∀ x, 0 < r → T[r - 1]? = some x → ltB x.key key = true) (h3 : ∀ x, T[r]? = some x → ltB x.key key = false) : place key T = r := by
  refine place_of hT h1 (fun i x hi hx => ?_) (fun i x hi hx => ?_)
  · obtain ⟨y, hy⟩ : ∃ y, T[r - 1]? = some y := ⟨_, List.getElem?_eq_getElem (by omega)⟩
    have hy2 := h2 y (by omega) hy
    by_cases e : i = r - 1
    · subst e
      rw [hx] at hy
      injection hy with hy
      rw [hy]
      exact hy2
    · exact ltB_trans (rises_at hT i (r - 1) x y (by omega) hx hy) hy2
  · by_cases e : i = r
    · subst e
      exact h3 x hx
    · have hil := (List.getElem?_eq_some_iff.1 hx).1
      obtain ⟨y, hy⟩ : ∃ y, T[r]? = some y := ⟨_, List.getElem?_eq_getElem (by omega)⟩
      have hyx := rises_at hT r i y x (by omega) hy hx
      have hyf := h3 y hy
      cases hb : ltB x.key key with
      | false => rfl
      | true => rw [ltB_trans hyx hb] at hyf; cases hyf
end Go.Proofs.YteejldddgogbkaaGreatDoor
/- The numbers of a key's bits, one by one: the iterator's contract. -/
set_option linter.unusedVariables false
set_option maxRecDepth 100000
set_option maxRecDepth 100000
namespace Go.Proofs.YteejldddgogbkaaGreatDoor
open Go.RowKit

abbrev Num (N : Nat) := { x : Nat // x < N }
def nosF (h N : Nat) (hN : 0 < N) (k : List UInt8) : List (Num N) := (List.range h).map fun i => ⟨wordAt (digest k) (4 * i) % N, Nat.mod_lt _ hN⟩
theorem nosF_succ (h N : Nat) (hN : 0 < N) (k : List UInt8) : nosF (h + 1) N hN k = nosF h N hN k ++ [⟨wordAt (digest k) (4 * h) % N, Nat.mod_lt _ hN⟩] := by simp [nosF, List.range_succ]
theorem nosF_len (h N : Nat) (hN : 0 < N) (k : List UInt8) : (nosF h N hN k).length = h := by simp [nosF]
theorem nosF_val (h N : Nat) (hN : 0 < N) (k : List UInt8) : (nosF h N hN k).map (·.1) = nos h N k := by simp [nosF, nos]
theorem nosF_zero (N : Nat) (hN : 0 < N) (k : List UInt8) : nosF 0 N hN k = [] := rfl
theorem grown_of_below {W W' : World} (h : Below W.heap.size W W') : W.grownBy W' none := ⟨h.os, h.tape, h.output, h.size, fun j hj _ => h.block j hj⟩
theorem digest_len' (l : List UInt8) : (digest l).length = 32 := keyOf_len _

theorem flt_bitsOf (b : Nat) (s : ByteArray) (w : World) : Calls Tryz.prog 63 #[.pointer (some ⟨b, 0, none⟩), .string s] w fun e w' => e = .returned (.func (.func 87) #[] #[.pointer (some ⟨w.heap.size + 1, 0, none⟩), .pointer (some ⟨w.heap.size, 0, none⟩)]) ∧ (w.alloc (.cells #[.pointer (some ⟨b, 0, none⟩)] 73)).alloc (.cells #[.string s] 9) = w' := by
  go_enter Tryz.func63, Tryz.ntmps63
  go_wp2_with fail
  go_ret
  exact ⟨rfl, rfl⟩

set_option maxHeartbeats 2000000 in
theorem bits_in (n l kb fb b g h m cap X N : Nat) (hN : 0 < N) (key : List UInt8) (J Jx : List (Num N) → World → Prop) (W : World)
    (hNm : Hid (N = m * 8)) (hJ : Hid (AbidesFrom W.heap.size J))
    (hY : Hid (∀ pre (x : Num N) W1, J pre W1 → pre.length < h → YieldAt Fence.wide (n - 1) Tryz.prog l #[.int .i64 (x.1 : Int)] W1 fun e W' =>
      (e = .returned (.bool true) ∧ J (pre ++ [x]) W' ∧ KeepsCells X W1 W') ∨ (e = .returned (.bool false) ∧ Jx (pre ++ [x]) W')))
    (ck : W.cell? ⟨kb, 0, none⟩ = some (.string (bs key))) (cf : Hid (W.cell? ⟨fb, 0, none⟩ = some (.pointer (some ⟨b, 0, none⟩)))) (c0 : Hid (W.cell? ⟨b, 0, none⟩ = some (.int .i64 (h : Int)))) (c1 : Hid (W.cell? ⟨b, 1, none⟩ = some (.slice (some ⟨g, 0, none⟩) m cap)))
    (hg : Hid (Glob W)) (hX : Hid (fb ≠ X ∧ b ≠ X ∧ X < W.heap.size)) (hk : Hid (key.length ≤ 900000)) (hh : h ≤ 8) (hm : m ≤ 100000000) (h0 : Hid (J [] W)) :
    Calls Tryz.prog 87 #[.func (.yield l) #[] #[], .pointer (some ⟨kb, 0, none⟩), .pointer (some ⟨fb, 0, none⟩)] W fun e W' => (∃ v, e = .returned v) ∧
      ((∃ xs, xs = nosF h N hN key ∧ J xs W') ∨ (∃ pre, (∃ k, k ≤ h ∧ pre = nosF k N hN key) ∧ Jx pre W')) := by
  have hrow := Lib.hid (row_new W [bs key] 9)
  have hk1 := Lib.hid ((Below.refl W.heap.size W).alloc (Nat.le_refl _) (.cells (([bs key] : List ByteArray).map Value.string).toArray 9))
  have hg1 := Lib.hid (hg.out.keep hk1.out hg.out.1)
  have hjo := Lib.hid (show joined [bs key] = key by simp [joined, bs_list])
  go_enter Tryz.func87, Tryz.ntmps87
  go_wp2_with fail
  refine (sha_Sum (some ⟨W.heap.size, 0, none⟩) W.heap.size 0 1 1 [bs key] _ (Lib.hid rfl) (by omega) hrow (Lib.hid (by rw [hjo.out]; exact hk.out)) (Lib.hid (.inr rfl)) hg1).mono ?_
  rintro e w1 ⟨rfl, k1⟩
  rw [hjo.out]
  have K1 := Lib.hid (hk1.out.trans (k1.mono hk1.out.size))
  clear k1
  obtain ⟨ka, hka⟩ : ∃ x, x = keyA (digest key) := ⟨_, rfl⟩
  rw [← hka]
  have HIA := Lib.hid (show (Tryz.prog.info? 145).map (·.size) = some ka.toList.length by rw [hka]; exact info25 _ (digest_len' _))
  have HIS := Lib.hid (show (Tryz.prog.info? 145).map (·.size) = some ka.size by rw [hka]; exact info25s _ (digest_len' _))
  have HON := Lib.hid (show ka.all (·.oneCell') = true by rw [hka]; exact keyA_one _)
  have HTH := Lib.hid (show (w1.alloc (.cells (Array.replicate 32 (.int .u8 0)) 145)).there w1.heap.size 0 ka.size by
    rw [hka, keyA_size, digest_len']
    exact key_there (key8_new w1 145))
  have HKA := Lib.hid hka
  clear hka
  obtain ⟨W3, hW3⟩ : ∃ W3, W3 = (w1.alloc (.cells (Array.replicate 32 (.int .u8 0)) 145)).setCells w1.heap.size 0 ka.toList := ⟨_, rfl⟩
  have K3 := Lib.hid (show Below w1.heap.size w1 W3 by rw [hW3]; exact below_setCells (Nat.le_refl _) _ _ ((Below.refl _ w1).alloc (Nat.le_refl _) _))
  have KW := Lib.hid (K1.out.trans (K3.out.mono K1.out.size))
  have HR := Lib.hid (show W3.rangeAt w1.heap.size 0 ka.toList by rw [hW3]; exact World.rangeAt_setCells_same _ _ _ _ (by simpa using HTH.out))
  have D3 := Lib.hid (show W.heap.size ≤ w1.heap.size ∧ w1.heap.size < W3.heap.size from ⟨K1.out.size, by have := K3.out.size; rw [hW3]; have h2 := (below_setCells (Nat.le_refl w1.heap.size) ka.toList 0 ((Below.refl w1.heap.size (w1.alloc (.cells (Array.replicate 32 (.int .u8 0)) 145))))).size; simp at h2; omega⟩)
  have HW3 := Lib.hid hW3
  clear hW3
  go_upto_region 1 with (first | (refine wpList_store_mid rfl 145 (.tmp 4) (.tmp 8) rfl w1.heap.size 0 ka rfl rfl HTH.out HIS.out HON.out ?_))
  change Code.wp _ _ _ _ ((w1.alloc (.cells (Array.replicate 32 (.int .u8 0)) 145)).setCells w1.heap.size 0 ka.toList)
  rw [← HW3.out]
  obtain ⟨D, hD⟩ : ∃ D, D = w1.heap.size := ⟨_, rfl⟩
  rw [← hD] at HR D3 ⊢
  clear hD K3 K1 HTH HIS HON HW3
  have hfb : fb < W.heap.size := cell_block cf.out
  have hbb : b < W.heap.size := cell_block c0.out
  have cf3 : W3.cell? ⟨fb, 0, none⟩ = some (.pointer (some ⟨b, 0, none⟩)) := by rw [KW.out.cell hfb]; exact cf.out
  have c03 : W3.cell? ⟨b, 0, none⟩ = some (.int .i64 (h : Int)) := by rw [KW.out.cell hbb]; exact c0.out
  have c13 := Lib.hid (show W3.cell? ⟨b, 1, none⟩ = some (.slice (some ⟨g, 0, none⟩) m cap) by rw [KW.out.cell hbb]; exact c1.out)
  have HJ3 := Lib.hid (hJ.out [] W W3 none h0.out (grown_of_below KW.out) (fun r e => by cases e))
  have Hcf3 := Lib.hid cf3
  go_frame
  go_wp2_with fail
  clear cf3 c03
  go_loopw [13] (fun vi wr => ∃ k : Nat, k ≤ h ∧ vi = .int .i64 k ∧ Hid (J (nosF k N hN key) wr) ∧ Hid (KeepsCells X W3 wr)) (fun vi wr => h - (intOf vi).toNat)
  case atStart => exact ⟨0, by omega, rfl, HJ3, Lib.hid (KeepsCells.refl _ _)⟩
  case round =>
    obtain ⟨k, hkh, rfl, hJs, hkc⟩ := hrel
    rcases Nat.lt_or_ge k h with hlt | hge
    · have HRr := Lib.hid (show wr.rangeAt D 0 ka.toList from fun j v hj => by
        have := HR.out j v hj
        exact hkc.out.cell (by have := D3.out; have := hX.out.2.2; omega) this)
      have Hcf := Lib.hid (hkc.out.cell hX.out.1 Hcf3.out)
      have Hc1 := Lib.hid (hkc.out.cell hX.out.2.1 c13.out)
      have HDlt := Lib.hid (show D < wr.heap.size from Nat.lt_of_lt_of_le D3.out.2 hkc.out.size)
      go_wp2_with fail
      obtain ⟨x, hx⟩ : ∃ x, x = wordAt (digest key) (4 * k) := ⟨_, rfl⟩
      have hx32 : x < 4294967296 := by rw [hx]; exact wordAt_lt _ _
      obtain ⟨y, hy0⟩ : ∃ y : Num N, y = ⟨wordAt (digest key) (4 * k) % N, Nat.mod_lt _ hN⟩ := ⟨_, rfl⟩
      have HNX := Lib.hid (show nosF (k + 1) N hN key = nosF k N hN key ++ [y] by rw [nosF_succ, hy0])
      have hrem : (x : Int).tmod ((m : Int) * 8) = (y.1 : Int) := by
        rw [hy0, hx]
        show _ = (((wordAt (digest key) (4 * k) % N : Nat)) : Int)
        rw [hNm.out, Int.tmod_eq_emod_of_nonneg (by omega), Int.natCast_emod, Int.natCast_mul]
        rfl
      have hm0 : ¬ ((m : Int) * 8 = 0) := by have := hNm.out; omega
      have hwx : wrap64 (x : Int) = (x : Int) := by unfold wrap64; omega
      obtain ⟨XI, hXI⟩ : ∃ XI : Int, XI = (x : Int) := ⟨_, rfl⟩
      rw [← hXI] at hrem hwx
      have hk8 : ((k : Int) % 8).toNat = k := by omega
      have HWD := Lib.hid (fun (W : World) (n : Seen W) => by have h := seen_of (sha_Word (digest key) (k : Int) · (Lib.hid (digest_len' key))) W n; rw [hk8, ← hx, ← hXI, ← HKA.out] at h; exact h)
      have HSZ := Lib.hid (fun (n : Seen wr) => (flt_size b g m cap n.val (by rw [n.below.cell (cell_block Hc1.out)]; exact Hc1.out) hm).mono (R' := fun e w'' => e = .returned (.int .i64 ((m : Int) * 8)) ∧ ∃ m : Seen wr, w'' = m.val) fun _ w'' ⟨h1, h2⟩ => ⟨h1, ⟨n, h2.symm⟩⟩)
      have hfbr : ∀ n : Seen wr, n.val.cell? ⟨fb, 0, none⟩ = some (.pointer (some ⟨b, 0, none⟩)) := fun n => by rw [n.below.cell (cell_block Hcf.out)]; exact Hcf.out
      have HJn := Lib.hid (fun n : Seen wr => hJ.out _ wr n.val none hJs.out (grown_of_below n.below) (fun r e => by cases e))
      have HKn := Lib.hid (fun n : Seen wr => hkc.out.trans (KeepsCells.of_below (X := X) n.below))
      clear hx hy0 hk8 hXI hx32
      refine (wpIn_wide (n := n)).1 ?_
      refine wpIn_region_seen_tail 8 (by kernel_rfl) (by kernel_rfl) ?_
      simp only [List.take_succ_cons, List.take_zero, List.drop_succ_cons, List.drop_zero]
      go_big_quiet_step (fail)
      (go_big_quiet_want; refine quiet_load_arr 145 (.tmp 4) rfl D 0 rfl ka _ (seen_at HRr.out HDlt.out) Tryz.underlying145 rfl HIA.out ?_; go_big_quiet_on; try go_frame)
      go_big_quiet_step (fail)
      go_big_quiet_step (first | (go_at_call 89; with_reducible exact HWD.out _ _))
      go_big_quiet_step (fail)
      go_big_quiet_step (fail)
      go_big_quiet_step (first | (go_at_call 90; with_reducible exact HSZ.out _))
      go_big_quiet_step (fail)
      refine wpQuiet_nil ?_
      rintro _ ⟨m1, rfl⟩
      obtain ⟨fn, tm, asg, bdy, hy, hR⟩ := hY.out (nosF k N hN key) y m1.val (HJn.out m1) (by rw [nosF_len]; exact hlt)
      gi_wp2
      refine ⟨fun h => by simp [Fence.wide] at h, hR.mono ?_⟩
      rintro e W5 (⟨rfl, hJ5, hk5⟩ | ⟨rfl, hx5⟩)
      · gi_wp2
        go_wp2_with fail
        go_roundw
        case rel => exact ⟨k + 1, by omega, by go_num, Lib.hid (by rw [HNX.out]; exact hJ5), Lib.hid ((HKn.out m1).trans hk5)⟩
        case measure => simp [intOf]; omega
      · gi_wp2
        go_wp2_with fail
        refine bodyPost_ret (results_none rfl _ _ _) rfl ?_
        exact ⟨⟨_, rfl⟩, .inr ⟨_, ⟨k + 1, by omega, HNX.out.symm⟩, hx5⟩⟩
    · obtain rfl : k = h := by omega
      go_wp2_with fail
      go_end0
      exact ⟨⟨_, rfl⟩, .inl ⟨_, rfl, hJs.out⟩⟩
end Go.Proofs.YteejldddgogbkaaGreatDoor
/- Has: whether all bits of a key are 1. -/
set_option linter.unusedVariables false
set_option maxRecDepth 100000
set_option maxRecDepth 100000
namespace Go.Proofs.YteejldddgogbkaaGreatDoor
open Go.RowKit Go.Shelf
attribute [local go_sem] Oper.semAt_some

/-- THE ITERATOR'S CONTRACT. -/
theorem bits_stops (n kb fb b g h m cap X N : Nat) (hN : 0 < N) (key : List UInt8) (w : World) (hNm : Hid (N = m * 8))
    (ck : w.cell? ⟨kb, 0, none⟩ = some (.string (bs key))) (cf : Hid (w.cell? ⟨fb, 0, none⟩ = some (.pointer (some ⟨b, 0, none⟩)))) (c0 : Hid (w.cell? ⟨b, 0, none⟩ = some (.int .i64 (h : Int)))) (c1 : Hid (w.cell? ⟨b, 1, none⟩ = some (.slice (some ⟨g, 0, none⟩) m cap)))
    (hg : Hid (Glob w)) (hX : Hid (fb ≠ X ∧ b ≠ X ∧ X < w.heap.size)) (hk : Hid (key.length ≤ 900000)) (hh : h ≤ 8) (hm : m ≤ 100000000) :
    SeqStopsK Fence.wide n Tryz.prog 87 #[.pointer (some ⟨kb, 0, none⟩), .pointer (some ⟨fb, 0, none⟩)] (fun x : Num N => #[Value.int .i64 (x.1 : Int)]) (KeepsCells X) (fun xs => xs = nosF h N hN key) (fun pre => ∃ k, k ≤ h ∧ pre = nosF k N hN key) h w := fun l J Jx W hW hJ hJx hY h0 =>
  callsIn_wide.2 (bits_in n l kb fb b g h m cap X N hN key J Jx W hNm (Lib.hid hJ) (Lib.hid hY) (by rw [hW.cell (cell_block ck)]; exact ck) (Lib.hid (by rw [hW.cell (cell_block cf.out)]; exact cf.out)) (Lib.hid (by rw [hW.cell (cell_block c0.out)]; exact c0.out)) (Lib.hid (by rw [hW.cell (cell_block c1.out)]; exact c1.out))
    (Lib.hid (hg.out.keep hW hg.out.1)) (Lib.hid ⟨hX.out.1, hX.out.2.1, Nat.lt_of_lt_of_le hX.out.2.2 hW.size⟩) hk hh hm (Lib.hid h0))

theorem has_pre (h N : Nat) (hN : 0 < N) (f : Nat → Bool) (k : List UInt8) : hasB h N f k = (nosF h N hN k).all fun x => f x.1 := by
  unfold hasB
  rw [← nosF_val h N hN k, List.all_map]
  rfl

theorem and_bit (c r : Nat) (hc : c < 256) : bits .and .u8 ((c : Int) / 2 ^ r) 1 = ((c / 2 ^ r % 2 : Nat) : Int) := by
  have h1 : c / 2 ^ r < 256 := Nat.lt_of_le_of_lt (Nat.div_le_self _ _) hc
  have h2 : (c : Int) / 2 ^ r = ((c / 2 ^ r : Nat) : Int) := by rw [Int.natCast_ediv, Int.natCast_pow]; rfl
  rw [h2, show (1 : Int) = ((1 : Nat) : Int) from rfl, u8_and_nat _ _ h1 (by omega), Nat.and_one_is_mod]
theorem flt_has_nil (s : ByteArray) (w : World) : Calls Tryz.prog 47 #[.pointer none, .string s] w fun e w' => e = .returned (.bool false) ∧ Below w.heap.size w w' := by
  refine (callsIn_wide (n := 5)).1 ?_
  refine callsIn_of_wp_marks Tryz.func47 rfl trivial ?_ rfl
  simp only [Tryz.ntmps47, List.size_toArray, List.length_cons, List.length_nil, Nat.reduceAdd, Nat.reduceSub, Array.replicate_succ, Array.replicate_zero, List.push_toArray, List.append_toArray, List.nil_append, List.cons_append]
  gi_wp2
  have hb : Below w.heap.size w ((w.alloc (.cells #[.pointer none] 73)).alloc (.cells #[.bool false] 4)) := ((Below.refl _ w).alloc (Nat.le_refl _) _).alloc (by simp) _
  have hc := box_new (w.alloc (.cells #[.pointer none] 73)) (.bool false) 4
  simp only [World.size_alloc] at hc
  refine ⟨.bool false, ?_, rfl, hb⟩
  simp [results, Tryz.f47, go_sem, hc]

set_option maxHeartbeats 2000000 in
theorem flt_has (b g h m N : Nat) (L key : List UInt8) (w : World) (hf : Hid (Flt b g h L w)) (hg : Hid (Glob w)) (hml : Hid (m = L.length)) (hm : m ≤ 100000000) (hNm : Hid (N = m * 8)) (hN : 0 < N) (hh : h ≤ 8) (hk : Hid (key.length ≤ 900000)) :
    Calls Tryz.prog 47 #[.pointer (some ⟨b, 0, none⟩), .string (bs key)] w fun e w' => e = .returned (.bool (hasB h N (bitAt L) key)) ∧ Below w.heap.size w w' := by
  obtain ⟨cap, hc1⟩ := hf.out.c1
  rw [← hml.out] at hc1
  obtain ⟨Z, hZ⟩ : ∃ Z, Z = w.heap.size := ⟨_, rfl⟩
  obtain ⟨w2, hw2⟩ : ∃ w2, w2 = (((w.alloc (.cells #[.pointer (some ⟨b, 0, none⟩)] 73)).alloc (.cells #[.bool false] 4)).alloc (.cells #[.pointer (some ⟨b, 0, none⟩)] 73)).alloc (.cells #[.string (bs key)] 9) := ⟨_, rfl⟩
  have B2 := Lib.hid (show Below w.heap.size w w2 by rw [hw2]; exact ((((Below.refl _ w).alloc (Nat.le_refl _) _).alloc (by simp) _).alloc (by simp; omega) _).alloc (by simp; omega) _)
  have S2 := Lib.hid (show w2.heap.size = Z + 1 + 1 + 1 + 1 by rw [hw2, hZ]; simp)
  have d0 := box_new w (.pointer (some ⟨b, 0, none⟩)) 73
  have d1 := box_new (w.alloc (.cells #[.pointer (some ⟨b, 0, none⟩)] 73)) (.bool false) 4
  have d1f := box_free (w.alloc (.cells #[.pointer (some ⟨b, 0, none⟩)] 73)) (.bool false) 4
  have d2 := box_new ((w.alloc (.cells #[.pointer (some ⟨b, 0, none⟩)] 73)).alloc (.cells #[.bool false] 4)) (.pointer (some ⟨b, 0, none⟩)) 73
  have d3 := box_new (((w.alloc (.cells #[.pointer (some ⟨b, 0, none⟩)] 73)).alloc (.cells #[.bool false] 4)).alloc (.cells #[.pointer (some ⟨b, 0, none⟩)] 73)) (.string (bs key)) 9
  simp only [World.size_alloc, ← hZ] at d0 d1 d1f d2 d3
  have e0 := Lib.hid (show w2.cell? ⟨Z, 0, none⟩ = some (.pointer (some ⟨b, 0, none⟩)) by rw [hw2]; exact cell_on _ (cell_on _ (cell_on _ d0)))
  have e1 := Lib.hid (show w2.cell? ⟨Z + 1, 0, none⟩ = some (.bool false) ∧ w2.frozen? ⟨Z + 1, 0, none⟩ = false by rw [hw2]; exact ⟨cell_on _ (cell_on _ d1), free_on _ (cell_on _ d1) (free_on _ d1 d1f)⟩)
  have e2 := Lib.hid (show w2.cell? ⟨Z + 1 + 1, 0, none⟩ = some (.pointer (some ⟨b, 0, none⟩)) by rw [hw2]; exact cell_on _ d2)
  have e3 := Lib.hid (show w2.cell? ⟨Z + 1 + 1 + 1, 0, none⟩ = some (.string (bs key)) by rw [hw2]; exact d3)
  have F2 := Lib.hid (hf.out.below B2.out)
  have hlt := Lib.hid (show b < Z ∧ g < Z by rw [hZ]; exact ⟨hf.out.lt, hf.out.row.1⟩)
  have G2 := Lib.hid (hg.out.keep B2.out hg.out.1)
  have C1 := Lib.hid (show w2.cell? ⟨b, 1, none⟩ = some (.slice (some ⟨g, 0, none⟩) m cap) by rw [B2.out.cell hf.out.lt]; exact hc1)
  have Hw2 := Lib.hid hw2
  have HZ := Lib.hid hZ
  clear d0 d1 d1f d2 d3 hw2 hc1 hZ
  refine (callsIn_wide (n := 5)).1 ?_
  refine callsIn_of_wp_marks Tryz.func47 rfl trivial ?_ rfl
  simp only [Tryz.ntmps47, List.size_toArray, List.length_cons, List.length_nil, Nat.reduceAdd, Nat.reduceSub, Array.replicate_succ, Array.replicate_zero, List.push_toArray, List.append_toArray, List.nil_append, List.cons_append]
  gi_wp2_with (refine ⟨trivial, ?_⟩; gi_at_call 63; refine (callsIn_wide.2 (flt_bitsOf b (bs key) _)).mono ?_; rintro e w' ⟨rfl, rfl⟩)
  rw [← Hw2.out, ← HZ.out]
  have hX := Lib.hid (show Z + 1 + 1 ≠ Z + 1 ∧ b ≠ Z + 1 ∧ Z + 1 < w2.heap.size from ⟨by omega, by have := hlt.out; omega, by rw [S2.out]; omega⟩)
  refine wpIn_rangeFunc_ownF (α := Num N) rfl (by omega) (gf := 87) (lb := #[.pointer (some ⟨Z + 1 + 1 + 1, 0, none⟩), .pointer (some ⟨Z + 1 + 1, 0, none⟩)]) rfl trivial (enters_of Tryz.func87 (by kernel_rfl) rfl)
    (bits_stops _ (Z + 1 + 1 + 1) (Z + 1 + 1) b g h m cap (Z + 1) N hN key w2 hNm e3.out e2 (Lib.hid F2.out.c0) C1 G2 hX hk hh hm) KeepsCells.trans (fun W l o o' _ h1 h2 _ => KeepsCells.putObj W l o o' h1 h2) (Below.refl _ _) (fun _ => rfl)
    (fun pre W => (((∀ y ∈ pre, bitAt L y.1 = true) ∧ W.cell? ⟨Z + 1, 0, none⟩ = some (.bool false) ∧ W.frozen? ⟨Z + 1, 0, none⟩ = false) ∧ KeepsCells (Z + 1) w2 W) ∧ Below Z w W)
    (fun c pre W => (c = .ret ∧ (∃ y ∈ pre, bitAt L y.1 = false) ∧ W.cell? ⟨Z + 1, 0, none⟩ = some (.bool false)) ∧ Below Z w W)
    (OwnFrom.and (OwnFrom.and (Own.from (fun s A B row hs hg hr => ⟨hs.1, cell_kept hs.2.1 hg hr, (frozen_kept hs.2.1 hg hr).trans hs.2.2⟩) _) (keeps_own _ _ _)) (ownFrom_below (by rw [HZ.out]; exact Nat.le_refl _) (by rw [S2.out]; omega)))
    (fun c => OwnFrom.and (Own.from (fun s A B row hs hg hr => ⟨hs.1, hs.2.1, cell_kept hs.2.2 hg hr⟩) _) (ownFrom_below (by rw [HZ.out]; exact Nat.le_refl _) (by rw [S2.out]; omega)))
    ⟨⟨⟨by simp, e1.out⟩, KeepsCells.refl _ _⟩, by rw [HZ.out]; exact B2.out⟩
    (fun x => { tmps := #[.pointer (some ⟨b, 0, none⟩), .string (bs key), .pointer (some ⟨Z, 0, none⟩), undef, .pointer (some ⟨Z + 1, 0, none⟩), .int .i64 (x.1 : Int), .pointer (some ⟨b, 0, none⟩), .bool false, .pointer (some ⟨b, 0, none⟩), .string (bs key), .func (.func 87) #[] #[.pointer (some ⟨Z + 1 + 1 + 1, 0, none⟩), .pointer (some ⟨Z + 1 + 1, 0, none⟩)], .int .i64 (x.1 : Int), undef, undef, undef, undef, undef, undef, undef, undef, undef, undef, undef, undef, undef], defers := [] }) ?assign ?body ?done ?stop
  case assign =>
    intro l x W K hK
    gi_wp2
    exact hK
  case body =>
    rintro l pre x W ⟨⟨⟨hp, hcx, hfx⟩, hKC⟩, hB⟩ _
    obtain ⟨q, hq⟩ : ∃ q, q = x.1 / 8 := ⟨_, rfl⟩
    obtain ⟨r, hr⟩ : ∃ r, r = x.1 % 8 := ⟨_, rfl⟩
    obtain ⟨c, hc⟩ : ∃ c, c = byteAt L q := ⟨_, rfl⟩
    have hqm : q < m := by have := x.2; have := hNm.out; omega
    have hr8 : r < 8 := by omega
    have hc256 : c < 256 := by rw [hc]; exact byteAt_lt _ _
    have hquo : ((x.1 : Nat) : Int).tdiv 8 = (q : Int) := by rw [Int.tdiv_eq_ediv_of_nonneg (by omega)]; omega
    have hrem : ((x.1 : Nat) : Int).tmod 8 = (r : Int) := by rw [Int.tmod_eq_emod_of_nonneg (by omega)]; omega
    have cZ : W.cell? ⟨Z, 0, none⟩ = some (.pointer (some ⟨b, 0, none⟩)) := hKC.cell (by omega) e0.out
    have cL : W.cell? ⟨b, 1, none⟩ = some (.slice (some ⟨g, 0, none⟩) m cap) := hKC.cell hX.out.2.1 C1.out
    have cQ : W.cell? ⟨g, q, none⟩ = some (.int .u8 (c : Int)) := by rw [hc]; exact hKC.cell (by have := hlt.out; omega) (F2.out.row.2 q (by rw [← hml.out]; exact hqm)).1
    have HB := Lib.hid (show bitAt L x.1 = (c / 2 ^ r % 2 == 1) by unfold bitAt; rw [← hq, ← hr, ← hc])
    clear hq hr hc
    gi_wp2
    · rename_i hx
      have hx' : bitAt L x.1 = false := by
        rw [HB.out]
        rw [and_bit c r hc256] at hx
        generalize c / 2 ^ r % 2 = z at *
        rcases Nat.eq_zero_or_pos z with rfl | hz
        · rfl
        · exfalso; simp at hx; omega
      exact ⟨KeepsOthers.setCell _ _ _, ⟨rfl, ⟨x, by simp, hx'⟩, World.cell?_setCell_same' _ _ _ (by rw [hcx]; rfl)⟩, hB.setCell (p := ⟨Z + 1, 0, none⟩) (by simp) _⟩
    · rename_i hx
      have hx' : bitAt L x.1 = true := by
        rw [HB.out]
        rw [and_bit c r hc256] at hx
        have hz : c / 2 ^ r % 2 < 2 := Nat.mod_lt _ (by decide)
        generalize c / 2 ^ r % 2 = z at *
        have : z = 1 := by
          rcases Nat.eq_zero_or_pos z with rfl | hz
          · exfalso; simp at hx
          · omega
        rw [this]; rfl
      exact ⟨KeepsOthers.refl _, KeepsCells.refl _ _, ⟨⟨fun y hy => by rcases List.mem_append.1 hy with h | h; (exact hp y h); (obtain rfl := List.mem_singleton.1 h; exact hx'), hcx, hfx⟩, hKC⟩, hB⟩
  case done =>
    rintro D ys W hD rfl ⟨⟨⟨hall, hcx, hfx⟩, hKC⟩, hB⟩ hK
    have hres : hasB h N (bitAt L) key = true := by rw [has_pre h N hN]; exact List.all_eq_true.2 hall
    gi_wp2
    have hK' := (KeepsOthers.setCell W ⟨Z + 1, 0, none⟩ (.bool true)).same D _ hK rfl
    refine ⟨by simp, .inl ⟨_, _, rfl, run_takeDeferred hK', ?_⟩⟩
    have hc5 := cell_kept (World.cell?_setCell_same' W ⟨Z + 1, 0, none⟩ (.bool true) (by rw [hcx]; rfl)) (grownBy_putObj' _ D (.deferred none)) (fun r e => by cases e; exact ⟨_, hK', rfl⟩)
    refine ⟨.bool true, ?_, by rw [hres], (by rw [← HZ.out]; exact (hB.setCell (p := ⟨Z + 1, 0, none⟩) (by simp) _).trans (belowK_b (w := w2) (by rw [S2.out]; omega) _ D _ _ hD hK' rfl rfl))⟩
    simp [results, Tryz.f47, go_sem, hc5]
  case stop =>
    rintro D c pre W hD ⟨k, hkh, rfl⟩ ⟨⟨rfl, ⟨y, hy, hyf⟩, hcx⟩, hB⟩ hK
    have hres : hasB h N (bitAt L) key = false := by
      rw [has_pre h N hN, List.all_eq_false]
      refine ⟨y, ?_, by simp [hyf]⟩
      simp only [nosF, List.mem_map, List.mem_range] at hy ⊢
      obtain ⟨i, hi, e⟩ := hy
      exact ⟨i, by omega, e⟩
    gi_wp2
    refine ⟨by simp, .inl ⟨_, _, rfl, run_takeDeferred hK, ?_⟩⟩
    have hc5 := cell_kept hcx (grownBy_putObj' _ D (.deferred none)) (fun r e => by cases e; exact ⟨_, hK, rfl⟩)
    refine ⟨.bool false, ?_, by rw [hres], (by rw [← HZ.out]; exact hB.trans (belowK_b (w := w2) (by rw [S2.out]; omega) W D _ _ hD hK rfl rfl))⟩
    simp [results, Tryz.f47, go_sem, hc5]
end Go.Proofs.YteejldddgogbkaaGreatDoor
/- Make: a filter of keys. -/
set_option linter.unusedVariables false
set_option maxRecDepth 100000
set_option maxRecDepth 100000
namespace Go.Proofs.YteejldddgogbkaaGreatDoor
open Go.RowKit Go.Shelf
attribute [local go_sem] Oper.semAt_some

theorem madeCells_one (z : Value) (n : Nat) : madeCells #[z] n = Array.replicate n z := by
  apply Array.ext
  · simp [madeCells]
  · intro i h1 h2
    simp [madeCells, Nat.mod_one]

theorem flt_empty (per c : Nat) (w : World) (hp1 : 1 ≤ per) (hp2 : per ≤ 32) (hc : c ≤ 65536) :
    Calls Tryz.prog 62 #[.int .i64 (per : Int), .int .i64 (c : Int)] w fun e w' => e = .returned (.pointer (some ⟨w.heap.size + 1, 0, none⟩)) ∧ w' = (w.alloc (.cells (Array.replicate (wordsOf per c * 8) (.int .u8 0)) 5)).alloc (.cells #[.int .i64 (hashesOf per : Int), .slice (some ⟨w.heap.size, 0, none⟩) (wordsOf per c * 8) (wordsOf per c * 8)] 119) := by
  obtain ⟨p, hp⟩ : ∃ p, p = per * c := ⟨_, rfl⟩
  have hpb : p ≤ 2097152 := by rw [hp]; exact Nat.mul_le_mul hp2 hc
  have hpi : (per : Int) * (c : Int) = (p : Int) := by rw [hp, Int.natCast_mul]
  obtain ⟨v, hv⟩ : ∃ v, v = (p + 63) / 64 := ⟨_, rfl⟩
  have hdv : ((p : Int) + 64 - 1) / 64 = (v : Int) := by rw [hv]; omega
  obtain ⟨k, hk⟩ : ∃ k, k = wordsOf per c * 8 := ⟨_, rfl⟩
  obtain ⟨h, hh⟩ : ∃ h, h = hashesOf per := ⟨_, rfl⟩
  have hkv : k = max v 1 * 8 := by rw [hk, hv, hp]; rfl
  have HM := Lib.hid (fun w => run_make_row' (P := Tryz.prog) 62 5 (.int .u8 0) 1 Tryz.underlying62 info5 rfl .i64 .i64 k (by omega) (by omega) w)
  obtain ⟨d, hd⟩ : ∃ d, d = per * 7 / 10 := ⟨_, rfl⟩
  have hd7 : ((per : Int) * 7) / 10 = (d : Int) := by rw [hd]; omega
  have hd22 : d ≤ 22 := by omega
  have hv0 : v ≤ 32768 := by omega
  have hhd : h = min (max d 1) 8 := by rw [hh, hd]; rfl
  rw [← hk, ← hh]
  have Hhd := Lib.hid hhd
  have Hkv := Lib.hid hkv
  clear hp hv hk hh hd hhd hkv
  go_enter Tryz.func62, Tryz.ntmps62
  have hmk : max (v : Int) 1 * 8 = (k : Int) := by have := Hkv.out; omega
  have hmh : min (max (d : Int) 1) 8 = (h : Int) := by have := Hhd.out; omega
  have hM := HM.out
  go_wp2_with fail
  go_ret
  exact ⟨rfl, by rw [← madeCells_one]⟩
end Go.Proofs.YteejldddgogbkaaGreatDoor
