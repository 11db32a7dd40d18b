
/- A part of the proof of the law MasterDoes. -/
import Derived.Test.YtlgmjnjhdamknaaGreatMem
import Derived.Test.YtlgmjnjhdamknaaGreatWords
import Derived.Laws.IdiomStrings
import Derived.Test.YtlgmjnjhdamknaaGreatMs
import Derived.Lib.AppendZerosOnto
import Derived.Lib.AppendZeros
import Derived.Lib.SliceRun
import Derived.Test.YtlgmjnjhdamknaaGreatRs2
import Derived.Shelf.Abstract
import Derived.Lib.MinMax
namespace Go.Proofs.YtlgmjnjhdamknaaGreat
open Go.RowKit

theorem conv_lies (w : World) (A : Option Addr) (n c : Nat) (l : List UInt8) (hn : l.length = n) (h : Lies u8v w A l) :
    (convert 41 9 (.slice A n c)).run Tryz.prog w = .ok (.string ⟨l.toArray⟩) w := by
  subst hn
  rcases Nat.eq_zero_or_pos l.length with h0 | h0
  · obtain rfl : l = [] := List.eq_nil_of_length_eq_zero h0
    show (convert 41 9 (.slice A 0 c)).run Tryz.prog w = _
    rw [run_convert_bytes_string w _ _ 5 A 0 c Tryz.underlying41 Tryz.underlying5 Tryz.underlying9]
    cases A <;> simp [Conv.bytesToString, loadCells]
    all_goals rfl
  · obtain ⟨b, off, rfl, _, hc⟩ := h.at_ h0
    refine run_convert_bytes_back w _ _ 5 _ c l Tryz.underlying41 Tryz.underlying5 Tryz.underlying9 fun j hj => ?_
    have hadd : (⟨b, off, none⟩ : Addr).add j = ⟨b, off + j, none⟩ := by unfold Addr.add; split <;> simp_all
    rw [hadd]
    exact hc j hj

theorem bequal_any (A B : Option Addr) (n m c d : Nat) (p q : List UInt8) (hn : p.length = n) (hm : q.length = m) (w : World) (h1 : Lies u8v w A p) (h2 : Lies u8v w B q) :
    Calls Tryz.prog 182 #[.slice A n c, .slice B m d] w fun e w' => e = .returned (.bool (p == q)) ∧ w' = w := by
  have k1 := conv_lies w A n c p hn h1
  have k2 := conv_lies w B m d q hm h2
  have e1 : (binOp .eql 9 (.string ⟨p.toArray⟩) (.string ⟨q.toArray⟩)).run Tryz.prog w = .ok (.bool (p == q)) w := by
    rw [binOp_string_eql]
    simp [Sem.run_pure, ByteArray.toList_eq]
  clear hn hm h1 h2
  go_enter Tryz.func182, Tryz.ntmps182
  go_wp2_with fail
  go_ret
  exact ⟨rfl, rfl⟩

end Go.Proofs.YtlgmjnjhdamknaaGreat

namespace Go.Proofs.YtlgmjnjhdamknaaGreat
open Go.RowKit

def OwnBytes (w : World) (l : List UInt8) (e : Ending) (w' : World) : Prop :=
  ∃ A n c, e = .returned (.slice A n c) ∧ l.length = n ∧ w'.ownsRow w.heap.size 5 1 (.slice A n c) n (l.map u8v) ∧ Below w.heap.size w w'

theorem zeroCells_len (k : Nat) : (Builtin.zeroCells #[Value.int .u8 0] k).size = k := by
  simp [Builtin.zeroCells]

set_option maxRecDepth 100000 in
set_option maxHeartbeats 1000000 in
theorem grow_nil (n : Nat) (hm : n ≤ 140737488355328) (w : World) :
    Calls Tryz.prog 173 #[.slice none 0 0, .int .i64 n] w (OwnBytes w []) := by
  by_cases h0 : n = 0
  · subst h0
    go_enter Tryz.func173, Tryz.ntmps173
    go_wp2
    go_ret
    exact ⟨_, _, _, rfl, rfl, World.ownsRow_nil _ _ _ _, Below.refl _ _⟩
  · obtain ⟨i0, hi0, hi1, hi2, hi3⟩ := info_parts kit8.hi
    have hk : 0 < n := by omega
    have hk1 : (n : Int) > 0 := by omega
    have hold : (Builtin.firstCells i0.size 0 (.slice none 0 0)).run Tryz.prog w.drew = .ok ([] : List Value).toArray w.drew := run_firstCells_none w.drew _ 0 0 0
    have hrz : ∀ ty, (Builtin.append_ #[41, 3] ty #[.slice none 0 0, .int .i64 n]).run Tryz.prog w = _ := fun ty => Lib.run_append_grow_zeros w 41 3 ty 5 i0 (.int .u8 0) .i64 .i64 kit8.ht Tryz.underlying3 hi0 hi1 none 0 0 [] hold n hk (by rw [hi2]; omega) (by omega) (by omega) (by rw [hi3]; omega) (by rw [hi3]; exact growslice_fits (by omega) (by omega))
    have hG := grownCap_ge w (0 + n) 0 5
    have hG2 := grownCap_le_maxLen w (0 + n) 0 5 (by unfold maxLen; omega)
    generalize grownCap w (0 + n) 0 5 = G at *
    have hO : (w.drew.alloc (.cells (([] : List Value).toArray ++ Builtin.zeroCells (Value.int .u8 0).cells n ++ Builtin.zeroCells (Value.int .u8 0).cells (G - (0 + n))) 5)).ownsRow w.heap.size 5 1 (.slice (some ⟨w.heap.size, 0, none⟩) 0 G) 0 (([] : List UInt8).map u8v) := by
      refine ⟨rfl, .inr ⟨w.heap.size, G, _, rfl, zq _, heap_alloc_new w.drew _, Nat.zero_le _, hG2, ?_, by simp⟩⟩
      have h1 := zeroCells_len n
      have h2 := zeroCells_len (G - (0 + n))
      simp [Value.cells, Array.size_append] at *
      omega
    have hB : Below w.heap.size w (w.drew.alloc (.cells (([] : List Value).toArray ++ Builtin.zeroCells (Value.int .u8 0).cells n ++ Builtin.zeroCells (Value.int .u8 0).cells (G - (0 + n))) 5)) := (drewN_below (Below.refl _ w) 1).alloc (zq _) _
    generalize w.drew.alloc (.cells (([] : List Value).toArray ++ Builtin.zeroCells (Value.int .u8 0).cells n ++ Builtin.zeroCells (Value.int .u8 0).cells (G - (0 + n))) 5) = w1 at *
    unfold maxLen at hG2
    clear hold hi1 hi2 hi3
    go_enter Tryz.func173, Tryz.ntmps173
    go_wp2_with (at_builtin; refine Lib.wpList_append_run _ rfl _ _ _ _ rfl _ _ rfl rfl _ _ (hrz _) ?_)
    go_ret
    exact ⟨_, _, _, rfl, rfl, hO, hB⟩

set_option maxRecDepth 100000 in
set_option maxHeartbeats 2000000 in
theorem concat_two (g : Nat) (A1 A2 : Option Addr) (n1 n2 c1 c2 : Nat) (l1 l2 : List UInt8) (h1 : l1.length = n1) (h2 : l2.length = n2) (hm : n1 + n2 ≤ 1000000) (w : World)
    (hc1 : w.cell? ⟨g, 0, none⟩ = some (.slice A1 n1 c1)) (hc2 : w.cell? ⟨g, 1, none⟩ = some (.slice A2 n2 c2)) (hl1 : Lies u8v w A1 l1) (hl2 : Lies u8v w A2 l2) :
    Calls Tryz.prog 153 #[.slice (some ⟨g, 0, none⟩) 2 2] w (OwnBytes w (l1 ++ l2)) := by
  have H1 := qh h1
  have H2 := qh h2
  have HL1 := qh hl1
  have HL2 := qh hl2
  have hlt := World.block_lt_of_cell? _ _ hc1
  have i1 : IntKind.i64.wrap ((n1 : Int) + (n2 : Int)) = ((n1 + n2 : Nat) : Int) := by rw [IntKind.wrap_i64]; omega
  have i2 : IntKind.i64.wrap (n1 : Int) = (n1 : Int) := by rw [IntKind.wrap_i64]; omega
  have i3 : ¬ (((n1 + n2 : Nat) : Int) < 0) := by omega
  have i4 : ¬ ((n1 : Int) < 0) := by omega
  have j0 : IntKind.i64.wrap 1 = 1 := by decide
  have j1 : IntKind.i64.wrap (1 + 1) = 2 := by decide
  clear h1 h2 hl1 hl2
  go_enter Tryz.func153, Tryz.ntmps153
  go_wp2
  go_loopw [3, 11] (fun s i wr => wr = w ∧ (i = .int .i64 0 ∧ s = .int .i64 0 ∨ i = .int .i64 1 ∧ s = .int .i64 n1 ∨ i = .int .i64 2 ∧ s = .int .i64 (n1 + n2 : Nat))) (fun _ i _ => 2 - (intOf i).toNat)
  case atStart => exact ⟨rfl, .inl ⟨rfl, rfl⟩⟩
  case round =>
    obtain ⟨hw, ⟨rfl, rfl⟩ | ⟨rfl, rfl⟩ | ⟨rfl, rfl⟩⟩ := hrel
    all_goals obtain rfl : w = wr := hw.symm
    · go_wp2
      go_roundw
      case rel => exact ⟨trivial, .inr (.inl ⟨rfl, by simp⟩)⟩
      case measure => simp [intOf]
    · go_wp2
      go_roundw
      case rel => exact ⟨trivial, .inr (.inr ⟨rfl, by simp⟩)⟩
      case measure => simp [intOf]
    · go_wp2_with fail
      refine (grow_nil (n1 + n2) (by omega) _).mono ?_
      rintro e w1 ⟨A, n, c, rfl, h0, hown, hb1⟩
      subst h0
      have hd1 := (hb1.cell (p := ⟨g, 0, none⟩) hlt).trans hc1
      have hd2 := (hb1.cell (p := ⟨g, 1, none⟩) hlt).trans hc2
      go_wp2
      go_loopw [6, 27] (fun o i wr => ∃ (A : Option Addr) (n c : Nat) (l : List UInt8), o = .slice A n c ∧ wr.ownsRow w.heap.size 5 1 (.slice A n c) n (l.map u8v) ∧ Below w.heap.size w wr ∧ (i = .int .i64 0 ∧ l = [] ∧ n = 0 ∨ i = .int .i64 1 ∧ l = l1 ∧ n = n1 ∨ i = .int .i64 2 ∧ l = l1 ++ l2 ∧ n = n1 + n2)) (fun _ i _ => 2 - (intOf i).toNat)
      case atStart => exact ⟨A, _, c, [], rfl, hown, hb1, .inl ⟨rfl, rfl, rfl⟩⟩
      case round =>
        obtain ⟨A, n, c, l, rfl, hown, hb1, ⟨rfl, rfl, rfl⟩ | ⟨rfl, rfl, rfl⟩ | ⟨rfl, rfl, rfl⟩⟩ := hrel
        · have hd1 := (hb1.cell (p := ⟨g, 0, none⟩) hlt).trans hc1
          have hz := hb1.size
          go_wp2_with (at_builtin; go_must (refine wpList_append_lies kit8 one8 _ rfl (.tmp 31) (.tmp 32) rfl w.heap.size _ 0 [] rfl hown A1 n1 c1 l1 rfl H1.out (HL1.out.below hb1 (zq _)) (by omega) (by unfold maxLen; omega) hz ?_; intro A' c' w' hown' _ hb'))
          go_roundw
          case rel =>
            rw [Nat.zero_add] at hown'
            exact ⟨A', n1, c', l1, rfl, hown', hb1.trans hb', .inr (.inl ⟨rfl, rfl, rfl⟩)⟩
          case measure => simp [intOf]
        · have hd1 := (hb1.cell (p := ⟨g, 1, none⟩) hlt).trans hc2
          have hz := hb1.size
          go_wp2_with (at_builtin; go_must (refine wpList_append_lies kit8 one8 _ rfl (.tmp 31) (.tmp 32) rfl w.heap.size _ n l rfl hown A2 n2 c2 l2 rfl H2.out (HL2.out.below hb1 (zq _)) (by omega) (by unfold maxLen; omega) hz ?_; intro A' c' w' hown' _ hb'))
          go_roundw
          case rel => exact ⟨A', n + n2, c', l ++ l2, rfl, hown', hb1.trans hb', .inr (.inr ⟨rfl, rfl, rfl⟩)⟩
          case measure => simp [intOf]
        · go_wp2
          go_ret
          exact ⟨A, _, c, rfl, by rw [List.length_append, H1.out, H2.out], hown, hb1⟩

set_option maxRecDepth 100000 in
set_option maxHeartbeats 1000000 in
theorem clone_any (A : Option Addr) (n c : Nat) (l : List UInt8) (hn : l.length = n) (hm : n ≤ 1000000) (w : World) (h : Lies u8v w A l) :
    Calls Tryz.prog 92 #[.slice A n c] w (OwnBytes w l) := by
  have H := qh hn
  have q : ∀ (w : World) (a : Option Addr) (n c n' c' : Nat), (binOp .eql 41 (.slice a n c) (.slice none n' c')).run Tryz.prog w = .ok (.bool a.isNone) w := fun w a n c n' c' => Lib.run_eql_slice_nil w _ _ a n c n' c' kit8.ht
  rcases A with _ | ⟨b, o, s⟩
  · have hl : l = [] := by
      rcases l with _ | ⟨y, r⟩
      · rfl
      · obtain ⟨_, _, h, _⟩ := h 0 (by simp)
        cases h
    clear hn h
    go_enter Tryz.func92, Tryz.ntmps92
    go_wp2
    go_ret
    subst hl
    exact ⟨_, _, _, rfl, rfl, World.ownsRow_nil _ _ _ _, Below.refl _ _⟩
  · clear hn
    go_enter Tryz.func92, Tryz.ntmps92
    go_wp2_with (at_builtin; go_must (refine wpList_append_lies kit8 one8 _ rfl (.tmp 5) (.tmp 6) rfl w.heap.size _ 0 [] rfl (own_lit u8v w #[] _ _ _ 0 [] rfl rfl (zq _) rfl (Nat.zero_le _)) _ n c l rfl H.out (h.alloc _) (by omega) (by unfold maxLen; omega) (by simp) ?_; intro A2 c2 w2 hown2 _ hb2; rw [Nat.zero_add] at hown2))
    go_ret
    exact ⟨A2, n, c2, rfl, H.out, hown2, ((Below.refl _ w).alloc (zq _) _).trans hb2⟩
end Go.Proofs.YtlgmjnjhdamknaaGreat

namespace Go.Proofs.YtlgmjnjhdamknaaGreat
open Go.RowKit Go.Shelf

inductive IF | addr | count | to
  deriving DecidableEq
inductive UF | and_ | or_
  deriving DecidableEq
namespace IF
def ix : IF → Nat | addr => 1 | count => 2 | to => 3
def get (a : Ask) : IF → Int | addr => a.addr | count => a.count | to => a.to
def set (a : Ask) (n : Int) : IF → Ask | addr => { a with addr := n } | count => { a with count := n } | to => { a with to := n }
end IF
namespace UF
def ix : UF → Nat | and_ => 6 | or_ => 7
def get (a : Ask) : UF → UInt16 | and_ => a.and_ | or_ => a.or_
def set (a : Ask) (n : UInt16) : UF → Ask | and_ => { a with and_ := n } | or_ => { a with or_ := n }
end UF

structure OfOK (g ix : Nat) : Prop where
  en : Enters Tryz.prog g
  ca : ∀ (q : Nat) (W : World), Calls Tryz.prog g #[.pointer (some ⟨q, 0, none⟩)] W fun e w' => e = .returned (.pointer (some ⟨q, ix, none⟩)) ∧ w' = W

set_option maxHeartbeats 400000 in
theorem addrOf_ok : OfOK 111 1 := ⟨enters_of Tryz.func111 (by kernel_rfl) rfl, fun q W => by
  go_enter Tryz.func111, Tryz.ntmps111
  go_wp2
  go_ret
  exact ⟨rfl, rfl⟩⟩
set_option maxHeartbeats 400000 in
theorem countOf_ok : OfOK 112 2 := ⟨enters_of Tryz.func112 (by kernel_rfl) rfl, fun q W => by
  go_enter Tryz.func112, Tryz.ntmps112
  go_wp2
  go_ret
  exact ⟨rfl, rfl⟩⟩
set_option maxHeartbeats 400000 in
theorem toOf_ok : OfOK 136 3 := ⟨enters_of Tryz.func136 (by kernel_rfl) rfl, fun q W => by
  go_enter Tryz.func136, Tryz.ntmps136
  go_wp2
  go_ret
  exact ⟨rfl, rfl⟩⟩
set_option maxHeartbeats 400000 in
theorem wordsOf_ok : OfOK 75 4 := ⟨enters_of Tryz.func75 (by kernel_rfl) rfl, fun q W => by
  go_enter Tryz.func75, Tryz.ntmps75
  go_wp2
  go_ret
  exact ⟨rfl, rfl⟩⟩
set_option maxHeartbeats 400000 in
theorem bitsOf_ok : OfOK 70 5 := ⟨enters_of Tryz.func70 (by kernel_rfl) rfl, fun q W => by
  go_enter Tryz.func70, Tryz.ntmps70
  go_wp2
  go_ret
  exact ⟨rfl, rfl⟩⟩
set_option maxHeartbeats 400000 in
theorem andOf_ok : OfOK 84 6 := ⟨enters_of Tryz.func84 (by kernel_rfl) rfl, fun q W => by
  go_enter Tryz.func84, Tryz.ntmps84
  go_wp2
  go_ret
  exact ⟨rfl, rfl⟩⟩
set_option maxHeartbeats 400000 in
theorem orOf_ok : OfOK 85 7 := ⟨enters_of Tryz.func85 (by kernel_rfl) rfl, fun q W => by
  go_enter Tryz.func85, Tryz.ntmps85
  go_wp2
  go_ret
  exact ⟨rfl, rfl⟩⟩

set_option maxHeartbeats 400000 in
theorem stand_any (x y : Int) (h0 : 0 ≤ x) (h1 : x ≤ 100000) (g0 : 0 ≤ y) (g1 : y ≤ 100000) (w : World) :
    Calls Tryz.prog 113 #[.int .i64 x, .int .i64 y] w fun e w' => e = .returned (.bool (decide (x + y ≤ 65536))) ∧ w' = w := by
  go_enter Tryz.func113, Tryz.ntmps113
  go_wp2
  go_ret
  exact ⟨rfl, rfl⟩

set_option maxHeartbeats 400000 in
theorem putWord_any (x : UInt16) (w : World) : Calls Tryz.prog 76 #[u16v x] w fun e w' => e = .returned (.int .i64 (x.toNat : Int)) ∧ w' = w := by
  have h := x.toNat_lt
  unfold u16v
  generalize x.toNat = m at *
  go_enter Tryz.func76, Tryz.ntmps76
  go_wp2
  go_ret
  exact ⟨rfl, rfl⟩
set_option maxHeartbeats 400000 in
theorem getWord_any (n : Nat) (h : n < 65536) (w : World) : Calls Tryz.prog 77 #[.int .i64 (n : Int)] w fun e w' => e = .returned (.tuple #[.int .u16 (n : Int), .bool true]) ∧ w' = w := by
  go_enter Tryz.func77, Tryz.ntmps77
  go_wp2
  go_ret2
  exact ⟨rfl, rfl⟩
set_option maxHeartbeats 400000 in
theorem putBit_any (x : Bool) (w : World) : Calls Tryz.prog 71 #[.bool x] w fun e w' => e = .returned (.int .i64 (if x then 65280 else 0)) ∧ w' = w := by
  cases x
  all_goals go_enter Tryz.func71, Tryz.ntmps71
  all_goals go_wp2
  all_goals go_ret
  all_goals exact ⟨rfl, rfl⟩
set_option maxHeartbeats 400000 in
theorem getBit_any (n : Int) (w : World) : Calls Tryz.prog 72 #[.int .i64 n] w fun e w' => e = .returned (.tuple #[.bool (n == 65280), .bool (n == 65280 || n == 0)]) ∧ w' = w := by
  go_enter Tryz.func72, Tryz.ntmps72
  go_wp2
  all_goals go_ret2
  all_goals refine ⟨?_, rfl⟩
  all_goals simp_all
end Go.Proofs.YtlgmjnjhdamknaaGreat

namespace Go.Proofs.YtlgmjnjhdamknaaGreat
open Go.RowKit Go.Shelf

def low (x : UInt16) (sz : Nat) : List UInt8 := (Word.two x).drop (2 - sz)
theorem low_length (x : UInt16) (sz : Nat) (h : sz ≤ 2) : (low x sz).length = sz := by
  unfold low
  rw [List.length_drop, show (Word.two x).length = 2 from rfl]
  omega

set_option maxRecDepth 100000 in
set_option maxHeartbeats 400000 in
theorem put6_any (x : UInt16) (sz : Nat) (h1 : sz = 1 ∨ sz = 2) (B : Nat) (v : Value) (n : Nat) (xs : List UInt8) (w : World) (hown : w.ownsRow B 5 1 v n (xs.map u8v)) (hB : B ≤ w.heap.size) (h47 : n ≤ 100000) :
    Calls Tryz.prog 116 #[v, .int .i64 (x.toNat : Int), .int .i64 (sz : Int)] w fun e w' => ∃ A c, e = .returned (.slice A (n + sz) c) ∧ w'.ownsRow B 5 1 (.slice A (n + sz) c) (n + sz) ((xs ++ low x sz).map u8v) ∧ Below B w w' ∧ w.grownBy w' v.ownBlock ∧ (∀ g, (Value.slice A (n + sz) c).ownBlock = some g → v.ownBlock = some g ∨ w.heap.size ≤ g) := by
  have hP := fun w => put_any x w
  rw [twov_eq] at hP
  have hT := qh (two_map x)
  have hx := x.toNat_lt
  unfold u16v at hP
  have i1 : (x.toNat : Int) % 65536 = (x.toNat : Int) := by omega
  rcases h1 with rfl | rfl
  · have hL : Hid ([Value.int .u8 ((x.toNat : Int) % 256)] = (low x 1).map u8v) := qh (by
      have := hT.out
      unfold low Word.two at *
      simp only [List.map_cons, List.map_nil, List.cons.injEq] at this
      simp only [Nat.reduceSub, List.drop_succ_cons, List.drop_zero, List.map_cons, List.map_nil, this.2.1])
    clear hT
    go_enter Tryz.func116, Tryz.ntmps116
    go_wp2_with fail
    refine (hP _).mono ?_
    rintro e w1 ⟨rfl, hb1⟩
    have hown1 := own_below hown hb1
    have hz := hb1.size
    have hg1 := grown_of_below hb1 v.ownBlock
    have hl : Lies u8v (w1.alloc (.cells #[.int .u8 ((x.toNat / 256 : Nat) : Int), .int .u8 ((x.toNat % 256 : Nat) : Int)] 184)) (some ⟨w1.heap.size, 1, none⟩) (low x 1) := by
      refine Lies.of_row fun j hj => ?_
      obtain rfl : j = 0 := by rw [low_length _ _ (by omega)] at hj; omega
      have h4 : (low x 1)[0] = UInt8.ofNat (x.toNat % 256) := rfl
      rw [h4]
      simp [u8v]
    go_wp2_with (first
      | (at_builtin; go_must (refine wpList_append_led kit8 one8 _ rfl (.tmp 11) (.tmp 14) rfl B _ n xs rfl (hown1.alloc _) (some ⟨w1.heap.size, 1, none⟩) 1 1 (low x 1) rfl (low_length _ _ (by omega)) hl (by omega) (by unfold maxLen; omega) (by simp; omega) ?_; intro A2 c2 w2 hown2 hg2 hb2 hled)))
    go_ret
    exact ⟨A2, c2, rfl, hown2, (hb1.mono hB).trans (((Below.refl B w1).alloc (by omega) _).trans hb2), hg1.trans ((World.grownBy_alloc _ _ _).trans hg2), fun g e => (hled g e).imp id (fun e => by simp at e; omega)⟩
  · have hL : Hid (low x 2 = Word.two x) := qh rfl
    go_enter Tryz.func116, Tryz.ntmps116
    go_wp2_with fail
    refine (hP _).mono ?_
    rintro e w1 ⟨rfl, hb1⟩
    have hown1 := own_below hown hb1
    have hz := hb1.size
    have hg1 := grown_of_below hb1 v.ownBlock
    have hl : Lies u8v (w1.alloc (.cells #[.int .u8 ((x.toNat / 256 : Nat) : Int), .int .u8 ((x.toNat % 256 : Nat) : Int)] 184)) (some ⟨w1.heap.size, 0, none⟩) (low x 2) := by
      rw [hL.out]
      exact lies_new _ _ _ _ (by rw [hT.out]; simp)
    go_wp2_with (first
      | (at_builtin; go_must (refine wpList_append_led kit8 one8 _ rfl (.tmp 11) (.tmp 14) rfl B _ n xs rfl (hown1.alloc _) (some ⟨w1.heap.size, 0, none⟩) 2 2 (low x 2) rfl (low_length _ _ (by omega)) hl (by omega) (by unfold maxLen; omega) (by simp; omega) ?_; intro A2 c2 w2 hown2 hg2 hb2 hled)))
    go_ret
    exact ⟨A2, c2, rfl, hown2, (hb1.mono hB).trans (((Below.refl B w1).alloc (by omega) _).trans hb2), hg1.trans ((World.grownBy_alloc _ _ _).trans hg2), fun g e => (hled g e).imp id (fun e => by simp at e; omega)⟩
theorem grown_cell {w w' : World} {row : Option Nat} (h : w.grownBy w' row) {p : Addr} {v : Value} (hc : w.cell? p = some v) (hne : row ≠ some p.block) : w'.cell? p = some v :=
  (World.cell?_of_block (w := w) (h.block p.block (World.block_lt_of_cell? _ _ hc) (fun e => hne e.symm))).trans hc
end Go.Proofs.YtlgmjnjhdamknaaGreat
