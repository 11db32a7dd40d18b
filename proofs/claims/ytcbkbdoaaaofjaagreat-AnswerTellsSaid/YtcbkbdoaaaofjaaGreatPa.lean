
/-
  The landed ask: the parts of a request, as the program has them (the mathematics), and the small functions.
-/
import Derived.Test.YtcbkbdoaaaofjaaGreatRask
import Derived.Test.YtcbkbdoaaaofjaaGreatKit
import Derived.Test.YtcbkbdoaaaofjaaGreatWords
import Derived.Test.YtcbkbdoaaaofjaaGreatBits
import Derived.Test.YtcbkbdoaaaofjaaGreatBeq
import Derived.Test.YtcbkbdoaaaofjaaGreatGrow
import Derived.Shelf.Abstract
import Derived.Lib.MinMax
namespace Go.Proofs.YtcbkbdoaaaofjaaGreat
open Go.RowKit Go.Shelf

inductive IF | addr | count | to
  deriving DecidableEq
inductive UF | and_ | or_
  deriving DecidableEq
namespace IF
def ix : IF → Nat | addr => 1 | count => 2 | to => 3
def get (a : Ask) : IF → Int | addr => a.addr | count => a.count | to => a.to
def set (a : Ask) (n : Int) : IF → Ask | addr => { a with addr := n } | count => { a with count := n } | to => { a with to := n }
end IF
namespace UF
def ix : UF → Nat | and_ => 6 | or_ => 7
def get (a : Ask) : UF → UInt16 | and_ => a.and_ | or_ => a.or_
def set (a : Ask) (n : UInt16) : UF → Ask | and_ => { a with and_ := n } | or_ => { a with or_ := n }
end UF

/-- A function value that tells where a part stands in a request. -/
structure OfOK (g ix : Nat) : Prop where
  en : Enters Tryz.prog g
  ca : ∀ (q : Nat) (W : World), Calls Tryz.prog g #[.pointer (some ⟨q, 0, none⟩)] W fun e w' => e = .returned (.pointer (some ⟨q, ix, none⟩)) ∧ w' = W

set_option maxHeartbeats 400000 in
theorem addrOf_ok : OfOK 83 1 := ⟨enters_of Tryz.func83 (by kernel_rfl) rfl, fun q W => by
  go_enter Tryz.func83, Tryz.ntmps83
  go_wp2
  go_ret
  exact ⟨rfl, rfl⟩⟩
set_option maxHeartbeats 400000 in
theorem countOf_ok : OfOK 84 2 := ⟨enters_of Tryz.func84 (by kernel_rfl) rfl, fun q W => by
  go_enter Tryz.func84, Tryz.ntmps84
  go_wp2
  go_ret
  exact ⟨rfl, rfl⟩⟩
set_option maxHeartbeats 400000 in
theorem toOf_ok : OfOK 107 3 := ⟨enters_of Tryz.func107 (by kernel_rfl) rfl, fun q W => by
  go_enter Tryz.func107, Tryz.ntmps107
  go_wp2
  go_ret
  exact ⟨rfl, rfl⟩⟩
set_option maxHeartbeats 400000 in
theorem wordsOf_ok : OfOK 53 4 := ⟨enters_of Tryz.func53 (by kernel_rfl) rfl, fun q W => by
  go_enter Tryz.func53, Tryz.ntmps53
  go_wp2
  go_ret
  exact ⟨rfl, rfl⟩⟩
set_option maxHeartbeats 400000 in
theorem bitsOf_ok : OfOK 48 5 := ⟨enters_of Tryz.func48 (by kernel_rfl) rfl, fun q W => by
  go_enter Tryz.func48, Tryz.ntmps48
  go_wp2
  go_ret
  exact ⟨rfl, rfl⟩⟩
set_option maxHeartbeats 400000 in
theorem andOf_ok : OfOK 62 6 := ⟨enters_of Tryz.func62 (by kernel_rfl) rfl, fun q W => by
  go_enter Tryz.func62, Tryz.ntmps62
  go_wp2
  go_ret
  exact ⟨rfl, rfl⟩⟩
set_option maxHeartbeats 400000 in
theorem orOf_ok : OfOK 63 7 := ⟨enters_of Tryz.func63 (by kernel_rfl) rfl, fun q W => by
  go_enter Tryz.func63, Tryz.ntmps63
  go_wp2
  go_ret
  exact ⟨rfl, rfl⟩⟩

set_option maxHeartbeats 400000 in
theorem stand_any (x y : Int) (h0 : 0 ≤ x) (h1 : x ≤ 100000) (g0 : 0 ≤ y) (g1 : y ≤ 100000) (w : World) :
    Calls Tryz.prog 85 #[.int .i64 x, .int .i64 y] w fun e w' => e = .returned (.bool (decide (x + y ≤ 65536))) ∧ w' = w := by
  go_enter Tryz.func85, Tryz.ntmps85
  go_wp2
  go_ret
  exact ⟨rfl, rfl⟩

set_option maxHeartbeats 400000 in
theorem putWord_any (x : UInt16) (w : World) : Calls Tryz.prog 54 #[u16v x] w fun e w' => e = .returned (.int .i64 (x.toNat : Int)) ∧ w' = w := by
  have h := x.toNat_lt
  unfold u16v
  generalize x.toNat = m at *
  go_enter Tryz.func54, Tryz.ntmps54
  go_wp2
  go_ret
  exact ⟨rfl, rfl⟩
set_option maxHeartbeats 400000 in
theorem getWord_any (n : Nat) (h : n < 65536) (w : World) : Calls Tryz.prog 55 #[.int .i64 (n : Int)] w fun e w' => e = .returned (.tuple #[.int .u16 (n : Int), .bool true]) ∧ w' = w := by
  go_enter Tryz.func55, Tryz.ntmps55
  go_wp2
  go_ret2
  exact ⟨rfl, rfl⟩
set_option maxHeartbeats 400000 in
theorem putBit_any (x : Bool) (w : World) : Calls Tryz.prog 49 #[.bool x] w fun e w' => e = .returned (.int .i64 (if x then 65280 else 0)) ∧ w' = w := by
  cases x
  all_goals go_enter Tryz.func49, Tryz.ntmps49
  all_goals go_wp2
  all_goals go_ret
  all_goals exact ⟨rfl, rfl⟩
set_option maxHeartbeats 400000 in
theorem getBit_any (n : Int) (w : World) : Calls Tryz.prog 50 #[.int .i64 n] w fun e w' => e = .returned (.tuple #[.bool (n == 65280), .bool (n == 65280 || n == 0)]) ∧ w' = w := by
  go_enter Tryz.func50, Tryz.ntmps50
  go_wp2
  all_goals go_ret2
  all_goals refine ⟨?_, rfl⟩
  all_goals simp_all
end Go.Proofs.YtcbkbdoaaaofjaaGreat

/-
  The landed ask: put (a number's lower bytes behind others), wordsIn.
-/
namespace Go.Proofs.YtcbkbdoaaaofjaaGreat
open Go.RowKit Go.Shelf

/-- A number's lower bytes, as many as there are to be. -/
def low (x : UInt16) (sz : Nat) : List UInt8 := (Word.two x).drop (2 - sz)
theorem low_length (x : UInt16) (sz : Nat) (h : sz ≤ 2) : (low x sz).length = sz := by
  unfold low
  rw [List.length_drop, show (Word.two x).length = 2 from rfl]
  omega

set_option maxRecDepth 100000 in
set_option maxHeartbeats 400000 in
theorem put6_any (x : UInt16) (sz : Nat) (h1 : sz = 1 ∨ sz = 2) (B : Nat) (v : Value) (n : Nat) (xs : List UInt8) (w : World) (hown : w.ownsRow B 5 1 v n (xs.map u8v)) (hB : B ≤ w.heap.size) (h47 : n ≤ 100000) :
    Calls Tryz.prog 88 #[v, .int .i64 (x.toNat : Int), .int .i64 (sz : Int)] w fun e w' => ∃ A c, e = .returned (.slice A (n + sz) c) ∧ w'.ownsRow B 5 1 (.slice A (n + sz) c) (n + sz) ((xs ++ low x sz).map u8v) ∧ Below B w w' ∧ w.grownBy w' v.ownBlock ∧ (∀ g, (Value.slice A (n + sz) c).ownBlock = some g → v.ownBlock = some g ∨ w.heap.size ≤ g) := by
  have hP := fun w => put_any x w
  rw [twov_eq] at hP
  have hT := Lib.hid (two_map x)
  have hx := x.toNat_lt
  unfold u16v at hP
  have i1 : (x.toNat : Int) % 65536 = (x.toNat : Int) := by omega
  rcases h1 with rfl | rfl
  · have hL : Hid ([Value.int .u8 ((x.toNat : Int) % 256)] = (low x 1).map u8v) := Lib.hid (by
      have := hT.out
      unfold low Word.two at *
      simp only [List.map_cons, List.map_nil, List.cons.injEq] at this
      simp only [Nat.reduceSub, List.drop_succ_cons, List.drop_zero, List.map_cons, List.map_nil, this.2.1])
    clear hT
    go_enter Tryz.func88, Tryz.ntmps88
    go_wp2_with fail
    refine (hP _).mono ?_
    rintro e w1 ⟨rfl, hb1⟩
    have hown1 := own_below hown hb1
    have hz := hb1.size
    have hg1 := grown_of_below hb1 v.ownBlock
    have hl : Lies u8v (w1.alloc (.cells #[.int .u8 ((x.toNat / 256 : Nat) : Int), .int .u8 ((x.toNat % 256 : Nat) : Int)] 105)) (some ⟨w1.heap.size, 1, none⟩) (low x 1) := by
      refine Lies.of_row fun j hj => ?_
      obtain rfl : j = 0 := by rw [low_length _ _ (by omega)] at hj; omega
      have h4 : (low x 1)[0] = UInt8.ofNat (x.toNat % 256) := rfl
      rw [h4]
      simp [u8v]
    go_wp2_with (first
      | (at_builtin; go_must (refine wpList_append_led kit8 one8 _ rfl (.tmp 11) (.tmp 14) rfl B _ n xs rfl (hown1.alloc _) (some ⟨w1.heap.size, 1, none⟩) 1 1 (low x 1) rfl (low_length _ _ (by omega)) hl (by omega) (by unfold maxLen; omega) (by simp; omega) ?_; intro A2 c2 w2 hown2 hg2 hb2 hled)))
    go_ret
    exact ⟨A2, c2, rfl, hown2, (hb1.mono hB).trans (((Below.refl B w1).alloc (by omega) _).trans hb2), hg1.trans ((World.grownBy_alloc _ _ _).trans hg2), fun g e => (hled g e).imp id (fun e => by simp at e; omega)⟩
  · have hL : Hid (low x 2 = Word.two x) := Lib.hid rfl
    go_enter Tryz.func88, Tryz.ntmps88
    go_wp2_with fail
    refine (hP _).mono ?_
    rintro e w1 ⟨rfl, hb1⟩
    have hown1 := own_below hown hb1
    have hz := hb1.size
    have hg1 := grown_of_below hb1 v.ownBlock
    have hl : Lies u8v (w1.alloc (.cells #[.int .u8 ((x.toNat / 256 : Nat) : Int), .int .u8 ((x.toNat % 256 : Nat) : Int)] 105)) (some ⟨w1.heap.size, 0, none⟩) (low x 2) := by
      rw [hL.out]
      exact lies_new _ _ _ _ (by rw [hT.out]; simp)
    go_wp2_with (first
      | (at_builtin; go_must (refine wpList_append_led kit8 one8 _ rfl (.tmp 11) (.tmp 14) rfl B _ n xs rfl (hown1.alloc _) (some ⟨w1.heap.size, 0, none⟩) 2 2 (low x 2) rfl (low_length _ _ (by omega)) hl (by omega) (by unfold maxLen; omega) (by simp; omega) ?_; intro A2 c2 w2 hown2 hg2 hb2 hled)))
    go_ret
    exact ⟨A2, c2, rfl, hown2, (hb1.mono hB).trans (((Below.refl B w1).alloc (by omega) _).trans hb2), hg1.trans ((World.grownBy_alloc _ _ _).trans hg2), fun g e => (hled g e).imp id (fun e => by simp at e; omega)⟩
theorem grown_cell {w w' : World} {row : Option Nat} (h : w.grownBy w' row) {p : Addr} {v : Value} (hc : w.cell? p = some v) (hne : row ≠ some p.block) : w'.cell? p = some v :=
  (World.cell?_of_block (w := w) (h.block p.block (World.block_lt_of_cell? _ _ hc) (fun e => hne e.symm))).trans hc
end Go.Proofs.YtcbkbdoaaaofjaaGreat
