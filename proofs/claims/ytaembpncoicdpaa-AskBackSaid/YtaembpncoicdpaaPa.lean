
/-
  The landed ask: the parts of a request, as the program has them (the mathematics), and the small functions.
-/
import Derived.Test.YtaembpncoicdpaaAkm
import Derived.Test.YtaembpncoicdpaaBut
import Derived.Test.YtaembpncoicdpaaWords
import Derived.Test.YtaembpncoicdpaaBits
import Derived.Test.YtaembpncoicdpaaBeq
import Derived.Test.YtaembpncoicdpaaGrow
import Derived.Shelf.Abstract
import Derived.Lib.MinMax
namespace Go.Proofs.Ytaembpncoicdpaa
open Go.RowKit Go.Shelf

inductive IF | addr | count | to
  deriving DecidableEq
inductive UF | and_ | or_
  deriving DecidableEq
namespace IF
def ix : IF → Nat | addr => 1 | count => 2 | to => 3
def get (a : Ask) : IF → Int | addr => a.addr | count => a.count | to => a.to
def set (a : Ask) (n : Int) : IF → Ask | addr => { a with addr := n } | count => { a with count := n } | to => { a with to := n }
end IF
namespace UF
def ix : UF → Nat | and_ => 6 | or_ => 7
def get (a : Ask) : UF → UInt16 | and_ => a.and_ | or_ => a.or_
def set (a : Ask) (n : UInt16) : UF → Ask | and_ => { a with and_ := n } | or_ => { a with or_ := n }
end UF

/-- A function value that tells where a part stands in a request. -/
structure OfOK (g ix : Nat) : Prop where
  en : Enters Try.prog g
  ca : ∀ (q : Nat) (W : World), Calls Try.prog g #[.pointer (some ⟨q, 0, none⟩)] W fun e w' => e = .returned (.pointer (some ⟨q, ix, none⟩)) ∧ w' = W

set_option maxHeartbeats 400000 in
theorem addrOf_ok : OfOK 53 1 := ⟨enters_of Try.func53 (by kernel_rfl) rfl, fun q W => by
  go_enter Try.func53, Try.ntmps53
  go_wp2
  go_ret
  exact ⟨rfl, rfl⟩⟩
set_option maxHeartbeats 400000 in
theorem countOf_ok : OfOK 54 2 := ⟨enters_of Try.func54 (by kernel_rfl) rfl, fun q W => by
  go_enter Try.func54, Try.ntmps54
  go_wp2
  go_ret
  exact ⟨rfl, rfl⟩⟩
set_option maxHeartbeats 400000 in
theorem toOf_ok : OfOK 78 3 := ⟨enters_of Try.func78 (by kernel_rfl) rfl, fun q W => by
  go_enter Try.func78, Try.ntmps78
  go_wp2
  go_ret
  exact ⟨rfl, rfl⟩⟩
set_option maxHeartbeats 400000 in
theorem wordsOf_ok : OfOK 32 4 := ⟨enters_of Try.func32 (by kernel_rfl) rfl, fun q W => by
  go_enter Try.func32, Try.ntmps32
  go_wp2
  go_ret
  exact ⟨rfl, rfl⟩⟩
set_option maxHeartbeats 400000 in
theorem bitsOf_ok : OfOK 27 5 := ⟨enters_of Try.func27 (by kernel_rfl) rfl, fun q W => by
  go_enter Try.func27, Try.ntmps27
  go_wp2
  go_ret
  exact ⟨rfl, rfl⟩⟩
set_option maxHeartbeats 400000 in
theorem andOf_ok : OfOK 41 6 := ⟨enters_of Try.func41 (by kernel_rfl) rfl, fun q W => by
  go_enter Try.func41, Try.ntmps41
  go_wp2
  go_ret
  exact ⟨rfl, rfl⟩⟩
set_option maxHeartbeats 400000 in
theorem orOf_ok : OfOK 42 7 := ⟨enters_of Try.func42 (by kernel_rfl) rfl, fun q W => by
  go_enter Try.func42, Try.ntmps42
  go_wp2
  go_ret
  exact ⟨rfl, rfl⟩⟩

set_option maxHeartbeats 400000 in
theorem stand_any (x y : Int) (h0 : 0 ≤ x) (h1 : x ≤ 100000) (g0 : 0 ≤ y) (g1 : y ≤ 100000) (w : World) :
    Calls Try.prog 55 #[.int .i64 x, .int .i64 y] w fun e w' => e = .returned (.bool (decide (x + y ≤ 65536))) ∧ w' = w := by
  go_enter Try.func55, Try.ntmps55
  go_wp2
  go_ret
  exact ⟨rfl, rfl⟩

set_option maxHeartbeats 400000 in
theorem putWord_any (x : UInt16) (w : World) : Calls Try.prog 33 #[u16v x] w fun e w' => e = .returned (.int .i64 (x.toNat : Int)) ∧ w' = w := by
  have h := x.toNat_lt
  unfold u16v
  generalize x.toNat = m at *
  go_enter Try.func33, Try.ntmps33
  go_wp2
  go_ret
  exact ⟨rfl, rfl⟩
set_option maxHeartbeats 400000 in
theorem getWord_any (n : Nat) (h : n < 65536) (w : World) : Calls Try.prog 34 #[.int .i64 (n : Int)] w fun e w' => e = .returned (.tuple #[.int .u16 (n : Int), .bool true]) ∧ w' = w := by
  go_enter Try.func34, Try.ntmps34
  go_wp2
  go_ret2
  exact ⟨rfl, rfl⟩
set_option maxHeartbeats 400000 in
theorem putBit_any (x : Bool) (w : World) : Calls Try.prog 28 #[.bool x] w fun e w' => e = .returned (.int .i64 (if x then 65280 else 0)) ∧ w' = w := by
  cases x
  all_goals go_enter Try.func28, Try.ntmps28
  all_goals go_wp2
  all_goals go_ret
  all_goals exact ⟨rfl, rfl⟩
set_option maxHeartbeats 400000 in
theorem getBit_any (n : Int) (w : World) : Calls Try.prog 29 #[.int .i64 n] w fun e w' => e = .returned (.tuple #[.bool (n == 65280), .bool (n == 65280 || n == 0)]) ∧ w' = w := by
  go_enter Try.func29, Try.ntmps29
  go_wp2
  all_goals go_ret2
  all_goals refine ⟨?_, rfl⟩
  all_goals simp_all
end Go.Proofs.Ytaembpncoicdpaa
