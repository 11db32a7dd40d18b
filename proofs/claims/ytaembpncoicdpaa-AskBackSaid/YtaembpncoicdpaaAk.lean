
/-
  Requests: what the document's layer 6 answers (the mathematics, first part).
-/
import Derived.Test.YtaembpncoicdpaaKit
import Derived.Test.YtaembpncoicdpaaWm
namespace Go.Proofs.Ytaembpncoicdpaa
open Go.RowKit

structure Ask where
  code : Int
  addr : Int
  count : Int
  to : Int
  words : List UInt16
  bits : List Bool
  and_ : UInt16
  or_ : UInt16
  deriving DecidableEq

namespace Ak
def zero : Ask := ⟨0, 0, 0, 0, [], [], 0, 0⟩
def most (c : Int) : Int × Int × Int :=
  if c = 1 ∨ c = 2 then (2000, 0, 0) else if c = 3 ∨ c = 4 then (125, 0, 0) else if c = 5 then (0, 0, 1) else if c = 6 then (0, 1, 0) else if c = 15 then (0, 0, 1968) else if c = 16 then (0, 123, 0) else if c = 23 then (125, 121, 0) else if c = 43 then (4, 0, 0) else (0, 0, 0)
def codes : List Int := [1, 2, 3, 4, 5, 6, 15, 16, 22, 23, 43]
def isC (c : Int) : Bool := decide (c ∈ codes)
def fits (n m : Int) : Bool := n == 0 && m == 0 || decide (1 ≤ n) && decide (n ≤ m)
def formed (a : Ask) : Bool :=
  isC a.code && fits a.count (most a.code).1 && fits a.words.length (most a.code).2.1 && fits a.bits.length (most a.code).2.2 &&
  !(a.code != 22 && (a.and_ != 0 || a.or_ != 0) || a.code != 23 && a.to != 0) &&
  (decide (0 ≤ a.addr) && decide (a.addr ≤ 65535) && decide (0 ≤ a.to) && decide (a.to ≤ 65535) && (a.code != 43 || decide (a.addr ≤ 255)))
def placed (a : Ask) : Bool :=
  if a.code = 23 then decide (a.addr + a.count ≤ 65536) && decide (a.to + a.words.length ≤ 65536)
  else a.code == 43 || decide (a.addr + max (max (max a.count a.bits.length) 1) a.words.length ≤ 65536)
def right (a : Ask) : Bool := formed a && placed a
def writes (c : Int) : Bool := c == 5 || c == 6 || c == 15 || c == 16 || c == 22 || c == 23
end Ak

/-- A request as a value: its words and bits lie behind the two headers. -/
def askV (a : Ask) (h k : Option Addr × Nat × Nat) : Value := .agg #[.int .i64 a.code, .int .i64 a.addr, .int .i64 a.count, .int .i64 a.to, .slice h.1 h.2.1 h.2.2, .slice k.1 k.2.1 k.2.2, u16v a.and_, u16v a.or_]
structure AskIn (w : World) (a : Ask) (h k : Option Addr × Nat × Nat) : Prop where
  hn : a.words.length = h.2.1
  hc : h.2.1 ≤ h.2.2
  hm : h.2.2 ≤ maxLen
  hl : Lies u16v w h.1 a.words
  kn : a.bits.length = k.2.1
  kc : k.2.1 ≤ k.2.2
  km : k.2.2 ≤ maxLen
  kl : Lies bitv w k.1 a.bits
structure AskNums (a : Ask) : Prop where
  c0 : -9223372036854775808 ≤ a.code
  c1 : a.code ≤ 9223372036854775807
  a0 : -9223372036854775808 ≤ a.addr
  a1 : a.addr ≤ 9223372036854775807
  n0 : -9223372036854775808 ≤ a.count
  n1 : a.count ≤ 9223372036854775807
  t0 : -9223372036854775808 ≤ a.to
  t1 : a.to ≤ 9223372036854775807
theorem AskIn.below {w w' : World} {a : Ask} {h k : Option Addr × Nat × Nat} (x : AskIn w a h k) (hb : Below w.heap.size w w') : AskIn w' a h k :=
  ⟨x.hn, x.hc, x.hm, x.hl.below hb (Nat.le_refl _), x.kn, x.kc, x.km, x.kl.below hb (Nat.le_refl _)⟩

theorem code_at (j : Nat) (hj : j < 11) : ∃ c, Ak.codes[j]? = some c := ⟨_, List.getElem?_eq_getElem (by simpa [Ak.codes] using hj)⟩
/-- Two bytes of a number. -/
def Ak.two (n : Int) : List UInt8 := [UInt8.ofNat (n.toNat / 256), UInt8.ofNat (n.toNat % 256)]
theorem Ak.two_map (n : Nat) (h : n < 65536) : (Ak.two (n : Int)).map u8v = [.int .u8 ((n / 256 : Nat) : Int), .int .u8 ((n % 256 : Nat) : Int)] := by
  unfold Ak.two u8v
  simp only [List.map_cons, List.map_nil, Int.toNat_natCast, UInt8.toNat_ofNat']
  rw [Nat.mod_eq_of_lt (show n / 256 < 2 ^ 8 by omega), Nat.mod_eq_of_lt (show n % 256 < 2 ^ 8 by omega)]
end Go.Proofs.Ytaembpncoicdpaa
