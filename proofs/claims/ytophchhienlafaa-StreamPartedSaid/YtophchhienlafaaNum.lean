/-
  Numbers as bytes and words; a frame's head.
-/
import Derived.Test.YtophchhienlafaaMb
namespace Go.Proofs.Ytophchhienlafaa
open Go.RowKit

theorem u8_of (n : Nat) (h : n < 256) : u8v (UInt8.ofNat n) = .int .u8 (n : Int) := by
  unfold u8v
  rw [UInt8.toNat_ofNat']
  congr 1
  omega
theorem u16_of (n : Nat) (h : n < 65536) : u16v (UInt16.ofNat n) = .int .u16 (n : Int) := by
  unfold u16v
  rw [UInt16.toNat_ofNat']
  congr 1
  omega
theorem head_map (t : UInt16) (u : UInt8) (n : Nat) (h : n < 65536) : (Mb.head t u n).map u8v = [.int .u8 ((t.toNat / 256 : Nat) : Int), .int .u8 ((t.toNat % 256 : Nat) : Int), .int .u8 0, .int .u8 0, .int .u8 ((n / 256 : Nat) : Int), .int .u8 ((n % 256 : Nat) : Int), u8v u] := by
  have := t.toNat_lt
  unfold Mb.head
  simp only [List.map_cons, List.map_nil]
  rw [u8_of _ (by omega), u8_of _ (by omega), u8_of _ (by omega), u8_of _ (by omega)]
  rfl

end Go.Proofs.Ytophchhienlafaa
