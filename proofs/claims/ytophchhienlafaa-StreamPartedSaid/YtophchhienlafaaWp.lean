/-
  Of package word: Put and get, as the frames of a connection call them.
-/
import Derived.Test.YtophchhienlafaaKit
import Derived.Test.YtophchhienlafaaWm
import Derived.Laws.BitsAllLaws
namespace Go.Proofs.Ytophchhienlafaa
open Go.RowKit

theorem kit16 : EK Try.prog 75 43 (.int .u16 0) 2 := ⟨Try.underlying75, by kernel_rfl, rfl⟩
theorem one16 : ∀ x : UInt16, (u16v x).oneCell' = true := fun _ => rfl
theorem grown_of_below {w w' : World} (h : Below w.heap.size w w') (row : Option Nat) : w.grownBy w' row := ⟨h.os, h.tape, h.output, h.size, fun k hk _ => h.block k hk⟩
/-- A word's bytes as an array. -/
def twov (x : UInt16) : Value := .agg ((Word.two x).map u8v).toArray
theorem twov_eq (x : UInt16) : twov x = .agg #[.int .u8 ((x.toNat / 256 : Nat) : Int), .int .u8 ((x.toNat % 256 : Nat) : Int)] := by
  have h := x.toNat_lt
  have e2 : x.toNat / 256 % 256 = x.toNat / 256 := Nat.mod_eq_of_lt (by omega)
  simp [twov, Word.two, u8v, e2]
theorem two_map (x : UInt16) : (Word.two x).map u8v = [.int .u8 ((x.toNat : Int) / 256), .int .u8 ((x.toNat : Int) % 256)] := by
  have := twov_eq x
  simp only [twov, Value.agg.injEq] at this
  have h2 := congrArg Array.toList this
  simpa using h2
set_option maxHeartbeats 400000 in
theorem put_any (x : UInt16) (w : World) :
    Calls Try.prog 25 #[u16v x] w fun e w' => e = .returned (twov x) ∧ Below w.heap.size w w' := by
  have h := x.toNat_lt
  rw [twov_eq]
  unfold u16v
  generalize x.toNat = m at *
  go_enter Try.func25, Try.ntmps25
  go_wp2
  refine bodyPost_ret_by (v := .agg #[.int .u8 ((m : Int) / 256), .int .u8 ((m : Int) % 256)]) (by simp [results, Try.f25, go_sem]) rfl ?_
  exact ⟨by rw [Int.natCast_ediv, Int.natCast_emod]; rfl, (Below.refl _ _).alloc (Nat.le_refl _) _⟩
set_option maxHeartbeats 400000 in
theorem get_any (a b : UInt8) (w : World) :
    Calls Try.prog 32 #[.agg #[u8v a, u8v b]] w fun e w' => e = .returned (u16v (Word.word a b)) ∧ Below w.heap.size w w' := by
  have ha := a.toNat_lt
  have hb := b.toNat_lt
  have hv : ((Word.word a b).toNat : Int) = 256 * (a.toNat : Int) + b.toNat := by
    unfold Word.word
    rw [UInt16.toNat_ofNat']
    omega
  unfold u8v u16v
  rw [hv]
  generalize a.toNat = x at *
  generalize b.toNat = y at *
  clear hv
  have hor : bits .or .u16 ((x : Int) * 256) (y : Int) = 256 * (x : Int) + y := by
    have := u16_or_nat (x * 256) y (by omega) (by omega)
    rw [Nat.mul_comm x 256, show 256 = 2 ^ 8 from rfl, ← Nat.two_pow_add_eq_or_of_lt (by omega)] at this
    rw [Int.mul_comm]
    simpa using this
  go_enter Try.func32, Try.ntmps32
  go_wp2
  go_ret
  exact ⟨rfl, (Below.refl _ _).alloc (Nat.le_refl _) _⟩
end Go.Proofs.Ytophchhienlafaa
