
/-
  Requests: what is so of those that are formed; placed, Right of the document's layer 6, walked.
-/
import Derived.Test.YtaembpncoicdpaaAkf
namespace Go.Proofs.Ytaembpncoicdpaa
open Go.RowKit

theorem run_max_three {P : Program} (w : World) (ts : Array TypeId) (t : TypeId) (k k' k'' : IntKind) (x y z : Int) :
    (Builtin.max_ ts t #[.int k x, .int k' y, .int k'' z]).run P w = .ok (.int k (max (max x y) z)) w := by
  have e : ∀ x y : Int, (if y > x then y else x) = max x y := by
    intro x y
    rw [Int.max_def]
    split <;> split <;> omega
  simp [Builtin.max_, Builtin.max2, e]
attribute [local go_sem] run_max_three

namespace Ak
theorem fits_le {n m : Int} (h : fits n m = true) (hm : 0 ≤ m) : 0 ≤ n ∧ n ≤ m := by
  unfold fits at h
  simp only [Bool.or_eq_true, Bool.and_eq_true, beq_iff_eq, decide_eq_true_eq] at h
  rcases h with ⟨rfl, rfl⟩ | h <;> omega
theorem most_le (c : Int) : 0 ≤ (most c).1 ∧ (most c).1 ≤ 2000 ∧ 0 ≤ (most c).2.1 ∧ (most c).2.1 ≤ 123 ∧ 0 ≤ (most c).2.2 ∧ (most c).2.2 ≤ 1968 := by
  unfold most
  repeat' split
  all_goals simp
structure Bounds (a : Ask) : Prop where
  c : a.code ∈ codes
  a0 : 0 ≤ a.addr
  a1 : a.addr ≤ 65535
  t0 : 0 ≤ a.to
  t1 : a.to ≤ 65535
  n0 : 0 ≤ a.count
  n1 : a.count ≤ 2000
  w1 : a.words.length ≤ 123
  b1 : a.bits.length ≤ 1968
theorem bounds {a : Ask} (h : formed a = true) : Bounds a := by
  unfold formed at h
  simp only [Bool.and_eq_true, decide_eq_true_eq, isC] at h
  obtain ⟨⟨⟨⟨⟨h1, h2⟩, h3⟩, h4⟩, _⟩, ⟨⟨⟨h5, h6⟩, h7⟩, h8⟩, _⟩ := h
  obtain ⟨m0, m1, m2, m3, m4, m5⟩ := most_le a.code
  have g2 := fits_le h2 m0
  have g3 := fits_le h3 m2
  have g4 := fits_le h4 m4
  exact ⟨h1, h5, h6, h7, h8, by omega, by omega, by omega, by omega⟩
end Ak

end Go.Proofs.Ytaembpncoicdpaa
