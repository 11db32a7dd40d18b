
/-
  Requests: formed, placed, Right of the document's layer 6, walked.
-/
import Derived.Test.YtaembpncoicdpaaAk
import Derived.Test.YtaembpncoicdpaaRow
import Derived.Lib.MinMax
namespace Go.Proofs.Ytaembpncoicdpaa
open Go.RowKit

theorem row_eight {w : World} {g : Nat} {c0 c1 c2 c3 c4 c5 c6 c7 : Value} {t : TypeId} (h : w.heap[g]? = some (.cells #[c0, c1, c2, c3, c4, c5, c6, c7] t (0, 0))) :
    w.cell? ⟨g, 0, none⟩ = some c0 ∧ w.cell? ⟨g, 1, none⟩ = some c1 ∧ w.cell? ⟨g, 2, none⟩ = some c2 ∧ w.cell? ⟨g, 3, none⟩ = some c3 ∧ w.cell? ⟨g, 4, none⟩ = some c4 ∧ w.cell? ⟨g, 5, none⟩ = some c5 ∧ w.cell? ⟨g, 6, none⟩ = some c6 ∧ w.cell? ⟨g, 7, none⟩ = some c7 := by
  simp [World.cell?, h]
theorem u16_ne (x : UInt16) : ((x.toNat : Int) != 0) = (x != 0) := by
  by_cases h : x = 0
  · subst h; rfl
  · rw [bne_iff_ne.2 h, bne_iff_ne]
    intro e
    exact h (UInt16.toNat_inj.1 (by simpa using e))

end Go.Proofs.Ytaembpncoicdpaa
