
/-
  What comes in as slices of bytes in a slice, opened.
-/
import Derived.Test.YtlgmjnjhdamknaaGreatRask2
import Derived.Test.YtlgmjnjhdamknaaGreatEnds8
namespace Go.Proofs.YtlgmjnjhdamknaaGreat
open Go.ChangeShapes Go.WideShapes Go.ChangeAt Go.RowKit

/-- Bytes behind a slice's header. -/
def RBytes (w : World) (l : List UInt8) (cs : List Value) : Prop := ∃ A n c, cs = [.slice A n c] ∧ l.length = n ∧ n ≤ c ∧ c ≤ maxLen ∧ l.length ≤ 140737488355328 ∧ Lies u8v w A l
section
variable {P : Program} {H : Type} {enc : TypeId × Value → H} {w : World} {b : Nat} {sp : Nat → Bool} {hd : Bool} {t e : TypeId}
theorem open_bytes5 (hu : P.underlying t = some (.slice e)) (he : P.underlying e = some (.int .u8)) (hk : P.cellsOf e = 1) (hb : P.bytesOf e = 1) : Opens enc P w b sp hd t (RBytes w) := by
  intro m cs y h hs
  obtain ⟨l, A, n, c, h1, h2, h3, h4, h5, h6⟩ := open_slice hu hk (by omega) (open_u8 he) m cs y h hs
  rw [hb] at h5
  exact ⟨l, A, n, c, h1, h2, h3, h4, by have := reachBytes_lt; omega, h6.lies⟩
end
theorem pieces_at {w : World} {A : Option Addr} {l : List (List UInt8)} (h : SlAt w (RBytes w) 1 A l) : 0 < l.length → ∃ b o, A = some ⟨b, o, none⟩ ∧ PiecesAt w b o l := by
  intro h0
  obtain ⟨b, off, cs, e, _⟩ := h 0 h0
  refine ⟨b, off, e, fun j hj => ?_⟩
  obtain ⟨b', off', cs', e', _, hc, C, n, c, rfl, h1, h2, h3, _, h5⟩ := h j hj
  rw [e] at e'
  cases e'
  exact ⟨C, n, c, by have := hc 0 (by simp); simpa using this, h1, h2, h3, h5⟩
end Go.Proofs.YtlgmjnjhdamknaaGreat
