
/-
  The landed ask: layoutBy.
-/
import Derived.Test.YtcbkbdoaaaofjaaGreatRi
import Derived.Lib.MinMax
namespace Go.Proofs.YtcbkbdoaaaofjaaGreat
open Go.RowKit Go.Shelf

/-- The layout that bytes begin with. -/
def layBy (b : List UInt8) : Option LK := if b.length = 0 then none else match layOf ((b.getD 0 0).toNat : Nat) with
  | none => none
  | some L => if b.take (min b.length L.begin_.length) == L.begin_.take (min b.length L.begin_.length) then some L else none
/-- What layoutBy leaves. -/
def LayByPost (w : World) (b : List UInt8) (e : Ending) (w' : World) : Prop :=
  Below w.heap.size w w' ∧ (match layBy b with
    | none => ∃ A n c B m m2 f, e = .returned (.tuple #[.agg #[.slice A n c, .slice B m m2, f], .bool false]) ∧ (f = .nilFunc ∨ ∃ g, f = .func (.func g) #[] #[])
    | some L => ∃ A n c b m g, e = .returned (.tuple #[.agg #[.slice A n c, .slice (some ⟨b, 0, none⟩) m m, .func (.func g) #[] #[]], .bool true]) ∧ LayIn w.heap.size w' L (.agg #[.slice A n c, .slice (some ⟨b, 0, none⟩) m m, .func (.func g) #[] #[]]) ∧ InsideOK g L.inside)
theorem LayByPost.none {w w' : World} {b : List UInt8} {A B : Option Addr} {n c m m2 : Nat} {f : Value} (hl : layBy b = Option.none) (hf : f = .nilFunc ∨ ∃ g, f = .func (.func g) #[] #[]) (hb : Below w.heap.size w w') : LayByPost w b (.returned (.tuple #[.agg #[.slice A n c, .slice B m m2, f], .bool false])) w' :=
  ⟨hb, by rw [hl]; exact ⟨A, n, c, B, m, m2, f, rfl, hf⟩⟩

end Go.Proofs.YtcbkbdoaaaofjaaGreat
