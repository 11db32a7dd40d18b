
/-
  Requests: Bytes, number, behind, Same of the document's layer 6, walked.
-/
import Derived.Test.YtaembpncoicdpaaRtext
import Derived.Test.YtaembpncoicdpaaRs2
import Derived.Deep.QuietTactic
import Derived.BigQuiet
namespace Go.Proofs.Ytaembpncoicdpaa
open Go.RowKit

namespace Ak
def bytes (a : Ask) : List UInt8 := if right a then text a else []
def codeA (a : Ask) : Nat := if right a then 0 else 2
/-- The number by two bytes at a place. -/
def num (b : List UInt8) (at_ : Nat) : Nat := if b.length < at_ + 2 then 0 else 256 * (b.getD at_ 0).toNat + (b.getD (at_ + 1) 0).toNat
def same (a b : Ask) : Bool := a.code == b.code && a.addr == b.addr && a.count == b.count && a.to == b.to && a.and_ == b.and_ && a.or_ == b.or_ && a.words == b.words && a.bits == b.bits
end Ak

/-- What Bytes of layer 6 leaves. -/
def AskBytesPost (w : World) (a : Ask) (e : Ending) (w' : World) : Prop :=
  ∃ A n c, e = .returned (.tuple #[.slice A n c, .int .i64 ((Ak.codeA a : Nat) : Int)]) ∧ (Ak.bytes a).length = n ∧ w'.ownsRow w.heap.size 5 1 (.slice A n c) n ((Ak.bytes a).map u8v) ∧ Below w.heap.size w w'

end Go.Proofs.Ytaembpncoicdpaa
