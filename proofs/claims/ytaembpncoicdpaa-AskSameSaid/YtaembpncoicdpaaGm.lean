
/-
  Requests: what bytes may be of (the mathematics).
-/
import Derived.Test.YtaembpncoicdpaaRask2
namespace Go.Proofs.Ytaembpncoicdpaa
open Go.RowKit

namespace Ak
/-- The request that bytes may be of. -/
def guess (b : List UInt8) : Ask :=
  let c := (b.getD 0 0).toNat
  let a : Ask := { zero with code := c, addr := num b 1 }
  if c = 1 ∨ c = 2 ∨ c = 3 ∨ c = 4 then { a with count := num b 3 }
  else if c = 5 then { a with bits := [num b 3 != 0] }
  else if c = 6 then { a with words := [UInt16.ofNat (num b 3)] }
  else if c = 15 then { a with bits := Word.bitsOf (b.drop 6) (min (num b 3) (8 * (b.drop 6).length)) }
  else if c = 16 then { a with words := Word.ansWords (b.drop 6) }
  else if c = 22 then { a with and_ := UInt16.ofNat (num b 3), or_ := UInt16.ofNat (num b 5) }
  else if c = 23 then { a with count := num b 3, to := num b 5, words := Word.ansWords (b.drop 10) }
  else if c = 43 then (if b.length = 4 then { a with addr := (b.getD 3 0).toNat, count := (b.getD 2 0).toNat } else { a with addr := 0 })
  else a
/-- Parse: the request (or the zero one), and the exception. -/
def parse (b : List UInt8) : Ask × Nat :=
  if b.length = 0 ∨ isC (b.getD 0 0).toNat = false ∨ (b.getD 0 0 = 43 ∧ 1 < b.length ∧ b.getD 1 0 ≠ 14) then (zero, 1)
  else if formed (guess b) = false ∨ text (guess b) ≠ b then (zero, 3)
  else if placed (guess b) = false then (zero, 2)
  else (guess b, 0)
theorem num_lt (b : List UInt8) (k : Nat) : num b k < 65536 := by
  unfold num
  split
  · omega
  · have := (b.getD k 0).toNat_lt
    have := (b.getD (k + 1) 0).toNat_lt
    omega
end Ak

/-- Cells of a request in a row. -/
def askCells (a : Ask) (h k : Option Addr × Nat × Nat) : Array Value := #[.int .i64 a.code, .int .i64 a.addr, .int .i64 a.count, .int .i64 a.to, .slice h.1 h.2.1 h.2.2, .slice k.1 k.2.1 k.2.2, u16v a.and_, u16v a.or_]
/-- A header's cells lie from a block on. -/
def FarH (B : Nat) (h : Option Addr × Nat × Nat) : Prop := ∀ b o s, h.1 = some ⟨b, o, s⟩ → 0 < h.2.1 → B ≤ b
theorem FarH.none (B n c : Nat) : FarH B (Option.none, n, c) := fun _ _ _ h => by cases h
/-- What guess leaves. -/
def GuessPost (w : World) (b : List UInt8) (e : Ending) (w' : World) : Prop :=
  ∃ h k, e = .returned (askV (Ak.guess b) h k) ∧ AskIn w' (Ak.guess b) h k ∧ Below w.heap.size w w' ∧ FarH w.heap.size h ∧ FarH w.heap.size k
theorem row_set {w : World} {g i : Nat} {cs : Array Value} {t : TypeId} {fr : Nat × Nat} (h : w.heap[g]? = some (.cells cs t fr)) (v : Value) : (w.setCell ⟨g, i, none⟩ v).heap[g]? = some (.cells (cs.setIfInBounds i v) t fr) := by
  simp [World.setCell, Array.getElem?_modify, h]
theorem row_set_far {w : World} {g k i : Nat} {o : Obj} (h : w.heap[g]? = some o) (hne : k ≠ g) (v : Value) : (w.setCell ⟨k, i, none⟩ v).heap[g]? = some o := by
  simp only [World.setCell]
  rw [Array.getElem?_modify, if_neg hne]
  exact h
theorem row_eight_free {w : World} {g : Nat} {c0 c1 c2 c3 c4 c5 c6 c7 : Value} {t : TypeId} (h : w.heap[g]? = some (.cells #[c0, c1, c2, c3, c4, c5, c6, c7] t (0, 0))) :
    w.frozen? ⟨g, 0, none⟩ = false ∧ w.frozen? ⟨g, 1, none⟩ = false ∧ w.frozen? ⟨g, 2, none⟩ = false ∧ w.frozen? ⟨g, 3, none⟩ = false ∧ w.frozen? ⟨g, 4, none⟩ = false ∧ w.frozen? ⟨g, 5, none⟩ = false ∧ w.frozen? ⟨g, 6, none⟩ = false ∧ w.frozen? ⟨g, 7, none⟩ = false := by
  simp [World.frozen?, h]
end Go.Proofs.Ytaembpncoicdpaa
