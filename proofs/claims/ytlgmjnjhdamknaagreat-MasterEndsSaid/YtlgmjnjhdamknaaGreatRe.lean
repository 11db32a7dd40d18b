
/-
  bytes.HasPrefix, bytes.CutPrefix; the landed ask: the request that bytes tell by a layout.
-/
import Derived.Test.YtlgmjnjhdamknaaGreatFt
namespace Go.Proofs.YtlgmjnjhdamknaaGreat
open Go.RowKit Go.Shelf

theorem isPrefix_take (p b : List UInt8) (_h : p.length ≤ b.length) : p.isPrefixOf b = (b.take p.length == p) := by
  rw [Bool.eq_iff_iff, List.isPrefixOf_iff_prefix, List.prefix_iff_eq_take, beq_iff_eq]
  exact ⟨fun h => h.symm, fun h => h.symm⟩
theorem isPrefix_short (p b : List UInt8) (h : b.length < p.length) : p.isPrefixOf b = false := by
  rw [Bool.eq_false_iff]
  intro h1
  have := (List.isPrefixOf_iff_prefix.1 h1).length_le
  omega

/-- What CutPrefix leaves. -/
def CutPre (w : World) (A : Option Addr) (n c m : Nat) (b : List UInt8) (is : Bool) (e : Ending) (w' : World) : Prop := w' = w ∧
  ((is = false ∧ e = .returned (.tuple #[.slice A n c, .bool false])) ∨ (is = true ∧ m ≤ n ∧ ∃ X, e = .returned (.tuple #[.slice X (n - m) (c - m), .bool true]) ∧ ∀ W, Lies u8v W A b → Lies u8v W X (b.drop m)))
/-- The request that a layout begins with. -/
def LK.first (L : LK) : Ask := { Ak.zero with code := ((L.begin_.getD 0 0).toNat : Nat) }
/-- A header's cells lie from a block on. -/
def NewH (B : Nat) (h : Option Addr × Nat × Nat) : Prop := ∀ b o s, h.1 = some ⟨b, o, s⟩ → 0 < h.2.1 → B ≤ b
/-- What read leaves. -/
def ReadAllPost (w : World) (L : LK) (b : List UInt8) (e : Ending) (w' : World) : Prop :=
  ∃ a h k ok, e = .returned (.tuple #[askV a h k, .bool ok]) ∧ AskIn w' a h k ∧ Below w.heap.size w w' ∧ NewH w.heap.size h ∧ NewH w.heap.size k ∧ (match L.readAll b with | none => ok = false | some a' => ok = true ∧ a = a')
theorem ReadAllPost.no {w w' : World} {L : LK} {b : List UInt8} {a : Ask} {h k : Option Addr × Nat × Nat} (hr : L.readAll b = none) (hi : AskIn w' a h k) (hb : Below w.heap.size w w') (n1 : NewH w.heap.size h) (n2 : NewH w.heap.size k) : ReadAllPost w L b (.returned (.tuple #[askV a h k, .bool false])) w' :=
  ⟨a, h, k, false, rfl, hi, hb, n1, n2, by rw [hr]⟩
theorem ReadAllPost.yes {w w' : World} {L : LK} {b : List UInt8} {a : Ask} {h k : Option Addr × Nat × Nat} (hr : L.readAll b = some a) (hi : AskIn w' a h k) (hb : Below w.heap.size w w') (n1 : NewH w.heap.size h) (n2 : NewH w.heap.size k) : ReadAllPost w L b (.returned (.tuple #[askV a h k, .bool true])) w' :=
  ⟨a, h, k, true, rfl, hi, hb, n1, n2, by rw [hr]; exact ⟨rfl, rfl⟩⟩
/-- What the loop holds: what is left lies behind A'. -/
def ReadInv (W2 : World) (L : LK) (b : List UInt8) (j : Nat) (A' : Option Addr) (n' c' : Nat) (ok : Bool) (a' : Ask) : Prop :=
  (ok = true ∧ ∃ r, L.begin_.isPrefixOf b = true ∧ LK.reads (L.parts.take j) (b.drop L.begin_.length) L.first = some (r, a') ∧ r.length = n' ∧ n' ≤ c' ∧ c' ≤ maxLen ∧ n' ≤ 10000 ∧ Lies u8v W2 A' r) ∨ (ok = false ∧ L.readAll b = none)
theorem PK.read_le {p : PK} {b r : List UInt8} {a a' : Ask} (h : p.read b a = some (r, a')) : r.length ≤ b.length := by
  unfold PK.read at h
  cases p with
  | num f sz lo hi =>
    dsimp only at h
    split at h
    · cases h
    · simp only [Option.some.injEq, Prod.mk.injEq] at h
      rw [← h.1, List.length_drop]; omega
  | mask f =>
    dsimp only at h
    split at h
    · cases h
    · simp only [Option.some.injEq, Prod.mk.injEq] at h
      rw [← h.1, List.length_drop]; omega
  | bit =>
    dsimp only at h
    split at h
    · cases h
    · split at h
      · simp only [Option.some.injEq, Prod.mk.injEq] at h
        rw [← h.1, List.length_drop]; omega
      · split at h
        · simp only [Option.some.injEq, Prod.mk.injEq] at h
          rw [← h.1, List.length_drop]; omega
        · cases h
  | word =>
    dsimp only at h
    split at h
    · cases h
    · simp only [Option.some.injEq, Prod.mk.injEq] at h
      rw [← h.1, List.length_drop]; omega
  | bits m =>
    dsimp only at h
    split at h
    · cases h
    · split at h
      · cases h
      · split at h
        · cases h
        · split at h
          · simp only [Option.some.injEq, Prod.mk.injEq] at h
            rw [← h.1, List.length_drop, List.length_drop, List.length_drop]; omega
          · cases h
  | words m =>
    dsimp only at h
    split at h
    · cases h
    · split at h
      · cases h
      · split at h
        · cases h
        · split at h
          · simp only [Option.some.injEq, Prod.mk.injEq] at h
            rw [← h.1, List.length_drop, List.length_drop, List.length_drop]; omega
          · cases h
theorem LK.readAll_none {L : LK} {b : List UInt8} (j : Nat) (h : LK.reads (L.parts.take j) (b.drop L.begin_.length) L.first = none) : L.readAll b = none := by
  unfold LK.readAll
  split
  · have := LK.reads_none L.parts (b.drop L.begin_.length) L.first j h
    unfold LK.first at this
    rw [this]
  · rfl
theorem LK.readAll_pre {L : LK} {b : List UInt8} (h : L.begin_.isPrefixOf b = false) : L.readAll b = none := by
  unfold LK.readAll
  rw [h]
  rfl
/-- A round that reads. -/
theorem ReadInv.step {W2 : World} {L : LK} {b : List UInt8} {j : Nat} {a' : Ask} {r : List UInt8} (hj : j < L.parts.length) (hp : L.begin_.isPrefixOf b = true) (hr : LK.reads (L.parts.take j) (b.drop L.begin_.length) L.first = some (r, a')) (hn : r.length ≤ 10000)
    {A2 : Option Addr} {n2 c2 : Nat} {ok2 : Bool} {a2 : Ask} (h : match (L.parts[j]).read r a' with | none => ok2 = false | some (r2, a3) => ok2 = true ∧ a2 = a3 ∧ r2.length = n2 ∧ n2 ≤ c2 ∧ c2 ≤ maxLen ∧ Lies u8v W2 A2 r2) : ReadInv W2 L b (j + 1) A2 n2 c2 ok2 a2 := by
  have ht := LK.reads_take L.parts (b.drop L.begin_.length) L.first j hj
  rw [hr] at ht
  dsimp only at ht
  cases hx : (L.parts[j]).read r a' with
  | none =>
    rw [hx] at h ht
    exact .inr ⟨h, LK.readAll_none (j + 1) ht⟩
  | some x =>
    obtain ⟨r2, a3⟩ := x
    rw [hx] at h ht
    obtain ⟨h1, h2, h3, h4, h5, h6⟩ := h
    have := PK.read_le hx
    exact .inl ⟨h1, r2, hp, by rw [ht, h2], h3, h4, h5, by omega, h6⟩
/-- Behind the last round. -/
theorem ReadInv.all {L : LK} {b : List UInt8} {r : List UInt8} {a' : Ask} (hp : L.begin_.isPrefixOf b = true) (hr : LK.reads L.parts (b.drop L.begin_.length) L.first = some (r, a')) : L.readAll b = if r.length = 0 then some a' else none := by
  unfold LK.readAll
  unfold LK.first at hr
  rw [hp, hr]
  cases r with
  | nil => rfl
  | cons x r => rfl

end Go.Proofs.YtlgmjnjhdamknaaGreat
