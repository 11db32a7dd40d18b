
/-
  What a call may change: blocks of a list, and what is made in it.
-/
import Derived.Test.YtaembpncoicdpaaRow
namespace Go.Proofs.Ytaembpncoicdpaa
open Go.RowKit

structure But (S : List Nat) (w w' : World) : Prop where
  os : w'.os = w.os
  tape : w'.tape = w.tape
  output : w'.output = w.output
  size : w.heap.size ≤ w'.heap.size
  block : ∀ k, k < w.heap.size → k ∉ S → w'.heap[k]? = w.heap[k]?

section
variable {S T : List Nat} {a b w w' : World}
theorem But.refl (S : List Nat) (w : World) : But S w w := ⟨rfl, rfl, rfl, Nat.le_refl _, fun _ _ _ => rfl⟩
theorem But.trans (h : But S a b) (k : But S b w) : But S a w :=
  ⟨k.os.trans h.os, k.tape.trans h.tape, k.output.trans h.output, Nat.le_trans h.size k.size, fun i hi hn => (k.block i (Nat.lt_of_lt_of_le hi h.size) hn).trans (h.block i hi hn)⟩
theorem But.mono (h : But S w w') (hS : ∀ k ∈ S, k ∈ T) : But T w w' := ⟨h.os, h.tape, h.output, h.size, fun k hk hn => h.block k hk fun hm => hn (hS k hm)⟩
theorem But.of_below {B : Nat} (h : Below B w w') (hB : w.heap.size ≤ B) (S : List Nat := []) : But S w w' := ⟨h.os, h.tape, h.output, h.size, fun k hk _ => h.block k (Nat.lt_of_lt_of_le hk hB)⟩
theorem But.below {B : Nat} (h : But S w w') (hS : ∀ k ∈ S, B ≤ k) (hB : B ≤ w.heap.size) : Below B w w' := ⟨h.os, h.tape, h.output, h.size, fun k hk => h.block k (Nat.lt_of_lt_of_le hk hB) fun hm => absurd (hS k hm) (by omega)⟩
theorem But.then_below (h : But S a w) (k : Below w.heap.size w w') : But S a w' := h.trans (But.of_below k (Nat.le_refl _) S)
theorem But.then_low (h : But S a w) (k : Below a.heap.size w w') : But S a w' :=
  ⟨k.os.trans h.os, k.tape.trans h.tape, k.output.trans h.output, Nat.le_trans h.size k.size, fun i hi hn => (k.block i hi).trans (h.block i hi hn)⟩
theorem But.of_low {B : Nat} (h : Below B w w') : But ((List.range w.heap.size).filter fun k => decide (B ≤ k)) w w' :=
  ⟨h.os, h.tape, h.output, h.size, fun k hk hn => h.block k (by
    rcases Nat.lt_or_ge k B with h1 | h1
    · exact h1
    · exact absurd (List.mem_filter.2 ⟨List.mem_range.2 hk, by simpa using h1⟩) hn)⟩
theorem But.alloc (h : But S a w) (o : Obj) : But S a (w.alloc o) := h.then_below ((Below.refl _ _).alloc (Nat.le_refl _) o)
theorem But.drewN (h : But S a w) (n : Nat) : But S a (w.drewN n) := ⟨h.os, h.tape, h.output, h.size, h.block⟩
theorem But.setCell (h : But S a w) {p : Addr} (hp : p.block ∈ S ∨ a.heap.size ≤ p.block) (u : Value) : But S a (w.setCell p u) := by
  refine ⟨h.os, h.tape, h.output, by rw [show (w.setCell p u).heap.size = w.heap.size by simp [World.setCell]]; exact h.size, fun k hk hn => ?_⟩
  rw [Below.heap_setCell w p u k (by rintro rfl; rcases hp with hp | hp; exact hn hp; omega)]
  exact h.block k hk hn
theorem But.cell (h : But S w w') {p : Addr} (hp : p.block < w.heap.size) (hn : p.block ∉ S) : w'.cell? p = w.cell? p := World.cell?_of_block (w := w) (h.block p.block hp hn)
theorem But.grown {row : Option Nat} (h : But S a w) (hg : w.grownBy w' row) (hr : ∀ k, row = some k → k ∈ S ∨ a.heap.size ≤ k) : But S a w' := by
  refine ⟨hg.os.trans h.os, hg.tape.trans h.tape, hg.output.trans h.output, Nat.le_trans h.size hg.size, fun k hk hn => ?_⟩
  rw [hg.block k (Nat.lt_of_lt_of_le hk h.size) (fun e => by rcases hr k e.symm with h1 | h1; exact hn h1; omega)]
  exact h.block k hk hn
theorem Lies.but {α : Type} {f : α → Value} {A : Option Addr} {l : List α} (h : Lies f w A l) (hb : But S w w') (hn : ∀ b o s, A = some ⟨b, o, s⟩ → 0 < l.length → b ∉ S) : Lies f w' A l := by
  intro j hj
  obtain ⟨b, off, rfl, hc⟩ := h j hj
  exact ⟨b, off, rfl, (hb.cell (p := ⟨b, off + j, none⟩) (World.block_lt_of_cell? w _ hc) (hn _ _ _ rfl (by omega))).trans hc⟩
theorem row_but {g : Nat} {o : Obj} (h : w.heap[g]? = some o) (hb : But S w w') (hn : g ∉ S) : w'.heap[g]? = some o := (hb.block g (row_lt h) hn).trans h
theorem own_but {B e k n : Nat} {v : Value} {xs : List Value} (h : w.ownsRow B e k v n xs) (hb : But S w w') (hn : ∀ g, v.ownBlock = some g → g ∉ S) : w'.ownsRow B e k v n xs := by
  refine ⟨h.1, ?_⟩
  rcases h.2 with h' | ⟨g, cap, cur, rfl, hbg, hg, rest⟩
  · exact .inl h'
  · exact .inr ⟨g, cap, cur, rfl, hbg, row_but hg hb (hn g rfl), rest⟩
/-- Cells of a number do not lie in a row whose cells are none. -/
theorem far_row {g : Nat} {cs : Array Value} {t : TypeId} {fr : Nat × Nat} {α : Type} {f : α → Value} {A : Option Addr} {l : List α} (hg : w.heap[g]? = some (.cells cs t fr)) (h : Lies f w A l) (hne : ∀ (x : α) (i : Nat) (v : Value), cs[i]? = some v → f x ≠ v) : ∀ b o s, A = some ⟨b, o, s⟩ → 0 < l.length → b ∉ [g] := by
  rintro b o s rfl h0 hm
  obtain rfl : b = g := by simpa using hm
  obtain ⟨b', o', e, hc⟩ := h 0 h0
  cases e
  rw [cell_of_row w _ _ _ _ _ hg] at hc
  exact hne _ _ _ hc rfl
end
end Go.Proofs.Ytaembpncoicdpaa
