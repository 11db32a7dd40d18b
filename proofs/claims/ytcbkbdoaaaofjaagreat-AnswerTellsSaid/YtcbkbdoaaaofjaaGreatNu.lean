
/-
  The landed ask: the four function values of a part that is a number (int).
-/
import Derived.Test.YtcbkbdoaaaofjaaGreatPa
import Derived.Shelf.GgClosure.Gives
namespace Go.Proofs.YtcbkbdoaaaofjaaGreat
open Go.RowKit Go.Shelf

theorem IF.cell (f : IF) (a : Ask) (h k : Option Addr × Nat × Nat) : (askCells a h k)[f.ix]? = some (.int .i64 (f.get a)) := by cases f <;> rfl
theorem UF.cell (f : UF) (a : Ask) (h k : Option Addr × Nat × Nat) : (askCells a h k)[f.ix]? = some (u16v (f.get a)) := by cases f <;> rfl
theorem box_cell (W : World) (cs : Array Value) (t : TypeId) (i : Nat) (v : Value) (h : cs[i]? = some v) : (W.alloc (.cells cs t)).cell? ⟨W.heap.size, i, none⟩ = some v := by
  rw [cell_of_row _ _ _ _ _ _ (row_at W cs t _ rfl)]
  exact h
theorem askV_eq (a : Ask) (h k : Option Addr × Nat × Nat) : askV a h k = .agg #[.int .i64 a.code, .int .i64 a.addr, .int .i64 a.count, .int .i64 a.to, .slice h.1 h.2.1 h.2.2, .slice k.1 k.2.1 k.2.2, u16v a.and_, u16v a.or_] := rfl

set_option maxRecDepth 100000 in
set_option maxHeartbeats 400000 in
theorem numFits (f : IF) (gof : Nat) (O : OfOK gof f.ix) (b0 b2 b3 : Nat) (lo hi : Int) (W : World) (c0 : W.cell? ⟨b0, 0, none⟩ = some (.func (.func gof) #[] #[])) (c2 : W.cell? ⟨b2, 0, none⟩ = some (.int .i64 lo)) (c3 : W.cell? ⟨b3, 0, none⟩ = some (.int .i64 hi)) (a : Ask) (h k : Option Addr × Nat × Nat) :
    Calls Tryz.prog 119 #[askV a h k, .pointer (some ⟨b0, 0, none⟩), .pointer (some ⟨b2, 0, none⟩), .pointer (some ⟨b3, 0, none⟩)] W fun e w' => e = .returned (.bool (decide (lo ≤ f.get a) && decide (f.get a ≤ hi))) ∧ Below W.heap.size W w' := by
  have eg := O.en
  have hO := O.ca
  have hc := box_cell W (askCells a h k) 26 _ _ (IF.cell f a h k)
  unfold askCells at hc
  generalize f.get a = n at *
  generalize f.ix = i at *
  have l0 := World.block_lt_of_cell? _ _ c0
  have l2 := World.block_lt_of_cell? _ _ c2
  have l3 := World.block_lt_of_cell? _ _ c3
  unfold Enters at eg
  rw [askV_eq]
  by_cases g1 : lo ≤ n
  · by_cases g2 : n ≤ hi
    · go_enter Tryz.func119, Tryz.ntmps119
      go_wp2_with (go_at_fn gof; refine (hO _ _).mono ?_; rintro e w' ⟨rfl, rfl⟩)
      go_ret
      exact ⟨by simp [g1, g2], (Below.refl _ _).alloc (Nat.le_refl _) _⟩
    · go_enter Tryz.func119, Tryz.ntmps119
      go_wp2_with (go_at_fn gof; refine (hO _ _).mono ?_; rintro e w' ⟨rfl, rfl⟩)
      go_ret
      exact ⟨by simp [g1], (Below.refl _ _).alloc (Nat.le_refl _) _⟩
  · go_enter Tryz.func119, Tryz.ntmps119
    go_wp2_with (go_at_fn gof; refine (hO _ _).mono ?_; rintro e w' ⟨rfl, rfl⟩)
    go_ret
    exact ⟨by simp; omega, (Below.refl _ _).alloc (Nat.le_refl _) _⟩
end Go.Proofs.YtcbkbdoaaaofjaaGreat
