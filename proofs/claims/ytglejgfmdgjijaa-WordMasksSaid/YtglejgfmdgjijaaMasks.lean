/-
  The law WordMasks, walked: it answers true, and nothing that was there is touched.
-/
import Derived.Test.YtglejgfmdgjijaaAwake
namespace Go.Proofs.Ytglejgfmdgjijaa
open Go.RowKit

theorem mask_ones_any (x o : UInt16) (w : World) : Calls Try.prog 18 #[u16v x, .int .u16 65535, u16v o] w fun e w' => e = .returned (u16v x) ∧ w = w' := by
  have h := mask_any x 65535 o w
  rw [Word.mask_ones] at h
  exact h
theorem mask_none_any (x o : UInt16) (w : World) : Calls Try.prog 18 #[u16v x, .int .u16 0, u16v o] w fun e w' => e = .returned (u16v o) ∧ w = w' := by
  have h := mask_any x 0 o w
  rw [Word.mask_none] at h
  exact h

set_option maxRecDepth 100000 in
set_option maxHeartbeats 1000000 in
theorem masks_small (x a o : UInt16) (A : Option Addr) (n c : Nat) (l : List Bool) (hn : l.length = n) (hnc : n ≤ c) (hm : n ≤ 400) (w : World) (hl : Lies bitv w A l) :
    Calls Try.prog 4 #[.agg #[u16v x, u16v a, u16v o], .slice A n c] w fun e w' => e = .returned (.bool true) ∧ Below w.heap.size w w' := by
  have HN := Lib.hid hn
  clear hn
  have heq := fun (w : World) (a b c d : Int) => two_eql w a b c d
  have HP : Hid ((Word.pack l).length = (n + 7) / 8) := Lib.hid (by rw [Word.pack_length, HN.out])
  go_enter Try.func4, Try.ntmps4
  go_wp2_with fail
  have hbe0 : Below w.heap.size w (w.alloc (.cells #[u16v x, u16v a, u16v o] 36)) := (Below.refl _ _).alloc (Nat.le_refl _) _
  have hl0 := hl.below hbe0 (Nat.le_refl _)
  have hrow : Lies u16v (w.alloc (.cells #[u16v x, u16v a, u16v o] 36)) (some ⟨w.heap.size, 0, none⟩) [x, a, o] := lies_new _ _ _ _ rfl
  refine (awake_any _).mono ?_
  rintro e w1 ⟨rfl, hbe1'⟩
  have hbe1 := hbe0.trans (hbe1'.mono hbe0.size)
  have hl1 := hl0.below hbe1' (Nat.le_refl _)
  have hr1 := hrow.below hbe1' (Nat.le_refl _)
  have hx0 : w1.cell? ⟨w.heap.size, 0, none⟩ = some (u16v x) := hr1.row 0 (by simp)
  have hx1 : w1.cell? ⟨w.heap.size, 1, none⟩ = some (u16v a) := hr1.row 1 (by simp)
  have hx2 : w1.cell? ⟨w.heap.size, 2, none⟩ = some (u16v o) := hr1.row 2 (by simp)
  clear hl hbe0 hl0 hrow hbe1' hr1
  go_wp2_with fail
  refine (pack_any A n c l HN.out hnc (by omega) _ hl1).mono ?_
  rintro e w2 ⟨A2, c2, rfl, _, _, hy2, hbe2'⟩
  have hbe2 := hbe1.trans (hbe2'.mono hbe1.size)
  have hl2 := hl1.below hbe2' (Nat.le_refl _)
  clear hl1 hbe1 hbe2' hx0 hx1 hx2
  go_wp2_with fail
  refine (rpack_any A n c l HN.out (by omega) _ hl2).mono ?_
  rintro e w3 ⟨A3, c3, rfl, _, _, hy3, hbe3'⟩
  have hbe3 := hbe2.trans (hbe3'.mono hbe2.size)
  have hy23 := hy2.below hbe3' (Nat.le_refl _)
  clear hl2 hbe2 hbe3' hy2
  go_wp2_with fail
  refine (rsame8_any A2 A3 _ _ c2 c3 _ _ HP.out HP.out (by unfold maxLen; omega) _ hy23 hy3).mono ?_
  rintro e w4 ⟨rfl, q4, rfl⟩
  rw [beq_self_eq_true]
  have hbe4 := drewN_below hbe3 q4
  clear hbe3 hy23 hy3
  have hz4 := hbe4.size
  generalize w3.drewN q4 = w4 at *
  go_wp2_with fail
  refine (mask_any x a o _).mono ?_
  rintro e w5 ⟨rfl, rfl⟩
  go_wp2_with fail
  refine (put_any x _).mono ?_
  rintro e w6 ⟨rfl, hbe6⟩
  have hbw6 := hbe4.trans (hbe6.mono hz4)
  have hz6 := hbw6.size
  go_wp2_with fail
  refine (rput_any x _).mono ?_
  rintro e w7 ⟨rfl, hbe7⟩
  have hbw7 := hbw6.trans (hbe7.mono hz6)
  rw [twov_eq]
  clear hbe4 hz4 hbe6 hbw6 hz6 hbe7
  go_wp2_with fail
  refine (rmask_any x a o _).mono ?_
  rintro e w8 ⟨rfl, rfl⟩
  go_wp2_with fail
  refine (mask_any (Word.mask x a o) a o _).mono ?_
  rintro e w9 ⟨rfl, rfl⟩
  rw [Word.mask_again]
  go_wp2_with fail
  refine (mask_ones_any x o _).mono ?_
  rintro e w10 ⟨rfl, rfl⟩
  go_wp2_with fail
  refine (mask_none_any x o _).mono ?_
  rintro e w11 ⟨rfl, rfl⟩
  go_wp2_with fail
  go_ret
  exact ⟨by simp, hbw7⟩

set_option maxRecDepth 100000 in
set_option maxHeartbeats 400000 in
theorem masks_any (x a o : UInt16) (A : Option Addr) (n c : Nat) (l : List Bool) (hn : l.length = n) (hnc : n ≤ c) (w : World) (hl : Lies bitv w A l) :
    Calls Try.prog 4 #[.agg #[u16v x, u16v a, u16v o], .slice A n c] w fun e w' => e = .returned (.bool true) ∧ Below w.heap.size w w' := by
  by_cases h1 : n ≤ 400
  · exact masks_small x a o A n c l hn hnc h1 w hl
  · clear hn hl
    have g1 : (400 : Int) < (n : Int) := by omega
    go_enter Try.func4, Try.ntmps4
    go_wp2_with fail
    have hbe0 : Below w.heap.size w (w.alloc (.cells #[u16v x, u16v a, u16v o] 36)) := (Below.refl _ _).alloc (Nat.le_refl _) _
    have hrow : Lies u16v (w.alloc (.cells #[u16v x, u16v a, u16v o] 36)) (some ⟨w.heap.size, 0, none⟩) [x, a, o] := lies_new _ _ _ _ rfl
    refine (awake_any _).mono ?_
    rintro e w1 ⟨rfl, hbe1'⟩
    have hbe1 := hbe0.trans (hbe1'.mono hbe0.size)
    have hr1 := hrow.below hbe1' (Nat.le_refl _)
    have hx0 : w1.cell? ⟨w.heap.size, 0, none⟩ = some (u16v x) := hr1.row 0 (by simp)
    have hx1 : w1.cell? ⟨w.heap.size, 1, none⟩ = some (u16v a) := hr1.row 1 (by simp)
    have hx2 : w1.cell? ⟨w.heap.size, 2, none⟩ = some (u16v o) := hr1.row 2 (by simp)
    go_wp2_with fail
    go_ret
    exact ⟨rfl, hbe1⟩
end Go.Proofs.Ytglejgfmdgjijaa
