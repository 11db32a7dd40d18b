/-
  The laws' own 'awake': true, and nothing that was there is touched.
-/
import Derived.Test.YtglejgfmdgjijaaRef
import Derived.Test.YtglejgfmdgjijaaMask
import Derived.Test.YtglejgfmdgjijaaRbits
import Derived.Test.YtglejgfmdgjijaaEq
namespace Go.Proofs.Ytglejgfmdgjijaa
open Go.RowKit

theorem awake_w1 : Word.isWords [1, 2, 3, 4] = true := by decide +kernel
theorem awake_w2 : Word.ansWords [1, 2, 3, 4] = [258, 772] := by decide +kernel
theorem awake_b1 : Word.isBitsI [5] 3 = true := by decide +kernel
theorem awake_b2 : Word.ansBitsI [5] 3 = [true, false, true] := by decide +kernel
theorem awake_b3 : Word.isBitsI [5] 2 = false := by decide +kernel
theorem awake_p : Word.pack [true, false, true] = [5] := by decide +kernel
theorem awake_m (w : World) : Calls Try.prog 18 #[.int .u16 18, .int .u16 242, .int .u16 37] w fun e w' => e = .returned (.int .u16 23) ∧ w = w' := by
  have h := mask_any 18 242 37 w
  rw [show Word.mask 18 242 37 = 23 by decide +kernel] at h
  exact h
theorem awake_put (w : World) : Calls Try.prog 19 #[.int .u16 258] w fun e w' => e = .returned (.agg #[.int .u8 1, .int .u8 2]) ∧ Below w.heap.size w w' := by
  have h := put_any 258 w
  rw [twov_eq] at h
  exact h

set_option maxRecDepth 100000 in
set_option maxHeartbeats 1000000 in
theorem awake_any (w : World) : Calls Try.prog 6 #[] w fun e w' => e = .returned (.bool true) ∧ Below w.heap.size w w' := by
  have heq := fun (w : World) (a b c d : Int) => two_eql w a b c d
  go_enter Try.func6, Try.ntmps6
  go_wp2_with fail
  refine (words_any _ 4 4 [1, 2, 3, 4] rfl (by omega) (by omega) _ (lies_new _ _ _ _ rfl)).mono ?_
  rintro e w1 ⟨A1, n1, c1, rfl, hn1, hnc1, _, hy1, hbe1⟩
  rw [awake_w1]
  rw [awake_w2] at hn1 hy1
  obtain rfl : n1 = 2 := hn1.symm
  clear hn1
  have hbw1 : Below w.heap.size w w1 := ((Below.refl _ _).alloc (Nat.le_refl _) _).trans (hbe1.mono (by simp))
  have hz1 := hbw1.size
  clear hbe1
  go_wp2_with fail
  refine (bits_any _ 1 1 [5] 3 (by omega) rfl (by omega) _ (lies_new _ _ _ _ rfl)).mono ?_
  rintro e w2 ⟨A2, n2, c2, rfl, hn2, hnc2, _, hy2, hbe2⟩
  rw [awake_b1]
  rw [awake_b2] at hn2 hy2
  obtain rfl : n2 = 3 := hn2.symm
  clear hn2
  have hbe2' : Below w1.heap.size w1 w2 := ((Below.refl _ _).alloc (Nat.le_refl _) _).trans (hbe2.mono (by simp))
  have hbw2 := hbw1.trans (hbe2'.mono hz1)
  have hy12 := hy1.below hbe2' (Nat.le_refl _)
  have hz2 := hbw2.size
  clear hbe2 hbe2' hy1 hbw1 hz1
  go_wp2_with fail
  refine (bits_any _ 1 1 [5] 2 (by omega) rfl (by omega) _ (lies_new _ _ _ _ rfl)).mono ?_
  rintro e w3 ⟨A3, n3, c3, rfl, _, _, _, _, hbe3⟩
  rw [awake_b3]
  have hbe3' : Below w2.heap.size w2 w3 := ((Below.refl _ _).alloc (Nat.le_refl _) _).trans (hbe3.mono (by simp))
  have hbw3 := hbw2.trans (hbe3'.mono hz2)
  have hy13 := hy12.below hbe3' (Nat.le_refl _)
  have hy23 := hy2.below hbe3' (Nat.le_refl _)
  have hz3 := hbw3.size
  clear hbe3 hbe3' hy12 hy2 hbw2 hz2
  go_wp2_with fail
  refine (pack_any _ 3 3 [true, false, true] rfl (by omega) (by omega) _ (lies_new _ _ _ _ rfl)).mono ?_
  rintro e w4 ⟨A4, c4, rfl, _, _, hy4, hbe4⟩
  rw [awake_p] at hy4
  have hbe4' : Below w3.heap.size w3 w4 := ((Below.refl _ _).alloc (Nat.le_refl _) _).trans (hbe4.mono (by simp))
  have hbw4 := hbw3.trans (hbe4'.mono hz3)
  have hy14 := hy13.below hbe4' (Nat.le_refl _)
  have hy24 := hy23.below hbe4' (Nat.le_refl _)
  have hz4 := hbw4.size
  clear hbe4 hbe4' hy13 hy23 hbw3 hz3
  obtain ⟨b1, o1, rfl, hlt1, hc1⟩ := hy14.at_ (by simp)
  have hc11 : w4.cell? ⟨b1, o1 + 1, none⟩ = some (.int .u16 772) := hc1 1 (by simp)
  obtain ⟨b2, o2, rfl, hlt2, hc2⟩ := hy24.at_ (by simp)
  have hc22 : w4.cell? ⟨b2, o2 + 2, none⟩ = some (.bool true) := hc2 2 (by simp)
  obtain ⟨b4, o4, rfl, hlt4, hc4⟩ := hy4.at_ (by simp)
  have hc40 : w4.cell? ⟨b4, o4, none⟩ = some (.int .u8 5) := hc4 0 (by simp)
  clear hc1 hc2 hc4 hy24 hy4
  go_wp2_with fail
  refine (awake_m _).mono ?_
  rintro e w5 ⟨rfl, rfl⟩
  go_wp2_with fail
  refine (awake_put _).mono ?_
  rintro e w6 ⟨rfl, hbe6⟩
  have hbw6 := hbw4.trans (hbe6.mono hz4)
  have hy16 := hy14.below hbe6 (Nat.le_refl _)
  go_wp2_with fail
  refine (bytes_any _ 2 c1 [258, 772] rfl (by omega) _ hy16).mono ?_
  rintro e w7 ⟨A7, c7, rfl, _, _, _, hbe7⟩
  have hbw7 := hbw6.trans (hbe7.mono hbw6.size)
  go_wp2_with fail
  go_ret
  exact ⟨rfl, hbw7⟩
end Go.Proofs.Ytglejgfmdgjijaa
