/-
  The laws' own 'awake': true, and nothing that was there is touched.
-/
import Derived.Test.YtlabjopmimnifaaLand
namespace Go.Proofs.Ytlabjopmimnifaa
open Go.RowKit

theorem awake_f1 : Rtu.codeP [4, 0, 0, 0, 10] = 0 := by decide +kernel
theorem awake_f2 : Rtu.bytes 1 [4, 0, 0, 0, 10] = [1, 4, 0, 0, 0, 10, 112, 13] := by decide +kernel
theorem awake_f3 : Rtu.codeB [1, 4, 0, 0, 0, 10, 112, 13] = 0 := by decide +kernel
theorem awake_f4 : Rtu.unit [1, 4, 0, 0, 0, 10, 112, 13] = 1 := by decide +kernel
theorem awake_f5 : Rtu.pdu [1, 4, 0, 0, 0, 10, 112, 13] = [4, 0, 0, 0, 10] := by decide +kernel
theorem awake_f6 : Rtu.codeB [1, 2, 3] = 3 := by decide +kernel
theorem awake_f7 : Rtu.codeB [1, 2, 3, 4] = 6 := by decide +kernel

/-- A frame's row. -/
theorem row_frame {w w' : World} {a b : Value} {t : TypeId} (h : Below (w.heap.size + 1) (w.alloc (.cells #[a, b] t)) w') :
    w'.cell? ⟨w.heap.size, 0, none⟩ = some a ∧ w'.cell? ⟨w.heap.size, 1, none⟩ = some b :=
  have := row_two ((h.block w.heap.size (by omega)).trans (heap_alloc_new w (.cells #[a, b] t)))
  ⟨this.1, this.2.1⟩

set_option maxRecDepth 100000 in
set_option maxHeartbeats 1000000 in
theorem awake_any (w : World) : Calls Try.prog 6 #[] w fun e w' => e = .returned (.bool true) ∧ Below w.heap.size w w' := by
  go_enter Try.func6, Try.ntmps6
  go_wp2_with fail
  refine (bytes3_any 1 _ 5 5 [4, 0, 0, 0, 10] rfl (by omega) _ (lies_new _ _ _ _ rfl)).mono ?_
  rintro e w1 ⟨A1, n1, c1, rfl, hn1, hown1, hbe1⟩
  rw [awake_f1]
  rw [awake_f2] at hn1 hown1
  obtain rfl : n1 = 8 := hn1.symm
  obtain ⟨h11, h12, _, hy1⟩ := own_at hown1
  have hbw1 : Below w.heap.size w w1 := ((Below.refl _ _).alloc (Nat.le_refl _) _).trans (hbe1.mono (by simp))
  have hz1 := hbw1.size
  clear hn1 hown1 hbe1
  go_wp2_with fail
  refine (read3_any A1 8 c1 [1, 4, 0, 0, 0, 10, 112, 13] rfl h11 (by omega) _ hy1).mono ?_
  rintro e w2 ⟨A2, n2, c2, rfl, hn2, _, _, hy2, hbe2⟩
  rw [awake_f3, awake_f4]
  rw [awake_f5] at hn2 hy2
  obtain rfl : n2 = 5 := hn2.symm
  have hbw2 := hbw1.trans (hbe2.mono hz1)
  have hy12 := hy1.below hbe2 (Nat.le_refl _)
  have hz2 := hbw2.size
  clear hn2 hbe2 hy1 hbw1 hz1
  go_wp2_with fail
  have hb20 : Below w2.heap.size w2 (w2.alloc (.cells #[.int .u8 1, .slice A2 5 c2] 24)) := (Below.refl _ _).alloc (Nat.le_refl _) _
  refine (read3_any _ 3 3 [1, 2, 3] rfl (by omega) (by omega) _ (lies_at (f := u8v) (w2.alloc (.cells #[.int .u8 1, .slice A2 5 c2] 24)) #[.int .u8 1, .int .u8 2, .int .u8 3] 5 (w2.heap.size + 1) [1, 2, 3] rfl (by simp))).mono ?_
  rintro e w3 ⟨A3, n3, c3, rfl, hn3, _, _, _, hbe3⟩
  rw [awake_f6]
  have hb23 : Below (w2.heap.size + 1) (w2.alloc (.cells #[.int .u8 1, .slice A2 5 c2] 24)) w3 := ((Below.refl _ _).alloc (by simp) _).trans (hbe3.mono (by simp))
  obtain ⟨hx0, hx1⟩ := row_frame hb23
  have hbe3' : Below w2.heap.size w2 w3 := hb20.trans (hb23.mono (by omega))
  have hbw3 := hbw2.trans (hbe3'.mono hz2)
  have hy13 := hy12.below hbe3' (Nat.le_refl _)
  have hy23 := hy2.below hbe3' (Nat.le_refl _)
  have hz3 := hbw3.size
  have hlt3 : w2.heap.size < w3.heap.size := by have := hb23.size; simp at this; omega
  clear hb20 hbe3 hb23 hbe3' hbw2 hy12 hy2 hn3
  go_wp2_with fail
  refine (read3_any _ 4 4 [1, 2, 3, 4] rfl (by omega) (by omega) _ (lies_at (f := u8v) (w3.alloc (.cells #[.int .u8 (Rtu.unit [1, 2, 3]).toNat, .slice A3 n3 c3] 24)) #[.int .u8 1, .int .u8 2, .int .u8 3, .int .u8 4] 5 (w3.heap.size + 1) [1, 2, 3, 4] rfl (by simp))).mono ?_
  rintro e w4 ⟨A4, n4, c4, rfl, hn4, _, _, _, hbe4⟩
  rw [awake_f7]
  have hbe4' : Below w3.heap.size w3 w4 := (((Below.refl _ _).alloc (Nat.le_refl _) _).alloc (by simp) _).trans (hbe4.mono (by simp; omega))
  have hbw4 := hbw3.trans (hbe4'.mono hz3)
  have hy14 := hy13.below hbe4' (Nat.le_refl _)
  have hy24 := hy23.below hbe4' (Nat.le_refl _)
  have hx04 := (hbe4'.cell (p := ⟨w2.heap.size, 0, none⟩) hlt3).trans hx0
  have hx14 := (hbe4'.cell (p := ⟨w2.heap.size, 1, none⟩) hlt3).trans hx1
  have hz4 := hbw4.size
  have hlt4 : w2.heap.size < w4.heap.size := Nat.lt_of_lt_of_le hlt3 hbe4'.size
  clear hbe4 hbe4' hbw3 hy13 hy23 hx0 hx1 hn4
  obtain ⟨b1, o1, rfl, hlt1, hc1⟩ := hy14.at_ (by simp)
  have hc16 : w4.cell? ⟨b1, o1 + 6, none⟩ = some (.int .u8 112) := hc1 6 (by simp)
  clear hc1
  go_wp2_with fail
  refine (same3_any 1 1 A2 A2 5 5 c2 c2 [4, 0, 0, 0, 10] [4, 0, 0, 0, 10] rfl rfl (by unfold maxLen; omega) _ (hy24.alloc _) (hy24.alloc _)).mono ?_
  rintro e w5 ⟨rfl, hbe5⟩
  rw [Rtu.same_self]
  go_wp2_with fail
  go_ret
  exact ⟨rfl, hbw4.trans (((Below.refl _ w4).alloc hz4 _).trans (hbe5.mono (by simp; omega)))⟩
end Go.Proofs.Ytlabjopmimnifaa
