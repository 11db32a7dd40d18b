/-
  The law's own 'awake': true, and nothing that was there is touched.
-/
import Derived.Test.YtdiodopdndojbaaCut
import Derived.Lib.SlBytesConst
namespace Go.Proofs.Ytdiodopdndojbaa
open Go.RowKit

namespace Crc
theorem front_put_eq (l : List UInt8) : front (put l) = l := by
  unfold front
  rw [put_length, Nat.add_sub_cancel]
  unfold put
  rw [List.take_left]
theorem isPut_put (l : List UInt8) : isPut (put l) = true := by
  rw [isPut_long _ (by rw [put_length]; omega), front_put_eq]
  simp
theorem cut_put (l : List UInt8) : cut (put l) = l := by
  unfold cut
  rw [isPut_put, if_pos rfl, front_put_eq]
theorem more_example : more 65535 [49, 50, 51, 52, 53, 54, 55, 56, 57] = 19255 := by decide +kernel
theorem isPut_no : isPut [1, 2, 3] = false := by decide +kernel
end Crc

set_option maxRecDepth 100000 in
set_option maxHeartbeats 400000 in
theorem awake_any (w : World) : Calls Try.prog 6 #[] w fun e w' => e = .returned (.bool true) ∧ Below w.heap.size w w' := by
  have kc := fun (w : World) (C : Array Value) (n c : Nat) => Lib.run_convert_bytes_const (P := Try.prog) w 23 5 C n c Try.underlying23 Try.underlying5
  go_enter Try.func6, Try.ntmps6
  go_wp2_with fail
  refine (put_any _ 2 2 [1, 2] rfl (by omega) _ (bytes_new _ _ _ _ rfl)).mono ?_
  rintro e w1 ⟨A1, c1, rfl, hc1, hc2, hb1, hbe1⟩
  have hbw1 : Below w.heap.size w w1 := ((Below.refl _ _).alloc (Nat.le_refl _) _).trans (hbe1.mono (by simp))
  clear hbe1
  go_wp2_with fail
  refine (cut_any A1 4 c1 (Crc.put [1, 2]) rfl hc1 (by omega) _ hb1).mono ?_
  rintro e w2 ⟨A2, n2, c2, rfl, hn2, hnc2, _, hb2, hbe2⟩
  rw [Crc.cut_put] at hn2 hb2
  rw [Crc.isPut_put]
  obtain rfl : n2 = 2 := hn2.symm
  clear hn2
  have hbw2 : Below w.heap.size w w2 := hbw1.trans (hbe2.mono hbw1.size)
  clear hb1 hbe2 hbw1
  have hz2 := hbw2.size
  go_wp2_with fail
  refine (cut_any _ 3 3 [1, 2, 3] rfl (by omega) (by omega) _ (bytes_new _ _ _ _ rfl)).mono ?_
  rintro e w3 ⟨A3, n3, c3, rfl, hn3, hnc3, _, hb3, hbe3⟩
  rw [Crc.isPut_no]
  have hbe3' : Below w2.heap.size w2 w3 := ((Below.refl _ _).alloc (Nat.le_refl _) _).trans (hbe3.mono (by simp))
  have hbw3 : Below w.heap.size w w3 := hbw2.trans (hbe3'.mono hz2)
  have hb23 := hb2.below hbe3' (Nat.le_refl _)
  clear hb2 hbw2 hbe3 hbe3' hb3 hn3 hz2 hnc3
  have hz3 := hbw3.size
  go_wp2_with fail
  refine (sum_any _ 9 9 [49, 50, 51, 52, 53, 54, 55, 56, 57] rfl (by unfold maxLen; omega) _ (bytes_new _ _ _ _ rfl _)).mono ?_
  rintro e w4 ⟨rfl, rfl⟩
  rw [Crc.more_example]
  obtain ⟨b, off, rfl, hc⟩ := hb23.at_ (by simp)
  have hc1 : w3.cell? ⟨b, off + 1, none⟩ = some (.int .u8 2) := hc 1 (by simp)
  have hlt : b < w3.heap.size := World.block_lt_of_cell? (a := ⟨b, off + 1, none⟩) w3 hc1
  clear hc hb23
  go_wp2_with fail
  go_ret
  exact ⟨rfl, hbw3.alloc hz3 _⟩
end Go.Proofs.Ytdiodopdndojbaa
