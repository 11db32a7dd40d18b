/-
  The laws CrcSums and CrcParts, walked: each answers true, and nothing that was there is touched.
-/
import Derived.Test.YtdiodopdndojbaaAwake
namespace Go.Proofs.Ytdiodopdndojbaa
open Go.RowKit

set_option maxRecDepth 100000 in
set_option maxHeartbeats 1000000 in
theorem sums_small (s : Nat) (hs : s < 65536) (A : Option Addr) (n c : Nat) (l : List UInt8) (hn : l.length = n) (hnc : n ≤ c) (hm : n ≤ 600) (w : World) (hb : Bytes w A l) :
    Calls Try.prog 3 #[.int .u16 s, .slice A n c] w fun e w' => e = .returned (.bool true) ∧ Below w.heap.size w w' := by
  have HN := Lib.hid hn
  clear hn
  go_enter Try.func3, Try.ntmps3
  go_wp2_with fail
  refine (awake_any _).mono ?_
  rintro e w1 ⟨rfl, hbe1⟩
  have hb1 := hb.below hbe1 (Nat.le_refl _)
  go_wp2_with fail
  refine (cut_any A n c l HN.out hnc (by omega) _ hb1).mono ?_
  rintro e w2 ⟨A2, n2, c2, rfl, hn2, hnc2, hc2, hy2, hbe2'⟩
  have hbe2 := hbe1.trans (hbe2'.mono hbe1.size)
  have hb2 := hb1.below hbe2' (Nat.le_refl _)
  clear hb1 hbe1 hbe2'
  have HN2 := Lib.hid hn2
  clear hn2
  go_wp2_with fail
  refine (rcut_any A n c l HN.out hnc (by omega) _ hb2).mono ?_
  rintro e w3 ⟨A3, n3, c3, rfl, hn3, hnc3, hc3, hy3, hbe3'⟩
  have hbe3 := hbe2.trans (hbe3'.mono hbe2.size)
  have hb3 := hb2.below hbe3' (Nat.le_refl _)
  have hy23 := hy2.below hbe3' (Nat.le_refl _)
  clear hb2 hbe2 hbe3' hy2
  have HN3 := Lib.hid hn3
  clear hn3
  go_wp2_with fail
  refine (put_any A n c l HN.out (by omega) _ hb3).mono ?_
  rintro e w4 ⟨A4, c4, rfl, hc41, hc42, hy4, hbe4'⟩
  have hbe4 := hbe3.trans (hbe4'.mono hbe3.size)
  have hb4 := hb3.below hbe4' (Nat.le_refl _)
  have hy24 := hy23.below hbe4' (Nat.le_refl _)
  have hy34 := hy3.below hbe4' (Nat.le_refl _)
  clear hb3 hbe3 hbe4' hy23 hy3
  go_wp2_with fail
  refine (rput_any A n c l HN.out (by omega) _ hb4).mono ?_
  rintro e w5 ⟨A5, c5, rfl, hc51, hc52, hy5, hbe5'⟩
  have hbe5 := hbe4.trans (hbe5'.mono hbe4.size)
  have hb5 := hb4.below hbe5' (Nat.le_refl _)
  have hy25 := hy24.below hbe5' (Nat.le_refl _)
  have hy35 := hy34.below hbe5' (Nat.le_refl _)
  have hy45 := hy4.below hbe5' (Nat.le_refl _)
  clear hb4 hbe4 hbe5' hy24 hy34 hy4
  have hp : Hid ((Crc.put l).length = n + 2) := by have := HN.out; show _ = _; rw [Crc.put_length, this]
  go_wp2_with fail
  refine (rsame_any A4 A5 (n + 2) (n + 2) c4 c5 _ _ hp.out hp.out (by unfold maxLen; omega) _ hy45 hy5).mono ?_
  rintro e w6 ⟨rfl, q6, rfl⟩
  rw [beq_self_eq_true]
  have h65 : n2 ≤ 65536 := by have := HN2.out; have := HN.out; unfold Crc.cut at *; split at * <;> simp_all [Crc.front_length] <;> omega
  go_wp2_with fail
  refine (rsame_any A2 A3 n2 n3 c2 c3 _ _ HN2.out HN3.out (by unfold maxLen; omega) _ (hy25.drewN q6) (hy35.drewN q6)).mono ?_
  rintro e w7 ⟨rfl, q7, rfl⟩
  rw [beq_self_eq_true]
  have hml : n ≤ maxLen := by unfold maxLen; omega
  have HS := Lib.hid (Crc.more_lt l (show 65535 < 65536 by omega))
  go_wp2_with fail
  refine (sum_any A n c l HN.out hml _ (hb5.drewN _)).mono ?_
  rintro e w8 ⟨rfl, rfl⟩
  go_wp2_with fail
  refine (rsum_any A n c l HN.out hml _ (hb5.drewN _)).mono ?_
  rintro e w9 ⟨rfl, q9, rfl⟩
  go_wp2_with fail
  refine (more_any _ s rfl hs A n c l HN.out hml _ (hb5.drewN _)).mono ?_
  rintro e w10 ⟨rfl, rfl⟩
  go_wp2_with fail
  refine (rmore_any _ s rfl hs A n c l HN.out hml _ (hb5.drewN _)).mono ?_
  rintro e w11 ⟨rfl, q11, rfl⟩
  go_wp2_with fail
  go_ret
  exact ⟨by simp, drewN_below hbe5 _⟩

set_option maxRecDepth 100000 in
set_option maxHeartbeats 400000 in
theorem sums_any (s : Nat) (hs : s < 65536) (A : Option Addr) (n c : Nat) (l : List UInt8) (hn : l.length = n) (hnc : n ≤ c) (w : World) (hb : Bytes w A l) :
    Calls Try.prog 3 #[.int .u16 s, .slice A n c] w fun e w' => e = .returned (.bool true) ∧ Below w.heap.size w w' := by
  by_cases hm : n ≤ 600
  · exact sums_small s hs A n c l hn hnc hm w hb
  · clear hn hb
    have h6 : (600 : Int) < (n : Int) := by omega
    go_enter Try.func3, Try.ntmps3
    go_wp2_with fail
    refine (awake_any _).mono ?_
    rintro e w1 ⟨rfl, hbe1⟩
    go_wp2_with fail
    go_ret
    exact ⟨rfl, hbe1⟩
end Go.Proofs.Ytdiodopdndojbaa
