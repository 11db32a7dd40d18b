/-
  The law WordTells, walked: it answers true, and nothing that was there is touched.
-/
import Derived.Test.YtglejgfmdgjijaaAwake
namespace Go.Proofs.Ytglejgfmdgjijaa
open Go.RowKit

set_option maxRecDepth 100000 in
set_option maxHeartbeats 1000000 in
theorem tells_small (A : Option Addr) (n c : Nat) (b : List UInt8) (hn : b.length = n) (hnc : n ≤ c) (hm : n ≤ 400) (A' : Option Addr) (n' c' : Nat) (l : List UInt16) (hn' : l.length = n') (hm' : n' ≤ 400) (N : Int) (hN : N ≤ 9223372036854775807) (w : World) (hb : Lies u8v w A b) (hl : Lies u16v w A' l) :
    Calls Try.prog 3 #[.slice A n c, .slice A' n' c', .int .i64 N] w fun e w' => e = .returned (.bool true) ∧ Below w.heap.size w w' := by
  have HN := Lib.hid hn
  have HN' := Lib.hid hn'
  clear hn hn'
  go_enter Try.func3, Try.ntmps3
  go_wp2_with fail
  refine (awake_any _).mono ?_
  rintro e w1 ⟨rfl, hbe1⟩
  have hb1 := hb.below hbe1 (Nat.le_refl _)
  have hl1 := hl.below hbe1 (Nat.le_refl _)
  clear hb hl
  go_wp2_with fail
  refine (words_any A n c b HN.out hnc (by omega) _ hb1).mono ?_
  rintro e w2 ⟨A2, n2, c2, rfl, hn2, hnc2, hc2, hy2, hbe2'⟩
  have hbe2 := hbe1.trans (hbe2'.mono hbe1.size)
  have hb2 := hb1.below hbe2' (Nat.le_refl _)
  have hl2 := hl1.below hbe2' (Nat.le_refl _)
  clear hb1 hl1 hbe1 hbe2'
  have HN2 := Lib.hid hn2
  clear hn2
  go_wp2_with fail
  refine (rwords_any A n c b HN.out (by omega) _ hb2).mono ?_
  rintro e w3 ⟨A3, n3, c3, rfl, hn3, hnc3, hc3, hy3, hbe3'⟩
  have hbe3 := hbe2.trans (hbe3'.mono hbe2.size)
  have hb3 := hb2.below hbe3' (Nat.le_refl _)
  have hl3 := hl2.below hbe3' (Nat.le_refl _)
  have hy23 := hy2.below hbe3' (Nat.le_refl _)
  clear hb2 hl2 hbe2 hbe3' hy2
  have HN3 := Lib.hid hn3
  clear hn3
  go_wp2_with fail
  refine (rsame16_any A2 A3 n2 n3 c2 c3 _ _ HN2.out HN3.out (by omega) _ hy23 hy3).mono ?_
  rintro e w4 ⟨rfl, q4, rfl⟩
  rw [beq_self_eq_true]
  have hbe4 := drewN_below hbe3 q4
  have hb4 := hb3.drewN q4
  have hl4 := hl3.drewN q4
  clear hbe3 hb3 hl3 hy23 hy3
  go_wp2_with fail
  refine (bits_any A n c b N hN HN.out (by omega) _ hb4).mono ?_
  rintro e w5 ⟨A5, n5, c5, rfl, hn5, hnc5, hc5, hy5, hbe5'⟩
  have hbe5 := hbe4.trans (hbe5'.mono hbe4.size)
  have hb5 := hb4.below hbe5' (Nat.le_refl _)
  have hl5 := hl4.below hbe5' (Nat.le_refl _)
  clear hb4 hl4 hbe4 hbe5'
  have HN5 := Lib.hid hn5
  clear hn5
  go_wp2_with fail
  refine (rbits_any A n c b N hN HN.out (by omega) _ hb5).mono ?_
  rintro e w6 ⟨A6, n6, c6, rfl, hn6, hnc6, hc6, hy6, hbe6'⟩
  have hbe6 := hbe5.trans (hbe6'.mono hbe5.size)
  have hl6 := hl5.below hbe6' (Nat.le_refl _)
  have hy56 := hy5.below hbe6' (Nat.le_refl _)
  clear hb5 hl5 hbe5 hbe6' hy5
  have HN6 := Lib.hid hn6
  clear hn6
  go_wp2_with fail
  refine (rsameb_any A5 A6 n5 n6 c5 c6 _ _ HN5.out HN6.out (by omega) _ hy56 hy6).mono ?_
  rintro e w7 ⟨rfl, q7, rfl⟩
  rw [beq_self_eq_true]
  have hbe7 := drewN_below hbe6 q7
  have hl7 := hl6.drewN q7
  clear hbe6 hl6 hy56 hy6
  go_wp2_with fail
  refine (bytes_any A' n' c' l HN'.out (by omega) _ hl7).mono ?_
  rintro e w8 ⟨A8, c8, rfl, _, _, hy8, hbe8'⟩
  have hbe8 := hbe7.trans (hbe8'.mono hbe7.size)
  have hl8 := hl7.below hbe8' (Nat.le_refl _)
  clear hl7 hbe7 hbe8'
  go_wp2_with fail
  refine (rbytes_any A' n' c' l HN'.out (by omega) _ hl8).mono ?_
  rintro e w9 ⟨A9, c9, rfl, _, _, hy9, hbe9'⟩
  have hbe9 := hbe8.trans (hbe9'.mono hbe8.size)
  have hy89 := hy8.below hbe9' (Nat.le_refl _)
  clear hl8 hbe8 hbe9' hy8
  have HB : Hid ((Word.bytes l).length = 2 * n') := Lib.hid (by rw [Word.bytes_length, HN'.out])
  go_wp2_with fail
  refine (rsame8_any A8 A9 (2 * n') (2 * n') c8 c9 _ _ HB.out HB.out (by unfold maxLen; omega) _ hy89 hy9).mono ?_
  rintro e w10 ⟨rfl, q10, rfl⟩
  rw [beq_self_eq_true]
  go_wp2_with fail
  go_ret
  exact ⟨by simp, drewN_below hbe9 _⟩

set_option maxRecDepth 100000 in
set_option maxHeartbeats 400000 in
theorem tells_any (A : Option Addr) (n c : Nat) (b : List UInt8) (hn : b.length = n) (hnc : n ≤ c) (A' : Option Addr) (n' c' : Nat) (l : List UInt16) (hn' : l.length = n') (N : Int) (hN : N ≤ 9223372036854775807) (w : World) (hb : Lies u8v w A b) (hl : Lies u16v w A' l) :
    Calls Try.prog 3 #[.slice A n c, .slice A' n' c', .int .i64 N] w fun e w' => e = .returned (.bool true) ∧ Below w.heap.size w w' := by
  by_cases h1 : n ≤ 400
  · by_cases h2 : n' ≤ 400
    · exact tells_small A n c b hn hnc h1 A' n' c' l hn' h2 N hN w hb hl
    · clear hn hn' hb hl
      have g1 : (n : Int) ≤ 400 := by omega
      have g2 : (400 : Int) < (n' : Int) := by omega
      go_enter Try.func3, Try.ntmps3
      go_wp2_with fail
      refine (awake_any _).mono ?_
      rintro e w1 ⟨rfl, hbe1⟩
      go_wp2_with fail
      go_ret
      exact ⟨rfl, hbe1⟩
  · clear hn hn' hb hl
    have g1 : (400 : Int) < (n : Int) := by omega
    go_enter Try.func3, Try.ntmps3
    go_wp2_with fail
    refine (awake_any _).mono ?_
    rintro e w1 ⟨rfl, hbe1⟩
    go_wp2_with fail
    go_ret
    exact ⟨rfl, hbe1⟩
end Go.Proofs.Ytglejgfmdgjijaa
