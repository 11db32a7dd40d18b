/-
  The law WordBack, walked: it answers true, and nothing that was there is touched.
-/
import Derived.Test.YtglejgfmdgjijaaAwake
namespace Go.Proofs.Ytglejgfmdgjijaa
open Go.RowKit

theorem Word.isBitsI_pack (l : List Bool) (n : Nat) (hn : l.length = n) : Word.isBitsI (Word.pack l) n = true := by
  subst hn
  unfold Word.isBitsI
  simp [Word.isBits_pack]
theorem Word.ansBitsI_pack (l : List Bool) (n : Nat) (hn : l.length = n) : Word.ansBitsI (Word.pack l) n = l := by
  unfold Word.ansBitsI
  rw [Word.isBitsI_pack l n hn, if_pos rfl]
  subst hn
  exact Word.bitsOf_pack l

set_option maxRecDepth 100000 in
set_option maxHeartbeats 1000000 in
theorem back_small (A : Option Addr) (n c : Nat) (l : List UInt16) (hn : l.length = n) (hm : n ≤ 400) (A' : Option Addr) (n' c' : Nat) (s : List Bool) (hn' : s.length = n') (hnc' : n' ≤ c') (hm' : n' ≤ 400) (w : World) (hl : Lies u16v w A l) (hs : Lies bitv w A' s) :
    Calls Try.prog 5 #[.slice A n c, .slice A' n' c'] w fun e w' => e = .returned (.bool true) ∧ Below w.heap.size w w' := by
  have HN := Lib.hid hn
  have HN' := Lib.hid hn'
  clear hn hn'
  have HI := Lib.hid (Word.isBitsI_pack s n' HN'.out)
  have HA := Lib.hid (Word.ansBitsI_pack s n' HN'.out)
  go_enter Try.func5, Try.ntmps5
  go_wp2_with fail
  refine (awake_any _).mono ?_
  rintro e w1 ⟨rfl, hbe1⟩
  have hl1 := hl.below hbe1 (Nat.le_refl _)
  have hs1 := hs.below hbe1 (Nat.le_refl _)
  clear hl hs
  go_wp2_with fail
  refine (bytes_any A n c l HN.out (by omega) _ hl1).mono ?_
  rintro e w2 ⟨A2, c2, rfl, hc21, hc22, hy2, hbe2'⟩
  have hbe2 := hbe1.trans (hbe2'.mono hbe1.size)
  have hl2 := hl1.below hbe2' (Nat.le_refl _)
  have hs2 := hs1.below hbe2' (Nat.le_refl _)
  clear hl1 hs1 hbe1 hbe2'
  have HB : Hid ((Word.bytes l).length = 2 * n) := Lib.hid (by rw [Word.bytes_length, HN.out])
  go_wp2_with fail
  refine (words_any A2 (2 * n) c2 (Word.bytes l) HB.out hc21 (by omega) _ hy2).mono ?_
  rintro e w3 ⟨A3, n3, c3, rfl, hn3, _, _, hy3, hbe3'⟩
  rw [Word.isWords_bytes]
  rw [Word.ans_bytes] at hn3 hy3
  obtain rfl : n3 = n := hn3.symm.trans HN.out
  have hbe3 := hbe2.trans (hbe3'.mono hbe2.size)
  have hl3 := hl2.below hbe3' (Nat.le_refl _)
  have hs3 := hs2.below hbe3' (Nat.le_refl _)
  clear hl2 hs2 hbe2 hbe3' hy2 hn3
  go_wp2_with fail
  refine (pack_any A' n' c' s HN'.out hnc' (by omega) _ hs3).mono ?_
  rintro e w4 ⟨A4, c4, rfl, hc41, _, hy4, hbe4'⟩
  have hbe4 := hbe3.trans (hbe4'.mono hbe3.size)
  have hl4 := hl3.below hbe4' (Nat.le_refl _)
  have hs4 := hs3.below hbe4' (Nat.le_refl _)
  have hy34 := hy3.below hbe4' (Nat.le_refl _)
  clear hl3 hs3 hbe3 hbe4' hy3
  have HP : Hid ((Word.pack s).length = (n' + 7) / 8) := Lib.hid (by rw [Word.pack_length, HN'.out])
  go_wp2_with fail
  refine (bits_any A4 ((n' + 7) / 8) c4 (Word.pack s) n' (by omega) HP.out (by omega) _ hy4).mono ?_
  rintro e w5 ⟨A5, n5, c5, rfl, hn5, _, _, hy5, hbe5'⟩
  rw [HI.out]
  rw [HA.out] at hn5 hy5
  obtain rfl : n5 = n' := hn5.symm.trans HN'.out
  have hbe5 := hbe4.trans (hbe5'.mono hbe4.size)
  have hl5 := hl4.below hbe5' (Nat.le_refl _)
  have hs5 := hs4.below hbe5' (Nat.le_refl _)
  have hy35 := hy34.below hbe5' (Nat.le_refl _)
  clear hl4 hs4 hbe4 hbe5' hy4 hy34 hn5
  go_wp2_with fail
  refine (rsame16_any A3 A n3 n3 c3 c l l HN.out HN.out (by unfold maxLen; omega) _ hy35 hl5).mono ?_
  rintro e w6 ⟨rfl, q6, rfl⟩
  rw [beq_self_eq_true]
  go_wp2_with fail
  refine (rsameb_any A5 A' n5 n5 c5 c' s s HN'.out HN'.out (by unfold maxLen; omega) _ (hy5.drewN q6) (hs5.drewN q6)).mono ?_
  rintro e w7 ⟨rfl, q7, rfl⟩
  rw [beq_self_eq_true]
  go_wp2_with fail
  go_ret
  exact ⟨by simp, drewN_below hbe5 _⟩

set_option maxRecDepth 100000 in
set_option maxHeartbeats 400000 in
theorem back_any (A : Option Addr) (n c : Nat) (l : List UInt16) (hn : l.length = n) (A' : Option Addr) (n' c' : Nat) (s : List Bool) (hn' : s.length = n') (hnc' : n' ≤ c') (w : World) (hl : Lies u16v w A l) (hs : Lies bitv w A' s) :
    Calls Try.prog 5 #[.slice A n c, .slice A' n' c'] w fun e w' => e = .returned (.bool true) ∧ Below w.heap.size w w' := by
  by_cases h1 : n ≤ 400
  · by_cases h2 : n' ≤ 400
    · exact back_small A n c l hn h1 A' n' c' s hn' hnc' h2 w hl hs
    · clear hn hn' hl hs
      have g1 : (n : Int) ≤ 400 := by omega
      have g2 : (400 : Int) < (n' : Int) := by omega
      go_enter Try.func5, Try.ntmps5
      go_wp2_with fail
      refine (awake_any _).mono ?_
      rintro e w1 ⟨rfl, hbe1⟩
      go_wp2_with fail
      go_ret
      exact ⟨rfl, hbe1⟩
  · clear hn hn' hl hs
    have g1 : (400 : Int) < (n : Int) := by omega
    go_enter Try.func5, Try.ntmps5
    go_wp2_with fail
    refine (awake_any _).mono ?_
    rintro e w1 ⟨rfl, hbe1⟩
    go_wp2_with fail
    go_ret
    exact ⟨rfl, hbe1⟩
end Go.Proofs.Ytglejgfmdgjijaa
