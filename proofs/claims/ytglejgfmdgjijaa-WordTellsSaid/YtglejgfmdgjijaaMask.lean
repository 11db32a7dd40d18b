/-
  Mask, and the document's.
-/
import Derived.Test.YtglejgfmdgjijaaSmall
namespace Go.Proofs.Ytglejgfmdgjijaa
open Go.RowKit

namespace Word
def maskN (n a o : Nat) : Nat := (n &&& a) ||| (o &&& (65535 - a))
def mask (n a o : UInt16) : UInt16 := UInt16.ofNat (maskN n.toNat a.toNat o.toNat)
theorem maskN_lt (n a o : Nat) (hn : n < 65536) (ho : o < 65536) : maskN n a o < 65536 := by
  have h1 : n &&& a < 2 ^ 16 := Nat.lt_of_le_of_lt Nat.and_le_left hn
  have h2 : o &&& (65535 - a) < 2 ^ 16 := Nat.lt_of_le_of_lt Nat.and_le_left ho
  exact Nat.or_lt_two_pow h1 h2
theorem mask_toNat (n a o : UInt16) : (mask n a o).toNat = maskN n.toNat a.toNat o.toNat := by
  have := maskN_lt n.toNat a.toNat o.toNat n.toNat_lt o.toNat_lt
  unfold mask
  rw [UInt16.toNat_ofNat']
  omega
theorem bit_eq (x k : Nat) : x / 2 ^ k % 2 = (x.testBit k).toNat := by
  rw [Nat.testBit_eq_decide_div_mod_eq]
  rcases Nat.mod_two_eq_zero_or_one (x / 2 ^ k) with h | h <;> simp [h]
theorem not_bit (a k : Nat) (ha : a < 65536) (hk : k < 16) : (65535 - a).testBit k = !a.testBit k := by
  have := Nat.testBit_two_pow_sub_succ (x := a) (n := 16) ha k
  rw [show 2 ^ 16 - (a + 1) = 65535 - a by omega] at this
  rw [this]
  simp [hk]
theorem maskN_bit (n a o k : Nat) (ha : a < 65536) (hk : k < 16) : (maskN n a o).testBit k = if a.testBit k then n.testBit k else o.testBit k := by
  unfold maskN
  rw [Nat.testBit_or, Nat.testBit_and, Nat.testBit_and, not_bit a k ha hk]
  cases a.testBit k <;> simp
theorem maskN_step (n a o k : Nat) (ha : a < 65536) (hk : k < 16) : maskN n a o % 2 ^ (k + 1) = maskN n a o % 2 ^ k + 2 ^ k * ((if a / 2 ^ k % 2 = 1 then n else o) / 2 ^ k % 2) := by
  rw [Nat.mod_pow_succ, bit_eq, maskN_bit n a o k ha hk]
  congr 2
  rw [bit_eq a k]
  cases h : a.testBit k <;> simp [bit_eq]
theorem maskN_end (n a o : Nat) (hn : n < 65536) (ho : o < 65536) : maskN n a o % 2 ^ 16 = maskN n a o := Nat.mod_eq_of_lt (maskN_lt n a o hn ho)
theorem mask_ext (x y : Nat) (hx : x < 65536) (hy : y < 65536) (h : ∀ k, k < 16 → x.testBit k = y.testBit k) : x = y := by
  apply Nat.eq_of_testBit_eq
  intro k
  by_cases hk : k < 16
  · exact h k hk
  · rw [Nat.testBit_lt_two_pow (Nat.lt_of_lt_of_le hx (by have := Nat.pow_le_pow_right (n := 2) (by omega) (show 16 ≤ k by omega); omega)), Nat.testBit_lt_two_pow (Nat.lt_of_lt_of_le hy (by have := Nat.pow_le_pow_right (n := 2) (by omega) (show 16 ≤ k by omega); omega))]
theorem mask_again (n a o : UInt16) : mask (mask n a o) a o = mask n a o := by
  apply UInt16.toNat_inj.1
  rw [mask_toNat, mask_toNat]
  have h1 := maskN_lt n.toNat a.toNat o.toNat n.toNat_lt o.toNat_lt
  refine mask_ext _ _ (maskN_lt _ _ _ h1 o.toNat_lt) h1 fun k hk => ?_
  rw [maskN_bit _ _ _ k a.toNat_lt hk, maskN_bit _ _ _ k a.toNat_lt hk]
  cases a.toNat.testBit k <;> simp
theorem mask_ones (n o : UInt16) : mask n 65535 o = n := by
  apply UInt16.toNat_inj.1
  rw [mask_toNat]
  refine mask_ext _ _ (maskN_lt _ _ _ n.toNat_lt o.toNat_lt) n.toNat_lt fun k hk => ?_
  rw [maskN_bit _ _ _ k (by decide) hk]
  have : (UInt16.toNat 65535).testBit k = true := by
    show (2 ^ 16 - 1).testBit k = true
    rw [Nat.testBit_two_pow_sub_one]
    simp [hk]
  rw [this]
  simp
theorem mask_none (n o : UInt16) : mask n 0 o = o := by
  apply UInt16.toNat_inj.1
  rw [mask_toNat]
  refine mask_ext _ _ (maskN_lt _ _ _ n.toNat_lt o.toNat_lt) o.toNat_lt fun k hk => ?_
  rw [maskN_bit _ _ _ k (by decide) hk]
  simp
end Word

theorem bit_of (a B : Nat) (h : a < 65536) : (wrap64 ((a : Int) / (B : Int))).tmod 2 = ((a / B % 2 : Nat) : Int) := by
  have h0 : a / B ≤ a := Nat.div_le_self _ _
  have h1 : (a : Int) / (B : Int) = ((a / B : Nat) : Int) := by simp
  rw [h1]
  generalize a / B = q at h0
  rw [IntWalk.wrap64_in _ (by omega), Int.tmod_eq_emod_of_nonneg (by omega)]
  simp
set_option maxHeartbeats 400000 in
theorem mask_any (n a o : UInt16) (w : World) :
    Calls Try.prog 18 #[u16v n, u16v a, u16v o] w fun e w' => e = .returned (u16v (Word.mask n a o)) ∧ w = w' := by
  have hn := n.toNat_lt
  have ha := a.toNat_lt
  have ho := o.toNat_lt
  unfold u16v
  rw [Word.mask_toNat]
  generalize n.toNat = n at *
  generalize a.toNat = a at *
  generalize o.toNat = o at *
  have h1 := u16_and_nat n a (by omega) (by omega)
  have h2 := u16_andNot_nat o a (by omega) (by omega)
  have l1 : n &&& a < 65536 := Nat.lt_of_le_of_lt Nat.and_le_left hn
  have l2 : o &&& (65535 - a) < 65536 := Nat.lt_of_le_of_lt Nat.and_le_left ho
  have h3 := u16_or_nat (n &&& a) (o &&& (65535 - a)) l1 l2
  have HM := Lib.hid (show Word.maskN n a o = (n &&& a) ||| (o &&& (65535 - a)) from rfl)
  generalize n &&& a = x at *
  generalize o &&& (65535 - a) = y at *
  generalize x ||| y = z at *
  go_enter Try.func18, Try.ntmps18
  go_wp2
  go_ret
  exact ⟨by rw [HM.out]; rfl, rfl⟩

set_option maxRecDepth 100000 in
set_option maxHeartbeats 400000 in
theorem rmask_any (n a o : UInt16) (w : World) :
    Calls Try.prog 21 #[u16v n, u16v a, u16v o] w fun e w' => e = .returned (u16v (Word.mask n a o)) ∧ w = w' := by
  have hn := n.toNat_lt
  have ha := a.toNat_lt
  have ho := o.toNat_lt
  unfold u16v
  rw [Word.mask_toNat]
  generalize n.toNat = n at *
  generalize a.toNat = a at *
  generalize o.toNat = o at *
  have hn1 : n ≤ 65535 := by omega
  have ha1 : a ≤ 65535 := by omega
  have ho1 : o ≤ 65535 := by omega
  clear hn ha ho
  have HE := Lib.hid (Word.maskN_end n a o (by omega) (by omega))
  have HL := Lib.hid (Word.maskN_lt n a o (by omega) (by omega))
  have HS := Lib.hid (fun k hk => Word.maskN_step n a o k (by omega) hk)
  generalize Word.maskN n a o = M at *
  obtain ⟨N, HN⟩ : ∃ N : Nat, Hid (65536 ≤ N) := ⟨65536, Lib.hid (Nat.le_refl _)⟩
  go_enter Try.func21, Try.ntmps21
  go_wp2
  go_loopw [7, 8] (fun out bit wr => ∃ k B X : Nat, k ≤ 16 ∧ Hid (B = 2 ^ k) ∧ bit = .int .i64 (B : Int) ∧ out = .int .i64 (X : Int) ∧ Hid (X = M % 2 ^ k) ∧ wr = w) (fun _ bit _ => N - (intOf bit).toNat)
  case atStart => exact ⟨0, 1, 0, by omega, Lib.hid rfl, rfl, rfl, Lib.hid (by rw [Nat.pow_zero, Nat.mod_one]), rfl⟩
  case round =>
    obtain ⟨k, B, X, hk, HB, rfl, rfl, HX, rfl⟩ := hrel
    have hB1 : 0 < B := by rw [HB.out]; exact Nat.two_pow_pos k
    have hX : X < B := by rw [HX.out, HB.out]; exact Nat.mod_lt _ (Nat.two_pow_pos k)
    by_cases hlt : k < 16
    · have hB2 : B ≤ 32768 := by rw [HB.out]; exact Nat.pow_le_pow_right (n := 2) (by omega) (show k ≤ 15 by omega)
      have HS2 := HS.out k hlt
      rw [← HX.out, ← HB.out] at HS2
      have HB2 : Hid (2 * B = 2 ^ (k + 1)) := Lib.hid (by rw [HB.out, Nat.pow_succ]; omega)
      have hBI : (B : Int) < 65536 := by omega
      by_cases h1 : a / B % 2 = 1
      · rw [if_pos h1] at HS2
        have h1' : (wrap64 ((a : Int) / (B : Int))).tmod 2 = 1 := by rw [bit_of a B (by omega)]; omega
        clear h1
        by_cases h2 : n / B % 2 = 1
        · rw [h2, Nat.mul_one] at HS2
          have h2' : (wrap64 ((n : Int) / (B : Int))).tmod 2 = 1 := by rw [bit_of n B (by omega)]; omega
          have HS3 := Lib.hid HS2
          clear h2 HS2
          go_wp2
          go_roundw
          case rel => exact ⟨k + 1, 2 * B, X + B, by omega, HB2, by simp, by simp, Lib.hid HS3.out.symm, trivial⟩
          case measure => have hN := HN.out; simp [intOf]; omega
        · rw [show n / B % 2 = 0 by omega, Nat.mul_zero, Nat.add_zero] at HS2
          have h2' : (wrap64 ((n : Int) / (B : Int))).tmod 2 = 0 := by rw [bit_of n B (by omega)]; omega
          have HS3 := Lib.hid HS2
          clear h2 HS2
          go_wp2
          go_roundw
          case rel => exact ⟨k + 1, 2 * B, X, by omega, HB2, by simp, rfl, Lib.hid HS3.out.symm, trivial⟩
          case measure => have hN := HN.out; simp [intOf]; omega
      · rw [if_neg h1] at HS2
        have h1' : (wrap64 ((a : Int) / (B : Int))).tmod 2 = 0 := by rw [bit_of a B (by omega)]; omega
        clear h1
        by_cases h2 : o / B % 2 = 1
        · rw [h2, Nat.mul_one] at HS2
          have h2' : (wrap64 ((o : Int) / (B : Int))).tmod 2 = 1 := by rw [bit_of o B (by omega)]; omega
          have HS3 := Lib.hid HS2
          clear h2 HS2
          go_wp2
          go_roundw
          case rel => exact ⟨k + 1, 2 * B, X + B, by omega, HB2, by simp, by simp, Lib.hid HS3.out.symm, trivial⟩
          case measure => have hN := HN.out; simp [intOf]; omega
        · rw [show o / B % 2 = 0 by omega, Nat.mul_zero, Nat.add_zero] at HS2
          have h2' : (wrap64 ((o : Int) / (B : Int))).tmod 2 = 0 := by rw [bit_of o B (by omega)]; omega
          have HS3 := Lib.hid HS2
          clear h2 HS2
          go_wp2
          go_roundw
          case rel => exact ⟨k + 1, 2 * B, X, by omega, HB2, by simp, rfl, Lib.hid HS3.out.symm, trivial⟩
          case measure => have hN := HN.out; simp [intOf]; omega
    · obtain rfl : k = 16 := by omega
      obtain rfl : B = 65536 := HB.out
      obtain rfl : X = M := HX.out.trans HE.out
      have hm := HL.out
      go_wp2
      go_ret
      exact ⟨rfl, rfl⟩
end Go.Proofs.Ytglejgfmdgjijaa
