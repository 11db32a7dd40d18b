/-
  The two 'step's (crc.step and the document's) do the same: one byte of the sum.
-/
import Derived.Test.YtlabjopmimnifaaProg
import Derived.Test.YtlabjopmimnifaaCrc
import Derived.WalkKit
import Derived.Outline
import Derived.Below
import Derived.Lib.Hide
import Derived.Laws.BitsAllLaws
import Derived.Deep.QuietTactic
import Derived.BigQuiet
namespace Go.Proofs.Ytlabjopmimnifaa
open Go.RowKit

namespace Crc
theorem it_take (k n : Nat) : it (k + 1) n = F (it k n) := by rw [it_add]; rfl
end Crc

theorem ret_int {k : IntKind} {a b : Int} (h : a = b) : Ending.returned (.int k a) = .returned (.int k b) := by rw [h]

theorem and_one (m : Nat) (h : m < 65536) : bits .and .u16 (m : Int) 1 = ((m % 2 : Nat) : Int) := by
  have := u16_and_nat m 1 h (by omega)
  rw [nat_mask1] at this
  exact this
theorem xor_turn (m : Nat) (h : m < 65536) : bits .xor .u16 ((m : Int) / 2) 40961 = ((m / 2 ^^^ 40961 : Nat) : Int) := u16_xor_nat (m / 2) 40961 (by omega) (by omega)

set_option maxHeartbeats 400000 in
theorem step_any (s x : Nat) (hs : s < 65536) (hx : x < 256) (w : World) :
    Calls Try.prog 30 #[.int .u16 s, .int .u8 x] w fun e w' => e = .returned (.int .u16 (Crc.step s x : Nat)) ∧ w = w' := by
  have hxor := u16_xor_nat s x hs (by omega)
  go_enter Try.func30, Try.ntmps30
  go_wp2
  clear hxor
  have hlt : ∀ k, Crc.it k (s ^^^ x) < 65536 := fun k => Crc.it_lt k (Nat.xor_lt_two_pow (n := 16) (by omega) (by omega))
  have HL := Lib.hid hlt
  clear hlt
  go_loop [0, 10] (fun t i => ∃ k : Nat, k ≤ 8 ∧ i = .int .i64 k ∧ t = .int .u16 (Crc.it k (s ^^^ x) : Nat)) (fun _ i => 8 - (intOf i).toNat)
  case atStart => exact ⟨0, by omega, rfl, rfl⟩
  case round =>
    obtain ⟨k, hk, rfl, rfl⟩ := hrel
    have hm := HL.out k
    clear HL
    by_cases hlt : k < 8
    · have HT := Lib.hid (Crc.it_take k (s ^^^ x))
      generalize Crc.it k (s ^^^ x) = m at hm HT
      rcases Nat.mod_two_eq_zero_or_one m with h2 | h2
      · have ha := and_one m hm
        rw [h2] at ha
        have HF : Hid (Crc.it (k + 1) (s ^^^ x) = m / 2) := by have := HT.out; rw [this]; show Crc.F m = _; unfold Crc.F; rw [if_neg (by omega)]
        clear h2 HT
        go_wp2
        go_round
        case rel => exact ⟨k + 1, by omega, by go_num, by rw [HF.out]; rfl⟩
        case measure => simp [intOf]; omega
      · have ha := and_one m hm
        rw [h2] at ha
        have hx := xor_turn m hm
        have HF : Hid (Crc.it (k + 1) (s ^^^ x) = m / 2 ^^^ 40961) := by have := HT.out; rw [this]; show Crc.F m = _; unfold Crc.F; rw [if_pos (by omega)]
        clear h2 HT
        go_wp2
        go_round
        case rel => exact ⟨k + 1, by omega, by go_num, by rw [HF.out]⟩
        case measure => simp [intOf]; omega
    · obtain rfl : k = 8 := by omega
      go_wp2
      go_ret
      exact ⟨rfl, rfl⟩

namespace Crc
/-- The lower bits of an xor, one more. -/
theorem low_more (a c B : Nat) (j : Nat) (hB : 2 ^ j = B) : (a ^^^ c) % (2 * B) = (a ^^^ c) % B + (if a / B % 2 = c / B % 2 then 0 else B) := by
  subst hB
  have h1 : (a ^^^ c) % (2 ^ j * 2) = (a ^^^ c) % 2 ^ j + 2 ^ j * ((a ^^^ c) / 2 ^ j % 2) := Nat.mod_mul
  rw [Nat.mul_comm 2, h1, Nat.xor_div_two_pow]
  have h2 : (a / 2 ^ j ^^^ c / 2 ^ j) % 2 = (a / 2 ^ j % 2) ^^^ (c / 2 ^ j % 2) := Nat.xor_mod_two_pow (n := 1)
  rw [h2]
  rcases Nat.mod_two_eq_zero_or_one (a / 2 ^ j) with h3 | h3 <;> rcases Nat.mod_two_eq_zero_or_one (c / 2 ^ j) with h4 | h4 <;> simp [h3, h4]
theorem low_all (s c : Nat) (hc : c < 256) : s - s % 256 + (s % 256 ^^^ c) % 256 = s ^^^ c := by
  have h1 : (s % 256 ^^^ c) % 256 = s % 256 ^^^ c := Nat.mod_eq_of_lt (Nat.xor_lt_two_pow (n := 8) (by omega) (by omega))
  have h2 : s ^^^ c = (s % 256 ^^^ c) ^^^ (s / 256 * 2 ^ 8) := by
    rw [← low_xor]
    have : s % 256 ^^^ c ^^^ (s ^^^ s % 256) = (s % 256 ^^^ s % 256) ^^^ (s ^^^ c) := by ac_rfl
    rw [this, Nat.xor_self, Nat.zero_xor]
  have h3 : s % 256 ^^^ c < 256 := Nat.xor_lt_two_pow (n := 8) (by omega) (by omega)
  rw [h1, h2, ← join_xor _ _ h3]
  omega
theorem xor_lt256 {a c : Nat} (ha : a < 256) (hc : c < 256) : a ^^^ c < 256 := Nat.xor_lt_two_pow (n := 8) (by omega) (by omega)
end Crc

theorem bit_of (a B : Nat) (h : a < 65536) : (wrap64 ((a : Int) / (B : Int))).tmod 2 = ((a / B % 2 : Nat) : Int) := by
  have h0 : a / B ≤ a := Nat.div_le_self _ _
  have h1 : (a : Int) / (B : Int) = ((a / B : Nat) : Int) := by simp
  rw [h1]
  generalize a / B = q at h0
  rw [IntWalk.wrap64_in _ (by omega), Int.tmod_eq_emod_of_nonneg (by omega)]
  simp
theorem bits_same (a c B : Nat) (ha : a < 65536) (hc : c < 65536) (h : a / B % 2 = c / B % 2) :
    ((wrap64 ((a : Int) / (B : Int))).tmod 2 != (wrap64 ((c : Int) / (B : Int))).tmod 2) = false := by
  rw [bit_of a B ha, bit_of c B hc, h]; simp
theorem bits_other (a c B : Nat) (ha : a < 65536) (hc : c < 65536) (h : ¬ a / B % 2 = c / B % 2) :
    ((wrap64 ((a : Int) / (B : Int))).tmod 2 != (wrap64 ((c : Int) / (B : Int))).tmod 2) = true := by
  rw [bit_of a B ha, bit_of c B hc, bne_iff_ne]
  intro e
  exact h (by exact_mod_cast e)

set_option maxRecDepth 100000 in
set_option maxHeartbeats 400000 in
theorem rstep_any (s x : Nat) (hs : s < 65536) (hx : x < 256) (w : World) :
    Calls Try.prog 31 #[.int .u16 s, .int .u8 x] w fun e w' => e = .returned (.int .u16 (Crc.step s x : Nat)) ∧ ∃ n, w' = w.drewN n := by
  go_enter Try.func31, Try.ntmps31
  go_wp2
  obtain ⟨low, hlow⟩ : ∃ low : Nat, low = s % 256 := ⟨_, rfl⟩
  have hlw : (s : Int) % 256 = (low : Int) := by omega
  rw [hlw]
  have hl256 : low < 256 := by omega
  have HLOW := Lib.hid hlow
  clear hlow hlw
  go_loopw [7, 8] (fun t i wr => ∃ j : Nat, j ≤ 8 ∧ i = .int .i64 ((2 ^ j : Nat) : Int) ∧ t = .int .i64 (((low ^^^ x) % 2 ^ j : Nat) : Int) ∧ ∃ n, wr = w.drewN n) (fun _ i _ => 256 - (intOf i).toNat)
  case atStart => exact ⟨0, by omega, rfl, by rw [Nat.pow_zero, Nat.mod_one]; rfl, 0, rfl⟩
  case round =>
    obtain ⟨j, hj, rfl, rfl, n, rfl⟩ := hrel
    by_cases hlt : j < 8
    · have HP : Hid (2 ^ (j + 1) = 2 * 2 ^ j) := by rw [Nat.pow_succ]; exact Nat.mul_comm _ _
      have HM := fun B hB => Crc.low_more low x B j hB
      have h1 : 1 ≤ 2 ^ j := Nat.one_le_two_pow
      have h2 : 2 ^ j ≤ 2 ^ 7 := Nat.pow_le_pow_right (by omega) (by omega)
      have h3 : (low ^^^ x) % 2 ^ j < 2 ^ j := Nat.mod_lt _ (by omega)
      have HM' := Lib.hid (HM _ rfl)
      clear HM
      generalize hX : (low ^^^ x) % 2 ^ j = X at HM' h3
      generalize hB : 2 ^ j = B at HM' h1 h2 h3 HP hX
      clear hX hB
      have hb1 : (1 : Int) ≤ (B : Int) := by omega
      have hb2 : (B : Int) ≤ 128 := by omega
      by_cases hd : low / B % 2 = x / B % 2
      · have ht := bits_same low x B (by omega) (by omega) hd
        have HR : Hid ((low ^^^ x) % (2 * B) = X) := by have := HM'.out; rw [if_pos hd] at this; exact this
        clear hd HM'
        go_wp2
        go_quiet (fail)
        go_wp2
        go_roundw
        case rel => exact ⟨j + 1, by omega, by rw [HP.out]; rfl, by rw [HP.out, HR.out], _, rfl⟩
        case measure => simp [intOf]; omega
      · have ht := bits_other low x B (by omega) (by omega) hd
        have HR : Hid ((low ^^^ x) % (2 * B) = X + B) := by have := HM'.out; rw [if_neg hd] at this; exact this
        clear hd HM'
        go_wp2
        go_quiet (fail)
        go_wp2
        go_roundw
        case rel => exact ⟨j + 1, by omega, by rw [HP.out]; rfl, by rw [HP.out, HR.out]; rfl, _, rfl⟩
        case measure => simp [intOf]; omega
    · obtain rfl : j = 8 := by omega
      have HS := Lib.hid (Crc.low_all s x hx)
      have hb : (low ^^^ x) % 2 ^ 8 = low ^^^ x := Nat.mod_eq_of_lt (Crc.xor_lt256 hl256 hx)
      rw [hb]
      clear hb
      have hlo : low ≤ s := by have := HLOW.out; omega
      have hxl := Crc.xor_lt256 hl256 hx
      generalize hX : low ^^^ x = X at hxl
      have HS2 : Hid ((s : Int) - (low : Int) + (X : Int) = ((s ^^^ x : Nat) : Int)) := by
        have h1 := HS.out
        rw [← HLOW.out, hX, Nat.mod_eq_of_lt hxl] at h1
        show _ = _
        rw [← h1]
        omega
      have hsx : s ^^^ x < 65536 := Nat.xor_lt_two_pow (n := 16) (by omega) (by omega)
      clear hX HS
      have h8 : ((2 ^ 8 : Nat) : Int) = 256 := rfl
      rw [h8]
      clear h8
      go_wp2
      have hw : IntKind.u16.wrap ((s : Int) - (low : Int) + (X : Int)) = ((s ^^^ x : Nat) : Int) := by
        rw [HS2.out]; exact IntWalk.u16_in _ (by omega)
      rw [hw]
      clear hw HS2 HLOW
      have HL : Hid (∀ k, Crc.it k (s ^^^ x) < 65536) := Lib.hid fun k => Crc.it_lt k hsx
      clear hsx
      go_loop [0, 9] (fun t i => ∃ k : Nat, k ≤ 8 ∧ i = .int .i64 k ∧ t = .int .u16 (Crc.it k (s ^^^ x) : Nat)) (fun _ i => 8 - (intOf i).toNat)
      case atStart => exact ⟨0, by omega, rfl, rfl⟩
      case round =>
        obtain ⟨k, hk, rfl, rfl⟩ := hrel
        have hm := HL.out k
        clear HL
        by_cases hlt : k < 8
        · have HT := Lib.hid (Crc.it_take k (s ^^^ x))
          generalize Crc.it k (s ^^^ x) = m at hm HT
          rcases Nat.mod_two_eq_zero_or_one m with h2 | h2
          · have ha : ((m : Int) % 2 == 1) = false := by simp; omega
            have HF : Hid (Crc.it (k + 1) (s ^^^ x) = m / 2) := by have := HT.out; rw [this]; show Crc.F m = _; unfold Crc.F; rw [if_neg (by omega)]
            clear h2 HT
            go_wp2
            go_round
            case rel => exact ⟨k + 1, by omega, by go_num, by rw [HF.out]; rfl⟩
            case measure => simp [intOf]; omega
          · have ha : ((m : Int) % 2 == 1) = true := by simp; omega
            have hx := xor_turn m hm
            have HF : Hid (Crc.it (k + 1) (s ^^^ x) = m / 2 ^^^ 40961) := by have := HT.out; rw [this]; show Crc.F m = _; unfold Crc.F; rw [if_pos (by omega)]
            clear h2 HT
            go_wp2
            go_round
            case rel => exact ⟨k + 1, by omega, by go_num, by rw [HF.out]⟩
            case measure => simp [intOf]; omega
        · obtain rfl : k = 8 := by omega
          go_wp2
          go_ret
          exact ⟨rfl, n, rfl⟩
end Go.Proofs.Ytlabjopmimnifaa
