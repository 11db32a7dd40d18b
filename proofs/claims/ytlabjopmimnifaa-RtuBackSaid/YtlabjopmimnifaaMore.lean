/-
  The sums of bytes: crc.More, crc.Sum, and the document's.
-/
import Derived.Test.YtlabjopmimnifaaStep
import Derived.Test.YtlabjopmimnifaaMem
namespace Go.Proofs.Ytlabjopmimnifaa
open Go.RowKit

set_option maxRecDepth 100000 in
set_option maxHeartbeats 400000 in
theorem more_any (vs : Value) (s : Nat) (hv : vs = .int .u16 (s : Nat)) (hs : s < 65536) (A : Option Addr) (n c : Nat) (l : List UInt8) (hn : l.length = n) (hm : n ≤ maxLen) (w : World) (hb : Lies u8v w A l) :
    Calls Try.prog 28 #[vs, .slice A n c] w fun e w' => e = .returned (.int .u16 (Crc.more s l : Nat)) ∧ w = w' := by
  subst hv
  subst hn
  unfold maxLen at hm
  go_enter Try.func28, Try.ntmps28
  go_wp2
  have HL : Hid (∀ k, Crc.more s (l.take k) < 65536) := Lib.hid fun k => Crc.more_lt _ hs
  go_loop [0, 9] (fun t i => ∃ k : Nat, k ≤ l.length ∧ i = .int .i64 k ∧ t = .int .u16 (Crc.more s (l.take k) : Nat)) (fun _ i => l.length - (intOf i).toNat)
  case atStart => exact ⟨0, Nat.zero_le _, rfl, rfl⟩
  case round =>
    obtain ⟨k, hk, rfl, rfl⟩ := hrel
    have hm := HL.out k
    clear HL
    by_cases hlt : k < l.length
    · obtain ⟨b, off, rfl, hc⟩ := hb k hlt
      unfold u8v at hc
      have HT := Lib.hid (Crc.more_take s l k hlt)
      have hx := (l[k]).toNat_lt
      generalize l[k] = x at hc HT hx
      generalize Crc.more s (l.take k) = m at hm HT
      go_wp2_with (go_at_call 30; refine (step_any _ _ hm hx _).mono ?_; rintro e w' ⟨rfl, rfl⟩)
      go_round
      case rel => exact ⟨k + 1, by omega, by go_num, by rw [HT.out]⟩
      case measure => simp [intOf]; omega
    · obtain rfl : k = l.length := by omega
      go_wp2
      go_ret
      exact ⟨rfl, rfl⟩

set_option maxRecDepth 100000 in
set_option maxHeartbeats 400000 in
theorem rmore_any (vs : Value) (s : Nat) (hv : vs = .int .u16 (s : Nat)) (hs : s < 65536) (A : Option Addr) (n c : Nat) (l : List UInt8) (hn : l.length = n) (hm : n ≤ maxLen) (w : World) (hb : Lies u8v w A l) :
    Calls Try.prog 29 #[vs, .slice A n c] w fun e w' => e = .returned (.int .u16 (Crc.more s l : Nat)) ∧ ∃ n, w' = w.drewN n := by
  subst hv
  subst hn
  unfold maxLen at hm
  go_enter Try.func29, Try.ntmps29
  go_wp2
  have HL : Hid (∀ k, Crc.more s (l.take k) < 65536) := Lib.hid fun k => Crc.more_lt _ hs
  go_loopw [0, 5] (fun t i wr => ∃ k : Nat, k ≤ l.length ∧ i = .int .i64 k ∧ t = .int .u16 (Crc.more s (l.take k) : Nat) ∧ ∃ n, wr = w.drewN n) (fun _ i _ => l.length - (intOf i).toNat)
  case atStart => exact ⟨0, Nat.zero_le _, rfl, rfl, 0, rfl⟩
  case round =>
    obtain ⟨k, hk, rfl, rfl, q, rfl⟩ := hrel
    have hm := HL.out k
    clear HL
    by_cases hlt : k < l.length
    · obtain ⟨b, off, rfl, hc⟩ := hb k hlt
      unfold u8v at hc
      have HT := Lib.hid (Crc.more_take s l k hlt)
      have hx := (l[k]).toNat_lt
      generalize l[k] = x at hc HT hx
      generalize Crc.more s (l.take k) = m at hm HT
      go_wp2_with (go_at_call 31; refine (rstep_any _ _ hm hx _).mono ?_; rintro e w' ⟨rfl, q2, rfl⟩)
      go_roundw
      case rel => exact ⟨k + 1, by omega, by go_num, by rw [HT.out], _, rfl⟩
      case measure => simp [intOf]; omega
    · obtain rfl : k = l.length := by omega
      go_wp2
      go_ret
      exact ⟨by rw [List.take_length]; rfl, q, rfl⟩

theorem sum_any (A : Option Addr) (n c : Nat) (l : List UInt8) (hn : l.length = n) (hm : n ≤ maxLen) (w : World) (hb : Lies u8v w A l) :
    Calls Try.prog 23 #[.slice A n c] w fun e w' => e = .returned (.int .u16 (Crc.more 65535 l : Nat)) ∧ w = w' := by
  have HN := Lib.hid hn
  clear hn
  go_enter Try.func23, Try.ntmps23
  go_wp2_with (go_at_call 28; refine (more_any _ 65535 rfl (by omega) A n c l HN.out hm _ hb).mono ?_; rintro e w' ⟨rfl, rfl⟩)
  go_ret
  exact ⟨rfl, rfl⟩

theorem rsum_any (A : Option Addr) (n c : Nat) (l : List UInt8) (hn : l.length = n) (hm : n ≤ maxLen) (w : World) (hb : Lies u8v w A l) :
    Calls Try.prog 24 #[.slice A n c] w fun e w' => e = .returned (.int .u16 (Crc.more 65535 l : Nat)) ∧ ∃ n, w' = w.drewN n := by
  have HN := Lib.hid hn
  clear hn
  go_enter Try.func24, Try.ntmps24
  go_wp2_with (go_at_call 29; refine (rmore_any _ 65535 rfl (by omega) A n c l HN.out hm _ hb).mono ?_; rintro e w' ⟨rfl, q, rfl⟩)
  go_ret
  exact ⟨rfl, q, rfl⟩
end Go.Proofs.Ytlabjopmimnifaa
