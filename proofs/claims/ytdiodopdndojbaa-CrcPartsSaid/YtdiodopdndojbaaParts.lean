/-
  The law CrcParts, walked: it answers true, and nothing that was there is touched.
-/
import Derived.Test.YtdiodopdndojbaaAwake
namespace Go.Proofs.Ytdiodopdndojbaa
open Go.RowKit

namespace Crc
theorem more_put (l : List UInt8) : more 65535 (put l) = 0 := by
  unfold put
  rw [more_append]
  exact more_own _ (more_lt _ (by omega))
end Crc

set_option maxRecDepth 100000 in
set_option maxHeartbeats 1000000 in
theorem parts_small (A B : Option Addr) (n m c d : Nat) (l k : List UInt8) (hn : l.length = n) (hm : k.length = m) (hnc : n ≤ 400) (hmc : m ≤ 400) (w : World) (ha : Bytes w A l) (hb : Bytes w B k) :
    Calls Try.prog 4 #[.slice A n c, .slice B m d] w fun e w' => e = .returned (.bool true) ∧ Below w.heap.size w w' := by
  have HN := Lib.hid hn
  have HM := Lib.hid hm
  clear hn hm
  have HA : Hid ((l ++ k).length = n + m) := by have h1 := HN.out; have h2 := HM.out; show _ = _; rw [List.length_append, h1, h2]
  have HP : Hid ((Crc.put (l ++ k)).length = n + m + 2) := by have h1 := HA.out; show _ = _; rw [Crc.put_length, h1]
  have g1 : (n : Int) ≤ 400 := by omega
  have g2 : (m : Int) ≤ 400 := by omega
  have hml : n ≤ maxLen := by unfold maxLen; omega
  have hmm : m ≤ maxLen := by unfold maxLen; omega
  have hmnm : n + m ≤ maxLen := by unfold maxLen; omega
  have hmp : n + m + 2 ≤ maxLen := by unfold maxLen; omega
  go_enter Try.func4, Try.ntmps4
  go_wp2_with fail
  refine (awake_any _).mono ?_
  rintro e w1 ⟨rfl, hbe1⟩
  have ha1 := ha.below hbe1 (Nat.le_refl _)
  have hb1 := hb.below hbe1 (Nat.le_refl _)
  have hz1 := hbe1.size
  go_wp2_with (first
    | (at_builtin; refine wpList_append_bytes kit _ rfl (.tmp 21) (.tmp 22) rfl w.heap.size _ 0 [] rfl (World.ownsRow_lit _ #[] 0 hz1 (by unfold maxLen; omega) rfl) A n c l rfl HN.out (ha1.alloc _) (by omega) (by simp; omega) ?_; intro A2 c2 w2 hown2 _ hb2'; simp only [Nat.zero_add, List.nil_append] at hown2; have hbe2 := hbe1.trans (((Below.refl w.heap.size w1).alloc hz1 _).trans hb2'); have hz2 := hbe2.size; have ha2 := ha.below hbe2 (Nat.le_refl _); have hb2 := hb.below hbe2 (Nat.le_refl _))
    | (at_builtin; go_must (refine wpList_append_bytes kit _ rfl (.tmp 23) (.tmp 24) rfl w.heap.size _ n l rfl hown2 B m d k rfl HM.out hb2 (by omega) (by omega) ?_; intro A3 c3 w3 hown3 _ hb3'; have hbe3 := hbe2.trans hb3')))
  obtain ⟨hc3, hc3m, hy3⟩ := own_at hown3
  have ha3 := ha.below hbe3 (Nat.le_refl _)
  have hb3 := hb.below hbe3 (Nat.le_refl _)
  clear hb1 ha1 hb2 ha2 hbe1 hbe2 hb3' hz1 hz2 hown2 hown3
  refine (put_any A3 (n + m) c3 (l ++ k) HA.out (by omega) _ hy3).mono ?_
  rintro e w4 ⟨A4, c4, rfl, hc41, hc42, hy4, hbe4'⟩
  have hbe4 := hbe3.trans (hbe4'.mono hbe3.size)
  have hy34 := hy3.below hbe4' (Nat.le_refl _)
  clear hy3 ha3 hb3 hbe4' hbe3
  go_wp2_with fail
  refine (cut_any A4 (n + m + 2) c4 (Crc.put (l ++ k)) HP.out hc41 (by omega) _ hy4).mono ?_
  rintro e w5 ⟨A5, n5, c5, rfl, hn5, hnc5, _, hy5, hbe5'⟩
  rw [Crc.cut_put] at hn5 hy5
  rw [Crc.isPut_put]
  have hbe5 := hbe4.trans (hbe5'.mono hbe4.size)
  have hy35 := hy34.below hbe5' (Nat.le_refl _)
  have hy45 := hy4.below hbe5' (Nat.le_refl _)
  clear hy34 hy4 hbe5' hbe4
  obtain rfl : n5 = n + m := by have := HA.out; omega
  clear hn5
  go_wp2_with fail
  refine (rsame_any A5 A3 (n + m) (n + m) c5 c3 _ _ HA.out HA.out hmnm _ hy5 hy35).mono ?_
  rintro e w6 ⟨rfl, q6, rfl⟩
  rw [beq_self_eq_true]
  have ha5 := ha.below hbe5 (Nat.le_refl _)
  have hb5 := hb.below hbe5 (Nat.le_refl _)
  go_wp2_with fail
  refine (sum_any A n c l HN.out hml _ (ha5.drewN _)).mono ?_
  rintro e w7 ⟨rfl, rfl⟩
  go_wp2_with fail
  refine (more_any _ (Crc.more 65535 l) rfl (Crc.more_lt l (by omega)) B m d k HM.out hmm _ (hb5.drewN _)).mono ?_
  rintro e w8 ⟨rfl, rfl⟩
  go_wp2_with fail
  refine (sum_any A3 (n + m) c3 (l ++ k) HA.out hmnm _ (hy35.drewN _)).mono ?_
  rintro e w9 ⟨rfl, rfl⟩
  rw [Crc.more_append]
  go_wp2_with fail
  refine (sum_any A4 (n + m + 2) c4 (Crc.put (l ++ k)) HP.out hmp _ (hy45.drewN _)).mono ?_
  rintro e w10 ⟨rfl, rfl⟩
  rw [Crc.more_put]
  go_wp2_with fail
  go_ret
  exact ⟨by simp, drewN_below hbe5 _⟩

set_option maxRecDepth 100000 in
set_option maxHeartbeats 400000 in
theorem parts_any (A B : Option Addr) (n m c d : Nat) (l k : List UInt8) (hn : l.length = n) (hm : k.length = m) (w : World) (ha : Bytes w A l) (hb : Bytes w B k) :
    Calls Try.prog 4 #[.slice A n c, .slice B m d] w fun e w' => e = .returned (.bool true) ∧ Below w.heap.size w w' := by
  by_cases h1 : n ≤ 400
  · by_cases h2 : m ≤ 400
    · exact parts_small A B n m c d l k hn hm h1 h2 w ha hb
    · clear hn hm ha hb
      have g1 : (n : Int) ≤ 400 := by omega
      have g2 : (400 : Int) < (m : Int) := by omega
      go_enter Try.func4, Try.ntmps4
      go_wp2_with fail
      refine (awake_any _).mono ?_
      rintro e w1 ⟨rfl, hbe1⟩
      go_wp2_with fail
      go_ret
      exact ⟨rfl, hbe1⟩
  · clear hn hm ha hb
    have g1 : (400 : Int) < (n : Int) := by omega
    go_enter Try.func4, Try.ntmps4
    go_wp2_with fail
    refine (awake_any _).mono ?_
    rintro e w1 ⟨rfl, hbe1⟩
    go_wp2_with fail
    go_ret
    exact ⟨rfl, hbe1⟩
end Go.Proofs.Ytdiodopdndojbaa
