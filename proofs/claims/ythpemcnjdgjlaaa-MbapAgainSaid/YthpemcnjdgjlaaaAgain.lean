/-
  The law MbapAgain, walked: it answers true, and nothing that was there is touched.
-/
import Derived.Test.YthpemcnjdgjlaaaBack
namespace Go.Proofs.Ythpemcnjdgjlaaa
open Go.RowKit

set_option maxRecDepth 100000 in
set_option maxHeartbeats 1000000 in
theorem again_small (A : Option Addr) (n c : Nat) (b : List UInt8) (hn : b.length = n) (hnc : n ≤ c) (hn4 : n ≤ 600) (w : World) (ha : Lies u8v w A b) :
    Calls Try.prog 5 #[.slice A n c] w fun e w' => e = .returned (.bool true) ∧ Below w.heap.size w w' := by
  have HN := Lib.hid hn
  clear hn
  have g1 : (n : Int) ≤ 600 := by omega
  go_enter Try.func5, Try.ntmps5
  go_wp2_with fail
  have hbe0 : Below w.heap.size w w := Below.refl _ _
  have hz0 := hbe0.size
  have ha0 := ha
  clear ha
  refine (awake_any _).mono ?_
  rintro e w1 ⟨rfl, hs1⟩
  have hbe1 := hbe0.trans (hs1.mono hz0)
  have ha1 := ha0.below hs1 (Nat.le_refl _)
  have hz1 := hbe1.size
  clear hbe0 hs1 hz0 ha0
  go_wp2_with fail
  refine (read4_any A n c b HN.out hnc (by omega) _ ha1).mono ?_
  rintro e w2 ⟨A2, n2, c2, rfl, hn2, hnc2, hc2, hx2, hs2, _⟩
  have hbe2 := hbe1.trans (hs2.mono hz1)
  have ha2 := ha1.below hs2 (Nat.le_refl _)
  have hz2 := hbe2.size
  clear hbe1 hs2 hz1 ha1
  by_cases hg : Mb.codeB b = 0
  · have HA := Lib.hid (Mb.again_bytes hg)
    have HP := Lib.hid (Mb.again_code hg)
    have hs8 := Mb.again_size hg
    rw [HN.out] at hs8
    obtain ⟨z, hz⟩ : ∃ z, Mb.size b = z := ⟨_, rfl⟩
    rw [hz] at hs8
    have HZ := Lib.hid hz
    have HN2 := Lib.hid hn2
    have hn2m : n2 ≤ 254 := by have := Mb.pdu_most b; omega
    rw [hg, hz]
    have HS : Hid ((b.take z).length = z) := Lib.hid (by rw [List.length_take, HN.out]; omega)
    have g2 : (8 : Int) ≤ (z : Int) := by omega
    have g3 : (z : Int) ≤ (n : Int) := by omega
    have g4 : z ≤ c := by omega
    clear hg hz hn2
    go_wp2_with fail
    have hf3 := row_at w2 #[u16v (Mb.tid b), u8v (Mb.unit b), .slice A2 n2 c2] 25 _ rfl
    have hs3 : Below w2.heap.size w2 (w2.alloc (.cells #[u16v (Mb.tid b), u8v (Mb.unit b), .slice A2 n2 c2] 25)) := (Below.refl _ _).alloc (Nat.le_refl _) _
    obtain ⟨gf, hgf⟩ : ∃ g, w2.heap.size = g := ⟨_, rfl⟩
    have hszf : (w2.alloc (.cells #[u16v (Mb.tid b), u8v (Mb.unit b), .slice A2 n2 c2] 25)).heap.size = gf + 1 := by simp [hgf]
    generalize w2.alloc (.cells #[u16v (Mb.tid b), u8v (Mb.unit b), .slice A2 n2 c2] 25) = w3 at *
    have hbe3 := hbe2.trans (hs3.mono hz2)
    have ha3 := ha2.below hs3 (Nat.le_refl _)
    have hx3 := hx2.below hs3 (Nat.le_refl _)
    have hz3 := hbe3.size
    clear hbe2 hs3 hz2 ha2 hx2
    rw [hgf] at *
    clear hgf
    refine (bytes4_any (Mb.tid b) (Mb.unit b) A2 n2 c2 (Mb.pdu b) HN2.out (by omega) _ hx3).mono ?_
    rintro e w4 ⟨A4, n4, c4, rfl, hn4', hown4, hs4⟩
    rw [HP.out]
    rw [HA.out, HZ.out] at hn4' hown4
    obtain rfl : n4 = z := hn4'.symm.trans HS.out
    have hp4 := (own_at hown4).2.2.2
    clear hn4' hown4
    have hbe4 := hbe3.trans (hs4.mono hz3)
    have ha4 := ha3.below hs4 (Nat.le_refl _)
    have hx4 := hx3.below hs4 (Nat.le_refl _)
    have hf4 := row_later hf3 hs4
    have hz4 := hbe4.size
    clear hbe3 hs4 hz3 hf3 ha3 hx3
    go_wp2_with fail
    refine (rsame8_any A4 A n4 n4 c4 c _ _ HS.out HS.out (by unfold maxLen; omega) _ hp4 (ha4.take n4)).mono ?_
    rintro e w5 ⟨rfl, q5, rfl⟩
    have hs5 : Below w4.heap.size w4 (w4.drewN q5) := drewN_below (Below.refl _ _) _
    generalize w4.drewN q5 = w5 at *
    rw [beq_self_eq_true]
    have hbe5 := hbe4.trans (hs5.mono hz4)
    have ha5 := ha4.below hs5 (Nat.le_refl _)
    have hx5 := hx4.below hs5 (Nat.le_refl _)
    have hp5 := hp4.below hs5 (Nat.le_refl _)
    have hf5 := row_later hf4 hs5
    have hz5 := hbe5.size
    clear hbe4 hs5 hz4 hf4 ha4 hx4 hp4
    go_wp2_with fail
    go_ret
    exact ⟨rfl, hbe5⟩
  · have hcn : (((Mb.codeB b : Nat) : Int) != 0) = true := by rw [bne_iff_ne]; omega
    have h0 : n2 = 0 := by rw [← hn2, Mb.pdu_bad b hg]; rfl
    subst h0
    rw [Mb.size_bad b hg]
    clear hg hn2 hx2 ha2
    generalize Mb.codeB b = q0 at hcn
    go_wp2_with fail
    go_ret
    exact ⟨rfl, hbe2.alloc hz2 _⟩

set_option maxRecDepth 100000 in
set_option maxHeartbeats 1000000 in
theorem again_any (A : Option Addr) (n c : Nat) (b : List UInt8) (hn : b.length = n) (hnc : n ≤ c) (w : World) (ha : Lies u8v w A b) :
    Calls Try.prog 5 #[.slice A n c] w fun e w' => e = .returned (.bool true) ∧ Below w.heap.size w w' := by
  by_cases hsmall : n ≤ 600
  · exact again_small A n c b hn hnc hsmall w ha
  · have g1 : (600 : Int) < (n : Int) := by omega
    clear hsmall hn ha
    go_enter Try.func5, Try.ntmps5
    go_wp2_with fail
    refine (awake_any _).mono ?_
    rintro e w1 ⟨rfl, hs1⟩
    go_wp2_with fail
    go_ret
    exact ⟨rfl, hs1⟩
end Go.Proofs.Ythpemcnjdgjlaaa
