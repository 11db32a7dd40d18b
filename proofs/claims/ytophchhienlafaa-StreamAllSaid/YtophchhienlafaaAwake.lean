/-
  The laws' own 'awake' (layer 5): true, and nothing that was there is touched.
-/
import Derived.Test.YtophchhienlafaaSt
namespace Go.Proofs.Ytophchhienlafaa
open Go.RowKit

theorem awake_c1 : Stm.cut ([] ++ [0, 1, 0, 0, 0]) = ([], [0, 1, 0, 0, 0], false) := by decide +kernel
theorem awake_c2 : Stm.cut ([0, 1, 0, 0, 0] ++ [2, 7, 9, 0, 2]) = ([⟨1, 7, [9]⟩], [0, 2], false) := by decide +kernel
theorem awake_c3 : Stm.cut ([0, 2] ++ [0, 1]) = ([], [], true) := by decide +kernel
theorem ptr_not_nil : True := trivial

set_option maxRecDepth 100000 in
set_option maxHeartbeats 1000000 in
theorem awake_any (w : World) : Calls Try.prog 6 #[] w fun e w' => e = .returned (.bool true) ∧ Below w.heap.size w w' := by
  go_enter Try.func6, Try.ntmps6
  go_wp2_with fail
  refine (new5_any w).mono ?_
  rintro e w1 ⟨g, S, rfl, hs1, hS1, hb1⟩
  have hz1 := hb1.size
  go_wp2_with fail
  refine (take5_lit g S 5 [] [0, 1, 0, 0, 0] _ rfl rfl (by simp) w1 hs1).mono ?_
  rintro e w2 ⟨A2, n2, k2, S2, rfl, hf2, hs2, hS2, hb2⟩
  rw [awake_c1] at hf2 hs2 ⊢
  obtain rfl : n2 = 0 := hf2.1.symm
  have hbw2 := hb1.trans (hb2.below hS1 hz1)
  have hSS2 : ∀ k ∈ S2, w.heap.size ≤ k := fun k hk => by rcases hS2 k hk with h | h; exact hS1 k h; omega
  have hz2 := hbw2.size
  clear hs1 hS1 hb1 hz1 hf2 hS2 hb2
  go_wp2_with fail
  refine (held5_any g S2 _ _ w2 hs2).mono ?_
  rintro e w2' ⟨rfl, rfl⟩
  go_wp2_with fail
  refine (take5_lit g S2 5 [0, 1, 0, 0, 0] [2, 7, 9, 0, 2] _ rfl rfl (by simp) w2' hs2).mono ?_
  rintro e w3 ⟨A3, n3, k3, S3, rfl, hf3, hs3, hS3, hb3⟩
  rw [awake_c2] at hf3 hs3 ⊢
  obtain rfl : n3 = 1 := hf3.1.symm
  have hbw3 := hbw2.trans (hb3.below hSS2 hz2)
  have hSS3 : ∀ k ∈ S3, w.heap.size ≤ k := fun k hk => by rcases hS3 k hk with h | h; exact hSS2 k h; omega
  have hz3 := hbw3.size
  clear hs2 hSS2 hbw2 hS3 hb3 hz2
  go_wp2_with fail
  refine (held5_any g S3 _ _ w3 hs3).mono ?_
  rintro e w3' ⟨rfl, rfl⟩
  go_wp2_with fail
  refine (take5_lit g S3 2 [0, 2] [0, 1] _ rfl rfl (by simp) w3' hs3).mono ?_
  rintro e w4 ⟨A4, n4, k4, S4, rfl, hf4, hs4, hS4, hb4⟩
  rw [awake_c3] at hf4 hs4 ⊢
  have hf34 := hf3.but hb4 (fun _ h => h.2)
  have hbw4 := hbw3.trans (hb4.below hSS3 hz3)
  have hz4 := hbw4.size
  clear hs3 hSS3 hbw3 hS4 hb4 hz3 hf4 hf3
  go_wp2_with fail
  refine (take5_bad g S4 _ 0 0 _ w4 hs4).mono ?_
  rintro e w5 ⟨rfl, hb5⟩
  have hs5 := hs4.below hb5
  have hf35 := hf34.below hb5
  have hbw5 := hbw4.trans (hb5.mono hz4)
  obtain ⟨b3, o3, h3, rfl, _, hc0, hc1, hc2⟩ := hf35.at_.get 0 (by simp)
  have hlt3 := World.block_lt_of_cell? _ _ hc1
  have hc1' : w5.cell? ⟨b3, o3 + 1, none⟩ = some (.int .u8 7) := hc1
  clear hs4 hf34 hbw4 hb5 hc0 hc1 hc2 hf35
  go_wp2_with fail
  refine (broken5_any g S4 _ _ w5 hs5).mono ?_
  rintro e w5' ⟨rfl, rfl⟩
  go_wp2_with fail
  refine (held5_any g S4 _ _ w5' hs5).mono ?_
  rintro e w5'' ⟨rfl, rfl⟩
  go_wp2_with fail
  go_ret
  exact ⟨rfl, hbw5⟩
end Go.Proofs.Ytophchhienlafaa
