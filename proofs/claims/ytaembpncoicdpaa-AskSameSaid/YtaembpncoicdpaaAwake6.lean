
/-
  The laws' own 'awake' (layer 6): true, and nothing that was there is touched.
-/
import Derived.Test.YtaembpncoicdpaaPs
namespace Go.Proofs.Ytaembpncoicdpaa
open Go.RowKit

theorem ParsePost.at_ {w w' : World} {b : List UInt8} {e : Ending} {x : Ask} {i : Nat} (h : ParsePost w b e w') (hx : Ak.parse b = (x, i)) : ∃ h k, e = .returned (.tuple #[askV x h k, .int .i64 (i : Int)]) ∧ AskIn w' x h k ∧ Below w.heap.size w w' := by
  unfold ParsePost at h
  rw [hx] at h
  exact h
theorem AskBytesPost.at_ {w w' : World} {a : Ask} {e : Ending} (h : AskBytesPost w a e w') : ∃ A n c, e = .returned (.tuple #[.slice A n c, .int .i64 ((Ak.codeA a : Nat) : Int)]) ∧ (Ak.bytes a).length = n ∧ n ≤ c ∧ c ≤ maxLen ∧ Lies u8v w' A (Ak.bytes a) ∧ Below w.heap.size w w' := by
  obtain ⟨A, n, c, h1, h2, h3, h4⟩ := h
  obtain ⟨g1, g2, _, g3⟩ := own_at h3
  exact ⟨A, n, c, h1, h2, g1, g2, g3, h4⟩
def req0 : Ask := ⟨3, 107, 3, 0, [], [], 0, 0⟩
theorem awake_b : Ak.bytes req0 = [3, 0, 107, 0, 3] := by decide +kernel
theorem awake_e : Ak.codeA req0 = 0 := by decide +kernel
theorem awake_p : Ak.parse [3, 0, 107, 0, 3] = (req0, 0) := by decide +kernel
theorem awake_y : Ak.parse [7, 0] = (Ak.zero, 1) := by decide +kernel
theorem awake_z : Ak.parse [6, 0, 0, 0] = (Ak.zero, 3) := by decide +kernel
theorem awake_w : Ak.parse [3, 255, 255, 0, 2] = (Ak.zero, 2) := by decide +kernel
theorem awake_r : Ak.right req0 = true := by decide +kernel
theorem awake_s : Ak.same req0 req0 = true := Ak.same_self _
theorem awake_16 : Ak.writes 16 = true := by decide +kernel
theorem awake_4 : Ak.writes 4 = false := by decide +kernel
theorem req0_in (w : World) : AskIn w req0 (none, 0, 0) (none, 0, 0) := ⟨rfl, Nat.le_refl _, Nat.zero_le _, Lies.nil _ _, rfl, Nat.le_refl _, Nat.zero_le _, Lies.nil _ _⟩

set_option maxRecDepth 100000 in
set_option maxHeartbeats 2000000 in
theorem awake_any (w : World) : Calls Try.prog 5 #[] w fun e w' => e = .returned (.bool true) ∧ Below w.heap.size w w' := by
  go_enter Try.func5, Try.ntmps5
  have hbe0 : Below w.heap.size w w := Below.refl _ _
  have hz0 := hbe0.size
  go_wp2_with fail
  refine (bytes6_any req0 (none, 0, 0) (none, 0, 0) _ (req0_in _)).mono ?_
  rintro e w1 hp1
  obtain ⟨A1, n1, c1, rfl, hn1, hnc1, hcm1, hb1, hs1⟩ := hp1.at_
  rw [awake_e]
  rw [awake_b] at hn1 hb1
  obtain rfl : n1 = 5 := hn1.symm
  clear hn1
  have hbe1 := hbe0.trans (hs1.mono hz0)
  have hz1 := hbe1.size
  clear hbe0 hs1 hz0
  go_wp2_with fail
  refine (parse6_any A1 5 c1 _ rfl hnc1 hcm1 (by omega) _ hb1).mono ?_
  rintro e w2 hp2
  obtain ⟨h2, k2, rfl, ha2, hs2⟩ := hp2.at_ awake_p
  clear hp2
  rw [(show askV req0 h2 k2 = Value.agg #[.int .i64 3, .int .i64 107, .int .i64 3, .int .i64 0, .slice h2.1 h2.2.1 h2.2.2, .slice k2.1 k2.2.1 k2.2.2, .int .u16 0, .int .u16 0] from rfl)]
  have hbe2 := hbe1.trans (hs2.mono hz1)
  have hb2 := hb1.below hs2 (Nat.le_refl _)
  have hz2 := hbe2.size
  clear hbe1 hs2 hz1 hb1
  go_wp2_with fail
  have hf3 := row_at w2 #[.int .i64 3, .int .i64 107, .int .i64 3, .int .i64 0, .slice h2.1 h2.2.1 h2.2.2, .slice k2.1 k2.2.1 k2.2.2, .int .u16 0, .int .u16 0] 26 _ rfl
  have hs3 : Below w2.heap.size w2 (w2.alloc (.cells #[.int .i64 3, .int .i64 107, .int .i64 3, .int .i64 0, .slice h2.1 h2.2.1 h2.2.2, .slice k2.1 k2.2.1 k2.2.2, .int .u16 0, .int .u16 0] 26)) := (Below.refl _ _).alloc (Nat.le_refl _) _
  obtain ⟨gf, hgf⟩ : ∃ g, w2.heap.size = g := ⟨_, rfl⟩
  have hszf : (w2.alloc (.cells #[.int .i64 3, .int .i64 107, .int .i64 3, .int .i64 0, .slice h2.1 h2.2.1 h2.2.2, .slice k2.1 k2.2.1 k2.2.2, .int .u16 0, .int .u16 0] 26)).heap.size = gf + 1 := by simp [hgf]
  generalize w2.alloc (.cells #[.int .i64 3, .int .i64 107, .int .i64 3, .int .i64 0, .slice h2.1 h2.2.1 h2.2.2, .slice k2.1 k2.2.1 k2.2.2, .int .u16 0, .int .u16 0] 26) = w3 at *
  have hbe3 := hbe2.trans (hs3.mono hz2)
  have hb3 := hb2.below hs3 (Nat.le_refl _)
  have ha3 := ha2.below hs3
  have hz3 := hbe3.size
  clear hbe2 hs3 hz2 hb2 ha2
  rw [hgf] at *
  clear hgf
  go_wp2_with fail
  have hlp4 := lies_at (f := u8v) w3 #[.int .u8 7, .int .u8 0] 5 (gf + 1) [(7 : UInt8), 0] rfl hszf
  have hs4 : Below w3.heap.size w3 (w3.alloc (.cells #[.int .u8 7, .int .u8 0] 5)) := (Below.refl _ _).alloc (Nat.le_refl _) _
  generalize w3.alloc (.cells #[.int .u8 7, .int .u8 0] 5) = w4 at *
  have hbe4 := hbe3.trans (hs4.mono hz3)
  have hb4 := hb3.below hs4 (Nat.le_refl _)
  have ha4 := ha3.below hs4
  have hf4 := row_later hf3 hs4
  have hz4 := hbe4.size
  clear hbe3 hs4 hz3 hf3 hb3 ha3
  clear hszf
  refine (parse6_any _ 2 2 [7, 0] rfl (by omega) (by unfold maxLen; omega) (by omega) _ hlp4).mono ?_
  rintro e w5 hp5
  obtain ⟨h5, k5, rfl, hz5, hs5⟩ := hp5.at_ awake_y
  clear hp5 hz5
  rw [(show askV Ak.zero h5 k5 = Value.agg #[.int .i64 0, .int .i64 0, .int .i64 0, .int .i64 0, .slice h5.1 h5.2.1 h5.2.2, .slice k5.1 k5.2.1 k5.2.2, .int .u16 0, .int .u16 0] from rfl)]
  have hbe5 := hbe4.trans (hs5.mono hz4)
  have hb5 := hb4.below hs5 (Nat.le_refl _)
  have hlp5 := hlp4.below hs5 (Nat.le_refl _)
  have ha5 := ha4.below hs5
  have hf5 := row_later hf4 hs5
  have hz5 := hbe5.size
  clear hbe4 hs5 hz4 hf4 hb4 hlp4 ha4
  clear hlp5
  go_wp2_with fail
  have hp6 := row_at w5 #[.int .i64 0, .int .i64 0, .int .i64 0, .int .i64 0, .slice h5.1 h5.2.1 h5.2.2, .slice k5.1 k5.2.1 k5.2.2, .int .u16 0, .int .u16 0] 26 _ rfl
  have hs6 : Below w5.heap.size w5 (w5.alloc (.cells #[.int .i64 0, .int .i64 0, .int .i64 0, .int .i64 0, .slice h5.1 h5.2.1 h5.2.2, .slice k5.1 k5.2.1 k5.2.2, .int .u16 0, .int .u16 0] 26)) := (Below.refl _ _).alloc (Nat.le_refl _) _
  obtain ⟨gp, hgp⟩ : ∃ g, w5.heap.size = g := ⟨_, rfl⟩
  have hszp : (w5.alloc (.cells #[.int .i64 0, .int .i64 0, .int .i64 0, .int .i64 0, .slice h5.1 h5.2.1 h5.2.2, .slice k5.1 k5.2.1 k5.2.2, .int .u16 0, .int .u16 0] 26)).heap.size = gp + 1 := by simp [hgp]
  generalize w5.alloc (.cells #[.int .i64 0, .int .i64 0, .int .i64 0, .int .i64 0, .slice h5.1 h5.2.1 h5.2.2, .slice k5.1 k5.2.1 k5.2.2, .int .u16 0, .int .u16 0] 26) = w6 at *
  have hbe6 := hbe5.trans (hs6.mono hz5)
  have hb6 := hb5.below hs6 (Nat.le_refl _)
  have ha6 := ha5.below hs6
  have hf6 := row_later hf5 hs6
  have hz6 := hbe6.size
  clear hbe5 hs6 hz5 hf5 hb5 ha5
  rw [hgp] at *
  clear hgp
  go_wp2_with fail
  have hlq7 := lies_at (f := u8v) w6 #[.int .u8 6, .int .u8 0, .int .u8 0, .int .u8 0] 5 (gp + 1) [(6 : UInt8), 0, 0, 0] rfl hszp
  have hs7 : Below w6.heap.size w6 (w6.alloc (.cells #[.int .u8 6, .int .u8 0, .int .u8 0, .int .u8 0] 5)) := (Below.refl _ _).alloc (Nat.le_refl _) _
  generalize w6.alloc (.cells #[.int .u8 6, .int .u8 0, .int .u8 0, .int .u8 0] 5) = w7 at *
  have hbe7 := hbe6.trans (hs7.mono hz6)
  have hb7 := hb6.below hs7 (Nat.le_refl _)
  have ha7 := ha6.below hs7
  have hf7 := row_later hf6 hs7
  have hp7 := row_later hp6 hs7
  have hz7 := hbe7.size
  clear hbe6 hs7 hz6 hf6 hp6 hb6 ha6
  clear hszp
  refine (parse6_any _ 4 4 [6, 0, 0, 0] rfl (by omega) (by unfold maxLen; omega) (by omega) _ hlq7).mono ?_
  rintro e w8 hp8
  obtain ⟨h8, k8, rfl, hz8, hs8⟩ := hp8.at_ awake_z
  clear hp8 hz8
  rw [(show askV Ak.zero h8 k8 = Value.agg #[.int .i64 0, .int .i64 0, .int .i64 0, .int .i64 0, .slice h8.1 h8.2.1 h8.2.2, .slice k8.1 k8.2.1 k8.2.2, .int .u16 0, .int .u16 0] from rfl)]
  have hbe8 := hbe7.trans (hs8.mono hz7)
  have hb8 := hb7.below hs8 (Nat.le_refl _)
  have hlq8 := hlq7.below hs8 (Nat.le_refl _)
  have ha8 := ha7.below hs8
  have hf8 := row_later hf7 hs8
  have hp8 := row_later hp7 hs8
  have hz8 := hbe8.size
  clear hbe7 hs8 hz7 hf7 hp7 hb7 hlq7 ha7
  clear hlq8
  go_wp2_with fail
  have hq9 := row_at w8 #[.int .i64 0, .int .i64 0, .int .i64 0, .int .i64 0, .slice h8.1 h8.2.1 h8.2.2, .slice k8.1 k8.2.1 k8.2.2, .int .u16 0, .int .u16 0] 26 _ rfl
  have hs9 : Below w8.heap.size w8 (w8.alloc (.cells #[.int .i64 0, .int .i64 0, .int .i64 0, .int .i64 0, .slice h8.1 h8.2.1 h8.2.2, .slice k8.1 k8.2.1 k8.2.2, .int .u16 0, .int .u16 0] 26)) := (Below.refl _ _).alloc (Nat.le_refl _) _
  obtain ⟨gq, hgq⟩ : ∃ g, w8.heap.size = g := ⟨_, rfl⟩
  have hszq : (w8.alloc (.cells #[.int .i64 0, .int .i64 0, .int .i64 0, .int .i64 0, .slice h8.1 h8.2.1 h8.2.2, .slice k8.1 k8.2.1 k8.2.2, .int .u16 0, .int .u16 0] 26)).heap.size = gq + 1 := by simp [hgq]
  generalize w8.alloc (.cells #[.int .i64 0, .int .i64 0, .int .i64 0, .int .i64 0, .slice h8.1 h8.2.1 h8.2.2, .slice k8.1 k8.2.1 k8.2.2, .int .u16 0, .int .u16 0] 26) = w9 at *
  have hbe9 := hbe8.trans (hs9.mono hz8)
  have hb9 := hb8.below hs9 (Nat.le_refl _)
  have ha9 := ha8.below hs9
  have hf9 := row_later hf8 hs9
  have hp9 := row_later hp8 hs9
  have hz9 := hbe9.size
  clear hbe8 hs9 hz8 hf8 hp8 hb8 ha8
  rw [hgq] at *
  clear hgq
  go_wp2_with fail
  have hlr10 := lies_at (f := u8v) w9 #[.int .u8 3, .int .u8 255, .int .u8 255, .int .u8 0, .int .u8 2] 5 (gq + 1) [(3 : UInt8), 255, 255, 0, 2] rfl hszq
  have hs10 : Below w9.heap.size w9 (w9.alloc (.cells #[.int .u8 3, .int .u8 255, .int .u8 255, .int .u8 0, .int .u8 2] 5)) := (Below.refl _ _).alloc (Nat.le_refl _) _
  generalize w9.alloc (.cells #[.int .u8 3, .int .u8 255, .int .u8 255, .int .u8 0, .int .u8 2] 5) = w10 at *
  have hbe10 := hbe9.trans (hs10.mono hz9)
  have hb10 := hb9.below hs10 (Nat.le_refl _)
  have ha10 := ha9.below hs10
  have hf10 := row_later hf9 hs10
  have hp10 := row_later hp9 hs10
  have hq10 := row_later hq9 hs10
  have hz10 := hbe10.size
  clear hbe9 hs10 hz9 hf9 hp9 hq9 hb9 ha9
  clear hszq
  refine (parse6_any _ 5 5 [3, 255, 255, 0, 2] rfl (by omega) (by unfold maxLen; omega) (by omega) _ hlr10).mono ?_
  rintro e w11 hp11
  obtain ⟨h11, k11, rfl, hz11, hs11⟩ := hp11.at_ awake_w
  clear hp11 hz11
  rw [(show askV Ak.zero h11 k11 = Value.agg #[.int .i64 0, .int .i64 0, .int .i64 0, .int .i64 0, .slice h11.1 h11.2.1 h11.2.2, .slice k11.1 k11.2.1 k11.2.2, .int .u16 0, .int .u16 0] from rfl)]
  have hbe11 := hbe10.trans (hs11.mono hz10)
  have hb11 := hb10.below hs11 (Nat.le_refl _)
  have hlr11 := hlr10.below hs11 (Nat.le_refl _)
  have ha11 := ha10.below hs11
  have hf11 := row_later hf10 hs11
  have hp11 := row_later hp10 hs11
  have hq11 := row_later hq10 hs11
  have hz11 := hbe11.size
  clear hbe10 hs11 hz10 hf10 hp10 hq10 hb10 hlr10 ha10
  clear hlr11
  go_wp2_with fail
  have hr12 := row_at w11 #[.int .i64 0, .int .i64 0, .int .i64 0, .int .i64 0, .slice h11.1 h11.2.1 h11.2.2, .slice k11.1 k11.2.1 k11.2.2, .int .u16 0, .int .u16 0] 26 _ rfl
  have hs12 : Below w11.heap.size w11 (w11.alloc (.cells #[.int .i64 0, .int .i64 0, .int .i64 0, .int .i64 0, .slice h11.1 h11.2.1 h11.2.2, .slice k11.1 k11.2.1 k11.2.2, .int .u16 0, .int .u16 0] 26)) := (Below.refl _ _).alloc (Nat.le_refl _) _
  obtain ⟨gr, hgr⟩ : ∃ g, w11.heap.size = g := ⟨_, rfl⟩
  have hszr : (w11.alloc (.cells #[.int .i64 0, .int .i64 0, .int .i64 0, .int .i64 0, .slice h11.1 h11.2.1 h11.2.2, .slice k11.1 k11.2.1 k11.2.2, .int .u16 0, .int .u16 0] 26)).heap.size = gr + 1 := by simp [hgr]
  generalize w11.alloc (.cells #[.int .i64 0, .int .i64 0, .int .i64 0, .int .i64 0, .slice h11.1 h11.2.1 h11.2.2, .slice k11.1 k11.2.1 k11.2.2, .int .u16 0, .int .u16 0] 26) = w12 at *
  have hbe12 := hbe11.trans (hs12.mono hz11)
  have hb12 := hb11.below hs12 (Nat.le_refl _)
  have ha12 := ha11.below hs12
  have hf12 := row_later hf11 hs12
  have hp12 := row_later hp11 hs12
  have hq12 := row_later hq11 hs12
  have hz12 := hbe12.size
  clear hbe11 hs12 hz11 hf11 hp11 hq11 hb11 ha11
  rw [hgr] at *
  clear hgr
  obtain ⟨hqf0, hqf1, hqf2, hqf3, hqf4, hqf5, hqf6, hqf7⟩ := row_eight hf12
  have hltf := row_lt hf12
  obtain ⟨b1, o1, rfl, hltb, hcb⟩ := hb12.at_ (by simp)
  have hb2 : w12.cell? ⟨b1, o1 + 2, none⟩ = some (.int .u8 107) := hcb 2 (by simp)
  clear hcb
  clear hb12
  go_wp2_with fail
  go_simp
  go_wp2_with fail
  refine (same6_any req0 req0 h2 k2 h2 k2 _ ha12 ha12).mono ?_
  rintro e w13 ⟨rfl, hs13⟩
  rw [awake_s]
  have hbe13 := hbe12.trans (hs13.mono hz12)
  have ha13 := ha12.below hs13
  have hf13 := row_later hf12 hs13
  have hp13 := row_later hp12 hs13
  have hq13 := row_later hq12 hs13
  have hr13 := row_later hr12 hs13
  have hz13 := hbe13.size
  clear hbe12 hs13 hz12 hf12 hp12 hq12 hr12 ha12 hqf0 hqf1 hqf2 hqf3 hqf4 hqf5 hqf6 hqf7 hltf
  obtain ⟨hqf0, hqf1, hqf2, hqf3, hqf4, hqf5, hqf6, hqf7⟩ := row_eight hf13
  have hltf := row_lt hf13
  obtain ⟨hqp0, hqp1, hqp2, hqp3, hqp4, hqp5, hqp6, hqp7⟩ := row_eight hp13
  have hltp := row_lt hp13
  obtain ⟨hqq0, hqq1, hqq2, hqq3, hqq4, hqq5, hqq6, hqq7⟩ := row_eight hq13
  have hltq := row_lt hq13
  obtain ⟨hqr0, hqr1, hqr2, hqr3, hqr4, hqr5, hqr6, hqr7⟩ := row_eight hr13
  have hltr := row_lt hr13
  go_wp2_with fail
  refine (right6_any req0 h2 k2 _ ha13).mono ?_
  rintro e w14 ⟨rfl, hs14⟩
  rw [awake_r]
  have hbe14 := hbe13.trans (hs14.mono hz13)
  have ha14 := ha13.below hs14
  have hf14 := row_later hf13 hs14
  have hp14 := row_later hp13 hs14
  have hq14 := row_later hq13 hs14
  have hr14 := row_later hr13 hs14
  have hz14 := hbe14.size
  clear hbe13 hs14 hz13 hf13 hp13 hq13 hr13 ha13 hqf0 hqf1 hqf2 hqf3 hqf4 hqf5 hqf6 hqf7 hltf hqp0 hqp1 hqp2 hqp3 hqp4 hqp5 hqp6 hqp7 hltp hqq0 hqq1 hqq2 hqq3 hqq4 hqq5 hqq6 hqq7 hltq hqr0 hqr1 hqr2 hqr3 hqr4 hqr5 hqr6 hqr7 hltr
  obtain ⟨hqf0, hqf1, hqf2, hqf3, hqf4, hqf5, hqf6, hqf7⟩ := row_eight hf14
  have hltf := row_lt hf14
  obtain ⟨hqp0, hqp1, hqp2, hqp3, hqp4, hqp5, hqp6, hqp7⟩ := row_eight hp14
  have hltp := row_lt hp14
  obtain ⟨hqq0, hqq1, hqq2, hqq3, hqq4, hqq5, hqq6, hqq7⟩ := row_eight hq14
  have hltq := row_lt hq14
  obtain ⟨hqr0, hqr1, hqr2, hqr3, hqr4, hqr5, hqr6, hqr7⟩ := row_eight hr14
  have hltr := row_lt hr14
  go_wp2_with fail
  refine (writes6_any 16 _).mono ?_
  rintro e w15 ⟨rfl, hs15⟩
  rw [awake_16]
  have hbe15 := hbe14.trans (hs15.mono hz14)
  have ha15 := ha14.below hs15
  have hf15 := row_later hf14 hs15
  have hp15 := row_later hp14 hs15
  have hq15 := row_later hq14 hs15
  have hr15 := row_later hr14 hs15
  have hz15 := hbe15.size
  clear hbe14 hs15 hz14 hf14 hp14 hq14 hr14 ha14 hqf0 hqf1 hqf2 hqf3 hqf4 hqf5 hqf6 hqf7 hltf hqp0 hqp1 hqp2 hqp3 hqp4 hqp5 hqp6 hqp7 hltp hqq0 hqq1 hqq2 hqq3 hqq4 hqq5 hqq6 hqq7 hltq hqr0 hqr1 hqr2 hqr3 hqr4 hqr5 hqr6 hqr7 hltr
  obtain ⟨hqf0, hqf1, hqf2, hqf3, hqf4, hqf5, hqf6, hqf7⟩ := row_eight hf15
  have hltf := row_lt hf15
  obtain ⟨hqp0, hqp1, hqp2, hqp3, hqp4, hqp5, hqp6, hqp7⟩ := row_eight hp15
  have hltp := row_lt hp15
  obtain ⟨hqq0, hqq1, hqq2, hqq3, hqq4, hqq5, hqq6, hqq7⟩ := row_eight hq15
  have hltq := row_lt hq15
  obtain ⟨hqr0, hqr1, hqr2, hqr3, hqr4, hqr5, hqr6, hqr7⟩ := row_eight hr15
  have hltr := row_lt hr15
  go_wp2_with fail
  refine (writes6_any 4 _).mono ?_
  rintro e w16 ⟨rfl, hs16⟩
  rw [awake_4]
  have hbe16 := hbe15.trans (hs16.mono hz15)
  have ha16 := ha15.below hs16
  have hf16 := row_later hf15 hs16
  have hp16 := row_later hp15 hs16
  have hq16 := row_later hq15 hs16
  have hr16 := row_later hr15 hs16
  have hz16 := hbe16.size
  clear hbe15 hs16 hz15 hf15 hp15 hq15 hr15 ha15 hqf0 hqf1 hqf2 hqf3 hqf4 hqf5 hqf6 hqf7 hltf hqp0 hqp1 hqp2 hqp3 hqp4 hqp5 hqp6 hqp7 hltp hqq0 hqq1 hqq2 hqq3 hqq4 hqq5 hqq6 hqq7 hltq hqr0 hqr1 hqr2 hqr3 hqr4 hqr5 hqr6 hqr7 hltr
  go_wp2_with fail
  go_ret
  exact ⟨rfl, hbe16⟩
end Go.Proofs.Ytaembpncoicdpaa
