
/-
  The laws' own 'awake' (layer 7): true, and nothing that was there is touched.
-/
import Derived.Test.YtcbkbdoaaaofjaaGreatRc7
import Derived.Test.YtcbkbdoaaaofjaaGreatAn2
namespace Go.Proofs.YtcbkbdoaaaofjaaGreat
open Go.RowKit

def rq3 : Ask := ⟨3, 1, 1, 0, [], [], 0, 0⟩
def rq43 : Ask := ⟨43, 1, 1, 0, [], [], 0, 0⟩
def xw : Ans := ⟨0, [], [258], []⟩
def xe2 : Ans := ⟨2, [], [], []⟩
def xab : Ans := ⟨0, [], [], [⟨#[97, 98]⟩]⟩
theorem awake_b1 : An.bytes rq3 xw = [3, 2, 1, 2] := by decide +kernel
theorem awake_c1 : An.codeA rq3 xw = 0 := by decide +kernel
theorem awake_r1 : An.read rq3 [3, 2, 1, 2] = (xw, 0) := by decide +kernel
theorem awake_b2 : An.bytes rq3 xe2 = [131, 2] := by decide +kernel
theorem awake_c2 : An.codeA rq3 xe2 = 0 := by decide +kernel
theorem awake_r2 : An.read rq3 [3, 4, 0, 0, 0, 0] = (An.zero, 2) := by decide +kernel
theorem awake_b3 : An.bytes rq43 xab = [43, 14, 1, 1, 0, 0, 1, 1, 2, 97, 98] := by decide +kernel
theorem awake_c3 : An.codeA rq43 xab = 0 := by decide +kernel
theorem awake_g : An.right rq3 xw = true := by decide +kernel
theorem awake_s : An.same xw xw = true := by decide +kernel
theorem rq_in (c : Int) (w : World) : AskIn w ⟨c, 1, 1, 0, [], [], 0, 0⟩ (none, 0, 0) (none, 0, 0) := ⟨rfl, Nat.le_refl _, Nat.zero_le _, Lies.nil _ _, rfl, Nat.le_refl _, Nat.zero_le _, Lies.nil _ _⟩
theorem xw_in {w : World} {g : Nat} (h : Lies u16v w (some ⟨g, 0, none⟩) [258]) : AnsIn w xw (none, 0, 0) (some ⟨g, 0, none⟩, 1, 1) (none, 0, 0) :=
  ⟨rfl, Nat.le_refl _, Nat.zero_le _, Lies.nil _ _, rfl, Nat.le_refl _, (by decide : 1 ≤ maxLen), h, rfl, Nat.le_refl _, Nat.zero_le _, Lies.nil _ _, by intro s hs; cases hs⟩
theorem xab_in {w : World} {g : Nat} (h : Lies strv w (some ⟨g, 0, none⟩) [⟨#[97, 98]⟩]) : AnsIn w xab (none, 0, 0) (none, 0, 0) (some ⟨g, 0, none⟩, 1, 1) :=
  ⟨rfl, Nat.le_refl _, Nat.zero_le _, Lies.nil _ _, rfl, Nat.le_refl _, Nat.zero_le _, Lies.nil _ _, rfl, Nat.le_refl _, (by decide : 1 ≤ maxLen), h, by intro s hs; rw [List.mem_singleton.1 hs]; decide⟩

set_option maxRecDepth 100000 in
set_option maxHeartbeats 2000000 in
theorem awake7_any (w : World) : Calls Tryz.prog 6 #[] w fun e w' => e = .returned (.bool true) ∧ Below w.heap.size w w' := by
  go_enter Tryz.func6, Tryz.ntmps6
  go_wp2_with fail
  have hbe_ : Below w.heap.size w w := Below.refl _ _
  have ha_ := row_at w #[.int .i64 3, .int .i64 1, .int .i64 1, .int .i64 0, .slice none 0 0, .slice none 0 0, .int .u16 0, .int .u16 0] 26 (w.heap.size) rfl
  have hsz0 : (w.alloc (.cells #[.int .i64 3, .int .i64 1, .int .i64 1, .int .i64 0, .slice none 0 0, .slice none 0 0, .int .u16 0, .int .u16 0] 26)).heap.size = w.heap.size + 1 := by simp
  have hsb : Below w.heap.size w (w.alloc (.cells #[.int .i64 3, .int .i64 1, .int .i64 1, .int .i64 0, .slice none 0 0, .slice none 0 0, .int .u16 0, .int .u16 0] 26)) := (Below.refl _ _).alloc (Nat.le_refl _) _
  have hbe_ := hbe_.trans (hsb.mono (by omega))
  generalize w.alloc (.cells #[.int .i64 3, .int .i64 1, .int .i64 1, .int .i64 0, .slice none 0 0, .slice none 0 0, .int .u16 0, .int .u16 0] 26) = w0 at *
  clear hsb
  have ha0 := ha_
  have hbe0 := hbe_
  have hz0 := hbe0.size
  clear hbe_ ha_  
  have hl1 := lies_at (f := u16v) w0 #[.int .u16 258] 24 (w.heap.size + 1) [(258 : UInt16)] rfl hsz0
  have hs1 : Below w0.heap.size w0 (w0.alloc (.cells #[.int .u16 258] 24)) := (Below.refl _ _).alloc (Nat.le_refl _) _
  generalize w0.alloc (.cells #[.int .u16 258] 24) = w1 at *
  have hbe1 := hbe0.trans (hs1.mono hz0)
  have ha1 := row_later ha0 hs1
  have hz1 := hbe1.size
  clear hbe0 hs1 hz0 ha0
  clear hsz0
  refine (bytes7_any rq3 xw (none, 0, 0) (none, 0, 0) (none, 0, 0) (some ⟨w.heap.size + 1, 0, none⟩, 1, 1) (none, 0, 0) _ (rq_in 3 _) (xw_in hl1) (by simp)).mono ?_
  rintro e w2 hp2
  obtain ⟨A2, n2, c2, rfl, hn2, hnc2, hcm2, hb2, hs2⟩ := hp2
  rw [awake_c1]
  rw [awake_b1] at hn2 hb2
  obtain rfl : n2 = 4 := hn2.symm
  clear hn2
  have hbe2 := hbe1.trans (hs2.mono hz1)
  have hl2 := hl1.below hs2 (Nat.le_refl _)
  have ha2 := row_later ha1 hs2
  have hz2 := hbe2.size
  clear hbe1 hs2 hz1 ha1 hl1
  have hbb2 := hb2
  clear hb2
  clear hl2
  obtain ⟨hqa0, hqa1, hqa2, hqa3, hqa4, hqa5, hqa6, hqa7⟩ := row_eight ha2
  have hlta := row_lt ha2
  go_wp2_with fail
  refine (read7_any rq3 (none, 0, 0) (none, 0, 0) A2 4 c2 _ rfl hnc2 hcm2 _ (rq_in 3 _) hbb2).mono ?_
  rintro e w3 hp3
  rw [awake_r1] at hp3
  obtain ⟨h3, k3, t3, rfl, hx3, hs3⟩ := hp3
  dsimp only at hx3
  rw [(show ansV ((xw, 0) : Ans × Nat).1 h3 k3 t3 = Value.agg #[.int .i64 0, .slice h3.1 h3.2.1 h3.2.2, .slice k3.1 k3.2.1 k3.2.2, .slice t3.1 t3.2.1 t3.2.2] from rfl)]
  have hbe3 := hbe2.trans (hs3.mono hz2)
  have hbb3 := hbb2.below hs3 (Nat.le_refl _)
  have ha3 := row_later ha2 hs3
  have hz3 := hbe3.size
  clear hbe2 hs3 hz2 ha2 hbb2 hqa0 hqa1 hqa2 hqa3 hqa4 hqa5 hqa6 hqa7 hlta
  obtain ⟨hqa0, hqa1, hqa2, hqa3, hqa4, hqa5, hqa6, hqa7⟩ := row_eight ha3
  have hlta := row_lt ha3
  go_wp2_with fail
  have hf4 := row_at w3 #[.int .i64 0, .slice h3.1 h3.2.1 h3.2.2, .slice k3.1 k3.2.1 k3.2.2, .slice t3.1 t3.2.1 t3.2.2] 29 _ rfl
  have hs4 : Below w3.heap.size w3 (w3.alloc (.cells #[.int .i64 0, .slice h3.1 h3.2.1 h3.2.2, .slice k3.1 k3.2.1 k3.2.2, .slice t3.1 t3.2.1 t3.2.2] 29)) := (Below.refl _ _).alloc (Nat.le_refl _) _
  obtain ⟨gf, hgf⟩ : ∃ g, w3.heap.size = g := ⟨_, rfl⟩
  have hszf : (w3.alloc (.cells #[.int .i64 0, .slice h3.1 h3.2.1 h3.2.2, .slice k3.1 k3.2.1 k3.2.2, .slice t3.1 t3.2.1 t3.2.2] 29)).heap.size = gf + 1 := by simp [hgf]
  generalize w3.alloc (.cells #[.int .i64 0, .slice h3.1 h3.2.1 h3.2.2, .slice k3.1 k3.2.1 k3.2.2, .slice t3.1 t3.2.1 t3.2.2] 29) = w4 at *
  have hbe4 := hbe3.trans (hs4.mono hz3)
  have hbb4 := hbb3.below hs4 (Nat.le_refl _)
  have hx4 := hx3.below hs4
  have ha4 := row_later ha3 hs4
  have hz4 := hbe4.size
  clear hbe3 hs4 hz3 ha3 hbb3 hx3 hqa0 hqa1 hqa2 hqa3 hqa4 hqa5 hqa6 hqa7 hlta
  rw [hgf] at *
  clear hgf
  refine (bytes7_any rq3 xe2 (none, 0, 0) (none, 0, 0) (none, 0, 0) (none, 0, 0) (none, 0, 0) _ (rq_in 3 _) (AnsIn.exc _ 2) (by simp)).mono ?_
  rintro e w5 hp5
  obtain ⟨A5, n5, c5, rfl, hn5, hnc5, hcm5, hb5, hs5⟩ := hp5
  rw [awake_c2]
  rw [awake_b2] at hn5 hb5
  obtain rfl : n5 = 2 := hn5.symm
  clear hn5
  have hbe5 := hbe4.trans (hs5.mono hz4)
  have hbb5 := hbb4.below hs5 (Nat.le_refl _)
  have hx5 := hx4.below hs5
  have ha5 := row_later ha4 hs5
  have hf5 := row_later hf4 hs5
  have hz5 := hbe5.size
  clear hbe4 hs5 hz4 ha4 hf4 hbb4 hx4
  have hcc5 := hb5
  clear hb5
  obtain ⟨hqa0, hqa1, hqa2, hqa3, hqa4, hqa5, hqa6, hqa7⟩ := row_eight ha5
  have hlta := row_lt ha5
  go_wp2_with fail
  have hl6 := lies_at (f := u8v) w5 #[.int .u8 3, .int .u8 4, .int .u8 0, .int .u8 0, .int .u8 0, .int .u8 0] 5 (w5.heap.size) [(3 : UInt8), 4, 0, 0, 0, 0] rfl rfl
  have hs6 : Below w5.heap.size w5 (w5.alloc (.cells #[.int .u8 3, .int .u8 4, .int .u8 0, .int .u8 0, .int .u8 0, .int .u8 0] 5)) := (Below.refl _ _).alloc (Nat.le_refl _) _
  generalize w5.alloc (.cells #[.int .u8 3, .int .u8 4, .int .u8 0, .int .u8 0, .int .u8 0, .int .u8 0] 5) = w6 at *
  have hbe6 := hbe5.trans (hs6.mono hz5)
  have hbb6 := hbb5.below hs6 (Nat.le_refl _)
  have hcc6 := hcc5.below hs6 (Nat.le_refl _)
  have hx6 := hx5.below hs6
  have ha6 := row_later ha5 hs6
  have hf6 := row_later hf5 hs6
  have hz6 := hbe6.size
  clear hbe5 hs6 hz5 ha5 hf5 hbb5 hcc5 hx5 hqa0 hqa1 hqa2 hqa3 hqa4 hqa5 hqa6 hqa7 hlta
  refine (read7_any rq3 (none, 0, 0) (none, 0, 0) _ 6 6 [3, 4, 0, 0, 0, 0] rfl (by omega) (by unfold maxLen; omega) _ (rq_in 3 _) hl6).mono ?_
  rintro e w7 hp7
  rw [awake_r2] at hp7
  obtain ⟨h7, k7, t7, rfl, hy7, hs7⟩ := hp7
  clear hy7
  rw [(show ansV ((An.zero, 2) : Ans × Nat).1 h7 k7 t7 = Value.agg #[.int .i64 0, .slice h7.1 h7.2.1 h7.2.2, .slice k7.1 k7.2.1 k7.2.2, .slice t7.1 t7.2.1 t7.2.2] from rfl)]
  have hbe7 := hbe6.trans (hs7.mono hz6)
  have hbb7 := hbb6.below hs7 (Nat.le_refl _)
  have hcc7 := hcc6.below hs7 (Nat.le_refl _)
  have hl7 := hl6.below hs7 (Nat.le_refl _)
  have hx7 := hx6.below hs7
  have ha7 := row_later ha6 hs7
  have hf7 := row_later hf6 hs7
  have hz7 := hbe7.size
  clear hbe6 hs7 hz6 ha6 hf6 hbb6 hcc6 hl6 hx6
  clear hl7
  go_wp2_with fail
  have hy8 := row_at w7 #[.int .i64 0, .slice h7.1 h7.2.1 h7.2.2, .slice k7.1 k7.2.1 k7.2.2, .slice t7.1 t7.2.1 t7.2.2] 29 _ rfl
  have hs8 : Below w7.heap.size w7 (w7.alloc (.cells #[.int .i64 0, .slice h7.1 h7.2.1 h7.2.2, .slice k7.1 k7.2.1 k7.2.2, .slice t7.1 t7.2.1 t7.2.2] 29)) := (Below.refl _ _).alloc (Nat.le_refl _) _
  obtain ⟨gy, hgy⟩ : ∃ g, w7.heap.size = g := ⟨_, rfl⟩
  have hszy : (w7.alloc (.cells #[.int .i64 0, .slice h7.1 h7.2.1 h7.2.2, .slice k7.1 k7.2.1 k7.2.2, .slice t7.1 t7.2.1 t7.2.2] 29)).heap.size = gy + 1 := by simp [hgy]
  generalize w7.alloc (.cells #[.int .i64 0, .slice h7.1 h7.2.1 h7.2.2, .slice k7.1 k7.2.1 k7.2.2, .slice t7.1 t7.2.1 t7.2.2] 29) = w8 at *
  have hbe8 := hbe7.trans (hs8.mono hz7)
  have hbb8 := hbb7.below hs8 (Nat.le_refl _)
  have hcc8 := hcc7.below hs8 (Nat.le_refl _)
  have hx8 := hx7.below hs8
  have ha8 := row_later ha7 hs8
  have hf8 := row_later hf7 hs8
  have hz8 := hbe8.size
  clear hbe7 hs8 hz7 ha7 hf7 hbb7 hcc7 hx7
  rw [hgy] at *
  clear hgy
  clear hy8
  have ht9 := row_at w8 #[.int .i64 43, .int .i64 1, .int .i64 1, .int .i64 0, .slice none 0 0, .slice none 0 0, .int .u16 0, .int .u16 0] 26 (gy + 1) hszy
  have hs9 : Below w8.heap.size w8 (w8.alloc (.cells #[.int .i64 43, .int .i64 1, .int .i64 1, .int .i64 0, .slice none 0 0, .slice none 0 0, .int .u16 0, .int .u16 0] 26)) := (Below.refl _ _).alloc (Nat.le_refl _) _
  have hszt : (w8.alloc (.cells #[.int .i64 43, .int .i64 1, .int .i64 1, .int .i64 0, .slice none 0 0, .slice none 0 0, .int .u16 0, .int .u16 0] 26)).heap.size = gy + 1 + 1 := by simp [hszy]
  generalize w8.alloc (.cells #[.int .i64 43, .int .i64 1, .int .i64 1, .int .i64 0, .slice none 0 0, .slice none 0 0, .int .u16 0, .int .u16 0] 26) = w9 at *
  have hbe9 := hbe8.trans (hs9.mono hz8)
  have hbb9 := hbb8.below hs9 (Nat.le_refl _)
  have hcc9 := hcc8.below hs9 (Nat.le_refl _)
  have hx9 := hx8.below hs9
  have ha9 := row_later ha8 hs9
  have hf9 := row_later hf8 hs9
  have hz9 := hbe9.size
  clear hbe8 hs9 hz8 ha8 hf8 hbb8 hcc8 hx8
  have hl10 := lies_at (f := strv) w9 #[.string ⟨#[97, 98]⟩] 9 (gy + 1 + 1) [(⟨#[97, 98]⟩ : ByteArray)] rfl hszt
  have hs10 : Below w9.heap.size w9 (w9.alloc (.cells #[.string ⟨#[97, 98]⟩] 9)) := (Below.refl _ _).alloc (Nat.le_refl _) _
  generalize w9.alloc (.cells #[.string ⟨#[97, 98]⟩] 9) = w10 at *
  have hbe10 := hbe9.trans (hs10.mono hz9)
  have hbb10 := hbb9.below hs10 (Nat.le_refl _)
  have hcc10 := hcc9.below hs10 (Nat.le_refl _)
  have hx10 := hx9.below hs10
  have ha10 := row_later ha9 hs10
  have hf10 := row_later hf9 hs10
  have ht10 := row_later ht9 hs10
  have hz10 := hbe10.size
  clear hbe9 hs10 hz9 ha9 hf9 ht9 hbb9 hcc9 hx9
  clear hszt hszf hszy
  refine (bytes7_any rq43 xab (none, 0, 0) (none, 0, 0) (none, 0, 0) (none, 0, 0) (some ⟨gy + 1 + 1, 0, none⟩, 1, 1) _ (rq_in 43 _) (xab_in hl10) (by simp)).mono ?_
  rintro e w11 hp11
  obtain ⟨A11, n11, c11, rfl, hn11, hnc11, hcm11, hb11, hs11⟩ := hp11
  rw [awake_c3]
  rw [awake_b3] at hn11 hb11
  obtain rfl : n11 = 11 := hn11.symm
  clear hn11
  have hbe11 := hbe10.trans (hs11.mono hz10)
  have hbb11 := hbb10.below hs11 (Nat.le_refl _)
  have hcc11 := hcc10.below hs11 (Nat.le_refl _)
  have hl11 := hl10.below hs11 (Nat.le_refl _)
  have hx11 := hx10.below hs11
  have ha11 := row_later ha10 hs11
  have hf11 := row_later hf10 hs11
  have ht11 := row_later ht10 hs11
  have hz11 := hbe11.size
  clear hbe10 hs11 hz10 ha10 hf10 ht10 hbb10 hcc10 hl10 hx10
  have hdd11 := hb11
  clear hb11
  clear hl11 ht11
  obtain ⟨bhbb, ohbb, rfl, hlthbb, hchbb⟩ := hbb11.at_ (by simp)
  have hvhbb : w11.cell? ⟨bhbb, ohbb + 2, none⟩ = some (.int .u8 1) := hchbb 2 (by simp)
  clear hchbb hbb11
  obtain ⟨bhcc, ohcc, rfl, hlthcc, hchcc⟩ := hcc11.at_ (by simp)
  have hvhcc : w11.cell? ⟨bhcc, ohcc + 0, none⟩ = some (.int .u8 131) := hchcc 0 (by simp)
  clear hchcc hcc11
  rw [Nat.add_zero] at hvhcc
  obtain ⟨bhdd, ohdd, rfl, hlthdd, hchdd⟩ := hdd11.at_ (by simp)
  have hvhdd : w11.cell? ⟨bhdd, ohdd + 7, none⟩ = some (.int .u8 1) := hchdd 7 (by simp)
  clear hchdd hdd11
  have hkl : ((k3.2.1 : Nat) : Int) = 1 := by have h1 := hx11.kn; have h2 : (1 : Nat) = k3.2.1 := h1; omega
  have hkl' : ((((k3.2.1 : Nat) : Int)) == 1) = true := by rw [hkl]; rfl
  clear hkl
  have htl : t3.2.1 ≤ 1000000 := by have h1 := hx11.tn; have h2 : (0 : Nat) = t3.2.1 := h1; omega
  obtain ⟨hqa0, hqa1, hqa2, hqa3, hqa4, hqa5, hqa6, hqa7⟩ := row_eight ha11
  have hlta := row_lt ha11
  obtain ⟨hqf0, hqf1, hqf2, hqf3⟩ := row_quad hf11
  have hltf := row_lt hf11
  go_wp2_with fail
  refine (right7_any rq3 xw (none, 0, 0) (none, 0, 0) h3 k3 t3 _ (rq_in 3 _) hx11 htl).mono ?_
  rintro e w12 ⟨rfl, hs12⟩
  rw [awake_g]
  have hbe12 := hbe11.trans (hs12.mono hz11)
  have hx12 := hx11.below hs12
  have ha12 := row_later ha11 hs12
  have hf12 := row_later hf11 hs12
  have hz12 := hbe12.size
  clear hbe11 hs12 hz11 ha11 hf11 hx11 hqa0 hqa1 hqa2 hqa3 hqa4 hqa5 hqa6 hqa7 hlta hqf0 hqf1 hqf2 hqf3 hltf
  obtain ⟨hqa0, hqa1, hqa2, hqa3, hqa4, hqa5, hqa6, hqa7⟩ := row_eight ha12
  have hlta := row_lt ha12
  obtain ⟨hqf0, hqf1, hqf2, hqf3⟩ := row_quad hf12
  have hltf := row_lt hf12
  go_wp2_with fail
  refine (same7_any xw xw h3 k3 t3 h3 k3 t3 _ hx12 hx12).mono ?_
  rintro e w13 ⟨rfl, hs13⟩
  rw [awake_s]
  have hbe13 := hbe12.trans (hs13.mono hz12)
  have hx13 := hx12.below hs13
  have ha13 := row_later ha12 hs13
  have hf13 := row_later hf12 hs13
  have hz13 := hbe13.size
  clear hbe12 hs13 hz12 ha12 hf12 hx12 hqa0 hqa1 hqa2 hqa3 hqa4 hqa5 hqa6 hqa7 hlta hqf0 hqf1 hqf2 hqf3 hltf
  go_wp2_with fail
  go_ret
  exact ⟨rfl, hbe13⟩
#print axioms awake7_any
end Go.Proofs.YtcbkbdoaaaofjaaGreat
