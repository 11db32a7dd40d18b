/-
  The law MbapTells, walked: it answers true, and nothing that was there is touched.
-/
import Derived.Test.YthpemcnjdgjlaaaAwake
import Derived.Deep.RegionHeld3
namespace Go.Proofs.Ythpemcnjdgjlaaa
open Go.RowKit

set_option maxRecDepth 100000 in
set_option maxHeartbeats 1000000 in
theorem tells_small (t s : UInt16) (u v : UInt8) (A B C : Option Addr) (n m k c d z : Nat) (p q b : List UInt8) (hn : p.length = n) (hm : q.length = m) (hk : b.length = k) (hn4 : n ≤ 400) (hm4 : m ≤ 400) (hk4 : k ≤ 600) (hkz : k ≤ z) (w : World) (ha : Lies u8v w A p) (hb : Lies u8v w B q) (hc : Lies u8v w C b) :
    Calls Try.prog 3 #[.agg #[u16v t, u8v u, .slice A n c], .agg #[u16v s, u8v v, .slice B m d], .slice C k z] w fun e w' => e = .returned (.bool true) ∧ Below w.heap.size w w' := by
  have HN := Lib.hid hn
  have HM := Lib.hid hm
  have HK := Lib.hid hk
  clear hn hm hk
  have g1 : (n : Int) ≤ 400 := by omega
  have g2 : (m : Int) ≤ 400 := by omega
  have g3 : (k : Int) ≤ 600 := by omega
  have HB := Lib.hid (Mb.bytes_le t u p)
  have hmx : Try.prog.follows .mixedOrders = true := by kernel_rfl
  go_enter Try.func3, Try.ntmps3
  go_wp2_with fail
  have hbe_ : Below w.heap.size w w := Below.refl _ _
  have hx_ := row_at w #[u16v t, u8v u, .slice A n c] 25 (w.heap.size) rfl
  have hsz0 : (w.alloc (.cells #[u16v t, u8v u, .slice A n c] 25)).heap.size = w.heap.size + 1 := by simp
  have hsb : Below w.heap.size w (w.alloc (.cells #[u16v t, u8v u, .slice A n c] 25)) := (Below.refl _ _).alloc (Nat.le_refl _) _
  have hbe_ := hbe_.trans (hsb.mono (by omega))
  generalize w.alloc (.cells #[u16v t, u8v u, .slice A n c] 25) = wb0 at *
  clear hsb
  have hy_ := row_at wb0 #[u16v s, u8v v, .slice B m d] 25 (w.heap.size + 1) hsz0
  have hsz1 : (wb0.alloc (.cells #[u16v s, u8v v, .slice B m d] 25)).heap.size = w.heap.size + 1 + 1 := by simp [hsz0]
  have hsb : Below wb0.heap.size wb0 (wb0.alloc (.cells #[u16v s, u8v v, .slice B m d] 25)) := (Below.refl _ _).alloc (Nat.le_refl _) _
  have hx_ := row_later hx_ hsb
  have hbe_ := hbe_.trans (hsb.mono (by omega))
  generalize wb0.alloc (.cells #[u16v s, u8v v, .slice B m d] 25) = w0 at *
  clear hsb hsz0
  have hx0 := hx_
  have hy0 := hy_
  have hbe0 := hbe_
  have hz0 := hbe0.size
  have ha0 := ha.below hbe0 (Nat.le_refl _)
  have hb0 := hb.below hbe0 (Nat.le_refl _)
  have hc0 := hc.below hbe0 (Nat.le_refl _)
  clear hbe_ hx_ hy_ hsz1 ha hb hc
  refine (awake_any _).mono ?_
  rintro e w1 ⟨rfl, hs1⟩
  have hbe1 := hbe0.trans (hs1.mono hz0)
  have ha1 := ha0.below hs1 (Nat.le_refl _)
  have hb1 := hb0.below hs1 (Nat.le_refl _)
  have hc1 := hc0.below hs1 (Nat.le_refl _)
  have hx1 := row_later hx0 hs1
  have hy1 := row_later hy0 hs1
  have hz1 := hbe1.size
  clear hbe0 hs1 hz0 hx0 hy0 ha0 hb0 hc0
  obtain ⟨hqx0, hqx1, hqx2⟩ := row_three hx1
  have hltx := row_lt hx1
  obtain ⟨hqy0, hqy1, hqy2⟩ := row_three hy1
  have hlty := row_lt hy1
  go_wp2_with fail
  refine (bytes4_any t u A n c p HN.out (by omega) _ ha1).mono ?_
  rintro e w2 ⟨A2, n2, c2, rfl, hn2, hown2, hs2⟩
  have hp2 := (own_at hown2).2.2.2
  have HN2 := Lib.hid hn2
  clear hown2 hn2
  have hbe2 := hbe1.trans (hs2.mono hz1)
  have ha2 := ha1.below hs2 (Nat.le_refl _)
  have hb2 := hb1.below hs2 (Nat.le_refl _)
  have hc2 := hc1.below hs2 (Nat.le_refl _)
  have hx2 := row_later hx1 hs2
  have hy2 := row_later hy1 hs2
  have hz2 := hbe2.size
  clear hbe1 hs2 hz1 hx1 hy1 ha1 hb1 hc1 hqx0 hqx1 hqx2 hltx hqy0 hqy1 hqy2 hlty
  obtain ⟨hqx0, hqx1, hqx2⟩ := row_three hx2
  have hltx := row_lt hx2
  obtain ⟨hqy0, hqy1, hqy2⟩ := row_three hy2
  have hlty := row_lt hy2
  go_wp2_with fail
  refine (rbytes4_any t u A n c p HN.out (by omega) _ ha2).mono ?_
  rintro e w3 ⟨A3, n3, c3, rfl, hn3, hown3, hs3⟩
  have hr3 := (own_at hown3).2.2.2
  have HN3 := Lib.hid hn3
  clear hown3 hn3
  have hbe3 := hbe2.trans (hs3.mono hz2)
  have ha3 := ha2.below hs3 (Nat.le_refl _)
  have hb3 := hb2.below hs3 (Nat.le_refl _)
  have hc3 := hc2.below hs3 (Nat.le_refl _)
  have hp3 := hp2.below hs3 (Nat.le_refl _)
  have hx3 := row_later hx2 hs3
  have hy3 := row_later hy2 hs3
  have hz3 := hbe3.size
  clear hbe2 hs3 hz2 hx2 hy2 ha2 hb2 hc2 hp2 hqx0 hqx1 hqx2 hltx hqy0 hqy1 hqy2 hlty
  obtain ⟨hqx0, hqx1, hqx2⟩ := row_three hx3
  have hltx := row_lt hx3
  obtain ⟨hqy0, hqy1, hqy2⟩ := row_three hy3
  have hlty := row_lt hy3
  go_wp2_with fail
  refine (read4_any C k z b HK.out hkz (by omega) _ hc3).mono ?_
  rintro e w4 ⟨A4, n4, c4, rfl, hn4', _, _, hu4, hs4, _⟩
  have HN4 := Lib.hid hn4'
  clear hn4'
  have hbe4 := hbe3.trans (hs4.mono hz3)
  have ha4 := ha3.below hs4 (Nat.le_refl _)
  have hb4 := hb3.below hs4 (Nat.le_refl _)
  have hc4 := hc3.below hs4 (Nat.le_refl _)
  have hp4 := hp3.below hs4 (Nat.le_refl _)
  have hr4 := hr3.below hs4 (Nat.le_refl _)
  have hx4 := row_later hx3 hs4
  have hy4 := row_later hy3 hs4
  have hz4 := hbe4.size
  clear hbe3 hs4 hz3 hx3 hy3 ha3 hb3 hc3 hp3 hr3 hqx0 hqx1 hqx2 hltx hqy0 hqy1 hqy2 hlty
  go_wp2_with fail
  have hf5 := row_at w4 #[u16v (Mb.tid b), u8v (Mb.unit b), .slice A4 n4 c4] 25 _ rfl
  have hs5 : Below w4.heap.size w4 (w4.alloc (.cells #[u16v (Mb.tid b), u8v (Mb.unit b), .slice A4 n4 c4] 25)) := (Below.refl _ _).alloc (Nat.le_refl _) _
  obtain ⟨gf, hgf⟩ : ∃ g, w4.heap.size = g := ⟨_, rfl⟩
  have hszf : (w4.alloc (.cells #[u16v (Mb.tid b), u8v (Mb.unit b), .slice A4 n4 c4] 25)).heap.size = gf + 1 := by simp [hgf]
  generalize w4.alloc (.cells #[u16v (Mb.tid b), u8v (Mb.unit b), .slice A4 n4 c4] 25) = w5 at *
  have hbe5 := hbe4.trans (hs5.mono hz4)
  have ha5 := ha4.below hs5 (Nat.le_refl _)
  have hb5 := hb4.below hs5 (Nat.le_refl _)
  have hc5 := hc4.below hs5 (Nat.le_refl _)
  have hp5 := hp4.below hs5 (Nat.le_refl _)
  have hr5 := hr4.below hs5 (Nat.le_refl _)
  have hu5 := hu4.below hs5 (Nat.le_refl _)
  have hx5 := row_later hx4 hs5
  have hy5 := row_later hy4 hs5
  have hz5 := hbe5.size
  clear hbe4 hs5 hz4 hx4 hy4 ha4 hb4 hc4 hp4 hr4 hu4
  rw [hgf] at *
  clear hgf
  refine (rread4_any C k z b HK.out hkz (by omega) _ hc5).mono ?_
  rintro e w6 ⟨A6, n6, c6, rfl, hn6, _, _, hv6, hs6, _⟩
  have HN6 := Lib.hid hn6
  clear hn6 hszf
  have hbe6 := hbe5.trans (hs6.mono hz5)
  have ha6 := ha5.below hs6 (Nat.le_refl _)
  have hb6 := hb5.below hs6 (Nat.le_refl _)
  have hc6 := hc5.below hs6 (Nat.le_refl _)
  have hp6 := hp5.below hs6 (Nat.le_refl _)
  have hr6 := hr5.below hs6 (Nat.le_refl _)
  have hu6 := hu5.below hs6 (Nat.le_refl _)
  have hx6 := row_later hx5 hs6
  have hy6 := row_later hy5 hs6
  have hf6 := row_later hf5 hs6
  have hz6 := hbe6.size
  clear hbe5 hs6 hz5 hx5 hy5 hf5 ha5 hb5 hc5 hp5 hr5 hu5
  go_wp2_with fail
  have hg7 := row_at w6 #[u16v (Mb.tid b), u8v (Mb.unit b), .slice A6 n6 c6] 31 _ rfl
  have hs7 : Below w6.heap.size w6 (w6.alloc (.cells #[u16v (Mb.tid b), u8v (Mb.unit b), .slice A6 n6 c6] 31)) := (Below.refl _ _).alloc (Nat.le_refl _) _
  obtain ⟨gg, hgg⟩ : ∃ g, w6.heap.size = g := ⟨_, rfl⟩
  have hszg : (w6.alloc (.cells #[u16v (Mb.tid b), u8v (Mb.unit b), .slice A6 n6 c6] 31)).heap.size = gg + 1 := by simp [hgg]
  generalize w6.alloc (.cells #[u16v (Mb.tid b), u8v (Mb.unit b), .slice A6 n6 c6] 31) = w7 at *
  have hbe7 := hbe6.trans (hs7.mono hz6)
  have ha7 := ha6.below hs7 (Nat.le_refl _)
  have hb7 := hb6.below hs7 (Nat.le_refl _)
  have hc7 := hc6.below hs7 (Nat.le_refl _)
  have hp7 := hp6.below hs7 (Nat.le_refl _)
  have hr7 := hr6.below hs7 (Nat.le_refl _)
  have hu7 := hu6.below hs7 (Nat.le_refl _)
  have hv7 := hv6.below hs7 (Nat.le_refl _)
  have hx7 := row_later hx6 hs7
  have hy7 := row_later hy6 hs7
  have hf7 := row_later hf6 hs7
  have hz7 := hbe7.size
  clear hbe6 hs7 hz6 hx6 hy6 hf6 ha6 hb6 hc6 hp6 hr6 hu6 hv6
  rw [hgg] at *
  clear hgg
  refine (rsame8_any A2 A3 n2 n3 c2 c3 _ _ HN2.out HN3.out (by have := HN2.out; have := HB.out; unfold maxLen; omega) _ hp7 hr7).mono ?_
  rintro e w8 ⟨rfl, q8, rfl⟩
  have hs8 : Below w7.heap.size w7 (w7.drewN q8) := drewN_below (Below.refl _ _) _
  generalize w7.drewN q8 = w8 at *
  rw [beq_self_eq_true]
  clear hszg
  have hbe8 := hbe7.trans (hs8.mono hz7)
  have ha8 := ha7.below hs8 (Nat.le_refl _)
  have hb8 := hb7.below hs8 (Nat.le_refl _)
  have hc8 := hc7.below hs8 (Nat.le_refl _)
  have hp8 := hp7.below hs8 (Nat.le_refl _)
  have hr8 := hr7.below hs8 (Nat.le_refl _)
  have hu8 := hu7.below hs8 (Nat.le_refl _)
  have hv8 := hv7.below hs8 (Nat.le_refl _)
  have hx8 := row_later hx7 hs8
  have hy8 := row_later hy7 hs8
  have hf8 := row_later hf7 hs8
  have hg8 := row_later hg7 hs8
  have hz8 := hbe8.size
  clear hbe7 hs8 hz7 hx7 hy7 hf7 hg7 ha7 hb7 hc7 hp7 hr7 hu7 hv7
  clear hp8 hr8 hc8
  obtain ⟨hqx0, hqx1, hqx2⟩ := row_three hx8
  have hltx := row_lt hx8
  obtain ⟨hqy0, hqy1, hqy2⟩ := row_three hy8
  have hlty := row_lt hy8
  obtain ⟨hqf0, hqf1, hqf2⟩ := row_three hf8
  have hltf := row_lt hf8
  obtain ⟨hqg0, hqg1, hqg2⟩ := row_three hg8
  have hltg := row_lt hg8
  go_wp2_with fail
  refine (rsame4_any (Mb.tid b) (Mb.tid b) (Mb.unit b) (Mb.unit b) A4 A6 n4 n6 c4 c6 (Mb.pdu b) (Mb.pdu b) HN4.out HN6.out (by have := HN4.out; have := Mb.pdu_most b; unfold maxLen; omega) _ hu8 hv8).mono ?_
  rintro e w9 ⟨rfl, hs9⟩
  rw [Mb.same_self]
  have hbe9 := hbe8.trans (hs9.mono hz8)
  have ha9 := ha8.below hs9 (Nat.le_refl _)
  have hb9 := hb8.below hs9 (Nat.le_refl _)
  have hu9 := hu8.below hs9 (Nat.le_refl _)
  have hv9 := hv8.below hs9 (Nat.le_refl _)
  have hx9 := row_later hx8 hs9
  have hy9 := row_later hy8 hs9
  have hf9 := row_later hf8 hs9
  have hg9 := row_later hg8 hs9
  have hz9 := hbe9.size
  clear hbe8 hs9 hz8 hx8 hy8 hf8 hg8 ha8 hb8 hu8 hv8 hqx0 hqx1 hqx2 hltx hqy0 hqy1 hqy2 hlty hqf0 hqf1 hqf2 hltf hqg0 hqg1 hqg2 hltg
  clear hu9 hv9 hf9 hg9
  generalize w.heap.size + 1 = gy at *
  obtain ⟨hq0, hq1, hq2⟩ := row_three hx9
  obtain ⟨hq3, hq4, hq5⟩ := row_three hy9
  clear hx9 hy9
  have had : Lies u8v w9.drew A p := ha9
  have hbd : Lies u8v w9.drew B q := hb9
  have hsd : Below w9.heap.size w9 w9.drew := drewN_below (Below.refl _ _) 1
  go_wp2_with fail
  go_region_held3 (fun w' => w'.cell? ⟨w.heap.size, 0, none⟩ = some (u16v t) ∧ w'.cell? ⟨w.heap.size, 1, none⟩ = some (u8v u) ∧ w'.cell? ⟨w.heap.size, 2, none⟩ = some (.slice A n c) ∧ w'.cell? ⟨gy, 0, none⟩ = some (u16v s) ∧ w'.cell? ⟨gy, 1, none⟩ = some (u8v v) ∧ w'.cell? ⟨gy, 2, none⟩ = some (.slice B m d)) (first | go_keep | (refine ⟨?_, ?_, ?_, ?_, ?_, ?_⟩ <;> assumption)) (first | (go_at_call 13; refine (same4_any t s u v A B n m c d p q HN.out HM.out (by unfold maxLen; omega) _ ?_ ?_).mono ?_; exact had; exact hbd; rintro e w10 ⟨rfl, hs10⟩; have ha10 := had.below hs10 (Nat.le_refl _); have hb10 := hbd.below hs10 (Nat.le_refl _); have k0 := cell_later hs10 (p := ⟨w.heap.size, 0, none⟩) hq0; have k1 := cell_later hs10 (p := ⟨w.heap.size, 1, none⟩) hq1; have k2 := cell_later hs10 (p := ⟨w.heap.size, 2, none⟩) hq2; have k3 := cell_later hs10 (p := ⟨gy, 0, none⟩) hq3; have k4 := cell_later hs10 (p := ⟨gy, 1, none⟩) hq4; have k5 := cell_later hs10 (p := ⟨gy, 2, none⟩) hq5) | (go_at_call 12; refine (rsame4_any t s u v A B n m c d p q HN.out HM.out (by unfold maxLen; omega) _ ?_ ?_).mono ?_; exact ha10; exact hb10; rintro e w11 ⟨rfl, hs11⟩; have l0 := cell_later hs11 k0; have l1 := cell_later hs11 k1; have l2 := cell_later hs11 k2; have l3 := cell_later hs11 k3; have l4 := cell_later hs11 k4; have l5 := cell_later hs11 k5))
  go_wp2_with fail
  go_ret
  exact ⟨rfl, hbe9.trans ((hsd.mono hz9).trans ((hs10.mono hz9).trans (hs11.mono (Nat.le_trans hz9 hs10.size))))⟩

set_option maxRecDepth 100000 in
set_option maxHeartbeats 1000000 in
theorem tells_any (t s : UInt16) (u v : UInt8) (A B C : Option Addr) (n m k c d z : Nat) (p q b : List UInt8) (hn : p.length = n) (hm : q.length = m) (hk : b.length = k) (hkz : k ≤ z) (w : World) (ha : Lies u8v w A p) (hb : Lies u8v w B q) (hc : Lies u8v w C b) :
    Calls Try.prog 3 #[.agg #[u16v t, u8v u, .slice A n c], .agg #[u16v s, u8v v, .slice B m d], .slice C k z] w fun e w' => e = .returned (.bool true) ∧ Below w.heap.size w w' := by
  by_cases hsmall : n ≤ 400 ∧ m ≤ 400 ∧ k ≤ 600
  · exact tells_small t s u v A B C n m k c d z p q b hn hm hk hsmall.1 hsmall.2.1 hsmall.2.2 hkz w ha hb hc
  · have hbig : (n ≤ 400 ∧ m ≤ 400 ∧ 600 < k) ∨ (n ≤ 400 ∧ 400 < m) ∨ 400 < n := by omega
    clear hsmall hn hm hk ha hb hc
    rcases hbig with ⟨h1, h2, h3⟩ | ⟨h1, h2⟩ | h1
    · have g1 : (n : Int) ≤ 400 := by omega
      have g2 : (m : Int) ≤ 400 := by omega
      have g3 : (600 : Int) < (k : Int) := by omega
      go_enter Try.func3, Try.ntmps3
      go_wp2_with fail
      have hbe_ : Below w.heap.size w w := Below.refl _ _
      have hx_ := row_at w #[u16v t, u8v u, .slice A n c] 25 (w.heap.size) rfl
      have hsz0 : (w.alloc (.cells #[u16v t, u8v u, .slice A n c] 25)).heap.size = w.heap.size + 1 := by simp
      have hsb : Below w.heap.size w (w.alloc (.cells #[u16v t, u8v u, .slice A n c] 25)) := (Below.refl _ _).alloc (Nat.le_refl _) _
      have hbe_ := hbe_.trans (hsb.mono (by omega))
      generalize w.alloc (.cells #[u16v t, u8v u, .slice A n c] 25) = wb0 at *
      clear hsb
      have hy_ := row_at wb0 #[u16v s, u8v v, .slice B m d] 25 (w.heap.size + 1) hsz0
      have hsz1 : (wb0.alloc (.cells #[u16v s, u8v v, .slice B m d] 25)).heap.size = w.heap.size + 1 + 1 := by simp [hsz0]
      have hsb : Below wb0.heap.size wb0 (wb0.alloc (.cells #[u16v s, u8v v, .slice B m d] 25)) := (Below.refl _ _).alloc (Nat.le_refl _) _
      have hx_ := row_later hx_ hsb
      have hbe_ := hbe_.trans (hsb.mono (by omega))
      generalize wb0.alloc (.cells #[u16v s, u8v v, .slice B m d] 25) = w0 at *
      clear hsb hsz0
      have hx0 := hx_
      have hy0 := hy_
      have hbe0 := hbe_
      have hz0 := hbe0.size
      clear hbe_ hx_ hy_ hsz1 
      refine (awake_any _).mono ?_
      rintro e w1 ⟨rfl, hs1⟩
      have hbe1 := hbe0.trans (hs1.mono hz0)
      have hx1 := row_later hx0 hs1
      have hy1 := row_later hy0 hs1
      have hz1 := hbe1.size
      clear hbe0 hs1 hz0 hx0 hy0
      obtain ⟨hqx0, hqx1, hqx2⟩ := row_three hx1
      have hltx := row_lt hx1
      obtain ⟨hqy0, hqy1, hqy2⟩ := row_three hy1
      have hlty := row_lt hy1
      go_wp2_with fail
      go_ret
      exact ⟨rfl, hbe1⟩
    · have g1 : (n : Int) ≤ 400 := by omega
      have g2 : (400 : Int) < (m : Int) := by omega
      go_enter Try.func3, Try.ntmps3
      go_wp2_with fail
      have hbe_ : Below w.heap.size w w := Below.refl _ _
      have hx_ := row_at w #[u16v t, u8v u, .slice A n c] 25 (w.heap.size) rfl
      have hsz0 : (w.alloc (.cells #[u16v t, u8v u, .slice A n c] 25)).heap.size = w.heap.size + 1 := by simp
      have hsb : Below w.heap.size w (w.alloc (.cells #[u16v t, u8v u, .slice A n c] 25)) := (Below.refl _ _).alloc (Nat.le_refl _) _
      have hbe_ := hbe_.trans (hsb.mono (by omega))
      generalize w.alloc (.cells #[u16v t, u8v u, .slice A n c] 25) = wb0 at *
      clear hsb
      have hy_ := row_at wb0 #[u16v s, u8v v, .slice B m d] 25 (w.heap.size + 1) hsz0
      have hsz1 : (wb0.alloc (.cells #[u16v s, u8v v, .slice B m d] 25)).heap.size = w.heap.size + 1 + 1 := by simp [hsz0]
      have hsb : Below wb0.heap.size wb0 (wb0.alloc (.cells #[u16v s, u8v v, .slice B m d] 25)) := (Below.refl _ _).alloc (Nat.le_refl _) _
      have hx_ := row_later hx_ hsb
      have hbe_ := hbe_.trans (hsb.mono (by omega))
      generalize wb0.alloc (.cells #[u16v s, u8v v, .slice B m d] 25) = w0 at *
      clear hsb hsz0
      have hx0 := hx_
      have hy0 := hy_
      have hbe0 := hbe_
      have hz0 := hbe0.size
      clear hbe_ hx_ hy_ hsz1 
      refine (awake_any _).mono ?_
      rintro e w1 ⟨rfl, hs1⟩
      have hbe1 := hbe0.trans (hs1.mono hz0)
      have hx1 := row_later hx0 hs1
      have hy1 := row_later hy0 hs1
      have hz1 := hbe1.size
      clear hbe0 hs1 hz0 hx0 hy0
      obtain ⟨hqx0, hqx1, hqx2⟩ := row_three hx1
      have hltx := row_lt hx1
      obtain ⟨hqy0, hqy1, hqy2⟩ := row_three hy1
      have hlty := row_lt hy1
      go_wp2_with fail
      go_ret
      exact ⟨rfl, hbe1⟩
    · have g1 : (400 : Int) < (n : Int) := by omega
      go_enter Try.func3, Try.ntmps3
      go_wp2_with fail
      have hbe_ : Below w.heap.size w w := Below.refl _ _
      have hx_ := row_at w #[u16v t, u8v u, .slice A n c] 25 (w.heap.size) rfl
      have hsz0 : (w.alloc (.cells #[u16v t, u8v u, .slice A n c] 25)).heap.size = w.heap.size + 1 := by simp
      have hsb : Below w.heap.size w (w.alloc (.cells #[u16v t, u8v u, .slice A n c] 25)) := (Below.refl _ _).alloc (Nat.le_refl _) _
      have hbe_ := hbe_.trans (hsb.mono (by omega))
      generalize w.alloc (.cells #[u16v t, u8v u, .slice A n c] 25) = wb0 at *
      clear hsb
      have hy_ := row_at wb0 #[u16v s, u8v v, .slice B m d] 25 (w.heap.size + 1) hsz0
      have hsz1 : (wb0.alloc (.cells #[u16v s, u8v v, .slice B m d] 25)).heap.size = w.heap.size + 1 + 1 := by simp [hsz0]
      have hsb : Below wb0.heap.size wb0 (wb0.alloc (.cells #[u16v s, u8v v, .slice B m d] 25)) := (Below.refl _ _).alloc (Nat.le_refl _) _
      have hx_ := row_later hx_ hsb
      have hbe_ := hbe_.trans (hsb.mono (by omega))
      generalize wb0.alloc (.cells #[u16v s, u8v v, .slice B m d] 25) = w0 at *
      clear hsb hsz0
      have hx0 := hx_
      have hy0 := hy_
      have hbe0 := hbe_
      have hz0 := hbe0.size
      clear hbe_ hx_ hy_ hsz1 
      refine (awake_any _).mono ?_
      rintro e w1 ⟨rfl, hs1⟩
      have hbe1 := hbe0.trans (hs1.mono hz0)
      have hx1 := row_later hx0 hs1
      have hy1 := row_later hy0 hs1
      have hz1 := hbe1.size
      clear hbe0 hs1 hz0 hx0 hy0
      obtain ⟨hqx0, hqx1, hqx2⟩ := row_three hx1
      have hltx := row_lt hx1
      obtain ⟨hqy0, hqy1, hqy2⟩ := row_three hy1
      have hlty := row_lt hy1
      go_wp2_with fail
      go_ret
      exact ⟨rfl, hbe1⟩
end Go.Proofs.Ythpemcnjdgjlaaa
