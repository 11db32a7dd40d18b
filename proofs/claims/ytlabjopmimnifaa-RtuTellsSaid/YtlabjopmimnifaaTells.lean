/-
  The law RtuTells, walked: it answers true, and nothing that was there is touched.
-/
import Derived.Test.YtlabjopmimnifaaBack
import Derived.Deep.RegionHeld3
namespace Go.Proofs.Ytlabjopmimnifaa
open Go.RowKit

theorem cell_later {W w' : World} (hb : Below W.heap.size W w') {p : Addr} {v : Value} (h : W.cell? p = some v) : w'.cell? p = some v :=
  (hb.cell (p := p) (World.block_lt_of_cell? W _ h)).trans h

theorem Rtu.bytes_le (u : UInt8) (p : List UInt8) (h : p.length ≤ 400) : (Rtu.bytes u p).length ≤ 405 := by
  by_cases hc : Rtu.codeP p = 0
  · rw [Rtu.bytes_length hc]; omega
  · rw [Rtu.bytes_bad u p hc]; simp

set_option maxRecDepth 100000 in
set_option maxHeartbeats 1000000 in
theorem tells_small (u v : UInt8) (A B C : Option Addr) (n m k c d z : Nat) (p q b : List UInt8) (hn : p.length = n) (hm : q.length = m) (hk : b.length = k) (hn4 : n ≤ 400) (hm4 : m ≤ 400) (hk4 : k ≤ 400) (hkz : k ≤ z) (w : World) (ha : Lies u8v w A p) (hb : Lies u8v w B q) (hc : Lies u8v w C b) :
    Calls Try.prog 3 #[.agg #[u8v u, .slice A n c], .agg #[u8v v, .slice B m d], .slice C k z] w fun e w' => e = .returned (.bool true) ∧ Below w.heap.size w w' := by
  have HN := Lib.hid hn
  have HM := Lib.hid hm
  have HK := Lib.hid hk
  clear hn hm hk
  have g1 : (n : Int) ≤ 400 := by omega
  have g2 : (m : Int) ≤ 400 := by omega
  have g3 : (k : Int) ≤ 400 := by omega
  have hmx : Try.prog.follows .mixedOrders = true := by kernel_rfl
  go_enter Try.func3, Try.ntmps3
  go_wp2_with fail
  have hx0 := frame_new w (u8v u) (.slice A n c) 24
  have hbx : Below w.heap.size w (w.alloc (.cells #[u8v u, .slice A n c] 24)) := (Below.refl _ _).alloc (Nat.le_refl _) _
  have hsx : (w.alloc (.cells #[u8v u, .slice A n c] 24)).heap.size = w.heap.size + 1 := by simp
  generalize w.alloc (.cells #[u8v u, .slice A n c] 24) = wx at *
  have hy0 := frame_new wx (u8v v) (.slice B m d) 24
  rw [hsx] at hy0
  have hby : Below wx.heap.size wx (wx.alloc (.cells #[u8v v, .slice B m d] 24)) := (Below.refl _ _).alloc (Nat.le_refl _) _
  have hx0 := frame_later hx0 hby
  have hbe0 := hbx.trans (hby.mono (by omega))
  generalize wx.alloc (.cells #[u8v v, .slice B m d] 24) = w0 at *
  have ha0 := ha.below hbe0 (Nat.le_refl _)
  have hb0 := hb.below hbe0 (Nat.le_refl _)
  have hc0 := hc.below hbe0 (Nat.le_refl _)
  have hz0 := hbe0.size
  clear ha hb hc hbx hby hsx
  have HB := Lib.hid (Rtu.bytes_le u p (by rw [HN.out]; omega))
  refine (awake_any _).mono ?_
  rintro e w1 ⟨rfl, hs1⟩
  have hbe1 := hbe0.trans (hs1.mono hz0)
  have ha1 := ha0.below hs1 (Nat.le_refl _)
  have hb1 := hb0.below hs1 (Nat.le_refl _)
  have hc1 := hc0.below hs1 (Nat.le_refl _)
  have hx1 := frame_later hx0 hs1
  have hy1 := frame_later hy0 hs1
  have hz1 := hbe1.size
  clear hbe0 hs1 hz0 hx0 hy0 ha0 hb0 hc0
  have hqx1 := hx1.1
  have hqx2 := hx1.2
  have hltx := World.block_lt_of_cell? _ _ hx1.1
  have hqy1 := hy1.1
  have hqy2 := hy1.2
  have hlty := World.block_lt_of_cell? _ _ hy1.1
  go_wp2_with fail
  refine (bytes3_any u A n c p HN.out (by omega) _ ha1).mono ?_
  rintro e w2 ⟨A2, n2, c2, rfl, hn2, hown2, hs2⟩
  have hp2 := (own_at hown2).2.2.2
  have HN2 := Lib.hid hn2
  clear hown2 hn2
  have hbe2 := hbe1.trans (hs2.mono hz1)
  have ha2 := ha1.below hs2 (Nat.le_refl _)
  have hb2 := hb1.below hs2 (Nat.le_refl _)
  have hc2 := hc1.below hs2 (Nat.le_refl _)
  have hx2 := frame_later hx1 hs2
  have hy2 := frame_later hy1 hs2
  have hz2 := hbe2.size
  clear hbe1 hs2 hz1 hx1 hy1 ha1 hb1 hc1 hqx1 hqx2 hltx hqy1 hqy2 hlty
  have hqx1 := hx2.1
  have hqx2 := hx2.2
  have hltx := World.block_lt_of_cell? _ _ hx2.1
  have hqy1 := hy2.1
  have hqy2 := hy2.2
  have hlty := World.block_lt_of_cell? _ _ hy2.1
  go_wp2_with fail
  refine (rbytes3_any u A n c p HN.out (by omega) _ ha2).mono ?_
  rintro e w3 ⟨A3, n3, c3, rfl, hn3, hown3, hs3⟩
  have hq3 := (own_at hown3).2.2.2
  have HN3 := Lib.hid hn3
  clear hown3 hn3
  have hbe3 := hbe2.trans (hs3.mono hz2)
  have ha3 := ha2.below hs3 (Nat.le_refl _)
  have hb3 := hb2.below hs3 (Nat.le_refl _)
  have hc3 := hc2.below hs3 (Nat.le_refl _)
  have hp3 := hp2.below hs3 (Nat.le_refl _)
  have hx3 := frame_later hx2 hs3
  have hy3 := frame_later hy2 hs3
  have hz3 := hbe3.size
  clear hbe2 hs3 hz2 hx2 hy2 ha2 hb2 hc2 hp2 hqx1 hqx2 hltx hqy1 hqy2 hlty
  have hqx1 := hx3.1
  have hqx2 := hx3.2
  have hltx := World.block_lt_of_cell? _ _ hx3.1
  have hqy1 := hy3.1
  have hqy2 := hy3.2
  have hlty := World.block_lt_of_cell? _ _ hy3.1
  go_wp2_with fail
  refine (read3_any C k z b HK.out hkz (by omega) _ hc3).mono ?_
  rintro e w4 ⟨A4, n4, c4, rfl, hn4', _, _, hr4, hs4⟩
  have HN4 := Lib.hid hn4'
  clear hn4'
  have hbe4 := hbe3.trans (hs4.mono hz3)
  have ha4 := ha3.below hs4 (Nat.le_refl _)
  have hb4 := hb3.below hs4 (Nat.le_refl _)
  have hc4 := hc3.below hs4 (Nat.le_refl _)
  have hp4 := hp3.below hs4 (Nat.le_refl _)
  have hq4 := hq3.below hs4 (Nat.le_refl _)
  have hx4 := frame_later hx3 hs4
  have hy4 := frame_later hy3 hs4
  have hz4 := hbe4.size
  clear hbe3 hs4 hz3 hx3 hy3 ha3 hb3 hc3 hp3 hq3 hqx1 hqx2 hltx hqy1 hqy2 hlty
  go_wp2_with fail
  have hfr5 := frame_new w4 (u8v (Rtu.unit b)) (.slice A4 n4 c4) 24
  have hs5 : Below w4.heap.size w4 (w4.alloc (.cells #[u8v (Rtu.unit b), .slice A4 n4 c4] 24)) := (Below.refl _ _).alloc (Nat.le_refl _) _
  obtain ⟨gr, hgr⟩ : ∃ g, w4.heap.size = g := ⟨_, rfl⟩
  generalize w4.alloc (.cells #[u8v (Rtu.unit b), .slice A4 n4 c4] 24) = w5 at *
  have hbe5 := hbe4.trans (hs5.mono hz4)
  have ha5 := ha4.below hs5 (Nat.le_refl _)
  have hb5 := hb4.below hs5 (Nat.le_refl _)
  have hc5 := hc4.below hs5 (Nat.le_refl _)
  have hp5 := hp4.below hs5 (Nat.le_refl _)
  have hq5 := hq4.below hs5 (Nat.le_refl _)
  have hr5 := hr4.below hs5 (Nat.le_refl _)
  have hx5 := frame_later hx4 hs5
  have hy5 := frame_later hy4 hs5
  have hz5 := hbe5.size
  clear hbe4 hs5 hz4 hx4 hy4 ha4 hb4 hc4 hp4 hq4 hr4
  rw [hgr] at *
  clear hgr
  refine (rread3_any C k z b HK.out hkz (by omega) _ hc5).mono ?_
  rintro e w6 ⟨A6, n6, c6, rfl, hn6, _, _, hs'6, hs6⟩
  have ht6 := hs'6
  have HN6 := Lib.hid hn6
  clear hn6 hs'6
  have hbe6 := hbe5.trans (hs6.mono hz5)
  have ha6 := ha5.below hs6 (Nat.le_refl _)
  have hb6 := hb5.below hs6 (Nat.le_refl _)
  have hc6 := hc5.below hs6 (Nat.le_refl _)
  have hp6 := hp5.below hs6 (Nat.le_refl _)
  have hq6 := hq5.below hs6 (Nat.le_refl _)
  have hr6 := hr5.below hs6 (Nat.le_refl _)
  have hx6 := frame_later hx5 hs6
  have hy6 := frame_later hy5 hs6
  have hfr6 := frame_later hfr5 hs6
  have hz6 := hbe6.size
  clear hbe5 hs6 hz5 hx5 hy5 hfr5 ha5 hb5 hc5 hp5 hq5 hr5
  go_wp2_with fail
  have hfs7 := frame_new w6 (u8v (Rtu.unit b)) (.slice A6 n6 c6) 30
  have hs7 : Below w6.heap.size w6 (w6.alloc (.cells #[u8v (Rtu.unit b), .slice A6 n6 c6] 30)) := (Below.refl _ _).alloc (Nat.le_refl _) _
  obtain ⟨gs, hgs⟩ : ∃ g, w6.heap.size = g := ⟨_, rfl⟩
  generalize w6.alloc (.cells #[u8v (Rtu.unit b), .slice A6 n6 c6] 30) = w7 at *
  have hbe7 := hbe6.trans (hs7.mono hz6)
  have ha7 := ha6.below hs7 (Nat.le_refl _)
  have hb7 := hb6.below hs7 (Nat.le_refl _)
  have hc7 := hc6.below hs7 (Nat.le_refl _)
  have hp7 := hp6.below hs7 (Nat.le_refl _)
  have hq7 := hq6.below hs7 (Nat.le_refl _)
  have hr7 := hr6.below hs7 (Nat.le_refl _)
  have ht7 := ht6.below hs7 (Nat.le_refl _)
  have hx7 := frame_later hx6 hs7
  have hy7 := frame_later hy6 hs7
  have hfr7 := frame_later hfr6 hs7
  have hz7 := hbe7.size
  clear hbe6 hs7 hz6 hx6 hy6 hfr6 ha6 hb6 hc6 hp6 hq6 hr6 ht6
  rw [hgs] at *
  clear hgs
  refine (rsame8_any A2 A3 n2 n3 c2 c3 _ _ HN2.out HN3.out (by have := HN2.out; have := HB.out; unfold maxLen; omega) _ hp7 hq7).mono ?_
  rintro e w8 ⟨rfl, q8, rfl⟩
  rw [beq_self_eq_true]
  have hs8 : Below w7.heap.size w7 (w7.drewN q8) := drewN_below (Below.refl _ _) _
  generalize w7.drewN q8 = w8 at *
  have hbe8 := hbe7.trans (hs8.mono hz7)
  have ha8 := ha7.below hs8 (Nat.le_refl _)
  have hb8 := hb7.below hs8 (Nat.le_refl _)
  have hc8 := hc7.below hs8 (Nat.le_refl _)
  have hp8 := hp7.below hs8 (Nat.le_refl _)
  have hq8 := hq7.below hs8 (Nat.le_refl _)
  have hr8 := hr7.below hs8 (Nat.le_refl _)
  have ht8 := ht7.below hs8 (Nat.le_refl _)
  have hx8 := frame_later hx7 hs8
  have hy8 := frame_later hy7 hs8
  have hfr8 := frame_later hfr7 hs8
  have hfs8 := frame_later hfs7 hs8
  have hz8 := hbe8.size
  clear hbe7 hs8 hz7 hx7 hy7 hfr7 hfs7 ha7 hb7 hc7 hp7 hq7 hr7 ht7
  have hqx1 := hx8.1
  have hqx2 := hx8.2
  have hltx := World.block_lt_of_cell? _ _ hx8.1
  have hqy1 := hy8.1
  have hqy2 := hy8.2
  have hlty := World.block_lt_of_cell? _ _ hy8.1
  have hqfr1 := hfr8.1
  have hqfr2 := hfr8.2
  have hltfr := World.block_lt_of_cell? _ _ hfr8.1
  have hqfs1 := hfs8.1
  have hqfs2 := hfs8.2
  have hltfs := World.block_lt_of_cell? _ _ hfs8.1
  go_wp2_with fail
  refine (rsame3_any (Rtu.unit b) (Rtu.unit b) A4 A6 n4 n6 c4 c6 (Rtu.pdu b) (Rtu.pdu b) HN4.out HN6.out (by omega) _ hr8 ht8).mono ?_
  rintro e w9 ⟨rfl, hs9⟩
  rw [Rtu.same_self]
  have hbe9 := hbe8.trans (hs9.mono hz8)
  have ha9 := ha8.below hs9 (Nat.le_refl _)
  have hb9 := hb8.below hs9 (Nat.le_refl _)
  have hc9 := hc8.below hs9 (Nat.le_refl _)
  have hp9 := hp8.below hs9 (Nat.le_refl _)
  have hq9 := hq8.below hs9 (Nat.le_refl _)
  have hr9 := hr8.below hs9 (Nat.le_refl _)
  have ht9 := ht8.below hs9 (Nat.le_refl _)
  have hx9 := frame_later hx8 hs9
  have hy9 := frame_later hy8 hs9
  have hfr9 := frame_later hfr8 hs9
  have hfs9 := frame_later hfs8 hs9
  have hz9 := hbe9.size
  clear hbe8 hs9 hz8 hx8 hy8 hfr8 hfs8 ha8 hb8 hc8 hp8 hq8 hr8 ht8 hqx1 hqx2 hltx hqy1 hqy2 hlty hqfr1 hqfr2 hltfr hqfs1 hqfs2 hltfs
  obtain ⟨hq1, hq2⟩ := hx9
  obtain ⟨hq3, hq4⟩ := hy9
  clear hfr9 hfs9 hc9 hr9 ht9 hp9 hq9
  generalize w.heap.size + 1 = gy at *
  have had : Lies u8v w9.drew A p := ha9
  have hbd : Lies u8v w9.drew B q := hb9
  have hsd : Below w9.heap.size w9 w9.drew := drewN_below (Below.refl _ _) 1
  go_wp2_with fail
  go_region_held3 (fun w' => w'.cell? ⟨w.heap.size, 0, none⟩ = some (u8v u) ∧ w'.cell? ⟨w.heap.size, 1, none⟩ = some (.slice A n c) ∧ w'.cell? ⟨gy, 0, none⟩ = some (u8v v) ∧ w'.cell? ⟨gy, 1, none⟩ = some (.slice B m d)) (first | go_keep | (refine ⟨?_, ?_, ?_, ?_⟩ <;> assumption)) (first | (go_at_call 13; refine (same3_any u v A B n m c d p q HN.out HM.out (by unfold maxLen; omega) _ ?_ ?_).mono ?_; exact had; exact hbd; rintro e w10 ⟨rfl, hs10⟩; have ha10 := had.below hs10 (Nat.le_refl _); have hb10 := hbd.below hs10 (Nat.le_refl _); have k1 := cell_later hs10 (p := ⟨w.heap.size, 0, none⟩) hq1; have k2 := cell_later hs10 (p := ⟨w.heap.size, 1, none⟩) hq2; have k3 := cell_later hs10 (p := ⟨gy, 0, none⟩) hq3; have k4 := cell_later hs10 (p := ⟨gy, 1, none⟩) hq4) | (go_at_call 12; refine (rsame3_any u v A B n m c d p q HN.out HM.out (by unfold maxLen; omega) _ ?_ ?_).mono ?_; exact ha10; exact hb10; rintro e w11 ⟨rfl, hs11⟩; have k5 := cell_later hs11 k1; have k6 := cell_later hs11 k2; have k7 := cell_later hs11 k3; have k8 := cell_later hs11 k4))
  go_wp2_with fail
  go_ret
  exact ⟨rfl, hbe9.trans ((hsd.mono hz9).trans ((hs10.mono hz9).trans (hs11.mono (Nat.le_trans hz9 hs10.size))))⟩

set_option maxRecDepth 100000 in
set_option maxHeartbeats 400000 in
theorem tells_any (u v : UInt8) (A B C : Option Addr) (n m k c d z : Nat) (p q b : List UInt8) (hn : p.length = n) (hm : q.length = m) (hk : b.length = k) (hkz : k ≤ z) (w : World) (ha : Lies u8v w A p) (hb : Lies u8v w B q) (hc : Lies u8v w C b) :
    Calls Try.prog 3 #[.agg #[u8v u, .slice A n c], .agg #[u8v v, .slice B m d], .slice C k z] w fun e w' => e = .returned (.bool true) ∧ Below w.heap.size w w' := by
  by_cases hsmall : n ≤ 400 ∧ m ≤ 400 ∧ k ≤ 400
  · exact tells_small u v A B C n m k c d z p q b hn hm hk hsmall.1 hsmall.2.1 hsmall.2.2 hkz w ha hb hc
  · have hbig : (n ≤ 400 ∧ m ≤ 400 ∧ 400 < k) ∨ (n ≤ 400 ∧ 400 < m) ∨ 400 < n := by omega
    clear hsmall hn hm hk ha hb hc
    have hx0 := frame_new w (u8v u) (.slice A n c) 24
    have hbx : Below w.heap.size w (w.alloc (.cells #[u8v u, .slice A n c] 24)) := (Below.refl _ _).alloc (Nat.le_refl _) _
    have hsx : (w.alloc (.cells #[u8v u, .slice A n c] 24)).heap.size = w.heap.size + 1 := by simp
    rcases hbig with ⟨b1, b2, b3⟩ | ⟨b1, b2⟩ | b1
    · have c1 : (n : Int) ≤ 400 := by omega
      have c2 : (m : Int) ≤ 400 := by omega
      have c3 : (400 : Int) < k := by omega
      go_enter Try.func3, Try.ntmps3
      go_wp2_with fail
      generalize w.alloc (.cells #[u8v u, .slice A n c] 24) = wx at *
      have hy0 := frame_new wx (u8v v) (.slice B m d) 24
      rw [hsx] at hy0
      have hby : Below wx.heap.size wx (wx.alloc (.cells #[u8v v, .slice B m d] 24)) := (Below.refl _ _).alloc (Nat.le_refl _) _
      have hx1 := frame_later hx0 hby
      have hbe0 := hbx.trans (hby.mono (by omega))
      generalize wx.alloc (.cells #[u8v v, .slice B m d] 24) = w0 at *
      refine (awake_any _).mono ?_
      rintro e w1 ⟨rfl, hs1⟩
      have hx2 := frame_later hx1 hs1
      have hy2 := frame_later hy0 hs1
      have hq1 := hx2.1
      have hq2 := hx2.2
      have hq3 := hy2.1
      have hq4 := hy2.2
      go_wp2_with fail
      go_ret
      exact ⟨rfl, hbe0.trans (hs1.mono hbe0.size)⟩
    · have c1 : (n : Int) ≤ 400 := by omega
      have c2 : (400 : Int) < m := by omega
      go_enter Try.func3, Try.ntmps3
      go_wp2_with fail
      generalize w.alloc (.cells #[u8v u, .slice A n c] 24) = wx at *
      have hy0 := frame_new wx (u8v v) (.slice B m d) 24
      rw [hsx] at hy0
      have hby : Below wx.heap.size wx (wx.alloc (.cells #[u8v v, .slice B m d] 24)) := (Below.refl _ _).alloc (Nat.le_refl _) _
      have hx1 := frame_later hx0 hby
      have hbe0 := hbx.trans (hby.mono (by omega))
      generalize wx.alloc (.cells #[u8v v, .slice B m d] 24) = w0 at *
      refine (awake_any _).mono ?_
      rintro e w1 ⟨rfl, hs1⟩
      have hx2 := frame_later hx1 hs1
      have hy2 := frame_later hy0 hs1
      have hq1 := hx2.1
      have hq2 := hx2.2
      have hq3 := hy2.1
      have hq4 := hy2.2
      go_wp2_with fail
      go_ret
      exact ⟨rfl, hbe0.trans (hs1.mono hbe0.size)⟩
    · have c1 : (400 : Int) < n := by omega
      go_enter Try.func3, Try.ntmps3
      go_wp2_with fail
      generalize w.alloc (.cells #[u8v u, .slice A n c] 24) = wx at *
      have hy0 := frame_new wx (u8v v) (.slice B m d) 24
      rw [hsx] at hy0
      have hby : Below wx.heap.size wx (wx.alloc (.cells #[u8v v, .slice B m d] 24)) := (Below.refl _ _).alloc (Nat.le_refl _) _
      have hx1 := frame_later hx0 hby
      have hbe0 := hbx.trans (hby.mono (by omega))
      generalize wx.alloc (.cells #[u8v v, .slice B m d] 24) = w0 at *
      refine (awake_any _).mono ?_
      rintro e w1 ⟨rfl, hs1⟩
      have hx2 := frame_later hx1 hs1
      have hy2 := frame_later hy0 hs1
      have hq1 := hx2.1
      have hq2 := hx2.2
      have hq3 := hy2.1
      have hq4 := hy2.2
      go_wp2_with fail
      go_ret
      exact ⟨rfl, hbe0.trans (hs1.mono hbe0.size)⟩
end Go.Proofs.Ytlabjopmimnifaa
