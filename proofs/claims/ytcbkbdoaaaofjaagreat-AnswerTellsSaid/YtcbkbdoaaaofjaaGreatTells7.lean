
/-
  The law AnswerTells, walked: it answers true, and nothing that was there is touched.
-/
import Derived.Test.YtcbkbdoaaaofjaaGreatAwake7
import Derived.Test.YtcbkbdoaaaofjaaGreatRr7
import Derived.Test.YtcbkbdoaaaofjaaGreatBack7
import Derived.Deep.RegionHeld3
import Derived.Deep.DrawnRows
namespace Go.Proofs.YtcbkbdoaaaofjaaGreat
open Go.RowKit

attribute [local go_sem ↓] Go.wp_at_zero Go.wp_at_succ

set_option maxRecDepth 100000 in
set_option maxHeartbeats 4000000 in
theorem tells7_law_any (a : Ask) (h k : Hd) (x y : Ans) (hx kx tx hy ky ty : Hd) (B : Option Addr) (n c : Nat) (b : List UInt8) (hn : b.length = n) (hnc : n ≤ c) (hcm : c ≤ maxLen) (w : World) (ha : AskIn w a h k) (hi : AnsIn w x hx kx tx) (hj : AnsIn w y hy ky ty) (hb : Lies u8v w B b) :
    Calls Tryz.prog 3 #[askV a h k, .agg #[.int .i64 x.exc, .slice hx.1 hx.2.1 hx.2.2, .slice kx.1 kx.2.1 kx.2.2, .slice tx.1 tx.2.1 tx.2.2, .int .i64 y.exc, .slice hy.1 hy.2.1 hy.2.2, .slice ky.1 ky.2.1 ky.2.2, .slice ty.1 ty.2.1 ty.2.2], .slice B n c] w fun e w' => e = .returned (.bool true) ∧ Below w.heap.size w w' := by
  rw [(show askV a h k = Value.agg #[.int .i64 a.code, .int .i64 a.addr, .int .i64 a.count, .int .i64 a.to, .slice h.1 h.2.1 h.2.2, .slice k.1 k.2.1 k.2.2, u16v a.and_, u16v a.or_] from rfl)]
  have hmx : Tryz.prog.follows .mixedOrders = true := by kernel_rfl
  have HN := Lib.hid hn
  clear hn
  go_enter Tryz.func3, Tryz.ntmps3
  go_wp2_with fail
  have hbe_ : Below w.heap.size w w := Below.refl _ _
  have hx_ := row_at w #[.int .i64 a.code, .int .i64 a.addr, .int .i64 a.count, .int .i64 a.to, .slice h.1 h.2.1 h.2.2, .slice k.1 k.2.1 k.2.2, u16v a.and_, u16v a.or_] 26 (w.heap.size) rfl
  have hsz0 : (w.alloc (.cells #[.int .i64 a.code, .int .i64 a.addr, .int .i64 a.count, .int .i64 a.to, .slice h.1 h.2.1 h.2.2, .slice k.1 k.2.1 k.2.2, u16v a.and_, u16v a.or_] 26)).heap.size = w.heap.size + 1 := by simp
  have hsb : Below w.heap.size w (w.alloc (.cells #[.int .i64 a.code, .int .i64 a.addr, .int .i64 a.count, .int .i64 a.to, .slice h.1 h.2.1 h.2.2, .slice k.1 k.2.1 k.2.2, u16v a.and_, u16v a.or_] 26)) := (Below.refl _ _).alloc (Nat.le_refl _) _
  have hbe_ := hbe_.trans (hsb.mono (by omega))
  generalize w.alloc (.cells #[.int .i64 a.code, .int .i64 a.addr, .int .i64 a.count, .int .i64 a.to, .slice h.1 h.2.1 h.2.2, .slice k.1 k.2.1 k.2.2, u16v a.and_, u16v a.or_] 26) = wb0 at *
  clear hsb
  have hy_ := row_at wb0 #[.int .i64 x.exc, .slice hx.1 hx.2.1 hx.2.2, .slice kx.1 kx.2.1 kx.2.2, .slice tx.1 tx.2.1 tx.2.2, .int .i64 y.exc, .slice hy.1 hy.2.1 hy.2.2, .slice ky.1 ky.2.1 ky.2.2, .slice ty.1 ty.2.1 ty.2.2] 30 (w.heap.size + 1) hsz0
  have hsz1 : (wb0.alloc (.cells #[.int .i64 x.exc, .slice hx.1 hx.2.1 hx.2.2, .slice kx.1 kx.2.1 kx.2.2, .slice tx.1 tx.2.1 tx.2.2, .int .i64 y.exc, .slice hy.1 hy.2.1 hy.2.2, .slice ky.1 ky.2.1 ky.2.2, .slice ty.1 ty.2.1 ty.2.2] 30)).heap.size = w.heap.size + 1 + 1 := by simp [hsz0]
  have hsb : Below wb0.heap.size wb0 (wb0.alloc (.cells #[.int .i64 x.exc, .slice hx.1 hx.2.1 hx.2.2, .slice kx.1 kx.2.1 kx.2.2, .slice tx.1 tx.2.1 tx.2.2, .int .i64 y.exc, .slice hy.1 hy.2.1 hy.2.2, .slice ky.1 ky.2.1 ky.2.2, .slice ty.1 ty.2.1 ty.2.2] 30)) := (Below.refl _ _).alloc (Nat.le_refl _) _
  have hx_ := row_later hx_ hsb
  have hbe_ := hbe_.trans (hsb.mono (by omega))
  generalize wb0.alloc (.cells #[.int .i64 x.exc, .slice hx.1 hx.2.1 hx.2.2, .slice kx.1 kx.2.1 kx.2.2, .slice tx.1 tx.2.1 tx.2.2, .int .i64 y.exc, .slice hy.1 hy.2.1 hy.2.2, .slice ky.1 ky.2.1 ky.2.2, .slice ty.1 ty.2.1 ty.2.2] 30) = w0 at *
  clear hsb hsz0
  have hx0 := hx_
  have hy0 := hy_
  have hbe0 := hbe_
  have hz0 := hbe0.size
  have hb0 := hb.below hbe0 (Nat.le_refl _)
  have ha0 := ha.below hbe0
  have hi0 := hi.below hbe0
  have hj0 := hj.below hbe0
  clear hbe_ hx_ hy_ hsz1 hb ha hi hj
  refine (awake7_any _).mono ?_
  rintro e w1 ⟨rfl, hs1⟩
  have hbe1 := hbe0.trans (hs1.mono hz0)
  have hb1 := hb0.below hs1 (Nat.le_refl _)
  have ha1 := ha0.below hs1
  have hi1 := hi0.below hs1
  have hj1 := hj0.below hs1
  have hx1 := row_later hx0 hs1
  have hy1 := row_later hy0 hs1
  have hz1 := hbe1.size
  clear hbe0 hs1 hz0 hx0 hy0 hb0 ha0 hi0 hj0
  obtain ⟨hqx0, hqx1, hqx2, hqx3, hqx4, hqx5, hqx6, hqx7⟩ := row_eight hx1
  have hltx := row_lt hx1
  obtain ⟨hqy0, hqy1, hqy2, hqy3, hqy4, hqy5, hqy6, hqy7⟩ := row_eight hy1
  have hlty := row_lt hy1
  go_wp2_with fail
  have hp2 := row_at w1 #[.int .i64 x.exc, .slice hx.1 hx.2.1 hx.2.2, .slice kx.1 kx.2.1 kx.2.2, .slice tx.1 tx.2.1 tx.2.2] 33 _ rfl
  have hs2 : Below w1.heap.size w1 (w1.alloc (.cells #[.int .i64 x.exc, .slice hx.1 hx.2.1 hx.2.2, .slice kx.1 kx.2.1 kx.2.2, .slice tx.1 tx.2.1 tx.2.2] 33)) := (Below.refl _ _).alloc (Nat.le_refl _) _
  obtain ⟨gp, hgp⟩ : ∃ g, w1.heap.size = g := ⟨_, rfl⟩
  have hszp : (w1.alloc (.cells #[.int .i64 x.exc, .slice hx.1 hx.2.1 hx.2.2, .slice kx.1 kx.2.1 kx.2.2, .slice tx.1 tx.2.1 tx.2.2] 33)).heap.size = gp + 1 := by simp [hgp]
  generalize w1.alloc (.cells #[.int .i64 x.exc, .slice hx.1 hx.2.1 hx.2.2, .slice kx.1 kx.2.1 kx.2.2, .slice tx.1 tx.2.1 tx.2.2] 33) = w2 at *
  have hbe2 := hbe1.trans (hs2.mono hz1)
  have hb2 := hb1.below hs2 (Nat.le_refl _)
  have ha2 := ha1.below hs2
  have hi2 := hi1.below hs2
  have hj2 := hj1.below hs2
  have hx2 := row_later hx1 hs2
  have hy2 := row_later hy1 hs2
  have hz2 := hbe2.size
  clear hbe1 hs2 hz1 hx1 hy1 hb1 ha1 hi1 hj1 hqx0 hqx1 hqx2 hqx3 hqx4 hqx5 hqx6 hqx7 hltx hqy0 hqy1 hqy2 hqy3 hqy4 hqy5 hqy6 hqy7 hlty
  rw [hgp] at *
  clear hgp
  have hq3 := row_at w2 #[.int .i64 y.exc, .slice hy.1 hy.2.1 hy.2.2, .slice ky.1 ky.2.1 ky.2.2, .slice ty.1 ty.2.1 ty.2.2] 33 (gp + 1) hszp
  have hs3 : Below w2.heap.size w2 (w2.alloc (.cells #[.int .i64 y.exc, .slice hy.1 hy.2.1 hy.2.2, .slice ky.1 ky.2.1 ky.2.2, .slice ty.1 ty.2.1 ty.2.2] 33)) := (Below.refl _ _).alloc (Nat.le_refl _) _
  have hszq : (w2.alloc (.cells #[.int .i64 y.exc, .slice hy.1 hy.2.1 hy.2.2, .slice ky.1 ky.2.1 ky.2.2, .slice ty.1 ty.2.1 ty.2.2] 33)).heap.size = gp + 1 + 1 := by simp [hszp]
  generalize w2.alloc (.cells #[.int .i64 y.exc, .slice hy.1 hy.2.1 hy.2.2, .slice ky.1 ky.2.1 ky.2.2, .slice ty.1 ty.2.1 ty.2.2] 33) = w3 at *
  have hbe3 := hbe2.trans (hs3.mono hz2)
  have hb3 := hb2.below hs3 (Nat.le_refl _)
  have ha3 := ha2.below hs3
  have hi3 := hi2.below hs3
  have hj3 := hj2.below hs3
  have hx3 := row_later hx2 hs3
  have hy3 := row_later hy2 hs3
  have hp3 := row_later hp2 hs3
  have hz3 := hbe3.size
  clear hbe2 hs3 hz2 hx2 hy2 hp2 hb2 ha2 hi2 hj2
  clear hszp hszq
  obtain ⟨hqx0, hqx1, hqx2, hqx3, hqx4, hqx5, hqx6, hqx7⟩ := row_eight hx3
  have hltx := row_lt hx3
  obtain ⟨hqy0, hqy1, hqy2, hqy3, hqy4, hqy5, hqy6, hqy7⟩ := row_eight hy3
  have hlty := row_lt hy3
  obtain ⟨hqp0, hqp1, hqp2, hqp3⟩ := row_quad hp3
  have hltp := row_lt hp3
  obtain ⟨hqq0, hqq1, hqq2, hqq3⟩ := row_quad hq3
  have hltq := row_lt hq3
  go_wp2_with fail
  refine (rlarge_any a h k _ ha3).mono ?_
  rintro e w4 ⟨rfl, hs4⟩
  have hbe4 := hbe3.trans (hs4.mono hz3)
  have hb4 := hb3.below hs4 (Nat.le_refl _)
  have ha4 := ha3.below hs4
  have hi4 := hi3.below hs4
  have hj4 := hj3.below hs4
  have hx4 := row_later hx3 hs4
  have hy4 := row_later hy3 hs4
  have hp4 := row_later hp3 hs4
  have hq4 := row_later hq3 hs4
  have hz4 := hbe4.size
  clear hbe3 hs4 hz3 hx3 hy3 hp3 hq3 hb3 ha3 hi3 hj3 hqx0 hqx1 hqx2 hqx3 hqx4 hqx5 hqx6 hqx7 hltx hqy0 hqy1 hqy2 hqy3 hqy4 hqy5 hqy6 hqy7 hlty hqp0 hqp1 hqp2 hqp3 hltp hqq0 hqq1 hqq2 hqq3 hltq
  obtain ⟨L1, hL1⟩ : ∃ L, (decide (300 < a.words.length) || decide (3000 < a.bits.length)) = L := ⟨_, rfl⟩
  rw [hL1]
  clear hL1
  cases L1 with
  | true =>
    obtain ⟨hqx0, hqx1, hqx2, hqx3, hqx4, hqx5, hqx6, hqx7⟩ := row_eight hx4
    have hltx := row_lt hx4
    obtain ⟨hqy0, hqy1, hqy2, hqy3, hqy4, hqy5, hqy6, hqy7⟩ := row_eight hy4
    have hlty := row_lt hy4
    obtain ⟨hqp0, hqp1, hqp2, hqp3⟩ := row_quad hp4
    have hltp := row_lt hp4
    obtain ⟨hqq0, hqq1, hqq2, hqq3⟩ := row_quad hq4
    have hltq := row_lt hq4
    go_wp2_with fail
    go_ret
    exact ⟨rfl, hbe4⟩
  | false =>
    obtain ⟨hqx0, hqx1, hqx2, hqx3, hqx4, hqx5, hqx6, hqx7⟩ := row_eight hx4
    have hltx := row_lt hx4
    obtain ⟨hqy0, hqy1, hqy2, hqy3, hqy4, hqy5, hqy6, hqy7⟩ := row_eight hy4
    have hlty := row_lt hy4
    obtain ⟨hqp0, hqp1, hqp2, hqp3⟩ := row_quad hp4
    have hltp := row_lt hp4
    obtain ⟨hqq0, hqq1, hqq2, hqq3⟩ := row_quad hq4
    have hltq := row_lt hq4
    go_wp2_with fail
    refine (rlarge7_any x hx kx tx _ hi4).mono ?_
    rintro e w5 ⟨rfl, hs5⟩
    have hbe5 := hbe4.trans (hs5.mono hz4)
    have hb5 := hb4.below hs5 (Nat.le_refl _)
    have ha5 := ha4.below hs5
    have hi5 := hi4.below hs5
    have hj5 := hj4.below hs5
    have hx5 := row_later hx4 hs5
    have hy5 := row_later hy4 hs5
    have hp5 := row_later hp4 hs5
    have hq5 := row_later hq4 hs5
    have hz5 := hbe5.size
    clear hbe4 hs5 hz4 hx4 hy4 hp4 hq4 hb4 ha4 hi4 hj4 hqx0 hqx1 hqx2 hqx3 hqx4 hqx5 hqx6 hqx7 hltx hqy0 hqy1 hqy2 hqy3 hqy4 hqy5 hqy6 hqy7 hlty hqp0 hqp1 hqp2 hqp3 hltp hqq0 hqq1 hqq2 hqq3 hltq
    cases hlg : An.large x with
    | true =>
      obtain ⟨hqx0, hqx1, hqx2, hqx3, hqx4, hqx5, hqx6, hqx7⟩ := row_eight hx5
      have hltx := row_lt hx5
      obtain ⟨hqy0, hqy1, hqy2, hqy3, hqy4, hqy5, hqy6, hqy7⟩ := row_eight hy5
      have hlty := row_lt hy5
      obtain ⟨hqp0, hqp1, hqp2, hqp3⟩ := row_quad hp5
      have hltp := row_lt hp5
      obtain ⟨hqq0, hqq1, hqq2, hqq3⟩ := row_quad hq5
      have hltq := row_lt hq5
      go_wp2_with fail
      go_ret
      exact ⟨rfl, hbe5⟩
    | false =>
      have htn : tx.2.1 ≤ 1000000 := by have h1 := An.large_few hlg; have h2 := hi5.tn; omega
      clear hlg
      obtain ⟨hqx0, hqx1, hqx2, hqx3, hqx4, hqx5, hqx6, hqx7⟩ := row_eight hx5
      have hltx := row_lt hx5
      obtain ⟨hqy0, hqy1, hqy2, hqy3, hqy4, hqy5, hqy6, hqy7⟩ := row_eight hy5
      have hlty := row_lt hy5
      obtain ⟨hqp0, hqp1, hqp2, hqp3⟩ := row_quad hp5
      have hltp := row_lt hp5
      obtain ⟨hqq0, hqq1, hqq2, hqq3⟩ := row_quad hq5
      have hltq := row_lt hq5
      go_wp2_with fail
      refine (rlarge7_any y hy ky ty _ hj5).mono ?_
      rintro e w6 ⟨rfl, hs6⟩
      have hbe6 := hbe5.trans (hs6.mono hz5)
      have hb6 := hb5.below hs6 (Nat.le_refl _)
      have ha6 := ha5.below hs6
      have hi6 := hi5.below hs6
      have hj6 := hj5.below hs6
      have hx6 := row_later hx5 hs6
      have hy6 := row_later hy5 hs6
      have hp6 := row_later hp5 hs6
      have hq6 := row_later hq5 hs6
      have hz6 := hbe6.size
      clear hbe5 hs6 hz5 hx5 hy5 hp5 hq5 hb5 ha5 hi5 hj5 hqx0 hqx1 hqx2 hqx3 hqx4 hqx5 hqx6 hqx7 hltx hqy0 hqy1 hqy2 hqy3 hqy4 hqy5 hqy6 hqy7 hlty hqp0 hqp1 hqp2 hqp3 hltp hqq0 hqq1 hqq2 hqq3 hltq
      cases hlg2 : An.large y with
      | true =>
        obtain ⟨hqx0, hqx1, hqx2, hqx3, hqx4, hqx5, hqx6, hqx7⟩ := row_eight hx6
        have hltx := row_lt hx6
        obtain ⟨hqy0, hqy1, hqy2, hqy3, hqy4, hqy5, hqy6, hqy7⟩ := row_eight hy6
        have hlty := row_lt hy6
        obtain ⟨hqp0, hqp1, hqp2, hqp3⟩ := row_quad hp6
        have hltp := row_lt hp6
        obtain ⟨hqq0, hqq1, hqq2, hqq3⟩ := row_quad hq6
        have hltq := row_lt hq6
        go_wp2_with fail
        go_ret
        exact ⟨rfl, hbe6⟩
      | false =>
        clear hlg2
        by_cases h6 : 600 < n
        · have h6' : (600 : Int) < (n : Int) := by omega
          obtain ⟨hqx0, hqx1, hqx2, hqx3, hqx4, hqx5, hqx6, hqx7⟩ := row_eight hx6
          have hltx := row_lt hx6
          obtain ⟨hqy0, hqy1, hqy2, hqy3, hqy4, hqy5, hqy6, hqy7⟩ := row_eight hy6
          have hlty := row_lt hy6
          obtain ⟨hqp0, hqp1, hqp2, hqp3⟩ := row_quad hp6
          have hltp := row_lt hp6
          obtain ⟨hqq0, hqq1, hqq2, hqq3⟩ := row_quad hq6
          have hltq := row_lt hq6
          go_wp2_with fail
          go_ret
          exact ⟨rfl, hbe6⟩
        · have h6' : ¬ (600 : Int) < (n : Int) := by omega
          obtain ⟨⟨z, j⟩, hz⟩ : ∃ Y, An.read a b = Y := ⟨_, rfl⟩
          have HY := Lib.hid hz
          clear hz
          obtain ⟨ec, hec⟩ : ∃ E, An.codeA a x = E := ⟨_, rfl⟩
          have HEC := Lib.hid hec
          clear hec
          have HLE : Hid ((An.bytes a x).length ≤ 253) := Lib.hid (by unfold An.bytes; split; (next hr => exact (An.guess_text (An.right_parts hr).1 (An.shape hr)).2.2); simp)
          obtain ⟨hqx0, hqx1, hqx2, hqx3, hqx4, hqx5, hqx6, hqx7⟩ := row_eight hx6
          have hltx := row_lt hx6
          obtain ⟨hqy0, hqy1, hqy2, hqy3, hqy4, hqy5, hqy6, hqy7⟩ := row_eight hy6
          have hlty := row_lt hy6
          obtain ⟨hqp0, hqp1, hqp2, hqp3⟩ := row_quad hp6
          have hltp := row_lt hp6
          obtain ⟨hqq0, hqq1, hqq2, hqq3⟩ := row_quad hq6
          have hltq := row_lt hq6
          go_wp2_with fail
          refine (bytes7_any a x h k hx kx tx _ ha6 hi6 htn).mono ?_
          rintro e w7 hpp7
          obtain ⟨A7, n7, c7, rfl, hn7, hnc7, hcm7, hbp7, hs7⟩ := hpp7
          rw [HEC.out]
          have HN7 := Lib.hid hn7
          clear hn7
          have hbe7 := hbe6.trans (hs7.mono hz6)
          have hb7 := hb6.below hs7 (Nat.le_refl _)
          have ha7 := ha6.below hs7
          have hi7 := hi6.below hs7
          have hj7 := hj6.below hs7
          have hx7 := row_later hx6 hs7
          have hy7 := row_later hy6 hs7
          have hp7 := row_later hp6 hs7
          have hq7 := row_later hq6 hs7
          have hz7 := hbe7.size
          clear hbe6 hs7 hz6 hx6 hy6 hp6 hq6 hb6 ha6 hi6 hj6 hqx0 hqx1 hqx2 hqx3 hqx4 hqx5 hqx6 hqx7 hltx hqy0 hqy1 hqy2 hqy3 hqy4 hqy5 hqy6 hqy7 hlty hqp0 hqp1 hqp2 hqp3 hltp hqq0 hqq1 hqq2 hqq3 hltq
          obtain ⟨hqx0, hqx1, hqx2, hqx3, hqx4, hqx5, hqx6, hqx7⟩ := row_eight hx7
          have hltx := row_lt hx7
          obtain ⟨hqy0, hqy1, hqy2, hqy3, hqy4, hqy5, hqy6, hqy7⟩ := row_eight hy7
          have hlty := row_lt hy7
          obtain ⟨hqp0, hqp1, hqp2, hqp3⟩ := row_quad hp7
          have hltp := row_lt hp7
          obtain ⟨hqq0, hqq1, hqq2, hqq3⟩ := row_quad hq7
          have hltq := row_lt hq7
          go_wp2_with fail
          refine (rbytes7_any a x h k hx kx tx _ ha7 hi7).mono ?_
          rintro e w8 hpp8
          obtain ⟨A8, n8, c8, rfl, hn8, hnc8, hcm8, hbr8, hs8⟩ := hpp8
          rw [HEC.out]
          have HN8 := Lib.hid hn8
          clear hn8
          have hbe8 := hbe7.trans (hs8.mono hz7)
          have hb8 := hb7.below hs8 (Nat.le_refl _)
          have hbp8 := hbp7.below hs8 (Nat.le_refl _)
          have ha8 := ha7.below hs8
          have hi8 := hi7.below hs8
          have hj8 := hj7.below hs8
          have hx8 := row_later hx7 hs8
          have hy8 := row_later hy7 hs8
          have hp8 := row_later hp7 hs8
          have hq8 := row_later hq7 hs8
          have hz8 := hbe8.size
          clear hbe7 hs8 hz7 hx7 hy7 hp7 hq7 hb7 hbp7 ha7 hi7 hj7 hqx0 hqx1 hqx2 hqx3 hqx4 hqx5 hqx6 hqx7 hltx hqy0 hqy1 hqy2 hqy3 hqy4 hqy5 hqy6 hqy7 hlty hqp0 hqp1 hqp2 hqp3 hltp hqq0 hqq1 hqq2 hqq3 hltq
          obtain ⟨hqx0, hqx1, hqx2, hqx3, hqx4, hqx5, hqx6, hqx7⟩ := row_eight hx8
          have hltx := row_lt hx8
          go_wp2_with fail
          refine (read7_any a h k B n c b HN.out hnc hcm _ ha8 hb8).mono ?_
          rintro e w9 hpp9
          rw [HY.out] at hpp9
          obtain ⟨h9, k9, t9, rfl, hu9, hs9⟩ := hpp9
          dsimp only at hu9
          rw [(show ansV ((z, j) : Ans × Nat).1 h9 k9 t9 = Value.agg #[.int .i64 z.exc, .slice h9.1 h9.2.1 h9.2.2, .slice k9.1 k9.2.1 k9.2.2, .slice t9.1 t9.2.1 t9.2.2] from rfl), (show (((z, j) : Ans × Nat).2 : Int) = (j : Int) from rfl)]
          have hbe9 := hbe8.trans (hs9.mono hz8)
          have hb9 := hb8.below hs9 (Nat.le_refl _)
          have hbp9 := hbp8.below hs9 (Nat.le_refl _)
          have hbr9 := hbr8.below hs9 (Nat.le_refl _)
          have ha9 := ha8.below hs9
          have hi9 := hi8.below hs9
          have hj9 := hj8.below hs9
          have hx9 := row_later hx8 hs9
          have hy9 := row_later hy8 hs9
          have hp9 := row_later hp8 hs9
          have hq9 := row_later hq8 hs9
          have hz9 := hbe9.size
          clear hbe8 hs9 hz8 hx8 hy8 hp8 hq8 hb8 hbp8 hbr8 ha8 hi8 hj8 hqx0 hqx1 hqx2 hqx3 hqx4 hqx5 hqx6 hqx7 hltx
          obtain ⟨hqx0, hqx1, hqx2, hqx3, hqx4, hqx5, hqx6, hqx7⟩ := row_eight hx9
          have hltx := row_lt hx9
          go_wp2_with fail
          have hf10 := row_at w9 #[.int .i64 z.exc, .slice h9.1 h9.2.1 h9.2.2, .slice k9.1 k9.2.1 k9.2.2, .slice t9.1 t9.2.1 t9.2.2] 29 _ rfl
          have hs10 : Below w9.heap.size w9 (w9.alloc (.cells #[.int .i64 z.exc, .slice h9.1 h9.2.1 h9.2.2, .slice k9.1 k9.2.1 k9.2.2, .slice t9.1 t9.2.1 t9.2.2] 29)) := (Below.refl _ _).alloc (Nat.le_refl _) _
          obtain ⟨gf, hgf⟩ : ∃ g, w9.heap.size = g := ⟨_, rfl⟩
          have hszf : (w9.alloc (.cells #[.int .i64 z.exc, .slice h9.1 h9.2.1 h9.2.2, .slice k9.1 k9.2.1 k9.2.2, .slice t9.1 t9.2.1 t9.2.2] 29)).heap.size = gf + 1 := by simp [hgf]
          generalize w9.alloc (.cells #[.int .i64 z.exc, .slice h9.1 h9.2.1 h9.2.2, .slice k9.1 k9.2.1 k9.2.2, .slice t9.1 t9.2.1 t9.2.2] 29) = w10 at *
          have hbe10 := hbe9.trans (hs10.mono hz9)
          have hb10 := hb9.below hs10 (Nat.le_refl _)
          have hbp10 := hbp9.below hs10 (Nat.le_refl _)
          have hbr10 := hbr9.below hs10 (Nat.le_refl _)
          have ha10 := ha9.below hs10
          have hi10 := hi9.below hs10
          have hj10 := hj9.below hs10
          have hu10 := hu9.below hs10
          have hx10 := row_later hx9 hs10
          have hy10 := row_later hy9 hs10
          have hp10 := row_later hp9 hs10
          have hq10 := row_later hq9 hs10
          have hz10 := hbe10.size
          clear hbe9 hs10 hz9 hx9 hy9 hp9 hq9 hb9 hbp9 hbr9 ha9 hi9 hj9 hu9 hqx0 hqx1 hqx2 hqx3 hqx4 hqx5 hqx6 hqx7 hltx
          rw [hgf] at *
          clear hgf
          refine (rread7_any a h k B n c b HN.out hnc hcm (by omega) _ ha10 hb10).mono ?_
          rintro e w11 hpp11
          rw [HY.out] at hpp11
          obtain ⟨h11, k11, t11, rfl, hv11, hs11⟩ := hpp11
          dsimp only at hv11
          rw [(show ansV ((z, j) : Ans × Nat).1 h11 k11 t11 = Value.agg #[.int .i64 z.exc, .slice h11.1 h11.2.1 h11.2.2, .slice k11.1 k11.2.1 k11.2.2, .slice t11.1 t11.2.1 t11.2.2] from rfl), (show (((z, j) : Ans × Nat).2 : Int) = (j : Int) from rfl)]
          have hbe11 := hbe10.trans (hs11.mono hz10)
          have hb11 := hb10.below hs11 (Nat.le_refl _)
          have hbp11 := hbp10.below hs11 (Nat.le_refl _)
          have hbr11 := hbr10.below hs11 (Nat.le_refl _)
          have ha11 := ha10.below hs11
          have hi11 := hi10.below hs11
          have hj11 := hj10.below hs11
          have hu11 := hu10.below hs11
          have hx11 := row_later hx10 hs11
          have hy11 := row_later hy10 hs11
          have hp11 := row_later hp10 hs11
          have hq11 := row_later hq10 hs11
          have hf11 := row_later hf10 hs11
          have hz11 := hbe11.size
          clear hbe10 hs11 hz10 hx10 hy10 hp10 hq10 hf10 hb10 hbp10 hbr10 ha10 hi10 hj10 hu10
          go_wp2_with fail
          have hg12 := row_at w11 #[.int .i64 z.exc, .slice h11.1 h11.2.1 h11.2.2, .slice k11.1 k11.2.1 k11.2.2, .slice t11.1 t11.2.1 t11.2.2] 33 _ rfl
          have hs12 : Below w11.heap.size w11 (w11.alloc (.cells #[.int .i64 z.exc, .slice h11.1 h11.2.1 h11.2.2, .slice k11.1 k11.2.1 k11.2.2, .slice t11.1 t11.2.1 t11.2.2] 33)) := (Below.refl _ _).alloc (Nat.le_refl _) _
          obtain ⟨gg, hgg⟩ : ∃ g, w11.heap.size = g := ⟨_, rfl⟩
          have hszg : (w11.alloc (.cells #[.int .i64 z.exc, .slice h11.1 h11.2.1 h11.2.2, .slice k11.1 k11.2.1 k11.2.2, .slice t11.1 t11.2.1 t11.2.2] 33)).heap.size = gg + 1 := by simp [hgg]
          generalize w11.alloc (.cells #[.int .i64 z.exc, .slice h11.1 h11.2.1 h11.2.2, .slice k11.1 k11.2.1 k11.2.2, .slice t11.1 t11.2.1 t11.2.2] 33) = w12 at *
          have hbe12 := hbe11.trans (hs12.mono hz11)
          have hb12 := hb11.below hs12 (Nat.le_refl _)
          have hbp12 := hbp11.below hs12 (Nat.le_refl _)
          have hbr12 := hbr11.below hs12 (Nat.le_refl _)
          have ha12 := ha11.below hs12
          have hi12 := hi11.below hs12
          have hj12 := hj11.below hs12
          have hu12 := hu11.below hs12
          have hv12 := hv11.below hs12
          have hx12 := row_later hx11 hs12
          have hy12 := row_later hy11 hs12
          have hp12 := row_later hp11 hs12
          have hq12 := row_later hq11 hs12
          have hf12 := row_later hf11 hs12
          have hz12 := hbe12.size
          clear hbe11 hs12 hz11 hx11 hy11 hp11 hq11 hf11 hb11 hbp11 hbr11 ha11 hi11 hj11 hu11 hv11
          rw [hgg] at *
          clear hgg
          refine (rsame8_any A7 A8 n7 n8 c7 c8 _ _ HN7.out HN8.out (by have h1 := HN7.out; have h2 := HLE.out; unfold maxLen; omega) _ hbp12 hbr12).mono ?_
          rintro e w13 ⟨rfl, q13, rfl⟩
          have hs13 : Below w12.heap.size w12 (w12.drewN q13) := drewN_below (Below.refl _ _) _
          generalize w12.drewN q13 = w13 at *
          rw [beq_self_eq_true]
          have hbe13 := hbe12.trans (hs13.mono hz12)
          have hb13 := hb12.below hs13 (Nat.le_refl _)
          have hbp13 := hbp12.below hs13 (Nat.le_refl _)
          have hbr13 := hbr12.below hs13 (Nat.le_refl _)
          have ha13 := ha12.below hs13
          have hi13 := hi12.below hs13
          have hj13 := hj12.below hs13
          have hu13 := hu12.below hs13
          have hv13 := hv12.below hs13
          have hx13 := row_later hx12 hs13
          have hy13 := row_later hy12 hs13
          have hp13 := row_later hp12 hs13
          have hq13 := row_later hq12 hs13
          have hf13 := row_later hf12 hs13
          have hg13 := row_later hg12 hs13
          have hz13 := hbe13.size
          clear hbe12 hs13 hz12 hx12 hy12 hp12 hq12 hf12 hg12 hb12 hbp12 hbr12 ha12 hi12 hj12 hu12 hv12
          obtain ⟨hqf0, hqf1, hqf2, hqf3⟩ := row_quad hf13
          have hltf := row_lt hf13
          obtain ⟨hqg0, hqg1, hqg2, hqg3⟩ := row_quad hg13
          have hltg := row_lt hg13
          go_wp2_with fail
          refine (rsame7_any z z h9 k9 t9 h11 k11 t11 _ hu13 hv13).mono ?_
          rintro e w14 ⟨rfl, hs14⟩
          rw [An.same_self]
          have hbe14 := hbe13.trans (hs14.mono hz13)
          have hb14 := hb13.below hs14 (Nat.le_refl _)
          have hbp14 := hbp13.below hs14 (Nat.le_refl _)
          have hbr14 := hbr13.below hs14 (Nat.le_refl _)
          have ha14 := ha13.below hs14
          have hi14 := hi13.below hs14
          have hj14 := hj13.below hs14
          have hu14 := hu13.below hs14
          have hv14 := hv13.below hs14
          have hx14 := row_later hx13 hs14
          have hy14 := row_later hy13 hs14
          have hp14 := row_later hp13 hs14
          have hq14 := row_later hq13 hs14
          have hf14 := row_later hf13 hs14
          have hg14 := row_later hg13 hs14
          have hz14 := hbe14.size
          clear hbe13 hs14 hz13 hx13 hy13 hp13 hq13 hf13 hg13 hb13 hbp13 hbr13 ha13 hi13 hj13 hu13 hv13 hqf0 hqf1 hqf2 hqf3 hltf hqg0 hqg1 hqg2 hqg3 hltg
          clear hbp14 hbr14 hu14 hv14 hf14 hg14 hb14
          generalize w.heap.size + 1 = gy at *
          generalize gp + 1 = gq at *
          have HS : Hid (∀ W : World, Below w14.heap.size w14 W → W.cell? ⟨w.heap.size, 0, none⟩ = some (.int .i64 a.code) ∧ W.cell? ⟨w.heap.size, 1, none⟩ = some (.int .i64 a.addr) ∧ W.cell? ⟨w.heap.size, 2, none⟩ = some (.int .i64 a.count) ∧ W.cell? ⟨w.heap.size, 3, none⟩ = some (.int .i64 a.to) ∧ W.cell? ⟨w.heap.size, 4, none⟩ = some (.slice h.1 h.2.1 h.2.2) ∧ W.cell? ⟨w.heap.size, 5, none⟩ = some (.slice k.1 k.2.1 k.2.2) ∧ W.cell? ⟨w.heap.size, 6, none⟩ = some (u16v a.and_) ∧ W.cell? ⟨w.heap.size, 7, none⟩ = some (u16v a.or_) ∧ W.cell? ⟨gy, 0, none⟩ = some (.int .i64 x.exc) ∧ W.cell? ⟨gy, 1, none⟩ = some (.slice hx.1 hx.2.1 hx.2.2) ∧ W.cell? ⟨gy, 2, none⟩ = some (.slice kx.1 kx.2.1 kx.2.2) ∧ W.cell? ⟨gy, 3, none⟩ = some (.slice tx.1 tx.2.1 tx.2.2) ∧ W.cell? ⟨gy, 4, none⟩ = some (.int .i64 y.exc) ∧ W.cell? ⟨gy, 5, none⟩ = some (.slice hy.1 hy.2.1 hy.2.2) ∧ W.cell? ⟨gy, 6, none⟩ = some (.slice ky.1 ky.2.1 ky.2.2) ∧ W.cell? ⟨gy, 7, none⟩ = some (.slice ty.1 ty.2.1 ty.2.2) ∧ W.cell? ⟨gp, 0, none⟩ = some (.int .i64 x.exc) ∧ W.cell? ⟨gp, 1, none⟩ = some (.slice hx.1 hx.2.1 hx.2.2) ∧ W.cell? ⟨gp, 2, none⟩ = some (.slice kx.1 kx.2.1 kx.2.2) ∧ W.cell? ⟨gp, 3, none⟩ = some (.slice tx.1 tx.2.1 tx.2.2) ∧ W.cell? ⟨gq, 0, none⟩ = some (.int .i64 y.exc) ∧ W.cell? ⟨gq, 1, none⟩ = some (.slice hy.1 hy.2.1 hy.2.2) ∧ W.cell? ⟨gq, 2, none⟩ = some (.slice ky.1 ky.2.1 ky.2.2) ∧ W.cell? ⟨gq, 3, none⟩ = some (.slice ty.1 ty.2.1 ty.2.2)) := Lib.hid (fun W hW => by
            obtain ⟨p0, p1, p2, p3, p4, p5, p6, p7⟩ := row_eight (row_later hx14 hW)
            obtain ⟨q0, q1, q2, q3, q4, q5, q6, q7⟩ := row_eight (row_later hy14 hW)
            obtain ⟨s0, s1, s2, s3⟩ := row_quad (row_later hp14 hW)
            obtain ⟨u0, u1, u2, u3⟩ := row_quad (row_later hq14 hW)
            exact ⟨p0, p1, p2, p3, p4, p5, p6, p7, q0, q1, q2, q3, q4, q5, q6, q7, s0, s1, s2, s3, u0, u1, u2, u3⟩)
          have C1 : Hid (∀ W : World, Below w14.heap.size w14 W → Calls Tryz.prog 15 #[.agg #[.int .i64 a.code, .int .i64 a.addr, .int .i64 a.count, .int .i64 a.to, .slice h.1 h.2.1 h.2.2, .slice k.1 k.2.1 k.2.2, u16v a.and_, u16v a.or_], .agg #[.int .i64 x.exc, .slice hx.1 hx.2.1 hx.2.2, .slice kx.1 kx.2.1 kx.2.2, .slice tx.1 tx.2.1 tx.2.2]] W fun e w' => e = .returned (.bool (An.right a x)) ∧ Below w14.heap.size w14 w') := Lib.hid (fun W hW => (right7_any a x h k hx kx tx W (ha14.below hW) (hi14.below hW) htn).mono (by
            rintro e w' ⟨rfl, hb'⟩
            exact ⟨rfl, hW.trans (hb'.mono hW.size)⟩))
          have C2 : Hid (∀ W : World, Below w14.heap.size w14 W → Calls Tryz.prog 16 #[.agg #[.int .i64 a.code, .int .i64 a.addr, .int .i64 a.count, .int .i64 a.to, .slice h.1 h.2.1 h.2.2, .slice k.1 k.2.1 k.2.2, u16v a.and_, u16v a.or_], .agg #[.int .i64 x.exc, .slice hx.1 hx.2.1 hx.2.2, .slice kx.1 kx.2.1 kx.2.2, .slice tx.1 tx.2.1 tx.2.2]] W fun e w' => e = .returned (.bool (An.right a x)) ∧ Below w14.heap.size w14 w') := Lib.hid (fun W hW => (rright7_any a h k x hx kx tx W (ha14.below hW) (hi14.below hW)).mono (by
            rintro e w' ⟨rfl, hb'⟩
            exact ⟨rfl, hW.trans (hb'.mono hW.size)⟩))
          have C3 : Hid (∀ W : World, Below w14.heap.size w14 W → Calls Tryz.prog 17 #[.agg #[.int .i64 x.exc, .slice hx.1 hx.2.1 hx.2.2, .slice kx.1 kx.2.1 kx.2.2, .slice tx.1 tx.2.1 tx.2.2], .agg #[.int .i64 y.exc, .slice hy.1 hy.2.1 hy.2.2, .slice ky.1 ky.2.1 ky.2.2, .slice ty.1 ty.2.1 ty.2.2]] W fun e w' => e = .returned (.bool (An.same x y)) ∧ Below w14.heap.size w14 w') := Lib.hid (fun W hW => (same7_any x y hx kx tx hy ky ty W (hi14.below hW) (hj14.below hW)).mono (by
            rintro e w' ⟨rfl, hb'⟩
            exact ⟨rfl, hW.trans (hb'.mono hW.size)⟩))
          have C4 : Hid (∀ W : World, Below w14.heap.size w14 W → Calls Tryz.prog 14 #[.agg #[.int .i64 x.exc, .slice hx.1 hx.2.1 hx.2.2, .slice kx.1 kx.2.1 kx.2.2, .slice tx.1 tx.2.1 tx.2.2], .agg #[.int .i64 y.exc, .slice hy.1 hy.2.1 hy.2.2, .slice ky.1 ky.2.1 ky.2.2, .slice ty.1 ty.2.1 ty.2.2]] W fun e w' => e = .returned (.bool (An.same x y)) ∧ Below w14.heap.size w14 w') := Lib.hid (fun W hW => (rsame7_any x y hx kx tx hy ky ty W (hi14.below hW) (hj14.below hW)).mono (by
            rintro e w' ⟨rfl, hb'⟩
            exact ⟨rfl, hW.trans (hb'.mono hW.size)⟩))
          have hst : Below w14.heap.size w14 w14 := Below.refl _ _
          have hsd : Below w14.heap.size w14 w14.drew := drewN_below (Below.refl _ _) 1
          obtain ⟨V1, hV1⟩ : ∃ V, An.right a x = V := ⟨_, rfl⟩
          obtain ⟨V2, hV2⟩ : ∃ V, An.same x y = V := ⟨_, rfl⟩
          rw [hV1] at C1 C2
          rw [hV2] at C3 C4
          have HBE := Lib.hid hbe14
          have HZ := Lib.hid hz14
          clear ha14 hi14 hj14 hx14 hy14 hp14 hq14 hbe14 hz14 hst hV1 hV2
          go_wp2_with fail
          go_region_held3 (fun w' => w'.cell? ⟨w.heap.size, 0, none⟩ = some (.int .i64 a.code) ∧ w'.cell? ⟨w.heap.size, 1, none⟩ = some (.int .i64 a.addr) ∧ w'.cell? ⟨w.heap.size, 2, none⟩ = some (.int .i64 a.count) ∧ w'.cell? ⟨w.heap.size, 3, none⟩ = some (.int .i64 a.to) ∧ w'.cell? ⟨w.heap.size, 4, none⟩ = some (.slice h.1 h.2.1 h.2.2) ∧ w'.cell? ⟨w.heap.size, 5, none⟩ = some (.slice k.1 k.2.1 k.2.2) ∧ w'.cell? ⟨w.heap.size, 6, none⟩ = some (u16v a.and_) ∧ w'.cell? ⟨w.heap.size, 7, none⟩ = some (u16v a.or_) ∧ w'.cell? ⟨gy, 0, none⟩ = some (.int .i64 x.exc) ∧ w'.cell? ⟨gy, 1, none⟩ = some (.slice hx.1 hx.2.1 hx.2.2) ∧ w'.cell? ⟨gy, 2, none⟩ = some (.slice kx.1 kx.2.1 kx.2.2) ∧ w'.cell? ⟨gy, 3, none⟩ = some (.slice tx.1 tx.2.1 tx.2.2) ∧ w'.cell? ⟨gy, 4, none⟩ = some (.int .i64 y.exc) ∧ w'.cell? ⟨gy, 5, none⟩ = some (.slice hy.1 hy.2.1 hy.2.2) ∧ w'.cell? ⟨gy, 6, none⟩ = some (.slice ky.1 ky.2.1 ky.2.2) ∧ w'.cell? ⟨gy, 7, none⟩ = some (.slice ty.1 ty.2.1 ty.2.2) ∧ w'.cell? ⟨gp, 0, none⟩ = some (.int .i64 x.exc) ∧ w'.cell? ⟨gp, 1, none⟩ = some (.slice hx.1 hx.2.1 hx.2.2) ∧ w'.cell? ⟨gp, 2, none⟩ = some (.slice kx.1 kx.2.1 kx.2.2) ∧ w'.cell? ⟨gp, 3, none⟩ = some (.slice tx.1 tx.2.1 tx.2.2) ∧ w'.cell? ⟨gq, 0, none⟩ = some (.int .i64 y.exc) ∧ w'.cell? ⟨gq, 1, none⟩ = some (.slice hy.1 hy.2.1 hy.2.2) ∧ w'.cell? ⟨gq, 2, none⟩ = some (.slice ky.1 ky.2.1 ky.2.2) ∧ w'.cell? ⟨gq, 3, none⟩ = some (.slice ty.1 ty.2.1 ty.2.2)) (first | exact HS.out _ (by with_reducible assumption) | fail) (first | (go_at_call 15; (with_reducible refine (C1.out _ (by with_reducible assumption)).mono ?_); rintro e w' ⟨rfl, hb'⟩) | (go_at_call 16; (with_reducible refine (C2.out _ (by with_reducible assumption)).mono ?_); rintro e w' ⟨rfl, hb'⟩) | (go_at_call 17; (with_reducible refine (C3.out _ (by with_reducible assumption)).mono ?_); rintro e w' ⟨rfl, hb'⟩) | (go_at_call 14; (with_reducible refine (C4.out _ (by with_reducible assumption)).mono ?_); rintro e w' ⟨rfl, hb'⟩) | fail)
          all_goals go_wp2_with fail
          all_goals go_ret
          all_goals exact ⟨by simp, HBE.out.trans (Below.mono (by with_reducible assumption) HZ.out)⟩
#print axioms tells7_law_any
end Go.Proofs.YtcbkbdoaaaofjaaGreat
