
/-
  The law AskTells, walked: it answers true, and nothing that was there is touched.
-/
import Derived.Test.YtaembpncoicdpaaGreatAwake6
import Derived.Deep.RegionHeld3
import Derived.Deep.DrawnRows
namespace Go.Proofs.YtaembpncoicdpaaGreat
open Go.RowKit

attribute [local go_sem ↓] Go.wp_at_zero Go.wp_at_succ

set_option maxRecDepth 100000 in
set_option maxHeartbeats 2000000 in
theorem tells_law_any (a : Ask) (h k : Option Addr × Nat × Nat) (B : Option Addr) (n c : Nat) (b : List UInt8) (code : Int) (hn : b.length = n) (hnc : n ≤ c) (hcm : c ≤ maxLen) (w : World) (ha : AskIn w a h k) (hb : Lies u8v w B b) :
    Calls Tryz.prog 3 #[askV a h k, .slice B n c, .int .i64 code] w fun e w' => e = .returned (.bool true) ∧ Below w.heap.size w w' := by
  rw [(show askV a h k = Value.agg #[.int .i64 a.code, .int .i64 a.addr, .int .i64 a.count, .int .i64 a.to, .slice h.1 h.2.1 h.2.2, .slice k.1 k.2.1 k.2.2, u16v a.and_, u16v a.or_] from rfl)]
  have hmx : Tryz.prog.follows .mixedOrders = true := by kernel_rfl
  have HN := Lib.hid hn
  clear hn
  go_enter Tryz.func3, Tryz.ntmps3
  go_wp2_with fail
  have hbe_ : Below w.heap.size w w := Below.refl _ _
  have hx_ := row_at w #[.int .i64 a.code, .int .i64 a.addr, .int .i64 a.count, .int .i64 a.to, .slice h.1 h.2.1 h.2.2, .slice k.1 k.2.1 k.2.2, u16v a.and_, u16v a.or_] 26 (w.heap.size) rfl
  have hsz0 : (w.alloc (.cells #[.int .i64 a.code, .int .i64 a.addr, .int .i64 a.count, .int .i64 a.to, .slice h.1 h.2.1 h.2.2, .slice k.1 k.2.1 k.2.2, u16v a.and_, u16v a.or_] 26)).heap.size = w.heap.size + 1 := by simp
  have hsb : Below w.heap.size w (w.alloc (.cells #[.int .i64 a.code, .int .i64 a.addr, .int .i64 a.count, .int .i64 a.to, .slice h.1 h.2.1 h.2.2, .slice k.1 k.2.1 k.2.2, u16v a.and_, u16v a.or_] 26)) := (Below.refl _ _).alloc (Nat.le_refl _) _
  have hbe_ := hbe_.trans (hsb.mono (by omega))
  generalize w.alloc (.cells #[.int .i64 a.code, .int .i64 a.addr, .int .i64 a.count, .int .i64 a.to, .slice h.1 h.2.1 h.2.2, .slice k.1 k.2.1 k.2.2, u16v a.and_, u16v a.or_] 26) = w0 at *
  clear hsb
  have hx0 := hx_
  have hbe0 := hbe_
  have hz0 := hbe0.size
  have hb0 := hb.below hbe0 (Nat.le_refl _)
  have ha0 := ha.below hbe0
  clear hbe_ hx_ hsz0 hb ha
  refine (awake_any _).mono ?_
  rintro e w1 ⟨rfl, hs1⟩
  have hbe1 := hbe0.trans (hs1.mono hz0)
  have hb1 := hb0.below hs1 (Nat.le_refl _)
  have ha1 := ha0.below hs1
  have hx1 := row_later hx0 hs1
  have hz1 := hbe1.size
  clear hbe0 hs1 hz0 hx0 hb0 ha0
  obtain ⟨hqx0, hqx1, hqx2, hqx3, hqx4, hqx5, hqx6, hqx7⟩ := row_eight hx1
  have hltx := row_lt hx1
  go_wp2_with fail
  refine (rlarge_any a h k _ ha1).mono ?_
  rintro e w2 ⟨rfl, hs2⟩
  have hbe2 := hbe1.trans (hs2.mono hz1)
  have hb2 := hb1.below hs2 (Nat.le_refl _)
  have ha2 := ha1.below hs2
  have hx2 := row_later hx1 hs2
  have hz2 := hbe2.size
  clear hbe1 hs2 hz1 hx1 hb1 ha1 hqx0 hqx1 hqx2 hqx3 hqx4 hqx5 hqx6 hqx7 hltx
  obtain ⟨L1, hL1⟩ : ∃ L, (decide (300 < a.words.length) || decide (3000 < a.bits.length)) = L := ⟨_, rfl⟩
  rw [hL1]
  clear hL1
  cases L1 with
  | true =>
    obtain ⟨hqx0, hqx1, hqx2, hqx3, hqx4, hqx5, hqx6, hqx7⟩ := row_eight hx2
    have hltx := row_lt hx2
    go_wp2_with fail
    go_ret
    exact ⟨rfl, hbe2⟩
  | false =>
    by_cases h6 : 600 < n
    · have h6' : (600 : Int) < (n : Int) := by omega
      obtain ⟨hqx0, hqx1, hqx2, hqx3, hqx4, hqx5, hqx6, hqx7⟩ := row_eight hx2
      have hltx := row_lt hx2
      go_wp2_with fail
      go_ret
      exact ⟨rfl, hbe2⟩
    · have h6' : ¬ (600 : Int) < (n : Int) := by omega
      obtain ⟨⟨y, j⟩, hy⟩ : ∃ Y, Ak.parse b = Y := ⟨_, rfl⟩
      have HY := Lib.hid hy
      clear hy
      obtain ⟨ec, hec⟩ : ∃ E, Ak.codeA a = E := ⟨_, rfl⟩
      have HEC := Lib.hid hec
      clear hec
      obtain ⟨hqx0, hqx1, hqx2, hqx3, hqx4, hqx5, hqx6, hqx7⟩ := row_eight hx2
      have hltx := row_lt hx2
      go_wp2_with fail
      refine (bytes6_any a h k _ ha2).mono ?_
      rintro e w3 hp3
      obtain ⟨A3, n3, c3, rfl, hn3, hnc3, hcm3, hp3, hs3⟩ := hp3.at_
      rw [HEC.out]
      have HN3 := Lib.hid hn3
      clear hn3
      have hbe3 := hbe2.trans (hs3.mono hz2)
      have hb3 := hb2.below hs3 (Nat.le_refl _)
      have ha3 := ha2.below hs3
      have hx3 := row_later hx2 hs3
      have hz3 := hbe3.size
      clear hbe2 hs3 hz2 hx2 hb2 ha2 hqx0 hqx1 hqx2 hqx3 hqx4 hqx5 hqx6 hqx7 hltx
      obtain ⟨hqx0, hqx1, hqx2, hqx3, hqx4, hqx5, hqx6, hqx7⟩ := row_eight hx3
      have hltx := row_lt hx3
      go_wp2_with fail
      refine (rbytes6_any a h k _ ha3).mono ?_
      rintro e w4 hr4
      obtain ⟨A4, n4, c4, rfl, hn4, hnc4, hcm4, hr4, hs4⟩ := hr4.at_
      rw [HEC.out]
      have HN4 := Lib.hid hn4
      clear hn4
      have hbe4 := hbe3.trans (hs4.mono hz3)
      have hb4 := hb3.below hs4 (Nat.le_refl _)
      have hp4 := hp3.below hs4 (Nat.le_refl _)
      have ha4 := ha3.below hs4
      have hx4 := row_later hx3 hs4
      have hz4 := hbe4.size
      clear hbe3 hs4 hz3 hx3 hb3 hp3 ha3 hqx0 hqx1 hqx2 hqx3 hqx4 hqx5 hqx6 hqx7 hltx
      obtain ⟨hqx0, hqx1, hqx2, hqx3, hqx4, hqx5, hqx6, hqx7⟩ := row_eight hx4
      have hltx := row_lt hx4
      go_wp2_with fail
      refine (parse6_any B n c b HN.out hnc hcm (by omega) _ hb4).mono ?_
      rintro e w5 hpp5
      obtain ⟨h5, k5, rfl, hu5, hs5⟩ := hpp5.at_ HY.out
      clear hpp5
      rw [(show askV y h5 k5 = Value.agg #[.int .i64 y.code, .int .i64 y.addr, .int .i64 y.count, .int .i64 y.to, .slice h5.1 h5.2.1 h5.2.2, .slice k5.1 k5.2.1 k5.2.2, u16v y.and_, u16v y.or_] from rfl)]
      have hbe5 := hbe4.trans (hs5.mono hz4)
      have hb5 := hb4.below hs5 (Nat.le_refl _)
      have hp5 := hp4.below hs5 (Nat.le_refl _)
      have hr5 := hr4.below hs5 (Nat.le_refl _)
      have ha5 := ha4.below hs5
      have hx5 := row_later hx4 hs5
      have hz5 := hbe5.size
      clear hbe4 hs5 hz4 hx4 hb4 hp4 hr4 ha4 hqx0 hqx1 hqx2 hqx3 hqx4 hqx5 hqx6 hqx7 hltx
      go_wp2_with fail
      have hf6 := row_at w5 #[.int .i64 y.code, .int .i64 y.addr, .int .i64 y.count, .int .i64 y.to, .slice h5.1 h5.2.1 h5.2.2, .slice k5.1 k5.2.1 k5.2.2, u16v y.and_, u16v y.or_] 26 _ rfl
      have hs6 : Below w5.heap.size w5 (w5.alloc (.cells #[.int .i64 y.code, .int .i64 y.addr, .int .i64 y.count, .int .i64 y.to, .slice h5.1 h5.2.1 h5.2.2, .slice k5.1 k5.2.1 k5.2.2, u16v y.and_, u16v y.or_] 26)) := (Below.refl _ _).alloc (Nat.le_refl _) _
      obtain ⟨gf, hgf⟩ : ∃ g, w5.heap.size = g := ⟨_, rfl⟩
      have hszf : (w5.alloc (.cells #[.int .i64 y.code, .int .i64 y.addr, .int .i64 y.count, .int .i64 y.to, .slice h5.1 h5.2.1 h5.2.2, .slice k5.1 k5.2.1 k5.2.2, u16v y.and_, u16v y.or_] 26)).heap.size = gf + 1 := by simp [hgf]
      generalize w5.alloc (.cells #[.int .i64 y.code, .int .i64 y.addr, .int .i64 y.count, .int .i64 y.to, .slice h5.1 h5.2.1 h5.2.2, .slice k5.1 k5.2.1 k5.2.2, u16v y.and_, u16v y.or_] 26) = w6 at *
      have hbe6 := hbe5.trans (hs6.mono hz5)
      have hb6 := hb5.below hs6 (Nat.le_refl _)
      have hp6 := hp5.below hs6 (Nat.le_refl _)
      have hr6 := hr5.below hs6 (Nat.le_refl _)
      have ha6 := ha5.below hs6
      have hu6 := hu5.below hs6
      have hx6 := row_later hx5 hs6
      have hz6 := hbe6.size
      clear hbe5 hs6 hz5 hx5 hb5 hp5 hr5 ha5 hu5
      rw [hgf] at *
      clear hgf
      refine (rparse_any B n c b HN.out hnc hcm (by omega) _ hb6).mono ?_
      rintro e w7 hpp7
      obtain ⟨h7, k7, rfl, hv7, hs7⟩ := hpp7.at_ HY.out
      clear hpp7
      rw [(show askV y h7 k7 = Value.agg #[.int .i64 y.code, .int .i64 y.addr, .int .i64 y.count, .int .i64 y.to, .slice h7.1 h7.2.1 h7.2.2, .slice k7.1 k7.2.1 k7.2.2, u16v y.and_, u16v y.or_] from rfl)]
      have hbe7 := hbe6.trans (hs7.mono hz6)
      have hb7 := hb6.below hs7 (Nat.le_refl _)
      have hp7 := hp6.below hs7 (Nat.le_refl _)
      have hr7 := hr6.below hs7 (Nat.le_refl _)
      have ha7 := ha6.below hs7
      have hu7 := hu6.below hs7
      have hx7 := row_later hx6 hs7
      have hf7 := row_later hf6 hs7
      have hz7 := hbe7.size
      clear hbe6 hs7 hz6 hx6 hf6 hb6 hp6 hr6 ha6 hu6
      go_wp2_with fail
      have hg8 := row_at w7 #[.int .i64 y.code, .int .i64 y.addr, .int .i64 y.count, .int .i64 y.to, .slice h7.1 h7.2.1 h7.2.2, .slice k7.1 k7.2.1 k7.2.2, u16v y.and_, u16v y.or_] 30 _ rfl
      have hs8 : Below w7.heap.size w7 (w7.alloc (.cells #[.int .i64 y.code, .int .i64 y.addr, .int .i64 y.count, .int .i64 y.to, .slice h7.1 h7.2.1 h7.2.2, .slice k7.1 k7.2.1 k7.2.2, u16v y.and_, u16v y.or_] 30)) := (Below.refl _ _).alloc (Nat.le_refl _) _
      obtain ⟨gg, hgg⟩ : ∃ g, w7.heap.size = g := ⟨_, rfl⟩
      have hszg : (w7.alloc (.cells #[.int .i64 y.code, .int .i64 y.addr, .int .i64 y.count, .int .i64 y.to, .slice h7.1 h7.2.1 h7.2.2, .slice k7.1 k7.2.1 k7.2.2, u16v y.and_, u16v y.or_] 30)).heap.size = gg + 1 := by simp [hgg]
      generalize w7.alloc (.cells #[.int .i64 y.code, .int .i64 y.addr, .int .i64 y.count, .int .i64 y.to, .slice h7.1 h7.2.1 h7.2.2, .slice k7.1 k7.2.1 k7.2.2, u16v y.and_, u16v y.or_] 30) = w8 at *
      have hbe8 := hbe7.trans (hs8.mono hz7)
      have hb8 := hb7.below hs8 (Nat.le_refl _)
      have hp8 := hp7.below hs8 (Nat.le_refl _)
      have hr8 := hr7.below hs8 (Nat.le_refl _)
      have ha8 := ha7.below hs8
      have hu8 := hu7.below hs8
      have hv8 := hv7.below hs8
      have hx8 := row_later hx7 hs8
      have hf8 := row_later hf7 hs8
      have hz8 := hbe8.size
      clear hbe7 hs8 hz7 hx7 hf7 hb7 hp7 hr7 ha7 hu7 hv7
      rw [hgg] at *
      clear hgg
      refine (rsame8_any A3 A4 n3 n4 c3 c4 _ _ HN3.out HN4.out (by omega) _ hp8 hr8).mono ?_
      rintro e w9 ⟨rfl, q9, rfl⟩
      have hs9 : Below w8.heap.size w8 (w8.drewN q9) := drewN_below (Below.refl _ _) _
      generalize w8.drewN q9 = w9 at *
      rw [beq_self_eq_true]
      have hbe9 := hbe8.trans (hs9.mono hz8)
      have hb9 := hb8.below hs9 (Nat.le_refl _)
      have hp9 := hp8.below hs9 (Nat.le_refl _)
      have hr9 := hr8.below hs9 (Nat.le_refl _)
      have ha9 := ha8.below hs9
      have hu9 := hu8.below hs9
      have hv9 := hv8.below hs9
      have hx9 := row_later hx8 hs9
      have hf9 := row_later hf8 hs9
      have hg9 := row_later hg8 hs9
      have hz9 := hbe9.size
      clear hbe8 hs9 hz8 hx8 hf8 hg8 hb8 hp8 hr8 ha8 hu8 hv8
      obtain ⟨hqx0, hqx1, hqx2, hqx3, hqx4, hqx5, hqx6, hqx7⟩ := row_eight hx9
      have hltx := row_lt hx9
      obtain ⟨hqf0, hqf1, hqf2, hqf3, hqf4, hqf5, hqf6, hqf7⟩ := row_eight hf9
      have hltf := row_lt hf9
      obtain ⟨hqg0, hqg1, hqg2, hqg3, hqg4, hqg5, hqg6, hqg7⟩ := row_eight hg9
      have hltg := row_lt hg9
      go_wp2_with fail
      refine (rsame6_any y y h5 k5 h7 k7 _ hu9 hv9).mono ?_
      rintro e w10 ⟨rfl, hs10⟩
      rw [Ak.same_self]
      have hbe10 := hbe9.trans (hs10.mono hz9)
      have hb10 := hb9.below hs10 (Nat.le_refl _)
      have hp10 := hp9.below hs10 (Nat.le_refl _)
      have hr10 := hr9.below hs10 (Nat.le_refl _)
      have ha10 := ha9.below hs10
      have hu10 := hu9.below hs10
      have hv10 := hv9.below hs10
      have hx10 := row_later hx9 hs10
      have hf10 := row_later hf9 hs10
      have hg10 := row_later hg9 hs10
      have hz10 := hbe10.size
      clear hbe9 hs10 hz9 hx9 hf9 hg9 hb9 hp9 hr9 ha9 hu9 hv9 hqx0 hqx1 hqx2 hqx3 hqx4 hqx5 hqx6 hqx7 hltx hqf0 hqf1 hqf2 hqf3 hqf4 hqf5 hqf6 hqf7 hltf hqg0 hqg1 hqg2 hqg3 hqg4 hqg5 hqg6 hqg7 hltg
      clear hp10 hr10 hu10 hv10 hf10 hg10 hb10
      have HS : Hid (∀ W : World, Below w10.heap.size w10 W → W.cell? ⟨w.heap.size, 0, none⟩ = some (.int .i64 a.code) ∧ W.cell? ⟨w.heap.size, 1, none⟩ = some (.int .i64 a.addr) ∧ W.cell? ⟨w.heap.size, 2, none⟩ = some (.int .i64 a.count) ∧ W.cell? ⟨w.heap.size, 3, none⟩ = some (.int .i64 a.to) ∧ W.cell? ⟨w.heap.size, 4, none⟩ = some (.slice h.1 h.2.1 h.2.2) ∧ W.cell? ⟨w.heap.size, 5, none⟩ = some (.slice k.1 k.2.1 k.2.2) ∧ W.cell? ⟨w.heap.size, 6, none⟩ = some (u16v a.and_) ∧ W.cell? ⟨w.heap.size, 7, none⟩ = some (u16v a.or_)) := Lib.hid (fun W hW => by
        obtain ⟨p0, p1, p2, p3, p4, p5, p6, p7⟩ := row_eight (row_later hx10 hW)
        exact ⟨p0, p1, p2, p3, p4, p5, p6, p7⟩)
      have C1 : Hid (∀ W : World, Below w10.heap.size w10 W → Calls Tryz.prog 12 #[.agg #[.int .i64 a.code, .int .i64 a.addr, .int .i64 a.count, .int .i64 a.to, .slice h.1 h.2.1 h.2.2, .slice k.1 k.2.1 k.2.2, u16v a.and_, u16v a.or_]] W fun e w' => e = .returned (.bool (Ak.right a)) ∧ Below w10.heap.size w10 w') := Lib.hid (fun W hW => (right6_any a h k W (ha10.below hW)).mono (by
        rintro e w' ⟨rfl, hb'⟩
        exact ⟨rfl, hW.trans (hb'.mono hW.size)⟩))
      have C2 : Hid (∀ W : World, Below w10.heap.size w10 W → Calls Tryz.prog 13 #[.agg #[.int .i64 a.code, .int .i64 a.addr, .int .i64 a.count, .int .i64 a.to, .slice h.1 h.2.1 h.2.2, .slice k.1 k.2.1 k.2.2, u16v a.and_, u16v a.or_]] W fun e w' => e = .returned (.bool (Ak.right a)) ∧ Below w10.heap.size w10 w') := Lib.hid (fun W hW => (rright_any a h k W (ha10.below hW)).mono (by
        rintro e w' ⟨rfl, hb'⟩
        exact ⟨rfl, hW.trans (hb'.mono hW.size)⟩))
      have C3 : Hid (∀ W : World, Below w10.heap.size w10 W → Calls Tryz.prog 14 #[.int .i64 code] W fun e w' => e = .returned (.bool (Ak.writes code)) ∧ Below w10.heap.size w10 w') := Lib.hid (fun W hW => (writes6_any code W).mono (by
        rintro e w' ⟨rfl, hb'⟩
        exact ⟨rfl, hW.trans (hb'.mono hW.size)⟩))
      have C4 : Hid (∀ W : World, Below w10.heap.size w10 W → Calls Tryz.prog 15 #[.int .i64 code] W fun e w' => e = .returned (.bool (Ak.writes code)) ∧ Below w10.heap.size w10 w') := Lib.hid (fun W hW => (show Calls Tryz.prog 15 #[.int .i64 code] W (fun e w' => e = .returned (.bool (Ak.writes code)) ∧ Below W.heap.size W w') from (rwrites_any code W).mono (by rintro e w' ⟨rfl, rfl⟩; exact ⟨rfl, Below.refl _ _⟩)).mono (by
        rintro e w' ⟨rfl, hb'⟩
        exact ⟨rfl, hW.trans (hb'.mono hW.size)⟩))
      have hst : Below w10.heap.size w10 w10 := Below.refl _ _
      have hsd : Below w10.heap.size w10 w10.drew := drewN_below (Below.refl _ _) 1
      obtain ⟨V1, hV1⟩ : ∃ V, Ak.right a = V := ⟨_, rfl⟩
      obtain ⟨V2, hV2⟩ : ∃ V, Ak.writes code = V := ⟨_, rfl⟩
      rw [hV1] at C1 C2
      rw [hV2] at C3 C4
      have HBE := Lib.hid hbe10
      have HZ := Lib.hid hz10
      clear ha10 hx10 hbe10 hz10 hst hV1 hV2
      go_wp2_with fail
      go_region_held3 (fun w' => w'.cell? ⟨w.heap.size, 0, none⟩ = some (.int .i64 a.code) ∧ w'.cell? ⟨w.heap.size, 1, none⟩ = some (.int .i64 a.addr) ∧ w'.cell? ⟨w.heap.size, 2, none⟩ = some (.int .i64 a.count) ∧ w'.cell? ⟨w.heap.size, 3, none⟩ = some (.int .i64 a.to) ∧ w'.cell? ⟨w.heap.size, 4, none⟩ = some (.slice h.1 h.2.1 h.2.2) ∧ w'.cell? ⟨w.heap.size, 5, none⟩ = some (.slice k.1 k.2.1 k.2.2) ∧ w'.cell? ⟨w.heap.size, 6, none⟩ = some (u16v a.and_) ∧ w'.cell? ⟨w.heap.size, 7, none⟩ = some (u16v a.or_)) (first | exact HS.out _ (by with_reducible assumption) | fail) (first | (go_at_call 12; (with_reducible refine (C1.out _ (by with_reducible assumption)).mono ?_); rintro e w' ⟨rfl, hb'⟩) | (go_at_call 13; (with_reducible refine (C2.out _ (by with_reducible assumption)).mono ?_); rintro e w' ⟨rfl, hb'⟩) | (go_at_call 14; (with_reducible refine (C3.out _ (by with_reducible assumption)).mono ?_); rintro e w' ⟨rfl, hb'⟩) | (go_at_call 15; (with_reducible refine (C4.out _ (by with_reducible assumption)).mono ?_); rintro e w' ⟨rfl, hb'⟩) | fail)
      all_goals go_wp2_with fail
      all_goals go_ret
      all_goals exact ⟨by simp, HBE.out.trans (Below.mono (by with_reducible assumption) HZ.out)⟩
end Go.Proofs.YtaembpncoicdpaaGreat
