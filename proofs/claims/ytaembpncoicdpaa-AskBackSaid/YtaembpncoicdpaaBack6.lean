
/-
  The law AskBack, walked: it answers true, and nothing that was there is touched.
-/
import Derived.Test.YtaembpncoicdpaaAwake6
namespace Go.Proofs.Ytaembpncoicdpaa
open Go.RowKit

set_option maxRecDepth 100000 in
set_option maxHeartbeats 2000000 in
theorem back_law_any (a : Ask) (h k : Option Addr × Nat × Nat) (B : Option Addr) (n c : Nat) (b : List UInt8) (cut : Int) (hn : b.length = n) (hnc : n ≤ c) (hcm : c ≤ maxLen) (w : World) (ha : AskIn w a h k) (hb : Lies u8v w B b) :
    Calls Try.prog 3 #[askV a h k, .slice B n c, .int .i64 cut] w fun e w' => e = .returned (.bool true) ∧ Below w.heap.size w w' := by
  rw [(show askV a h k = Value.agg #[.int .i64 a.code, .int .i64 a.addr, .int .i64 a.count, .int .i64 a.to, .slice h.1 h.2.1 h.2.2, .slice k.1 k.2.1 k.2.2, u16v a.and_, u16v a.or_] from rfl)]
  have hmx : Try.prog.follows .mixedOrders = true := by kernel_rfl
  have HN := Lib.hid hn
  clear hn
  go_enter Try.func3, Try.ntmps3
  go_wp2_with fail
  have hbe_ : Below w.heap.size w w := Below.refl _ _
  have hx_ := row_at w #[.int .i64 a.code, .int .i64 a.addr, .int .i64 a.count, .int .i64 a.to, .slice h.1 h.2.1 h.2.2, .slice k.1 k.2.1 k.2.2, u16v a.and_, u16v a.or_] 26 (w.heap.size) rfl
  have hsz0 : (w.alloc (.cells #[.int .i64 a.code, .int .i64 a.addr, .int .i64 a.count, .int .i64 a.to, .slice h.1 h.2.1 h.2.2, .slice k.1 k.2.1 k.2.2, u16v a.and_, u16v a.or_] 26)).heap.size = w.heap.size + 1 := by simp
  have hsb : Below w.heap.size w (w.alloc (.cells #[.int .i64 a.code, .int .i64 a.addr, .int .i64 a.count, .int .i64 a.to, .slice h.1 h.2.1 h.2.2, .slice k.1 k.2.1 k.2.2, u16v a.and_, u16v a.or_] 26)) := (Below.refl _ _).alloc (Nat.le_refl _) _
  have hbe_ := hbe_.trans (hsb.mono (by omega))
  generalize w.alloc (.cells #[.int .i64 a.code, .int .i64 a.addr, .int .i64 a.count, .int .i64 a.to, .slice h.1 h.2.1 h.2.2, .slice k.1 k.2.1 k.2.2, u16v a.and_, u16v a.or_] 26) = w0 at *
  clear hsb
  have hx0 := hx_
  have hbe0 := hbe_
  have hz0 := hbe0.size
  have hb0 := hb.below hbe0 (Nat.le_refl _)
  have ha0 := ha.below hbe0
  clear hbe_ hx_ hsz0 hb ha
  refine (awake_any _).mono ?_
  rintro e w1 ⟨rfl, hs1⟩
  have hbe1 := hbe0.trans (hs1.mono hz0)
  have hb1 := hb0.below hs1 (Nat.le_refl _)
  have ha1 := ha0.below hs1
  have hx1 := row_later hx0 hs1
  have hz1 := hbe1.size
  clear hbe0 hs1 hz0 hx0 hb0 ha0
  obtain ⟨hqx0, hqx1, hqx2, hqx3, hqx4, hqx5, hqx6, hqx7⟩ := row_eight hx1
  have hltx := row_lt hx1
  go_wp2_with fail
  refine (rlarge_any a h k _ ha1).mono ?_
  rintro e w2 ⟨rfl, hs2⟩
  have hbe2 := hbe1.trans (hs2.mono hz1)
  have hb2 := hb1.below hs2 (Nat.le_refl _)
  have ha2 := ha1.below hs2
  have hx2 := row_later hx1 hs2
  have hz2 := hbe2.size
  clear hbe1 hs2 hz1 hx1 hb1 ha1 hqx0 hqx1 hqx2 hqx3 hqx4 hqx5 hqx6 hqx7 hltx
  obtain ⟨L1, hL1⟩ : ∃ L, (decide (300 < a.words.length) || decide (3000 < a.bits.length)) = L := ⟨_, rfl⟩
  rw [hL1]
  clear hL1
  cases L1 with
  | true =>
    obtain ⟨hqx0, hqx1, hqx2, hqx3, hqx4, hqx5, hqx6, hqx7⟩ := row_eight hx2
    have hltx := row_lt hx2
    go_wp2_with fail
    go_ret
    exact ⟨rfl, hbe2⟩
  | false =>
    by_cases h6 : 600 < n
    · have h6' : (600 : Int) < (n : Int) := by omega
      obtain ⟨hqx0, hqx1, hqx2, hqx3, hqx4, hqx5, hqx6, hqx7⟩ := row_eight hx2
      have hltx := row_lt hx2
      go_wp2_with fail
      go_ret
      exact ⟨rfl, hbe2⟩
    · have h6' : ¬ (600 : Int) < (n : Int) := by omega
      obtain ⟨⟨y, j⟩, hy⟩ : ∃ Y, Ak.parse b = Y := ⟨_, rfl⟩
      have hpb := Ak.parse_back b
      rw [hy] at hpb
      have HPB : Hid ((j = 0 ∧ Ak.right y = true ∧ Ak.text y = b) ∨ (j ≠ 0 ∧ y = Ak.zero)) := Lib.hid hpb
      have HY := Lib.hid hy
      have HCE : Hid (∀ {x : Ask}, Ak.right x = true → Ak.codeA x = 0) := Lib.hid (fun h => by unfold Ak.codeA; rw [h]; rfl)
      have HBE : Hid (∀ {x : Ask}, Ak.right x = true → Ak.bytes x = Ak.text x) := Lib.hid (fun h => by unfold Ak.bytes; rw [h]; rfl)
      clear hy hpb
      obtain ⟨hqx0, hqx1, hqx2, hqx3, hqx4, hqx5, hqx6, hqx7⟩ := row_eight hx2
      have hltx := row_lt hx2
      go_wp2_with fail
      refine (bytes6_any a h k _ ha2).mono ?_
      rintro e w3 hp3
      obtain ⟨A3, n3, c3, rfl, hn3, hnc3, hcm3, hp3, hs3⟩ := hp3.at_
      have HN3 := Lib.hid hn3
      clear hn3
      have hbe3 := hbe2.trans (hs3.mono hz2)
      have hb3 := hb2.below hs3 (Nat.le_refl _)
      have ha3 := ha2.below hs3
      have hx3 := row_later hx2 hs3
      have hz3 := hbe3.size
      clear hbe2 hs3 hz2 hx2 hb2 ha2 hqx0 hqx1 hqx2 hqx3 hqx4 hqx5 hqx6 hqx7 hltx
      have hmost := Ak.bytes_most a
      rw [HN3.out] at hmost
      cases hr : Ak.right a with
      | false =>
        have hce : Ak.codeA a = 2 := by unfold Ak.codeA; rw [hr]; rfl
        rw [hce]
        clear hce
        clear hp3
        obtain ⟨hqx0, hqx1, hqx2, hqx3, hqx4, hqx5, hqx6, hqx7⟩ := row_eight hx3
        have hltx := row_lt hx3
        go_wp2_with fail
        refine (right6_any a h k _ ha3).mono ?_
        rintro e w4 ⟨rfl, hs4⟩
        rw [hr]
        have hbe4 := hbe3.trans (hs4.mono hz3)
        have hb4 := hb3.below hs4 (Nat.le_refl _)
        have ha4 := ha3.below hs4
        have hx4 := row_later hx3 hs4
        have hz4 := hbe4.size
        clear hbe3 hs4 hz3 hx3 hb3 ha3 hqx0 hqx1 hqx2 hqx3 hqx4 hqx5 hqx6 hqx7 hltx
        obtain ⟨hqx0, hqx1, hqx2, hqx3, hqx4, hqx5, hqx6, hqx7⟩ := row_eight hx4
        have hltx := row_lt hx4
        go_wp2_with fail
        refine (parse6_any B n c b HN.out hnc hcm (by omega) _ hb4).mono ?_
        rintro e w5 hpp5
        obtain ⟨h5, k5, rfl, hu5, hs5⟩ := hpp5.at_ HY.out
        clear hpp5
        have hbe5 := hbe4.trans (hs5.mono hz4)
        have hb5 := hb4.below hs5 (Nat.le_refl _)
        have ha5 := ha4.below hs5
        have hx5 := row_later hx4 hs5
        have hz5 := hbe5.size
        clear hbe4 hs5 hz4 hx4 hb4 ha4 hqx0 hqx1 hqx2 hqx3 hqx4 hqx5 hqx6 hqx7 hltx
        rcases HPB.out with ⟨hj0, hr, ht⟩ | ⟨hj0, hz⟩
        · subst hj0
          have HT := Lib.hid ht
          have HR := Lib.hid hr
          clear hr ht
          have hjj : (((0 : Nat) : Int) != 0) = false := rfl
          rw [(show askV y h5 k5 = Value.agg #[.int .i64 y.code, .int .i64 y.addr, .int .i64 y.count, .int .i64 y.to, .slice h5.1 h5.2.1 h5.2.2, .slice k5.1 k5.2.1 k5.2.2, u16v y.and_, u16v y.or_] from rfl)]
          go_wp2_with fail
          have hq6 := row_at w5 #[.int .i64 y.code, .int .i64 y.addr, .int .i64 y.count, .int .i64 y.to, .slice h5.1 h5.2.1 h5.2.2, .slice k5.1 k5.2.1 k5.2.2, u16v y.and_, u16v y.or_] 26 _ rfl
          have hs6 : Below w5.heap.size w5 (w5.alloc (.cells #[.int .i64 y.code, .int .i64 y.addr, .int .i64 y.count, .int .i64 y.to, .slice h5.1 h5.2.1 h5.2.2, .slice k5.1 k5.2.1 k5.2.2, u16v y.and_, u16v y.or_] 26)) := (Below.refl _ _).alloc (Nat.le_refl _) _
          obtain ⟨gq, hgq⟩ : ∃ g, w5.heap.size = g := ⟨_, rfl⟩
          have hszq : (w5.alloc (.cells #[.int .i64 y.code, .int .i64 y.addr, .int .i64 y.count, .int .i64 y.to, .slice h5.1 h5.2.1 h5.2.2, .slice k5.1 k5.2.1 k5.2.2, u16v y.and_, u16v y.or_] 26)).heap.size = gq + 1 := by simp [hgq]
          generalize w5.alloc (.cells #[.int .i64 y.code, .int .i64 y.addr, .int .i64 y.count, .int .i64 y.to, .slice h5.1 h5.2.1 h5.2.2, .slice k5.1 k5.2.1 k5.2.2, u16v y.and_, u16v y.or_] 26) = w6 at *
          have hbe6 := hbe5.trans (hs6.mono hz5)
          have hb6 := hb5.below hs6 (Nat.le_refl _)
          have ha6 := ha5.below hs6
          have hu6 := hu5.below hs6
          have hx6 := row_later hx5 hs6
          have hz6 := hbe6.size
          clear hbe5 hs6 hz5 hx5 hb5 ha5 hu5
          rw [hgq] at *
          clear hgq
          refine (bytes6_any y h5 k5 _ hu6).mono ?_
          rintro e w7 hp7
          obtain ⟨A7, n7, c7, rfl, hn7, hnc7, hcm7, hp7, hs7⟩ := hp7.at_
          rw [HCE.out HR.out]
          rw [HBE.out HR.out, HT.out] at hn7 hp7
          have HN7 := Lib.hid hn7
          clear hn7
          have hbe7 := hbe6.trans (hs7.mono hz6)
          have hb7 := hb6.below hs7 (Nat.le_refl _)
          have ha7 := ha6.below hs7
          have hu7 := hu6.below hs7
          have hx7 := row_later hx6 hs7
          have hq7 := row_later hq6 hs7
          have hz7 := hbe7.size
          clear hbe6 hs7 hz6 hx6 hq6 hb6 ha6 hu6
          go_wp2_with fail
          refine (rsame8_any A7 B n7 n c7 c _ _ HN7.out HN.out (by omega) _ hp7 hb7).mono ?_
          rintro e w8 ⟨rfl, q8, rfl⟩
          have hs8 : Below w7.heap.size w7 (w7.drewN q8) := drewN_below (Below.refl _ _) _
          generalize w7.drewN q8 = w8 at *
          rw [beq_self_eq_true]
          have hbe8 := hbe7.trans (hs8.mono hz7)
          have hb8 := hb7.below hs8 (Nat.le_refl _)
          have hp8 := hp7.below hs8 (Nat.le_refl _)
          have ha8 := ha7.below hs8
          have hu8 := hu7.below hs8
          have hx8 := row_later hx7 hs8
          have hq8 := row_later hq7 hs8
          have hz8 := hbe8.size
          clear hbe7 hs8 hz7 hx7 hq7 hb7 hp7 ha7 hu7
          go_wp2_with fail
          go_ret
          exact ⟨rfl, hbe8⟩
        · have hjn : ((j : Int) != 0) = true := by rw [bne_iff_ne]; omega
          subst hz
          rw [(show askV Ak.zero h5 k5 = Value.agg #[.int .i64 0, .int .i64 0, .int .i64 0, .int .i64 0, .slice h5.1 h5.2.1 h5.2.2, .slice k5.1 k5.2.1 k5.2.2, .int .u16 0, .int .u16 0] from rfl)]
          go_wp2_with fail
          go_ret
          exact ⟨rfl, hbe5.alloc hz5 _⟩
      | true =>
        rw [HCE.out hr]
        have hbt := HBE.out hr
        rw [hbt] at hp3 HN3
        have hpt := Ak.parse_text hr
        have HPC := Lib.hid (Ak.parse_cut hr)
        have HPT := Lib.hid hpt
        clear hbt hpt
        obtain ⟨hqx0, hqx1, hqx2, hqx3, hqx4, hqx5, hqx6, hqx7⟩ := row_eight hx3
        have hltx := row_lt hx3
        go_wp2_with fail
        refine (right6_any a h k _ ha3).mono ?_
        rintro e w4 ⟨rfl, hs4⟩
        rw [hr]
        clear hr
        have hbe4 := hbe3.trans (hs4.mono hz3)
        have hb4 := hb3.below hs4 (Nat.le_refl _)
        have hp4 := hp3.below hs4 (Nat.le_refl _)
        have ha4 := ha3.below hs4
        have hx4 := row_later hx3 hs4
        have hz4 := hbe4.size
        clear hbe3 hs4 hz3 hx3 hb3 hp3 ha3 hqx0 hqx1 hqx2 hqx3 hqx4 hqx5 hqx6 hqx7 hltx
        go_wp2_with fail
        refine (parse6_any A3 n3 c3 _ HN3.out hnc3 hcm3 (by omega) _ hp4).mono ?_
        rintro e w5 hpp5
        obtain ⟨h5, k5, rfl, hu5, hs5⟩ := hpp5.at_ HPT.out
        clear hpp5
        rw [(show askV a h5 k5 = Value.agg #[.int .i64 a.code, .int .i64 a.addr, .int .i64 a.count, .int .i64 a.to, .slice h5.1 h5.2.1 h5.2.2, .slice k5.1 k5.2.1 k5.2.2, u16v a.and_, u16v a.or_] from rfl)]
        have hbe5 := hbe4.trans (hs5.mono hz4)
        have hb5 := hb4.below hs5 (Nat.le_refl _)
        have hp5 := hp4.below hs5 (Nat.le_refl _)
        have ha5 := ha4.below hs5
        have hx5 := row_later hx4 hs5
        have hz5 := hbe5.size
        clear hbe4 hs5 hz4 hx4 hb4 hp4 ha4
        obtain ⟨hqx0, hqx1, hqx2, hqx3, hqx4, hqx5, hqx6, hqx7⟩ := row_eight hx5
        have hltx := row_lt hx5
        go_wp2_with fail
        have hf6 := row_at w5 #[.int .i64 a.code, .int .i64 a.addr, .int .i64 a.count, .int .i64 a.to, .slice h5.1 h5.2.1 h5.2.2, .slice k5.1 k5.2.1 k5.2.2, u16v a.and_, u16v a.or_] 26 _ rfl
        have hs6 : Below w5.heap.size w5 (w5.alloc (.cells #[.int .i64 a.code, .int .i64 a.addr, .int .i64 a.count, .int .i64 a.to, .slice h5.1 h5.2.1 h5.2.2, .slice k5.1 k5.2.1 k5.2.2, u16v a.and_, u16v a.or_] 26)) := (Below.refl _ _).alloc (Nat.le_refl _) _
        obtain ⟨gf, hgf⟩ : ∃ g, w5.heap.size = g := ⟨_, rfl⟩
        have hszf : (w5.alloc (.cells #[.int .i64 a.code, .int .i64 a.addr, .int .i64 a.count, .int .i64 a.to, .slice h5.1 h5.2.1 h5.2.2, .slice k5.1 k5.2.1 k5.2.2, u16v a.and_, u16v a.or_] 26)).heap.size = gf + 1 := by simp [hgf]
        generalize w5.alloc (.cells #[.int .i64 a.code, .int .i64 a.addr, .int .i64 a.count, .int .i64 a.to, .slice h5.1 h5.2.1 h5.2.2, .slice k5.1 k5.2.1 k5.2.2, u16v a.and_, u16v a.or_] 26) = w6 at *
        have hbe6 := hbe5.trans (hs6.mono hz5)
        have hb6 := hb5.below hs6 (Nat.le_refl _)
        have hp6 := hp5.below hs6 (Nat.le_refl _)
        have ha6 := ha5.below hs6
        have hu6 := hu5.below hs6
        have hx6 := row_later hx5 hs6
        have hz6 := hbe6.size
        clear hbe5 hs6 hz5 hx5 hb5 hp5 ha5 hu5 hqx0 hqx1 hqx2 hqx3 hqx4 hqx5 hqx6 hqx7 hltx
        rw [hgf] at *
        clear hgf
        refine (same6_any a a h5 k5 h k _ hu6 ha6).mono ?_
        rintro e w7 ⟨rfl, hs7⟩
        rw [Ak.same_self]
        have hbe7 := hbe6.trans (hs7.mono hz6)
        have hb7 := hb6.below hs7 (Nat.le_refl _)
        have hp7 := hp6.below hs7 (Nat.le_refl _)
        have ha7 := ha6.below hs7
        have hu7 := hu6.below hs7
        have hx7 := row_later hx6 hs7
        have hf7 := row_later hf6 hs7
        have hz7 := hbe7.size
        clear hbe6 hs7 hz6 hx6 hf6 hb6 hp6 ha6 hu6
        clear hf7 hu7 ha7 hx7
        have hmost' : ¬ (253 : Int) < (n3 : Int) := by omega
        by_cases hc1 : 1 ≤ cut
        · by_cases hc2 : cut < (n3 : Int)
          · obtain ⟨m, rfl⟩ := Int.eq_ofNat_of_zero_le (show 0 ≤ cut by omega)
            have HM : Hid (((Ak.text a).take m).length = m) := Lib.hid (by rw [List.length_take, HN3.out]; omega)
            have hmc : (m : Int) ≤ (c3 : Int) := by omega
            have hpc := HPC.out m (by omega) (by rw [HN3.out]; omega)
            have HPC2 := Lib.hid hpc
            clear hpc
            go_wp2_with fail
            refine (parse6_any A3 m c3 _ HM.out (by omega) hcm3 (by omega) _ (hp7.take m)).mono ?_
            rintro e w8 hpp8
            obtain ⟨h8, k8, rfl, hu8, hs8⟩ := hpp8.at_ HPC2.out
            clear hpp8 hu8
            rw [(show askV Ak.zero h8 k8 = Value.agg #[.int .i64 0, .int .i64 0, .int .i64 0, .int .i64 0, .slice h8.1 h8.2.1 h8.2.2, .slice k8.1 k8.2.1 k8.2.2, .int .u16 0, .int .u16 0] from rfl)]
            have hbe8 := hbe7.trans (hs8.mono hz7)
            have hb8 := hb7.below hs8 (Nat.le_refl _)
            have hp8 := hp7.below hs8 (Nat.le_refl _)
            have hz8 := hbe8.size
            clear hbe7 hs8 hz7 hb7 hp7
            clear hp8
            go_wp2_with fail
            have hg9 := row_at w8 #[.int .i64 0, .int .i64 0, .int .i64 0, .int .i64 0, .slice h8.1 h8.2.1 h8.2.2, .slice k8.1 k8.2.1 k8.2.2, .int .u16 0, .int .u16 0] 26 _ rfl
            have hs9 : Below w8.heap.size w8 (w8.alloc (.cells #[.int .i64 0, .int .i64 0, .int .i64 0, .int .i64 0, .slice h8.1 h8.2.1 h8.2.2, .slice k8.1 k8.2.1 k8.2.2, .int .u16 0, .int .u16 0] 26)) := (Below.refl _ _).alloc (Nat.le_refl _) _
            obtain ⟨gg, hgg⟩ : ∃ g, w8.heap.size = g := ⟨_, rfl⟩
            have hszg : (w8.alloc (.cells #[.int .i64 0, .int .i64 0, .int .i64 0, .int .i64 0, .slice h8.1 h8.2.1 h8.2.2, .slice k8.1 k8.2.1 k8.2.2, .int .u16 0, .int .u16 0] 26)).heap.size = gg + 1 := by simp [hgg]
            generalize w8.alloc (.cells #[.int .i64 0, .int .i64 0, .int .i64 0, .int .i64 0, .slice h8.1 h8.2.1 h8.2.2, .slice k8.1 k8.2.1 k8.2.2, .int .u16 0, .int .u16 0] 26) = w9 at *
            have hbe9 := hbe8.trans (hs9.mono hz8)
            have hb9 := hb8.below hs9 (Nat.le_refl _)
            have hz9 := hbe9.size
            clear hbe8 hs9 hz8 hb8
            rw [hgg] at *
            clear hgg
            clear hg9
            go_wp2_with fail
            refine (parse6_any B n c b HN.out hnc hcm (by omega) _ hb9).mono ?_
            rintro e w10 hpp10
            obtain ⟨h10, k10, rfl, hu10, hs10⟩ := hpp10.at_ HY.out
            clear hpp10
            have hbe10 := hbe9.trans (hs10.mono hz9)
            have hb10 := hb9.below hs10 (Nat.le_refl _)
            have hz10 := hbe10.size
            clear hbe9 hs10 hz9 hb9
            rcases HPB.out with ⟨hj0, hr, ht⟩ | ⟨hj0, hz⟩
            · subst hj0
              have HT := Lib.hid ht
              have HR := Lib.hid hr
              clear hr ht
              have hjj : (((0 : Nat) : Int) != 0) = false := rfl
              rw [(show askV y h10 k10 = Value.agg #[.int .i64 y.code, .int .i64 y.addr, .int .i64 y.count, .int .i64 y.to, .slice h10.1 h10.2.1 h10.2.2, .slice k10.1 k10.2.1 k10.2.2, u16v y.and_, u16v y.or_] from rfl)]
              go_wp2_with fail
              have hq11 := row_at w10 #[.int .i64 y.code, .int .i64 y.addr, .int .i64 y.count, .int .i64 y.to, .slice h10.1 h10.2.1 h10.2.2, .slice k10.1 k10.2.1 k10.2.2, u16v y.and_, u16v y.or_] 26 _ rfl
              have hs11 : Below w10.heap.size w10 (w10.alloc (.cells #[.int .i64 y.code, .int .i64 y.addr, .int .i64 y.count, .int .i64 y.to, .slice h10.1 h10.2.1 h10.2.2, .slice k10.1 k10.2.1 k10.2.2, u16v y.and_, u16v y.or_] 26)) := (Below.refl _ _).alloc (Nat.le_refl _) _
              obtain ⟨gq, hgq⟩ : ∃ g, w10.heap.size = g := ⟨_, rfl⟩
              have hszq : (w10.alloc (.cells #[.int .i64 y.code, .int .i64 y.addr, .int .i64 y.count, .int .i64 y.to, .slice h10.1 h10.2.1 h10.2.2, .slice k10.1 k10.2.1 k10.2.2, u16v y.and_, u16v y.or_] 26)).heap.size = gq + 1 := by simp [hgq]
              generalize w10.alloc (.cells #[.int .i64 y.code, .int .i64 y.addr, .int .i64 y.count, .int .i64 y.to, .slice h10.1 h10.2.1 h10.2.2, .slice k10.1 k10.2.1 k10.2.2, u16v y.and_, u16v y.or_] 26) = w11 at *
              have hbe11 := hbe10.trans (hs11.mono hz10)
              have hb11 := hb10.below hs11 (Nat.le_refl _)
              have hu11 := hu10.below hs11
              have hz11 := hbe11.size
              clear hbe10 hs11 hz10 hb10 hu10
              rw [hgq] at *
              clear hgq
              refine (bytes6_any y h10 k10 _ hu11).mono ?_
              rintro e w12 hp12
              obtain ⟨A12, n12, c12, rfl, hn12, hnc12, hcm12, hp12, hs12⟩ := hp12.at_
              rw [HCE.out HR.out]
              rw [HBE.out HR.out, HT.out] at hn12 hp12
              have HN12 := Lib.hid hn12
              clear hn12
              have hbe12 := hbe11.trans (hs12.mono hz11)
              have hb12 := hb11.below hs12 (Nat.le_refl _)
              have hu12 := hu11.below hs12
              have hq12 := row_later hq11 hs12
              have hz12 := hbe12.size
              clear hbe11 hs12 hz11 hq11 hb11 hu11
              go_wp2_with fail
              refine (rsame8_any A12 B n12 n c12 c _ _ HN12.out HN.out (by omega) _ hp12 hb12).mono ?_
              rintro e w13 ⟨rfl, q13, rfl⟩
              have hs13 : Below w12.heap.size w12 (w12.drewN q13) := drewN_below (Below.refl _ _) _
              generalize w12.drewN q13 = w13 at *
              rw [beq_self_eq_true]
              have hbe13 := hbe12.trans (hs13.mono hz12)
              have hb13 := hb12.below hs13 (Nat.le_refl _)
              have hp13 := hp12.below hs13 (Nat.le_refl _)
              have hu13 := hu12.below hs13
              have hq13 := row_later hq12 hs13
              have hz13 := hbe13.size
              clear hbe12 hs13 hz12 hq12 hb12 hp12 hu12
              go_wp2_with fail
              go_ret
              exact ⟨rfl, hbe13⟩
            · have hjn : ((j : Int) != 0) = true := by rw [bne_iff_ne]; omega
              subst hz
              rw [(show askV Ak.zero h10 k10 = Value.agg #[.int .i64 0, .int .i64 0, .int .i64 0, .int .i64 0, .slice h10.1 h10.2.1 h10.2.2, .slice k10.1 k10.2.1 k10.2.2, .int .u16 0, .int .u16 0] from rfl)]
              go_wp2_with fail
              go_ret
              exact ⟨rfl, hbe10.alloc hz10 _⟩
          · clear hp7
            go_wp2_with fail
            refine (parse6_any B n c b HN.out hnc hcm (by omega) _ hb7).mono ?_
            rintro e w8 hpp8
            obtain ⟨h8, k8, rfl, hu8, hs8⟩ := hpp8.at_ HY.out
            clear hpp8
            have hbe8 := hbe7.trans (hs8.mono hz7)
            have hb8 := hb7.below hs8 (Nat.le_refl _)
            have hz8 := hbe8.size
            clear hbe7 hs8 hz7 hb7
            rcases HPB.out with ⟨hj0, hr, ht⟩ | ⟨hj0, hz⟩
            · subst hj0
              have HT := Lib.hid ht
              have HR := Lib.hid hr
              clear hr ht
              have hjj : (((0 : Nat) : Int) != 0) = false := rfl
              rw [(show askV y h8 k8 = Value.agg #[.int .i64 y.code, .int .i64 y.addr, .int .i64 y.count, .int .i64 y.to, .slice h8.1 h8.2.1 h8.2.2, .slice k8.1 k8.2.1 k8.2.2, u16v y.and_, u16v y.or_] from rfl)]
              go_wp2_with fail
              have hq9 := row_at w8 #[.int .i64 y.code, .int .i64 y.addr, .int .i64 y.count, .int .i64 y.to, .slice h8.1 h8.2.1 h8.2.2, .slice k8.1 k8.2.1 k8.2.2, u16v y.and_, u16v y.or_] 26 _ rfl
              have hs9 : Below w8.heap.size w8 (w8.alloc (.cells #[.int .i64 y.code, .int .i64 y.addr, .int .i64 y.count, .int .i64 y.to, .slice h8.1 h8.2.1 h8.2.2, .slice k8.1 k8.2.1 k8.2.2, u16v y.and_, u16v y.or_] 26)) := (Below.refl _ _).alloc (Nat.le_refl _) _
              obtain ⟨gq, hgq⟩ : ∃ g, w8.heap.size = g := ⟨_, rfl⟩
              have hszq : (w8.alloc (.cells #[.int .i64 y.code, .int .i64 y.addr, .int .i64 y.count, .int .i64 y.to, .slice h8.1 h8.2.1 h8.2.2, .slice k8.1 k8.2.1 k8.2.2, u16v y.and_, u16v y.or_] 26)).heap.size = gq + 1 := by simp [hgq]
              generalize w8.alloc (.cells #[.int .i64 y.code, .int .i64 y.addr, .int .i64 y.count, .int .i64 y.to, .slice h8.1 h8.2.1 h8.2.2, .slice k8.1 k8.2.1 k8.2.2, u16v y.and_, u16v y.or_] 26) = w9 at *
              have hbe9 := hbe8.trans (hs9.mono hz8)
              have hb9 := hb8.below hs9 (Nat.le_refl _)
              have hu9 := hu8.below hs9
              have hz9 := hbe9.size
              clear hbe8 hs9 hz8 hb8 hu8
              rw [hgq] at *
              clear hgq
              refine (bytes6_any y h8 k8 _ hu9).mono ?_
              rintro e w10 hp10
              obtain ⟨A10, n10, c10, rfl, hn10, hnc10, hcm10, hp10, hs10⟩ := hp10.at_
              rw [HCE.out HR.out]
              rw [HBE.out HR.out, HT.out] at hn10 hp10
              have HN10 := Lib.hid hn10
              clear hn10
              have hbe10 := hbe9.trans (hs10.mono hz9)
              have hb10 := hb9.below hs10 (Nat.le_refl _)
              have hu10 := hu9.below hs10
              have hq10 := row_later hq9 hs10
              have hz10 := hbe10.size
              clear hbe9 hs10 hz9 hq9 hb9 hu9
              go_wp2_with fail
              refine (rsame8_any A10 B n10 n c10 c _ _ HN10.out HN.out (by omega) _ hp10 hb10).mono ?_
              rintro e w11 ⟨rfl, q11, rfl⟩
              have hs11 : Below w10.heap.size w10 (w10.drewN q11) := drewN_below (Below.refl _ _) _
              generalize w10.drewN q11 = w11 at *
              rw [beq_self_eq_true]
              have hbe11 := hbe10.trans (hs11.mono hz10)
              have hb11 := hb10.below hs11 (Nat.le_refl _)
              have hp11 := hp10.below hs11 (Nat.le_refl _)
              have hu11 := hu10.below hs11
              have hq11 := row_later hq10 hs11
              have hz11 := hbe11.size
              clear hbe10 hs11 hz10 hq10 hb10 hp10 hu10
              go_wp2_with fail
              go_ret
              exact ⟨rfl, hbe11⟩
            · have hjn : ((j : Int) != 0) = true := by rw [bne_iff_ne]; omega
              subst hz
              rw [(show askV Ak.zero h8 k8 = Value.agg #[.int .i64 0, .int .i64 0, .int .i64 0, .int .i64 0, .slice h8.1 h8.2.1 h8.2.2, .slice k8.1 k8.2.1 k8.2.2, .int .u16 0, .int .u16 0] from rfl)]
              go_wp2_with fail
              go_ret
              exact ⟨rfl, hbe8.alloc hz8 _⟩
        · clear hp7
          go_wp2_with fail
          refine (parse6_any B n c b HN.out hnc hcm (by omega) _ hb7).mono ?_
          rintro e w8 hpp8
          obtain ⟨h8, k8, rfl, hu8, hs8⟩ := hpp8.at_ HY.out
          clear hpp8
          have hbe8 := hbe7.trans (hs8.mono hz7)
          have hb8 := hb7.below hs8 (Nat.le_refl _)
          have hz8 := hbe8.size
          clear hbe7 hs8 hz7 hb7
          rcases HPB.out with ⟨hj0, hr, ht⟩ | ⟨hj0, hz⟩
          · subst hj0
            have HT := Lib.hid ht
            have HR := Lib.hid hr
            clear hr ht
            have hjj : (((0 : Nat) : Int) != 0) = false := rfl
            rw [(show askV y h8 k8 = Value.agg #[.int .i64 y.code, .int .i64 y.addr, .int .i64 y.count, .int .i64 y.to, .slice h8.1 h8.2.1 h8.2.2, .slice k8.1 k8.2.1 k8.2.2, u16v y.and_, u16v y.or_] from rfl)]
            go_wp2_with fail
            have hq9 := row_at w8 #[.int .i64 y.code, .int .i64 y.addr, .int .i64 y.count, .int .i64 y.to, .slice h8.1 h8.2.1 h8.2.2, .slice k8.1 k8.2.1 k8.2.2, u16v y.and_, u16v y.or_] 26 _ rfl
            have hs9 : Below w8.heap.size w8 (w8.alloc (.cells #[.int .i64 y.code, .int .i64 y.addr, .int .i64 y.count, .int .i64 y.to, .slice h8.1 h8.2.1 h8.2.2, .slice k8.1 k8.2.1 k8.2.2, u16v y.and_, u16v y.or_] 26)) := (Below.refl _ _).alloc (Nat.le_refl _) _
            obtain ⟨gq, hgq⟩ : ∃ g, w8.heap.size = g := ⟨_, rfl⟩
            have hszq : (w8.alloc (.cells #[.int .i64 y.code, .int .i64 y.addr, .int .i64 y.count, .int .i64 y.to, .slice h8.1 h8.2.1 h8.2.2, .slice k8.1 k8.2.1 k8.2.2, u16v y.and_, u16v y.or_] 26)).heap.size = gq + 1 := by simp [hgq]
            generalize w8.alloc (.cells #[.int .i64 y.code, .int .i64 y.addr, .int .i64 y.count, .int .i64 y.to, .slice h8.1 h8.2.1 h8.2.2, .slice k8.1 k8.2.1 k8.2.2, u16v y.and_, u16v y.or_] 26) = w9 at *
            have hbe9 := hbe8.trans (hs9.mono hz8)
            have hb9 := hb8.below hs9 (Nat.le_refl _)
            have hu9 := hu8.below hs9
            have hz9 := hbe9.size
            clear hbe8 hs9 hz8 hb8 hu8
            rw [hgq] at *
            clear hgq
            refine (bytes6_any y h8 k8 _ hu9).mono ?_
            rintro e w10 hp10
            obtain ⟨A10, n10, c10, rfl, hn10, hnc10, hcm10, hp10, hs10⟩ := hp10.at_
            rw [HCE.out HR.out]
            rw [HBE.out HR.out, HT.out] at hn10 hp10
            have HN10 := Lib.hid hn10
            clear hn10
            have hbe10 := hbe9.trans (hs10.mono hz9)
            have hb10 := hb9.below hs10 (Nat.le_refl _)
            have hu10 := hu9.below hs10
            have hq10 := row_later hq9 hs10
            have hz10 := hbe10.size
            clear hbe9 hs10 hz9 hq9 hb9 hu9
            go_wp2_with fail
            refine (rsame8_any A10 B n10 n c10 c _ _ HN10.out HN.out (by omega) _ hp10 hb10).mono ?_
            rintro e w11 ⟨rfl, q11, rfl⟩
            have hs11 : Below w10.heap.size w10 (w10.drewN q11) := drewN_below (Below.refl _ _) _
            generalize w10.drewN q11 = w11 at *
            rw [beq_self_eq_true]
            have hbe11 := hbe10.trans (hs11.mono hz10)
            have hb11 := hb10.below hs11 (Nat.le_refl _)
            have hp11 := hp10.below hs11 (Nat.le_refl _)
            have hu11 := hu10.below hs11
            have hq11 := row_later hq10 hs11
            have hz11 := hbe11.size
            clear hbe10 hs11 hz10 hq10 hb10 hp10 hu10
            go_wp2_with fail
            go_ret
            exact ⟨rfl, hbe11⟩
          · have hjn : ((j : Int) != 0) = true := by rw [bne_iff_ne]; omega
            subst hz
            rw [(show askV Ak.zero h8 k8 = Value.agg #[.int .i64 0, .int .i64 0, .int .i64 0, .int .i64 0, .slice h8.1 h8.2.1 h8.2.2, .slice k8.1 k8.2.1 k8.2.2, .int .u16 0, .int .u16 0] from rfl)]
            go_wp2_with fail
            go_ret
            exact ⟨rfl, hbe8.alloc hz8 _⟩
end Go.Proofs.Ytaembpncoicdpaa
