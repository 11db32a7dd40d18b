
/-
  The law AnswerBack, walked: it answers true, and nothing that was there is touched.
-/
import Derived.Test.YtcbkbdoaaaofjaaGreatAwake7
import Derived.Test.YtcbkbdoaaaofjaaGreatGuess
namespace Go.Proofs.YtcbkbdoaaaofjaaGreat
open Go.RowKit

theorem An.same_self (x : Ans) : An.same x x = true := by unfold An.same; simp
theorem An.large_few {x : Ans} (h : An.large x = false) : x.texts.length ≤ 300 := by
  unfold An.large at h
  simp only [Bool.or_eq_false_iff, decide_eq_false_iff_not] at h
  omega

set_option maxRecDepth 100000 in
set_option maxHeartbeats 2000000 in
theorem back7_law_any (a : Ask) (h k : Hd) (x : Ans) (hx kx tx : Hd) (B : Option Addr) (n c : Nat) (b : List UInt8) (hn : b.length = n) (hnc : n ≤ c) (hcm : c ≤ maxLen) (w : World) (ha : AskIn w a h k) (hi : AnsIn w x hx kx tx) (hb : Lies u8v w B b) :
    Calls Tryz.prog 4 #[askV a h k, ansV x hx kx tx, .slice B n c] w fun e w' => e = .returned (.bool true) ∧ Below w.heap.size w w' := by
  rw [(show askV a h k = Value.agg #[.int .i64 a.code, .int .i64 a.addr, .int .i64 a.count, .int .i64 a.to, .slice h.1 h.2.1 h.2.2, .slice k.1 k.2.1 k.2.2, u16v a.and_, u16v a.or_] from rfl), (show ansV x hx kx tx = Value.agg #[.int .i64 x.exc, .slice hx.1 hx.2.1 hx.2.2, .slice kx.1 kx.2.1 kx.2.2, .slice tx.1 tx.2.1 tx.2.2] from rfl)]
  have HN := Lib.hid hn
  clear hn
  go_enter Tryz.func4, Tryz.ntmps4
  go_wp2_with fail
  have hbe_ : Below w.heap.size w w := Below.refl _ _
  have hx_ := row_at w #[.int .i64 a.code, .int .i64 a.addr, .int .i64 a.count, .int .i64 a.to, .slice h.1 h.2.1 h.2.2, .slice k.1 k.2.1 k.2.2, u16v a.and_, u16v a.or_] 26 (w.heap.size) rfl
  have hsz0 : (w.alloc (.cells #[.int .i64 a.code, .int .i64 a.addr, .int .i64 a.count, .int .i64 a.to, .slice h.1 h.2.1 h.2.2, .slice k.1 k.2.1 k.2.2, u16v a.and_, u16v a.or_] 26)).heap.size = w.heap.size + 1 := by simp
  have hsb : Below w.heap.size w (w.alloc (.cells #[.int .i64 a.code, .int .i64 a.addr, .int .i64 a.count, .int .i64 a.to, .slice h.1 h.2.1 h.2.2, .slice k.1 k.2.1 k.2.2, u16v a.and_, u16v a.or_] 26)) := (Below.refl _ _).alloc (Nat.le_refl _) _
  have hbe_ := hbe_.trans (hsb.mono (by omega))
  generalize w.alloc (.cells #[.int .i64 a.code, .int .i64 a.addr, .int .i64 a.count, .int .i64 a.to, .slice h.1 h.2.1 h.2.2, .slice k.1 k.2.1 k.2.2, u16v a.and_, u16v a.or_] 26) = wb0 at *
  clear hsb
  have hy_ := row_at wb0 #[.int .i64 x.exc, .slice hx.1 hx.2.1 hx.2.2, .slice kx.1 kx.2.1 kx.2.2, .slice tx.1 tx.2.1 tx.2.2] 29 (w.heap.size + 1) hsz0
  have hsz1 : (wb0.alloc (.cells #[.int .i64 x.exc, .slice hx.1 hx.2.1 hx.2.2, .slice kx.1 kx.2.1 kx.2.2, .slice tx.1 tx.2.1 tx.2.2] 29)).heap.size = w.heap.size + 1 + 1 := by simp [hsz0]
  have hsb : Below wb0.heap.size wb0 (wb0.alloc (.cells #[.int .i64 x.exc, .slice hx.1 hx.2.1 hx.2.2, .slice kx.1 kx.2.1 kx.2.2, .slice tx.1 tx.2.1 tx.2.2] 29)) := (Below.refl _ _).alloc (Nat.le_refl _) _
  have hx_ := row_later hx_ hsb
  have hbe_ := hbe_.trans (hsb.mono (by omega))
  generalize wb0.alloc (.cells #[.int .i64 x.exc, .slice hx.1 hx.2.1 hx.2.2, .slice kx.1 kx.2.1 kx.2.2, .slice tx.1 tx.2.1 tx.2.2] 29) = w0 at *
  clear hsb hsz0
  have hx0 := hx_
  have hy0 := hy_
  have hbe0 := hbe_
  have hz0 := hbe0.size
  have hb0 := hb.below hbe0 (Nat.le_refl _)
  have ha0 := ha.below hbe0
  have hi0 := hi.below hbe0
  clear hbe_ hx_ hy_ hsz1 hb ha hi
  refine (awake7_any _).mono ?_
  rintro e w1 ⟨rfl, hs1⟩
  have hbe1 := hbe0.trans (hs1.mono hz0)
  have hb1 := hb0.below hs1 (Nat.le_refl _)
  have ha1 := ha0.below hs1
  have hi1 := hi0.below hs1
  have hx1 := row_later hx0 hs1
  have hy1 := row_later hy0 hs1
  have hz1 := hbe1.size
  clear hbe0 hs1 hz0 hx0 hy0 hb0 ha0 hi0
  obtain ⟨hqx0, hqx1, hqx2, hqx3, hqx4, hqx5, hqx6, hqx7⟩ := row_eight hx1
  have hltx := row_lt hx1
  obtain ⟨hqy0, hqy1, hqy2, hqy3⟩ := row_quad hy1
  have hlty := row_lt hy1
  go_wp2_with fail
  refine (rlarge_any a h k _ ha1).mono ?_
  rintro e w2 ⟨rfl, hs2⟩
  have hbe2 := hbe1.trans (hs2.mono hz1)
  have hb2 := hb1.below hs2 (Nat.le_refl _)
  have ha2 := ha1.below hs2
  have hi2 := hi1.below hs2
  have hx2 := row_later hx1 hs2
  have hy2 := row_later hy1 hs2
  have hz2 := hbe2.size
  clear hbe1 hs2 hz1 hx1 hy1 hb1 ha1 hi1 hqx0 hqx1 hqx2 hqx3 hqx4 hqx5 hqx6 hqx7 hltx hqy0 hqy1 hqy2 hqy3 hlty
  obtain ⟨L1, hL1⟩ : ∃ L, (decide (300 < a.words.length) || decide (3000 < a.bits.length)) = L := ⟨_, rfl⟩
  rw [hL1]
  clear hL1
  cases L1 with
  | true =>
    obtain ⟨hqx0, hqx1, hqx2, hqx3, hqx4, hqx5, hqx6, hqx7⟩ := row_eight hx2
    have hltx := row_lt hx2
    obtain ⟨hqy0, hqy1, hqy2, hqy3⟩ := row_quad hy2
    have hlty := row_lt hy2
    go_wp2_with fail
    go_ret
    exact ⟨rfl, hbe2⟩
  | false =>
    obtain ⟨hqx0, hqx1, hqx2, hqx3, hqx4, hqx5, hqx6, hqx7⟩ := row_eight hx2
    have hltx := row_lt hx2
    obtain ⟨hqy0, hqy1, hqy2, hqy3⟩ := row_quad hy2
    have hlty := row_lt hy2
    go_wp2_with fail
    refine (rlarge7_any x hx kx tx _ hi2).mono ?_
    rintro e w3 ⟨rfl, hs3⟩
    have hbe3 := hbe2.trans (hs3.mono hz2)
    have hb3 := hb2.below hs3 (Nat.le_refl _)
    have ha3 := ha2.below hs3
    have hi3 := hi2.below hs3
    have hx3 := row_later hx2 hs3
    have hy3 := row_later hy2 hs3
    have hz3 := hbe3.size
    clear hbe2 hs3 hz2 hx2 hy2 hb2 ha2 hi2 hqx0 hqx1 hqx2 hqx3 hqx4 hqx5 hqx6 hqx7 hltx hqy0 hqy1 hqy2 hqy3 hlty
    cases hlg : An.large x with
    | true =>
      obtain ⟨hqx0, hqx1, hqx2, hqx3, hqx4, hqx5, hqx6, hqx7⟩ := row_eight hx3
      have hltx := row_lt hx3
      obtain ⟨hqy0, hqy1, hqy2, hqy3⟩ := row_quad hy3
      have hlty := row_lt hy3
      go_wp2_with fail
      go_ret
      exact ⟨rfl, hbe3⟩
    | false =>
      have htn : tx.2.1 ≤ 1000000 := by have h1 := An.large_few hlg; have h2 := hi3.tn; omega
      clear hlg
      by_cases h6 : 600 < n
      · have h6' : (600 : Int) < (n : Int) := by omega
        obtain ⟨hqx0, hqx1, hqx2, hqx3, hqx4, hqx5, hqx6, hqx7⟩ := row_eight hx3
        have hltx := row_lt hx3
        obtain ⟨hqy0, hqy1, hqy2, hqy3⟩ := row_quad hy3
        have hlty := row_lt hy3
        go_wp2_with fail
        go_ret
        exact ⟨rfl, hbe3⟩
      · have h6' : ¬ (600 : Int) < (n : Int) := by omega
        obtain ⟨⟨y, j⟩, hy⟩ : ∃ Y, An.read a b = Y := ⟨_, rfl⟩
        have hpb := An.read_back a b
        rw [hy] at hpb
        have HPB : Hid ((j = 0 ∧ An.right a y = true ∧ An.text a y = b) ∨ (j ≠ 0 ∧ y = An.zero)) := Lib.hid hpb
        have HY := Lib.hid hy
        have HCE : Hid (∀ {x : Ans}, An.right a x = true → An.codeA a x = 0) := Lib.hid (fun h => by unfold An.codeA; rw [(An.right_parts h).1, h]; rfl)
        have HBE : Hid (∀ {x : Ans}, An.right a x = true → An.bytes a x = An.text a x) := Lib.hid (fun h => by unfold An.bytes; rw [h]; rfl)
        clear hy hpb
        obtain ⟨hqx0, hqx1, hqx2, hqx3, hqx4, hqx5, hqx6, hqx7⟩ := row_eight hx3
        have hltx := row_lt hx3
        obtain ⟨hqy0, hqy1, hqy2, hqy3⟩ := row_quad hy3
        have hlty := row_lt hy3
        go_wp2_with fail
        refine (bytes7_any a x h k hx kx tx _ ha3 hi3 htn).mono ?_
        rintro e w4 hp4
        obtain ⟨A4, n4, c4, rfl, hn4, hnc4, hcm4, hp4, hs4⟩ := hp4
        have HN4 := Lib.hid hn4
        clear hn4
        have hbe4 := hbe3.trans (hs4.mono hz3)
        have hb4 := hb3.below hs4 (Nat.le_refl _)
        have ha4 := ha3.below hs4
        have hi4 := hi3.below hs4
        have hx4 := row_later hx3 hs4
        have hy4 := row_later hy3 hs4
        have hz4 := hbe4.size
        clear hbe3 hs4 hz3 hx3 hy3 hb3 ha3 hi3 hqx0 hqx1 hqx2 hqx3 hqx4 hqx5 hqx6 hqx7 hltx hqy0 hqy1 hqy2 hqy3 hlty
        cases hr : An.right a x with
        | false =>
          have hce : ((((An.codeA a x : Nat) : Int)) == 0) = false := by rw [beq_eq_false_iff_ne]; unfold An.codeA; rw [hr]; split <;> simp
          obtain ⟨co, hco⟩ : ∃ co : Nat, An.codeA a x = co := ⟨_, rfl⟩
          rw [hco] at hce ⊢
          clear hco
          clear hp4
          obtain ⟨hqx0, hqx1, hqx2, hqx3, hqx4, hqx5, hqx6, hqx7⟩ := row_eight hx4
          have hltx := row_lt hx4
          obtain ⟨hqy0, hqy1, hqy2, hqy3⟩ := row_quad hy4
          have hlty := row_lt hy4
          go_wp2_with fail
          refine (right7_any a x h k hx kx tx _ ha4 hi4 htn).mono ?_
          rintro e w5 ⟨rfl, hs5⟩
          rw [hr]
          clear hr
          have hbe5 := hbe4.trans (hs5.mono hz4)
          have hb5 := hb4.below hs5 (Nat.le_refl _)
          have ha5 := ha4.below hs5
          have hi5 := hi4.below hs5
          have hx5 := row_later hx4 hs5
          have hy5 := row_later hy4 hs5
          have hz5 := hbe5.size
          clear hbe4 hs5 hz4 hx4 hy4 hb4 ha4 hi4 hqx0 hqx1 hqx2 hqx3 hqx4 hqx5 hqx6 hqx7 hltx hqy0 hqy1 hqy2 hqy3 hlty
          obtain ⟨hqx0, hqx1, hqx2, hqx3, hqx4, hqx5, hqx6, hqx7⟩ := row_eight hx5
          have hltx := row_lt hx5
          go_wp2_with fail
          refine (read7_any a h k B n c b HN.out hnc hcm _ ha5 hb5).mono ?_
          rintro e w6 hpp6
          rw [HY.out] at hpp6
          obtain ⟨h6, k6, t6, rfl, hu6, hs6⟩ := hpp6
          dsimp only at hu6
          rw [(show ansV ((y, j) : Ans × Nat).1 h6 k6 t6 = ansV y h6 k6 t6 from rfl), (show (((y, j) : Ans × Nat).2 : Int) = (j : Int) from rfl)]
          have hbe6 := hbe5.trans (hs6.mono hz5)
          have hb6 := hb5.below hs6 (Nat.le_refl _)
          have ha6 := ha5.below hs6
          have hi6 := hi5.below hs6
          have hx6 := row_later hx5 hs6
          have hy6 := row_later hy5 hs6
          have hz6 := hbe6.size
          clear hbe5 hs6 hz5 hx5 hy5 hb5 ha5 hi5 hqx0 hqx1 hqx2 hqx3 hqx4 hqx5 hqx6 hqx7 hltx
          rcases HPB.out with ⟨hj0, hr, ht⟩ | ⟨hj0, hz⟩
          · subst hj0
            have HT := Lib.hid ht
            have HR := Lib.hid hr
            clear hr ht
            have hjj : (((0 : Nat) : Int) != 0) = false := rfl
            have hfew : t6.2.1 ≤ 1000000 := by have h1 := hu6.tn; have h2 : y.texts.length ≤ 256 := (by have hs := An.shape HR.out; cases hs with | texts l hc h0 hs h1 h2 => dsimp only; have h3 := (Ak.formed_parts (An.ak_right (An.right_parts HR.out).1).1).2.2.2.2.2.2.1; omega | _ => simp); omega
            rw [(show ansV y h6 k6 t6 = Value.agg #[.int .i64 y.exc, .slice h6.1 h6.2.1 h6.2.2, .slice k6.1 k6.2.1 k6.2.2, .slice t6.1 t6.2.1 t6.2.2] from rfl)]
            obtain ⟨hqx0, hqx1, hqx2, hqx3, hqx4, hqx5, hqx6, hqx7⟩ := row_eight hx6
            have hltx := row_lt hx6
            go_wp2_with fail
            have hq7 := row_at w6 #[.int .i64 y.exc, .slice h6.1 h6.2.1 h6.2.2, .slice k6.1 k6.2.1 k6.2.2, .slice t6.1 t6.2.1 t6.2.2] 29 _ rfl
            have hs7 : Below w6.heap.size w6 (w6.alloc (.cells #[.int .i64 y.exc, .slice h6.1 h6.2.1 h6.2.2, .slice k6.1 k6.2.1 k6.2.2, .slice t6.1 t6.2.1 t6.2.2] 29)) := (Below.refl _ _).alloc (Nat.le_refl _) _
            obtain ⟨gq, hgq⟩ : ∃ g, w6.heap.size = g := ⟨_, rfl⟩
            have hszq : (w6.alloc (.cells #[.int .i64 y.exc, .slice h6.1 h6.2.1 h6.2.2, .slice k6.1 k6.2.1 k6.2.2, .slice t6.1 t6.2.1 t6.2.2] 29)).heap.size = gq + 1 := by simp [hgq]
            generalize w6.alloc (.cells #[.int .i64 y.exc, .slice h6.1 h6.2.1 h6.2.2, .slice k6.1 k6.2.1 k6.2.2, .slice t6.1 t6.2.1 t6.2.2] 29) = w7 at *
            have hbe7 := hbe6.trans (hs7.mono hz6)
            have hb7 := hb6.below hs7 (Nat.le_refl _)
            have ha7 := ha6.below hs7
            have hi7 := hi6.below hs7
            have hu7 := hu6.below hs7
            have hx7 := row_later hx6 hs7
            have hy7 := row_later hy6 hs7
            have hz7 := hbe7.size
            clear hbe6 hs7 hz6 hx6 hy6 hb6 ha6 hi6 hu6 hqx0 hqx1 hqx2 hqx3 hqx4 hqx5 hqx6 hqx7 hltx
            rw [hgq] at *
            clear hgq
            refine (bytes7_any a y h k h6 k6 t6 _ ha7 hu7 hfew).mono ?_
            rintro e w8 hp8
            obtain ⟨A8, n8, c8, rfl, hn8, hnc8, hcm8, hp8, hs8⟩ := hp8
            rw [HCE.out HR.out]
            rw [HBE.out HR.out, HT.out] at hn8 hp8
            have HN8 := Lib.hid hn8
            clear hn8
            have hbe8 := hbe7.trans (hs8.mono hz7)
            have hb8 := hb7.below hs8 (Nat.le_refl _)
            have ha8 := ha7.below hs8
            have hi8 := hi7.below hs8
            have hu8 := hu7.below hs8
            have hx8 := row_later hx7 hs8
            have hy8 := row_later hy7 hs8
            have hq8 := row_later hq7 hs8
            have hz8 := hbe8.size
            clear hbe7 hs8 hz7 hx7 hy7 hq7 hb7 ha7 hi7 hu7
            go_wp2_with fail
            refine (rsame8_any A8 B n8 n c8 c _ _ HN8.out HN.out (by have h1 := HN8.out; have h2 := HN.out; omega) _ hp8 hb8).mono ?_
            rintro e w9 ⟨rfl, q9, rfl⟩
            have hs9 : Below w8.heap.size w8 (w8.drewN q9) := drewN_below (Below.refl _ _) _
            generalize w8.drewN q9 = w9 at *
            rw [beq_self_eq_true]
            have hbe9 := hbe8.trans (hs9.mono hz8)
            have hb9 := hb8.below hs9 (Nat.le_refl _)
            have hp9 := hp8.below hs9 (Nat.le_refl _)
            have ha9 := ha8.below hs9
            have hi9 := hi8.below hs9
            have hu9 := hu8.below hs9
            have hx9 := row_later hx8 hs9
            have hy9 := row_later hy8 hs9
            have hq9 := row_later hq8 hs9
            have hz9 := hbe9.size
            clear hbe8 hs9 hz8 hx8 hy8 hq8 hb8 hp8 ha8 hi8 hu8
            go_wp2_with fail
            go_ret
            exact ⟨rfl, hbe9⟩
          · have hjn : ((j : Int) != 0) = true := by rw [bne_iff_ne]; omega
            subst hz
            have hk0 : k6.2.1 = 0 := by have h1 := hu6.kn; have h2 : (0 : Nat) = k6.2.1 := h1; omega
            rw [(show ansV An.zero h6 k6 t6 = Value.agg #[.int .i64 0, .slice h6.1 h6.2.1 h6.2.2, .slice k6.1 k6.2.1 k6.2.2, .slice t6.1 t6.2.1 t6.2.2] from rfl), hk0]
            clear hk0
            go_wp2_with fail
            go_ret
            exact ⟨rfl, hbe6.alloc hz6 _⟩
        | true =>
          rw [HCE.out hr]
          have hbt := HBE.out hr
          rw [hbt] at hp4 HN4
          have HPT := Lib.hid (An.read_text hr)
          have hgt := (An.guess_text (An.right_parts hr).1 (An.shape hr)).2
          rw [HN4.out] at hgt
          clear hbt
          obtain ⟨hqx0, hqx1, hqx2, hqx3, hqx4, hqx5, hqx6, hqx7⟩ := row_eight hx4
          have hltx := row_lt hx4
          obtain ⟨hqy0, hqy1, hqy2, hqy3⟩ := row_quad hy4
          have hlty := row_lt hy4
          go_wp2_with fail
          refine (right7_any a x h k hx kx tx _ ha4 hi4 htn).mono ?_
          rintro e w5 ⟨rfl, hs5⟩
          rw [hr]
          clear hr
          have hbe5 := hbe4.trans (hs5.mono hz4)
          have hb5 := hb4.below hs5 (Nat.le_refl _)
          have hp5 := hp4.below hs5 (Nat.le_refl _)
          have ha5 := ha4.below hs5
          have hi5 := hi4.below hs5
          have hx5 := row_later hx4 hs5
          have hy5 := row_later hy4 hs5
          have hz5 := hbe5.size
          clear hbe4 hs5 hz4 hx4 hy4 hb4 hp4 ha4 hi4 hqx0 hqx1 hqx2 hqx3 hqx4 hqx5 hqx6 hqx7 hltx hqy0 hqy1 hqy2 hqy3 hlty
          obtain ⟨hqx0, hqx1, hqx2, hqx3, hqx4, hqx5, hqx6, hqx7⟩ := row_eight hx5
          have hltx := row_lt hx5
          go_wp2_with fail
          refine (read7_any a h k A4 n4 c4 _ HN4.out hnc4 hcm4 _ ha5 hp5).mono ?_
          rintro e w6 hpp6
          rw [HPT.out] at hpp6
          obtain ⟨h6, k6, t6, rfl, hu6, hs6⟩ := hpp6
          dsimp only at hu6
          rw [(show ansV ((x, 0) : Ans × Nat).1 h6 k6 t6 = Value.agg #[.int .i64 x.exc, .slice h6.1 h6.2.1 h6.2.2, .slice k6.1 k6.2.1 k6.2.2, .slice t6.1 t6.2.1 t6.2.2] from rfl)]
          have hbe6 := hbe5.trans (hs6.mono hz5)
          have hb6 := hb5.below hs6 (Nat.le_refl _)
          have hp6 := hp5.below hs6 (Nat.le_refl _)
          have ha6 := ha5.below hs6
          have hi6 := hi5.below hs6
          have hx6 := row_later hx5 hs6
          have hy6 := row_later hy5 hs6
          have hz6 := hbe6.size
          clear hbe5 hs6 hz5 hx5 hy5 hb5 hp5 ha5 hi5 hqx0 hqx1 hqx2 hqx3 hqx4 hqx5 hqx6 hqx7 hltx
          obtain ⟨hqy0, hqy1, hqy2, hqy3⟩ := row_quad hy6
          have hlty := row_lt hy6
          go_wp2_with fail
          have hf7 := row_at w6 #[.int .i64 x.exc, .slice h6.1 h6.2.1 h6.2.2, .slice k6.1 k6.2.1 k6.2.2, .slice t6.1 t6.2.1 t6.2.2] 29 _ rfl
          have hs7 : Below w6.heap.size w6 (w6.alloc (.cells #[.int .i64 x.exc, .slice h6.1 h6.2.1 h6.2.2, .slice k6.1 k6.2.1 k6.2.2, .slice t6.1 t6.2.1 t6.2.2] 29)) := (Below.refl _ _).alloc (Nat.le_refl _) _
          obtain ⟨gf, hgf⟩ : ∃ g, w6.heap.size = g := ⟨_, rfl⟩
          have hszf : (w6.alloc (.cells #[.int .i64 x.exc, .slice h6.1 h6.2.1 h6.2.2, .slice k6.1 k6.2.1 k6.2.2, .slice t6.1 t6.2.1 t6.2.2] 29)).heap.size = gf + 1 := by simp [hgf]
          generalize w6.alloc (.cells #[.int .i64 x.exc, .slice h6.1 h6.2.1 h6.2.2, .slice k6.1 k6.2.1 k6.2.2, .slice t6.1 t6.2.1 t6.2.2] 29) = w7 at *
          have hbe7 := hbe6.trans (hs7.mono hz6)
          have hb7 := hb6.below hs7 (Nat.le_refl _)
          have hp7 := hp6.below hs7 (Nat.le_refl _)
          have ha7 := ha6.below hs7
          have hi7 := hi6.below hs7
          have hu7 := hu6.below hs7
          have hx7 := row_later hx6 hs7
          have hy7 := row_later hy6 hs7
          have hz7 := hbe7.size
          clear hbe6 hs7 hz6 hx6 hy6 hb6 hp6 ha6 hi6 hu6 hqy0 hqy1 hqy2 hqy3 hlty
          rw [hgf] at *
          clear hgf
          refine (same7_any x x hx kx tx h6 k6 t6 _ hi7 hu7).mono ?_
          rintro e w8 ⟨rfl, hs8⟩
          rw [An.same_self]
          have hbe8 := hbe7.trans (hs8.mono hz7)
          have hb8 := hb7.below hs8 (Nat.le_refl _)
          have hp8 := hp7.below hs8 (Nat.le_refl _)
          have ha8 := ha7.below hs8
          have hi8 := hi7.below hs8
          have hu8 := hu7.below hs8
          have hx8 := row_later hx7 hs8
          have hy8 := row_later hy7 hs8
          have hf8 := row_later hf7 hs8
          have hz8 := hbe8.size
          clear hbe7 hs8 hz7 hx7 hy7 hf7 hb7 hp7 ha7 hi7 hu7
          clear hf8 hu8 hp8 hy8
          have hm1 : ¬ (253 : Int) < (n4 : Int) := by omega
          have hm2 : ¬ (n4 : Int) < 2 := by omega
          obtain ⟨hqx0, hqx1, hqx2, hqx3, hqx4, hqx5, hqx6, hqx7⟩ := row_eight hx8
          have hltx := row_lt hx8
          go_wp2_with fail
          refine (read7_any a h k B n c b HN.out hnc hcm _ ha8 hb8).mono ?_
          rintro e w9 hpp9
          rw [HY.out] at hpp9
          obtain ⟨h9, k9, t9, rfl, hu9, hs9⟩ := hpp9
          dsimp only at hu9
          rw [(show ansV ((y, j) : Ans × Nat).1 h9 k9 t9 = ansV y h9 k9 t9 from rfl), (show (((y, j) : Ans × Nat).2 : Int) = (j : Int) from rfl)]
          have hbe9 := hbe8.trans (hs9.mono hz8)
          have hb9 := hb8.below hs9 (Nat.le_refl _)
          have ha9 := ha8.below hs9
          have hi9 := hi8.below hs9
          have hx9 := row_later hx8 hs9
          have hz9 := hbe9.size
          clear hbe8 hs9 hz8 hx8 hb8 ha8 hi8 hqx0 hqx1 hqx2 hqx3 hqx4 hqx5 hqx6 hqx7 hltx
          rcases HPB.out with ⟨hj0, hr, ht⟩ | ⟨hj0, hz⟩
          · subst hj0
            have HT := Lib.hid ht
            have HR := Lib.hid hr
            clear hr ht
            have hjj : (((0 : Nat) : Int) != 0) = false := rfl
            have hfew : t9.2.1 ≤ 1000000 := by have h1 := hu9.tn; have h2 : y.texts.length ≤ 256 := (by have hs := An.shape HR.out; cases hs with | texts l hc h0 hs h1 h2 => dsimp only; have h3 := (Ak.formed_parts (An.ak_right (An.right_parts HR.out).1).1).2.2.2.2.2.2.1; omega | _ => simp); omega
            rw [(show ansV y h9 k9 t9 = Value.agg #[.int .i64 y.exc, .slice h9.1 h9.2.1 h9.2.2, .slice k9.1 k9.2.1 k9.2.2, .slice t9.1 t9.2.1 t9.2.2] from rfl)]
            obtain ⟨hqx0, hqx1, hqx2, hqx3, hqx4, hqx5, hqx6, hqx7⟩ := row_eight hx9
            have hltx := row_lt hx9
            go_wp2_with fail
            have hq10 := row_at w9 #[.int .i64 y.exc, .slice h9.1 h9.2.1 h9.2.2, .slice k9.1 k9.2.1 k9.2.2, .slice t9.1 t9.2.1 t9.2.2] 29 _ rfl
            have hs10 : Below w9.heap.size w9 (w9.alloc (.cells #[.int .i64 y.exc, .slice h9.1 h9.2.1 h9.2.2, .slice k9.1 k9.2.1 k9.2.2, .slice t9.1 t9.2.1 t9.2.2] 29)) := (Below.refl _ _).alloc (Nat.le_refl _) _
            obtain ⟨gq, hgq⟩ : ∃ g, w9.heap.size = g := ⟨_, rfl⟩
            have hszq : (w9.alloc (.cells #[.int .i64 y.exc, .slice h9.1 h9.2.1 h9.2.2, .slice k9.1 k9.2.1 k9.2.2, .slice t9.1 t9.2.1 t9.2.2] 29)).heap.size = gq + 1 := by simp [hgq]
            generalize w9.alloc (.cells #[.int .i64 y.exc, .slice h9.1 h9.2.1 h9.2.2, .slice k9.1 k9.2.1 k9.2.2, .slice t9.1 t9.2.1 t9.2.2] 29) = w10 at *
            have hbe10 := hbe9.trans (hs10.mono hz9)
            have hb10 := hb9.below hs10 (Nat.le_refl _)
            have ha10 := ha9.below hs10
            have hi10 := hi9.below hs10
            have hu10 := hu9.below hs10
            have hx10 := row_later hx9 hs10
            have hz10 := hbe10.size
            clear hbe9 hs10 hz9 hx9 hb9 ha9 hi9 hu9 hqx0 hqx1 hqx2 hqx3 hqx4 hqx5 hqx6 hqx7 hltx
            rw [hgq] at *
            clear hgq
            refine (bytes7_any a y h k h9 k9 t9 _ ha10 hu10 hfew).mono ?_
            rintro e w11 hp11
            obtain ⟨A11, n11, c11, rfl, hn11, hnc11, hcm11, hp11, hs11⟩ := hp11
            rw [HCE.out HR.out]
            rw [HBE.out HR.out, HT.out] at hn11 hp11
            have HN11 := Lib.hid hn11
            clear hn11
            have hbe11 := hbe10.trans (hs11.mono hz10)
            have hb11 := hb10.below hs11 (Nat.le_refl _)
            have ha11 := ha10.below hs11
            have hi11 := hi10.below hs11
            have hu11 := hu10.below hs11
            have hx11 := row_later hx10 hs11
            have hq11 := row_later hq10 hs11
            have hz11 := hbe11.size
            clear hbe10 hs11 hz10 hx10 hq10 hb10 ha10 hi10 hu10
            go_wp2_with fail
            refine (rsame8_any A11 B n11 n c11 c _ _ HN11.out HN.out (by have h1 := HN11.out; have h2 := HN.out; omega) _ hp11 hb11).mono ?_
            rintro e w12 ⟨rfl, q12, rfl⟩
            have hs12 : Below w11.heap.size w11 (w11.drewN q12) := drewN_below (Below.refl _ _) _
            generalize w11.drewN q12 = w12 at *
            rw [beq_self_eq_true]
            have hbe12 := hbe11.trans (hs12.mono hz11)
            have hb12 := hb11.below hs12 (Nat.le_refl _)
            have hp12 := hp11.below hs12 (Nat.le_refl _)
            have ha12 := ha11.below hs12
            have hi12 := hi11.below hs12
            have hu12 := hu11.below hs12
            have hx12 := row_later hx11 hs12
            have hq12 := row_later hq11 hs12
            have hz12 := hbe12.size
            clear hbe11 hs12 hz11 hx11 hq11 hb11 hp11 ha11 hi11 hu11
            go_wp2_with fail
            go_ret
            exact ⟨rfl, hbe12⟩
          · have hjn : ((j : Int) != 0) = true := by rw [bne_iff_ne]; omega
            subst hz
            have hk0 : k9.2.1 = 0 := by have h1 := hu9.kn; have h2 : (0 : Nat) = k9.2.1 := h1; omega
            rw [(show ansV An.zero h9 k9 t9 = Value.agg #[.int .i64 0, .slice h9.1 h9.2.1 h9.2.2, .slice k9.1 k9.2.1 k9.2.2, .slice t9.1 t9.2.1 t9.2.2] from rfl), hk0]
            clear hk0
            go_wp2_with fail
            go_ret
            exact ⟨rfl, hbe9.alloc hz9 _⟩
#print axioms back7_law_any
end Go.Proofs.YtcbkbdoaaaofjaaGreat
